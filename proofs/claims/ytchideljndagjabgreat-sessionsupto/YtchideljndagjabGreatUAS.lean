/- Joined -/
import Derived.Test.YtchideljndagjabGreatUAR
set_option linter.unusedVariables false
set_option maxHeartbeats 2000000
set_option maxRecDepth 100000
namespace Go.Proofs.YtchideljndagjabGreat
open aq aO aB bb eH
open Go.Value renaming int->Z,slice->U,bool->ak,pointer->aC,agg->aD
open Go.IntKind renaming i64->J
open Go.Obj renaming cells->ah
open Go.Ending renaming returned->az
open Option renaming none->V,some->E
open Bool renaming false->Y,true->aa
open Go renaming World->ac,Value->ag,Calls->ay,TypeId->cn
open Go.RowKit renaming Below->af,intOf->aA
abbrev rz:=@of_decide_eq_true
abbrev jt:=@Proofs.Tryz.underlying41
open Go.Proofs.Tryz
open Go.ChangeShapes Go.WideShapes Go.ChangeAt Go.RowKit
variable {ps:List (Int×Int)}{xs:List Int}{S:SS}
def eQ (w:ac)(b:Nat)(T:cn)(f:Nat->ag):Prop:=w.1[b]?=E (ah (v13 f).toArray T (0,0))
section
variable {w w':ac}{b:Nat}{T:cn}{f g:Nat->ag}
theorem eQ.lt (h:eQ w b T f):b<w.1.size:=by by_cases hb:b<w.1.size;exact hb;unfold eQ at h;rw[cT (by omega)]at h;cases h
theorem eQ.cell (h:eQ w b T f)(v)(hv:v<13):w.cell? ⟨b,v,V⟩=E (f v):=by rw[bg w b v _ T (0,0) h];simp only[List.getElem?_toArray];exact sN f v hv
theorem eQ.bF (h:eQ w b T f)(v):w.frozen? ⟨b,v,V⟩=Y:=eh w b v _ T h
theorem eQ.set (h:eQ w b T f)(v)(hv:v<13)(x):eQ (w.setCell ⟨b,v,V⟩ x) b T (jo f v x):=by have:=bI w b v _ T x h;rw[mv,Ut f v hv x]at this;exact this
theorem eQ.block (h:eQ w b T f)(e:w'.1[b]?=w.1[b]?):eQ w' b T f:=e.trans h
theorem eQ.below{B}(h:eQ w b T f)(hb:af B w w')(hB:b<B):eQ w' b T f:=h.block (hb.block b hB)
theorem eQ.ext (h:eQ w b T f)(e:∀v,v<13->f v=g v):eQ w b T g:=by unfold eQ at h ⊢;rw[<-Us e];exact h
theorem eQ.range (h:eQ w b T f):w.rangeAt b 0 (v13 f):=by intro j v hv;rw[cz,bg w b j _ _ (0,0) h];simpa using hv
end
theorem LL (f w):(Instr.index 103 (aD (v13 f).toArray) (Z J ((0:Nat):Int))).run prog w=.ok (f 0) w:=by kernel_rfl
theorem LM (f w):(Instr.index 103 (aD (v13 f).toArray) (Z J ((1:Nat):Int))).run prog w=.ok (f 1) w:=by kernel_rfl
theorem LQ (f w):(Instr.index 103 (aD (v13 f).toArray) (Z J ((2:Nat):Int))).run prog w=.ok (f 2) w:=by kernel_rfl
theorem LR (f w):(Instr.index 103 (aD (v13 f).toArray) (Z J ((3:Nat):Int))).run prog w=.ok (f 3) w:=by kernel_rfl
theorem LS (f w):(Instr.index 103 (aD (v13 f).toArray) (Z J ((4:Nat):Int))).run prog w=.ok (f 4) w:=by kernel_rfl
theorem LU (f w):(Instr.index 103 (aD (v13 f).toArray) (Z J ((5:Nat):Int))).run prog w=.ok (f 5) w:=by kernel_rfl
theorem LV (f w):(Instr.index 103 (aD (v13 f).toArray) (Z J ((6:Nat):Int))).run prog w=.ok (f 6) w:=by kernel_rfl
theorem LW (f w):(Instr.index 103 (aD (v13 f).toArray) (Z J ((7:Nat):Int))).run prog w=.ok (f 7) w:=by kernel_rfl
theorem LX (f w):(Instr.index 103 (aD (v13 f).toArray) (Z J ((8:Nat):Int))).run prog w=.ok (f 8) w:=by kernel_rfl
theorem LY (f w):(Instr.index 103 (aD (v13 f).toArray) (Z J ((9:Nat):Int))).run prog w=.ok (f 9) w:=by kernel_rfl
theorem LN (f w):(Instr.index 103 (aD (v13 f).toArray) (Z J ((10:Nat):Int))).run prog w=.ok (f 10) w:=by kernel_rfl
theorem LO (f w):(Instr.index 103 (aD (v13 f).toArray) (Z J ((11:Nat):Int))).run prog w=.ok (f 11) w:=by kernel_rfl
theorem LP (f w):(Instr.index 103 (aD (v13 f).toArray) (Z J ((12:Nat):Int))).run prog w=.ok (f 12) w:=by kernel_rfl
theorem CX (f)(k:Nat)(hk:k<13)(w):(Instr.index 103 (aD (v13 f).toArray) (Z J (k:Int))).run prog w=.ok (f k) w:=by rcases sL hk with rfl|rfl|rfl|rfl|rfl|rfl|rfl|rfl|rfl|rfl|rfl|rfl|rfl;exact LL f w;exact LM f w;exact LQ f w;exact LR f w;exact LS f w;exact LU f w;exact LV f w;exact LW f w;exact LX f w;exact LY f w;exact LN f w;exact LO f w;exact LP f w
theorem Jw (Y O y2 y3 w):(Instr.field 147 (aD #[Y,O,y2,y3]) 1).run prog w=.ok O w:=by kernel_rfl
theorem Ch (Y y1 O y3 w):(Instr.field 147 (aD #[Y,y1,O,y3]) 2).run prog w=.ok O w:=by kernel_rfl
theorem aR.Bn{w b}(h:aR w b S):w.rangeAt b 32 (v13 S.it):=h.Ef.range
theorem CV (f:Nat->Int):∀v∈v13 (λu=>Z J (f u)),v.oneCell'=aa:=q_ (P:=λv=>v.oneCell'=aa) (λv _=>rfl)
theorem Ns{b}(L:Nat->List aq.It){w}(h:aR w b S)(hL:∀v,v<13->aX w (S.it v) (L v)):
  ay prog 251 #[aC (E ⟨b,0,V⟩)] w λe w'=>e=az (aD (v13 λu:Nat=>Z J (aL (L u) u).2.2.1).toArray)/\af w.1.size w w':=by
 have BW:af w.1.size w ((w.alloc (ah (v13 λ_=>Z J 0).toArray 104)).alloc (ah (v13 λ_=>Z J 0).toArray 104)):=((ax _ _).alloc (aw _) _).alloc (by simp) _;have aa:=I (h.below BW).Bn;have BB:=I BW;have HA:=I (my w (ah (v13 λ_=>Z J 0).toArray 104) (ah (v13 λ_=>Z J 0).toArray 104));have am:=I (jN w (ah (v13 λ_=>Z J 0).toArray 104) (ah (v13 λ_=>Z J 0).toArray 104));have LX:=I (ra S.it);have ap:=I (CX S.it);have aS:=I (λ(k:Nat) (hk:k<13)=>tT (hL k hk));have aP:=I (λ(w1:ac) (k:Nat) (hk:k<13) (hb:af w.1.size w w1)=>ug (k:Int) ((hL k hk).below hb));clear h hL BW;generalize S.it=it at*;obtain⟨CS,aI⟩:=aj (v13 it);rw[<-aI]at aa LX ap;clear aI;have aT:=A ((prog.info? 103).map (·.size)=E CS.length) (by rw[zL,LX.o]);obtain⟨W,hW⟩:=aj ((w.alloc (ah #[Z J 0,Z J 0,Z J 0,Z J 0,Z J 0,Z J 0,Z J 0,Z J 0,Z J 0,Z J 0,Z J 0,Z J 0,Z J 0] 104)).alloc (ah #[Z J 0,Z J 0,Z J 0,Z J 0,Z J 0,Z J 0,Z J 0,Z J 0,Z J 0,Z J 0,Z J 0,Z J 0,Z J 0] 104));change cO (World.rangeAt ((w.alloc (ah #[Z J 0,Z J 0,Z J 0,Z J 0,Z J 0,Z J 0,Z J 0,Z J 0,Z J 0,Z J 0,Z J 0,Z J 0,Z J 0] 104)).alloc (ah #[Z J 0,Z J 0,Z J 0,Z J 0,Z J 0,Z J 0,Z J 0,Z J 0,Z J 0,Z J 0,Z J 0,Z J 0,Z J 0] 104)) b 32 CS)at aa;have aM:=A (af w.1.size w W) (by rw[hW];exact BB.o);have VA:=A (eQ W w.1.size 104 (λ_=>Z J 0)) (by rw[hW];exact HA.o);have VB:=A (eQ W (w.1.size+1) 104 (λ_=>Z J 0)) (by rw[hW];exact am.o);rw[<-hW]at aa;have HW:=I hW;clear hW BB HA am;go_enter func251,ntmps251;go_upto_region 2 with fail;rw[<-HW.o];go_wp2_with(refine eM rfl 103 _ rfl b 32 rfl CS _ aa.o underlying103 rfl aT.o ?_);go_loopw [10] (λi wr=>∃k:Nat,k<=13/\i=Z J k/\eQ wr (w.1.size+1) 104 (λu:Nat=>if u<k then Z J (aL (L u) u).2.2.1 else Z J 0)/\eQ wr w.1.size 104 (λ_=>Z J 0)/\af w.1.size w wr) (λi _=>13-(aA i).toNat);case atStart=>exact⟨0,by omega,rfl,VB.o.ext (λv _=>by simp),VA.o,aM.o⟩
 obtain⟨k,hk,rfl,ak,aK,aJ⟩:=hrel;have ag:=I ak;have ae:=I aK;have HB:=I aJ;have hs1:=ak.lt;clear ak aK aJ;by_cases hlt:k<13
 ·have aZ:(k:Int)<13:=by omega
  have aW:=ap.o k hlt;have CI:=I (aP.o wr k hlt HB.o);obtain⟨fa,fn,fc,hf⟩:=aS.o k hlt;rw[hf]at aW CI;clear hf;unfold qC at CI;obtain⟨y0,y1,O,y3,hy⟩:∃y0 y1 O y3,aL (L k) (k:Int)=(y0,y1,O,y3):=⟨_,_,_,_,rfl⟩;rw[hy]at CI;have HY:=A ((aL (L k) (k:Int)).2.2.1=O) (by rw[hy]);clear hy;go_wp2_with fail;refine aH CI.o λw1 hb1=>?_;have z0:=(ag.o.below hb1 hs1).cell k hlt;have zf:=(ag.o.below hb1 hs1).bF k
  have aV:=I (show eQ (w1.setCell ⟨w.1.size+1,k,V⟩ (Z J O)) (w.1.size+1) 104 (λu:Nat=>if u<k+1 then Z J (aL (L u) u).2.2.1 else Z J 0)from
   ((ag.o.below hb1 hs1).set k hlt (Z J O)).ext (λv hv=>by
    unfold jo;by_cases e:v=k;·subst e;rw[au rfl,au (by omega),HY.o]
    rw[ar e];by_cases c:v<k;·show(if v<k then _ else _)=_;rw[au c,au (by omega)]
    show(if v<k then _ else _)=_;rw[ar c,ar (by omega)]));have aN:=A (eQ (w1.setCell ⟨w.1.size+1,k,V⟩ (Z J O)) w.1.size 104 (λ_=>Z J 0)) ((ae.o.below hb1 (by omega)).block (fI _ _ _ _ (by simp)));have aO:=I ((HB.o.trans (hb1.mono HB.o.size)).setCell (p:=⟨w.1.size+1,k,V⟩) (by show w.1.size<=w.1.size+1;omega) (Z J O));clear hb1;have aY:=Ch (Z J y0) (Z J y1) (Z J O) (Z J y3) w1;go_wp2;go_roundw;case rel=>exact⟨k+1,by omega,by go_num,aV.o,aN.o,aO.o⟩
  simp[aA];omega
 have ek:k=13:=by omega
 subst ek;have HST:=A (eQ wr (w.1.size+1) 104 (λu:Nat=>Z J (aL (L u) u).2.2.1)) (ag.o.ext (λv hv=>by rw[au hv]));have RG:=I HST.o.range;have LY:=I (ra (λu:Nat=>Z J (aL (L u) u).2.2.1));have av:=I (dN (CV (λu:Nat=>(aL (L u) u).2.2.1)));have aG:=I (show wr.there w.1.size 0 (v13 (λu:Nat=>Z J (aL (L u) u).2.2.1)).toArray.size from λi hi=>by rw[bR,ra]at hi;exact⟨by rw[cz,ae.o.cell i hi];rfl,by rw[cz];exact ae.o.bF i⟩);have aB:=I (show(wr.setCells w.1.size 0 (v13 (λu:Nat=>Z J (aL (L u) u).2.2.1))).1[w.1.size]? =E (ah (v13 (λu:Nat=>Z J (aL (L u) u).2.2.1)).toArray 104 (0,0))by have:=kI w.1.size 104 (v13 (λu:Nat=>Z J (aL (L u) u).2.2.1)) [] (v13 λ_=>Z J 0) [] wr rfl (by rw[ew];exact ae.o);rw[ew]at this;exact this);have BF:=A (af w.1.size w (wr.setCells w.1.size 0 (v13 (λu:Nat=>Z J (aL (L u) u).2.2.1)))) (dU (aw _) _ _ _ HB.o);obtain⟨Y,ai⟩:=aj (v13 (λu:Nat=>Z J (aL (L u) u).2.2.1));rw[<-ai]at RG LY av aG aB BF;have aQ:=I ai;clear ai;have aF:=A ((prog.info? 104).map (·.size)=E Y.toArray.size) (by rw[zN,bR,LY.o]);have aU:=A ((prog.info? 104).map (·.size)=E Y.length) (by rw[zN,LY.o]);go_wp2_with(first|refine eM rfl 104 _ rfl (w.1.size+1) 0 rfl Y _ RG.o underlying104 rfl aU.o ?_|refine cB rfl 104 _ _ rfl w.1.size 0 Y.toArray rfl rfl aG.o aF.o av.o ?_);refine cQ (ic rfl _ _ w.1.size 104 Y.toArray (0,0) _ rfl aB.o underlying104 rfl aF.o) rfl ?_;exact⟨by rw[aQ.o],BF.o⟩
def mB (L:Nat->List aq.It)(i n:Nat):Int:=((List.range n).map λv=>(aL (L v) ((i:Int)+1)).2.1).sum
theorem Bd (L i n):mB L i (n+1)=mB L i n+(aL (L n) ((i:Int)+1)).2.1:=by unfold mB;rw[mm,cF,zY];simp
theorem Bc (L)(hw:∀(v:Nat)(x:Int),0<=(aL (L v) x).2.1/\(aL (L v) x).2.1<4294967296)(i):∀n,0<=mB L i n/\mB L i n<=4294967296*n
 |0=>by simp[mB]
 |n+1=>by have h1:=Bc L hw i n;have h2:=hw n ((i:Int)+1);rw[Bd];omega
def pG (L:Nat->List aq.It)(n:Nat):List Int:=(List.range n).map λi=>mB L i 13%4294967296
theorem TG (L n):pG L (n+1)=pG L n++[mB L n 13%4294967296]:=by unfold pG;rw[mm,cF];rfl
theorem Nv{b}(L)(M:Nat){w}(h:aR w b S)(hL:∀v,v<13->aX w (S.it v) (L v))(hm:S.m=(M:Int))(hM:M<=12)(hw:∀(v:Nat)(x:Int),0<=(aL (L v) x).2.1/\(aL (L v) x).2.1<4294967296):
  ay prog 252 #[aC (E ⟨b,0,V⟩)] w λe w'=>∃va,e=az va/\w'.ownsRow w.1.size 3 1 va M ((pG L M).map (Value.int J))/\af w.1.size w w':=by
 obtain⟨i0,hi,hz0,hz1,hz2⟩:=bO yE;have aG:=bj w λw1 hb=>(show w1.cell? ⟨b,2,V⟩=E (Z J (M:Int))by rw[<-hm];exact(h.below hb).m);have ar:=bj w λw1 hb=>(h.below hb).Bn;have LX:=I (ra S.it);have ap:=I (CX S.it);have aJ:=I (λ(k:Nat)(hk:k<13)=>tT (hL k hk));have aI:=I (λ(w1:ac)(k:Nat)(x:Int)(hk:k<13)(hb:af w.1.size w w1)=>ug x ((hL k hk).below hb));have aN:=I hw;have aF:=I (Bc L hw);clear h hL hw hm;generalize S.it=it at*;obtain⟨CS,aB⟩:=aj (v13 it);rw[<-aB]at ar LX ap;clear aB;have aM:=A ((prog.info? 103).map (·.size)=E CS.length) (by rw[zL,LX.o]);go_enter func252,ntmps252;go_wp2;go_loopw [3,4] (λro i wr=>∃k:Nat,k<=M/\i=Z J ((k:Int)+1)/\wr.ownsRow w.1.size 3 1 ro k ((pG L k).map (Value.int J))/\af w.1.size w wr) (λ_ i _=>M+1-(aA i).toNat);case atStart=>exact⟨0,by omega,rfl,dp _ _ _ _,ax _ _⟩
 obtain⟨k,hk,rfl,hown,O⟩:=hrel;have HO:=I hown;have HB:=I O;obtain⟨a3,c3,hv3⟩:=a_ hown;subst hv3;have c2:=aG.o wr O;have RG:=I (ar.o wr O);clear hown O;by_cases hlt:k<M
 ·have hle:(k:Int)+1<=(M:Int):=by omega
  go_wp2_with(refine eM rfl 103 _ rfl b 32 rfl CS _ RG.o underlying103 rfl aM.o ?_);go_loopw [5,21] (λx j wq=>∃m:Nat,m<=13/\j=Z J (m:Int)/\x=Z J (mB L k m)/\wq.ownsRow w.1.size 3 1 (U a3 k c3) k ((pG L k).map (Value.int J))/\af w.1.size w wq) (λ_ j _=>13-(aA j).toNat);case atStart=>exact⟨0,by omega,rfl,rfl,HO.o,HB.o⟩
  obtain⟨m,hm,rfl,rfl,hown,O⟩:=hrel;have ag:=I hown;have aa:=I O;have aQ:=O.size;clear hown O;obtain⟨aw,ah⟩:=aF.o k m;have ae:=I (Bd L k m);by_cases ai:m<13
  ·have aU:(m:Int)<13:=by omega
   have aP:=ap.o m ai;have CI:=I (aI.o _ m ((k:Int)+1) ai aa.o);obtain⟨fa,fn,fc,hf⟩:=aJ.o m ai;rw[hf]at aP CI;clear hf;unfold qC at CI;obtain⟨ak,am⟩:=aN.o m ((k:Int)+1);obtain⟨y0,Y,y2,y3,hy⟩:∃y0 Y y2 y3,aL (L m) ((k:Int)+1)=(y0,Y,y2,y3):=⟨_,_,_,_,rfl⟩;rw[hy]at CI ak am ae;clear hy;obtain⟨t,ht⟩:=aj (mB L k m);rw[<-ht]at aw ah ae ⊢;clear ht;have aV:0<=Y:=ak;have aW:Y<4294967296:=am;clear ak am;go_wp2_with fail;refine aH CI.o λw1 hb1=>?_;have B2:=I (aa.o.trans (hb1.mono aa.o.size));have O2:=I (bf (S:=λ_=>False) ag.o (av.bz hb1) (λ_ _ h=>h));clear hb1;have aT:=Jw (Z J y0) (Z J Y) (Z J y2) (Z J y3) w1;go_wp2;go_roundw;case rel=>exact⟨m+1,by omega,by go_num,by rw[ae.o],O2.o,B2.o⟩
   simp[aA];omega
  have em:m=13:=by omega
  subst em;have au:=I (TG L k);obtain⟨t,ht⟩:=aj (mB L k 13);rw[<-ht]at aw ah au ⊢;clear ht ae;have aS:t<=55834574848:=by omega
  clear ah;obtain⟨R,hR⟩:=aj (t%4294967296);have aO:t%4294967296=R:=hR.symm;have aK:=I aO;clear hR;go_wp2_with(at_builtin;refine eF _ rfl _ _ 33 rfl w.1.size 3 i0 (Z J 0) 1 8 gW hi hz0 hz1 hz2 rfl (by decide) _ _ _ rfl (ag.o.alloc _) ⟨wr.1.size,0,V⟩ 1 1 [Z J R] rfl rfl ?c1 ?c2 ?c3 ?c4 ?c5 ?_);case c1=>exact uG _ _ _
  case c2=>intro u hu;simp at hu;subst hu;rfl
  case c3=>unfold maxLen;omega
  case c4=>omega
  case c5=>simp;omega
  intro v' w2 hown' aD _;have hb2:=(aa.o.alloc aQ _).grown aD (by simp;omega) (λx h=>(ag.o.lt x h).1);have B2:=I hb2;have O2:=I (show w2.ownsRow w.1.size 3 1 v' (k+1) ((pG L (k+1)).map (Value.int J))by rw[au.o,cF,aK.o];exact hown');clear hown' aD hb2;go_wp2;go_roundw;case rel=>exact⟨k+1,by omega,by go_num,O2.o,B2.o⟩
  simp[aA];omega
 have ek:k=M:=by omega
 subst ek;go_wp2;go_ret;exact⟨_,rfl,HO.o,HB.o⟩
def lR (w:ac)(v:ag)(ps:List (Int×Int)):Prop:=
 ∃(a:Option Addr)(cap:Nat),v=U a ps.length cap/\ps.length<=cap/\cap<=maxLen/\(∀p∈ps,bq p.1/\bq p.2)/\
  (ps=[]\/∃b off,a=E ⟨b,off,V⟩/\b<w.1.size/\∀i,i<ps.length->w.cell? ⟨b,off+i*2,V⟩=E (Z J (ps.getD i (0,0)).1)/\w.cell? ⟨b,off+i*2+1,V⟩=E (Z J (ps.getD i (0,0)).2))
theorem lR.below{w w' v}(h:lR w v ps)(hb:af w.1.size w w'):lR w' v ps:=by obtain⟨a,cap,h1,h2,h3,h4,h5⟩:=h;refine⟨a,cap,h1,h2,h3,h4,?_⟩;rcases h5 with h5|⟨b,off,e1,e2,e3⟩;exact .inl h5;exact .inr ⟨b,off,e1,cG e2 hb.size,λi hi=>by rw[hb.cell (p:=⟨b,off+i*2,V⟩) e2,hb.cell (p:=⟨b,off+i*2+1,V⟩) e2];exact e3 i hi⟩
theorem ud{w v}(h:lR w v ps):∃(a:Option Addr)(cap:Nat),v=U a ps.length cap/\ps.length<=cap/\cap<=9223372036854775807/\
  ∀k,k<ps.length->∃b off,a=E ⟨b,off,V⟩/\b<w.1.size/\w.cell? ⟨b,off+k*2,V⟩=E (Z J (ps.getD k (0,0)).1)/\w.cell? ⟨b,off+k*2+1,V⟩=E (Z J (ps.getD k (0,0)).2):=by obtain⟨a,cap,h1,h2,h3,h4,h5⟩:=h;refine⟨a,cap,h1,h2,by unfold maxLen at h3;omega,λk hk=>?_⟩;rcases h5 with h5|⟨b,off,e,hb,hc⟩;rw[h5]at hk;simp at hk;exact⟨b,off,e,hb,hc k hk⟩
theorem wy (ps:List (Int×Int))(k)(hk:k<ps.length):ps.take (k+1)=ps.take k++[ps.getD k (0,0)]:=by rw[gV hk,bG,aQ hk];rfl
def mL (p:Int×Int):Bool:=bE p.1&&aG p.2
def fc (ps:List (Int×Int)):Bool:=decide (1<=ps.length/\ps.length<=12)&&(ps.all mL&&decide (aZ.xs ps).Nodup)
theorem wB (h:fc ps=aa):aZ.good ps/\1<=ps.length/\ps.length<=12/\∀p∈ps,0<=p.2/\p.2<2305843009213693951:=by unfold fc at h;simp only[Bool.and_eq_true,decide_eq_true_iff,List.all_eq_true]at h;obtain⟨⟨h1,h2⟩,h3,h4⟩:=h;refine⟨⟨λk hk=>?_,h4⟩,h1,h2,λp hp=>?_⟩;obtain⟨p,hp,rfl⟩:=cq.1 hk;have:=h3 p hp;unfold mL at this;rw[bS,lY]at this;exact this.1;have:=h3 p hp;unfold mL at this;rw[bS,io]at this;exact this.2
theorem sr (ps k)(hk:k<ps.length)(h:mL (ps.getD k (0,0))=Y):fc ps=Y:=by
 have:ps.all mL=Y:=by rw[kU];refine⟨ps[k],cN hk,?_⟩;rw[bG,aQ hk]at h;simp only[Option.getD_some]at h;rw[h];exact dR
 unfold fc;rw[this];simp
theorem DO (ps k)(hk:k<ps.length)(h:(ps.getD k (0,0)).1∈aZ.xs (ps.take k)):fc ps=Y:=by
 have:¬(aZ.xs ps).Nodup:=by
  intro hn;have e:ps=ps.take k++(ps.getD k (0,0)::ps.drop (k+1)):=by rw[bG,aQ hk,xn,<-xj hk,Va]
  rw[e,aZ.sP]at hn;exact(AD.1 hn).2.2 _ h _ (by simp[aZ.xs]) rfl
 unfold fc;rw[aM this];simp
theorem DR (ps)(h1:1<=ps.length)(h2:ps.length<=12)(h3:ps.all mL=aa)(h4:(aZ.xs ps).Nodup):fc ps=aa:=by unfold fc;rw[aK ⟨h1,h2⟩,h3,aK h4];rfl
def mZ (w:ac)(g:Nat)(T:cn)(xs:List Int):Prop:=
 ∃sb:Array ag,w.1[g]?=E (ah sb T (0,0))/\sb.size=13/\∀x:Int,0<=x->x<=12->sb[x.toNat]?=E (ak (decide (x∈xs)))
theorem mZ.cell{w g T}(h:mZ w g T xs)(x)(h0:0<=x)(h1:x<=12):w.cell? ⟨g,x.toNat,V⟩=E (ak (decide (x∈xs)))/\w.frozen? ⟨g,x.toNat,V⟩=Y:=by obtain⟨sb,e,_,hs⟩:=h;refine⟨?_,by simp[World.frozen?,e]⟩;simp only[World.cell?,e];exact hs x h0 h1
theorem mZ.set{w g T}(h:mZ w g T xs)(x)(h0:0<=x)(h1:x<=12):mZ (w.setCell ⟨g,x.toNat,V⟩ (ak aa)) g T (xs++[x]):=by
 obtain⟨sb,e,hz,hs⟩:=h;refine⟨sb.setIfInBounds x.toNat (ak aa),bI w g x.toNat sb T _ e,by simp[hz],λy O Y=>?_⟩;rw[pP];by_cases e2:x.toNat=y.toNat;have:x=y:=by omega
 subst this;rw[au rfl,au (by omega)];simp;rw[ar e2,hs y O Y];have:y≠x:=by omega
 simp[this]
theorem mZ.alloc{w g T}(h:mZ w g T xs)(hg:g<w.1.size)(o):mZ (w.alloc o) g T xs:=by obtain⟨sb,e,hz,hs⟩:=h;exact⟨sb,by rw[gf _ _ _ hg];exact e,hz,hs⟩
theorem GX{v w}(h:lR w v ps):
  ay prog 266 #[v] w λe w'=>e=az (ak (fc ps))/\af w.1.size w w':=by
 obtain⟨a,cap,rfl,l2,l3,hc⟩:=ud h;have HC:=I hc;clear hc h;by_cases t1:(ps.length:Int)<1;·have H:=A (fc ps=Y) (by unfold fc;rw[aM (by omega)];rfl);go_enter func266,ntmps266;go_wp2;go_ret;exact⟨cg (λx=>Ending.returned (ak x)) H.o.symm,ax _ _⟩
 by_cases t2:12<(ps.length:Int);·have H:=A (fc ps=Y) (by unfold fc;rw[aM (by omega)];rfl);go_enter func266,ntmps266;go_wp2;go_ret;exact⟨cg (λx=>Ending.returned (ak x)) H.o.symm,ax _ _⟩
 generalize hn:ps.length=n at*;have O:=I hn;clear hn;go_enter func266,ntmps266;go_wp2;go_loopw [16] (λi wr=>∃k:Nat,k<=n/\i=Z J k/\mZ wr w.1.size 36 (aZ.xs (ps.take k))/\(ps.take k).all mL=aa/\(aZ.xs (ps.take k)).Nodup/\af w.1.size w wr/\w.1.size<wr.1.size) (λi _=>n-(aA i).toNat);case atStart=>
  refine⟨0,by omega,rfl,⟨_,bo w _,rfl,λx h0 h1=>?_⟩,rfl,List.nodup_nil,(ax _ _).alloc (aw _) _,by simp⟩;have hx:x.toNat<=12:=by omega
  rw[show decide (x∈aZ.xs (ps.take 0))=Y from aM (by simp[aZ.xs])]
  match x.toNat,hx with
  |0,_=>rfl
  |1,_=>rfl
  |2,_=>rfl
  |3,_=>rfl
  |4,_=>rfl
  |5,_=>rfl
  |6,_=>rfl
  |7,_=>rfl
  |8,_=>rfl
  |9,_=>rfl
  |10,_=>rfl
  |11,_=>rfl
  |12,_=>rfl
  |n+13,h=>exact absurd h (by omega)
 obtain⟨k,hk,rfl,ae,hall,ai,ah,hsz⟩:=hrel;have HS:=I ae;have HA:=I hall;have HD:=I ai;have HB:=I ah;clear hall ai;by_cases hlt:k<n
 ·obtain⟨b,off,rfl,hb,c0,c1⟩:=HC.o k hlt;rw[<-ah.cell (p:=⟨b,off+k*2,V⟩) hb]at c0;rw[<-ah.cell (p:=⟨b,off+k*2+1,V⟩) hb]at c1;obtain⟨x,hx⟩:=aj ((ps.getD k (0,0)).1);obtain⟨y,hy⟩:=aj ((ps.getD k (0,0)).2);rw[<-hx]at c0;rw[<-hy]at c1;have HP:=A (ps.getD k (0,0)=(x,y)) (by rw[hx,hy]);clear hx hy ah;cases q1:bE x;·clear ae;have H:=I (sr ps k (by rw[O.o];exact hlt) (by rw[HP.o];show(bE x&&aG y)=Y;rw[q1];rfl));go_wp2_with fail;refine aI (fX _ _) ?_;go_wp2;go_ret;exact⟨cg (λx=>Ending.returned (ak x)) H.o.symm,HB.o.alloc (by omega) _⟩
  cases q2:aG y;·clear ae;have H:=I (sr ps k (by rw[O.o];exact hlt) (by rw[HP.o];show(bE x&&aG y)=Y;rw[q1,q2];rfl));go_wp2_with fail;refine aI (fX _ _) ?_;go_wp2_with fail;refine aI (cX) ?_;go_wp2;go_ret;exact⟨cg (λx=>Ending.returned (ak x)) H.o.symm,HB.o.alloc (by omega) _⟩
  obtain⟨x1,x2⟩:=lY.1 q1;obtain⟨s1,s2⟩:=ae.cell x (by omega) x2;have am:mL (ps.getD k (0,0))=aa:=by rw[HP.o];show(bE x&&aG y)=aa;rw[q1,q2];rfl
  have HK:=I am;clear ae am;cases q3:decide (x∈aZ.xs (ps.take k))
  ·rw[q3]at s1;have HX:=I (of_decide_eq_false q3);clear q3;go_wp2_with fail;refine aI (fX _ _) ?_;go_wp2_with fail;refine aI (cX) ?_;go_wp2;go_roundw;case rel=>
    have e:=wy ps k (by rw[O.o];exact hlt);have ex:aZ.xs (ps.take (k+1))=aZ.xs (ps.take k)++[x]:=by rw[e,aZ.sP,HP.o];rfl
    refine⟨k+1,by omega,by go_num,?_,?_,?_,(HB.o.setCell (p:=⟨w.1.size,x.toNat,V⟩) (aw _) _).alloc (by simp[World.setCell];omega) _,by simp[World.setCell];omega⟩;rw[ex];exact(HS.o.set x (by omega) x2).alloc (by simp[World.setCell];omega) _;rw[e,xi,HA.o,eE,AH,List.all_nil,uy];exact HK.o;rw[ex,AD];refine⟨HD.o,by simp,λu hu z hz e=>?_⟩;simp at hz;subst hz;subst e;exact HX.o hu
   simp[aA];omega
  rw[q3]at s1;have H:=I (DO ps k (by rw[O.o];exact hlt) (by rw[HP.o];exact rz q3));clear q3;go_wp2_with fail;refine aI (fX _ _) ?_;go_wp2_with fail;refine aI (cX) ?_;go_wp2;go_ret;exact⟨cg (λx=>Ending.returned (ak x)) H.o.symm,HB.o.alloc (by omega) _⟩
 have ek:k=n:=by omega
 subst ek;clear ae ah;have et:ps.take k=ps:=kt (by rw[O.o];exact aw _);have H:=I (DR ps (by rw[O.o];omega) (by rw[O.o];omega) (by have:=HA.o;rw[et]at this;exact this) (by have:=HD.o;rw[et]at this;exact this));clear et;go_wp2;go_ret;exact⟨cg (λx=>Ending.returned (ak x)) H.o.symm,HB.o⟩
theorem Gw (X)(k:Nat)(x c):(if c=x then aZ.ab X x%2305843009213693951 else bc (aZ.ab X x%2305843009213693951) c)=aZ.ab (X++[c]) x%2305843009213693951:=by
 rw[aZ.A'];by_cases e:c=x;·rw[au e,au e,rj]
 rw[ar e,ar e];unfold bc;rw[fH,mi,<-fH]
theorem Hg (X)(k:Nat)(x c):(if c=x then aZ.be X x%2305843009213693951 else bc (aZ.be X x%2305843009213693951) (dA c x))=aZ.be (X++[c]) x%2305843009213693951:=by
 rw[aZ.Bq];by_cases e:c=x;·rw[au e,au e,rj]
 rw[ar e,ar e];unfold bc dA;rw[fH,mi,show(c-x+2305843009213693951)%2305843009213693951=(c-x)%2305843009213693951 by omega,mi,<-fH]
theorem Li{a w}(ha:0<=a)(ha':a<2305843009213693951):
  ay prog 295 #[Z J a] w λe w'=>e=az (Z J (eH.inv a))/\w'=w:=by go_enter func295,ntmps295;go_wp2_with fail;refine aI (sj _ _ _ ha ha' (by omega)) ?_;go_wp2;go_ret;exact⟨rfl,rfl⟩
theorem UL{v}(ps){x w}(h:lR w v ps)(hg:∀k∈aZ.xs ps,aZ.small k)(hx:aZ.small x):
  ay prog 267 #[v,Z J x] w λe w'=>e=az (Z J (aZ.wt (aZ.xs ps) x))/\af w.1.size w w':=by
 obtain⟨a,cap,rfl,l2,l3,hc⟩:=ud h;have HC:=I hc;have HG:=I hg;obtain⟨x1,x2⟩:=hx;clear hc h hg;generalize hn:ps.length=n at*;have HN:=I hn;clear hn;go_enter func267,ntmps267;go_wp2;go_loopw [5,6,12] (λu d i wr=>∃k:Nat,k<=n/\i=Z J k/\u=Z J (aZ.ab (aZ.xs (ps.take k)) x%2305843009213693951)/\d=Z J (aZ.be (aZ.xs (ps.take k)) x%2305843009213693951)/\af w.1.size w wr) (λ_ _ i _=>n-(aA i).toNat);case atStart=>exact⟨0,by omega,rfl,rfl,rfl,ax _ _⟩
 obtain⟨k,hk,rfl,rfl,rfl,O⟩:=hrel;have HB:=I O;have hsz:=O.size;have A1:0<=aZ.ab (aZ.xs (ps.take k)) x%2305843009213693951:=by omega
 have A2:aZ.ab (aZ.xs (ps.take k)) x%2305843009213693951<2305843009213693951:=by omega
 have D1:0<=aZ.be (aZ.xs (ps.take k)) x%2305843009213693951:=by omega
 have D2:aZ.be (aZ.xs (ps.take k)) x%2305843009213693951<2305843009213693951:=by omega
 by_cases hlt:k<n
 ·obtain⟨b,off,rfl,hb,c0,c1⟩:=HC.o k hlt;rw[<-O.cell (p:=⟨b,off+k*2,V⟩) hb]at c0;rw[<-O.cell (p:=⟨b,off+k*2+1,V⟩) hb]at c1;obtain⟨c,ae⟩:=aj ((ps.getD k (0,0)).1);obtain⟨y,hy⟩:=aj ((ps.getD k (0,0)).2);have hcs:aZ.small c:=HG.o c (by rw[ae,bG,aQ (by rw[HN.o];exact hlt)];exact cq.2 ⟨_,cN _,rfl⟩);obtain⟨s1,s2⟩:=hcs;have ex:aZ.xs (ps.take (k+1))=aZ.xs (ps.take k)++[c]:=by rw[wy ps k (by rw[HN.o];exact hlt),aZ.sP,ae];rfl
  have EA:=I (Gw (aZ.xs (ps.take k)) k x c);have EB:=I (Hg (aZ.xs (ps.take k)) k x c);have EX:=I ex;rw[<-ae]at c0;rw[<-hy]at c1;clear ae hy O ex;generalize aZ.ab (aZ.xs (ps.take k)) x%2305843009213693951=ah at*;generalize aZ.be (aZ.xs (ps.take k)) x%2305843009213693951=D at*;by_cases e:c=x
  ·have et:(c != x)=Y:=by simp[e]
   have H1:=A (ah=aZ.ab (aZ.xs (ps.take (k+1))) x%2305843009213693951) (by rw[EX.o,<-EA.o,au e]);have H2:=A (D=aZ.be (aZ.xs (ps.take (k+1))) x%2305843009213693951) (by rw[EX.o,<-EB.o,au e]);clear e;go_wp2;go_roundw;case rel=>exact⟨k+1,by omega,by go_num,by rw[<-H1.o],by rw[<-H2.o],HB.o.alloc hsz _⟩
   simp[aA];omega
  have et:(c != x)=aa:=by simp[e]
  have H1:=A (bc ah c=aZ.ab (aZ.xs (ps.take (k+1))) x%2305843009213693951) (by rw[EX.o,<-EA.o,ar e]);have H2:=A (bc D (dA c x)=aZ.be (aZ.xs (ps.take (k+1))) x%2305843009213693951) (by rw[EX.o,<-EB.o,ar e]);clear e;go_wp2_with fail;refine aI (yT (by omega) (by omega) (by omega) (by omega)) ?_;go_wp2_with fail;refine aI (lJ A1 A2 (by omega) (by omega)) ?_;go_wp2_with fail;refine aI (lJ D1 D2 (zX _ _) (uq _ _)) ?_;go_wp2;go_roundw;case rel=>exact⟨k+1,by omega,by go_num,by rw[<-H1.o],by rw[<-H2.o],HB.o.alloc hsz _⟩
  simp[aA];omega
 have ek:k=n:=by omega
 subst ek;have et:ps.take k=ps:=kt (by rw[HN.o];exact aw _);have H:=A (bc (aZ.ab (aZ.xs (ps.take k)) x%2305843009213693951) (eH.inv (aZ.be (aZ.xs (ps.take k)) x%2305843009213693951))=aZ.wt (aZ.xs ps) x) (by rw[et];rfl);clear et O;generalize aZ.ab (aZ.xs (ps.take k)) x%2305843009213693951=ah at*;generalize aZ.be (aZ.xs (ps.take k)) x%2305843009213693951=D at*;go_wp2_with fail;refine aI (Li D1 D2) ?_;go_wp2_with fail;refine aI (lJ A1 A2 (yI _) (yH _)) ?_;go_wp2;go_ret;exact⟨cg (λx=>Ending.returned (Z J x)) H.o,HB.o⟩
theorem TF (f l p):bA (aZ.sm f l%2305843009213693951) (bc p.2 (f p.1))=aZ.sm f (l++[p])%2305843009213693951:=by rw[aZ.zP];show _=(aZ.sm f l+(p.2*f p.1+0))%_;unfold bA bc;omega
theorem Mm{v w}(h:lR w v ps)(hb:fc ps=aa):
  ay prog 213 #[v] w λe w'=>e=az (.tuple #[Z J (aZ.dG ps),Z J 0])/\af w.1.size w w':=by
 have HP:=I h;obtain⟨am,n1,n2,ak⟩:=wB hb;obtain⟨a,cap,hv,l2,l3,hc⟩:=ud h;rw[hv]at HP ⊢;have HC:=I hc;have HG:=I am;have HE:=I ak;have ar:=I hb;clear hc h am ak hb hv;generalize hn:ps.length=n at*;have HN:=I hn;clear hn;go_enter func213,ntmps213;go_wp2_with fail;refine aH (GX HP.o) λw1 hb1=>?_;rw[ar.o];have B1:=I hb1;clear hb1;go_wp2;go_loopw [4,13] (λu i wr=>∃k:Nat,k<=n/\i=Z J k/\u=Z J (aZ.sm (aZ.wt (aZ.xs ps)) (ps.take k)%2305843009213693951)/\af w.1.size w wr) (λ_ i _=>n-(aA i).toNat);case atStart=>exact⟨0,by omega,rfl,rfl,B1.o⟩
 obtain⟨k,hk,rfl,rfl,O⟩:=hrel;have HB:=I O;have hsz:=O.size;have A1:0<=aZ.sm (aZ.wt (aZ.xs ps)) (ps.take k)%2305843009213693951:=by omega
 have A2:aZ.sm (aZ.wt (aZ.xs ps)) (ps.take k)%2305843009213693951<2305843009213693951:=by omega
 by_cases hlt:k<n
 ·obtain⟨b,off,rfl,hb,c0,c1⟩:=HC.o k hlt;rw[<-O.cell (p:=⟨b,off+k*2,V⟩) hb]at c0;rw[<-O.cell (p:=⟨b,off+k*2+1,V⟩) hb]at c1;obtain⟨c,Y⟩:=aj ((ps.getD k (0,0)).1);obtain⟨y,hy⟩:=aj ((ps.getD k (0,0)).2);have ae:ps.getD k (0,0)∈ps:=by rw[bG,aQ (by rw[HN.o];exact hlt)];exact cN _
  have hcs:aZ.small c:=HG.o.1 c (by rw[Y];exact cq.2 ⟨_,ae,rfl⟩);have ap:=HE.o _ ae;rw[<-hy]at ap;obtain⟨y1,y2⟩:=ap;have HS:=I hcs;have ES:=I (show bA (aZ.sm (aZ.wt (aZ.xs ps)) (ps.take k)%2305843009213693951) (bc y (aZ.wt (aZ.xs ps) c))=aZ.sm (aZ.wt (aZ.xs ps)) (ps.take (k+1))%2305843009213693951 by rw[wy ps k (by rw[HN.o];exact hlt),<-TF,Y,hy]);rw[<-Y]at c0;rw[<-hy]at c1;clear Y hy O ae hcs;generalize aZ.sm (aZ.wt (aZ.xs ps)) (ps.take k)%2305843009213693951=aq at*;have t1:=aZ.UU (aZ.xs ps) c;have t2:=aZ.US (aZ.xs ps) c;go_wp2_with fail;refine nA (by kernel_rfl) (by kernel_rfl) ?_;intro au G hI hG av ai;repeat(go_big_quiet_step (first|(go_at_call 267;exact lW hG ai (UL ps ((HP.o.below HB.o).below (((ax _ _).alloc (aw _) _).trans ((hG.o _).mono (by simp)))) HG.o.1 HS.o))|(go_at_call 144;exact Ia (lJ y1 y2 t1 t2))))
  refine oC ?_;intro wn hw';obtain⟨u,hw''⟩:=hw';have ah:=hG.o u;rw[<-hw'']at ah;clear hw'' av ai hG u hI G au;have HW:=I ah;clear ah;go_wp2_with fail;refine aI (pu A1 A2 (iO) (iN)) ?_;go_wp2;go_roundw;case rel=>exact⟨k+1,by omega,by go_num,by rw[ES.o],(HB.o.alloc hsz _).trans (HW.o.mono (by simp;omega))⟩
  simp[aA];omega
 have ek:k=n:=by omega
 subst ek;have et:ps.take k=ps:=kt (by rw[HN.o];exact aw _);have H:=A (aZ.sm (aZ.wt (aZ.xs ps)) (ps.take k)%2305843009213693951=aZ.dG ps) (by rw[et];rfl);clear et O;generalize aZ.sm (aZ.wt (aZ.xs ps)) (ps.take k)%2305843009213693951=aq at*;go_wp2_with fail;go_ret2;exact⟨cg (λx=>Ending.returned (.tuple #[Z J x,Z J 0])) H.o,HB.o⟩
theorem CM:(prog.info? 139).map (λi=>(i.zero,i.size,i.bytes))=E (E (aD #[Z J 0,Z J 0]),2,16):=by kernel_rfl
theorem CK:(prog.info? 292).map (λi=>(i.zero,i.size,i.bytes))=E (E (aD #[Z J 0,ak Y]),2,16):=by kernel_rfl
def eR (l:List (ag×ag)):List ag:=(l.map λp=>[p.1,p.2]).flatten
theorem vD (l m):eR (l++m)=eR l++eR m:=by unfold eR;rw[cF,uB]
theorem Cr:∀l:List (ag×ag),(eR l).length=l.length*2
 |[]=>rfl
 |p::l=>by show(eR l).length+1+1=(l.length+1)*2;rw[Cr l];omega
theorem yu:∀(l:List (ag×ag))(i:Nat)(p:ag×ag),l[i]?=E p->(eR l)[i*2]?=E p.1/\(eR l)[i*2+1]?=E p.2
 |[],i,p,h=>by simp at h
 |q::l,0,p,h=>by simp at h;subst h;exact⟨rfl,rfl⟩
 |q::l,i+1,p,h=>by
  have:=yu l i p (by simpa using h);have e:∀j,(eR (q::l))[(i+1)*2+j]?=(eR l)[i*2+j]? :=λj=>by show(_::_::eR l)[(i+1)*2+j]?=_;rw[show(i+1)*2+j=i*2+j+1+1 by omega];rfl
  exact⟨(e 0).trans this.1,(e 1).trans this.2⟩
theorem wo{w:ac}{B e m v n xs}(h:w.ownsRow B e m v n xs)(hn:0<n):
  ∃g cap,v=U (E ⟨g,0,V⟩) n cap/\B<=g/\g<w.1.size/\n<=cap/\cap<=maxLen/\∀j x,xs[j]?=E x->w.cell? ⟨g,j,V⟩=E x:=by have hlt:=h.lt;obtain⟨h1,h2⟩:=h;rcases h2 with⟨_,h2⟩|⟨g,cap,cur,hv,hb,hc,h3,h4,h5,h6⟩;omega;refine⟨g,cap,hv,hb,(hlt g (by rw[hv];rfl)).2,h3,h4,λj x hx=>?_⟩;rw[bg w g j _ _ (0,0) hc];rw[<-h6]at hx;rw[List.getElem?_take]at hx;split at hx;rw[<-FN];exact hx;cases hx
theorem ya (w:ac)(x y t):∀j c,([x,y]:List ag)[j]?=E c->(w.alloc (ah #[x,y] t)).cell? ((⟨w.1.size,0,V⟩:Addr).add j)=E c:=by
 intro j c hj
 match j,hj with
 |0,hj=>simp at hj;subst hj;simp[Addr.add]
 |1,hj=>simp at hj;subst hj;simp[Addr.add]
def oq (p:Int×Int):ag×ag:=(Z J p.1,Z J p.2)
def mkV (p:Int×Bool):ag×ag:=(Z J p.1,ak p.2)
theorem DN{w B v}(h:w.ownsRow B 139 2 v ps.length (eR (ps.map oq)))(hn:0<ps.length)(hi:∀p∈ps,bq p.1/\bq p.2):lR w v ps:=by
 obtain⟨g,cap,hv,hb,hl,h3,h4,hc⟩:=wo h hn;refine⟨_,_,hv,h3,h4,hi,.inr ⟨g,0,rfl,hl,λi hi=>?_⟩⟩;have e:(ps.map oq)[i]?=E (oq ps[i]):=by rw[dC,aQ hi];rfl
 have eg:ps.getD i (0,0)=ps[i]:=by rw[bG,aQ hi];rfl
 obtain⟨e1,e2⟩:=yu _ i _ e;rw[eg,cz];exact⟨hc _ _ e1,hc _ _ e2⟩
def dB (p:Nat->Bool)(L:Nat->List aq.It)(v n:Nat):List (Int×Int):=(bV p n).map λx:Nat=>((x:Int),(aL (L x) v).2.2.1)
theorem TX (p L v n):dB p L v (n+1)=dB p L v n++(if p n=aa then[((n:Int),(aL (L n) v).2.2.1)]else[]):=by unfold dB;rw[iM,cF];split<;>rfl
theorem TW (p L v n):(dB p L v n).length<=n:=by unfold dB;rw[dI];exact gC _ _
theorem R_{b}(L v){w}(h:aR w b S)(hL:∀v,v<13->aX w (S.it v) (L v))(hp:fc (dB S.ct L v 13)=aa):
  ay prog 296 #[aC (E ⟨b,0,V⟩),Z J (v:Int)] w λe w'=>e=az (Z J (aZ.dG (dB S.ct L v 13)))/\af w.1.size w w':=by
 obtain⟨i1,aJ,aK,aM,aO⟩:=bO CM;have ak:=I h.qg;have LX:=I (eN S.ct);have ai:=I (nV S.ct);have aG:=I (λ(w1:ac) (k:Nat) (hk:k<13) (hb:af w.1.size w w1)=>(h.below hb).vw k hk);have aF:=I (λ(k:Nat) (hk:k<13)=>tT (hL k hk));have aB:=I (λ(w1:ac) (k:Nat) (hk:k<13) (hb:af w.1.size w w1)=>ug (v:Int) ((hL k hk).below hb));have HJ:=I (λ(w1:ac) (x:ag) (hx:lR w1 x (dB S.ct L v 13))=>Mm hx hp);obtain⟨g1,g2,g3,g4⟩:=wB hp;have aI:=I (λ(w1:ac) (x:ag) (hx:w1.ownsRow w.1.size 139 2 x (dB S.ct L v 13).length (eR ((dB S.ct L v 13).map oq)))=>DN hx (by omega) (λp aw=>by have q1:=g1.1 p.1 (cq.2 ⟨p,aw,rfl⟩);have q2:=g4 p aw;unfold aZ.small at q1;unfold bq;exact⟨by omega,by omega⟩));clear h hL hp g1 g2 g3 g4;generalize S.ct=p at*;generalize S.it=it at*;obtain⟨CS,ap⟩:=aj (aN p);rw[<-ap]at ak LX ai;clear ap;go_enter func296,ntmps296;go_wp2_with(refine eM rfl 101 _ rfl b 19 rfl CS _ ak.o iX rfl ?z ?_);case z=>rw[gu,LX.o]
 go_wp2;go_loopw [5,14] (λro i wr=>∃k:Nat,k<=13/\i=Z J k/\wr.ownsRow w.1.size 139 2 ro (dB p L v k).length (eR ((dB p L v k).map oq))/\af w.1.size w wr) (λ_ i _=>13-(aA i).toNat);case atStart=>exact⟨0,by omega,rfl,dp _ _ _ _,ax _ _⟩
 obtain⟨k,hk,rfl,hown,ah⟩:=hrel;have HO:=I hown;have O:=I ah;have hsz:=ah.size;obtain⟨a3,c3,hv3⟩:=a_ hown;subst hv3;clear hown ah;have aS:=TW p L v k;have am:=I (TX p L v k);by_cases hlt:k<13
 ·have aT:(k:Int)<13:=by omega
  have au:=ai.o k hlt;cases q:p k
  ·rw[q]at au;have ae:=A (dB p L v (k+1)=dB p L v k) (by rw[am.o,q];simp);clear q;go_wp2;go_roundw;case rel=>exact⟨k+1,by omega,by go_num,by rw[ae.o];exact HO.o,O.o⟩
   simp[aA];omega
  rw[q]at au;have ae:=A (dB p L v (k+1)=dB p L v k++[((k:Int),(aL (L k) v).2.2.1)]) (by rw[am.o,q];simp);clear q;have ci:=aG.o wr k hlt O.o;have Y:=I (aB.o wr k hlt O.o);obtain⟨fa,fn,aP,hf⟩:=aF.o k hlt;rw[hf]at ci Y;clear hf;unfold qC at Y;obtain⟨y0,y1,y2,y3,hy⟩:∃y0 y1 y2 y3,aL (L k) (v:Int)=(y0,y1,y2,y3):=⟨_,_,_,_,rfl⟩;rw[hy]at Y ae;clear hy;go_wp2_with fail;refine aH Y.o λw1 hb1=>?_;have s1:=hb1.size;have B1:=I (O.o.trans (hb1.mono O.o.size));have O1:=I (bf (S:=λ_=>False) HO.o (av.bz hb1) (λ_ _ h=>h));clear hb1;have aQ:=Ch (Z J y0) (Z J y1) (Z J y2) (Z J y3) w1;go_wp2_with(at_builtin;refine eF _ rfl _ _ 137 rfl w.1.size 139 i1 (aD #[Z J 0,Z J 0]) 2 16 underlying137 aJ aK aM aO rfl (by decide) _ _ _ rfl (O1.o.alloc _) ⟨w1.1.size,0,V⟩ 1 1 [Z J k,Z J y2] rfl rfl ?c1 ?c2 ?c3 ?c4 ?c5 ?_);case c1=>exact ya _ _ _ _
  case c2=>intro u hu;simp at hu;rcases hu with rfl|rfl<;>rfl
  case c3=>unfold maxLen;omega
  case c4=>omega
  case c5=>simp;omega
  intro v' w4 hown' ar _;have hb4:=(B1.o.alloc (by omega) _).grown ar (by simp;omega) (λy hy=>(O1.o.lt y hy).1);have B4:=I hb4;have O4:=I (show w4.ownsRow w.1.size 139 2 v' (dB p L v (k+1)).length (eR ((dB p L v (k+1)).map oq))by rw[ae.o,cF,vD,cy];exact hown');clear hown' ar hb4;go_wp2;go_roundw;case rel=>exact⟨k+1,by omega,by go_num,O4.o,B4.o⟩
  simp[aA];omega
 have ek:k=13:=by omega
 subst ek;have JJ:=I (HJ.o wr _ (aI.o wr _ HO.o));go_wp2_with fail;refine aH JJ.o λw1 hb1=>?_;have B1:=I (O.o.trans (hb1.mono O.o.size));clear hb1;go_wp2;go_ret;exact⟨rfl,B1.o⟩
def jg (sn:Nat->Bool)(pb:Nat->Int)(v:Nat)(sec:Int)(n:Nat):List (Int×Bool):=(bV sn n).map λu:Nat=>(bB (pb u) sec,decide (u<v))
theorem NM (sn pb v sec n):jg sn pb v sec (n+1)=jg sn pb v sec n++(if sn n=aa then[(bB (pb n) sec,decide (n<v))]else[]):=by unfold jg;rw[iM,cF];split<;>rfl
theorem Dn (sn pb v sec n):(jg sn pb v sec n).length<=n:=by unfold jg;rw[dI];exact gC _ _
def iW (sn:Nat->Bool)(pb:Nat->Int)(v:Nat)(sec:Int):List (Int×Bool):=if sn v=aa then[(sec,aa)]else jg sn pb v sec 13
theorem Nx{b}(v:Nat)(sec){w}(h:aR w b S)(hv:v<13)(hs:0<=sec)(aO:sec<2305843009213693951)(ah:∀u,u<13->0<=S.pb u/\S.pb u<2305843009213693951):
  ay prog 297 #[aC (E ⟨b,0,V⟩),Z J (v:Int),Z J sec] w λe w'=>∃va,e=az va/\w'.ownsRow w.1.size 292 2 va (iW S.sn S.pb v sec).length (eR ((iW S.sn S.pb v sec).map mkV))/\af w.1.size w w':=by
 obtain⟨i1,aH,aI,aJ,aK⟩:=bO CK;have hv':(v:Int)<13:=by omega
 have cv:=h.jX v hv;have am:=I h.xX;have LX:=I (eN S.sn);have ai:=I (nV S.sn);have aF:=I (λ(w1:ac)(k:Nat)(hk:k<13)(hb:af w.1.size w w1)=>(h.below hb).II k hk);have aG:=I (λ(w1:ac)(k:Nat)(hk:k<13)=>sj (S.pb k) sec w1 (ah k hk).1 (ah k hk).2 (by omega));clear h ah;unfold iW;generalize S.pb=pb at*;cases q:S.sn v
 ·rw[q]at cv;rw[ar dR];clear q;generalize S.sn=p at*;obtain⟨CS,aq⟩:=aj (aN p);rw[<-aq]at am LX ai;clear aq;go_enter func297,ntmps297;go_wp2_with(refine eM rfl 101 _ rfl b 6 rfl CS _ am.o iX rfl ?z ?_);case z=>rw[gu,LX.o]
  go_wp2;go_loopw [7,24] (λro i wr=>∃k:Nat,k<=13/\i=Z J k/\wr.ownsRow w.1.size 292 2 ro (jg p pb v sec k).length (eR ((jg p pb v sec k).map mkV))/\af w.1.size w wr) (λ_ i _=>13-(aA i).toNat);case atStart=>exact⟨0,by omega,rfl,dp _ _ _ _,ax _ _⟩
  obtain⟨k,hk,rfl,hown,ag⟩:=hrel;have HO:=I hown;have O:=I ag;have hsz:=ag.size;obtain⟨a3,c3,hv3⟩:=a_ hown;subst hv3;clear hown ag;have aL:=Dn p pb v sec k;have ap:=I (NM p pb v sec k);by_cases hlt:k<13
  ·have aM:(k:Int)<13:=by omega
   have aB:=ai.o k hlt;cases q:p k
   ·rw[q]at aB;have ae:=A (jg p pb v sec (k+1)=jg p pb v sec k) (by rw[ap.o,q];simp);clear q;go_wp2;go_roundw;case rel=>exact⟨k+1,by omega,by go_num,by rw[ae.o];exact HO.o,O.o⟩
    simp[aA];omega
   rw[q]at aB;have ae:=A (jg p pb v sec (k+1)=jg p pb v sec k++[(bB (pb k) sec,decide (k<v))]) (by rw[ap.o,q];simp);clear q;have cp:=aF.o wr k hlt O.o;have PW:=I (aG.o wr k hlt);obtain⟨K,hK⟩:=aj (bB (pb k) sec);rw[<-hK]at PW ae;clear hK;go_wp2_with fail;refine PW.o.mono ?_;rintro e w1 ⟨rfl,rfl⟩;go_wp2_with(at_builtin;refine eF _ rfl _ _ 285 rfl w.1.size 292 i1 (aD #[Z J 0,ak Y]) 2 16 underlying285 aH aI aJ aK rfl (by decide) _ _ _ rfl (HO.o.alloc _) ⟨w1.1.size,0,V⟩ 1 1 [Z J K,ak (decide (k<v))] rfl rfl ?c1 ?c2 ?c3 ?c4 ?c5 ?_);case c1=>exact ya _ _ _ _
   case c2=>intro u hu;simp at hu;rcases hu with rfl|rfl<;>rfl
   case c3=>unfold maxLen;omega
   case c4=>omega
   case c5=>simp;omega
   intro v' w4 hown' av _;have hb4:=(O.o.alloc (by omega) _).grown av (by simp;omega) (λy hy=>(HO.o.lt y hy).1);have B4:=I hb4;have O4:=I (show w4.ownsRow w.1.size 292 2 v' (jg p pb v sec (k+1)).length (eR ((jg p pb v sec (k+1)).map mkV))by rw[ae.o,cF,vD,cy];exact hown');clear hown' av hb4;go_wp2;go_roundw;case rel=>exact⟨k+1,by omega,by go_num,O4.o,B4.o⟩
   simp[aA];omega
  have ek:k=13:=by omega
  subst ek;go_wp2;go_ret;exact⟨_,rfl,HO.o,O.o⟩
 rw[q]at cv;rw[au rfl];clear q;go_enter func297,ntmps297;go_wp2;go_ret;refine⟨_,rfl,⟨rfl,.inr ⟨w.1.size,1,#[Z J sec,ak aa],rfl,aw _,bo w _,aw _,by unfold maxLen;omega,rfl,rfl⟩⟩,(ax _ _).alloc (aw _) _⟩
theorem wQ:(prog.info? 65).map (·.size)=E 3:=by kernel_rfl
theorem ll:(prog.info? 49).map (λi=>(i.zero,i.size,i.bytes))=E (E (aD #[Z J 0,Z J 0,U V 0 0]),3,40):=by kernel_rfl
def mE (p:Nat->Bool)(L:Nat->List aq.It)(rd u:Nat):List aq.It:=if rd=0 then ir p L 13 else if rd=1 then gK p L u 13 else ik p 13
def jG (p:Nat->Bool)(L:Nat->List aq.It)(rd n:Nat):List Pk:=(bV p n).map λu:Nat=>((0:Int),(u:Int),bm (2*(rd:Int)+2) 0 (mE p L rd u))
theorem Pm (p L rd n):jG p L rd (n+1)=jG p L rd n++(if p n=aa then[((0:Int),(n:Int),bm (2*(rd:Int)+2) 0 (mE p L rd n))]else[]):=by unfold jG;rw[iM,cF];split<;>rfl
theorem Pl (p L rd n):(jG p L rd n).length<=n:=by unfold jG;rw[dI];exact gC _ _
theorem zv{w:ac}{b T x0 x1 x2}(h:w.1[b]?=E (ah #[x0,x1,x2] T (0,0)))(O Y y2):(((w.setCell ⟨b,0,V⟩ O).setCell ⟨b,1,V⟩ Y).setCell ⟨b,2,V⟩ y2).1[b]?=E (ah #[O,Y,y2] T (0,0)):=
 bI _ _ 2 #[O,Y,x2] _ _ (bI _ _ 1 #[O,x1,x2] _ _ (bI _ _ 0 _ _ _ h))
theorem vd{B w0 w b}(h:af B w0 w)(hb:B<=b)(O Y y2):af B w0 (((w.setCell ⟨b,0,V⟩ O).setCell ⟨b,1,V⟩ Y).setCell ⟨b,2,V⟩ y2):=
 ((h.setCell (p:=⟨b,0,V⟩) hb _).setCell (p:=⟨b,1,V⟩) hb _).setCell (p:=⟨b,2,V⟩) hb _
theorem BJ (w b O Y y2):av (λx=>x=b) w (((w.setCell ⟨b,0,V⟩ O).setCell ⟨b,1,V⟩ Y).setCell ⟨b,2,V⟩ y2):=
 ((av.setCell w ⟨b,0,V⟩ O).bY (av.setCell _ ⟨b,1,V⟩ Y)).bY (av.setCell _ ⟨b,2,V⟩ y2)
theorem Kc{b}(L)(rd u:Nat){w}(h:aR w b S)(hL:∀v,v<13->aX w (S.it v) (L v))(ae:S.rd=(rd:Int))(hr:rd<3):
  ay prog 250 #[aC (E ⟨b,0,V⟩),Z J (u:Int)] w λe w'=>∃va,e=az (aD #[Z J (2*(rd:Int)+2),Z J 0,va])/\w'.ownsRow w.1.size 147 4 va (mE S.ct L rd u).length (bD (mE S.ct L rd u))/\af w.1.size w w':=by
 obtain⟨W,hW⟩:=aj (w.alloc (ah #[Z J 0,Z J 0,U V 0 0] 65));have O:=A (af w.1.size w W) (by rw[hW];exact(ax _ _).alloc (aw _) _);have R0:=A (W.1[w.1.size]?=E (ah #[Z J 0,Z J 0,U V 0 0] 65 (0,0))) (by rw[hW];exact bo w _);have hsz:w.1.size<W.1.size:=by rw[hW];simp
 have HS:=I (h.below O.o);have HL:=I (λv hv=>(hL v hv).below O.o);have c5:W.cell? ⟨b,5,V⟩=E (Z J (rd:Int)):=by rw[<-ae];exact HS.o.rd
 have HW:=I hW;have HE:=bj W λw1 hb=>(show w1.1[w.1.size]?=E (ah #[Z J 0,Z J 0,U V 0 0] 65 (0,0))from(hb.block _ hsz).trans R0.o);clear hW h hL;have hd:rd=0\/rd=1\/rd=2:=by omega
 have HF:=A (mE S.ct L rd u=(if rd=0 then ir S.ct L 13 else if rd=1 then gK S.ct L u 13 else ik S.ct 13)) rfl
 have fin:∀(w1:ac)(va:ag)(G:List aq.It),w1.ownsRow W.1.size 147 4 va G.length (bD G)->af W.1.size W w1->∀(k:ag),
   ((((w1.setCell ⟨w.1.size,0,V⟩ k).setCell ⟨w.1.size,1,V⟩ (Z J 0)).setCell ⟨w.1.size,2,V⟩ va).1[w.1.size]?=E (ah #[k,Z J 0,va] 65 (0,0)))/\
   (((w1.setCell ⟨w.1.size,0,V⟩ k).setCell ⟨w.1.size,1,V⟩ (Z J 0)).setCell ⟨w.1.size,2,V⟩ va).ownsRow w.1.size 147 4 va G.length (bD G)/\
   af w.1.size w (((w1.setCell ⟨w.1.size,0,V⟩ k).setCell ⟨w.1.size,1,V⟩ (Z J 0)).setCell ⟨w.1.size,2,V⟩ va):=by intro w1 va G ho hb k;refine⟨zv (HE.o w1 hb) _ _ _,?_,vd (O.o.trans (hb.mono O.o.size)) (aw _) _ _ _⟩;refine cS (bf ho (BJ _ _ _ _ _) (λx hx e=>?_)) O.o.size;have:=(ho.lt x hx).1;omega
 have aa:=I fin
 have YC:=I (λ(w1:ac)(hb:af W.1.size W w1)=>(show(w1.cell? ⟨w.1.size,0,V⟩=E (Z J 0)/\w1.cell? ⟨w.1.size,1,V⟩=E (Z J 0)/\w1.cell? ⟨w.1.size,2,V⟩=E (U V 0 0))/\∀i,w1.frozen? ⟨w.1.size,i,V⟩=Y from
  ⟨⟨by rw[bg w1 w.1.size 0 _ _ (0,0) (HE.o w1 hb)];rfl,by rw[bg w1 w.1.size 1 _ _ (0,0) (HE.o w1 hb)];rfl,by rw[bg w1 w.1.size 2 _ _ (0,0) (HE.o w1 hb)];rfl⟩,λi=>eh w1 w.1.size i _ _ (HE.o w1 hb)⟩));clear fin;rcases hd with rfl|rfl|rfl;·have C:=I (MK L HS.o HL.o);rw[HF.o];go_enter func250,ntmps250;go_upto_region 1 with fail;rw[<-HW.o];go_wp2_with fail;refine C.o.mono ?_;rintro e w1 ⟨va,rfl,hown,hb1⟩;obtain⟨a3,c3,hv3⟩:=a_ hown;have F1:=I (aa.o w1 va _ hown hb1 (Z J 2));obtain⟨⟨y0,y1,y2⟩,yf⟩:=YC.o w1 hb1;clear hb1 hown;rw[hv3]at F1 ⊢;clear hv3;go_wp2_with fail;refine cQ (ic rfl _ _ w.1.size 65 #[Z J 2,Z J 0,_] (0,0) _ rfl F1.o.1 mR rfl wQ) rfl ?_;exact⟨_,rfl,F1.o.2.1,F1.o.2.2⟩
 ·have C:=I (HB L u HS.o HL.o);rw[HF.o];go_enter func250,ntmps250;go_upto_region 1 with fail;rw[<-HW.o];go_wp2_with fail;refine C.o.mono ?_;rintro e w1 ⟨va,rfl,hown,hb1⟩;obtain⟨a3,c3,hv3⟩:=a_ hown;have F1:=I (aa.o w1 va _ hown hb1 (Z J 4));obtain⟨⟨y0,y1,y2⟩,yf⟩:=YC.o w1 hb1;clear hb1 hown;rw[hv3]at F1 ⊢;clear hv3;go_wp2_with fail;refine cQ (ic rfl _ _ w.1.size 65 #[Z J 4,Z J 0,_] (0,0) _ rfl F1.o.1 mR rfl wQ) rfl ?_;exact⟨_,rfl,F1.o.2.1,F1.o.2.2⟩
 have C:=I (Ha HS.o);rw[HF.o];go_enter func250,ntmps250;go_upto_region 1 with fail;rw[<-HW.o];go_wp2_with fail;refine C.o.mono ?_;rintro e w1 ⟨va,rfl,hown,hb1⟩;obtain⟨a3,c3,hv3⟩:=a_ hown;have F1:=I (aa.o w1 va _ hown hb1 (Z J 6));obtain⟨⟨y0,y1,y2⟩,yf⟩:=YC.o w1 hb1;clear hb1 hown;rw[hv3]at F1 ⊢;clear hv3;go_wp2_with fail;refine cQ (ic rfl _ _ w.1.size 65 #[Z J 6,Z J 0,_] (0,0) _ rfl F1.o.1 mR rfl wQ) rfl ?_;exact⟨_,rfl,F1.o.2.1,F1.o.2.2⟩
theorem Pe{b}(L)(rd:Nat){w}(h:aR w b S)(hL:∀v,v<13->aX w (S.it v) (L v))(aL:S.rd=(rd:Int))(hr:rd<3)(aK:∀u,u<13->S.ct u=aa->aq.okF (2*(rd:Int)+2) 0 (mE S.ct L rd u)=aa):
  ay prog 198 #[aC (E ⟨b,0,V⟩)] w λe w'=>∃v vs,e=az v/\dt w' w.1.size v vs (jG S.ct L rd 13)/\af w.1.size w w':=by
 obtain⟨i1,aQ,aT,aU,aV⟩:=bO ll;have aF:=I h.qg;have LX:=I (eN S.ct);have au:=I (nV S.ct);have ar:=I (λ(w1:ac)(u:Nat)(hb:af w.1.size w w1)=>Kc L rd u (h.below hb) (λv hv=>(hL v hv).below hb) aL hr);have aB:=I aK;clear h hL aK aL;generalize S.ct=p at*;obtain⟨CS,aH⟩:=aj (aN p);rw[<-aH]at aF LX au;clear aH;obtain⟨kd,am⟩:∃kd:Int,kd=2*(rd:Int)+2:=⟨_,rfl⟩;rw[<-am]at ar aB;have aO:=I am;clear am;go_enter func198,ntmps198;go_wp2_with(refine eM rfl 101 _ rfl b 19 rfl CS _ aF.o iX rfl ?z ?_);case z=>rw[gu,LX.o]
 go_wp2;go_loopw [3,13] (λro i wr=>∃(k:Nat)(vs:List ag),k<=13/\i=Z J k/\dt wr w.1.size ro vs (jG p L rd k)/\af w.1.size w wr) (λ_ i _=>13-(aA i).toNat);case atStart=>exact⟨0,[],by omega,rfl,mM,ax _ _⟩
 obtain⟨k,vs,hk,rfl,ap,aI⟩:=hrel;have HO:=I ap;have O:=I aI;obtain⟨a3,c3,hv3⟩:=a_ ap.row;subst hv3;clear ap aI;have aY:=Pl p L rd k;have aG:=I (Pm p L rd k);by_cases hlt:k<13
 ·have aZ:(k:Int)<13:=by omega
  have aJ:=au.o k hlt;cases q:p k
  ·rw[q]at aJ;have Y:=A (jG p L rd (k+1)=jG p L rd k) (by rw[aG.o,q];simp);clear q;go_wp2;go_roundw;case rel=>exact⟨k+1,vs,by omega,by go_num,by rw[Y.o];exact HO.o,O.o⟩
   simp[aA];omega
  rw[q]at aJ;have OK:=I (aB.o k hlt q);have Y:=A (jG p L rd (k+1)=jG p L rd k++[((0:Int),(k:Int),bm kd 0 (mE p L rd k))]) (by rw[aG.o,q,aO.o];simp);clear q;obtain⟨G,hG⟩:=aj (mE p L rd k);have FF:=I (ar.o wr k O.o);rw[<-hG]at OK Y FF;clear hG;go_wp2_with fail;refine FF.o.mono ?_;rintro e w1 ⟨va,rfl,hown,hb1⟩;obtain⟨a4,c4,hv4⟩:=a_ hown;subst hv4;have I1:=I (iL hown (kg OK.o));have B1:=I (O.o.trans (hb1.mono O.o.size));have O1:=I (HO.o.below hb1);clear hb1 hown;obtain⟨W1,hW1⟩:=aj (w1.alloc (ah #[Z J kd,Z J 0,U a4 G.length c4] 65));have x0:W1.cell? ⟨w1.1.size,0,V⟩=E (Z J kd):=by rw[hW1];simp
  have x1:W1.cell? ⟨w1.1.size,1,V⟩=E (Z J 0):=by rw[hW1];simp
  have x2:W1.cell? ⟨w1.1.size,2,V⟩=E (U a4 G.length c4):=by rw[hW1];simp
  have bA:af w1.1.size w1 W1:=by rw[hW1];exact(ax _ _).alloc (aw _) _
  have B2:=I (B1.o.trans (bA.mono B1.o.size));have O2:=I (O1.o.below bA);have EN:=I (BZ (I1.o.below bA) OK.o);have aW:w.1.size<=W1.1.size:=B2.o.size;have aP:=I hW1;clear hW1 bA;go_upto_region 7 with fail;rw[<-aP.o];go_wp2_with fail;refine EN.o.mono ?_;rintro e w2 ⟨vb,rfl,ae,hb2⟩;have s2:=hb2.size;obtain⟨a5,c5,aS⟩:=a_ ae;subst aS;have B3:=I (B2.o.trans (hb2.mono B2.o.size));have O3:=I (O2.o.below hb2);have NEW:=I (λx (hx:(Value.slice a5 (bm kd 0 G).length c5).ownBlock=E x) y (hy:y∈vs)(e:y.ownBlock=E x)=>(show False by have q1:=(ae.lt x hx).1;have q2:=(O2.o.low x (.inr ⟨y,hy,e⟩)).2;omega));have aM:=I (cS ae aW);clear hb2 ae x0 x1 x2;generalize bm kd 0 G=bs at*;go_wp2_with(at_builtin;refine eF _ rfl _ _ 41 rfl w.1.size 49 i1 (aD #[Z J 0,Z J 0,U V 0 0]) 3 40 jt aQ aT aU aV rfl (by decide) _ _ _ rfl (O3.o.row.alloc _) ⟨w2.1.size,0,V⟩ 1 1 [Z J 0,Z J k,U a5 bs.length c5] rfl rfl ?c1 ?c2 ?c3 ?c4 ?c5 ?_);case c1=>exact rK _ _ _ _ _
  case c2=>intro u hu;simp at hu;rcases hu with rfl|rfl|rfl<;>rfl
  case c3=>unfold maxLen;omega
  case c4=>omega
  case c5=>simp;omega
  intro v' w4 hown' ak _;have hb4:=(B3.o.alloc (by omega) _).grown ak (by simp;omega) (λy hy=>(O3.o.row.lt y hy).1);have B4:=I hb4;have ai:af w2.1.size w2 (w2.alloc (ah #[Z J 0,Z J k,U a5 bs.length c5] 49)):=(ax _ _).alloc (aw _) _;have O4:=I (show dt w4 w.1.size v' (vs++[U a5 bs.length c5]) (jG p L rd (k+1))by rw[Y.o];exact(O3.o.below ai).snoc (p:=((0:Int),(k:Int),bs)) (bf (S:=λ_=>False) aM.o (av.bz ai) (λ_ _ h=>h)) (λx hx y hy e=>NEW.o x hx y hy e) hown' (av.grown ak));clear hown' ak hb4 ai;go_wp2;go_roundw;case rel=>exact⟨k+1,_,by omega,by go_num,O4.o,B4.o⟩
  simp[aA];omega
 have ek:k=13:=by omega
 subst ek;go_wp2;go_ret;exact⟨_,vs,rfl,HO.o,O.o⟩
end Go.Proofs.YtchideljndagjabGreat


