/- Joined -/
import Derived.Test.YtchideljndagjabGreatUAD
import Derived.Deep.CutRange
import Derived.Laws.ResultCell
import Derived.Deep.MidRow
import Derived.Deep.WholeRow
import Derived.RegionTactic
import Derived.BigRegion
set_option linter.unusedVariables false
set_option maxHeartbeats 1000000
set_option maxRecDepth 100000
namespace Go.Proofs.YtchideljndagjabGreat
open aq aO
open Go.Value renaming int->Z,slice->U,agg->aD,tuple->br
open Go.IntKind renaming i64->J,u8->bt
open Go.Obj renaming cells->ah
open Option renaming none->V,some->E
open Bool renaming false->Y,true->aa
open Go renaming World->ac,Value->ag,TypeId->cn
open Go.RowKit renaming Below->af,intOf->aA
abbrev Aw:=@List.mem_of_mem_take
abbrev uJ:=@Nat.mul_le_mul
abbrev kv:=@IntWalk.i64_left
abbrev xq:=@Int.natCast_mul
abbrev fD:=@Proofs.Tryz.underlying47
abbrev bo:=@heap_alloc_new
abbrev iG:=@Proofs.Tryz.underlying63
abbrev mR:=@Proofs.Tryz.underlying65
abbrev UX:=@List.drop_of_length_le
abbrev mv:=@List.setIfInBounds_toArray
abbrev bg:=@cell_of_row
abbrev eh:=@frozen_of_row
abbrev ez:=@World.cell?_of_block
abbrev dN:=@all_oneCell_toArray
open Go.Proofs.Tryz
variable {fr k:Int}{l:List aq.It}{bs:List Int}{B b g n:Nat}{T:cn}{v:ag}{bx w w' w0 wr:ac}
section
open Go.ChangeShapes Go.WideShapes Go.ChangeAt Go.RowKit
theorem CO:(prog.info? 5).map (λi=>(i.zero,i.size,i.bytes))=E (E (Z bt 0),1,1):=by kernel_rfl
def lT (B g:Nat)(w0 bx wr:ac)(v:ag)(n:Nat)(bs:List Int):Prop:=
 wr.ownsRow B 5 1 v n (bs.map (Value.int bt))/\v.ownBlock≠E g/\g<wr.1.size/\wr.1[g]?=w0.1[g]? /\af B bx wr
theorem lT.size (h:lT B g w0 bx wr v n bs)(hB:B<=bx.1.size):B<=wr.1.size:=by have:=h.2.2.2.2.size;omega
theorem lT.below (h:lT B g w0 bx wr v n bs)(hB:B<=bx.1.size)(hb:af wr.1.size wr w'):lT B g w0 bx w' v n bs:=by have hs:=h.size hB;obtain⟨h1,h2,h3,h4,h5⟩:=h;exact⟨bf (S:=λ_=>False) h1 (av.bz hb) (λ_ _ h=>h),h2,cG h3 hb.size,(hb.block g h3).trans h4,h5.trans (hb.mono hs)⟩
theorem lT.step{o g' cap' d}(h:lT B g w0 bx wr v n bs)(hB:B<=bx.1.size)(ho:w'.ownsRow B 5 1 (U (E ⟨g',0,V⟩) (n+1) cap') (n+1) (bs.map (Value.int bt)++[Z bt d]))(hg:(wr.alloc o).grownBy w' v.ownBlock)(hv:v.ownBlock=E g'\/wr.1.size+1<=g'):
  lT B g w0 bx w' (U (E ⟨g',0,V⟩) (n+1) cap') (n+1) (bs++[d]):=by
 have hs:=h.size hB;obtain⟨h1,h2,h3,h4,h5⟩:=h;have hz:=hg.size;have hz1:(wr.alloc o).1.size=wr.1.size+1:=by simp
 refine⟨by rw[cF];exact ho,?_,by omega,?_,(h5.alloc hs o).grown hg (by omega) (λx hx=>(h1.lt x hx).1)⟩;·intro e;simp[Value.ownBlock]at e;subst e;rcases hv with hv|hv;exact h2 hv;omega
 rw[hg.block g (by omega) (λe=>h2 e.symm),gf _ _ _ h3];exact h4
theorem cell_of_block (h:w.1[g]?=w0.1[g]?)(o):w.cell? ⟨g,o,V⟩=w0.cell? ⟨g,o,V⟩:=by simp only[World.cell?,h]
theorem KM (a0 a1 a2 a3 a4 a5 O Y w):(Instr.index 257 (aD #[a0,a1,a2,a3,a4,a5,O,Y]) (Z J 0)).run prog w=.ok a0 w:=by kernel_rfl
theorem KN (a0 a1 a2 a3 a4 a5 O Y w):(Instr.index 257 (aD #[a0,a1,a2,a3,a4,a5,O,Y]) (Z J 1)).run prog w=.ok a1 w:=by kernel_rfl
theorem KO (a0 a1 a2 a3 a4 a5 O Y w):(Instr.index 257 (aD #[a0,a1,a2,a3,a4,a5,O,Y]) (Z J 2)).run prog w=.ok a2 w:=by kernel_rfl
theorem KP (a0 a1 a2 a3 a4 a5 O Y w):(Instr.index 257 (aD #[a0,a1,a2,a3,a4,a5,O,Y]) (Z J 3)).run prog w=.ok a3 w:=by kernel_rfl
theorem KQ (a0 a1 a2 a3 a4 a5 O Y w):(Instr.index 257 (aD #[a0,a1,a2,a3,a4,a5,O,Y]) (Z J 4)).run prog w=.ok a4 w:=by kernel_rfl
theorem KR (a0 a1 a2 a3 a4 a5 O Y w):(Instr.index 257 (aD #[a0,a1,a2,a3,a4,a5,O,Y]) (Z J 5)).run prog w=.ok a5 w:=by kernel_rfl
theorem KS (a0 a1 a2 a3 a4 a5 O Y w):(Instr.index 257 (aD #[a0,a1,a2,a3,a4,a5,O,Y]) (Z J 6)).run prog w=.ok O w:=by kernel_rfl
theorem KT (a0 a1 a2 a3 a4 a5 Y O w):(Instr.index 257 (aD #[a0,a1,a2,a3,a4,a5,Y,O]) (Z J 7)).run prog w=.ok O w:=by kernel_rfl
theorem rK (w:ac)(x y z t):∀j u,([x,y,z]:List ag)[j]?=E u->(w.alloc (ah #[x,y,z] t)).cell? ((⟨w.1.size,0,V⟩:Addr).add j)=E u:=by
 intro j u hj
 match j,hj with
 |0,hj=>simp at hj;subst hj;simp[Addr.add]
 |1,hj=>simp at hj;subst hj;simp[Addr.add]
 |2,hj=>simp at hj;subst hj;simp[Addr.add]
theorem yq{row}(h:w.grownBy w' row)(g o)(hlt:g<w.1.size)(hne:row≠E g):w'.cell? ⟨g,o,V⟩=w.cell? ⟨g,o,V⟩:=
 cell_of_block (h.block g hlt (λe=>hne e.symm)) o
def preB (k fr:Int)(l:List aq.It)(i:Nat):List Int:=k::fr::(l.length:Int)::((l.take i).map (gA k)).flatten
theorem DL (k fr l):preB k fr l l.length=bm k fr l:=by unfold preB bm;rw[iF]
theorem DM (k fr l i)(hi:i<l.length):preB k fr l (i+1)=preB k fr l i++gA k (aq.it l i):=by
 have e:l.take (i+1)=l.take i++[aq.it l i]:=by rw[gV hi];unfold aq.it;rw[bG,aQ hi];rfl
 unfold preB;rw[e,cF,uB];simp
def nY (k:Int)(x:aq.It)(m:Nat):List Int:=(((aq.dz k x).take m).map eO).flatten
theorem Dh (k x m)(hm:m<bh k):nY k x (m+1)=nY k x m++eO ((aq.dz k x).getD m 0):=by
 have hl:m<(aq.dz k x).length:=by rw[ze];exact hm
 unfold nY;rw[gV hl,cF,uB,bG,aQ hl];simp
theorem Dg (k x):x.1::nY k x (bh k)=gA k x:=by unfold nY gA;rw[kt (by rw[ze];exact aw _)]
theorem Du{x}(h:cu k x=aa)(m):0<=(aq.dz k x).getD m 0/\(aq.dz k x).getD m 0<9223372036854775808:=by
 obtain⟨a1,a2,a3⟩:=wl h;have hm:∀y∈aq.dz k x,0<=y/\y<9223372036854775808:=by intro y hy;have:y∈[x.2.1,x.2.2.1,x.2.2.2]:=Aw hy;simp only[List.mem_cons,List.not_mem_nil,or_false]at this;rcases this with rfl|rfl|rfl;exact⟨a1.1,a1.2.1⟩;exact⟨a2.1,a2.2.1⟩;exact⟨a3.1,a3.2.1⟩
 by_cases hi:m<(aq.dz k x).length;rw[bG,aQ hi];exact hm _ (cN hi);rw[bG,jM (by omega)];simp
theorem BZ (h:aX w v l)(ho:aq.okF k fr l=aa):
  Calls prog 166 #[aD #[Z J k,Z J fr,v]] w λe w'=>∃va,e=.returned (br #[va,Z J 0])/\w'.ownsRow w.1.size 5 1 va (bm k fr l).length ((bm k fr l).map (Value.int bt))/\af w.1.size w w':=by
 obtain⟨i0,hi,hz0,hz1,hz2⟩:=bO CO;have HM:=bj w λw1 hb=>h.below hb;obtain⟨o1,o2,o3,o4,o5,o6⟩:=mK ho;have HO:=I ho;have HI:=I o6;obtain⟨a,cap,rfl,l2,l3,_,hc⟩:=cK h;have HC:=I hc;clear h ho o6 hc;obtain⟨n,hn⟩:=aj l.length;rw[<-hn]at l2 HM o1 HI HC ⊢;have HN:=I hn;clear hn;obtain⟨bx,ar⟩:=aj (w.alloc (ah #[Z J k,Z J fr,U a n cap] 65));have am:bx.1.size=w.1.size+1:=by rw[ar];simp
 have CB:=I (show∀w1,af bx.1.size bx w1->w1.cell? ⟨w.1.size,0,V⟩=E (Z J k)/\w1.cell? ⟨w.1.size,1,V⟩=E (Z J fr)/\w1.cell? ⟨w.1.size,2,V⟩=E (U a n cap)from λw1 hb=>by
  have hlt:w.1.size<bx.1.size:=by omega
  rw[hb.cell (p:=⟨w.1.size,0,V⟩) hlt,hb.cell (p:=⟨w.1.size,1,V⟩) hlt,hb.cell (p:=⟨w.1.size,2,V⟩) hlt,ar];refine⟨?_,?_,?_⟩<;>simp[go_sem]);have BX:=A (af w.1.size w bx) (by rw[ar];exact(ax _ _).alloc (aw _) _);obtain⟨e0,e1,e2⟩:=CB.o bx (ax _ _);go_enter func166,ntmps166;go_wp2_with fail;rw[<-ar];clear ar;refine aH (CQ l (HM.o _ BX.o)) λw1 hb1=>?_;rw[HO.o];have B1:=I hb1;have s1:=hb1.size;obtain⟨f0,f1,f2⟩:=CB.o w1 hb1;clear hb1 e0 e1 e2;have hs:=jL k;have hS:(aq.size k:Int)=1+8*(bh k:Int):=by unfold aq.size;omega
 obtain⟨S,aJ⟩:=aj (aq.size k);rw[<-aJ]at hS;have aF:=I aJ;have bv:S<=25:=by omega
 clear hs hS aJ;obtain⟨M,hM⟩:=aj (n*S);have cA:M<=300:=by rw[hM];exact uJ o1 bv
 have bM:IntKind.i64.wrap ((n:Int)*(S:Int))=(M:Int):=by rw[kv,hM,xq,eL _ (by rw[<-xq,<-hM];omega)]
 have bN:IntKind.i64.wrap (3+(M:Int))=3+(M:Int):=by rw[kv,eL _ (by omega)]
 have bZ:=I hM;obtain⟨ap,hZ⟩:=aj (madeCells (Value.int bt 0).cells ((3+M)*i0.size));have bP:ap.size=3+M:=by rw[hZ,hz1];simp[madeCells]
 have bQ:∀W:ac,(Instr.makeSlice 47 (Z J 0) (Z J (3+(M:Int)))).run prog W=.ok (U (E ⟨W.1.size,0,V⟩) 0 (3+M)) (W.alloc (ah ap 5)):=λW=>by have:=run_make (P:=prog) (w:=W) 47 5 i0 (Z bt 0) fD hi hz0 J J 0 (3+(M:Int)) (by omega) (by omega) (by rw[hz2];omega) (by omega);rw[show(3+(M:Int)).toNat=3+M by omega]at this;rw[hZ];exact this
 clear hM hZ
 have W2:=I (show(w1.drew.alloc (ah ap 5)).ownsRow (w.1.size+1) 5 1 (U (E ⟨w1.1.size,0,V⟩) 0 (3+M)) 0 []/\af (w.1.size+1) bx (w1.drew.alloc (ah ap 5))from
  ⟨⟨rfl,.inr ⟨w1.1.size,3+M,ap,rfl,by omega,bo w1.drew _,bi _,by unfold maxLen;omega,by omega,rfl⟩⟩,(by rw[<-am];exact(B1.o.drew).alloc (show bx.1.size<=w1.drew.1.size from s1) _)⟩);obtain⟨B,hB⟩:=aj (w.1.size+1);rw[<-hB]at W2;rw[<-hB]at am;have ag:B<=bx.1.size:=by omega
 have cC:w.1.size<B:=by omega
 have cD:B<=w.1.size+1:=by omega
 clear hB;go_wp2_with fail;go_cut [4]from 14 to 22 (λs wc=>wc.ownsRow B 5 1 s 0 []/\af B bx wc);case first=> go_region_with (go_at_call 72;refine(yL).mono ?_;rintro e w1 ⟨rfl,rfl⟩;rw[<-aF.o]);all_goals(go_wp2;go_meet;exact W2.o)
 clear W2 bQ bP B1 f0 f1 f2 s1 bM bN;obtain⟨hown,ai⟩:=hcut;have s2:=ai.size;obtain⟨f0,f1,f2⟩:=CB.o wc (by rw[am];exact ai);have OW:=I hown;have B2:=I ai;clear hown ai;go_wp2_with(at_builtin;refine eF _ rfl _ _ 47 rfl B 5 i0 (Z bt 0) 1 1 fD hi hz0 hz1 hz2 rfl (by decide) _ _ _ rfl (OW.o.alloc _) ⟨wc.1.size,0,V⟩ 3 3 [Z bt k,Z bt fr,Z bt (n:Int)] rfl rfl ?c1 ?c2 ?c3 ?c4 ?c5 ?_);case c1=>exact rK _ _ _ _ _
 case c2=>intro u hu;simp at hu;rcases hu with rfl|rfl|rfl<;>rfl
 case c3=>unfold maxLen;omega
 case c4=>omega
 case c5=>simp;omega
 intro v2 w2 bk ba _;have hb2:=(B2.o.alloc (by omega) _).grown ba (by simp;omega) (λx hx=>(OW.o.lt x hx).1);have O2:=A (w2.ownsRow B 5 1 v2 (0+3) ((preB k fr l 0).map (Value.int bt))) (by unfold preB;rw[<-HN.o];exact bk);have B3:=I hb2;obtain⟨g0,g1,g2⟩:=CB.o w2 (by rw[am];exact hb2);clear bk ba hb2 f0 f1 f2;go_wp2;go_loopw [4,39] (λv i wr=>∃j:Nat,j<=n/\i=Z J j/\wr.ownsRow B 5 1 v (3+j*S) ((preB k fr l j).map (Value.int bt))/\af B bx wr) (λ_ i _=>n-(aA i).toNat);case atStart=>exact⟨0,bi _,rfl,by rw[uD];exact O2.o,B3.o⟩
 clear g0 g1 g2 O2 B3 s2 OW B2;obtain⟨j,hj,rfl,hown,ai⟩:=hrel;have s2:=ai.size;obtain⟨f0,f1,f2⟩:=CB.o wr (by rw[am];exact ai);have OW:=I hown;have B2:=I ai;by_cases hlt:j<n
 ·obtain⟨b,off,rfl,hb,hit⟩:=HC.o j hlt;have hit:=hit.below hb (BX.o.trans (ai.mono (by omega)));obtain⟨c0,c1,c2,c3⟩:=hit;have bb:=HI.o j hlt;obtain⟨x,hx⟩:=aj (aq.it l j);have HX:=I hx;have bK:=A (cu k x=aa) (by rw[hx];exact(en HO.o).2.2.2.2 j (by rw[<-HN.o];exact hlt));rw[<-hx]at c0 c1 c2 c3 bb;have jS:j*S+S<=300:=by have:=uJ (show j+1<=12 by omega) bv;rw[kV]at this;omega
  clear hown ai hx;obtain⟨ak,hJ⟩:=aj (3+j*S);rw[<-hJ]at OW;have HJ:=I hJ;have J1:ak<=303:=by omega
  clear hJ jS;obtain⟨xi,xa,xb,xc⟩:=x;simp only at c0 c1 c2 c3 bb;go_wp2_with(at_builtin;refine dQ rfl 47 rfl B 5 i0 (Z bt 0) 1 fD hi hz0 hz1 hz2 rfl _ _ _ rfl ((OW.o.alloc _).alloc _) ⟨wr.1.size+1,0,V⟩ 1 (Z bt xi) rfl (by simp[go_sem]) rfl (by unfold maxLen;omega) (by omega) (by simp;omega) ?_);intro aW aV wA bg ay bR;have aP:=((B2.o.alloc (by omega) _).alloc (by simp;omega) _).grown ay (by simp;omega) (λy hy=>(OW.o.lt y hy).1);have zA:=ay.size;simp at zA;obtain⟨g0,g1,g2⟩:=CB.o wA (by rw[am];exact aP);have au:∀o,wA.cell? ⟨wr.1.size,o,V⟩=((wr.alloc (ah #[Z J xi,Z J xa,Z J xb,Z J xc] 147)).alloc (ah #[Z bt xi] 5)).cell? ⟨wr.1.size,o,V⟩:=λo=>
   yq ay _ o (by simp;omega) (λe=>by have:=OW.o.lt _ e;simp at this);have bn:=au 0;have bp:=au 1;have bq:=au 2;have bu:=au 3;simp[go_sem]at bn bp bq bu;have OA:=I bg;have BA:=I aP;clear bg ay bR aP au f0 f1 f2;go_wp2_with fail;refine(NN (xi,xa,xb,xc)).mono ?_;rintro e wN ⟨aN,rfl,a_,aQ⟩;have aI:=I (bf (S:=λ_=>False) OA.o (av.bz aQ) (λ_ _ h=>h));have az:=I (BA.o.trans (aQ.mono (by omega)));have bl:=I (λy (hy:(Value.slice (E ⟨aW,0,V⟩) (ak+1) aV).ownBlock=E y)=>(OA.o.lt y hy).2);have hW:=jL k;have aS:=I a_;clear a_ aQ bn bp bq bu g0 g1 g2 c0 c1 c2 c3;have aG:=A (S=1+8*bh k) (by rw[aF.o];rfl);have bJ:=I (λm=>Du bK.o m);have aU:=I (λm hm=>Dh k (xi,xa,xb,xc) m hm);have aT:=A (nY k (xi,xa,xb,xc) 0=[]) rfl;have aB:=I (Dg k (xi,xa,xb,xc));have aC:=I (DM k fr l j (by rw[<-HN.o];exact hlt));rw[<-HX.o]at aC;generalize nY k (xi,xa,xb,xc)=mB at*;generalize gA k (xi,xa,xb,xc)=eI at*;generalize aq.dz k (xi,xa,xb,xc)=NL at*;obtain⟨W,aY⟩:=aj (bh k);rw[<-aY]at hW aS aG aU aB ⊢;clear aY;by_cases hW0:W=0
  ·subst hW0;go_wp2_with fail;refine xp 1 ?_;rw[fu];go_wp2;go_roundw;case rel=>
    refine⟨j+1,by omega,by go_num,?_,az.o⟩;have e1:3+(j+1)*S=ak+1:=by rw[HJ.o,aG.o];omega
    have e2:preB k fr l (j+1)=preB k fr l j++[xi]:=by rw[aC.o,<-aB.o,aT.o]
    rw[e1,e2,cF];exact aI.o
   simp[aA];omega
  obtain⟨g,rfl,cB,hg2,hcell⟩:=aS.o (by omega);have bI:=I hcell;clear hcell;have bL:=I (show lT B g wN bx wN (U (E ⟨aW,0,V⟩) (ak+1) aV) (ak+1+8*0) (preB k fr l j++[xi]++mB 0)by refine⟨?_,λe=>?_,hg2,rfl,az.o⟩;rw[aT.o,ew,cF];exact aI.o;have:=bl.o g e;omega);clear aI az bl OA BA;go_wp2;go_loopw [4,54] (λv i wq=>∃m:Nat,m<=W/\i=Z J m/\lT B g wN bx wq v (ak+1+8*m) (preB k fr l j++[xi]++mB m)) (λ_ i _=>W-(aA i).toNat);case atStart=>exact⟨0,bi _,rfl,bL.o⟩
  obtain⟨m,hm,rfl,hR⟩:=hrel;have RR:=I hR;by_cases bc:m<W
  ·have cm:=bI.o m bc;rw[<-cell_of_block hR.2.2.2.1 m]at cm;obtain⟨z,hz⟩:=aj (NL.getD m 0);have hzb:=bJ.o m;rw[<-hz]at cm hzb;have HZ:=I hz;obtain⟨bs,aR⟩:=aj (preB k fr l j++[xi]++mB m);rw[<-aR]at RR;have bH:=I aR;obtain⟨Q,hQ⟩:=aj (ak+1+8*m);rw[<-hQ]at RR;have HQ:=I hQ;have Q1:Q<=400:=by omega
   clear hR hz aR hQ;go_wp2_with fail;refine aH (IQ hzb.1 hzb.2) λwD aZ=>?_;have R0:=I (RR.o.below ag aZ);clear aZ cm;go_wp2_with fail;refine xp 9 ?_;have X0:=KM;have X1:=KN;have X2:=KO;have X3:=KP;have X4:=KQ;have X5:=KR;have X6:=KS;have X7:=KT;rw[fu];go_wp2_with(at_builtin;refine dQ rfl 47 rfl B 5 i0 (Z bt 0) 1 fD hi hz0 hz1 hz2 rfl _ _ _ rfl (R0.o.1.alloc _) ⟨wD.1.size,0,V⟩ 1 (Z bt (z%256)) rfl (by simp[go_sem]) rfl (by unfold maxLen;omega) (by omega) (by have:=R0.o.size ag;simp;omega) ?_);intro cp b_ bS Y O ae;have R1:=I (R0.o.step ag Y O ae);obtain⟨b1,hb1⟩:∃b,b=bs++[z%256]:=⟨_,rfl⟩;rw[<-hb1]at R1;have bw:=I hb1;clear hb1;clear Y O ae;go_wp2_with fail;rw[fu];go_wp2_with(at_builtin;refine dQ rfl 47 rfl B 5 i0 (Z bt 0) 1 fD hi hz0 hz1 hz2 rfl _ _ _ rfl (R1.o.1.alloc _) ⟨bS.1.size,0,V⟩ 1 (Z bt (z/256%256)) rfl (by simp[go_sem]) rfl (by unfold maxLen;omega) (by omega) (by have:=R1.o.size ag;simp;omega) ?_);intro cq cd bT Y O ae;have R2:=I (R1.o.step ag Y O ae);obtain⟨b2,hb2⟩:∃b,b=b1++[z/256%256]:=⟨_,rfl⟩;rw[<-hb2]at R2;have bA:=I hb2;clear hb2;clear Y O ae;go_wp2_with fail;rw[fu];go_wp2_with(at_builtin;refine dQ rfl 47 rfl B 5 i0 (Z bt 0) 1 fD hi hz0 hz1 hz2 rfl _ _ _ rfl (R2.o.1.alloc _) ⟨bT.1.size,0,V⟩ 1 (Z bt (z/65536%256)) rfl (by simp[go_sem]) rfl (by unfold maxLen;omega) (by omega) (by have:=R2.o.size ag;simp;omega) ?_);intro cr ce bU Y O ae;have R3:=I (R2.o.step ag Y O ae);obtain⟨b3,hb3⟩:∃b,b=b2++[z/65536%256]:=⟨_,rfl⟩;rw[<-hb3]at R3;have bB:=I hb3;clear hb3;clear Y O ae;go_wp2_with fail;rw[fu];go_wp2_with(at_builtin;refine dQ rfl 47 rfl B 5 i0 (Z bt 0) 1 fD hi hz0 hz1 hz2 rfl _ _ _ rfl (R3.o.1.alloc _) ⟨bU.1.size,0,V⟩ 1 (Z bt (z/16777216%256)) rfl (by simp[go_sem]) rfl (by unfold maxLen;omega) (by omega) (by have:=R3.o.size ag;simp;omega) ?_);intro ct cf bV Y O ae;have R4:=I (R3.o.step ag Y O ae);obtain⟨b4,hb4⟩:∃b,b=b3++[z/16777216%256]:=⟨_,rfl⟩;rw[<-hb4]at R4;have bC:=I hb4;clear hb4;clear Y O ae;go_wp2_with fail;rw[fu];go_wp2_with(at_builtin;refine dQ rfl 47 rfl B 5 i0 (Z bt 0) 1 fD hi hz0 hz1 hz2 rfl _ _ _ rfl (R4.o.1.alloc _) ⟨bV.1.size,0,V⟩ 1 (Z bt (z/4294967296%256)) rfl (by simp[go_sem]) rfl (by unfold maxLen;omega) (by omega) (by have:=R4.o.size ag;simp;omega) ?_);intro cw cg bW Y O ae;have R5:=I (R4.o.step ag Y O ae);obtain⟨b5,aK⟩:∃b,b=b4++[z/4294967296%256]:=⟨_,rfl⟩;rw[<-aK]at R5;have bD:=I aK;clear aK;clear Y O ae;go_wp2_with fail;rw[fu];go_wp2_with(at_builtin;refine dQ rfl 47 rfl B 5 i0 (Z bt 0) 1 fD hi hz0 hz1 hz2 rfl _ _ _ rfl (R5.o.1.alloc _) ⟨bW.1.size,0,V⟩ 1 (Z bt (z/1099511627776%256)) rfl (by simp[go_sem]) rfl (by unfold maxLen;omega) (by omega) (by have:=R5.o.size ag;simp;omega) ?_);intro cx cj bX Y O ae;have R6:=I (R5.o.step ag Y O ae);obtain⟨b6,aL⟩:∃b,b=b5++[z/1099511627776%256]:=⟨_,rfl⟩;rw[<-aL]at R6;have bE:=I aL;clear aL;clear Y O ae;go_wp2_with fail;rw[fu];go_wp2_with(at_builtin;refine dQ rfl 47 rfl B 5 i0 (Z bt 0) 1 fD hi hz0 hz1 hz2 rfl _ _ _ rfl (R6.o.1.alloc _) ⟨bX.1.size,0,V⟩ 1 (Z bt (z/281474976710656%256)) rfl (by simp[go_sem]) rfl (by unfold maxLen;omega) (by omega) (by have:=R6.o.size ag;simp;omega) ?_);intro cy ck bY Y O ae;have R7:=I (R6.o.step ag Y O ae);obtain⟨b7,aM⟩:∃b,b=b6++[z/281474976710656%256]:=⟨_,rfl⟩;rw[<-aM]at R7;have bF:=I aM;clear aM;clear Y O ae;go_wp2_with fail;rw[fu];go_wp2_with(at_builtin;refine dQ rfl 47 rfl B 5 i0 (Z bt 0) 1 fD hi hz0 hz1 hz2 rfl _ _ _ rfl (R7.o.1.alloc _) ⟨bY.1.size,0,V⟩ 1 (Z bt (z/72057594037927936%256)) rfl (by simp[go_sem]) rfl (by unfold maxLen;omega) (by omega) (by have:=R7.o.size ag;simp;omega) ?_);intro cz cn cE Y O ae;have R8:=I (R7.o.step ag Y O ae);obtain⟨b8,aO⟩:∃b,b=b7++[z/72057594037927936%256]:=⟨_,rfl⟩;rw[<-aO]at R8;have bG:=I aO;clear aO;clear Y O ae;go_wp2_with fail;rw[fu];go_wp2;go_roundw;case rel=>
    refine⟨m+1,by omega,by go_num,?_⟩;have e:=R8.o;have e1:ak+1+8*(m+1)=Q+1+1+1+1+1+1+1+1:=by rw[HQ.o];omega
    have e2:preB k fr l j++[xi]++mB (m+1)=b8:=by rw[bG.o,bF.o,bE.o,bD.o,bC.o,bB.o,bA.o,bw.o,aU.o m bc,bH.o,<-HZ.o];unfold eO;simp only[List.append_assoc,List.cons_append,List.nil_append]
    rw[e1,e2];exact e
   simp[aA];omega
  have em:m=W:=by omega
  subst em;clear hR;go_wp2;go_roundw;case rel=>
   refine⟨j+1,by omega,by go_num,?_,RR.o.2.2.2.2⟩;have e1:3+(j+1)*S=ak+1+8*m:=by rw[HJ.o,kV,aG.o];omega
   have e2:preB k fr l (j+1)=preB k fr l j++[xi]++mB m:=by rw[aC.o,<-aB.o];simp
   rw[e1,e2];exact RR.o.1
  simp[aA];omega
 have ej:j=n:=by omega
 subst ej;clear hown ai;go_wp2_with fail;go_ret2;refine⟨_,rfl,?_,BX.o.trans (B2.o.mono (by omega))⟩;have e1:(bm k fr l).length=3+j*S:=by rw[qu,<-HN.o,aF.o]
 have e2:preB k fr l j=bm k fr l:=by rw[HN.o];exact DL k fr l
 rw[e1,<-e2];exact cS OW.o (by omega)
theorem lj:(prog.info? 147).map (λi=>(i.zero,i.size,i.bytes))=E (E (aD #[Z J 0,Z J 0,Z J 0,Z J 0]),4,32):=by kernel_rfl
def dK (b:List Int):Int:=match cJ b with|some f=>f.1|none=>0
def dF (b:List Int):Int:=match cJ b with|some f=>f.2.1|none=>0
def dL (b:List Int):List aq.It:=match cJ b with|some f=>f.2.2|none=>[]
def dE (b:List Int):Int:=match cJ b with|some _=>0|none=>4
theorem mC{b}(h:cJ b=V):dK b=0/\dF b=0/\dL b=[]/\dE b=4:=by unfold dK dF dL dE;rw[h];exact⟨rfl,rfl,rfl,rfl⟩
theorem nR{b}(h:cJ b=E (k,fr,l)):dK b=k/\dF b=fr/\dL b=l/\dE b=0:=by unfold dK dF dL dE;rw[h];exact⟨rfl,rfl,rfl,rfl⟩
theorem zn{b}(hb:cY b){a}:bq (gj b a):=by unfold bq gj;have h0:=dJ hb a;have h1:=dJ hb (a+1);have h2:=dJ hb (a+2);have h3:=dJ hb (a+3);have h4:=dJ hb (a+4);have h5:=dJ hb (a+5);have h6:=dJ hb (a+6);have h7:=dJ hb (a+7);split;omega;unfold ji;omega
theorem Qe{b}(hb:cY b)(k){a}:iK (gF k b a):=by
 have z:bq 0:=by unfold bq;omega
 have h0:=dJ hb a;refine⟨?_,?_,?_,?_⟩;show bq (aW b a);unfold bq;omega;·show bq (if 1<=bh k then gj b (a+1)else 0);split;exact zn hb;exact z
 ·show bq (if 2<=bh k then gj b (a+9)else 0);split;exact zn hb;exact z
 show bq (if 3<=bh k then gj b (a+17)else 0);split;exact zn hb;exact z
theorem Qg{b}(hb:cY b)(k m):∀x∈ep k b m,iK x:=by intro x hx;unfold ep at hx;obtain⟨i,_,rfl⟩:=cq.1 hx;exact Qe hb k
theorem DX (k b m):(ep k b m).length=m:=by simp[ep]
theorem Qh (k b m):ep k b (m+1)=ep k b m++[gF k b (3+m*aq.size k)]:=by unfold ep;rw[mm,cF];rfl
theorem jS (w:ac)(x y z u t):∀j c,([x,y,z,u]:List ag)[j]?=E c->(w.alloc (ah #[x,y,z,u] t)).cell? ((⟨w.1.size,0,V⟩:Addr).add j)=E c:=by
 intro j c hj
 match j,hj with
 |0,hj=>simp at hj;subst hj;simp[Addr.add]
 |1,hj=>simp at hj;subst hj;simp[Addr.add]
 |2,hj=>simp at hj;subst hj;simp[Addr.add]
 |3,hj=>simp at hj;subst hj;simp[Addr.add]
theorem a_{e size xs}(h:w.ownsRow B e size v n xs):∃a c,v=U a n c:=by rcases h.2 with⟨rfl,rfl⟩|⟨g,cap,cur,rfl,_⟩;exact⟨_,_,rfl⟩;exact⟨_,_,rfl⟩
theorem gT {P:Program}{fn:Func}{p u:Tmp}{ty:cn}(h:fn.results= #[.cell p ty,.tmp u]){tmps:Array ag}(g:Nat)(t:cn)(cs:Array ag)(fr:Nat×Nat){d:TypeDesc}
  (hp:tmps.getD p undef=.pointer (E ⟨g,0,V⟩))(hg:w.1[g]?=E (ah cs t fr))
  (hu:P.underlying ty=E d)(hd:(match d with| .struct _| .array _ _=>aa|_=>Y)=aa)(hi:(P.info? ty).map (·.size)=E cs.size):
  (results fn tmps).run P w=.ok (br #[aD cs,tmps.getD u undef]) w:=by rw[results_cell_tmp h,hp];simp[asAddr,run_loadVar_row w g t ty cs fr d hg hu hd hi]
theorem qT:(prog.info? 65).map (·.size)=E 3:=by kernel_rfl
theorem qx{a b c x y z}(h:w.1[g]?=E (ah #[a,b,c] 65 (0,0))):
  (((w.setCell ⟨g,0,V⟩ x).setCell ⟨g,1,V⟩ y).setCell ⟨g,2,V⟩ z).1[g]?=E (ah #[x,y,z] 65 (0,0)):=
 bI _ g 2 #[x,y,c] 65 z (bI _ g 1 #[x,b,c] 65 y (bI w g 0 #[a,b,c] 65 x h))
theorem vu{x y z}:av (λb=>b=g) w (((w.setCell ⟨g,0,V⟩ x).setCell ⟨g,1,V⟩ y).setCell ⟨g,2,V⟩ z):=by have h1:av (λb=>b=g) w (w.setCell ⟨g,0,V⟩ x):=av.setCell w ⟨g,0,V⟩ x;have h2:av (λb=>b=g) (w.setCell ⟨g,0,V⟩ x) ((w.setCell ⟨g,0,V⟩ x).setCell ⟨g,1,V⟩ y):=av.setCell (w.setCell ⟨g,0,V⟩ x) ⟨g,1,V⟩ y;have h3:av (λb=>b=g) ((w.setCell ⟨g,0,V⟩ x).setCell ⟨g,1,V⟩ y) (((w.setCell ⟨g,0,V⟩ x).setCell ⟨g,1,V⟩ y).setCell ⟨g,2,V⟩ z):=av.setCell ((w.setCell ⟨g,0,V⟩ x).setCell ⟨g,1,V⟩ y) ⟨g,2,V⟩ z;exact(h1.trans h2 (λ_ e _=>e)).trans h3 (λ_ e _=>e)
theorem py{c b v'}(h1:dK b=k)(h2:dF b=fr)(h3:v=v')(h4:dE b=c):
  Ending.returned (br #[aD #[Z J k,Z J fr,v],Z J c])=Ending.returned (br #[aD #[Z J (dK b),Z J (dF b),v'],Z J (dE b)]):=by rw[h1,h2,h3,h4]
theorem yl{zs}(h:bX w v zs):
  Calls prog 43 #[v] w λe w'=>∃va,e=.returned (br #[aD #[Z J (dK zs),Z J (dF zs),va],Z J (dE zs)])/\w'.ownsRow w.1.size 147 4 va (dL zs).length (bD (dL zs))/\af w.1.size w w':=by
 obtain⟨i1,aO,aQ,aR,aS⟩:=bO lj;have HM:=bj w λw1 hb=>h.below hb
 have HD:=I (show cJ zs=(if zs.length<3 then V else if zs.length=3+(aW zs 2).toNat*aq.size (aW zs 0)then
  if aq.okF (aW zs 0) (aW zs 1) (ep (aW zs 0) zs (aW zs 2).toNat)=aa then E (aW zs 0,aW zs 1,ep (aW zs 0) zs (aW zs 2).toNat)else V
  else V)from rfl);obtain⟨a,cap,rfl,l2,l3,hb,hc⟩:=eC h;have HB:=I hb;have HC:=I hc;clear h hb hc;obtain⟨L,hL⟩:=aj zs.length;rw[<-hL]at l2 HM HC HD ⊢;have HL:=I hL;clear hL;by_cases t3:L<3
 ·have H:=I (mC (show cJ zs=V by rw[HD.o,au t3]));have aV:(L:Int)<3:=by omega
  go_enter func43,ntmps43;go_wp2_with fail;go_returns;refine⟨_,py H.o.1 H.o.2.1 rfl H.o.2.2.2,?_,by go_grown⟩;rw[H.o.2.2.1];exact dp _ _ _ _
 have aV:¬(L:Int)<3:=by omega
 obtain⟨b,off,rfl,hlt,c0⟩:=HC.o 0 (by omega);obtain⟨b',aT,ea,_,c1⟩:=HC.o 1 (by omega);simp only[Option.some.injEq,Addr.mk.injEq,and_true]at ea;obtain⟨rfl,rfl⟩:=ea;obtain⟨b',aT,ea,_,c2⟩:=HC.o 2 (by omega);simp only[Option.some.injEq,Addr.mk.injEq,and_true]at ea;obtain⟨rfl,rfl⟩:=ea;rw[lM]at c0;have B0:=dJ HB.o 0;have B1:=dJ HB.o 1;have B2:=dJ HB.o 2;obtain⟨k,hk⟩:=aj (aW zs 0);obtain⟨fr,aC⟩:=aj (aW zs 1);obtain⟨n,hn⟩:∃n:Nat,n=(aW zs 2).toNat:=⟨_,rfl⟩;have aG:aW zs 2=(n:Int):=by omega
 rw[<-hk]at c0 B0 HD;rw[<-aC]at c1 B1 HD;rw[<-hn]at HD;rw[aG]at c2 B2;clear hk aC hn aG;have hs:=jL k;have hS:(aq.size k:Int)=1+8*(bh k:Int):=by unfold aq.size;omega
 have aB:=I (λm=>Qh k zs m);obtain⟨S,am⟩:=aj (aq.size k);rw[<-am]at hS HD aB;have ai:=I am;have aU:S<=25:=by omega
 clear hs hS am;obtain⟨M,hM⟩:=aj (n*S);have aZ:M<=255*25:=by rw[hM];exact uJ (by omega) aU
 have eM:(n:Int)*(S:Int)=(M:Int):=by rw[hM,xq]
 rw[<-hM]at HD;have aL:=I hM;clear hM;obtain⟨bx,ae⟩:=aj (w.alloc (ah #[Z J 0,Z J 0,U V 0 0] 65));have bk:bx.1.size=w.1.size+1:=by rw[ae];simp
 have BX:=A (af w.1.size w bx) (by rw[ae];exact(ax _ _).alloc (aw _) _);by_cases tl:L=3+M
 ·have ay:=A (cJ zs=if aq.okF k fr (ep k zs n)=aa then E (k,fr,ep k zs n)else V) (by rw[HD.o,ar t3,au tl]);have aX:((L:Int) != 3+(M:Int))=Y:=by rw[tl];simp
  have aN:=I tl;clear tl;have aK:=I (show∀w1,af (w.1.size+1) bx w1->w1.1[w.1.size]?=E (ah #[Z J 0,Z J 0,U V 0 0] 65 (0,0))from λw1 hb=>by rw[hb.block w.1.size (by omega),ae];exact bo w _);go_enter func43,ntmps43;go_wp2_with fail;refine aH (yL) λw' hw'=>?_;rw[<-ae]at hw';rw[hw',<-ai.o];clear hw' ae;go_wp2;go_loopw [7,8] (λv i wr=>∃m:Nat,m<=n/\i=Z J m/\wr.ownsRow (w.1.size+1) 147 4 v m (bD (ep k zs m))/\af (w.1.size+1) bx wr) (λ_ i _=>n-(aA i).toNat);case atStart=>exact⟨0,bi _,rfl,dp _ _ _ _,ax _ _⟩
  obtain⟨m,hm,rfl,hown,ac⟩:=hrel;have s2:=ac.size;have OW:=I hown;have BL:=I ac;have BW:=I (BX.o.trans (ac.mono (by omega)));by_cases aP:m<n
  ·obtain⟨O,ag⟩:=aj (m*S);have ba:O+S<=M:=by have:(m+1)*S<=n*S:=oB _ aP;rw[kV,<-ag,<-aL.o]at this;omega
   have aY:(m:Int)*(S:Int)=(O:Int):=by rw[ag,xq]
   have aM:=I ag;have HR:=A (ep k zs (m+1)=ep k zs m++[gF k zs (3+O)]) (by rw[aM.o];exact aB.o m);obtain⟨x,hx⟩:=aj (gF k zs (3+O));rw[<-hx]at HR;have HX:=I hx;clear hown ac ag hx;go_wp2_with fail;refine aH (Qm zs k (3+O) (HM.o _ BW.o) (by omega) (by rw[<-HL.o,<-ai.o,aN.o];omega)) λw3 hb3=>?_;rw[<-HX.o];obtain⟨xi,xa,xb,xc⟩:=x;have s3:=hb3.size;have O3:=I (bf (S:=λ_=>False) OW.o (av.bz hb3) (λ_ _ h=>h));have B3:=I (BL.o.trans (hb3.mono (by omega)));clear hb3;go_wp2_with(at_builtin;refine eF _ rfl _ _ 63 rfl (w.1.size+1) 147 i1 (aD #[Z J 0,Z J 0,Z J 0,Z J 0]) 4 32 iG aO aQ aR aS rfl (by decide) _ _ _ rfl (O3.o.alloc _) ⟨w3.1.size,0,V⟩ 1 1 [Z J xi,Z J xa,Z J xb,Z J xc] rfl rfl ?c1 ?c2 ?c3 ?c4 ?c5 ?_);case c1=>exact jS _ _ _ _ _ _
   case c2=>intro u hu;simp at hu;rcases hu with rfl|rfl|rfl|rfl<;>rfl
   case c3=>unfold maxLen;omega
   case c4=>omega
   case c5=>simp;omega
   intro v' w4 hown' aF _;have hb4:=(B3.o.alloc (by omega) _).grown aF (by simp;omega) (λy hy=>(O3.o.lt y hy).1);have B4:=I hb4;have O4:=A (w4.ownsRow (w.1.size+1) 147 4 v' (m+1) (bD (ep k zs (m+1)))) (by rw[HR.o,jc];exact hown');clear hown' aF hb4;go_wp2;go_roundw;case rel=>exact⟨m+1,by omega,by go_num,O4.o,B4.o⟩
   simp[aA];omega
  have em:m=n:=by omega
  subst em;have d1:=BW.o.cell (p:=⟨b,off+1,V⟩) hlt;rw[c1]at d1;have IT:=I (iL (l:=ep k zs m) (by rw[DX];exact OW.o) (Qg HB.o k m));obtain⟨a',c',hv'⟩:=a_ hown;clear hown ac c0 c1 c2;subst hv';go_wp2_with fail;refine aH (CQ (ep k zs m) (IT.o.below (by go_grown))) λw3 hb3=>?_;have s3:=hb3.size;simp at s3;have ak:af (w.1.size+1) bx w3:=(BL.o.alloc (by omega) _).trans (hb3.mono (by simp;omega));have BB:=I ak;have hrow:=aK.o w3 ak;have q0:w3.cell? ⟨w.1.size,0,V⟩=E (Z J 0)/\w3.frozen? ⟨w.1.size,0,V⟩=Y:=⟨by simp only[World.cell?,hrow];rfl,by simp[World.frozen?,hrow]⟩;have q1:w3.cell? ⟨w.1.size,1,V⟩=E (Z J 0)/\w3.frozen? ⟨w.1.size,1,V⟩=Y:=⟨by simp only[World.cell?,hrow];rfl,by simp[World.frozen?,hrow]⟩;have q2:w3.cell? ⟨w.1.size,2,V⟩=E (U V 0 0)/\w3.frozen? ⟨w.1.size,2,V⟩=Y:=⟨by simp only[World.cell?,hrow];rfl,by simp[World.frozen?,hrow]⟩;obtain⟨q0,bb⟩:=q0;obtain⟨q1,bc⟩:=q1;obtain⟨q2,bg⟩:=q2;have p0:=hb3.cell (p:=⟨wr.1.size,0,V⟩) (by simp);have p1:=hb3.cell (p:=⟨wr.1.size,1,V⟩) (by simp);have p2:=hb3.cell (p:=⟨wr.1.size,2,V⟩) (by simp);simp[go_sem]at p0 p1 p2;have O3:=I (bf (S:=λ_=>False) (OW.o.alloc (ah #[Z J k,Z J fr,U a' m c'] 65)) (av.bz hb3) (λ_ _ h=>h));have ap:=I (BX.o.trans (BB.o.mono (by omega)));have az:=I hrow;clear hb3 ak hrow d1;cases aJ:aq.okF k fr (ep k zs m);·have H:=I (mC (show cJ zs=V by rw[ay.o,aJ];rfl));go_wp2_with fail;(try simp only[Exit.inBlock,Exit.then]);refine cQ (gT rfl w.1.size 65 #[Z J 0,Z J 0,U V 0 0] (0,0) rfl (qx az.o) mR rfl qT) rfl ?_;refine⟨_,py H.o.1 H.o.2.1 rfl H.o.2.2.2,?_,?_⟩;rw[H.o.2.2.1];exact dp _ _ _ _;have:=ap.o;go_grown
  have H:=I (nR (show cJ zs=E (k,fr,ep k zs m)by rw[ay.o,aJ];rfl));go_wp2_with fail;(try simp only[Exit.inBlock,Exit.then]);refine cQ (gT rfl w.1.size 65 #[Z J k,Z J fr,U a' m c'] (0,0) rfl (qx az.o) mR rfl qT) rfl ?_;refine⟨_,py H.o.1 H.o.2.1 rfl H.o.2.2.2,?_,?_⟩;rw[H.o.2.2.1,DX];refine cS (bf (S:=λx=>x=w.1.size) O3.o ?_ (λx hx e=>by have:=(O3.o.lt x hx).1;omega)) (by omega);exact vu;have:=ap.o;go_grown
 have H:=I (mC (show cJ zs=V by rw[HD.o,ar t3,ar tl]));have aX:((L:Int) != 3+(M:Int))=aa:=by rw[bne_iff_ne];omega
 clear tl;go_enter func43,ntmps43;go_wp2_with fail;refine aI (yL) ?_;rw[<-ai.o];go_wp2_with fail;go_returns;refine⟨_,py H.o.1 H.o.2.1 rfl H.o.2.2.2,?_,by go_grown⟩;rw[H.o.2.2.1];exact dp _ _ _ _
end
section
open Go.RowKit
def hP (p:Pr):List ag:=[.bool p.mem,Z J p.ck,Z J p.mq,Z J p.ms,Z J p.ss]
def gM (f:Nat->Pr):Nat->List ag
 |0=>[]
 |n+1=>gM f n++hP (f n)
def b_ (f:Nat->Pr):List ag:=gM f 13
theorem qm (f n):(gM f n).length=n*5:=by
 induction n with
 |zero=>rfl
 |succ n ih=>show(gM f n++hP (f n)).length=_;rw[cy,ih];show n*5+5=_;omega
theorem fW (f):(b_ f).length=65:=qm f 13
theorem Iw (f n v i)(hv:v<n)(hi:i<5):(gM f n)[v*5+i]?=(hP (f v))[i]? :=by
 induction n with
 |zero=>omega
 |succ n ih=> show(gM f n++hP (f n))[v*5+i]?=_;by_cases e:v=n;subst e;rw[fo (by rw[qm];omega),qm];congr 1;omega;rw[ey (by rw[qm];omega)];exact ih (by omega)
theorem Iy (f v p n)(h:n<=v):gM (jn f v p) n=gM f n:=by
 induction n with
 |zero=>rfl
 |succ n ih=>show gM _ n++hP _=gM f n++hP (f n);rw[ih (by omega),Fw (by omega)]
theorem BK (f v p n)(h:v<n):gM (jn f v p) n=gM f v++(hP p++(gM f n).drop (v*5+5)):=by
 induction n with
 |zero=>omega
 |succ n ih=>
  show gM (jn f v p) n++hP (jn f v p n)=gM f v++(hP p++(gM f n++hP (f n)).drop (v*5+5));by_cases e:v=n;·subst e;rw[Iy f v p v (aw _),Uq];rw[UX (by rw[cy,qm];exact aw _),ew]
  rw[ih (by omega),Fw (by omega),List.drop_append_of_le_length (by rw[qm];omega)];simp
theorem Ix (f v n)(h:v<n):gM f n=gM f v++(hP (f v)++(gM f n).drop (v*5+5)):=by
 have e:jn f v (f v)=f:=by funext u;unfold jn;split;(rename_i q;rw[q]);rfl
 have:=BK f v (f v) n h;rwa [e]at this
theorem nO (f):∀v∈b_ f,v.oneCell'=aa:=by
 have:∀n,∀v∈gM f n,v.oneCell'=aa:=by
  intro n
  induction n with
  |zero=>intro v hv;cases hv
  |succ n ih=> intro v hv;rcases cZ.1 hv with hv|hv;exact ih v hv;simp only[hP,List.mem_cons,List.not_mem_nil,or_false]at hv;rcases hv with rfl|rfl|rfl|rfl|rfl<;>rfl
 exact this 13
theorem kI (b T):∀(vs:List ag)(pre mid post:List ag)(w:ac),mid.length=vs.length->w.1[b]?=E (ah (pre++(mid++post)).toArray T (0,0))->
  (w.setCells b pre.length vs).1[b]?=E (ah (pre++(vs++post)).toArray T (0,0))
 |[],pre,mid,post,w,hl,h=>by have:mid=[]:=ku hl;subst this;exact h
 |v::vs,pre,mid,post,w,hl,h=>by
  obtain⟨m,ms,rfl⟩:∃m ms,mid=m::ms:=by cases mid with|nil=>simp at hl|cons m ms=>exact⟨m,ms,rfl⟩
  have h1:=bI w b pre.length _ T v h;rw[mv,uI _ _ (aw _),nD]at h1;have h2:=kI b T vs (pre++[v]) ms post (w.setCell ⟨b,pre.length,V⟩ v) (by simpa using hl) (by simpa using h1);rw[World.setCells];rw[cy]at h2;simpa using h2
theorem rO (b):∀(vs:List ag)(o:Nat)(w:ac),av (λx=>x=b) w (w.setCells b o vs)
 |[],o,w=>av.refl _ _
 |v::vs,o,w=>by rw[World.setCells];exact(av.setCell w ⟨b,o,V⟩ v).trans (rO b vs (o+1) _) (λx h _=>h)
structure PS where
 id:Int
 ph:Int
 cp:Int
 mp:Int
 n:Int
 t:Int
 inp:ag
 ch:Int
 ms:Int
 sd:Int
 sm:ag
 ss:ag
 f:Nat->Pr
 told:ag
def qK (s:PS):List ag:=[Z J s.id,Z J s.ph,Z J s.cp,Z J s.mp,Z J s.n,Z J s.t,s.inp,Z J s.ch,Z J s.ms,Z J s.sd,s.sm,s.ss]
def cx (s:PS):List ag:=qK s++(b_ s.f++[s.told])
def aJ (w:ac)(b:Nat)(T:cn)(s:PS):Prop:=w.1[b]?=E (ah (cx s).toArray T (0,0))
theorem aJ.lt{s}(h:aJ w b T s):b<w.1.size:=by by_cases hb:b<w.1.size;exact hb;unfold aJ at h;rw[cT (by omega)]at h;cases h
theorem gD (s):(cx s).length=78:=by unfold cx;rw[cy,cy,fW];rfl
theorem aJ.cell{s}(h:aJ w b T s)(i):w.cell? ⟨b,i,V⟩=(cx s)[i]? :=by rw[bg w b i _ T (0,0) h];simp
theorem aJ.bF{s}(h:aJ w b T s)(i):w.frozen? ⟨b,i,V⟩=Y:=eh w b i _ T h
theorem aJ.c2{s}(h:aJ w b T s):w.cell? ⟨b,2,V⟩=E (Z J s.cp):=h.cell 2
theorem aJ.c3{s}(h:aJ w b T s):w.cell? ⟨b,3,V⟩=E (Z J s.mp):=h.cell 3
theorem aJ.c6{s}(h:aJ w b T s):w.cell? ⟨b,6,V⟩=E s.inp:=h.cell 6
theorem aJ.c7{s}(h:aJ w b T s):w.cell? ⟨b,7,V⟩=E (Z J s.ch):=h.cell 7
theorem aJ.c8{s}(h:aJ w b T s):w.cell? ⟨b,8,V⟩=E (Z J s.ms):=h.cell 8
theorem aJ.c9{s}(h:aJ w b T s):w.cell? ⟨b,9,V⟩=E (Z J s.sd):=h.cell 9
theorem aJ.c10{s}(h:aJ w b T s):w.cell? ⟨b,10,V⟩=E s.sm:=h.cell 10
theorem aJ.c11{s}(h:aJ w b T s):w.cell? ⟨b,11,V⟩=E s.ss:=h.cell 11
theorem aJ.there{s}(h:aJ w b T s)(o n)(ho:o+n<=78):w.there b o n:=by intro j hj;refine⟨?_,h.bF _⟩;rw[h.cell,aQ (by rw[gD];omega)];rfl
def xO (w:ac)(b o:Nat)(p:Pr):Prop:=
 w.cell? ⟨b,o,V⟩=E (.bool p.mem)/\w.cell? ⟨b,o+1,V⟩=E (Z J p.ck)/\w.cell? ⟨b,o+2,V⟩=E (Z J p.mq)/\w.cell? ⟨b,o+3,V⟩=E (Z J p.ms)/\w.cell? ⟨b,o+4,V⟩=E (Z J p.ss)
theorem DK{o f}(h:w.rangeAt b o (b_ f))(v)(hv:v<13):xO w b (o+v*5) (f v):=by
 have g:∀i,i<5->∀x,(hP (f v))[i]?=E x->w.cell? ⟨b,o+v*5+i,V⟩=E x:=λi hi x hx=>by rw[jr];exact h (v*5+i) x (by unfold b_;rw[Iw f 13 v i hv hi];exact hx)
 exact⟨g 0 (by omega) _ rfl,g 1 (by omega) _ rfl,g 2 (by omega) _ rfl,g 3 (by omega) _ rfl,g 4 (by omega) _ rfl⟩
theorem aJ.Su{s}(h:aJ w b T s)(x):aJ (w.setCell ⟨b,2,V⟩ (Z J x)) b T {s with cp:=x}:=by have:=bI w b 2 _ T (Z J x) h;rw[mv]at this;exact this
theorem aJ.SC{s}(h:aJ w b T s)(x):aJ (w.setCell ⟨b,3,V⟩ (Z J x)) b T {s with mp:=x}:=by have:=bI w b 3 _ T (Z J x) h;rw[mv]at this;exact this
theorem aJ.wM{s}(h:aJ w b T s)(v0 a1 a2 a3 v4 v5):
  aJ (w.setCells b 6 [v0,Z J a1,Z J a2,Z J a3,v4,v5]) b T {s with inp:=v0,ch:=a1,ms:=a2,sd:=a3,sm:=v4,ss:=v5}:=by have:=kI b T [v0,Z J a1,Z J a2,Z J a3,v4,v5] [Z J s.id,Z J s.ph,Z J s.cp,Z J s.mp,Z J s.n,Z J s.t] [s.inp,Z J s.ch,Z J s.ms,Z J s.sd,s.sm,s.ss] (b_ s.f++[s.told]) w rfl h;exact this
theorem aJ.gU{s}(h:aJ w b T s)(s'):aJ (w.setCells b 0 (cx s')) b T s':=by have:=kI b T (cx s') [] (cx s) [] w (by rw[gD,gD]) (by rw[ew];exact h);rw[ew]at this;exact this
theorem aJ.block{s}(h:aJ w b T s)(e:w'.1[b]?=w.1[b]?):aJ w' b T s:=e.trans h
theorem aJ.below{s}(h:aJ w b T s)(hb:af w.1.size w w'):aJ w' b T s:=h.block (hb.block b h.lt)
theorem aY.keep{zs}(h:aY w v zs)(hs:w.1.size<=w'.1.size)(hb:∀x,v.ownBlock=E x->w'.1[x]?=w.1[x]?):aY w' v zs:=by obtain⟨a,cap,h1,h2,h3,h4,h5⟩:=h;refine⟨a,cap,h1,h2,h3,h4,?_⟩;rcases h5 with h5|⟨b,off,e1,e2,e3⟩;exact .inl h5;refine .inr ⟨b,off,e1,cG e2 hs,λi hi=>?_⟩;rw[<-e3 i hi];exact ez (w:=w) (hb b (by rw[h1,e1];rfl))
theorem aX.keep (h:aX w v l)(hs:w.1.size<=w'.1.size)(hb:∀x,v.ownBlock=E x->w'.1[x]?=w.1[x]?):aX w' v l:=by obtain⟨a,cap,h1,h2,h3,h4,h5⟩:=h;refine⟨a,cap,h1,h2,h3,h4,?_⟩;rcases h5 with h5|⟨b,off,e1,e2,e3⟩;exact .inl h5;refine .inr ⟨b,off,e1,cG e2 hs,λi hi=>?_⟩;have hc:∀o,w'.cell? ⟨b,o,V⟩=w.cell? ⟨b,o,V⟩:=λo=>ez (w:=w) (hb b (by rw[h1,e1];rfl));obtain⟨i0,i1,i2,i3⟩:=e3 i hi;exact⟨(hc _).trans i0,(hc _).trans i1,(hc _).trans i2,(hc _).trans i3⟩
def eG (b:Nat)(s:PS)(x:Nat):Prop:=x=b\/s.inp.ownBlock=E x\/s.sm.ownBlock=E x\/s.ss.ownBlock=E x\/s.told.ownBlock=E x
end
section
open Go.ChangeShapes Go.WideShapes Go.ChangeAt Go.RowKit
def gh (S:PS):PS:=⟨S.id,0,S.cp,S.mp,0,0,U V 0 0,0,0,0,U V 0 0,U V 0 0,λ_=>Pr.z,U V 0 0⟩
theorem sI:(prog.info? 205).map (·.size)=E 78:=by kernel_rfl
theorem sq (s)(h1:s.inp.oneCell'=aa)(h2:s.sm.oneCell'=aa)(h3:s.ss.oneCell'=aa)(h4:s.told.oneCell'=aa):(cx s).toArray.all (·.oneCell')=aa:=by
 refine dN λv hv=>?_;unfold cx qK at hv;rcases cZ.1 hv with hv|hv;·simp only[List.mem_cons,List.not_mem_nil,or_false]at hv;rcases hv with rfl|rfl|rfl|rfl|rfl|rfl|rfl|rfl|rfl|rfl|rfl|rfl<;>first|rfl|assumption
 rcases cZ.1 hv with hv|hv;exact nO _ v hv;simp at hv;subst hv;exact h4
end
end Go.Proofs.YtchideljndagjabGreat


