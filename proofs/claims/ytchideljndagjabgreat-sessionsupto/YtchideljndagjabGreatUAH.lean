/- Joined -/
import Derived.Test.YtchideljndagjabGreatUAG
set_option linter.unusedVariables false
set_option maxHeartbeats 4000000
set_option maxRecDepth 100000
namespace Go.Proofs.YtchideljndagjabGreat
open aq aO bb eH
open Go.Value renaming int->Z,slice->U,bool->ak,pointer->aC,agg->aD
open Go.IntKind renaming i64->J
open Go.Obj renaming cells->ah
open Go.Ending renaming returned->az
open Option renaming none->V,some->E
open Bool renaming false->Y,true->aa
open Go renaming World->ac,Value->ag,Calls->ay,TypeId->cn
open Go.RowKit renaming Below->af,intOf->aA
abbrev fK:=@wpList_load_mid
abbrev ru:=@Proofs.Tryz.underlying36
abbrev xw:=@List.take_append_drop
abbrev jO:=@Nat.le_succ
abbrev FR:=@Proofs.Tryz.underlying147
abbrev pU:=@Calls.quiet_of_same
abbrev pV:=@Nat.not_lt_zero
abbrev FT:=@Nat.lt_of_lt_of_eq
abbrev sZ:=@World.size_alloc
open Go.Proofs.Tryz
open Go.ChangeShapes Go.WideShapes Go.ChangeAt Go.RowKit
variable {l:List aq.It}{b:Nat}{v:ag}{w w':ac}
def pA (f:Nat->Bool):ag:=aD (aN f).toArray
theorem mb:(prog.info? 36).map (·.size)=E 13:=by kernel_rfl
theorem zJ:(prog.info? 147).map (·.size)=E 4:=by kernel_rfl
theorem qO (k fr)(hl:aX w v l)(hr:bN l=aa):
  ay prog 276 #[aD #[Z J k,Z J fr,v]] w λe w'=>e=az (pA λu:Nat=>aP l u)/\af w.1.size w w':=by
 obtain⟨a,cap,rfl,l2,l3,_,aB⟩:=cK hl;have HC:=I aB;have HI:=I (λj (hj:j<l.length)=>(gm hr).2 (aq.it l j) (by rw[cd l j hj];exact cN hj));have ar:=I (CC l);clear hl hr aB;obtain⟨n,hn⟩:=aj l.length;rw[<-hn]at l2 HC HI ar ⊢;have aK:=A (l.take n=l) (by rw[hn,iF]);clear hn;unfold pA;go_enter func276,ntmps276;go_wp2;go_loopw [4] (λi wr=>∃j:Nat,j<=n/\i=Z J j/\wr.cell? ⟨w.1.size,2,V⟩=E (U a n cap)/\bZ wr (w.1.size+2) 36 (λv:Nat=>aP (l.take j) v)/\bZ wr (w.1.size+1) 36 (λ_=>Y)/\af w.1.size w wr) (λi _=>n-(aA i).toNat);case atStart=>
  refine⟨0,bi _,rfl,?_,?_,?_,(((ax _ _).alloc (aw _) _).alloc (by simp) _).alloc (by simp;omega) _⟩;have k1:af (w.1.size+1) (w.alloc (ah #[Z J k,Z J fr,U a n cap] 65)) (((w.alloc (ah #[Z J k,Z J fr,U a n cap] 65)).alloc (ah (aN λ_=>Y).toArray 36)).alloc (ah (aN λ_=>Y).toArray 36)):=((ax _ _).alloc (by simp) _).alloc (by simp) _;refine(k1.cell (p:=⟨w.1.size,2,V⟩) (by show w.1.size<_;omega)).trans ?_;simp;have e:(λv:Nat=>aP (l.take 0) v)=λ_=>Y:=by funext v;simp[aP]
  rw[e];have:=jN (w.alloc (ah #[Z J k,Z J fr,U a n cap] 65)) (ah (aN λ_=>Y).toArray 36) (ah (aN λ_=>Y).toArray 36);simp only[World.size_alloc]at this;exact this;have:=my (w.alloc (ah #[Z J k,Z J fr,U a n cap] 65)) (ah (aN λ_=>Y).toArray 36) (ah (aN λ_=>Y).toArray 36);simp only[World.size_alloc]at this;exact this
 obtain⟨j,hj,rfl,hc2,av,aF,au⟩:=hrel;have ac:=I av;have ae:=I aF;have HB:=I au;clear av au aF;by_cases hlt:j<n
 ·obtain⟨b',off,rfl,hb,hit⟩:=HC.o j hlt;obtain⟨d0,d1,d2,d3⟩:=hit.below hb HB.o;obtain⟨u,hu⟩:∃u:Nat,(aq.it l j).1=(u:Int):=⟨(aq.it l j).1.toNat,by have:=HI.o j hlt;omega⟩;have aC:=HI.o j hlt;rw[hu]at aC d0;have aG:u<13:=by omega
  have aM:(u:Int)<13:=by omega
  obtain⟨aO,aQ⟩:=aC;have aL:=I (ar.o j hlt u hu);have z0:=ac.o.cell u aG;have zf:=ac.o.bF u;have hne:(⟨w.1.size+2,u,V⟩:Addr)≠⟨w.1.size,2,V⟩:=by simp
  clear hit hu;generalize (aq.it l j).2.1=xa at*;generalize (aq.it l j).2.2.1=xb at*;generalize (aq.it l j).2.2.2=xc at*;have aH:=I hc2;go_wp2;go_roundw;case rel=> refine⟨j+1,by omega,by go_num,?_,?_,?_,HB.o.setCell (p:=⟨w.1.size+2,u,V⟩) (by show w.1.size<=w.1.size+2;omega) _⟩;rw[World.cell?_setCell_other _ _ _ _ hne];exact aH.o;rw[aL.o];exact ac.o.set u aG aa;exact ae.o.block (fI _ _ _ _ (by simp))
  simp[aA];omega
 have ej:j=n:=by omega
 subst ej;have HST:=A (bZ wr (w.1.size+2) 36 (λv:Nat=>aP l v)) (by have:=ac.o;rwa [aK.o]at this);have RG:=I HST.o.range;have LX:=I (eN (λv:Nat=>aP l v));have ai:=I (dN (ld (λv:Nat=>aP l v)));have ap:=I (show wr.there (w.1.size+1) 0 (aN (λv:Nat=>aP l v)).toArray.size from λi hi=>by rw[bR,eN]at hi;exact⟨by rw[cz,ae.o.cell i hi];rfl,by rw[cz];exact ae.o.bF i⟩);have ak:=I (show(wr.setCells (w.1.size+1) 0 (aN (λv:Nat=>aP l v))).1[w.1.size+1]?=E (ah (aN (λv:Nat=>aP l v)).toArray 36 (0,0))by have:=kI (w.1.size+1) 36 (aN (λv:Nat=>aP l v)) [] (aN λ_=>Y) [] wr rfl (by rw[ew];exact ae.o);rw[ew]at this;exact this);have BF:=A (af w.1.size w (wr.setCells (w.1.size+1) 0 (aN (λv:Nat=>aP l v)))) (dU (by omega) _ _ _ HB.o);obtain⟨O,ag⟩:=aj (aN (λv:Nat=>aP l v));rw[<-ag]at RG LX ai ap ak BF;have aI:=I ag;clear ag;have am:=A ((prog.info? 36).map (·.size)=E O.toArray.size) (by rw[mb,bR,LX.o]);have aJ:=A ((prog.info? 36).map (·.size)=E O.length) (by rw[mb,LX.o]);go_wp2_with(first|refine fK rfl 36 _ rfl (w.1.size+2) 0 rfl O _ RG.o ru rfl aJ.o ?_|refine cB rfl 36 _ _ rfl (w.1.size+1) 0 O.toArray rfl rfl ap.o am.o ai.o ?_);refine cQ (ic rfl _ _ (w.1.size+1) 36 O.toArray (0,0) _ rfl ak.o ru rfl am.o) rfl ?_;exact⟨by rw[aI.o],BF.o⟩
theorem qP (k fr u)(hl:aX w v l):
  ay prog 274 #[aD #[Z J k,Z J fr,v],Z J u] w λe w'=>e=az (aD #[Z J (aL l u).1,Z J (aL l u).2.1,Z J (aL l u).2.2.1,Z J (aL l u).2.2.2])/\af w.1.size w w':=by
 obtain⟨a,cap,rfl,l2,l3,_,ap⟩:=cK hl;have HC:=I ap;have HF:=I (show∀j,(∀i,i<j->(aq.it l i).1≠u)->j<l.length->(aq.it l j).1=u->aL l u=aq.it l j from λj hj hlt e=>by
  unfold aL;have hs:l=l.take j++(l[j]::l.drop (j+1)):=by rw[List.getElem_cons_drop,xw]
  have hnone:(l.take j).find? (λx=>decide (x.1=u))=V:=by rw[sT];intro x hx;obtain⟨i,hi,rfl⟩:=fT hx;rw[eV]at hi;rw[List.getElem_take];have:=hj i (by omega);rw[cd l i (by omega)]at this;simpa using this
  rw[cd l j hlt]at e;rw[cd l j hlt];conv=>lhs;rw[hs]
  rw[List.find?_append,hnone,List.find?_cons,aK e];rfl);have HN:=I (show(∀i,i<l.length->(aq.it l i).1≠u)->aL l u=(0,0,0,0)from λh=>qB (o_.2 λx hx=>by obtain⟨i,hi,rfl⟩:=fT hx;have:=h i hi;rwa [cd l i hi]at this));clear hl ap;generalize l.length=n at*;obtain⟨W0,hW0⟩:=aj ((w.alloc (ah #[Z J k,Z J fr,U a n cap] 65)).alloc (ah #[Z J 0,Z J 0,Z J 0,Z J 0] 147));have B0:=A (af w.1.size w W0) (by rw[hW0];exact((ax _ _).alloc (aw _) _).alloc (by simp) _);have x2:W0.cell? ⟨w.1.size,2,V⟩=E (U a n cap):=by rw[hW0];simp
 have am:=A (W0.1[w.1.size+1]?=E (ah #[Z J 0,Z J 0,Z J 0,Z J 0] 147 (0,0))) (by rw[hW0];exact jN w _ _);have y:(W0.cell? ⟨w.1.size+1,0,V⟩=E (Z J 0)/\W0.cell? ⟨w.1.size+1,1,V⟩=E (Z J 0)/\W0.cell? ⟨w.1.size+1,2,V⟩=E (Z J 0)/\W0.cell? ⟨w.1.size+1,3,V⟩=E (Z J 0)):=by rw[hW0];refine⟨?_,?_,?_,?_⟩<;>simp
 have yf:=λi=>eh W0 (w.1.size+1) i _ _ am.o;obtain⟨y0,y1,y2,y3⟩:=y;have ar:=I hW0;clear hW0
 have ai:=I (λ(p q r s:Int)=>(show(((((W0.setCell ⟨w.1.size+1,0,V⟩ (Z J p)).setCell ⟨w.1.size+1,1,V⟩ (Z J q)).setCell ⟨w.1.size+1,2,V⟩ (Z J r)).setCell ⟨w.1.size+1,3,V⟩ (Z J s)).1[w.1.size+1]?=E (ah #[Z J p,Z J q,Z J r,Z J s] 147 (0,0)))/\af w.1.size w ((((W0.setCell ⟨w.1.size+1,0,V⟩ (Z J p)).setCell ⟨w.1.size+1,1,V⟩ (Z J q)).setCell ⟨w.1.size+1,2,V⟩ (Z J r)).setCell ⟨w.1.size+1,3,V⟩ (Z J s))from
  ⟨bI _ _ 3 #[Z J p,Z J q,Z J r,Z J 0] _ _ (bI _ _ 2 #[Z J p,Z J q,Z J 0,Z J 0] _ _ (bI _ _ 1 #[Z J p,Z J 0,Z J 0,Z J 0] _ _ (bI _ _ 0 _ _ _ am.o))),
   (((B0.o.setCell (p:=⟨w.1.size+1,0,V⟩) (jO _) _).setCell (p:=⟨w.1.size+1,1,V⟩) (jO _) _).setCell (p:=⟨w.1.size+1,2,V⟩) (jO _) _).setCell (p:=⟨w.1.size+1,3,V⟩) (jO _) _⟩));go_enter func274,ntmps274;go_wp2_with fail;rw[<-ar.o];go_loop [5] (λi=>∃j:Nat,j<=n/\i=Z J j/\∀i',i'<j->(aq.it l i').1≠u) (λi=>n-(aA i).toNat);case atStart=>exact⟨0,bi _,rfl,λi h=>by omega⟩
 obtain⟨j,hj,rfl,hall⟩:=hrel;have HA:=I hall;clear hall;by_cases hlt:j<n
 ·obtain⟨b',off,rfl,hb,hit⟩:=HC.o j hlt;obtain⟨d0,d1,d2,d3⟩:=hit.below hb B0.o;clear hit;have ak:=I (HF.o j HA.o hlt);obtain⟨z0,z1,z2,z3,hz⟩:∃z0 z1 z2 z3,aq.it l j=(z0,z1,z2,z3):=⟨_,_,_,_,rfl⟩;rw[hz]at d0 d1 d2 d3 ak;have HZ:=I hz;clear hz;by_cases q:z0=u
  ·have q':(z0==u)=aa:=by simpa using q
   have HI:=I (ak.o q);have HQ:=I q;clear q;obtain⟨O,E2⟩:=ai.o z0 z1 z2 z3;obtain⟨W2,hW2⟩:=aj (((((W0.setCell ⟨w.1.size+1,0,V⟩ (Z J z0)).setCell ⟨w.1.size+1,1,V⟩ (Z J z1)).setCell ⟨w.1.size+1,2,V⟩ (Z J z2)).setCell ⟨w.1.size+1,3,V⟩ (Z J z3)));rw[<-hW2]at O E2;have ac:=I O;have ae:=I E2;have ag:=I hW2;clear O E2 hW2;go_wp2_with fail;rw[<-ag.o];refine cQ (ic rfl _ _ (w.1.size+1) 147 #[Z J z0,Z J z1,Z J z2,Z J z3] (0,0) _ rfl ac.o FR rfl zJ) rfl ?_;exact⟨by rw[HI.o],ae.o⟩
  have q':(z0==u)=Y:=by simpa using q
  have HQ:=I q;clear q;go_wp2;go_round;case rel=>exact⟨j+1,by omega,by go_num,λi' h=>by by_cases e:i'=j;subst e;rw[HZ.o];exact HQ.o;exact HA.o i' (by omega)⟩
  simp[aA];omega
 have ej:j=n:=by omega
 subst ej;have HI:=I (HN.o HA.o);obtain⟨O,E2⟩:=ai.o 0 0 0 0;obtain⟨W2,hW2⟩:=aj (((((W0.setCell ⟨w.1.size+1,0,V⟩ (Z J 0)).setCell ⟨w.1.size+1,1,V⟩ (Z J 0)).setCell ⟨w.1.size+1,2,V⟩ (Z J 0)).setCell ⟨w.1.size+1,3,V⟩ (Z J 0)));rw[<-hW2]at O E2;have ac:=I O;have ae:=I E2;have ag:=I hW2;clear O E2 hW2;go_wp2_with fail;rw[<-ag.o];refine cQ (ic rfl _ _ (w.1.size+1) 147 #[Z J 0,Z J 0,Z J 0,Z J 0] (0,0) _ rfl ac.o FR rfl zJ) rfl ?_;exact⟨by rw[HI.o],ae.o⟩
structure RS where
 c:Cl
 D:Int
 vi:ag
 vm:ag
 vs:ag
 hv:ag
 hi:ag
 ph:Int
 told:ag
def DU (s:RS):List ag:=[Z J s.c.N,Z J s.c.T,Z J s.c.M,Z J s.D,Z J s.c.id,s.vi,Z J s.c.ch,Z J s.c.ms,Z J s.c.sd,s.vm,s.vs,s.hv,s.hi,Z J s.ph,s.told]
def cA (w:ac)(b:Nat)(s:RS):Prop:=w.1[b]?=E (ah (DU s).toArray 178 (0,0))
theorem cA.lt{s}(h:cA w b s):b<w.1.size:=by by_cases hb:b<w.1.size;exact hb;unfold cA at h;rw[cT (by omega)]at h;cases h
theorem cA.cell{s}(h:cA w b s)(i):w.cell? ⟨b,i,V⟩=(DU s)[i]? :=by rw[bg w b i _ _ (0,0) h];simp
theorem cA.bF{s}(h:cA w b s)(i):w.frozen? ⟨b,i,V⟩=Y:=eh w b i _ _ h
theorem cA.block{s}(h:cA w b s)(e:w'.1[b]?=w.1[b]?):cA w' b s:=e.trans h
theorem cA.below{s}(h:cA w b s)(hb:af w.1.size w w'):cA w' b s:=h.block (hb.block b h.lt)
theorem cA.dz{s}(h:cA w b s):w.cell? ⟨b,0,V⟩=E (Z J s.c.N)/\w.cell? ⟨b,1,V⟩=E (Z J s.c.T)/\w.cell? ⟨b,2,V⟩=E (Z J s.c.M)/\w.cell? ⟨b,4,V⟩=E (Z J s.c.id)/\
  w.cell? ⟨b,6,V⟩=E (Z J s.c.ch)/\w.cell? ⟨b,7,V⟩=E (Z J s.c.ms)/\w.cell? ⟨b,8,V⟩=E (Z J s.c.sd):=
 ⟨h.cell 0,h.cell 1,h.cell 2,h.cell 4,h.cell 6,h.cell 7,h.cell 8⟩
theorem cA.vals{s}(h:cA w b s):w.cell? ⟨b,5,V⟩=E s.vi/\w.cell? ⟨b,9,V⟩=E s.vm/\w.cell? ⟨b,10,V⟩=E s.vs/\w.cell? ⟨b,11,V⟩=E s.hv/\w.cell? ⟨b,13,V⟩=E (Z J s.ph):=
 ⟨h.cell 5,h.cell 9,h.cell 10,h.cell 11,h.cell 13⟩
theorem Lr (W p q r s):((((((W.alloc (ah #[Z J 0,Z J 0,Z J 0,Z J 0] 147)).setCell ⟨W.1.size,0,V⟩ (Z J p)).setCell ⟨W.1.size,1,V⟩ (Z J q)).setCell ⟨W.1.size,2,V⟩ (Z J r)).setCell ⟨W.1.size,3,V⟩ (Z J s)).1[W.1.size]?=E (ah #[Z J p,Z J q,Z J r,Z J s] 147 (0,0)))/\
  af W.1.size W (((((W.alloc (ah #[Z J 0,Z J 0,Z J 0,Z J 0] 147)).setCell ⟨W.1.size,0,V⟩ (Z J p)).setCell ⟨W.1.size,1,V⟩ (Z J q)).setCell ⟨W.1.size,2,V⟩ (Z J r)).setCell ⟨W.1.size,3,V⟩ (Z J s)):=by refine⟨bI _ _ 3 #[Z J p,Z J q,Z J r,Z J 0] _ _ (bI _ _ 2 #[Z J p,Z J q,Z J 0,Z J 0] _ _ (bI _ _ 1 #[Z J p,Z J 0,Z J 0,Z J 0] _ _ (bI _ _ 0 _ _ _ (bo _ _)))),?_⟩;exact((((ax _ _).alloc (aw _) _).setCell (p:=⟨W.1.size,0,V⟩) (aw _) _).setCell (p:=⟨W.1.size,1,V⟩) (aw _) _).setCell (p:=⟨W.1.size,2,V⟩) (aw _) _ |>.setCell (p:=⟨W.1.size,3,V⟩) (aw _) _
theorem En{s}(h:cA w b s)(h1:0<=s.c.ch)(h2:s.c.ch<2305843009213693951)(h3:0<=s.c.ms)(h4:s.c.ms<2305843009213693951):
  ay prog 173 #[aC (E ⟨b,0,V⟩)] w λe w'=>e=az (aD #[Z J s.c.id,Z J (kj s.c),Z J (aO.eU s.c),Z J 0])/\af w.1.size w w':=by have ae:=I ((ax w.1.size w).alloc (aw _) (ah #[Z J 0,Z J 0,Z J 0,Z J 0] 147));obtain⟨_,_,_,x4,x6,x7,_⟩:=(h.below ae.o).dz;have yf:=λi=>eh (w.alloc (ah #[Z J 0,Z J 0,Z J 0,Z J 0] 147)) w.1.size i _ _ (bo w _);have yc:=λi=>bg (w.alloc (ah #[Z J 0,Z J 0,Z J 0,Z J 0] 147)) w.1.size i _ _ (0,0) (bo w _);have y0:=yc 0;have y1:=yc 1;have y2:=yc 2;have y3:=yc 3;simp only[List.getElem?_toArray,List.getElem?_cons_zero,List.getElem?_cons_succ]at y0 y1 y2 y3;have ak:=I (qL 37 (by omega) (by omega) s.c.ch.toNat s.c.ch);have am:=I (qL 37 (by omega) (by omega) s.c.ms.toNat s.c.ms);have O:=I (Lr w s.c.id (kj s.c) (aO.eU s.c) 0);have aa:=A (kj s.c=bB 37 s.c.ch) rfl;have ac:=A (aO.eU s.c=bB 37 s.c.ms) rfl;rw[aa.o,ac.o]at O;obtain⟨W0,hW0⟩:=aj (w.alloc (ah #[Z J 0,Z J 0,Z J 0,Z J 0] 147));rw[<-hW0]at x4 x6 x7 yf y0 y1 y2 y3 O;have ap:=I hW0;clear h yc hW0 ae;rw[aa.o,ac.o];generalize s.c.ch=ch at*;generalize s.c.ms=ms at*;generalize s.c.id=id at*;clear aa ac;generalize bB 37 ch=pa at*;generalize bB 37 ms=pb at*;go_enter func173,ntmps173;go_upto_region 1 with fail;rw[<-ap.o];go_wp2_with fail;refine aH (ak.o W0 (aw _) (by omega)) λw' hw'=>?_;rw[hw'];clear hw';go_wp2_with fail;refine aH (am.o W0 (aw _) (by omega)) λw' hw'=>?_;rw[hw'];clear hw';obtain⟨Y,E2⟩:=O.o;obtain⟨W2,hW2⟩:=aj (((((W0.setCell ⟨w.1.size,0,V⟩ (Z J id)).setCell ⟨w.1.size,1,V⟩ (Z J pa)).setCell ⟨w.1.size,2,V⟩ (Z J pb)).setCell ⟨w.1.size,3,V⟩ (Z J 0)));rw[<-hW2]at Y E2;have ag:=I Y;have ai:=I E2;have aq:=I hW2;clear Y E2 hW2 O;go_wp2_with fail;rw[<-aq.o];refine cQ (ic rfl _ _ w.1.size 147 #[Z J id,Z J pa,Z J pb,Z J 0] (0,0) _ rfl ag.o FR rfl zJ) rfl ?_;exact⟨rfl,ai.o⟩
theorem Uf (v):v.tmod 4294967296=if 0<=v then v%4294967296 else-((-v)%4294967296):=by
 by_cases h:0<=v;·rw[au h,FH h]
 rw[ar h,<-FH (show 0<= -v by omega),Int.neg_tmod,Int.neg_neg]
theorem Eh (v w)(h1: -4611686018427387904<=v)(h2:v<=4611686018427387904):
  ay prog 279 #[Z J v] w λe w'=>e=az (Z J (v%4294967296))/\w'=w:=by
 have ht:=Uf v;by_cases q:v.tmod 4294967296<0
 ·have O:=A (v.tmod 4294967296+4294967296=v%4294967296) (by split at ht<;>omega);have b1: -4294967296<v.tmod 4294967296:=by split at ht<;>omega
  clear ht;go_enter func279,ntmps279;go_wp2;go_ret;exact⟨by rw[<-O.o];go_num,rfl⟩
 have O:=A (v.tmod 4294967296=v%4294967296) (by split at ht<;>omega);clear ht;go_enter func279,ntmps279;go_wp2;go_ret;exact⟨by rw[<-O.o];go_num,rfl⟩
def ea (h:List aO.Fr)(j:Nat):aO.Fr:=h.getD j (0,0,[])
theorem oX (h j)(hj:j<h.length):ea h j=h[j]:=by unfold ea;rw[bG,aQ hj];rfl
def oH (w:ac)(v:ag)(h:List aO.Fr):Prop:=
 ∃(a:Option Addr)(cap:Nat),v=U a h.length cap/\h.length<=cap/\cap<=9223372036854775807/\
  ∀j,j<h.length->∃b off vj,a=E ⟨b,off,V⟩/\b<w.1.size/\w.cell? ⟨b,off+j*3,V⟩=E (Z J (ea h j).1)/\w.cell? ⟨b,off+j*3+1,V⟩=E (Z J (ea h j).2.1)/\w.cell? ⟨b,off+j*3+2,V⟩=E vj/\aX w vj (ea h j).2.2
theorem oH.below{h}(hf:oH w v h)(hb:af w.1.size w w'):oH w' v h:=by obtain⟨a,cap,h1,h2,h3,h4⟩:=hf;refine⟨a,cap,h1,h2,h3,λj hj=>?_⟩;obtain⟨b,off,vj,e1,e2,e3,e4,O,Y⟩:=h4 j hj;exact⟨b,off,vj,e1,cG e2 hb.size,(hb.cell (p:=⟨b,off+j*3,V⟩) e2).trans e3,(hb.cell (p:=⟨b,off+j*3+1,V⟩) e2).trans e4,(hb.cell (p:=⟨b,off+j*3+2,V⟩) e2).trans O,Y.below hb⟩
theorem GD (kd h k)(hk:k<h.length):dO kd (h.drop k)=if (ea h k).1=kd then E (ea h k,h.drop (k+1))else dO kd (h.drop (k+1)):=by rw[xj hk,oX h k hk];rfl
theorem Ed{s h}(kd fm)(hr:cA w b s)(hf:oH w s.hv h)(ae:fm<=h.length):
  ay prog 232 #[aC (E ⟨b,0,V⟩),Z J kd,Z J fm] w λe w'=>
   ((e=az (Z J (-1))/\dO kd (h.drop fm)=V)\/∃i:Nat,e=az (Z J i)/\fm<=i/\i<h.length/\dO kd (h.drop fm)=E (ea h i,h.drop (i+1)))/\w'=w:=by
 obtain⟨a,cap,hv,c2,c3,hc⟩:=hf;obtain⟨_,_,_,af,_⟩:=hr.vals;rw[hv]at af;have HC:=I hc;have HD:=I (λk (hk:k<h.length)=>GD kd h k hk);have HZ:=A (dO kd (h.drop h.length)=V) (by rw[List.drop_length];rfl);obtain⟨n,hn⟩:=aj h.length;rw[<-hn]at af c2 ae HC HD HZ ⊢;clear hc hn hr hv;go_enter func232,ntmps232;go_wp2;go_loop [7] (λi=>∃k:Nat,k<=n/\fm<=k/\i=Z J k/\dO kd (h.drop fm)=dO kd (h.drop k)) (λi=>n-(aA i).toNat);case atStart=>exact⟨fm,ae,aw _,rfl,rfl⟩
 obtain⟨k,hk,ag,rfl,hall⟩:=hrel;have O:=I hall;clear hall;by_cases hlt:k<n
 ·obtain⟨b',off,vj,rfl,hb',d0,_,_,_⟩:=HC.o k hlt;have ac:=I (HD.o k hlt);obtain⟨z,hz⟩:=aj ((ea h k).1);rw[<-hz]at d0 ac;clear hz;by_cases q:z=kd
  ·have q':(z==kd)=aa:=by simpa using q
   have HI:=A (dO kd (h.drop k)=E (ea h k,h.drop (k+1))) (by rw[ac.o,au q]);clear q;go_wp2;go_ret;exact⟨.inr ⟨k,by go_num,ag,hlt,O.o.trans HI.o⟩,rfl⟩
  have q':(z==kd)=Y:=by simpa using q
  have HI:=A (dO kd (h.drop k)=dO kd (h.drop (k+1))) (by rw[ac.o,ar q]);clear q;go_wp2;go_round;case rel=>exact⟨k+1,by omega,by omega,by go_num,O.o.trans HI.o⟩
  simp[aA];omega
 have ek:k=n:=by omega
 subst ek;go_wp2;go_ret;exact⟨.inl ⟨rfl,O.o.trans HZ.o⟩,rfl⟩
theorem DV{s}(k fr u)(h:cA w b s)(hl:aX w v l)(h1:0<=s.c.ch)(h2:s.c.ch<2305843009213693951)(h3:0<=(aL l u).2.1)(h4:(aL l u).2.1<2305843009213693951):
  ay prog 275 #[aC (E ⟨b,0,V⟩),aD #[Z J k,Z J fr,v],Z J u] w λe w'=>e=az (Z J (dh s.c l u))/\af w.1.size w w':=by
 obtain⟨W0,hW0⟩:=aj (w.alloc (ah #[Z J k,Z J fr,v] 65));have hb0:af w.1.size w W0:=by rw[hW0];exact(ax _ _).alloc (aw _) _
 have z0:w.1.size<W0.1.size:=by rw[hW0];simp
 have x:W0.cell? ⟨w.1.size,0,V⟩=E (Z J k)/\W0.cell? ⟨w.1.size,1,V⟩=E (Z J fr)/\W0.cell? ⟨w.1.size,2,V⟩=E v:=by rw[hW0];refine⟨?_,?_,?_⟩<;>simp
 obtain⟨x0,x1,x2⟩:=x;have HI:=I (qP k fr u (hl.below hb0));have HR:=I (h.below hb0);have HP:=I (qL (aL l u).2.1 h3 h4 s.c.ch.toNat s.c.ch);have aa:=I hb0;have ag:=I hW0;unfold dh;clear h hl hW0 hb0;generalize aL l u=t at*;obtain⟨t0,t1,t2,t3⟩:=t;simp only at h3 h4;go_enter func275,ntmps275;go_upto_region 1 with fail;rw[<-ag.o];go_wp2_with fail;refine aH HI.o λw1 hb1=>?_;have s1:=hb1.size;have Y:=bo w1 (ah #[Z J t0,Z J t1,Z J t2,Z J t3] 147);have O:=(ax w1.1.size w1).alloc (aw _) (ah #[Z J t0,Z J t1,Z J t2,Z J t3] 147);have s2:w1.1.size<(w1.alloc (ah #[Z J t0,Z J t1,Z J t2,Z J t3] 147)).1.size:=by simp
 obtain⟨W2,hW2⟩:=aj (w1.alloc (ah #[Z J t0,Z J t1,Z J t2,Z J t3] 147));rw[<-hW2]at Y O s2;have e1:=bg W2 w1.1.size 1 _ _ (0,0) Y;simp only[List.getElem?_toArray,List.getElem?_cons_zero,List.getElem?_cons_succ]at e1;have ae:=I ((HR.o.below hb1).below O);obtain⟨_,_,_,_,x6,_,_⟩:=ae.o.dz;have ac:=A (af w.1.size w W2) ((aa.o.trans (hb1.mono (by omega))).trans (O.mono (by omega)));have ai:=I hW2;clear Y O hW2 hb1;go_upto_region 2 with fail;rw[<-ai.o];go_quiet ((go_at_call 148;refine pU (HP.o _ (aw _) (by omega))));go_wp2;go_ret;exact⟨rfl,ac.o.trans ((below_drewN W2 _).mono (by omega))⟩
theorem QK{s}(k fr u)(h:cA w b s)(hl:aX w v l)(h1:0<=s.c.ms)(h2:s.c.ms<2305843009213693951)(h3:0<=(aL l u).2.2.1)(h4:(aL l u).2.2.1<2305843009213693951):
  ay prog 278 #[aC (E ⟨b,0,V⟩),aD #[Z J k,Z J fr,v],Z J u] w λe w'=>e=az (Z J (eK s.c l u))/\af w.1.size w w':=by
 obtain⟨W0,hW0⟩:=aj (w.alloc (ah #[Z J k,Z J fr,v] 65));have hb0:af w.1.size w W0:=by rw[hW0];exact(ax _ _).alloc (aw _) _
 have z0:w.1.size<W0.1.size:=by rw[hW0];simp
 have x:W0.cell? ⟨w.1.size,0,V⟩=E (Z J k)/\W0.cell? ⟨w.1.size,1,V⟩=E (Z J fr)/\W0.cell? ⟨w.1.size,2,V⟩=E v:=by rw[hW0];refine⟨?_,?_,?_⟩<;>simp
 obtain⟨x0,x1,x2⟩:=x;have HI:=I (qP k fr u (hl.below hb0));have HR:=I (h.below hb0);have HP:=I (qL (aL l u).2.2.1 h3 h4 s.c.ms.toNat s.c.ms);have aa:=I hb0;have ag:=I hW0;unfold eK;clear h hl hW0 hb0;generalize aL l u=t at*;obtain⟨t0,t1,t2,t3⟩:=t;simp only at h3 h4;go_enter func278,ntmps278;go_upto_region 1 with fail;rw[<-ag.o];go_wp2_with fail;refine aH HI.o λw1 hb1=>?_;have s1:=hb1.size;have Y:=bo w1 (ah #[Z J t0,Z J t1,Z J t2,Z J t3] 147);have O:=(ax w1.1.size w1).alloc (aw _) (ah #[Z J t0,Z J t1,Z J t2,Z J t3] 147);have s2:w1.1.size<(w1.alloc (ah #[Z J t0,Z J t1,Z J t2,Z J t3] 147)).1.size:=by simp
 obtain⟨W2,hW2⟩:=aj (w1.alloc (ah #[Z J t0,Z J t1,Z J t2,Z J t3] 147));rw[<-hW2]at Y O s2;have e1:=bg W2 w1.1.size 2 _ _ (0,0) Y;simp only[List.getElem?_toArray,List.getElem?_cons_zero,List.getElem?_cons_succ]at e1;have ae:=I ((HR.o.below hb1).below O);obtain⟨_,_,_,_,_,x6,_⟩:=ae.o.dz;have ac:=A (af w.1.size w W2) ((aa.o.trans (hb1.mono (by omega))).trans (O.mono (by omega)));have ai:=I hW2;clear Y O hW2 hb1;go_upto_region 2 with fail;rw[<-ai.o];go_quiet ((go_at_call 148;refine pU (HP.o _ (aw _) (by omega))));go_wp2;go_ret;exact⟨rfl,ac.o.trans ((below_drewN W2 _).mono (by omega))⟩
theorem su{zs}(h:aY w v zs):
  ay prog 211 #[v] w λe w'=>e=az (ak (zs.all aG))/\w'=w:=by
 obtain⟨a,cap,rfl,h2,h3,hc⟩:=pk h;have HC:=I hc;clear hc h;generalize hn:zs.length=n at*;have O:=I hn;clear hn;go_enter func211,ntmps211;go_wp2;go_loop [3] (λi=>∃k:Nat,k<=n/\i=Z J k/\(zs.take k).all aG=aa) (λi=>n-(aA i).toNat);case atStart=>exact⟨0,bi _,rfl,rfl⟩
 obtain⟨k,hk,rfl,hall⟩:=hrel;have HA:=I hall;clear hall;by_cases hlt:k<n
 ·obtain⟨b,off,rfl,c0⟩:=HC.o k hlt;obtain⟨z,hz⟩:=aj (zs.getD k 0);rw[<-hz]at c0;have Y:=I hz;clear hz;by_cases h1:z<0;·go_wp2;go_ret;exact⟨cg (λx=>Ending.returned (ak x)) (xW zs k (by rw[O.o];exact hlt) (by rw[<-Y.o];omega)).symm,rfl⟩
  by_cases h2:z<2305843009213693951
  ·go_wp2;go_round;case rel=>exact⟨k+1,by omega,by go_num,Bl zs k (by rw[O.o];exact hlt) HA.o (by rw[<-Y.o];omega)⟩
   simp[aA];omega
  go_wp2;go_ret;exact⟨cg (λx=>Ending.returned (ak x)) (xW zs k (by rw[O.o];exact hlt) (by rw[<-Y.o];omega)).symm,rfl⟩
 go_wp2;go_ret;exact⟨cg (λx=>Ending.returned (ak x)) (Bg zs k (by rw[O.o];omega) HA.o).symm,rfl⟩
theorem wK (s){zs}(x)(h:aY w v zs)(hall:zs.all aG=aa)(hs:0<=s)(ac:s<2305843009213693951)(hx:0<=x)(ae:x<2305843009213693951)(hlen:zs.length<=1000):
  ay prog 212 #[Z J s,v,Z J x] w λe w'=>e=az (Z J (bW s zs x))/\w'=w:=by
 obtain⟨a,cap,rfl,h2,h3,hc⟩:=pk h;have HC:=I hc;have HA:=I hall;clear hc h hall;generalize hn:zs.length=n at*;have O:=I hn;clear hn;go_enter func212,ntmps212;go_wp2;go_loop [7,8] (λu i=>∃k:Nat,k<=n/\i=Z J k/\u=Z J (bW s (zs.take k) x)) (λ_ i=>n-(aA i).toNat);case atStart=>exact⟨0,by omega,rfl,by rw[List.take_zero,Pu s x hs ac]⟩
 obtain⟨k,hk,rfl,rfl⟩:=hrel;by_cases hlt:k<n
 ·obtain⟨b,off,rfl,c0⟩:=HC.o k hlt;obtain⟨z,hz⟩:=aj (zs.getD k 0);have Y:=Bf HA.o k (by rw[O.o];omega);rw[<-hz]at c0 Y;have HP:=I (Pv s zs k x (by rw[O.o];exact hlt));have HZ:=I hz;clear hz;obtain⟨e1,e2⟩:=Y;have l1:=Pt s (zs.take k) x;have l2:=Ps s (zs.take k) x;generalize bW s (zs.take k) x=u at*;go_wp2_with fail;refine aI (qL _ hx ae _ _ _ (aw _) (by omega)) ?_;go_wp2_with fail;refine aI (nk e1 e2 (ki _ _) (kh _ _)) ?_;go_wp2_with fail;refine aI (pz l1 l2 (iO) (iN)) ?_;go_wp2;go_round;case rel=>exact⟨k+1,by omega,by go_num,by rw[<-HP.o,HZ.o]⟩
  simp[aA];omega
 have ek:k=n:=by omega
 subst ek;have H:=A (bW s (zs.take k) x=bW s zs x) (by rw[kt (by rw[O.o];exact aw _)]);generalize bW s (zs.take k) x=u at*;go_wp2;go_ret;exact⟨cg (λx=>Ending.returned (Z J x)) H.o,rfl⟩
theorem Rb{s}(k1 f1 k2 f2 v1 v2 u)(h:cA w b s)(hc:dr s.c)(hm:aY w s.vm s.c.sm)(hs:aY w s.vs s.c.ss)(hu:u=s.c.id):
  ay prog 277 #[aC (E ⟨b,0,V⟩),aD #[Z J k1,Z J f1,v1],aD #[Z J k2,Z J f2,v2],Z J u] w λe w'=>
   e=az (.tuple #[Z J (bW s.c.ms s.c.sm s.c.id),Z J (bW s.c.sd s.c.ss s.c.id),ak aa])/\af w.1.size w w':=by
 have hbl:=h.lt;obtain⟨W0,hW0⟩:=aj ((w.alloc (ah #[Z J k1,Z J f1,v1] 65)).alloc (ah #[Z J k2,Z J f2,v2] 65));have hb0:af w.1.size w W0:=by rw[hW0];exact((ax _ _).alloc (aw _) _).alloc (by simp) _
 obtain⟨_,_,_,x4,x6,x7,x8⟩:=(h.below hb0).dz;obtain⟨_,x9,ae,_,_⟩:=(h.below hb0).vals;have q:(u==s.c.id)=aa:=by simpa using hu
 have gi:=hc.i;have gn:=hc.n;have gt:=hc.t;obtain⟨m1,m2⟩:=hc.ms;obtain⟨d1,d2⟩:=hc.sd;have l1:=hc.zQ;have l2:=hc.zS;have am:=bj W0 λW hb=>wK s.c.ms s.c.id ((hm.below hb0).below hb) hc.sm m1 m2 (by omega) (by omega) (by omega);have ap:=bj W0 λW hb=>wK s.c.sd s.c.id ((hs.below hb0).below hb) hc.ss d1 d2 (by omega) (by omega) (by omega);have z0:w.1.size<=W0.1.size:=hb0.size;have ai:=I hb0;have aq:=I hW0;have Y:b<W0.1.size:=by omega
 have ar:=I (And.intro x4 (And.intro x8 ae));clear hW0 hb0 h hm hs l1 l2 m1 m2 d1 d2 gi gn gt hc hu;generalize bW s.c.ms s.c.sm s.c.id=pm at*;generalize bW s.c.sd s.c.ss s.c.id=ps at*;generalize s.c.ms=ms at*;generalize s.c.sd=sd at*;generalize s.c.id=id at*;generalize s.vm=vm at*;generalize s.vs=vs at*;go_enter func277,ntmps277;go_upto_region 1 with fail;rw[<-aq.o];go_upto_region 2 with fail;go_quiet ((go_at_call 212;refine pU (am.o _ (below_drewN _ _))));have O:=I (below_drewN W0 nq);obtain⟨y4,y8,ac⟩:=ar.o;replace y4:=(O.o.cell (p:=⟨b,4,V⟩) Y).trans y4;replace y8:=(O.o.cell (p:=⟨b,8,V⟩) Y).trans y8;replace ac:=(O.o.cell (p:=⟨b,10,V⟩) Y).trans ac;obtain⟨W1,hW1⟩:=aj (W0.drewN nq);rw[<-hW1]at O y4 y8 ac ⊢;have s1:=O.o.size;clear hW1 x4 x6 x7 x8 x9 ae;go_upto_region 3 with fail;go_quiet ((go_at_call 212;refine pU (ap.o _ (O.o.trans ((below_drewN _ _).mono s1)))));go_wp2_with fail;go_ret3;exact⟨rfl,(ai.o.trans (O.o.mono z0)).trans ((below_drewN W1 _).mono (by omega))⟩
theorem Er{s}(k1 f1 k2 f2){v1 v2 lk lb}(u)(h:cA w b s)(hk:aX w v1 lk)(hb:aX w v2 lb)(hc:dr s.c)(hu:u≠s.c.id)(u1:1<=u)(u2:u<=12)(h3:0<=(aL lk u).2.1)(h4:(aL lk u).2.1<2305843009213693951)(hA:0<=(aL lb u).2.1)(aF:(aL lb u).2.1<2305843009213693951)(hB:0<=(aL lb u).2.2.1)(aG:(aL lb u).2.2.1<2305843009213693951)(hC:0<=(aL lb u).2.2.2)(aI:(aL lb u).2.2.2<2305843009213693951):
  ay prog 277 #[aC (E ⟨b,0,V⟩),aD #[Z J k1,Z J f1,v1],aD #[Z J k2,Z J f2,v2],Z J u] w λe w'=>
   ∃m q,e=az (.tuple #[Z J m,Z J q,ak (gR s.c lk lb u)])/\(gR s.c lk lb u=aa->m=j' s.c lk lb u/\q=jH s.c lk lb u)/\af w.1.size w w':=by
 have hbl:=h.lt;obtain⟨W0,hW0⟩:=aj ((w.alloc (ah #[Z J k1,Z J f1,v1] 65)).alloc (ah #[Z J k2,Z J f2,v2] 65));have hb0:af w.1.size w W0:=by rw[hW0];exact((ax _ _).alloc (aw _) _).alloc (by simp) _
 have z0:w.1.size+1<W0.1.size:=by rw[hW0];simp
 have x:(W0.cell? ⟨w.1.size,0,V⟩=E (Z J k1)/\W0.cell? ⟨w.1.size,1,V⟩=E (Z J f1)/\W0.cell? ⟨w.1.size,2,V⟩=E v1)/\(W0.cell? ⟨w.1.size+1,0,V⟩=E (Z J k2)/\W0.cell? ⟨w.1.size+1,1,V⟩=E (Z J f2)/\W0.cell? ⟨w.1.size+1,2,V⟩=E v2):=by rw[hW0];refine⟨⟨?_,?_,?_⟩,⟨?_,?_,?_⟩⟩<;>simp
 obtain⟨⟨x0,x1,x2⟩,HX⟩:=x;have HY:=I HX;obtain⟨_,_,_,x4,_,_,_⟩:=(h.below hb0).dz;have q:(u==s.c.id)=Y:=by simpa using hu
 have gi:=hc.i;have gn:=hc.n;obtain⟨c1,c2⟩:=hc.ch;have aS:=I (DV k1 f1 u (h.below hb0) (hk.below hb0) c1 c2 h3 h4);have aU:=bj W0 λW hw=>qP k2 f2 u ((hb.below hb0).below hw);have HR:=I (h.below hb0);have aR:=I hb0;have aW:=I hW0;have ai:=A (gR s.c lk lb u=decide (fj (dh s.c lk u) (64*u+4*s.c.id) (aL lb u).2.1 (aL lb u).2.2.1=(aL lb u).2.2.2)) rfl;have av:=A (j' s.c lk lb u=dA (aL lb u).2.1 (bL (dh s.c lk u) (64*u+4*s.c.id))) (ar hu);have aA:=A (jH s.c lk lb u=dA (aL lb u).2.2.1 (bL (dh s.c lk u) (64*u+4*s.c.id+1))) (ar hu);have e1:=ki (aL lk u).2.1 s.c.ch;have e2:=kh (aL lk u).2.1 s.c.ch;have aV:=A (0<=dh s.c lk u/\dh s.c lk u<2305843009213693951) ⟨e1,e2⟩;clear h hk hb hW0 hb0 c1 c2 hc hu e1 e2 h3 h4;generalize gR s.c lk lb u=ob at*;generalize j' s.c lk lb u=aZ at*;generalize jH s.c lk lb u=a_ at*;generalize dh s.c lk u=key at*;generalize aL lb u=t at*;obtain⟨t0,t1,t2,t3⟩:=t;simp only at hA aF hB aG hC aI ai av aA;obtain⟨id,aN⟩:=aj s.c.id;rw[<-aN]at q gi x4 ai av aA;have aT:=I aN;clear aN;obtain⟨i1,i2⟩:=gi;have i12:id<=12:=by omega
 obtain⟨aP,aQ⟩:=aV.o;go_enter func277,ntmps277;go_upto_region 1 with fail;rw[<-aW.o];go_wp2_with fail;refine aH aS.o λw1 hb1=>?_;have s1:=hb1.size;obtain⟨y0,y1,y2⟩:=HY.o;replace y0:=(hb1.cell (p:=⟨w.1.size+1,0,V⟩) z0).trans y0;replace y1:=(hb1.cell (p:=⟨w.1.size+1,1,V⟩) z0).trans y1;replace y2:=(hb1.cell (p:=⟨w.1.size+1,2,V⟩) z0).trans y2;have ap:=I hb1;clear hb1 x0 x1 x2 x4;go_wp2_with fail;refine aH (aU.o w1 ap.o) λw2 hb2=>?_;have s2:=hb2.size;have E1:=bo w2 (ah #[Z J t0,Z J t1,Z J t2,Z J t3] 147);have E2:=(ax w2.1.size w2).alloc (aw _) (ah #[Z J t0,Z J t1,Z J t2,Z J t3] 147);have s3:w2.1.size<(w2.alloc (ah #[Z J t0,Z J t1,Z J t2,Z J t3] 147)).1.size:=by simp
 obtain⟨W3,hW3⟩:=aj (w2.alloc (ah #[Z J t0,Z J t1,Z J t2,Z J t3] 147));rw[<-hW3]at E1 E2 s3;have e1:=bg W3 w2.1.size 1 _ _ (0,0) E1;have e2:=bg W3 w2.1.size 2 _ _ (0,0) E1;have e3:=bg W3 w2.1.size 3 _ _ (0,0) E1;simp only[List.getElem?_toArray,List.getElem?_cons_zero,List.getElem?_cons_succ]at e1 e2 e3;obtain⟨_,_,_,x4,_,_,_⟩:=(((HR.o.below ap.o).below hb2).below E2).dz;rw[<-aT.o]at x4;have aO:=A (af w.1.size w W3) (((aR.o.trans (ap.o.mono (by omega))).trans (hb2.mono (by omega))).trans (E2.mono (by omega)));have aY:=I hW3;have hb3:b<W3.1.size:=by omega
 clear E1 E2 hW3 hb2 y0 y1 y2;go_upto_region 7 with fail;rw[<-aY.o];by_cases qt:fj key (64*u+4*id) t1 t2=t3
 ·have HO:=A (ob=aa) (by rw[ai.o];exact aK qt);have HT:=A ((fj key (64*u+4*id) t1 t2 != t3)=Y) (by simpa using qt);have am:=I (λ(W:ac)=>PQ key u id t1 t2 t3 W aP aQ u1 u2 i1 i12 hA aF hB aG hC aI HT.o);clear qt;rw[<-av.o,<-aA.o]at am;refine nA (by kernel_rfl) (by kernel_rfl) ?_;intro aB GG hI hG aJ ae;repeat(go_big_quiet_step (first|(go_at_call 165;exact lW hG ae (am.o _))))
  refine oC ?_;intro w5 hw';obtain⟨g,hw''⟩:=hw';have O:=hG.o g;rw[<-hw'']at O;have au:=I (aO.o.trans (O.mono (by omega)));clear hw'' aJ ae hG g hI GG aB O;go_wp2_with fail;go_ret3;exact⟨aZ,a_,by rw[HO.o];rfl,λ_=>⟨rfl,rfl⟩,au.o⟩
 have HO:=A (ob=Y) (by rw[ai.o];exact aM qt);have HT:=A ((fj key (64*u+4*id) t1 t2 != t3)=aa) (by simpa using qt);have am:=I (λ(W:ac)=>PO key u id t1 t2 t3 W aP aQ u1 u2 i1 i12 hA aF hB aG hC aI HT.o);clear qt;refine nA (by kernel_rfl) (by kernel_rfl) ?_;intro aB GG hI hG aJ ae;repeat(go_big_quiet_step (first|(go_at_call 165;exact lW hG ae (am.o _))))
 refine oC ?_;intro w5 hw';obtain⟨g,hw''⟩:=hw';have O:=hG.o g;rw[<-hw'']at O;have au:=I (aO.o.trans (O.mono (by omega)));clear hw'' aJ ae hG g hI GG aB O;go_wp2_with fail;go_ret3;exact⟨0,0,by rw[HO.o];rfl,(λhh:ob=aa=>absurd (HO.o.symm.trans hh) (by decide)),au.o⟩
theorem QP{W:ac}{g p q r s}(h:W.1[g]?=E (ah #[Z J 0,Z J 0,Z J 0,Z J 0] 147 (0,0))):
  ((((W.setCell ⟨g,0,V⟩ (Z J p)).setCell ⟨g,1,V⟩ (Z J q)).setCell ⟨g,2,V⟩ (Z J r)).setCell ⟨g,3,V⟩ (Z J s)).1[g]?=E (ah #[Z J p,Z J q,Z J r,Z J s] 147 (0,0)):=
 bI _ _ 3 #[Z J p,Z J q,Z J r,Z J 0] _ _ (bI _ _ 2 #[Z J p,Z J q,Z J 0,Z J 0] _ _ (bI _ _ 1 #[Z J p,Z J 0,Z J 0,Z J 0] _ _ (bI _ _ 0 _ _ _ h)))
theorem Lo{W0 w1}(t0 t1 t2 t3)(h:af W0.1.size W0 w1):∃g,Value.pointer (E ⟨w1.1.size,0,V⟩)=aC (E ⟨g,0,V⟩)/\
  (w1.alloc (ah #[Z J t0,Z J t1,Z J t2,Z J t3] 147)).1[g]?=E (ah #[Z J t0,Z J t1,Z J t2,Z J t3] 147 (0,0))/\af W0.1.size W0 (w1.alloc (ah #[Z J t0,Z J t1,Z J t2,Z J t3] 147)):=⟨_,rfl,bo _ _,h.alloc h.size _⟩
theorem Lp (W0 w1 n t0 t1 t2 t3)(hr:w1.1[n]?=E (ah #[Z J 0,Z J 0,Z J 0,Z J 0] 147 (0,0)))(h:af W0.1.size W0 w1)(hn:W0.1.size<=n):
  ∃g,Value.pointer (E ⟨n,0,V⟩)=aC (E ⟨g,0,V⟩)/\((((w1.setCell ⟨n,0,V⟩ (Z J t0)).setCell ⟨n,1,V⟩ (Z J t1)).setCell ⟨n,2,V⟩ (Z J t2)).setCell ⟨n,3,V⟩ (Z J t3)).1[g]?=E (ah #[Z J t0,Z J t1,Z J t2,Z J t3] 147 (0,0))/\
   af W0.1.size W0 ((((w1.setCell ⟨n,0,V⟩ (Z J t0)).setCell ⟨n,1,V⟩ (Z J t1)).setCell ⟨n,2,V⟩ (Z J t2)).setCell ⟨n,3,V⟩ (Z J t3)):=
 ⟨_,rfl,QP hr,(((h.setCell (p:=⟨n,0,V⟩) hn _).setCell (p:=⟨n,1,V⟩) hn _).setCell (p:=⟨n,2,V⟩) hn _).setCell (p:=⟨n,3,V⟩) hn _⟩
theorem QH{s}(kd fr)(h:cA w b s)(hl:aX w v l)(hc:dr s.c):
  ay prog 233 #[aC (E ⟨b,0,V⟩),aD #[Z J kd,Z J fr,v]] w λe w'=>e=az (ak (gB s.c l))/\af w.1.size w w':=by
 have hbl:=h.lt;obtain⟨W0,hW0⟩:=aj (w.alloc (ah #[Z J kd,Z J fr,v] 65));have hb0:af w.1.size w W0:=by rw[hW0];exact(ax _ _).alloc (aw _) _
 have z0:w.1.size<W0.1.size:=by rw[hW0];simp
 have HX:=A (W0.cell? ⟨w.1.size,0,V⟩=E (Z J kd)/\W0.cell? ⟨w.1.size,1,V⟩=E (Z J fr)/\W0.cell? ⟨w.1.size,2,V⟩=E v) (by rw[hW0];refine⟨?_,?_,?_⟩<;>simp);have am:=bj W0 λW hb=>qP kd fr s.c.id ((hl.below hb0).below hb);have aV:=bj W0 λW hb=>En ((h.below hb0).below hb) hc.ch.1 hc.ch.2 hc.ms.1 hc.ms.2;have HN:=bj W0 λW hb=>((h.below hb0).below hb).dz;have ar:=A (gB s.c l=((l.all λx=>decide (x.1<=s.c.N))&&(decide (s.c.T<=(l.length:Int))&&(decide ((aL l s.c.id).1=s.c.id)&&(decide ((aL l s.c.id).2.1=kj s.c)&&decide ((aL l s.c.id).2.2.1=aO.eU s.c)))))) rfl;have ag:=I hb0;have aB:=I hW0;obtain⟨a,cap,hv,l2,l3,_,aU⟩:=cK hl;have aQ:=I (show∀k,k<l.length->∃b' off,a=E ⟨b',off,V⟩/\b'<W0.1.size/\rC W0 b' (off+k*4) (aq.it l k)from λk hk=>by obtain⟨b',off,e1,e2,e3⟩:=aU k hk;exact⟨b',off,e1,cG e2 hb0.size,e3.below e2 hb0⟩);rw[hv]at HX;have aJ:=I (λk (hk:k<l.length)(bc:s.c.N<(aq.it l k).1)=>(show(l.all λx=>decide (x.1<=s.c.N))=Y from kU.2 ⟨aq.it l k,CT hk,by rw[aM (by omega)];exact dR⟩));have aP:=I (λ(hall:∀j,j<l.length->(aq.it l j).1<=s.c.N)=>(show(l.all λx=>decide (x.1<=s.c.N))=aa from fk.2 λx hx=>by obtain⟨i,hi,rfl⟩:=fT hx;have:=hall i hi;rw[cd l i hi]at this;exact aK this));clear h hl aU hW0 hb0 hc;generalize gB s.c l=res at*;generalize (l.all λx=>decide (x.1<=s.c.N))=bb at*;generalize aL l s.c.id=t at*;obtain⟨t0,t1,t2,t3⟩:=t;generalize kj s.c=pa at*;generalize aO.eU s.c=pb at*;simp only at ar;rw[hv];rw[hv]at am aB;clear hv;obtain⟨n,hn⟩:=aj l.length;rw[<-hn]at l2 HX ar aQ aJ aP am aB ⊢;clear hn;generalize s.c.N=N at*;generalize s.c.T=T at*;generalize s.c.id=id at*;generalize s.c.M=M at*;generalize s.c.ch=ch at*;generalize s.c.ms=ms at*;generalize s.c.sd=sd at*;go_enter func233,ntmps233;go_upto_region 1 with fail;rw[<-aB.o];go_wp2;go_loopw [5] (λi wr=>∃j:Nat,j<=n/\i=Z J j/\(∀i',i'<j->(aq.it l i').1<=N)/\af W0.1.size W0 wr) (λi _=>n-(aA i).toNat);case atStart=>exact⟨0,bi _,rfl,λi h=>absurd h (pV _),ax _ _⟩
 obtain⟨j,hj,rfl,hall,ac⟩:=hrel;have HA:=I hall;have HB:=I ac;have hsz:=ac.size;obtain⟨x0,x1,x2⟩:=HX.o;replace x0:=(ac.cell (p:=⟨w.1.size,0,V⟩) z0).trans x0;replace x1:=(ac.cell (p:=⟨w.1.size,1,V⟩) z0).trans x1;replace x2:=(ac.cell (p:=⟨w.1.size,2,V⟩) z0).trans x2;obtain⟨y0,_,_,y4,_,_,_⟩:=HN.o _ ac;clear hall ac;by_cases hlt:j<n
 ·obtain⟨b',off,rfl,hb,hit⟩:=aQ.o j hlt;obtain⟨d0,_,_,_⟩:=hit.below hb HB.o;clear hit;have aN:=I (aJ.o j hlt);obtain⟨x,hx⟩:=aj ((aq.it l j).1);rw[<-hx]at d0 aN;have aZ:=I hx;clear hx;have aT:b<wr.1.size:=by have:=ag.o.size;omega
  by_cases q:N<x;·have H:=A (res=Y) (by rw[ar.o,aN.o q,iD]);go_wp2_with fail;go_quiet (fail);go_wp2;go_ret;exact⟨aF H.o.symm,(ag.o.trans (HB.o.mono (by omega))).trans ((below_drewN _ _).mono (by omega))⟩
  go_wp2_with fail;go_quiet (fail);go_wp2;go_roundw;case rel=>exact⟨j+1,by omega,by go_num,λi' h=>by by_cases e:i'=j;subst e;rw[<-aZ.o];omega;exact HA.o i' (by omega),HB.o.trans ((below_drewN _ _).mono (by omega))⟩
  simp[aA];omega
 have ej:j=n:=by omega
 subst ej;have ap:=A (res=(decide (T<=(j:Int))&&(decide (t0=id)&&(decide (t1=pa)&&decide (t2=pb))))) (by rw[ar.o,aP.o HA.o,eE]);have aT:b<wr.1.size:=by have:=ag.o.size;omega
 have hzz:w.1.size<wr.1.size:=by omega
 have a_:∀(ob:Obj)(o:Nat),(wr.alloc ob).cell? ⟨b,o,V⟩=wr.cell? ⟨b,o,V⟩:=λob o=>((ax wr.1.size wr).alloc (aw _) ob).cell (p:=⟨b,o,V⟩) aT;have ba:∀(ob:Obj)(o:Nat),(wr.alloc ob).cell? ⟨w.1.size,o,V⟩=wr.cell? ⟨w.1.size,o,V⟩:=λob o=>((ax wr.1.size wr).alloc (aw _) ob).cell (p:=⟨w.1.size,o,V⟩) hzz;go_upto_region 6 with fail;go_cut [6]from 27 to 32 (λp wc=>∃g,p=aC (E ⟨g,0,V⟩)/\wc.1[g]?=E (ah #[Z J t0,Z J t1,Z J t2,Z J t3] 147 (0,0))/\af W0.1.size W0 wc);case first=>
  go_region_with (go_at_call 274;first
   |(refine(am.o _ HB.o.drew).mono ?_;rintro e w1 ⟨rfl,hb1⟩;have aS:=I (Lo t0 t1 t2 t3 (HB.o.drew.trans (hb1.mono hsz)));clear hb1)
   |(refine(am.o _ (HB.o.alloc hsz _).drew).mono ?_;rintro e w1 ⟨rfl,hb1⟩;have ae:=(hb1.block wr.1.size (FT (pR _) (sZ _ _).symm)).trans (bo wr _);have r0:=bg w1 wr.1.size 0 _ _ (0,0) ae;have r1:=bg w1 wr.1.size 1 _ _ (0,0) ae;have r2:=bg w1 wr.1.size 2 _ _ (0,0) ae;have r3:=bg w1 wr.1.size 3 _ _ (0,0) ae;simp only[List.getElem?_toArray,List.getElem?_cons_zero,List.getElem?_cons_succ]at r0 r1 r2 r3;have rf:=λi=>eh w1 wr.1.size i _ _ ae;have aS:=I (Lp W0 w1 wr.1.size t0 t1 t2 t3 ae ((HB.o.alloc hsz _).drew.trans (hb1.mono (fJ hsz (nH (FT (pR _) (sZ _ _).symm))))) hsz);clear hb1 ae));all_goals(go_wp2;go_meet;exact aS.o)
 obtain⟨g,rfl,hrow,aI⟩:=hcut;have aW:=I hrow;have aR:=I aI;have sc:=aI.size;have hg:g<wc.1.size:=by by_cases hb:g<wc.1.size;exact hb;rw[cT (by omega)]at hrow;cases hrow
 clear hrow aI x0 x1 x2 y0 y4 a_ ba;go_wp2_with fail;refine aH (aV.o wc aR.o) λw3 hb3=>?_;have s3:=hb3.size;have E1:=bo w3 (ah #[Z J id,Z J pa,Z J pb,Z J 0] 147);have E2:=(ax w3.1.size w3).alloc (aw _) (ah #[Z J id,Z J pa,Z J pb,Z J 0] 147);have s4:w3.1.size<(w3.alloc (ah #[Z J id,Z J pa,Z J pb,Z J 0] 147)).1.size:=by simp
 obtain⟨O,aG⟩:=aj (w3.alloc (ah #[Z J id,Z J pa,Z J pb,Z J 0] 147));rw[<-aG]at E1 E2 s4;have e1:=bg O w3.1.size 1 _ _ (0,0) E1;have e2:=bg O w3.1.size 2 _ _ (0,0) E1;have hb4:af wc.1.size wc O:=hb3.trans (E2.mono s3);have au:=(hb4.block g hg).trans aW.o;have i0:=bg O g 0 _ _ (0,0) au;have i1:=bg O g 1 _ _ (0,0) au;have i2:=bg O g 2 _ _ (0,0) au;simp only[List.getElem?_toArray,List.getElem?_cons_zero,List.getElem?_cons_succ]at e1 e2 i0 i1 i2;have av:=A (af W0.1.size W0 O) (aR.o.trans (hb4.mono sc));obtain⟨_,y1,_,y4,_,_,_⟩:=HN.o _ av.o;obtain⟨_,_,x2⟩:=HX.o;replace x2:=(av.o.cell (p:=⟨w.1.size,2,V⟩) z0).trans x2;have aY:=I aG;have ai:=I (λnq=>(ag.o.trans (av.o.mono (by omega))).trans ((below_drewN O nq).mono (by omega)));clear E1 E2 aG hb3 hb4 au;go_upto_region 8 with fail;rw[<-aY.o];by_cases q1:T<=(j:Int)
 ·have p1:decide (T<=(j:Int))=aa:=aK q1;by_cases q2:t0=id
  ·have p2:(t0==id)=aa:=by simpa using q2
   by_cases q3:t1=pa
   ·have p3:(t1==pa)=aa:=by simpa using q3
    have HF:=A (res=(t2==pb)) (by rw[ap.o,aK q1,aK q2,aK q3];by_cases q:t2=pb<;>simp[q]);clear q2 q3;go_quiet (fail);go_wp2;go_ret;exact⟨aF HF.o.symm,ai.o _⟩
   have p3:(t1==pa)=Y:=by simpa using q3
   have HF:=A (res=Y) (by rw[ap.o,aM q3];simp);clear q2 q3;go_quiet (fail);go_wp2;go_ret;exact⟨aF HF.o.symm,ai.o _⟩
  have p2:(t0==id)=Y:=by simpa using q2
  have HF:=A (res=Y) (by rw[ap.o,aM q2];simp);clear q2;go_quiet (fail);go_wp2;go_ret;exact⟨aF HF.o.symm,ai.o _⟩
 have p1:decide (T<=(j:Int))=Y:=aM q1;have HF:=A (res=Y) (by rw[ap.o,p1];rfl);go_quiet (fail);go_wp2;go_ret;exact⟨aF HF.o.symm,ai.o _⟩
def dc (w:ac)(b:Nat)(k fr:Int)(v:ag):Prop:=w.cell? ⟨b,0,V⟩=E (Z J k)/\w.cell? ⟨b,1,V⟩=E (Z J fr)/\w.cell? ⟨b,2,V⟩=E v
theorem dc.below{B k fr}(h:dc w b k fr v)(hb:af B w w')(hB:b<B):dc w' b k fr v:=
 ⟨(hb.cell (p:=⟨b,0,V⟩) hB).trans h.1,(hb.cell (p:=⟨b,1,V⟩) hB).trans h.2.1,(hb.cell (p:=⟨b,2,V⟩) hB).trans h.2.2⟩
theorem dc.new (w:ac)(k fr v):dc (w.alloc (ah #[Z J k,Z J fr,v] 65)) w.1.size k fr v:=by refine⟨?_,?_,?_⟩<;>simp
theorem dc.alloc{k fr}(h:dc w b k fr v)(hb:b<w.1.size)(ob):dc (w.alloc ob) b k fr v:=h.below ((ax _ _).alloc (aw _) ob) hb
theorem Cv (w:ac)(k1 f1 k2 f2 k3 f3 v1 v2 v3):dc (((w.alloc (ah #[Z J k1,Z J f1,v1] 65)).alloc (ah #[Z J k2,Z J f2,v2] 65)).alloc (ah #[Z J k3,Z J f3,v3] 65)) w.1.size k1 f1 v1/\
  dc (((w.alloc (ah #[Z J k1,Z J f1,v1] 65)).alloc (ah #[Z J k2,Z J f2,v2] 65)).alloc (ah #[Z J k3,Z J f3,v3] 65)) (w.1.size+1) k2 f2 v2/\
  dc (((w.alloc (ah #[Z J k1,Z J f1,v1] 65)).alloc (ah #[Z J k2,Z J f2,v2] 65)).alloc (ah #[Z J k3,Z J f3,v3] 65)) (w.1.size+2) k3 f3 v3:=by refine⟨((dc.new w k1 f1 v1).alloc (by simp) _).alloc (by simp;omega) _,?_,?_⟩;have h:=dc.new (w.alloc (ah #[Z J k1,Z J f1,v1] 65)) k2 f2 v2;rw[sZ]at h;exact h.alloc (by simp) _;have h:=dc.new ((w.alloc (ah #[Z J k1,Z J f1,v1] 65)).alloc (ah #[Z J k2,Z J f2,v2] 65)) k3 f3 v3;rw[sZ,sZ]at h;exact h
theorem Bv (w:ac)(T f):bZ (w.alloc (ah (aN f).toArray T)) w.1.size T f:=bo w _
theorem Hz (w:ac)(f g){T}:bZ ((w.alloc (ah (aN f).toArray T)).setCells w.1.size 0 (aN g)) w.1.size T g:=by have:=kI w.1.size T (aN g) [] (aN f) [] (w.alloc (ah (aN f).toArray T)) rfl (by rw[ew];exact bo w _);rw[ew]at this;exact this
theorem HA (w:ac)(T):(w.alloc (ah (aN λ_=>Y).toArray T)).there w.1.size 0 13:=λj hj=>
 ⟨by rw[cz,(Bv w T (λ_=>Y)).cell j hj];rfl,by rw[cz];exact(Bv w T (λ_=>Y)).bF j⟩
theorem rU (w1 F O)(h:O=aN F):
  (w1.alloc (ah #[ak Y,ak Y,ak Y,ak Y,ak Y,ak Y,ak Y,ak Y,ak Y,ak Y,ak Y,ak Y,ak Y] 36)).there w1.1.size 0 O.toArray.size/\
  af w1.1.size w1 ((w1.alloc (ah #[ak Y,ak Y,ak Y,ak Y,ak Y,ak Y,ak Y,ak Y,ak Y,ak Y,ak Y,ak Y,ak Y] 36)).setCells w1.1.size 0 O)/\
  bZ ((w1.alloc (ah #[ak Y,ak Y,ak Y,ak Y,ak Y,ak Y,ak Y,ak Y,ak Y,ak Y,ak Y,ak Y,ak Y] 36)).setCells w1.1.size 0 O) w1.1.size 36 F:=by subst h;exact⟨HA w1 36,dU (aw _) _ _ _ ((ax _ _).alloc (aw _) _),Hz w1 (λ_=>Y) F⟩
theorem rV (F O)(h:O=aN F):O.toArray.all (·.oneCell')=aa/\(prog.info? 36).map (·.size)=E O.toArray.size:=by subst h;exact⟨dN (ld F),by rw[mb,bR,eN]⟩
theorem qA{v}(h:aP l v=aa):aL l v∈l:=by
 unfold aL
 cases e:l.find? (λx=>decide (x.1=v))with
 |none=> rw[sT]at e;obtain⟨x,hx,hv⟩:=jC.1 h;exact absurd (aK hv) (e x hx)
 |some x=>exact xk e
theorem Bj {p:Int->Bool}(hr:bN l=aa)(h:∀v:Nat,1<=v->v<13->aP l v=aa->p v=aa):(l.all λx=>p x.1)=aa:=by rw[fk];intro x hx;have hi:=(gm hr).2 x hx;obtain⟨u,hu⟩:∃u:Nat,x.1=(u:Int):=⟨x.1.toNat,by omega⟩;have:=h u (by omega) (by omega) (jC.2 ⟨x,hx,hu⟩);rw[hu];exact this
theorem Bk{p:Int->Bool}{v}(hv:aP l v=aa)(h:p v=Y):(l.all λx=>p x.1)=Y:=by obtain⟨x,hx,e⟩:=jC.1 hv;rw[kU];exact⟨x,hx,by rw[e,h];exact dR⟩
end Go.Proofs.YtchideljndagjabGreat


