/- Joined -/
import Derived.Test.YtchideljndagjabGreatUAP
set_option linter.unusedVariables false
set_option maxHeartbeats 4000000
set_option maxRecDepth 100000
namespace Go.Proofs.YtchideljndagjabGreat
open Go.Value renaming int->Z,slice->U,bool->ak,pointer->aC,agg->aD,tuple->br
open Go.IntKind renaming i64->J
open Go.Obj renaming cells->ah
open Go.Ending renaming returned->az
open Or renaming inl->ae,inr->Q
open Option renaming none->V,some->E
open Go renaming World->ac,Value->ag,Calls->ay
open Go.RowKit renaming Below->af,intOf->aA
open Go.Proofs.Tryz
variable {a:Option Addr}
section
open Go.RowKit
def rT (w:ac)(g n:Nat)(D:Nat->DD)(i:Nat)(wr:ac):Prop:=
 ∃G,bp wr g 117 ((n+3)*6) (λt=>if t/6<i then cD n G D t else oh (U V 0 0) (Z J 0) (Z J 0) (Z J 0) (U V 0 0) (U V 0 0) (t%6))/\
  (∀i' k,i'<i->i'<n->k<3->g<G i' k/\G i' k<wr.1.size/\wr.1[G i' k]?=E (ah (given (dl (D i') k) 3).toArray 3 (0,0)))/\
  (∀i' k' O Y,i'<i->i'<n->k'<3->O<i->O<n->Y<3->G i' k'=G O Y->i'=O/\k'=Y)/\af g w wr
theorem Kn{w wr W g n D i}(h:rT w g n D i wr)(hn:n<=i)(hi:i<n+3)(hb:af wr.1.size wr W)(hg:w.1.size=g):
  rT w g n D (i+1) (iz W g (i*6) (U V 0 0) (Z J 77) (Z J 77) (Z J 77) (U V 0 0) (U V 0 0)):=by
 obtain⟨G,h1,h2,h3,h4⟩:=h;have hc:=zG W g (i*6) (U V 0 0) (Z J 77) (Z J 77) (Z J 77) (U V 0 0) (U V 0 0);have O:=h1.lt;have s1:=hb.size;have s2:=hc.size;refine⟨G,?_,λi' k ag Y hk=>?_,λi' k' aa ae a1 a2 a3 b1 b2 b3 e=>h3 i' k' aa ae (by omega) a2 a3 (by omega) b2 b3 e,(h4.trans (hb.mono (by omega))).trans (hc.below (by omega) (λb e=>by omega))⟩
 ·refine((h1.block (hb.block g O)).iz i (by omega) _ _ _ _ _ _).ext (λt ht=>?_);by_cases e:t/6=i;·rw[au e,au (by omega)];unfold cD;rw[ar (by omega)]
  rw[ar e];by_cases e2:t/6<i;·rw[au e2,au (by omega)]
  rw[ar e2,ar (by omega)]
 obtain⟨q1,q2,q3⟩:=h2 i' k (by omega) Y hk;exact⟨q1,by omega,by rw[hc.block _ (by omega) (by omega),hb.block _ q2];exact q3⟩
theorem Km{w wr W g n D i g0 g1 g2}(h:rT w g n D i wr)(hi:i<n)(hb:af wr.1.size wr W)(hg:w.1.size=g)(q0:wr.1.size<=g0/\g0<g1/\g1<g2/\g2<W.1.size)(r0:W.1[g0]?=E (ah (given (D i).inp 3).toArray 3 (0,0)))(r1:W.1[g1]?=E (ah (given (D i).sm 3).toArray 3 (0,0)))(r2:W.1[g2]?=E (ah (given (D i).ss 3).toArray 3 (0,0))):
  rT w g n D (i+1) (iz W g (i*6) (dX g0 (D i).inp) (Z J (D i).ch) (Z J (D i).ms) (Z J (D i).sd) (dX g1 (D i).sm) (dX g2 (D i).ss)):=by
 obtain⟨G,h1,h2,h3,h4⟩:=h;have hc:=zG W g (i*6) (dX g0 (D i).inp) (Z J (D i).ch) (Z J (D i).ms) (Z J (D i).sd) (dX g1 (D i).sm) (dX g2 (D i).ss);have ag:=h1.lt;have s1:=hb.size;have s2:=hc.size;obtain⟨G',ae⟩:∃G':Nat->Nat->Nat,G'=λi' k=>if i'=i then(if k=0 then g0 else if k=1 then g1 else g2)else G i' k:=⟨_,rfl⟩;have ga:∀k,G' i k=if k=0 then g0 else if k=1 then g1 else g2:=λk=>by rw[ae];exact au rfl
 have Y:∀i' k,i'≠i->G' i' k=G i' k:=λi' k hne=>by rw[ae];exact ar hne
 refine⟨G',?_,λi' k aj ai hk=>?_,λi' k' aa O a1 a2 a3 b1 b2 b3 e=>?_,(h4.trans (hb.mono (by omega))).trans (hc.below (by omega) (λb e=>by omega))⟩
 ·refine((h1.block (hb.block g ag)).iz i (by omega) _ _ _ _ _ _).ext (λt ht=>?_);by_cases e:t/6=i;rw[au e,au (by omega)];unfold cD;rw[au (by omega),e,ga 0,ga 1,ga 2];rfl;rw[ar e];by_cases e2:t/6<i;·rw[au e2,au (by omega)];unfold cD;rw[au (by omega),au (by omega),Y _ 0 e,Y _ 1 e,Y _ 2 e]
  rw[ar e2,ar (by omega)]
 ·by_cases e:i'=i;·subst e;rw[ga k];rcases(show k=0\/k=1\/k=2 by omega)with rfl|rfl|rfl;exact⟨by show g<g0;omega,by show g0<_;omega,by show(iz W g (i'*6) _ _ _ _ _ _).1[g0]?=_;rw[hc.block _ (by omega) (by omega)];exact r0⟩;exact⟨by show g<g1;omega,by show g1<_;omega,by show(iz W g (i'*6) _ _ _ _ _ _).1[g1]?=_;rw[hc.block _ (by omega) (by omega)];exact r1⟩;exact⟨by show g<g2;omega,by show g2<_;omega,by show(iz W g (i'*6) _ _ _ _ _ _).1[g2]?=_;rw[hc.block _ (by omega) (by omega)];exact r2⟩
  rw[Y i' k e];obtain⟨q1,q2,q3⟩:=h2 i' k (by omega) ai hk;exact⟨q1,by omega,by rw[hc.block _ (by omega) (by omega),hb.block _ q2];exact q3⟩
 by_cases e1:i'=i
 ·by_cases e2:aa=i;·subst e1;subst e2;rw[ga,ga]at e;refine⟨rfl,?_⟩;rcases(show k'=0\/k'=1\/k'=2 by omega)with rfl|rfl|rfl<;>rcases(show O=0\/O=1\/O=2 by omega)with rfl|rfl|rfl<;>simp at e ⊢ <;>omega
  exfalso;subst e1;rw[ga,Y aa O e2]at e;have:=(h2 aa O (by omega) b2 b3).2.1;rcases(show k'=0\/k'=1\/k'=2 by omega)with rfl|rfl|rfl<;>simp at e<;>omega
 by_cases e2:aa=i;·exfalso;subst e2;rw[ga,Y i' k' e1]at e;have:=(h2 i' k' (by omega) a2 a3).2.1;rcases(show O=0\/O=1\/O=2 by omega)with rfl|rfl|rfl<;>simp at e<;>omega
 rw[Y i' k' e1,Y aa O e2]at e;exact h3 i' k' aa O (by omega) a2 a3 (by omega) b2 b3 e
theorem Kp{n cap vi vm vs D w}(h:jP w a n cap vi vm vs D)(hb:(n+3)*96<=140737488355328)(hl:∀i k,i<n->k<3->(dl (D i) k).length*8<=140737488351232):
  ay prog 100 #[U a n cap] w λe w'=>∃g,e=az (U (E ⟨g,0,V⟩) n (n+3))/\w.1.size<=g/\∃G,bp w' g 117 ((n+3)*6) (cD n G D)/\ig w' w.1.size g n G D/\af w.1.size w w':=by
 obtain⟨i0,hi,hz0,hz1,hz2⟩:=bO KX;have HD:=I h;have aN:=I hl;have bk:=I (λ(W:ac)(hb':af w.1.size w W)(i:Nat)(hi:i<n)=>(show mW W (vi i) (vm i) (vs i) (D i)from(h.its i hi).below hb'));have bh:=I (λ(W:ac)(hb':af w.1.size w W)(i:Nat)(hi:i<n)=>(h.below hb').cells i hi);clear h hl;have en:((n:Int)+3).toNat=n+3:=by omega
 go_enter func100,ntmps100;go_wp2_with(at_make;refine uH _ rfl _ _ 27 rfl w.1.size 117 i0 (aD #[U V 0 0,Z J 0,Z J 0,Z J 0,U V 0 0,U V 0 0]) 6 underlying27 hi hz0 hz1 _ _ _ _ (n+3) rfl rfl (by omega) (by omega) ?m1 ?m2 ?m3 ?_);case m1=>rw[hz2];omega
 case m2=>unfold maxLen;omega
 case m3=>exact aw _
 intro w2 bb aY;have hr:=QO bb;have hb2:af w.1.size w w2:=(ax _ _).grown aY (aw _) (by simp);rw[Nm]at hr;have R0:=A (rT w w.1.size n D 0 w2) ⟨λ_ _=>0,bp.ext (f:=λt=>oh (U V 0 0) (Z J 0) (Z J 0) (Z J 0) (U V 0 0) (U V 0 0) (t%6)) hr (λt ht=>by rw[ar (by omega)]),λi' k bz=>by omega,λi' k' bC bD bz=>by omega,hb2⟩;clear hr hb2 bb aY;generalize hg:w.1.size=B at*;have HG:=I hg;clear hg;go_wp2;go_loopw [4] (λi wr=>∃j:Nat,j<=n+3/\i=Z J j/\rT w B n D j wr) (λi _=>n+3-(aA i).toNat);case atStart=>exact⟨0,bi _,rfl,R0.o⟩
 clear R0;obtain⟨j,hj,rfl,hrel⟩:=hrel;have HR:=I hrel;obtain⟨Y,r1,_,_,aK⟩:=hrel;have gl:=r1.lt;by_cases hlt:j<n+3
 ·by_cases aq:j<n
  ·have bA:(j:Int)<(n:Int):=by omega
   have aU:=A (af B w wr) aK;obtain⟨b',off,rfl,hb',e0,e1,e2,e3,e4,e5⟩:=bh.o wr aU.o j aq;obtain⟨li,lm,ls,_,_,_⟩:=bk.o wr aU.o j aq;have aF:=bj wr λW hb'=>yy (li.below hb') (aN.o j 0 aq (by omega));have aG:=bj wr λW hb'=>yy (lm.below hb') (aN.o j 1 aq (by omega));have aH:=bj wr λW hb'=>yy (ls.below hb') (aN.o j 2 aq (by omega));have ae:=I (λ(W:ac)(g0 g1 g2:Nat)(hb:af wr.1.size wr W) q0 r0 r1 r2=>Km (W:=W) (g0:=g0) (g1:=g1) (g2:=g2) HR.o aq hb HG.o q0 r0 r1 r2);obtain⟨a1,c1,aM,-⟩:=li;obtain⟨a2,c2,hv2,-⟩:=lm;obtain⟨a3,c3,hv3,-⟩:=ls;unfold dX at ae;obtain⟨Z1,aV⟩:∃aB,aB=(D j).inp:=⟨_,rfl⟩;obtain⟨Z2,aW⟩:∃aB,aB=(D j).sm:=⟨_,rfl⟩;obtain⟨Z3,aX⟩:∃aB,aB=(D j).ss:=⟨_,rfl⟩;rw[<-aV]at aF ae aM;rw[<-aW]at aG ae hv2;rw[<-aX]at aH ae hv3;obtain⟨n1,aZ⟩:∃n,n=Z1.length:=⟨_,rfl⟩;obtain⟨n2,a_⟩:∃n,n=Z2.length:=⟨_,rfl⟩;obtain⟨n3,ba⟩:∃n,n=Z3.length:=⟨_,rfl⟩;rw[<-aZ]at aF ae aM;rw[<-a_]at aG ae hv2;rw[<-ba]at aH ae hv3;rw[aM]at e0 aF;rw[hv2]at e4 aG;rw[hv3]at e5 aH;generalize (D j).ch=ch at*;generalize (D j).ms=ms at*;generalize (D j).sd=sd at*;have al:∀(ob:Obj)(o:Nat),(wr.alloc ob).cell? ⟨b',o,V⟩=wr.cell? ⟨b',o,V⟩:=λob o=>((ax wr.1.size wr).alloc (aw _) ob).cell (p:=⟨b',o,V⟩) hb';obtain⟨X,hX⟩:=aj (wr.alloc (ah #[U a1 n1 c1,Z J ch,Z J ms,Z J sd,U a2 n2 c2,U a3 n3 c3] 117));have am:af wr.1.size wr X:=by rw[hX];exact(ax _ _).alloc (aw _) _
   have BX:=I am;have bx:gG X wr.1.size (U a1 n1 c1) (Z J ch) (Z J ms) (Z J sd) (U a2 n2 c2) (U a3 n3 c3):=by rw[hX];exact bo wr _
   have bg:=I bx;have sX:X.1.size=wr.1.size+1:=by rw[hX];simp
   have HX:=I hX;have HE:=A (∀W,af wr.1.size wr W->W.cell? ⟨b',off+j*6,V⟩=E (U a1 n1 c1)/\W.cell? ⟨b',off+j*6+4,V⟩=E (U a2 n2 c2)/\W.cell? ⟨b',off+j*6+5,V⟩=E (U a3 n3 c3)) (λW hb=>⟨(hb.cell (p:=⟨b',off+j*6,V⟩) hb').trans e0,(hb.cell (p:=⟨b',off+j*6+4,V⟩) hb').trans e4,(hb.cell (p:=⟨b',off+j*6+5,V⟩) hb').trans e5⟩);have R1:=I r1;clear hX am bx aM hv2 hv3 aZ a_ ba aV aW aX r1 aK;go_upto_region 8 with fail;rw[<-HX.o];clear e0 e1 e2 e3 e4 e5 al;obtain⟨e0,_,_⟩:=HE.o X BX.o;go_wp2_with fail;refine(aF.o X BX.o).mono ?_;rintro e w3 ⟨g0,hg0,rfl,aL,hb3⟩;have s3:=hb3.size;have bu:g0<w3.1.size:=by by_cases hb:g0<w3.1.size;exact hb;rw[cT (by omega)]at aL;cases aL
   have aP:=bg.o.below hb3 (by omega);obtain⟨⟨x0,x1,x2,x3,x4,x5⟩,xf⟩:=aP.cells;obtain⟨W3,hW3⟩:=aj (w3.setCell ⟨wr.1.size,0,V⟩ (U (E ⟨g0,0,V⟩) n1 (n1+3)));have hc3:av (λx=>x=wr.1.size) w3 W3:=by rw[hW3];exact av.setCell w3 ⟨wr.1.size,0,V⟩ _
   have z3:=hc3.size;have B3:=A (af wr.1.size wr W3) ((BX.o.trans (hb3.mono (by omega))).trans (hc3.below (by omega) (λx e=>by omega)));have bc:=A (gG W3 wr.1.size (U (E ⟨g0,0,V⟩) n1 (n1+3)) (Z J ch) (Z J ms) (Z J sd) (U a2 n2 c2) (U a3 n3 c3)) (by rw[hW3];exact aP.zE _);have br:=A (W3.1[g0]?=E (ah (given Z1 3).toArray 3 (0,0))) (by rw[hc3.block g0 bu (by omega)];exact aL);have bl:=I hW3;clear hW3 hc3 aP aL hb3 e0;go_upto_region 9 with fail;rw[<-bl.o];clear x0 x1 x2 x3 x4 x5 xf;obtain⟨_,e4,_⟩:=HE.o W3 B3.o;go_wp2_with fail;refine(aG.o W3 B3.o).mono ?_;rintro e w4 ⟨g1,bB,rfl,hr1,hb4⟩;have s4:=hb4.size;have bv:g1<w4.1.size:=by by_cases hb:g1<w4.1.size;exact hb;rw[cT (by omega)]at hr1;cases hr1
   have aQ:=bc.o.below hb4 (by omega);obtain⟨⟨x0,x1,x2,x3,x4,x5⟩,xf⟩:=aQ.cells;obtain⟨W4,aI⟩:=aj (w4.setCell ⟨wr.1.size,4,V⟩ (U (E ⟨g1,0,V⟩) n2 (n2+3)));have aC:av (λx=>x=wr.1.size) w4 W4:=by rw[aI];exact av.setCell w4 ⟨wr.1.size,4,V⟩ _
   have z4:=aC.size;have B4:=A (af wr.1.size wr W4) ((B3.o.trans (hb4.mono (by omega))).trans (aC.below (by omega) (λx e=>by omega)));have bf:=A (gG W4 wr.1.size (U (E ⟨g0,0,V⟩) n1 (n1+3)) (Z J ch) (Z J ms) (Z J sd) (U (E ⟨g1,0,V⟩) n2 (n2+3)) (U a3 n3 c3)) (by rw[aI];exact aQ.zF _);have bt:=A (W4.1[g1]?=E (ah (given Z2 3).toArray 3 (0,0))) (by rw[aC.block g1 bv (by omega)];exact hr1);have bq:=A (W4.1[g0]?=E (ah (given Z1 3).toArray 3 (0,0))) (by rw[aC.block g0 (by omega) (by omega),hb4.block g0 (by omega)];exact br.o);have bm:=I aI;clear aI aC aQ hr1 hb4 e4;go_upto_region 10 with fail;rw[<-bm.o];clear x0 x1 x2 x3 x4 x5 xf;obtain⟨_,_,e5⟩:=HE.o W4 B4.o;go_wp2_with fail;refine(aH.o W4 B4.o).mono ?_;rintro e w5 ⟨g2,hg2,rfl,hr2,ak⟩;have s5:=ak.size;have bw:g2<w5.1.size:=by by_cases hb:g2<w5.1.size;exact hb;rw[cT (by omega)]at hr2;cases hr2
   have aR:=bf.o.below ak (by omega);obtain⟨⟨x0,x1,x2,x3,x4,x5⟩,xf⟩:=aR.cells;obtain⟨W5,aJ⟩:=aj (w5.setCell ⟨wr.1.size,5,V⟩ (U (E ⟨g2,0,V⟩) n3 (n3+3)));have ap:av (λx=>x=wr.1.size) w5 W5:=by rw[aJ];exact av.setCell w5 ⟨wr.1.size,5,V⟩ _
   have z5:=ap.size;have aS:af wr.1.size wr W5:=(B4.o.trans (ak.mono (by omega))).trans (ap.below (by omega) (λx e=>by omega));have aT:gG W5 wr.1.size (U (E ⟨g0,0,V⟩) n1 (n1+3)) (Z J ch) (Z J ms) (Z J sd) (U (E ⟨g1,0,V⟩) n2 (n2+3)) (U (E ⟨g2,0,V⟩) n3 (n3+3)):=by rw[aJ];exact aR.Ss _
   have ai:=I (ae.o W5 g0 g1 g2 aS ⟨by omega,by omega,by omega,by omega⟩ (by rw[ap.block g0 (by omega) (by omega),ak.block g0 (by omega)];exact bq.o) (by rw[ap.block g1 (by omega) (by omega),ak.block g1 (by omega)];exact bt.o) (by rw[ap.block g2 bw (by omega)];exact hr2));have bn:=I aJ;have O:=R1.o.block (aS.block B gl);obtain⟨⟨y0,y1,y2,y3,y4,y5⟩,yf⟩:=aT.cells;have c0:=O.cell (j*6) (by omega);have c1:=O.cell (j*6+1) (by omega);have c2:=O.cell (j*6+2) (by omega);have c3:=O.cell (j*6+3) (by omega);have c4:=O.cell (j*6+4) (by omega);have c5:=O.cell (j*6+5) (by omega);have cf:=λt=>O.bF t;obtain⟨W9,aa⟩:=aj (iz W5 B (j*6) (U (E ⟨g0,0,V⟩) n1 (n1+3)) (Z J ch) (Z J ms) (Z J sd) (U (E ⟨g1,0,V⟩) n2 (n2+3)) (U (E ⟨g2,0,V⟩) n3 (n3+3)));rw[<-aa]at ai;unfold iz at aa;have aO:=I aa;clear aJ ap aR hr2 ak e5 aa O aT aS sX;generalize (if j*6/6<j then cD n Y D (j*6)else _)=u0 at c0;generalize (if (j*6+1)/6<j then cD n Y D (j*6+1)else _)=u1 at c1;generalize (if (j*6+2)/6<j then cD n Y D (j*6+2)else _)=u2 at c2;generalize (if (j*6+3)/6<j then cD n Y D (j*6+3)else _)=u3 at c3;generalize (if (j*6+4)/6<j then cD n Y D (j*6+4)else _)=u4 at c4;generalize (if (j*6+5)/6<j then cD n Y D (j*6+5)else _)=u5 at c5;go_upto_region 11 with fail;rw[<-bn.o];clear x0 x1 x2 x3 x4 x5 xf;go_wp2_with fail;rw[<-aO.o];go_roundw;case rel=>exact⟨j+1,by omega,by go_num,ai.o⟩
   simp[aA];omega
  have bA:¬(j:Int)<(n:Int):=by omega
  obtain⟨X,hX⟩:=aj (wr.alloc (ah #[U V 0 0,Z J 77,Z J 77,Z J 77,U V 0 0,U V 0 0] 117));have am:af wr.1.size wr X:=by rw[hX];exact(ax _ _).alloc (aw _) _
  have bx:gG X wr.1.size (U V 0 0) (Z J 77) (Z J 77) (Z J 77) (U V 0 0) (U V 0 0):=by rw[hX];exact bo wr _
  obtain⟨⟨x0,x1,x2,x3,x4,x5⟩,xf⟩:=bx.cells;have O:=r1.block (am.block B gl);have c0:=O.cell (j*6) (by omega);have c1:=O.cell (j*6+1) (by omega);have c2:=O.cell (j*6+2) (by omega);have c3:=O.cell (j*6+3) (by omega);have c4:=O.cell (j*6+4) (by omega);have c5:=O.cell (j*6+5) (by omega);have cf:=λt=>O.bF t;have sX:X.1.size=wr.1.size+1:=by rw[hX];simp
  have ai:=I (Kn HR.o (by omega) hlt am HG.o);obtain⟨W9,aa⟩:=aj (iz X B (j*6) (U V 0 0) (Z J 77) (Z J 77) (Z J 77) (U V 0 0) (U V 0 0));rw[<-aa]at ai;unfold iz at aa;have aO:=I aa;have HX:=I hX;clear hX am bx O aa r1 aK sX;generalize (if j*6/6<j then cD n Y D (j*6)else _)=u0 at c0;generalize (if (j*6+1)/6<j then cD n Y D (j*6+1)else _)=u1 at c1;generalize (if (j*6+2)/6<j then cD n Y D (j*6+2)else _)=u2 at c2;generalize (if (j*6+3)/6<j then cD n Y D (j*6+3)else _)=u3 at c3;generalize (if (j*6+4)/6<j then cD n Y D (j*6+4)else _)=u4 at c4;generalize (if (j*6+5)/6<j then cD n Y D (j*6+5)else _)=u5 at c5;go_upto_region 6 with fail;rw[<-HX.o];go_wp2_with fail;rw[<-aO.o];go_roundw;case rel=>exact⟨j+1,by omega,by go_num,ai.o⟩
  simp[aA];omega
 have ej:j=n+3:=by omega
 subst ej;have ai:=I (show∃G,bp wr B 117 ((n+3)*6) (cD n G D)/\ig wr B B n G D/\af B w wr from by obtain⟨G,h1,h2,h3,h4⟩:=HR.o;exact⟨G,h1.ext (λt ht=>au (by omega)),⟨λi k hi hk=>(h2 i k (by omega) hi hk).2.2,λi k hi hk=>by have:=(h2 i k (by omega) hi hk).1;omega,λi k i' k' a1 a2 b1 b2 e=>h3 i k i' k' (by omega) a1 a2 (by omega) b1 b2 e⟩,h4⟩);clear r1 aK;go_wp2;go_ret;exact⟨B,rfl,Nat.le_of_eq HG.o,by rw[HG.o];exact ai.o⟩
theorem KW:(prog.info? 27).map (λi=>(i.zero,i.size,i.bytes))=E (E (U V 0 0),1,24):=by kernel_rfl
def gq (G:Nat->Nat->Nat)(q:Nat):Nat:=G (q/3) (q%3)
def dq (D:Nat->DD)(q:Nat):List Int:=dl (D (q/3)) (q%3)
theorem Fv (ls c l l'):bn (bn ls c l) c l'=bn ls c l':=by funext d;unfold bn;by_cases e:d=c<;>simp[e]
def l_ (w:ac)(pw:Nat)(F:Nat->ag)(nx:Int)(ls:Nat->List Ow)(G:Nat->Nat->Nat)(m:Nat)(wr:ac):Prop:=
 ∃F' os,bH wr pw F' (nx+(m:Int)) (bn ls 0 (ls 0++os))/\os.length=m/\(∀j,j<3->F' j=F j)/\av (λb=>b=pw\/(∃q,q<m/\b=gq G q)\/aU F ls b) w wr/\
  ∀b,b<w.1.size->(∀q,q<m->b≠gq G q)->¬aU F ls b->¬aU F' (bn ls 0 (ls 0++os)) b
theorem Oh{w pw F nx ls G}(h:bH w pw F nx ls):l_ w pw F nx ls G 0 w:=by
 have e:bn ls 0 (ls 0++[])=ls:=by funext d;unfold bn;by_cases e:d=0<;>simp[e]
 refine⟨F,[],?_,rfl,λ_ _=>rfl,av.refl _ _,λb _ _ hf=>?_⟩;rw[e];simpa using h;rw[e];exact hf
section
variable {w wr:ac}{pw n g:Nat}{F:Nat->ag}{nx:Int}{ls:Nat->List Ow}{G:Nat->Nat->Nat}{D:Nat->DD}{m:Nat}
theorem vH (hg:ig w (pw+1) g n G D)(q)(hq:q<3*n):w.1[gq G q]?=E (ah (given (dq D q) 3).toArray 3 (0,0))/\pw<gq G q/\gq G q≠g/\gq G q<w.1.size:=by
 have h1:q/3<n:=by omega
 have h2:q%3<3:=by omega
 have:=hg.lo (q/3) (q%3) h1 h2;exact⟨hg.row _ _ h1 h2,by unfold gq;omega,this.2,hg.lt _ _ h1 h2⟩
theorem Cz (hg:ig w (pw+1) g n G D){q q'}(hq:q<3*n)(O:q'<3*n)(e:gq G q=gq G q'):q=q':=by have:=hg.inj (q/3) (q%3) (q'/3) (q'%3) (by omega) (by omega) (by omega) (by omega) e;omega
theorem Oe (h:l_ w pw F nx ls G m wr)(hg:ig w (pw+1) g n G D)(hm:m<3*n)(hf:∀q,q<3*n->¬aU F ls (gq G q)):
  wr.1[gq G m]?=E (ah (given (dq D m) 3).toArray 3 (0,0)):=by obtain⟨F',os,h1,h2,h3,h4,h5⟩:=h;obtain⟨q1,q2,q3,q4⟩:=vH hg m hm;rw[h4.block _ q4 (λe=>?_)];exact q1;rcases e with e|⟨q,hq,e⟩|e;omega;have:=Cz hg hm (show q<3*n by omega) e;omega;exact hf m hm e
theorem Od{N f}(h:l_ w pw F nx ls G m wr)(hg:ig w (pw+1) g n G D)(hm:m<=3*n)(hr:bp w g 117 N f)(Y:pw<g)(O:¬aU F ls g):bp wr g 117 N f:=by obtain⟨F',os,h1,h2,h3,h4,h5⟩:=h;refine hr.block (h4.block g hr.lt (λe=>?_));rcases e with e|⟨q,hq,e⟩|e;omega;exact(vH hg q (by omega)).2.2.1 e.symm;exact O e
theorem Of (h:l_ w pw F nx ls G m wr)(hg:ig w (pw+1) g n G D)(hm:m<3*n)(hf:∀q,q<3*n->¬aU F ls (gq G q))(h0:0<=nx)(h1:nx+(m:Int)<=1000000000000000000)
  (hlen:((ls 0).length+m+1)*24<=140737488355328)(hb:(dq D m).length*8<=140737488351232):
  ay prog 88 #[aC (E ⟨pw,0,V⟩),dX (gq G m) (dq D m)] wr λe w'=>e=az (br #[])/\l_ w pw F nx ls G (m+1) w':=by
 have hrow:=Oe h hg hm hf;obtain⟨F',os,i1,i2,i3,i4,i5⟩:=h;obtain⟨q1,q2,q3,q4⟩:=vH hg m hm;have aa:¬aU F' (bn ls 0 (ls 0++os)) (gq G m):=i5 _ q4 (λq hq e=>by have:=Cz hg hm (show q<3*n by omega) e;omega) (hf m hm);have hl0:(bn ls 0 (ls 0++os)) 0=ls 0++os:=by simp[bn]
 refine(Dz (gq G m) (dq D m).length ((dq D m).length+3) _ i1 (by omega) h1 (by rw[hl0,cy,i2];exact hlen) hrow (by simp[tO (Nat.le_refl 3)]) (by omega) (by unfold maxLen;omega) q2 aa).mono ?_;rintro e w' ⟨rfl,Y,O,j2,j3,j4⟩;refine⟨rfl,Y,os++[(E (gq G m),(dq D m).length+3,ek (nx+(m:Int)))],?_,by simp[i2],λj hj=>(j3 j hj).trans (i3 j hj),?_,?_⟩;rw[hl0,Fv,ee]at O;rw[show nx+((m+1:Nat):Int)=nx+(m:Int)+1 by omega];exact O
 ·have key:∀b,aU F' (bn ls 0 (ls 0++os)) b->b<w.1.size->b=pw\/(∃q,q<m+1/\b=gq G q)\/aU F ls b:=λb hb hbl=>by by_cases hx:∃q,q<m/\b=gq G q;obtain⟨q,hq,e⟩:=hx;exact Q (ae ⟨q,by omega,e⟩);by_cases hy:aU F ls b;exact Q (Q hy);exact absurd hb (i5 b hbl (λq hq e=>hx ⟨q,hq,e⟩) hy)
  refine(i4.mono (S':=λb=>b=pw\/(∃q,q<m+1/\b=gq G q)\/aU F ls b) (λb e _=>?_)).trans j4 (λb e hbl=>?_);·rcases e with e|⟨q,hq,e⟩|e;exact ae e;exact Q (ae ⟨q,by omega,e⟩);exact Q (Q e)
  rcases e with e|e|e;exact ae e;exact Q (ae ⟨m,by omega,e.symm⟩);exact key b e hbl
 intro b hbl hne ac;have hs:=i4.size;have:=j2 b (by omega) (λe=>hne m (by omega) e.symm) (i5 b hbl (λq hq=>hne q (by omega)) ac);rw[hl0,Fv,ee]at this;exact this
end
def og (m:Int)(j:Nat):ag:=oh (U V 0 0) (Z J m) (Z J m) (Z J m) (U V 0 0) (U V 0 0) j
theorem JY (n m):(List.replicate n ((cat 4).pat m)).flatten=(List.range (n*6)).map (λt=>og m (t%6)):=by
 induction n with
 |zero=>rfl
 |succ n ih=>
  rw[List.replicate_succ',uB,ih,show(n+1)*6=n*6+6 by omega,List.range_add,cF];congr 1;show(cat 4).pat m++[]=_;rw[ew,lL];have h6:List.range 6=[0,1,2,3,4,5]:=by decide
  rw[h6];simp only[List.map_cons,List.map_nil,Function.comp];rw[show(n*6+0)%6=0 by omega,show(n*6+1)%6=1 by omega,show(n*6+2)%6=2 by omega,show(n*6+3)%6=3 by omega,show(n*6+4)%6=4 by omega,show(n*6+5)%6=5 by omega];rfl
def uU (w:ac)(g N:Nat)(f:Nat->ag)(m:Int)(k:Nat)(wr:ac):Prop:=
 av (λb=>b=g) w wr/\bp wr g 117 (N*6) (λt=>if t/6<k then og m (t%6)else f t)
theorem JD{w wr g N f m k}(h:uU w g N f m k wr)(hk:k<N):uU w g N f m (k+1) (iz wr g (k*6) (U V 0 0) (Z J m) (Z J m) (Z J m) (U V 0 0) (U V 0 0)):=by
 refine⟨h.1.trans (zG _ _ _ _ _ _ _ _ _) (λx e _=>e),(h.2.iz k (by omega) _ _ _ _ _ _).ext (λt ht=>?_)⟩;by_cases e:t/6=k;rw[au e,au (by omega)];rfl;rw[ar e];by_cases e2:t/6<k;·rw[au e2,au (by omega)]
 rw[ar e2,ar (by omega)]
theorem JC{w wr g N f m}(h:uU w g N f m N wr):wr.1[g]?=E (ah (ix (cat 4) (E g,N,m)).toArray 117 (0,0)):=by have h2:=h.2.ext (f':=λt=>og m (t%6)) (λt ht=>au (by omega));unfold bp at h2;rw[h2];unfold ix;rw[JY]
theorem Og{w pw n g F nx ls G D}(hg:ig w (pw+1) g n G D)(hf:∀q,q<3*n->¬aU F ls (gq G q))(h0:0<=nx)(h1:nx+3*(n:Int)<=1000000000000000000)(O:((ls 0).length+3*n)*24<=140737488355328)(hl:∀q,q<3*n->(dq D q).length*8<=140737488351232){m wr}(hm:m<3*n)(h:l_ w pw F nx ls G m wr):
  ay prog 88 #[aC (E ⟨pw,0,V⟩),U (E ⟨gq G m,0,V⟩) (dq D m).length ((dq D m).length+3)] wr λe w'=>e=az (br #[])/\l_ w pw F nx ls G (m+1) w':=by
 have a1:nx+(m:Int)<=1000000000000000000:=by omega
 have a2:((ls 0).length+m+1)*24<=140737488355328:=by omega
 exact Of h hg hm hf h0 a1 a2 (hl m hm)
theorem OM{pw F nx ls}{g n:Nat}{G D w}(h:bH w pw F nx ls)(h0:0<=nx)(h1:nx+3*(n:Int)<=1000000000000000000)(bk:((ls 0).length+3*n)*24<=140737488355328)(aO:((ls 4).length+1)*24<=140737488355328)(hb:(n+3)*96<=140737488355328)(hl:∀q,q<3*n->(dq D q).length*8<=140737488351232)(hr:bp w g 117 ((n+3)*6) (cD n G D))(hg:ig w (pw+1) g n G D)(aB:pw<g)(ap:¬aU F ls g)(hf:∀q,q<3*n->¬aU F ls (gq G q)):
  ay prog 104 #[aC (E ⟨pw,0,V⟩),U (E ⟨g,0,V⟩) n (n+3)] w λe w'=>e=az (br #[])/\∃F' os o,bH w' pw F' (nx+3*(n:Int)+1) (bn (bn ls 0 (ls 0++os)) 4 (ls 4++[o]))/\os.length=3*n/\
   (∀j,j<3->F' j=F j)/\av (λb=>b=pw\/b=g\/(∃q,q<3*n/\b=gq G q)\/aU F ls b) w w'/\
   ∀b,b<w.1.size->b≠g->(∀q,q<3*n->b≠gq G q)->¬aU F ls b->¬aU F' (bn (bn ls 0 (ls 0++os)) 4 (ls 4++[o])) b:=by
 obtain⟨i0,hi,hz0,hz1,hz2⟩:=bO nU;obtain⟨i1,bj,bq,bt,bu⟩:=bO KW;have bh:=hr.lt;have HST:=I (λ(m:Nat)(wr:ac)(hm:m<3*n)(hrel:l_ w pw F nx ls G m wr)=>Og hg hf h0 h1 bk hl hm hrel);have af:=I (λ(m:Nat)(wr:ac)(hm:m<=3*n)(hrel:l_ w pw F nx ls G m wr)=>Od hrel hg hm hr aB ap);have aT:=I (show∀j,j<n->cD n G D (j*6)=dX (gq G (3*j)) (dq D (3*j))/\cD n G D (j*6+4)=dX (gq G (3*j+1)) (dq D (3*j+1))/\cD n G D (j*6+5)=dX (gq G (3*j+2)) (dq D (3*j+2))from λj hj=>by unfold cD gq dq;refine⟨?_,?_,?_⟩;rw[au (by omega),show j*6/6=j by omega,show j*6%6=0 by omega,show 3*j/3=j by omega,show 3*j%3=0 by omega];rfl;rw[au (by omega),show(j*6+4)/6=j by omega,show(j*6+4)%6=4 by omega,show(3*j+1)/3=j by omega,show(3*j+1)%3=1 by omega];rfl;rw[au (by omega),show(j*6+5)/6=j by omega,show(j*6+5)%6=5 by omega,show(3*j+2)/3=j by omega,show(3*j+2)%3=2 by omega];rfl);have R0:=A (l_ w pw F nx ls G (3*0) w) (Oh h);have aW:=I hg;have aV:=I ap;clear h hg hf ap hl hr;go_enter func104,ntmps104;go_wp2;go_loopw [4] (λi wr=>∃j:Nat,j<=n/\i=Z J j/\l_ w pw F nx ls G (3*j) wr) (λi _=>n-(aA i).toNat);case atStart=>exact⟨0,bi _,rfl,R0.o⟩
 clear R0;obtain⟨j,hj,rfl,hrel⟩:=hrel;have HR:=I hrel;have hsz:w.1.size<=wr.1.size:=by obtain⟨_,_,_,_,_,c,_⟩:=hrel;exact c.size
 have hgr:g<wr.1.size:=by omega
 clear hrel;by_cases hlt:j<n
 ·obtain⟨d0,d4,d5⟩:=aT.o j hlt;have c0:=(af.o _ wr (by omega) HR.o).cell (j*6) (by omega);rw[d0]at c0;have aG:=I (HST.o (3*j) wr (by omega) HR.o);unfold dX at c0;clear d0;go_wp2_with fail;refine aH aG.o λw1 hr1=>?_;have c4:=(af.o _ w1 (by omega) hr1).cell (j*6+4) (by omega);rw[d4]at c4;have aI:=I (HST.o (3*j+1) w1 (by omega) hr1);unfold dX at c4;clear d4 c0 hr1 aG;go_wp2_with fail;refine aH aI.o λw2 hr2=>?_;have c5:=(af.o _ w2 (by omega) hr2).cell (j*6+5) (by omega);rw[d5]at c5;have aJ:=I (HST.o (3*j+2) w2 (by omega) hr2);unfold dX at c5;clear d5 c4 hr2 aI;go_wp2_with fail;refine aH aJ.o λw3 hr3=>?_;have aY:=A (l_ w pw F nx ls G (3*(j+1)) w3) hr3;clear c5 hr3 aJ;go_wp2;go_roundw;case rel=>exact⟨j+1,by omega,by go_num,aY.o⟩
  simp[aA];omega
 have ej:j=n:=by omega
 subst ej;have aN:=af.o _ wr (aw _) HR.o;obtain⟨F1,os,k1,k2,k3,k4,k5⟩:=HR.o;obtain⟨O,aa⟩:=aj (bn ls 0 (ls 0++os));obtain⟨ak,ax⟩:=aj (nx+((3*j:Nat):Int));rw[<-aa,<-ax]at k1;rw[<-aa]at k5;have hl4:O 4=ls 4:=by rw[aa];rfl
 have HI:=I k1;have HF:=A (¬aU F1 O g) (k5 g bh (λq hq e=>(vH aW.o q hq).2.2.1 e.symm) aV.o);have HK:=A (os.length=3*j/\(∀q,q<3->F1 q=F q)/\av (λb=>b=pw\/(∃q,q<3*j/\b=gq G q)\/aU F ls b) w wr/\(∀b,b<w.1.size->(∀q,q<3*j->b≠gq G q)->¬aU F ls b->¬aU F1 O b)) ⟨k2,k3,k4,k5⟩;have aL:=I aa;have aX:=A (ak=nx+3*(j:Int)) (by rw[ax];omega);have aK:=I hl4;rw[<-hl4]at aO;have bf:0<=ak:=by omega
 have bg:ak<=1000000000000000000:=by omega
 have G0:=I aN;clear aa ax hl4 aN k1 k2 k3 k4 k5;obtain⟨w0,hw0⟩:=aj wr;rw[<-hw0]at HI HK G0 hgr ⊢;have bB:w.1.size<=w0.1.size:=by rw[hw0];exact hsz
 clear hw0 HR hsz;go_wp2_with fail;refine aH (nX HI.o bf bg) λw1 aD=>?_;have g1:bp w1 g 117 ((j+3)*6) (cD j G D):=G0.o.block (by rw[aD,fI _ _ _ _ (by simp;omega)]);have W1:=I aD;have G1:=I g1;clear aD g1;generalize hm:ek ak=m at*;clear hm;go_wp2;go_loopw [7] (λi wr=>∃k:Nat,k<=j+3/\i=Z J k/\uU w1 g (j+3) (cD j G D) m k wr) (λi _=>j+3-(aA i).toNat);case atStart=>exact⟨0,by omega,rfl,av.refl _ _,G1.o.ext (λt _=>(ar (pV _)).symm)⟩
 obtain⟨k,hk,rfl,ai⟩:=hrel;have FI:=I ai;by_cases bl:k<j+3
 ·have Y:=ai.2;have c0:=Y.cell (k*6) (by omega);have c1:=Y.cell (k*6+1) (by omega);have c2:=Y.cell (k*6+2) (by omega);have c3:=Y.cell (k*6+3) (by omega);have c4:=Y.cell (k*6+4) (by omega);have c5:=Y.cell (k*6+5) (by omega);have cf:=λt=>Y.bF t;generalize (if k*6/6<k then og m (k*6%6)else cD j G D (k*6))=u0 at c0;generalize (if (k*6+1)/6<k then og m ((k*6+1)%6)else cD j G D (k*6+1))=u1 at c1;generalize (if (k*6+2)/6<k then og m ((k*6+2)%6)else cD j G D (k*6+2))=u2 at c2;generalize (if (k*6+3)/6<k then og m ((k*6+3)%6)else cD j G D (k*6+3))=u3 at c3;generalize (if (k*6+4)/6<k then og m ((k*6+4)%6)else cD j G D (k*6+4))=u4 at c4;generalize (if (k*6+5)/6<k then og m ((k*6+5)%6)else cD j G D (k*6+5))=u5 at c5;have aF:=I (JD FI.o bl);obtain⟨W9,ah⟩:=aj (iz wr g (k*6) (U V 0 0) (Z J m) (Z J m) (Z J m) (U V 0 0) (U V 0 0));rw[<-ah]at aF;unfold iz at ah;have aZ:=I ah;clear ai Y ah;go_wp2_with fail;rw[<-aZ.o];go_roundw;case rel=>exact⟨k+1,by omega,by go_num,aF.o⟩
  simp[aA];omega
 have bc:k=j+3:=by omega
 subst bc;clear ai;have k2:=FI.o.1.mono (S':=λb=>((E g,j+3,m):Ow).1=E b) (λb e _=>by rw[e]);have K2:=I k2;obtain⟨a1,a2,a3,a4,a5⟩:=nh HI.o 4 (by omega) W1.o k2 (λx e=>by cases e;exact⟨HF.o,aB⟩);obtain⟨c3,a_⟩:=dg a1 7 (by omega);rw[dM (by omega)]at c3;have A1:=I a1;have A2:=I a2;have A3:=I a3;clear a1 a2 a3 a5 k2;go_wp2_with(at_builtin;refine dQ rfl 86 rfl (pw+1) 27 i1 (U V 0 0) 24 underlying86 bj bq bt bu rfl (F1 7) (O 4).length ((O 4).map iQ) rfl (A2.o.alloc _) ⟨wr.1.size,0,V⟩ 1 (U (E ⟨g,0,V⟩) (j+3) (j+3)) rfl (by simp[go_sem]) rfl (by unfold maxLen;omega) aO (by simp;omega) ?_);intro g3 am w3 aP hg3 hv3;obtain⟨p1,p2,p3,p4⟩:=ni HI.o 4 (by omega) A1.o A3.o A2.o hg3;obtain⟨c9,ba⟩:=dg p1 13 (by omega);rw[dM (by omega)]at c9;obtain⟨d3,bb⟩:=dg p1 7 (by omega);rw[dM (by omega)]at d3;have O3:=I aP;have K3:=I hg3;have V3:=I (iR (n:=(O 4).length+1) (c:=am) hv3);have P1:=I p1;have P2:=I p2;clear aP hg3 hv3 p1 p2 p4 c3 a_;go_wp2_with(at_builtin;(refine dQ rfl 33 rfl (pw+1) 3 i0 (Z J 0) 8 gW hi hz0 hz1 hz2 rfl (F1 13) (O 4).length ((O 4).map λo=>Value.int J o.2.2) rfl ((pQ P2.o (by simp) _).alloc _) ⟨w3.1.size,0,V⟩ 1 (Z J m) rfl (by simp[go_sem]) rfl (by unfold maxLen;omega) (by omega) (by simp[World.setCell];omega) ?_));intro g5 aM w5 aQ aq aR;obtain⟨q1,q2,q3⟩:=nj HI.o 4 P1.o P2.o (U (E ⟨g3,0,V⟩) ((O 4).length+1) am) aq;obtain⟨f9,bA⟩:=dg q1 13 (by omega);have O5:=I aQ;have K5:=I aq;have V5:=I (iR (n:=(O 4).length+1) (c:=aM) aR);clear aQ aq aR q1 q3 d3 bb c9 ba;go_wp2;go_end0;have R:=oc HI.o 4 (by omega) (o:=(E g,j+3,m)) (U (E ⟨g3,0,V⟩) ((O 4).length+1) am) (U (E ⟨g5,0,V⟩) ((O 4).length+1) aM) W1.o K2.o K3.o O3.o (λb hb=>by simpa[cat]using V3.o b hb) K5.o O5.o (λb hb=>by simpa[World.setCell,cat]using V5.o b hb) (λx e=>by cases e;exact⟨HF.o,aB,hgr,JC FI.o⟩) (λe=>by cases e) (by first|exact bi _|(show j+3<=maxLen;unfold maxLen;omega));obtain⟨bv,bw,bz,aS⟩:=HK.o;refine⟨rfl,_,os,(E g,j+3,m),?_,bv,λq hq=>(R.2.2.1 q hq).trans (bw q hq),?_,?_⟩;have e1:bn (bn ls 0 (ls 0++os)) 4 (ls 4++[(E g,j+3,m)])=bn O 4 (O 4++[(E g,j+3,m)]):=by rw[aK.o,aL.o]
 rw[e1,<-aX.o];exact R.1
 ·refine(bz.mono (S':=λb=>b=pw\/b=g\/(∃q,q<3*j/\b=gq G q)\/aU F ls b) (λb e _=>?_)).trans R.2.2.2 (λb e hbl=>?_);·rcases e with e|e|e;exact ae e;exact Q (Q (ae e));exact Q (Q (Q e))
  rcases e with e|e|e;exact ae e;exact Q (ae (by cases e;rfl));by_cases hx:∃q,q<3*j/\b=gq G q;exact Q (Q (ae hx));by_cases hy:aU F ls b;exact Q (Q (Q hy));exact absurd e (aS b hbl (λq hq e2=>hx ⟨q,hq,e2⟩) hy)
 intro b hbl hne bo bm;have r2:=R.2.1 b (by omega) (by simpa using λe=>hne e.symm) (aS b hbl bo bm);have e1:bn (bn ls 0 (ls 0++os)) 4 (ls 4++[(E g,j+3,m)])=bn O 4 (O 4++[(E g,j+3,m)]):=by rw[aK.o,aL.o]
 rw[e1];exact r2
end
section
open Go.ChangeShapes Go.WideShapes Go.ChangeAt Go.RowKit
theorem Tv (g0 g1 g2){vi vm vs d w}(h:mW w vi vm vs d)(hl:∀k,k<3->(dl d k).length*8<=140737488351232)(r0:w.1[g0]?=E (ah (given d.inp 3).toArray 3 (0,0)))(r1:w.1[g1]?=E (ah (given d.sm 3).toArray 3 (0,0)))(r2:w.1[g2]?=E (ah (given d.ss 3).toArray 3 (0,0))):
  ay prog 174 #[aD #[dX g0 d.inp,Z J d.ch,Z J d.ms,Z J d.sd,dX g1 d.sm,dX g2 d.ss],aD #[vi,Z J d.ch,Z J d.ms,Z J d.sd,vm,vs]] w λe w'=>e=az (ak true)/\af w.1.size w w':=by
 obtain⟨li,lm,ls,_,_,_⟩:=h;have hlt:∀{g:Nat}{o:Obj},w.1[g]?=E o->g<w.1.size:=λ{g o} e=>by by_cases hb:g<w.1.size;exact hb;rw[cT (by omega)]at e;cases e
 have ai:=bj w λW hb=>zU g0 (li.below hb) (hl 0 (by omega)) ((hb.block g0 (hlt r0)).trans r0);have am:=bj w λW hb=>zU g1 (lm.below hb) (hl 1 (by omega)) ((hb.block g1 (hlt r1)).trans r1);have ap:=bj w λW hb=>zU g2 (ls.below hb) (hl 2 (by omega)) ((hb.block g2 (hlt r2)).trans r2);obtain⟨a1,c1,rfl,-⟩:=li;obtain⟨a2,c2,rfl,-⟩:=lm;obtain⟨a3,c3,rfl,-⟩:=ls;unfold dX;obtain⟨n1,aq⟩:∃n,n=d.inp.length:=⟨_,rfl⟩;obtain⟨n2,ar⟩:∃n,n=d.sm.length:=⟨_,rfl⟩;obtain⟨n3,au⟩:∃n,n=d.ss.length:=⟨_,rfl⟩;rw[<-aq]at ai ⊢;rw[<-ar]at am ⊢;rw[<-au]at ap ⊢;generalize d.ch=ch at*;generalize d.ms=ms at*;generalize d.sd=sd at*;clear aq ar au hl r0 r1 r2 hlt;obtain⟨W0,hW0⟩:=aj ((w.alloc (ah #[U (E ⟨g0,0,V⟩) n1 (n1+3),Z J ch,Z J ms,Z J sd,U (E ⟨g1,0,V⟩) n2 (n2+3),U (E ⟨g2,0,V⟩) n3 (n3+3)] 117)).alloc (ah #[U a1 n1 c1,Z J ch,Z J ms,Z J sd,U a2 n2 c2,U a3 n3 c3] 117));have hb0:af w.1.size w W0:=by rw[hW0];exact((ax _ _).alloc (aw _) _).alloc (by simp) _
 have z0:w.1.size+1<W0.1.size:=by rw[hW0];simp
 have B1:=A (gG W0 w.1.size (U (E ⟨g0,0,V⟩) n1 (n1+3)) (Z J ch) (Z J ms) (Z J sd) (U (E ⟨g1,0,V⟩) n2 (n2+3)) (U (E ⟨g2,0,V⟩) n3 (n3+3))) (by rw[hW0];exact my w _ _);have B2:=A (gG W0 (w.1.size+1) (U a1 n1 c1) (Z J ch) (Z J ms) (Z J sd) (U a2 n2 c2) (U a3 n3 c3)) (by rw[hW0];exact jN w _ _);have O:=I hb0;have aB:=I hW0;obtain⟨⟨x0,x1,x2,x3,Y,x5⟩,xf⟩:=B1.o.cells;obtain⟨⟨y0,y1,y2,y3,y4,y5⟩,yf⟩:=B2.o.cells;clear hb0 hW0;go_enter func174,ntmps174;go_upto_region 1 with fail;rw[<-aB.o];go_wp2_with fail;refine(ai.o W0 O.o).mono ?_;rintro e w1 ⟨rfl,aC,av⟩;have hb1:af W0.1.size W0 w1:=by rw[av];exact below_drewN _ _
 clear av x0 x1 x2 x3 Y x5 xf y0 y1 y2 y3 y4 y5 yf;obtain⟨⟨x0,x1,x2,x3,Y,x5⟩,xf⟩:=(B1.o.below hb1 (by omega)).cells;obtain⟨⟨y0,y1,y2,y3,y4,y5⟩,yf⟩:=(B2.o.below hb1 z0).cells;have aa:=I hb1;clear hb1;go_wp2_with fail;refine(am.o w1 (O.o.trans (aa.o.mono O.o.size))).mono ?_;rintro e w2 ⟨rfl,aF,hw2⟩;have hb2:af W0.1.size W0 w2:=by rw[hw2];exact aa.o.trans ((below_drewN _ _).mono aa.o.size)
 clear hw2 x0 x1 x2 x3 Y x5 xf y0 y1 y2 y3 y4 y5 yf;obtain⟨⟨x0,x1,x2,x3,Y,x5⟩,xf⟩:=(B1.o.below hb2 (by omega)).cells;obtain⟨⟨y0,y1,y2,y3,y4,y5⟩,yf⟩:=(B2.o.below hb2 z0).cells;have ae:=I hb2;clear hb2;go_wp2_with fail;refine(ap.o w2 (O.o.trans (ae.o.mono O.o.size))).mono ?_;rintro e w3 ⟨rfl,aG,hw3⟩;have hb3:af W0.1.size W0 w3:=by rw[hw3];exact ae.o.trans ((below_drewN _ _).mono ae.o.size)
 have aA:=I (O.o.trans (hb3.mono O.o.size));clear hw3 hb3 x0 x1 x2 x3 Y x5 xf y0 y1 y2 y3 y4 y5 yf;go_wp2;go_ret;exact⟨rfl,aA.o⟩
theorem Tw{n cap vi vm vs D w B g G}(h:jP w a n cap vi vm vs D)(hb:(n+3)*96<=140737488355328)(hl:∀i k,i<n->k<3->(dl (D i) k).length*8<=140737488351232)(hr:bp w g 117 ((n+3)*6) (cD n G D))(hg:ig w B g n G D):
  ay prog 103 #[U (E ⟨g,0,V⟩) n (n+3),U a n cap] w λe w'=>e=az (ak true)/\af w.1.size w w':=by
 have l2:=h.le;have l3:=h.mx;have HST:=I (show∀i,i<n->∀W,af w.1.size w W->ay prog 174 #[aD #[dX (G i 0) (D i).inp,Z J (D i).ch,Z J (D i).ms,Z J (D i).sd,dX (G i 1) (D i).sm,dX (G i 2) (D i).ss],aD #[vi i,Z J (D i).ch,Z J (D i).ms,Z J (D i).sd,vm i,vs i]] W λe w'=>e=az (ak true)/\af W.1.size W w' from λi hi W hb'=>
  Tv (G i 0) (G i 1) (G i 2) ((h.its i hi).below hb') (λk hk=>hl i k hi hk) ((hb'.block _ (hg.lt i 0 hi (by omega))).trans (hg.row i 0 hi (by omega))) ((hb'.block _ (hg.lt i 1 hi (by omega))).trans (hg.row i 1 hi (by omega))) ((hb'.block _ (hg.lt i 2 hi (by omega))).trans (hg.row i 2 hi (by omega))));have ap:=I (λ(i:Nat)(hi:i<n)=>h.cells i hi);have gl:=hr.lt;have Y:=A (∀(W:ac),af w.1.size w W->∀t,t<(n+3)*6->W.cell? ⟨g,t,V⟩=E (cD n G D t)) (λW hb' t ht=>(hr.block (hb'.block g gl)).cell t ht);have aq:=I (show∀i,i<n->cD n G D (i*6)=dX (G i 0) (D i).inp/\cD n G D (i*6+1)=Z J (D i).ch/\cD n G D (i*6+2)=Z J (D i).ms/\cD n G D (i*6+3)=Z J (D i).sd/\cD n G D (i*6+4)=dX (G i 1) (D i).sm/\cD n G D (i*6+5)=dX (G i 2) (D i).ss from λi hi=>by unfold cD;refine⟨?_,?_,?_,?_,?_,?_⟩;rw[au (by omega),show i*6/6=i by omega,show i*6%6=0 by omega];rfl;rw[au (by omega),show(i*6+1)/6=i by omega,show(i*6+1)%6=1 by omega];rfl;rw[au (by omega),show(i*6+2)/6=i by omega,show(i*6+2)%6=2 by omega];rfl;rw[au (by omega),show(i*6+3)/6=i by omega,show(i*6+3)%6=3 by omega];rfl;rw[au (by omega),show(i*6+4)/6=i by omega,show(i*6+4)%6=4 by omega];rfl;rw[au (by omega),show(i*6+5)/6=i by omega,show(i*6+5)%6=5 by omega];rfl);have av:=I (show∀i,n<=i->cD n G D (i*6)=U V 0 0/\cD n G D (i*6+1)=Z J 77/\cD n G D (i*6+2)=Z J 77/\cD n G D (i*6+3)=Z J 77/\cD n G D (i*6+4)=U V 0 0/\cD n G D (i*6+5)=U V 0 0 from λi hi=>by unfold cD;refine⟨?_,?_,?_,?_,?_,?_⟩;rw[ar (by omega),show i*6%6=0 by omega];rfl;rw[ar (by omega),show(i*6+1)%6=1 by omega];rfl;rw[ar (by omega),show(i*6+2)%6=2 by omega];rfl;rw[ar (by omega),show(i*6+3)%6=3 by omega];rfl;rw[ar (by omega),show(i*6+4)%6=4 by omega];rfl;rw[ar (by omega),show(i*6+5)%6=5 by omega];rfl);clear h hl hr hg;go_enter func103,ntmps103;go_wp2;go_loopw [6] (λi wr=>∃j:Nat,j<=n+3/\i=Z J j/\af w.1.size w wr) (λi _=>n+3-(aA i).toNat);case atStart=>exact⟨0,bi _,rfl,ax _ _⟩
 obtain⟨j,hj,rfl,ai⟩:=hrel;have O:=I ai;have hsz:=ai.size;clear ai;have aH:g<wr.1.size:=by omega
 by_cases hlt:j<n+3
 ·have c0:=Y.o wr O.o (j*6) (by omega);have c1:=Y.o wr O.o (j*6+1) (by omega);have c2:=Y.o wr O.o (j*6+2) (by omega);have c3:=Y.o wr O.o (j*6+3) (by omega);have c4:=Y.o wr O.o (j*6+4) (by omega);have c5:=Y.o wr O.o (j*6+5) (by omega);by_cases aj:j<n
  ·have aF:(j:Int)<(n:Int):=by omega
   have aG:(j:Int)<(n:Int)+3:=by omega
   have aI:(0:Int)<=(j:Int):=by omega
   obtain⟨d0,d1,d2,d3,d4,d5⟩:=aq.o j aj;rw[d0]at c0;rw[d1]at c1;rw[d2]at c2;rw[d3]at c3;rw[d4]at c4;rw[d5]at c5;obtain⟨b',off,rfl,hb',e0,e1,e2,e3,e4,e5⟩:=ap.o j aj;replace e0:=(O.o.cell (p:=⟨b',off+j*6,V⟩) hb').trans e0;replace e1:=(O.o.cell (p:=⟨b',off+j*6+1,V⟩) hb').trans e1;replace e2:=(O.o.cell (p:=⟨b',off+j*6+2,V⟩) hb').trans e2;replace e3:=(O.o.cell (p:=⟨b',off+j*6+3,V⟩) hb').trans e3;replace e4:=(O.o.cell (p:=⟨b',off+j*6+4,V⟩) hb').trans e4;replace e5:=(O.o.cell (p:=⟨b',off+j*6+5,V⟩) hb').trans e5;have hbr:b'<wr.1.size:=by omega
   have aw:=bj wr λW hb=>HST.o j aj W (O.o.trans (hb.mono hsz));clear d0 d1 d2 d3 d4 d5;generalize dX (G j 0) (D j).inp=q0 at*;generalize dX (G j 1) (D j).sm=q1 at*;generalize dX (G j 2) (D j).ss=q2 at*;generalize (D j).ch=ch at*;generalize (D j).ms=ms at*;generalize (D j).sd=sd at*;generalize vi j=aJ at*;generalize vm j=aK at*;generalize vs j=aL at*;go_upto_region 6 with fail;refine nA (by kernel_rfl) (by kernel_rfl) ?_;intro aB GG hI hG aC am;repeat(go_big_quiet_step (first|(go_at_call 174;exact lW hG am (aw.o _ (hG.o _)))))
   refine oC ?_;intro w5 hw';obtain⟨u,hw''⟩:=hw';have ae:=hG.o u;rw[<-hw'']at ae;have aa:=I (O.o.trans (ae.mono hsz));clear hw'' aC am hG u hI GG aB ae c0 c1 c2 c3 c4 c5 e0 e1 e2 e3 e4 e5;go_wp2;go_roundw;case rel=>exact⟨j+1,by omega,by go_num,aa.o⟩
   simp[aA];omega
  have aF:¬(j:Int)<(n:Int):=by omega
  have aG:(j:Int)<(n:Int)+3:=by omega
  obtain⟨d0,d1,d2,d3,d4,d5⟩:=av.o j (by omega);rw[d0]at c0;rw[d1]at c1;rw[d2]at c2;rw[d3]at c3;rw[d4]at c4;rw[d5]at c5;have aa:=I (O.o.alloc hsz (ah #[U V 0 0,Z J 77,Z J 77,Z J 77,U V 0 0,U V 0 0] 117));clear d0 d1 d2 d3 d4 d5;go_wp2;go_roundw;case rel=>exact⟨j+1,by omega,by go_num,aa.o⟩
  simp[aA];omega
 have ej:j=n+3:=by omega
 subst ej;go_wp2;go_ret;exact⟨rfl,O.o⟩
end
section
open Go.ChangeShapes Go.WideShapes Go.ChangeAt Go.RowKit Go.Deep
theorem HQ{H}(d:DataW H):1<=Rows.uptoBulk d:=by
 cases d with
 |lit l=>cases l<;>simp[Rows.uptoBulk]
 |_=>simp[Rows.uptoBulk]
theorem Bx{H}(l:List (DataW H)):l.length<=Rows.uptoBulkAll l:=by
 induction l with
 |nil=>exact bi _
 |cons x r ih=>have:=HQ x;simp only[Rows.uptoBulkAll,List.length_cons];omega
theorem Bw{H d}{l:List (DataW H)}(h:d∈l):Rows.uptoBulk d<=Rows.uptoBulkAll l:=by
 induction l with
 |nil=>cases h
 |cons x r ih=> simp only[Rows.uptoBulkAll];rcases rk.1 h with e|e;subst e;omega;have:=ih e;omega
def AR (w:ac)(v:ag)(B:Nat):Prop:=∃(a:Option Addr)(n cap:Nat)(vi vm vs:Nat->ag)(D:Nat->DD),v=U a n cap/\jP w a n cap vi vm vs D/\n*96<=140737488351232/\(∀i k,i<n->k<3->(dl (D i) k).length*8<=140737488351232)/\n<=B
def uW (w:ac)(kd x y z:Int)(r:Nat->ag)(B:Nat):Prop:=
 Gt w kd x y z r/\(∃N T M D:Int,r 5=Z J N/\r 6=Z J T/\r 7=Z J M/\r 8=Z J D/\bq N/\bq T/\bq M/\bq D)/\AR w (r 9) B
def uY (w:ac)(a:Option Addr)(len B:Nat):Prop:=
 (len*168<=140737488351232/\len<=B)/\(len=0\/∃b off,a=E ⟨b,off,V⟩/\b<w.1.size/\∀i,i<len->∃kd x y z r,uW w kd x y z r B/\
  ∀j,j<14->w.cell? ⟨b,off+i*14+j,V⟩=E ((t_ kd x y z r).getD j undef))
theorem BA:prog.cellsOf 117=6:=by kernel_rfl
theorem HT:prog.bytesOf 117=96:=by kernel_rfl
theorem Bz:prog.cellsOf 26=4:=by kernel_rfl
theorem Il:prog.cellsOf 27=1:=by kernel_rfl
section
variable {H:Type}{enc:TypeId×ag->H}{w:ac}{spare:Nat->Bool}{held:Bool}
theorem IB{n cs y}(h:DataW.trod enc prog w 0 spare held n 26 cs=E y):
  ∃a b c d:Int,cs=[Z J a,Z J b,Z J c,Z J d]/\bq a/\bq b/\bq c/\bq d:=by
 obtain⟨xs,m,_,hy,hl,hlen,hf⟩:=xA underlying26 h;rw[Bz]at hl
 match cs,hl with
 |[c0,c1,c2,c3],_=> have f0:=hf 0 _ rfl;have f1:=hf 1 _ rfl;have f2:=hf 2 _ rfl;have f3:=hf 3 _ rfl;simp[rL]at f0 f1 f2 f3;have Y:xs.length=4:=hlen;rw[aQ (by omega)]at f0 f1 f2 f3;obtain⟨a,rfl,O⟩:=je f0;obtain⟨b,rfl,k1⟩:=je f1;obtain⟨c,rfl,k2⟩:=je f2;obtain⟨d,rfl,k3⟩:=je f3;exact⟨a,b,c,d,rfl,O,k1,k2,k3⟩
theorem yP{v zs}(h:aY w v zs)(h0:zs≠[]):∀x,v.ownBlock=E x->x<w.1.size:=by
 obtain⟨a,cap,h1,h2,h3,h4,h5⟩:=h;intro x hx;rcases h5 with h5|⟨b,off,e1,e2,e3⟩;exact absurd h5 h0;rw[h1,e1]at hx;have:b=x:=by simpa[Value.ownBlock]using hx
 omega
def Gl (w:ac)(cs:List ag)(vi vm vs:ag)(d:DD):Prop:=cs=[vi,Z J d.ch,Z J d.ms,Z J d.sd,vm,vs]/\mW w vi vm vs d/\∀k,k<3->(dl d k).length*8<=140737488351232
theorem IZ{n cs y}(h:DataW.trod enc prog w 0 spare held n 117 cs=E y)(hw:∀n∈y.1.weights prog 117,n<=reachBytes):
  ∃vi vm vs d,Gl w cs vi vm vs d:=by
 obtain⟨xs,m,_,hy,hl,hlen,hf⟩:=xA underlying117 h;rw[BA]at hl
 match cs,hl with
 |[c0,c1,c2,c3,c4,c5],_=> have f0:=hf 0 _ rfl;have f1:=hf 1 _ rfl;have f2:=hf 2 _ rfl;have f3:=hf 3 _ rfl;have f4:=hf 4 _ rfl;have f5:=hf 5 _ rfl;simp[rL,BC]at f0 f1 f2 f3 f4 f5;have aa:xs.length=6:=hlen;rw[aQ (by omega)]at f0 f1 f2 f3 f4 f5;obtain⟨a,rfl,k1⟩:=je f1;obtain⟨b,rfl,k2⟩:=je f2;obtain⟨c,rfl,k3⟩:=je f3;obtain⟨z0,l0,b0⟩:=vU f0 (λn hn=>hw n (by rw[hy];simp only[DataW.weights,underlying117];refine pY (j:=0) (t:=33) (d:=(xs[0]).1) rfl ?_ n hn;rw[dC,aQ (by omega)];rfl));obtain⟨z4,Y,b4⟩:=vU f4 (λn hn=>hw n (by rw[hy];simp only[DataW.weights,underlying117];refine pY (j:=4) (t:=33) (d:=(xs[4]).1) rfl ?_ n hn;rw[dC,aQ (by omega)];rfl));obtain⟨z5,l5,O⟩:=vU f5 (λn hn=>hw n (by rw[hy];simp only[DataW.weights,underlying117];refine pY (j:=5) (t:=33) (d:=(xs[5]).1) rfl ?_ n hn;rw[dC,aQ (by omega)];rfl));refine⟨c0,c4,c5,⟨z0,a,b,c,z4,z5⟩,rfl,⟨l0,Y,l5,k1,k2,k3⟩,λk hk=>?_⟩;rcases(show k=0\/k=1\/k=2 by omega)with rfl|rfl|rfl;exact b0;exact b4;exact O
theorem I'{n c y}(h:DataW.trod enc prog w 0 spare held n 27 [c]=E y)(hw:∀n∈y.1.weights prog 27,n<=reachBytes){B}(hB:Rows.uptoBulk y.1<=B):AR w c B:=by
 rcases open_slice underlying27 h with⟨hcs,_⟩|⟨x,l,cp,m,n',D,Pl,hcs,_,hl,hm,ak,hy,hx⟩;simp at hcs;exact⟨V,0,0,λ_=>undef,λ_=>undef,λ_=>undef,λ_=>⟨[],0,0,0,[],[]⟩,hcs,⟨aw _,by omega,λi hi=>by omega,λi hi=>by omega⟩,by omega,λi k hi=>by omega,bi _⟩;simp at hcs;have hbytes:=hw _ (by rw[hy];simp only[DataW.weights,underlying27];exact iE);rw[HT]at hbytes;simp only[List.length_map,List.length_range,reachBytes]at hbytes;have ap:l<=m:=by rw[ak];split<;>omega
 have aj:l<=B:=by rw[hy]at hB;simp only[Rows.uptoBulk]at hB;have:=Bx ((List.range l).map D);rw[dI,xB]at this;omega
 rw[BA]at hx;have hit:∀i,i<l->∃t:ag×ag×ag×DD,(mW w t.1 t.2.1 t.2.2.1 t.2.2.2/\∀k,k<3->(dl t.2.2.2 k).length*8<=140737488351232)/\∀j,j<6->w.cell? (x.add (i*6+j))=E (([t.1,Z J t.2.2.2.ch,Z J t.2.2.2.ms,Z J t.2.2.2.sd,t.2.1,t.2.2.1]:List ag).getD j undef):=by intro i hi;obtain⟨cs,e1,e2⟩:=hx i (by omega);obtain⟨_,e3,e4⟩:=AJ e1;obtain⟨vi,vm,vs,d,ah,hd,ai⟩:=IZ e2 (λn hn=>hw n (by rw[hy];simp only[DataW.weights,underlying27];refine ks _ (cZ.2 (ae (yR (cq.2 ⟨i,eW.2 hi,rfl⟩) n hn)))));refine⟨(vi,vm,vs,d),⟨hd,ai⟩,λj hj=>?_⟩;have O:=e4 j hj;rw[aQ (by omega)]at O;show _=E (([vi,Z J d.ch,Z J d.ms,Z J d.sd,vm,vs]:List ag).getD j undef);rw[<-ah,bG,aQ (by omega),xn,<-O,Gb]
 let T:Nat->ag×ag×ag×DD:=λi=>if hi:i<l then(hit i hi).choose else(undef,undef,undef,⟨[],0,0,0,[],[]⟩);have hT:∀i,i<l->(mW w (T i).1 (T i).2.1 (T i).2.2.1 (T i).2.2.2/\∀k,k<3->(dl (T i).2.2.2 k).length*8<=140737488351232)/\∀j,j<6->w.cell? (x.add (i*6+j))=E (([(T i).1,Z J (T i).2.2.2.ch,Z J (T i).2.2.2.ms,Z J (T i).2.2.2.sd,(T i).2.1,(T i).2.2.1]:List ag).getD j undef):=λi hi=>by have e:T i=(hit i hi).choose:=dif_pos hi;rw[e];exact(hit i hi).choose_spec
 have af:cp<=9223372036854775807:=by unfold maxLen at hm;omega
 refine⟨E x,l,cp,λi=>(T i).1,λi=>(T i).2.1,λi=>(T i).2.2.1,λi=>(T i).2.2.2,hcs,⟨by omega,af,λi hi=>?_,λi hi=>(hT i hi).1.1⟩,by omega,λi k hi hk=>(hT i hi).1.2 k hk,aj⟩;obtain⟨b,off,spot⟩:=x;have am:=(hT 0 (by omega)).2 0 (by omega);have hspot:spot=V:=by simpa[Addr.add]using uL am
 have aa:=(hT i hi).2 0 (by omega);subst hspot;have ac:∀j,(⟨b,off,V⟩:Addr).add j=⟨b,off+j,V⟩:=λj=>by unfold Addr.add;by_cases hz:j=0<;>simp[hz]
 have g:=(hT i hi).2;have g0:=g 0 (by omega);have g1:=g 1 (by omega);have g2:=g 2 (by omega);have g3:=g 3 (by omega);have g4:=g 4 (by omega);have Y:=g 5 (by omega);rw[ac]at g0 g1 g2 g3 g4 Y aa;refine⟨b,off,rfl,vk aa,?_,?_,?_,?_,?_,?_⟩;rw[lM]at g0;exact g0;rw[jr];exact g1;rw[jr];exact g2;rw[jr];exact g3;rw[jr];exact g4;rw[jr];exact Y
theorem Ot{n cs y}(h:DataW.trod enc prog w 0 spare held n 91 cs=E y)(hw:∀n∈y.1.weights prog 91,n<=reachBytes){B}(hB:Rows.uptoBulk y.1<=B):
  ∃kd x y z r,uW w kd x y z r B/\cs=t_ kd x y z r:=by
 obtain⟨xs,m,_,hy,hl,hlen,hf⟩:=xA underlying91 h;rw[BF]at hl
 match cs,hl with
 |[c0,c1,c2,c3,c4,c5,c6,c7,c8,c9,c10,c11,c12,c13],_=> have f0:=hf 0 _ rfl;have f1:=hf 1 _ rfl;have f2:=hf 2 _ rfl;have f3:=hf 3 _ rfl;have f4:=hf 4 _ rfl;have f5:=hf 5 _ rfl;have f6:=hf 6 _ rfl;have f7:=hf 7 _ rfl;have f8:=hf 8 _ rfl;simp[rL,BC,Io,BB,Bz,Il]at f0 f1 f2 f3 f4 f5 f6 f7 f8;have aj:xs.length=9:=hlen;rw[aQ (by omega)]at f0 f1 f2 f3 f4 f5 f6 f7 f8;obtain⟨kd,rfl,k0⟩:=je f0;obtain⟨x,rfl,k1⟩:=je f1;obtain⟨y,rfl,k2⟩:=je f2;obtain⟨z,rfl,k3⟩:=je f3;have hw4:∀n∈(xs[4]).1.weights prog 33,n<=reachBytes:=λn hn=>hw n (by rw[hy];simp only[DataW.weights,underlying91];refine pY (j:=4) (t:=33) (d:=(xs[4]).1) rfl ?_ n hn;rw[dC,aQ (by omega)];rfl);have af:∀n∈(xs[5]).1.weights prog 9,n<=reachBytes:=λn hn=>hw n (by rw[hy];simp only[DataW.weights,underlying91];refine pY (j:=5) (t:=9) (d:=(xs[5]).1) rfl ?_ n hn;rw[dC,aQ (by omega)];rfl);have ah:∀n∈(xs[6]).1.weights prog 65,n<=reachBytes:=λn hn=>hw n (by rw[hy];simp only[DataW.weights,underlying91];refine pY (j:=6) (t:=65) (d:=(xs[6]).1) rfl ?_ n hn;rw[dC,aQ (by omega)];rfl);have ai:∀n∈(xs[8]).1.weights prog 27,n<=reachBytes:=λn hn=>hw n (by rw[hy];simp only[DataW.weights,underlying91];refine pY (j:=8) (t:=27) (d:=(xs[8]).1) rfl ?_ n hn;rw[dC,aQ (by omega)];rfl);obtain⟨q0,q1,q2,q3,O,i0,i1,i2,i3⟩:=IB f7;simp only[List.cons.injEq,and_true]at O;obtain⟨e9,aa,e11,ac⟩:=O;have hdr:=I' f8 ai (B:=B) (by rw[hy]at hB;simp only[Rows.uptoBulk]at hB;refine fJ (Bw (cU (i:=8) ?_)) (Nat.le_of_succ_le hB);rw[dC,aQ (by omega)];rfl);obtain⟨fk,ff,fv,Y,ae⟩:=tK f6 ah;simp only[List.cons.injEq,and_true]at Y;obtain⟨h6,h7,h8⟩:=Y;exact⟨kd,x,y,z,λj=>[c4,c5,c6,c7,c8,c9,c10,c11,c12,c13].getD j undef,⟨⟨⟨k0,k1,k2,k3,vU f4 hw4⟩,TD f5 af,⟨fk,ff,h6,h7⟩,by show uV w c8;rw[h8];exact ae⟩,⟨q0,q1,q2,q3,e9,aa,e11,ac,i0,i1,i2,i3⟩,hdr⟩,rfl⟩
theorem RJ{n len cap y}(h:DataW.trod enc prog w 0 spare held n 22 [U a len cap]=E y)(hw:∀n∈y.1.weights prog 22,n<=reachBytes){B}(hB:Rows.uptoBulk y.1<=B):uY w a len B:=by
 rcases open_slice underlying22 h with⟨hcs,_⟩|⟨x,l,c,m,n',D,Pl,hcs,_,hl,hm,ac,hy,hx⟩;simp at hcs;obtain⟨rfl,rfl,rfl⟩:=hcs;exact⟨⟨by omega,bi _⟩,ae rfl⟩;simp at hcs;obtain⟨rfl,rfl,rfl⟩:=hcs;have hbytes:=hw _ (by rw[hy];simp only[DataW.weights,underlying22];exact iE);rw[H_]at hbytes;simp only[List.length_map,List.length_range,reachBytes]at hbytes;rw[hy]at hB;simp only[Rows.uptoBulk]at hB;have aa:=Bx ((List.range len).map D);rw[dI,xB]at aa;refine⟨⟨by omega,by omega⟩,?_⟩;rcases mn len with h0|h0;exact ae h0;right;have af:len<=m:=by rw[ac];split<;>omega
 rw[BF]at hx;obtain⟨b,off,spot⟩:=x;obtain⟨cs0,g1,g2⟩:=hx 0 (by omega);obtain⟨_,l0,q0⟩:=AJ g1;have O:=q0 0 (by omega);rw[aQ (by omega)]at O;have hspot:spot=V:=by simpa[Addr.add]using uL O
 subst hspot;refine⟨b,off,rfl,by simpa[Addr.add]using vk O,λi hi=>?_⟩;obtain⟨cs,e1,e2⟩:=hx i (by omega);obtain⟨_,e3,e4⟩:=AJ e1;obtain⟨kd,x,y',z,r,ho,hcs⟩:=Ot e2 (λn hn=>hw n (by rw[hy];simp only[DataW.weights,underlying22];refine ks _ (cZ.2 (ae (yR (cq.2 ⟨i,eW.2 hi,rfl⟩) n hn))))) (B:=B) (by have:=Bw (cq.2 ⟨i,eW.2 hi,rfl⟩:D i∈(List.range len).map D);show Rows.uptoBulk (D i)<=B;omega);refine⟨kd,x,y',z,r,ho,λj hj=>?_⟩;have Y:=e4 j hj;rw[aQ (by omega)]at Y;rw[<-hcs,bG,aQ (by omega),xn,<-Y,Gb];unfold Addr.add;by_cases hz:i*14+j=0;·rw[au hz,show off+i*14+j=off by omega]
 rw[ar hz,show off+i*14+j=off+(i*14+j)by omega]
end
theorem Pq (lo hi){len}(cap){B w}(hs:uY w a len B)(O:Nat->ac->Prop)(J2:ac->Prop)(h0:O 0 (w.alloc (ah #[U V 0 0,U V 0 0,U V 0 0,U V 0 0,U V 0 0,U V 0 0,U V 0 0,U V 0 0,U V 0 0,U V 0 0,U V 0 0,U V 0 0,U V 0 0,U V 0 0,U V 0 0,Z J 0] 89)))(hB:∀k wr,O k wr->af w.1.size w wr)(ap:∀k wr,O k wr->O (k+1) wr)(hstep:∀k wr kd x y z r,k<len->O k wr->lo<=kd->kd<=hi->uW w kd x y z r B->ay prog 25 #[aC (E ⟨w.1.size,0,V⟩),aD #[Z J kd,Z J x,Z J y,Z J z,r 0,r 1,r 2,r 3,r 4,r 5,r 6,r 7,r 8,r 9]] wr λe w'=>e=az (ak true)/\O (k+1) w')(hend:∀wr,O len wr->ay prog 26 #[aC (E ⟨w.1.size,0,V⟩)] wr λe w'=>e=az (ak true)/\J2 w')(aj:∀wr,J2 wr->ay prog 27 #[aC (E ⟨w.1.size,0,V⟩)] wr λe w'=>e=az (ak true)/\af w.1.size w w'):
  ay prog 10 #[U a len cap,Z J lo,Z J hi] w λe w'=>e=az (ak true)/\af w.1.size w w':=by
 obtain⟨⟨hl,-⟩,hs⟩:=hs;have HS:=gQ hs;have H0:=gQ h0;have HB:=gQ hB;have HK:=gQ ap;have HT:=gQ hstep;have HE:=gQ hend;have HL:=gQ aj;go_enter func10,ntmps10;go_wp2;go_loopw [8] (λi wr=>∃k:Nat,k<=len/\i=Z J k/\O k wr) (λi _=>len-(aA i).toNat);case atStart=>exact⟨0,bi _,rfl,H0.o⟩
 obtain⟨k,hk,rfl,hj⟩:=hrel;have Y:=gQ hj;by_cases hlt:k<len
 ·obtain⟨b,off,rfl,hblk,am⟩:∃b off,a=E ⟨b,off,V⟩/\b<w.1.size/\∀i,i<len->∃kd x y z r,uW w kd x y z r B/\
    ∀j,j<14->w.cell? ⟨b,off+i*14+j,V⟩=E ((t_ kd x y z r).getD j undef):=by rcases HS.o with h|h;omega;exact h
  obtain⟨kd,x,y,z,r,hop,hc0⟩:=am k hlt;have ai:=gQ hop;have hc:∀j,j<14->wr.cell? ⟨b,off+k*14+j,V⟩=E ((t_ kd x y z r).getD j undef):=λj hj=>by rw[(HB.o _ _ Y.o).cell (p:=⟨b,off+k*14+j,V⟩) hblk];exact hc0 j hj
  have c0:=hc 0 (by omega);have c1:=hc 1 (by omega);have c2:=hc 2 (by omega);have c3:=hc 3 (by omega);have c4:=hc 4 (by omega);have c5:=hc 5 (by omega);have c6:=hc 6 (by omega);have c7:=hc 7 (by omega);have c8:=hc 8 (by omega);have c9:=hc 9 (by omega);have c10:=hc 10 (by omega);have c11:=hc 11 (by omega);have c12:=hc 12 (by omega);have c13:=hc 13 (by omega);simp only[t_,List.getD_cons_zero,List.getD_cons_succ,Nat.add_zero]at c0 c1 c2 c3 c4 c5 c6 c7 c8 c9 c10 c11 c12 c13;by_cases k1:lo<=kd
  ·by_cases k2:kd<=hi
   ·go_wp2_with fail;refine aH (HT.o k _ kd x y z r hlt Y.o k1 k2 ai.o) λw' ae=>?_;have aa:=gQ ae;go_wp2;go_roundw;case rel=>exact⟨k+1,by omega,by go_num,aa.o⟩
    simp[aA];omega
   go_wp2;go_roundw;case rel=>exact⟨k+1,by omega,by go_num,HK.o _ _ Y.o⟩
   simp[aA];omega
  go_wp2;go_roundw;case rel=>exact⟨k+1,by omega,by go_num,HK.o _ _ Y.o⟩
  simp[aA];omega
 have ek:k=len:=by omega
 subst ek;go_wp2_with fail;refine aH (HE.o _ Y.o) λw' ae=>?_;have aa:=gQ ae;go_wp2_with fail;refine aH (HL.o _ aa.o) λw' hb=>?_;have ag:=gQ hb;go_wp2;go_ret;exact⟨rfl,ag.o⟩
end
section
open Go.RowKit
structure QS (pw:Nat)(w:ac)(F:Nat->ag)(ls:Nat->List Ow)(w':ac)(F':Nat->ag)(ls':Nat->List Ow):Prop where
 aV:av (λb=>b=pw\/aU F ls b) w w'
 fs:∀j,j<3->F' j=F j
 aS:∀b,b<w.1.size->¬aU F ls b->¬aU F' ls' b
section
variable {nx:Int}{w w' w'':ac}{pw:Nat}{F F' F'':Nat->ag}{ls ls' ls'':Nat->List Ow}
theorem QS.refl:QS pw w F ls w F ls:=⟨av.refl _ _,λ_ _=>rfl,λ_ _ h=>h⟩
theorem QS.below (h:QS pw w F ls w' F' ls')(hb:af w'.1.size w' w''):QS pw w F ls w'' F' ls':=⟨h.aV.grow hb,h.fs,h.aS⟩
theorem QS.O_ (h:QS pw w F ls w' F' ls'){v:ag}(hg:∀b,v.ownBlock=E b->w.1.size<=b)(hc:av (λb=>b=pw\/v.ownBlock=E b\/aU F' ls' b) w' w'')(hf:∀j,j<3->F'' j=F' j)(hn:∀b,b<w'.1.size->v.ownBlock≠E b->¬aU F' ls' b->¬aU F'' ls'' b):QS pw w F ls w'' F'' ls'':=by refine⟨h.aV.trans hc (λb e hbl=>?_),λj hj=>(hf j hj).trans (h.fs j hj),λb hbl O=>hn b (by have:=h.aV.size;omega) (λe=>by have:=hg b e;omega) (h.aS b hbl O)⟩;rcases e with e|e|e;exact ae e;have:=hg b e;omega;by_cases hx:aU F ls b;exact Q hx;exact absurd e (h.aS b hbl hx)
end
end
end Go.Proofs.YtchideljndagjabGreat


