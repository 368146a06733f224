/- Joined -/
import Derived.Test.YtchideljndagjabGreatUBB
import Derived.Deep.DeepCutAuto
import Derived.Test.YtchideljndagjabGreatUBD
set_option linter.unusedVariables false
set_option maxHeartbeats 4000000
set_option maxRecDepth 100000
namespace Go.Proofs.YtchideljndagjabGreat
open aq aO aB
open Go.Value renaming int->Z,slice->U,bool->ak,pointer->aC,tuple->br
open Go.IntKind renaming i64->J
open Go.Ending renaming returned->az
open Or renaming inl->ae,inr->Q
open Option renaming none->V,some->E
open Go renaming World->ac,Value->ag,Calls->ay
abbrev uT:=@List.length_drop
abbrev Vg:=@List.eraseIdx_eq_take_drop_succ
open Go.Proofs.Tryz
variable {v v':ag}
section
open Go.RowKit
section
variable {w w1 w':ac}{pw b n:Nat}{C:Cf}{cl:Nat->Cl}{s:Sn}{m:RM}
theorem bT.xa (h:bT w pw b n C cl s m)(hn:n<=12){i}(hi:i<n){O ac hv'}(t:tC w w' pw (m.yc i) (m.rs i) O (m.hh i) ac (m.hv i) hv'){st'}(hst:aO.lk (cl i) ac=st'):
  df w w' pw b n C cl {s with cs:=bu s.cs i st'} m {m with rs:=bu m.rs i O,hh:=bu m.hh i ac,hv:=bu m.hv i hv',tg:=f_ w m.tg O.hv (4+i)}:=by
 have z:=t.aV.size;have aa:∀x,cC b n m x->m.tg x≠4+i->w'.1[x]?=w.1[x]? :=λx hx e=>t.aV.block x (h.low x hx).2 (λq=>e (h.t4 i hi x q));have old:∀{x k},cC b n m x->m.tg x=k->f_ w m.tg O.hv (4+i) x=k:=λhx e=>(wa (h.low _ hx).2).trans e;have stat:∀x,kZ n {m with rs:=bu m.rs i O,hh:=bu m.hh i ac,hv:=bu m.hv i hv',tg:=f_ w m.tg O.hv (4+i)} x->kZ n m x\/(w.1.size<=x/\jQ O hv' x):=λx hx=>by
  rcases hx with hx|⟨j,hj,hx⟩|hx;exact ae (ae hx)
  ·have Y:jQ (bu m.rs i O j) (bu m.hv i hv' j) x:=hx;by_cases q:j=i;·subst q;rw[cP,cP]at Y;rcases t.stat x Y with o|o;exact ae (Q (ae ⟨j,hj,o⟩));exact Q ⟨o,Y⟩
   rw[dw _ _ _ q,dw _ _ _ q]at Y;exact ae (Q (ae ⟨j,hj,Y⟩))
  exact ae (Q (Q hx))
 have own:∀x,fV b n {m with rs:=bu m.rs i O,hh:=bu m.hh i ac,hv:=bu m.hv i hv',tg:=f_ w m.tg O.hv (4+i)} x->fV b n m x\/(w.1.size<=x/\O.hv.ownBlock=E x):=λx hx=>by
  rcases hx with hx|hx|hx|hx|⟨j,hj,hx⟩;exact ae (ae hx);exact ae (Q (ae hx));exact ae (Q (Q (ae hx)));exact ae (Q (Q (Q (ae hx))));have Y:x=m.yc j\/(bu m.rs i O j).hv.ownBlock=E x:=hx;by_cases q:j=i;·subst q;rw[cP]at Y;rcases Y with e|e;exact ae (Q (Q (Q (Q ⟨j,hj,ae e⟩))));rcases t.own x e with o|o;exact ae (Q (Q (Q (Q ⟨j,hj,Q o⟩))));exact Q ⟨o,e⟩
  rw[dw _ _ _ q]at Y;exact ae (Q (Q (Q (Q ⟨j,hj,Y⟩))))
 refine⟨⟨h.row.block (aa b (ae (ae rfl)) (by rw[h.t0];omega)),h.ba.keep z (λx hx=>?_),mO h.nP (λx hx=>aa x (ae (Q (ae hx))) (by rw[h.t1 x hx];omega)),λj hj=>?_,λj hj=>?_,h.fl.keep z (λx hx=>aa x (ae (Q (Q (ae hx)))) (by rw[h.t2 x hx];omega)) (λy hy x hx=>aa x (Q (Q (Q ⟨y,hy,hx⟩))) (by rw[h.t5 x (Q (Q ⟨y,hy,hx⟩))];omega)),old (ae (ae rfl)) h.t0,λx hx=>old (ae (Q (ae hx))) (h.t1 x hx),λx hx=>old (ae (Q (Q (ae hx)))) (h.t2 x hx),λx hx=>old (ae (Q (Q (Q (ae hx))))) (h.t3 x hx),λj hj x hx=>?_,λx hx=>?_,λx hx=>?_⟩,t.aV.mono (λx e _=>Q (Q (Q (Q ⟨i,hi,e⟩)))),λx hx=>(own x hx).imp id (λq=>q.1),λx hx=>?_,jO _,λj hj=>?_⟩;·rcases hx with hx|hx;exact aa x (ae (Q (Q (Q (ae hx))))) (by rw[h.t3 x hx];omega);exact aa x (Q (ae hx)) (by rw[h.t5 x (ae hx)];omega)
 ·show gw w' pw (m.yc j) (bu m.rs i O j) (bu m.hh i ac j) (bu m.hv i hv' j);by_cases q:j=i;subst q;rw[cP,cP,cP];exact t.ref;rw[dw _ _ _ q,dw _ _ _ q,dw _ _ _ q];refine(h.di j hj).keep z (λx hx=>?_) (λx hx=>?_);·rcases hx with hx|hx;exact aa x (ae (Q (Q (Q (Q ⟨j,hj,hx⟩))))) (by rw[h.t4 j hj x hx];omega);exact aa x (Q (Q (ae ⟨j,hj,hx⟩))) (by rw[h.t5 x (Q (ae ⟨j,hj,hx⟩))];omega)
  refine t.aV.block x (by have:=h.low b (ae (ae rfl));omega) (λe=>?_);have:=h.low x (ae (Q (Q (Q (Q ⟨i,hi,e⟩)))));omega
 ·show(bu m.rs i O j).c=cl j/\aO.lk (cl j) (bu m.hh i ac j)=bu s.cs i st' j;by_cases q:j=i;subst q;rw[cP,cP,cP];exact⟨t.cl.trans (h.cs j hj).1,hst⟩;rw[dw _ _ _ q,dw _ _ _ q,dw _ _ _ q];exact h.cs j hj
 ·have Y:x=m.yc j\/(bu m.rs i O j).hv.ownBlock=E x:=hx;show f_ w m.tg O.hv (4+i) x=4+j;by_cases q:j=i;·subst q;rw[cP]at Y;rcases Y with e|e;exact old (ae (Q (Q (Q (Q ⟨j,hj,ae e⟩))))) (h.t4 j hj x (ae e));rcases t.own x e with o|o;exact old (ae (Q (Q (Q (Q ⟨j,hj,Q o⟩))))) (h.t4 j hj x (Q o));exact y_ (by omega) e
  rw[dw _ _ _ q]at Y;exact old (ae (Q (Q (Q (Q ⟨j,hj,Y⟩))))) (h.t4 j hj x Y)
 ·show f_ w m.tg O.hv (4+i) x=100;rcases stat x hx with q|⟨q,e⟩;exact old (Q q) (h.t5 x q);exact tY (by omega) (t.ref.apart x e).2
 ·rcases hx with hx|hx;·rcases own x hx with q|⟨q,e⟩;exact⟨(h.low x (ae q)).1,cG (h.low x (ae q)).2 z⟩;exact t.ref.aS x (ae (Q e))
  rcases stat x hx with q|⟨q,e⟩;exact⟨(h.low x (Q q)).1,cG (h.low x (Q q)).2 z⟩;exact t.ref.aS x (Q e)
 ·rcases hx with hx|hx;exact(own x hx).imp ae (λq=>q.1);exact(stat x hx).imp Q (λq=>q.1)
 show(bu m.hh i ac j).length<=_;by_cases q:j=i;subst q;rw[cP];exact t.more;rw[dw _ _ _ q];omega
theorem bT.qZ (h:bT w pw b n C cl s m){vs' ps'}(hc:av (λx=>m.fv.ownBlock=E x) w w1)(hf:fw w1 v' vs' ps')(hw':w'=w1.setCell ⟨b,19,V⟩ v')(hv:∀x,v'.ownBlock=E x->m.fv.ownBlock=E x\/w.1.size<=x)(hy:∀y∈vs',∀x,y.ownBlock=E x->(x<w.1.size/\pw<x/\m.tg x=100)\/w.1.size<=x):
  bT w' pw b n C cl {s with fl:=ps'} {m with fv:=v',vs:=vs',tg:=f_ w m.tg v' 2}/\av (fV b n m) w w'/\(∀x,fV b n {m with fv:=v',vs:=vs',tg:=f_ w m.tg v' 2} x->fV b n m x\/w.1.size<=x)/\(∀x,cC b n {m with fv:=v',vs:=vs',tg:=f_ w m.tg v' 2} x->cC b n m x\/w.1.size<=x\/∃y∈vs',y.ownBlock=E x):=by
 have ah:=h.low b (ae (ae rfl));have z:=hc.size;have nb:m.fv.ownBlock≠E b:=λe=>by have h1:=h.t2 b e;rw[h.t0]at h1;omega
 have ac:v'.ownBlock≠E b:=λe=>by rcases hv b e with q|q;exact nb q;omega
 have z2:w1.1.size=w'.1.size:=by rw[hw'];simp
 have c2:av (λx=>x=b) w1 w':=by rw[hw'];exact av.setCell w1 ⟨b,19,V⟩ _
 have c3:av (λx=>x=b\/m.fv.ownBlock=E x) w w':=(hc.mono (S':=λx=>x=b\/m.fv.ownBlock=E x) (λx e _=> Q e)).trans c2 (λx e _=> ae e);have Y:∀x,cC b n m x->m.tg x≠0->m.tg x≠2->w'.1[x]? =w.1[x]? :=λx hx e1 e2=>c3.block x (h.low x hx).2 (λq=>by rcases q with q|q;exact e1 (by rw[q];exact h.t0);exact e2 (h.t2 x q));have old:∀{x k},cC b n m x->m.tg x=k->f_ w m.tg v' 2 x=k:=λhx e=>(wa (h.low _ hx).2).trans e;have af:bp w1 b 196 20 (kP C n s.gone m.ys m.cv m.fv):=h.row.block (hc.block b h.blt nb);have aa:fw w' v' vs' ps':=hf.keep (by omega) (λx hx=>c2.block x (hf.ot hx) (λe=>ac (e▸hx))) (λy O x hx=>c2.block x (hf.low y O x hx) (λe=>by subst e;rcases hy y O x hx with q|q;rw[h.t0]at q;omega;have:=h.blt;omega));have own:∀x,fV b n {m with fv:=v',vs:=vs',tg:=f_ w m.tg v' 2} x->fV b n m x\/(w.1.size<=x/\v'.ownBlock=E x):=λx hx=>by
  rcases hx with hx|hx|hx|hx|hx;exact ae (ae hx);exact ae (Q (ae hx));·rcases hv x hx with q|q;exact ae (Q (Q (ae q)));exact Q ⟨q,hx⟩
  exact ae (Q (Q (Q (ae hx))));exact ae (Q (Q (Q (Q hx))))
 have stat:∀x,kZ n {m with fv:=v',vs:=vs',tg:=f_ w m.tg v' 2} x->kZ n m x\/∃y∈vs',y.ownBlock=E x:=λx hx=>by rcases hx with hx|hx|hx;exact ae (ae hx);exact ae (Q (ae hx));exact Q hx
 refine⟨⟨?_,h.ba.keep (by omega) (λx hx=> ?_),mO h.nP (λx hx=>Y x (ae (Q (ae hx))) (by rw[h.t1 x hx];omega) (by rw[h.t1 x hx];omega)),λj hj=>(h.di j hj).keep (by omega) (λx hx=> ?_) (λx hx=> ?_),h.cs,aa,old (ae (ae rfl)) h.t0,λx hx=>old (ae (Q (ae hx))) (h.t1 x hx),λx hx=> ?_,λx hx=>old (ae (Q (Q (Q (ae hx))))) (h.t3 x hx),λj hj x hx=>old (ae (Q (Q (Q (Q ⟨j,hj,hx⟩))))) (h.t4 j hj x hx),λx hx=> ?_,λx hx=> ?_⟩,c3.mono (λx e _=>by rcases e with e|e;exact ae e;exact Q (Q (ae e))),λx hx=>(own x hx).imp id (λq=>q.1),λx hx=> ?_⟩;rw[hw'];exact bp.upd af 19 (by omega) _ rfl (λu _ hne=>by unfold kP;simp only[hne,if_false]);·rcases hx with hx|hx;exact Y x (ae (Q (Q (Q (ae hx))))) (by rw[h.t3 x hx];omega) (by rw[h.t3 x hx];omega);exact Y x (Q (ae hx)) (by rw[h.t5 x (ae hx)];omega) (by rw[h.t5 x (ae hx)];omega)
 ·rcases hx with hx|hx;exact Y x (ae (Q (Q (Q (Q ⟨j,hj,hx⟩))))) (by rw[h.t4 j hj x hx];omega) (by rw[h.t4 j hj x hx];omega);exact Y x (Q (Q (ae ⟨j,hj,hx⟩))) (by rw[h.t5 x (Q (ae ⟨j,hj,hx⟩))];omega) (by rw[h.t5 x (Q (ae ⟨j,hj,hx⟩))];omega)
 ·refine c3.block x (by omega) (λe=> ?_);rcases e with e|e;omega;have:=h.low x (ae (Q (Q (ae e))));omega
 ·show f_ w m.tg v' 2 x=2;rcases hv x hx with q|q;exact old (ae (Q (Q (ae q)))) (h.t2 x q);exact y_ (by omega) hx
 ·show f_ w m.tg v' 2 x=100;rcases stat x hx with q|⟨y,O,q⟩;exact old (Q q) (h.t5 x q);rcases hy y O x q with o|o;exact(wa o.1).trans o.2.2;exact tY (by omega) (hf.apart y O x q)
 ·rcases hx with hx|hx;·rcases own x hx with q|⟨q,e⟩;have:=h.low x (ae q);omega;have:=hf.ot e;omega
  rcases stat x hx with q|⟨y,O,q⟩;have:=h.low x (Q q);omega;have h1:=hf.low y O x q;rcases hy y O x q with o|o<;>omega
 rcases hx with hx|hx;·rcases own x hx with q|⟨q,_⟩;exact ae (ae q);exact Q (ae q)
 rcases stat x hx with q|q;exact ae (Q q);exact Q (Q q)
theorem bT.tI (h:bT w pw b n C cl s m){i}(hi:i<n)(hn:n<=12):df w (w.setCell ⟨b,i+7,V⟩ (ak true)) pw b n C cl (rP s i) m m:=by
 have c:av (λx=>x=b) w (w.setCell ⟨b,i+7,V⟩ (ak true)):=av.setCell w ⟨b,i+7,V⟩ _;have Y:=h.low b (ae (ae rfl));have O:∀x,cC b n m x->m.tg x≠0->(w.setCell ⟨b,i+7,V⟩ (ak true)).1[x]?=w.1[x]? :=λx hx e=>c.block x (h.low x hx).2 (λq=>e (by rw[q];exact h.t0));refine⟨{h with row:=?_,ba:=h.ba.keep c.size (λx hx=>?_),nP:=mO h.nP (λx hx=>O x (ae (Q (ae hx))) (by rw[h.t1 x hx];omega)),di:=λj hj=>(h.di j hj).keep c.size (λx hx=>?_) (λx hx=>c.block x (by omega) (by omega)),fl:=h.fl.keep c.size (λx hx=>O x (ae (Q (Q (ae hx)))) (by rw[h.t2 x hx];omega)) (λy hy x hx=>O x (Q (Q (Q ⟨y,hy,hx⟩))) (by rw[h.t5 x (Q (Q ⟨y,hy,hx⟩))];omega)),low:=λx hx=>by have h1:=h.low x hx;have h2:=c.size;omega},c.mono (λx e _=>ae e),λx hx=>ae hx,λx hx=>ae hx,jO _,λ_ _=>jO _⟩
 ·refine bp.upd h.row (i+7) (by omega) _ ?_ (λu hu hne=>?_);·show kP C n (bu s.gone i true) m.ys m.cv m.fv (i+7)=_;unfold kP;rw[ar (by omega),ar (by omega),ar (by omega),ar (by omega),ar (by omega),ar (by omega),ar (by omega),aK (by omega),eE,show i+7-7=i by omega,cP]
  show kP C n (bu s.gone i true) m.ys m.cv m.fv u=_;unfold kP;by_cases q:7<=u/\u<=n+6;·rw[dw _ _ _ (show u-7≠i by omega)]
  rw[aM q,iD,iD]
 ·rcases hx with hx|hx;exact O x (ae (Q (Q (Q (ae hx))))) (by rw[h.t3 x hx];omega);exact O x (Q (ae hx)) (by rw[h.t5 x (ae hx)];omega)
 rcases hx with hx|hx;exact O x (ae (Q (Q (Q (Q ⟨j,hj,hx⟩))))) (by rw[h.t4 j hj x hx];omega);exact O x (Q (Q (ae ⟨j,hj,hx⟩))) (by rw[h.t5 x (Q (ae ⟨j,hj,hx⟩))];omega)
end
end
section
open Go.ChangeShapes Go.WideShapes Go.ChangeAt Go.RowKit
section
variable {w w1 w':ac}{pw b n:Nat}{C:Cf}{cl:Nat->Cl}{s s1 s2:Sn}{m m1 m2:RM}
theorem bT.cells (h:bT w pw b n C cl s m):w.cell? ⟨b,0,V⟩=E (Z J C.N)/\w.cell? ⟨b,4,V⟩=E (aC (E ⟨m.ys,0,V⟩))/\w.cell? ⟨b,5,V⟩=E m.cv/\w.cell? ⟨b,19,V⟩=E m.fv/\∀i,w.frozen? ⟨b,i,V⟩=false:=
 ⟨h.row.cell 0 (by omega),h.row.cell 4 (by omega),h.row.cell 5 (by omega),h.row.cell 19 (by omega),λi=>h.row.bF i⟩
theorem bT.gone (h:bT w pw b n C cl s m)(hn:n<=12){i}(hi:i<n):w.cell? ⟨b,6+(i+1),V⟩=E (ak (s.gone i)):=by rw[h.row.cell (6+(i+1)) (by omega)];unfold kP;rw[ar (by omega),ar (by omega),ar (by omega),ar (by omega),ar (by omega),ar (by omega),ar (by omega),aK (by omega),eE,show 6+(i+1)-7=i by omega]
theorem bT.BN (h:bT w pw b n C cl s m){i}(hi:i<n):∃g cap,m.cv=U (E ⟨g,0,V⟩) n cap/\n<=cap/\cap<=9223372036854775807/\g<w.1.size/\w.cell? ⟨g,i,V⟩=E (aC (E ⟨m.yc i,0,V⟩)):=by have h0:=h.nP;rcases h0.2 with⟨_,Y⟩|⟨g,cap,cur,e0,_,_,O,hcm,_⟩;omega;rw[e0]at h0;refine⟨g,cap,e0,O,by unfold maxLen at hcm;omega,(h0.lt g rfl).2,?_⟩;rw[h0.cellAt i (by omega),dC,oz hi];rfl
theorem bT.pD{W w2 w3 g cap}(h:bT w pw b n C cl s m){p y}(hy:bX w y p.2.2)(O:∀x,y.ownBlock=E x->x<w.1.size/\pw<x/\m.tg x=100)(hW:Below w.1.size w W)(hr:w2.ownsRow 0 49 3 (U (E ⟨g,0,V⟩) (s.fl.length+1) cap) (s.fl.length+1) (bC s.fl m.vs++[Z J p.1,Z J p.2.1,y]))(hgr:W.grownBy w2 m.fv.ownBlock)(hat:m.fv.ownBlock=E g\/g=W.1.size)(hw3:w3=w2.setCell ⟨b,19,V⟩ (U (E ⟨g,0,V⟩) (s.fl.length+1) cap)):
  ∃m',bT w3 pw b n C cl {s with fl:=s.fl++[p]} m'/\av (fV b n m) w w3/\(∀x,fV b n m' x->fV b n m x\/w.1.size<=x)/\(∀x,cC b n m' x->cC b n m x\/w.1.size<=x\/y.ownBlock=E x)/\m'.L=m.L/\m'.hh=m.hh:=by
 have zW:=hW.size;have hv:∀x,(Value.slice (E ⟨g,0,V⟩) (s.fl.length+1) cap).ownBlock=E x->m.fv.ownBlock=E x\/w.1.size<=x:=λx hx=>by
  have e:x=g:=by simpa[Value.ownBlock]using hx.symm
  subst e;rcases hat with k|k;exact ae k;exact Q (by omega)
 have hc:av (λx=>m.fv.ownBlock=E x) w w2:=(av.bz hW).trans (av.grown hgr) (λx e _=>e);have hf:=h.fl.snoc (p:=p) hy (λx hx=>⟨(O x hx).1,λe=>by have h1:=h.t2 x e;have h2:=(O x hx).2.2;omega⟩) hr hc hv;have R:=h.qZ hc hf hw3 hv (λu hu x hx=>?_);·obtain⟨r1,r2,r3,Y⟩:=R;refine⟨_,r1,r2,r3,λx hx=>?_,rfl,rfl⟩;rcases Y x hx with k|k|⟨u,hu,k⟩;exact ae k;exact Q (ae k);rcases cZ.1 hu with hu|hu;exact ae (Q (Q (Q ⟨u,hu,k⟩)));rw[lN.1 hu]at k;exact Q (Q k)
 rcases cZ.1 hu with hu|hu;have h1:=h.low x (Q (Q (Q ⟨u,hu,hx⟩)));exact ae ⟨h1.2,h1.1,h.t5 x (Q (Q ⟨u,hu,hx⟩))⟩;rw[lN.1 hu]at hx;exact ae (O x hx)
theorem df.then(t:df w w1 pw b n C cl s1 m m1){y:ag}(k1:bT w' pw b n C cl s2 m2)(k2:av (fV b n m1) w1 w')(k3:∀x,fV b n m2 x->fV b n m1 x\/w1.1.size<=x)(k4:∀x,cC b n m2 x->cC b n m1 x\/w1.1.size<=x\/y.ownBlock=E x)(k5:m2.L=m1.L)(k6:m2.hh=m1.hh)(hy:∀x,y.ownBlock=E x->cC b n m x\/w.1.size<=x):df w w' pw b n C cl s2 m m2:=by
 have z:=t.aV.size;refine⟨k1,t.aV.trans k2 (λx e hx=>?_),λx hx=>?_,λx hx=>?_,by rw[k5];exact t.logs.1,by rw[k6];exact t.logs.2⟩;·rcases t.own x e with q|q;exact q;omega
 ·rcases k3 x hx with q|q;exact t.own x q;exact Q (by omega)
 rcases k4 x hx with q|q|q;exact t.aS x q;exact Q (by omega);exact hy x q
theorem QQ{B B' e e' k k' n n' xs aa}(h:w.ownsRow B e k v n xs)(h':w.ownsRow B' e' k' v' n' aa)(he:e≠e'):∀x,v.ownBlock=E x->v'.ownBlock≠E x:=λx hx Y=>by
 rcases h.2 with⟨rfl,_⟩|⟨g,cap,cur,rfl,_,h4,_⟩;cases hx;rcases h'.2 with⟨rfl,_⟩|⟨g',cap',cur',rfl,_,O,_⟩;cases Y;have e1:g=x:=by simpa[Value.ownBlock]using hx
 have e2:g'=x:=by simpa[Value.ownBlock]using Y
 subst e1;subst e2;rw[h4]at O;injection O with q;injection q with _ q2 _;exact he q2
end
theorem Eo{pw b n C cl s m w}(h:bT w pw b n C cl s m)(ok:bU C cl n s)(hl:(m.L.length+1)*48<=140737488355328)(hh:∀i,i<n->((m.hh i).length+1)*40<=140737488355328)(d)(hd:0<=d/\d<=(n:Int)){zs}(hv:bX w v zs):
  ay prog 245 #[aC (E ⟨b,0,V⟩),Z J d,v] w λe w'=>e=az (br #[])/\∃m',df w w' pw b n C cl (eo C cl n s d zs) m m':=by
 have hb:=h.blt;have aI:n<=12:=by have:=ok.gc.n;have:=ok.num;omega
 obtain⟨c0,c4,c5,c19,fz⟩:=h.cells;obtain⟨aT,cz,aa,-,-,hB,-⟩:=eC hv;by_cases ap:d=0
 ·subst ap;have er:eo C cl n s 0 zs={s with q:=fB C s.q zs}:=by unfold eo;rw[ar (by omega)];rfl
  have HV:=I (show ay prog 114 #[aC (E ⟨m.ys,0,V⟩),v] w (λe w'=>e=az (ak (kQ C s.q zs))/\∃m',df w w' pw b n C cl (eo C cl n s 0 zs) m m')from
   (Rm ok.gc h.ba hv hl).mono (λe w' ⟨h1,bf,L',X',t⟩=>⟨h1,by rw[er];exact⟨_,h.Fq t⟩⟩));rw[aa]at HV ⊢;clear h hv aa er ok hl hh fz;generalize zs.length=nz at*;go_enter func245,ntmps245;go_wp2_with fail;refine aH HV.o λw1 aF=>?_;have O:=I aF;clear aF;go_wp2_with fail;(try simp only[Exit.inBlock,Exit.then]);refine cQ (Gi rfl _ _ _) rfl ?_;exact⟨rfl,O.o⟩
 obtain⟨i,hi⟩:∃i:Nat,d=((i+1:Nat):Int):=⟨(d-1).toNat,by omega⟩;have Y:i<n:=by omega
 have er:eo C cl n s d zs=gS cl s i zs:=by unfold eo;rw[au (by omega),show d.toNat-1=i by omega]
 rw[er];have aD:d=(i:Int)+1:=by omega
 have g0:=h.gone aI Y;cases hg:s.gone i
 ·rw[hg]at g0;obtain⟨aW,aU,hcv,hc1,hc2,aX,hcc⟩:=h.BN Y;rw[hcv]at c5;have hcs:=h.cs i Y
  have aA:=I (show ay prog 110 #[aC (E ⟨m.yc i,0,V⟩),v] w (λe w'=>∃va,e=az va/\∃m1,df w w' pw b n C cl {s with cs:=bu s.cs i (fP (cl i) (s.cs i) zs)} m m1/\lS w w' va (fM (cl i) (s.cs i) zs)/\∀x,w.1.size<=x->(∃k xs,w'.ownsRow w.1.size 5 1 va k xs)->va.ownBlock=E x->m1.tg x=100)from
   (PT (h.di i Y) hv (hh i Y)).mono (λe w' ⟨va,h1,s',aZ,vs',t,h2,h3⟩=>by rw[hcs.1,hcs.2]at h2 h3;exact⟨va,h1,_,h.xa aI Y t h2,h3,λx hx ⟨k,xs,hr⟩ e=>tY (by omega) (λe2=>QQ hr t.ref.heard.own (by decide) x e e2)⟩));have ag:=A (gS cl s i zs={s with cs:=bu s.cs i (fP (cl i) (s.cs i) zs),fl:=s.fl++oN i (fM (cl i) (s.cs i) zs)}) (by unfold gS;rw[ar (by rw[hg];exact dR)]);have aJ:=I (xY (ok.good i Y) (s:=s.cs i) hB);obtain⟨i1,aM,aQ,aR,aS⟩:=bO ll;have aY:=ok.fl;have bb:=h.low b (ae (ae rfl));rw[aa]at aA ⊢;obtain⟨u,hu⟩:∃u:Nat,u=i+1:=⟨_,rfl⟩;rw[<-hu]at g0 hi;have HU:=I hu;have aO:(u:Int)<13:=by omega
  have aP:¬(u:Int)=0:=by omega
  have bc:(u:Int)-1=(i:Int):=by omega
  have a_:(i:Int)<(n:Int):=by omega
  rw[hi];clear h hv aa er ok hl hh fz hg ap hd aD hcs hcv hu;generalize zs.length=nz at*;go_enter func245,ntmps245;go_wp2_with fail;refine aA.o.mono ?_;rintro e w1 ⟨va,rfl,m1,t1,ha,aq⟩;have T1:=I t1;have hb1:=t1.bP.blt
  cases af:fM (cl i) (s.cs i) zs with
  |none=> rw[af]at ha ag;have ha':va=U V 0 0:=ha;have O:=A (∃m',df w w1 pw b n C cl (gS cl s i zs) m m') ⟨m1,by rw[ag.o,show s.fl++oN i V=s.fl from ew _];exact T1.o⟩;subst ha';clear t1 ha aq af c0 c4 c5 c19 g0 hcc;go_wp2_with fail;(try simp only[Exit.inBlock,Exit.then]);go_end0;exact⟨rfl,O.o⟩
  |some f=>
   rw[af]at ha ag;have hrow:w1.ownsRow w.1.size 5 1 va (bm f.1 f.2.1 f.2.2).length ((bm f.1 f.2.1 f.2.2).map (Value.int .u8)):=ha;have hby:=nM hrow (aJ.o f af);obtain⟨d0,d4,d5,d19,aB⟩:=t1.bP.cells;have f19:=aB 19;obtain⟨a9,c9,aG,-⟩:=t1.bP.fl.view;have ah:=I t1.bP.fl.row;have NB:=A (m1.fv.ownBlock≠E b) (λe=>by have q1:=t1.bP.t2 b e;rw[t1.bP.t0]at q1;omega);have HS:=I (λ(W w2 w3:ac)(g cap:Nat) hW hr hgr hat hw3=>(show∃m',df w w3 pw b n C cl (gS cl s i zs) m m' from by
    obtain⟨m2,k1,k2,k3,k4,k5,k6⟩:=T1.o.bP.pD (p:=((u:Int),0,bm f.1 f.2.1 f.2.2)) (W:=W) (w2:=w2) (w3:=w3) (g:=g) (cap:=cap) hby (λx hx=>⟨(hrow.lt x hx).2,by have:=(hrow.lt x hx).1;omega,aq x (hrow.lt x hx).1 ⟨_,_,hrow⟩ hx⟩) hW hr hgr hat hw3;refine⟨m2,?_⟩;have e1:gS cl s i zs={s with cs:=bu s.cs i (fP (cl i) (s.cs i) zs),fl:=s.fl++[((u:Int),0,bm f.1 f.2.1 f.2.2)]}:=by rw[ag.o];show({s with cs:=_,fl:=s.fl++[((i:Int)+1,0,bm f.1 f.2.1 f.2.2)]}:Sn)=_;rw[show(i:Int)+1=(u:Int)by have:=HU.o;omega]
    rw[e1];exact T1.o.then k1 k2 k3 k4 k5 k6 (λx hx=>Q (hrow.lt x hx).1)));obtain⟨am,cy,av,-⟩:=eC hby;have aN:0<(bm f.1 f.2.1 f.2.2).length:=Nat.succ_pos _;rw[aG]at d19 ah HS NB;rw[av]at HS;rw[av];obtain⟨k,hk⟩:=aj s.fl.length;obtain⟨ne,hne⟩:=aj ((bm f.1 f.2.1 f.2.2).length);have hk3:k<=300:=by omega
   dsimp only at d19 ah HS NB;rw[<-hk]at d19 ah HS NB;rw[<-hne]at HS aN;rw[<-hne];clear t1 ha aq af c0 c4 c5 c19 g0 hcc hrow hby aB aG av hk hne d0 d4 d5;go_upto_region 5 with fail;go_wp2_with(at_builtin;refine tx _ rfl _ _ 41 rfl 0 49 i1 (.agg #[Z J 0,Z J 0,U V 0 0]) 3 40 jt aM aQ aR aS rfl (by decide) _ _ _ rfl (ah.o.alloc _) ⟨w1.1.size,0,V⟩ 1 1 [Z J (u:Int),Z J 0,U am ne cy] rfl rfl ?c1 ?c2 (by decide) ?c3 ?c4 (bi _) _ rfl ?_);case c1=>have:=rK w1 (Z J (u:Int)) (Z J 0) (U am ne cy) 49;simpa using this
   case c2=>intro x hx;simp at hx;rcases hx with rfl|rfl|rfl<;>rfl
   case c3=>unfold maxLen;omega
   case c4=>omega
   intro g cap w2 hr hgr hat aL;have ai:Below w1.1.size w1 (w1.alloc (.cells #[Z J (u:Int),Z J 0,U am ne cy] 49)):=(ax _ _).alloc (aw _) _;have d77:w2.cell? ⟨b,19,V⟩=E (U a9 k c9):=by rw[hgr.cell_far ⟨b,19,V⟩ (by show b<_;simp;omega) (λe=>NB.o e.symm),ai.cell (p:=⟨b,19,V⟩) hb1];exact d19
   have aV:w2.frozen? ⟨b,19,V⟩=false:=by rw[hgr.frozen_far ⟨b,19,V⟩ (by show b<_;simp;omega) (λe=>NB.o e.symm),ai.frozen (p:=⟨b,19,V⟩) hb1];exact f19
   obtain⟨w3,hw3⟩:=aj (w2.setCell ⟨b,19,V⟩ (U (E ⟨g,0,V⟩) (k+1) cap));have O:=I (HS.o _ w2 w3 g cap ai hr hgr (by simpa using hat) hw3);have aK:=I hw3;clear hr hgr hat aL ai hw3 d19 f19;go_wp2_with fail;rw[<-aK.o];go_end0;exact⟨rfl,O.o⟩
 rw[hg]at g0;have O:=A (∃m',df w w pw b n C cl (gS cl s i zs) m m') (by unfold gS;rw[au hg];exact⟨m,sF h (ax _ _)⟩);rw[aa];obtain⟨u,hu⟩:∃u:Nat,u=i+1:=⟨_,rfl⟩;rw[<-hu]at g0 hi;have aO:(u:Int)<13:=by omega
 rw[hi];have aP:¬(u:Int)=0:=by omega
 clear h hv aa er ok hl hh fz hg ap hd aD hu;generalize zs.length=nz at*;go_enter func245,ntmps245;go_wp2_with fail;(try simp only[Exit.inBlock,Exit.then]);refine cQ (Gi rfl _ _ _) rfl ?_;exact⟨rfl,O.o⟩
theorem addr_add (g o j):(⟨g,o,V⟩:Addr).add j=⟨g,o+j,V⟩:=by unfold Addr.add;by_cases hz:j=0<;>simp[hz]
theorem fw.part{w vs ps}(h:fw w v vs ps){g c}(hv:v=U (E ⟨g,0,V⟩) ps.length c)(i j)(Y:i+j<=ps.length):
  (bC ((ps.drop i).take j) ((vs.drop i).take j)).length=j*3/\(∀t u,(bC ((ps.drop i).take j) ((vs.drop i).take j))[t]?=E u->w.cell? ((⟨g,i*3,V⟩:Addr).add t)=E u)/\∀u∈bC ((ps.drop i).take j) ((vs.drop i).take j),u.oneCell'=true:=by
 have hl:=h.len;have l1:((ps.drop i).take j).length=j:=by rw[eV,uT];omega
 have l2:((vs.drop i).take j).length=((ps.drop i).take j).length:=by rw[eV,uT,eV,uT,hl]
 have hlen:(bC ((ps.drop i).take j) ((vs.drop i).take j)).length=j*3:=by rw[qJ _ _ l2,l1]
 have e1:ps=ps.take i++((ps.drop i).take j++(ps.drop i).drop j):=by rw[xw,xw]
 have e2:vs=vs.take i++((vs.drop i).take j++(vs.drop i).drop j):=by rw[xw,xw]
 have l3:(vs.take i).length=(ps.take i).length:=by rw[eV,eV,hl]
 have O:(bC (ps.take i) (vs.take i)).length=i*3:=by rw[qJ _ _ l3,eV];congr 1;omega
 have hp:bC ps vs=bC (ps.take i) (vs.take i)++(bC ((ps.drop i).take j) ((vs.drop i).take j)++bC ((ps.drop i).drop j) ((vs.drop i).drop j)):=by rw[<-ua _ _ _ _ l2,<-ua _ _ _ _ l3,<-e1,<-e2]
 refine⟨hlen,λt u hu=>?_,ww _ _ (λy hy=>?_)⟩;have ht:t<j*3:=by rw[<-hlen];exact(fC.1 hu).1
 have hr:=h.row;rw[hv]at hr;rw[addr_add,hr.cellAt (i*3+t) (by omega),hp,fo (by omega),O,show i*3+t-i*3=t by omega,ey (by omega)];exact hu;obtain⟨k,hk,e⟩:=fT (List.mem_of_mem_drop (Aw hy));obtain⟨a',c',e',-⟩:=eC (h.each k y (ps[k]'(by rw[<-hl];exact hk)) (by rw[aQ hk,e]) (aQ _));rw[e'];rfl
theorem Ev{pw b n C cl s m w}(h:bT w pw b n C cl s m){i}(hi:i<s.fl.length)(hlen:s.fl.length<=300):
  ay prog 244 #[aC (E ⟨b,0,V⟩),Z J (i:Int)] w λe w'=>∃v',e=az v'/\w'.ownsRow w.1.size 49 3 v' (s.fl.eraseIdx i).length (bC (s.fl.eraseIdx i) (m.vs.eraseIdx i))/\Below w.1.size w w':=by
 have hb:=h.blt;obtain⟨-,-,-,c19,-⟩:=h.cells;obtain⟨a,c,hv,hlc,hcm,am⟩:=h.fl.view;obtain⟨g,-,rfl,aB,-⟩:=am i _ (aQ hi);have ap:=h.fl.len;obtain⟨p1,p2,p3⟩:=h.fl.part hv 0 i (by omega);obtain⟨r1,r2,r3⟩:=h.fl.part hv (i+1) (s.fl.length-(i+1)) (by omega);rw[xv,xv]at p1 p2 p3;rw[uD]at p2;have ee:s.fl.eraseIdx i=s.fl.take i++(s.fl.drop (i+1)).take (s.fl.length-(i+1)):=by rw[Vg,kt (l:=s.fl.drop (i+1)) (by rw[uT];omega)]
 have ef:m.vs.eraseIdx i=m.vs.take i++(m.vs.drop (i+1)).take (s.fl.length-(i+1)):=by rw[Vg,kt (l:=m.vs.drop (i+1)) (by rw[uT];omega)]
 have l3:(m.vs.take i).length=(s.fl.take i).length:=by rw[eV,eV,ap]
 have O:=I (show bC (s.fl.eraseIdx i) (m.vs.eraseIdx i)=bC (s.fl.take i) (m.vs.take i)++bC ((s.fl.drop (i+1)).take (s.fl.length-(i+1))) ((m.vs.drop (i+1)).take (s.fl.length-(i+1)))/\(s.fl.eraseIdx i).length=i+(s.fl.length-(i+1))by rw[ee,ef,ua _ _ _ _ l3];refine⟨rfl,?_⟩;rw[cy,eV,eV,uT];omega);obtain⟨i1,af,aq,ar,au⟩:=bO ll;rw[hv]at c19;obtain⟨X1,ag⟩:=aj (bC (s.fl.take i) (m.vs.take i));obtain⟨X2,ah⟩:=aj (bC ((s.fl.drop (i+1)).take (s.fl.length-(i+1))) ((m.vs.drop (i+1)).take (s.fl.length-(i+1))));rw[<-ag]at p1 p2 p3 O;rw[<-ah]at r1 r2 r3 O;obtain⟨L,hL⟩:=aj s.fl.length;rw[<-hL]at hi hlen c19 hlc r1 O;have P2:=I p2;have P3:=I p3;have R2:=I r2;have R3:=I r3;have P1:=I p1;have R1:=I r1;have HL:=I hL;obtain⟨Y,hY⟩:=aj (bC (s.fl.eraseIdx i) (m.vs.eraseIdx i));obtain⟨ny,ai⟩:=aj ((s.fl.eraseIdx i).length);rw[<-hY,<-ai]at O ⊢;clear h hv am ap p1 p2 p3 r1 r2 r3 ee ef l3 ag ah hL hY ai;have aH:(i:Int)<(L:Int):=by omega
 have aI:(i:Int)+1<=(L:Int):=by omega
 have aF:(L:Int)<=(c:Int):=by omega
 go_enter func244,ntmps244;go_upto_region 2 with fail;go_cut [5]from 6 to 13 (λq wc=>∃a1 c1,q=U a1 i c1/\wc.ownsRow w.1.size 49 3 (U a1 i c1) i X1/\Below w.1.size w wc);case first=>
  by_cases i0:i=0;·subst i0;have FX:=I (show w.ownsRow w.1.size 49 3 (U V 0 0) 0 X1 by have:X1=[]:=ku P1.o;rw[this];exact dp _ _ _ _);go_wp2_with(at_builtin;refine xd rfl 41 rfl w.1.size 49 i1 3 jt af (U V 0 0) 0 [] rfl (dp _ _ _ _) (E ⟨g,0,V⟩) c (λe=>by cases e) rfl ?_);go_wp2;go_meet;exact⟨V,0,rfl,FX.o,ax _ _⟩
  have aJ:0<i:=by omega
  go_wp2_with(at_builtin;refine eF _ rfl _ _ 41 rfl w.1.size 49 i1 (.agg #[Z J 0,Z J 0,U V 0 0]) 3 40 jt af aq ar au rfl (by decide) (U V 0 0) 0 [] rfl (dp _ _ _ _) ⟨g,0,V⟩ i c X1 rfl (by rw[P1.o]) P2.o P3.o ?c3 ?c4 ?c5 ?_);case c3=>unfold maxLen;omega
  case c4=>omega
  case c5=>omega
  intro v' w4 hown' aa _;have hb4:Below w.1.size w w4:=(ax w.1.size w).grown aa (aw _) (λx e=>by cases e);obtain⟨a1,c1,ak⟩:=a_ hown';have O4:=A (w4.ownsRow w.1.size 49 3 v' i X1) (by simpa using hown');have B4:=I hb4;rw[ak]at O4 ⊢;clear hown' aa hb4 ak;go_wp2;go_meet;exact⟨a1,c1,rfl,O4.o,B4.o⟩
 obtain⟨a1,c1,hq,hown,ae⟩:=hcut;subst hq;have O1:=I hown;have B1:=I ae;have aD:=(ae.cell (p:=⟨b,19,V⟩) hb).trans c19;have av:=I (λt u (hu:X2[t]?=E u)=>(show wc.cell? ((⟨g,(i+1)*3,V⟩:Addr).add t)=E u from by rw[addr_add];have:=R2.o t u hu;rw[addr_add]at this;exact(ae.cell (p:=⟨g,(i+1)*3+t,V⟩) aB).trans this));clear hown ae c19;go_upto_region 3 with fail;by_cases j0:i+1=L;·have FX:=I (show wc.ownsRow w.1.size 49 3 (U a1 i c1) ny Y by have e2:X2=[]:=ku (by rw[R1.o];omega);rw[O.o.1,O.o.2,e2,ew,show i+(L-(i+1))=i by omega];exact O1.o);subst j0;go_wp2_with(at_builtin;refine xd rfl 41 rfl w.1.size 49 i1 3 jt af (U a1 i c1) i X1 rfl O1.o _ _ (λe=>by first|cases e|(split at e<;>cases e)) rfl ?_);all_goals(go_wp2;go_ret;exact⟨_,rfl,FX.o,B1.o⟩)
 have aG:¬c=i+1:=by omega
 have aA:=B1.o.size;have aK:i+(L-(i+1))<=300:=by omega
 go_wp2_with(at_builtin;refine eF _ rfl _ _ 41 rfl w.1.size 49 i1 (.agg #[Z J 0,Z J 0,U V 0 0]) 3 40 jt af aq ar au rfl (by decide) (U a1 i c1) i X1 rfl O1.o ⟨g,(i+1)*3,V⟩ (L-(i+1)) (c-(i+1)) X2 rfl (by rw[R1.o]) av.o R3.o ?c3 ?c4 ?c5 ?_);case c3=>unfold maxLen;omega
 case c4=>omega
 case c5=>omega
 intro v' w4 hown' aa _;have FX:=A (w4.ownsRow w.1.size 49 3 v' ny Y) (by rw[O.o.1,O.o.2];exact hown');have FB:=I (B1.o.grown aa aA (λx e=>(O1.o.lt x e).1));clear hown' aa;go_wp2;go_ret;exact⟨_,rfl,FX.o,FB.o⟩
theorem bT.wE{w wr w' pw b n C cl s m}(h:bT w pw b n C cl s m)(i)(hb:Below w.1.size w wr)(hr:wr.ownsRow w.1.size 49 3 v' (s.fl.eraseIdx i).length (bC (s.fl.eraseIdx i) (m.vs.eraseIdx i)))(hw':w'=wr.setCell ⟨b,19,V⟩ v'):
  ∃m',df w w' pw b n C cl {s with fl:=s.fl.eraseIdx i} m m'/\m'.L=m.L/\m'.hh=m.hh:=by have hf:=h.fl.erase i hb hr;have R:=h.qZ (av.bz hb) hf hw' (λx hx=>Q (hr.lt x hx).1) (λy hy x hx=>by have h1:=h.low x (Q (Q (Q ⟨y,nS hy,hx⟩)));exact ae ⟨h1.2,h1.1,h.t5 x (Q (Q ⟨y,nS hy,hx⟩))⟩);obtain⟨r1,r2,r3,O⟩:=R;refine⟨_,⟨r1,r2,r3,λx hx=>?_,jO _,λ_ _=>jO _⟩,rfl,rfl⟩;rcases O x hx with k|k|⟨y,hy,k⟩;exact ae k;exact Q k;exact ae (Q (Q (Q ⟨y,nS hy,k⟩)))
theorem Ql{pw b n C cl s m w}(h:bT w pw b n C cl s m)(hlen:s.fl.length<=300)(u):
  ay prog 183 #[aC (E ⟨b,0,V⟩),Z J u] w λe w'=>e=az (Z J (kF s u))/\∃m',df w w' pw b n C cl (jb s u) m m':=by
 have hb:=h.blt;obtain⟨-,-,-,c19,Y⟩:=h.cells;have f19:=Y 19;obtain⟨a,c,hv,hlc,hcm,-⟩:=h.fl.view;rw[hv]at c19;by_cases hu:0<=u/\u<(s.fl.length:Int)
 ·obtain⟨i,hi⟩:∃i:Nat,u=(i:Int):=⟨u.toNat,by omega⟩;subst hi;have ae:i<s.fl.length:=by omega
  have e1:kF s (i:Int)=0:=au hu;have e2:jb s (i:Int)={s with fl:=s.fl.eraseIdx i}:=by unfold jb;rw[au hu,show((i:Int)).toNat=i by omega]
  rw[e1,e2];have HW:=I (Ev h ae hlen);have HR:=I (λ(wr w':ac)(v':ag) hb hr hw'=>h.wE (wr:=wr) (w':=w') (v':=v') i hb hr hw');generalize s.fl.length=L at*;have af:¬(i:Int)<0:=by omega
  have ah:(i:Int)<(L:Int):=by omega
  clear h Y hv e1 e2 hu;go_enter func183,ntmps183;go_wp2_with fail;refine HW.o.mono ?_;rintro e w1 ⟨v',rfl,hr,hb1⟩;have d19:=(hb1.cell (p:=⟨b,19,V⟩) hb).trans c19;have ai:=(hb1.frozen (p:=⟨b,19,V⟩) hb).trans f19;obtain⟨a1,c1,aa⟩:=a_ hr;have O:=I (HR.o w1 _ v' hb1 hr rfl);rw[aa]at O ⊢;clear hr hb1 aa;generalize (s.fl.eraseIdx i).length=ne at*;go_wp2;go_ret;obtain⟨m',r,-⟩:=O.o;exact⟨rfl,m',r⟩
 have e1:kF s u=7:=ar hu;have e2:jb s u=s:=by unfold jb;rw[ar hu]
 rw[e1,e2];have O:=A (∃m',df w w pw b n C cl s m m') ⟨m,sF h (ax _ _)⟩;generalize s.fl.length=L at*;clear h Y hv e1 e2;go_enter func183,ntmps183;by_cases af:u<0;·go_wp2;go_ret;exact⟨rfl,O.o⟩
 have ah:¬u<(L:Int):=by omega
 go_wp2;go_ret;exact⟨rfl,O.o⟩
section
variable {w w1 w2 W:ac}{pw b n:Nat}{C:Cf}{cl:Nat->Cl}{s s1 s2:Sn}{m m1 m2:RM}
theorem bT.Tn (h:bT w pw b n C cl s m)(hn:n<=12){x}(hx:kZ n m x):¬fV b n m x:=λe=>by have h5:=h.t5 x hx;rcases e with e|e|e|e|⟨i,hi,e⟩;rw[e,h.t0]at h5;omega;rw[h.t1 x e]at h5;omega;rw[h.t2 x e]at h5;omega;rw[h.t3 x e]at h5;omega;rw[h.t4 i hi x e]at h5;omega
theorem df.after (hb:Below w.1.size w W)(t:df W w1 pw b n C cl s1 m m1):df w w1 pw b n C cl s1 m m1:=by have z:=hb.size;exact⟨t.bP,(av.bz hb).trans t.aV (λx e _=>e),λx hx=>(t.own x hx).imp id (λq=>by omega),λx hx=>(t.aS x hx).imp id (λq=>by omega),t.logs⟩
theorem df.trans (t:df w w1 pw b n C cl s1 m m1)(u:df w1 w2 pw b n C cl s2 m1 m2)(hL:m1.L=m.L)(hh:m1.hh=m.hh):df w w2 pw b n C cl s2 m m2:=by
 have z:=t.aV.size;refine⟨u.bP,t.aV.trans u.aV (λx e hx=>?_),λx hx=>?_,λx hx=>?_,by rw[<-hL];exact u.logs.1,by rw[<-hh];exact u.logs.2⟩;·rcases t.own x e with q|q;exact q;omega
 ·rcases u.own x hx with q|q;exact t.own x q;exact Q (by omega)
 rcases u.aS x hx with q|q;exact t.aS x q;exact Q (by omega)
end
theorem Qi{pw b n C cl s m w}(h:bT w pw b n C cl s m)(ok:bU C cl n s)(ft:eA n s)(hl:(m.L.length+1)*48<=140737488355328)(hh:∀i,i<n->((m.hh i).length+1)*40<=140737488355328)(u):
  ay prog 182 #[aC (E ⟨b,0,V⟩),Z J u] w λe w'=>e=az (Z J (kF s u))/\∃m',df w w' pw b n C cl (jY C cl n s u) m m':=by
 have hb:=h.blt;have hlen:s.fl.length<=300:=by have:=ok.fl;omega
 have aR:n<=12:=by have:=ok.gc.n;have:=ok.num;omega
 obtain⟨-,-,-,c19,fz⟩:=h.cells;have f19:=fz 19;obtain⟨a,c,hv,hlc,hcm,ah⟩:=h.fl.view;rw[hv]at c19;by_cases hu:0<=u/\u<(s.fl.length:Int)
 ·obtain⟨i,hi⟩:∃i:Nat,u=(i:Int):=⟨u.toNat,by omega⟩;subst hi;have af:i<s.fl.length:=by omega
  have Y:s.fl[i]?=E s.fl[i]:=aQ af;obtain⟨p,hp⟩:=aj (s.fl[i]);rw[<-hp]at Y;obtain⟨g,y,rfl,aU,aG,x0,x1,x2,ai⟩:=ah i p Y;have e1:kF s (i:Int)=0:=au hu;have e2:jY C cl n s (i:Int)=eo C cl n {s with fl:=s.fl.eraseIdx i} p.2.1 p.2.2:=by unfold jY;rw[au hu,show((i:Int)).toNat=i by omega,Y]
  rw[e1,e2];have ap:=ft p (cU Y);have aJ:bU C cl n {s with fl:=s.fl.eraseIdx i}:=by have:=ok.drop (i:Int);unfold jb at this;rw[au hu,show((i:Int)).toNat=i by omega]at this;exact this
  obtain⟨ak,cy,aI,-⟩:=eC ai;obtain⟨W,hW⟩:=aj (w.alloc (.cells #[Z J p.1,Z J p.2.1,y] 49));have O:Below w.1.size w W:=by rw[hW];exact(ax _ _).alloc (aw _) _
  have zW:w.1.size<W.1.size:=by rw[hW];simp
  have RW:=A (W.1[w.1.size]?=E (.cells #[Z J p.1,Z J p.2.1,y] 49 (0,0))) (by rw[hW];exact bo w _);have hA:=h.below O;have aL:=I (Ev hA af hlen);have ae:=I (λ(wr w':ac)(v':ag) hb' hr (hw':w'=wr.setCell ⟨b,19,V⟩ v')=>(show ay prog 245 #[aC (E ⟨b,0,V⟩),Z J p.2.1,y] w' (λe w2=>e=az (br #[])/\∃m',df w w2 pw b n C cl (eo C cl n {s with fl:=s.fl.eraseIdx i} p.2.1 p.2.2) m m')from by obtain⟨m1,t,hL,aq⟩:=hA.wE (wr:=wr) (w':=w') (v':=v') i hb' hr hw';have hst:∀x,y.ownBlock=E x->kZ n m x:=λx hx=>Q (Q ⟨y,cU aG,hx⟩);have aM:bX w' y p.2.2:=(ai.below O).qD t.aV.size (λx hx=>t.aV.block x (hA.low x (Q (hst x hx))).2 (hA.Tn aR (hst x hx)));exact(Eo t.bP aJ (by rw[hL];exact hl) (by rw[aq];exact hh) p.2.1 ap.2 aM).mono (λe w2 ⟨h1,m2,t2⟩=>⟨h1,m2,(t.trans t2 hL aq).after O⟩)));rw[aI]at x2 hW RW ae;have HW:=I hW;obtain⟨nb,aA⟩:=aj p.2.2.length;obtain⟨p1,aB⟩:=aj p.1;obtain⟨p2,aD⟩:=aj p.2.1;rw[<-aA]at x2 HW RW ae;rw[<-aB]at x0 HW RW;rw[<-aD]at x1 HW RW ae ⊢;obtain⟨L,hL⟩:=aj s.fl.length;rw[<-hL]at c19 af hlc hu;have aO:¬(i:Int)<0:=by omega
  have aP:(i:Int)<(L:Int):=by omega
  have hbl:b<W.1.size:=by omega
  have d19:=(O.cell (p:=⟨b,19,V⟩) hb).trans c19;have aN:=(O.frozen (p:=⟨b,19,V⟩) hb).trans f19;clear h ok ft fz hv ah Y hp e1 e2 hu ap aJ ai aG aI hA hW aA aB aD hL hl hh;go_enter func182,ntmps182;go_upto_region 4 with fail;rw[<-HW.o];go_wp2_with fail;refine aL.o.mono ?_;rintro e w1 ⟨v',rfl,hr,hb1⟩;have aS:=(hb1.cell (p:=⟨b,19,V⟩) hbl).trans d19;have aT:=(hb1.frozen (p:=⟨b,19,V⟩) hbl).trans aN;have z1:=hb1.size;obtain⟨w3,hw3⟩:=aj (w1.setCell ⟨b,19,V⟩ v');have RC:=I (ae.o w1 w3 v' hb1 hr hw3);have hrow:w3.1[w.1.size]?=E (.cells #[Z J p1,Z J p2,U ak nb cy] 49 (0,0)):=by rw[hw3,(av.setCell w1 ⟨b,19,V⟩ v').block w.1.size (by omega) (by show¬w.1.size=b;omega),hb1.block w.1.size zW];exact RW.o
  have k1:w3.cell? ⟨w.1.size,1,V⟩=E (Z J p2):=(bg w3 _ 1 _ _ (0,0) hrow).trans rfl;have k2:w3.cell? ⟨w.1.size,2,V⟩=E (U ak nb cy):=(bg w3 _ 2 _ _ (0,0) hrow).trans rfl;obtain⟨a1,c1,aF⟩:=a_ hr;rw[aF]at hw3 ⊢;have aK:=I hw3;clear hr hb1 aF hw3 hrow x0 x1 x2 c19 d19;generalize (s.fl.eraseIdx i).length=ne at*;go_upto_region 5 with fail;rw[<-aK.o];go_wp2_with fail;refine aH RC.o λw5 am=>?_;have aa:=I am;clear am;go_wp2;go_ret;exact⟨rfl,aa.o⟩
 have e1:kF s u=7:=ar hu;have e2:jY C cl n s u=s:=by unfold jY;rw[ar hu]
 rw[e1,e2];have aa:=A (∃m',df w w pw b n C cl s m m') ⟨m,sF h (ax _ _)⟩;generalize s.fl.length=L at*;clear h ok ft fz hv e1 e2 ah hl hh;go_enter func182,ntmps182;by_cases aO:u<0;·go_wp2;go_ret;exact⟨rfl,aa.o⟩
 have aP:¬u<(L:Int):=by omega
 go_wp2;go_ret;exact⟨rfl,aa.o⟩
theorem QC{pw b n C cl s m w}(h:bT w pw b n C cl s m)(ok:bU C cl n s)(hl:(m.L.length+1)*48<=140737488355328)(hh:∀i,i<n->((m.hh i).length+1)*40<=140737488355328)(u){zs}(hv:bX w v zs):
  ay prog 185 #[aC (E ⟨b,0,V⟩),Z J u,v] w λe w'=>e=az (Z J (qy n u))/\∃m',df w w' pw b n C cl (kJ C cl n s u zs) m m':=by
 obtain⟨c0,-⟩:=h.cells;obtain⟨ag,cz,Y,-⟩:=eC hv;rw[ok.num]at c0;by_cases hu:0<=u/\u<=(n:Int)
 ·have e1:qy n u=0:=au hu;have e2:kJ C cl n s u zs=eo C cl n s u zs:=au hu;rw[e1,e2];have HR:=I (Eo h ok hl hh u hu hv);rw[Y]at HR ⊢;have ae:¬u<0:=by omega
  have af:u<=(n:Int):=hu.2;clear h ok hl hh hv Y e1 e2 hu;generalize zs.length=nz at*;go_enter func185,ntmps185;go_wp2_with fail;refine aH HR.o λw1 aa=>?_;have O:=I aa;clear aa;go_wp2;go_ret;exact⟨rfl,O.o⟩
 have e1:qy n u=7:=ar hu;have e2:kJ C cl n s u zs=s:=ar hu;rw[e1,e2];have O:=A (∃m',df w w pw b n C cl s m m') ⟨m,sF h (ax _ _)⟩;rw[Y];clear h ok hl hh hv Y e1 e2;generalize zs.length=nz at*;go_enter func185,ntmps185;by_cases ae:u<0;·go_wp2;go_ret;exact⟨rfl,O.o⟩
 have af:¬u<=(n:Int):=by omega
 go_wp2;go_ret;exact⟨rfl,O.o⟩
theorem Qa{pw b n C cl s m w}(h:bT w pw b n C cl s m)(ok:bU C cl n s)(u):
  ay prog 187 #[aC (E ⟨b,0,V⟩),Z J u] w λe w'=>e=az (Z J (qo n u))/\∃m',df w w' pw b n C cl (kE n s u) m m':=by
 have ae:n<=12:=by have:=ok.gc.n;have:=ok.num;omega
 obtain⟨c0,-,-,-,Y⟩:=h.cells;rw[ok.num]at c0;by_cases hu:1<=u/\u<=(n:Int)
 ·obtain⟨i,hi⟩:∃i:Nat,u=((i+1:Nat):Int):=⟨(u-1).toNat,by omega⟩;have aa:i<n:=by omega
  have e1:qo n u=0:=au hu;have e2:kE n s u=rP s i:=by unfold kE;rw[au hu,show u.toNat-1=i by omega]
  rw[e1,e2];have g0:=h.gone ae aa;have O:=A (∃m',df w (w.setCell ⟨b,6+(i+1),V⟩ (ak true)) pw b n C cl (rP s i) m m') ⟨m,by rw[show 6+(i+1)=i+7 by omega];exact h.tI aa ae⟩;have f0:=Y (6+(i+1));obtain⟨x,hx⟩:=aj (i+1);rw[<-hx]at g0 f0 O hi;have ah:(x:Int)<13:=by omega
  have hx1:¬(x:Int)<1:=by omega
  have ai:(x:Int)<=(n:Int):=by omega
  rw[hi];clear h ok e1 e2 hu hi Y hx;go_enter func187,ntmps187;go_wp2;go_ret;exact⟨rfl,O.o⟩
 have e1:qo n u=7:=ar hu;have e2:kE n s u=s:=ar hu;rw[e1,e2];have O:=A (∃m',df w w pw b n C cl s m m') ⟨m,sF h (ax _ _)⟩;clear h ok e1 e2 Y;go_enter func187,ntmps187;by_cases af:u<1;·go_wp2;go_ret;exact⟨rfl,O.o⟩
 have ag:¬u<=(n:Int):=by omega
 go_wp2;go_ret;exact⟨rfl,O.o⟩
theorem QU{pw b n C cl s m w}(h:bT w pw b n C cl s m)(ok:bU C cl n s)(u):
  ay prog 188 #[aC (E ⟨b,0,V⟩),Z J u] w λe w'=>∃v,e=az v/\aX w v (km cl n s u)/\w'=w:=by
 obtain⟨c0,-,c5,-,fz⟩:=h.cells;rw[ok.num]at c0;by_cases hu:1<=u/\u<=(n:Int)
 ·obtain⟨i,hi⟩:∃i:Nat,u=(i:Int)+1:=⟨(u-1).toNat,by omega⟩;have O:i<n:=by omega
  obtain⟨ai,ah,hcv,hc1,hc2,aj,hcc⟩:=h.BN O;have hcs:=h.cs i O;have e2:km cl n s u=gl (cl i) (s.cs i):=by unfold km;rw[au hu,show u.toNat-1=i by omega]
  have ht:=(h.di i O).told;rw[hcs.1,hcs.2,<-e2]at ht;have k6:w.cell? ⟨m.yc i,14,V⟩=E (m.rs i).told:=(h.di i O).at_.cell 14;obtain⟨ag,n6,c6,aa⟩:∃a k c,(m.rs i).told=U a k c:=by obtain⟨a,c,e,-⟩:=cK ht;exact⟨_,_,_,e⟩
  have Y:=I ht;rw[hcv]at c5;rw[aa]at k6 Y;rw[hi]at Y ⊢;have ae:¬(i:Int)+1<1:=by omega
  have af:(i:Int)+1<=(n:Int):=by omega
  clear h ok e2 hu hi fz ht hcs hcv aa;go_enter func188,ntmps188;go_wp2;go_ret;exact⟨_,rfl,Y.o,rfl⟩
 have e2:km cl n s u=[]:=ar hu;rw[e2];clear h ok e2 fz;go_enter func188,ntmps188;by_cases ae:u<1;·go_wp2;go_ret;exact⟨_,rfl,vQ w,rfl⟩
 have af:¬u<=(n:Int):=by omega
 go_wp2;go_ret;exact⟨_,rfl,vQ w,rfl⟩
theorem bT.app{w w2 w3 pw b n C cl s m}(h:bT w pw b n C cl s m){qs ys fv'}(hl:ys.length=qs.length)(hy:∀(i:Nat)(x:ag)(p:Pk),ys[i]?=E x->qs[i]?=E p->bX w x p.2.2)(O:∀y∈ys,∀x,y.ownBlock=E x->x<w.1.size/\pw<x/\m.tg x=100)(hr:w2.ownsRow 0 49 3 fv' (s.fl.length+qs.length) (bC s.fl m.vs++bC qs ys))(hc:av (λx=>m.fv.ownBlock=E x) w w2)(hv:∀x,fv'.ownBlock=E x->m.fv.ownBlock=E x\/w.1.size<=x)(hw3:w3=w2.setCell ⟨b,19,V⟩ fv'):
  ∃m',bT w3 pw b n C cl {s with fl:=s.fl++qs} m'/\av (fV b n m) w w3/\(∀x,fV b n m' x->fV b n m x\/w.1.size<=x)/\(∀x,cC b n m' x->cC b n m x\/w.1.size<=x\/∃y∈ys,y.ownBlock=E x)/\m'.L=m.L/\m'.hh=m.hh:=by
 have hf:=h.fl.app hl hy (λy Y x hx=>⟨(O y Y x hx).1,λe=>by have h1:=h.t2 x e;have h2:=(O y Y x hx).2.2;omega⟩) hr hc hv;have R:=h.qZ hc hf hw3 hv (λu hu x hx=>?_);·obtain⟨r1,r2,r3,r4⟩:=R;refine⟨_,r1,r2,r3,λx hx=>?_,rfl,rfl⟩;rcases r4 x hx with k|k|⟨u,hu,k⟩;exact ae k;exact Q (ae k);rcases cZ.1 hu with hu|hu;exact ae (Q (Q (Q ⟨u,hu,k⟩)));exact Q (Q ⟨u,hu,k⟩)
 rcases cZ.1 hu with hu|hu;have h1:=h.low x (Q (Q (Q ⟨u,hu,hx⟩)));exact ae ⟨h1.2,h1.1,h.t5 x (Q (Q ⟨u,hu,hx⟩))⟩;exact ae (O u hu x hx)
theorem Rg{pw b n C cl s m w}(h:bT w pw b n C cl s m)(ok:bU C cl n s):
  ay prog 186 #[aC (E ⟨b,0,V⟩)] w λe w'=>e=az (br #[])/\∃m',df w w' pw b n C cl (nz C s) m m':=by
 have hb:=h.blt;have aP:=h.low b (ae (ae rfl));have hl:=ok.fl;have hk:=Ab (C:=C) (q:=s.q);obtain⟨-,c4,-,-,-⟩:=h.cells;have HB:=I (Aa (C:=C) (q:=s.q) ok.gc ok.ia)
 have HT:=I (show ay prog 116 #[aC (E ⟨m.ys,0,V⟩)] w (λe w'=>∃v ys m1,e=az v/\df w w' pw b n C cl {s with q:=cm C s.q} m m1/\m1.fv=m.fv/\m1.vs=m.vs/\m1.L=m.L/\m1.hh=m.hh/\dt w' w.1.size v ys (eu C s.q)/\∀x,iZ v ys x->m1.tg x=100)from
  (PU ok.gc h.ba).mono (λe w' ⟨v,h1,aR,ys,t,hp,hap⟩=>⟨v,ys,_,h1,h.Fq t,rfl,rfl,rfl,rfl,hp,λx hx=>tY (by have:=(hp.low x hx).1;omega) (λe=>hap x hx (ae (Q e)))⟩));obtain⟨i1,aq,aL,aM,aN⟩:=bO ll;clear h ok;obtain⟨qs,ak⟩:=aj (eu C s.q);have HN:=A (nz C s={s with q:=cm C s.q,fl:=s.fl++qs}) (by rw[ak];rfl);rw[<-ak]at HT HB hk;clear ak;go_enter func186,ntmps186;go_wp2_with fail;refine HT.o.mono ?_;rintro e w1 ⟨v,ys,m1,rfl,t,ef,ev,eL,eh,hp,aK⟩;have T1:=I t;have z1:=t.aV.size;have am:=t.bP.blt;obtain⟨-,-,-,c19,fz⟩:=t.bP.cells;have f19:=fz 19;obtain⟨a,c,hv,-⟩:=t.bP.fl.view;have O:=I t.bP.fl.row;have NB:=A (m1.fv.ownBlock≠E b) (λe=>by have q1:=t.bP.t2 b e;rw[t.bP.t0]at q1;omega);have aa:=I (λ(w2 w3:ac)(fv':ag) hr hc hv hw3=>(show∃m',df w w3 pw b n C cl (nz C s) m m' from by
  obtain⟨m2,k1,k2,k3,k4,k5,k6⟩:=T1.o.bP.app (w2:=w2) (w3:=w3) (fv':=fv') (qs:=qs) (ys:=ys) hp.len (λi x p h1 h2=>nM (hp.each i x p h1 h2) (HB.o p (cU h2))) (λy hy x hx=>⟨(hp.low x (Q ⟨y,hy,hx⟩)).2,by have:=(hp.low x (Q ⟨y,hy,hx⟩)).1;omega,aK x (Q ⟨y,hy,hx⟩)⟩) hr hc hv hw3;refine⟨m2,?_⟩;rw[HN.o];refine⟨k1,T1.o.aV.trans k2 (λx e hx=>?_),λx hx=>?_,λx hx=>?_,by rw[k5,eL];omega,by rw[k6,eh];intro i _;omega⟩;·rcases T1.o.own x e with q|q;exact q;omega
  ·rcases k3 x hx with q|q;exact T1.o.own x q;exact Q (by omega)
  rcases k4 x hx with q|q|⟨y,hy,q⟩;exact T1.o.aS x q;exact Q (by omega);exact Q (hp.low x (Q ⟨y,hy,q⟩)).1));clear ef ev eL eh;dsimp only at hv O c19;rw[hv]at c19;obtain⟨va,vc,Y⟩:=a_ hp.row;have hrow:=hp.row;have ap:∀(g:Nat),va=E ⟨g,0,V⟩->∀j u,(bC qs ys)[j]?=E u->w1.cell? ((⟨g,0,V⟩:Addr).add j)=E u:=λg hg j u hu=>by
  have hr:=hrow;rw[Y,hg]at hr;have hl':(bC qs ys).length=qs.length*3:=qJ qs ys hp.len;have hj:j<qs.length*3:=by rw[<-hl'];exact(fC.1 hu).1
  rw[addr_add,cz,hr.cellAt j hj];exact hu
 have au:∀u∈bC qs ys,u.oneCell'=true:=ww qs ys (λy hy=>by obtain⟨i,hi,e⟩:=fT hy;obtain⟨a',c',e'⟩:=a_ (hp.each i y (qs[i]'(by rw[<-hp.len];exact hi)) (by rw[aQ hi,e]) (aQ _));rw[e'];rfl);have hpl:(bC qs ys).length=qs.length*3:=qJ qs ys hp.len;have ax:qs.length=0->va=V->vc=0:=λe1 e2=>by
  rcases hrow.2 with⟨e3,_⟩|⟨g,cap,cur,e3,_⟩;·rw[Y]at e3;injection e3 with _ _ q
  rw[Y,e2]at e3;injection e3 with q;cases q
 have aw:0<qs.length->∃g,va=E ⟨g,0,V⟩:=λe1=>by rcases hrow.2 with⟨e3,hn⟩|⟨g,cap,cur,e3,_⟩;omega;rw[Y]at e3;injection e3 with q;exact⟨g,q⟩
 have aA:=I ap;have aB:=I au;have aD:=I hpl;have aG:=I ax;have aF:=I aw;have aH:=I hp.len;rw[Y];rw[hv]at O NB aa;obtain⟨k,ar⟩:=aj s.fl.length;obtain⟨nq,ah⟩:=aj qs.length;have af:=I ah;rw[<-ar]at c19 hl O NB aa;rw[<-ah]at hk ⊢;rw[<-ah]at aa;clear t hp hrow ap au hpl ax aw Y hv ah ar fz c4;by_cases aI:nq=0;·subst aI;have ai:=I (λ(w3:ac)(hw3:w3=w1.setCell ⟨b,19,V⟩ (U a k c))=>aa.o w1 w3 (U a k c) (by have e:qs=[]:=ku af.o.symm;have e2:ys=[]:=ku (by rw[aH.o,e];rfl);rw[e,e2];show w1.ownsRow 0 49 3 (U a k c) (k+0) (bC s.fl m1.vs++[]);rw[ew];exact O.o) (av.refl _ _) (λx hx=>ae hx) hw3);go_wp2_with(at_builtin;refine xd rfl 41 rfl 0 49 i1 3 jt aq (U a k c) k _ rfl O.o va vc (aG.o af.o.symm) rfl ?_);go_wp2;go_end0;exact⟨rfl,ai.o _ rfl⟩
 obtain⟨g,hg⟩:=aF.o (by have:=af.o;omega);subst hg;have aJ:0<nq:=by omega
 go_wp2_with(at_builtin;refine tx _ rfl _ _ 41 rfl 0 49 i1 (.agg #[Z J 0,Z J 0,U V 0 0]) 3 40 jt aq aL aM aN rfl (by decide) (U a k c) k (bC s.fl m1.vs) rfl O.o ⟨g,0,V⟩ nq vc (bC qs ys) rfl (by rw[aD.o,<-af.o]) (aA.o g rfl) aB.o aJ (by unfold maxLen;omega) (by omega) (bi _) _ rfl ?_);intro g2 cap w2 hr hgr hat hlt;have d19:w2.cell? ⟨b,19,V⟩=E (U a k c):=by rw[hgr.cell_far ⟨b,19,V⟩ am (λe=>NB.o e.symm)];exact c19
 have aO:w2.frozen? ⟨b,19,V⟩=false:=by rw[hgr.frozen_far ⟨b,19,V⟩ am (λe=>NB.o e.symm)];exact f19
 have ai:=I (λ(w3:ac)(hw3:w3=w2.setCell ⟨b,19,V⟩ (U (E ⟨g2,0,V⟩) (k+nq) cap))=>aa.o w2 w3 (U (E ⟨g2,0,V⟩) (k+nq) cap) hr (av.grown hgr) (λx hx=>by
  have e:x=g2:=by simpa[Value.ownBlock]using hx.symm
  subst e;rcases hat with q|q;exact ae q;exact Q (by omega)) hw3);clear hr hgr hat hlt c19 f19;go_wp2;go_end0;exact⟨rfl,ai.o _ rfl⟩
theorem Qk{pw b n i:Nat}{C cl s m w}(h:bT w pw b n C cl s m){p}(hp:s.fl[i]?=E p)(hf:s.fl.length<200):
  ay prog 184 #[aC (E ⟨b,0,V⟩),Z J (i:Int)] w λe w'=>e=az (Z J 0)/\∃m',df w w' pw b n C cl {s with fl:=s.fl++[p]} m m':=by
 have hi:i<s.fl.length:=(fC.1 hp).1;obtain⟨-,-,-,c19,fz⟩:=h.cells;have f19:=fz 19;have hb:=h.blt;obtain⟨a,c,hv,aB,hcm,ah⟩:=h.fl.view;obtain⟨g,y,rfl,aI,ar,x0,x1,x2,af⟩:=ah i p hp;have aq:=cU ar;obtain⟨O,Y,au,-⟩:=eC af;have hst:∀x,y.ownBlock=E x->kZ n m x:=λx hx=>Q (Q ⟨y,aq,hx⟩);have HS:=I (λ(W w2 w3:ac)(g cap:Nat) hW hr hgr hat hw3=>(show∃m',df w w3 pw b n C cl {s with fl:=s.fl++[p]} m m' from by obtain⟨m',k1,k2,k3,k4,k5,k6⟩:=h.pD (p:=p) (W:=W) (w2:=w2) (w3:=w3) (g:=g) (cap:=cap) af (λx hx=>⟨(h.low x (Q (hst x hx))).2,(h.low x (Q (hst x hx))).1,h.t5 x (hst x hx)⟩) hW hr hgr hat hw3;exact⟨m',k1,k2,k3,λx hx=>by rcases k4 x hx with q|q|q;exact ae q;exact Q q;exact ae (Q (hst x q)),by rw[k5];omega,by rw[k6];intro j _;omega⟩));have aa:=I h.fl.row;have NB:=A (m.fv.ownBlock≠E b) (λe=>by have q1:=h.t2 b e;rw[h.t0]at q1;omega);obtain⟨i1,aA,aF,aG,aH⟩:=bO ll;rw[hv]at c19 aa HS NB;rw[au]at x2 HS;have aJ:¬(i:Int)<0:=by omega
 have hik:(i:Int)<(s.fl.length:Int):=by omega
 clear h hp ah ar af aq au hv hst fz;obtain⟨k,hk⟩:=aj s.fl.length;obtain⟨nb,ak⟩:=aj p.2.2.length;rw[<-hk]at c19 aa HS NB hf aB hik hi;rw[<-ak]at x2 HS;obtain⟨p1,am⟩:=aj p.1;obtain⟨p2,ap⟩:=aj p.2.1;rw[<-am]at x0 HS;rw[<-ap]at x1 HS;clear hk ak am ap;have aK:¬((200:Int)<=(k:Int)):=by omega
 have HQ:=I (show∀w3:ac,(w.alloc (.cells #[Z J p1,Z J p2,U O nb Y] 49)).drew.grownBy w3 (Value.slice (E ⟨g,0,V⟩) k c).ownBlock->w3.cell? ⟨b,19,V⟩=E (U (E ⟨g,0,V⟩) k c)/\w3.frozen? ⟨b,19,V⟩=false from λw3 hg=>by
  have ag:Below w.1.size w (w.alloc (.cells #[Z J p1,Z J p2,U O nb Y] 49)).drew:=((ax _ _).alloc (aw _) _).drew;have hbl:b<(w.alloc (.cells #[Z J p1,Z J p2,U O nb Y] 49)).drew.1.size:=by show b<(w.alloc _).1.size;simp;omega
  exact⟨(hg.cell_far ⟨b,19,V⟩ hbl (λe=>NB.o e.symm)).trans ((ag.cell (p:=⟨b,19,V⟩) hb).trans c19),(hg.frozen_far ⟨b,19,V⟩ hbl (λe=>NB.o e.symm)).trans ((ag.frozen (p:=⟨b,19,V⟩) hb).trans f19)⟩);have hsz:(w.alloc (.cells #[Z J p1,Z J p2,U O nb Y] 49)).drew.1.size=w.1.size+1:=by show(w.alloc _).1.size=_;simp
 have SZ:=I hsz;clear hsz;have h63:k+1<=maxLen:=by unfold maxLen;omega
 have hlen:(k+1)*40<=140737488355328:=by omega
 go_enter func184,ntmps184;go_upto_region 5 with fail;go_region_law (refine AO _ (by rfl) _ _ _ (by rfl) 0 49 i1 _ 3 40 jt aA aF aG aH rfl (by omega) (U (E ⟨g,0,V⟩) k c) k (bC s.fl m.vs) (by rfl) ((aa.o.alloc _).drew) ⟨w.1.size,0,V⟩ 1 1 [Z J p1,Z J p2,U O nb Y] (by rfl) (by rfl) (AM (cs:= #[Z J p1,Z J p2,U O nb Y]) (t:=49) (fr:=(0,0)) (bo w _)) (by simp[Value.oneCell']) (by omega) h63 hlen (bi _) (w.1.size+1) (by simp) ?_;intro gg cap' w3 aD ai hat aL;obtain⟨aM,qf⟩:=HQ.o w3 ai);all_goals(have av:=I (HS.o _ w3 _ gg cap' (((ax w.1.size w).alloc (aw _) _).drew) aD ai (by rw[SZ.o];exact hat) rfl);go_wp2;go_ret;exact⟨rfl,av.o⟩)
theorem Qj{pw b n C cl s m w}(h:bT w pw b n C cl s m)(u):
  ay prog 184 #[aC (E ⟨b,0,V⟩),Z J u] w λe w'=>e=az (Z J (mD s u))/\∃m',df w w' pw b n C cl (ja s u) m m':=by
 have O:=A (∃m',df w w pw b n C cl s m m') ⟨m,sF h (ax _ _)⟩;obtain⟨-,-,-,c19,-⟩:=h.cells;obtain⟨a,c,hv,ag,-⟩:=h.fl.view;rw[hv]at c19;by_cases hu:0<=u/\u<(s.fl.length:Int)
 ·by_cases hf:s.fl.length<200;obtain⟨i,hi⟩:∃i:Nat,u=(i:Int):=⟨u.toNat,by omega⟩;subst hi;have aa:i<s.fl.length:=by omega
  have Y:=aQ aa;have e1:mD s (i:Int)=0:=by unfold mD;rw[au hu,au hf]
  have e2:ja s (i:Int)={s with fl:=s.fl++[s.fl[i]]}:=by unfold ja;rw[au hu,au hf,show((i:Int)).toNat=i by omega,Y]
  rw[e1,e2];exact Qk h Y hf;have e1:mD s u=8:=by unfold mD;rw[au hu,ar hf]
  have e2:ja s u=s:=by unfold ja;rw[au hu,ar hf]
  rw[e1,e2];clear h hv e1 e2;generalize s.fl.length=L at*;have ae:¬u<0:=by omega
  have af:=hu.2;have hf2:(200:Int)<=(L:Int):=by omega
  clear hu;go_enter func184,ntmps184;go_wp2;go_ret;exact⟨rfl,O.o⟩
 have e1:mD s u=7:=by unfold mD;rw[ar hu]
 have e2:ja s u=s:=by unfold ja;rw[ar hu]
 rw[e1,e2];clear h hv e1 e2;generalize s.fl.length=L at*;go_enter func184,ntmps184;by_cases ae:u<0;·go_wp2;go_ret;exact⟨rfl,O.o⟩
 have af:¬u<(L:Int):=by omega
 go_wp2;go_ret;exact⟨rfl,O.o⟩
end
end Go.Proofs.YtchideljndagjabGreat


