/- Joined -/
import Derived.Test.YtchideljndagjabGreatUBE
set_option linter.unusedVariables false
set_option maxHeartbeats 4000000
set_option maxRecDepth 100000
namespace Go.Proofs.YtchideljndagjabGreat
open aq aO aB
open Go.Value renaming int->Z,slice->U,bool->ak,pointer->aC,tuple->br
open Go.IntKind renaming i64->J
open Go.Obj renaming cells->ah
open Or renaming inl->ae,inr->Q
open Option renaming none->V,some->E
open Bool renaming false->Y
open Go renaming World->ac,Value->ag
open Go.RowKit renaming Below->af
open Go.Proofs.Tryz
open Go.ChangeShapes Go.WideShapes Go.ChangeAt Go.RowKit
variable {M N T:Int}
def po (w:ac)(t:Nat->Nat)(v:ag)(y i:Nat)(u:ag)(x:Nat):Nat:=if x<w.1.size then t x else if v.ownBlock=E x then 1 else if x=y\/u.ownBlock=E x then 4+i else 100
section
variable {w w1 w2 w3:ac}{pw b i y:Nat}{C:Cf}{cl:Nat->Cl}{s:Sn}{m:RM}{u:RS}{v':ag}
theorem bT.xQ (h:bT w pw b i C cl s m)(aw:i<12)(hb1:af w.1.size w w1)(hr:gw w1 pw y u [] [])(hc:u.c=cl i)(ai:∀x,mY y u [] x->w.1.size<=x)(hg:s.gone i=Y)(hcs:aO.lk (cl i) []=s.cs i)
  (hro:w2.ownsRow (pw+1) 168 1 v' (i+1) (((List.range i).map λj=>Value.pointer (E ⟨m.yc j,0,V⟩))++[aC (E ⟨y,0,V⟩)]))(hc2:av (λx=>m.cv.ownBlock=E x) w1 w2)(hv:∀x,v'.ownBlock=E x->m.cv.ownBlock=E x\/w1.1.size<=x)(hw3:w3=w2.setCell ⟨b,5,V⟩ v'):
  bT w3 pw b (i+1) C cl s {m with cv:=v',yc:=bu m.yc i y,rs:=bu m.rs i u,hh:=bu m.hh i [],hv:=bu m.hv i [],tg:=po w m.tg v' y i u.hv}/\av (λx=>x=b\/m.cv.ownBlock=E x) w w3:=by
 have z1:=hb1.size;have z2:=hc2.size;have z3:w3.1.size=w2.1.size:=by rw[hw3];simp
 have ax:=h.low b (ae (ae rfl));have nb:m.cv.ownBlock≠E b:=λe=>by have h1:=h.t1 b e;rw[h.t0]at h1;omega
 have ap:v'.ownBlock≠E b:=λe=>by rcases hv b e with q|q;exact nb q;omega
 have ak:av (λx=>x=b) w2 w3:=by rw[hw3];exact av.setCell w2 ⟨b,5,V⟩ _
 have c13:av (λx=>x=b\/m.cv.ownBlock=E x) w1 w3:=(hc2.mono (S':=λx=>x=b\/m.cv.ownBlock=E x) (λx e _=>Q e)).trans ak (λx e _=>ae e);have aj:av (λx=>x=b\/m.cv.ownBlock=E x) w w3:=(av.bz (S:=λx=>x=b\/m.cv.ownBlock=E x) hb1).trans c13 (λx e _=>e);have ag:∀x,cC b i m x->m.tg x≠0->m.tg x≠1->w3.1[x]?=w.1[x]? :=λx hx e1 e2=>aj.block x (h.low x hx).2 (λq=>by rcases q with q|q;exact e1 (by rw[q];exact h.t0);exact e2 (h.t1 x q));have old:∀{x k},cC b i m x->m.tg x=k->po w m.tg v' y i u.hv x=k:=λhx e=>(au (h.low _ hx).2).trans e;have ah:∀x,m.cv.ownBlock=E x->x<w.1.size:=λx hx=>(h.low x (ae (Q (ae hx)))).2;have aq:∀x,mY y u [] x->w3.1[x]?=w1.1[x]? :=λx hx=>c13.block x (hr.aS x hx).2 (λq=>by have h1:=ai x hx;rcases q with q|q;omega;have:=ah x q;omega);have am:∀x,x<pw->w3.1[x]?=w1.1[x]? :=λx hx=>c13.block x (by omega) (λq=>by rcases q with q|q;omega;have:=h.low x (ae (Q (ae q)));omega);refine⟨⟨?_,h.ba.keep (by omega) (λx hx=>?_),?_,λj hj=>?_,λj hj=>?_,h.fl.keep (by omega) (λx hx=>ag x (ae (Q (Q (ae hx)))) (by rw[h.t2 x hx];omega) (by rw[h.t2 x hx];omega)) (λz hz x hx=>ag x (Q (Q (Q ⟨z,hz,hx⟩))) (by rw[h.t5 x (Q (Q ⟨z,hz,hx⟩))];omega) (by rw[h.t5 x (Q (Q ⟨z,hz,hx⟩))];omega)),old (ae (ae rfl)) h.t0,λx hx=>?_,λx hx=>old (ae (Q (Q (ae hx)))) (h.t2 x hx),λx hx=>old (ae (Q (Q (Q (ae hx))))) (h.t3 x hx),λj hj x hx=>?_,λx hx=>?_,λx hx=>?_⟩,aj⟩
 ·have r2:bp w2 b 196 20 (kP C i s.gone m.ys m.cv m.fv):=h.row.block ((hc2.block b (by omega) nb).trans (hb1.block b h.blt));rw[hw3];refine bp.upd r2 5 (by omega) _ rfl (λt ht hne=>?_);show kP C (i+1) s.gone m.ys v' m.fv t=kP C i s.gone m.ys m.cv m.fv t;unfold kP;simp only[hne,if_false];by_cases q:t=i+7;·subst q;rw[ar (by omega),ar (by omega),ar (by omega),ar (by omega),ar (by omega),ar (by omega),ar (by omega),ar (by omega),ar (by omega),ar (by omega),ar (by omega),ar (by omega),show i+7-7=i by omega,hg,dZ,dZ]
  rw[show decide (7<=t/\t<=i+1+6)=decide (7<=t/\t<=i+6)from decide_eq_decide.2 (by omega)]
 ·rcases hx with hx|hx;exact ag x (ae (Q (Q (Q (ae hx))))) (by rw[h.t3 x hx];omega) (by rw[h.t3 x hx];omega);exact ag x (Q (ae hx)) (by rw[h.t5 x (ae hx)];omega) (by rw[h.t5 x (ae hx)];omega)
 ·show w3.ownsRow (pw+1) 168 1 v' (i+1) ((List.range (i+1)).map λj=>Value.pointer (E ⟨bu m.yc i y j,0,V⟩));have e:((List.range (i+1)).map λj=>Value.pointer (E ⟨bu m.yc i y j,0,V⟩))=((List.range i).map λj=>Value.pointer (E ⟨m.yc j,0,V⟩))++[aC (E ⟨y,0,V⟩)]:=by rw[mm,cF];congr 1;exact mj (λj hj=>by rw[dw _ _ _ (by have:=eW.1 hj;omega)]);show[Value.pointer (E ⟨bu m.yc i y i,0,V⟩)]=_;rw[cP]
  rw[e];exact mO hro (λx hx=>ak.block x (hro.lt x hx).2 (λq=>ap (q▸hx)))
 ·show gw w3 pw (bu m.yc i y j) (bu m.rs i u j) (bu m.hh i [] j) (bu m.hv i [] j);by_cases q:j=i;subst q;rw[cP,cP,cP,cP];exact hr.keep (by omega) aq am;rw[dw _ _ _ q,dw _ _ _ q,dw _ _ _ q,dw _ _ _ q];have ac:j<i:=by omega
  refine(h.di j ac).keep (by omega) (λx hx=>?_) (λx hx=>(am x hx).trans (hb1.block x (by omega)));rcases hx with hx|hx;exact ag x (ae (Q (Q (Q (Q ⟨j,ac,hx⟩))))) (by rw[h.t4 j ac x hx];omega) (by rw[h.t4 j ac x hx];omega);exact ag x (Q (Q (ae ⟨j,ac,hx⟩))) (by rw[h.t5 x (Q (ae ⟨j,ac,hx⟩))];omega) (by rw[h.t5 x (Q (ae ⟨j,ac,hx⟩))];omega)
 ·show(bu m.rs i u j).c=cl j/\aO.lk (cl j) (bu m.hh i [] j)=s.cs j;by_cases q:j=i;subst q;rw[cP,cP];exact⟨hc,hcs⟩;rw[dw _ _ _ q,dw _ _ _ q];exact h.cs j (by omega)
 ·show po w m.tg v' y i u.hv x=1;rcases hv x hx with q|q;exact old (ae (Q (ae q))) (h.t1 x q);unfold po;rw[ar (by omega),au hx]
 ·have O:x=bu m.yc i y j\/(bu m.rs i u j).hv.ownBlock=E x:=hx;show po w m.tg v' y i u.hv x=4+j;by_cases q:j=i;·subst q;rw[cP,cP]at O;have hf:=hr.aS x (ae O);have hn:=ai x (ae O);unfold po;rw[ar (by omega),ar (λe=>by rcases hv x e with k|k;have:=ah x k;omega;omega),au O]
  rw[dw _ _ _ q,dw _ _ _ q]at O;exact old (ae (Q (Q (Q (Q ⟨j,by omega,O⟩))))) (h.t4 j (by omega) x O)
 ·show po w m.tg v' y i u.hv x=100;rcases hx with hx|⟨j,hj,hx⟩|hx;exact old (Q (ae hx)) (h.t5 x (ae hx))
  ·have O:jQ (bu m.rs i u j) (bu m.hv i [] j) x:=hx;by_cases q:j=i;·subst q;rw[cP,cP]at O;have hf:=hr.aS x (Q O);have hn:=ai x (Q O);have ha:=hr.apart x O;unfold po;rw[ar (by omega),ar (λe=>by rcases hv x e with k|k;have:=ah x k;omega;·omega),ar (λe=>by rcases e with e|e;exact ha.1 e;exact ha.2 e)]
   rw[dw _ _ _ q,dw _ _ _ q]at O;exact old (Q (Q (ae ⟨j,by omega,O⟩))) (h.t5 x (Q (ae ⟨j,by omega,O⟩)))
  exact old (Q (Q (Q hx))) (h.t5 x (Q (Q hx)))
 have aa:cC b i m x->pw<x/\x<w3.1.size:=λq=>by have:=h.low x q;omega
 rcases hx with(hx|hx|hx|hx|⟨j,hj,hx⟩)|(hx|⟨j,hj,hx⟩|hx);exact aa (ae (ae hx));·rcases hv x hx with q|q;exact aa (ae (Q (ae q)));have:=(hro.lt x hx).2;omega
 exact aa (ae (Q (Q (ae hx))));exact aa (ae (Q (Q (Q (ae hx)))));·have O:x=bu m.yc i y j\/(bu m.rs i u j).hv.ownBlock=E x:=hx;by_cases q:j=i;subst q;rw[cP,cP]at O;have:=hr.aS x (ae O);omega;rw[dw _ _ _ q,dw _ _ _ q]at O;exact aa (ae (Q (Q (Q (Q ⟨j,by omega,O⟩)))))
 exact aa (Q (ae hx));·have O:jQ (bu m.rs i u j) (bu m.hv i [] j) x:=hx;by_cases q:j=i;subst q;rw[cP,cP]at O;have:=hr.aS x (Q O);omega;rw[dw _ _ _ q,dw _ _ _ q]at O;exact aa (Q (Q (ae ⟨j,by omega,O⟩)))
 exact aa (Q (Q (Q hx)))
end
theorem Lc:(prog.info? 168).map (λi=>(i.zero,i.size,i.bytes))=E (E (aC V),1,8):=by kernel_rfl
theorem Hh (cl:Nat->Cl)(i:Nat):({g_ cl i with fl:=(g_ cl i).fl++[((i:Int)+1,0,bm 1 (cl i).id (fG (cl i)))]}:Sn)=g_ cl (i+1):=rfl
structure rE (w0 w:ac)(pw b i:Nat)(C:Cf)(cl:Nat->Cl)(m:RM):Prop where
 bP:bT w pw b i C cl (g_ cl i) m
 new:∀x,cC b i m x->w0.1.size<=x
 fF:af w0.1.size w0 w
 lg:m.L=[]/\∀j,j<i->m.hh j=[]
theorem QM{w0 w pw b ys C cl}(ah:pw<w0.1.size)(hb:af w0.1.size w0 w)(hrow:bp w b 196 20 (kP C 0 (λ_=>Y) ys (U V 0 0) (U V 0 0)))(aa:w0.1.size<=b)(hs:ii w pw ys C aB.start pB [] [])(ag:w0.1.size<=ys)(hne:ys≠b)(O zz:Nat->RS):
  ∃m,rE w0 w pw b 0 C cl m:=by
 have st:∀x,¬kZ 0 ⟨ys,pB,[],[],U V 0 0,λ_=>0,O,λ_=>[],λ_=>[],U V 0 0,[],λx=>if x=b then 0 else if x=ys then 3 else 100⟩ x:=λx hx=>by rcases hx with(hx|hx|⟨u,hu,_⟩)|⟨i,hi,_⟩|⟨u,hu,_⟩;cases hx;cases hx;cases hu;omega;cases hu
 have ow:∀x,fV b 0 ⟨ys,pB,[],[],U V 0 0,λ_=>0,O,λ_=>[],λ_=>[],U V 0 0,[],λx=>if x=b then 0 else if x=ys then 3 else 100⟩ x->x=b\/x=ys:=λx hx=>by rcases hx with hx|hx|hx|(hx|hx)|⟨i,hi,_⟩;exact ae hx;cases hx;cases hx;exact Q hx;cases hx;omega
 refine⟨⟨ys,pB,[],[],U V 0 0,λ_=>0,O,λ_=>[],λ_=>[],U V 0 0,[],λx=>if x=b then 0 else if x=ys then 3 else 100⟩,⟨⟨hrow,hs,dp _ _ _ _,λi hi=>by omega,λi hi=>by omega,Cm w,au rfl,λx hx=>(by cases hx),λx hx=>(by cases hx),λx hx=>?_,λi hi=>by omega,λx hx=>absurd hx (st x),λx hx=>?_⟩,λx hx=>?_,hb,rfl,λj hj=>by omega⟩⟩
 ·rcases hx with hx|hx;·subst hx;show(if _ then _ else _)=3;rw[ar hne,au rfl]
  cases hx
 ·rcases hx with hx|hx;·rcases ow x hx with e|e;rw[e];exact⟨by omega,hrow.lt⟩;rw[e];exact⟨by omega,(hs.aS ys (ae (ae rfl))).2⟩
  exact absurd hx (st x)
 rcases hx with hx|hx;·rcases ow x hx with e|e;rw[e];exact aa;rw[e];exact ag
 exact absurd hx (st x)
theorem QV (D a n c w)(h:dV N T M D=Y):
  Calls prog 119 #[.agg #[Z J N,Z J T,Z J M,Z J D],U a n c] w λe w'=>e=.returned (br #[aC V,Z J 5])/\af w.1.size w w':=by
 have HN:=I (λ(W:ac)=>Rl D W h);obtain⟨W0,hW0⟩:=aj (w.alloc (ah #[Z J N,Z J T,Z J M,Z J D] 26));have BB:=A (af w.1.size w W0) (by rw[hW0];exact(ax _ _).alloc (aw _) _);have z0:w.1.size<W0.1.size:=by rw[hW0];simp
 have HR:=A (W0.1[w.1.size]?=E (ah #[Z J N,Z J T,Z J M,Z J D] 26 (0,0))) (by rw[hW0];exact bo w _);have aa:=I hW0;clear hW0 h;obtain⟨⟨x0,x1,x2,x3⟩,-⟩:=gg HR.o;go_enter func119,ntmps119;go_upto_region 1 with fail;rw[<-aa.o];go_wp2_with fail;refine aH (HN.o W0) λw1 hb1=>?_;have O:=I (BB.o.trans (hb1.mono (by omega)));clear hb1 x0 x1 x2 x3;go_wp2_with fail;go_ret2;exact⟨rfl,O.o⟩
theorem rE.more{w0 w w1 w2 w3 pw b i y C cl m u v'}(h:rE w0 w pw b i C cl m)(aa:i<12)(hb1:af w.1.size w w1)(hr:gw w1 pw y u [] [])(hc:u.c=cl i)(Y:∀x,mY y u [] x->w.1.size<=x)(hro:w2.ownsRow (pw+1) 168 1 v' (i+1) (((List.range i).map λj=>Value.pointer (E ⟨m.yc j,0,V⟩))++[aC (E ⟨y,0,V⟩)]))(hc2:av (λx=>m.cv.ownBlock=E x) w1 w2)(hv:∀x,v'.ownBlock=E x->m.cv.ownBlock=E x\/w1.1.size<=x)(hw3:w3=w2.setCell ⟨b,5,V⟩ v'):
  ∃m1,bT w3 pw b (i+1) C cl (g_ cl i) m1/\af w0.1.size w0 w3/\(∀x,cC b (i+1) m1 x->w0.1.size<=x)/\m1.fv=m.fv/\m1.vs=m.vs/\(∀x,u.hi.ownBlock=E x->kZ (i+1) m1 x)/\gw w3 pw y u [] []/\m1.L=[]/\∀j,j<i+1->m1.hh j=[]:=by
 obtain⟨k1,k2⟩:=h.bP.xQ aa hb1 hr hc Y rfl rfl hro hc2 hv hw3;have z0:=h.fF.size;have z1:=hb1.size;refine⟨_,k1,h.fF.trans (k2.below z0 (λx e=>?_)),λx hx=>?_,rfl,rfl,λx hx=>Q (ae ⟨i,by omega,?_⟩),?_,h.lg.1,λj hj=>?_⟩;·rcases e with e|e;rw[e];exact h.new b (ae (ae rfl));exact h.new x (ae (Q (ae e)))
 ·rcases hx with(hx|hx|hx|hx|⟨j,hj,hx⟩)|(hx|⟨j,hj,hx⟩|hx);exact h.new x (ae (ae hx));·rcases hv x hx with q|q;exact h.new x (ae (Q (ae q)));omega
  exact h.new x (ae (Q (Q (ae hx))));exact h.new x (ae (Q (Q (Q (ae hx)))));·have O:x=bu m.yc i y j\/(bu m.rs i u j).hv.ownBlock=E x:=hx;by_cases q:j=i;subst q;rw[cP,cP]at O;have:=Y x (ae O);omega;rw[dw _ _ _ q,dw _ _ _ q]at O;exact h.new x (ae (Q (Q (Q (Q ⟨j,by omega,O⟩)))))
  exact h.new x (Q (ae hx));·have O:jQ (bu m.rs i u j) (bu m.hv i [] j) x:=hx;by_cases q:j=i;subst q;rw[cP,cP]at O;have:=Y x (Q O);omega;rw[dw _ _ _ q,dw _ _ _ q]at O;exact h.new x (Q (Q (ae ⟨j,by omega,O⟩)))
  exact h.new x (Q (Q (Q hx)))
 show jQ (bu m.rs i u i) (bu m.hv i [] i) x;rw[cP,cP];exact ae hx;have:=k1.di i (by omega);dsimp only at this;rw[cP,cP,cP,cP]at this;exact this;show bu m.hh i [] j=[];by_cases q:j=i;subst q;exact cP _ _ _;rw[dw _ _ _ q];exact h.lg.2 j (by omega)
theorem QX (pw D a)(n c:Nat)(w)(ag:pw<w.1.size)(h:dV N T M D=true)(hn:(n:Int)≠N):
  Calls prog 119 #[.agg #[Z J N,Z J T,Z J M,Z J D],U a n c] w λe w'=>e=.returned (br #[aC V,Z J 6])/\af w.1.size w w':=by
 obtain⟨W0,hW0⟩:=aj (w.alloc (ah #[Z J N,Z J T,Z J M,Z J D] 26));have BB:=A (af w.1.size w W0) (by rw[hW0];exact(ax _ _).alloc (aw _) _);have z0:w.1.size<W0.1.size:=by rw[hW0];simp
 have HN:=I (Et pw D W0 h (by omega));have O:=A (W0.1[w.1.size]?=E (ah #[Z J N,Z J T,Z J M,Z J D] 26 (0,0))) (by rw[hW0];exact bo w _);have aa:=I hW0;have ae:((n:Int) != N)=true:=by simpa using hn
 clear hW0 h hn;obtain⟨⟨x0,x1,x2,x3⟩,-⟩:=gg O.o;go_enter func119,ntmps119;go_upto_region 1 with fail;rw[<-aa.o];go_wp2_with fail;refine HN.o.mono ?_;rintro e w1 ⟨ys,rfl,-,hb1,-⟩;have Y:=I (BB.o.trans (hb1.mono (by omega)));clear x0 x1 x2 x3;obtain⟨⟨x0,x1,x2,x3⟩,-⟩:=gg ((hb1.block w.1.size z0).trans O.o);clear hb1;go_wp2_with fail;go_ret2;exact⟨rfl,Y.o⟩
theorem zr{w v zs}(h:aY w v zs):∃a c,v=U a zs.length c:=by obtain⟨a,c,e,_⟩:=h;exact⟨a,c,e⟩
theorem QY (w:ac)(N T M D ys):bp (w.alloc (ah #[Z J N,Z J T,Z J M,Z J D,aC (E ⟨ys,0,V⟩),U V 0 0,ak Y,ak Y,ak Y,ak Y,ak Y,ak Y,ak Y,ak Y,ak Y,ak Y,ak Y,ak Y,ak Y,U V 0 0] 196)) w.1.size 196 20 (kP ⟨N,T,M,D⟩ 0 (λ_=>Y) ys (U V 0 0) (U V 0 0)):=by have:=bo w (ah #[Z J N,Z J T,Z J M,Z J D,aC (E ⟨ys,0,V⟩),U V 0 0,ak Y,ak Y,ak Y,ak Y,ak Y,ak Y,ak Y,ak Y,ak Y,ak Y,ak Y,ak Y,ak Y,U V 0 0] 196);exact this
theorem QW (pw D){a}{n c:Nat}{vi vm vs O w}(cu:pw<w.1.size)(h:dV N T M D=true)(hn:(n:Int)=N)(hD:jP w a n c vi vm vs O)(bh:∀j,j<n->∀x,(((O j).inp≠[]/\(vi j).ownBlock=E x)\/((O j).sm≠[]/\(vm j).ownBlock=E x)\/((O j).ss≠[]/\(vs j).ownBlock=E x))->x<pw):
  Calls prog 119 #[.agg #[Z J N,Z J T,Z J M,Z J D],U a n c] w λe w'=>af w.1.size w w'/\((e=.returned (br #[aC V,Z J 6])/\∃j,j<n/\fY N T M D O j≠0)\/((∀j,j<n->fY N T M D O j=0)/\∃b,e=.returned (br #[aC (E ⟨b,0,V⟩),Z J 0])/\∃m,bT w' pw b n ⟨N,T,M,D⟩ (fN N T M O) (g_ (fN N T M O) n) m/\(∀x,cC b n m x->w.1.size<=x)/\m.L=[]/\∀j,j<n->m.hh j=[])):=by
 have hN:1<=N/\N<=12:=(vF h).n;obtain⟨cl,aM⟩:=aj (fN N T M O);rw[<-aM];have bE:=I aM;clear aM;obtain⟨W0,hW0⟩:=aj (w.alloc (ah #[Z J N,Z J T,Z J M,Z J D] 26));have BB:=A (af w.1.size w W0) (by rw[hW0];exact(ax _ _).alloc (aw _) _);have z0:w.1.size<W0.1.size:=by rw[hW0];simp
 have HN:=I (Et pw D W0 h (by omega));have HR:=A (W0.1[w.1.size]?=E (ah #[Z J N,Z J T,Z J M,Z J D] 26 (0,0))) (by rw[hW0];exact bo w _);have bF:=bj w λW hb=>hD.below hb;have bJ:=I bh;have bK:=I hW0;have aD:=I hn;have ct:n<=12:=by omega
 clear hW0 hD bh h hn;obtain⟨⟨x0,x1,x2,x3⟩,-⟩:=gg HR.o;go_enter func119,ntmps119;go_upto_region 1 with fail;rw[<-bK.o];go_wp2_with fail;refine HN.o.mono ?_;rintro e w1 ⟨ys,rfl,aO,hb1,bv⟩;have z1:=hb1.size;have R1:=I ((hb1.block w.1.size z0).trans HR.o);clear x0 x1 x2 x3;obtain⟨⟨x0,x1,x2,x3⟩,-⟩:=gg R1.o;have hne:((n:Int) != N)=Y:=by have:=aD.o;simpa using this
 obtain⟨W2,hW2⟩:=aj (w1.alloc (ah #[Z J N,Z J T,Z J M,Z J D,aC (E ⟨ys,0,V⟩),U V 0 0,ak Y,ak Y,ak Y,ak Y,ak Y,ak Y,ak Y,ak Y,ak Y,ak Y,ak Y,ak Y,ak Y,U V 0 0] 196));have hb2:af w1.1.size w1 W2:=by rw[hW2];exact(ax _ _).alloc (aw _) _
 have ce:=(aO.aS ys (ae (ae rfl))).2;have aX:=A (∃m,rE W0 W2 pw w1.1.size 0 ⟨N,T,M,D⟩ cl m) (QM (by omega) (hb1.trans (hb2.mono z1)) (by rw[hW2];exact QY w1 N T M D ys) z1 (aO.below hb2) bv (by omega) (λ_=>⟨cl 0,0,U V 0 0,U V 0 0,U V 0 0,U V 0 0,U V 0 0,0,U V 0 0⟩) (λ_=>⟨cl 0,0,U V 0 0,U V 0 0,U V 0 0,U V 0 0,U V 0 0,0,U V 0 0⟩));have bL:=I hW2;clear hW2 hb2 aO;go_upto_region 7 with fail;rw[<-bL.o];obtain⟨b,hb⟩:=aj w1.1.size;rw[<-hb]at aX ⊢;have cq:W0.1.size<=b:=by omega
 obtain⟨gk,aG⟩:=aj w.1.size;rw[<-aG]at HR z0;rw[<-aG];have aB:=I aG;clear hb aG x0 x1 x2 x3 hb1 bv ce R1;obtain⟨m0,bk⟩:=aX.o;have I0:=I bk;clear bk;go_wp2;go_loopw [9] (λi wr=>∃(j:Nat)(m:RM),j<=n/\i=Z J ((j:Int)+1)/\rE W0 wr pw b j ⟨N,T,M,D⟩ cl m/\∀t,t<j->fY N T M D O t=0) (λi _=>n+1-(intOf i).toNat);case atStart=>exact⟨0,m0,bi _,rfl,I0.o,λt ht=>absurd ht (pV t)⟩
 obtain⟨j,m,hj,rfl,au,hdr⟩:=hrel;have aV:=I hdr;clear hdr;have MK:=I au;have cD:=au.fF.size;obtain⟨⟨x0,x1,x2,x3⟩,-⟩:=gg ((au.fF.block gk z0).trans HR.o);have cr:gk<wr.1.size:=by omega
 have hbl:=au.bP.blt;have cx:pw<wr.1.size:=by have:=aB.o;omega
 have hwr:IntKind.i64.wrap ((j:Int)+1-1)=(j:Int):=by rw[kv,eL _ (by omega)];omega
 have cA:IntKind.i64.wrap (j:Int)=(j:Int):=by rw[kv,eL _ (by omega)]
 clear au;by_cases hlt:j<n
 ·have BW:=I (BB.o.trans (MK.o.fF.mono (by have:=aB.o;omega)));have aT:=I (bF.o wr BW.o);obtain⟨db,cj,rfl,dl,d0,d1,d2,d3,d4,d5⟩:=aT.o.cells j hlt;obtain⟨li,lm,ls,i1,i2,i3⟩:=aT.o.its j hlt;obtain⟨ai,ci,aH⟩:=zr li;obtain⟨am,cm,aI⟩:=zr lm;obtain⟨az,cz,aJ⟩:=zr ls;have bI:=I (bJ.o j hlt);have hcell:=MK.o.bP.cells;obtain⟨-,-,c5,c19,fz⟩:=hcell;have f5:=fz 5;have f19:=fz 19;by_cases hE:fY N T M D O j=0;rotate_left
  ·have aa:=bj wr λW hb=>(PL (li.below hb) (lm.below hb) (ls.below hb) i1 i2 i3 hE).mono (λe w' (hq:e=Ending.returned (br #[aC V,Z J (eT N T M D ((j:Int)+1) (O j).inp (O j).ch (O j).ms (O j).sd (O j).sm (O j).ss)])/\af W.1.size W w')=>(show e=.returned (br #[aC V,Z J (fY N T M D O j)])/\af wr.1.size wr w' from⟨hq.1,hb.trans (hq.2.mono hb.size)⟩));have bD:=bj wr λW hb=>(show af w.1.size w W/\∃j,j<n/\fY N T M D O j≠0 from⟨BW.o.trans (hb.mono BW.o.size),j,hlt,hE⟩);obtain⟨aU,aY⟩:=aj (fY N T M D O j);rw[<-aY]at aa hE;have cp:(aU != 0)=true:=by simpa using hE
   rw[aH]at d0 aa;rw[aI]at d4 aa;rw[aJ]at d5 aa;have bV:(j:Int)<(n:Int):=by omega
   have bg:(j:Int)+1<=N:=by have:=aD.o;omega
   clear hE aY li lm ls aH aI aJ i1 i2 i3 c5 c19 f5 f19 fz;generalize (O j).inp.length=k1 at*;generalize (O j).sm.length=k2 at*;generalize (O j).ss.length=k3 at*;go_upto_region 10 with fail;go_cut [10,11]from 35 to 45 (λq r wc=>q=aC V/\r=Z J aU/\af wr.1.size wr wc);case first=> go_region_with (go_at_call 102;(first|refine(aa.o _ (ax wr.1.size wr).drew).mono ?_|refine(aa.o _ (ax wr.1.size wr)).mono ?_);rintro e w3 ⟨rfl,hb3⟩);all_goals(go_wp2;go_meet;exact⟨rfl,rfl,by assumption⟩)
   obtain⟨hq,hr,hb3⟩:=hcut;subst hq;subst hr;have ap:=I (bD.o wc hb3);clear hb3;go_wp2_with fail;go_ret2;exact⟨ap.o.1,ae ⟨rfl,ap.o.2⟩⟩
  have aa:=bj wr λW hb=>(PM pw (li.below hb) (lm.below hb) (ls.below hb) i1 i2 i3 hE (by have:=hb.size;omega) bI.o).mono (λe w' ⟨y,h1,u,h2,h3,h4,h5⟩=>(show∃(y:Nat)(u:RS),e=Ending.returned (br #[aC (E ⟨y,0,V⟩),Z J 0])/\u.c=cl j/\gw w' pw y u [] []/\af wr.1.size wr w'/\∀x,mY y u [] x->wr.1.size<=x from⟨y,u,h1,by rw[h2,bE.o];rfl,h3,hb.trans (h4.mono hb.size),λx hx=>fJ hb.size (h5 x hx)⟩));rw[aH]at d0 aa;rw[aI]at d4 aa;rw[aJ]at d5 aa;have bV:(j:Int)<(n:Int):=by omega
  have bg:(j:Int)+1<=N:=by have:=aD.o;omega
  have bG:=I (show∀t,t<j+1->fY N T M D O t=0 from λt ht=>by by_cases q:t=j;rw[q];exact hE;exact aV.o t (by omega));obtain⟨ic,bS,hc0,hc1,hc2⟩:=bO Lc;obtain⟨ip,bU,bY,bZ,b_⟩:=bO ll;clear hE li lm ls aH aI aJ i1 i2 i3 fz;generalize (O j).inp.length=k1 at*;generalize (O j).sm.length=k2 at*;generalize (O j).ss.length=k3 at*;go_upto_region 10 with fail;go_cut [10,11]from 35 to 45 (λq r wc=>r=Z J 0/\∃(y:Nat)(u:RS),q=aC (E ⟨y,0,V⟩)/\u.c=cl j/\gw wc pw y u [] []/\af wr.1.size wr wc/\∀x,mY y u [] x->wr.1.size<=x);case first=> go_region_with (go_at_call 102;(first|refine(aa.o _ (ax wr.1.size wr).drew).mono ?_|refine(aa.o _ (ax wr.1.size wr)).mono ?_);rintro e w3 ⟨y,u,rfl,bc⟩;have bH:=I bc;clear bc);all_goals(go_wp2;go_meet;exact⟨rfl,_,_,rfl,bH.o⟩)
  obtain⟨hr,y,u,hq,hu,bt,hb3,bp⟩:=hcut;subst hq;subst hr;have RF:=I bt;have B3:=I hb3;have NW:=I bp;have HU:=I hu;have z3:=hb3.size;have e5:=(hb3.cell (p:=⟨b,5,V⟩) hbl).trans c5;have g5:=(hb3.frozen (p:=⟨b,5,V⟩) hbl).trans f5;have ba:b<wc.1.size:=by omega
  have aK:=A (wc.ownsRow (pw+1) 168 1 m.cv j ((List.range j).map λi=>aC (E ⟨m.yc i,0,V⟩))) ((MK.o.bP.below hb3).nP);have NB:=A (m.cv.ownBlock≠E b) (λe=>by have q1:=MK.o.bP.t1 b e;rw[MK.o.bP.t0]at q1;omega);obtain⟨a5,k5,aP⟩:=a_ aK.o;have aW:=I aP;rw[aP]at e5 aK NB;have cw:pw+1<=wc.1.size:=by omega
  clear bt hb3 bp hu aP d0 d1 d2 d3 d4 d5 x0 x1 x2 x3 c5 c19 f5 f19;go_upto_region 13 with fail;go_upto_region 14 with(at_builtin;refine tx _ rfl _ _ 194 rfl (pw+1) 168 ic (aC V) 1 8 underlying194 bS hc0 hc1 hc2 rfl (by decide) _ _ _ rfl (aK.o.alloc _) ⟨wc.1.size,0,V⟩ 1 1 [aC (E ⟨y,0,V⟩)] rfl rfl ?c1 ?c2 (by decide) ?c3 ?c4 ?c5 _ rfl ?_);case c1=>exact uG _ _ _
  case c2=>intro x hx;simp at hx;subst hx;rfl
  case c3=>unfold maxLen;omega
  case c4=>omega
  case c5=>simp;omega
  intro g2 bN w2 hr2 ar aZ bR;have aq:af wc.1.size wc (wc.alloc (ah #[aC (E ⟨y,0,V⟩)] 168)):=(ax _ _).alloc (aw _) _;have ck:w2.cell? ⟨b,5,V⟩=E (U a5 j k5):=by rw[ar.cell_far ⟨b,5,V⟩ (by show b<_;simp;omega) (λe=>NB.o e.symm),aq.cell (p:=⟨b,5,V⟩) ba];exact e5
  have cn:w2.frozen? ⟨b,5,V⟩=Y:=by rw[ar.frozen_far ⟨b,5,V⟩ (by show b<_;simp;omega) (λe=>NB.o e.symm),aq.frozen (p:=⟨b,5,V⟩) ba];exact g5
  have hb2:b<w2.1.size:=by have:=ar.size;simp at this;omega
  obtain⟨w3,hw3⟩:=aj (w2.setCell ⟨b,5,V⟩ (U (E ⟨g2,0,V⟩) (j+1) bN));obtain⟨m1,k1,kb,kf,cf,cg,aA,aR,bA⟩:=MK.o.more (w1:=wc) (w2:=w2) (w3:=w3) (by omega) B3.o RF.o HU.o NW.o hr2 ((av.bz aq).trans (av.grown ar) (λx e _=>by rw[aW.o];exact e)) (λx hx=>by
   have e:x=g2:=by simpa[Value.ownBlock]using hx.symm
   subst e;rcases aZ with q|q;exact ae (by rw[aW.o];exact q);exact Q (by first|omega|(simp at q;omega))) hw3;have K1:=I k1;have KB:=I kb;have KF:=I kf;have KL:=I bA;clear bA;have bM:=I hw3;have bb:=k1.blt;obtain⟨-,-,-,c19,fz⟩:=k1.cells;have f19:=fz 19;have bB:w3.cell? ⟨y,12,V⟩=E u.hi:=aR.at_.cell 12;have aQ:bX w3 u.hi (bm 1 (cl j).id (fG (cl j))):=by have:=aR.hi;rw[HU.o]at this;exact this
  obtain⟨ay,cy,bw,-⟩:=eC aQ;obtain⟨a9,c9,bu,-⟩:=k1.fl.view;have HS:=I (λ(W w5 w6:ac)(g cap:Nat) hW hr hgr hat cd=>(show∃m',rE W0 w6 pw b (j+1) ⟨N,T,M,D⟩ cl m' from by obtain⟨m',q1,q2,q3,q4,q5,q6⟩:=K1.o.pD (p:=((j:Int)+1,0,bm 1 (cl j).id (fG (cl j)))) (W:=W) (w2:=w5) (w3:=w6) (g:=g) (cap:=cap) aQ (λx hx=>⟨(K1.o.low x (Q (aA x hx))).2,(K1.o.low x (Q (aA x hx))).1,K1.o.t5 x (aA x hx)⟩) hW hr hgr hat cd;refine⟨m',by rw[<-Hh];exact q1,λx hx=>?_,KB.o.trans (q2.below KB.o.size (λx e=>KF.o x (ae e))),q5.trans KL.o.1,λt ht=>by rw[q6];exact KL.o.2 t ht⟩;rcases q4 x hx with q|q|q;exact KF.o x q;omega;exact KF.o x (Q (aA x q))));have aL:=I k1.fl.row;have aF:=A (m1.fv.ownBlock≠E b) (λe=>by have q1:=k1.t2 b e;rw[k1.t0]at q1;omega);have bf:(g_ cl j).fl.length=j:=m_ cl j;rw[bu]at c19 aL HS aF;rw[bw]at bB HS;rw[bf]at c19 aL HS aF;obtain⟨nb,bn⟩:=aj ((bm 1 (cl j).id (fG (cl j))).length);rw[<-bn]at bB HS;clear hr2 ar aZ bR aq hw3 k1 kb kf cf cg aA aR aQ bw bu fz bf bn e5 g5;have HQ:=I (show∀w5:ac,(w3.alloc (ah #[Z J ((j:Int)+1),Z J 0,U ay nb cy] 49)).drew.grownBy w5 (Value.slice a9 j c9).ownBlock->w5.cell? ⟨b,19,V⟩=E (U a9 j c9)/\w5.frozen? ⟨b,19,V⟩=Y from λw5 hg=>by
   have aq:af w3.1.size w3 (w3.alloc (ah #[Z J ((j:Int)+1),Z J 0,U ay nb cy] 49)).drew:=((ax _ _).alloc (aw _) _).drew;have hbl:b<(w3.alloc (ah #[Z J ((j:Int)+1),Z J 0,U ay nb cy] 49)).drew.1.size:=by show b<(w3.alloc _).1.size;simp;omega
   exact⟨(hg.cell_far ⟨b,19,V⟩ hbl (λe=>aF.o e.symm)).trans ((aq.cell (p:=⟨b,19,V⟩) bb).trans c19),(hg.frozen_far ⟨b,19,V⟩ hbl (λe=>aF.o e.symm)).trans ((aq.frozen (p:=⟨b,19,V⟩) bb).trans f19)⟩);have SZ:=A ((w3.alloc (ah #[Z J ((j:Int)+1),Z J 0,U ay nb cy] 49)).drew.1.size=w3.1.size+1) (by show(w3.alloc _).1.size=_;simp);have h63:j+1<=maxLen:=by unfold maxLen;omega
  have hlen:(j+1)*40<=140737488355328:=by omega
  go_upto_region 14 with fail;rw[<-bM.o];go_region_law (refine AO _ (by rfl) _ _ _ (by rfl) 0 49 ip _ 3 40 jt bU bY bZ b_ rfl (by omega) (U a9 j c9) j (bC (g_ cl j).fl m1.vs) (by rfl) ((aL.o.alloc _).drew) ⟨w3.1.size,0,V⟩ 1 1 [Z J ((j:Int)+1),Z J 0,U ay nb cy] (by rfl) (by rfl) (AM (cs:= #[Z J ((j:Int)+1),Z J 0,U ay nb cy]) (t:=49) (fr:=(0,0)) (bo w3 _)) (by simp[Value.oneCell']) (by omega) h63 hlen (bi _) (w3.1.size+1) (by simp) ?_;intro bQ cap' w5 bq aN hat bW;obtain⟨cB,qf⟩:=HQ.o w5 aN);all_goals(have ap:=I (HS.o _ w5 _ bQ cap' (((ax w3.1.size w3).alloc (aw _) _).drew) bq aN (by rw[SZ.o];exact hat) rfl);clear bq aN hat bW;obtain⟨m9,bl⟩:=ap.o;have F9:=I bl;clear bl;go_wp2;go_roundw;(case rel=>exact⟨j+1,m9,by omega,by go_num,F9.o,bG.o⟩);(case measure=>simp[intOf];omega))
 have ej:j=n:=by omega
 have ap:=I (show af w.1.size w wr/\(∀j,j<n->fY N T M D O j=0)/\∃m,bT wr pw b n ⟨N,T,M,D⟩ cl (g_ cl n) m/\(∀x,cC b n m x->w.1.size<=x)/\m.L=[]/\∀j,j<n->m.hh j=[]from by rw[<-ej];exact⟨BB.o.trans (MK.o.fF.mono (by have:=aB.o;omega)),aV.o,m,MK.o.bP,λx hx=>by have h1:=MK.o.new x hx;have h2:=aB.o;omega,MK.o.lg⟩);have bg:¬(j:Int)+1<=N:=by have:=aD.o;omega
 clear ej;go_wp2_with fail;go_ret2;exact⟨ap.o.1,Q ⟨ap.o.2.1,_,rfl,ap.o.2.2⟩⟩
end Go.Proofs.YtchideljndagjabGreat


