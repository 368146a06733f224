/- Joined -/
import Derived.Test.YtchideljndagjabGreatUAQ
import Derived.Test.YtchideljndagjabGreatUBF
set_option linter.unusedVariables false
set_option maxHeartbeats 2000000
set_option maxRecDepth 100000
namespace Go.Proofs.YtchideljndagjabGreat
open aO aB
open Go.Value renaming int->Z,slice->U,pointer->aC,tuple->br
open Go.IntKind renaming i64->J
open Go.Obj renaming cells->ah
open Go.Ending renaming returned->az
open Or renaming inl->ae,inr->Q
open Option renaming none->V,some->E
open Go renaming World->ac,Value->ag,Calls->ay
open Go.RowKit renaming Below->af,intOf->aA
abbrev AQ:=@List.mem_iff_getElem?
open Go.Proofs.Tryz
section
open Go.RowKit
structure Th where
 pc:Nat
 aS:Nat->Prop
 at_:ac->Prop
structure tD (pw:Nat)(t:Th):Prop where
 lt:∀w x,t.at_ w->t.aS x->x<w.1.size
 lo:∀w x,t.at_ w->t.aS x->pw<x
 keep:∀w w',t.at_ w->w.1.size<=w'.1.size->(∀x,t.aS x->w'.1[x]?=w.1[x]?)->(∀x,x<pw->w'.1[x]?=w.1[x]?)->t.at_ w'
def Ej:Nat->TypeId
 |0=>126
 |1=>131
 |_=>136
def px (l:List Th):List ag:=l.map λt=>Value.pointer (E ⟨t.pc,0,V⟩)
structure fU (w:ac)(pw:Nat)(F:Nat->ag)(ls:Nat->List Ow)(T:Nat->List Th):Prop where
 row:∀j,j<3->w.ownsRow (pw+1) (Ej j) 1 (F j) (T j).length (px (T j))
 ok:∀j,j<3->∀t∈T j,tD pw t/\t.at_ w
 tag:∃tg:Nat->Nat,(∀j i t x,j<3->(T j)[i]?=E t->t.aS x->tg x=4+3*i+j)/\(∀j x,j<3->(F j).ownBlock=E x->tg x=j+1)/\∀x,aU F ls x->tg x=0
def nu (T:Nat->List Th)(j i:Nat)(t:Th):Nat->List Th:=λd=>if d=j then(T j).set i t else T d
def oM (T:Nat->List Th)(j:Nat)(t:Th):Nat->List Th:=λd=>if d=j then T j++[t]else T d
section
variable {nx:Int}{w w' w'':ac}{pw:Nat}{F F':Nat->ag}{ls ls':Nat->List Ow}{T:Nat->List Th}
theorem fU.quiet (h:fU w pw F ls T)(hi:bH w pw F nx ls)(q:QS pw w F ls w' F' ls'):fU w' pw F' ls' T:=by
 obtain⟨tg,t1,t2,t3⟩:=h.tag;have hlt:=hi.fe;refine⟨λj hj=>?_,λj hj t ht=>?_,?_⟩;·rw[q.fs j hj];exact bf (h.row j hj) q.aV (λb hb e=>by rcases e with e|e;have:=(h.row j hj).lt b hb;omega;have a:=t2 j b hj hb;have c:=t3 b e;omega)
 ·obtain⟨ok,at_⟩:=h.ok j hj t ht;obtain⟨i,aa⟩:=AQ.1 ht;refine⟨ok,ok.keep w w' at_ q.aV.size (λx hx=>q.aV.block x (ok.lt w x at_ hx) (λe=>?_)) (λx hx=>q.aV.block x (by omega) (λe=>?_))⟩;·rcases e with e|e;have:=ok.lo w x at_ hx;omega;have a:=t1 j i t x hj aa hx;have b:=t3 x e;omega
  rcases e with e|e;omega;have:=hi.gO e;omega
 obtain⟨Y,O⟩:∃Y:Nat->Nat,∀x,Y x=if x<w.1.size then tg x else 0:=⟨_,λ_=>rfl⟩;refine⟨Y,λj i t x hj hp hx=>?_,λj x hj hx=>?_,λx hx=>?_⟩;obtain⟨ok,at_⟩:=h.ok j hj t (cU hp);rw[O,au (ok.lt w x at_ hx)];exact t1 j i t x hj hp hx;rw[q.fs j hj]at hx;rw[O,au ((h.row j hj).lt x hx).2];exact t2 j x hj hx;rw[O];by_cases hl:x<w.1.size;·rw[au hl];by_cases hf:aU F ls x;exact t3 x hf;exact absurd hx (q.aS x hl hf)
 rw[ar hl]
theorem fU.below (h:fU w pw F ls T)(hi:bH w pw F nx ls)(hb:af w.1.size w w'):fU w' pw F ls T:=h.quiet hi (QS.refl.below hb)
theorem fU.Ul (h:fU w pw F ls T)(hi:bH w pw F nx ls){j i}(hj:j<3){t t'}(ht:(T j)[i]?=E t)(ak:t'.pc=t.pc)(hc:av (λx=>t.aS x\/x=pw\/aU F ls x) w w')(aa:∀j,j<3->F' j=F j)(ag:∀b,b<w.1.size->¬aU F ls b->¬aU F' ls' b)(aj:tD pw t')(hat:t'.at_ w')(hf:∀x,t'.aS x->t.aS x\/w.1.size<=x)(ah:∀x,t'.aS x->¬aU F' ls' x):fU w' pw F' ls' (nu T j i t'):=by
 obtain⟨tg,t1,t2,t3⟩:=h.tag;have hlt:=hi.fe;have ac:i<(T j).length:=(fC.1 ht).1;obtain⟨am,af⟩:=h.ok j hj t (cU ht);have ai:∀x,t.aS x->pw<x:=λx hx=>am.lo w x af hx;have elem:∀d,d<3->∀k u,(nu T j i t' d)[k]?=E u->(d=j/\k=i/\u=t')\/((T d)[k]?=E u/\¬(d=j/\k=i)):=by
  intro d hd k u hu;unfold nu at hu;by_cases e:d=j;·subst e;rw[au rfl,tq]at hu;by_cases e2:i=k;subst e2;rw[au rfl,au ac]at hu;exact ae ⟨rfl,rfl,(nI hu).symm⟩;rw[ar e2]at hu;exact Q ⟨hu,λq=>e2 q.2.symm⟩
  rw[ar e]at hu;exact Q ⟨hu,λq=>e q.1⟩
 refine⟨λd hd=>?_,λd hd u hu=>?_,?_⟩
 ·have e:px (nu T j i t' d)=px (T d)/\(nu T j i t' d).length=(T d).length:=by
   unfold nu;by_cases e:d=j;·subst e;rw[au rfl];refine⟨?_,Gg⟩;unfold px;apply xz;intro k;rw[dC,dC,tq];by_cases e2:i=k;subst e2;rw[au rfl,au ac,ht];simp[ak];rw[ar e2]
   rw[ar e];exact⟨rfl,rfl⟩
  rw[e.1,e.2,aa d hd];exact bf (h.row d hd) hc (λb hb e=>by have b':=t2 d b hd hb;rcases e with e|e|e;have a:=t1 j i t b hj ht e;omega;have:=(h.row d hd).lt b hb;omega;have:=t3 b e;omega)
 ·obtain⟨k,hk⟩:=AQ.1 hu;rcases elem d hd k u hk with⟨_,_,rfl⟩|⟨hk,hne⟩;exact⟨aj,hat⟩;obtain⟨ok,at_⟩:=h.ok d hd u (cU hk);refine⟨ok,ok.keep w w' at_ hc.size (λx hx=>hc.block x (ok.lt w x at_ hx) (λe2=>?_)) (λx hx=>hc.block x (by omega) (λe2=>?_))⟩;·rcases e2 with e2|e2|e2;have a:=t1 d k u x hd hk hx;have b:=t1 j i t x hj ht e2;omega;have:=ok.lo w x at_ hx;omega;have a:=t1 d k u x hd hk hx;have b:=t3 x e2;omega
  rcases e2 with e2|e2|e2;have:=ai x e2;omega;omega;have:=hi.gO e2;omega
 classical
 obtain⟨Y,O⟩:∃Y:Nat->Nat,∀x,Y x=if x<w.1.size then tg x else(if t'.aS x then 4+3*i+j else 0):=⟨_,λ_=>rfl⟩;refine⟨Y,λd k u x hd hu hx=>?_,λd x hd hx=>?_,λx hx=>?_⟩
 ·rw[O];rcases elem d hd k u hu with⟨rfl,rfl,rfl⟩|⟨hk,hne⟩
  ·by_cases hl:x<w.1.size;·rw[au hl];rcases hf x hx with h1|h1;exact t1 d k t x hd ht h1;omega
   rw[ar hl,au hx]
  obtain⟨ok,at_⟩:=h.ok d hd u (cU hk);rw[au (ok.lt w x at_ hx)];exact t1 d k u x hd hk hx
 rw[aa d hd]at hx;rw[O,au ((h.row d hd).lt x hx).2];exact t2 d x hd hx;rw[O];by_cases hl:x<w.1.size;·rw[au hl];by_cases hy:aU F ls x;exact t3 x hy;exact absurd hx (ag x hl hy)
 rw[ar hl];by_cases hy:t'.aS x;exact absurd hx (ah x hy);rw[ar hy]
theorem fU.list (h:fU w pw F ls T)(hi:bH w pw F nx ls){j}(hj:j<3):∃a cap,w.cell? ⟨pw,j,V⟩=E (U a (T j).length cap)/\w.frozen? ⟨pw,j,V⟩=false/\F j=U a (T j).length cap/\(T j).length<=cap/\cap<=9223372036854775807/\
  ∀i t,(T j)[i]?=E t->∃g,a=E ⟨g,0,V⟩/\g<w.1.size/\w.cell? ⟨g,i,V⟩=E (aC (E ⟨t.pc,0,V⟩)):=by have c0:=dg hi.blk j (by omega);have h0:=h.row j hj;rcases h0.2 with⟨e0,hn⟩|⟨g,cap,cur,e0,_,_,O,hcm,_⟩;refine⟨V,0,by rw[c0.1,e0,hn],c0.2,by rw[e0,hn],by omega,by omega,λi p hp=>?_⟩;have:=(fC.1 hp).1;omega;refine⟨E ⟨g,0,V⟩,cap,by rw[c0.1,e0],c0.2,e0,O,by unfold maxLen at hcm;omega,λi p hp=>?_⟩;have Y:=(fC.1 hp).1;rw[e0]at h0;refine⟨g,rfl,(h0.lt g rfl).2,?_⟩;rw[h0.cellAt i (by omega)];unfold px;rw[dC,hp];rfl
end
end
section
open Go.ChangeShapes Go.WideShapes Go.ChangeAt Go.RowKit
theorem QS.Bt{w w' pw F F' nx ls ls'}(q:QS pw w F ls w' F' ls')(h:bH w pw F nx ls):af pw w w':=
 q.aV.below (nH h.fe) (λb e=>by rcases e with e|e;omega;have:=h.gO e;omega)
theorem CL:(prog.info? 41).map (λi=>(i.zero,i.size,i.bytes))=E (E (U V 0 0),1,24):=by kernel_rfl
def lQ (vs:List ag)(m b:Nat):Prop:=∃q y,q<m/\vs[q]?=E y/\y.ownBlock=E b
theorem lQ.aS{v vs m b}(h:lQ vs m b):iZ v vs b:=by obtain⟨q,y,_,hy,hb⟩:=h;exact Q ⟨y,cU hy,hb⟩
def mA (l:List Ow):Prop:=∀o∈l,0<=o.2.2/\o.2.2<=255
theorem mA.snoc{l}(h:mA l){o}(ho:0<=o.2.2/\o.2.2<=255):mA (l++[o]):=λq hq=>by rcases cZ.1 hq with hq|hq;exact h q hq;simp at hq;subst hq;exact ho
structure xN (w:ac)(pw:Nat)(F:Nat->ag)(nx:Int)(ls:Nat->List Ow)(vs:List ag)(m:Nat)(wr:ac)(F':Nat->ag)(ls':Nat->List Ow):Prop where
 inv:bH wr pw F' (nx+(m:Int)) ls'
 marks:mA (ls 1)->mA (ls' 1)
 other:∀c,c≠1->ls' c=ls c
 len:(ls' 1).length=(ls 1).length+m
 fs:∀j,j<3->F' j=F j
 aV:av (λb=>b=pw\/lQ vs m b\/aU F ls b) w wr
 aS:∀b,b<w.1.size->¬lQ vs m b->¬aU F ls b->¬aU F' ls' b
def od (w:ac)(pw:Nat)(F:Nat->ag)(nx:Int)(ls:Nat->List Ow)(vs:List ag)(m:Nat)(wr:ac):Prop:=∃F' ls',xN w pw F nx ls vs m wr F' ls'
theorem Pc{w pw F nx ls vs}(h:bH w pw F nx ls):od w pw F nx ls vs 0 w:=
 ⟨F,ls,by simpa using h,id,λ_ _=>rfl,by omega,λ_ _=>rfl,av.refl _ _,λ_ _ _ h=>h⟩
section
variable {w wr:ac}{pw B:Nat}{F:Nat->ag}{nx:Int}{ls:Nat->List Ow}{v:ag}{vs:List ag}{ps:List Pk}{m:Nat}
theorem Pa (h:od w pw F nx ls vs m wr)(hp:dt w B v vs ps)(hB:pw<B)(hf:∀x,iZ v vs x->¬aU F ls x):wr.ownsRow B 49 3 v ps.length (bC ps vs):=by obtain⟨F',ls',h⟩:=h;refine bf hp.row h.aV (λb hb e=>?_);rcases e with e|⟨q,y,_,hy,e⟩|e;have:=(hp.row.lt b hb).1;omega;have hq:=(fC.1 hy).1;exact wq hp.row (hp.each q y (ps[q]'(by rw[<-hp.len];exact hq)) hy (aQ _)) (by decide) b hb e;exact hf b (ae hb) e
theorem O' (h:od w pw F nx ls vs m wr)(hp:dt w B v vs ps)(hB:pw<B)(hf:∀x,iZ v vs x->¬aU F ls x){y p}(hy:vs[m]?=E y)(O:ps[m]?=E p):wr.ownsRow B 5 1 y p.2.2.length (lV p.2.2):=by obtain⟨F',ls',h⟩:=h;have ho:=hp.each m y p hy O;refine bf ho h.aV (λb hb e=>?_);rcases e with e|⟨q,z,hq,hz,e⟩|e;have:=(ho.lt b hb).1;omega;exact hp.pw q m z y hq hz hy b e hb;exact hf b (Q ⟨y,cU hy,hb⟩) e
theorem Pb (h:od w pw F nx ls vs m wr)(hp:dt w B v vs ps)(hB:pw<B)(hf:∀x,iZ v vs x->¬aU F ls x)(hm:m<ps.length){y}(hy:vs[m]?=E y)(h0:0<=nx)(h1:nx+(ps.length:Int)<=1000000000000000000)(hlen:((ls 1).length+ps.length)*24<=140737488355328):
  ay prog 95 #[aC (E ⟨pw,0,V⟩),y] wr λe w'=>e=az (br #[])/\od w pw F nx ls vs (m+1) w':=by
 have ho:=O' h hp hB hf hy (aQ hm);obtain⟨F',ls',h⟩:=h;have yl:∀b,y.ownBlock=E b->B<=b/\b<w.1.size:=λb hb=>(hp.each m y _ hy (aQ hm)).lt b hb;have ac:∀b,y.ownBlock=E b->¬lQ vs m b:=λb hb ⟨q,z,hq,hz,e⟩=>hp.pw q m z y hq hz hy b e hb;refine(OV y B h.inv (by omega) (by omega) (by rw[h.len];omega) ho hB (λb hb=>h.aS b (yl b hb).2 (ac b hb) (hf b (Q ⟨y,cU hy,hb⟩)))).mono ?_;rintro e w' ⟨rfl,F'',o,i1,i2,i3,i4,i5⟩;have up:∀b,lQ vs m b->lQ vs (m+1) b:=λb ⟨q,z,hq,hz,e⟩=>⟨q,z,by omega,hz,e⟩;have Y:∀b,y.ownBlock=E b->lQ vs (m+1) b:=λb hb=>⟨m,y,by omega,hy,hb⟩;have O:bn ls' 1 (ls' 1++[o]) 1=ls' 1++[o]:=by simp[bn]
 refine⟨rfl,F'',bn ls' 1 (ls' 1++[o]),⟨?_,λhk=>?_,λc hc=>?_,?_,λj hj=>(i3 j hj).trans (h.fs j hj),?_,λb hb hn aa=>?_⟩⟩;have:nx+((m+1:Nat):Int)=nx+(m:Int)+1:=by omega
 rw[this];exact i1;rw[O];exact(h.marks hk).snoc i5;unfold bn;rw[ar hc];exact h.other c hc;rw[O,cy,h.len];rfl
 ·refine(h.aV.mono (S':=λb=>b=pw\/lQ vs (m+1) b\/aU F ls b) (λb e _=>?_)).trans i4 (λb e hbl=>?_);·rcases e with e|e|e;exact ae e;exact Q (ae (up b e));exact Q (Q e)
  rcases e with e|e|e;exact ae e;exact Q (ae (Y b e));by_cases h1:lQ vs m b;exact Q (ae (up b h1));by_cases h2:aU F ls b;exact Q (Q h2);exact absurd e (h.aS b hbl h1 h2)
 exact i2 b (by have:=h.aV.size;omega) (λe=>hn (Y b e)) (h.aS b hb (λe=>hn (up b e)) aa)
end
def DB (m:Int):Nat->ag
 |2=>U V 0 0
 |_=>Z J m
def rB (w:ac)(g:Nat)(n:Nat)(m:Int)(k:Nat)(wr:ac):Prop:=
 av (λb=>b=g) w wr/\∃cur:Array ag,wr.1[g]?=E (ah cur 49 (0,0))/\cur.size=n*3/\∀i,i<k*3->cur[i]?=E (DB m (i%3))
theorem JH{w g n m cur}(h:w.1[g]?=E (ah cur 49 (0,0)))(hs:cur.size=n*3):rB w g n m 0 w:=
 ⟨av.refl _ _,cur,h,hs,λi hi=>by omega⟩
theorem JE{w wr g n m k}(h:rB w g n m k wr)(j)(hj:j<n):
  (∃v,wr.cell? ⟨g,j*3,V⟩=E v)/\(∃v,wr.cell? ⟨g,j*3+1,V⟩=E v)/\(∃v,wr.cell? ⟨g,j*3+2,V⟩=E v)/\(∀o,wr.frozen? ⟨g,o,V⟩=false)/\g<wr.1.size:=by
 obtain⟨_,cur,h1,h2,_⟩:=h;have key:∀o,o<n*3->(∃v,wr.cell? ⟨g,o,V⟩=E v):=λo ho=>
  ⟨cur[o]'(by omega),by simp only[World.cell?,h1];simp[h2,ho]⟩;refine⟨key _ (by omega),key _ (by omega),key _ (by omega),λo=>eh wr g o _ _ h1,?_⟩;by_cases hb:g<wr.1.size;exact hb;rw[cT (by omega)]at h1;cases h1
theorem JG{w wr g n m k}(h:rB w g n m k wr)(hk:k<n):rB w g n m (k+1) (((wr.setCell ⟨g,k*3,V⟩ (Z J m)).setCell ⟨g,k*3+1,V⟩ (Z J m)).setCell ⟨g,k*3+2,V⟩ (U V 0 0)):=by obtain⟨h0,cur,h1,h2,h3⟩:=h;have e1:=bI wr g (k*3) cur 49 (Z J m) h1;have e2:=bI _ g (k*3+1) _ 49 (Z J m) e1;have e3:=bI _ g (k*3+2) _ 49 (U V 0 0) e2;refine⟨((h0.trans (av.setCell _ _ _) (λx e _=>e)).trans (av.setCell _ _ _) (λx e _=>e)).trans (av.setCell _ _ _) (λx e _=>e),_,e3,by simp[h2],λi hi=>?_⟩;rw[pP,pP,pP];by_cases q2:k*3+2=i;rw[au q2,au (by simp;omega),show i%3=2 by omega];rfl;rw[ar q2];by_cases q1:k*3+1=i;rw[au q1,au (by simp;omega),show i%3=1 by omega];rfl;rw[ar q1];by_cases q0:k*3=i;rw[au q0,au (by omega),show i%3=0 by omega];rfl;rw[ar q0];exact h3 i (by omega)
theorem OJ{b m}:∀(n i:Nat),i<n*3->(ix (cat 3) (b,n,m))[i]?=E (DB m (i%3)):=by
 intro n
 induction n with
 |zero=>intro i hi;omega
 |succ n ih=>
  intro i hi;unfold ix at ih ⊢;rw[nC,oy];show([Value.int J m,Z J m,U V 0 0]++(List.replicate n ((cat 3).pat m)).flatten)[i]?=_;by_cases h:i<3;·rw[ey h];rcases(show i=0\/i=1\/i=2 by omega)with rfl|rfl|rfl<;>rfl
  rw[fo (by simp;omega)];show(List.replicate n ((cat 3).pat m)).flatten[i-3]?=_;have:=ih (i-3) (by omega);rw[show(i-3)%3=i%3 by omega]at this;exact this
theorem OK (b m n):(ix (cat 3) (b,n,m)).length=n*3:=by unfold ix;rw[List.length_flatten,List.map_replicate];show(List.replicate n 3).sum=n*3;rw[List.sum_replicate_nat]
theorem JF{w wr g n m}(h:rB w g n m n wr):wr.1[g]?=E (ah (ix (cat 3) (E g,n,m)).toArray 49 (0,0)):=by
 obtain⟨_,cur,h1,h2,h3⟩:=h;rw[h1];congr 2;apply uF;intro i;by_cases hi:i<n*3;·rw[h3 i hi,tu,OJ n i hi]
 rw[cT (by omega),cT (by rw[bR,OK];omega)]
def uX (w:ac)(pw:Nat)(F:Nat->ag)(nx:Int)(ls:Nat->List Ow)(v:ag)(vs:List ag)(n:Nat)(w':ac):Prop:=
 ∃F' ls',bH w' pw F' (nx+(n:Int)+1) ls'/\(mA (ls 1)->mA (ls' 1))/\(∀c,c≠1->c≠3->ls' c=ls c)/\(ls' 1).length=(ls 1).length+n/\(ls' 3).length=(ls 3).length+1/\(∀j,j<3->F' j=F j)/\
  av (λb=>b=pw\/iZ v vs b\/aU F ls b) w w'/\∀b,b<w.1.size->¬iZ v vs b->¬aU F ls b->¬aU F' ls' b
theorem DG{w w2 wr pw n F F1 Y nx ls O v vs o}(h:xN w pw F nx ls vs n wr F1 O)(hi:bH w2 pw Y (nx+(n:Int)+1) (bn O 3 (O 3++[o])))(h2:∀b,b<wr.1.size->o.1≠E b->¬aU F1 O b->¬aU Y (bn O 3 (O 3++[o])) b)(h3:∀j,j<3->Y j=F1 j)(h4:av (λb=>b=pw\/o.1=E b\/aU F1 O b) wr w2)(ho:∀b,o.1=E b->v.ownBlock=E b):uX w pw F nx ls v vs n w2:=by
 refine⟨Y,_,hi,λhk=>?_,λc c1 c3=>?_,?_,?_,λj hj=>(h3 j hj).trans (h.fs j hj),?_,λb hb hn aa=>?_⟩;unfold bn;rw[ar (by decide)];exact h.marks hk;unfold bn;rw[ar c3];exact h.other c c1;unfold bn;rw[ar (by decide)];exact h.len;unfold bn;rw[au rfl,cy,h.other 3 (by decide)];rfl
 ·refine(h.aV.mono (S':=λb=>b=pw\/iZ v vs b\/aU F ls b) (λb e _=>?_)).trans h4 (λb e hbl=>?_);·rcases e with e|e|e;exact ae e;exact Q (ae e.aS);exact Q (Q e)
  rcases e with e|e|e;exact ae e;exact Q (ae (ae (ho b e)));by_cases k1:lQ vs n b;exact Q (ae k1.aS);by_cases k2:aU F ls b;exact Q (Q k2);exact absurd e (h.aS b hbl k1 k2)
 exact h2 b (by have:=h.aV.size;omega) (λe=>hn (ae (ho b e))) (h.aS b hb (λe=>hn e.aS) aa)
theorem OT{pw F nx ls}(g){n}(cap){vs ps B w}(h:bH w pw F nx ls)(hn:ps.length=n)(hp:dt w B (U (E ⟨g,0,V⟩) n cap) vs ps)(hB:pw<B)(hf:∀x,iZ (U (E ⟨g,0,V⟩) n cap) vs x->¬aU F ls x)(h0:0<=nx)(h1:nx+(n:Int)<=1000000000000000000)(hlen:((ls 1).length+n)*24<=140737488355328)(aw:((ls 3).length+1)*24<=140737488355328):
  ay prog 118 #[aC (E ⟨pw,0,V⟩),U (E ⟨g,0,V⟩) n cap] w λe w'=>e=az (br #[])/\uX w pw F nx ls (U (E ⟨g,0,V⟩) n cap) vs n w':=by
 obtain⟨i0,hi,hz0,hz1,hz2⟩:=bO nU;obtain⟨i1,bb,bf,bg,bh⟩:=bO CL;have hrow:=hp.row;have ba:=(hrow.lt g rfl).2;have bm:=(hrow.lt g rfl).1;have aK:=I (hf g (ae rfl));have HST:=I (λ(m:Nat)(wr:ac)(y:ag)(hm:m<n)(hy:vs[m]?=E y)(hrel:od w pw F nx ls vs m wr)=>Pb hrel hp hB hf (by rw[hn];exact hm) hy h0 (by rw[hn];exact h1) (by rw[hn];exact hlen));have af:=I (λ(m:Nat)(wr:ac)(hrel:od w pw F nx ls vs m wr)=>Pa hrel hp hB hf);have aL:=I (λm (hm:m<n)=>(show∃y,vs[m]?=E y/\(bC ps vs)[m*3+2]?=E y from by
  have hv:m<vs.length:=by rw[hp.len,hn];exact hm
  exact⟨vs[m],aQ hv,(wu ps vs m (ps[m]'(by rw[hn];exact hm)) _ (aQ _) (aQ hv)).2.2⟩));have aO:=I (λm (y:ag)(hy:vs[m]?=E y)(hm:m<n)=>(show∃a k c,y=U a k c from by obtain⟨a,c,e⟩:=a_ (hp.each m y (ps[m]'(by rw[hn];exact hm)) hy (aQ _));exact⟨a,_,c,e⟩));have R0:=A (od w pw F nx ls vs 0 w) (Pc h);have aM:=I (show∀m,¬lQ vs m g from λm ⟨q,y,_,hy,e⟩=>by have hq:=(fC.1 hy).1;exact wq hp.row (hp.each q y (ps[q]'(by rw[<-hp.len];exact hq)) hy (aQ _)) (by decide) g rfl e);obtain⟨bk,hc1,hc2,hc3⟩:∃cur,w.1[g]?=E (ah cur 49 (0,0))/\n<=cap/\cap<=maxLen:=by rcases hrow.2 with⟨e,_⟩|⟨g',cap',cur,e,_,hb,bc,hcm,_⟩;cases e;injection e with e1 e2 e3;injection e1 with e1;injection e1 with e1;subst e1;subst e3;exact⟨cur,hb,by rw[<-hn];exact bc,hcm⟩
 unfold maxLen at hc3;rw[hn]at af;clear h hp hf hn hrow hc1;go_enter func118,ntmps118;go_wp2;go_loopw [4] (λi wr=>∃j:Nat,j<=n/\i=Z J (j:Int)/\od w pw F nx ls vs j wr) (λi _=>n-(aA i).toNat);case atStart=>exact⟨0,bi _,rfl,R0.o⟩
 clear R0;obtain⟨j,hj,rfl,hrel⟩:=hrel;have HR:=I hrel;have hsz:w.1.size<=wr.1.size:=by obtain⟨_,_,hh⟩:=hrel;exact hh.aV.size
 have hgr:g<wr.1.size:=by omega
 clear hrel;by_cases hlt:j<n
 ·obtain⟨y,hy,aG⟩:=aL.o j hlt;have c2:=(World.ownsRow.cellAt (af.o j wr HR.o) (j*3+2) (by omega)).trans aG;have HC:=I (HST.o j wr y hlt hy HR.o);obtain⟨ya,yk,yc,bj⟩:=aO.o j y hy hlt;subst bj;clear hy aG;go_wp2_with fail;refine aH HC.o λw1 hr1=>?_;have aP:=I hr1;clear hr1 c2;go_wp2;go_roundw;case rel=>exact⟨j+1,by omega,by go_num,aP.o⟩
  simp[aA];omega
 have ej:j=n:=by omega
 subst ej;have hrow:=af.o j wr HR.o;obtain⟨F1,O,hA⟩:=HR.o;have HA:=I hA;obtain⟨aq,am⟩:=aj (nx+(j:Int));have hinv:=hA.inv;rw[<-am]at hinv;have Y:=I hinv;have HF:=A (¬aU F1 O g) (hA.aS g ba (aM.o j) aK.o);have aN:=I am;have av:O 3=ls 3:=hA.other 3 (by decide);rw[<-av]at aw;have aY:0<=aq:=by omega
 have aZ:aq<=1000000000000000000:=by omega
 obtain⟨cur,au,hcs⟩:∃cur,wr.1[g]?=E (ah cur 49 (0,0))/\cur.size=cap*3:=by rcases hrow.2 with⟨e,_⟩|⟨g',cap',cur,e,_,hb,_,_,hs,_⟩;cases e;injection e with e1 e2 e3;injection e1 with e1;injection e1 with e1;subst e1;subst e3;exact⟨cur,hb,hs⟩
 have G0:=I au;have aJ:=I hcs;clear hA hinv am av hrow au hcs;obtain⟨w0,hw0⟩:=aj wr;rw[<-hw0]at Y HA G0 hgr ⊢;clear hw0 HR hsz;go_wp2_with fail;refine aH (nX Y.o aY aZ) λw1 ap=>?_;have g1:w1.1[g]?=E (ah cur 49 (0,0)):=by rw[ap,fI _ _ _ _ (by simp;omega)];exact G0.o
 have W1:=I ap;have G1:=I g1;clear ap g1;generalize hm:ek aq=m at*;clear hm;go_wp2;go_loopw [7] (λi wr=>∃k:Nat,k<=cap/\i=Z J (k:Int)/\rB w1 g cap m k wr) (λi _=>cap-(aA i).toNat);case atStart=>exact⟨0,by omega,rfl,JH G1.o aJ.o⟩
 obtain⟨k,hk,rfl,aa⟩:=hrel;have FI:=I aa;by_cases ax:k<cap
 ·obtain⟨⟨v0,c0⟩,⟨v1,c1⟩,⟨v2,c2⟩,cf,bn⟩:=JE aa k ax;have aI:=I (JG FI.o ax);clear aa;go_wp2;go_roundw;case rel=>exact⟨k+1,by omega,by go_num,aI.o⟩
  simp[aA];omega
 have aX:k=cap:=by omega
 subst aX;clear aa;have k2:=FI.o.1.mono (S':=λb=>((E g,k,m):Ow).1=E b) (λb e _=>by rw[e]);have K2:=I k2;obtain⟨a1,a2,a3,a4,a5⟩:=nh Y.o 3 (by omega) W1.o k2 (λx e=>by cases e;exact⟨HF.o,by omega⟩);obtain⟨c3,aR⟩:=dg a1 6 (by omega);rw[dM (by omega)]at c3;have A1:=I a1;have A2:=I a2;have A3:=I a3;clear a1 a2 a3 a5 k2;go_wp2_with(at_builtin;refine dQ rfl 85 rfl (pw+1) 41 i1 (U V 0 0) 24 underlying85 bb bf bg bh rfl (F1 6) (O 3).length ((O 3).map iQ) rfl (A2.o.alloc _) ⟨wr.1.size,0,V⟩ 1 (U (E ⟨g,0,V⟩) k k) rfl (by simp[go_sem]) rfl (by unfold maxLen;omega) aw (by simp;omega) ?_);intro g3 ai w3 aB hg3 hv3;obtain⟨p1,p2,p3,p4⟩:=ni Y.o 3 (by omega) A1.o A3.o A2.o hg3;obtain⟨c9,aT⟩:=dg p1 12 (by omega);rw[dM (by omega)]at c9;obtain⟨d3,aW⟩:=dg p1 6 (by omega);rw[dM (by omega)]at d3;have O3:=I aB;have K3:=I hg3;have V3:=I (iR (n:=(O 3).length+1) (c:=ai) hv3);have P1:=I p1;have P2:=I p2;clear aB hg3 hv3 p1 p2 p4 c3 aR;go_wp2_with(at_builtin;(refine dQ rfl 33 rfl (pw+1) 3 i0 (Z J 0) 8 gW hi hz0 hz1 hz2 rfl (F1 12) (O 3).length ((O 3).map λo=>Value.int J o.2.2) rfl ((pQ P2.o (by simp) _).alloc _) ⟨w3.1.size,0,V⟩ 1 (Z J m) rfl (by simp[go_sem]) rfl (by unfold maxLen;omega) (by omega) (by simp[World.setCell];omega) ?_));intro g5 ar w5 aD ak aF;obtain⟨q1,q2,q3⟩:=nj Y.o 3 P1.o P2.o (U (E ⟨g3,0,V⟩) ((O 3).length+1) ai) ak;obtain⟨f9,bl⟩:=dg q1 12 (by omega);have O5:=I aD;have K5:=I ak;have V5:=I (iR (n:=(O 3).length+1) (c:=ar) aF);clear aD ak aF q1 q3 d3 aW c9 aT;go_wp2;go_end0;have R:=oc Y.o 3 (by omega) (o:=(E g,k,m)) (U (E ⟨g3,0,V⟩) ((O 3).length+1) ai) (U (E ⟨g5,0,V⟩) ((O 3).length+1) ar) W1.o K2.o K3.o O3.o (λb hb=>by simpa[cat]using V3.o b hb) K5.o O5.o (λb hb=>by simpa[World.setCell,cat]using V5.o b hb) (λx e=>by cases e;exact⟨HF.o,by omega,hgr,JF FI.o⟩) (λe=>by cases e) (by first|exact bi _|(show k<=maxLen;unfold maxLen;omega));refine⟨rfl,?_⟩;refine DG HA.o (by rw[<-aN.o];exact R.1) R.2.1 R.2.2.1 R.2.2.2 (λb e=>?_);cases e;rfl
theorem OS{pw F nx ls w}(h:bH w pw F nx ls)(h0:0<=nx)(h1:nx<=1000000000000000000)(ar:((ls 3).length+1)*24<=140737488355328):
  ay prog 118 #[aC (E ⟨pw,0,V⟩),U V 0 0] w λe w'=>e=az (br #[])/\uX w pw F nx ls (U V 0 0) [] 0 w':=by
 obtain⟨i0,hi,hz0,hz1,hz2⟩:=bO nU;obtain⟨i1,aq,au,aw,ax⟩:=bO CL;have hpl:=h.fe;have O:=I h;have HA:=A (xN w pw F nx ls [] 0 w F ls) ⟨by simpa using h,id,λ_ _=>rfl,by omega,λ_ _=>rfl,av.refl _ _,λ_ _ _ h=>h⟩;clear h;go_enter func118,ntmps118;go_wp2;go_loop [4] (λi=>i=Z J 0) (λ_=>0);case atStart=>rfl
 case round=>
 subst hrel;go_wp2_with fail;refine aH (nX O.o h0 h1) λwr aj=>?_;have W1:=I aj;clear aj;generalize hm:ek nx=m at*;clear hm;have k2:av (λb=>((V,0,m):Ow).1=E b) wr wr:=av.refl _ _;have K2:=I k2;obtain⟨a1,a2,a3,a4,a5⟩:=nh O.o 3 (by omega) W1.o k2 (λx e=>by cases e);obtain⟨c3,ak⟩:=dg a1 6 (by omega);rw[dM (by omega)]at c3;have A1:=I a1;have A2:=I a2;have A3:=I a3;clear a1 a2 a3 a5 k2;go_wp2;go_loop [7] (λi=>i=Z J 0) (λ_=>0);case atStart=>rfl
 subst hrel;go_wp2_with(at_builtin;refine dQ rfl 85 rfl (pw+1) 41 i1 (U V 0 0) 24 underlying85 aq au aw ax rfl (F 6) (ls 3).length ((ls 3).map iQ) rfl (A2.o.alloc _) ⟨wr.1.size,0,V⟩ 1 (U V 0 0) rfl (by simp[go_sem]) rfl (by unfold maxLen;omega) ar (by simp;omega) ?_);intro g3 Y w3 af hg3 hv3;obtain⟨p1,p2,p3,p4⟩:=ni O.o 3 (by omega) A1.o A3.o A2.o hg3;obtain⟨c9,am⟩:=dg p1 12 (by omega);rw[dM (by omega)]at c9;obtain⟨d3,ap⟩:=dg p1 6 (by omega);rw[dM (by omega)]at d3;have O3:=I af;have K3:=I hg3;have V3:=I (iR (n:=(ls 3).length+1) (c:=Y) hv3);have P1:=I p1;have P2:=I p2;clear af hg3 hv3 p1 p2 p4 c3 ak;go_wp2_with(at_builtin;(refine dQ rfl 33 rfl (pw+1) 3 i0 (Z J 0) 8 gW hi hz0 hz1 hz2 rfl (F 12) (ls 3).length ((ls 3).map λo=>Value.int J o.2.2) rfl ((pQ P2.o (by simp) _).alloc _) ⟨w3.1.size,0,V⟩ 1 (Z J m) rfl (by simp[go_sem]) rfl (by unfold maxLen;omega) (by omega) (by simp[World.setCell];omega) ?_));intro g5 ae w5 ah aa ai;obtain⟨q1,q2,q3⟩:=nj O.o 3 P1.o P2.o (U (E ⟨g3,0,V⟩) ((ls 3).length+1) Y) aa;obtain⟨f9,aA⟩:=dg q1 12 (by omega);have O5:=I ah;have K5:=I aa;have V5:=I (iR (n:=(ls 3).length+1) (c:=ae) ai);clear ah aa ai q1 q3 d3 ap c9 am;go_wp2;go_end0;have R:=oc O.o 3 (by omega) (o:=(V,0,m)) (U (E ⟨g3,0,V⟩) ((ls 3).length+1) Y) (U (E ⟨g5,0,V⟩) ((ls 3).length+1) ae) W1.o K2.o K3.o O3.o (λb hb=>by simpa[cat]using V3.o b hb) K5.o O5.o (λb hb=>by simpa[World.setCell,cat]using V5.o b hb) (λx e=>by cases e) (λ_=>rfl) (bi _);refine⟨rfl,?_⟩;refine DG HA.o (by rw[show nx+((0:Nat):Int)+1=nx+1 by omega];exact R.1) R.2.1 R.2.2.1 R.2.2.2 (λb e=>?_);cases e
theorem OY{pw F nx ls v vs ps B w}(h:bH w pw F nx ls)(hp:dt w B v vs ps)(hB:pw<B)(hf:∀x,iZ v vs x->¬aU F ls x)(h0:0<=nx)(h1:nx+(ps.length:Int)<=1000000000000000000)(hlen:((ls 1).length+ps.length)*24<=140737488355328)(O:((ls 3).length+1)*24<=140737488355328):
  ay prog 118 #[aC (E ⟨pw,0,V⟩),v] w λe w'=>e=az (br #[])/\uX w pw F nx ls v vs ps.length w':=by rcases hp.row.2 with⟨rfl,hn⟩|⟨g,cap,cur,rfl,_⟩;have e1:ps=[]:=ku hn;have e2:vs=[]:=ku (by rw[hp.len,hn]);subst e1;subst e2;exact OS h h0 (by simpa using h1) O;exact OT g cap h rfl hp hB hf h0 h1 hlen O
theorem DA{pw F nx ls v n}(B){xs w}(h:bH w pw F nx ls)(h0:0<=nx)(h1:nx<=1000000000000000000)(hlen:((ls 0).length+1)*24<=140737488355328)(hown:w.ownsRow B 3 1 v n xs)(hB:pw<B)(O:∀b,v.ownBlock=E b->¬aU F ls b):
  ay prog 88 #[aC (E ⟨pw,0,V⟩),v] w λe w'=>e=az (br #[])/\∃F' o,bH w' pw F' (nx+1) (bn ls 0 (ls 0++[o]))/\
   (∀b,b<w.1.size->v.ownBlock≠E b->¬aU F ls b->¬aU F' (bn ls 0 (ls 0++[o])) b)/\(∀j,j<3->F' j=F j)/\
   av (λb=>b=pw\/v.ownBlock=E b\/aU F ls b) w w':=by
 rcases hown.2 with⟨rfl,rfl⟩|⟨g,cap,cur,rfl,hg,hblk,Y,hcm,hcs,_⟩;·refine(OQ h h0 h1 hlen).mono ?_;rintro e w' ⟨rfl,F',i1,i2,i3,i4⟩;exact⟨rfl,F',_,i1,λb hb _ hf=>i2 b hb hf,i3,i4.mono (λb e _=>by rcases e with e|e;exact ae e;exact Q (Q e))⟩
 refine(Dz g n cap cur h h0 h1 hlen hblk (by omega) Y hcm (by omega) (O g rfl)).mono ?_;rintro e w' ⟨rfl,F',i1,i2,i3,i4⟩;refine⟨rfl,F',_,i1,λb hb hne hf=>i2 b hb (λe=>hne (by rw[e];rfl)) hf,i3,i4.mono (λb e _=>?_)⟩;rcases e with e|e|e;exact ae e;exact Q (ae (by rw[e];rfl));exact Q (Q e)
theorem dt.view{w B v vs ps}(h:dt w B v vs ps):∃a c,v=U a ps.length c/\ps.length<=c/\c<=9223372036854775807/\∀j p,ps[j]?=E p->∃g y,a=E ⟨g,0,V⟩/\g<w.1.size/\vs[j]?=E y/\w.cell? ⟨g,j*3,V⟩=E (Z J p.1)/\w.cell? ⟨g,j*3+1,V⟩=E (Z J p.2.1)/\w.cell? ⟨g,j*3+2,V⟩=E y/\w.ownsRow B 5 1 y p.2.2.length (lV p.2.2):=by
 have h0:=h.row;rcases h0.2 with⟨rfl,hn⟩|⟨g,cap,cur,rfl,_,hb,Y,hcm,_⟩;refine⟨V,0,by rw[hn],by omega,by omega,λj p hp=>?_⟩;have:=(fC.1 hp).1;omega;refine⟨_,cap,rfl,Y,by unfold maxLen at hcm;omega,λj p hp=>?_⟩;have hj:=(fC.1 hp).1;have O:j<vs.length:=by rw[h.len];exact hj
 obtain⟨q0,q1,q2⟩:=wu ps vs j p _ hp (aQ O);exact⟨g,vs[j],rfl,(h0.lt g rfl).2,aQ O,(h0.cellAt (j*3) (by omega)).trans q0,(h0.cellAt (j*3+1) (by omega)).trans q1,(h0.cellAt (j*3+2) (by omega)).trans q2,h.each j _ p (aQ O) hp⟩
theorem nb{w v zs}(h:aY w v zs):∃a c,v=U a zs.length c:=by obtain⟨a,c,e,_⟩:=h;exact⟨a,c,e⟩
theorem RE (st ro){va vb ua ub zs us w}(h1:aY w va zs)(h2:aY w vb us)(h3:aY w ua zs)(h4:aY w ub us):
  ay prog 122 #[.agg #[Z J st,Z J ro,va,vb],.agg #[Z J st,Z J ro,ua,ub]] w λe w'=>e=az (.bool true)/\af w.1.size w w':=by
 have H1:=bj w λW hb=>Ez (h1.below hb) (h3.below hb);have H2:=bj w λW hb=>Ez (h2.below hb) (h4.below hb);obtain⟨a1,c1,rfl⟩:=nb h1;obtain⟨a2,c2,rfl⟩:=nb h2;obtain⟨a3,c3,rfl⟩:=nb h3;obtain⟨a4,c4,rfl⟩:=nb h4;clear h1 h2 h3 h4;generalize zs.length=Y at*;generalize us.length=O at*;obtain⟨W0,hW0⟩:=aj ((w.alloc (ah #[Z J st,Z J ro,U a1 Y c1,U a2 O c2] 35)).alloc (ah #[Z J st,Z J ro,U a3 Y c3,U a4 O c4] 35));have B0:=A (af w.1.size w W0) (by rw[hW0];exact((ax _ _).alloc (aw _) _).alloc (by simp) _);have z0:W0.1.size=w.1.size+2:=by rw[hW0];simp
 have X:=I (λ(W:ac)(hb:af W0.1.size W0 W)=>(show(W.cell? ⟨w.1.size,0,V⟩=E (Z J st)/\W.cell? ⟨w.1.size,1,V⟩=E (Z J ro)/\W.cell? ⟨w.1.size,2,V⟩=E (U a1 Y c1)/\W.cell? ⟨w.1.size,3,V⟩=E (U a2 O c2))/\(W.cell? ⟨w.1.size+1,0,V⟩=E (Z J st)/\W.cell? ⟨w.1.size+1,1,V⟩=E (Z J ro)/\W.cell? ⟨w.1.size+1,2,V⟩=E (U a3 Y c3)/\W.cell? ⟨w.1.size+1,3,V⟩=E (U a4 O c4))from by have k1:∀o,W.cell? ⟨w.1.size,o,V⟩=W0.cell? ⟨w.1.size,o,V⟩:=λo=>hb.cell (p:=⟨w.1.size,o,V⟩) (by show w.1.size<_;omega);have k2:∀o,W.cell? ⟨w.1.size+1,o,V⟩=W0.cell? ⟨w.1.size+1,o,V⟩:=λo=>hb.cell (p:=⟨w.1.size+1,o,V⟩) (by show w.1.size+1<_;omega);simp only[k1,k2];rw[hW0];refine⟨⟨?_,?_,?_,?_⟩,?_,?_,?_,?_⟩<;>simp));have ai:=I hW0;clear hW0;obtain⟨⟨x0,x1,x2,x3⟩,y0,y1,y2,y3⟩:=X.o W0 (ax _ _);go_enter func122,ntmps122;go_upto_region 1 with fail;rw[<-ai.o];go_wp2_with fail;refine(H1.o W0 B0.o).mono ?_;rintro e w1 ⟨rfl,n1,aa⟩;have hb1:af W0.1.size W0 w1:=by rw[aa];exact below_drewN W0 n1
 have B1:=I (B0.o.trans (hb1.mono B0.o.size));have s1:=hb1.size;clear x0 x1 x2 x3 y0 y1 y2 y3;obtain⟨⟨x0,x1,x2,x3⟩,y0,y1,y2,y3⟩:=X.o w1 hb1;have ae:=I hb1;clear hb1 aa;go_wp2_with fail;refine(H2.o w1 B1.o).mono ?_;rintro e w2 ⟨rfl,n2,hw2⟩;have hb2:af w1.1.size w1 w2:=by rw[hw2];exact below_drewN w1 n2
 have B2:=I (B1.o.trans (hb2.mono B1.o.size));clear x0 x1 x2 x3 y0 y1 y2 y3;obtain⟨⟨x0,x1,x2,x3⟩,y0,y1,y2,y3⟩:=X.o w2 (ae.o.trans (hb2.mono s1));clear hb2 hw2;go_wp2;go_ret;exact⟨rfl,B2.o⟩
structure AZ (w:ac)(pw:Nat)(F:Nat->ag)(nx:Int)(ls:Nat->List Ow)(va vb:ag)(w':ac)(F':Nat->ag)(ls':Nat->List Ow):Prop where
 inv:bH w' pw F' (nx+2) ls'
 other:∀c,c≠0->ls' c=ls c
 len:(ls' 0).length=(ls 0).length+2
 fs:∀j,j<3->F' j=F j
 aV:av (λb=>b=pw\/va.ownBlock=E b\/vb.ownBlock=E b\/aU F ls b) w w'
 aS:∀b,b<w.1.size->va.ownBlock≠E b->vb.ownBlock≠E b->¬aU F ls b->¬aU F' ls' b
theorem Tx{w W w1 w2 pw F F1 O nx ls va vb o1 o2}(hb:af w.1.size w W)(Y:∀b,b<W.1.size->va.ownBlock≠E b->¬aU F ls b->¬aU F1 (bn ls 0 (ls 0++[o1])) b)(j3:∀j,j<3->F1 j=F j)(j4:av (λb=>b=pw\/va.ownBlock=E b\/aU F ls b) W w1)(q1:bH w2 pw O (nx+1+1) (bn (bn ls 0 (ls 0++[o1])) 0 ((bn ls 0 (ls 0++[o1])) 0++[o2])))(q2:∀b,b<w1.1.size->vb.ownBlock≠E b->¬aU F1 (bn ls 0 (ls 0++[o1])) b->¬aU O (bn (bn ls 0 (ls 0++[o1])) 0 ((bn ls 0 (ls 0++[o1])) 0++[o2])) b)(q3:∀j,j<3->O j=F1 j)(q4:av (λb=>b=pw\/vb.ownBlock=E b\/aU F1 (bn ls 0 (ls 0++[o1])) b) w1 w2):
  ∃F' ls',AZ w pw F nx ls va vb w2 F' ls':=by
 have zb:=hb.size;have z4:=j4.size;refine⟨O,_,⟨by rw[show nx+2=nx+1+1 by omega];exact q1,λc hc=>?_,?_,λj hj=>(q3 j hj).trans (j3 j hj),?_,λb hbl ha hv hf=>q2 b (by omega) hv (Y b (by omega) ha hf)⟩⟩;·unfold bn;rw[ar hc,ar hc]
 unfold bn;simp;refine((av.bz (S:=λb=>b=pw\/va.ownBlock=E b\/vb.ownBlock=E b\/aU F ls b) hb).trans j4 (λb e hbl=>?_)).trans q4 (λb e hbl=>?_);·rcases e with e|e|e;exact ae e;exact Q (ae e);exact Q (Q (Q e))
 rcases e with e|e|e;exact ae e;exact Q (Q (ae e));by_cases h1:va.ownBlock=E b;exact Q (ae h1);by_cases h2:aU F ls b;exact Q (Q (Q h2));exact absurd e (Y b (by omega) h1 h2)
theorem Tz{pw F nx ls}(st ro va vb){ua ub zs us}(B){w}(h:bH w pw F nx ls)(h0:0<=nx)(h1:nx+1<=1000000000000000000)(hlen:((ls 0).length+2)*24<=140737488355328)(oa:w.ownsRow B 3 1 va zs.length (zs.map (Value.int J)))(ob:w.ownsRow B 3 1 vb us.length (us.map (Value.int J)))(hd:∀x,va.ownBlock=E x->vb.ownBlock≠E x)(hB:pw<B)(hf:∀x,va.ownBlock=E x\/vb.ownBlock=E x->¬aU F ls x)(hz:∀z∈zs,bq z)(hu:∀z∈us,bq z)(h3:aY w ua zs)(h4:aY w ub us):
  ay prog 58 #[aC (E ⟨pw,0,V⟩),.agg #[Z J st,Z J ro,va,vb],.agg #[Z J st,Z J ro,ua,ub]] w λe w'=>e=az (.bool true)/\∃F' ls',AZ w pw F nx ls va vb w' F' ls':=by
 have hpl:=h.fe;have aa:=bj w λW hb=>RE st ro ((na oa hz).below hb) ((na ob hu).below hb) (h3.below hb) (h4.below hb);have ak:=bj w λW hb=>bf (S:=λ_=>False) oa (av.bz hb) (λ_ _ h=>h);have am:=bj w λW hb=>bf (S:=λ_=>False) ob (av.bz hb) (λ_ _ h=>h);have HD:=I hd;have O:=I hf;have HI:=I h;have LA:=I (λx (hx:va.ownBlock=E x)=>(oa.lt x hx).2);have LB:=I (λx (hx:vb.ownBlock=E x)=>(ob.lt x hx));obtain⟨a1,c1,e1⟩:=a_ oa;obtain⟨a2,c2,e2⟩:=a_ ob;obtain⟨a3,c3,e3⟩:=nb h3;obtain⟨a4,c4,e4⟩:=nb h4;subst e1;subst e2;subst e3;subst e4;clear h oa ob hd hf hz hu h3 h4;obtain⟨nz,hnz⟩:=aj zs.length;obtain⟨Y,aq⟩:=aj us.length;rw[<-hnz]at aa ak HD O LA ⊢;rw[<-aq]at aa am HD O LB ⊢;clear hnz aq;obtain⟨W0,hW0⟩:=aj ((w.alloc (ah #[Z J st,Z J ro,U a1 nz c1,U a2 Y c2] 35)).alloc (ah #[Z J st,Z J ro,U a3 nz c3,U a4 Y c4] 35));have B0:=A (af w.1.size w W0) (by rw[hW0];exact((ax _ _).alloc (aw _) _).alloc (by simp) _);have z0:W0.1.size=w.1.size+2:=by rw[hW0];simp
 have X:=I (show(W0.cell? ⟨w.1.size,0,V⟩=E (Z J st)/\W0.cell? ⟨w.1.size,1,V⟩=E (Z J ro)/\W0.cell? ⟨w.1.size,2,V⟩=E (U a1 nz c1)/\W0.cell? ⟨w.1.size,3,V⟩=E (U a2 Y c2))/\(W0.cell? ⟨w.1.size+1,0,V⟩=E (Z J st)/\W0.cell? ⟨w.1.size+1,1,V⟩=E (Z J ro)/\W0.cell? ⟨w.1.size+1,2,V⟩=E (U a3 nz c3)/\W0.cell? ⟨w.1.size+1,3,V⟩=E (U a4 Y c4))from by rw[hW0];refine⟨⟨?_,?_,?_,?_⟩,?_,?_,?_,?_⟩<;>simp);have au:=I hW0;clear hW0;obtain⟨⟨x0,x1,x2,x3⟩,y0,y1,y2,y3⟩:=X.o;have SO:=I (aa.o W0 B0.o);go_enter func58,ntmps58;go_upto_region 1 with fail;rw[<-au.o];go_wp2_with fail;refine aH SO.o λw1 hb1=>?_;have s1:=hb1.size;have B1:=I (B0.o.trans (hb1.mono B0.o.size));have k2:=(hb1.cell (p:=⟨w.1.size,2,V⟩) (by show w.1.size<_;omega)).trans x2;have k3:=(hb1.cell (p:=⟨w.1.size,3,V⟩) (by show w.1.size<_;omega)).trans x3;have K3:=I k3;clear hb1 x0 x1 x2 x3 y0 y1 y2 y3 SO k3;have aF:w.1.size<w1.1.size:=by omega
 have I1:=I (HI.o.below B1.o);have aA:=I (ak.o w1 B1.o);have aB:=I (am.o w1 B1.o);have OC:=I (DA B I1.o h0 (by omega) (by omega) aA.o hB (λx hx=>O.o x (ae hx)));go_wp2_with fail;refine OC.o.mono ?_;rintro e w2 ⟨rfl,F1,o1,i1,i2,i3,i4⟩;have k3:w2.cell? ⟨w.1.size,3,V⟩=E (U a2 Y c2):=(ez (w:=w1) (a:=⟨w.1.size,3,V⟩) (i4.block w.1.size aF (λe=>by rcases e with e|e|e;omega;have:=LA.o _ e;omega;have:=(HI.o.gO e).2;omega))).trans K3.o;have aD:=I (bf aB.o i4 (λx hx e=>by rcases e with e|e|e;have:=(LB.o x hx).1;omega;exact HD.o x e hx;exact O.o x (Q hx) e));have ap:=I (DA B i1 (by omega) (by omega) (by simp[bn];omega) aD.o hB (λx hx=>i2 x (by have:=(LB.o x hx).2;omega) (λe=>HD.o x e hx) (O.o x (Q hx))));have ai:=I (And.intro i2 (And.intro i3 i4));clear k2 i1 i2 i3 i4 OC;go_wp2_with fail;refine ap.o.mono ?_;rintro e w3 ⟨rfl,F2,o2,q1,q2,q3,q4⟩;have ar:=I (Tx B1.o ai.o.1 ai.o.2.1 ai.o.2.2 q1 q2 q3 q4);clear k3 q1 q2 q3 q4 ap;go_wp2;go_ret;exact⟨rfl,ar.o⟩
end
section
open Go.RowKit
def AI (w:ac)(pw m:Nat)(len:Nat->Nat)(T:Nat->List Th):Prop:=
 ∃F nx ls,bH w pw F nx ls/\fU w pw F ls T/\mA (ls 1)/\0<=nx/\nx<=(m:Int)/\∀c,(ls c).length<=len c
def kr (len:Nat->Nat)(c n:Nat):Nat->Nat:=λd=>if d=c then len c+n else len d
section
variable {w w':ac}{pw m:Nat}{len:Nat->Nat}{T:Nat->List Th}
theorem AI.fe (h:AI w pw m len T):pw<w.1.size:=by obtain⟨_,_,_,h1,_⟩:=h;exact h1.fe
theorem AI.below (h:AI w pw m len T)(hb:af w.1.size w w'):AI w' pw m len T:=by obtain⟨F,nx,ls,h1,h2,h3⟩:=h;exact⟨F,nx,ls,h1.below hb,h2.below h1 hb,h3⟩
theorem AI.mono{m' len'}(h:AI w pw m len T)(hm:m<=m')(hl:∀c,len c<=len' c):AI w pw m' len' T:=by obtain⟨F,nx,ls,h1,h2,h3,h4,h5,h6⟩:=h;exact⟨F,nx,ls,h1,h2,h3,h4,by omega,λc=>fJ (h6 c) (hl c)⟩
theorem AI.ny (h:AI w pw m len T){j i:Nat}(hj:j<3){t}(ht:(T j)[i]?=E t):t.at_ w:=by obtain⟨F,nx,ls,h1,h2,_⟩:=h;exact(h2.ok j hj t (cU ht)).2
theorem AI.list (h:AI w pw m len T){j}(hj:j<3):∃a cap,w.cell? ⟨pw,j,V⟩=E (U a (T j).length cap)/\w.frozen? ⟨pw,j,V⟩=false/\(T j).length<=cap/\cap<=9223372036854775807/\
  ∀i t,(T j)[i]?=E t->∃g,a=E ⟨g,0,V⟩/\g<w.1.size/\w.cell? ⟨g,i,V⟩=E (aC (E ⟨t.pc,0,V⟩)):=by obtain⟨F,nx,ls,h1,h2,_⟩:=h;obtain⟨a,cap,k1,k2,_,k3,k4,k5⟩:=h2.list h1 hj;exact⟨a,cap,k1,k2,k3,k4,k5⟩
end
theorem AI.zm{w w'}{pw m m':Nat}{len len':Nat->Nat}{T F F' nx O ls ls'}(h1:bH w pw F nx ls)(h2:fU w pw F ls T)(q:QS pw w F ls w' F' ls')(Y:bH w' pw F' O ls')(hm:mA (ls' 1))(hn:0<=O/\O<=(m':Int))(hl:∀c,(ls' c).length<=len' c):AI w' pw m' len' T/\af pw w w':=
 ⟨⟨F',O,ls',Y,h2.quiet h1 q,hm,hn.1,hn.2,hl⟩,q.Bt h1⟩
theorem Fs{W1 w5 w6 O pw j i T F F' nx ls ls' t t'}{N:Nat->Prop}(i1:bH W1 pw F nx ls)(i2:fU W1 pw F ls T)(hj:j<3)(ht:(T j)[i]?=E t)(am:t'.pc=t.pc)(aa:tD pw t')(ah:t'.at_ w5)(ai:av (λx=>t.aS x) W1 w5)(aj:∀x,t'.aS x->t.aS x\/W1.1.size<=x)(hN:∀b,N b->W1.1.size<=b/\¬t'.aS b)(Y:af w5.1.size w5 w6)(j3:∀j,j<3->F' j=F j)(j4:av (λb=>b=pw\/N b\/aU F ls b) w6 O)(j2:∀b,b<w6.1.size->¬N b->¬aU F ls b->¬aU F' ls' b):
  fU O pw F' ls' (nu T j i t')/\af pw W1 O:=by
 have z5:=ai.size;have z6:=Y.size;have z8:=j4.size;have aq:=i1.fe;obtain⟨tg,t1,t2,t3⟩:=i2.tag;obtain⟨ap,ak⟩:=i2.ok j hj t (cU ht);have nf:∀x,t'.aS x->x<w5.1.size/\pw<x/\¬N x/\¬aU F ls x:=λx hx=>by refine⟨aa.lt w5 x ah hx,aa.lo w5 x ah hx,λe=>(hN x e).2 hx,λe=>?_⟩;have hl:=i1.gO e;rcases aj x hx with h1|h1;have a:=t1 j i t x hj ht h1;have b:=t3 x e;omega;omega
 have hall:av (λx=>t.aS x\/x=pw\/aU F ls x) W1 O:=by refine((ai.mono (S':=λx=>t.aS x\/x=pw\/aU F ls x) (λx e _=>ae e)).grow Y).trans j4 (λb e hb=>?_);rcases e with e|e|e;exact Q (ae e);have:=(hN b e).1;omega;exact Q (Q e)
 refine⟨i2.Ul i1 hj ht am hall j3 (λb hb hf=>j2 b (by omega) (λe=>by have:=(hN b e).1;omega) hf) aa ?_ aj (λx hx=>?_),hall.below (by omega) (λb e=>?_)⟩
 ·refine aa.keep w5 O ah (by omega) (λx hx=>?_) (λx hx=>?_);·obtain⟨a1,a2,a3,a4⟩:=nf x hx;rw[j4.block x (by omega) (λe=>?_),Y.block x a1];rcases e with e|e|e;omega;exact a3 e;exact a4 e
  rw[j4.block x (by omega) (λe=>?_),Y.block x (by omega)];rcases e with e|e|e;omega;have:=(hN x e).1;omega;have:=i1.gO e;omega
 obtain⟨a1,a2,a3,a4⟩:=nf x hx;exact j2 x (by omega) a3 a4;rcases e with e|e|e;have:=ap.lo W1 b ak e;omega;omega;have:=i1.gO e;omega
structure NP where
 pc:Nat
 bx:Nat
 yb:Nat
 n:Nat
 C:Cf
 cl:Nat->Cl
 s:Sn
 M:SM
 R:RM
def iH (p:NP)(x:Nat):Prop:=x=p.pc\/dx p.bx p.n p.M x\/cC p.yb p.n p.R x
structure dS (w:ac)(pw:Nat)(p:NP):Prop where
 row:w.1[p.pc]?=E (ah #[aC (E ⟨p.bx,0,V⟩),aC (E ⟨p.yb,0,V⟩)] 190 (0,0))
 bP:bM w p.bx p.n p.C p.cl p.s p.M
 ref:bT w pw p.yb p.n p.C p.cl p.s p.R
 cast:mV p.C p.cl p.n
 ok:bU p.C p.cl p.n p.s
 ft:eA p.n p.s
 o:gH p.C p.s.q.o
 lo:∀x,iH p x->pw<x
 tE:∀x,dx p.bx p.n p.M x->¬cC p.yb p.n p.R x
 qh:¬dx p.bx p.n p.M p.pc/\¬cC p.yb p.n p.R p.pc
section
variable {w w':ac}{pw:Nat}{p:NP}
theorem dS.lt (h:dS w pw p){x}(hx:iH p x):x<w.1.size:=by
 rcases hx with hx|hx|hx;·have:=h.row;subst hx;by_cases hb:p.pc<w.1.size;exact hb;rw[cT (by omega)]at this;cases this
 exact h.bP.low hx;exact(h.ref.low x hx).2
theorem dS.keep (h:dS w pw p)(hs:w.1.size<=w'.1.size)(hb:∀x,iH p x->w'.1[x]?=w.1[x]?)(hp:∀x,x<pw->w'.1[x]?=w.1[x]?):dS w' pw p:=
 {h with
  row:=(hb p.pc (ae rfl)).trans h.row
  bP:=h.bP.keep hs (λx hx=>hb x (Q (ae hx)))
  ref:=h.ref.keep hs (λx hx=>hb x (Q (Q hx))) hp}
theorem dS.below (h:dS w pw p)(hb:af w.1.size w w'):dS w' pw p:=h.keep hb.size (λx hx=>hb.block x (h.lt hx)) (λx hx=>hb.block x (by have:=h.lt (x:=p.pc) (ae rfl);have:=h.lo p.pc (ae rfl);omega))
theorem dS.cells (h:dS w pw p):w.cell? ⟨p.pc,0,V⟩=E (aC (E ⟨p.bx,0,V⟩))/\w.cell? ⟨p.pc,1,V⟩=E (aC (E ⟨p.yb,0,V⟩)):=
 ⟨(bg w p.pc 0 _ _ (0,0) h.row).trans rfl,(bg w p.pc 1 _ _ (0,0) h.row).trans rfl⟩
end
def eb (pw:Nat)(p:NP):Th:=⟨p.pc,iH p,λw=>dS w pw p⟩
theorem zb (pw p):tD pw (eb pw p) where
 lt:=λw x h hx=>dS.lt h hx
 lo:=λw x h hx=>dS.lo h x hx
 keep:=λw w' h hs hb hp=>dS.keep h hs hb hp
theorem za{W1 w2 w3 w4 w5 pw p s' M' R'}(hp:dS W1 pw p)(hb2:af W1.1.size W1 w2)(ht:cL w2 w3 p.bx p.n p.C p.cl s' p.M M')(hb4:af w3.1.size w3 w4)(hr:df w4 w5 pw p.yb p.n p.C p.cl s' p.R R')(ah:bU p.C p.cl p.n s')(ag:eA p.n s')(ai:gH p.C s'.q.o):
  dS w5 pw ⟨p.pc,p.bx,p.yb,p.n,p.C,p.cl,s',M',R'⟩/\av (λx=>iH p x) W1 w5/\
   (∀x,iH ⟨p.pc,p.bx,p.yb,p.n,p.C,p.cl,s',M',R'⟩ x->iH p x\/(dx p.bx p.n M' x/\w2.1.size<=x/\x<w3.1.size)\/(cC p.yb p.n R' x/\w4.1.size<=x)):=by
 have z2:=hb2.size;have z3:=ht.aV.size;have z4:=hb4.size;have z5:=hr.aV.size;have Y:iH p p.pc:=ae rfl;have aj:=hp.lt Y;have aa:av (λx=>iH p x) W1 w5:=(((av.bz (S:=λx=>iH p x) hb2).trans ht.aV (λx e _=>Q (ae (ae e)))).grow hb4).trans hr.aV (λx e _=>Q (Q (ae e)));have oV:∀x,dx p.bx p.n M' x->dx p.bx p.n p.M x\/(w2.1.size<=x/\x<w3.1.size):=λx hx=>by rcases ht.aS x hx with h1|h1;exact ae h1;exact Q ⟨h1,ht.bP.low hx⟩
 have O:∀x,cC p.yb p.n R' x->cC p.yb p.n p.R x\/w4.1.size<=x:=hr.aS;have lc:∀x,dx p.bx p.n p.M x->x<W1.1.size:=λx hx=>hp.lt (Q (ae hx));have lr:∀x,cC p.yb p.n p.R x->x<W1.1.size:=λx hx=>hp.lt (Q (Q hx));have hpl:=hp.lo p.pc Y;refine⟨⟨?_,?_,hr.bP,hp.cast,ah,ag,ai,λx hx=>?_,λx hx hy=>?_,λhx=>?_,λhx=>?_⟩,aa,λx hx=>?_⟩;show w5.1[p.pc]?=_;rw[hr.aV.block p.pc (by omega) (λe=>hp.qh.2 (ae e)),hb4.block p.pc (by omega),ht.aV.block p.pc (by omega) (λe=>hp.qh.1 (ae e)),hb2.block p.pc aj];exact hp.row;·show bM w5 p.bx p.n p.C p.cl s' M';refine(ht.bP.below hb4).keep z5 (λx hx=>hr.aV.block x (by have:=ht.bP.low hx;omega) (λe=>?_));have hR:cC p.yb p.n p.R x:=ae e;rcases oV x hx with h1|h1;exact hp.tE x h1 hR;have:=lr x hR;omega
 ·rcases hx with hx|hx|hx;exact hp.lo x (ae hx);·rcases oV x hx with h1|h1;exact hp.lo x (Q (ae h1));omega
  rcases O x hx with h1|h1;exact hp.lo x (Q (Q h1));omega
 ·rcases oV x hx with h1|h1;·rcases O x hy with h2|h2;exact hp.tE x h1 h2;have:=lc x h1;omega
  rcases O x hy with h2|h2;have:=lr x h2;omega;omega
 ·rcases oV p.pc hx with h1|h1;exact hp.qh.1 h1;omega
 ·rcases O p.pc hx with h1|h1;exact hp.qh.2 h1;omega
 rcases hx with hx|hx|hx;exact ae (ae hx);·rcases oV x hx with h1|h1;exact ae (Q (ae h1));exact Q (ae ⟨hx,h1⟩)
 rcases O x hx with h1|h1;exact ae (Q (Q h1));exact Q (Q ⟨hx,h1⟩)
theorem yQ{pw}{K:List NP}{i:Nat}{p}(h:K[i]?=E p):(K.map (eb pw))[i]?=E (eb pw p):=by rw[dC,h];rfl
end
end Go.Proofs.YtchideljndagjabGreat

