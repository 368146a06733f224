/- Joined -/
import Derived.Test.YtchideljndagjabGreatUAF
import Derived.Deep.Upon
set_option linter.unusedVariables false
set_option maxHeartbeats 2000000
set_option maxRecDepth 100000
namespace Go.Proofs.YtchideljndagjabGreat
open aq aO bb eH
open Go.Value renaming int->Z,slice->U,bool->ak,agg->aD,tuple->br
open Go.IntKind renaming i64->J
open Go.Obj renaming cells->ah
open Go.Ending renaming returned->az
open Option renaming none->V,some->E
open Bool renaming false->Y,true->aa
open Go renaming World->ac,Value->ag,Calls->ay,TypeId->cn
open Go.RowKit renaming Below->af,intOf->aA
abbrev nI:=@Option.some.inj
abbrev xv:=@List.drop_zero
abbrev FQ:=@wpList_plain
abbrev FO:=@Addr.add_mid
abbrev rq:=@Proofs.Tryz.func189
abbrev rr:=@Proofs.Tryz.ntmps189
abbrev pS:=@Proofs.Tryz.func191
abbrev pT:=@Proofs.Tryz.ntmps191
abbrev my:=@heap_alloc2_old
abbrev jN:=@heap_alloc2_new
abbrev nH:=@Nat.le_of_lt
abbrev ic:=@results_cell_row
abbrev cB:=@wpList_store_mid
abbrev FP:=@run_storeCells_cells
abbrev dZ:=@Bool.and_false
abbrev bR:=@List.size_toArray
abbrev xr:=@Array.all_eq_true_iff_forall_mem
abbrev xt:=@Proofs.Tryz.func126
abbrev xu:=@Proofs.Tryz.ntmps126
abbrev sY:=@Proofs.Tryz.underlying205
open Go.Proofs.Tryz
variable {D M N a ch fr k mk sd:Int}{l:List aq.It}{inp sm ss zs:List Int}{vs:List ag}{B b:Nat}{f:Nat->Bool}{P S:Nat->Prop}{T e:cn}{a0 a1 a2 a3 a4 a5 v vi vm:ag}{w w':ac}
section
open Go.RowKit
theorem aY.aV (h:aY w v zs)(hc:av P w w')(hn:∀x,v.ownBlock=E x->¬P x):aY w' v zs:=by obtain⟨a,cap,h1,h2,h3,h4,h5⟩:=h;refine⟨a,cap,h1,h2,h3,h4,?_⟩;rcases h5 with h5|⟨b,off,e1,e2,e3⟩;exact .inl h5;refine .inr ⟨b,off,e1,cG e2 hc.size,λi hi=>?_⟩;rw[<-e3 i hi];exact ez (w:=w) (hc.block b e2 (hn b (by rw[h1,e1];rfl)))
theorem aX.aV (h:aX w v l)(hc:av P w w')(hn:∀x,v.ownBlock=E x->¬P x):aX w' v l:=by obtain⟨a,cap,h1,h2,h3,h4,h5⟩:=h;refine⟨a,cap,h1,h2,h3,h4,?_⟩;rcases h5 with h5|⟨b,off,e1,e2,e3⟩;exact .inl h5;refine .inr ⟨b,off,e1,cG e2 hc.size,λi hi=>?_⟩;have O:∀o,w'.cell? ⟨b,o,V⟩=w.cell? ⟨b,o,V⟩:=λo=>ez (w:=w) (hc.block b e2 (hn b (by rw[h1,e1];rfl)));obtain⟨i0,i1,i2,i3⟩:=e3 i hi;exact⟨(O _).trans i0,(O _).trans i1,(O _).trans i2,(O _).trans i3⟩
theorem av.drew (S w):av S w w.drew:=⟨rfl,rfl,rfl,aw _,λ_ _ _=>rfl⟩
theorem av.bY{a b c}(h:av S a b)(k:av S b c):av S a c:=h.trans k (λ_ e _=>e)
theorem av.grow{a b c}(h:av S a b)(k:af b.1.size b c):av S a c:=h.trans (av.bz (S:=S) k) (λ_ e _=>e)
theorem kg (h:aq.okF k fr l=aa):∀x∈l,iK x:=λx hx=>by obtain⟨i,hi,rfl⟩:=fT hx;have Y:=(en h).2.2.2.2 i hi;have O:=(mK h).2.2.2.2.2 i hi;obtain⟨n1,n2,n3⟩:=wl Y;rw[cd l i hi]at O n1 n2 n3;refine⟨?_,?_,?_,?_⟩<;>unfold bq<;>omega
theorem sf (h:aq.okF 2 fr l=aa):∀x∈l,0<=x.2.1/\x.2.1<2305843009213693951/\0<=x.2.2.1/\x.2.2.1<2305843009213693951:=λx hx=>by obtain⟨i,hi,rfl⟩:=fT hx;have O:=(en h).2.2.2.2 i hi;rw[cd l i hi]at O;have e:(bK (l[i]).2.1&&(bK (l[i]).2.2.1&&zB (l[i]).2.2.2))=aa:=O;rw[bS,bS,pd,pd]at e;omega
theorem zh (h:aq.okF 4 fr l=aa):∀x∈l,(0<=x.2.1/\x.2.1<2305843009213693951)/\(0<=x.2.2.1/\x.2.2.1<2305843009213693951)/\(0<=x.2.2.2/\x.2.2.2<2305843009213693951):=λx hx=>by obtain⟨i,hi,rfl⟩:=fT hx;have O:=(en h).2.2.2.2 i hi;rw[cd l i hi]at O;have e:(aG (l[i]).2.1&&(aG (l[i]).2.2.1&&aG (l[i]).2.2.2))=aa:=O;rw[bS,bS,io,io,io]at e;exact e
def mz (w w':ac)(b:Nat)(S':PS)(va:ag):Option aO.Fr->Prop
 |none=>va=U V 0 0
 |some f=>w'.ownsRow w.1.size 5 1 va (bm f.1 f.2.1 f.2.2).length ((bm f.1 f.2.1 f.2.2).map (Value.int .u8))/\∀x,va.ownBlock=E x->¬eG b S' x
theorem jE:(Value.slice V 0 0).ownBlock=V:=rfl
theorem Ct{S}:∀x,eG b (gh S) x->x=b:=by intro x h;rcases h with h|h|h|h|h;exact h;all_goals(unfold gh at h;simp[jE]at h)
abbrev Pk:=Int×Int×List Int
def bC:List Pk->List ag->List ag
 |p::ps,v::vs=>Z J p.1::Z J p.2.1::v::bC ps vs
 |_,_=>[]
theorem wx:∀(ps:List Pk)(vs:List ag)(p:Pk)(v:ag),vs.length=ps.length->bC (ps++[p]) (vs++[v])=bC ps vs++[Z J p.1,Z J p.2.1,v]
 |[],[],p,v,_=>rfl
 |q::ps,x::vs,p,v,h=>by show _::_::_::bC (ps++[p]) (vs++[v])=_;rw[wx ps vs p v (by simpa using h)];rfl
 |[],x::vs,p,v,h=>by simp at h
 |q::ps,[],p,v,h=>by simp at h
theorem qJ:∀(ps:List Pk)(vs:List ag),vs.length=ps.length->(bC ps vs).length=ps.length*3
 |[],[],_=>rfl
 |q::ps,x::vs,h=>by show(bC ps vs).length+1+1+1=(ps.length+1)*3;rw[qJ ps vs (by simpa using h)];omega
 |[],x::vs,h=>by simp at h
 |q::ps,[],h=>by simp at h
theorem wu:∀(ps:List Pk) (vs:List ag) (i:Nat) (p:Pk) (v:ag),ps[i]? =E p->vs[i]? =E v->(bC ps vs)[i*3]? =E (Z J p.1)/\(bC ps vs)[i*3+1]? =E (Z J p.2.1)/\(bC ps vs)[i*3+2]? =E v
 |[],vs,i,p,v,h,_=>by simp at h
 |q::ps,[],i,p,v,_,h=>by simp at h
 |q::ps,x::vs,0,p,v,h,k=>by simp at h k;subst h;subst k;exact⟨rfl,rfl,rfl⟩
 |q::ps,x::vs,i+1,p,v,h,k=>by
  have:=wu ps vs i p v (by simpa using h) (by simpa using k);have e:∀j,(bC (q::ps) (x::vs))[(i+1)*3+j]? =(bC ps vs)[i*3+j]? :=λj=>by show(_::_::_::bC ps vs)[(i+1)*3+j]? =_;rw[show(i+1)*3+j=i*3+j+1+1+1 by omega];rfl
  exact⟨(e 0).trans this.1,(e 1).trans this.2.1,(e 2).trans this.2.2⟩
def lV (zs:List Int):List ag:=zs.map (Value.int .u8)
structure dt (w:ac)(B:Nat)(v:ag)(vs:List ag)(ps:List Pk):Prop where
 len:vs.length=ps.length
 row:w.ownsRow B 49 3 v ps.length (bC ps vs)
 each:∀(i:Nat)(x:ag)(p:Pk),vs[i]?=E x->ps[i]?=E p->w.ownsRow B 5 1 x p.2.2.length (lV p.2.2)
 pw:∀(i j:Nat)(x y:ag),i<j->vs[i]?=E x->vs[j]?=E y->∀g,x.ownBlock=E g->y.ownBlock≠E g
theorem mM:dt w B (U V 0 0) [] []:=⟨rfl,dp _ _ _ _,λi x p h=>by simp at h,λi j x y _ h=>by simp at h⟩
def iZ (v:ag)(vs:List ag)(x:Nat):Prop:=v.ownBlock=E x\/∃y∈vs,y.ownBlock=E x
theorem dt.aV{ps}(h:dt w B v vs ps)(hc:av S w w')(hS:∀x,iZ v vs x->¬S x):dt w' B v vs ps:=
 ⟨h.len,bf h.row hc (λb hb=>hS b (.inl hb)),λi x p h1 h2=>bf (h.each i x p h1 h2) hc (λb hb=>hS b (.inr ⟨x,cU h1,hb⟩)),h.pw⟩
theorem dt.below{ps}(h:dt w B v vs ps)(hb:af w.1.size w w'):dt w' B v vs ps:=h.aV (S:=λ_=>False) (av.bz hb) (λ_ _ h=>h)
theorem dt.low{ps}(h:dt w B v vs ps):∀x,iZ v vs x->B<=x/\x<w.1.size:=by intro x hx;rcases hx with hx|⟨y,hy,hx⟩;exact h.row.lt x hx;obtain⟨i,hi,e⟩:=fT hy;exact(h.each i y (ps[i]'(by rw[<-h.len];exact hi)) (by rw[aQ hi,e]) (aQ _)).lt x hx
theorem dt.base{B' ps}(h:dt w B v vs ps)(hb:B'<=B):dt w B' v vs ps:=
 ⟨h.len,cS h.row hb,λi x p h1 h2=>cS (h.each i x p h1 h2) hb,h.pw⟩
theorem wq{B' e' m m' v' n n' xs aa}(h:w.ownsRow B e m v n xs)(h':w.ownsRow B' e' m' v' n' aa)(hne:e≠e'):∀x,v.ownBlock=E x->v'.ownBlock≠E x:=by intro x hx Y;obtain⟨_,h⟩:=h;obtain⟨_,h'⟩:=h';rcases h with⟨rfl,_⟩|⟨g,cap,cur,rfl,_,h3,_⟩;cases hx;rcases h' with⟨rfl,_⟩|⟨g',cap',cur',rfl,_,O,_⟩;cases Y;have e1:g=x:=nI hx;have e2:g'=x:=nI Y;subst e1;subst e2;rw[h3]at O;have:=nI O;injection this with a b;exact hne b
theorem dt.snoc{v' ps p vb}(h:dt w B v vs ps)(hb:w.ownsRow B 5 1 vb p.2.2.length (lV p.2.2))(ae:∀x,vb.ownBlock=E x->∀y∈vs,y.ownBlock≠E x)(hrow:w'.ownsRow B 49 3 v' (ps.length+1) (bC ps vs++[Z J p.1,Z J p.2.1,vb]))(hg:av (λx=>v.ownBlock=E x) w w'):dt w' B v' (vs++[vb]) (ps++[p]):=by
 have hT:(49:cn)≠5:=by decide
 refine⟨by simp[h.len],?_,?_,?_⟩;rw[wx ps vs p vb h.len,cy];exact hrow
 ·intro i x q h1 h2;by_cases hi:i<vs.length;rw[ey hi]at h1;rw[ey (by rw[<-h.len];exact hi)]at h2;have ho:=h.each i x q h1 h2;exact bf ho hg (λb hb1 hb2=>wq h.row ho hT b hb2 hb1);have O:i=vs.length:=by have:=(fC.1 h1).1;simp at this;omega
  subst O;rw[fo (aw _),nD]at h1;rw[h.len,fo (aw _),nD]at h2;simp at h1 h2;subst h1;subst h2;exact bf hb hg (λb hb1 hb2=>wq h.row hb hT b hb2 hb1)
 intro i j x y aa h1 h2 g hx hy;have hj:=(fC.1 h2).1;simp at hj;have hi:i<vs.length:=by omega
 rw[ey hi]at h1;by_cases ac:j<vs.length;rw[ey ac]at h2;exact h.pw i j x y aa h1 h2 g hx hy;have Y:j=vs.length:=by omega
 subst Y;rw[fo (aw _),nD]at h2;simp at h2;subst h2;exact ae g hy x (cU h1) hx
def cV (w:ac)(b:Nat)(f:Nat->Pr):Prop:=w.1[b]?=E (ah (b_ f).toArray 203 (0,0))
theorem uw:zeroCells203=(b_ λ_=>Pr.z).toArray:=by kernel_rfl
theorem lC:(prog.info? 203).map (·.size)=E 65:=by kernel_rfl
theorem SX:(prog.info? 201).map (·.size)=E 5:=by kernel_rfl
theorem cV.lt{f}(h:cV w b f):b<w.1.size:=by by_cases hb:b<w.1.size;exact hb;unfold cV at h;rw[cT (by omega)]at h;cases h
theorem cV.range{f}(h:cV w b f):w.rangeAt b 0 (b_ f):=by intro j v hv;rw[cz,bg w b j _ _ (0,0) h];simpa using hv
theorem cV.there{f}(h:cV w b f)(o n)(ho:o+n<=65):w.there b o n:=by intro j hj;refine⟨?_,eh w b _ _ _ h⟩;rw[bg w b _ _ _ (0,0) h];simp only[List.getElem?_toArray];rw[aQ (by rw[fW];omega)];rfl
theorem cV.set{f}(h:cV w b f)(u)(hu:u<13)(p):cV (w.setCells b (u*5) (hP p)) b (jn f u p):=by have e:=Ix f u 13 hu;unfold cV b_ at h ⊢;rw[e]at h;have:=kI b _ (hP p) (gM f u) (hP (f u)) _ w rfl h;rw[qm]at this;rw[BK f u p 13 hu];exact this
theorem cV.all{f}(h:cV w b f)(g):cV (w.setCells b 0 (b_ g)) b g:=by unfold cV at h ⊢;have:=kI b 203 (b_ g) [] (b_ f) [] w (by rw[fW,fW]) (by rw[ew];exact h);rw[ew]at this;exact this
theorem cV.block{f}(h:cV w b f)(e:w'.1[b]?=w.1[b]?):cV w' b f:=e.trans h
theorem cV.below{f}(h:cV w b f)(hb:af B w w')(hB:b<B):cV w' b f:=h.block (hb.block b hB)
theorem dU{B a b}(hb:B<=b):∀(vs:List ag)(o:Nat)(w:ac),af B a w->af B a (w.setCells b o vs)
 |[],o,w,h=>h
 |v::vs,o,w,h=>by rw[World.setCells];exact dU hb vs (o+1) _ (h.setCell (p:=⟨b,o,V⟩) hb v)
theorem EN (b):∀(vs:List ag)(o:Nat)(w:ac),(w.setCells b o vs).1.size=w.1.size
 |[],o,w=>rfl
 |v::vs,o,w=>by rw[World.setCells,EN b vs (o+1)];simp[World.setCell]
theorem heap_setCells_other (b k)(h:k≠b):∀(vs:List ag)(o:Nat)(w:ac),(w.setCells b o vs).1[k]?=w.1[k]?
 |[],o,w=>rfl
 |v::vs,o,w=>by rw[World.setCells,heap_setCells_other b k h vs (o+1),fI _ _ _ _ h]
def aN (f:Nat->Bool):List ag:=[ak (f 0),ak (f 1),ak (f 2),ak (f 3),ak (f 4),ak (f 5),ak (f 6),ak (f 7),ak (f 8),ak (f 9),ak (f 10),ak (f 11),ak (f 12)]
def fR (f:Nat->Bool)(v:Nat)(p:Bool):Nat->Bool:=λu=>if u=v then p else f u
theorem eN (f):(aN f).length=13:=rfl
theorem Hv (f v)(hv:v<13):(aN f)[v]?=E (ak (f v)):=by
 have hd:v=0\/v=1\/v=2\/v=3\/v=4\/v=5\/v=6\/v=7\/v=8\/v=9\/v=10\/v=11\/v=12:=by omega
 rcases hd with rfl|rfl|rfl|rfl|rfl|rfl|rfl|rfl|rfl|rfl|rfl|rfl|rfl<;>rfl
theorem Hw (f v)(hv:v<13)(p):(aN f).set v (ak p)=aN (fR f v p):=by
 have hd:v=0\/v=1\/v=2\/v=3\/v=4\/v=5\/v=6\/v=7\/v=8\/v=9\/v=10\/v=11\/v=12:=by omega
 rcases hd with rfl|rfl|rfl|rfl|rfl|rfl|rfl|rfl|rfl|rfl|rfl|rfl|rfl<;>rfl
theorem Hu{g}(h:∀v,v<13->f v=g v):aN f=aN g:=by unfold aN;rw[h 0 (by omega),h 1 (by omega),h 2 (by omega),h 3 (by omega),h 4 (by omega),h 5 (by omega),h 6 (by omega),h 7 (by omega),h 8 (by omega),h 9 (by omega),h 10 (by omega),h 11 (by omega),h 12 (by omega)]
theorem ld (f):∀v∈aN f,v.oneCell'=aa:=by intro v hv;simp only[aN,List.mem_cons,List.not_mem_nil,or_false]at hv;rcases hv with rfl|rfl|rfl|rfl|rfl|rfl|rfl|rfl|rfl|rfl|rfl|rfl|rfl<;>rfl
def bZ (w:ac)(b:Nat)(T:cn)(f:Nat->Bool):Prop:=w.1[b]?=E (ah (aN f).toArray T (0,0))
theorem bZ.lt (h:bZ w b T f):b<w.1.size:=by by_cases hb:b<w.1.size;exact hb;unfold bZ at h;rw[cT (by omega)]at h;cases h
theorem bZ.cell (h:bZ w b T f)(v)(hv:v<13):w.cell? ⟨b,v,V⟩=E (ak (f v)):=by rw[bg w b v _ T (0,0) h];simp only[List.getElem?_toArray];exact Hv f v hv
theorem bZ.bF (h:bZ w b T f)(v):w.frozen? ⟨b,v,V⟩=Y:=eh w b v _ T h
theorem bZ.set (h:bZ w b T f)(v)(hv:v<13)(p):bZ (w.setCell ⟨b,v,V⟩ (ak p)) b T (fR f v p):=by have:=bI w b v _ T (ak p) h;rw[mv,Hw f v hv p]at this;exact this
theorem bZ.block (h:bZ w b T f)(e:w'.1[b]?=w.1[b]?):bZ w' b T f:=e.trans h
theorem bZ.below (h:bZ w b T f)(hb:af B w w')(hB:b<B):bZ w' b T f:=h.block (hb.block b hB)
theorem bZ.ext{g}(h:bZ w b T f)(e:∀v,v<13->f v=g v):bZ w b T g:=by unfold bZ at h ⊢;rw[<-Hu e];exact h
theorem bZ.range (h:bZ w b T f):w.rangeAt b 0 (aN f):=by intro j v hv;rw[cz,bg w b j _ _ (0,0) h];simpa using hv
theorem CC (l j)(hj:j<l.length)(u:Nat)(hu:(aq.it l j).1=(u:Int)):(λv:Nat=>aP (l.take (j+1)) v)=fR (λv:Nat=>aP (l.take j) v) u aa:=by funext v;unfold fR;rw[vJ l j hj,hu];by_cases e:v=u;subst e;simp;rw[ar e,aM (by omega),ri]
end
section
open Go.ChangeShapes Go.WideShapes Go.ChangeAt Go.RowKit
theorem pk (h:aY w v zs):∃(a:Option Addr)(cap:Nat),v=U a zs.length cap/\zs.length<=cap/\cap<=9223372036854775807/\
  ∀k,k<zs.length->∃b off,a=E ⟨b,off,V⟩/\w.cell? ⟨b,off+k,V⟩=E (Z J (zs.getD k 0)):=by obtain⟨a,cap,h1,h2,h3,h4,h5⟩:=h;refine⟨a,cap,h1,h2,by unfold maxLen at h3;omega,λk hk=>?_⟩;rcases h5 with h5|⟨b,off,e,_,hc⟩;rw[h5]at hk;simp at hk;exact⟨b,off,e,hc k hk⟩
theorem Ld:(prog.info? 3).map (λi=>(i.zero,i.size,i.bytes))=E (E (Z J 0),1,8):=by kernel_rfl
theorem BV (h:aY w v zs):
  ay prog 247 #[v] w λe w'=>e=az (ak (zs.all aG))/\w'=w:=by
 obtain⟨a,cap,rfl,h2,h3,hc⟩:=pk h;have HC:=I hc;clear hc h;generalize hn:zs.length=n at*;have O:=I hn;clear hn;go_enter func247,ntmps247;go_wp2;go_loop [7] (λi=>∃k:Nat,k<=n/\i=Z J k/\(zs.take k).all aG=aa) (λi=>n-(aA i).toNat);case atStart=>exact⟨0,bi _,rfl,rfl⟩
 obtain⟨k,hk,rfl,hall⟩:=hrel;have Y:=I hall;clear hall;by_cases hlt:k<n
 ·obtain⟨b,off,rfl,c0⟩:=HC.o k hlt;obtain⟨z,hz⟩:=aj (zs.getD k 0);rw[<-hz]at c0;have HZ:=I hz;clear hz;cases q:aG z;·go_wp2_with fail;refine aI (cX) ?_;go_wp2;go_ret;exact⟨cg (λx=>Ending.returned (ak x)) (xW zs k (by rw[O.o];exact hlt) (by rw[<-HZ.o];exact Jg.1 q)).symm,rfl⟩
  go_wp2_with fail;refine aI (cX) ?_;go_wp2;go_round;case rel=>exact⟨k+1,by omega,by go_num,Bl zs k (by rw[O.o];exact hlt) Y.o (by rw[<-HZ.o];exact io.1 q)⟩
  simp[aA];omega
 go_wp2;go_ret;exact⟨cg (λx=>Ending.returned (ak x)) (Bg zs k (by rw[O.o];omega) Y.o).symm,rfl⟩
theorem Bf (h:zs.all aG=aa)(k)(hk:k<zs.length):0<=zs.getD k 0/\zs.getD k 0<2305843009213693951:=by rw[fk]at h;rw[bG,aQ hk];exact io.1 (h _ (cN hk))
theorem Fy (s x)(h:aY w v zs)(hall:zs.all aG=aa)(hs:0<=s)(ae:s<2305843009213693951)(hx:0<=x)(af:x<2305843009213693951):
  ay prog 265 #[Z J s,v,Z J x] w λe w'=>e=az (Z J (bW s zs x))/\w'=w:=by
 obtain⟨a,cap,rfl,h2,h3,hc⟩:=pk h;have HC:=I hc;have HA:=I hall;clear hc h hall;generalize hn:zs.length=n at*;have O:=I hn;clear hn;go_enter func265,ntmps265;go_wp2;go_loop [7,8] (λu i=>∃k:Nat,k<=n/\i=Z J ((k:Int)-1)/\u=Z J (mG (zs.drop k) x)) (λ_ i=>(aA i+1).toNat);case atStart=>exact⟨n,aw _,rfl,by rw[UX (by rw[O.o];exact aw _)];rfl⟩
 obtain⟨k,hk,rfl,rfl⟩:=hrel;by_cases hlt:0<k
 ·obtain⟨j,rfl⟩:∃j,k=j+1:=⟨k-1,by omega⟩;obtain⟨b,off,rfl,c0⟩:=HC.o j (by omega);obtain⟨z,hz⟩:=aj (zs.getD j 0);have ac:=Bf HA.o j (by rw[O.o];omega);rw[<-hz]at c0 ac;have Y:=I (KF zs j (by rw[O.o];omega) x);have HZ:=I hz;clear hz;obtain⟨e1,e2⟩:=ac;have l1:=CG (zs.drop (j+1)) x;have l2:=CF (zs.drop (j+1)) x;generalize mG (zs.drop (j+1)) x=u at*;go_wp2_with fail;refine aI (pu l1 l2 e1 e2) ?_;go_wp2_with fail;refine aI (lJ (kC _ _) (kB _ _) hx af) ?_;go_wp2;go_round;case rel=>exact⟨j,by omega,by go_num,by rw[<-Y.o,HZ.o]⟩
  simp[aA]
 have ek:k=0:=by omega
 subst ek;have Y:=I (KH s zs x);have l1:=CG zs x;have l2:=CF zs x;rw[xv];generalize mG zs x=u at*;go_wp2_with fail;refine aI (pu l1 l2 hs ae) ?_;go_wp2;go_ret;exact⟨cg (λx=>Ending.returned (Z J x)) Y.o,rfl⟩
def qa (P:Program)(w:ac)(t e:cn)(size:Nat)(O:ag)(n:Nat)(xs:List ag):Prop:=
 ∀ty,∃v' w',(Builtin.append_ #[t,t] ty #[U V 0 0,O]).run P w=.ok v' w'/\w'.ownsRow w.1.size e size v' n xs/\af w.1.size w w'
theorem yi{P}(w){t}(i z size bytes)(ht:P.underlying t=E (.slice e))(hi:P.info? e=E i)(hz:i.zero=E z)(hsize:i.size=size)(hby:i.bytes=bytes)(hzs:z.cells.size=size)(hsz:0<size)(ad m c){news}(hl:news.length=m*size)(hnews:∀j u,news[j]?=E u->w.cell? (ad.add j)=E u)(h1:∀u∈news,u.oneCell'=aa)(h63:m<=maxLen)(hbytes:m*bytes<=140737488355328):qa P w t e size (U (E ad) m c) m news:=λty=>by obtain⟨v',w',hr,h2,h3,h4⟩:=run_append_own (P:=P) w w.1.size t ty e i z size bytes ht hi hz hsize hby hzs hsz (U V 0 0) 0 [] (dp _ _ _ _) ad m c news hl hnews h1 (by omega) (by rw[cz];exact hbytes) (aw _);rw[cz,List.nil_append]at h2;exact⟨v',w',hr,h2,(ax w.1.size w).grown h3 (aw _) (λy hy=>by rw[jE]at hy;cases hy)⟩
theorem yh{P}(w){t}(i size c)(ht:P.underlying t=E (.slice e))(hi:P.info? e=E i):qa P w t e size (U V 0 c) 0 []:=λty=>
 ⟨U V 0 0,w,run_append_nothing w t t ty e i ht hi V 0 0 (aw _) _ (Src.ofNil w ht c),dp _ _ _ _,ax _ _⟩
theorem rc{P ops rest o a Q}(hgd:o.guard=V){s x}(t)(ho:o.op=.call {callee:=.builtin .append,args:= #[s,x],argTypes:= #[t,t]})(hs:a.eval s=U V 0 0)(O)(hx:a.eval x=O)(e size n xs)(hc:qa P w t e size O n xs)(h:∀v' w',w'.ownsRow w.1.size e size v' n xs->af w.1.size w w'->wpList P ops Q rest (a.put o.dst v') w'):wpList P ops Q (o::rest) a w:=by obtain⟨v',w',hr,h2,h3⟩:=hc o.type;refine FQ hgd λK hK=>?_;unfold Oper.wp execOp;simp only[ho,resolve,invoke,builtin,Sem.run_bind,Sem.run_pure,Result.andThen_ok,List.map_toArray,List.map_cons,List.map_nil,hs,hx,hr];exact hK _ _ (h v' w' h2 h3)
theorem tH (h:aY w v zs)(hl:zs.length<=12):qa prog w 33 3 1 v zs.length (zs.map (Value.int J)):=by
 obtain⟨i1,Y,aa,ac,ae⟩:=bO yF;obtain⟨a,cap,rfl,h2,h3,h4,h5⟩:=h
 cases a with
 |none=>
  have:zs=[]:=by rcases h5 with h5|⟨b,off,e,_⟩;exact h5;cases e
  subst this;exact yh w i1 1 cap gW Y
 |some ad=>
  refine yi w i1 (Z J 0) 1 8 gW Y aa ac ae rfl (by decide) ad zs.length cap (by simp) ?_ ?_ (by unfold maxLen;omega) (by omega)
  ·intro j u hj;rcases h5 with h5|⟨b,off,e,hb,hc⟩;subst h5;simp at hj;cases e;have O:j<zs.length:=by have:=(fC.1 hj).1;simpa using this
   rw[FO,hc j O];rw[dC,aQ O]at hj;rw[bG,aQ O];exact hj
  intro u hu;obtain⟨_,_,rfl⟩:=cq.1 hu;rfl
theorem JU (l):∀u∈bD l,u.oneCell'=aa:=by
 induction l with
 |nil=>intro u hu;cases hu
 |cons p l ih=> intro u hu;simp only[bD,List.mem_cons]at hu;rcases hu with rfl|rfl|rfl|rfl|hu;rfl;rfl;rfl;rfl;exact ih u hu
theorem IG (h:aX w v l)(hl:l.length<=12):qa prog w 63 147 4 v l.length (bD l):=by
 obtain⟨i1,O,Y,aa,ac⟩:=bO lj;obtain⟨a,cap,rfl,h2,h3,h4,h5⟩:=h
 cases a with
 |none=>
  have:l=[]:=by rcases h5 with h5|⟨b,off,e,_⟩;exact h5;cases e
  subst this;exact yh w i1 4 cap iG O
 |some ad=>
  refine yi w i1 (aD #[Z J 0,Z J 0,Z J 0,Z J 0]) 4 32 iG O Y aa ac rfl (by decide) ad l.length cap (Cq l) ?_ (JU l) (by unfold maxLen;omega) (by omega);intro j u hj;rcases h5 with h5|⟨b,off,e,hb,hc⟩;subst h5;simp[bD]at hj;cases e;have ae:j<l.length*4:=by have:=(fC.1 hj).1;rwa [Cq]at this
  obtain⟨q,r,hr,rfl⟩:∃q r,r<4/\j=q*4+r:=⟨j/4,j%4,Nat.mod_lt _ (by omega),by omega⟩;obtain⟨f0,f1,f2,f3⟩:=Cp l q (by omega);obtain⟨g0,g1,g2,g3⟩:=hc q (by omega);rw[FO,<-jr]
  match r,hr with
  |0,_=>rw[lM]at hj ⊢;rw[f0]at hj;rw[g0];exact hj
  |1,_=>rw[f1]at hj;rw[g1];exact hj
  |2,_=>rw[f2]at hj;rw[g2];exact hj
  |3,_=>rw[f3]at hj;rw[g3];exact hj
theorem jT{T}(h:¬(1<=N/\N<=12/\1<=T/\T<=N/\1<=M/\M<=12/\1<=D/\D<=50)):dV N T M D=Y:=by unfold dV;cases e:(decide (1<=N/\N<=12)&&(decide (1<=T/\T<=N)&&(decide (1<=M/\M<=12)&&decide (1<=D/\D<=50))));rfl;simp only[Bool.and_eq_true,decide_eq_true_iff]at e;omega
theorem BG{T}(h:1<=N/\N<=12/\1<=T/\T<=N/\1<=M/\M<=12/\1<=D/\D<=50):dV N T M D=aa:=by unfold dV;simp only[Bool.and_eq_true,decide_eq_true_iff];omega
theorem vy (N T M D w):
  ay prog 189 #[aD #[Z J N,Z J T,Z J M,Z J D]] w λe w'=>e=az (ak (dV N T M D))/\af w.1.size w w':=by
 cases hc:bE N;·have H:=I (jT (N:=N) (T:=T) (M:=M) (D:=D) (λh=>by rw[dW h.1 h.2.1]at hc;cases hc));go_enter rq,rr;go_wp2_with(go_at_call 201;refine(fX _ _).mono ?_;rintro e w' ⟨rfl,rfl⟩);go_ret;exact⟨aF H.o.symm,by go_grown⟩
 obtain⟨n1,n2⟩:=lY.1 hc;by_cases t1:T<1;·have H:=I (jT (N:=N) (T:=T) (M:=M) (D:=D) (by omega));go_enter rq,rr;go_wp2_with(go_at_call 201;refine(fX _ _).mono ?_;rintro e w' ⟨rfl,rfl⟩);go_ret;exact⟨aF H.o.symm,by go_grown⟩
 by_cases t2:N<T;·have H:=I (jT (N:=N) (T:=T) (M:=M) (D:=D) (by omega));go_enter rq,rr;go_wp2_with(go_at_call 201;refine(fX _ _).mono ?_;rintro e w' ⟨rfl,rfl⟩);go_ret;exact⟨aF H.o.symm,by go_grown⟩
 by_cases m1:1<=M
 ·by_cases m2:M<=12
  ·by_cases d1:1<=D
   ·by_cases d2:D<=50;·have H:=I (BG (N:=N) (T:=T) (M:=M) (D:=D) (by omega));go_enter rq,rr;go_wp2_with(go_at_call 201;refine(fX _ _).mono ?_;rintro e w' ⟨rfl,rfl⟩);go_ret;exact⟨aF H.o.symm,by go_grown⟩
    have H:=I (jT (N:=N) (T:=T) (M:=M) (D:=D) (by omega));go_enter rq,rr;go_wp2_with(go_at_call 201;refine(fX _ _).mono ?_;rintro e w' ⟨rfl,rfl⟩);go_ret;exact⟨aF (by rw[H.o,aM (show¬D<=50 by omega)]),by go_grown⟩
   have H:=I (jT (N:=N) (T:=T) (M:=M) (D:=D) (by omega));go_enter rq,rr;go_wp2_with(go_at_call 201;refine(fX _ _).mono ?_;rintro e w' ⟨rfl,rfl⟩);go_ret;exact⟨aF H.o.symm,by go_grown⟩
  have H:=I (jT (N:=N) (T:=T) (M:=M) (D:=D) (by omega));go_enter rq,rr;go_wp2_with(go_at_call 201;refine(fX _ _).mono ?_;rintro e w' ⟨rfl,rfl⟩);go_ret;exact⟨aF H.o.symm,by go_grown⟩
 have H:=I (jT (N:=N) (T:=T) (M:=M) (D:=D) (by omega));go_enter rq,rr;go_wp2_with(go_at_call 201;refine(fX _ _).mono ?_;rintro e w' ⟨rfl,rfl⟩);go_ret;exact⟨aF H.o.symm,by go_grown⟩
theorem UO (h:aY w v zs):
  ay prog 246 #[v] w λe w'=>e=az (ak (mQ zs))/\w'=w:=by
 obtain⟨a,cap,rfl,h2,h3,hc⟩:=pk h;have HC:=I hc;clear hc h;have HG:=I (λk (hk:k<zs.length)=>(show zs.getD k 0∈zs by rw[bG,aQ hk];exact cN hk));have HS:=I (λk (hk:k<zs.length)=>(show(zs.take (k+1)).all dn=((zs.take k).all dn&&dn (zs.getD k 0))by rw[gV hk,xi,bG,aQ hk];simp));have HT:=A (zs.take zs.length=zs) iF;generalize hn:zs.length=n at*;clear hn;go_enter func246,ntmps246;go_wp2;go_loop [7] (λi=>∃k:Nat,k<=n/\i=Z J k/\(zs.take k).all dn=aa) (λi=>n-(aA i).toNat);case atStart=>exact⟨0,bi _,rfl,rfl⟩
 obtain⟨k,hk,rfl,hall⟩:=hrel;have O:=I hall;clear hall;by_cases hlt:k<n
 ·obtain⟨b,off,rfl,c0⟩:=HC.o k hlt;have HM:=I (HG.o k hlt);have HU:=I (HS.o k hlt);obtain⟨z,hz⟩:=aj (zs.getD k 0);rw[<-hz]at c0 HM HU;clear hz;cases q:dn z;·have H:=A (mQ zs=Y) (kU.2 ⟨z,HM.o,by rw[q];exact dR⟩);go_wp2_with fail;refine aI (sO) ?_;go_wp2;go_ret;exact⟨aF H.o.symm,rfl⟩
  rw[q,O.o]at HU;go_wp2_with fail;refine aI (sO) ?_;go_wp2;go_round;case rel=>exact⟨k+1,by omega,by go_num,HU.o⟩
  simp[aA];omega
 have ek:k=n:=by omega
 subst ek;have H:=A (mQ zs=aa) (by have:=O.o;rwa [HT.o]at this);go_wp2;go_ret;exact⟨aF H.o.symm,rfl⟩
theorem vB{T}(h:¬((inp.length:Int)=M/\(sm.length:Int)=T-1/\(ss.length:Int)=T-1)):fz T M inp ch mk sd sm ss=Y:=by unfold fz;cases e:(mQ inp&&(decide ((inp.length:Int)=M)&&(decide ((sm.length:Int)=T-1)&&(decide ((ss.length:Int)=T-1)&&(sm.all aG&&(ss.all aG&&(aG ch&&(aG mk&&aG sd))))))));rfl;simp only[Bool.and_eq_true,decide_eq_true_iff]at e;omega
theorem BR{T}(h1:(inp.length:Int)=M)(h2:(sm.length:Int)=T-1)(h3:(ss.length:Int)=T-1):
  fz T M inp ch mk sd sm ss=((aG ch&&(aG mk&&aG sd))&&(mQ inp&&(sm.all aG&&ss.all aG))):=by unfold fz;rw[aK h1,aK h2,aK h3];cases mQ inp<;>cases sm.all aG<;>cases ss.all aG<;>cases aG ch<;>cases aG mk<;>cases aG sd<;>rfl
theorem BQ (N T M D){vs}(ch mk sd)(hi:aY w vi inp)(hm:aY w vm sm)(hs:aY w vs ss)(hT:1<=T)(ap:T<=12):
  ay prog 191 #[aD #[Z J N,Z J T,Z J M,Z J D],aD #[vi,Z J ch,Z J mk,Z J sd,vm,vs]] w λe w'=>e=az (ak (fz T M inp ch mk sd sm ss))/\af w.1.size w w':=by
 have ac:=bj w λW hb=>UO (hi.below hb);have ae:=bj w λW hb=>BV (hm.below hb);have ai:=bj w λW hb=>BV (hs.below hb);have am:af w.1.size w ((w.alloc (ah #[Z J N,Z J T,Z J M,Z J D] 26)).alloc (ah #[vi,Z J ch,Z J mk,Z J sd,vm,vs] 117)):=((ax _ _).alloc (aw _) _).alloc (by simp) _;obtain⟨a1,c1,rfl,i2,i3,_⟩:=hi;obtain⟨a2,c2,rfl,m2,m3,_⟩:=hm;obtain⟨a3,c3,rfl,s2,s3,_⟩:=hs;have O:=I am;by_cases q1:(inp.length:Int)=M
 ·by_cases q2:(sm.length:Int)=T-1
  ·by_cases q3:(ss.length:Int)=T-1
   ·have HR:=I (BR (ch:=ch) (mk:=mk) (sd:=sd) q1 q2 q3);have p1:((inp.length:Int) != M)=Y:=by simpa using q1
    have p2:((sm.length:Int) != T-1)=Y:=by simpa using q2
    have p3:((ss.length:Int) != T-1)=Y:=by simpa using q3
    generalize inp.length=n1 at*;generalize sm.length=n2 at*;generalize ss.length=n3 at*;cases e1:aG ch;·rw[e1]at HR;go_enter pS,pT;go_wp2_with(go_at_call 143;refine(cX).mono ?_;rintro e w' ⟨rfl,rfl⟩);go_ret;exact⟨aF HR.o.symm,O.o⟩
    cases e2:aG mk;·rw[e1,e2]at HR;go_enter pS,pT;go_wp2_with(go_at_call 143;refine(cX).mono ?_;rintro e w' ⟨rfl,rfl⟩);go_ret;exact⟨aF HR.o.symm,O.o⟩
    cases e3:aG sd;·rw[e1,e2,e3]at HR;go_enter pS,pT;go_wp2_with(go_at_call 143;refine(cX).mono ?_;rintro e w' ⟨rfl,rfl⟩);go_ret;exact⟨aF HR.o.symm,O.o⟩
    rw[e1,e2,e3]at HR;cases e4:mQ inp;·rw[e4]at HR ac;go_enter pS,pT;go_wp2_with(first|(go_at_call 143;refine(cX).mono ?_;rintro e w' ⟨rfl,rfl⟩)|(go_at_call 246;refine(ac.o _ O.o).mono ?_;rintro e w' ⟨rfl,rfl⟩));go_ret;exact⟨aF HR.o.symm,O.o⟩
    rw[e4]at HR ac;cases e5:sm.all aG;·rw[e5]at HR ae;go_enter pS,pT;go_wp2_with(first|(go_at_call 143;refine(cX).mono ?_;rintro e w' ⟨rfl,rfl⟩)|(go_at_call 246;refine(ac.o _ O.o).mono ?_;rintro e w' ⟨rfl,rfl⟩));refine aI (ae.o _ O.o) ?_;go_wp2;go_ret;exact⟨aF HR.o.symm,O.o⟩
    rw[e5]at HR ae;have aj:=A (fz T M inp ch mk sd sm ss=ss.all aG) HR.o;go_enter pS,pT;go_wp2_with(first|(go_at_call 143;refine(cX).mono ?_;rintro e w' ⟨rfl,rfl⟩)|(go_at_call 246;refine(ac.o _ O.o).mono ?_;rintro e w' ⟨rfl,rfl⟩));refine aI (ae.o _ O.o) ?_;go_wp2_with fail;refine aI (ai.o _ O.o) ?_;go_wp2;go_ret;exact⟨aF aj.o.symm,O.o⟩
   have H:=I (vB (M:=M) (T:=T) (inp:=inp) (ch:=ch) (mk:=mk) (sd:=sd) (sm:=sm) (ss:=ss) (λh=>q3 h.2.2));have p1:((inp.length:Int) != M)=Y:=by simpa using q1
   have p2:((sm.length:Int) != T-1)=Y:=by simpa using q2
   have p3:((ss.length:Int) != T-1)=aa:=by simpa using q3
   go_enter pS,pT;go_wp2;go_ret;exact⟨aF H.o.symm,O.o⟩
  have H:=I (vB (M:=M) (T:=T) (inp:=inp) (ch:=ch) (mk:=mk) (sd:=sd) (sm:=sm) (ss:=ss) (λh=>q2 h.2.1));have p1:((inp.length:Int) != M)=Y:=by simpa using q1
  have p2:((sm.length:Int) != T-1)=aa:=by simpa using q2
  go_enter pS,pT;go_wp2;go_ret;exact⟨aF H.o.symm,O.o⟩
 have H:=I (vB (M:=M) (T:=T) (inp:=inp) (ch:=ch) (mk:=mk) (sd:=sd) (sm:=sm) (ss:=ss) (λh=>q1 h.1));have p1:((inp.length:Int) != M)=aa:=by simpa using q1
 go_enter pS,pT;go_wp2;go_ret;exact⟨aF H.o.symm,O.o⟩
def gy (w:ac)(b:Nat)(T:cn)(a0 a1 a2 a3 a4 a5:ag):Prop:=w.1[b]?=E (ah #[a0,a1,a2,a3,a4,a5] T (0,0))
theorem gy.cells (h:gy w b T a0 a1 a2 a3 a4 a5):
  (w.cell? ⟨b,0,V⟩=E a0/\w.cell? ⟨b,1,V⟩=E a1/\w.cell? ⟨b,2,V⟩=E a2/\w.cell? ⟨b,3,V⟩=E a3/\w.cell? ⟨b,4,V⟩=E a4/\w.cell? ⟨b,5,V⟩=E a5)/\∀i,w.frozen? ⟨b,i,V⟩=Y:=by refine⟨⟨?_,?_,?_,?_,?_,?_⟩,λi=>eh w b i _ T h⟩;all_goals(rw[bg w b _ _ T (0,0) h];rfl)
theorem gy.below (h:gy w b T a0 a1 a2 a3 a4 a5)(hb:af B w w')(hB:b<B):gy w' b T a0 a1 a2 a3 a4 a5:=(hb.block b hB).trans h
theorem gy.aV (h:gy w b T a0 a1 a2 a3 a4 a5)(hc:av P w w')(hl:b<w.1.size)(hn:¬P b):gy w' b T a0 a1 a2 a3 a4 a5:=(hc.block b hl hn).trans h
theorem gy.zE (h:gy w b T a0 a1 a2 a3 a4 a5)(x):gy (w.setCell ⟨b,0,V⟩ x) b T x a1 a2 a3 a4 a5:=bI w b 0 _ T x h
theorem gy.zF (h:gy w b T a0 a1 a2 a3 a4 a5)(x):gy (w.setCell ⟨b,4,V⟩ x) b T a0 a1 a2 a3 x a5:=bI w b 4 _ T x h
theorem gy.gU (h:gy w b T a0 a1 a2 a3 a4 a5)(x0 x1 x2 x3 O Y):gy (((((((w.setCell ⟨b,0,V⟩ x0).setCell ⟨b,1,V⟩ x1).setCell ⟨b,2,V⟩ x2).setCell ⟨b,3,V⟩ x3).setCell ⟨b,4,V⟩ O).setCell ⟨b,5,V⟩ Y)) b T x0 x1 x2 x3 O Y:=
 bI _ b 5 #[x0,x1,x2,x3,O,a5] T Y (bI _ b 4 #[x0,x1,x2,x3,a4,a5] T O (bI _ b 3 #[x0,x1,x2,a3,a4,a5] T x3 (bI _ b 2 #[x0,x1,a2,a3,a4,a5] T x2 (bI _ b 1 #[x0,a1,a2,a3,a4,a5] T x1 (bI w b 0 #[a0,a1,a2,a3,a4,a5] T x0 h)))))
theorem SR:(prog.info? 117).map (·.size)=E 6:=by kernel_rfl
theorem IF{vs}(ch mk sd)(hi:aY w vi inp)(hm:aY w vm sm)(hs:aY w vs ss)(li:inp.length<=12)(lm:sm.length<=12)(ls:ss.length<=12):
  ay prog 192 #[aD #[vi,Z J ch,Z J mk,Z J sd,vm,vs]] w λe w'=>∃v1 v2 v3,e=az (aD #[v1,Z J ch,Z J mk,Z J sd,v2,v3])/\
   w'.ownsRow w.1.size 3 1 v1 inp.length (inp.map (Value.int J))/\w'.ownsRow w.1.size 3 1 v2 sm.length (sm.map (Value.int J))/\w'.ownsRow w.1.size 3 1 v3 ss.length (ss.map (Value.int J))/\af w.1.size w w':=by
 have C1:=bj w λW hb=>tH (hi.below hb) li;have C2:=bj w λW hb=>tH (hm.below hb) lm;have C3:=bj w λW hb=>tH (hs.below hb) ls;obtain⟨a1,c1,rfl,-⟩:=hi;obtain⟨a2,c2,rfl,-⟩:=hm;obtain⟨a3,c3,rfl,-⟩:=hs;generalize inp.length=n1 at*;generalize sm.length=n2 at*;generalize ss.length=n3 at*;generalize inp.map (Value.int J)=L1 at*;generalize sm.map (Value.int J)=L2 at*;generalize ss.map (Value.int J)=L3 at*;clear li lm ls;obtain⟨W0,hW0⟩:=aj ((w.alloc (ah #[U a1 n1 c1,Z J ch,Z J mk,Z J sd,U a2 n2 c2,U a3 n3 c3] 117)).alloc (ah #[U V 0 0,Z J 0,Z J 0,Z J 0,U V 0 0,U V 0 0] 117));have B0:=A (af w.1.size w W0) (by rw[hW0];exact((ax _ _).alloc (aw _) _).alloc (by simp) _);have S0:=A (gy W0 w.1.size 117 (U a1 n1 c1) (Z J ch) (Z J mk) (Z J sd) (U a2 n2 c2) (U a3 n3 c3)) (by rw[hW0];exact my w _ _);have R0:=A (gy W0 (w.1.size+1) 117 (U V 0 0) (Z J 0) (Z J 0) (Z J 0) (U V 0 0) (U V 0 0)) (by rw[hW0];exact jN w _ _);have z0:w.1.size+1<W0.1.size:=by rw[hW0];simp
 have aB:=I hW0;clear hW0;go_enter func192,ntmps192;go_upto_region 1 with fail;rw[<-aB.o];obtain⟨⟨x0,x1,x2,x3,x4,x5⟩,xf⟩:=S0.o.cells;go_wp2_with(at_builtin;refine rc rfl 33 rfl rfl (U a1 n1 c1) rfl 3 1 n1 L1 (C1.o _ B0.o) ?_);intro v1 w1 ak hb1;obtain⟨p1,q1,aN⟩:=a_ ak;subst aN;have s1:=hb1.size;have S1:=I (S0.o.below hb1 (by omega));have R1:=I (R0.o.below hb1 (by omega));have O1:=I (bf (S:=λx=>x=w.1.size) ak (av.setCell w1 ⟨w.1.size,0,V⟩ (U p1 n1 q1)) (λx e hx=>by have:=(ak.lt x e).1;omega));have B1:=I ((B0.o.trans (hb1.mono (by omega))).setCell (p:=⟨w.1.size,0,V⟩) (aw _) (U p1 n1 q1));have aL:=I (S1.o.zE (U p1 n1 q1));have aJ:=I (R1.o.aV (av.setCell w1 ⟨w.1.size,0,V⟩ (U p1 n1 q1)) (by omega) (by simp));have z1:w.1.size+1<(w1.setCell ⟨w.1.size,0,V⟩ (U p1 n1 q1)).1.size:=by simp;omega
 clear x0 x1 x2 x3 x4 x5 xf ak hb1;obtain⟨⟨x0,x1,x2,x3,x4,x5⟩,xf⟩:=S1.o.cells;have O:=I z1;clear z1;go_wp2_with(at_builtin;refine rc rfl 33 rfl rfl (U a2 n2 c2) rfl 3 1 n2 L2 (C2.o _ B1.o) ?_);intro v2 w2 am hb2;have ap:w2.ownsRow (w1.setCell ⟨w.1.size,0,V⟩ (U p1 n1 q1)).1.size 3 1 v2 n2 L2:=by simpa using am
 have aa:af (w1.setCell ⟨w.1.size,0,V⟩ (U p1 n1 q1)).1.size (w1.setCell ⟨w.1.size,0,V⟩ (U p1 n1 q1)) w2:=by simpa using hb2
 obtain⟨p2,q2,hv2⟩:=a_ am;subst hv2;clear x0 x1 x2 x3 x4 x5 xf am hb2;have s2:=aa.size;have S2:=I (aL.o.below aa (by have:=O.o;omega));have R2:=I (aJ.o.below aa O.o);have ae:av (λx=>x=w.1.size) w2 (w2.setCell ⟨w.1.size,4,V⟩ (U p2 n2 q2)):=av.setCell w2 ⟨w.1.size,4,V⟩ _;have aF:=I (bf (bf (S:=λ_=>False) O1.o (av.bz aa) (λ_ _ h=>h)) ae (λx e hx=>by have:=(O1.o.lt x e).1;omega));have au:=I (bf ap ae (λx e hx=>by have:=(ap.lt x e).1;have:=O.o;omega));have B2:=I ((B1.o.trans (aa.mono (by have:=O.o;omega))).setCell (p:=⟨w.1.size,4,V⟩) (aw _) (U p2 n2 q2));have aM:=I (S2.o.zF (U p2 n2 q2));have aK:=I (R2.o.aV ae (by have:=O.o;omega) (by simp));have Z2:=A (w.1.size+1<(w2.setCell ⟨w.1.size,4,V⟩ (U p2 n2 q2)).1.size) (by have:=O.o;simp at*;omega);obtain⟨⟨x0,x1,x2,x3,x4,x5⟩,xf⟩:=S2.o.cells;clear ap aa ae s2;go_wp2_with(at_builtin;refine rc rfl 33 rfl rfl (U a3 n3 c3) rfl 3 1 n3 L3 (C3.o _ B2.o) ?_);intro v3 w3 aq hb3;have ar:w3.ownsRow (w2.setCell ⟨w.1.size,4,V⟩ (U p2 n2 q2)).1.size 3 1 v3 n3 L3:=by simpa using aq
 have Y:af (w2.setCell ⟨w.1.size,4,V⟩ (U p2 n2 q2)).1.size (w2.setCell ⟨w.1.size,4,V⟩ (U p2 n2 q2)) w3:=by simpa using hb3
 obtain⟨p3,q3,hv3⟩:=a_ aq;subst hv3;clear x0 x1 x2 x3 x4 x5 xf aq hb3;have S3:=I (aM.o.below Y (by have:=Z2.o;omega));have R3:=I (aK.o.below Y Z2.o);have hz3:w.1.size+1<w3.1.size:=cG Z2.o Y.size;obtain⟨W5,ai⟩:=aj ((((((((w3.setCell ⟨w.1.size,5,V⟩ (U p3 n3 q3)).setCell ⟨w.1.size+1,0,V⟩ (U p1 n1 q1)).setCell ⟨w.1.size+1,1,V⟩ (Z J ch)).setCell ⟨w.1.size+1,2,V⟩ (Z J mk)).setCell ⟨w.1.size+1,3,V⟩ (Z J sd)).setCell ⟨w.1.size+1,4,V⟩ (U p2 n2 q2)).setCell ⟨w.1.size+1,5,V⟩ (U p3 n3 q3)));have c5:av (λx=>x=w.1.size\/x=w.1.size+1) w3 W5:=by rw[ai];have k0:av (λx=>x=w.1.size\/x=w.1.size+1) w3 (w3.setCell ⟨w.1.size,5,V⟩ (U p3 n3 q3)):=(av.setCell w3 ⟨w.1.size,5,V⟩ _).mono (λx e _=>.inl e);have kk:∀(X:ac)(o:Nat)(u:ag),av (λx=>x=w.1.size\/x=w.1.size+1) X (X.setCell ⟨w.1.size+1,o,V⟩ u):=λX o u=>(av.setCell X ⟨w.1.size+1,o,V⟩ u).mono (λx e _=>.inr e);exact(((((k0.bY (kk _ _ _)).bY (kk _ _ _)).bY (kk _ _ _)).bY (kk _ _ _)).bY (kk _ _ _)).bY (kk _ _ _)
 have aA:=I (show W5.1[w.1.size+1]?=E (ah #[U p1 n1 q1,Z J ch,Z J mk,Z J sd,U p2 n2 q2,U p3 n3 q3] 117 (0,0))by rw[ai];exact(R3.o.aV (av.setCell w3 ⟨w.1.size,5,V⟩ (U p3 n3 q3)) hz3 (by simp)).gU _ _ _ _ _ _);have aG:=I (bf (bf (S:=λ_=>False) aF.o (av.bz Y) (λ_ _ h=>h)) c5 (λx e hx=>by have:=(O1.o.lt x e).1;omega));have aH:=I (bf (bf (S:=λ_=>False) au.o (av.bz Y) (λ_ _ h=>h)) c5 (λx e hx=>by have:=(au.o.lt x e).1;have:=O.o;omega));have aI:=I (bf ar c5 (λx e hx=>by have:=(ar.lt x e).1;have:=Z2.o;omega));have BF:=A (af w.1.size w W5) ((B2.o.trans (Y.mono (by have:=Z2.o;omega))).trans (c5.below (nH (by omega)) (λx e=>by omega)));obtain⟨⟨x0,x1,x2,x3,x4,x5⟩,xf⟩:=S3.o.cells;obtain⟨⟨y0,y1,y2,y3,y4,y5⟩,yf⟩:=R3.o.cells;have aC:=I ai;clear ar Y c5 ai;go_wp2_with fail;rw[<-aC.o];refine cQ (ic rfl _ _ (w.1.size+1) 117 #[U p1 n1 q1,Z J ch,Z J mk,Z J sd,U p2 n2 q2,U p3 n3 q3] (0,0) _ rfl aA.o underlying117 rfl SR) rfl ?_;exact⟨_,_,_,rfl,cS aG.o (by omega),cS aH.o (by have:=O.o;omega),cS aI.o (by have:=Z2.o;omega),BF.o⟩
end
section
open Go.RowKit
theorem Oo{m b c d}:(#[ak m,Z J a,Z J b,Z J c,Z J d]:Array ag).all (·.oneCell')=aa:=
 dN (cs:=hP ⟨m,a,b,c,d⟩) λv hv=>by simp only[hP,List.mem_cons,List.not_mem_nil,or_false]at hv;rcases hv with rfl|rfl|rfl|rfl|rfl<;>rfl
theorem SQ{m b c d}:(prog.info? 201).map (·.size)=E (#[ak m,Z J a,Z J b,Z J c,Z J d]:Array ag).size:=SX
theorem Ao{ops rest op a Q}(hgd:op.guard=V){x y}(ho:op.op=.store 201 x y)(b o m a1 a2 a3 a4)(hx:a.eval x=.pointer (E ⟨b,o,V⟩))(hy:a.eval y=aD #[ak m,Z J a1,Z J a2,Z J a3,Z J a4])(ht:w.there b o 5)(h:wpList prog ops Q rest (a.put op.dst undef) (w.setCells b o (hP ⟨m,a1,a2,a3,a4⟩))):wpList prog ops Q (op::rest) a w:=
 cB hgd _ x y ho b o _ hx hy ht (SQ) (Oo) h
end
section
open Go.ChangeShapes Go.WideShapes Go.ChangeAt Go.RowKit
theorem Ou{b x y z}(hk:0<=k)(O:k<2305843009213693951)(ha:1<=a)(ha':a<=12)(hb:1<=b)(hb':b<=12)(hx:0<=x)(Y:x<2305843009213693951)(hy:0<=y)(ac:y<2305843009213693951)(hz:0<=z)(ae:z<2305843009213693951)(ht:(fj k (64*a+4*b) x y != z)=aa):
  ay prog 222 #[Z J k,Z J a,Z J b,Z J x,Z J y,Z J z] w λe w'=>e=az (br #[Z J 0,Z J 0,Z J 3])/\w'=w:=by
 have h1:(aG k&&(bE a&&bE b))=aa:=by rw[eD hk O,dW ha ha',dW hb hb'];rfl
 have h2:=eD hx Y;have h3:=eD hy ac;have h4:=eD hz ae;go_enter func222,ntmps222;go_wp2_with fail;refine aI (yK) ?_;rw[h1];go_wp2_with fail;refine aI (cX) ?_;go_wp2_with fail;refine aI (cX) ?_;go_wp2_with fail;refine aI (cX) ?_;go_wp2_with fail;refine aI (yr ha ha' hb hb') ?_;go_wp2_with fail;refine aI (z_ hk O (by omega) (by omega) hx Y hy ac) ?_;go_wp2_with fail;go_ret3;exact⟨rfl,rfl⟩
theorem Ov{b x y z}(hk:0<=k)(O:k<2305843009213693951)(ha:1<=a)(ha':a<=12)(hb:1<=b)(hb':b<=12)(hx:0<=x)(ac:x<2305843009213693951)(hy:0<=y)(ae:y<2305843009213693951)(hz:0<=z)(af:z<2305843009213693951)(ht:(fj k (64*a+4*b) x y != z)=Y):
  ay prog 222 #[Z J k,Z J a,Z J b,Z J x,Z J y,Z J z] w λe w'=>e=az (br #[Z J (dA x (bL k (64*a+4*b))),Z J (dA y (bL k (64*a+4*b+1))),Z J 0])/\w'=w:=by
 have h1:(aG k&&(bE a&&bE b))=aa:=by rw[eD hk O,dW ha ha',dW hb hb'];rfl
 have h2:=eD hx ac;have h3:=eD hy ae;have h4:=eD hz af;go_enter func222,ntmps222;go_wp2_with fail;refine aI (yK) ?_;rw[h1];go_wp2_with fail;refine aI (cX) ?_;go_wp2_with fail;refine aI (cX) ?_;go_wp2_with fail;refine aI (cX) ?_;go_wp2_with fail;refine aI (yr ha ha' hb hb') ?_;go_wp2_with fail;refine aI (z_ hk O (by omega) (by omega) hx ac hy ae) ?_;go_wp2_with fail;refine aI (qG hk O (by omega) (by omega)) ?_;go_wp2_with fail;refine aI (yT hx ac (iU _ _) (iT _ _)) ?_;go_wp2_with fail;refine aI (qG hk O (by omega) (by omega)) ?_;go_wp2_with fail;refine aI (yT hy ae (iU _ _) (iT _ _)) ?_;go_wp2_with fail;go_ret3;exact⟨rfl,rfl⟩
theorem Ap:zeroCells203.toList=b_ λ_=>Pr.z:=by rw[uw]
theorem uk (P b o vs w)(ht:w.there b o vs.length)(h1:∀v∈vs,v.oneCell'=aa):(storeCells ⟨b,o,V⟩ vs).run P w=.ok () (w.setCells b o vs):=
 FP (P:=P) b o vs 0 w (λj hj=>(ht j hj).1) (λj hj=>(ht j hj).2) h1
theorem HI{c k j}(hj:j<l.length)(h:(aq.it l j).1=c.id\/aP k (aq.it l j).1=Y\/gR c k l (aq.it l j).1=Y):d_ c k l=Y:=by
 unfold d_;have hm:aq.it l j∈l:=by rw[cd l j hj];exact cN hj
 rcases h with h|h|h;rw[jC.2 ⟨_,hm,h⟩];rfl;·rw[show(l.all λx=>aP k x.1&&gR c k l x.1)=Y from kU.2 ⟨_,hm,by rw[h];exact dR⟩,dZ,dZ]
 rw[show(l.all λx=>aP k x.1&&gR c k l x.1)=Y from kU.2 ⟨_,hm,by rw[h,dZ];exact dR⟩,dZ,dZ]
theorem HJ{c k}(ht:c.T<=(l.length:Int)+1)(h:∀j,j<l.length->(aq.it l j).1≠c.id/\aP k (aq.it l j).1=aa/\gR c k l (aq.it l j).1=aa):d_ c k l=aa:=by
 unfold d_;have g:∀x∈l,x.1≠c.id/\aP k x.1=aa/\gR c k l x.1=aa:=λx hx=>by obtain⟨i,hi,rfl⟩:=fT hx;have:=h i hi;rwa [cd l i hi]at this
 rw[o_.2 (λx hx=>(g x hx).1),aK ht,fk.2 (λx hx=>by rw[(g x hx).2.1,(g x hx).2.2];rfl)];rfl
def iC:PS:=⟨0,0,0,0,0,0,U V 0 0,0,0,0,U V 0 0,U V 0 0,λ_=>Pr.z,U V 0 0⟩
theorem ux:zeroCells205=(cx iC).toArray:=by kernel_rfl
theorem Aq:zeroCells205.toList=cx iC:=by rw[ux]
theorem PH (s):(cx s).toArray.size=78:=by rw[bR];exact gD s
theorem aJ.PX{s}(h:aJ w b T s):w.rangeAt b 0 (cx s):=by intro j v hv;rw[cz,h.cell j];exact hv
def eT (N T M D id:Int)(inp:List Int)(ch mk sd:Int)(sm ss:List Int):Int:=
 if dV N T M D=Y then 5 else if id<1\/N<id then 1 else if fz T M inp ch mk sd sm ss=Y then 6 else 0
def jh (O:Array ag)(w:ac)(N T M D:Int)(vi vm vs:ag)(ch mk sd:Int):ac:=
 ((w.alloc (ah #[Z J N,Z J T,Z J M,Z J D] 26)).alloc (ah #[vi,Z J ch,Z J mk,Z J sd,vm,vs] 117)).alloc (ah O 205)
theorem wb (w N T M D vi vm vs ch mk sd):af w.1.size w (jh zeroCells205 w N T M D vi vm vs ch mk sd)/\(jh zeroCells205 w N T M D vi vm vs ch mk sd).1.size=w.1.size+3/\aJ (jh zeroCells205 w N T M D vi vm vs ch mk sd) (w.1.size+2) 205 iC:=by refine⟨(((ax _ _).alloc (aw _) _).alloc (by simp) _).alloc (by simp;omega) _,by simp[jh],?_⟩;unfold aJ jh;rw[<-ux];have:=bo ((w.alloc (ah #[Z J N,Z J T,Z J M,Z J D] 26)).alloc (ah #[vi,Z J ch,Z J mk,Z J sd,vm,vs] 117)) (ah zeroCells205 205);simpa using this
theorem Dp (w N T M D vi vm vs ch mk sd){W}(hb:af (jh zeroCells205 w N T M D vi vm vs ch mk sd).1.size (jh zeroCells205 w N T M D vi vm vs ch mk sd) W):
  (W.cell? ⟨w.1.size,0,V⟩=E (Z J N)/\W.cell? ⟨w.1.size,1,V⟩=E (Z J T)/\W.cell? ⟨w.1.size,2,V⟩=E (Z J M)/\W.cell? ⟨w.1.size,3,V⟩=E (Z J D))/\
  (W.cell? ⟨w.1.size+1,0,V⟩=E vi/\W.cell? ⟨w.1.size+1,1,V⟩=E (Z J ch)/\W.cell? ⟨w.1.size+1,2,V⟩=E (Z J mk)/\W.cell? ⟨w.1.size+1,3,V⟩=E (Z J sd)/\W.cell? ⟨w.1.size+1,4,V⟩=E vm/\W.cell? ⟨w.1.size+1,5,V⟩=E vs):=by
 have hs:=(wb w N T M D vi vm vs ch mk sd).2.1;have e0:∀o,W.cell? ⟨w.1.size,o,V⟩=(jh zeroCells205 w N T M D vi vm vs ch mk sd).cell? ⟨w.1.size,o,V⟩:=λo=>hb.cell (p:=⟨w.1.size,o,V⟩) (by show w.1.size<_;omega);have e1:∀o,W.cell? ⟨w.1.size+1,o,V⟩=(jh zeroCells205 w N T M D vi vm vs ch mk sd).cell? ⟨w.1.size+1,o,V⟩:=λo=>hb.cell (p:=⟨w.1.size+1,o,V⟩) (by show w.1.size+1<_;omega);have k1:af (w.1.size+1) (w.alloc (ah #[Z J N,Z J T,Z J M,Z J D] 26)) (jh zeroCells205 w N T M D vi vm vs ch mk sd):=((ax _ _).alloc (by simp) _).alloc (by simp) _;have k2:af (w.1.size+2) ((w.alloc (ah #[Z J N,Z J T,Z J M,Z J D] 26)).alloc (ah #[vi,Z J ch,Z J mk,Z J sd,vm,vs] 117)) (jh zeroCells205 w N T M D vi vm vs ch mk sd):=(ax _ _).alloc (by simp) _;refine⟨⟨?_,?_,?_,?_⟩,⟨?_,?_,?_,?_,?_,?_⟩⟩
 all_goals first
  |(rw[e0,k1.cell (p:=⟨w.1.size,_,V⟩) (by show w.1.size<_;omega)];simp)
  |(rw[e1,k2.cell (p:=⟨w.1.size+1,_,V⟩) (by show w.1.size+1<_;omega)];simp)
theorem NR{W T vs}(hb:af (jh zeroCells205 w N T M D vi vm vs ch mk sd).1.size (jh zeroCells205 w N T M D vi vm vs ch mk sd) W):
  ∃O,(storeCells ⟨w.1.size+2,0,V⟩ zeroCells205.toList).run prog W=.ok () O/\O.1[w.1.size+2]?=E (ah (cx iC).toArray 205 (0,0))/\af w.1.size w O:=by obtain⟨f1,f2,f3⟩:=wb w N T M D vi vm vs ch mk sd;have hp:=f3.block (hb.block _ (by omega));refine⟨_,uk prog (w.1.size+2) 0 _ W ?_ ?_,?_,dU (by omega) _ _ _ (f1.trans (hb.mono (by omega)))⟩;rw[Aq,gD];exact hp.there 0 78 (by omega);rw[Aq];exact λv hv=>xr.1 (sq iC rfl rfl rfl rfl) v (by simpa using hv);rw[Aq];exact hp.gU iC
theorem NS{T id vs}(hi:aY w vi inp)(hm:aY w vm sm)(hs:aY w vs ss)(hE:eT N T M D id inp ch mk sd sm ss≠0):
  ay prog 126 #[aD #[Z J N,Z J T,Z J M,Z J D],Z J id,aD #[vi,Z J ch,Z J mk,Z J sd,vm,vs]] w λe w'=>
   e=az (br #[aD (cx iC).toArray,Z J (eT N T M D id inp ch mk sd sm ss)])/\af w.1.size w w':=by
 have aa:=I (λ(W:ac)=>vy N T M D W);have aA:=I (λ(W:ac)(hb:af w.1.size w W)(t1:1<=T)(t2:T<=12)=>BQ N T M D ch mk sd (hi.below hb) (hm.below hb) (hs.below hb) t1 t2);obtain⟨a1,c1,rfl,-⟩:=hi;obtain⟨a2,c2,rfl,-⟩:=hm;obtain⟨a3,c3,rfl,-⟩:=hs;generalize inp.length=n1 at*;generalize sm.length=n2 at*;generalize ss.length=n3 at*;have aw:=I (wb w N T M D (U a1 n1 c1) (U a2 n2 c2) (U a3 n3 c3) ch mk sd);have av:=I (λW hb=>Dp w N T M D (U a1 n1 c1) (U a2 n2 c2) (U a3 n3 c3) ch mk sd (W:=W) hb);have ap:=I (λW hb=>NR (w:=w) (W:=W) (N:=N) (T:=T) (M:=M) (D:=D) (vi:=U a1 n1 c1) (vm:=U a2 n2 c2) (vs:=U a3 n3 c3) (ch:=ch) (mk:=mk) (sd:=sd) hb);have aq:=A ((prog.info? 205).map (·.size)=E (cx iC).toArray.size) (by rw[sI,PH]);have HD:=A (jh zeroCells205 w N T M D (U a1 n1 c1) (U a2 n2 c2) (U a3 n3 c3) ch mk sd=((w.alloc (ah #[Z J N,Z J T,Z J M,Z J D] 26)).alloc (ah #[U a1 n1 c1,Z J ch,Z J mk,Z J sd,U a2 n2 c2,U a3 n3 c3] 117)).alloc (ah zeroCells205 205)) rfl;obtain⟨W0,hW0⟩:=aj (jh zeroCells205 w N T M D (U a1 n1 c1) (U a2 n2 c2) (U a3 n3 c3) ch mk sd);rw[<-hW0]at aw av ap HD;obtain⟨CZ,aB⟩:=aj ((cx iC).toArray);rw[<-aB]at ap aq ⊢;have s0:w.1.size+2<W0.1.size:=by have:=aw.o.2.1;omega
 cases O:dV N T M D;·have ai:=A (eT N T M D id inp ch mk sd sm ss=5) (by unfold eT;rw[au O]);rw[O]at aa;go_enter xt,xu;go_wp2_with fail;rw[<-HD.o];refine aH (aa.o W0) λw1 hb1=>?_;obtain⟨X2,hst,hrow,am⟩:=ap.o w1 hb1;have ak:=I hrow;have ae:=I am;go_wp2_with fail;refine cQ (gT rfl (w.1.size+2) 205 CZ (0,0) rfl ak.o sY rfl aq.o) rfl ?_;exact⟨by rw[ai.o];rfl,ae.o⟩
 obtain⟨g1,g2,g3,g4,g5,g6,g7,g8⟩:1<=N/\N<=12/\1<=T/\T<=N/\1<=M/\M<=12/\1<=D/\D<=50:=by unfold dV at O;simp only[Bool.and_eq_true,decide_eq_true_iff]at O;omega
 by_cases q1:id<1;·have ai:=A (eT N T M D id inp ch mk sd sm ss=1) (by unfold eT;rw[ar (by rw[O];simp),au (.inl q1)]);rw[O]at aa;go_enter xt,xu;go_wp2_with fail;rw[<-HD.o];refine aH (aa.o W0) λw1 hb1=>?_;obtain⟨⟨x0,x1,x2,x3⟩,-⟩:=av.o w1 hb1;obtain⟨X2,hst,hrow,am⟩:=ap.o w1 hb1;have ak:=I hrow;have ae:=I am;go_wp2_with fail;refine cQ (gT rfl (w.1.size+2) 205 CZ (0,0) rfl ak.o sY rfl aq.o) rfl ?_;exact⟨by rw[ai.o];rfl,ae.o⟩
 by_cases q2:N<id;·have ai:=A (eT N T M D id inp ch mk sd sm ss=1) (by unfold eT;rw[ar (by rw[O];simp),au (.inr q2)]);rw[O]at aa;go_enter xt,xu;go_wp2_with fail;rw[<-HD.o];refine aH (aa.o W0) λw1 hb1=>?_;obtain⟨⟨x0,x1,x2,x3⟩,-⟩:=av.o w1 hb1;obtain⟨X2,hst,hrow,am⟩:=ap.o w1 hb1;have ak:=I hrow;have ae:=I am;go_wp2_with fail;refine cQ (gT rfl (w.1.size+2) 205 CZ (0,0) rfl ak.o sY rfl aq.o) rfl ?_;exact⟨by rw[ai.o];rfl,ae.o⟩
 have hdr:fz T M inp ch mk sd sm ss=Y:=by cases e:fz T M inp ch mk sd sm ss;rfl;exfalso;apply hE;unfold eT;rw[ar (by rw[O];simp),ar (by omega),ar (by rw[e];simp)]
 have ai:=A (eT N T M D id inp ch mk sd sm ss=6) (by unfold eT;rw[ar (by rw[O];simp),ar (by omega),au hdr]);rw[O]at aa;rw[hdr]at aA;go_enter xt,xu;go_wp2_with fail;rw[<-HD.o];refine aH (aa.o W0) λw1 hb1=>?_;obtain⟨⟨x0,x1,x2,x3⟩,y0,y1,y2,y3,y4,y5⟩:=av.o w1 hb1;have ax:=I hb1;have s1:=hb1.size;go_wp2_with fail;refine aH (aA.o w1 (aw.o.1.trans (ax.o.mono (by omega))) g3 (by omega)) λw2 hb2=>?_;obtain⟨X2,hst,hrow,am⟩:=ap.o w2 (ax.o.trans (hb2.mono s1));have ak:=I hrow;have ae:=I am;go_wp2_with fail;refine cQ (gT rfl (w.1.size+2) 205 CZ (0,0) rfl ak.o sY rfl aq.o) rfl ?_;exact⟨by rw[ai.o];rfl,ae.o⟩
end
end Go.Proofs.YtchideljndagjabGreat


