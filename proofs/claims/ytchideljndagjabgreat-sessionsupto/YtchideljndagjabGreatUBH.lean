/- Joined -/
import Derived.Test.YtchideljndagjabGreatUBG
set_option linter.unusedVariables false
set_option maxHeartbeats 8000000
set_option maxRecDepth 100000
namespace Go.Proofs.YtchideljndagjabGreat
open aq aO aB
open Go.Value renaming int->Z,slice->U,bool->ak,pointer->aC,agg->aD,tuple->br
open Go.IntKind renaming i64->J
open Go.Obj renaming cells->ah
open Go.Ending renaming returned->az
open Or renaming inl->ae,inr->Q
open Option renaming none->V,some->E
open Go renaming World->ac,Value->ag,Calls->ay
open Go.RowKit renaming Below->af,intOf->aA
abbrev xI:=@Proofs.Tryz.ntmps55
abbrev Gk:=@Nat.add_le_add_right
open Go.Proofs.Tryz
variable {p:NP}{a:Option Addr}{s:Sn}{C:Cf}
section
open Go.RowKit
theorem Lb:(prog.info? 136).map (λi=>(i.zero,i.size,i.bytes))=E (E (aC V),1,8):=by kernel_rfl
def uZ (F:Nat->ag)(ls:Nat->List Ow)(T:Nat->List Th)(x:Nat):Prop:=(∀(j i:Nat)(u:Th),j<3->(T j)[i]?=E u->¬u.aS x)/\(∀j,j<3->(F j).ownBlock≠E x)/\¬aU F ls x
section
variable {nx:Int}{w w':ac}{pw:Nat}{F:Nat->ag}{ls:Nat->List Ow}{T:Nat->List Th}
theorem fU.unused (h:fU w pw F ls T)(hi:bH w pw F nx ls){x:Nat}(hx:w.1.size<=x):uZ F ls T x:=
 ⟨λj i u hj hu hf=>by obtain⟨ok,at_⟩:=h.ok j hj u (cU hu);have:=ok.lt w x at_ hf;omega,λj hj e=>by have:=((h.row j hj).lt x e).2;omega,λe=>by have:=(hi.gO e).2;omega⟩
theorem fU.NC (h:fU w pw F ls T)(hi:bH w pw F nx ls){j:Nat}(hj:j<3){t:Th}{v':ag}(am:tD pw t)(hat:t.at_ w')(ac:∀x,t.aS x->uZ F ls T x)(hc:av (λx=>x=pw\/(F j).ownBlock=E x) w w')
  (hblk:w'.1[pw]?=E (ah (jZ (upd F j v')) 89 (0,0)))(hrow:w'.ownsRow (pw+1) (Ej j) 1 v' ((T j).length+1) (px (T j)++[aC (E ⟨t.pc,0,V⟩)]))
  (hv:∀x,v'.ownBlock=E x->((F j).ownBlock=E x\/w.1.size<=x)/\¬t.aS x):fU w' pw (upd F j v') ls (oM T j t)/\bH w' pw (upd F j v') nx ls:=by
 obtain⟨tg,t1,t2,t3⟩:=h.tag;have hlt:=hi.fe;have Y:∀c,upd F j v' (cat c).fi=F (cat c).fi:=λc=>dM (by have:=nN c;omega);have aa:∀c,upd F j v' (cat c).fm=F (cat c).fm:=λc=>dM (by have:=oU c;omega);have aj:∀x,aU (upd F j v') ls x↔aU F ls x:=λx=>by unfold aU;simp only[Y,aa]
 have hno:∀x,aU F ls x->¬(x=pw\/(F j).ownBlock=E x):=λx hx e=>by rcases e with e|e;have:=hi.gO hx;omega;have a:=t2 j x hj e;have b:=t3 x hx;omega
 have elem:∀d,d<3->∀k u,(oM T j t d)[k]?=E u->(d=j/\k=(T j).length/\u=t)\/(T d)[k]?=E u:=by
  intro d hd k u hu;unfold oM at hu;by_cases e:d=j
  ·subst e;rw[au rfl]at hu;by_cases hk:k<(T d).length;rw[ey hk]at hu;exact Q hu;rw[fo (by omega)]at hu;have ak:k-(T d).length=0:=by rcases mn (k-(T d).length)with e|e;exact e;rw[jM (by simp;omega)]at hu;cases hu
   rw[ak]at hu;simp at hu;exact ae ⟨rfl,by omega,hu.symm⟩
  rw[ar e]at hu;exact Q hu
 refine⟨⟨λd hd=>?_,λd hd u hu=>?_,?_⟩,⟨hblk,by rw[dM (by omega)];exact hi.zf,λc hc'=>?_,?_⟩⟩;·by_cases e:d=j;subst e;unfold oM;rw[au rfl,upd_same,cy];unfold px;rw[cF];exact hrow;unfold oM;rw[ar e,dM e];exact bf (h.row d hd) hc (λb hb e2=>by rcases e2 with e2|e2;have:=(h.row d hd).lt b hb;omega;have a:=t2 d b hd hb;have c:=t2 j b hj e2;omega)
 ·obtain⟨k,hk⟩:=AQ.1 hu;rcases elem d hd k u hk with⟨_,_,rfl⟩|hk;exact⟨am,hat⟩;obtain⟨ok,at_⟩:=h.ok d hd u (cU hk);refine⟨ok,ok.keep w w' at_ hc.size (λx hx=>hc.block x (ok.lt w x at_ hx) (λe=>?_)) (λx hx=>hc.block x (by omega) (λe=>?_))⟩;·rcases e with e|e;have:=ok.lo w x at_ hx;omega;have a:=t1 d k u x hd hk hx;have b:=t2 j x hj e;omega
  rcases e with e|e;omega;have:=(h.row j hj).lt x e;omega
 ·classical
  obtain⟨O,af⟩:∃O:Nat->Nat,∀x,O x=if t.aS x then 4+3*(T j).length+j else if x<w.1.size then tg x else if v'.ownBlock=E x then j+1 else 0:=⟨_,λ_=>rfl⟩;refine⟨O,λd k u x hd hu hx=>?_,λd x hd hx=>?_,λx hx=>?_⟩
  ·rw[af];rcases elem d hd k u hu with⟨rfl,rfl,rfl⟩|hk;·rw[au hx]
   obtain⟨ok,at_⟩:=h.ok d hd u (cU hk);rw[ar (λe=>(ac x e).1 d k u hd hk hx),au (ok.lt w x at_ hx)];exact t1 d k u x hd hk hx
  ·rw[af];by_cases e:d=j;·subst e;rw[upd_same]at hx;obtain⟨h1,h2⟩:=hv x hx;rw[ar h2];rcases h1 with h1|h1;rw[au ((h.row d hd).lt x h1).2];exact t2 d x hd h1;rw[ar (by omega),au hx]
   rw[dM e]at hx;rw[ar (λq=>(ac x q).2.1 d hd hx),au ((h.row d hd).lt x hx).2];exact t2 d x hd hx
  have ai:=(aj x).1 hx;rw[af,ar (λq=>(ac x q).2.2 ai),au (hi.gO ai).2];exact t3 x ai
 rw[Y,aa];obtain⟨h1,h2,h3⟩:=hi.own c hc';refine⟨bf h1 hc (λb hb=>hno b ⟨c,hc',ae hb⟩),bf h2 hc (λb hb=>hno b ⟨c,hc',Q (ae hb)⟩),λo ho=>?_⟩;obtain⟨k1,k0,k2⟩:=h3 o ho;refine⟨k1,k0,λg hg=>?_⟩;obtain⟨q1,q2,q3⟩:=k2 g hg;exact⟨q1,cG q2 hc.size,by rw[hc.block g q2 (hno g ⟨c,hc',Q (Q ⟨o,ho,hg⟩)⟩)];exact q3⟩;obtain⟨O,a1,a2,a3⟩:=hi.tag;exact⟨O,λc hc' b hb=>a1 c hc' b (by rw[<-Y c];exact hb),λc hc' b hb=>a2 c hc' b (by rw[<-aa c];exact hb),a3⟩
end
theorem Oa {O w9 w10:ac}{pw n g9 cap9 bx yb:Nat}{T:Nat->List Th}{F:Nat->ag}{nx:Int}{ls:Nat->List Ow}{cl:Nat->Cl}{M:SM}{R:RM}{B:Obj}
  (i1:bH O pw F nx ls)(i2:fU O pw F ls T)(k1:bM O bx n C cl s M)(k2:bT O pw yb n C cl s R)(cast:mV C cl n)(ok:bU C cl n s)(ft:eA n s)(ou:gH C s.q.o)
  (un:∀x,dx bx n M x\/cC yb n R x->pw<x/\uZ F ls T x)(ap:∀x,dx bx n M x->¬cC yb n R x)
  (aq:w9.ownsRow (pw+1) 136 1 (U (E ⟨g9,0,V⟩) ((T 2).length+1) cap9) ((T 2).length+1) (px (T 2)++[aC (E ⟨O.1.size,0,V⟩)]))
  (hgr:((O.alloc (ah #[aC (E ⟨bx,0,V⟩),aC (E ⟨yb,0,V⟩)] 190)).alloc B).grownBy w9 (F 2).ownBlock)(hat:(F 2).ownBlock=E g9\/O.1.size+2<=g9)
  (Y:w10=w9.setCell ⟨pw,2,V⟩ (U (E ⟨g9,0,V⟩) ((T 2).length+1) cap9)):
  fU w10 pw (upd F 2 (U (E ⟨g9,0,V⟩) ((T 2).length+1) cap9)) ls (oM T 2 (eb pw ⟨O.1.size,bx,yb,n,C,cl,s,M,R⟩))/\bH w10 pw (upd F 2 (U (E ⟨g9,0,V⟩) ((T 2).length+1) cap9)) nx ls/\af pw O w10:=by
 have aw:=hgr.size;have zA:((O.alloc (ah #[aC (E ⟨bx,0,V⟩),aC (E ⟨yb,0,V⟩)] 190)).alloc B).1.size=O.1.size+2:=by simp
 rw[zA]at aw;have au:=i1.fe;have hrow:∀x,(F 2).ownBlock=E x->pw<x/\x<O.1.size:=λx hx=>by have:=(i2.row 2 (by decide)).lt x hx;omega
 have ax:w10.1.size=w9.1.size:=by rw[Y];simp[World.setCell]
 have ak:av (λx=>(F 2).ownBlock=E x) O w9:=((av.alloc _ O (ah #[aC (E ⟨bx,0,V⟩),aC (E ⟨yb,0,V⟩)] 190)).trans (av.alloc _ _ B) (λx e _=>e)).trans (av.grown hgr) (λx e _=>e);have aa:av (λx=>x=pw\/(F 2).ownBlock=E x) O w10:=(ak.mono (S':=λx=>x=pw\/(F 2).ownBlock=E x) (λx e _=>Q e)).trans (by rw[Y];exact av.setCell w9 ⟨pw,2,V⟩ _) (λx e _=>ae e);have lo:∀x,dx bx n M x\/cC yb n R x->x<O.1.size:=λx hx=>by rcases hx with hx|hx;exact k1.low hx;exact(k2.low x hx).2
 have keep:∀x,dx bx n M x\/cC yb n R x->w10.1[x]?=O.1[x]? :=λx hx=>aa.block x (lo x hx) (λe=>by rcases e with e|e;have:=(un x hx).1;omega;exact(un x hx).2.2.1 2 (by decide) e);obtain⟨p,ai⟩:∃p:NP,p=⟨O.1.size,bx,yb,n,C,cl,s,M,R⟩:=⟨_,rfl⟩;have ar:dS w10 pw p:=by
  rw[ai];refine⟨?_,?_,?_,cast,ok,ft,ou,λx hx=>?_,ap,λhx=>?_,λhx=>?_⟩;show w10.1[O.1.size]?=_;rw[Y,fI _ _ _ _ (by show O.1.size≠pw;omega),hgr.block O.1.size (by rw[zA];omega) (λe=>by have:=hrow _ e.symm;omega)];rw[gf _ _ _ (by simp)];exact bo O _;exact k1.keep (by omega) (λx hx=>keep x (ae hx));·exact k2.keep (by omega) (λx hx=>keep x (Q hx)) (λx hx=>aa.block x (by omega) (λe=>by rcases e with e|e;omega;have:=hrow x e;omega))
  ·rcases hx with hx|hx|hx;have e:x=O.1.size:=hx;omega;exact(un x (ae hx)).1;exact(un x (Q hx)).1
  have a:=lo O.1.size (ae hx);omega;have a:=lo O.1.size (Q hx);omega
 have hblk:w10.1[pw]?=E (ah (jZ (upd F 2 (U (E ⟨g9,0,V⟩) ((T 2).length+1) cap9))) 89 (0,0)):=by rw[Y];refine wO 2 _ (by omega) ?_;rw[ak.block pw au (λe=>by have:=hrow pw e;omega)];exact i1.blk
 rw[<-ai];have am:∀x,iH p x->x=O.1.size\/dx bx n M x\/cC yb n R x:=λx hx=>by rw[ai]at hx;exact hx
 have aj:=i2.NC i1 (j:=2) (by decide) (t:=eb pw p) (v':=U (E ⟨g9,0,V⟩) ((T 2).length+1) cap9) (zb pw p) ar (λx hx=>?_) aa hblk ?_ (λx hx=>?_);·refine⟨aj.1,aj.2,aa.below (by omega) (λb e=>?_)⟩;rcases e with e|e;omega;have:=hrow b e;omega
 ·rcases am x hx with e|e;exact i2.unused i1 (by omega);exact(un x e).2
 have e:(eb pw p).pc=O.1.size:=by rw[ai];rfl
 rw[e,Y];exact bf aq (av.setCell w9 ⟨pw,2,V⟩ _) (λb hb e=>by have:=aq.lt b hb;simp at e;omega);have ex:x=g9:=by simpa[Value.ownBlock]using hx.symm
 subst ex;refine⟨?_,λhy=>?_⟩;·rcases hat with h1|h1;exact ae h1;exact Q (by omega)
 rcases am x hy with e|e;·rcases hat with h1|h1;have:=hrow x h1;omega;omega
 rcases hat with h1|h1;exact(un x e).2.2.1 2 (by decide) h1;have:=lo x e;omega
theorem Ib {N T M D:Int}{n:Nat}{O:Nat->DD}(h:fE N T M D n O=0):mV ⟨N,T,M,D⟩ (fN N T M O) n:=by
 unfold fE at h;by_cases c1:dV N T M D=false;rw[au c1]at h;exact absurd h (by decide);rw[ar c1]at h;by_cases c2:(n:Int)≠N;rw[au c2]at h;exact absurd h (by decide);rw[ar c2]at h;have hn:(n:Int)=N:=AA c2;have Y:dV N T M D=true:=by cases q:dV N T M D with|true=>rfl|false=>exact absurd q c1
 by_cases c3:((List.range n).all λj=>fz T M (O j).inp (O j).ch (O j).ms (O j).sd (O j).sm (O j).ss)=true;exact⟨vF Y,hn.symm,λi hi=>vG Y ⟨by omega,by omega⟩ (fk.1 c3 i (eW.2 hi)),λ_ _=>rfl,λ_ _=>rfl,λ_ _=>rfl,λ_ _=>rfl⟩;rw[ar c3]at h;exact absurd h (by decide)
theorem yz {w:ac}{g:Nat}{zs:List Int}(hg:w.1[g]?=E (ah (given zs 3).toArray 3 (0,0)))(hz:∀z∈zs,bq z)(hb:zs.length*8<=140737488351232):
  aY w (U (E ⟨g,0,V⟩) zs.length (zs.length+3)) zs:=by
 refine⟨_,_,rfl,by omega,by unfold maxLen;omega,hz,Q ⟨g,0,rfl,?_,λi hi=>?_⟩⟩;·by_cases h:g<w.1.size;exact h;rw[cT (by omega)]at hg;cases hg
 rw[cz,(sD hg i (by rw[tO (aw _)];omega)).1];unfold given;rw[ey (by simpa using hi),dC,aQ hi,bG,aQ hi];rfl
theorem rQ {n:Nat}(G:Nat->Nat->Nat)(D:Nat->DD){i j:Nat}(hi:i<n)(hj:j<6):cD n G D (i*6+j)=oh (dX (G i 0) (D i).inp) (Z J (D i).ch) (Z J (D i).ms) (Z J (D i).sd) (dX (G i 1) (D i).sm) (dX (G i 2) (D i).ss) j:=by unfold cD;rw[show(i*6+j)/6=i by omega,show(i*6+j)%6=j by omega,au hi]
theorem Kq {w:ac}{B g n:Nat}{G:Nat->Nat->Nat}{D:Nat->DD}(h:ig w B g n G D)(hr:bp w g 117 ((n+3)*6) (cD n G D))(hn:n+3<=9223372036854775807)(hi:∀i,i<n->(∀k,k<3->∀z∈dl (D i) k,bq z)/\bq (D i).ch/\bq (D i).ms/\bq (D i).sd)(hl:∀i k,i<n->k<3->(dl (D i) k).length*8<=140737488351232):
  jP w (E ⟨g,0,V⟩) n (n+3) (λi=>dX (G i 0) (D i).inp) (λi=>dX (G i 1) (D i).sm) (λi=>dX (G i 2) (D i).ss) D:=by refine⟨by omega,hn,λi O=>⟨g,0,rfl,hr.lt,?_,?_,?_,?_,?_,?_⟩,λi O=>⟨yz (h.row i 0 O (by omega)) ((hi i O).1 0 (by omega)) (hl i 0 O (by omega)),yz (h.row i 1 O (by omega)) ((hi i O).1 1 (by omega)) (hl i 1 O (by omega)),yz (h.row i 2 O (by omega)) ((hi i O).1 2 (by omega)) (hl i 2 O (by omega)),(hi i O).2⟩⟩;have:=hr.cell (i*6+0) (by omega);rw[rQ G D O (by omega)]at this;rw[cz];exact this;have:=hr.cell (i*6+1) (by omega);rw[rQ G D O (by omega)]at this;rw[cz];exact this;have:=hr.cell (i*6+2) (by omega);rw[rQ G D O (by omega)]at this;rw[cz];exact this;have:=hr.cell (i*6+3) (by omega);rw[rQ G D O (by omega)]at this;rw[cz];exact this;have:=hr.cell (i*6+4) (by omega);rw[rQ G D O (by omega)]at this;rw[cz];exact this;have:=hr.cell (i*6+5) (by omega);rw[rQ G D O (by omega)]at this;rw[cz];exact this
theorem IY {w:ac}{vi vm vs:ag}{d:DD}(h:mW w vi vm vs d):(∀k,k<3->∀z∈dl d k,bq z)/\bq d.ch/\bq d.ms/\bq d.sd:=by
 have key:∀{v:ag}{zs:List Int},aY w v zs->∀z∈zs,bq z:=λ{v zs} hl=>by obtain⟨_,_,_,_,_,h4,_⟩:=hl;exact h4
 refine⟨λk hk=>?_,h.2.2.2⟩;rcases(show k=0\/k=1\/k=2 by omega)with rfl|rfl|rfl;exact key h.1;exact key h.2.1;exact key h.2.2.1
theorem PK {pw:Nat}{N T M D:Int}{n c:Nat}{vi vm vs:Nat->ag}{O:Nat->DD}{w:ac}(aa:pw<w.1.size)(hD:jP w a n c vi vm vs O)(ah:∀j,j<n->∀x,(((O j).inp≠[]/\(vi j).ownBlock=E x)\/((O j).sm≠[]/\(vm j).ownBlock=E x)\/((O j).ss≠[]/\(vs j).ownBlock=E x))->x<pw):
  ay prog 119 #[aD #[Z J N,Z J T,Z J M,Z J D],U a n c] w λe w'=>af w.1.size w w'/\((fE N T M D n O≠0/\e=az (br #[aC V,Z J (fE N T M D n O)]))\/
   (fE N T M D n O=0/\∃b,e=az (br #[aC (E ⟨b,0,V⟩),Z J 0])/\∃m,bT w' pw b n ⟨N,T,M,D⟩ (fN N T M O) (g_ (fN N T M O) n) m/\(∀x,cC b n m x->w.1.size<=x)/\m.L=[]/\∀j,j<n->m.hh j=[])):=by
 by_cases h:dV N T M D=true
 ·by_cases hn:(n:Int)=N
  ·refine(QW pw D aa h hn hD ah).mono (λe w' ⟨hb,hh⟩=>⟨hb,?_⟩);rcases hh with⟨he,j,hj,hne⟩|⟨ai,b,he,m,hm⟩
   ·have Y:fE N T M D n O=6:=by unfold fE;rw[ar (by rw[h];simp),ar (by omega),ar];intro q;refine hne ?_;have:=fk.1 q j (eW.2 hj);rw[tJ h hn O hj,this];simp
    exact ae ⟨by rw[Y];decide,by rw[Y];exact he⟩
   refine Q ⟨?_,b,he,m,hm⟩;unfold fE;rw[ar (by rw[h];simp),ar (by omega),au];refine fk.2 λj hj=>?_;have:=ai j (eW.1 hj);rw[tJ h hn O (eW.1 hj)]at this;cases q:fz T M (O j).inp (O j).ch (O j).ms (O j).sd (O j).sm (O j).ss;rw[q]at this;simp at this;rfl
  have Y:fE N T M D n O=6:=by unfold fE;rw[ar (by rw[h];simp),au hn]
  exact(QX pw D a n c w aa h hn).mono (λe w' ⟨h1,h2⟩=>⟨h2,ae ⟨by rw[Y];decide,by rw[Y];exact h1⟩⟩)
 have h':=nJ.2 h;have e5:fE N T M D n O=5:=by unfold fE;rw[au h']
 exact(QV D a n c w h').mono (λe w' ⟨h1,h2⟩=>⟨h2,ae ⟨by rw[e5];decide,by rw[e5];exact h1⟩⟩)
end
section
open Go.ChangeShapes Go.WideShapes Go.ChangeAt Go.RowKit
def mN (k:Int)(n:Nat):Nat:=if 0<=k/\k<(n:Int)then k.toNat else 0
theorem DC (k:Int){n:Nat}(h:1<=n):mN k n<n:=by unfold mN;split<;>omega
theorem DF (k:Int)(n:Nat)(w:ac):ay prog 105 #[Z J k,Z J (n:Int)] w λe w'=>e=az (Z J (mN k n:Int))/\w'=w:=by
 by_cases h1:k<0;·have H:=A (mN k n=0) (by unfold mN;rw[ar (by omega)]);go_enter func105,ntmps105;go_wp2;go_ret;exact⟨by rw[H.o];rfl,rfl⟩
 by_cases h2:(n:Int)<=k;·have H:=A (mN k n=0) (by unfold mN;rw[ar (by omega)]);go_enter func105,ntmps105;go_wp2;go_ret;exact⟨by rw[H.o];rfl,rfl⟩
 have H:=A (((mN k n:Nat):Int)=k) (by unfold mN;rw[au (by omega)];omega);go_enter func105,ntmps105;go_wp2;go_ret;exact⟨by rw[H.o];rfl,rfl⟩
def gb (kd x y z:Int)(r:Nat->ag):Obj:=ah #[Z J kd,Z J x,Z J y,Z J z,r 0,r 1,r 2,r 3,r 4,r 5,r 6,r 7,r 8,r 9] 91
theorem wm {w W:ac}{kd x y z:Int}{r:Nat->ag}{B:Nat}(hb:af B (w.alloc (gb kd x y z r)) W)(hB:w.1.size<B):
  W.cell? ⟨w.1.size,0,V⟩=E (Z J kd)/\W.cell? ⟨w.1.size,1,V⟩=E (Z J x)/\W.cell? ⟨w.1.size,5,V⟩=E (r 1)/\(W.cell? ⟨w.1.size,9,V⟩=E (r 5)/\W.cell? ⟨w.1.size,10,V⟩=E (r 6)/\W.cell? ⟨w.1.size,11,V⟩=E (r 7)/\W.cell? ⟨w.1.size,12,V⟩=E (r 8))/\W.cell? ⟨w.1.size,13,V⟩=E (r 9):=by have hr:W.1[w.1.size]?=E (gb kd x y z r):=(hb.block w.1.size hB).trans (bo w _);have hc:=λi=>bg W w.1.size i _ _ (0,0) hr;exact⟨(hc 0).trans rfl,(hc 1).trans rfl,(hc 5).trans rfl,⟨(hc 9).trans rfl,(hc 10).trans rfl,(hc 11).trans rfl,(hc 12).trans rfl⟩,(hc 13).trans rfl⟩
theorem Db {w:ac}{v:ag}{zs:List Int}(h:aY w v zs):∀z∈zs,bq z:=by obtain⟨_,_,_,_,_,h1,_⟩:=h;exact h1
theorem jK {len:Nat->Nat}{c n d:Nat}(h:d≠c):kr len c n d=len d:=ar h
theorem lK {len:Nat->Nat}{c n:Nat}:kr len c n c=len c+n:=au rfl
def PV (w:ac)(v:ag)(ps:List Pk):Prop:=∃a c,v=U a ps.length c/\ps.length<=c/\c<=9223372036854775807/\∀j p,ps[j]?=E p->∃g y,a=E ⟨g,0,V⟩/\g<w.1.size/\w.cell? ⟨g,j*3,V⟩=E (Z J p.1)/\w.cell? ⟨g,j*3+1,V⟩=E (Z J p.2.1)/\w.cell? ⟨g,j*3+2,V⟩=E y/\bX w y p.2.2
theorem PJ {w:ac}{B:Nat}{v:ag}{vs:List ag}{ps:List Pk}(h:dt w B v vs ps)(hB:∀p∈ps,cY p.2.2):PV w v ps:=by obtain⟨a,c,e1,e2,e3,e4⟩:=h.view;refine⟨a,c,e1,e2,e3,λj p hp=>?_⟩;obtain⟨g,y,f1,f2,f3,f4,f5,f6,f7⟩:=e4 j p hp;exact⟨g,y,f1,f2,f4,f5,f6,nM f7 (hB p (cU hp))⟩
theorem PI {w:ac}{v:ag}{vs:List ag}{ps:List Pk}(h:fw w v vs ps):PV w v ps:=by obtain⟨a,c,e1,e2,e3,e4⟩:=h.view;refine⟨a,c,e1,e2,e3,λj p hp=>?_⟩;obtain⟨g,y,f1,f2,f3,f4,f5,f6,f7⟩:=e4 j p hp;exact⟨g,y,f1,f2,f4,f5,f6,f7⟩
theorem RG {va vb:ag}{ps:List Pk}{w:ac}(ha:PV w va ps)(hb:PV w vb ps):
  ay prog 117 #[va,vb] w λe w'=>e=az (ak true)/\af w.1.size w w':=by
 obtain⟨a,ca,rfl,a1,a2,hA⟩:=ha;obtain⟨b,cb,rfl,b1,b2,ah⟩:=hb;have HG:=I (λj (hj:j<ps.length)=>(show∃p,ps[j]?=E p from⟨_,aQ hj⟩));have am:=I (λ(W:ac)(hW:af w.1.size w W)=>(show∀j p,ps[j]?=E p->∃g y,a=E ⟨g,0,V⟩/\g<w.1.size/\W.cell? ⟨g,j*3,V⟩=E (Z J p.1)/\W.cell? ⟨g,j*3+1,V⟩=E (Z J p.2.1)/\W.cell? ⟨g,j*3+2,V⟩=E y/\bX W y p.2.2 from λj p hp=>by obtain⟨g,y,e1,e2,e4,e5,e6,e7⟩:=hA j p hp;exact⟨g,y,e1,e2,(hW.cell (p:=⟨g,j*3,V⟩) e2).trans e4,(hW.cell (p:=⟨g,j*3+1,V⟩) e2).trans e5,(hW.cell (p:=⟨g,j*3+2,V⟩) e2).trans e6,e7.below hW⟩));have ap:=I (λ(W:ac)(hW:af w.1.size w W)=>(show∀j p,ps[j]?=E p->∃g y,b=E ⟨g,0,V⟩/\g<w.1.size/\W.cell? ⟨g,j*3,V⟩=E (Z J p.1)/\W.cell? ⟨g,j*3+1,V⟩=E (Z J p.2.1)/\W.cell? ⟨g,j*3+2,V⟩=E y/\bX W y p.2.2 from λj p hp=>by obtain⟨g,y,e1,e2,e4,e5,e6,e7⟩:=ah j p hp;exact⟨g,y,e1,e2,(hW.cell (p:=⟨g,j*3,V⟩) e2).trans e4,(hW.cell (p:=⟨g,j*3+1,V⟩) e2).trans e5,(hW.cell (p:=⟨g,j*3+2,V⟩) e2).trans e6,e7.below hW⟩));clear hA ah;obtain⟨n,hn⟩:=aj ps.length;rw[<-hn]at HG a1 b1 ⊢;clear hn;have nn:((n:Int) != (n:Int))=false:=by simp
 go_enter func117,ntmps117;go_wp2;go_loopw [5] (λi wr=>∃j:Nat,j<=n/\i=Z J (j:Int)/\af w.1.size w wr) (λi _=>n-(aA i).toNat);case atStart=>exact⟨0,bi _,rfl,ax _ _⟩
 obtain⟨j,hj,rfl,ae⟩:=hrel;have Y:=I ae;have hsz:=ae.size;clear ae;by_cases hlt:j<n
 ·obtain⟨p,hp⟩:=HG.o j hlt;obtain⟨g,y,rfl,gl,c0,c1,c2,co⟩:=am.o wr Y.o j p hp;obtain⟨g',y',rfl,ar,d0,d1,d2,aa⟩:=ap.o wr Y.o j p hp;obtain⟨f0,f1,O⟩:=p;dsimp only at c0 c1 d0 d1 co aa;obtain⟨av,cv,hy,-⟩:=eC co;obtain⟨aq,cv',ai,-⟩:=eC aa;have au:∀k,(convert 47 9 (U av O.length cv)).run prog (wr.drewN k)=.ok (.string (strOfNums O)) (wr.drewN k):=λk=>by rw[<-hy];exact vA (co.below (below_drewN wr k))
  have aw:∀k,(convert 47 9 (U aq O.length cv')).run prog (wr.drewN k)=.ok (.string (strOfNums O)) (wr.drewN k):=λk=>by rw[<-ai];exact vA (aa.below (below_drewN wr k))
  subst hy;subst ai;clear co aa hp;generalize strOfNums O=sE at*;generalize O.length=nE at*;have jn:(j:Int)<(n:Int):=by omega
  have j0:(0:Int)<=(j:Int):=by omega
  go_upto_region 6 with fail;go_quiet (fail);have BN:=I (Y.o.trans ((below_drewN wr nq).mono hsz));go_wp2;go_roundw;case rel=>exact⟨j+1,by omega,by go_num,BN.o⟩
  simp[aA];omega
 have ej:j=n:=by omega
 subst ej;go_wp2;go_ret;exact⟨rfl,Y.o⟩
theorem Cs {pw m:Nat}{len:Nat->Nat}{T:Nat->List Th}(p:NP)(i:Nat){w:ac}(h:AI w pw m len T)(hp:(T 2)[i]?=E (eb pw p))(hm:m+400<=1000000000000000000)(ax:(len 1+300)*24<=140737488355328)(aA:(len 3+1)*24<=140737488355328):
  ay prog 123 #[aC (E ⟨pw,0,V⟩),aC (E ⟨p.pc,0,V⟩)] w λe w'=>e=az (ak true)/\AI w' pw (m+301) (kr (kr len 1 300) 3 1) T/\af pw w w':=by
 have O:dS w pw p:=h.ny (by decide) hp;obtain⟨F,nx,ls,i1,i2,i3,i4,i5,i6⟩:=h;have hlen:p.s.fl.length<=300:=by have:=O.ok.fl;omega
 have ar:=I (Uy O.bP (by omega) O.ok.flb);obtain⟨x0,x1⟩:=O.cells;have aw:=i1.fe;have l1:=i6 1;have l3:=i6 3;have PA:=I O;have I1:=I i1;have Y:=I (And.intro i2 (And.intro i3 (And.intro i4 (And.intro i5 i6))));clear O i1 i2 i3 i6 hp;go_enter func123,ntmps123;go_wp2_with fail;refine ar.o.mono ?_;rintro e w1 ⟨v,vs,rfl,ah,hb1⟩;have aa:=I (PA.o.below hb1);have aj:=I ah;have B1:=I hb1;have z1:=hb1.size;obtain⟨y0,y1⟩:=aa.o.cells;obtain⟨-,-,-,c19,-⟩:=aa.o.ref.cells;obtain⟨a9,c9,ap,-⟩:=aa.o.ref.fl.view;obtain⟨a1,c1,am,-⟩:=ah.view;have ai:=I (RG (PJ ah PA.o.ft.flb) (PI aa.o.ref.fl));rw[ap]at c19 ai;rw[am]at ai aj ⊢;clear ah hb1 ap am x0 x1;generalize hL:p.s.fl.length=L at*;go_wp2_with fail;refine aH ai.o λw2 hb2=>?_;have B2:=I (B1.o.trans (hb2.mono z1));have ag:=I (aj.o.below hb2);have au:=I (OY (I1.o.below B2.o) ag.o aw (λx hx hf=>by have h1:=(ag.o.low x hx).1;have h2:=I1.o.gO hf;omega) i4 (by omega) (by omega) (by omega));clear hb2 y0 y1 c19;go_wp2_with fail;refine au.o.mono ?_;rintro e w3 ⟨rfl,F',ls',o1,o2,o3,o4,o5,o6,o7,o8⟩;have aq:=I (show AI w3 pw (m+301) (kr (kr len 1 300) 3 1) T/\af pw w w3 from by have q:QS pw w F ls w3 F' ls':=⟨(av.bz (S:=λb=>b=pw\/aU F ls b) B2.o).trans o7 (λb e hb=>by rcases e with e|e|e;exact ae e;have:=(ag.o.low b e).1;omega;exact Q e),o6,λb hb hf=>o8 b (by have:=B2.o.size;omega) (λe=>by have:=(ag.o.low b e).1;omega) hf⟩;refine AI.zm (m:=m) (len:=len) I1.o Y.o.1 q o1 (o2 Y.o.2.1) ⟨by omega,by have:=Y.o.2.2.2.1;omega⟩ (λc=>?_);by_cases e3:c=3;subst e3;rw[o5,lK,jK (by decide)];omega;rw[jK e3];by_cases e1:c=1;subst e1;rw[o4,lK];omega;rw[o3 c e1 e3,jK e1];exact Y.o.2.2.2.2 c);clear o1 o2 o3 o4 o5 o6 o7 o8;go_wp2;go_ret;exact⟨rfl,aq.o⟩
theorem SE {T:Nat->List Th}{j i:Nat}{t:Th}:nu T j i t j=(T j).set i t:=au rfl
theorem SF {T:Nat->List Th}{j i d:Nat}{t:Th}(h:d≠j):nu T j i t d=T d:=ar h
theorem C_ {ls:Nat->List Ow}{len:Nat->Nat}{c:Nat}{o:Ow}(h:∀c,(ls c).length<=len c):∀d,((bn ls c (ls c++[o])) d).length<=kr len c 1 d:=by intro d;unfold bn;by_cases e:d=c;subst e;rw[au rfl,cy,lK];have:=h d;simp;omega;rw[ar e,jK e];exact h d
theorem Dr {pw m:Nat}{len:Nat->Nat}{T:Nat->List Th}(p:NP)(i:Nat)(u:Int){w:ac}(h:AI w pw m len T)(hp:(T 2)[i]?=E (eb pw p))(hm:m+1<=1000000000000000000)(hl:(len 2+1)*24<=140737488355328):
  ay prog 124 #[aC (E ⟨pw,0,V⟩),aC (E ⟨p.pc,0,V⟩),Z J u] w λe w'=>e=az (ak true)/\AI w' pw (m+1) (kr len 2 1) T/\af pw w w':=by
 have O:dS w pw p:=h.ny (by decide) hp;obtain⟨F,nx,ls,i1,i2,i3,i4,i5,i6⟩:=h;have au:=I (UD O.bP O.ok u);obtain⟨x0,x1⟩:=O.cells;have ax:=i1.fe;have l2:=i6 2;have PA:=I O;have I1:=I i1;have Y:=I (And.intro i2 (And.intro i3 (And.intro i4 (And.intro i5 i6))));clear O i1 i2 i3 i6 hp;go_enter func124,ntmps124;go_wp2_with fail;refine au.o.mono ?_;rintro e w1 ⟨va,rfl,ae,hb1⟩;have aa:=I (PA.o.below hb1);have B1:=I hb1;have z1:=hb1.size;obtain⟨y0,y1⟩:=aa.o.cells;have ah:=I (QU aa.o.ref aa.o.ok u);obtain⟨a1,c1,am⟩:=a_ ae;have OA:=I ae;rw[am]at OA ⊢;clear x0 x1 ae hb1 am;obtain⟨ag,hE⟩:=aj (km p.cl p.n p.s u);rw[<-hE]at OA ah ⊢;clear hE;generalize ai:ag.length=nE at*;have ar:=I ai;clear ai;go_wp2_with fail;refine ah.o.mono ?_;rintro e w2 ⟨vb,rfl,hib,hw2⟩;rw[hw2];obtain⟨a2,c2,ap,-⟩:=cK hib;have SI:=I (RD (U a1 nE c1) (by
  have h1:=OA.o;rw[<-ar.o]at h1 ⊢;have aw:∀x∈ag,iK x:=by obtain⟨_,_,_,_,_,h4,_⟩:=hib;exact h4
  exact iL h1 aw) hib);rw[ap]at SI ⊢;clear hib ap hw2;go_wp2_with fail;refine aH SI.o λw3 hb3=>?_;have B3:=I (B1.o.trans (hb3.mono z1));have O3:=I (bf (S:=λ_=>False) OA.o (av.bz hb3) (λ_ _ h=>h));clear hb3 y0 y1;go_wp2_with fail;refine(OW (I1.o.below B3.o) i4 (by omega) (by omega) O3.o ax (λb hb hf=>by have:=O3.o.lt b hb;have:=I1.o.gO hf;omega)).mono ?_;rintro e w4 ⟨rfl,F',o,k1,k2,k3,k4⟩;have aq:=I (show AI w4 pw (m+1) (kr len 2 1) T/\af pw w w4 from by
  refine AI.zm (m:=m) (len:=len) I1.o Y.o.1 ((QS.refl.below B3.o).O_ (λb hb=>(O3.o.lt b hb).1) k4 k3 k2) k1 ?_ ⟨by omega,by have:=Y.o.2.2.2.1;omega⟩ (C_ Y.o.2.2.2.2);have e:(bn ls 2 (ls 2++[o])) 1=ls 1:=by simp[bn]
  rw[e];exact Y.o.2.1);clear k1 k2 k3 k4;go_wp2;go_ret;exact⟨rfl,aq.o⟩
theorem EZ {pw m:Nat}{len:Nat->Nat}{T:Nat->List Th}{W1 w2 W:ac}{va vb:ag}(h:AI W1 pw m len T)(hp:dS W1 pw p)(ht:Told W1 w2 va vb p.s.q.o.2.2.1 p.s.q.o.2.2.2)(hb:af w2.1.size w2 W)(hm:m+2<=1000000000000000000)(hl:(len 0+2)*24<=140737488355328):
  ay prog 58 #[aC (E ⟨pw,0,V⟩),aD #[Z J p.s.q.o.1,Z J p.s.q.o.2.1,va,vb],aD #[Z J p.s.q.o.1,Z J p.s.q.o.2.1,p.R.rv.set,p.R.rv.sum]] W λe w'=>e=az (ak true)/\AI w' pw (m+2) (kr len 0 2) T/\af pw W1 w':=by
 obtain⟨F,nx,ls,i1,i2,i3,i4,i5,i6⟩:=h;obtain⟨oa,ob,hd,hb1⟩:=ht;have O:af W1.1.size W1 W:=hb1.trans (hb.mono hb1.size);have zW:=O.size;have aa:=i1.fe;have l0:=i6 0;have ah:=bf (S:=λ_=>False) oa (av.bz hb) (λ_ _ h=>h);have ai:=bf (S:=λ_=>False) ob (av.bz hb) (λ_ _ h=>h);have Y:∀x,va.ownBlock=E x\/vb.ownBlock=E x->W1.1.size<=x:=λx hx=>by rcases hx with hx|hx;exact(oa.lt x hx).1;exact(ob.lt x hx).1
 refine(Tz p.s.q.o.1 p.s.q.o.2.1 va vb W1.1.size (i1.below O) i4 (by omega) (by omega) ah ai hd aa (λx hx hf=>by have:=Y x hx;have:=i1.gO hf;omega) (Db hp.ref.ba.set) (Db hp.ref.ba.sum) (hp.ref.ba.set.below O) (hp.ref.ba.sum.below O)).mono ?_;rintro e w' ⟨rfl,F',ls',st⟩;have q:QS pw W1 F ls w' F' ls':=⟨(av.bz (S:=λb=>b=pw\/aU F ls b) O).trans st.aV (λb e hb=>by rcases e with e|e|e|e;exact ae e;have:=Y b (ae e);omega;have:=Y b (Q e);omega;exact Q e),st.fs,λb hb hf=>st.aS b (by omega) (λe=>by have:=Y b (ae e);omega) (λe=>by have:=Y b (Q e);omega) hf⟩;refine⟨rfl,AI.zm (m:=m) (len:=len) i1 i2 q st.inv (by rw[st.other 1 (by decide)];exact i3) ⟨by omega,by omega⟩ (λc=>?_)⟩;by_cases e:c=0;subst e;rw[st.len,lK];omega;rw[st.other c e,jK e];exact i6 c
theorem dS.outs {w:ac}{pw:Nat}(h:dS w pw p):(w.cell? ⟨p.yb,4,V⟩=E (aC (E ⟨p.R.ys,0,V⟩))/\p.R.ys<w.1.size/\p.yb<w.1.size)/\w.cell? ⟨p.R.ys,6,V⟩=E (Z J p.s.q.o.1)/\w.cell? ⟨p.R.ys,7,V⟩=E (Z J p.s.q.o.2.1)/\w.cell? ⟨p.R.ys,8,V⟩=E p.R.rv.set/\w.cell? ⟨p.R.ys,9,V⟩=E p.R.rv.sum:=by refine⟨⟨h.ref.cells.2.1,(h.ref.ba.aS p.R.ys (ae (ae rfl))).2,h.ref.blt⟩,(h.ref.ba.at_.cell 6).trans ?_,(h.ref.ba.at_.cell 7).trans ?_,h.ref.ba.at_.cell 8,h.ref.ba.at_.cell 9⟩;rw[<-h.ref.ba.st];rfl;rw[<-h.ref.ba.ro];rfl
theorem UK {pw m:Nat}{len:Nat->Nat}{T:Nat->List Th}(p:NP)(i:Nat){w:ac}(h:AI w pw m len T)(hp:(T 2)[i]?=E (eb pw p))(hm:m+400<=1000000000000000000)(hl:∀c,(len c+400)*24<=140737488355328):
  ay prog 59 #[aC (E ⟨pw,0,V⟩),aC (E ⟨p.pc,0,V⟩)] w λe w'=>e=az (ak true)/\AI w' pw (m+400) (λc=>len c+400) T/\af pw w w':=by
 have HP:=I hp;have HL:=I hl;have aM:=(show dS w pw p from h.ny (by decide) hp).cast.le;have aB:=(show dS w pw p from h.ny (by decide) hp).cast.num;have HF:=I (Cs p i h hp hm (by have:=hl 1;omega) (by have:=hl 3;omega));have aD:=I aB;clear h hp hl aB;go_enter func59,ntmps59;go_wp2_with fail;refine HF.o.mono ?_;rintro e w1 ⟨rfl,ha1,hb1⟩;obtain⟨l1,av⟩:∃l1:Nat->Nat,∀c,l1 c=len c+301:=⟨λc=>len c+301,λ_=>rfl⟩;have L1:=I av;clear av;have A1:=I (ha1.mono (m':=m+301) (len':=l1) (aw _) (λc=>by rw[L1.o];by_cases e3:c=3;subst e3;rw[lK,jK (by decide)];omega;rw[jK e3];by_cases e1:c=1;subst e1;rw[lK];omega;rw[jK e1];omega));have B1:=I hb1;have aa:dS w1 pw p:=ha1.ny (by decide) HP.o;have ai:=I aa;obtain⟨x0,x1⟩:=aa.cells;have aF:=I (Fx aa.bP aa.ok);clear ha1 hb1 aa;go_wp2_with fail;refine aF.o.mono ?_;rintro e w2 ⟨va,vb,rfl,ae⟩;have hb2:=ae.2.2.2;have aq:=ai.o.below hb2;have HST:=bj w2 λW hb=>EZ A1.o ai.o ae hb (by omega) (by have h1:=HL.o 0;have h2:=L1.o 0;omega);obtain⟨a1,k1,f1⟩:=a_ ae.1;obtain⟨a2,k2,f2⟩:=a_ ae.2.1;obtain⟨a3,k3,f3⟩:=nb ai.o.ref.ba.set;obtain⟨a4,k4,f4⟩:=nb ai.o.ref.ba.sum;obtain⟨W3,hW3⟩:=aj (w2.alloc (ah #[Z J p.s.q.o.1,Z J p.s.q.o.2.1,va,vb] 35));have hb3:af w2.1.size w2 W3:=by rw[hW3];exact(ax _ _).alloc (aw _) _
 have t3:W3.1[w2.1.size]?=E (ah #[Z J p.s.q.o.1,Z J p.s.q.o.2.1,va,vb] 35 (0,0)):=by rw[hW3];exact bo w2 _
 have am:=aq.below hb3;obtain⟨y0,y1⟩:=am.cells;obtain⟨⟨v4,aL,aK⟩,v6,v7,v8,v9⟩:=am.outs;have ag:=I (HST.o W3.drew hb3.drew);rw[f3]at v8 ag;rw[f4]at v9 ag;rw[f1,f2]at hW3 t3 ag;rw[f1,f2];obtain⟨⟨t0,t1,t2,t33⟩,-⟩:=gg t3;have aH:=I hW3;clear ae hb2 hW3 hb3 t3 aq am x0 x1 f1 f2 f3 f4;generalize p.s.q.o.1=st at*;generalize p.s.q.o.2.1=ro at*;generalize p.s.q.o.2.2.1.length=n1 at*;generalize p.s.q.o.2.2.2.length=n2 at*;go_upto_region 3 with fail;rw[<-aH.o];go_cut [7]from 18 to 30 (λq wc=>q=ak true/\AI wc pw (m+303) (λc=>len c+303) T/\af pw w wc);case first=> go_region_with (go_at_call 58;refine ag.o.mono ?_;rintro e w4 ⟨rfl,f1,f2⟩;have Y:=I (show AI w4 pw (m+303) (λc=>len c+303) T/\af pw w w4 from⟨f1.mono (by omega) (λc=>by by_cases e:c=0;subst e;rw[lK,L1.o];show len 0+301+2<=len 0+303;omega;rw[jK e,L1.o];show len c+301<=len c+303;omega),B1.o.trans f2⟩);clear f1 f2);all_goals(go_wp2;go_meet;exact⟨rfl,Y.o⟩)
 obtain⟨hq,ar,au⟩:=hcut;subst hq;have A5:=I ar;have B5:=I au;clear ar au y0 y1 v4 aL aK v6 v7 v8 v9 t0 t1 t2 t33;obtain⟨lk,hlk⟩:∃lk:Nat->Nat->Nat,∀k c,lk k c=len c+303+k:=⟨λk c=>len c+303+k,λ_ _=>rfl⟩;have O:=I hlk;have A6:=I (A5.o.mono (m':=m+303+0) (len':=lk 0) (aw _) (λc=>by rw[O.o];exact aw _));clear hlk;go_wp2;go_loopw [8] (λj wr=>∃k:Nat,k<=p.n+2/\j=Z J (k:Int)/\AI wr pw (m+303+k) (lk k) T/\af pw w wr) (λj _=>p.n+2-(aA j).toNat);case atStart=>exact⟨0,bi _,rfl,A6.o,B5.o⟩
 obtain⟨k,hk,rfl,ha,hb⟩:=hrel;have AR:=I ha;have BR:=I hb;have ap:dS wr pw p:=ha.ny (by decide) HP.o;obtain⟨y0,y1⟩:=ap.cells;obtain⟨c0,-⟩:=ap.ref.cells;rw[aD.o]at c0;clear ha hb ap;by_cases hlt:k<p.n+2
 ·have aG:=I (Dr p i (k:Int) AR.o HP.o (by omega) (by have h1:=HL.o 2;have h2:=O.o k 2;omega));have aI:(k:Int)<=(p.n:Int)+1:=by omega
  generalize aJ:p.n=nn at*;go_wp2_with fail;refine aG.o.mono ?_;rintro e w6 ⟨rfl,f1,f2⟩;have Y:=I (show AI w6 pw (m+303+(k+1)) (lk (k+1)) T/\af pw w w6 from⟨f1.mono (by omega) (λc=>by by_cases e:c=2;subst e;rw[lK,O.o,O.o];omega;rw[jK e,O.o,O.o];omega),BR.o.trans f2⟩);clear f1 f2 y0 y1 c0;go_wp2;go_roundw;case rel=>exact⟨k+1,by omega,by go_num,Y.o⟩
  simp[aA];omega
 have Y:=A (AI wr pw (m+400) (λc=>len c+400) T) (AR.o.mono (by omega) (λc=>by rw[O.o];show len c+303+k<=len c+400;omega));have aI:¬(k:Int)<=(p.n:Int)+1:=by omega
 generalize aJ:p.n=nn at*;go_wp2;go_ret;exact⟨rfl,Y.o,BR.o⟩
theorem Dw {w W:ac}{kd x y z:Int}{r:Nat->ag}{B:Nat}(hb:af B (w.alloc (gb kd x y z r)) W)(hB:w.1.size<B):W.cell? ⟨w.1.size,2,V⟩=E (Z J y):=by have hr:W.1[w.1.size]?=E (gb kd x y z r):=(hb.block w.1.size hB).trans (bo w _);exact(bg W w.1.size 2 _ _ (0,0) hr).trans rfl
theorem Dx {cl:Nat->Cl}{n:Nat}(h:gH C s.q.o)(d:Int)(zs:List Int):gH C (eo C cl n s d zs).q.o:=by rw[(Qc C cl n s d zs).1];exact h
theorem OB {cl:Nat->Cl}{n:Nat}(h:gH C s.q.o)(u:Int):gH C (jY C cl n s u).q.o:=by
 unfold jY;split
 ·cases e:s.fl[u.toNat]? with
  |none=>exact h
  |some p=>exact Dx (s:={s with fl:=s.fl.eraseIdx u.toNat}) h _ _
 exact h
theorem OD (h:gH C s.q.o)(u:Int):gH C (jb s u).q.o:=by unfold jb;split<;>exact h
theorem OC (h:gH C s.q.o)(u:Int):gH C (ja s u).q.o:=by
 unfold ja;split
 ·split;·cases s.fl[u.toNat]? <;>exact h
  exact h
 exact h
theorem OA {n:Nat}(h:gH C s.q.o)(u:Int):gH C (kE n s u).q.o:=by unfold kE;split<;>exact h
theorem OE {cl:Nat->Cl}{n:Nat}(h:gH C s.q.o)(u:Int)(zs:List Int):gH C (kJ C cl n s u zs).q.o:=by unfold kJ;split;exact Dx h _ _;exact h
def gX (k:Nat)(p:NP):Prop:=p.R.L.length<=k/\∀j,j<p.n->(p.R.hh j).length<=k
def iY (pw m k i:Nat)(len:Nat->Nat)(T:Nat->List Th)(p:NP)(w w':ac):Prop:=∃p',AI w' pw m len (nu T 2 i (eb pw p'))/\gX (k+1) p'/\af pw w w'
theorem gX.more {k:Nat}{w w':ac}{pw:Nat}{s':Sn}{M':SM}{R':RM}(h:gX k p)(t:df w w' pw p.yb p.n p.C p.cl s' p.R R'):gX (k+1) ⟨p.pc,p.bx,p.yb,p.n,p.C,p.cl,s',M',R'⟩:=
 ⟨by have h1:=t.logs.1;have h2:=h.1;show R'.L.length<=k+1;omega,λj hj=>by have h1:=t.logs.2 j hj;have h2:=h.2 j hj;show(R'.hh j).length<=k+1;omega⟩
theorem Ds {W1 w5 w8:ac}{pw m k i:Nat}{len:Nat->Nat}{T:Nat->List Th}{p':NP}(h:AI W1 pw m len T)(hp:(T 2)[i]?=E (eb pw p))(ai:p'.pc=p.pc)(ah:dS w5 pw p')(Y:av (λx=>iH p x) W1 w5)(aa:∀x,iH p' x->iH p x\/W1.1.size<=x)(O:af w5.1.size w5 w8)(ae:gX (k+1) p'):iY pw m k i len T p W1 w8:=by obtain⟨F,nx,ls,i1,i2,i3,i4,i5,i6⟩:=h;have R:=Fs (t':=eb pw p') (N:=λ_=>False) (F':=F) (ls':=ls) i1 i2 (by decide) hp ai (zb pw p') ah Y aa (λb e=>e.elim) O (λ_ _=>rfl) (av.refl _ _) (λb _ _ e=>e);have ag:dS W1 pw p:=(i2.ok 2 (by decide) _ (cU hp)).2;have iw:bH w5 pw F nx ls:=i1.aV Y (λb hb=>⟨by have:=ag.lo b hb;omega,λhf'=>by obtain⟨tg,t1,t2,t3⟩:=i2.tag;have a:=t1 2 i _ b (by decide) hp hb;have b':=t3 b hf';omega⟩);exact⟨p',⟨F,nx,ls,iw.below O,R.1,i3,i4,i5,i6⟩,ae,R.2⟩
theorem Gy {pw m k:Nat}(i:Nat) {len:Nat->Nat} {T:Nat->List Th}  (x y z:Int) (r:Nat->ag) {w:ac} (h:AI w pw m len T) (hp:(T 2)[i]? =E (eb pw p)) (am:gX k p) (hk:(k+1)*48<=140737488355328) (kd:Int) (aG:kd=20\/kd=21\/kd=22\/kd=25):
  ay prog 121 #[aC (E ⟨pw,0,V⟩),aC (E ⟨p.pc,0,V⟩),aD #[Z J kd,Z J x,Z J y,Z J z,r 0,r 1,r 2,r 3,r 4,r 5,r 6,r 7,r 8,r 9]] w λe w'=>e= az (ak true)/\iY pw m k i len T p w w':=by
 have O:dS w pw p:=h.ny (by decide) hp;obtain ⟨s',ah,vf,Y,hf,hv,hr,av,au,out'⟩:∃(s':Sn) (ah:Int) (vf Y:FuncId),(kd=20/\vf=32/\Y=182\/kd=21/\vf=33/\Y=183\/kd=22/\vf=34/\Y=184\/kd=25/\vf=36/\Y=187)/\(∀W,dS W pw p->ay prog vf #[aC (E ⟨p.bx,0,V⟩),Z J y] W λe w'=>e= az (Z J ah)/\∃M',cL W w' p.bx p.n p.C p.cl s' p.M M')/\(∀W,bT W pw p.yb p.n p.C p.cl p.s p.R->ay prog Y #[aC (E ⟨p.yb,0,V⟩),Z J y] W λe w'=>e= az (Z J ah)/\∃R',df W w' pw p.yb p.n p.C p.cl s' p.R R')/\bU p.C p.cl p.n s'/\eA p.n s'/\gH p.C s'.q.o:=by rcases aG with rfl|rfl|rfl|rfl;exact ⟨jY p.C p.cl p.n p.s y,kF p.s y,32,182,ae ⟨rfl,rfl,rfl⟩,λW h=>Uv h.bP O.ok y,λW h=>Qi h O.ok O.ft (by have h1:=am.1;omega) (λj hj=>by have h1:=am.2 j hj;omega) y,O.ok.ym y O.ft.flb,O.ft.ym O.ok y,OB O.o y⟩;exact ⟨jb p.s y,kF p.s y,33,183,Q (ae ⟨rfl,rfl,rfl⟩),λW h=>Ux h.bP O.ok y,λW h=>Ql h (by have:=O.ok.fl;omega) y,O.ok.drop y,O.ft.drop y,OD O.o y⟩;exact ⟨ja p.s y,mD p.s y,34,184,Q (Q (ae ⟨rfl,rfl,rfl⟩)),λW h=>Uw h.bP y,λW h=>Qj h y,O.ok.double y,O.ft.double y,OC O.o y⟩;exact ⟨kE p.n p.s y,qo p.n y,36,187,Q (Q (Q ⟨rfl,rfl,rfl⟩)),λW h=>Uu h.bP O.ok y,λW h=>Qa h O.ok y,O.ok.tI y,O.ft.tI y,OA O.o y⟩
 obtain ⟨W0,hW0⟩:=aj (w.alloc (gb kd x y z r));have hb0:af w.1.size w W0:=by rw[hW0];exact (ax _ _).alloc (aw _) _
 have z0:w.1.size<W0.1.size:=by rw[hW0];simp
 have ar:=bj W0 λW hb=>And.intro (wm (W:=W) (by rw[<-hW0];exact hb) z0).1 (Dw (W:=W) (by rw[<-hW0];exact hb) z0);have ap:=O.below hb0;have aH:=ap.lt (x:=p.pc) (ae rfl);obtain ⟨x0,x1⟩:=ap.cells;have D0:=(ax W0.1.size W0).drew;have hd:=ap.below D0;have HV:=I (hv _ hd);have HR:=I (λ(w3:ac) (M':SM) (t:cL W0.drew w3 p.bx p.n p.C p.cl s' p.M M') (w4:ac) (hb4:af w3.1.size w3 w4)=>(show ay prog Y #[aC (E ⟨p.yb,0,V⟩),Z J y] w4 (λe w'=>e= az (Z J ah)/\iY pw m k i len T p w w') from by have z3:=t.aV.size;refine (hr w4 ((hd.ref.keep z3 (λx hx=>t.aV.block x (hd.lt (Q (Q hx))) (λe=>hd.tE x (ae e) hx)) (λx hx=>t.aV.block x (by have:=hd.lt (x:=p.pc) (ae rfl);have:=hd.lo p.pc (ae rfl);omega) (λe=>by have:=hd.lo x (Q (ae (ae e)));omega))).below hb4)).mono (λe w5 ⟨h1,R',t5⟩=>⟨h1, ?_⟩);obtain ⟨q1,q2,q3⟩:=za O (hb0.trans (D0.mono hb0.size)) t hb4 t5 av au out';exact Ds (p':=⟨p.pc,p.bx,p.yb,p.n,p.C,p.cl,s',M',R'⟩) h hp rfl q1 q2 (λx hx=>by have aJ:=hb0.size;have z4:=hb4.size;have zd:W0.drew.1.size=W0.1.size:=rfl;rcases q3 x hx with q|q|q;exact ae q;exact Q (by omega);exact Q (by omega)) (ax _ _) (am.more t5)));have aA:=I (λ(w3:ac) (M':SM) (t:cL W0.drew w3 p.bx p.n p.C p.cl s' p.M M')=>(show (w3.cell? ⟨p.pc,1,V⟩=E (aC (E ⟨p.yb,0,V⟩))/\p.pc<w3.1.size)/\w3.cell? ⟨w.1.size,2,V⟩=E (Z J y)/\w.1.size<w3.1.size from by have z3:=t.aV.size;have zd:W0.drew.1.size=W0.1.size:=rfl;have hpl:=hd.lt (x:=p.pc) (ae rfl);refine ⟨⟨(ez (w:=W0.drew) (a:=⟨p.pc,1,V⟩) (t.aV.block p.pc hpl (λe=>hd.qh.1 (ae e)))).trans hd.cells.2,by omega⟩,(ez (w:=W0.drew) (a:=⟨w.1.size,2,V⟩) (t.aV.block w.1.size (by omega) (λe=>by have:=O.lt (x:=w.1.size) (Q (ae (ae e)));omega))).trans (ar.o _ D0).2,by omega⟩));obtain ⟨q0,q2⟩:=ar.o W0 (ax _ _);obtain ⟨aa,hQ⟩:∃aa:ag->ac->Prop,aa=λq wc=>q= Z J ah/\∃M',cL W0.drew wc p.bx p.n p.C p.cl s' p.M M':=⟨_,rfl⟩;unfold gb at hW0;generalize p.pc=pc at*;rcases hf with ⟨rfl,rfl,rfl⟩|⟨rfl,rfl,rfl⟩|⟨rfl,rfl,rfl⟩|⟨rfl,rfl,rfl⟩
 all_goals
  have aF:=I hW0;clear h hp am hb0 hW0 O ap hd hv hr av au out' D0;go_enter func121,ntmps121;go_upto_region 3 with fail;rw[<-aF.o]
  first
  |(go_upto_region 5 with fail;go_cut [7] from 15 to 21 aa)
  |(go_upto_region 8 with fail;go_cut [7] from 31 to 37 aa)
  |(go_upto_region 11 with fail;go_cut [7] from 47 to 53 aa)
  |(go_upto_region 25 with fail;go_cut [7] from 107 to 113 aa)
  case first=> go_region_with ((first|go_at_call 32|go_at_call 33|go_at_call 34|go_at_call 36);refine HV.o.mono ?_;rintro e w3 ⟨rfl,ai⟩;have aq:=I ai;clear ai);all_goals (go_wp2;go_meet;rw[hQ];exact ⟨rfl,aq.o⟩)
  rw[hQ] at hcut;obtain ⟨hq,M',ht⟩:=hcut;subst hq;have aB:=I (HR.o wc M' ht wc.drew (ax wc.1.size wc).drew);obtain ⟨⟨y1,hpl⟩,y2,aI⟩:=aA.o wc M' ht;clear ht x0 x1 q0 q2 hQ;first|go_upto_region 6 with fail|go_upto_region 9 with fail|go_upto_region 12 with fail|go_upto_region 26 with fail
  go_region_with ((first|go_at_call 182|go_at_call 183|go_at_call 184|go_at_call 187);refine aB.o.mono ?_;rintro e w5 ⟨rfl,ai⟩;have aq:=I ai;clear ai);all_goals (go_wp2_with (go_at_call 80;refine (qF).mono ?_;rintro e w' ⟨rfl,rfl⟩);go_ret;exact ⟨by simp,aq.o⟩)
theorem ig.Br {w w':ac}{B g n:Nat}{G:Nat->Nat->Nat}{D:Nat->DD}(h:ig w B g n G D)(hb:af w.1.size w w'):ig w' B g n G D:=⟨λi k hi hk=>(hb.block _ (h.lt i k hi hk)).trans (h.row i k hi hk),h.lo,h.inj⟩
theorem ig.He {w:ac}{B B' g n:Nat}{G:Nat->Nat->Nat}{D:Nat->DD}(h:ig w B g n G D)(hB:B'<=B):ig w B' g n G D:=⟨h.row,λi k hi hk=>by have:=h.lo i k hi hk;exact⟨by omega,this.2⟩,h.inj⟩
def Gp (W w':ac)(O:Int)(n:Nat)(C:Cf)(cl:Nat->Cl)(q1 q2:ag):Prop:=
 af W.1.size W w'/\q2=Z J O/\((O≠0/\q1=aC V)\/(O=0/\∃b M,q1=aC (E ⟨b,0,V⟩)/\bM w' b n C cl (g_ cl n) M/\∀x,dx b n M x->W.1.size<=x))
def Gq (pw:Nat)(W w':ac)(O:Int)(n:Nat)(C:Cf)(cl:Nat->Cl)(q1 q2:ag):Prop:=
 af W.1.size W w'/\q2=Z J O/\((O≠0/\q1=aC V)\/(O=0/\∃b M,q1=aC (E ⟨b,0,V⟩)/\bT w' pw b n C cl (g_ cl n) M/\(∀x,cC b n M x->W.1.size<=x)/\M.L=[]/\∀j,j<n->M.hh j=[]))
theorem NV {N T M D:Int}{n c:Nat}{vi vm vs:Nat->ag}{O:Nat->DD}{w:ac}(hD:jP w a n c vi vm vs O):
  ay prog 28 #[aD #[Z J N,Z J T,Z J M,Z J D],U a n c] w λe w'=>∃q1 q2,e=az (br #[q1,q2])/\Gp w w' (fE N T M D n O) n ⟨N,T,M,D⟩ (fN N T M O) q1 q2:=by refine(UH hD).mono ?_;rintro e w' ⟨hb,⟨h1,rfl⟩|⟨h1,b,rfl,m,h2,h3⟩⟩;exact⟨_,_,rfl,hb,rfl,ae ⟨h1,rfl⟩⟩;exact⟨_,_,rfl,hb,by rw[h1],Q ⟨h1,b,m,rfl,h2,h3⟩⟩
theorem NW {pw:Nat}{N T M D:Int}{n c:Nat}{vi vm vs:Nat->ag}{O:Nat->DD}{w:ac}(aa:pw<w.1.size)(hD:jP w a n c vi vm vs O)(Y:∀j,j<n->∀x,(((O j).inp≠[]/\(vi j).ownBlock=E x)\/((O j).sm≠[]/\(vm j).ownBlock=E x)\/((O j).ss≠[]/\(vs j).ownBlock=E x))->x<pw):
  ay prog 119 #[aD #[Z J N,Z J T,Z J M,Z J D],U a n c] w λe w'=>∃q1 q2,e=az (br #[q1,q2])/\Gq pw w w' (fE N T M D n O) n ⟨N,T,M,D⟩ (fN N T M O) q1 q2:=by refine(PK aa hD Y).mono ?_;rintro e w' ⟨hb,⟨h1,rfl⟩|⟨h1,b,rfl,m,h2⟩⟩;exact⟨_,_,rfl,hb,rfl,ae ⟨h1,rfl⟩⟩;exact⟨_,_,rfl,hb,by rw[h1],Q ⟨h1,b,m,rfl,h2⟩⟩
def AY (pw m k:Nat)(len:Nat->Nat)(T:Nat->List Th)(K:List NP)(w w':ac):Prop:=∃(T':Nat->List Th)(K':List NP),AI w' pw m len T'/\T' 2=K'.map (eb pw)/\(∀j,j≠2->T' j=T j)/\K'.length<=K.length+1/\(∀q∈K',gX k q)/\af pw w w'
theorem NU {ls:Nat->List Ow}{os:List Ow}{o:Ow}{len:Nat->Nat}{n:Nat}(h:∀c,(ls c).length<=len c)(ho:os.length=3*n):∀c,((bn (bn ls 0 (ls 0++os)) 4 (ls 4++[o])) c).length<=len c+(3*n+1):=by intro c;have hc:=h c;unfold bn;by_cases e4:c=4;subst e4;rw[au rfl,cy];simp;omega;rw[ar e4];by_cases e0:c=0;subst e0;rw[au rfl,cy];omega;rw[ar e0];omega
theorem NY {W0 w2 w3 w4 w5 O:ac}{pw n nq g bx yb:Nat}{T:Nat->List Th}{F F':Nat->ag}{nx:Int}{ls ls':Nat->List Ow}{G:Nat->Nat->Nat}{cl:Nat->Cl}{M:SM}{R:RM}
  (i1:bH W0 pw F nx ls)(i2:fU W0 pw F ls T)(qq:QS pw W0 F ls O F' ls')
  (j4:av (λb=>b=pw\/b=g\/(∃q,q<3*nq/\b=gq G q)\/aU F ls b) w5 O)(j5:∀b,b<w5.1.size->b≠g->(∀q,q<3*nq->b≠gq G q)->¬aU F ls b->¬aU F' ls' b)
  (hg:W0.1.size<=g/\g<w2.1.size)(ah:∀q,q<3*nq->W0.1.size<=gq G q/\gq G q<w2.1.size)(aq:W0.1.size<=w2.1.size)(z23:w2.1.size<=w3.1.size)(ai:af w3.1.size w3 w4)(Y:af w4.1.size w4 w5)
  (k1:bM w3 bx n C cl s M)(k2:∀x,dx bx n M x->w2.1.size<=x)(r1:bT w4 pw yb n C cl s R)(r2:∀x,cC yb n R x->w3.1.size<=x):
  bM O bx n C cl s M/\bT O pw yb n C cl s R/\(∀x,dx bx n M x\/cC yb n R x->pw<x/\uZ F' ls' T x)/\∀x,dx bx n M x->¬cC yb n R x:=by
 have ar:=ai.size;have au:=Y.size;have aj:=j4.size;have ap:=i1.fe;have ae:∀b,aU F ls b->pw<b/\b<W0.1.size:=λb hb=>i1.gO hb;have aa:∀x,dx bx n M x->w2.1.size<=x/\x<w3.1.size:=λx hx=>⟨k2 x hx,k1.low hx⟩;have rl:∀x,cC yb n R x->w3.1.size<=x/\x<w4.1.size:=λx hx=>⟨r2 x hx,(r1.low x hx).2⟩;have keep:∀x,w2.1.size<=x->x<w5.1.size->O.1[x]?=w5.1[x]? :=λx h1 h2=>j4.block x h2 (λe=>by rcases e with e|e|⟨q,hq,e⟩|e;omega;omega;have:=ah q hq;omega;have:=ae x e;omega);have ak:∀x,x<pw->O.1[x]?=w5.1[x]? :=λx h1=>j4.block x (by omega) (λe=>by rcases e with e|e|⟨q,hq,e⟩|e;omega;omega;have:=ah q hq;omega;have:=ae x e;omega);have am:∀x,dx bx n M x\/cC yb n R x->w2.1.size<=x/\x<w4.1.size:=λx hx=>by rcases hx with hx|hx;have:=aa x hx;omega;have:=rl x hx;omega
 refine⟨((k1.below ai).below Y).keep aj (λx hx=>?_),(r1.below Y).keep aj (λx hx=>?_) ak,λx hx=>?_,λx hx hy=>?_⟩;have:=aa x hx;exact keep x (by omega) (by omega);have:=rl x hx;exact keep x (by omega) (by omega);have hr:=am x hx;refine⟨by omega,λj i u hj hu hf=>?_,λj hj e=>?_,j5 x (by omega) (by omega) (λq hq e=>by have:=ah q hq;omega) (λe=>by have:=ae x e;omega)⟩;obtain⟨ok,at_⟩:=i2.ok j hj u (cU hu);have:=ok.lt W0 x at_ hf;omega;rw[qq.fs j hj]at e;have:=((i2.row j hj).lt x e).2;omega;have:=aa x hx;have:=rl x hy;omega
theorem Sr {pw m:Nat}(k:Nat){len:Nat->Nat}{T:Nat->List Th}(K:List NP)(x y z:Int)(r:Nat->ag)(N Tt M Dd:Int){aS:Option Addr}{O cD:Nat}{vi vm vs:Nat->ag}{D:Nat->DD}{w:ac}(h:AI w pw m len T)(hK:T 2=K.map (eb pw))(bp:∀q∈K,gX k q)
  (e5:r 5=Z J N)(e6:r 6=Z J Tt)(e7:r 7=Z J M)(e8:r 8=Z J Dd)(e9:r 9=U aS O cD)
  (hD:jP w aS O cD vi vm vs D)(hDl:∀i k,i<O->k<3->(dl (D i) k).length*8<=140737488351232)(bq:∀i,i<O->∀x,(((D i).inp≠[]/\(vi i).ownBlock=E x)\/((D i).sm≠[]/\(vm i).ownBlock=E x)\/((D i).ss≠[]/\(vs i).ownBlock=E x))->x<pw)
  (aX:(O+3)*96<=140737488355328)(hm:m+3*O<=1000000000000000000)(hl0:(len 0+3*O)*24<=140737488355328)(hl4:(len 4+1)*24<=140737488355328)(hk:(K.length+1)*8<=140737488355328):
  ay prog 55 #[aC (E ⟨pw,0,V⟩),aD #[Z J 19,Z J x,Z J y,Z J z,r 0,r 1,r 2,r 3,r 4,r 5,r 6,r 7,r 8,r 9]] w λe w'=>e=az (ak true)/\AY pw (m+(3*O+1)) k (λc=>len c+(3*O+1)) T K w w':=by
 obtain⟨W0,hW0⟩:=aj (w.alloc (gb 19 x y z r));have hb0:af w.1.size w W0:=by rw[hW0];exact(ax _ _).alloc (aw _) _
 have z0:w.1.size<W0.1.size:=by rw[hW0];simp
 have aI:=bj W0 λW hb=>wm (W:=W) (by rw[<-hW0];exact hb) z0;have K0:=I (h.below hb0);have bW:pw<w.1.size:=h.fe;have bA:=I (hb0.mono (nH bW));have aG:=I (hD.below hb0);have Y:=I (And.intro e5 (And.intro e6 (And.intro e7 (And.intro e8 e9))));have aP:=I hDl;have bL:=I bq;have bb:=I bp;have bg:=I hK;have aR:=I aX;have bM:=I hm;have bI:=I hl0;have bJ:=I hl4;have bk:(T 2).length=K.length:=by rw[hK,dI]
 have k8:((T 2).length+1)*8<=140737488355328:=by rw[bk];exact hk
 unfold gb at hW0;have bR:=I hW0;obtain⟨q0,-,-,-,ah⟩:=aI.o W0 (ax _ _);rw[e9]at ah;have bF:=I (Kp aG.o aX hDl);have bG:=I (λi (hi:i<O)=>IY (aG.o.its i hi));clear h hb0 hW0 hD hDl bq bp e5 e6 e7 e8 e9 hK bk hk aX hm hl0 hl4;go_enter func55,xI;go_upto_region 1 with fail;rw[<-bR.o];go_wp2_with fail;refine bF.o.mono ?_;rintro e w2 ⟨g,rfl,hg0,G,aL,aW,hb2⟩;have s2:=hb2.size;have aV:=aL.lt;have B2:=I hb2;have ba:=I aL;have am:=I aW;have bc:=I (NV (N:=N) (T:=Tt) (M:=M) (D:=Dd) (Kq aW aL (by have:=aR.o;omega) bG.o aP.o));have bf:=I (λ(W:ac)(hb:af W0.1.size W0 W)(hp:pw<W.1.size)=>NW (N:=N) (T:=Tt) (M:=M) (D:=Dd) hp (aG.o.below hb) bL.o);obtain⟨bw,hE⟩:=aj (fE N Tt M Dd O D);obtain⟨cc,hcc⟩:=aj (fN N Tt M D);obtain⟨C,hC⟩:∃C:Cf,C=⟨N,Tt,M,Dd⟩:=⟨_,rfl⟩;have bB:=I (λ(e0:bw=0)=>(show mV C cc O by rw[hC,hcc];exact Ib (by rw[<-hE];exact e0)));rw[<-hE,<-hcc,<-hC]at bc bf;clear q0 ah aL aW hb2 hE hcc hC;obtain⟨q0,-,-,⟨q9,aA,aB,aF⟩,ah⟩:=aI.o w2 B2.o;rw[Y.o.1]at q9;rw[Y.o.2.1]at aA;rw[Y.o.2.2.1]at aB;rw[Y.o.2.2.2.1]at aF;rw[Y.o.2.2.2.2]at ah;go_wp2_with fail;refine bc.o.mono ?_;rintro e w3 ⟨p1,p2,rfl,hb3,rfl,bl⟩;have s3:=hb3.size;have B3:=I (B2.o.trans (hb3.mono s2));have bt:=I hb3;have bC:=I bl;clear q0 q9 aA aB aF ah hb3 bl;obtain⟨q0,-,-,⟨q9,aA,aB,aF⟩,ah⟩:=aI.o w3 B3.o;rw[Y.o.1]at q9;rw[Y.o.2.1]at aA;rw[Y.o.2.2.1]at aB;rw[Y.o.2.2.2.1]at aF;rw[Y.o.2.2.2.2]at ah;have cd:w.1.size<w3.1.size:=by omega
 have bX:pw<w3.1.size:=by omega
 go_wp2_with fail;refine(bf.o w3 B3.o bX).mono ?_;rintro e w4 ⟨u1,u2,rfl,hb4,rfl,bm⟩;have s4:=hb4.size;have B4:=I (B3.o.trans (hb4.mono (by omega)));have aN:=I (bt.o.trans (hb4.mono s3));have bu:=I hb4;have a_:=I bm
 have bQ:=I (show ay prog 103 #[U (E ⟨g,0,V⟩) O (O+3),U aS O cD] w4 λe w'=>e=az (ak true)/\af w4.1.size w4 w' from
  Tw (aG.o.below B4.o) aR.o aP.o (ba.o.block (aN.o.block g aV)) (am.o.Br aN.o));clear bm hb4 q0 q9 aA aB aF ah;obtain⟨-,-,-,-,ah⟩:=aI.o w4 B4.o;rw[Y.o.2.2.2.2]at ah;go_wp2_with fail;refine aH bQ.o λw5 ap=>?_;have s5:=ap.size;have B5:=I (B4.o.trans (ap.mono (by omega)));have aZ:=I (aN.o.trans (ap.mono (by omega)));have bv:=I ap;clear ap ah;obtain⟨F,nx,ls,i1,i2,i3,i4,i5,i6⟩:=K0.o
 have bN:=I (show ay prog 104 #[aC (E ⟨pw,0,V⟩),U (E ⟨g,0,V⟩) O (O+3)] w5 λe w'=>e=az (br #[])/\∃F' os o,bH w' pw F' (nx+3*(O:Int)+1) (bn (bn ls 0 (ls 0++os)) 4 (ls 4++[o]))/\os.length=3*O/\
   (∀j,j<3->F' j=F j)/\av (λb=>b=pw\/b=g\/(∃q,q<3*O/\b=gq G q)\/aU F ls b) w5 w'/\∀b,b<w5.1.size->b≠g->(∀q,q<3*O->b≠gq G q)->¬aU F ls b->¬aU F' (bn (bn ls 0 (ls 0++os)) 4 (ls 4++[o])) b from by have bo:∀b,aU F ls b->b<W0.1.size:=λb hb=>(i1.gO hb).2;have g1:∀q,q<3*O->W0.1.size<=gq G q:=λq hq=>(am.o.lo (q/3) (q%3) (by omega) (by omega)).1;exact OM (i1.below B5.o) i4 (by have:=bM.o;omega) (fJ (oB 24 (Gk (i6 0) _)) bI.o) (fJ (oB 24 (Gk (i6 4) _)) bJ.o) aR.o (λq hq=>aP.o (q/3) (q%3) (by omega) (Nat.mod_lt _ (by decide))) (ba.o.block (aZ.o.block g aV)) ((am.o.Br aZ.o).He (by omega)) (by omega) (λhf=>by have:=bo g hf;omega) (λq hq hf=>by have:=bo _ hf;have:=g1 q hq;omega));have ai:=I (And.intro i1 (And.intro i2 (And.intro i3 (And.intro i4 (And.intro i5 i6)))));have aQ:=A (∀q,q<3*O->W0.1.size<=gq G q/\gq G q<w2.1.size) (λq hq=>⟨(am.o.lo (q/3) (q%3) (by omega) (by omega)).1,am.o.lt (q/3) (q%3) (by omega) (by omega)⟩);clear i1 i2 i3 i4 i5 i6;go_wp2_with fail;refine bN.o.mono ?_;rintro e w6 ⟨rfl,F',os,o,j1,j2,j3,j4,j5⟩;have QQ:=I (show QS pw W0 F ls w6 F' (bn (bn ls 0 (ls 0++os)) 4 (ls 4++[o]))from⟨(av.bz (S:=λb=>b=pw\/aU F ls b) B5.o).trans j4 (λb e hb=>by rcases e with e|e|⟨q,hq,e⟩|e;exact ae e;omega;have:=aQ.o q hq;omega;exact Q e),j3,λb hb hf=>j5 b (by omega) (by omega) (λq hq e=>by have:=aQ.o q hq;omega) hf⟩);have J2:=I (ai.o.2.1.quiet ai.o.1 QQ.o);have FM:=A (mA ((bn (bn ls 0 (ls 0++os)) 4 (ls 4++[o])) 1)/\0<=nx+3*(O:Int)+1/\nx+3*(O:Int)+1<=((m+(3*O+1):Nat):Int)/\∀c,((bn (bn ls 0 (ls 0++os)) 4 (ls 4++[o])) c).length<=len c+(3*O+1)) ⟨ai.o.2.2.1,by have:=ai.o.2.2.2.1;omega,by have:=ai.o.2.2.2.2.1;omega,NU ai.o.2.2.2.2.2 j2⟩;have BF:=I (bA.o.trans (QQ.o.Bt ai.o.1));have bE:=A (W0.1.size<=g/\g<w2.1.size) ⟨by omega,aV⟩;have J1:=I j1;have J4:=I j4;have J5:=I j5;clear j1 j2 j3 j4 j5;rcases bC.o with⟨hE,hq⟩|⟨hE,bx,bh,hq,k1,k2⟩
 ·subst hq;rcases a_.o with⟨_,hq⟩|⟨aT,_⟩;·subst hq;have aO:=A (AY pw (m+(3*O+1)) k (λc=>len c+(3*O+1)) T K w w6) ⟨T,K,⟨F',_,_,J1.o,J2.o,FM.o.1,FM.o.2.1,FM.o.2.2.1,FM.o.2.2.2⟩,bg.o,λ_ _=>rfl,by omega,bb.o,BF.o⟩;clear hE;go_wp2_with fail;refine aH (qF) λw7 aa=>?_;rw[aa];clear aa;go_wp2_with fail;refine aH (qF) λw7 aa=>?_;rw[aa];clear aa;go_wp2;go_ret;exact⟨rfl,aO.o⟩
  exact absurd aT hE
 subst hq;rcases a_.o with⟨aT,_⟩|⟨_,yb,aJ,hq,r1,r2,r3,r4⟩;exact absurd hE aT;subst hq;have aK:=bB.o hE;obtain⟨a1,a2,a3,a4⟩:=NY ai.o.1 ai.o.2.1 QQ.o J4.o J5.o bE.o aQ.o s2 s3 bu.o bv.o k1 k2 r1 r2;have bD:=I (λ(w9 w10:ac)(g9 cap9:Nat)(B:Obj) aM hgr hat aq=>Oa (w9:=w9) (w10:=w10) (g9:=g9) (cap9:=cap9) (B:=B) J1.o J2.o a1 a2 aK (Hi aK) (JS aK) (Oz) a3 a4 aM hgr hat aq);have bK:=A (gX k ⟨w6.1.size,bx,yb,O,C,cc,g_ cc O,bh,aJ⟩) ⟨by show aJ.L.length<=k;rw[r3];exact bi _,λj hj=>by show(aJ.hh j).length<=k;rw[r4 j hj];exact bi _⟩;have c1:=(dg J1.o.blk 2 (by omega)).1;have IR:=I (J2.o.row 2 (by decide));have bV:=J1.o.fe;have IB:=I J1.o.blk;obtain⟨i0,bU,hz0,hz1,hz2⟩:=bO Lb;have bY:(T 2).length+1<=maxLen:=by unfold maxLen;omega
 have bP:=I (show∀(w9:ac)(aY B:Obj),((w6.alloc aY).alloc B).grownBy w9 (F' 2).ownBlock->w9.cell? ⟨pw,2,V⟩=E (F' 2)/\w9.frozen? ⟨pw,2,V⟩=false from λw9 aY B hgr=>by
  have bT:w9.1[pw]?=w6.1[pw]? :=by rw[hgr.block pw (by simp;omega) (λe=>by have:=IR.o.lt pw e.symm;omega),gf _ _ _ (by simp;omega),gf _ _ _ bV]
  exact dg (bT.trans IB.o) 2 (by omega));clear hE aK a1 a2 a3 a4 k1 k2 r1 r2 r3 r4;go_wp2_with fail;refine aH (qF) λw7 aa=>?_;rw[aa];clear aa;go_wp2_with fail;refine aH (qF) λw7 aa=>?_;rw[aa];clear aa;go_wp2_with(at_builtin;refine dQ rfl 81 rfl (pw+1) 136 i0 (aC V) 8 underlying81 bU hz0 hz1 hz2 rfl (F' 2) (T 2).length _ rfl ((IR.o.alloc _).alloc _) ⟨w6.1.size+1,0,V⟩ 1 (aC (E ⟨w6.1.size,0,V⟩)) rfl (by simp[go_sem]) rfl bY k8 (by simp;omega) ?_);intro g9 cap9 w9 aM hgr hat;obtain⟨bZ,b_⟩:=bP.o w9 _ _ hgr;obtain⟨w10,aq⟩:=aj (w9.setCell ⟨pw,2,V⟩ (U (E ⟨g9,0,V⟩) ((T 2).length+1) cap9));have aO:=I (bD.o w9 w10 g9 cap9 _ aM hgr (by simpa using hat) aq);have bS:=I aq;clear aM hgr hat aq c1;go_wp2_with fail;rw[<-bS.o];go_ret;obtain⟨f1,f2,f3⟩:=aO.o;refine⟨rfl,_,K++[⟨w6.1.size,bx,yb,O,C,cc,g_ cc O,bh,aJ⟩],⟨_,_,_,f2,f1,FM.o.1,FM.o.2.1,FM.o.2.2.1,FM.o.2.2.2⟩,?_,λj hj=>ar hj,by simp,λq hq=>?_,BF.o.trans f3⟩;show oM T 2 _ 2=_;unfold oM;rw[au rfl,bg.o,cF];rfl;rcases cZ.1 hq with hq|hq;exact bb.o q hq;simp at hq;subst hq;exact bK.o
end
end Go.Proofs.YtchideljndagjabGreat


