/- Joined -/
import Derived.RowKit
import Derived.IntWalk
set_option linter.unusedVariables false
namespace Go.Proofs.YtchideljndagjabGreat
open Option renaming none->V,some->E
open Bool renaming false->Y,true->aa
abbrev aK:=@decide_eq_true
abbrev aM:=@decide_eq_false
abbrev kT:=@Int.mul_nonneg
abbrev sR:=@Int.mul_le_mul
abbrev FH:=@Int.tmod_eq_emod_of_nonneg
abbrev xh:=@Int.mul_assoc
abbrev eL:=@IntWalk.wrap64_in
abbrev kU:=@List.all_eq_false
abbrev cN:=@List.getElem_mem
abbrev bG:=@List.getD_eq_getElem?_getD
abbrev aQ:=@List.getElem?_eq_getElem
abbrev dR:=@Bool.false_ne_true
abbrev gV:=@List.take_succ_eq_append_getElem
abbrev xi:=@List.all_append
abbrev kt:=@List.take_of_length_le
abbrev FE:=@Int.emod_eq_of_lt
abbrev kS:=@Int.mul_comm
abbrev fH:=@Int.mul_emod
abbrev mi:=@Int.emod_emod
abbrev rj:=@Int.mul_one
abbrev uz:=@Int.one_mul
abbrev sS:=@Int.pow_zero
abbrev nB:=@Int.pow_succ
abbrev At:=@Int.pow_one
abbrev mm:=@List.range_succ
abbrev cF:=@List.map_append
abbrev FF:=@Int.pow_nonneg
abbrev FD:=@Int.ediv_nonneg
abbrev eW:=@List.mem_range
abbrev fk:=@List.all_eq_true
abbrev oA:=@List.map_cons
abbrev oy:=@List.flatten_cons
abbrev cy:=@List.length_append
abbrev sV:=@List.length_cons
abbrev ks:=@List.mem_cons_of_mem
abbrev iE:=@List.mem_cons_self
abbrev kV:=@Nat.add_mul
abbrev cq:=@List.mem_map
abbrev uD:=@Nat.zero_mul
abbrev cz:=@Nat.zero_add
abbrev ey:=@List.getElem?_append_left
abbrev sU:=@List.getD_cons_succ
abbrev fo:=@List.getElem?_append_right
abbrev dC:=@List.getElem?_map
abbrev jM:=@List.getElem?_eq_none
abbrev ar:=@if_neg
abbrev au:=@if_pos
abbrev bS:=@Bool.and_eq_true
abbrev FM:=@Nat.add_comm
abbrev lM:=@Nat.add_zero
abbrev jr:=@Nat.add_assoc
abbrev oz:=@List.getElem?_range
abbrev ox:=@Int.toNat_natCast
abbrev ee:=@List.append_assoc
abbrev lL:=@List.map_map
abbrev mj:=@List.map_congr_left
abbrev ew:=@List.append_nil
abbrev oB:=@Nat.mul_le_mul_right
abbrev uB:=@List.flatten_append
abbrev aw:=@Nat.le_refl
abbrev iF:=@List.take_length
abbrev pM:=@Bool.eq_iff_iff
abbrev eE:=@Bool.true_and
abbrev Ar:=@Bool.and_comm
abbrev uy:=@Bool.and_true
abbrev iD:=@Bool.false_and
abbrev pN:=@Int.le_refl
abbrev FI:=@Int.zero_add
abbrev xn:=@Option.getD_some
abbrev eV:=@List.length_take
abbrev xj:=@List.drop_eq_getElem_cons
abbrev xm:=@Nat.add_sub_cancel
abbrev uE:=@decide_eq_true_iff
abbrev xl:=@List.pairwise_iff_getElem
abbrev fT:=@List.getElem_of_mem
abbrev sQ:=@Bool.or_true
abbrev mn:=@Nat.eq_zero_or_pos
abbrev uC:=@List.mem_filter
abbrev rp:=@List.pairwise_map
abbrev FK:=@List.pairwise_lt_range
abbrev dI:=@List.length_map
abbrev sT:=@List.find?_eq_none
abbrev FJ:=@List.find?_some
abbrev xk:=@List.mem_of_find?_eq_some
abbrev ri:=@Bool.or_false
abbrev rk:=@List.mem_cons
abbrev cg:=@congrArg
abbrev Au:=@List.filter_filter
abbrev uA:=@List.filter_append
abbrev pO:=@List.filter_cons
abbrev FL:=@List.sum_append
variable {a fr k kk pp ss v x:Int}{b:List Int}{j m n:Nat}{p:Nat->Bool}
namespace bb
open Go.RowKit Go.IntWalk
def aG (a:Int):Bool:=decide (0<=a/\a<2305843009213693951)
def bE (a:Int):Bool:=decide (1<=a/\a<=12)
theorem eD (h:0<=a)(h':a<2305843009213693951):aG a=aa:=aK ⟨h,h'⟩
theorem qp (h:¬(0<=a/\a<2305843009213693951)):aG a=Y:=aM h
theorem io:aG a=aa↔0<=a/\a<2305843009213693951:=by simp[aG]
theorem Jg:aG a=Y↔¬(0<=a/\a<2305843009213693951):=by rw[aG,decide_eq_false_iff_not]
theorem dW (h:1<=a)(h':a<=12):bE a=aa:=aK ⟨h,h'⟩
theorem kD (h:¬(1<=a/\a<=12)):bE a=Y:=aM h
theorem lY:bE a=aa↔1<=a/\a<=12:=by simp[bE]
theorem v_ (x y){X Y:Int}(hx:0<=x)(hX:x<=X)(hy:0<=y)(hY:y<=Y):0<=x*y/\x*y<=X*Y:=
 ⟨kT hx hy,sR hX hY hy (Int.le_trans hx hX)⟩
theorem uu (x){y:Int}(hx:0<=x):x.tmod y=x%y:=FH hx
theorem TV {y:Int}(hx:0<=x):x.tdiv y=x/y:=Int.tdiv_eq_ediv_of_nonneg hx
theorem Js (A B C D:Int):(A*2147483648+B)*(C*2147483648+D)=A*C*4611686018427387904+(A*D+B*C)*2147483648+B*D:=by grind
theorem Ue (a b)(ha:0<=a)(ha':a<2305843009213693951)(hb:0<=b)(hb':b<2305843009213693951):
  (wrap64 (wrap64 (wrap64 (2*(a/2147483648)*(b/2147483648))+
   wrap64 (wrap64 ((wrap64 (wrap64 (a/2147483648*(b%2147483648))+wrap64 (a%2147483648*(b/2147483648)))).tdiv 1073741824)+
    wrap64 ((wrap64 (wrap64 (a/2147483648*(b%2147483648))+wrap64 (a%2147483648*(b/2147483648)))).tmod 1073741824*2147483648)))+
   (wrap64 (a%2147483648*(b%2147483648))).tmod 2305843009213693951)).tmod 2305843009213693951=a*b%2305843009213693951:=by
 have O:a=a/2147483648*2147483648+a%2147483648:=by omega
 have eB:b=b/2147483648*2147483648+b%2147483648:=by omega
 have a1:0<=a/2147483648/\a/2147483648<=1073741823:=by omega
 have a2:0<=a%2147483648/\a%2147483648<=2147483647:=by omega
 have b1:0<=b/2147483648/\b/2147483648<=1073741823:=by omega
 have b2:0<=b%2147483648/\b%2147483648<=2147483647:=by omega
 generalize hA:a/2147483648=A at*;generalize hB:a%2147483648=B at*;generalize hC:b/2147483648=C at*;generalize hD:b%2147483648=D at*;clear hA hB hC hD;have x:=v_ A C a1.1 a1.2 b1.1 b1.2;have y:=v_ A D a1.1 a1.2 b2.1 b2.2;have z:=v_ B C a2.1 a2.2 b1.1 b1.2;have v:=v_ B D a2.1 a2.2 b2.1 b2.2;have e:a*b=A*C*4611686018427387904+(A*D+B*C)*2147483648+B*D:=by rw[O,eB];exact Js A B C D
 have e2:2*A*C=2*(A*C):=xh _ _ _;rw[e,e2];generalize A*C=X at*;generalize A*D=Y at*;generalize B*C=Z at*;generalize B*D=V at*;rw[eL (2*X) (by omega),eL Y (by omega),eL Z (by omega),eL (Y+Z) (by omega),eL V (by omega)];rw[TV (by omega),uu (Y+Z) (by omega),uu V (by omega)];rw[eL ((Y+Z)/1073741824) (by omega),eL ((Y+Z)%1073741824*2147483648) (by omega)];rw[eL ((Y+Z)/1073741824+(Y+Z)%1073741824*2147483648) (by omega)];rw[eL (2*X+((Y+Z)/1073741824+(Y+Z)%1073741824*2147483648)) (by omega)];rw[eL (2*X+((Y+Z)/1073741824+(Y+Z)%1073741824*2147483648)+V%2305843009213693951) (by omega)];rw[uu _ (by omega)];omega
def bA (a b:Int):Int:=(a+b)%2305843009213693951
def dA (a b:Int):Int:=(a-b+2305843009213693951)%2305843009213693951
def bc (a b:Int):Int:=a*b%2305843009213693951
def bB (a k:Int):Int:=a ^ k.toNat%2305843009213693951
theorem kC (a b):0<=bA a b:=by unfold bA;omega
theorem kB (a b):bA a b<2305843009213693951:=by unfold bA;omega
theorem zX (a b):0<=dA a b:=by unfold dA;omega
theorem uq (a b):dA a b<2305843009213693951:=by unfold dA;omega
theorem iO{b}:0<=bc a b:=by unfold bc;omega
theorem iN{b}:bc a b<2305843009213693951:=by unfold bc;omega
theorem ki (a b):0<=bB a b:=by unfold bB;omega
theorem kh (a b):bB a b<2305843009213693951:=by unfold bB;omega
def bL (k q:Int):Int:=
 bc (bc (bA k (bc q 1099511627777)) (bA k (bc q 1099511627777))) (bA k (bc q 1099511627777))
theorem iU (k q):0<=bL k q:=iO
theorem iT (k q):bL k q<2305843009213693951:=iN
def fj (k q x y:Int):Int:=
 bA (bA (bc (bL k (q+2)) x) (bc (bc (bL k (q+2)) (bL k (q+2))) y)) (bL k (q+3))
theorem TK (k q x y):0<=fj k q x y:=kC _ _
theorem TJ (k q x y):fj k q x y<2305843009213693951:=kB _ _
theorem xW (zs:List Int)(k)(hk:k<zs.length)(h:¬(0<=zs.getD k 0/\zs.getD k 0<2305843009213693951)):zs.all aG=Y:=by rw[kU];refine⟨zs[k],cN hk,?_⟩;rw[bG,aQ hk]at h;simp only[Option.getD_some]at h;rw[qp h];exact dR
theorem Bl (zs:List Int)(k)(hk:k<zs.length)(ha:(zs.take k).all aG=aa)(h:0<=zs.getD k 0/\zs.getD k 0<2305843009213693951):
  (zs.take (k+1)).all aG=aa:=by rw[bG,aQ hk]at h;simp only[Option.getD_some]at h;rw[gV hk,xi,ha];simp[eD h.1 h.2]
theorem Bg (zs:List Int)(k)(hk:zs.length<=k)(ha:(zs.take k).all aG=aa):zs.all aG=aa:=by rw[kt hk]at ha;exact ha
theorem BW (h:0<=a)(h':a<2305843009213693951):a%2305843009213693951=a:=FE h h'
theorem mul_comm (x y):bc x y=bc y x:=by unfold bc;rw[kS]
theorem mul_assoc (x y z):bc (bc x y) z=bc x (bc y z):=by unfold bc;rw[fH,mi,<-fH,fH x,mi,<-fH,xh]
theorem mul_add (x y z):bc x (bA y z)=bA (bc x y) (bc x z):=by unfold bc bA;rw[fH,mi,<-fH,<-Int.add_emod,Int.mul_add]
theorem mul_one (x)(h:0<=x)(h':x<2305843009213693951):bc x 1=x:=by unfold bc;rw[rj,BW h h']
def oI (a k kk pp ss:Int):Prop:=
 kk<=9223372036854775807/\0<=pp/\pp<2305843009213693951/\0<=ss/\ss<2305843009213693951/\
  pp*ss ^ kk.toNat%2305843009213693951=a ^ k.toNat%2305843009213693951
theorem PB (a k)(ha:0<=a)(ha':a<2305843009213693951)(hk:k<=9223372036854775807):oI a k k 1 a:=
 ⟨hk,by omega,by omega,ha,ha',by rw[uz]⟩
theorem rS:0<=x%2305843009213693951/\x%2305843009213693951<2305843009213693951:=by omega
theorem PC (s m:Int)(n):(s%m) ^ n%m=s ^ n%m:=by
 induction n with
 |zero=>rw[sS,sS]
 |succ n ih=>rw[nB,nB,fH,ih,mi,<-fH]
theorem Dm (p s m:Int)(n):p*(s%m) ^ n%m=p*s ^ n%m:=by rw[fH,PC,<-fH]
theorem ET (s:Int)(n):(s*s) ^ n=s ^ (2*n):=by rw[Int.pow_mul,nB,At]
theorem PA (h:oI a k kk pp ss)(hp:0<kk)(ho:(kk%2==1)=aa):
  oI a k (kk/2) (bc pp ss) (bc ss ss):=by
 unfold bc;obtain⟨h1,h2,h3,h4,h5,h6⟩:=h;have e:kk.toNat=2*(kk/2).toNat+1:=by simp at ho;omega
 refine⟨by omega,(rS).1,(rS).2,(rS).1,(rS).2,?_⟩;rw[Dm,fH,mi,<-fH,ET,<-h6,e,nB,xh,kS ss]
theorem Pz (h:oI a k kk pp ss)(hp:0<kk)(ho:(kk%2==1)=Y):
  oI a k (kk/2) pp (bc ss ss):=by
 unfold bc;obtain⟨h1,h2,h3,h4,h5,h6⟩:=h;have e:kk.toNat=2*(kk/2).toNat:=by simp at ho;omega
 refine⟨by omega,h2,h3,(rS).1,(rS).2,?_⟩;rw[Dm,ET,<-h6,e]
theorem Py (h:oI a k kk pp ss)(hp:kk<=0):pp=bB a k:=by
 unfold bB;obtain⟨h1,h2,h3,h4,h5,h6⟩:=h;have e:kk.toNat=0:=by omega
 rw[<-h6,e,sS,rj,FE h2 h3]
theorem pow_zero (x):bB x 0=1:=by unfold bB;rw[Int.toNat_zero,sS];omega
theorem pow_one (x)(h:0<=x)(h':x<2305843009213693951):bB x 1=x:=by unfold bB;rw[show(1:Int).toNat=1 from rfl,At,BW h h']
theorem pow_add (x s t)(hs:0<=s)(ht:0<=t):bB x (s+t)=bc (bB x s) (bB x t):=by unfold bB bc;rw[Int.toNat_add hs ht,Int.pow_add,<-fH]
theorem DJ (a k)(h:k<=0):bB a k=1:=by unfold bB;rw[show k.toNat=0 by omega,sS];rfl
theorem PD (a k)(h:0<k)(ho:(k%2==1)=Y):bc (bB a (k/2)) (bB a (k/2))=bB a k:=by rw[<-pow_add _ _ _ (by omega) (by omega)];congr 1;simp at ho;omega
theorem PF (a k)(h:0<k)(ho:(k%2==1)=aa):bc (bc (bB a (k/2)) (bB a (k/2))) a=bB a k:=by
 rw[<-pow_add _ _ _ (by omega) (by omega)];have e:k=k/2+k/2+1:=by simp at ho;omega
 unfold bB bc;conv=>rhs;rw[e,Int.toNat_add (by omega) (by omega),show(1:Int).toNat=1 from rfl,nB]
 rw[fH,mi,<-fH]
theorem IL (w):bB w 3=bc (bc w w) w:=by unfold bB bc;rw[show(3:Int).toNat=3 from rfl,nB,nB,At,fH (w*w%_),mi,<-fH]
theorem Tr (k i):bA (bA k (bc i 1099511627777)) 1099511627777=bA k (bc (i+1) 1099511627777):=by unfold bA bc;omega
theorem Ts (k)(h:0<=k)(h':k<2305843009213693951):bA k (bc 0 1099511627777)=k:=by unfold bA bc;omega
def cj (O:Int)(i:Nat):Int:=bL O ((i:Int)+1)/1048576%4294967296
def mg (O:Int)(n:Nat):List Int:=(List.range n).map (cj O)
theorem TB (O n):mg O (n+1)=mg O n++[cj O n]:=by unfold mg;rw[mm,cF];rfl
theorem half (b:Int)(n):b/2 ^ (n+1)=b/2 ^ n/2:=by rw[nB,Int.ediv_ediv_of_nonneg (FF (by omega))]
theorem Hq (a b O)(hb:0<=b)(hr:O=bc a (b/2 ^ (n+1)))(ht:((b/2 ^ n).tmod 2==1)=Y):bA O O=bc a (b/2 ^ n):=by
 have hx:0<=b/2 ^ n:=FD hb (FF (by omega));rw[half]at hr;rw[uu _ hx]at ht;generalize b/2 ^ n=X at*;have e:X=2*(X/2):=by simp at ht;omega
 unfold bc at*;unfold bA;rw[e,show a*(2*(X/2))=2*(a*(X/2))by rw[Int.mul_left_comm]];generalize a*(X/2)=Z at*;omega
theorem Ht (a b O)(hb:0<=b)(hr:O=bc a (b/2 ^ (n+1)))(ht:((b/2 ^ n).tmod 2==1)=aa):bA (bA O O) a=bc a (b/2 ^ n):=by
 have hx:0<=b/2 ^ n:=FD hb (FF (by omega));rw[half]at hr;rw[uu _ hx]at ht;generalize b/2 ^ n=X at*;have e:X=2*(X/2)+1:=by simp at ht;omega
 unfold bc at*;unfold bA;rw[e,show a*(2*(X/2)+1)=2*(a*(X/2))+a by rw[Int.mul_add,Int.mul_left_comm,rj]];generalize a*(X/2)=Z at*;omega
theorem Hr (a b n)(hb:0<=b)(hb':b<2 ^ n):(0:Int)=bc a (b/2 ^ n):=by rw[Int.ediv_eq_zero_of_lt hb hb'];unfold bc;rw[Int.mul_zero];rfl
theorem Hs (a b):bc a (b/2 ^ 0)=bc a b:=by rw[sS,Int.ediv_one]
end bb
namespace aq
abbrev It:=Int×Int×Int×Int
abbrev It.id (x:It):Int:=x.1
def it (l:List It)(i:Nat):It:=l.getD i (0,0,0,0)
def bK (a:Int):Bool:=decide (1<=a/\a<2305843009213693951)
def dn (a:Int):Bool:=decide (0<=a/\a<4294967296)
theorem pd:bK a=aa↔1<=a/\a<2305843009213693951:=by simp[bK]
theorem rb:dn a=aa↔0<=a/\a<4294967296:=by simp[dn]
def zB (a:Int):Bool:=decide (a=0)
theorem jq:zB a=aa↔a=0:=by simp[zB]
def tB (a:Int):Bool:=decide (a=1\/a=2)
theorem Fa:tB a=aa↔a=1\/a=2:=by simp[tB]
def ei (n:Nat)(p:Nat->Bool):Bool:=(List.range n).all p
theorem la (k)(hk:k<n)(h:p k=Y):ei n p=Y:=by unfold ei;rw[kU];exact⟨k,eW.2 hk,by rw[h];exact dR⟩
theorem iJ (h:∀k,k<n->p k=aa):ei n p=aa:=by unfold ei;rw[fk];exact λk hk=>h k (eW.1 hk)
theorem nL:ei n p=aa↔∀k,k<n->p k=aa:=by unfold ei;rw[fk];exact⟨λh k hk=>h k (eW.2 hk),λh k hk=>h k (eW.1 hk)⟩
theorem GG:ei n p=Y↔∃k,k<n/\p k=Y:=by unfold ei;rw[kU];exact⟨λ⟨k,h1,h2⟩=>⟨k,eW.1 h1,by simpa using h2⟩,λ⟨k,h1,h2⟩=>⟨k,eW.2 h1,by simp[h2]⟩⟩
def dv (k fr:Int):Bool:=if k=1\/k=3\/k=5\/k=7 then bb.bE fr else if k=2\/k=4\/k=6 then zB fr else Y
def jl (l:List It)(i:Nat):Bool:=bb.bE (it l i).1&&(decide (i=0)||decide ((it l (i-1)).1<(it l i).1))
def bN (l:List It):Bool:=ei l.length (jl l)
def hE (l:List It)(u:Int):Bool:=ei l.length λi=>decide ((it l i).1≠u)
def lZ (l:List It):Bool:=ei l.length λi=>decide ((it l i).1=(i:Int)+1)
def ej (k fr:Int)(l:List It):Bool:=
 if k=1 then decide (l.length=1)&& !hE l fr else if k=2\/k=6\/k=7 then decide (1<=l.length)else if k=3 then hE l fr else if k=4 then aa else if k=5 then decide (1<=l.length)&&lZ l else Y
def cu (k:Int)(x:It):Bool:=
 if k=1\/k=2 then bK x.2.1&&(bK x.2.2.1&&zB x.2.2.2)else if k=3\/k=4 then bb.aG x.2.1&&(bb.aG x.2.2.1&&bb.aG x.2.2.2)
 else if k=5 then dn x.2.1&&(zB x.2.2.1&&zB x.2.2.2)else if k=6 then zB x.2.1&&(zB x.2.2.1&&zB x.2.2.2)else if k=7 then tB x.2.1&&(bb.aG x.2.2.1&&zB x.2.2.2)else Y
def iw (k:Int)(l:List It):Bool:=ei l.length λi=>cu k (it l i)
def okF (k fr:Int)(l:List It):Bool:=decide (l.length<=12)&&(dv k fr&&(bN l&&(ej k fr l&&iw k l)))
theorem Kf (h:dv k fr=aa):1<=k/\k<=7:=by unfold dv at h;split at h;omega;split at h;omega;cases h
def bh (k:Int):Nat:=if k=5 then 1 else if k=1\/k=2\/k=7 then 2 else if k=3\/k=4 then 3 else 0
def size (k:Int):Nat:=1+8*bh k
theorem jL (k):bh k<=3:=by unfold bh;(repeat' split)<;>omega
def eO (v:Int):List Int:=[v%256,v/256%256,v/65536%256,v/16777216%256,v/4294967296%256,v/1099511627776%256,v/281474976710656%256,v/72057594037927936%256]
def dz (k:Int)(x:It):List Int:=[x.2.1,x.2.2.1,x.2.2.2].take (bh k)
def gA (k:Int)(x:It):List Int:=x.1::((dz k x).map eO).flatten
def bm (k fr:Int)(l:List It):List Int:=k::fr::(l.length:Int)::(l.map (gA k)).flatten
theorem ze (k x):(dz k x).length=bh k:=by have:=jL k;unfold dz;simp;omega
theorem JX (l:List Int):((l.map eO).flatten).length=8*l.length:=by
 induction l with
 |nil=>rfl
 |cons a l ih=>rw[oA,oy,cy,ih,sV];simp[eO];omega
theorem BX (k x):(gA k x).length=size k:=by unfold gA;rw[sV,JX,ze];unfold size;omega
theorem J_ (s){L:List (List Int)}(h:∀x∈L,x.length=s):L.flatten.length=L.length*s:=by
 induction L with
 |nil=>simp
 |cons a L ih=> rw[oy,cy,ih (λx hx=>h x (ks _ hx)),h a iE,sV,kV];omega
theorem Hx (k)(l:List It):((l.map (gA k)).flatten).length=l.length*size k:=by rw[J_ (size k) (λx hx=>by obtain⟨y,_,rfl⟩:=cq.1 hx;exact BX k y)];simp
theorem qu (k fr l):(bm k fr l).length=3+l.length*size k:=by unfold bm;simp only[List.length_cons,Hx];omega
theorem JZ (s){L:List (List Int)}(h:∀x∈L,x.length=s)(i j)(hj:j<s):L.flatten.getD (i*s+j) 0=(L.getD i []).getD j 0:=by
 induction L generalizing i with
 |nil=>simp
 |cons a L ih=>
  have ha:=h a iE
  cases i with
  |zero=>rw[oy,uD,cz,List.getD_cons_zero,bG,ey (by omega),<-bG]
  |succ i=> rw[oy,sU,<-ih (λx hx=>h x (ks _ hx)) i,bG,fo (by rw[ha,kV];omega),<-bG,ha];congr 1;rw[kV];omega
theorem vC (k fr l i j)(hi:i<l.length)(hj:j<size k):(bm k fr l).getD (3+i*size k+j) 0=(gA k (it l i)).getD j 0:=by
 have e:3+i*size k+j=i*size k+j+1+1+1:=by omega
 unfold bm;rw[e,sU,sU,sU,JZ (size k) (λx hx=>by obtain⟨y,_,rfl⟩:=cq.1 hx;exact BX k y) i j hj];congr 1;rw[bG,dC,aQ hi];unfold it;rw[bG,aQ hi];rfl
def aW (b:List Int)(i:Nat):Int:=b.getD i 0
def ji (b:List Int)(a:Nat):Int:=aW b a+256*aW b (a+1)+65536*aW b (a+2)+16777216*aW b (a+3)+4294967296*aW b (a+4)+1099511627776*aW b (a+5)+281474976710656*aW b (a+6)+72057594037927936*aW b (a+7)
def gj (b:List Int)(a:Nat):Int:=if 128<=aW b (a+7)then-1 else ji b a
def gF (k:Int)(b:List Int)(a:Nat):It:=(aW b a,if 1<=bh k then gj b (a+1)else 0,if 2<=bh k then gj b (a+9)else 0,if 3<=bh k then gj b (a+17)else 0)
def ep (k:Int)(b:List Int)(n:Nat):List It:=(List.range n).map λi=>gF k b (3+i*size k)
def cJ (b:List Int):Option (Int×Int×List It):=
 if b.length<3 then V else if b.length=3+(aW b 2).toNat*size (aW b 0)then
  if okF (aW b 0) (aW b 1) (ep (aW b 0) b (aW b 2).toNat)=aa then E (aW b 0,aW b 1,ep (aW b 0) b (aW b 2).toNat)else V
 else V
def cY (b:List Int):Prop:=∀x∈b,0<=x/\x<=255
theorem dJ (h:cY b)(i):0<=aW b i/\aW b i<=255:=by unfold aW;by_cases hi:i<b.length;rw[bG,aQ hi];exact h _ (cN hi);rw[bG,jM (by omega)];simp
theorem yw (l){m:List Int}(j)(h:j<l.length):(l++m).getD j 0=l.getD j 0:=by rw[bG,ey h,<-bG]
theorem HZ (v:Int)(h:0<=v)(h':v<18446744073709551616):
  v%256+256*(v/256%256)+65536*(v/65536%256)+16777216*(v/16777216%256)+4294967296*(v/4294967296%256)+1099511627776*(v/1099511627776%256)+281474976710656*(v/281474976710656%256)+72057594037927936*(v/72057594037927936%256)=v:=by omega
theorem Dt (b a v)(h:0<=v)(h':v<9223372036854775808)(e:∀j,j<8->aW b (a+j)=(eO v).getD j 0):ji b a=v/\gj b a=v:=by
 have e0:=e 0 (by omega);have e1:=e 1 (by omega);have e2:=e 2 (by omega);have e3:=e 3 (by omega);have e4:=e 4 (by omega);have Y:=e 5 (by omega);have e6:=e 6 (by omega);have O:=e 7 (by omega);simp only[eO,List.getD_cons_zero,List.getD_cons_succ,Nat.add_zero]at e0 e1 e2 e3 e4 Y e6 O;have hn:ji b a=v:=by unfold ji;rw[e0,e1,e2,e3,e4,Y,e6,O];exact HZ v h (by omega)
 refine⟨hn,?_⟩;unfold gj;rw[O,ar (by omega)];exact hn
theorem wl{x}(h:cu k x=aa):(0<=x.2.1/\x.2.1<9223372036854775808/\(¬1<=bh k->x.2.1=0))/\(0<=x.2.2.1/\x.2.2.1<9223372036854775808/\(¬2<=bh k->x.2.2.1=0))/\(0<=x.2.2.2/\x.2.2.2<9223372036854775808/\(¬3<=bh k->x.2.2.2=0)):=by
 unfold cu at h;by_cases vT:k=1\/k=2;rw[au vT,bS,bS,pd,pd,jq]at h;have:bh k=2:=by unfold bh;rw[ar (by omega),au (by omega)]
 omega;rw[ar vT]at h;by_cases O:k=3\/k=4;rw[au O,bS,bS,bb.io,bb.io,bb.io]at h;have:bh k=3:=by unfold bh;rw[ar (by omega),ar (by omega),au (by omega)]
 omega;rw[ar O]at h;by_cases k5:k=5;rw[au k5,bS,bS,rb,jq,jq]at h;have:bh k=1:=by unfold bh;rw[au k5]
 omega;rw[ar k5]at h;by_cases k6:k=6;rw[au k6,bS,bS,jq,jq,jq]at h;omega;rw[ar k6]at h;by_cases k7:k=7;rw[au k7,bS,bS,Fa,bb.io,jq]at h;have:bh k=2:=by unfold bh;rw[ar (by omega),au (by omega)]
 omega;rw[ar k7]at h;cases h
theorem en{l}(h:okF k fr l=aa):l.length<=12/\dv k fr=aa/\bN l=aa/\ej k fr l=aa/\∀i,i<l.length->cu k (it l i)=aa:=by unfold okF at h;simp only[Bool.and_eq_true,decide_eq_true_iff]at h;obtain⟨h1,h2,h3,h4,h5⟩:=h;exact⟨h1,h2,h3,h4,nL.1 h5⟩
theorem mK{l}(h:okF k fr l=aa):l.length<=12/\1<=k/\k<=7/\0<=fr/\fr<=12/\∀i,i<l.length->1<=(it l i).1/\(it l i).1<=12:=by
 obtain⟨h1,h2,h3,h4,h5⟩:=en h;have hk:=Kf h2;refine⟨h1,hk.1,hk.2,?_,?_,λi hi=>?_⟩;·unfold dv at h2;split at h2;rw[bb.lY]at h2;omega;split at h2;rw[jq]at h2;omega;cases h2
 ·unfold dv at h2;split at h2;rw[bb.lY]at h2;omega;split at h2;rw[jq]at h2;omega;cases h2
 have:=nL.1 h3 i hi;unfold jl at this;rw[bS,bb.lY]at this;exact this.1
theorem CS{l m}(hl:l.length=m.length)(h:∀i,i<l.length->it l i=it m i):l=m:=by apply List.ext_getElem hl;intro i h1 h2;have:=h i h1;unfold it at this;rw[bG,bG,aQ h1,aQ h2]at this;exact this
theorem Jj (k x)(h:1<=bh k)(j)(hj:j<8):(gA k x).getD (1+j) 0=(eO x.2.1).getD j 0:=by
 unfold gA dz;rw[FM 1 j,sU];have:bh k=1\/bh k=2\/bh k=3:=by have:=jL k;omega
 rcases this with e|e|e<;>rw[e]<;>exact yw (eO x.2.1) j hj
theorem Jk (k x)(h:2<=bh k)(j)(hj:j<8):(gA k x).getD (9+j) 0=(eO x.2.2.1).getD j 0:=by
 unfold gA dz;rw[show 9+j=j+8+1 by omega,sU];have:bh k=2\/bh k=3:=by have:=jL k;omega
 rcases this with e|e<;>rw[e]<;>exact yw (eO x.2.2.1) j hj
theorem Jl (k x)(h:3<=bh k)(j)(hj:j<8):(gA k x).getD (17+j) 0=(eO x.2.2.2).getD j 0:=by
 unfold gA dz;rw[show 17+j=j+16+1 by omega,sU];have e:bh k=3:=by have:=jL k;omega
 rw[e];exact yw (eO x.2.2.2) j hj
theorem DZ{l}(h:okF k fr l=aa)(i)(hi:i<l.length)(f:List Int->Nat->Int)(hf:∀b a v,0<=v->v<9223372036854775808->(∀j,j<8->aW b (a+j)=(eO v).getD j 0)->f b a=v):
  ((aW (bm k fr l) (3+i*size k),if 1<=bh k then f (bm k fr l) (3+i*size k+1)else 0,if 2<=bh k then f (bm k fr l) (3+i*size k+9)else 0,if 3<=bh k then f (bm k fr l) (3+i*size k+17)else 0):It)=it l i:=by
 obtain⟨h1,h2,h3,h4,h5⟩:=en h;obtain⟨a1,a2,a3⟩:=wl (h5 i hi);have hs:size k=1+8*bh k:=rfl;have e0:aW (bm k fr l) (3+i*size k)=(it l i).1:=by have:=vC k fr l i 0 hi (by omega);rw[lM]at this;exact this
 have O:(if 1<=bh k then f (bm k fr l) (3+i*size k+1)else 0)=(it l i).2.1:=by
  split;·rename_i hw;refine hf _ _ _ a1.1 a1.2.1 (λj hj=>?_);rw[<-Jj k (it l i) hw j hj,<-vC k fr l i (1+j) hi (by omega),jr (3+i*size k)];rfl
  rename_i hw;exact(a1.2.2 hw).symm
 have Y:(if 2<=bh k then f (bm k fr l) (3+i*size k+9)else 0)=(it l i).2.2.1:=by
  split;·rename_i hw;refine hf _ _ _ a2.1 a2.2.1 (λj hj=>?_);rw[<-Jk k (it l i) hw j hj,<-vC k fr l i (9+j) hi (by omega),jr (3+i*size k)];rfl
  rename_i hw;exact(a2.2.2 hw).symm
 have eC:(if 3<=bh k then f (bm k fr l) (3+i*size k+17)else 0)=(it l i).2.2.2:=by
  split;·rename_i hw;refine hf _ _ _ a3.1 a3.2.1 (λj hj=>?_);rw[<-Jl k (it l i) hw j hj,<-vC k fr l i (17+j) hi (by omega),jr (3+i*size k)];rfl
  rename_i hw;exact(a3.2.2 hw).symm
 rw[e0,O,Y,eC]
theorem tS (n f i)(hi:i<n):it ((List.range n).map f) i=f i:=by unfold it;rw[bG,dC,oz hi];rfl
theorem Qf{l}(h:okF k fr l=aa):ep k (bm k fr l) l.length=l:=by
 refine CS (by simp[ep]) (λi hi=>?_);have O:i<l.length:=by simpa[ep]using hi
 unfold ep;rw[tS _ _ _ O];exact DZ h i O gj (λb a v h h' e=>(Dt b a v h h' e).2)
theorem yj{l}(h:okF k fr l=aa):cJ (bm k fr l)=E (k,fr,l):=by have b0:aW (bm k fr l) 0=k:=rfl;have b1:aW (bm k fr l) 1=fr:=rfl;have b2:aW (bm k fr l) 2=(l.length:Int):=rfl;have hl:=qu k fr l;unfold cJ;rw[b0,b1,b2,hl,ar (by omega),ox,au rfl,Qf h,au h]
def jV (b:List Int)(m j:Nat):List Int:=(List.range j).map λi=>aW b (m+i)
theorem Fi (b m j)(h:m+j<=b.length):b.take (m+j)=b.take m++jV b m j:=by
 induction j with
 |zero=>simp[jV]
 |succ j ih=> unfold jV at ih ⊢;rw[<-jr,gV (show m+j<b.length by omega),ih (by omega),mm,cF,<-ee];congr 1;show[b[m+j]]=[aW b (m+j)];unfold aW;rw[bG,aQ (show m+j<b.length by omega)];rfl
theorem H'{b0 b1 b2 b3 b4 O Y b7}(h0:0<=b0/\b0<=255)(h1:0<=b1/\b1<=255)(h2:0<=b2/\b2<=255)(h3:0<=b3/\b3<=255)(h4:0<=b4/\b4<=255)(h5:0<=O/\O<=255)(h6:0<=Y/\Y<=255)(h7:0<=b7/\b7<=255):
  eO (b0+256*b1+65536*b2+16777216*b3+4294967296*b4+1099511627776*O+281474976710656*Y+72057594037927936*b7)=[b0,b1,b2,b3,b4,O,Y,b7]:=by unfold eO;simp only[List.cons.injEq,and_true];refine⟨by omega,by omega,by omega,by omega,by omega,by omega,by omega,by omega⟩
theorem yg (hb:cY b)(m):eO (ji b m)=jV b m 8:=by unfold ji;rw[H' (dJ hb _) (dJ hb _) (dJ hb _) (dJ hb _) (dJ hb _) (dJ hb _) (dJ hb _) (dJ hb _)];rfl
theorem zo{a}(h:0<=gj b a):gj b a=ji b a:=by unfold gj at h ⊢;split at h;omega;rename_i hc;rw[ar hc]
theorem vv (b m i j):jV b m (i+j)=jV b m i++jV b (m+i) j:=by unfold jV;rw[List.range_add,cF,lL];congr 1;apply mj;intro x _;show aW b (m+(i+x))=aW b (m+i+x);rw[jr]
theorem Jn (hb:cY b)(h:cu k (gF k b m)=aa):gA k (gF k b m)=jV b m (size k):=by
 obtain⟨a1,a2,a3⟩:=wl h;unfold gA dz size;rw[vv];have ec:jV b m 1=[aW b m]:=rfl;rw[ec];show aW b m::_=[aW b m]++_;rw[List.singleton_append];congr 1;have hw:=jL k;have O:1<=bh k->eO (gF k b m).2.1=jV b (m+1) 8:=λhk=>by have e:(gF k b m).2.1=gj b (m+1):=au hk;rw[e]at a1 ⊢;rw[zo a1.1,yg hb]
 have Y:2<=bh k->eO (gF k b m).2.2.1=jV b (m+1+8) 8:=λhk=>by have e:(gF k b m).2.2.1=gj b (m+9):=au hk;rw[e]at a2 ⊢;rw[zo a2.1,yg hb]
 have eC:3<=bh k->eO (gF k b m).2.2.2=jV b (m+1+16) 8:=λhk=>by have e:(gF k b m).2.2.2=gj b (m+17):=au hk;rw[e]at a3 ⊢;rw[zo a3.1,yg hb]
 have:bh k=0\/bh k=1\/bh k=2\/bh k=3:=by omega
 rcases this with e|e|e|e;rw[e];rfl;·rw[e];show eO (gF k b m).2.1++[]=_;rw[O (by omega),ew]
 ·rw[e];show eO (gF k b m).2.1++(eO (gF k b m).2.2.1++[])=jV b (m+1) (8+8);rw[O (by omega),Y (by omega),ew,vv]
 rw[e];show eO (gF k b m).2.1++(eO (gF k b m).2.2.1++(eO (gF k b m).2.2.2++[]))=jV b (m+1) (8+8+8);rw[O (by omega),Y (by omega),eC (by omega),ew,vv,vv,ee]
theorem Hy (hb:cY b)(n)(hl:b.length=3+n*size k)(ho:∀i,i<n->cu k (gF k b (3+i*size k))=aa)(i)(hi:i<=n):
  b.take (3+i*size k)=b.take 3++((ep k b i).map (gA k)).flatten:=by
 induction i with
 |zero=>simp[ep]
 |succ i ih=>
  have hle:(i+1)*size k<=n*size k:=oB _ hi;have hs:(i+1)*size k=i*size k+size k:=by rw[kV];omega
  rw[show 3+(i+1)*size k=3+i*size k+size k by omega,Fi b _ _ (by omega),ih (by omega),<-Jn hb (ho i (by omega))];unfold ep;rw[mm,cF,cF,uB,ee];congr 2;simp
theorem TL (b)(h:3<=b.length):b.take 3=[aW b 0,aW b 1,aW b 2]:=by have:=Fi b 0 3 (by omega);rw[this];rfl
theorem qw (hb:cY b){l}(h:cJ b=E (k,fr,l)):okF k fr l=aa/\bm k fr l=b/\3<=b.length:=by
 unfold cJ at h;split at h;cases h;rename_i h3;split at h
 ·rename_i hl;split at h
  ·rename_i ho;simp only[Option.some.injEq,Prod.mk.injEq]at h;obtain⟨rfl,rfl,rfl⟩:=h;refine⟨ho,?_,by omega⟩;have hb2:=dJ hb 2;have O:(ep (aW b 0) b (aW b 2).toNat).length=(aW b 2).toNat:=by simp[ep]
   have Y:=(en ho).2.2.2.2;rw[O]at Y;have key:=Hy hb (aW b 2).toNat hl (λi hi=>by have:=Y i hi;unfold ep at this;rw[tS _ _ _ hi]at this;exact this) (aW b 2).toNat (aw _);rw[<-hl,iF,TL b (by omega)]at key;have e:bm (aW b 0) (aW b 1) (ep (aW b 0) b (aW b 2).toNat)=[aW b 0,aW b 1,aW b 2]++((ep (aW b 0) b (aW b 2).toNat).map (gA (aW b 0))).flatten:=by unfold bm;rw[O,show(((aW b 2).toNat:Nat):Int)=aW b 2 by omega];rfl
   rw[e];exact key.symm
  cases h
 cases h
def gN (b:List Int)(a:Nat):Int:=if 9223372036854775808<=ji b a then ji b a-18446744073709551616 else ji b a
def gI (k:Int)(b:List Int)(a:Nat):It:=(aW b a,if 1<=bh k then gN b (a+1)else 0,if 2<=bh k then gN b (a+9)else 0,if 3<=bh k then gN b (a+17)else 0)
def gL (k:Int)(b:List Int)(m:Nat):List It:=(List.range m).map λi=>gI k b (3+i*size k)
theorem Ki{l}(h:okF k fr l=aa):gL k (bm k fr l) l.length=l:=by
 refine CS (by simp[gL]) (λi hi=>?_);have O:i<l.length:=by simpa[gL]using hi
 unfold gL;rw[tS _ _ _ O];exact DZ h i O gN (λb a v h h' e=>by have:=(Dt b a v h h' e).1;unfold gN;rw[this,ar (by omega)])
def GM (b:List Int)(m:Nat):Prop:=m<=(aW b 2).toNat/\(m=(aW b 2).toNat\/b.length<=3+m*size (aW b 0))
theorem Kv (hb:cY b)(hm:GM b m)(h1:okF (aW b 0) (aW b 1) (gL (aW b 0) b m)=aa)(h2:bm (aW b 0) (aW b 1) (gL (aW b 0) b m)=b):cJ b=E (aW b 0,aW b 1,gL (aW b 0) b m):=by have:=yj h1;rw[h2]at this;exact this
theorem Ku (hb:cY b)(hm:GM b m)(h:¬(okF (aW b 0) (aW b 1) (gL (aW b 0) b m)=aa/\bm (aW b 0) (aW b 1) (gL (aW b 0) b m)=b)):cJ b=V:=by
 cases hd:cJ b with
 |none=>rfl
 |some f=>
  obtain⟨k,fr,l⟩:=f;exfalso;apply h;obtain⟨h1,h2,h3⟩:=qw hb hd;have b0:aW b 0=k:=by rw[<-h2];rfl
  have b1:aW b 1=fr:=by rw[<-h2];rfl
  have b2:aW b 2=(l.length:Int):=by rw[<-h2];rfl
  have hl:b.length=3+l.length*size k:=by rw[<-h2];exact qu k fr l
  have em:m=l.length:=by
   obtain⟨m1,m2⟩:=hm;rw[b2,ox]at m1 m2;rcases m2 with m2|m2;exact m2;rw[b0,hl]at m2;have:l.length*size k<=m*size k:=by omega
   have hs:0<size k:=by unfold size;omega
   have:=Nat.le_of_mul_le_mul_right this hs;omega
  rw[b0,b1,em];have e:=Ki h1;rw[h2]at e;rw[e];exact⟨h1,h2⟩
def eU (l:List It):Bool:=ei l.length λi=>bK (it l i).2.1&&(bK (it l i).2.2.1&&zB (it l i).2.2.2)
def ko (l:List It)(u:Int):Bool:=ei l.length λi=>(bb.aG (it l i).2.1&&(bb.aG (it l i).2.2.1&&bb.aG (it l i).2.2.2))&&decide ((it l i).1≠u)
def om (l:List It):Bool:=ei l.length λi=>decide ((it l i).1=(i:Int)+1)&&(dn (it l i).2.1&&(zB (it l i).2.2.1&&zB (it l i).2.2.2))
def pK (l:List It):Bool:=ei l.length λi=>tB (it l i).2.1&&(bb.aG (it l i).2.2.1&&zB (it l i).2.2.2)
def oO (l:List It):Bool:=ei l.length λi=>zB (it l i).2.1&&(zB (it l i).2.2.1&&zB (it l i).2.2.2)
def nr (k fr:Int)(l:List It):Bool:=
 (decide (l.length<=12)&&bN l)&&(if k=1 then bb.bE fr&&(decide (l.length=1)&&(decide ((it l 0).1=fr)&&eU l))else if k=2 then zB fr&&(decide (1<=l.length)&&eU l)
  else if k=3 then bb.bE fr&&ko l fr else if k=4 then zB fr&&ko l 0 else if k=5 then bb.bE fr&&(decide (1<=l.length)&&om l)
  else if k=6 then zB fr&&(decide (1<=l.length)&&oO l)else if k=7 then bb.bE fr&&(decide (1<=l.length)&&pK l)else Y)
theorem xT (n p q):(ei n λi=>p i&&q i)=(ei n p&&ei n q):=by rw[pM,bS,nL,nL,nL];simp only[Bool.and_eq_true];exact⟨λh=>⟨λk hk=>(h k hk).1,λk hk=>(h k hk).2⟩,λh k hk=>⟨h.1 k hk,h.2 k hk⟩⟩
theorem Qp (k fr l):nr k fr l=okF k fr l:=by
 unfold nr okF;cases hl:decide (l.length<=12);simp;cases hr:bN l;simp;rw[eE,eE,eE,eE];have O:=nL.1 hr;by_cases k1:k=1
 ·subst k1;have e1:iw 1 l=eU l:=rfl;have e2:dv 1 fr=bb.bE fr:=rfl;have e3:ej 1 fr l=(decide (l.length=1)&& !hE l fr):=rfl;rw[au rfl,e1,e2,e3];congr 1;by_cases hn:l.length=1
  ·have:(!hE l fr)=decide ((it l 0).1=fr):=by unfold hE;rw[hn];unfold ei;simp
   rw[this,aK hn,eE,eE]
  rw[aM hn];simp
 rw[ar k1];by_cases k2:k=2;·subst k2;have e1:iw 2 l=eU l:=rfl;have e2:dv 2 fr=zB fr:=rfl;have e3:ej 2 fr l=decide (1<=l.length):=rfl;rw[au rfl,e1,e2,e3]
 rw[ar k2];by_cases k3:k=3
 ·subst k3;have e1:ko l fr=(iw 3 l&&hE l fr):=by unfold ko;rw[xT];rfl
  have e2:dv 3 fr=bb.bE fr:=rfl;have e3:ej 3 fr l=hE l fr:=rfl;rw[au rfl,e1,e2,e3,Ar (iw 3 l)]
 rw[ar k3];by_cases k4:k=4
 ·subst k4;have e1:ko l 0=(iw 4 l&&hE l 0):=by unfold ko;rw[xT];rfl
  have e2:dv 4 fr=zB fr:=rfl;have e3:ej 4 fr l=aa:=rfl;have e4:hE l 0=aa:=iJ λi hi=>by have:=O i hi;unfold jl at this;rw[bS,bb.lY]at this;exact aK (by omega)
  rw[au rfl,e1,e2,e3,e4,uy,eE]
 rw[ar k4];by_cases k5:k=5
 ·subst k5;have e1:om l=(lZ l&&iw 5 l):=by unfold om;rw[xT];rfl
  have e2:dv 5 fr=bb.bE fr:=rfl;have e3:ej 5 fr l=(decide (1<=l.length)&&lZ l):=rfl;rw[au rfl,e1,e2,e3,Bool.and_assoc]
 rw[ar k5];by_cases k6:k=6;·subst k6;have e1:iw 6 l=oO l:=rfl;have e2:dv 6 fr=zB fr:=rfl;have e3:ej 6 fr l=decide (1<=l.length):=rfl;rw[au rfl,e1,e2,e3]
 rw[ar k6];by_cases k7:k=7;·subst k7;have e1:iw 7 l=pK l:=rfl;have e2:dv 7 fr=bb.bE fr:=rfl;have e3:ej 7 fr l=decide (1<=l.length):=rfl;rw[au rfl,e1,e2,e3]
 rw[ar k7];have:dv k fr=Y:=by unfold dv;rw[ar (by omega),ar (by omega)]
 rw[this,iD]
end aq
namespace eH
open Go.Proofs.YtchideljndagjabGreat.bb
def ev:List Int->Int->Int
 |[],_=>0
 |d::ds,x=>(ev ds x+d)*x
def mG:List Int->Int->Int
 |[],_=>0
 |d::ds,x=>bc (bA (mG ds x) d) x
def bW (s:Int)(ds:List Int)(x:Int):Int:=(s+ev ds x)%2305843009213693951
theorem Pt (s ds x):0<=bW s ds x:=by unfold bW;omega
theorem Ps (s ds x):bW s ds x<2305843009213693951:=by unfold bW;omega
theorem CG (ds x):0<=mG ds x:=by cases ds with
 |nil=>exact pN 0
 |cons d ds=>exact iO
theorem CF (ds x):mG ds x<2305843009213693951:=by cases ds with
 |nil=>show(0:Int)<_;omega
 |cons d ds=>exact iN
theorem KG (ds x):mG ds x=ev ds x%2305843009213693951:=by
 induction ds with
 |nil=>rfl
 |cons d ds ih=> show bc (bA (mG ds x) d) x=(ev ds x+d)*x%_;unfold bc bA;rw[ih,fH,mi,Int.emod_add_emod,<-fH]
theorem KH (s ds x):bA (mG ds x) s=bW s ds x:=by unfold bA bW;rw[KG,Int.emod_add_emod,Int.add_comm]
theorem Jr (ds d x):ev (ds++[d]) x=ev ds x+d*x ^ (ds.length+1):=by
 induction ds with
 |nil=>show(0+d)*x=0+d*x ^ 1;rw[At,FI,FI]
 |cons e ds ih=> show(ev (ds++[d]) x+e)*x=(ev ds x+e)*x+d*x ^ (ds.length+1+1);rw[ih,nB x (ds.length+1)];generalize x ^ (ds.length+1)=y;grind
theorem Pv (s)(ds:List Int)(k x)(hk:k<ds.length):
  bA (bW s (ds.take k) x) (bc (ds.getD k 0) (bB x ((k:Int)+1)))=bW s (ds.take (k+1)) x:=by rw[gV hk,bG,aQ hk,xn];unfold bA bW bc bB;rw[Jr,eV,Nat.min_eq_left (by omega),show((k:Int)+1).toNat=k+1 by omega];generalize x ^ (k+1)=y;rw[fH,mi,<-fH,<-Int.add_emod,Int.add_assoc]
theorem Pu (s x)(h:0<=s)(h':s<2305843009213693951):bW s [] x=s:=by show(s+0)%_=s;omega
theorem KF (ds:List Int)(k)(hk:k<ds.length)(x):bc (bA (mG (ds.drop (k+1)) x) (ds.getD k 0)) x=mG (ds.drop k) x:=by rw[xj hk,bG,aQ hk];rfl
end eH
namespace aO
open aq
structure Cl where
 N:Int
 T:Int
 M:Int
 id:Int
 inp:List Int
 ch:Int
 ms:Int
 sd:Int
 sm:List Int
 ss:List Int
def dV (N T M D:Int):Bool:=decide (1<=N/\N<=12)&&(decide (1<=T/\T<=N)&&(decide (1<=M/\M<=12)&&decide (1<=D/\D<=50)))
def mQ (l:List Int):Bool:=l.all dn
def fz (T M:Int)(inp:List Int)(ch mk sd:Int)(sm ss:List Int):Bool:=
 mQ inp&&(decide ((inp.length:Int)=M)&&(decide ((sm.length:Int)=T-1)&&(decide ((ss.length:Int)=T-1)&&(sm.all bb.aG&&(ss.all bb.aG&&(bb.aG ch&&(bb.aG mk&&bb.aG sd)))))))
structure dr (c:Cl):Prop where
 n:1<=c.N/\c.N<=12
 t:1<=c.T/\c.T<=c.N
 m:1<=c.M/\c.M<=12
 i:1<=c.id/\c.id<=c.N
 inp:∀z∈c.inp,0<=z/\z<4294967296
 len:(c.inp.length:Int)=c.M
 zQ:(c.sm.length:Int)=c.T-1
 zS:(c.ss.length:Int)=c.T-1
 sm:c.sm.all bb.aG=aa
 ss:c.ss.all bb.aG=aa
 ch:0<=c.ch/\c.ch<2305843009213693951
 ms:0<=c.ms/\c.ms<2305843009213693951
 sd:0<=c.sd/\c.sd<2305843009213693951
theorem vG{N T M D id inp ch mk sd sm ss}(h1:dV N T M D=aa)(h2:1<=id/\id<=N)(h3:fz T M inp ch mk sd sm ss=aa):dr ⟨N,T,M,id,inp,ch,mk,sd,sm,ss⟩:=by unfold dV at h1;unfold fz mQ at h3;simp only[Bool.and_eq_true,decide_eq_true_iff,bb.io]at h1 h3;obtain⟨a1,a2,a3,a4⟩:=h1;obtain⟨b1,b2,b3,b4,O,Y,b7,b8,b9⟩:=h3;exact⟨a1,a2,a3,h2,λz hz=>rb.1 (fk.1 b1 z hz),b2,b3,b4,O,Y,b7,b8,b9⟩
def aL (l:List It)(v:Int):It:=(l.find? λx=>decide (x.1=v)).getD (0,0,0,0)
def aP (l:List It)(v:Int):Bool:=l.any λx=>decide (x.1=v)
def kj (c:Cl):Int:=bb.bB 37 c.ch
def eU (c:Cl):Int:=bb.bB 37 c.ms
def gB (c:Cl)(k:List It):Bool:=
 (k.all λx=>decide (x.1<=c.N))&&(decide (c.T<=(k.length:Int))&&(decide ((aL k c.id).1=c.id)&&(decide ((aL k c.id).2.1=kj c)&&decide ((aL k c.id).2.2.1=eU c))))
def dh (c:Cl)(k:List It)(v:Int):Int:=bb.bB (aL k v).2.1 c.ch
def eK (c:Cl)(k:List It)(v:Int):Int:=bb.bB (aL k v).2.2.1 c.ms
def gR (c:Cl)(k b:List It)(v:Int):Bool:=decide (bb.fj (dh c k v) (64*v+4*c.id) (aL b v).2.1 (aL b v).2.2.1=(aL b v).2.2.2)
def j' (c:Cl)(k b:List It)(v:Int):Int:=if v=c.id then eH.bW c.ms c.sm c.id else bb.dA (aL b v).2.1 (bb.bL (dh c k v) (64*v+4*c.id))
def jH (c:Cl)(k b:List It)(v:Int):Int:=if v=c.id then eH.bW c.sd c.ss c.id else bb.dA (aL b v).2.2.1 (bb.bL (dh c k v) (64*v+4*c.id+1))
def d_ (c:Cl)(k b:List It):Bool:=
 !aP b c.id&&(decide (c.T<=(b.length:Int)+1)&&b.all λx=>aP k x.1&&gR c k b x.1)
def gZ (c:Cl)(b a:List It):Bool:=
 (a.all λx=>aP b x.1||decide (x.1=c.id))&&(aP a c.id&&decide (c.T<=(a.length:Int)))
abbrev Fr:=Int×Int×List It
def dO (kd:Int):List Fr->Option (Fr×List Fr)
 |[]=>V
 |f::h=>if f.1=kd then E (f,h)else dO kd h
theorem xR (kd:Int)(h:List Fr)(f:Fr):dO kd (h++[f])=match dO kd h with
  |some (g,t)=>E (g,t++[f])
  |none=>if f.1=kd then E (f,[])else V:=by
 induction h with
 |nil=>rfl
 |cons g h ih=>
  show(if g.1=kd then E (g,h++[f])else dO kd (h++[f]))=_;by_cases e:g.1=kd
  ·rw[au e]
   show _=(match (if g.1=kd then E (g,h)else dO kd h)with
    |some (g,t)=>E (g,t++[f])
    |none=>if f.1=kd then E (f,[])else V);rw[au e]
  rw[ar e,ih]
  show _=(match (if g.1=kd then E (g,h)else dO kd h)with
   |some (g,t)=>E (g,t++[f])
   |none=>if f.1=kd then E (f,[])else V);rw[ar e]
abbrev St:=Int×List It×List It×List It
def ln (c:Cl)(k b:List It)(h:List Fr):St:=match dO 6 h with
 |none=>(3,k,b,[])
 |some (a,_)=>if gZ c b a.2.2=aa then(4,k,b,a.2.2)else(0,k,b,a.2.2)
def lm (c:Cl)(k:List It)(h:List Fr):St:=match dO 4 h with
 |none=>(2,k,[],[])
 |some (b,t)=>if d_ c k b.2.2=aa then ln c k b.2.2 t else(0,k,b.2.2,[])
def lk (c:Cl)(h:List Fr):St:=match dO 2 h with
 |none=>(1,[],[],[])
 |some (k,t)=>if gB c k.2.2=aa then lm c k.2.2 t else(0,k.2.2,[],[])
def fQ (c:Cl)(s:St)(f:Fr):St:=
 if s.1=1/\f.1=2 then(if gB c f.2.2=aa then(2,f.2.2,[],[])else(0,f.2.2,[],[]))
 else if s.1=2/\f.1=4 then(if d_ c s.2.1 f.2.2=aa then(3,s.2.1,f.2.2,[])else(0,s.2.1,f.2.2,[]))
 else if s.1=3/\f.1=6 then(if gZ c s.2.2.1 f.2.2=aa then(4,s.2.1,s.2.2.1,f.2.2)else(0,s.2.1,s.2.2.1,f.2.2))
 else s
theorem ov (c s f)(h1:¬(s.1=1/\f.1=2))(h2:¬(s.1=2/\f.1=4))(h3:¬(s.1=3/\f.1=6)):fQ c s f=s:=by unfold fQ;rw[ar h1,ar h2,ar h3]
theorem MW (c k){b}(h f):ln c k b (h++[f])=fQ c (ln c k b h) f:=by
 unfold ln;rw[xR]
 cases e:dO 6 h with
 |none=> by_cases hf:f.1=6;simp only[hf,if_true];unfold fQ;simp[hf];simp only[hf,if_false];rw[ov c _ f (by simp) (by simp) (by simp[hf])]
 |some g=>
  obtain⟨a,t⟩:=g;simp only;split;·rw[ov c _ f (by simp) (by simp) (by simp)]
  rw[ov c _ f (by simp) (by simp) (by simp)]
theorem MS (c){k}(h f):lm c k (h++[f])=fQ c (lm c k h) f:=by
 unfold lm;rw[xR]
 cases e:dO 4 h with
 |none=> by_cases hf:f.1=4;simp only[hf,if_true];unfold fQ;simp[hf,ln,dO];simp only[hf,if_false];rw[ov c _ f (by simp) (by simp[hf]) (by simp)]
 |some g=> obtain⟨b,t⟩:=g;simp only;split;exact MW c k t f;rw[ov c _ f (by simp) (by simp) (by simp)]
theorem M_{c h f}:lk c (h++[f])=fQ c (lk c h) f:=by
 unfold lk;rw[xR]
 cases e:dO 2 h with
 |none=> by_cases hf:f.1=2;simp only[hf,if_true];unfold fQ;simp[hf,lm,dO];simp only[hf,if_false];rw[ov c _ f (by simp[hf]) (by simp) (by simp)]
 |some g=> obtain⟨k,t⟩:=g;simp only;split;exact MS c t f;rw[ov c _ f (by simp) (by simp) (by simp)]
theorem Tp{c s f}:(fQ c s f).1=s.1->fQ c s f=s:=by
 unfold fQ;split;·rename_i h;intro e;split at e<;>simp at e<;>omega
 split;·rename_i h;intro e;split at e<;>simp at e<;>omega
 split;·rename_i h;intro e;split at e<;>simp at e<;>omega
 exact λ_=>rfl
def fO (c:Cl)(k:List It):List It:=(k.filter λx=>decide (x.1≠c.id)).map λx=>
 (x.1,bb.bA (eH.bW c.ms c.sm x.1) (bb.bL (dh c k x.1) (64*c.id+4*x.1)),bb.bA (eH.bW c.sd c.ss x.1) (bb.bL (dh c k x.1) (64*c.id+4*x.1+1)),
  bb.fj (dh c k x.1) (64*c.id+4*x.1) (bb.bA (eH.bW c.ms c.sm x.1) (bb.bL (dh c k x.1) (64*c.id+4*x.1))) (bb.bA (eH.bW c.sd c.ss x.1) (bb.bL (dh c k x.1) (64*c.id+4*x.1+1))))
def kf (c:Cl)(k b:List It)(i:Nat):Int:=c.inp.getD i 0+bb.cj c.sd i+(b.map λx=>if c.id<x.1 then bb.cj (eK c k x.1) i else-bb.cj (eK c k x.1) i).sum
def dy (c:Cl)(k b:List It):List It:=(List.range c.M.toNat).map λi:Nat=>((i:Int)+1,kf c k b i%4294967296,0,0)
def tells (c:Cl)(k b a:List It):List It:=((List.range 12).filter λv:Nat=>aP b ((v:Int)+1)||decide (((v:Int)+1)=c.id)).map λv:Nat=>
 (((v:Int)+1),if aP a ((v:Int)+1)=aa then 1 else 2,if aP a ((v:Int)+1)=aa then jH c k b ((v:Int)+1)else j' c k b ((v:Int)+1),0)
def rG (c:Cl)(s:St):Option Fr:=
 if s.1=2 then E (3,c.id,fO c s.2.1)else if s.1=3 then E (5,c.id,dy c s.2.1 s.2.2.1)else if s.1=4 then E (7,c.id,tells c s.2.1 s.2.2.1 s.2.2.2)else V
theorem cd (l i)(hi:i<l.length):it l i=l[i]:=by unfold it;rw[bG,aQ hi];rfl
theorem gm{l}(h:bN l=aa):l.Pairwise (λx y=>x.1<y.1)/\∀x∈l,1<=x.1/\x.1<=12:=by
 have h':=nL.1 h;have hc:∀i (hi:i<l.length),1<=(l[i]).1/\(l[i]).1<=12:=λi hi=>by have:=h' i hi;unfold jl at this;rw[bS,bb.lY,cd l i hi]at this;exact this.1
 have hs:∀i (hi:i+1<l.length),(l[i]'(by omega)).1<(l[i+1]).1:=λi hi=>by have:=h' (i+1) hi;unfold jl at this;rw[bS,cd l (i+1) hi,xm,cd l i (by omega)]at this;have h2:=this.2;rw[aM (show¬i+1=0 by omega),Bool.false_or,uE]at h2;exact h2
 have key:∀d i (hi:i+d+1<l.length),(l[i]'(by omega)).1<(l[i+d+1]).1:=by
  intro d
  induction d with
  |zero=>exact λi hi=>hs i hi
  |succ d ih=> intro i hi;have h1:=ih i (by omega);have h2:=hs (i+d+1) (by omega);exact Int.lt_trans h1 h2
 refine⟨xl.2 λi j hi hj O=>?_,λx hx=>?_⟩;have:=key (j-i-1) i (by omega);have e:i+(j-i-1)+1=j:=by omega
 simp only[e]at this;exact this;obtain⟨i,hi,rfl⟩:=fT hx;exact hc i hi
theorem zk{l}(h1:l.Pairwise (λx y=>x.1<y.1))(h2:∀x∈l,1<=x.1/\x.1<=12):bN l=aa:=by refine iJ λi hi=>?_;unfold jl;have hx:=h2 _ (cN hi);rw[cd l i hi,bb.dW hx.1 hx.2,eE];by_cases h0:i=0;rw[aK h0];rfl;have hp:=xl.1 h1 (i-1) i (by omega) hi (by omega);rw[cd l (i-1) (by omega),aK hp,sQ]
theorem u_{l}{p:It->Bool}(h:∀x∈l,p x=aa):ei l.length (λi=>p (it l i))=aa:=
 iJ λi hi=>by rw[cd l i hi];exact h _ (cN hi)
theorem si {l:List It}(h1:l.Pairwise (λx y=>x.1<y.1))(h2:∀x∈l,1<=x.1/\x.1<=12):l.length<=12:=by
 have key:∀i (hi:i<l.length),(i:Int)+1<=(l[i]).1:=by
  intro i
  induction i with
  |zero=>intro hi;have:=h2 _ (cN hi);omega
  |succ i ih=> intro hi;have a:=ih (by omega);have b:=xl.1 h1 i (i+1) (by omega) hi (by omega);omega
 rcases mn l.length with h|h;omega;have a:=key (l.length-1) (by omega);have b:=h2 _ (cN (show l.length-1<l.length by omega));omega
theorem BT (a b):bb.aG (bb.bA a b)=aa:=bb.eD (bb.kC a b) (bb.kB a b)
theorem BU{b}:bb.aG (bb.dA a b)=aa:=bb.eD (bb.zX a b) (bb.uq a b)
theorem rR{s ds}:bb.aG (eH.bW s ds x)=aa:=bb.eD (by unfold eH.bW;omega) (by unfold eH.bW;omega)
theorem Jh (k q x y):bb.aG (bb.fj k q x y)=aa:=bb.eD (bb.TK k q x y) (bb.TJ k q x y)
theorem wP{c}(hc:dr c){k}(hr:bN k=aa):okF 3 c.id (fO c k)=aa:=by
 obtain⟨p1,p2⟩:=gm hr;have O:∀x∈fO c k,∃y∈k,y.1≠c.id/\x.1=y.1/\cu 3 x=aa:=by intro x hx;unfold fO at hx;obtain⟨y,hy,rfl⟩:=cq.1 hx;obtain⟨Y,ac⟩:=uC.1 hy;refine⟨y,Y,by simpa using ac,rfl,?_⟩;show(bb.aG _&&(bb.aG _&&bb.aG _))=aa;rw[BT,BT,Jh];rfl
 have q1:(fO c k).Pairwise (λx y=>x.1<y.1):=by unfold fO;rw[rp];exact(p1.filter _).imp (λh=>h)
 have q2:∀x∈fO c k,1<=x.1/\x.1<=12:=λx hx=>by obtain⟨y,hy,_,e,_⟩:=O x hx;rw[e];exact p2 y hy
 unfold okF;have a1:=aK (si q1 q2);have a2:dv 3 c.id=aa:=bb.dW hc.i.1 (by have:=hc.i.2;have:=hc.n.2;omega);have a3:=zk q1 q2;have a4:ej 3 c.id (fO c k)=aa:=by show hE _ _=aa;exact u_ (p:=λx=>decide (x.1≠c.id)) (λx hx=>by obtain⟨y,_,hy,e,_⟩:=O x hx;exact aK (by rw[e];exact hy))
 have a5:iw 3 (fO c k)=aa:=u_ (p:=cu 3) (λx hx=>by obtain⟨_,_,_,_,h⟩:=O x hx;exact h);rw[a1,a2,a3,a4,a5];rfl
theorem mI (c k b):(dy c k b).length=c.M.toNat:=by simp[dy]
theorem rZ (c k b i)(hi:i<c.M.toNat):it (dy c k b) i=((i:Int)+1,kf c k b i%4294967296,0,0):=by unfold dy;exact tS _ _ i hi
theorem vZ{c}(hc:dr c)(k b):okF 5 c.id (dy c k b)=aa:=by
 have hm:=hc.m;unfold okF;have a1:decide ((dy c k b).length<=12)=aa:=aK (by rw[mI];omega);have a2:dv 5 c.id=aa:=bb.dW hc.i.1 (by have:=hc.i.2;have:=hc.n.2;omega);have a3:bN (dy c k b)=aa:=iJ λi hi=>by rw[mI]at hi;unfold jl;rw[rZ c k b i hi,bb.dW (by show 1<=(i:Int)+1;omega) (by show(i:Int)+1<=12;omega),eE];by_cases h0:i=0;rw[aK h0];rfl;rw[rZ c k b (i-1) (by omega),aK (show(((i-1:Nat):Int)+1)<(i:Int)+1 by omega),sQ]
 have a4:ej 5 c.id (dy c k b)=aa:=by
  show(decide (1<=(dy c k b).length)&&lZ (dy c k b))=aa;have:lZ (dy c k b)=aa:=iJ λi hi=>by rw[mI]at hi;rw[rZ c k b i hi];exact aK rfl
  rw[this,aK (by rw[mI];omega)];rfl
 have a5:iw 5 (dy c k b)=aa:=iJ λi hi=>by rw[mI]at hi;rw[rZ c k b i hi];show(dn (kf c k b i%4294967296)&&(zB 0&&zB 0))=aa;rw[rb.2 ⟨by omega,by omega⟩];rfl
 rw[a1,a2,a3,a4,a5];rfl
theorem sK{c}(hc:dr c)(k b a):okF 7 c.id (tells c k b a)=aa:=by
 have hi:=hc.i;have hn:=hc.n;have O:∀x∈tells c k b a,∃v:Nat,v<12/\x.1=(v:Int)+1/\cu 7 x=aa:=by
  intro x hx;unfold tells at hx;obtain⟨v,hv,rfl⟩:=cq.1 hx;obtain⟨Y,hv2⟩:=uC.1 hv;refine⟨v,eW.1 Y,rfl,?_⟩;show(tB _&&(bb.aG _&&zB 0))=aa;have e1:∀q:Prop,[Decidable q]->tB (if q then 1 else 2)=aa:=λq _=>by split<;>rfl
  have e2:bb.aG (jH c k b ((v:Int)+1))=aa:=by unfold jH;split;exact rR;exact BU
  have e3:bb.aG (j' c k b ((v:Int)+1))=aa:=by unfold j';split;exact rR;exact BU
  have e4:bb.aG (if aP a ((v:Int)+1)=aa then jH c k b ((v:Int)+1)else j' c k b ((v:Int)+1))=aa:=by split;exact e2;exact e3
  rw[e1,e4];rfl
 have q1:(tells c k b a).Pairwise (λx y=>x.1<y.1):=by unfold tells;rw[rp];exact(FK.filter _).imp (λh=>by show((_:Nat):Int)+1<((_:Nat):Int)+1;omega)
 have q2:∀x∈tells c k b a,1<=x.1/\x.1<=12:=λx hx=>by obtain⟨v,hv,e,_⟩:=O x hx;rw[e];omega
 have q3:1<=(tells c k b a).length:=by
  have hm:(c.id.toNat-1)∈(List.range 12).filter λv:Nat=>aP b ((v:Int)+1)||decide (((v:Int)+1)=c.id):=by rw[uC];refine⟨eW.2 (by omega),?_⟩;rw[aK (show(((c.id.toNat-1:Nat):Int)+1)=c.id by omega),sQ]
  have:=List.length_pos_of_mem hm;unfold tells;rw[dI];omega
 unfold okF;have a1:=aK (si q1 q2);have a2:dv 7 c.id=aa:=bb.dW hi.1 (by omega);have a3:=zk q1 q2;have a4:ej 7 c.id (tells c k b a)=aa:=aK q3;have a5:iw 7 (tells c k b a)=aa:=u_ (p:=cu 7) (λx hx=>by obtain⟨_,_,_,h⟩:=O x hx;exact h);rw[a1,a2,a3,a4,a5];rfl
structure Pr where
 mem:Bool
 ck:Int
 mq:Int
 ms:Int
 ss:Int
def Pr.z:Pr:=⟨Y,0,0,0,0⟩
def jn (f:Nat->Pr)(v:Nat)(p:Pr):Nat->Pr:=λu=>if u=v then p else f u
theorem Uq (f v p):jn f v p v=p:=by simp[jn]
theorem Fw{f v p u}(h:u≠v):jn f v p u=f u:=by simp[jn,h]
def qH (c:Cl):Pr:=⟨aa,0,0,0,eH.bW c.sd c.ss c.id⟩
def lu (c:Cl)(k:List It)(v:Int):Pr:=if v=c.id then qH c else⟨aa,dh c k v,eK c k v,0,0⟩
def sk (c:Cl)(k b:List It)(v:Int):Pr:=⟨aa,0,eK c k v,j' c k b v,jH c k b v⟩
def iq (c:Cl)(k:List It)(v:Nat):Pr:=if aP k v=aa then lu c k v else Pr.z
def j_ (c:Cl)(k:List It)(j:Nat)(v:Nat):Pr:=if aP (k.take j) v=aa then lu c k v else Pr.z
def iy (c:Cl)(k b:List It)(v:Nat):Pr:=if aP b v=aa then sk c k b v else if (v:Int)=c.id then qH c else Pr.z
def kp (c:Cl)(k b:List It)(j:Nat)(v:Nat):Pr:=if aP (b.take j) v=aa then sk c k b v else if (v:Int)=c.id then qH c else Pr.z
theorem jC{l}:aP l v=aa↔∃x∈l,x.1=v:=by unfold aP;simp
theorem o_{l}:aP l v=Y↔∀x∈l,x.1≠v:=by unfold aP;simp
theorem vJ (l j)(hj:j<l.length)(v):aP (l.take (j+1)) v=(aP (l.take j) v||decide ((it l j).1=v)):=by unfold aP;rw[gV hj,List.any_append,cd l j hj];simp
theorem CA{l}(hj:j<l.length):aP l (it l j).1=aa:=jC.2 ⟨_,by rw[cd l j hj];exact cN hj,rfl⟩
theorem ub{l}(h:bN l=aa){i}(hi:i<l.length)(hj:j<l.length)(O:i<j):(it l i).1<(it l j).1:=by have:=xl.1 (gm h).1 i j hi hj O;rwa [cd l i hi,cd l j hj]
theorem vO{l}(h:bN l=aa)(hj:j<l.length):aL l (it l j).1=it l j:=by
 unfold aL
 cases e:l.find? (λx=>decide (x.1=(it l j).1))with
 |none=> rw[sT]at e;have:=e (it l j) (by rw[cd l j hj];exact cN hj);simp at this
 |some y=>
  have h1:=FJ e;have h2:=xk e;obtain⟨i,hi,rfl⟩:=fT h2;rw[uE]at h1;show l[i]=it l j;rw[<-cd l i hi]at h1 ⊢;rcases Nat.lt_trichotomy i j with q|q|q;have:=ub h hi hj q;omega;·rw[q]
  have:=ub h hj hi q;omega
theorem Lm{l}(h:aP l v=aa):(aL l v).1=v:=by
 unfold aL
 cases e:l.find? (λx=>decide (x.1=v))with
 |none=> rw[sT]at e;obtain⟨x,hx,hv⟩:=jC.1 h;have:=e x hx;simp[hv]at this
 |some y=>simpa using FJ e
theorem qB{l}(h:aP l v=Y):aL l v=(0,0,0,0):=by
 unfold aL
 cases e:l.find? (λx=>decide (x.1=v))with
 |none=>rfl
 |some y=> have h1:=FJ e;have h2:=xk e;rw[uE]at h1;exact absurd h1 (o_.1 h y h2)
theorem Kw{c}(hc:dr c){k}(h:gB c k=aa):aP k c.id=aa:=by
 cases e:aP k c.id with
 |true=>rfl
 |false=> unfold gB at h;rw[qB e]at h;simp only[Bool.and_eq_true,decide_eq_true_iff]at h;have:=hc.i.1;have:=h.2.2.1;omega
theorem JO (c k):j_ c k 0=λ_=>Pr.z:=by funext v;unfold j_;simp[aP]
theorem JN (c k j)(hj:j<k.length)(u:Nat)(hu:(it k j).1=(u:Int)):j_ c k (j+1)=jn (j_ c k j) u (lu c k (it k j).1):=by
 funext v;unfold j_ jn;rw[vJ k j hj];by_cases e:v=u;·subst e;rw[au rfl,hu,aK rfl,sQ,au rfl]
 rw[ar e,aM (show¬(it k j).1=(v:Int)by omega),ri]
theorem JM (c k):j_ c k k.length=iq c k:=by funext v;unfold j_ iq;rw[iF]
theorem RU (c k b)(u:Nat)(hu:c.id=(u:Int)):kp c k b 0=jn (λ_=>Pr.z) u (qH c):=by funext v;unfold kp jn;by_cases e:v=u;subst e;simp[aP,hu];simp[aP,e,hu];intro q;omega
theorem RT (c k b j)(hj:j<b.length)(u:Nat)(hu:(it b j).1=(u:Int)):kp c k b (j+1)=jn (kp c k b j) u (sk c k b (it b j).1):=by
 funext v;unfold kp jn;rw[vJ b j hj];by_cases e:v=u;·subst e;rw[au rfl,hu,aK rfl,sQ,au rfl]
 rw[ar e,aM (show¬(it b j).1=(v:Int)by omega),ri]
theorem RR (c k b):kp c k b b.length=iy c k b:=by funext v;unfold kp iy;rw[iF]
theorem ES:∀(l m:List Int),l.Pairwise (·< ·)->m.Pairwise (·< ·)->(∀x,x∈l↔x∈m)->l=m
 |[],[],_,_,_=>rfl
 |[],y::m,_,_,h=>absurd ((h y).2 (iE)) (by simp)
 |x::l,[],_,_,h=>absurd ((h x).1 (iE)) (by simp)
 |x::l,y::m,hl,hm,h=>by
  rw[List.pairwise_cons]at hl hm;have e:x=y:=by have h1:=(h x).1 (iE);have h2:=(h y).2 (iE);rcases rk.1 h1 with e|e;exact e;rcases rk.1 h2 with e'|e';exact e'.symm;have:=hm.1 x e;have:=hl.1 y e';omega
  subst e;rw[ES l m hl.2 hm.2 (λz=>by
   constructor;·intro hz;have:=(h z).1 (ks _ hz);rcases rk.1 this with e|e;subst e;exact absurd (hl.1 _ hz) (by omega);exact e
   intro hz;have:=(h z).2 (ks _ hz);rcases rk.1 this with e|e;subst e;exact absurd (hm.1 _ hz) (by omega);exact e)]
theorem yD{l}(h:bN l=aa):l.map (·.1)=((List.range 13).filter λv:Nat=>aP l v).map (λv:Nat=>(v:Int)):=by obtain⟨p1,p2⟩:=gm h;apply ES;rw[rp];exact p1;rw[rp];exact(FK.filter _).imp (λh=>by show((_:Nat):Int)<((_:Nat):Int);omega);intro x;constructor;intro hx;obtain⟨y,hy,rfl⟩:=cq.1 hx;have:=p2 y hy;refine cq.2 ⟨y.1.toNat,uC.2 ⟨eW.2 (by omega),?_⟩,by omega⟩;exact jC.2 ⟨y,hy,by omega⟩;intro hx;obtain⟨v,hv,rfl⟩:=cq.1 hx;obtain⟨_,h2⟩:=uC.1 hv;obtain⟨y,hy,e⟩:=jC.1 h2;exact cq.2 ⟨y,hy,e⟩
theorem Nr{α:Type}{l}(h:bN l=aa)(f:Int->α):l.map (λx=>f x.1)=((List.range 13).filter λv:Nat=>aP l v).map (λv:Nat=>f v):=by have:=cg (List.map f) (yD h);rw[lL,lL]at this;exact this
theorem JK{α:Type}{l}(h:bN l=aa)(p:Int->Bool)(f:Int->α):(l.filter λx=>p x.1).map (λx=>f x.1)=((List.range 13).filter λv:Nat=>aP l v&&p v).map (λv:Nat=>f v):=by
 have:=cg (λm=>(List.filter p m).map f) (yD h);simp only[List.filter_map,List.map_map]at this;have e:((List.range 13).filter λv:Nat=>aP l v&&p v)=((List.range 13).filter λv:Nat=>aP l v).filter (p ∘ λv:Nat=>(v:Int)):=by rw[Au];congr 1;funext v;exact Ar _ _
 rw[e];exact this
def pC (c:Cl)(k:List It)(v:Int):It:=
 (v,bb.bA (eH.bW c.ms c.sm v) (bb.bL (dh c k v) (64*c.id+4*v)),bb.bA (eH.bW c.sd c.ss v) (bb.bL (dh c k v) (64*c.id+4*v+1)),
  bb.fj (dh c k v) (64*c.id+4*v) (bb.bA (eH.bW c.ms c.sm v) (bb.bL (dh c k v) (64*c.id+4*v))) (bb.bA (eH.bW c.sd c.ss v) (bb.bL (dh c k v) (64*c.id+4*v+1))))
def h_ (c:Cl)(k:List It)(n:Nat):List It:=((List.range n).filter λv:Nat=>aP k v&&decide ((v:Int)≠c.id)).map λv:Nat=>pC c k v
theorem RQ (c:Cl){k:List It}(h:bN k=aa):h_ c k 13=fO c k:=by unfold h_ fO;exact(JK h (λv=>decide (v≠c.id)) (pC c k)).symm
theorem RO (c:Cl)(k:List It)(n:Nat):h_ c k (n+1)=h_ c k n++(if (aP k n&&decide ((n:Int)≠c.id))=aa then[pC c k n]else[]):=by unfold h_;rw[mm,uA,cF];congr 1;by_cases e:(aP k n&&decide ((n:Int)≠c.id))=aa;rw[au e,pO,au e];rfl;rw[ar e,pO,ar e];rfl
def qW (c:Cl)(k b a:List It)(v:Int):It:=(v,if aP a v=aa then 1 else 2,if aP a v=aa then jH c k b v else j' c k b v,0)
def ed (c:Cl)(k b a:List It)(n:Nat):List It:=((List.range n).filter λv:Nat=>aP b v||decide ((v:Int)=c.id)).map λv:Nat=>qW c k b a v
theorem Ad (c:Cl)(k b a:List It)(n:Nat):ed c k b a (n+1)=ed c k b a n++(if (aP b n||decide ((n:Int)=c.id))=aa then[qW c k b a n]else[]):=by unfold ed;rw[mm,uA,cF];congr 1;by_cases e:(aP b n||decide ((n:Int)=c.id))=aa;rw[au e,pO,au e];rfl;rw[ar e,pO,ar e];rfl
theorem Fo {c:Cl}(hc:dr c){b:List It}(hb:bN b=aa)(k a:List It):ed c k b a 13=tells c k b a:=by
 unfold ed tells;have r:List.range 13=0::(List.range 12).map (·+1):=by decide
 have h0:¬(aP b ((0:Nat):Int)||decide ((((0:Nat):Int))=c.id))=aa:=by
  have h1:aP b ((0:Nat):Int)=Y:=o_.2 λx hx=>by have:=(gm hb).2 x hx;omega
  have:=hc.i.1;rw[h1,aM (show¬(((0:Nat):Int))=c.id by omega)];exact dR
 rw[r,pO,ar h0,List.filter_map,lL];rfl
def iv (c:Cl)(k b:List It)(i:Nat):Nat->Int
 |0=>bb.cj c.sd i
 |n+1=>iv c k b i n+(if aP b n=aa then(if c.id<(n:Int)then bb.cj (eK c k n) i else 4294967296-bb.cj (eK c k n) i)else 0)
theorem lH (s:Int)(i:Nat):0<=bb.cj s i/\bb.cj s i<4294967296:=by unfold bb.cj;omega
theorem Dl (c:Cl)(k b:List It)(i n:Nat):0<=iv c k b i n/\iv c k b i n<=4294967296*(1+n):=by
 induction n with
 |zero=>have:=lH c.sd i;unfold iv;omega
 |succ n ih=>
  unfold iv;have:=lH (eK c k n) i;split;·split<;>omega
  omega
theorem NK (c:Cl)(k b:List It)(i n:Nat):∃t:Int,iv c k b i n=bb.cj c.sd i+((((List.range n).filter λv:Nat=>aP b v).map λv:Nat=>if c.id<(v:Int)then bb.cj (eK c k v) i else-bb.cj (eK c k v) i).sum)+4294967296*t:=by
 induction n with
 |zero=>exact⟨0,by simp[iv]⟩
 |succ n ih=>
  obtain⟨t,ht⟩:=ih;rw[mm,uA,cF,FL];unfold iv;rw[ht]
  cases e:aP b n with
  |true=> rw[au rfl];by_cases q:c.id<(n:Int);rw[au q];refine⟨t,?_⟩;simp[e,q];omega;rw[ar q];refine⟨t+1,?_⟩;simp[e,q];omega
  |false=> rw[ar (by simp)];exact⟨t,by simp[e]⟩
theorem NJ (c:Cl)(k:List It){b:List It}(hb:bN b=aa)(i:Nat):(c.inp.getD i 0+iv c k b i 13)%4294967296=kf c k b i%4294967296:=by obtain⟨t,ht⟩:=NK c k b i 13;unfold kf;rw[ht,Nr hb (λv=>if c.id<v then bb.cj (eK c k v) i else-bb.cj (eK c k v) i)];omega
end aO
end Go.Proofs.YtchideljndagjabGreat


