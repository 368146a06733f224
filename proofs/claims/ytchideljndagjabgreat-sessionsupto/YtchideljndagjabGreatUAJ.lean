/- Joined -/
import Derived.Test.YtchideljndagjabGreatUAA
import Derived.Test.YtchideljndagjabGreatUHD
set_option linter.unusedVariables false
namespace Go.Proofs.YtchideljndagjabGreat
open bb
open Or renaming inl->ae,inr->Q
open Bool renaming false->Y,true->aa
abbrev FZ:=@Nat.pow_succ
abbrev tj:=@Nat.le_of_dvd
abbrev xx:=@Nat.add_mod
abbrev FY:=@Nat.mod_eq_zero_of_dvd
abbrev AE:=@Nat.dvd_trans
abbrev U_:=@Nat.dvd_iff_mod_eq_zero
abbrev U':=@Nat.sub_mod_eq_zero_of_mod_eq
abbrev AF:=@Nat.mod_eq_of_lt
abbrev Az:=@Classical.byContradiction
abbrev Vh:=@Nat.mul_le_mul
abbrev FX:=@Nat.Coprime.mul_dvd_of_dvd_of_dvd
abbrev uM:=@Int.le_of_lt
abbrev FU:=@Int.natCast_pow
abbrev FV:=@Int.ofNat_dvd_left
abbrev UZ:=@Int.emod_eq_zero_of_dvd
abbrev pX:=@List.mem_append
abbrev AD:=@List.nodup_append
abbrev pW:=@List.length_filter_le
abbrev FW:=@List.filter_congr
abbrev uN:=@Int.mul_le_mul_of_nonneg_right
abbrev lN:=@List.mem_singleton
abbrev nJ:=@Bool.eq_false_iff
abbrev tk:=@Option.isSome_iff_exists
abbrev Vi:=@Option.some.inj
abbrev AA:=@Decidable.byContradiction
abbrev AB:=@Int.natCast_add
variable {a b c d t x:Int}{i p r rd u v:Nat}
namespace tA
def kz (p:Nat):Prop:=2<=p/\∀d,d ∣ p->d=1\/d=p
theorem yo{a b}(hp:kz p)(h:p ∣ a*b):p ∣ a\/p ∣ b:=by rcases hp.2 _ (Nat.gcd_dvd_left p a)with h1|h1;exact Q (Nat.Coprime.dvd_of_dvd_mul_left h1 h);exact ae (by rw[<-h1];exact Nat.gcd_dvd_right p a)
def ch:Nat->Nat->Nat
 |_,0=>1
 |0,_+1=>0
 |n+1,k+1=>ch n k+ch n (k+1)
def bs (n a:Nat):Nat->Nat
 |0=>0
 |m+1=>bs n a m+ch n m*a ^ m
theorem vt (n):ch n 0=1:=by cases n<;>rfl
theorem ql (n k):ch (n+1) (k+1)=ch n k+ch n (k+1):=rfl
theorem vr (n):∀k,n<k->ch n k=0:=by
 induction n with
 |zero=>intro k hk;cases k with
  |zero=>omega
  |succ k=>rfl
 |succ n ih=>intro k hk;cases k with
  |zero=>omega
  |succ k=>rw[ql,ih k (by omega),ih (k+1) (by omega)]
theorem Iv (n):ch n n=1:=by
 induction n with
 |zero=>rfl
 |succ n ih=>rw[ql,ih,vr n (n+1) (by omega)]
theorem HN (n a):∀m,bs (n+1) a (m+1)=bs n a (m+1)+a*bs n a m:=by
 intro m
 induction m with
 |zero=>simp[bs,vt]
 |succ m ih=>
  rw[bs,ih,ql];conv=>rhs;rw[bs]
  conv=>rhs;rhs;rw[bs]
  rw[FZ];grind
theorem HP (n a):bs n a (n+1)=(a+1) ^ n:=by
 induction n with
 |zero=>simp[bs,ch]
 |succ n ih=> rw[HN];rw[show bs n a (n+1+1)=bs n a (n+1)+ch n (n+1)*a ^ (n+1)from rfl,vr n (n+1) (by omega),ih,FZ];grind
theorem Ir (n):∀k,(k+1)*ch (n+1) (k+1)=(n+1)*ch n k:=by
 induction n with
 |zero=>intro k;cases k with
  |zero=>rfl
  |succ k=>rw[ql,vr 0 (k+1) (by omega),vr 0 (k+1+1) (by omega),lM,Nat.mul_zero,Nat.mul_zero]
 |succ n ih=>intro k;cases k with
  |zero=> have h:=ih 0;rw[vt]at h;rw[ql,vt];omega
  |succ j=> have h1:=ih j;have h2:=ih (j+1);rw[ql (n+1) (j+1)];rw[ql n j]at*;grind
theorem Iu (hp:kz p)(k)(h0:0<k)(hk:k<p):p ∣ ch p k:=by obtain⟨j,rfl⟩:∃j,k=j+1:=⟨k-1,by omega⟩;obtain⟨n,rfl⟩:∃n,p=n+1:=⟨p-1,by omega⟩;have h:=Ir n j;rcases yo hp (a:=j+1) (b:=ch (n+1) (j+1)) (by rw[h];exact Nat.dvd_mul_right _ _)with h1|h1;have:=tj (by omega) h1;omega;exact h1
theorem HM (hp:kz p)(a):∀m,m<p->bs p a (m+1)%p=1%p:=by
 intro m
 induction m with
 |zero=>intro _;simp[bs,vt]
 |succ m ih=> intro h;rw[bs,xx,ih (by omega)];have h1:ch p (m+1)*a ^ (m+1)%p=0:=FY (AE (Iu hp (m+1) (by omega) h) (Nat.dvd_mul_right _ _));rw[h1];simp
theorem Ke (hp:kz p)(a):(a+1) ^ p%p=(a ^ p+1)%p:=by have h2:=hp.1;rw[<-HP];rw[bs,Iv,Nat.one_mul,xx];have:=HM hp a (p-1) (by omega);rw[show p-1+1=p by omega]at this;rw[this,<-xx,FM]
theorem Jv (hp:kz p)(a):a ^ p%p=a%p:=by
 have h2:=hp.1
 induction a with
 |zero=>rw[Nat.zero_pow (by omega)]
 |succ a ih=>rw[Ke hp,xx,ih,<-xx]
theorem Ce (hp:kz p)(a)(ha:¬p ∣ a):a ^ (p-1)%p=1:=by
 have h2:=hp.1;have h:=Jv hp a;have e:a ^ p=a*a ^ (p-1):=by rw[<-Nat.pow_succ',Nat.succ_eq_add_one,show p-1+1=p by omega]
 have a0:0<a:=by rcases mn a with h|h;exact absurd (by rw[h];exact Nat.dvd_zero p) ha;exact h
 have q0:0<a ^ (p-1):=Nat.pow_pos a0;have hd:p ∣ a*(a ^ (p-1)-1):=by rw[Nat.mul_sub,Nat.mul_one,<-e];exact(U_).2 (U' h)
 rcases yo hp hd with h1|h1;exact absurd h1 ha;obtain⟨c,hc⟩:=h1;rw[show a ^ (p-1)=1+p*c by omega,Nat.add_mul_mod_self_left,AF (by omega)]
theorem PE (c r)(hr:1<r)(m n:Nat):c ^ m%r=1->c ^ n%r=1->c ^ (Nat.gcd m n)%r=1:=by
 induction m,n using Nat.gcd.induction with
 |H0 n=>intro _ h;rw[Nat.gcd_zero_left];exact h
 |H1 m n h0 ih=>
  intro hm hn;rw[Nat.gcd_rec];refine ih ?_ hm;have e:c ^ n=(c ^ m) ^ (n/m)*c ^ (n%m):=by rw[<-Nat.pow_mul,<-Nat.pow_add,Nat.div_add_mod]
  rw[e,Nat.mul_mod,Nat.pow_mod,hm,Nat.one_pow,AF hr,Nat.one_mul,Nat.mod_mod]at hn;exact hn
theorem wA{P}(q c)(hr:kz r)(hd:r ∣ P)(hq:kz q)(h1:c ^ q%P=1)(h0:1<=c)(hg:Nat.gcd (c-1) P=1):q ∣ r-1:=by
 have r2:=hr.1;have q2:=hq.1;have e1:c ^ q%r=1:=by rw[<-Nat.mod_mod_of_dvd _ hd,h1,AF (by omega)]
 have hc:¬r ∣ c:=by
  intro h;have e:c ^ q=c ^ (q-1)*c:=by rw[<-FZ,Nat.succ_eq_add_one,show q-1+1=q by omega]
  have:c ^ q%r=0:=FY (AE h (by rw[e];exact Nat.dvd_mul_left _ _));omega
 have e2:=Ce hr c hc;rcases hq.2 _ (Nat.gcd_dvd_left q (r-1))with h|h;have e3:=PE c r (by omega) q (r-1) e1 e2;rw[h,Nat.pow_one]at e3;have d1:r ∣ c-1:=(U_).2 (U' (by rw[e3,AF (by omega)]));have d2:=Nat.dvd_gcd d1 hd;rw[hg]at d2;have:=tj (by omega) d2;omega;rw[<-h];exact Nat.gcd_dvd_right _ _
def EO (q:Nat):Bool:=decide (2<=q)&&(List.range (q+1)).all λd=>decide (q%d≠0)||d==1||d==q
theorem vM{q}(h:EO q=aa):kz q:=by unfold EO at h;rw[bS,decide_eq_true_iff,fk]at h;refine⟨h.1,λd hd=>?_⟩;have:=h.2 d (eW.2 (by have:=tj (by omega) hd;omega));simp only[Bool.or_eq_true,decide_eq_true_iff,beq_iff_eq]at this;rcases this with(h1|h1)|h1;exact absurd (FY hd) h1;exact ae h1;exact Q h1
theorem Ju (n):2<=n->∃r,kz r/\r ∣ n:=by
 induction n using Nat.strongRecOn with
 |ind n ih=>
  intro h;by_cases hp:kz n;exact⟨n,hp,Nat.dvd_refl n⟩;obtain⟨d,hd⟩:∃d,¬(d ∣ n->d=1\/d=n):=by apply Az;intro hno;exact hp ⟨h,λd=>Az λhc=>hno ⟨d,hc⟩⟩
  have O:d ∣ n:=Az λhc=>hd (λx=>absurd x hc);have aa:d≠1:=λx=>hd (λ_=>ae x);have ac:d≠n:=λx=>hd (λ_=>Q x);have hle:=tj (by omega) O;have h0:d≠0:=by intro x;rw[x]at O;have:=Nat.eq_zero_of_zero_dvd O;omega
  obtain⟨r,hr,Y⟩:=ih d (by omega) (by omega);exact⟨r,hr,AE Y O⟩
theorem Lj{P}(F)(h2:2<=P)(hF:∀r,kz r->r ∣ P->F ∣ r-1)(Y:P<F*F):kz P:=by
 refine⟨h2,λd hd=>?_⟩;apply Az;intro hno;have ag:d≠1:=λx=>hno (ae x);have ah:d≠P:=λx=>hno (Q x);obtain⟨e,he⟩:=hd;have aa:d≠0:=by intro x;rw[x]at he;omega
 have ac:e≠0:=by intro x;rw[x]at he;omega
 have af:e≠1:=by intro x;rw[x]at he;omega
 have small:∀x,x ∣ P->2<=x->F<x:=by intro x hx hx2;obtain⟨r,hr,O⟩:=Ju x hx2;have:=tj (by have:=hr.1;omega) (hF r hr (AE O hx));have:=tj (by omega) O;have:=hr.1;omega
 have s1:=small d ⟨e,he⟩ (by omega);have s2:=small e ⟨d,by rw[he,Nat.mul_comm]⟩ (by omega);have:F*F<=d*e:=Vh (by omega) (by omega);omega
theorem yJ:kz 2305843009213693951:=by refine Lj (61*(151*(331*1321))) (by omega) (λr hr hd=>?_) (by decide+kernel);have d1:=wA 61 2 hr hd (vM (by decide+kernel)) (by decide+kernel) (by decide+kernel) (by decide+kernel);have d2:=wA 151 2211238755008147949 hr hd (vM (by decide+kernel)) (by decide+kernel) (by decide+kernel) (by decide+kernel);have d3:=wA 331 1491285494954315879 hr hd (vM (by decide+kernel)) (by decide+kernel) (by decide+kernel) (by decide+kernel);have d4:=wA 1321 234060095121088422 hr hd (vM (by decide+kernel)) (by decide+kernel) (by decide+kernel) (by decide+kernel);have Y:=FX (by decide+kernel:Nat.Coprime 331 1321) d3 d4;have O:=FX (by decide+kernel:Nat.Coprime 151 (331*1321)) d2 Y;exact FX (by decide+kernel:Nat.Coprime 61 (151*(331*1321))) d1 O
theorem Oq (x:Int)(n)(h0:0<x)(h1:x<2305843009213693951)(hn:n+1=2305843009213693951-1):x*x ^ n%2305843009213693951=1:=by
 obtain⟨a,rfl⟩:=Int.eq_ofNat_of_zero_le (uM h0);have hd:¬2305843009213693951 ∣ a:=by intro h;have:=tj (by omega) h;omega
 have h:=Ce yJ a hd;rw[<-hn,Nat.pow_succ']at h;rw[<-FU,<-Int.natCast_mul];show((a*a ^ n:Nat):Int)%((2305843009213693951:Nat):Int)=((1:Nat):Int);rw[<-Int.natCast_emod,h]
theorem mul_zero (x y:Int)(h:x*y%2305843009213693951=0):x%2305843009213693951=0\/y%2305843009213693951=0:=by
 have h':(2305843009213693951:Int) ∣ x*y:=Int.dvd_of_emod_eq_zero h;have h2:2305843009213693951 ∣ x.natAbs*y.natAbs:=by rw[<-Int.natAbs_mul];exact FV.1 h'
 rcases yo yJ h2 with k|k;exact ae (UZ (FV.2 k));exact Q (UZ (FV.2 k))
theorem unit (x)(h0:0<x)(h1:x<2305843009213693951):bc x (bB x 2305843009213693949)=1:=by unfold bc bB;obtain⟨n,hn⟩:∃n:Nat,n=(2305843009213693949:Int).toNat:=⟨_,rfl⟩;rw[<-hn,fH,mi,<-fH];exact Oq x n h0 h1 (by omega)
end tA
namespace eH
open Go.Proofs.YtchideljndagjabGreat.bb
def inv (u:Int):Int:=bB u 2305843009213693949
theorem yI (u):0<=inv u:=ki _ _
theorem yH (u):inv u<2305843009213693951:=kh _ _
theorem vL (u)(h:0<u)(h':u<2305843009213693951):u*inv u%2305843009213693951=1:=tA.unit u h h'
end eH
namespace aZ
open Go.Proofs.YtchideljndagjabGreat.bb Go.Proofs.YtchideljndagjabGreat.eH
def Cg (a b:Int):Prop:=(2305843009213693951:Int) ∣ a-b
theorem vp:Cg a b↔a%2305843009213693951=b%2305843009213693951:=by unfold Cg;omega
theorem il (a):Cg a a:=⟨0,by omega⟩
theorem rM (h:Cg a b):Cg b a:=by unfold Cg at*;omega
theorem lX (h:Cg a b)(k:Cg b c):Cg a c:=by unfold Cg at*;omega
theorem BH (h:Cg a b)(k:Cg c d):Cg (a+c) (b+d):=by unfold Cg at*;omega
theorem vq (h:Cg a b)(k:Cg c d):Cg (a-c) (b-d):=by unfold Cg at*;omega
theorem jU (h:Cg a b)(k:Cg c d):Cg (a*c) (b*d):=by
 unfold Cg at*;have e:a*c-b*d=(a-b)*c+b*(c-d):=by grind
 rw[e];exact Int.dvd_add (Int.dvd_trans h (Int.dvd_mul_right _ _)) (Int.dvd_trans k (Int.dvd_mul_left _ _))
theorem Ip (h:a=b):Cg a b:=by rw[h];exact il _
theorem vo (a):Cg (a%2305843009213693951) a:=by unfold Cg;omega
theorem ye (hc:¬Cg c 0)(h:Cg (a*c) (b*c)):Cg a b:=by
 have e:(a-b)*c%2305843009213693951=0:=by
  have:(a-b)*c=a*c-b*c:=by grind
  rw[this];unfold Cg at h;omega
 rcases tA.mul_zero _ _ e with k|k;unfold Cg;omega;exact absurd (by unfold Cg;omega) hc
theorem Iq (ha:¬Cg a 0)(hb:¬Cg b 0):¬Cg (a*b) 0:=by intro h;rcases tA.mul_zero a b (by unfold Cg at h;omega)with k|k;exact ha (by unfold Cg;omega);exact hb (by unfold Cg;omega)
def ab:List Int->Int->Int
 |[],_=>1
 |k::l,x=>(if k=x then 1 else k)*ab l x
def be:List Int->Int->Int
 |[],_=>1
 |k::l,x=>(if k=x then 1 else k-x)*be l x
theorem A' (l b x):ab (l++[b]) x=ab l x*(if b=x then 1 else b):=by
 induction l with
 |nil=>show(if b=x then 1 else b)*1=1*(if b=x then 1 else b);rw[rj,uz]
 |cons k l ih=>show(if k=x then 1 else k)*ab (l++[b]) x=(if k=x then 1 else k)*ab l x*_;rw[ih,xh]
theorem Bq (l b x):be (l++[b]) x=be l x*(if b=x then 1 else b-x):=by
 induction l with
 |nil=>show(if b=x then 1 else b-x)*1=1*(if b=x then 1 else b-x);rw[rj,uz]
 |cons k l ih=>show(if k=x then 1 else k-x)*be (l++[b]) x=(if k=x then 1 else k-x)*be l x*_;rw[ih,xh]
def small (x:Int):Prop:=1<=x/\x<=12
theorem xZ (l)(h:∀k∈l,small k)(hx:small x):¬Cg (be l x) 0:=by
 induction l with
 |nil=>show¬Cg 1 0;unfold Cg;omega
 |cons k l ih=> refine Iq ?_ (ih λj hj=>h j (ks _ hj));have:=h k iE;unfold small at this hx;unfold Cg;split<;>omega
def wt (l:List Int)(x:Int):Int:=bc (ab l x%2305843009213693951) (inv (be l x%2305843009213693951))
theorem UU (l x):0<=wt l x:=iO
theorem US (l x):wt l x<2305843009213693951:=iN
theorem xf (l)(h:∀k∈l,small k)(hx:small x):Cg (wt l x*be l x) (ab l x):=by
 have hb:=xZ l h hx;have h1:0<be l x%2305843009213693951:=by unfold Cg at hb;omega
 have h2:=vL (be l x%2305843009213693951) h1 (by omega);unfold wt bc
 have e1:Cg (ab l x%2305843009213693951*inv (be l x%2305843009213693951)%2305843009213693951*be l x) (ab l x*inv (be l x%2305843009213693951)*be l x):=
  jU (lX (vo _) (jU (vo _) (il _))) (il _);refine lX e1 ?_;have e2:Cg (be l x*inv (be l x%2305843009213693951)) 1:=by refine lX (jU (rM (vo (be l x))) (il _)) ?_;rw[vp,h2];rfl
 have e3:ab l x*inv (be l x%2305843009213693951)*be l x=ab l x*(be l x*inv (be l x%2305843009213693951)):=by grind
 rw[e3];refine lX (jU (il _) e2) ?_;rw[rj];exact il _
theorem UT (l x)(h:∀k∈l,small k)(hb:small b)(hx:small x)(hne:b≠x):Cg (wt (l++[b]) x*(b-x)) (b*wt l x):=by
 have hall:∀k∈l++[b],small k:=by intro k hk;rcases pX.1 hk with e|e;exact h k e;simp at e;rw[e];exact hb
 have s1:=xf (l++[b]) hall hx;have s2:=xf l h hx;rw[Bq,A',ar hne,ar hne]at s1;apply ye (xZ l h hx);have e1:wt (l++[b]) x*(b-x)*be l x=wt (l++[b]) x*(be l x*(b-x)):=by grind
 have e2:b*wt l x*be l x=wt l x*be l x*b:=by grind
 rw[e1,e2];exact lX s1 (rM (jU s2 (il b)))
theorem UR (l x)(h:∀k∈l,small k)(ha:small a)(hx:small x)(hne:a≠x):Cg (wt (a::l) x*(a-x)) (a*wt l x):=by
 have hall:∀k∈a::l,small k:=by intro k hk;rcases rk.1 hk with e|e;rw[e];exact ha;exact h k e
 have s1:=xf (a::l) hall hx;have s2:=xf l h hx;have b1:be (a::l) x=(a-x)*be l x:=by show(if a=x then 1 else a-x)*be l x=_;rw[ar hne]
 have b2:ab (a::l) x=a*ab l x:=by show(if a=x then 1 else a)*ab l x=_;rw[ar hne]
 rw[b1,b2]at s1;apply ye (xZ l h hx);have e1:wt (a::l) x*(a-x)*be l x=wt (a::l) x*((a-x)*be l x):=by grind
 have e2:a*wt l x*be l x=a*(wt l x*be l x):=by grind
 rw[e1,e2];exact lX s1 (rM (jU (il a) s2))
def sm (f:Int->Int):List (Int×Int)->Int
 |[]=>0
 |p::l=>p.2*f p.1+sm f l
theorem zP (f l m):sm f (l++m)=sm f l+sm f m:=by
 induction l with
 |nil=>show _=0+_;rw[FI];rfl
 |cons p l ih=>show p.2*f p.1+sm f (l++m)=p.2*f p.1+sm f l+sm f m;rw[ih,Int.add_assoc]
def xs (ps:List (Int×Int)):List Int:=ps.map (·.1)
theorem sP (l m):xs (l++m)=xs l++xs m:=by simp[xs]
def good (ps:List (Int×Int)):Prop:=(∀k∈xs ps,small k)/\(xs ps).Nodup
def lam (ps:List (Int×Int)):Int:=sm (wt (xs ps)) ps
theorem Cx{l b}(h:good (l++[b])):good l/\small b.1/\∀p∈l,b.1≠p.1:=by obtain⟨h1,h2⟩:=h;rw[sP]at h1 h2;have h3:=AD.1 h2;refine⟨⟨λk hk=>h1 k (pX.2 (ae hk)),h3.1⟩,h1 _ (pX.2 (Q (by simp[xs]))),λp hp e=>?_⟩;exact h3.2.2 p.1 (cq.2 ⟨p,hp,rfl⟩) b.1 (by simp[xs]) e.symm
theorem Cy{l a}(h:good (a::l)):good l/\small a.1/\∀p∈l,a.1≠p.1:=by obtain⟨h1,h2⟩:=h;have h3:a.1 ∉ xs l/\(xs l).Nodup:=List.nodup_cons.1 h2;refine⟨⟨λk hk=>h1 k (ks _ hk),h3.2⟩,h1 _ iE,λp hp e=>?_⟩;exact h3.1 (by rw[e];exact cq.2 ⟨p,hp,rfl⟩)
theorem Ta (f g h c d e l)(hl:∀p∈l,Cg (c*f p.1) (d*g p.1-e*h p.1)):Cg (c*sm f l) (d*sm g l-e*sm h l):=by
 induction l with
 |nil=>show Cg (c*0) (d*0-e*0);simp only[Int.mul_zero];exact il _
 |cons p l ih=>
  have i1:=ih λq hq=>hl q (ks _ hq);have i2:=hl p iE;show Cg (c*(p.2*f p.1+sm f l)) (d*(p.2*g p.1+sm g l)-e*(p.2*h p.1+sm h l));have e1:c*(p.2*f p.1+sm f l)=p.2*(c*f p.1)+c*sm f l:=by grind
  have e2:d*(p.2*g p.1+sm g l)-e*(p.2*h p.1+sm h l)=p.2*(d*g p.1-e*h p.1)+(d*sm g l-e*sm h l):=by grind
  rw[e1,e2];exact BH (jU (il _) i2) i1
theorem NQ (a b m)(h:good (a::m++[b])):
  Cg ((b.1-a.1)*lam (a::m++[b])) (b.1*lam (a::m)-a.1*lam (m++[b])):=by
 obtain⟨g1,sb,Y⟩:=Cx h;obtain⟨g2,sa,O⟩:=Cy (l:=m++[b]) h;have hab:a.1≠b.1:=O b (pX.2 (Q (by simp)));have hA:∀p∈a::m,Cg ((b.1-p.1)*wt (xs (a::m++[b])) p.1) (b.1*wt (xs (a::m)) p.1):=by intro p hp;have:=UT (xs (a::m)) p.1 g1.1 sb (g1.1 _ (cq.2 ⟨p,hp,rfl⟩)) (Y p hp);rw[sP,kS (b.1-p.1)];exact this
 have hB:∀p∈m++[b],Cg ((a.1-p.1)*wt (xs (a::m++[b])) p.1) (a.1*wt (xs (m++[b])) p.1):=by intro p hp;have:=UR (xs (m++[b])) p.1 g2.1 sa (g2.1 _ (cq.2 ⟨p,hp,rfl⟩)) (O p hp);rw[kS (a.1-p.1)];exact this
 unfold lam;have mid:=Ta (wt (xs (a::m++[b]))) (wt (xs (a::m))) (wt (xs (m++[b]))) (b.1-a.1) b.1 a.1 m (λp hp=>by
  have h1:=hA p (ks _ hp);have h2:=hB p (pX.2 (ae hp));have e:(b.1-a.1)*wt (xs (a::m++[b])) p.1=(b.1-p.1)*wt (xs (a::m++[b])) p.1-(a.1-p.1)*wt (xs (a::m++[b])) p.1:=by grind
  rw[e];exact vq h1 h2);have ha:=hA a iE;have hb:=hB b (pX.2 (Q (by simp)));generalize wt (xs (a::m++[b]))=W at*;generalize wt (xs (a::m))=U at*;generalize wt (xs (m++[b]))=V at*;have e1:sm W (a::m++[b])=a.2*W a.1+(sm W m+(b.2*W b.1+0)):=by show a.2*W a.1+sm W (m++[b])=_;rw[zP];rfl
 have e2:sm U (a::m)=a.2*U a.1+sm U m:=rfl;have e3:sm V (m++[b])=sm V m+(b.2*V b.1+0):=by rw[zP];rfl
 rw[e1,e2,e3];have l1:(b.1-a.1)*(a.2*W a.1+(sm W m+(b.2*W b.1+0)))=a.2*((b.1-a.1)*W a.1)+((b.1-a.1)*sm W m-b.2*((a.1-b.1)*W b.1)):=by grind
 have l2:b.1*(a.2*U a.1+sm U m)-a.1*(sm V m+(b.2*V b.1+0))=a.2*(b.1*U a.1)+(b.1*sm U m-a.1*sm V m-b.2*(a.1*V b.1)):=by grind
 rw[l1,l2];exact BH (jU (il _) ha) (vq mid (jU (il _) hb))
theorem ML (p):Cg (lam [p]) p.2:=by
 show Cg (p.2*wt [p.1] p.1+0) p.2;have:wt [p.1] p.1=1:=by
  unfold wt;have a1:ab [p.1] p.1=1:=by show(if p.1=p.1 then 1 else p.1)*1=1;rw[au rfl];rfl
  have b1:be [p.1] p.1=1:=by show(if p.1=p.1 then 1 else p.1-p.1)*1=1;rw[au rfl];rfl
  rw[a1,b1];show bc 1 (inv 1)=1;have h:=vL 1 (by omega) (by omega);unfold bc;exact h
 rw[this];exact Ip (by omega)
def dG (ps:List (Int×Int)):Int:=lam ps%2305843009213693951
theorem vS (ps):0<=dG ps:=by unfold dG;omega
theorem vR (ps):dG ps<2305843009213693951:=by unfold dG;omega
end aZ
namespace aB
open aq aO
abbrev Row:=Nat->Option (List It)
abbrev bk:=Nat->Row
structure Cf where
 N:Int
 T:Int
 M:Int
 D:Int
def mem (S:Row)(u:Nat):Bool:=(S u).isSome
def its (S:Row)(u:Nat):List It:=(S u).getD []
def bV (p:Nat->Bool)(n:Nat):List Nat:=(List.range n).filter p
def aT (p:Nat->Bool):List Nat:=bV p 13
theorem iM (p n):bV p (n+1)=bV p n++(if p n=aa then[n]else[]):=by unfold bV;rw[mm,uA];by_cases h:p n=aa<;>simp[h]
theorem gC (p n):(bV p n).length<=n:=by have:=pW p (List.range n);unfold bV;simpa using this
theorem kM{p}:u∈aT p↔u<13/\p u=aa:=by unfold aT bV;simp
theorem vW (p):(aT p).Pairwise (·< ·):=List.Pairwise.filter _ FK
theorem nd{p q}(h:∀u,u<13->p u=q u):aT p=aT q:=by unfold aT bV;apply FW;intro u hu;exact h u (eW.1 hu)
def dY (G:bk)(r u:Nat)(l:List It):bk:=λr' O=>if r'=r/\O=u then some l else G r' O
theorem Ak (G r u l):dY G r u l r u=some l:=by simp[dY]
theorem iV (G r u l){r'}(h:r'≠r):dY G r u l r'=G r':=by funext v;simp[dY,h]
theorem Aj (G r u l r')(h:v≠u):dY G r u l r' v=G r' v:=by simp[dY,h]
def ly (a b:Nat->Bool):Bool:=ei 13 λu=>a u==b u
theorem lz{a b}:ly a b=aa↔∀u,u<13->a u=b u:=by unfold ly;rw[nL];simp
def without (p:Nat->Bool)(u:Nat):Nat->Bool:=λv=>p v&&decide (v≠u)
def shape (C:Cf)(G:bk)(r fr:Nat)(l:List It):Bool:=
 if r=1 then ly (λu=>aP l u) (without (mem (G 0)) fr)
 else if r=2 then decide ((l.length:Int)=C.M)
 else if r=3 then(l.all λx=>decide (x.2.1=1)==mem (G 2) x.1.toNat)&&ly (λu=>aP l u) (mem (G 1))
 else aa
def fits (C:Cf)(G:bk)(r:Nat)(f:Fr):Bool:=
 decide (f.1=2*(r:Int)+1)&&(decide (f.2.1<=C.N)&&(!mem (G r) f.2.1.toNat&&((decide (r=0)||mem (G (r-1)) f.2.1.toNat)&&shape C G r f.2.1.toNat f.2.2)))
def k_ (C:Cf)(r:Nat)(G:bk)(f:Fr):bk:=if fits C G r f=aa then dY G r f.2.1.toNat f.2.2 else G
def now (C:Cf)(r:Nat)(t:Int):Bool:=decide ((r:Int)*C.D<=t/\t<((r:Int)+1)*C.D)
theorem pq{C}:now C r t=aa↔(r:Int)*C.D<=t/\t<((r:Int)+1)*C.D:=by simp[now]
abbrev cI:=List (Int×Fr)
def jx (C:Cf)(r:Nat)(G:bk)(e:Int×Fr):bk:=if now C r e.1=aa then k_ C r G e.2 else G
def mP (C:Cf)(L:cI)(r:Nat)(G:bk):bk:=L.foldl (jx C r) G
def tZ:bk:=λ_ _=>none
def jI (C:Cf)(L:cI):Nat->bk
 |0=>tZ
 |r+1=>mP C L r (jI C L r)
def tab (C:Cf)(L:cI):bk:=jI C L 4
theorem EX (C L e r G):mP C (L++[e]) r G=jx C r (mP C L r G) e:=by unfold mP;rw[List.foldl_append];rfl
theorem EY (C r):∀(L:cI)(G:bk),(∀e∈L,now C r e.1=Y)->mP C L r G=G
 |[],G,_=>rfl
 |e::L,G,h=>by
  show mP C L r (jx C r G e)=G;have:jx C r G e=G:=by unfold jx;rw[h e iE];rfl
  rw[this];exact EY C r L G (λx hx=>h x (ks _ hx))
theorem N_{C}(hD:0<C.D)(hn:now C rd t=aa)(hx:x<=t)(h:rd<r):now C r x=Y:=by
 have h1:=(pq.1 hn).2;have h2:((rd:Int)+1)*C.D<=(r:Int)*C.D:=uN (by omega) (by omega);have:¬((r:Int)*C.D<=x/\x<((r:Int)+1)*C.D):=by intro⟨a,_⟩;omega
 simp only[now,decide_eq_false_iff_not];exact this
theorem NZ{C}(hD:0<C.D)(hn:now C rd t=aa)(h:r<rd):now C r t=Y:=by
 have h1:=(pq.1 hn).1;have h2:((r:Int)+1)*C.D<=(rd:Int)*C.D:=uN (by omega) (by omega);have:¬((r:Int)*C.D<=t/\t<((r:Int)+1)*C.D):=by intro⟨_,a⟩;omega
 simp only[now,decide_eq_false_iff_not];exact this
theorem Fc{C}(hD:0<C.D){rd t}(hn:now C rd t=aa){L}(hL:∀e∈L,e.1<=t):∀k,jI C L (rd+1+k)=jI C L (rd+1)
 |0=>rfl
 |k+1=>by show mP C L (rd+1+k) (jI C L (rd+1+k))=_;rw[EY C _ L _ (λe he=>N_ hD hn (hL e he) (by omega)),Fc hD hn hL k]
theorem Fg{C}(hD:0<C.D)(hr:rd<4)(hn:now C rd t=aa){L}(hL:∀e∈L,e.1<=t):tab C L=jI C L (rd+1):=by have:=Fc hD hn hL (3-rd);rwa [show rd+1+(3-rd)=4 by omega]at this
theorem Fb{C}(hD:0<C.D){rd t}(hn:now C rd t=aa)(L f):∀n,n<=rd->jI C (L++[(t,f)]) n=jI C L n
 |0,_=>rfl
 |n+1,h=>by show mP C (L++[(t,f)]) n (jI C (L++[(t,f)]) n)=mP C L n (jI C L n);rw[Fb hD hn L f n (by omega),EX];unfold jx;rw[NZ hD hn (by omega)];rfl
theorem Fe{C}(hD:0<C.D)(hr:rd<4)(hn:now C rd t=aa){L}(hL:∀e∈L,e.1<=t)(f):tab C (L++[(t,f)])=k_ C rd (tab C L) f:=by
 have O:∀e∈L++[(t,f)],e.1<=t:=λe he=>by rcases pX.1 he with h|h;exact hL e h;rw[lN.1 h];exact pN _
 rw[Fg hD hr hn O,Fg hD hr hn hL];show mP C (L++[(t,f)]) rd (jI C (L++[(t,f)]) rd)=k_ C rd (mP C L rd (jI C L rd)) f;rw[Fb hD hn L f rd (aw _),EX];unfold jx;rw[au hn]
def dm (S:Row):Nat:=(aT (mem S)).length
def many (G:bk):Nat:=dm (G 0)+dm (G 1)+dm (G 2)+dm (G 3)
theorem Dd (p q u)(hp:p u=Y)(hq:q u=aa)(he:∀v,v≠u->q v=p v):∀n,(bV q n).length=(bV p n).length+(if u<n then 1 else 0)
 |0=>by simp[bV]
 |n+1=>by
  rw[iM,iM,cy,cy,Dd p q u hp hq he n];by_cases e:n=u;subst e;simp[hp,hq];rw[he n e];have e1:(if u<n+1 then(1:Nat)else 0)=if u<n then 1 else 0:=by
   by_cases h:u<n;·rw[au h,au (by omega)]
   rw[ar h,ar (by omega)]
  rw[e1];omega
theorem SZ (G r u l)(hu:u<13)(h:mem (G r) u=Y):dm (dY G r u l r)=dm (G r)+1:=by unfold dm aT;rw[Dd (mem (G r)) (mem (dY G r u l r)) u h (by unfold mem;rw[Ak];rfl) (λv hv=>by unfold mem;rw[Aj G r u l r hv]) 13,au hu]
theorem Nq (G r){l}(hr:r<4)(hu:u<13)(h:mem (G r) u=Y):many (dY G r u l)=many G+1:=by
 have hs:=SZ G r u l hu h;have h4:r=0\/r=1\/r=2\/r=3:=by omega
 unfold many;rcases h4 with rfl|rfl|rfl|rfl;rw[hs,iV G 0 u l (by omega:1≠0),iV G 0 u l (by omega:2≠0),iV G 0 u l (by omega:3≠0)];omega;rw[hs,iV G 1 u l (by omega:0≠1),iV G 1 u l (by omega:2≠1),iV G 1 u l (by omega:3≠1)];omega;rw[hs,iV G 2 u l (by omega:0≠2),iV G 2 u l (by omega:1≠2),iV G 2 u l (by omega:3≠2)];omega;rw[hs,iV G 3 u l (by omega:0≠3),iV G 3 u l (by omega:1≠3),iV G 3 u l (by omega:2≠3)];omega
theorem yt{C G f}(h:fits C G r f=aa):f.1=2*(r:Int)+1/\f.2.1<=C.N/\mem (G r) f.2.1.toNat=Y/\(r=0\/mem (G (r-1)) f.2.1.toNat=aa)/\shape C G r f.2.1.toNat f.2.2=aa:=by unfold fits at h;simp only[Bool.and_eq_true,Bool.or_eq_true,decide_eq_true_iff,Bool.not_eq_true']at h;exact⟨h.1,h.2.1,h.2.2.1,h.2.2.2.1,h.2.2.2.2⟩
theorem Np{C G}(hr:r<4){f}(hf:f.2.1<=12):decide (many G<many (k_ C r G f))=fits C G r f:=by unfold k_;by_cases h:fits C G r f=aa;rw[au h,h,Nq G r hr (by omega) (yt h).2.2.1];exact aK (by omega);rw[ar h,aM (by omega)];exact(nJ.2 h).symm
theorem xV{l}(h:bN l=aa):∀x∈l,bE x.1=aa:=λx hx=>dW ((gm h).2 x hx).1 ((gm h).2 x hx).2
def nT (l:List It)(p:Nat->Bool):Bool:=(l.all λx=>bE x.1&&p x.1.toNat)&&decide (l.length=(aT p).length)
theorem yA{l}(h:bN l=aa)(x)(hx:x∈l):x.1.toNat<13/\aP l (x.1.toNat:Nat)=aa:=by have:=(gm h).2 x hx;refine⟨by omega,jC.2 ⟨x,hx,?_⟩⟩;omega
theorem CE{l}(h:bN l=aa)(p):nT l p=ly (λu=>aP l u) p:=by
 have hlen:l.length=(aT λu:Nat=>aP l u).length:=by have:=cg List.length (yD h);simpa[aT,bV]using this
 rw[pM,lz];unfold nT;rw[bS,decide_eq_true_iff,fk];constructor
 ·intro⟨h1,h2⟩;have Y:(aT λu:Nat=>aP l u)=(aT p).filter λu:Nat=>aP l u:=by
   unfold aT bV;rw[Au];apply FW;intro u hu;by_cases q:aP l u=aa;obtain⟨x,hx,e⟩:=jC.1 q;have:=h1 x hx;rw[bS]at this;rw[q,eE];have e':x.1.toNat=u:=by omega
   rw[<-e'];exact this.2.symm;rw[nJ.2 q];rfl
  have O:((aT p).filter λu:Nat=>aP l u)=aT p:=List.Sublist.eq_of_length List.filter_sublist (by rw[<-Y,<-hlen];exact h2);intro u hu;by_cases q:p u=aa;rw[q];have hm:u∈((aT p).filter λu:Nat=>aP l u):=by rw[O];exact kM.2 ⟨hu,q⟩
  exact(uC.1 hm).2;rw[nJ.2 q,o_];intro x hx e;have:=h1 x hx;rw[bS]at this;have e':x.1.toNat=u:=by omega
  rw[e']at this;exact q this.2
 intro hs;refine⟨λx hx=>?_,?_⟩;obtain⟨h1,h2⟩:=yA h x hx;rw[xV h x hx,eE,<-hs _ h1];exact h2;rw[hlen,nd hs]
def qX (l:List It)(p:Nat->Bool):Bool:=l.all λx=>bE x.1&&(p x.1.toNat==decide (x.2.1=1))
theorem TZ{l}(h:bN l=aa)(p):qX l p=l.all λx=>decide (x.2.1=1)==p x.1.toNat:=by
 unfold qX;rw[pM,fk,fk];constructor;·intro a x hx;have:=a x hx;rw[xV h x hx,eE]at this;rw[<-this];cases decide (x.2.1=1)<;>cases p x.1.toNat<;>rfl
 intro a x hx;have:=a x hx;rw[xV h x hx,eE,<-this];cases decide (x.2.1=1)<;>cases p x.1.toNat<;>rfl
theorem vK{l v}:aL l v∈l\/aL l v=(0,0,0,0):=by
 by_cases h:aP l v=aa
 ·refine ae ?_;unfold aL
  cases e:l.find? (λx=>decide (x.1=v))with
  |none=> rw[sT]at e;obtain⟨x,hx,hv⟩:=jC.1 h;exact absurd (aK hv) (e x hx)
  |some x=>exact xk e
 exact Q (qB (nJ.2 h))
theorem Nz{l v}(h:aP l v=aa):aL l v∈l:=by
 rcases vK (l:=l) (v:=v)with h'|h';exact h';obtain⟨x,hx,hv⟩:=jC.1 h;unfold aL
 cases e:l.find? (λx=>decide (x.1=v))with
 |none=> rw[sT]at e;exact absurd (aK hv) (e x hx)
 |some x=>exact xk e
theorem wk{k fr l}(h:okF k fr l=aa){x}(hx:x∈l):cu k x=aa:=by obtain⟨i,hi,rfl⟩:=fT hx;have:=(en h).2.2.2.2 i hi;rwa [cd l i hi]at this
structure eP (C:Cf)(G:bk):Prop where
 ok:∀(r u:Nat)(l:List It),G r u=some l->r<4/\1<=u/\(u:Int)<=C.N/\u<=12/\okF (2*(r:Int)+1) u l=aa
 up:∀r u:Nat,mem (G (r+1)) u=aa->mem (G r) u=aa
 one:∀(u:Nat)(l:List It),G 1 u=some l->∀v:Nat,v<13->aP l v=(mem (G 0) v&&decide (v≠u))
 two:∀(u:Nat)(l:List It),G 2 u=some l->(l.length:Int)=C.M
 three:∀(u:Nat)(l:List It),G 3 u=some l->(∀x∈l,decide (x.2.1=1)=mem (G 2) x.1.toNat)/\∀v:Nat,v<13->aP l v=mem (G 1) v
theorem Ks (C):eP C tZ:=by constructor<;>intros<;>simp_all [tZ,mem]
theorem yS{S}(h:mem S u=aa):∃l,S u=some l:=tk.1 h
theorem qE{S}(h:mem S u=Y):S u=none:=by unfold mem at h;cases e:S u with|none=>rfl|some l=>rw[e]at h;cases h
theorem tU{S l}(h:S u=some l):its S u=l:=by unfold its;rw[h];rfl
theorem CW{S}(h:mem S u=Y):its S u=[]:=by unfold its;rw[qE h];rfl
theorem eP.mem{C G}(h:eP C G)(hm:aB.mem (G r) u=aa):r<4/\1<=u/\(u:Int)<=C.N/\u<=12/\okF (2*(r:Int)+1) u (its (G r) u)=aa:=by obtain⟨l,e⟩:=yS hm;rw[tU e];exact h.ok r u l e
theorem eP.zero{C G}(h:eP C G)(r):aB.mem (G r) 0=Y:=by refine nJ.2 λhm=>?_;have:=(h.mem hm).2.1;omega
theorem eP.add{C G}(h:eP C G)(hr:rd<4)(hl:∀r,rd<r->G r=λ_=>none){f}(hf:okF f.1 f.2.1 f.2.2=aa)(af:fits C G rd f=aa):eP C (dY G rd f.2.1.toNat f.2.2):=by
 obtain⟨k1,k2,k3,k4,k5⟩:=yt af;have ah:1<=f.2.1/\f.2.1<=12:=by have:=(en hf).2.1;unfold dv at this;rw[au (by rw[k1];omega),lY]at this;exact this
 have ac:((f.2.1.toNat:Nat):Int)=f.2.1:=by omega
 have hrow:∀r,r≠rd->dY G rd f.2.1.toNat f.2.2 r=G r:=λr h=>iV G rd _ _ h;have Y:∀r u l,dY G rd f.2.1.toNat f.2.2 r u=some l->(r=rd/\u=f.2.1.toNat/\l=f.2.2)\/G r u=some l:=by
  intro r u l e;unfold dY at e;split at e;·rename_i c;exact ae ⟨c.1,c.2,(Vi e).symm⟩
  exact Q e
 have ag:∀r u,aB.mem (dY G rd f.2.1.toNat f.2.2 r) u=aa↔(r=rd/\u=f.2.1.toNat)\/aB.mem (G r) u=aa:=by intro r u;unfold aB.mem dY;by_cases c:r=rd/\u=f.2.1.toNat;rw[au c];simp[c];rw[ar c];simp[c]
 constructor;·intro r u l e;rcases Y r u l e with⟨rfl,rfl,rfl⟩|e;refine⟨hr,by omega,by rw[ac];exact k2,by omega,?_⟩;rw[ac,<-k1];exact hf;exact h.ok r u l e
 ·intro r u e;rw[ag]at e ⊢;rcases e with⟨e1,rfl⟩|e;·rcases k4 with k4|k4;omega;rw[<-e1,xm]at k4;exact Q k4
  exact Q (h.up r u e)
 ·intro u l e v hv;rcases Y 1 u l e with⟨e1,rfl,rfl⟩|e;have O:=k5;unfold shape at O;rw[au e1.symm,lz]at O;rw[hrow 0 (by omega)];exact O v hv;rw[h.one u l e v hv];by_cases c:rd=0;exfalso;have:=hl 1 (by omega);rw[this]at e;cases e;rw[hrow 0 (by omega)]
 ·intro u l e;rcases Y 2 u l e with⟨e1,rfl,rfl⟩|e;unfold shape at k5;rw[ar (by omega),au e1.symm,uE]at k5;exact k5;exact h.two u l e
 intro u l e;rcases Y 3 u l e with⟨e1,rfl,rfl⟩|e;have O:=k5;unfold shape at O;rw[ar (by omega),ar (by omega),au e1.symm,bS,lz,fk]at O;rw[hrow 2 (by omega),hrow 1 (by omega)];exact⟨λx hx=>eq_of_beq (O.1 x hx),O.2⟩;have c:rd=3:=by apply AA;intro c;have:=hl 3 (by omega);rw[this]at e;cases e
 rw[hrow 2 (by omega),hrow 1 (by omega)];exact h.three u l e
def tP (G:bk)(v:Nat):It:=((v:Int),(aL (its (G 0) v) v).2.1,(aL (its (G 0) v) v).2.2.1,0)
def vg (G:bk)(u v:Nat):It:=((v:Int),(aL (its (G 1) v) u).2.1,(aL (its (G 1) v) u).2.2.1,(aL (its (G 1) v) u).2.2.2)
def u' (v:Nat):It:=((v:Int),0,0,0)
def pg (G:bk)(n:Nat):List It:=(bV (mem (G 0)) n).map (tP G)
def oT (G:bk)(u n:Nat):List It:=(bV (without (mem (G 1)) u) n).map (vg G u)
def oP (G:bk)(n:Nat):List It:=(bV (mem (G 2)) n).map u'
def lA (G:bk)(r u:Nat):List It:=if r=0 then pg G 13 else if r=1 then oT G u 13 else oP G 13
theorem MJ (G n):pg G (n+1)=pg G n++(if mem (G 0) n=aa then[tP G n]else[]):=by unfold pg;rw[iM,cF];split<;>rfl
theorem HF (G u n):oT G u (n+1)=oT G u n++(if without (mem (G 1)) u n=aa then[vg G u n]else[]):=by unfold oT;rw[iM,cF];split<;>rfl
theorem G' (G n):oP G (n+1)=oP G n++(if mem (G 2) n=aa then[u' n]else[]):=by unfold oP;rw[iM,cF];split<;>rfl
theorem tK (k)(hk:k=2\/k=4\/k=6)(p)(g:Nat->It)(hg:∀v,(g v).1=(v:Int))(hp:∀v,v<13->p v=aa->1<=v/\cu k (g v)=aa)(hn:k=4\/aT p≠[]):okF k 0 ((aT p).map g)=aa:=by
 have q1:((aT p).map g).Pairwise (λx y=>x.1<y.1):=by rw[rp];exact(vW p).imp (λ{a b} h=>by rw[hg,hg];omega)
 have q2:∀x∈(aT p).map g,1<=x.1/\x.1<=12:=λx hx=>by obtain⟨v,hv,rfl⟩:=cq.1 hx;obtain⟨h1,h2⟩:=kM.1 hv;have:=(hp v h1 h2).1;rw[hg];omega
 have a1:=aK (si q1 q2);have a2:dv k 0=aa:=by unfold dv;rw[ar (by omega),au hk];rfl
 have a3:=zk q1 q2;have a5:iw k ((aT p).map g)=aa:=u_ (p:=cu k) (λx hx=>by obtain⟨v,hv,rfl⟩:=cq.1 hx;obtain⟨h1,h2⟩:=kM.1 hv;exact(hp v h1 h2).2);have a4:ej k 0 ((aT p).map g)=aa:=by
  have hl:k≠4->1<=((aT p).map g).length:=λh4=>by rw[dI];rcases hn with h|h;exact absurd h h4;exact List.length_pos_iff.2 h
  unfold ej;rw[ar (by omega)];rcases hk with rfl|rfl|rfl;rw[au (by omega)];exact aK (hl (by omega));rfl;rw[au (by omega)];exact aK (hl (by omega))
 unfold okF;rw[a1,a2,a3,a4,a5];rfl
theorem yB{C G}(h:eP C G)(hm:mem (G 0) v=aa):(aL (its (G 0) v) v).1=(v:Int)/\bK (aL (its (G 0) v) v).2.1=aa/\bK (aL (its (G 0) v) v).2.2.1=aa/\(aL (its (G 0) v) v).2.2.2=0:=by
 obtain⟨_,_,_,_,O⟩:=h.mem hm;have hh:aP (its (G 0) v) v=aa:=by have h4:=(en O).2.2.2.1;have e:(decide ((its (G 0) v).length=1)&& !hE (its (G 0) v) v)=aa:=h4;rw[bS,Bool.not_eq_true']at e;obtain⟨i,hi,hx⟩:=GG.1 e.2;refine jC.2 ⟨it (its (G 0) v) i,?_,?_⟩;rw[cd _ i hi];exact cN hi;simpa using hx
 have hx:=Nz hh;have hi:(bK (aL (its (G 0) v) v).2.1&&(bK (aL (its (G 0) v) v).2.2.1&&zB (aL (its (G 0) v) v).2.2.2))=aa:=wk O hx;rw[bS,bS,jq]at hi;exact⟨Lm hh,hi.1,hi.2.1,hi.2.2⟩
theorem HL{C G}(h:eP C G)(v u:Nat):aG (aL (its (G 1) v) u).2.1=aa/\aG (aL (its (G 1) v) u).2.2.1=aa/\aG (aL (its (G 1) v) u).2.2.2=aa:=by
 rcases vK (l:=its (G 1) v) (v:=(u:Int))with hx|hx
 ·have hm:mem (G 1) v=aa:=by
   cases e:G 1 v with
   |none=>unfold its at hx;rw[e]at hx;cases hx
   |some l=>unfold mem;rw[e];rfl
  obtain⟨_,_,_,_,O⟩:=h.mem hm;have hi:(aG (aL (its (G 1) v) u).2.1&&(aG (aL (its (G 1) v) u).2.2.1&&aG (aL (its (G 1) v) u).2.2.2))=aa:=wk O hx;rw[bS,bS]at hi;exact hi
 rw[hx];decide
theorem uh{C G}(h:eP C G)(r u)(hr:r<3)(hn:1<=dm (G r)):okF (2*(r:Int)+2) 0 (lA G r u)=aa:=by
 have hne:aT (mem (G r))≠[]:=by intro e;unfold dm at hn;rw[e]at hn;simp at hn
 have h3:r=0\/r=1\/r=2:=by omega
 rcases h3 with rfl|rfl|rfl;refine tK 2 (by omega) (mem (G 0)) (tP G) (λ_=>rfl) (λv hv hp=>⟨(h.mem hp).2.1,?_⟩) (Q hne);obtain⟨_,h1,h2,_⟩:=yB h hp;show(bK (aL (its (G 0) v) v).2.1&&(bK (aL (its (G 0) v) v).2.2.1&&zB 0))=aa;rw[h1,h2];rfl;refine tK 4 (by omega) (without (mem (G 1)) u) (vg G u) (λ_=>rfl) (λv hv hp=>⟨?_,?_⟩) (ae rfl);unfold without at hp;rw[bS]at hp;exact(h.mem hp.1).2.1;obtain⟨h1,h2,h3⟩:=HL h v u;show(aG (aL (its (G 1) v) u).2.1&&(aG (aL (its (G 1) v) u).2.2.1&&aG (aL (its (G 1) v) u).2.2.2))=aa;rw[h1,h2,h3];rfl;refine tK 6 (by omega) (mem (G 2)) u' (λ_=>rfl) (λv hv hp=>⟨(h.mem hp).2.1,rfl⟩) (Q hne)
def gi (G:bk)(u:Nat):Int:=(aL (its (G 0) u) u).2.2.1
def iB (G:bk)(v n:Nat):List (Int×Int):=(bV (mem (G 3)) n).map λw:Nat=>((w:Int),(aL (its (G 3) w) v).2.2.1)
def jm (G:bk)(v:Nat):List (Int×Int):=iB G v 13
theorem Fl (G v n):iB G v (n+1)=iB G v n++(if mem (G 3) n=aa then[((n:Int),(aL (its (G 3) n) v).2.2.1)]else[]):=by unfold iB;rw[iM,cF];split<;>rfl
def gp (G:bk)(v:Nat):Int:=aZ.dG (jm G v)
theorem Sb (G v):0<=gp G v:=aZ.vS _
theorem Sa (G v):gp G v<2305843009213693951:=aZ.vR _
theorem zY (l m:List Int):(l++m).sum=l.sum+m.sum:=FL
theorem sum_cons (a)(l:List Int):(a::l).sum=a+l.sum:=List.sum_cons
theorem E_ (p)(f:Nat->Int):∀l:List Nat,((l.filter p).map f).sum=(l.map λu=>if p u=aa then f u else 0).sum
 |[]=>rfl
 |a::l=>by
  rw[oA,sum_cons,<-E_ p f l,pO];by_cases h:p a=aa;·rw[au h,au h,oA,sum_cons]
  rw[ar h,ar h];omega
theorem zZ (f)(B:Int):∀l:List Nat,(∀u∈l,-B<=f u/\f u<=B)-> -(B*l.length)<=(l.map f).sum/\(l.map f).sum<=B*l.length
 |[],_=>by simp
 |a::l,h=>by
  have:=zZ f B l (λu hu=>h u (ks _ hu));have ha:=h a iE;rw[oA,sum_cons,sV];have e:B*((l.length+1:Nat):Int)=B*l.length+B:=by rw[AB,Int.mul_add];simp
  rw[e];omega
def yX (G:bk)(i n:Nat):Int:=((List.range n).map λv=>(aL (its (G 2) v) ((i:Int)+1)).2.1).sum
def iu (G:bk)(i:Nat):Int:=yX G i 13
def pn (G:bk)(v:Nat):List (Int×Bool):=if mem (G 2) v=aa then[(gp G v,aa)]else(aT (mem (G 2))).map λu:Nat=>(bB (gi G u) (gp G v),decide (u<v))
def Df (G:bk)(n:Nat):List (Int×Bool):=((bV (mem (G 1)) n).map (pn G)).flatten
def tX (G:bk):List (Int×Bool):=Df G 13
def oa (i:Nat)(m:Int×Bool):Int:=if m.2=aa then 4294967296-cj m.1 i else cj m.1 i
def eZ (ms:List (Int×Bool))(i:Nat):Int:=(ms.map (oa i)).sum
theorem Ok (i m):0<=oa i m/\oa i m<=4294967296:=by have:=lH m.1 i;unfold oa;split<;>omega
theorem zg (i):∀ms:List (Int×Bool),0<=eZ ms i/\eZ ms i<=4294967296*ms.length
 |[]=>by simp[eZ]
 |m::ms=>by have h1:=zg i ms;have h2:=Ok i m;unfold eZ at h1 ⊢;rw[oA,sum_cons,sV];omega
def pL (G:bk)(i:Nat):Int:=(iu G i%4294967296+eZ (tX G) i)%4294967296
def kN (G:bk)(v i:Nat)(u:Nat):Int:=if u<v then-cj (bB (gi G u) (gp G v)) i else cj (bB (gi G u) (gp G v)) i
def jy (G:bk)(i v:Nat):Int:=if mem (G 2) v=aa then(it (its (G 2) v) i).2.1-cj (gp G v) i else((aT (mem (G 2))).map (kN G v i)).sum
def sG (G:bk)(i:Nat):Int:=((aT (mem (G 1))).map (jy G i)).sum
theorem Om (G v i u): -4294967296<=kN G v i u/\kN G v i u<=4294967296:=by have:=lH (bB (gi G u) (gp G v)) i;unfold kN;split<;>omega
theorem On (G v i)(h:mem (G 2) v=Y):∃t:Int,eZ (pn G v) i=((aT (mem (G 2))).map (kN G v i)).sum+4294967296*t:=by
 unfold pn;rw[ar (by rw[h];exact dR)];unfold eZ;rw[lL];generalize aT (mem (G 2))=l
 induction l with
 |nil=>exact⟨0,by simp⟩
 |cons u l ih=>
  obtain⟨t,ih⟩:=ih;rw[oA,sum_cons,ih,oA,sum_cons];by_cases c:u<v
  ·refine⟨t+1,?_⟩;have e1:(oa i ∘ λu:Nat=>(bB (gi G u) (gp G v),decide (u<v))) u=4294967296-cj (bB (gi G u) (gp G v)) i:=by show(if decide (u<v)=aa then _ else _)=_;rw[au (aK c)]
   have e2:kN G v i u= -cj (bB (gi G u) (gp G v)) i:=by unfold kN;rw[au c]
   rw[e1,e2];omega
  refine⟨t,?_⟩;have e1:(oa i ∘ λu:Nat=>(bB (gi G u) (gp G v),decide (u<v))) u=cj (bB (gi G u) (gp G v)) i:=by show(if decide (u<v)=aa then _ else _)=_;rw[ar (by simpa using c)]
  have e2:kN G v i u=cj (bB (gi G u) (gp G v)) i:=by unfold kN;rw[ar c]
  rw[e1,e2];omega
theorem Dv (l m i):eZ (l++m) i=eZ l i+eZ m i:=by unfold eZ;rw[cF,zY]
theorem vY{C G}(h:eP C G)(hm:mem (G 2) v=aa)(hi:(i:Int)<C.M):aL (its (G 2) v) ((i:Int)+1)=it (its (G 2) v) i/\0<=(it (its (G 2) v) i).2.1/\(it (its (G 2) v) i).2.1<4294967296:=by
 obtain⟨l,e⟩:=yS hm;obtain⟨_,_,_,_,ac⟩:=h.ok 2 v l e;rw[tU e];have hl:i<l.length:=by have:=h.two v l e;omega
 obtain⟨h1,h2,h3,h4,h5⟩:=en ac;have O:(decide (1<=l.length)&&lZ l)=aa:=h4;rw[bS]at O;have Y:(it l i).1=(i:Int)+1:=by simpa using nL.1 O.2 i hl
 refine⟨?_,?_⟩;rw[<-Y];exact vO h3 hl;have h6:(dn (it l i).2.1&&(zB (it l i).2.2.1&&zB (it l i).2.2.2))=aa:=h5 i hl;rw[bS,rb]at h6;exact h6.1
theorem NI{C G}(h:eP C G)(hi:(i:Int)<C.M):iu G i=((aT (mem (G 1))).map λv=>if mem (G 2) v=aa then(it (its (G 2) v) i).2.1 else 0).sum:=by
 unfold iu yX aT bV;rw[E_];congr 1;apply mj;intro v hv;by_cases m2:mem (G 2) v=aa;·rw[au (h.up 1 v m2),au m2,(vY h m2 hi).1]
 rw[ar m2,CW (nJ.2 m2)];split<;>rfl
theorem Uj{C G}(h:eP C G)(hi:(i:Int)<C.M)(l:List Nat):∃t:Int,(l.map λv=>if mem (G 2) v=aa then(it (its (G 2) v) i).2.1 else 0).sum+eZ ((l.map (pn G)).flatten) i=(l.map (jy G i)).sum+4294967296*t:=by
 induction l with
 |nil=>exact⟨0,by simp[eZ]⟩
 |cons v l ih=>
  obtain⟨t,ih⟩:=ih;rw[oA,sum_cons,oA,oy,Dv,oA,sum_cons];by_cases m2:mem (G 2) v=aa;refine⟨t+1,?_⟩;have e1:jy G i v=(it (its (G 2) v) i).2.1-cj (gp G v) i:=by unfold jy;rw[au m2]
  have e2:eZ (pn G v) i=4294967296-cj (gp G v) i:=by unfold pn;rw[au m2];simp[eZ,oa]
  rw[au m2,e1,e2];omega;obtain⟨t',e2⟩:=On G v i (nJ.2 m2);refine⟨t+t',?_⟩;have e1:jy G i v=((aT (mem (G 2))).map (kN G v i)).sum:=by unfold jy;rw[ar m2]
  rw[ar m2,e1,e2];omega
theorem Uk{C G}(h:eP C G)(hi:(i:Int)<C.M):pL G i=sG G i%4294967296:=by obtain⟨t,e⟩:=Uj h hi (aT (mem (G 1)));rw[<-NI h hi]at e;have e':iu G i+eZ (tX G) i=sG G i+4294967296*t:=e;unfold pL;omega
def ib (C:Cf)(G:bk):List Int:=(List.range C.M.toNat).map (pL G)
theorem Ls{C G}(h:eP C G)(v x):0<=(aL (its (G 2) v) x).2.1/\(aL (its (G 2) v) x).2.1<4294967296:=by
 rcases vK (l:=its (G 2) v) (v:=x)with hx|hx
 ·have hm:mem (G 2) v=aa:=by
   cases e:G 2 v with
   |none=>unfold its at hx;rw[e]at hx;cases hx
   |some l=>unfold mem;rw[e];rfl
  obtain⟨_,_,_,_,O⟩:=h.mem hm;have hi:(dn (aL (its (G 2) v) x).2.1&&(zB (aL (its (G 2) v) x).2.2.1&&zB (aL (its (G 2) v) x).2.2.2))=aa:=wk O hx;rw[bS,rb]at hi;exact hi.1
 rw[hx];decide
theorem T_{C G}(h:eP C G)(w v):0<=(aL (its (G 3) w) v).2.2.1/\(aL (its (G 3) w) v).2.2.1<2305843009213693951:=by
 rcases vK (l:=its (G 3) w) (v:=v)with hx|hx
 ·have hm:mem (G 3) w=aa:=by
   cases e:G 3 w with
   |none=>unfold its at hx;rw[e]at hx;cases hx
   |some l=>unfold mem;rw[e];rfl
  obtain⟨_,_,_,_,O⟩:=h.mem hm;have hi:(tB (aL (its (G 3) w) v).2.1&&(aG (aL (its (G 3) w) v).2.2.1&&zB (aL (its (G 3) w) v).2.2.2))=aa:=wk O hx;rw[bS,bS,io]at hi;exact hi.2.1
 rw[hx];decide
theorem DS{C G}(h:eP C G)(u):0<=gi G u/\gi G u<2305843009213693951:=by unfold gi;by_cases hm:mem (G 0) u=aa;obtain⟨_,_,h2,_⟩:=yB h hm;rw[pd]at h2;omega;rw[CW (nJ.2 hm),qB (by rfl)];exact⟨by decide,by decide⟩
structure Sv where
 tm:Int
 rd:Nat
 G:bk
 o:Int×Int×List Int×List Int
def start:Sv:=⟨0,0,tZ,(0,0,[],[])⟩
def pend (s:Sv):Bool:=decide (s.o.1=0)
theorem kO{s}:pend s=aa↔s.o.1=0:=by simp[pend]
def counts (C:Cf)(s:Sv)(f:Fr):Bool:=pend s&&fits C s.G s.rd f
def iA (C:Cf)(s:Sv)(f:Fr):Sv:=if counts C s f=aa then{s with G:=dY s.G s.rd f.2.1.toNat f.2.2}else s
def im (C:Cf)(s:Sv):Bool:=decide (s.tm+1=C.D*((s.rd:Int)+1))
def fZ (C:Cf)(s:Sv):Bool:=decide ((dm (s.G s.rd):Int)<C.T)
def kR (G:bk):List Int:=(aT (mem (G 2))).map λu:Nat=>(u:Int)
def cm (C:Cf)(s:Sv):Sv:=
 if pend s=aa then
  if im C s=aa then
   if fZ C s=aa then{s with tm:=s.tm+1,o:=(2,(s.rd:Int),[],[])}
   else if s.rd=3 then{s with tm:=s.tm+1,o:=(1,0,kR s.G,ib C s.G)}
   else{s with tm:=s.tm+1,rd:=s.rd+1}
  else{s with tm:=s.tm+1}
 else s
def pJ (C:Cf)(s:Sv):List (Int×List Int):=
 if (pend s&&(im C s&&(!fZ C s&&decide (s.rd≠3))))=aa then(aT (mem (s.G s.rd))).map λu:Nat=>((u:Int),bm (2*(s.rd:Int)+2) 0 (lA s.G s.rd u))else[]
structure fx (C:Cf):Prop where
 n:1<=C.N/\C.N<=12
 t:1<=C.T/\C.T<=C.N
 m:1<=C.M/\C.M<=12
 d:1<=C.D/\C.D<=50
theorem vF{N T M D}(h:dV N T M D=aa):fx ⟨N,T,M,D⟩:=by unfold dV at h;simp only[Bool.and_eq_true,decide_eq_true_iff]at h;exact⟨h.1,h.2.1,h.2.2.1,h.2.2.2⟩
structure gJ (C:Cf)(s:Sv):Prop where
 rd:s.rd<4
 now:aB.now C s.rd s.tm=aa
 good:eP C s.G
 late:∀r,s.rd<r->s.G r=λ_=>none
theorem Dq{C}(hc:fx C)(hr:r<4)(h:now C r t=aa):0<=t/\t<200:=by obtain⟨h1,h2⟩:=pq.1 h;have:=hc.d;have h3:0<=(r:Int)*C.D:=kT (by omega) (by omega);have h4:((r:Int)+1)*C.D<=4*50:=sR (by omega) (by omega) (by omega) (by omega);omega
theorem ER{C}(hc:fx C):gJ C start:=by have:=hc.d;refine⟨by decide,pq.2 ⟨?_,?_⟩,Ks C,λ_ _=>rfl⟩;show((0:Nat):Int)*C.D<=0;simp;show 0<(((0:Nat):Int)+1)*C.D;simp;omega
theorem gJ.take{C s}(h:gJ C s){f}(hf:okF f.1 f.2.1 f.2.2=aa):gJ C (iA C s f):=by
 unfold iA;by_cases c:counts C s f=aa;·rw[au c];unfold counts at c;rw[bS]at c;exact⟨h.rd,h.now,h.good.add h.rd h.late hf c.2,λr hr=>by have O:s.rd<r:=hr;show dY _ _ _ _ r=_;rw[iV _ _ _ _ (by omega)];exact h.late r O⟩
 rw[ar c];exact h
theorem wZ (C s f):(iA C s f).o=s.o:=by unfold iA;split<;>rfl
theorem w_ (C s f):(iA C s f).tm=s.tm:=by unfold iA;split<;>rfl
theorem Jc{C}(hc:fx C){s}(hn:now C s.rd s.tm=aa)(r:Nat):s.tm+1=C.D*((r:Int)+1)↔r=s.rd/\im C s=aa:=by
 obtain⟨h1,h2⟩:=pq.1 hn;have hd:=hc.d;unfold im;rw[uE];constructor
 ·intro e;have:r=s.rd:=by
   apply AA;intro ne;rcases Nat.lt_or_gt_of_ne ne with c|c;have h3:((r:Int)+1)*C.D<=(s.rd:Int)*C.D:=uN (by omega) (by omega);rw[kS C.D]at e;omega;have h3:((s.rd:Int)+1+1)*C.D<=((r:Int)+1)*C.D:=uN (by omega) (by omega);have h4:((s.rd:Int)+1+1)*C.D=((s.rd:Int)+1)*C.D+C.D:=by rw[Int.add_mul ((s.rd:Int)+1)];omega
   rw[kS C.D]at e;omega
  subst this;exact⟨rfl,e⟩
 rintro⟨rfl,e⟩;exact e
theorem gJ.tick{C}(hc:fx C){s}(h:gJ C s)(hp:(cm C s).o.1=0):gJ C (cm C s):=by
 have hd:=hc.d;obtain⟨h1,h2⟩:=pq.1 h.now;have hr:=h.rd;unfold cm at hp ⊢;by_cases p:pend s=aa
 ·rw[au p]at hp ⊢;by_cases d:im C s=aa
  ·rw[au d]at hp ⊢;by_cases O:fZ C s=aa;rw[au O]at hp;simp at hp;rw[ar O]at hp ⊢;by_cases r3:s.rd=3;rw[au r3]at hp;simp at hp;rw[ar r3];have e:s.tm+1=C.D*((s.rd:Int)+1):=by unfold im at d;simpa using d
   rw[kS]at e;refine⟨by show s.rd+1<4;omega,pq.2 ⟨?_,?_⟩,h.good,λr hr=>h.late r (by have:s.rd+1<r:=hr;omega)⟩;show((s.rd+1:Nat):Int)*C.D<=s.tm+1;rw[e,AB];exact pN _;show s.tm+1<(((s.rd+1:Nat):Int)+1)*C.D;have h4:(((s.rd+1:Nat):Int)+1)*C.D=((s.rd:Int)+1)*C.D+C.D:=by rw[AB,Int.add_mul ((s.rd:Int)+((1:Nat):Int)),uz];rfl
   rw[h4];omega
  rw[ar d];have e:¬s.tm+1=((s.rd:Int)+1)*C.D:=by unfold im at d;rw[kS];simpa using d
  exact⟨h.rd,pq.2 ⟨by show(s.rd:Int)*C.D<=s.tm+1;omega,by show s.tm+1<((s.rd:Int)+1)*C.D;omega⟩,h.good,h.late⟩
 rw[ar p];exact h
structure mX (C:Cf)(s:Sv)(L:cI):Prop where
 tab:aB.tab C L=s.G
 at_:∀e∈L,e.1<=s.tm
 ok:∀e∈L,okF e.2.1 e.2.2.1 e.2.2.2=aa
theorem Ng (C):mX C start []:=⟨rfl,λe he=>(by cases he),λe he=>(by cases he)⟩
theorem mX.take{C}(hc:fx C){s L}(hs:gJ C s)(hp:pend s=aa)(h:mX C s L){f}(hf:okF f.1 f.2.1 f.2.2=aa):mX C (iA C s f) (L++[(s.tm,f)]):=by
 have hd:=hc.d;refine⟨?_,?_,?_⟩;·rw[Fe (by omega) hs.rd hs.now h.at_ f,h.tab];unfold k_ iA counts;rw[hp,eE];split<;>rfl
 ·intro e he;rw[w_];rcases pX.1 he with g|g;exact h.at_ e g;rw[lN.1 g];exact pN _
 intro e he;rcases pX.1 he with g|g;exact h.ok e g;rw[lN.1 g];exact hf
theorem mX.more{C}(hc:fx C){s L}(hs:gJ C s)(hp:pend s=aa)(h:mX C s L){f}(hf:okF f.1 f.2.1 f.2.2=aa):decide (many (aB.tab C L)<many (aB.tab C (L++[(s.tm,f)])))=counts C s f:=by have hd:=hc.d;rw[Fe (by omega) hs.rd hs.now h.at_ f,h.tab];unfold counts;rw[hp,eE];exact Np hs.rd (mK hf).2.2.2.2.1
theorem Ub (C s):(cm C s).G=s.G:=by unfold cm;(repeat' split)<;>rfl
theorem Ac (C s)(hp:pend s=aa):(cm C s).tm=s.tm+1:=by unfold cm;rw[au hp];(repeat' split)<;>rfl
theorem mX.tick{C s L}(hp:pend s=aa)(h:mX C s L):mX C (cm C s) L:=by refine⟨by rw[Ub];exact h.tab,λe he=>?_,h.ok⟩;rw[Ac C s hp];have:=h.at_ e he;omega
end aB
end Go.Proofs.YtchideljndagjabGreat


