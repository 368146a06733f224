/- Joined -/
import Derived.Test.YtchideljndagjabGreatUAC
import Derived.LoopN
import Derived.Handy
set_option linter.unusedVariables false
set_option maxHeartbeats 1000000
set_option maxRecDepth 100000
namespace Go.Proofs.YtchideljndagjabGreat
open aq bb
open Go.Value renaming int->Z,slice->U,bool->ak,agg->aD
open Go.IntKind renaming i64->J,u8->bt
open Go.Ending renaming returned->az
open Option renaming none->V,some->E
open Bool renaming false->Y,true->aa
open Go renaming Calls->ay
open Go.RowKit renaming Below->af,intOf->aA
abbrev sW:=@Proofs.Tryz.func134
abbrev sX:=@Proofs.Tryz.ntmps134
abbrev xp:=@wp_loop_rounds
abbrev fu:=@rounds_succ
abbrev nE:=@Proofs.Tryz.func136
abbrev nG:=@Proofs.Tryz.ntmps136
abbrev fp:=@Proofs.Tryz.func204
abbrev fq:=@Proofs.Tryz.ntmps204
abbrev mo:=@Proofs.Tryz.func138
abbrev mr:=@Proofs.Tryz.ntmps138
open Go.Proofs.Tryz
open Go.ChangeShapes Go.WideShapes Go.ChangeAt Go.RowKit
variable {a fr k:Int}{v:Value}{w:World}
theorem aF{a b}(h:a=b):Ending.returned (ak a)=Ending.returned (ak b):=cg (λx=>Ending.returned (ak x)) h
theorem kK:
  ay prog 253 #[Z J a] w λe w'=>e=az (ak (bK a))/\w'=w:=by
 by_cases h:1<=a
 ·have H:=A (bK a=decide (a<2305843009213693951)) (by unfold bK;simp[h]);by_cases h':a<2305843009213693951;·go_enter func253,ntmps253;go_wp2;go_ret;exact⟨aF (by rw[H.o];exact(aK h').symm),rfl⟩
  go_enter func253,ntmps253;go_wp2;go_ret;exact⟨aF (by rw[H.o];exact(aM (by omega)).symm),rfl⟩
 have H:=A (bK a=Y) (aM (λx=>h x.1));go_enter func253,ntmps253;go_wp2;go_ret;exact⟨aF H.o.symm,rfl⟩
theorem sO:
  ay prog 254 #[Z J a] w λe w'=>e=az (ak (dn a))/\w'=w:=by
 by_cases h:0<=a
 ·have H:=A (dn a=decide (a<4294967296)) (by unfold dn;simp[h]);by_cases h':a<4294967296;·go_enter func254,ntmps254;go_wp2;go_ret;exact⟨aF (by rw[H.o];exact(aK h').symm),rfl⟩
  go_enter func254,ntmps254;go_wp2;go_ret;exact⟨aF (by rw[H.o];exact(aM (by omega)).symm),rfl⟩
 have H:=A (dn a=Y) (aM (λx=>h x.1));go_enter func254,ntmps254;go_wp2;go_ret;exact⟨aF H.o.symm,rfl⟩
theorem vN:
  ay prog 255 #[Z J a] w λe w'=>e=az (ak (tB a))/\w'=w:=by
 by_cases h:a=1;·have H:=A (tB a=aa) (aK (.inl h));subst h;go_enter func255,ntmps255;go_wp2;go_ret;exact⟨aF H.o.symm,rfl⟩
 by_cases h':a=2;·have H:=A (tB a=aa) (aK (.inr h'));subst h';go_enter func255,ntmps255;go_wp2;go_ret;exact⟨aF H.o.symm,rfl⟩
 have H:=A (tB a=Y) (aM (by omega));go_enter func255,ntmps255;go_wp2;go_ret;exact⟨aF (by rw[H.o];simp;omega),rfl⟩
theorem ue{b}(h:a=b):Ending.returned (Z J a)=Ending.returned (Z J b):=cg (λx=>Ending.returned (Z J x)) h
theorem nZ:
  ay prog 134 #[Z J k] w λe w'=>e=az (Z J (bh k:Int))/\w'=w:=by
 have main:∀(n:Int)(P:Prop),cO ((bh k:Int)=n)->(∀w,ay prog 134 #[Z J k] w λe w'=>e=az (Z J n)/\w'=w)->ay prog 134 #[Z J k] w λe w'=>e=az (Z J (bh k:Int))/\w'=w:=
  λn _ h hc=>by rw[h.o];exact hc w
 by_cases h5:k=5;·subst h5;refine main 1 True rfl (λw=>?_);go_enter sW,sX;go_wp2;go_ret;exact⟨rfl,rfl⟩
 by_cases h1:k=1;·subst h1;refine main 2 True rfl (λw=>?_);go_enter sW,sX;go_wp2;go_ret;exact⟨rfl,rfl⟩
 by_cases h2:k=2;·subst h2;refine main 2 True rfl (λw=>?_);go_enter sW,sX;go_wp2;go_ret;exact⟨rfl,rfl⟩
 by_cases h7:k=7;·subst h7;refine main 2 True rfl (λw=>?_);go_enter sW,sX;go_wp2;go_ret;exact⟨rfl,rfl⟩
 by_cases h3:k=3;·subst h3;refine main 3 True rfl (λw=>?_);go_enter sW,sX;go_wp2;go_ret;exact⟨rfl,rfl⟩
 by_cases h4:k=4;·subst h4;refine main 3 True rfl (λw=>?_);go_enter sW,sX;go_wp2;go_ret;exact⟨rfl,rfl⟩
 refine main 0 True (show((bh k:Nat):Int)=0 by unfold bh;rw[ar h5,ar (by omega),ar (by omega)];rfl) (λw=>?_);go_enter sW,sX;go_wp2;go_ret;exact⟨rfl,rfl⟩
theorem yL:
  ay prog 72 #[Z J k] w λe w'=>e=az (Z J (aq.size k:Int))/\w'=w:=by have hw:=jL k;have H:=A ((aq.size k:Int)=1+8*(bh k:Int)) (by unfold aq.size;omega);go_enter func72,ntmps72;go_wp2_with fail;refine aI (nZ) ?_;generalize bh k=n at*;go_wp2;go_ret;exact⟨ue (by rw[H.o]),rfl⟩
theorem NN (x):
  ay prog 223 #[Z J k,aD #[Z J x.1,Z J x.2.1,Z J x.2.2.1,Z J x.2.2.2]] w λe w'=>∃a,e=az (U a (bh k) (bh k))/\
   (0<bh k->∃g,a=E ⟨g,0,V⟩/\w.1.size<=g/\g<w'.1.size/\∀i,i<bh k->w'.cell? ⟨g,i,V⟩=E (Z J ((aq.dz k x).getD i 0)))/\af w.1.size w w':=by
 have hw:=jL k;have O:=A (aq.dz k x=[x.2.1,x.2.2.1,x.2.2.2].take (bh k)) rfl;rcases(show bh k=0\/bh k=1\/bh k=2\/bh k=3 by omega)with e|e|e|e;·have HW:=I e;go_enter func223,ntmps223;go_wp2_with fail;refine aI (nZ) ?_;go_wp2;go_ret;rw[HW.o];exact⟨V,rfl,λh=>absurd h (by omega),(ax _ _).alloc (aw _) _⟩
 ·have HW:=I e;go_enter func223,ntmps223;go_wp2_with fail;refine aI (nZ) ?_;go_wp2;go_ret;rw[O.o,HW.o];refine⟨_,rfl,λ_=>⟨_,rfl,by simp,by simp,λi hi=>?_⟩,((ax _ _).alloc (aw _) _).alloc (by simp) _⟩;obtain rfl:i=0:=by omega
  simp
 ·have HW:=I e;go_enter func223,ntmps223;go_wp2_with fail;refine aI (nZ) ?_;go_wp2;go_ret;rw[O.o,HW.o];refine⟨_,rfl,λ_=>⟨_,rfl,by simp,by simp,λi hi=>?_⟩,((ax _ _).alloc (aw _) _).alloc (by simp) _⟩;rcases(show i=0\/i=1 by omega)with rfl|rfl<;>simp
 have HW:=I e;go_enter func223,ntmps223;go_wp2_with fail;refine aI (nZ) ?_;go_wp2;go_ret;rw[O.o,HW.o];refine⟨_,rfl,λ_=>⟨_,rfl,by simp,by simp,λi hi=>?_⟩,((ax _ _).alloc (aw _) _).alloc (by simp) _⟩;rcases(show i=0\/i=1\/i=2 by omega)with rfl|rfl|rfl<;>simp
theorem IU (v:Int):v/256/256=v/65536/\v/65536/256=v/16777216/\v/16777216/256=v/4294967296/\v/4294967296/256=v/1099511627776/\v/1099511627776/256=v/281474976710656/\v/281474976710656/256=v/72057594037927936:=by refine⟨?_,?_,?_,?_,?_,?_⟩<;>omega
theorem IQ{v}(h:0<=v)(h':v<9223372036854775808):
  ay prog 224 #[Z J v] w λe w'=>e=az (aD #[Z bt (v%256),Z bt (v/256%256),Z bt (v/65536%256),Z bt (v/16777216%256),Z bt (v/4294967296%256),Z bt (v/1099511627776%256),Z bt (v/281474976710656%256),Z bt (v/72057594037927936%256)])/\af w.1.size w w':=by obtain⟨d1,d2,d3,d4,d5,d6⟩:=IU v;go_enter func224,ntmps224;go_wp2;refine xp 9 ?_;rw[fu];go_wp2;rw[fu];go_wp2;rw[fu];go_wp2;rw[fu];go_wp2;rw[fu];go_wp2;rw[fu];go_wp2;rw[fu];go_wp2;rw[fu];go_wp2;rw[fu];go_wp2;go_returns;refine⟨rfl,?_⟩;go_grown
def jd (b:List Int)(m:Nat):Nat->Int
 |0=>0
 |c+1=>256*jd b (m+1) c+aW b m
theorem KE (b m):jd b m 8=ji b m:=by unfold ji;simp only[jd,Nat.add_assoc,Nat.reduceAdd];omega
theorem KD{b}(hb:cY b)(m c)(hc:c<=7)(ht:0<c->aW b (m+c-1)<128):0<=jd b m c/\jd b m c<=36028797018963967:=by
 have h0:=dJ hb m;have h1:=dJ hb (m+1);have h2:=dJ hb (m+2);have h3:=dJ hb (m+3);have h4:=dJ hb (m+4);have h5:=dJ hb (m+5);have h6:=dJ hb (m+6)
 match c,hc,ht with
 |0,_,_=>simp[jd]
 |1,_,ht=>simp only[jd];omega
 |2,_,ht=>simp only[jd];omega
 |3,_,ht=>simp only[jd,Nat.add_assoc,Nat.reduceAdd];omega
 |4,_,ht=>simp only[jd,Nat.add_assoc,Nat.reduceAdd];omega
 |5,_,ht=>simp only[jd,Nat.add_assoc,Nat.reduceAdd];omega
 |6,_,ht=>simp only[jd,Nat.add_assoc,Nat.reduceAdd];omega
 |7,_,ht=> have:=ht (by omega);simp only[jd,Nat.add_assoc,Nat.reduceAdd,show m+7-1=m+6 by omega]at this ⊢;omega
 |n+8,h,_=>omega
theorem Ob{zs}(n)(h:bX w v zs)(hn:n+8<=zs.length):
  ay prog 135 #[v,Z J (n:Int)] w λe w'=>e=az (Z J (gj zs n))/\w'=w:=by
 obtain⟨a,cap,rfl,l2,l3,hb,hc⟩:=eC h;have O:=I hb;have HC:=I hc;have HR:=A (gj zs n=if 128<=aW zs (n+7)then-1 else ji zs n) rfl;clear hc h hb;generalize hl:zs.length=L at*;clear hl;obtain⟨b,off,rfl,hlt,c7⟩:=HC.o (n+7) (by omega);have B7:=dJ O.o (n+7);obtain⟨t,ht⟩:=aj (aW zs (n+7));rw[<-ht]at c7 B7;have Y:=I ht;clear ht;have e7:((n:Int)+7).toNat=n+7:=by omega
 by_cases aa:128<=t;·go_enter func135,ntmps135;go_wp2;go_ret;exact⟨ue (by rw[HR.o,<-Y.o,au aa]),rfl⟩
 go_enter func135,ntmps135;go_wp2;go_loop [6,7] (λu i=>∃m:Nat,n<=m/\m<=n+8/\i=Z J ((m:Int)-1)/\u=Z J (jd zs m (n+8-m))) (λ_ i=>(aA i+1).toNat-n);case atStart=>exact⟨n+8,by omega,by omega,by congr 1,by rw[nD];rfl⟩
 obtain⟨m,ae,af,rfl,rfl⟩:=hrel;by_cases ac:n<m
 ·obtain⟨j,rfl⟩:∃j,m=j+1:=⟨m-1,by omega⟩;obtain⟨b',ag,ea,_,cj⟩:=HC.o j (by omega);simp only[Option.some.injEq,Addr.mk.injEq,and_true]at ea;obtain⟨rfl,rfl⟩:=ea;have BJ:=dJ O.o j;obtain⟨u1,u2⟩:=KD O.o (j+1) (n+8-(j+1)) (by omega) (λhp=>by rw[show j+1+(n+8-(j+1))-1=n+7 by omega,<-Y.o];omega);have HS:=I (show jd zs j (n+8-j)=256*jd zs (j+1) (n+8-(j+1))+aW zs j by rw[show n+8-j=(n+8-(j+1))+1 by omega];rfl);generalize jd zs (j+1) (n+8-(j+1))=u at*;obtain⟨z,hz⟩:=aj (aW zs j);rw[<-hz]at cj BJ HS;clear hz;go_wp2;go_round;case rel=>exact⟨j,by omega,by omega,by go_num,by rw[HS.o]⟩
  simp[aA];omega
 have em:m=n:=by omega
 subst em;have HE:=I (KE zs m);rw[Av];go_wp2;go_ret;exact⟨ue (by rw[HR.o,<-Y.o,ar (by omega)];exact HE.o),rfl⟩
theorem se (zs){x}(n:Nat)(h:bX w v zs)(hx:x=(n:Int))(hn:n+8<=zs.length):
  ay prog 135 #[v,Z J x] w λe w'=>e=az (Z J (gj zs n))/\w'=w:=by rw[hx];exact Ob n h hn
abbrev Lk (x:aq.It):Value:=aD #[Z J x.1,Z J x.2.1,Z J x.2.2.1,Z J x.2.2.2]
theorem Qm (zs k){x}(n:Nat)(h:bX w v zs)(hx:x=(n:Int))(hn:n+aq.size k<=zs.length):
  ay prog 73 #[v,Z J x,Z J k] w λe w'=>e=az (Lk (gF k zs n))/\af w.1.size w w':=by
 subst hx;have hw:=jL k;have HR:=A (gF k zs n=(aW zs n,if 1<=bh k then gj zs (n+1)else 0,if 2<=bh k then gj zs (n+9)else 0,if 3<=bh k then gj zs (n+17)else 0)) rfl;have O:=bj w λw1 hb=>h.below hb;have hs:aq.size k=1+8*bh k:=rfl;have hl:1<=zs.length:=by omega
 obtain⟨a,cap,rfl,l2,l3,hb,hc⟩:=eC h;obtain⟨b,off,rfl,hlt,c0⟩:=hc n (by omega);have B0:=dJ hb n;clear hc hb;obtain⟨t,ht⟩:=aj (aW zs n);rw[<-ht]at c0 B0;have HT:=I ht;obtain⟨L,hL⟩:=aj zs.length;rw[<-hL]at l2 hl hn O ⊢;have Y:=I hL;have aa:n<L:=by omega
 clear ht hL h;have go:∀(q:Nat),bh k=q->q=0\/q=1\/q=2\/q=3:=λq hq=>by omega
 rcases go _ rfl with e|e|e|e;·have HW:=I e;clear hw hs go hn e;go_enter func73,ntmps73;go_wp2_with fail;refine aI (nZ) ?_;rw[HW.o];go_wp2_with fail;go_returns;refine⟨?_,by go_grown⟩;rw[HR.o,HW.o,<-HT.o];rfl
 ·have HW:=I e;have h1:n+1+8<=L:=by omega
  clear hw hs go hn e;go_enter func73,ntmps73;go_wp2_with fail;refine aI (nZ) ?_;rw[HW.o];go_wp2_with fail;refine aI (se zs (n+1) (O.o _ (by go_grown)) (by omega) (by rw[<-Y.o];omega)) ?_;go_wp2_with fail;go_returns;refine⟨?_,by go_grown⟩;rw[HR.o,HW.o,<-HT.o];rfl
 ·have HW:=I e;have h1:n+9+8<=L:=by omega
  clear hw hs go hn e;go_enter func73,ntmps73;go_wp2_with fail;refine aI (nZ) ?_;rw[HW.o];go_wp2_with fail;refine aI (se zs (n+1) (O.o _ (by go_grown)) (by omega) (by rw[<-Y.o];omega)) ?_;go_wp2_with fail;refine aI (se zs (n+9) (O.o _ (by go_grown)) (by omega) (by rw[<-Y.o];omega)) ?_;go_wp2_with fail;go_returns;refine⟨?_,by go_grown⟩;rw[HR.o,HW.o,<-HT.o];rfl
 have HW:=I e;have h1:n+17+8<=L:=by omega
 clear hw hs go hn e;go_enter func73,ntmps73;go_wp2_with fail;refine aI (nZ) ?_;rw[HW.o];go_wp2_with fail;refine aI (se zs (n+1) (O.o _ (by go_grown)) (by omega) (by rw[<-Y.o];omega)) ?_;go_wp2_with fail;refine aI (se zs (n+9) (O.o _ (by go_grown)) (by omega) (by rw[<-Y.o];omega)) ?_;go_wp2_with fail;refine aI (se zs (n+17) (O.o _ (by go_grown)) (by omega) (by rw[<-Y.o];omega)) ?_;go_wp2_with fail;go_returns;refine⟨?_,by go_grown⟩;rw[HR.o,HW.o,<-HT.o];rfl
theorem Kg:
  ay prog 136 #[aD #[Z J k,Z J fr,v]] w λe w'=>e=az (ak (dv k fr))/\af w.1.size w w':=by
 by_cases k1:k=1;·subst k1;have H:=A (dv 1 fr=bE fr) rfl;go_enter nE,nG;go_wp2_with fail;refine aI (fX _ _) ?_;go_wp2;go_ret;exact⟨aF H.o.symm,by go_grown⟩
 by_cases k3:k=3;·subst k3;have H:=A (dv 3 fr=bE fr) rfl;go_enter nE,nG;go_wp2_with fail;refine aI (fX _ _) ?_;go_wp2;go_ret;exact⟨aF H.o.symm,by go_grown⟩
 by_cases k5:k=5;·subst k5;have H:=A (dv 5 fr=bE fr) rfl;go_enter nE,nG;go_wp2_with fail;refine aI (fX _ _) ?_;go_wp2;go_ret;exact⟨aF H.o.symm,by go_grown⟩
 by_cases k7:k=7;·subst k7;have H:=A (dv 7 fr=bE fr) rfl;go_enter nE,nG;go_wp2_with fail;refine aI (fX _ _) ?_;go_wp2;go_ret;exact⟨aF H.o.symm,by go_grown⟩
 by_cases k2:k=2
 ·subst k2;by_cases hz:fr=0;·have H:=A (dv 2 fr=aa) (aK hz);subst hz;go_enter nE,nG;go_wp2;go_ret;exact⟨aF H.o.symm,by go_grown⟩
  have H:=A (dv 2 fr=Y) (aM hz);have O:(fr==0)=Y:=by simpa using hz
  go_enter nE,nG;go_wp2;go_ret;exact⟨aF H.o.symm,by go_grown⟩
 by_cases k4:k=4
 ·subst k4;by_cases hz:fr=0;·have H:=A (dv 4 fr=aa) (aK hz);subst hz;go_enter nE,nG;go_wp2;go_ret;exact⟨aF H.o.symm,by go_grown⟩
  have H:=A (dv 4 fr=Y) (aM hz);have O:(fr==0)=Y:=by simpa using hz
  go_enter nE,nG;go_wp2;go_ret;exact⟨aF H.o.symm,by go_grown⟩
 by_cases k6:k=6
 ·subst k6;by_cases hz:fr=0;·have H:=A (dv 6 fr=aa) (aK hz);subst hz;go_enter nE,nG;go_wp2;go_ret;exact⟨aF H.o.symm,by go_grown⟩
  have H:=A (dv 6 fr=Y) (aM hz);have O:(fr==0)=Y:=by simpa using hz
  go_enter nE,nG;go_wp2;go_ret;exact⟨aF H.o.symm,by go_grown⟩
 have H:=A (dv k fr=Y) (by unfold dv;rw[ar (by omega),ar (by omega)]);go_enter nE,nG;go_wp2;go_ret;exact⟨aF H.o.symm,by go_grown⟩
theorem CU{i b c}:
  ay prog 204 #[Z J k,aD #[Z J i,Z J a,Z J b,Z J c]] w λe w'=>e=az (ak (cu k (i,a,b,c)))/\af w.1.size w w':=by
 by_cases k1:k=1
 ·subst k1;cases q0:bK a;· have H:=A (cu 1 (i,a,b,c)=Y) (by show(bK a&&(bK b&&zB c))=Y;rw[q0];rfl);go_enter fp,fq;go_wp2_with fail;refine aI (kK) ?_;rw[q0];go_wp2;go_ret;exact⟨aF H.o.symm,by go_grown⟩
  ·
   cases q1:bK b;· have H:=A (cu 1 (i,a,b,c)=Y) (by show(bK a&&(bK b&&zB c))=Y;rw[q0,q1];rfl);go_enter fp,fq;go_wp2_with fail;refine aI (kK) ?_;rw[q0];go_wp2_with fail;refine aI (kK) ?_;rw[q1];go_wp2;go_ret;exact⟨aF H.o.symm,by go_grown⟩
   ·
    by_cases O:c=0;·have q2:zB c=aa:=aK O;have H:=A (cu 1 (i,a,b,c)=aa) (by show(bK a&&(bK b&&zB c))=aa;rw[q0,q1,q2];rfl);go_enter fp,fq;go_wp2_with fail;refine aI (kK) ?_;rw[q0];go_wp2_with fail;refine aI (kK) ?_;rw[q1];go_wp2;go_ret;exact⟨aF H.o.symm,by go_grown⟩
    have q2:zB c=Y:=aM O;have y2:(c==0)=Y:=by simpa using O
    have H:=A (cu 1 (i,a,b,c)=Y) (by show(bK a&&(bK b&&zB c))=Y;rw[q0,q1,q2];rfl);go_enter fp,fq;go_wp2_with fail;refine aI (kK) ?_;rw[q0];go_wp2_with fail;refine aI (kK) ?_;rw[q1];go_wp2;go_ret;exact⟨aF H.o.symm,by go_grown⟩
 by_cases k2:k=2
 ·subst k2;cases q0:bK a;· have H:=A (cu 2 (i,a,b,c)=Y) (by show(bK a&&(bK b&&zB c))=Y;rw[q0];rfl);go_enter fp,fq;go_wp2_with fail;refine aI (kK) ?_;rw[q0];go_wp2;go_ret;exact⟨aF H.o.symm,by go_grown⟩
  ·
   cases q1:bK b;· have H:=A (cu 2 (i,a,b,c)=Y) (by show(bK a&&(bK b&&zB c))=Y;rw[q0,q1];rfl);go_enter fp,fq;go_wp2_with fail;refine aI (kK) ?_;rw[q0];go_wp2_with fail;refine aI (kK) ?_;rw[q1];go_wp2;go_ret;exact⟨aF H.o.symm,by go_grown⟩
   ·
    by_cases O:c=0;·have q2:zB c=aa:=aK O;have H:=A (cu 2 (i,a,b,c)=aa) (by show(bK a&&(bK b&&zB c))=aa;rw[q0,q1,q2];rfl);go_enter fp,fq;go_wp2_with fail;refine aI (kK) ?_;rw[q0];go_wp2_with fail;refine aI (kK) ?_;rw[q1];go_wp2;go_ret;exact⟨aF H.o.symm,by go_grown⟩
    have q2:zB c=Y:=aM O;have y2:(c==0)=Y:=by simpa using O
    have H:=A (cu 2 (i,a,b,c)=Y) (by show(bK a&&(bK b&&zB c))=Y;rw[q0,q1,q2];rfl);go_enter fp,fq;go_wp2_with fail;refine aI (kK) ?_;rw[q0];go_wp2_with fail;refine aI (kK) ?_;rw[q1];go_wp2;go_ret;exact⟨aF H.o.symm,by go_grown⟩
 by_cases k3:k=3
 ·subst k3;cases q0:aG a;· have H:=A (cu 3 (i,a,b,c)=Y) (by show(aG a&&(aG b&&aG c))=Y;rw[q0];rfl);go_enter fp,fq;go_wp2_with fail;refine aI (cX) ?_;rw[q0];go_wp2;go_ret;exact⟨aF H.o.symm,by go_grown⟩
  ·
   cases q1:aG b;· have H:=A (cu 3 (i,a,b,c)=Y) (by show(aG a&&(aG b&&aG c))=Y;rw[q0,q1];rfl);go_enter fp,fq;go_wp2_with fail;refine aI (cX) ?_;rw[q0];go_wp2_with fail;refine aI (cX) ?_;rw[q1];go_wp2;go_ret;exact⟨aF H.o.symm,by go_grown⟩
   ·
    cases q2:aG c;· have H:=A (cu 3 (i,a,b,c)=Y) (by show(aG a&&(aG b&&aG c))=Y;rw[q0,q1,q2];rfl);go_enter fp,fq;go_wp2_with fail;refine aI (cX) ?_;rw[q0];go_wp2_with fail;refine aI (cX) ?_;rw[q1];go_wp2_with fail;refine aI (cX) ?_;rw[q2];go_wp2;go_ret;exact⟨aF H.o.symm,by go_grown⟩
    · have H:=A (cu 3 (i,a,b,c)=aa) (by show(aG a&&(aG b&&aG c))=aa;rw[q0,q1,q2];rfl);go_enter fp,fq;go_wp2_with fail;refine aI (cX) ?_;rw[q0];go_wp2_with fail;refine aI (cX) ?_;rw[q1];go_wp2_with fail;refine aI (cX) ?_;rw[q2];go_wp2;go_ret;exact⟨aF H.o.symm,by go_grown⟩
 by_cases k4:k=4
 ·subst k4;cases q0:aG a;· have H:=A (cu 4 (i,a,b,c)=Y) (by show(aG a&&(aG b&&aG c))=Y;rw[q0];rfl);go_enter fp,fq;go_wp2_with fail;refine aI (cX) ?_;rw[q0];go_wp2;go_ret;exact⟨aF H.o.symm,by go_grown⟩
  ·
   cases q1:aG b;· have H:=A (cu 4 (i,a,b,c)=Y) (by show(aG a&&(aG b&&aG c))=Y;rw[q0,q1];rfl);go_enter fp,fq;go_wp2_with fail;refine aI (cX) ?_;rw[q0];go_wp2_with fail;refine aI (cX) ?_;rw[q1];go_wp2;go_ret;exact⟨aF H.o.symm,by go_grown⟩
   ·
    cases q2:aG c;· have H:=A (cu 4 (i,a,b,c)=Y) (by show(aG a&&(aG b&&aG c))=Y;rw[q0,q1,q2];rfl);go_enter fp,fq;go_wp2_with fail;refine aI (cX) ?_;rw[q0];go_wp2_with fail;refine aI (cX) ?_;rw[q1];go_wp2_with fail;refine aI (cX) ?_;rw[q2];go_wp2;go_ret;exact⟨aF H.o.symm,by go_grown⟩
    · have H:=A (cu 4 (i,a,b,c)=aa) (by show(aG a&&(aG b&&aG c))=aa;rw[q0,q1,q2];rfl);go_enter fp,fq;go_wp2_with fail;refine aI (cX) ?_;rw[q0];go_wp2_with fail;refine aI (cX) ?_;rw[q1];go_wp2_with fail;refine aI (cX) ?_;rw[q2];go_wp2;go_ret;exact⟨aF H.o.symm,by go_grown⟩
 by_cases k5:k=5
 ·subst k5;cases q0:dn a;· have H:=A (cu 5 (i,a,b,c)=Y) (by show(dn a&&(zB b&&zB c))=Y;rw[q0];rfl);go_enter fp,fq;go_wp2_with fail;refine aI (sO) ?_;rw[q0];go_wp2;go_ret;exact⟨aF H.o.symm,by go_grown⟩
  ·
   by_cases z1:b=0
   ·have q1:zB b=aa:=aK z1;by_cases O:c=0;·have q2:zB c=aa:=aK O;have H:=A (cu 5 (i,a,b,c)=aa) (by show(dn a&&(zB b&&zB c))=aa;rw[q0,q1,q2];rfl);go_enter fp,fq;go_wp2_with fail;refine aI (sO) ?_;rw[q0];go_wp2;go_ret;exact⟨aF H.o.symm,by go_grown⟩
    have q2:zB c=Y:=aM O;have y2:(c==0)=Y:=by simpa using O
    have H:=A (cu 5 (i,a,b,c)=Y) (by show(dn a&&(zB b&&zB c))=Y;rw[q0,q1,q2];rfl);go_enter fp,fq;go_wp2_with fail;refine aI (sO) ?_;rw[q0];go_wp2;go_ret;exact⟨aF H.o.symm,by go_grown⟩
   have q1:zB b=Y:=aM z1;have y1:(b==0)=Y:=by simpa using z1
   have H:=A (cu 5 (i,a,b,c)=Y) (by show(dn a&&(zB b&&zB c))=Y;rw[q0,q1];rfl);go_enter fp,fq;go_wp2_with fail;refine aI (sO) ?_;rw[q0];go_wp2;go_ret;exact⟨aF H.o.symm,by go_grown⟩
 by_cases k6:k=6
 ·subst k6;by_cases z0:a=0
  ·have q0:zB a=aa:=aK z0;by_cases z1:b=0
   ·have q1:zB b=aa:=aK z1;by_cases O:c=0;·have q2:zB c=aa:=aK O;have H:=A (cu 6 (i,a,b,c)=aa) (by show(zB a&&(zB b&&zB c))=aa;rw[q0,q1,q2];rfl);go_enter fp,fq;go_wp2;go_ret;exact⟨aF H.o.symm,by go_grown⟩
    have q2:zB c=Y:=aM O;have y2:(c==0)=Y:=by simpa using O
    have H:=A (cu 6 (i,a,b,c)=Y) (by show(zB a&&(zB b&&zB c))=Y;rw[q0,q1,q2];rfl);go_enter fp,fq;go_wp2;go_ret;exact⟨aF H.o.symm,by go_grown⟩
   have q1:zB b=Y:=aM z1;have y1:(b==0)=Y:=by simpa using z1
   have H:=A (cu 6 (i,a,b,c)=Y) (by show(zB a&&(zB b&&zB c))=Y;rw[q0,q1];rfl);go_enter fp,fq;go_wp2;go_ret;exact⟨aF H.o.symm,by go_grown⟩
  have q0:zB a=Y:=aM z0;have y0:(a==0)=Y:=by simpa using z0
  have H:=A (cu 6 (i,a,b,c)=Y) (by show(zB a&&(zB b&&zB c))=Y;rw[q0];rfl);go_enter fp,fq;go_wp2;go_ret;exact⟨aF H.o.symm,by go_grown⟩
 by_cases k7:k=7
 ·subst k7;cases q0:tB a;· have H:=A (cu 7 (i,a,b,c)=Y) (by show(tB a&&(aG b&&zB c))=Y;rw[q0];rfl);go_enter fp,fq;go_wp2_with fail;refine aI (vN) ?_;rw[q0];go_wp2;go_ret;exact⟨aF H.o.symm,by go_grown⟩
  ·
   cases q1:aG b;· have H:=A (cu 7 (i,a,b,c)=Y) (by show(tB a&&(aG b&&zB c))=Y;rw[q0,q1];rfl);go_enter fp,fq;go_wp2_with fail;refine aI (vN) ?_;rw[q0];go_wp2_with fail;refine aI (cX) ?_;rw[q1];go_wp2;go_ret;exact⟨aF H.o.symm,by go_grown⟩
   ·
    by_cases O:c=0;·have q2:zB c=aa:=aK O;have H:=A (cu 7 (i,a,b,c)=aa) (by show(tB a&&(aG b&&zB c))=aa;rw[q0,q1,q2];rfl);go_enter fp,fq;go_wp2_with fail;refine aI (vN) ?_;rw[q0];go_wp2_with fail;refine aI (cX) ?_;rw[q1];go_wp2;go_ret;exact⟨aF H.o.symm,by go_grown⟩
    have q2:zB c=Y:=aM O;have y2:(c==0)=Y:=by simpa using O
    have H:=A (cu 7 (i,a,b,c)=Y) (by show(tB a&&(aG b&&zB c))=Y;rw[q0,q1,q2];rfl);go_enter fp,fq;go_wp2_with fail;refine aI (vN) ?_;rw[q0];go_wp2_with fail;refine aI (cX) ?_;rw[q1];go_wp2;go_ret;exact⟨aF H.o.symm,by go_grown⟩
 have H:=A (cu k (i,a,b,c)=Y) (by unfold cu;rw[ar (by omega),ar (by omega),ar (by omega),ar (by omega),ar (by omega)]);go_enter fp,fq;go_wp2;go_ret;exact⟨aF H.o.symm,by go_grown⟩
theorem CB (l){u}(h:aX w v l):
  ay prog 202 #[v,Z J u] w λe w'=>e=az (ak (!aq.hE l u))/\af w.1.size w w':=by
 obtain⟨a,cap,rfl,l2,l3,_,hc⟩:=cK h;have HC:=I hc;have HN:=A (hE l u=ei l.length λi=>decide ((aq.it l i).1≠u)) rfl;generalize hn:l.length=n at*;go_enter func202,ntmps202;go_wp2;go_loopw [9] (λi wr=>∃k:Nat,k<=n/\i=Z J k/\(∀j,j<k->decide ((aq.it l j).1≠u)=aa)/\af w.1.size w wr) (λi _=>n-(aA i).toNat);case atStart=>exact⟨0,bi _,rfl,λj hj=>absurd hj (by omega),ax _ _⟩
 obtain⟨k,hk,rfl,hall,ac⟩:=hrel;have HA:=I hall;have O:=I ac;have hsz:=ac.size;by_cases hlt:k<n
 ·obtain⟨b,off,rfl,hb,hit⟩:=HC.o k hlt;have hit:=hit.below hb ac;obtain⟨c0,c1,c2,c3⟩:=hit;obtain⟨x,hx⟩:=aj ((aq.it l k).1);rw[<-hx]at c0;generalize (aq.it l k).2.1=y1 at*;generalize (aq.it l k).2.2.1=y2 at*;generalize (aq.it l k).2.2.2=y3 at*;have HX:=I hx;by_cases q:x=u;·have H:=A (hE l u=Y) (by rw[HN.o];exact la k hlt (aM (by rw[<-HX.o];simpa using q)));subst q;go_wp2;go_ret;exact⟨aF (by rw[H.o];rfl),O.o.alloc (by omega) _⟩
  have q':(x==u)=Y:=by simpa using q
  go_wp2;go_roundw;case rel=> refine⟨k+1,by omega,by go_num,λj hj=>?_,O.o.alloc (by omega) _⟩;by_cases e:j=k;subst e;exact aK (by rw[<-HX.o];exact q);exact HA.o j (by omega)
  simp[aA];omega
 have ek:k=n:=by omega
 subst ek;go_wp2;go_ret;exact⟨aF (by rw[HN.o,iJ HA.o];rfl),O.o⟩
theorem GV (l)(h:aX w v l):
  ay prog 203 #[v] w λe w'=>e=az (ak (lZ l))/\af w.1.size w w':=by
 obtain⟨a,cap,rfl,l2,l3,_,hc⟩:=cK h;have HC:=I hc;have HN:=A (lZ l=ei l.length λi=>decide ((aq.it l i).1=(i:Int)+1)) rfl;generalize hn:l.length=n at*;go_enter func203,ntmps203;go_wp2;go_loopw [7] (λi wr=>∃k:Nat,k<=n/\i=Z J k/\(∀j,j<k->decide ((aq.it l j).1=(j:Int)+1)=aa)/\af w.1.size w wr) (λi _=>n-(aA i).toNat);case atStart=>exact⟨0,bi _,rfl,λj hj=>absurd hj (by omega),ax _ _⟩
 obtain⟨k,hk,rfl,hall,ac⟩:=hrel;have HA:=I hall;have O:=I ac;have hsz:=ac.size;by_cases hlt:k<n
 ·obtain⟨b,off,rfl,hb,hit⟩:=HC.o k hlt;have hit:=hit.below hb ac;obtain⟨c0,c1,c2,c3⟩:=hit;obtain⟨x,hx⟩:=aj ((aq.it l k).1);rw[<-hx]at c0;generalize (aq.it l k).2.1=y1 at*;generalize (aq.it l k).2.2.1=y2 at*;generalize (aq.it l k).2.2.2=y3 at*;have HX:=I hx;by_cases q:x=(k:Int)+1
  ·have HQ:=I q;subst q;go_wp2;go_roundw;case rel=> refine⟨k+1,by omega,by go_num,λj hj=>?_,O.o.alloc (by omega) _⟩;by_cases e:j=k;subst e;exact aK HX.o.symm;exact HA.o j (by omega)
   simp[aA];omega
  have H:=A (lZ l=Y) (by rw[HN.o];exact la k hlt (aM (by rw[<-HX.o];exact q)));have q':(x != (k:Int)+1)=aa:=by simpa using q
  go_wp2;go_ret;exact⟨aF H.o.symm,O.o.alloc (by omega) _⟩
 have ek:k=n:=by omega
 subst ek;go_wp2;go_ret;exact⟨aF (by rw[HN.o,iJ HA.o]),O.o⟩
def qi (l:List aq.It)(k:Nat):Int:=if k=0 then 0 else(aq.it l (k-1)).1
theorem KL (l)(h:aX w v l):
  ay prog 137 #[v] w λe w'=>e=az (ak (bN l))/\af w.1.size w w':=by
 obtain⟨a,cap,rfl,l2,l3,_,hc⟩:=cK h;have HC:=I hc;clear hc h;have HN:=A (bN l=ei l.length (jl l)) rfl;generalize hn:l.length=n at*;clear hn;go_enter func137,ntmps137;go_wp2;go_loopw [3,8] (λf i wr=>∃k:Nat,k<=n/\i=Z J k/\f=Z J (qi l k)/\(∀j,j<k->jl l j=aa)/\af w.1.size w wr) (λ_ i _=>n-(aA i).toNat);case atStart=>exact⟨0,bi _,rfl,rfl,λj hj=>absurd hj (by omega),ax _ _⟩
 obtain⟨k,hk,rfl,rfl,hall,ac⟩:=hrel;have HA:=I hall;have O:=I ac;have hsz:=ac.size;by_cases hlt:k<n
 ·obtain⟨b,off,rfl,hb,hit⟩:=HC.o k hlt;have hit:=hit.below hb ac;obtain⟨c0,c1,c2,c3⟩:=hit;obtain⟨x,hx⟩:=aj ((aq.it l k).1);rw[<-hx]at c0;generalize (aq.it l k).2.1=y1 at*;generalize (aq.it l k).2.2.1=y2 at*;generalize (aq.it l k).2.2.2=y3 at*;have HX:=I hx;clear hx hall ac;have ae:=I (show jl l k=(bE x&&(decide (k=0)||decide (qi l k<x)))by unfold jl qi;rw[<-HX.o];by_cases ag:k=0;simp[ag];simp[ag]);have ah:=A (k=0->qi l k=0) (λe=>by rw[e];rfl);have ai:=A (qi l (k+1)=x) (by unfold qi;rw[ar (by omega),xm];exact HX.o.symm);generalize qi l k=f at*;cases q:bE x
  ·have H:=A (bN l=Y) (by rw[HN.o];exact la k hlt (by rw[ae.o,q];rfl));by_cases hle:x<=f;·go_wp2;go_ret;exact⟨aF H.o.symm,O.o.alloc (by omega) _⟩
   go_wp2_with fail;refine aI (fX _ _) ?_;rw[q];go_wp2;go_ret;exact⟨aF H.o.symm,O.o.alloc (by omega) _⟩
  have am:=lY.1 q;by_cases hle:x<=f;·have H:=I (show bN l=Y by rw[HN.o];refine la k hlt ?_;rw[ae.o,q,aM (show¬k=0 from λe=>by have:=ah.o e;omega),aM (show¬f<x by omega)];rfl);go_wp2;go_ret;exact⟨aF H.o.symm,O.o.alloc (by omega) _⟩
  have HT:=A (jl l k=aa) (by rw[ae.o,q,aK (show f<x by omega)];simp);go_wp2_with fail;refine aI (fX _ _) ?_;rw[q];go_wp2;go_roundw;case rel=> refine⟨k+1,by omega,by go_num,by rw[ai.o],λj hj=>?_,O.o.alloc (by omega) _⟩;by_cases e:j=k;subst e;exact HT.o;exact HA.o j (by omega)
  simp[aA];omega
 have ek:k=n:=by omega
 subst ek;clear hall ac;go_wp2;go_ret;exact⟨aF (by rw[HN.o,iJ HA.o]),O.o⟩
theorem Oc{O}(l)(h:aX w v l):
  ay prog 139 #[aD #[Z J O,Z J fr,v]] w λe w'=>e=az (ak (iw O l))/\af w.1.size w w':=by
 obtain⟨a,cap,rfl,l2,l3,_,hc⟩:=cK h;have HC:=I hc;clear hc h;have HN:=A (iw O l=ei l.length λi=>cu O (aq.it l i)) rfl;generalize hn:l.length=n at*;clear hn;obtain⟨bx,ae⟩:=aj (w.alloc (.cells #[Z J O,Z J fr,U a n cap] 65));have ap:bx.1.size=w.1.size+1:=by rw[ae];simp
 have am:bx.cell? ⟨w.1.size,0,V⟩=E (Z J O):=by rw[ae];simp[go_sem]
 have BX:=A (af w.1.size w bx) (by rw[ae];exact(ax _ _).alloc (aw _) _);go_enter func139,ntmps139;go_wp2_with fail;rw[<-ae];clear ae;go_loopw [8] (λi wr=>∃k:Nat,k<=n/\i=Z J k/\(∀j,j<k->cu O (aq.it l j)=aa)/\af (w.1.size+1) bx wr) (λi _=>n-(aA i).toNat);case atStart=>exact⟨0,bi _,rfl,λj hj=>absurd hj (by omega),ax _ _⟩
 obtain⟨k,hk,rfl,hall,ac⟩:=hrel;have HA:=I hall;have HB:=I ac;have hsz:=ac.size;have d0:=ac.cell (p:=⟨w.1.size,0,V⟩) (by simp);rw[am]at d0;by_cases hlt:k<n
 ·obtain⟨b,off,rfl,hb,hit⟩:=HC.o k hlt;have hit:=hit.below hb (BX.o.trans (ac.mono (by omega)));obtain⟨c0,c1,c2,c3⟩:=hit;have HX:=A (cu O (aq.it l k)=cu O ((aq.it l k).1,(aq.it l k).2.1,(aq.it l k).2.2.1,(aq.it l k).2.2.2)) rfl;have HK:=A (cu O ((aq.it l k).1,(aq.it l k).2.1,(aq.it l k).2.2.1,(aq.it l k).2.2.2)=Y->iw O l=Y) (λe=>by rw[HN.o];exact la k hlt e);have al:∀(ob:Obj)(b o:Nat),b<wr.1.size->(wr.alloc ob).cell? ⟨b,o,V⟩=wr.cell? ⟨b,o,V⟩:=λob b o hb=>((ax wr.1.size wr).alloc (aw _) ob).cell (p:=⟨b,o,V⟩) hb;have A0:∀ob,(wr.alloc ob).cell? ⟨w.1.size,0,V⟩=E (Z J O):=λob=>by rw[al _ _ _ (by omega)];exact d0
  clear hall ac al;obtain⟨x,hx⟩:=aj ((aq.it l k).1);obtain⟨y1,ag⟩:∃x,x=(aq.it l k).2.1:=⟨_,rfl⟩;obtain⟨y2,ah⟩:∃x,x=(aq.it l k).2.2.1:=⟨_,rfl⟩;obtain⟨y3,ai⟩:∃x,x=(aq.it l k).2.2.2:=⟨_,rfl⟩;rw[<-hx]at c0 HX HK;rw[<-ag]at c1 HX HK;rw[<-ah]at c2 HX HK;rw[<-ai]at c3 HX HK;clear hx ag ah ai;cases q:cu O (x,y1,y2,y3);·have H:=I (HK.o q);go_wp2_with fail;refine aH (CU) λw1 hb1=>?_;rw[q];have B1:=I hb1;clear hb1;go_wp2;go_ret;exact⟨aF H.o.symm,(BX.o.trans (HB.o.mono (by omega))).trans (((ax _ _).alloc (by omega) _).trans (B1.o.mono (by simp;omega)))⟩
  go_wp2_with fail;refine aH (CU) λw1 hb1=>?_;rw[q];have B1:=I hb1;clear hb1;go_wp2;go_roundw;case rel=> refine⟨k+1,by omega,by go_num,λj hj=>?_,HB.o.trans (((ax _ _).alloc (by omega) _).trans (B1.o.mono (by simp;omega)))⟩;by_cases e:j=k;subst e;rw[HX.o];exact q;exact HA.o j (by omega)
  simp[aA];omega
 have ek:k=n:=by omega
 subst ek;clear hall ac;go_wp2;go_ret;exact⟨aF (by rw[HN.o,iJ HA.o]),BX.o.trans (HB.o.mono (by omega))⟩
theorem KJ (l)(h:aX w v l):
  ay prog 138 #[aD #[Z J k,Z J fr,v]] w λe w'=>e=az (ak (ej k fr l))/\af w.1.size w w':=by
 have HM:=bj w λw1 hb=>h.below hb;obtain⟨a,cap,rfl,l2,l3,_,_⟩:=cK h;clear h;obtain⟨n,hn⟩:=aj l.length;rw[<-hn]at l2 HM ⊢;have HN:=I hn;clear hn;by_cases k1:k=1
 ·subst k1;by_cases O:n=1;·have H:=A (ej 1 fr l= !aq.hE l fr) (by show(decide (l.length=1)&& !aq.hE l fr)=_;rw[aK (by rw[<-HN.o];exact O)];rfl);subst O;go_enter mo,mr;go_wp2_with fail;refine aH (CB l (HM.o _ (by go_grown))) λw1 hb1=>?_;have B1:=I hb1;clear hb1;go_wp2;go_ret;exact⟨aF H.o.symm,((ax _ _).alloc (aw _) _).trans (B1.o.mono (by simp))⟩
  have H:=A (ej 1 fr l=Y) (by show(decide (l.length=1)&& !aq.hE l fr)=_;rw[aM (by rw[<-HN.o];exact O)];rfl);have ac:((n:Int)==1)=Y:=by simp;omega
  go_enter mo,mr;go_wp2;go_ret;exact⟨aF H.o.symm,by go_grown⟩
 by_cases k2:k=2
 ·subst k2;by_cases O:1<=n
  ·have H:=A (ej 2 fr l=aa) (aK (by rw[<-HN.o];exact O));have ac:(1:Int)<=(n:Int):=by omega
   go_enter mo,mr;go_wp2;go_ret;exact⟨aF H.o.symm,by go_grown⟩
  have H:=A (ej 2 fr l=Y) (aM (by rw[<-HN.o];exact O));have ac:¬(1:Int)<=(n:Int):=by omega
  go_enter mo,mr;go_wp2;go_ret;exact⟨aF H.o.symm,by go_grown⟩
 by_cases k6:k=6
 ·subst k6;by_cases O:1<=n
  ·have H:=A (ej 6 fr l=aa) (aK (by rw[<-HN.o];exact O));have ac:(1:Int)<=(n:Int):=by omega
   go_enter mo,mr;go_wp2;go_ret;exact⟨aF H.o.symm,by go_grown⟩
  have H:=A (ej 6 fr l=Y) (aM (by rw[<-HN.o];exact O));have ac:¬(1:Int)<=(n:Int):=by omega
  go_enter mo,mr;go_wp2;go_ret;exact⟨aF H.o.symm,by go_grown⟩
 by_cases k7:k=7
 ·subst k7;by_cases O:1<=n
  ·have H:=A (ej 7 fr l=aa) (aK (by rw[<-HN.o];exact O));have ac:(1:Int)<=(n:Int):=by omega
   go_enter mo,mr;go_wp2;go_ret;exact⟨aF H.o.symm,by go_grown⟩
  have H:=A (ej 7 fr l=Y) (aM (by rw[<-HN.o];exact O));have ac:¬(1:Int)<=(n:Int):=by omega
  go_enter mo,mr;go_wp2;go_ret;exact⟨aF H.o.symm,by go_grown⟩
 by_cases k3:k=3;·subst k3;have H:=A (ej 3 fr l=hE l fr) rfl;go_enter mo,mr;go_wp2_with fail;refine aH (CB l (HM.o _ (by go_grown))) λw1 hb1=>?_;have B1:=I hb1;clear hb1;go_wp2;go_ret;exact⟨aF (by rw[H.o]),((ax _ _).alloc (aw _) _).trans (B1.o.mono (by simp))⟩
 by_cases k4:k=4;·subst k4;have H:=A (ej 4 fr l=aa) rfl;go_enter mo,mr;go_wp2;go_ret;exact⟨aF H.o.symm,by go_grown⟩
 by_cases k5:k=5
 ·subst k5;by_cases O:1<=n
  ·have H:=A (ej 5 fr l=lZ l) (by show(decide (1<=l.length)&&lZ l)=_;rw[aK (by rw[<-HN.o];exact O)];rfl);have ac:(1:Int)<=(n:Int):=by omega
   go_enter mo,mr;go_wp2_with fail;refine aH (GV l (HM.o _ (by go_grown))) λw1 hb1=>?_;have B1:=I hb1;clear hb1;go_wp2;go_ret;exact⟨aF H.o.symm,((ax _ _).alloc (aw _) _).trans (B1.o.mono (by simp))⟩
  have H:=A (ej 5 fr l=Y) (by show(decide (1<=l.length)&&lZ l)=_;rw[aM (by rw[<-HN.o];exact O)];rfl);have ac:¬(1:Int)<=(n:Int):=by omega
  go_enter mo,mr;go_wp2;go_ret;exact⟨aF H.o.symm,by go_grown⟩
 have H:=A (ej k fr l=Y) (by unfold ej;rw[ar (by omega),ar (by omega),ar (by omega),ar (by omega),ar (by omega)]);go_enter mo,mr;go_wp2;go_ret;exact⟨aF H.o.symm,by go_grown⟩
theorem CQ (l)(h:aX w v l):
  ay prog 74 #[aD #[Z J k,Z J fr,v]] w λe w'=>e=az (ak (aq.okF k fr l))/\af w.1.size w w':=by
 have HM:=bj w λw1 hb=>h.below hb;have HO:=A (aq.okF k fr l=(decide (l.length<=12)&&(dv k fr&&(bN l&&(ej k fr l&&iw k l))))) rfl;obtain⟨a,cap,rfl,l2,l3,_,_⟩:=cK h;clear h;obtain⟨n,hn⟩:=aj l.length;rw[<-hn]at l2 HM HO ⊢;clear hn;by_cases t:12<(n:Int);·have H:=A (aq.okF k fr l=Y) (by rw[HO.o,aM (by omega)];rfl);go_enter func74,ntmps74;go_wp2;go_ret;exact⟨aF H.o.symm,by go_grown⟩
 have O:=A (aq.okF k fr l=(dv k fr&&(bN l&&(ej k fr l&&iw k l)))) (by rw[HO.o,aK (by omega)];rfl);clear HO;obtain⟨bx,aa⟩:=aj (w.alloc (.cells #[Z J k,Z J fr,U a n cap] 65));have ac:bx.1.size=w.1.size+1:=by rw[aa];simp
 have CB:=I (show∀w1,af bx.1.size bx w1->w1.cell? ⟨w.1.size,0,V⟩=E (Z J k)/\w1.cell? ⟨w.1.size,1,V⟩=E (Z J fr)/\w1.cell? ⟨w.1.size,2,V⟩=E (U a n cap)from λw1 hb=>by
  have hlt:w.1.size<bx.1.size:=by omega
  rw[hb.cell (p:=⟨w.1.size,0,V⟩) hlt,hb.cell (p:=⟨w.1.size,1,V⟩) hlt,hb.cell (p:=⟨w.1.size,2,V⟩) hlt,aa];refine⟨?_,?_,?_⟩<;>simp[go_sem]);have BX:=A (af w.1.size w bx) (by rw[aa];exact(ax _ _).alloc (aw _) _);obtain⟨e0,e1,e2⟩:=CB.o bx (ax _ _);go_enter func74,ntmps74;go_wp2_with fail;rw[<-aa];clear aa;refine aH (Kg) λw1 hb1=>?_;have B1:=I hb1;obtain⟨f0,f1,f2⟩:=CB.o w1 hb1;clear hb1 e0 e1 e2;cases q1:dv k fr;·rw[q1]at O;go_wp2;go_ret;exact⟨aF (by rw[O.o];rfl),BX.o.trans (B1.o.mono (by omega))⟩
 rw[q1]at O;go_wp2_with fail;refine aH (KL l (HM.o _ (BX.o.trans (B1.o.mono (by omega))))) λw2 hb2=>?_;have B2:=I (B1.o.trans (hb2.mono B1.o.size));clear hb2 f0 f1 f2;obtain⟨f0,f1,f2⟩:=CB.o w2 B2.o;cases q2:bN l;·rw[q2]at O;go_wp2;go_ret;exact⟨aF (by rw[O.o];rfl),BX.o.trans (B2.o.mono (by omega))⟩
 rw[q2]at O;go_wp2_with fail;refine aH (KJ l (HM.o _ (BX.o.trans (B2.o.mono (by omega))))) λw3 hb3=>?_;have B3:=I (B2.o.trans (hb3.mono B2.o.size));clear hb3 f0 f1 f2;obtain⟨f0,f1,f2⟩:=CB.o w3 B3.o;cases q3:ej k fr l;·rw[q3]at O;go_wp2;go_ret;exact⟨aF (by rw[O.o];rfl),BX.o.trans (B3.o.mono (by omega))⟩
 rw[q3]at O;go_wp2_with fail;refine aH (Oc l (HM.o _ (BX.o.trans (B3.o.mono (by omega))))) λw4 hb4=>?_;have B4:=I (B3.o.trans (hb4.mono B3.o.size));clear hb4 f0 f1 f2;go_wp2;go_ret;exact⟨aF (by rw[O.o];rfl),BX.o.trans (B4.o.mono (by omega))⟩
end Go.Proofs.YtchideljndagjabGreat


