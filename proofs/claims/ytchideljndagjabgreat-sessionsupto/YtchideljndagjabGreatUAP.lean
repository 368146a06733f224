/- Joined -/
import Derived.Test.YtchideljndagjabGreatUAO
set_option linter.unusedVariables false
set_option maxHeartbeats 2000000
set_option maxRecDepth 100000
namespace Go.Proofs.YtchideljndagjabGreat
open aq aO aB bb
open Go.Value renaming int->Z,slice->U,bool->ak,agg->aD
open Go.IntKind renaming i64->J
open Go.Obj renaming cells->ah
open Go.Ending renaming returned->az
open Option renaming none->V,some->E
open Bool renaming false->Y,true->aa
open Go renaming World->ac,Value->ag,Calls->ay
open Go.RowKit renaming Below->af,intOf->aA
abbrev pZ:=@Proofs.Tryz.func171
abbrev p_:=@Proofs.Tryz.ntmps171
abbrev xC:=@Proofs.Tryz.func102
abbrev xD:=@Proofs.Tryz.ntmps102
open Go.Proofs.Tryz
open Go.ChangeShapes Go.WideShapes Go.ChangeAt Go.RowKit
variable {D M T ch mk sd:Int}{inp sm ss:List Int}{vi vm vs:ag}{w:ac}
theorem wC (N T M D w):
  ay prog 171 #[aD #[Z J N,Z J T,Z J M,Z J D]] w λe w'=>e=az (ak (dV N T M D))/\af w.1.size w w':=by
 by_cases c0:1<=N;rotate_left;·have H:=I (jT (N:=N) (T:=T) (M:=M) (D:=D) (by omega));go_enter pZ,p_;go_wp2;go_ret;exact⟨aF (by rw[H.o];try simp;try omega),by go_grown⟩
 by_cases c1:N<=12;rotate_left;·have H:=I (jT (N:=N) (T:=T) (M:=M) (D:=D) (by omega));go_enter pZ,p_;go_wp2;go_ret;exact⟨aF (by rw[H.o];try simp;try omega),by go_grown⟩
 by_cases c2:1<=T;rotate_left;·have H:=I (jT (N:=N) (T:=T) (M:=M) (D:=D) (by omega));go_enter pZ,p_;go_wp2;go_ret;exact⟨aF (by rw[H.o];try simp;try omega),by go_grown⟩
 by_cases c3:T<=N;rotate_left;·have H:=I (jT (N:=N) (T:=T) (M:=M) (D:=D) (by omega));go_enter pZ,p_;go_wp2;go_ret;exact⟨aF (by rw[H.o];try simp;try omega),by go_grown⟩
 by_cases c4:1<=M;rotate_left;·have H:=I (jT (N:=N) (T:=T) (M:=M) (D:=D) (by omega));go_enter pZ,p_;go_wp2;go_ret;exact⟨aF (by rw[H.o];try simp;try omega),by go_grown⟩
 by_cases c5:M<=12;rotate_left;·have H:=I (jT (N:=N) (T:=T) (M:=M) (D:=D) (by omega));go_enter pZ,p_;go_wp2;go_ret;exact⟨aF (by rw[H.o];try simp;try omega),by go_grown⟩
 by_cases c6:1<=D;rotate_left;·have H:=I (jT (N:=N) (T:=T) (M:=M) (D:=D) (by omega));go_enter pZ,p_;go_wp2;go_ret;exact⟨aF (by rw[H.o];try simp;try omega),by go_grown⟩
 by_cases c7:D<=50;rotate_left;·have H:=I (jT (N:=N) (T:=T) (M:=M) (D:=D) (by omega));go_enter pZ,p_;go_wp2;go_ret;exact⟨aF (by rw[H.o];try simp;try omega),by go_grown⟩
 have H:=I (BG (N:=N) (T:=T) (M:=M) (D:=D) (by omega));go_enter pZ,p_;go_wp2;go_ret;exact⟨aF (by rw[H.o];try simp;try omega),by go_grown⟩
theorem QI (w:ac){a b c}(ha:bq a)(hb:bq b)(hc:bq c):aY (w.alloc (ah #[Z J a,Z J b,Z J c] 3)) (U (E ⟨w.1.size,0,V⟩) 3 3) [a,b,c]:=by
 refine⟨_,_,rfl,by simp,by unfold maxLen;omega,λz hz=>?_,.inr ⟨w.1.size,0,rfl,by simp,λi hi=>?_⟩⟩;·simp at hz;rcases hz with rfl|rfl|rfl<;>assumption
 match i,hi with
 |0,_=>simp
 |1,_=>simp
 |2,_=>simp
theorem I_ (h:mQ inp=Y):fz T M inp ch mk sd sm ss=Y:=by unfold fz;rw[h];rfl
theorem DY (N T M D)(hi:aY w vi inp)(hm:aY w vm sm)(hs:aY w vs ss)(hT:1<=T)(aB:T<=12)(h1:bq ch)(h2:bq mk)(h3:bq sd):
  ay prog 172 #[aD #[Z J N,Z J T,Z J M,Z J D],aD #[vi,Z J ch,Z J mk,Z J sd,vm,vs]] w λe w'=>e=az (ak (fz T M inp ch mk sd sm ss))/\af w.1.size w w':=by
 have am:=bj w λW hb=>su (hm.below hb);have ap:=bj w λW hb=>su (hs.below hb);have ai:=I (λ(W:ac)=>su (QI W h1 h2 h3));obtain⟨b1,hb1⟩:=aj ([ch,mk,sd].all aG);obtain⟨b2,hb2⟩:=aj (sm.all aG);obtain⟨b3,hb3⟩:=aj (ss.all aG);rw[<-hb1]at ai;rw[<-hb2]at am;rw[<-hb3]at ap;have ae:=I (And.intro hb1 (And.intro hb2 hb3));clear hb1 hb2 hb3;have HR:=I (λq1 q2 q3=>BR (T:=T) (M:=M) (inp:=inp) (ch:=ch) (mk:=mk) (sd:=sd) (sm:=sm) (ss:=ss) q1 q2 q3);have HL:=I (λh=>vB (M:=M) (T:=T) (inp:=inp) (ch:=ch) (mk:=mk) (sd:=sd) (sm:=sm) (ss:=ss) h);have aq:=I (λh=>I_ (T:=T) (M:=M) (inp:=inp) (ch:=ch) (mk:=mk) (sd:=sd) (sm:=sm) (ss:=ss) h);obtain⟨a1,c1,rfl,i2,i3,ar⟩:=pk hi;obtain⟨a2,c2,rfl,m2,m3,_⟩:=hm;obtain⟨a3,c3,rfl,s2,s3,_⟩:=hs;have HC:=I ar;have HG:=I (λk (hk:k<inp.length)=>(show inp.getD k 0∈inp by rw[bG,aQ hk];exact cN hk));have HS:=I (λk (hk:k<inp.length)=>(show(inp.take (k+1)).all dn=((inp.take k).all dn&&dn (inp.getD k 0))by rw[gV hk,xi,bG,aQ hk];simp));have HT:=A (inp.take inp.length=inp) iF;clear ar hi h1 h2 h3;generalize inp.length=n1 at*;generalize sm.length=n2 at*;generalize ss.length=n3 at*;obtain⟨W0,hW0⟩:=aj ((w.alloc (ah #[Z J N,Z J T,Z J M,Z J D] 26)).alloc (ah #[U a1 n1 c1,Z J ch,Z J mk,Z J sd,U a2 n2 c2,U a3 n3 c3] 117));have O:=A (af w.1.size w W0) (by rw[hW0];exact((ax _ _).alloc (aw _) _).alloc (by simp) _);have z0:w.1.size+1<W0.1.size:=by rw[hW0];simp
 have HX:=A (gy W0 (w.1.size+1) 117 (U a1 n1 c1) (Z J ch) (Z J mk) (Z J sd) (U a2 n2 c2) (U a3 n3 c3)) (by rw[hW0];exact jN w _ _);have HN:=A (W0.cell? ⟨w.1.size,1,V⟩=E (Z J T)/\W0.cell? ⟨w.1.size,2,V⟩=E (Z J M)) (by rw[hW0];refine⟨?_,?_⟩<;>simp);have au:=I hW0;clear hW0;obtain⟨⟨x0,x1,x2,x3,x4,x5⟩,xf⟩:=HX.o.cells;obtain⟨xt,xm⟩:=HN.o;go_enter func172,ntmps172;go_wp2_with fail;rw[<-au.o];go_loop [5] (λi=>∃k:Nat,k<=n1/\i=Z J k/\(inp.take k).all dn=aa) (λi=>n1-(aA i).toNat);case atStart=>exact⟨0,bi _,rfl,rfl⟩
 obtain⟨k,hk,rfl,hall⟩:=hrel;have HA:=I hall;clear hall;by_cases hlt:k<n1
 ·obtain⟨b,off,rfl,c0⟩:=HC.o k hlt;have hbl:b<w.1.size:=By c0;have HM:=I (HG.o k hlt);have HU:=I (HS.o k hlt);replace c0:=(O.o.cell (p:=⟨b,off+k,V⟩) hbl).trans c0;obtain⟨z,hz⟩:=aj (inp.getD k 0);rw[<-hz]at c0 HM HU;clear hz;by_cases y1:z<0;·have H:=I (aq.o (kU.2 ⟨z,HM.o,by rw[show dn z=Y from aM (by omega)];exact dR⟩));go_wp2;go_ret;exact⟨aF H.o.symm,O.o⟩
  by_cases y2:z<4294967296
  ·rw[show dn z=aa from rb.2 (by omega),HA.o]at HU;go_wp2;go_round;case rel=>exact⟨k+1,by omega,by go_num,HU.o⟩
   simp[aA];omega
  have H:=I (aq.o (kU.2 ⟨z,HM.o,by rw[show dn z=Y from aM (by omega)];exact dR⟩));go_wp2;go_ret;exact⟨aF H.o.symm,O.o⟩
 have ek:k=n1:=by omega
 subst ek;have av:=A (mQ inp=aa) (by have:=HA.o;rwa [HT.o]at this);by_cases q1:(k:Int)=M
 ·have p1:((k:Int) != M)=Y:=by simpa using q1
  by_cases q2:(n2:Int)=T-1
  ·have p2:((n2:Int) != T-1)=Y:=by simpa using q2
   by_cases q3:(n3:Int)=T-1
   ·have p3:((n3:Int) != T-1)=Y:=by simpa using q3
    have ag:=A (fz T M inp ch mk sd sm ss=(b1&&(b2&&b3))) (by rw[HR.o q1 q2 q3,av.o,ae.o.1,ae.o.2.1,ae.o.2.2];simp[Bool.and_assoc]);have B1:=I (λ(o:Obj)=>O.o.alloc (nH (by omega)) o);clear q1 q2 q3;go_wp2_with fail;refine aH (am.o _ O.o) λw' hw'=>?_;rw[hw'];clear hw';cases b2;·have H:=A (fz T M inp ch mk sd sm ss=Y) (by rw[ag.o];simp);go_wp2;go_ret;exact⟨aF H.o.symm,O.o⟩
    go_wp2_with fail;refine aH (ap.o _ O.o) λw' hw'=>?_;rw[hw'];clear hw';cases b3;·have H:=A (fz T M inp ch mk sd sm ss=Y) (by rw[ag.o];simp);go_wp2;go_ret;exact⟨aF H.o.symm,O.o⟩
    go_wp2_with fail;refine aH (ai.o W0) λw' hw'=>?_;rw[hw'];clear hw';have H:=A (fz T M inp ch mk sd sm ss=b1) (by rw[ag.o];simp);go_wp2;go_ret;exact⟨aF H.o.symm,B1.o _⟩
   have H:=I (HL.o (λh=>q3 h.2.2));have p3:((n3:Int) != T-1)=aa:=by simpa using q3
   clear q1 q2 q3;go_wp2;go_ret;exact⟨aF H.o.symm,O.o⟩
  have H:=I (HL.o (λh=>q2 h.2.1));have p2:((n2:Int) != T-1)=aa:=by simpa using q2
  clear q1 q2;go_wp2;go_ret;exact⟨aF H.o.symm,O.o⟩
 have H:=I (HL.o (λh=>q1 h.1));have p1:((k:Int) != M)=aa:=by simpa using q1
 clear q1;go_wp2;go_ret;exact⟨aF H.o.symm,O.o⟩
theorem PL{N id}(hi:aY w vi inp)(hm:aY w vm sm)(hs:aY w vs ss)(h1:bq ch)(h2:bq mk)(h3:bq sd)(hE:eT N T M D id inp ch mk sd sm ss≠0):
  ay prog 102 #[aD #[Z J N,Z J T,Z J M,Z J D],Z J id,aD #[vi,Z J ch,Z J mk,Z J sd,vm,vs]] w λe w'=>
   e=az (.tuple #[.pointer V,Z J (eT N T M D id inp ch mk sd sm ss)])/\af w.1.size w w':=by
 have ae:=I (λ(W:ac)=>wC N T M D W);have ai:=I (λ(W:ac)(hb:af w.1.size w W)(t1:1<=T)(t2:T<=12)=>DY N T M D (hi.below hb) (hm.below hb) (hs.below hb) t1 t2 h1 h2 h3);obtain⟨a1,c1,rfl,-⟩:=hi;obtain⟨a2,c2,rfl,-⟩:=hm;obtain⟨a3,c3,rfl,-⟩:=hs;generalize inp.length=n1 at*;generalize sm.length=n2 at*;generalize ss.length=n3 at*;obtain⟨W0,hW0⟩:=aj ((w.alloc (ah #[Z J N,Z J T,Z J M,Z J D] 26)).alloc (ah #[U a1 n1 c1,Z J ch,Z J mk,Z J sd,U a2 n2 c2,U a3 n3 c3] 117));have BB:=A (af w.1.size w W0) (by rw[hW0];exact((ax _ _).alloc (aw _) _).alloc (by simp) _);have z0:w.1.size+1<W0.1.size:=by rw[hW0];simp
 have HX:=A (gy W0 (w.1.size+1) 117 (U a1 n1 c1) (Z J ch) (Z J mk) (Z J sd) (U a2 n2 c2) (U a3 n3 c3)) (by rw[hW0];exact jN w _ _);have HN:=A (W0.cell? ⟨w.1.size,0,V⟩=E (Z J N)/\W0.cell? ⟨w.1.size,1,V⟩=E (Z J T)/\W0.cell? ⟨w.1.size,2,V⟩=E (Z J M)/\W0.cell? ⟨w.1.size,3,V⟩=E (Z J D)) (by rw[hW0];refine⟨?_,?_,?_,?_⟩<;>simp);have ag:=I hW0;obtain⟨x0,x1,x2,x3⟩:=HN.o;clear hW0;cases O:dV N T M D;·have aa:=A (eT N T M D id inp ch mk sd sm ss=5) (by unfold eT;rw[au O]);rw[O]at ae;clear O hE;go_enter xC,xD;go_upto_region 1 with fail;rw[<-ag.o];go_wp2_with fail;refine aH (ae.o W0) λw1 hb1=>?_;have HB:=I (BB.o.trans (hb1.mono (by omega)));clear hb1 x0 x1 x2 x3;go_wp2_with fail;go_ret2;exact⟨by rw[aa.o];rfl,HB.o⟩
 obtain⟨g1,g2,g3,g4,g5,g6,g7,g8⟩:1<=N/\N<=12/\1<=T/\T<=N/\1<=M/\M<=12/\1<=D/\D<=50:=by unfold dV at O;simp only[Bool.and_eq_true,decide_eq_true_iff]at O;omega
 rw[O]at ae;by_cases q1:id<1;·have aa:=A (eT N T M D id inp ch mk sd sm ss=1) (by unfold eT;rw[ar (by rw[O];simp),au (.inl q1)]);clear O hE;go_enter xC,xD;go_upto_region 1 with fail;rw[<-ag.o];go_wp2_with fail;refine aH (ae.o W0) λw1 hb1=>?_;have HB:=I (BB.o.trans (hb1.mono (by omega)));clear x0 x1 x2 x3;have x0:=(hb1.cell (p:=⟨w.1.size,0,V⟩) (by show w.1.size<_;omega)).trans HN.o.1;clear hb1;go_wp2_with fail;go_ret2;exact⟨by rw[aa.o];rfl,HB.o⟩
 by_cases q2:N<id;·have aa:=A (eT N T M D id inp ch mk sd sm ss=1) (by unfold eT;rw[ar (by rw[O];simp),au (.inr q2)]);clear O hE;go_enter xC,xD;go_upto_region 1 with fail;rw[<-ag.o];go_wp2_with fail;refine aH (ae.o W0) λw1 hb1=>?_;have HB:=I (BB.o.trans (hb1.mono (by omega)));clear x0 x1 x2 x3;have x0:=(hb1.cell (p:=⟨w.1.size,0,V⟩) (by show w.1.size<_;omega)).trans HN.o.1;clear hb1;go_wp2_with fail;go_ret2;exact⟨by rw[aa.o];rfl,HB.o⟩
 have hdr:fz T M inp ch mk sd sm ss=Y:=by cases e:fz T M inp ch mk sd sm ss;rfl;exfalso;apply hE;unfold eT;rw[ar (by rw[O];simp),ar (by omega),ar (by rw[e];simp)]
 have aa:=A (eT N T M D id inp ch mk sd sm ss=6) (by unfold eT;rw[ar (by rw[O];simp),ar (by omega),au hdr]);rw[hdr]at ai;clear O hdr hE;go_enter xC,xD;go_upto_region 1 with fail;rw[<-ag.o];go_wp2_with fail;refine aH (ae.o W0) λw1 hb1=>?_;have HB:=I (BB.o.trans (hb1.mono (by omega)));clear x0 x1 x2 x3;have x0:=(hb1.cell (p:=⟨w.1.size,0,V⟩) (by show w.1.size<_;omega)).trans HN.o.1;have x1:=(hb1.cell (p:=⟨w.1.size,1,V⟩) (by show w.1.size<_;omega)).trans HN.o.2.1;have x2:=(hb1.cell (p:=⟨w.1.size,2,V⟩) (by show w.1.size<_;omega)).trans HN.o.2.2.1;have x3:=(hb1.cell (p:=⟨w.1.size,3,V⟩) (by show w.1.size<_;omega)).trans HN.o.2.2.2;obtain⟨⟨u0,u1,u2,u3,u4,u5⟩,uf⟩:=(HX.o.below hb1 z0).cells;clear hb1;go_wp2_with fail;refine aH (ai.o w1 HB.o g3 (by omega)) λw2 hb2=>?_;have ak:=I (HB.o.trans (hb2.mono HB.o.size));clear hb2 x0 x1 x2 x3 u0 u1 u2 u3 u4 u5 uf;go_wp2_with fail;go_ret2;exact⟨by rw[aa.o];rfl,ak.o⟩
theorem KB (W g id pa pb)(O:W.1[g]?=E (ah #[Z J id,Z J pa,Z J pb,Z J 0] 147 (0,0)))(Y:∀x∈[((id,pa,pb,(0:Int)):aq.It)],iK x):aX W (U (E ⟨g,0,V⟩) 1 1) [(id,pa,pb,0)]:=by
 refine⟨E ⟨g,0,V⟩,1,rfl,aw _,by unfold maxLen;omega,Y,.inr ⟨g,0,rfl,?_,λi hi=>?_⟩⟩;·by_cases hb:g<W.1.size;exact hb;rw[cT (by omega)]at O;cases O
 obtain rfl:i=0:=by simp at hi;omega
 exact⟨(bg W g 0 _ _ (0,0) O).trans rfl,(bg W g 1 _ _ (0,0) O).trans rfl,(bg W g 2 _ _ (0,0) O).trans rfl,(bg W g 3 _ _ (0,0) O).trans rfl⟩
theorem PN{w' pw b c O}(hr:cA w' b ⟨c,D,vi,vm,vs,U V 0 0,O,1,U V 0 0⟩)(hg:dr c)(h1:aY w' vi c.inp)(h2:aY w' vm c.sm)(h3:aY w' vs c.ss)(aa:∀x,((c.inp≠[]/\vi.ownBlock=E x)\/(c.sm≠[]/\vm.ownBlock=E x)\/(c.ss≠[]/\vs.ownBlock=E x))->x<pw)(hh:bX w' O (bm 1 c.id (fG c)))(hb:pw<b)(hb2:b<w'.1.size)(Y:∀x,O.ownBlock=E x->b<x/\x<w'.1.size):
  gw w' pw b ⟨c,D,vi,vm,vs,U V 0 0,O,1,U V 0 0⟩ [] [] where
 at_:=hr
 good:=hg
 vi:=h1
 vm:=h2
 vz:=h3
 low:=aa
 hi:=hh
 heard:=⟨rfl,dp _ _ _ _,λj u hu=>by simp at hu⟩
 told:=⟨V,0,rfl,bi _,bi _,λx hx=>(by cases hx),.inl rfl⟩
 ph:=rfl
 ok:=λf hf=>by cases hf
 aS:=λx hx=>by rcases hx with(hx|hx)|hx|hx|⟨u,hu,_⟩;subst hx;exact⟨hb,hb2⟩;cases hx;have:=Y x hx;omega;cases hx;cases hu
 apart:=λx hx=>by rcases hx with hx|hx|⟨u,hu,_⟩;have:=Y x hx;exact⟨by omega,λe=>by cases e⟩;cases hx;cases hu
 lc:=λe=>by cases e
theorem PM (pw){N id}(hi:aY w vi inp)(hm:aY w vm sm)(hs:aY w vs ss)(h1:bq ch)(h2:bq mk)(h3:bq sd)(hE:eT N T M D id inp ch mk sd sm ss=0)(bH:pw<w.1.size)(bi:∀x,((inp≠[]/\vi.ownBlock=E x)\/(sm≠[]/\vm.ownBlock=E x)\/(ss≠[]/\vs.ownBlock=E x))->x<pw):
  ay prog 102 #[aD #[Z J N,Z J T,Z J M,Z J D],Z J id,aD #[vi,Z J ch,Z J mk,Z J sd,vm,vs]] w λe w'=>
   ∃b,e=az (.tuple #[.pointer (E ⟨b,0,V⟩),Z J 0])/\∃s,s.c=⟨N,T,M,id,inp,ch,mk,sd,sm,ss⟩/\gw w' pw b s [] []/\af w.1.size w w'/\∀x,mY b s [] x->w.1.size<=x:=by
 obtain⟨aA,bc,hdr⟩:=yZ hE;have aN:=vG aA bc hdr;have aS:=I (λ(W:ac)=>wC N T M D W);obtain⟨g1,g2,g3,g4,g5,g6,g7,g8⟩:1<=N/\N<=12/\1<=T/\T<=N/\1<=M/\M<=12/\1<=D/\D<=50:=by have:=aA;unfold dV at this;simp only[Bool.and_eq_true,decide_eq_true_iff]at this;omega
 have ae:=bj w λW hb=>DY N T M D (hi.below hb) (hm.below hb) (hs.below hb) g3 (by omega) h1 h2 h3;rw[aA]at aS;rw[hdr]at ae;have ai:=bj w λW hb=>(show aY W vi inp/\aY W vm sm/\aY W vs ss from⟨hi.below hb,hm.below hb,hs.below hb⟩);have ak:=I bi;obtain⟨a1,c1,rfl,-⟩:=hi;obtain⟨a2,c2,rfl,-⟩:=hm;obtain⟨a3,c3,rfl,-⟩:=hs;obtain⟨n1,bk⟩:∃n,n=inp.length:=⟨_,rfl⟩;obtain⟨n2,bl⟩:∃n,n=sm.length:=⟨_,rfl⟩;obtain⟨n3,bn⟩:∃n,n=ss.length:=⟨_,rfl⟩;rw[<-bk]at ae ai ak ⊢;rw[<-bl]at ae ai ak ⊢;rw[<-bn]at ae ai ak ⊢;obtain⟨cc,hcc⟩:∃cc:Cl,cc=⟨N,T,M,id,inp,ch,mk,sd,sm,ss⟩:=⟨_,rfl⟩;rw[<-hcc]at aN ⊢;have HG:=I aN;have aG:=I hcc;obtain⟨W0,hW0⟩:=aj ((w.alloc (ah #[Z J N,Z J T,Z J M,Z J D] 26)).alloc (ah #[U a1 n1 c1,Z J ch,Z J mk,Z J sd,U a2 n2 c2,U a3 n3 c3] 117));have BB:=A (af w.1.size w W0) (by rw[hW0];exact((ax _ _).alloc (aw _) _).alloc (by simp) _);have z0:w.1.size+1<W0.1.size:=by rw[hW0];simp
 have HX:=A (gy W0 (w.1.size+1) 117 (U a1 n1 c1) (Z J ch) (Z J mk) (Z J sd) (U a2 n2 c2) (U a3 n3 c3)) (by rw[hW0];exact jN w _ _);have Y:=A (W0.cell? ⟨w.1.size,0,V⟩=E (Z J N)/\W0.cell? ⟨w.1.size,1,V⟩=E (Z J T)/\W0.cell? ⟨w.1.size,2,V⟩=E (Z J M)/\W0.cell? ⟨w.1.size,3,V⟩=E (Z J D)) (by rw[hW0];refine⟨?_,?_,?_,?_⟩<;>simp);have bw:=I hW0;obtain⟨x0,x1,x2,x3⟩:=Y.o;obtain⟨q1,q2⟩:=bc;clear hW0 bk bl bn aA hdr aN hcc bi hE;go_enter xC,xD;go_upto_region 1 with fail;rw[<-bw.o];go_wp2_with fail;refine aH (aS.o W0) λw1 hb1=>?_;have HB:=I (BB.o.trans (hb1.mono (by omega)));have bp:=I hb1;have s1:=hb1.size;clear x0 x1 x2 x3;have x0:=(hb1.cell (p:=⟨w.1.size,0,V⟩) (by show w.1.size<_;omega)).trans Y.o.1;have x1:=(hb1.cell (p:=⟨w.1.size,1,V⟩) (by show w.1.size<_;omega)).trans Y.o.2.1;have x2:=(hb1.cell (p:=⟨w.1.size,2,V⟩) (by show w.1.size<_;omega)).trans Y.o.2.2.1;have x3:=(hb1.cell (p:=⟨w.1.size,3,V⟩) (by show w.1.size<_;omega)).trans Y.o.2.2.2;obtain⟨⟨u0,u1,u2,u3,u4,u5⟩,uf⟩:=(HX.o.below hb1 z0).cells;clear hb1;go_wp2_with fail;refine aH (ae.o w1 HB.o) λw2 hb2=>?_;have s2:=hb2.size;have aB:=I (HB.o.trans (hb2.mono HB.o.size));have aa:=bp.o.trans (hb2.mono s1);clear hb2 x0 x1 x2 x3 u0 u1 u2 u3 u4 u5 uf;have x0:=(aa.cell (p:=⟨w.1.size,0,V⟩) (by show w.1.size<_;omega)).trans Y.o.1;have x1:=(aa.cell (p:=⟨w.1.size,1,V⟩) (by show w.1.size<_;omega)).trans Y.o.2.1;have x2:=(aa.cell (p:=⟨w.1.size,2,V⟩) (by show w.1.size<_;omega)).trans Y.o.2.2.1;have x3:=(aa.cell (p:=⟨w.1.size,3,V⟩) (by show w.1.size<_;omega)).trans Y.o.2.2.2;obtain⟨⟨u0,u1,u2,u3,u4,u5⟩,uf⟩:=(HX.o.below aa z0).cells;clear aa;obtain⟨W3,hW3⟩:=aj (w2.alloc (ah #[Z J N,Z J T,Z J M,Z J D,Z J id,U a1 n1 c1,Z J ch,Z J mk,Z J sd,U a2 n2 c2,U a3 n3 c3,U V 0 0,U V 0 0,Z J 1,U V 0 0] 178));have aW:af w2.1.size w2 W3:=by rw[hW3];exact(ax _ _).alloc (aw _) _
 have bL:W3.1.size=w2.1.size+1:=by rw[hW3];simp
 have br:=I (aB.o.trans (aW.mono aB.o.size));have aT:=A (cA W3 w2.1.size ⟨cc,D,U a1 n1 c1,U a2 n2 c2,U a3 n3 c3,U V 0 0,U V 0 0,1,U V 0 0⟩) (by rw[hW3,aG.o];exact bo w2 _);have bz:=I hW3;clear hW3 aW;go_upto_region 10 with fail;rw[<-bz.o];clear x0 x1 x2 x3 u0 u1 u2 u3 u4 u5 uf;have aJ:=I (En aT.o HG.o.ch.1 HG.o.ch.2 HG.o.ms.1 HG.o.ms.2);have au:cc.id=id:=by rw[aG.o]
 have bv:=A (fG cc=[(id,kj cc,aO.eU cc,0)]) (by unfold fG;rw[au]);have am:=I (tQ HG.o);simp only at aJ;rw[au]at aJ am;have bu:=I (λ(W:ac)(v:ag)(hv:aX W v (fG cc))=>sw hv am.o);have bt:=I au;clear au;generalize kj cc=pa at*;generalize aO.eU cc=pb at*;go_wp2_with fail;refine aH aJ.o λw4 hb4=>?_;have s4:=hb4.size;obtain⟨O,ap⟩:=aj (w4.alloc (ah #[Z J id,Z J pa,Z J pb,Z J 0] 147));have aZ:af w4.1.size w4 O:=by rw[ap];exact(ax _ _).alloc (aw _) _
 have E1:O.1[w4.1.size]?=E (ah #[Z J id,Z J pa,Z J pb,Z J 0] 147 (0,0)):=by rw[ap];exact bo w4 _
 have e0:=bg O w4.1.size 0 _ _ (0,0) E1;have e1:=bg O w4.1.size 1 _ _ (0,0) E1;have e2:=bg O w4.1.size 2 _ _ (0,0) E1;have e3:=bg O w4.1.size 3 _ _ (0,0) E1;simp only[List.getElem?_toArray,List.getElem?_cons_zero,List.getElem?_cons_succ]at e0 e1 e2 e3;have aQ:=I (hb4.trans (aZ.mono s4));have bA:=I ap;clear ap hb4 aZ E1;go_upto_region 11 with fail;rw[<-bA.o];obtain⟨W6,aq⟩:=aj (O.alloc (ah #[Z J id,Z J pa,Z J pb,Z J 0] 147));have ba:af O.1.size O W6:=by rw[aq];exact(ax _ _).alloc (aw _) _
 have bD:=I (show aX W6 (U (E ⟨O.1.size,0,V⟩) 1 1) (fG cc)by have bh:∀x∈fG cc,iK x:=kg am.o;rw[bv.o]at bh ⊢;exact KB W6 O.1.size id pa pb (by rw[aq];exact bo O _) bh);have aC:=I (aQ.o.trans (ba.mono aQ.o.size));have bB:=I aq;have bK:=aC.o.size;clear aq ba;go_wp2_with fail;rw[<-bB.o];refine(bu.o W6 _ bD.o).mono ?_;rintro e w7 ⟨va,rfl,aP,bb⟩;obtain⟨a7,c7,bG⟩:=a_ aP;have aF:=I (aC.o.trans (bb.mono aC.o.size));have aL:=I (aT.o.below aF.o);have c12:=aL.o.cell 12;change w7.cell? ⟨w2.1.size,12,V⟩=E (U V 0 0)at c12;have f12:=aL.o.bF 12;subst bG;have OA:=I aP;clear aP bb e0 e1 e2 e3;obtain⟨EL,aV⟩:=aj ((bm 1 id (fG cc)).length);rw[<-aV]at OA ⊢;clear aV;obtain⟨W8,ar⟩:=aj (w7.setCell ⟨w2.1.size,12,V⟩ (U a7 EL c7));have aM:av (λx=>x=w2.1.size) w7 W8:=by rw[ar];exact av.setCell w7 ⟨w2.1.size,12,V⟩ _
 have aU:=I (show cA W8 w2.1.size ⟨cc,D,U a1 n1 c1,U a2 n2 c2,U a3 n3 c3,U V 0 0,U a7 EL c7,1,U V 0 0⟩by rw[ar];have:=bI w7 w2.1.size 12 _ _ (U a7 EL c7) aL.o;rw[mv]at this;exact this);have aK:=I (bf OA.o aM (λx hx e=>by have:=OA.o.lt x hx;omega));have bM:=aB.o.size;have bJ:=aF.o.size;have aR:=A (af w.1.size w W8) ((br.o.trans (aF.o.mono (by omega))).trans (aM.below (by omega) (λx e=>by omega)));have bC:=I ar;clear ar aM;go_wp2_with fail;rw[<-bC.o];go_ret2;have aI:=ai.o W8 aR.o;have bE:=bt.o;have hc1:cc.inp=inp/\cc.sm=sm/\cc.ss=ss:=by rw[aG.o];exact⟨rfl,rfl,rfl⟩
 refine⟨_,rfl,⟨cc,D,U a1 n1 c1,U a2 n2 c2,U a3 n3 c3,U V 0 0,U a7 EL c7,1,U V 0 0⟩,rfl,?_,aR.o,?_⟩;refine PN aU.o HG.o (by rw[hc1.1];exact aI.1) (by rw[hc1.2.1];exact aI.2.1) (by rw[hc1.2.2];exact aI.2.2) (by rw[hc1.1,hc1.2.1,hc1.2.2];exact ak.o) ?_ (by omega) aU.o.lt (λx hx=>by have:=aK.o.lt x hx;omega);rw[bE];exact nM aK.o (qq am.o);intro x hx;rcases hx with(hx|hx)|hx|hx|⟨u,hu,_⟩;omega;cases hx;have:=aK.o.lt x hx;omega;cases hx;cases hu
abbrev RF:=Int×Int×ag
def RF.z:RF:=(0,0,U V 0 0)
def zl (x:RF):Nat->ag
 |0=>Z J x.1
 |1=>Z J x.2.1
 |_=>x.2.2
def cR (H:Nat->RF)(t:Nat):ag:=zl (H (t/3)) (t%3)
theorem vh (H i):cR H (i*3)=Z J (H i).1:=by unfold cR;rw[show i*3/3=i by omega,show i*3%3=0 by omega];rfl
theorem Ii (H i):cR H (i*3+1)=Z J (H i).2.1:=by unfold cR;rw[show(i*3+1)/3=i by omega,show(i*3+1)%3=1 by omega];rfl
theorem Ij (H i):cR H (i*3+2)=(H i).2.2:=by unfold cR;rw[show(i*3+2)/3=i by omega,show(i*3+2)%3=2 by omega];rfl
def cw (R:Nat->RF):List ag:=(List.range 39).map (cR R)
def cr (H:Nat->RF):List ag:=(List.range 156).map (cR H)
def cE (H:Nat->RF)(r:Nat):Nat->RF:=λu=>H (r*13+u)
theorem El (H r):((List.range 39).map λj=>cR H (r*39+j))=cw (cE H r):=by unfold cw;apply mj;intro j _;unfold cR cE;rw[show(r*39+j)/3=r*13+j/3 by omega,show(r*39+j)%3=j%3 by omega]
def cf (R:Nat->RF):Nat->Bool:=λu=>decide (1<=u)&&decide ((R u).1≠0)
theorem lD:(prog.info? 237).map (·.size)=E 39:=by kernel_rfl
theorem lx (R):(cw R).length=39:=by unfold cw;simp
theorem pH (H):(cr H).length=156:=by unfold cr;simp
theorem Ei (w:ac)(R T):bp (w.alloc (ah (cw R).toArray T)) w.1.size T 39 (cR R):=bo w _
theorem CN:(prog.info? 3).map (λi=>(i.zero,i.size,i.bytes))=E (E (Z J 0),1,8):=by kernel_rfl
theorem zy (R w):
  ay prog 281 #[aD (cw R).toArray] w λe w'=>e= az (pA (cf R))/\af w.1.size w w':=by
 unfold pA;obtain ⟨X,hX⟩:=aj (cw R);obtain ⟨W0,hW0⟩:=aj (((w.alloc (ah X.toArray 237)).alloc (ah #[ak Y,ak Y,ak Y,ak Y,ak Y,ak Y,ak Y,ak Y,ak Y,ak Y,ak Y,ak Y,ak Y] 36)).alloc (ah #[ak Y,ak Y,ak Y,ak Y,ak Y,ak Y,ak Y,ak Y,ak Y,ak Y,ak Y,ak Y,ak Y] 36));have FA:=I (show bp W0 w.1.size 237 39 (cR R) by rw[hW0,hX];have k:af (w.1.size+1) (w.alloc (ah (cw R).toArray 237)) (((w.alloc (ah (cw R).toArray 237)).alloc (ah (aN λ_=>Y).toArray 36)).alloc (ah (aN λ_=>Y).toArray 36)):=((ax _ _).alloc (by simp) _).alloc (by simp) _;exact (Ei w R _).block (k.block _ (by omega)));have ZA:=I (show bZ W0 (w.1.size+1) 36 (λ_=>Y) by rw[hW0];have:=my (w.alloc (ah X.toArray 237)) (ah (aN λ_=>Y).toArray 36) (ah (aN λ_=>Y).toArray 36);simp only[World.size_alloc] at this;exact this);have ZB:=I (show bZ W0 (w.1.size+2) 36 (λ_=>Y) by rw[hW0];have:=jN (w.alloc (ah X.toArray 237)) (ah (aN λ_=>Y).toArray 36) (ah (aN λ_=>Y).toArray 36);simp only[World.size_alloc] at this;exact this);have B0:=A (af w.1.size w W0) (by rw[hW0];exact (((ax _ _).alloc (aw _) _).alloc (by simp) _).alloc (by simp;omega) _);have aO:=I hW0;rw[<-hX];clear hX hW0;go_enter func281,ntmps281;go_wp2_with fail;rw[<-aO.o];go_loopw [4] (λi wr=>∃k:Nat,k<=12/\i= Z J ((k:Int)+1)/\bZ wr (w.1.size+2) 36 (λu=>decide (u<=k)&&cf R u)/\bZ wr (w.1.size+1) 36 (λ_=>Y)/\bp wr w.1.size 237 39 (cR R)/\af w.1.size w wr) (λi _=>13-(aA i).toNat);case atStart=>exact ⟨0,by omega,rfl,ZB.o.ext (λv _=>by unfold cf;by_cases q:v<=0<;>simp[q]<;>omega),ZA.o,FA.o,B0.o⟩
 obtain ⟨k,hk,rfl,aG,aI,aH,aF⟩:=hrel;have ae:=I aG;have ag:=I aI;have ap:=I aH;have HB:=I aF;clear aG aI aH aF;by_cases hlt:k<12
 ·have aQ:(k:Int)+1<=12:=by omega
  have aP:(k:Int)+1<13:=by omega
  have z0:=ae.o.cell (k+1) (by omega);have zf:=ae.o.bF (k+1);have c0:=ap.o.cell ((k+1)*3) (by omega);rw[vh] at c0
  have ai:=I (λ(p:Bool) (hp:p=decide ((R (k+1)).1≠0))=>(show bZ (wr.setCell ⟨w.1.size+2,k+1,V⟩ (ak p)) (w.1.size+2) 36 (λu=>decide (u<=k+1)&&cf R u) from
   (ae.o.set (k+1) (by omega) p).ext (λv hv=>by
    unfold fR;by_cases e:v=k+1;·subst e;rw[au rfl,hp,aK (aw _),eE];unfold cf;rw[aK (show 1<=k+1 by omega),eE]
    rw[ar e];show (decide (v<=k)&&cf R v)=(decide (v<=k+1)&&cf R v);by_cases c:v<=k;·rw[aK c,aK (show v<=k+1 by omega)]
    rw[aM c,aM (show ¬v<=k+1 by omega)])));have O:=I (λ(p:Bool)=>And.intro (ag.o.block (w':=wr.setCell ⟨w.1.size+2,k+1,V⟩ (ak p)) (fI _ _ _ _ (by simp))) (And.intro (ap.o.block (w':=wr.setCell ⟨w.1.size+2,k+1,V⟩ (ak p)) (fI _ _ _ _ (by simp))) (HB.o.setCell (p:=⟨w.1.size+2,k+1,V⟩) (by show w.1.size<=w.1.size+2;omega) (ak p))));obtain ⟨x,hx⟩:=aj ((R (k+1)).1);rw[<-hx] at c0 ai;clear hx;by_cases q:x=0
  ·have q':(x != 0)=Y:=by simpa using q
   have HP:=I (ai.o Y (by simp[q]));clear q;go_wp2;go_roundw;case rel=>exact ⟨k+1,by omega,by go_num,HP.o,(O.o _).1,(O.o _).2.1,(O.o _).2.2⟩
   simp[aA];omega
  have q':(x != 0)=aa:=by simpa using q
  have HP:=I (ai.o aa (by simp[q]));clear q;go_wp2;go_roundw;case rel=>exact ⟨k+1,by omega,by go_num,HP.o,(O.o _).1,(O.o _).2.1,(O.o _).2.2⟩
  simp[aA];omega
 have ek:k=12:=by omega
 subst ek;have HST:=A (bZ wr (w.1.size+2) 36 (cf R)) (ae.o.ext (λv hv=>by rw[aK (show v<=12 by omega)];rfl));have RG:=I HST.o.range;have LX:=I (eN (cf R));have aq:=I (dN (ld (cf R)));have aC:=I (show wr.there (w.1.size+1) 0 (aN (cf R)).toArray.size from λi hi=>by rw[bR,eN] at hi;exact ⟨by rw[cz,ag.o.cell i hi];rfl,by rw[cz];exact ag.o.bF i⟩);have av:=I (show (wr.setCells (w.1.size+1) 0 (aN (cf R))).1[w.1.size+1]? =E (ah (aN (cf R)).toArray 36 (0,0)) by have:=kI (w.1.size+1) 36 (aN (cf R)) [] (aN λ_=>Y) [] wr rfl (by rw[ew];exact ag.o);rw[ew] at this;exact this);have BF:=A (af w.1.size w (wr.setCells (w.1.size+1) 0 (aN (cf R)))) (dU (by omega) _ _ _ HB.o);obtain ⟨CS,am⟩:=aj (aN (cf R));rw[<-am] at RG LX aq aC av BF;have aJ:=I am;clear am;have aB:=A ((prog.info? 36).map (·.size)=E CS.toArray.size) (by rw[mb,bR,LX.o]);have aL:=A ((prog.info? 36).map (·.size)=E CS.length) (by rw[mb,LX.o]);go_wp2_with (first|refine fK rfl 36 _ rfl (w.1.size+2) 0 rfl CS _ RG.o ru rfl aL.o ?_|refine cB rfl 36 _ _ rfl (w.1.size+1) 0 CS.toArray rfl rfl aC.o aB.o aq.o ?_);refine cQ (ic rfl _ _ (w.1.size+1) 36 CS.toArray (0,0) _ rfl av.o ru rfl aB.o) rfl ?_;exact ⟨by rw[aJ.o],BF.o⟩
theorem wG (R w):
  ay prog 241 #[aD (cw R).toArray] w λe w'=>∃v,e=az v/\w'.ownsRow w.1.size 3 1 v (aT (cf R)).length ((aT (cf R)).map λu:Nat=>Z J (u:Int))/\af w.1.size w w':=by
 obtain⟨i0,hi,hz0,hz1,hz2⟩:=bO CN;have HF:=I (Ei w R 237);have BB:=A (af w.1.size w (w.alloc (ah (cw R).toArray 237))) ((ax _ _).alloc (aw _) _);obtain⟨X,hX⟩:=aj (cw R);rw[<-hX]at HF BB ⊢;clear hX;have H0:=A (bV (cf R) 1=[]) (by rw[iM];unfold cf;simp[bV]);go_enter func241,ntmps241;go_wp2;go_loopw [3,4] (λro i wr=>∃k:Nat,k<=12/\i=Z J ((k:Int)+1)/\wr.ownsRow w.1.size 3 1 ro (bV (cf R) (k+1)).length ((bV (cf R) (k+1)).map λu:Nat=>Z J (u:Int))/\bp wr w.1.size 237 39 (cR R)/\af w.1.size w wr/\(∀x,ro.ownBlock=E x->x≠w.1.size)) (λ_ i _=>13-(aA i).toNat);case atStart=>exact⟨0,by omega,rfl,by rw[H0.o];exact dp _ _ _ _,HF.o,BB.o,λx hx=>by cases hx⟩
 obtain⟨k,hk,rfl,hown,am,ak,hne⟩:=hrel;have HO:=I hown;have ae:=I am;have O:=I ak;have aq:=I hne;have hsz:=ak.size;have aB:=am.lt;obtain⟨a3,c3,hv3⟩:=a_ hown;subst hv3;clear hown ak am hne;have hle:=gC (cf R) (k+1);have HS:=I (iM (cf R) (k+1));by_cases hlt:k<12
 ·have aF:(k:Int)+1<=12:=by omega
  have aC:(k:Int)+1<13:=by omega
  have c0:=ae.o.cell ((k+1)*3) (by omega);rw[vh]at c0;have ag:=A (cf R (k+1)=decide ((R (k+1)).1≠0)) (by unfold cf;rw[aK (show 1<=k+1 by omega),eE]);obtain⟨x,hx⟩:=aj ((R (k+1)).1);rw[<-hx]at c0 ag;clear hx;by_cases q:x=0
  ·have q':(x != 0)=Y:=by simpa using q
   have ai:=A (bV (cf R) (k+1+1)=bV (cf R) (k+1)) (by rw[HS.o,ag.o];simp[q]);clear q;go_wp2;go_roundw;case rel=>exact⟨k+1,by omega,by go_num,by rw[ai.o];exact HO.o,ae.o,O.o,aq.o⟩
   simp[aA];omega
  have q':(x != 0)=aa:=by simpa using q
  have ai:=A (bV (cf R) (k+1+1)=bV (cf R) (k+1)++[k+1]) (by rw[HS.o,ag.o];simp[q]);clear q;go_wp2_with(at_builtin;refine eF _ rfl _ _ 33 rfl w.1.size 3 i0 (Z J 0) 1 8 gW hi hz0 hz1 hz2 rfl (by decide) _ _ _ rfl (HO.o.alloc _) ⟨wr.1.size,0,V⟩ 1 1 [Z J ((k:Int)+1)] rfl rfl ?c1 ?c2 ?c3 ?c4 ?c5 ?_);case c1=>exact uG _ _ _
  case c2=>intro u hu;simp at hu;subst hu;rfl
  case c3=>unfold maxLen;omega
  case c4=>omega
  case c5=>simp;omega
  intro v' w2 hown' ap _;have hb2:=(O.o.alloc hsz _).grown ap (by simp;omega) (λx h=>(HO.o.lt x h).1);have ar:af wr.1.size wr (wr.alloc (ah #[Z J ((k:Int)+1)] 3)):=(ax _ _).alloc (aw _) _;have F2:=I ((ae.o.block (ar.block _ aB)).block (ap.block _ (by simp;omega) (λe=>aq.o _ e.symm rfl)));have hT:(3:TypeId)≠237:=by decide
  have N2:=I (show∀x,v'.ownBlock=E x->x≠w.1.size from λx hx e=>by subst e;obtain⟨_,hd⟩:=hown';rcases hd with⟨rfl,_⟩|⟨g,cap,cur,rfl,_,h3,_⟩;cases hx;have e1:g=w.1.size:=nI hx;subst e1;have:=F2.o;unfold bp at this;rw[h3]at this;injection(nI this)with _ e2;exact hT e2);have au:=I hb2;have av:=I (show w2.ownsRow w.1.size 3 1 v' (bV (cf R) (k+1+1)).length ((bV (cf R) (k+1+1)).map λu:Nat=>Z J (u:Int))by rw[ai.o,cy,cF];exact hown');clear hown' ap hb2 ar;go_wp2;go_roundw;case rel=>exact⟨k+1,by omega,by go_num,av.o,F2.o,au.o,N2.o⟩
  simp[aA];omega
 have ek:k=12:=by omega
 subst ek;go_wp2;go_ret;exact⟨_,rfl,HO.o,O.o⟩
theorem Rp (rd:Nat)(hr:rd<4)(w):
  ay prog 239 #[Z J (rd:Int)] w λe w'=>e=az (Z J (2*(rd:Int)+1))/\w'=w:=by
 have hd:rd=0\/rd=1\/rd=2\/rd=3:=by omega
 rcases hd with rfl|rfl|rfl|rfl;·go_enter func239,ntmps239;go_wp2;go_ret;exact⟨rfl,rfl⟩
 ·go_enter func239,ntmps239;go_wp2;go_ret;exact⟨rfl,rfl⟩
 ·go_enter func239,ntmps239;go_wp2;go_ret;exact⟨rfl,rfl⟩
 go_enter func239,ntmps239;go_wp2;go_ret;exact⟨rfl,rfl⟩
theorem RH{f g}(k)(hk:k<13)(h:f k≠g k):ly f g=Y:=by cases e:ly f g;rfl;exact absurd (lz.1 e k hk) h
theorem RI{f g}(h:∀k,k<13->f k=g k):ly f g=aa:=lz.2 h
theorem PW (f g w):
  ay prog 282 #[pA f,pA g] w λe w'=>e=az (ak (ly f g))/\af w.1.size w w':=by
 unfold pA;obtain⟨W,hW⟩:=aj ((w.alloc (ah (aN f).toArray 36)).alloc (ah (aN g).toArray 36));have HA:=A (bZ W w.1.size 36 f) (by rw[hW];exact my w _ _);have ai:=A (bZ W (w.1.size+1) 36 g) (by rw[hW];exact jN w _ _);have BB:=A (af w.1.size w W) (by rw[hW];exact((ax _ _).alloc (aw _) _).alloc (by simp) _);have hsz:w.1.size+1<W.1.size:=ai.o.lt;have HW:=I hW;clear hW;obtain⟨X,hX⟩:=aj ((aN f).toArray);obtain⟨Y,hY⟩:=aj ((aN g).toArray);rw[<-hX,<-hY]at HW ⊢;clear hX hY;have ar:=I (λk hk h=>RH (f:=f) (g:=g) k hk h);have au:=I (λh=>RI (f:=f) (g:=g) h);go_enter func282,ntmps282;go_wp2_with fail;rw[<-HW.o];go_loopw [5] (λi wr=>∃k:Nat,k<=13/\i=Z J (k:Int)/\(∀j,j<k->f j=g j)/\af W.1.size W wr) (λi _=>13-(aA i).toNat);case atStart=>exact⟨0,by omega,rfl,λj h=>absurd h (by omega),ax _ _⟩
 obtain⟨k,hk,rfl,hall,ae⟩:=hrel;have ag:=I hall;have O:=I ae;have aa:=I (BB.o.trans (ae.mono BB.o.size));clear hall ae;by_cases hlt:k<13
 ·have aB:(k:Int)<=12:=by omega
  have av:(k:Int)<13:=by omega
  have c:=(HA.o.below O.o (by omega)).cell k hlt;have d:=(ai.o.below O.o hsz).cell k hlt;have HD:=I (λm=>O.o.trans ((below_drewN wr m).mono O.o.size));have am:=I (λm=>aa.o.trans ((below_drewN wr m).mono aa.o.size));have ap:=I (ar.o k hlt);have aq:=I (λ(e:f k=g k) j (hj:j<k+1)=>(show f j=g j from if q:j=k then q▸e else ag.o j (by omega)));cases q1:f k<;>cases q2:g k
  ·rw[q1]at c;rw[q2]at d;have NX:=I (aq.o (by rw[q1,q2]));clear q1 q2;go_wp2_with fail;go_quiet (fail);go_wp2;go_roundw;case rel=>exact⟨k+1,by omega,by go_num,NX.o,HD.o _⟩
   simp[aA];omega
  ·rw[q1]at c;rw[q2]at d;have NX:=I (ap.o (by rw[q1,q2];exact dR));clear q1 q2;go_wp2_with fail;go_quiet (fail);go_wp2;go_ret;exact⟨aF NX.o.symm,am.o _⟩
  ·rw[q1]at c;rw[q2]at d;have NX:=I (ap.o (by rw[q1,q2];exact λe=>dR e.symm));clear q1 q2;go_wp2_with fail;go_quiet (fail);go_wp2;go_ret;exact⟨aF NX.o.symm,am.o _⟩
  rw[q1]at c;rw[q2]at d;have NX:=I (aq.o (by rw[q1,q2]));clear q1 q2;go_wp2_with fail;go_quiet (fail);go_wp2;go_roundw;case rel=>exact⟨k+1,by omega,by go_num,NX.o,HD.o _⟩
  simp[aA];omega
 have ek:k=13:=by omega
 subst ek;have YY:=I (au.o ag.o);go_wp2;go_ret;exact⟨aF YY.o.symm,aa.o⟩
theorem ve (W f):(W.alloc (ah #[ak Y,ak Y,ak Y,ak Y,ak Y,ak Y,ak Y,ak Y,ak Y,ak Y,ak Y,ak Y,ak Y] 36)).there W.1.size 0 (aN f).toArray.size/\bZ ((W.alloc (ah #[ak Y,ak Y,ak Y,ak Y,ak Y,ak Y,ak Y,ak Y,ak Y,ak Y,ak Y,ak Y,ak Y] 36)).setCells W.1.size 0 (aN f)) W.1.size 36 f/\af W.1.size W ((W.alloc (ah #[ak Y,ak Y,ak Y,ak Y,ak Y,ak Y,ak Y,ak Y,ak Y,ak Y,ak Y,ak Y,ak Y] 36)).setCells W.1.size 0 (aN f)):=by have O:bZ (W.alloc (ah #[ak Y,ak Y,ak Y,ak Y,ak Y,ak Y,ak Y,ak Y,ak Y,ak Y,ak Y,ak Y,ak Y] 36)) W.1.size 36 (λ_=>Y):=bo W _;refine⟨λi hi=>?_,?_,dU (aw _) _ _ _ ((ax _ _).alloc (aw _) _)⟩;rw[bR,eN]at hi;exact⟨by rw[cz,O.cell i hi];rfl,by rw[cz];exact O.bF i⟩;have:=kI W.1.size 36 (aN f) [] (aN λ_=>Y) [] (W.alloc (ah #[ak Y,ak Y,ak Y,ak Y,ak Y,ak Y,ak Y,ak Y,ak Y,ak Y,ak Y,ak Y,ak Y] 36)) rfl (by rw[ew];exact O);rw[ew]at this;exact this
def lB (M:Int)(r u:Nat)(l:List aq.It)(p0 p1 p2:Nat->Bool):Bool:=
 if r=1 then ly (λx:Nat=>aP l x) (fR p0 u Y)
 else if r=2 then decide ((l.length:Int)=M)
 else if r=3 then(l.all λx=>decide (x.2.1=1)==p2 x.1.toNat)&&ly (λx:Nat=>aP l x) p1
 else aa
theorem SN{C G r u l p0 p1 p2}(hr:bN l=aa)(h0:1<=r->∀v,v<13->p0 v=aB.mem (G 0) v)(h1:2<=r->∀v,v<13->p1 v=aB.mem (G 1) v)(h2:3<=r->∀v,v<13->p2 v=aB.mem (G 2) v):lB C.M r u l p0 p1 p2=aB.shape C G r u l:=by
 unfold lB aB.shape;by_cases r1:r=1
 ·rw[au r1,au r1,pM,lz,lz];have e:∀v,v<13->fR p0 u Y v=aB.without (aB.mem (G 0)) u v:=λv hv=>by
   unfold fR aB.without;rw[h0 (by omega) v hv];by_cases c:v=u;·rw[au c,aM (by simpa using c),dZ]
   rw[ar c,aK c,uy]
  exact⟨λa v hv=>(a v hv).trans (e v hv),λa v hv=>(a v hv).trans (e v hv).symm⟩
 rw[ar r1,ar r1];by_cases r2:r=2;·rw[au r2,au r2]
 rw[ar r2,ar r2];by_cases r3:r=3;rw[au r3,au r3];congr 1;rw[pM,fk,fk];have e:∀x∈l,p2 x.1.toNat=aB.mem (G 2) x.1.toNat:=λx hx=>h2 (by omega) _ (yA hr x hx).1;exact⟨λa x hx=>by rw[<-e x hx];exact a x hx,λa x hx=>by rw[e x hx];exact a x hx⟩;rw[pM,lz,lz];have e:=h1 (by omega);exact⟨λa v hv=>(a v hv).trans (e v hv),λa v hv=>(a v hv).trans (e v hv).symm⟩;rw[ar r3,ar r3]
def nv (w:ac)(k fr:Int)(v:ag)(R0 O Y:Nat->RF):ac:=(((w.alloc (ah #[Z J k,Z J fr,v] 65)).alloc (ah (cw R0).toArray 237)).alloc (ah (cw O).toArray 237)).alloc (ah (cw Y).toArray 237)
theorem SL (w k fr v R0 O Y){W}(hb:af (nv w k fr v R0 O Y).1.size (nv w k fr v R0 O Y) W):
  (W.cell? ⟨w.1.size,0,V⟩=E (Z J k)/\W.cell? ⟨w.1.size,1,V⟩=E (Z J fr)/\W.cell? ⟨w.1.size,2,V⟩=E v)/\W.rangeAt (w.1.size+1) 0 (cw R0)/\W.rangeAt (w.1.size+2) 0 (cw O)/\W.rangeAt (w.1.size+3) 0 (cw Y)/\af w.1.size w W/\w.1.size+4<=W.1.size:=by
 have hs:(nv w k fr v R0 O Y).1.size=w.1.size+4:=by simp[nv]
 have aa:∀(b:Nat)(R:Nat->RF),bp W b 237 39 (cR R)->W.rangeAt b 0 (cw R):=λb R h=>by have:=h.range 0 39 (by omega);simp only[Nat.zero_add]at this;exact this
 have k1:af (w.1.size+1) (w.alloc (ah #[Z J k,Z J fr,v] 65)) (nv w k fr v R0 O Y):=(((ax _ _).alloc (by simp) _).alloc (by simp) _).alloc (by simp) _;have k2:af (w.1.size+2) ((w.alloc (ah #[Z J k,Z J fr,v] 65)).alloc (ah (cw R0).toArray 237)) (nv w k fr v R0 O Y):=((ax _ _).alloc (by simp) _).alloc (by simp) _;have k3:af (w.1.size+3) (((w.alloc (ah #[Z J k,Z J fr,v] 65)).alloc (ah (cw R0).toArray 237)).alloc (ah (cw O).toArray 237)) (nv w k fr v R0 O Y):=(ax _ _).alloc (by simp) _;have r0:W.1[w.1.size]?=E (ah #[Z J k,Z J fr,v] 65 (0,0)):=(hb.block _ (by omega)).trans ((k1.block _ (by omega)).trans (bo w _));have f1:bp W (w.1.size+1) 237 39 (cR R0):=(hb.block _ (by omega)).trans ((k2.block _ (by omega)).trans (by have:=bo (w.alloc (ah #[Z J k,Z J fr,v] 65)) (ah (cw R0).toArray 237);simp only[World.size_alloc]at this;exact this));have f2:bp W (w.1.size+2) 237 39 (cR O):=(hb.block _ (by omega)).trans ((k3.block _ (by omega)).trans (by have:=bo ((w.alloc (ah #[Z J k,Z J fr,v] 65)).alloc (ah (cw R0).toArray 237)) (ah (cw O).toArray 237);simp only[World.size_alloc]at this;exact this));have f3:bp W (w.1.size+3) 237 39 (cR Y):=(hb.block _ (by omega)).trans (by have:=bo (((w.alloc (ah #[Z J k,Z J fr,v] 65)).alloc (ah (cw R0).toArray 237)).alloc (ah (cw O).toArray 237)) (ah (cw Y).toArray 237);simp only[World.size_alloc]at this;exact this);have b0:af w.1.size w (nv w k fr v R0 O Y):=((((ax _ _).alloc (aw _) _).alloc (by simp) _).alloc (by simp;omega) _).alloc (by simp;omega) _;refine⟨⟨?_,?_,?_⟩,aa _ _ f1,aa _ _ f2,aa _ _ f3,b0.trans (hb.mono (by omega)),by have:=hb.size;omega⟩;rw[bg W w.1.size 0 _ _ (0,0) r0];rfl;rw[bg W w.1.size 1 _ _ (0,0) r0];rfl;rw[bg W w.1.size 2 _ _ (0,0) r0];rfl
end Go.Proofs.YtchideljndagjabGreat


