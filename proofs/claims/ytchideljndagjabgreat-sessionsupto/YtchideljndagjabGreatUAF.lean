/- Joined -/
import Derived.Test.YtchideljndagjabGreatUAE
import Derived.Laws.Concat
import Derived.ChangeOld
set_option linter.unusedVariables false
set_option maxHeartbeats 1000000
set_option maxRecDepth 100000
namespace Go.Proofs.YtchideljndagjabGreat
open aq
open Go.Value renaming int->Z,slice->U,pointer->aC,tuple->br
open Go.IntKind renaming i64->J
open Go.Obj renaming cells->ah
open Go.Ending renaming returned->az
open Option renaming none->V,some->E
open Go renaming World->ac,Value->ag,Calls->ay
abbrev oC:=@wpQuiet_nil
abbrev Ax:=@Proofs.Tryz.underlying5
abbrev uK:=@Proofs.Tryz.underlying9
abbrev pR:=@Nat.lt_succ_self
abbrev FN:=@Array.getElem?_toList
abbrev UY:=@Array.getElem?_eq_getElem
abbrev Ay:=@List.mem_flatten
abbrev uL:=@World.cell?_spot
open Go.Proofs.Tryz
variable {m nx:Int}{g n pw:Nat}{ls:Nat->List Ow}{F:Nat->ag}{v:ag}{w wr:ac}
section
open Go.RowKit
theorem RB{x y z u}:
  ay prog 169 #[.agg #[Z J x,Z J y,Z J z,Z J u],.agg #[Z J x,Z J y,Z J z,Z J u]] w λe w'=>e=az (.bool true)/\Below w.1.size w w':=by go_enter func169,ntmps169;go_wp2;go_ret;exact⟨rfl,((ax _ _).alloc (aw _) _).alloc (by simp) _⟩
theorem RD (va){vb l}(ha:aX w va l)(hb:aX w vb l):
  ay prog 98 #[va,vb] w λe w'=>e=az (.bool true)/\Below w.1.size w w':=by
 obtain⟨a,ca,rfl,a2,a3,_,hA⟩:=cK ha;obtain⟨b,cb,rfl,b2,b3,_,hB⟩:=cK hb;have HA:=I hA;have HB:=I hB;clear hA hB ha hb;generalize hn:l.length=n at*;clear hn;go_enter func98,ntmps98;go_wp2;go_loopw [5] (λi wr=>∃k:Nat,k<=n/\i=Z J k/\Below w.1.size w wr) (λi _=>n-(intOf i).toNat);case atStart=>exact⟨0,by omega,rfl,ax _ _⟩
 obtain⟨k,hk,rfl,O⟩:=hrel;have BL:=I O;have hsz:=O.size;by_cases hlt:k<n
 ·obtain⟨g1,o1,rfl,l1,i1⟩:=HA.o k hlt;obtain⟨g2,o2,rfl,l2,i2⟩:=HB.o k hlt;obtain⟨p0,p1,p2,p3⟩:=i1.below l1 O;obtain⟨q0,q1,q2,q3⟩:=i2.below l2 O;have ai:g1<wr.1.size:=by omega
  have aj:g2<wr.1.size:=by omega
  generalize (aq.it l k).1=z0 at*;generalize (aq.it l k).2.1=z1 at*;generalize (aq.it l k).2.2.1=z2 at*;generalize (aq.it l k).2.2.2=z3 at*;have af:(0:Int)<=(k:Int):=by omega
  have ah:(k:Int)<(n:Int):=by omega
  clear O i1 i2;go_wp2_with fail;refine nA (by kernel_rfl) (by kernel_rfl) ?_;intro ac G hI hG ae aa;repeat(go_big_quiet_step (first|(go_at_call 169;exact lW hG aa (RB))))
  refine oC ?_;intro w2 hw';obtain⟨u,hw''⟩:=hw';have Y:=hG.o u;rw[<-hw'']at Y;have B2:=I Y;clear hw'' ae aa hG u hI G ac Y;go_wp2;go_roundw;case rel=>exact⟨k+1,by omega,by go_num,BL.o.trans (B2.o.mono hsz)⟩
  simp[intOf];omega
 clear O;go_wp2;go_ret;exact⟨rfl,BL.o⟩
end
section
open Go.ChangeShapes Go.WideShapes Go.ChangeAt Go.RowKit
theorem CH:(prog.info? 47).map (λi=>(i.zero,i.size,i.bytes))=E (E (U V 0 0),1,24):=by kernel_rfl
theorem CI:(prog.info? 63).map (λi=>(i.zero,i.size,i.bytes))=E (E (U V 0 0),1,24):=by kernel_rfl
theorem OG (b n m):ix (cat 1) (b,n,m)=List.replicate n (Z .u8 m):=by
 show(List.replicate n [Value.int .u8 m]).flatten=_
 induction n with
 |zero=>rfl
 |succ n ih=>rw[nC,oy,ih,nC];rfl
theorem JJ{e}(h:oG w g e n (Z .u8 m) n wr):wr.1[g]?=E (ah (ix (cat 1) (E g,n,m)).toArray e (0,0)):=by obtain⟨_,cur,h1,h2,h3⟩:=h;rw[h1];have e1:=OG (E g) n m;rw[e1];congr 2;apply uF;intro i;by_cases hi:i<n;rw[h3 i hi];simp[hi];rw[cT (by omega),cT (by simp;omega)]
def rA (w:ac)(g:Nat)(n:Nat)(m:Int)(k:Nat)(wr:ac):Prop:=
 av (λb=>b=g) w wr/\∃cur:Array ag,wr.1[g]?=E (ah cur 147 (0,0))/\cur.size=n*4/\∀i,i<k*4->cur[i]?=E (Z J m)
theorem JB{cur}(h:w.1[g]?=E (ah cur 147 (0,0)))(hs:cur.size=n*4):rA w g n m 0 w:=
 ⟨av.refl _ _,cur,h,hs,λi hi=>by omega⟩
theorem Jy{k}(h:rA w g n m k wr)(j)(hj:j<n):
  (∃v,wr.cell? ⟨g,j*4,V⟩=E v)/\wr.frozen? ⟨g,j*4,V⟩=false/\(∃v,wr.cell? ⟨g,j*4+1,V⟩=E v)/\wr.frozen? ⟨g,j*4+1,V⟩=false/\
  (∃v,wr.cell? ⟨g,j*4+2,V⟩=E v)/\wr.frozen? ⟨g,j*4+2,V⟩=false/\(∃v,wr.cell? ⟨g,j*4+3,V⟩=E v)/\wr.frozen? ⟨g,j*4+3,V⟩=false:=by
 obtain⟨_,cur,h1,h2,_⟩:=h;have key:∀o,o<n*4->(∃v,wr.cell? ⟨g,o,V⟩=E v)/\wr.frozen? ⟨g,o,V⟩=false:=λo ho=>
  ⟨⟨cur[o]'(by omega),by simp only[World.cell?,h1];simp[h2,ho]⟩,by simp[World.frozen?,h1]⟩;have O:=key (j*4) (by omega);have k1:=key (j*4+1) (by omega);have k2:=key (j*4+2) (by omega);have k3:=key (j*4+3) (by omega);exact⟨O.1,O.2,k1.1,k1.2,k2.1,k2.2,k3.1,k3.2⟩
theorem JA{k}(h:rA w g n m k wr)(hk:k<n):rA w g n m (k+1) ((((wr.setCell ⟨g,k*4,V⟩ (Z J m)).setCell ⟨g,k*4+1,V⟩ (Z J m)).setCell ⟨g,k*4+2,V⟩ (Z J m)).setCell ⟨g,k*4+3,V⟩ (Z J m)):=by
 obtain⟨h0,cur,h1,h2,h3⟩:=h;have e1:=bI wr g (k*4) cur 147 (Z J m) h1;have e2:=bI _ g (k*4+1) _ 147 (Z J m) e1;have e3:=bI _ g (k*4+2) _ 147 (Z J m) e2;have e4:=bI _ g (k*4+3) _ 147 (Z J m) e3;refine⟨(((h0.trans (av.setCell _ _ _) (λx e _=>e)).trans (av.setCell _ _ _) (λx e _=>e)).trans (av.setCell _ _ _) (λx e _=>e)).trans (av.setCell _ _ _) (λx e _=>e),_,e4,by simp[h2],λi hi=>?_⟩;rw[pP,pP,pP,pP];by_cases q3:k*4+3=i;·rw[au q3,au (by simp;omega)]
 rw[ar q3];by_cases q2:k*4+2=i;·rw[au q2,au (by simp;omega)]
 rw[ar q2];by_cases q1:k*4+1=i;·rw[au q1,au (by simp;omega)]
 rw[ar q1];by_cases q0:k*4=i;·rw[au q0,au (by omega)]
 rw[ar q0];exact h3 i (by omega)
theorem OI (b n m):ix (cat 2) (b,n,m)=List.replicate (n*4) (Z J m):=by
 induction n with
 |zero=>rfl
 |succ n ih=> unfold ix at ih ⊢;rw[nC,oy,ih,show(n+1)*4=n*4+1+1+1+1 by omega,nC,nC,nC,nC];rfl
theorem Jz (h:rA w g n m n wr):wr.1[g]?=E (ah (ix (cat 2) (E g,n,m)).toArray 147 (0,0)):=by obtain⟨_,cur,h1,h2,h3⟩:=h;rw[h1,OI];congr 2;apply uF;intro i;by_cases hi:i<n*4;rw[h3 i hi];simp[hi];rw[cT (by omega),cT (by simp;omega)]
theorem Dy (g n cap cur)(h:bH w pw F nx ls)(h0:0<=nx)(h1:nx<=1000000000000000000)(hlen:((ls 1).length+1)*24<=140737488355328)(hg:w.1[g]?=E (ah cur 5 (0,0)))(hcs:cur.size=cap)(aI:n<=cap)(hcm:cap<=maxLen)(am:pw<g)(ai:¬aU F ls g):
  ay prog 95 #[aC (E ⟨pw,0,V⟩),U (E ⟨g,0,V⟩) n cap] w λe w'=>e=az (br #[])/\∃F',bH w' pw F' (nx+1) (bn ls 1 (ls 1++[(E g,cap,ek nx)]))/\
   (∀b,b<w.1.size->g≠b->¬aU F ls b->¬aU F' (bn ls 1 (ls 1++[(E g,cap,ek nx)])) b)/\(∀j,j<3->F' j=F j)/\
   av (λb=>b=pw\/g=b\/aU F ls b) w w':=by
 obtain⟨i0,hi,hz0,hz1,hz2⟩:=bO nU;obtain⟨i1,aA,aB,aD,aF⟩:=bO CH;unfold maxLen at hcm;have m1:=yV nx;have m2:=yU nx;have ax:g<w.1.size:=by by_cases hb:g<w.1.size;exact hb;rw[cT (by omega)]at hg;cases hg
 have O:=I h;have HF:=I ai;have HG:=I hg;have HC:=I hcs;clear h ai hg hcs;go_enter func95,ntmps95;go_wp2_with fail;refine aH (nX O.o h0 h1) λw1 ae=>?_;have g1:w1.1[g]?=E (ah cur 5 (0,0)):=by rw[ae,fI _ _ _ _ (by simp;omega)];exact HG.o
 have W1:=I ae;have G1:=I g1;clear ae g1;generalize hm:ek nx=m at*;have HM:=I hm;clear hm;go_wp2;go_loopw [6] (λi wr=>∃k:Nat,k<=cap/\i=Z J k/\oG w1 g 5 cap (Z .u8 m) k wr) (λi _=>cap-(intOf i).toNat);case atStart=>exact⟨0,by omega,rfl,Ck G1.o HC.o⟩
 obtain⟨k,hk,rfl,Y⟩:=hrel;have FI:=I Y;by_cases hlt:k<cap
 ·obtain⟨⟨v,c1⟩,c2⟩:=Ci Y k hlt;clear Y;go_wp2;go_roundw;case rel=>exact⟨k+1,by omega,by go_num,Cj FI.o hlt⟩
  simp[intOf];omega
 have aw:k=cap:=by omega
 subst aw;clear Y;have k2:=FI.o.1.mono (S':=λb=>((E g,k,m):Ow).1=E b) (λb e _=>by rw[e]);have K2:=I k2;obtain⟨a1,a2,a3,a4,a5⟩:=nh O.o 1 (by omega) W1.o k2 (λx e=>by cases e;exact⟨HF.o,am⟩);obtain⟨c3,aq⟩:=dg a1 4 (by omega);rw[dM (by omega)]at c3;have A1:=I a1;have A2:=I a2;have A3:=I a3;clear a1 a2 a3 a5 k2;go_wp2_with(at_builtin;refine dQ rfl 83 rfl (pw+1) 47 i1 (U V 0 0) 24 underlying83 aA aB aD aF rfl (F 4) (ls 1).length ((ls 1).map iQ) rfl (A2.o.alloc _) ⟨wr.1.size,0,V⟩ 1 (U (E ⟨g,0,V⟩) k k) rfl (by simp[go_sem]) rfl (by unfold maxLen;omega) hlen (by simp;omega) ?_);intro g3 aa w3 aj hg3 hv3;obtain⟨p1,p2,p3,p4⟩:=ni O.o 1 (by omega) A1.o A3.o A2.o hg3;obtain⟨c9,ar⟩:=dg p1 10 (by omega);rw[dM (by omega)]at c9;obtain⟨d3,au⟩:=dg p1 4 (by omega);rw[dM (by omega)]at d3;have O3:=I aj;have K3:=I hg3;have V3:=I (iR (n:=(ls 1).length+1) (c:=aa) hv3);have P1:=I p1;have P2:=I p2;clear aj hg3 hv3 p1 p2 p4 c3 aq;go_wp2_with(at_builtin;(refine dQ rfl 33 rfl (pw+1) 3 i0 (Z J 0) 8 gW hi hz0 hz1 hz2 rfl (F 10) (ls 1).length ((ls 1).map λo=>Value.int J o.2.2) rfl ((pQ P2.o (by simp) _).alloc _) ⟨w3.1.size,0,V⟩ 1 (Z J m) rfl (by simp[go_sem]) rfl (by unfold maxLen;omega) (by omega) (by simp[World.setCell];omega) ?_));intro g5 af w5 ak ac ap;obtain⟨q1,q2,q3⟩:=nj O.o 1 P1.o P2.o (U (E ⟨g3,0,V⟩) ((ls 1).length+1) aa) ac;obtain⟨f9,aG⟩:=dg q1 10 (by omega);have O5:=I ak;have K5:=I ac;have V5:=I (iR (n:=(ls 1).length+1) (c:=af) ap);clear ak ac ap q1 q3 d3 au c9 ar;go_wp2;go_end0;have R:=oc O.o 1 (by omega) (o:=(E g,k,m)) (U (E ⟨g3,0,V⟩) ((ls 1).length+1) aa) (U (E ⟨g5,0,V⟩) ((ls 1).length+1) af) W1.o K2.o K3.o O3.o (λb hb=>by simpa[cat]using V3.o b hb) K5.o O5.o (λb hb=>by simpa[World.setCell,cat]using V5.o b hb) (λx e=>by cases e;exact⟨HF.o,am,ax,JJ FI.o⟩) (λe=>by cases e) (by first|exact bi _|(show k<=maxLen;unfold maxLen;omega));rw[HM.o];exact⟨rfl,_,R.1,λb hb hne hf=>R.2.1 b hb (by simpa using hne) hf,R.2.2.1,R.2.2.2.mono (λb e _=>by simpa using e)⟩
theorem OL (h:bH w pw F nx ls)(h0:0<=nx)(h1:nx<=1000000000000000000)
  (hlen:((ls 1).length+1)*24<=140737488355328):
  ay prog 95 #[aC (E ⟨pw,0,V⟩),U V 0 0] w λe w'=>e=az (br #[])/\∃F',bH w' pw F' (nx+1) (bn ls 1 (ls 1++[(V,0,ek nx)]))/\
   (∀b,b<w.1.size->¬aU F ls b->¬aU F' (bn ls 1 (ls 1++[(V,0,ek nx)])) b)/\(∀j,j<3->F' j=F j)/\
   av (λb=>b=pw\/aU F ls b) w w':=by
 obtain⟨i0,hi,hz0,hz1,hz2⟩:=bO nU;obtain⟨i1,am,ap,aq,ar⟩:=bO CH;have hpl:=h.fe;have O:=I h;clear h;go_enter func95,ntmps95;go_wp2_with fail;refine aH (nX O.o h0 h1) λwr ah=>?_;have W1:=I ah;clear ah;generalize hm:ek nx=m at*;have HM:=I hm;clear hm;have k2:av (λb=>((V,0,m):Ow).1=E b) wr wr:=av.refl _ _;have K2:=I k2;obtain⟨a1,a2,a3,a4,a5⟩:=nh O.o 1 (by omega) W1.o k2 (λx e=>by cases e);obtain⟨c3,ai⟩:=dg a1 4 (by omega);rw[dM (by omega)]at c3;have A1:=I a1;have A2:=I a2;have A3:=I a3;clear a1 a2 a3 a5 k2;go_wp2;go_loop [6] (λi=>i=Z J 0) (λ_=>0);case atStart=>rfl
 subst hrel;go_wp2_with(at_builtin;refine dQ rfl 83 rfl (pw+1) 47 i1 (U V 0 0) 24 underlying83 am ap aq ar rfl (F 4) (ls 1).length ((ls 1).map iQ) rfl (A2.o.alloc _) ⟨wr.1.size,0,V⟩ 1 (U V 0 0) rfl (by simp[go_sem]) rfl (by unfold maxLen;omega) hlen (by simp;omega) ?_);intro g3 Y w3 ae hg3 hv3;obtain⟨p1,p2,p3,p4⟩:=ni O.o 1 (by omega) A1.o A3.o A2.o hg3;obtain⟨c9,aj⟩:=dg p1 10 (by omega);rw[dM (by omega)]at c9;obtain⟨d3,ak⟩:=dg p1 4 (by omega);rw[dM (by omega)]at d3;have O3:=I ae;have K3:=I hg3;have V3:=I (iR (n:=(ls 1).length+1) (c:=Y) hv3);have P1:=I p1;have P2:=I p2;clear ae hg3 hv3 p1 p2 p4 c3 ai;go_wp2_with(at_builtin;(refine dQ rfl 33 rfl (pw+1) 3 i0 (Z J 0) 8 gW hi hz0 hz1 hz2 rfl (F 10) (ls 1).length ((ls 1).map λo=>Value.int J o.2.2) rfl ((pQ P2.o (by simp) _).alloc _) ⟨w3.1.size,0,V⟩ 1 (Z J m) rfl (by simp[go_sem]) rfl (by unfold maxLen;omega) (by omega) (by simp[World.setCell];omega) ?_));intro g5 ac w5 af aa ag;obtain⟨q1,q2,q3⟩:=nj O.o 1 P1.o P2.o (U (E ⟨g3,0,V⟩) ((ls 1).length+1) Y) aa;obtain⟨f9,au⟩:=dg q1 10 (by omega);have O5:=I af;have K5:=I aa;have V5:=I (iR (n:=(ls 1).length+1) (c:=ac) ag);clear af aa ag q1 q3 d3 ak c9 aj;go_wp2;go_end0;have R:=oc O.o 1 (by omega) (o:=(V,0,m)) (U (E ⟨g3,0,V⟩) ((ls 1).length+1) Y) (U (E ⟨g5,0,V⟩) ((ls 1).length+1) ac) W1.o K2.o K3.o O3.o (λb hb=>by simpa[cat]using V3.o b hb) K5.o O5.o (λb hb=>by simpa[World.setCell,cat]using V5.o b hb) (λx e=>by cases e) (λ_=>rfl) (bi _);rw[HM.o];exact⟨rfl,_,R.1,λb hb hf=>R.2.1 b hb (by simp) hf,R.2.2.1,R.2.2.2.mono (λb e _=>by simpa using e)⟩
theorem OO (g n cap cur)(h:bH w pw F nx ls)(h0:0<=nx)(h1:nx<=1000000000000000000)(hlen:((ls 2).length+1)*24<=140737488355328)(hg:w.1[g]?=E (ah cur 147 (0,0)))(hcs:cur.size=cap*4)(aI:n<=cap)(hcm:cap<=maxLen)(am:pw<g)(ai:¬aU F ls g):
  ay prog 94 #[aC (E ⟨pw,0,V⟩),U (E ⟨g,0,V⟩) n cap] w λe w'=>e=az (br #[])/\∃F',bH w' pw F' (nx+1) (bn ls 2 (ls 2++[(E g,cap,ek nx)]))/\
   (∀b,b<w.1.size->g≠b->¬aU F ls b->¬aU F' (bn ls 2 (ls 2++[(E g,cap,ek nx)])) b)/\(∀j,j<3->F' j=F j)/\
   av (λb=>b=pw\/g=b\/aU F ls b) w w':=by
 obtain⟨i0,hi,hz0,hz1,hz2⟩:=bO nU;obtain⟨i1,aA,aB,aD,aF⟩:=bO CI;unfold maxLen at hcm;have ax:g<w.1.size:=by by_cases hb:g<w.1.size;exact hb;rw[cT (by omega)]at hg;cases hg
 have O:=I h;have HF:=I ai;have HG:=I hg;have HC:=I hcs;clear h ai hg hcs;go_enter func94,ntmps94;go_wp2_with fail;refine aH (nX O.o h0 h1) λw1 ae=>?_;have g1:w1.1[g]?=E (ah cur 147 (0,0)):=by rw[ae,fI _ _ _ _ (by simp;omega)];exact HG.o
 have W1:=I ae;have G1:=I g1;clear ae g1;generalize hm:ek nx=m at*;have HM:=I hm;clear hm;go_wp2;go_loopw [6] (λi wr=>∃k:Nat,k<=cap/\i=Z J k/\rA w1 g cap m k wr) (λi _=>cap-(intOf i).toNat);case atStart=>exact⟨0,by omega,rfl,JB G1.o HC.o⟩
 obtain⟨k,hk,rfl,Y⟩:=hrel;have FI:=I Y;by_cases hlt:k<cap
 ·obtain⟨⟨v,c1⟩,c2,⟨v',c3⟩,c4,⟨v2,c5⟩,c6,⟨v3,c7⟩,c8⟩:=Jy Y k hlt;clear Y;go_wp2;go_roundw;case rel=>exact⟨k+1,by omega,by go_num,JA FI.o hlt⟩
  simp[intOf];omega
 have aw:k=cap:=by omega
 subst aw;clear Y;have k2:=FI.o.1.mono (S':=λb=>((E g,k,m):Ow).1=E b) (λb e _=>by rw[e]);have K2:=I k2;obtain⟨a1,a2,a3,a4,a5⟩:=nh O.o 2 (by omega) W1.o k2 (λx e=>by cases e;exact⟨HF.o,am⟩);obtain⟨c3,aq⟩:=dg a1 5 (by omega);rw[dM (by omega)]at c3;have A1:=I a1;have A2:=I a2;have A3:=I a3;clear a1 a2 a3 a5 k2;go_wp2_with(at_builtin;refine dQ rfl 84 rfl (pw+1) 63 i1 (U V 0 0) 24 underlying84 aA aB aD aF rfl (F 5) (ls 2).length ((ls 2).map iQ) rfl (A2.o.alloc _) ⟨wr.1.size,0,V⟩ 1 (U (E ⟨g,0,V⟩) k k) rfl (by simp[go_sem]) rfl (by unfold maxLen;omega) hlen (by simp;omega) ?_);intro g3 aa w3 aj hg3 hv3;obtain⟨p1,p2,p3,p4⟩:=ni O.o 2 (by omega) A1.o A3.o A2.o hg3;obtain⟨c9,ar⟩:=dg p1 11 (by omega);rw[dM (by omega)]at c9;obtain⟨d3,au⟩:=dg p1 5 (by omega);rw[dM (by omega)]at d3;have O3:=I aj;have K3:=I hg3;have V3:=I (iR (n:=(ls 2).length+1) (c:=aa) hv3);have P1:=I p1;have P2:=I p2;clear aj hg3 hv3 p1 p2 p4 c3 aq;go_wp2_with(at_builtin;(refine dQ rfl 33 rfl (pw+1) 3 i0 (Z J 0) 8 gW hi hz0 hz1 hz2 rfl (F 11) (ls 2).length ((ls 2).map λo=>Value.int J o.2.2) rfl ((pQ P2.o (by simp) _).alloc _) ⟨w3.1.size,0,V⟩ 1 (Z J m) rfl (by simp[go_sem]) rfl (by unfold maxLen;omega) (by omega) (by simp[World.setCell];omega) ?_));intro g5 af w5 ak ac ap;obtain⟨q1,q2,q3⟩:=nj O.o 2 P1.o P2.o (U (E ⟨g3,0,V⟩) ((ls 2).length+1) aa) ac;obtain⟨f9,aG⟩:=dg q1 11 (by omega);have O5:=I ak;have K5:=I ac;have V5:=I (iR (n:=(ls 2).length+1) (c:=af) ap);clear ak ac ap q1 q3 d3 au c9 ar;go_wp2;go_end0;have R:=oc O.o 2 (by omega) (o:=(E g,k,m)) (U (E ⟨g3,0,V⟩) ((ls 2).length+1) aa) (U (E ⟨g5,0,V⟩) ((ls 2).length+1) af) W1.o K2.o K3.o O3.o (λb hb=>by simpa[cat]using V3.o b hb) K5.o O5.o (λb hb=>by simpa[World.setCell,cat]using V5.o b hb) (λx e=>by cases e;exact⟨HF.o,am,ax,Jz FI.o⟩) (λe=>by cases e) (by first|exact bi _|(show k<=maxLen;unfold maxLen;omega));rw[HM.o];exact⟨rfl,_,R.1,λb hb hne hf=>R.2.1 b hb (by simpa using hne) hf,R.2.2.1,R.2.2.2.mono (λb e _=>by simpa using e)⟩
theorem OP (h:bH w pw F nx ls)(h0:0<=nx)(h1:nx<=1000000000000000000)
  (hlen:((ls 2).length+1)*24<=140737488355328):
  ay prog 94 #[aC (E ⟨pw,0,V⟩),U V 0 0] w λe w'=>e=az (br #[])/\∃F',bH w' pw F' (nx+1) (bn ls 2 (ls 2++[(V,0,ek nx)]))/\
   (∀b,b<w.1.size->¬aU F ls b->¬aU F' (bn ls 2 (ls 2++[(V,0,ek nx)])) b)/\(∀j,j<3->F' j=F j)/\
   av (λb=>b=pw\/aU F ls b) w w':=by
 obtain⟨i0,hi,hz0,hz1,hz2⟩:=bO nU;obtain⟨i1,am,ap,aq,ar⟩:=bO CI;have hpl:=h.fe;have O:=I h;clear h;go_enter func94,ntmps94;go_wp2_with fail;refine aH (nX O.o h0 h1) λwr ah=>?_;have W1:=I ah;clear ah;generalize hm:ek nx=m at*;have HM:=I hm;clear hm;have k2:av (λb=>((V,0,m):Ow).1=E b) wr wr:=av.refl _ _;have K2:=I k2;obtain⟨a1,a2,a3,a4,a5⟩:=nh O.o 2 (by omega) W1.o k2 (λx e=>by cases e);obtain⟨c3,ai⟩:=dg a1 5 (by omega);rw[dM (by omega)]at c3;have A1:=I a1;have A2:=I a2;have A3:=I a3;clear a1 a2 a3 a5 k2;go_wp2;go_loop [6] (λi=>i=Z J 0) (λ_=>0);case atStart=>rfl
 subst hrel;go_wp2_with(at_builtin;refine dQ rfl 84 rfl (pw+1) 63 i1 (U V 0 0) 24 underlying84 am ap aq ar rfl (F 5) (ls 2).length ((ls 2).map iQ) rfl (A2.o.alloc _) ⟨wr.1.size,0,V⟩ 1 (U V 0 0) rfl (by simp[go_sem]) rfl (by unfold maxLen;omega) hlen (by simp;omega) ?_);intro g3 Y w3 ae hg3 hv3;obtain⟨p1,p2,p3,p4⟩:=ni O.o 2 (by omega) A1.o A3.o A2.o hg3;obtain⟨c9,aj⟩:=dg p1 11 (by omega);rw[dM (by omega)]at c9;obtain⟨d3,ak⟩:=dg p1 5 (by omega);rw[dM (by omega)]at d3;have O3:=I ae;have K3:=I hg3;have V3:=I (iR (n:=(ls 2).length+1) (c:=Y) hv3);have P1:=I p1;have P2:=I p2;clear ae hg3 hv3 p1 p2 p4 c3 ai;go_wp2_with(at_builtin;(refine dQ rfl 33 rfl (pw+1) 3 i0 (Z J 0) 8 gW hi hz0 hz1 hz2 rfl (F 11) (ls 2).length ((ls 2).map λo=>Value.int J o.2.2) rfl ((pQ P2.o (by simp) _).alloc _) ⟨w3.1.size,0,V⟩ 1 (Z J m) rfl (by simp[go_sem]) rfl (by unfold maxLen;omega) (by omega) (by simp[World.setCell];omega) ?_));intro g5 ac w5 af aa ag;obtain⟨q1,q2,q3⟩:=nj O.o 2 P1.o P2.o (U (E ⟨g3,0,V⟩) ((ls 2).length+1) Y) aa;obtain⟨f9,au⟩:=dg q1 11 (by omega);have O5:=I af;have K5:=I aa;have V5:=I (iR (n:=(ls 2).length+1) (c:=ac) ag);clear af aa ag q1 q3 d3 ak c9 aj;go_wp2;go_end0;have R:=oc O.o 2 (by omega) (o:=(V,0,m)) (U (E ⟨g3,0,V⟩) ((ls 2).length+1) Y) (U (E ⟨g5,0,V⟩) ((ls 2).length+1) ac) W1.o K2.o K3.o O3.o (λb hb=>by simpa[cat]using V3.o b hb) K5.o O5.o (λb hb=>by simpa[World.setCell,cat]using V5.o b hb) (λx e=>by cases e) (λ_=>rfl) (bi _);rw[HM.o];exact⟨rfl,_,R.1,λb hb hf=>R.2.1 b hb (by simp) hf,R.2.2.1,R.2.2.2.mono (λb e _=>by simpa using e)⟩
theorem OV (v){xs}(B)(h:bH w pw F nx ls)(h0:0<=nx)(h1:nx<=1000000000000000000)(hlen:((ls 1).length+1)*24<=140737488355328)(hown:w.ownsRow B 5 1 v n xs)(hB:pw<B)(O:∀b,v.ownBlock=E b->¬aU F ls b):
  ay prog 95 #[aC (E ⟨pw,0,V⟩),v] w λe w'=>e=az (br #[])/\∃F' o,bH w' pw F' (nx+1) (bn ls 1 (ls 1++[o]))/\
   (∀b,b<w.1.size->v.ownBlock≠E b->¬aU F ls b->¬aU F' (bn ls 1 (ls 1++[o])) b)/\(∀j,j<3->F' j=F j)/\
   av (λb=>b=pw\/v.ownBlock=E b\/aU F ls b) w w'/\0<=o.2.2/\o.2.2<=255:=by
 have m1:=yV nx;have m2:=yU nx;rcases hown.2 with⟨rfl,rfl⟩|⟨g,cap,cur,rfl,hg,hblk,Y,hcm,hcs,_⟩;·refine(OL h h0 h1 hlen).mono ?_;rintro e w' ⟨rfl,F',i1,i2,i3,i4⟩;exact⟨rfl,F',_,i1,λb hb _ hf=>i2 b hb hf,i3,i4.mono (λb e _=>by rcases e with e|e;exact .inl e;exact .inr (.inr e)),by show 0<=ek nx;omega,by show ek nx<=255;omega⟩
 refine(Dy g n cap cur h h0 h1 hlen hblk (by omega) Y hcm (by omega) (O g rfl)).mono ?_;rintro e w' ⟨rfl,F',i1,i2,i3,i4⟩;refine⟨rfl,F',_,i1,λb hb hne hf=>i2 b hb (λe=>hne (by rw[e];rfl)) hf,i3,i4.mono (λb e _=>?_),by show 0<=ek nx;omega,by show ek nx<=255;omega⟩;rcases e with e|e|e;exact .inl e;exact .inr (.inl (by rw[e];rfl));exact .inr (.inr e)
theorem OW{xs B}(h:bH w pw F nx ls)(h0:0<=nx)(h1:nx<=1000000000000000000)(hlen:((ls 2).length+1)*24<=140737488355328)(hown:w.ownsRow B 147 4 v n xs)(hB:pw<B)(O:∀b,v.ownBlock=E b->¬aU F ls b):
  ay prog 94 #[aC (E ⟨pw,0,V⟩),v] w λe w'=>e=az (br #[])/\∃F' o,bH w' pw F' (nx+1) (bn ls 2 (ls 2++[o]))/\
   (∀b,b<w.1.size->v.ownBlock≠E b->¬aU F ls b->¬aU F' (bn ls 2 (ls 2++[o])) b)/\(∀j,j<3->F' j=F j)/\
   av (λb=>b=pw\/v.ownBlock=E b\/aU F ls b) w w':=by
 rcases hown.2 with⟨rfl,rfl⟩|⟨g,cap,cur,rfl,hg,hblk,Y,hcm,hcs,_⟩;·refine(OP h h0 h1 hlen).mono ?_;rintro e w' ⟨rfl,F',i1,i2,i3,i4⟩;exact⟨rfl,F',_,i1,λb hb _ hf=>i2 b hb hf,i3,i4.mono (λb e _=>by rcases e with e|e;exact .inl e;exact .inr (.inr e))⟩
 refine(OO g n cap cur h h0 h1 hlen hblk (by omega) Y hcm (by omega) (O g rfl)).mono ?_;rintro e w' ⟨rfl,F',i1,i2,i3,i4⟩;refine⟨rfl,F',_,i1,λb hb hne hf=>i2 b hb (λe=>hne (by rw[e];rfl)) hf,i3,i4.mono (λb e _=>?_)⟩;rcases e with e|e|e;exact .inl e;exact .inr (.inl (by rw[e];rfl));exact .inr (.inr e)
end
section
open Go.RowKit
theorem vA{zs}(h:bX w v zs):(convert 47 9 v).run prog w=.ok (.string (strOfNums zs)) w:=by
 obtain⟨a,cap,rfl,h2,h3,h4,h5⟩:=h;rcases h5 with rfl|⟨b,off,rfl,_,hc⟩
 ·cases a with
  |none=>exact run_convert_bytes_nil w 47 5 fD Ax 0 cap 9 uK
  |some x=>
   rw[List.length_nil,run_convert_bytes_string w 47 9 5 (E x) 0 cap fD Ax uK,
    run_bytesToString w x 0 cap [] (by simpa using run_loadCells_list (P:=prog) w x [] (by simp))];rfl
 exact run_convert_bytes_arg w 47 5 fD Ax b off zs.length cap zs rfl (λi hi=>hc i hi) 9 uK
def zW (w:ac)(s:ByteArray):Obj:=ah (bytesRow s (grownCap w s.size 0 5)) 5 ((bytesRow s (grownCap w s.size 0 5)).size,(bytesRow s (grownCap w s.size 0 5)).size+1)
theorem IC (w s):(convert 9 47 (.string s)).run prog w=.ok (U (E ⟨w.1.size,0,V⟩) s.size (grownCap w s.size 0 5)) (w.drew.alloc (zW w s)):=
 run_bytes_of_string w 9 47 5 s uK fD Ax
theorem HR (w s)(hs:s.size<=maxLen):bX (w.drew.alloc (zW w s)) (U (E ⟨w.1.size,0,V⟩) s.size (grownCap w s.size 0 5)) (bl s):=by refine⟨_,_,by rw[oQ],by rw[oQ];exact grownCap_ge _ _ _ _,grownCap_le_maxLen _ _ _ _ hs,x_ s,.inr ⟨w.1.size,0,rfl,(by show w.1.size<(w.drew.heap.push _).size;rw[Array.size_push];exact pR _),λi hi=>?_⟩⟩;rw[oQ]at hi;have O:i<s.data.size:=hi;have:=World.cell?_alloc_mark w.drew (bytesRow s (grownCap w s.size 0 5)) 5 ((bytesRow s (grownCap w s.size 0 5)).size,(bytesRow s (grownCap w s.size 0 5)).size+1) i;rw[cz];refine this.trans ?_;rw[bytesRow_at s _ i O];unfold aW bl;rw[bG,dC,FN,UY O];rfl
theorem Hm (w s):Below w.1.size w (w.drew.alloc (zW w s)):=((ax _ _).drew).alloc (aw _) _
theorem ID (w s)(hs:s.size<=maxLen):∃v w',(convert 9 47 (.string s)).run prog w=.ok v w'/\bX w' v (bl s)/\Below w.1.size w w':=
 ⟨_,_,IC w s,HR w s hs,Hm w s⟩
theorem HY (v):cY (eO v):=by intro x hx;unfold eO at hx;simp only[List.mem_cons,List.not_mem_nil,or_false]at hx;omega
theorem qq{k fr l}(h:aq.okF k fr l=true):cY (bm k fr l):=by
 obtain⟨o1,o2,o3,o4,o5,Y⟩:=mK h;intro x hx;unfold bm at hx;simp only[List.mem_cons]at hx;rcases hx with rfl|rfl|rfl|hx;omega;omega;omega;obtain⟨y,hy,hx⟩:=Ay.1 hx;obtain⟨t,ht,rfl⟩:=cq.1 hy;obtain⟨i,hi,rfl⟩:=fT ht;have O:=Y i hi;have e:aq.it l i=l[i]:=by unfold aq.it;rw[bG,aQ hi];rfl
 rw[e]at O;unfold gA at hx;rcases rk.1 hx with rfl|hx;omega;obtain⟨z,hz,hx⟩:=Ay.1 hx;obtain⟨q,_,rfl⟩:=cq.1 hz;exact HY q x hx
theorem By{a}(h:w.cell? a=E v):a.block<w.1.size:=by have hs:=uL h;obtain⟨b,off,spot⟩:=a;refine World.cells?_block (w:=w) (base:=0) (a:=⟨b,off,spot⟩) (n:=1) (cs:=[v]) ?_ (by omega);simp[World.cells?,Addr.add,h]
end
end Go.Proofs.YtchideljndagjabGreat


