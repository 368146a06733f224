/- Joined -/
import Derived.Test.YtchideljndagjabGreatUBH
import Derived.JoinedOf
set_option linter.unusedVariables false
set_option maxHeartbeats 4000000
set_option maxRecDepth 100000
namespace Go.Proofs.YtchideljndagjabGreat
open Go.Value renaming int->Z,bool->ak,pointer->aC,agg->aD
open Go.IntKind renaming i64->J
open Go.Ending renaming returned->az
open Or renaming inl->ae,inr->Q
open Option renaming none->V,some->E
open Bool renaming false->Y,true->aa
open Go renaming World->ac,Value->ag,Calls->ay
open Go.RowKit renaming Below->af
open Go.Proofs.Tryz
variable {p:NP}{k m pw:Nat}{T:Nat->List Th}{len len':Nat->Nat}{w:ac}
section
open Go.ChangeShapes Go.WideShapes Go.ChangeAt Go.RowKit
theorem GA (i:Nat)(x y z:Int)(r:Nat->ag)(h:AI w pw m len T)(hp:(T 2)[i]?=E (eb pw p))(ai:gX k p):
  ay prog 121 #[aC (E ⟨pw,0,V⟩),aC (E ⟨p.pc,0,V⟩),aD #[Z J 24,Z J x,Z J y,Z J z,r 0,r 1,r 2,r 3,r 4,r 5,r 6,r 7,r 8,r 9]] w λe w'=>e=az (ak aa)/\iY pw m k i len T p w w':=by
 obtain⟨W0,hW0⟩:=aj (w.alloc (gb 24 x y z r));have hb0:af w.1.size w W0:=by rw[hW0];exact(ax _ _).alloc (aw _) _
 have z0:w.1.size<W0.1.size:=by rw[hW0];simp
 have q0:W0.cell? ⟨w.1.size,0,V⟩=E (Z J 24):=(wm (W:=W0) (by rw[<-hW0];exact ax _ _) z0).1;have O:dS w pw p:=h.ny (by decide) hp;have Y:=O.below hb0;have ar:=Y.lt (x:=p.pc) (ae rfl);obtain⟨x0,x1⟩:=Y.cells;have HV:=I (UF Y.bP O.ok);have HR:=I (λ(w3:ac)(M':SM)(t:cL W0 w3 p.bx p.n p.C p.cl (nz p.C p.s) p.M M')=>(show(w3.cell? ⟨p.pc,1,V⟩=E (aC (E ⟨p.yb,0,V⟩))/\p.pc<w3.1.size)/\ay prog 186 #[aC (E ⟨p.yb,0,V⟩)] w3 (λe w'=>e=az (.tuple #[])/\iY pw m k i len T p w w')from by have z3:=t.aV.size;refine⟨⟨(ez (w:=W0) (a:=⟨p.pc,1,V⟩) (t.aV.block p.pc ar (λe=>Y.qh.1 (ae e)))).trans x1,by omega⟩,?_⟩;have au:bT w3 pw p.yb p.n p.C p.cl p.s p.R:=Y.ref.keep z3 (λx hx=>t.aV.block x (Y.lt (Q (Q hx))) (λe=>Y.tE x (ae e) hx)) (λx hx=>t.aV.block x (by have:=Y.lo p.pc (ae rfl);omega) (λe=>by have:=Y.lo x (Q (ae (ae e)));omega));refine(Rg au O.ok).mono (λe w5 ⟨h1,R',t5⟩=>⟨h1,?_⟩);obtain⟨q1,q2,q3⟩:=za O hb0 t (ax _ _) t5 O.ok.tick (O.ft.tick O.cast O.ok) (gH.tick O.ok.gc O.ok.ia O.o);exact Ds (p':=⟨p.pc,p.bx,p.yb,p.n,p.C,p.cl,nz p.C p.s,M',R'⟩) h hp rfl q1 q2 (λx hx=>by rcases q3 x hx with q|q|q;exact ae q;exact Q (by omega);exact Q (by omega)) (ax _ _) (ai.more t5)));unfold gb at hW0;have aq:=I hW0;generalize p.pc=pc at*;clear h hp ai hb0 hW0 O Y;go_enter func121,ntmps121;go_upto_region 3 with fail;rw[<-aq.o];go_wp2_with fail;refine HV.o.mono ?_;rintro e w3 ⟨rfl,M',t⟩;obtain⟨⟨y1,hpl⟩,hr⟩:=HR.o w3 M' t;have ap:=I hr;clear t hr x0 x1 q0;go_wp2_with fail;refine aH ap.o λw5 ah=>?_;have am:=I ah;clear ah y1;go_wp2_with(go_at_call 80;refine(qF).mono ?_;rintro e w' ⟨rfl,rfl⟩);go_ret;exact⟨by simp,am.o⟩
theorem Lf {W1 w2 w3 w4 w5 O Y:ac}{i g:Nat}{F F1:Nat->ag}{nx:Int}{ls:Nat->List Ow}{s':Sn}{M':SM}{R':RM}{o1:Ow}
  (i1:bH W1 pw F nx ls)(i2:fU W1 pw F ls T)(i3:mA (ls 1))(i4:0<=nx)(i5:nx<=(m:Int))(i6:∀c,(ls c).length<=len c)(hp:(T 2)[i]?=E (eb pw p))
  (am:dS w5 pw ⟨p.pc,p.bx,p.yb,p.n,p.C,p.cl,s',M',R'⟩)(ai:av (λx=>iH p x) W1 w5)(aa:∀x,iH ⟨p.pc,p.bx,p.yb,p.n,p.C,p.cl,s',M',R'⟩ x->iH p x\/(dx p.bx p.n M' x/\w2.1.size<=x/\x<w3.1.size)\/(cC p.yb p.n R' x/\w4.1.size<=x))(aj:gX (k+1) ⟨p.pc,p.bx,p.yb,p.n,p.C,p.cl,s',M',R'⟩)
  (zz:W1.1.size<=w2.1.size/\w2.1.size<=w3.1.size/\w3.1.size<=w4.1.size)(hg:W1.1.size<=g/\g<w2.1.size)
  (ah:af w5.1.size w5 O)(j1:bH Y pw F1 (nx+1) (bn ls 1 (ls 1++[o1])))(j2:∀b,b<O.1.size->g≠b->¬aU F ls b->¬aU F1 (bn ls 1 (ls 1++[o1])) b)(j3:∀j,j<3->F1 j=F j)(j4:av (λb=>b=pw\/g=b\/aU F ls b) O Y)(jm:0<=o1.2.2/\o1.2.2<=255):
  iY pw (m+1) k i (kr len 1 1) T p W1 Y:=by
 obtain⟨ap,z23,aq⟩:=zz;have ak:dS W1 pw p:=(i2.ok 2 (by decide) _ (cU hp)).2;have R:=Fs (t':=eb pw ⟨p.pc,p.bx,p.yb,p.n,p.C,p.cl,s',M',R'⟩) (N:=λb=>g=b) i1 i2 (by decide) hp rfl (zb pw _) am ai (λx hx=>?_) (λb e=>?_) ah j3 j4 j2;refine⟨_,⟨F1,nx+1,_,j1,R.1,?_,by omega,by omega,C_ i6⟩,aj,R.2⟩;have e:(bn ls 1 (ls 1++[o1])) 1=ls 1++[o1]:=by simp[bn]
 rw[e];exact i3.snoc jm;·rcases aa x hx with h1|h1|h1;exact ae h1;exact Q (by omega);exact Q (by omega)
 have e':g=b:=e;subst e';refine⟨hg.1,λhx=>?_⟩;rcases aa g hx with h1|h1|h1;have:=ak.lt h1;omega;omega;omega
theorem Gz (i:Nat)(x y z:Int)(r:Nat->ag)(st:ByteArray)(h:AI w pw m len T)(hp:(T 2)[i]?=E (eb pw p))(aQ:gX k p)(hk:(k+1)*48<=140737488355328)(hr1:r 1=.string st)(hsz:st.size<=140737488351232)(hm:m+1<=1000000000000000000)(hl:(len 1+1)*24<=140737488355328):
  ay prog 121 #[aC (E ⟨pw,0,V⟩),aC (E ⟨p.pc,0,V⟩),aD #[Z J 23,Z J x,Z J y,Z J z,r 0,r 1,r 2,r 3,r 4,r 5,r 6,r 7,r 8,r 9]] w λe w'=>e=az (ak aa)/\iY pw (m+1) k i (kr len 1 1) T p w w':=by
 have au:=I aQ;obtain⟨W0,hW0⟩:=aj (w.alloc (gb 23 x y z r));have hb0:af w.1.size w W0:=by rw[hW0];exact(ax _ _).alloc (aw _) _
 have z0:w.1.size<W0.1.size:=by rw[hW0];simp
 have ah:=I (show∀W,af W0.1.size W0 W->W.cell? ⟨w.1.size,0,V⟩=E (Z J 23)/\W.cell? ⟨w.1.size,2,V⟩=E (Z J y)/\W.cell? ⟨w.1.size,5,V⟩=E (.string st)from λW hb=>by have h1:=wm (W:=W) (by rw[<-hW0];exact hb) z0;exact⟨h1.1,Dw (W:=W) (by rw[<-hW0];exact hb) z0,by rw[<-hr1];exact h1.2.2.1⟩);have aA:dS w pw p:=h.ny (by decide) hp;have aR:∀x,iH p x->x≠w.1.size:=λx hx e=>by have:=aA.lt hx;omega
 have bi:pw<w.1.size:=h.fe;have aM:=hb0.mono (nH bi);obtain⟨F,nx,ls,i1,i2,i3,i4,i5,i6⟩:=h.below hb0;have aS:dS W0 pw p:=aA.below hb0;have O:=I aS;have I1:=I i1;have II:=I (And.intro i2 (And.intro i3 (And.intro i4 (And.intro i5 i6))));have bm:=i4;have bq:nx<=(m:Int):=i5;have bg:=i6 1;have HP:=I hp;have aH:=I aR;have aY:=I aM;unfold gb at hW0;have a_:=I hW0;obtain⟨q0,q2,q5⟩:=ah.o W0 (ax _ _);obtain⟨pc,aB⟩:=aj p.pc;have aI:=I aB;rw[<-aB];clear h hp aQ hr1 hb0 hW0 aA aS aR i1 i2 i3 i4 i5 i6 aM aB;go_enter func121,ntmps121;go_upto_region 3 with fail;rw[<-a_.o];go_wp2_with fail;refine(Ko st W0 hsz).mono ?_;rintro e w2 ⟨g,hg0,rfl,am,hb2⟩;have z2:=hb2.size;have aL:g<w2.1.size:=by by_cases h:g<w2.1.size;exact h;rw[cT (by omega)]at am;cases am
 have B2:=I (hb2.drew);have Y:=I (O.o.below hb2.drew);obtain⟨x0,x1⟩:=(O.o.below hb2).cells;have aT:=(O.o.below hb2).lt (x:=p.pc) (ae rfl);obtain⟨k0,k2,k5⟩:=ah.o w2 hb2;have G2:=I am;have aK:=I (UA Y.o.bP O.o.ok y (zs:=bl st) (show bX w2.drew _ (bl st)from(Ho am hsz).below (ax w2.1.size w2).drew));rw[<-aI.o]at x0 x1 aT;have bk:w.1.size<w2.1.size:=by omega
 obtain⟨aG,hE⟩:=aj (qy p.n y);rw[<-hE]at aK;have HE:=I hE;clear am hb2 q0 q2 q5 hE;go_upto_region 15 with fail;go_cut [7]from 66 to 73 (λq wc=>q=Z J aG/\∃M',cL w2.drew wc p.bx p.n p.C p.cl (kJ p.C p.cl p.n p.s y (bl st)) p.M M');case first=> go_region_with (go_at_call 22;refine aK.o.mono ?_;rintro e w3 ⟨rfl,ai⟩;have ar:=I ai;clear ai);all_goals(go_wp2;go_meet;exact⟨rfl,ar.o⟩)
 obtain⟨hq,M',ht⟩:=hcut;subst hq;obtain⟨w3,hw3⟩:=aj wc;subst hw3;have TK:=I ht;have z3:w2.1.size<=w3.1.size:=ht.aV.size;have ne:∀x,ij p.bx p.M x->x≠p.pc/\x≠g/\x≠w.1.size:=λx hx=>⟨λe=>Y.o.qh.1 (ae (e▸hx)),λe=>by have:=O.o.lt (x:=x) (Q (ae (ae hx)));omega,aH.o x (Q (ae (ae hx)))⟩;have G3:=A (w3.1[g]?=E (.cells (jz (bl st) 3).toArray 5 (0,0))) (by rw[ht.aV.block g aL (λe=>(ne g e).2.1 rfl)];exact G2.o);have y1:w3.cell? ⟨pc,1,V⟩=E (aC (E ⟨p.yb,0,V⟩)):=by rw[aI.o];exact(ez (w:=w2.drew) (a:=⟨p.pc,1,V⟩) (ht.aV.block p.pc (Y.o.lt (ae rfl)) (λe=>(ne _ e).1 rfl))).trans Y.o.cells.2
 have av:=ht.aV.block w.1.size bk (λe=>(ne _ e).2.2 rfl);have y2:w3.cell? ⟨w.1.size,2,V⟩=E (Z J y):=(ez (w:=w2.drew) (a:=⟨w.1.size,2,V⟩) av).trans (ah.o _ B2.o).2.1;have y5:w3.cell? ⟨w.1.size,5,V⟩=E (.string st):=(ez (w:=w2.drew) (a:=⟨w.1.size,5,V⟩) av).trans (ah.o _ B2.o).2.2;have bc:=A (bT w3 pw p.yb p.n p.C p.cl p.s p.R) (Y.o.ref.keep ht.aV.size (λx hx=>ht.aV.block x (Y.o.lt (Q (Q hx))) (λe=>Y.o.tE x (ae e) hx)) (λx hx=>ht.aV.block x (by have h1:w2.drew.1.size=w2.1.size:=rfl;have:=Y.o.lo p.pc (ae rfl);omega) (λe=>by have:=Y.o.lo x (Q (ae (ae e)));omega)));obtain⟨v4,w4,hcv,aO,hb4⟩:=ID w3.drew st (by unfold maxLen;omega);have ac:af w3.1.size w3 w4:=(ax w3.1.size w3).drew.trans hb4;have z4:w3.1.size<=w4.1.size:=ac.size;have bo:w4.cell? ⟨pc,1,V⟩=E (aC (E ⟨p.yb,0,V⟩)):=(ac.cell (p:=⟨pc,1,V⟩) (by show pc<_;omega)).trans y1;have bp:w4.cell? ⟨w.1.size,2,V⟩=E (Z J y):=(ac.cell (p:=⟨w.1.size,2,V⟩) (by show w.1.size<_;omega)).trans y2;have aJ:=I (QC (bc.o.below ac) O.o.ok (by have h1:=au.o.1;omega) (λj hj=>by have h1:=au.o.2 j hj;omega) y aO);rw[<-HE.o]at aJ;have aF:=I ac;clear ht hb4 aO ac av ne x0 x1 k0 k2 k5 aT;go_upto_region 16 with fail;go_cut [8]from 74 to 83 (λq wd=>q=Z J aG/\∃R',df w4 wd pw p.yb p.n p.C p.cl (kJ p.C p.cl p.n p.s y (bl st)) p.R R');case first=> go_region_with (go_at_call 185;refine aJ.o.mono ?_;rintro e w5 ⟨rfl,ai⟩;have ar:=I ai;clear ai);all_goals(go_wp2;go_meet;exact⟨rfl,ar.o⟩)
 obtain⟨hq,R',rt⟩:=hcut;subst hq;have aN:=x_ st;obtain⟨aW,aq,aP⟩:=za O.o B2.o TK.o aF.o rt (O.o.ok.yG y aN) (O.o.ft.yG O.o.ok y aN) (OE O.o.o y (bl st));have zc:=rt.aV.size;have G5:=I (show wc.1[g]?=E (.cells (jz (bl st) 3).toArray 5 (0,0))by rw[rt.aV.block g (by omega) (λe=>by have:=O.o.lt (x:=g) (Q (Q (ae e)));omega),aF.o.block g (by omega)];exact G3.o);have bn:wc.cell? ⟨w.1.size,5,V⟩=E (.string st):=(ez (w:=W0) (a:=⟨w.1.size,5,V⟩) (aq.block w.1.size z0 (λe=>aH.o _ e rfl))).trans (ah.o W0 (ax _ _)).2.2;have ba:=I (show bH wc pw F nx ls from I1.o.aV aq (λb hb=>⟨by have:=O.o.lo b hb;omega,λhf'=>by obtain⟨tg,t1,t2,t3⟩:=II.o.1.tag;have a:=t1 2 i _ b (by decide) HP.o hb;have b':=t3 b hf';omega⟩));have PT:=I aW;have CH:=I aq;have FT:=I aP;have LG:=I (au.o.more (M':=M') rt);have aZ:=I (Tu st wc g hsz G5.o);clear rt aW aq aP y1 y2 y5 bo bp hcv;go_wp2_with fail;refine aZ.o.mono ?_;rintro e w7 ⟨rfl,br,aX⟩;have ap:af wc.1.size wc w7:=by rw[aX];exact below_drewN _ _
 have B7:=I ap;have G7:=I ((ap.block g (by omega)).trans G5.o);have bb:=I (ba.o.below ap);have bh:¬aU F ls g:=λhf=>by have:=I1.o.gO hf;omega
 have bj:(jz (bl st) 3).toArray.size=st.size+3:=by simp[tG (Nat.le_refl 3),oQ]
 have bf:((ls 1).length+1)*24<=140737488355328:=fJ (oB 24 (Nat.succ_le_succ bg)) hl;clear aX ap bn;go_wp2_with fail;refine(Dy g st.size (st.size+3) _ bb.o bm (by omega) bf G7.o bj (by omega) (by unfold maxLen;omega) (by omega) bh).mono ?_;rintro e w8 ⟨rfl,F1,j1,j2,j3,j4⟩;have FF:=I (show iY pw (m+1) k i (kr len 1 1) T p w w8 from by obtain⟨p',f1,f2,f3⟩:=Lf (k:=k) (m:=m) I1.o II.o.1 II.o.2.1 II.o.2.2.1 II.o.2.2.2.1 II.o.2.2.2.2 HP.o PT.o CH.o FT.o LG.o ⟨z2,z3,z4⟩ ⟨hg0,aL⟩ B7.o j1 j2 j3 j4 ⟨by have:=yV nx;show 0<=ek nx;omega,by have:=yU nx;show ek nx<=255;omega⟩;exact⟨p',f1,f2,aY.o.trans f3⟩);clear j1 j2 j3 j4;go_wp2_with(go_at_call 80;refine(qF).mono ?_;rintro e w' ⟨rfl,rfl⟩);go_ret;exact⟨by simp,FF.o⟩
theorem sg {W:ac}{kd x y z:Int}{r:Nat->ag}{B:Nat}(hb:af B (w.alloc (gb kd x y z r)) W)(hB:w.1.size<B):∀(i:Nat)(v:ag),#[Value.int J kd,Z J x,Z J y,Z J z,r 0,r 1,r 2,r 3,r 4,r 5,r 6,r 7,r 8,r 9][i]?=E v->W.cell? ⟨w.1.size,i,V⟩=E v:=λi v hv=>by have hr:W.1[w.1.size]?=E (gb kd x y z r):=(hb.block w.1.size hB).trans (bo w _);exact(bg W w.1.size i _ _ (0,0) hr).trans hv
structure Gr (pw k:Nat)(T T':Nat->List Th)(K K':List NP):Prop where
 two:T' 2=K'.map (eb pw)
 other:∀j,j≠2->T' j=T j
 len:K'.length=K.length
 MN:∀q∈K',gX (k+1) q
def oJ (pw m k:Nat)(len:Nat->Nat)(T:Nat->List Th)(K:List NP)(w w':ac):Prop:=∃T' K',AI w' pw m len T'/\Gr pw k T T' K K'/\af pw w w'
theorem iY.step {i:Nat}{K:List NP}{w':ac}(h:iY pw m k i len T p w w')(hK:T 2=K.map (eb pw))(hl:∀q∈K,gX k q):oJ pw m k len T K w w':=by
 obtain⟨p',a,b,c⟩:=h;refine⟨_,K.set i p',a,⟨by rw[SE,hK,List.map_set],λj hj=>SF hj,Gg,λq hq=>?_⟩,c⟩;obtain⟨j,hj⟩:=AQ.1 hq;rw[tq]at hj;by_cases e:i=j;·subst e;rw[au rfl]at hj;split at hj;cases hj;exact b;cases hj
 rw[ar e]at hj;have:=hl q (cU hj);exact⟨by have:=this.1;omega,λt ht=>by have:=this.2 t ht;omega⟩
theorem Sp (m' k:Nat)(len':Nat->Nat)(K:List NP)(kd x y z:Int)(r:Nat->ag)(h:AI w pw m len T)(hK:T 2=K.map (eb pw))(aI:∀q∈K,gX k q)(aR:20<=kd/\kd<=25)(hm:m<=m')(hl:∀c,len c<=len' c)
  (HA:∀(W:ac)(p:NP)(i:Nat),AI W pw m len T->(T 2)[i]?=E (eb pw p)->gX k p->ay prog 121 #[aC (E ⟨pw,0,V⟩),aC (E ⟨p.pc,0,V⟩),aD #[Z J kd,Z J x,Z J y,Z J z,r 0,r 1,r 2,r 3,r 4,r 5,r 6,r 7,r 8,r 9]] W λe w'=>e=az (ak aa)/\iY pw m' k i len' T p W w'):
  ay prog 55 #[aC (E ⟨pw,0,V⟩),aD #[Z J kd,Z J x,Z J y,Z J z,r 0,r 1,r 2,r 3,r 4,r 5,r 6,r 7,r 8,r 9]] w λe w'=>e=az (ak aa)/\oJ pw m' k len' T K w w':=by
 obtain⟨W0,hW0⟩:=aj (w.alloc (gb kd x y z r));have hb0:af w.1.size w W0:=by rw[hW0];exact(ax _ _).alloc (aw _) _
 have z0:w.1.size<W0.1.size:=by rw[hW0];simp
 have ae:=bj W0 λW hb=>sg (W:=W) (by rw[<-hW0];exact hb) z0;have K0:=I (h.below hb0);have aT:pw<w.1.size:=h.fe;have av:=I (hb0.mono (nH aT));unfold gb at hW0;have aB:=I hW0;have aJ:=I HA;have ai:=I aI;obtain⟨a,cap,c2,aO,aS,hcm,aG⟩:=K0.o.list (j:=2) (by decide);have HE:=I aG;have am:=I hK;obtain⟨n,hn⟩:=aj ((T 2).length);have HG:=I (λj (hj:j<n)=>(show∃p,K[j]?=E p from⟨_,aQ (by rw[hn,hK,dI]at hj;exact hj)⟩));have HN:=I hn;have yM:(kd==19)=Y:=by simp;omega
 have yN:decide (26<=kd)=Y:=aM (by omega);have bb:¬26<=kd:=by omega
 have q0:=ae.o W0 (ax _ _) 0 _ rfl;have q1:=ae.o W0 (ax _ _) 1 _ rfl;rw[<-hn]at c2 aS;clear h hb0 hW0 aG hn hK HA aI aR;by_cases ap:n=0;·subst ap;have ah:=A (oJ pw m' k len' T K w W0) ⟨T,K,K0.o.mono hm hl,⟨am.o,λ_ _=>rfl,rfl,λq hq=>by have:=ai.o q hq;exact⟨by have:=this.1;omega,λt ht=>by have:=this.2 t ht;omega⟩⟩,av.o⟩;go_enter func55,xI;go_upto_region 1 with fail;rw[<-aB.o];go_wp2;go_ret;exact⟨rfl,ah.o⟩
 have n1:1<=n:=by omega
 have ba:((n:Int)==0)=Y:=by simpa using ap
 obtain⟨i,hi⟩:=aj (mN x n);have aP:i<n:=by rw[hi];exact DC x n1
 have aA:=I (λ(W:ac)=>DF x n W);rw[<-hi]at aA;obtain⟨p,hp⟩:=HG.o i aP;have aq:(T 2)[i]?=E (eb pw p):=by rw[am.o];exact yQ hp
 obtain⟨g,rfl,aY,e0⟩:=HE.o i _ aq;have aN:=I aq;have aL:=I (ai.o p (cU hp));obtain⟨pc,ar⟩:=aj p.pc;change W0.cell? ⟨g,i,V⟩=E (aC (E ⟨p.pc,0,V⟩))at e0;rw[<-ar]at e0;have aK:=I ar;have a_:(i:Int)<(n:Int):=by omega
 have aZ:(0:Int)<=(i:Int):=by omega
 clear hp hi ar ap aq;go_enter func55,xI;go_upto_region 1 with fail;rw[<-aB.o];go_upto_region 15 with fail;go_quiet ((go_at_call 105;refine pU (aA.o _)));have O:=I (below_drewN W0 nq);obtain⟨W1,hW1⟩:=aj (W0.drewN nq);rw[<-hW1]at O ⊢;have K1:=I (K0.o.below O.o);have B1:=I (av.o.trans (O.o.mono (by omega)));clear hW1 q0 q1 c2 aO e0;have q0:=ae.o W1 O.o 0 _ rfl;have q1:=ae.o W1 O.o 1 _ rfl;have q2:=ae.o W1 O.o 2 _ rfl;have q3:=ae.o W1 O.o 3 _ rfl;have q4:=ae.o W1 O.o 4 _ rfl;have q5:=ae.o W1 O.o 5 _ rfl;have q6:=ae.o W1 O.o 6 _ rfl;have q7:=ae.o W1 O.o 7 _ rfl;have q8:=ae.o W1 O.o 8 _ rfl;have q9:=ae.o W1 O.o 9 _ rfl;have aU:=ae.o W1 O.o 10 _ rfl;have aV:=ae.o W1 O.o 11 _ rfl;have aW:=ae.o W1 O.o 12 _ rfl;have aX:=ae.o W1 O.o 13 _ rfl;have au:=I (aJ.o W1 p i K1.o aN.o aL.o);rw[<-aK.o]at au;go_wp2_with fail;refine aH au.o λw4 aF=>?_;have ah:=I (show oJ pw m' k len' T K w w4 from by obtain⟨T',K',a1,a2,a3⟩:=aF.step am.o ai.o;exact⟨T',K',a1,a2,B1.o.trans a3⟩);clear aF q0 q1 q2 q3 q4 q5 q6 q7 q8 q9 aU aV aW aX;go_wp2;go_ret;exact⟨rfl,ah.o⟩
theorem Sq (m' k:Nat)(len':Nat->Nat)(K:List NP)(kd x y z:Int)(r:Nat->ag)(h:AI w pw m len T)(hK:T 2=K.map (eb pw))(aG:∀q∈K,gX k q)(aN:26<=kd/\kd<=28)(hm:m<=m')(hl:∀c,len c<=len' c)
  (HA:∀(W:ac)(p:NP)(i:Nat),AI W pw m len T->(T 2)[i]?=E (eb pw p)->ay prog 120 #[aC (E ⟨pw,0,V⟩),aC (E ⟨p.pc,0,V⟩),aD #[Z J kd,Z J x,Z J y,Z J z,r 0,r 1,r 2,r 3,r 4,r 5,r 6,r 7,r 8,r 9]] W λe w'=>e=az (ak aa)/\AI w' pw m' len' T/\af pw W w'):
  ay prog 55 #[aC (E ⟨pw,0,V⟩),aD #[Z J kd,Z J x,Z J y,Z J z,r 0,r 1,r 2,r 3,r 4,r 5,r 6,r 7,r 8,r 9]] w λe w'=>e=az (ak aa)/\oJ pw m' k len' T K w w':=by
 obtain⟨W0,hW0⟩:=aj (w.alloc (gb kd x y z r));have hb0:af w.1.size w W0:=by rw[hW0];exact(ax _ _).alloc (aw _) _
 have z0:w.1.size<W0.1.size:=by rw[hW0];simp
 have ae:=bj W0 λW hb=>sg (W:=W) (by rw[<-hW0];exact hb) z0;have K0:=I (h.below hb0);have aP:pw<w.1.size:=h.fe;have au:=I (hb0.mono (nH aP));unfold gb at hW0;have aB:=I hW0;have aH:=I HA;have av:=I aG;obtain⟨a,cap,c2,aL,aO,hcm,aF⟩:=K0.o.list (j:=2) (by decide);have HE:=I aF;have ai:=I hK;obtain⟨n,hn⟩:=aj ((T 2).length);have HG:=I (λj (hj:j<n)=>(show∃p,K[j]?=E p from⟨_,aQ (by rw[hn,hK,dI]at hj;exact hj)⟩));have HN:=I hn;have yM:(kd==19)=Y:=by simp;omega
 have yN:decide (26<=kd)=aa:=aK (by omega);have aZ:26<=kd:=by omega
 have q0:=ae.o W0 (ax _ _) 0 _ rfl;have q1:=ae.o W0 (ax _ _) 1 _ rfl;rw[<-hn]at c2 aO;clear h hb0 hW0 aF hn hK HA aG aN;by_cases am:n=0;·subst am;have ah:=A (oJ pw m' k len' T K w W0) ⟨T,K,K0.o.mono hm hl,⟨ai.o,λ_ _=>rfl,rfl,λq hq=>by have:=av.o q hq;exact⟨by have:=this.1;omega,λt ht=>by have:=this.2 t ht;omega⟩⟩,au.o⟩;go_enter func55,xI;go_upto_region 1 with fail;rw[<-aB.o];go_wp2;go_ret;exact⟨rfl,ah.o⟩
 have n1:1<=n:=by omega
 have aY:((n:Int)==0)=Y:=by simpa using am
 obtain⟨i,hi⟩:=aj (mN x n);have aM:i<n:=by rw[hi];exact DC x n1
 have aA:=I (λ(W:ac)=>DF x n W);rw[<-hi]at aA;obtain⟨p,hp⟩:=HG.o i aM;have ap:(T 2)[i]?=E (eb pw p):=by rw[ai.o];exact yQ hp
 obtain⟨g,rfl,aV,e0⟩:=HE.o i _ ap;have aJ:=I ap;obtain⟨pc,aq⟩:=aj p.pc;change W0.cell? ⟨g,i,V⟩=E (aC (E ⟨p.pc,0,V⟩))at e0;rw[<-aq]at e0;have aI:=I aq;have aX:(i:Int)<(n:Int):=by omega
 have aW:(0:Int)<=(i:Int):=by omega
 clear hp hi aq am ap;go_enter func55,xI;go_upto_region 1 with fail;rw[<-aB.o];go_upto_region 15 with fail;go_quiet ((go_at_call 105;refine pU (aA.o _)));have O:=I (below_drewN W0 nq);obtain⟨W1,hW1⟩:=aj (W0.drewN nq);rw[<-hW1]at O ⊢;have K1:=I (K0.o.below O.o);have B1:=I (au.o.trans (O.o.mono (by omega)));clear hW1 q0 q1 c2 aL e0;have q0:=ae.o W1 O.o 0 _ rfl;have q1:=ae.o W1 O.o 1 _ rfl;have q2:=ae.o W1 O.o 2 _ rfl;have q3:=ae.o W1 O.o 3 _ rfl;have q4:=ae.o W1 O.o 4 _ rfl;have q5:=ae.o W1 O.o 5 _ rfl;have q6:=ae.o W1 O.o 6 _ rfl;have q7:=ae.o W1 O.o 7 _ rfl;have q8:=ae.o W1 O.o 8 _ rfl;have q9:=ae.o W1 O.o 9 _ rfl;have aR:=ae.o W1 O.o 10 _ rfl;have aS:=ae.o W1 O.o 11 _ rfl;have aT:=ae.o W1 O.o 12 _ rfl;have aU:=ae.o W1 O.o 13 _ rfl;have ar:=I (aH.o W1 p i K1.o aJ.o);rw[<-aI.o]at ar;go_wp2_with fail;refine ar.o.mono ?_;rintro e w4 ⟨rfl,f1,f2⟩;have ah:=A (oJ pw m' k len' T K w w4) ⟨T,K,f1,⟨ai.o,λ_ _=>rfl,rfl,λq hq=>by have:=av.o q hq;exact⟨by have:=this.1;omega,λt ht=>by have:=this.2 t ht;omega⟩⟩,B1.o.trans f2⟩;clear f1 f2 q0 q1 q2 q3 q4 q5 q6 q7 q8 q9 aR aS aT aU;go_wp2;go_ret;exact⟨rfl,ah.o⟩
theorem Nh (p:NP)(i:Nat)(x y z:Int)(r:Nat->ag)(h:AI w pw m len T)(hp:(T 2)[i]?=E (eb pw p))(hm:m+400<=1000000000000000000)(hl:∀c,(len c+400)*24<=140737488355328)(hl':∀c,len' c=len c+400):
  ay prog 120 #[aC (E ⟨pw,0,V⟩),aC (E ⟨p.pc,0,V⟩),aD #[Z J 26,Z J x,Z J y,Z J z,r 0,r 1,r 2,r 3,r 4,r 5,r 6,r 7,r 8,r 9]] w λe w'=>e=az (ak aa)/\AI w' pw (m+400) len' T/\af pw w w':=by
 obtain⟨W0,hW0⟩:=aj (w.alloc (gb 26 x y z r));have hb0:af w.1.size w W0:=by rw[hW0];exact(ax _ _).alloc (aw _) _
 have z0:w.1.size<W0.1.size:=by rw[hW0];simp
 have q0:W0.cell? ⟨w.1.size,0,V⟩=E (Z J 26):=sg (W:=W0) (by rw[<-hW0];exact ax _ _) z0 0 _ rfl;have O:=hb0.mono (nH h.fe)
 have HF:=I (show ay prog 123 #[aC (E ⟨pw,0,V⟩),aC (E ⟨p.pc,0,V⟩)] W0 (λe w'=>e=az (ak aa)/\AI w' pw (m+400) len' T/\af pw w w')from
  (Cs p i (h.below hb0) hp hm (by have:=hl 1;omega) (by have:=hl 3;omega)).mono (λe w' ⟨h1,h2,h3⟩=>⟨h1,h2.mono (by omega) (λc=>by rw[hl'];by_cases e3:c=3;subst e3;rw[lK,jK (by decide)];omega;rw[jK e3];by_cases e1:c=1;subst e1;rw[lK];omega;rw[jK e1];omega),O.trans h3⟩));unfold gb at hW0;have ac:=I hW0;generalize p.pc=pc at*;clear h hp hb0 hW0 hl hl' O;go_enter func120,ntmps120;go_upto_region 1 with fail;rw[<-ac.o];go_wp2_with fail;refine HF.o.mono ?_;rintro e w1 ⟨rfl,f1,f2⟩;have Y:=I (And.intro f1 f2);clear f1 f2 q0;go_wp2;go_ret;exact⟨rfl,Y.o⟩
theorem Ni (p:NP)(i:Nat)(x y z:Int)(r:Nat->ag)(h:AI w pw m len T)(hp:(T 2)[i]?=E (eb pw p))(hm:m+400<=1000000000000000000)(hl:∀c,(len c+400)*24<=140737488355328)(hl':∀c,len' c=len c+400):
  ay prog 120 #[aC (E ⟨pw,0,V⟩),aC (E ⟨p.pc,0,V⟩),aD #[Z J 28,Z J x,Z J y,Z J z,r 0,r 1,r 2,r 3,r 4,r 5,r 6,r 7,r 8,r 9]] w λe w'=>e=az (ak aa)/\AI w' pw (m+400) len' T/\af pw w w':=by
 obtain⟨W0,hW0⟩:=aj (w.alloc (gb 28 x y z r));have hb0:af w.1.size w W0:=by rw[hW0];exact(ax _ _).alloc (aw _) _
 have z0:w.1.size<W0.1.size:=by rw[hW0];simp
 have q0:W0.cell? ⟨w.1.size,0,V⟩=E (Z J 28):=sg (W:=W0) (by rw[<-hW0];exact ax _ _) z0 0 _ rfl;have q2:W0.cell? ⟨w.1.size,2,V⟩=E (Z J y):=sg (W:=W0) (by rw[<-hW0];exact ax _ _) z0 2 _ rfl;have O:=hb0.mono (nH h.fe)
 have HF:=I (show ay prog 124 #[aC (E ⟨pw,0,V⟩),aC (E ⟨p.pc,0,V⟩),Z J y] W0 (λe w'=>e=az (ak aa)/\AI w' pw (m+400) len' T/\af pw w w')from
  (Dr p i y (h.below hb0) hp (by omega) (by have:=hl 2;omega)).mono (λe w' ⟨h1,h2,h3⟩=>⟨h1,h2.mono (by omega) (λc=>by rw[hl'];by_cases e3:c=2;subst e3;rw[lK];omega;rw[jK e3];omega),O.trans h3⟩));unfold gb at hW0;have ac:=I hW0;generalize p.pc=pc at*;clear h hp hb0 hW0 hl hl' O;go_enter func120,ntmps120;go_upto_region 1 with fail;rw[<-ac.o];go_wp2_with fail;refine HF.o.mono ?_;rintro e w1 ⟨rfl,f1,f2⟩;have Y:=I (And.intro f1 f2);clear f1 f2 q0 q2;go_wp2;go_ret;exact⟨rfl,Y.o⟩
theorem Nj (p:NP)(i:Nat)(x y z:Int)(r:Nat->ag)(h:AI w pw m len T)(hp:(T 2)[i]?=E (eb pw p))(hm:m+400<=1000000000000000000)(hl:∀c,(len c+400)*24<=140737488355328)(hl':∀c,len' c=len c+400):
  ay prog 120 #[aC (E ⟨pw,0,V⟩),aC (E ⟨p.pc,0,V⟩),aD #[Z J 27,Z J x,Z J y,Z J z,r 0,r 1,r 2,r 3,r 4,r 5,r 6,r 7,r 8,r 9]] w λe w'=>e=az (ak aa)/\AI w' pw (m+400) len' T/\af pw w w':=by
 obtain⟨W0,hW0⟩:=aj (w.alloc (gb 27 x y z r));have hb0:af w.1.size w W0:=by rw[hW0];exact(ax _ _).alloc (aw _) _
 have z0:w.1.size<W0.1.size:=by rw[hW0];simp
 have q0:W0.cell? ⟨w.1.size,0,V⟩=E (Z J 27):=sg (W:=W0) (by rw[<-hW0];exact ax _ _) z0 0 _ rfl;have ar:=hb0.mono (nH h.fe);have A1:=h.below hb0;have O:dS W0 pw p:=A1.ny (by decide) hp;obtain⟨x0,x1⟩:=O.cells;have aH:=O.lt (x:=p.pc) (ae rfl);have av:=I (Fx O.bP O.ok);have hl0:=hl 0;have HST:=I (λ(w2 W:ac)(va vb:ag)(Y:Told W0 w2 va vb p.s.q.o.2.2.1 p.s.q.o.2.2.2)(hb:af w2.1.size w2 W)=>(EZ A1 O Y hb (by omega) (by omega)).mono (λe w' (hq:e=Ending.returned (ak aa)/\AI w' pw (m+2) (kr len 0 2) T/\af pw W0 w')=>(show e=az (ak aa)/\AI w' pw (m+400) len' T/\af pw w w' from⟨hq.1,hq.2.1.mono (by omega) (λc=>by rw[hl'];by_cases e3:c=0;subst e3;rw[lK];omega;rw[jK e3];omega),ar.trans hq.2.2⟩)));have ap:=I O;unfold gb at hW0;have aB:=I hW0;obtain⟨pc,am⟩:=aj p.pc;have aA:=I am;rw[<-am]at x0 x1 aH;rw[<-am];clear h hp hb0 hW0 hl hl' ar A1 O am hl0;go_enter func120,ntmps120;go_upto_region 1 with fail;rw[<-aB.o];go_wp2_with fail;refine av.o.mono ?_;rintro e w2 ⟨va,vb,rfl,Y⟩;have hb2:=Y.2.2.2;have aq:=ap.o.below hb2;obtain⟨a1,k1,f1⟩:=a_ Y.1;obtain⟨a2,k2,f2⟩:=a_ Y.2.1;obtain⟨a3,k3,f3⟩:=nb ap.o.ref.ba.set;obtain⟨a4,k4,f4⟩:=nb ap.o.ref.ba.sum;obtain⟨W3,hW3⟩:=aj (w2.alloc (.cells #[Z J p.s.q.o.1,Z J p.s.q.o.2.1,va,vb] 35));have hb3:af w2.1.size w2 W3:=by rw[hW3];exact(ax _ _).alloc (aw _) _
 have t3:W3.1[w2.1.size]?=E (.cells #[Z J p.s.q.o.1,Z J p.s.q.o.2.1,va,vb] 35 (0,0)):=by rw[hW3];exact bo w2 _
 have ai:=aq.below hb3;obtain⟨y0,y1⟩:=ai.cells;obtain⟨⟨v4,aJ,aI⟩,v6,v7,v8,v9⟩:=ai.outs;have aG:=ai.lt (x:=p.pc) (ae rfl);have ah:=I (HST.o w2 W3.drew va vb Y hb3.drew);rw[<-aA.o]at y0 y1 aG;rw[f3]at v8 ah;rw[f4]at v9 ah;rw[f1,f2]at hW3 t3 ah;rw[f1,f2];obtain⟨⟨t0,t1,t2,t33⟩,-⟩:=gg t3;have aF:=I hW3;clear Y hb2 hW3 hb3 t3 aq ai x0 x1 f1 f2 f3 f4 q0;generalize p.s.q.o.1=st at*;generalize p.s.q.o.2.1=ro at*;generalize p.s.q.o.2.2.1.length=n1 at*;generalize p.s.q.o.2.2.2.length=n2 at*;go_upto_region 6 with fail;rw[<-aF.o];go_region_with (go_at_call 58;refine ah.o.mono ?_;rintro e w4 ⟨rfl,f1,f2⟩;have au:=I (And.intro f1 f2);clear f1 f2);all_goals(go_wp2;go_ret;exact⟨rfl,au.o⟩)
theorem Jo (K:List NP)(h:AI w pw m len T)(hK:T 2=K.map (eb pw))(h0:T 0=[])(h1:T 1=[])(hm:m+400*K.length<=1000000000000000000)(hl:∀c,(len c+400*K.length)*24<=140737488355328):
  ay prog 26 #[aC (E ⟨pw,0,V⟩)] w λe w'=>e=az (ak aa)/\(∃m' len',AI w' pw m' len' T)/\af pw w w':=by
 have H0:=A (∃m' len',AI w pw m' len' T/\m'=m+400*0/\∀c,len' c=len c+400*0) ⟨m,len,h,rfl,λ_=>rfl⟩;obtain⟨n,hn⟩:=aj K.length;have HST:=I (λ(W:ac)(j i m':Nat)(len':Nat->Nat)(p:NP)(hj:j<n)(hW:AI W pw m' len' T)(em:m'=m+400*j)(el:∀c,len' c=len c+400*j)(hp:(T 2)[i]?=E (eb pw p))=>(show ay prog 59 #[aC (E ⟨pw,0,V⟩),aC (E ⟨p.pc,0,V⟩)] W λe w'=>e=az (ak aa)/\(∃m' len',AI w' pw m' len' T/\m'=m+400*(j+1)/\∀c,len' c=len c+400*(j+1))/\af pw W w' from by refine(UK p i hW hp (by omega) (λc=>by rw[el c];exact fJ (oB 24 (show len c+400*j+400<=len c+400*K.length by omega)) (hl c))).mono ?_;rintro e w' ⟨rfl,f1,f2⟩;exact⟨rfl,⟨_,_,f1,by omega,λc=>by show len' c+400=_;rw[el c];omega⟩,f2⟩));have HG:=I (λj (hj:j<n)=>(show∃p,(T 2)[j]?=E (eb pw p)from⟨_,by rw[hK];exact yQ (aQ (by omega))⟩));have ar:=A ((T 2).length=n) (by rw[hK,dI,hn]);obtain⟨z0,zc,ae,-,am,aA,-⟩:=h.list (j:=0) (by decide);rw[h0]at ae am;change w.cell? _=E (.slice z0 0 zc)at ae;obtain⟨y0,yc,Y,-,ai,aw,-⟩:=h.list (j:=1) (by decide);rw[h1]at Y ai;change w.cell? _=E (.slice y0 0 yc)at Y;clear h hK h0 h1 hl hm hn;go_enter func26,ntmps26;go_wp2;go_loop [3] (λi=>i=Z J 0) (λ_=>0);case atStart=>rfl
 subst hrel;go_wp2;go_loop [5] (λi=>i=Z J 0) (λ_=>0);case atStart=>rfl
 subst hrel;go_wp2_with fail;clear ae am aA Y ai aw;go_loopw [8] (λi wr=>∃j:Nat,j<=n/\i=Z J j/\(∃m' len',AI wr pw m' len' T/\m'=m+400*j/\∀c,len' c=len c+400*j)/\af pw w wr) (λi _=>n-(intOf i).toNat);case atStart=>exact⟨0,bi _,rfl,H0.o,ax _ _⟩
 obtain⟨j,hj,rfl,⟨m',len',hk,em,el⟩,hb⟩:=hrel;have HK:=I hk;have aq:=I em;have ap:=I el;have HB:=I hb;obtain⟨a,cap,c1,au,av,hcm,ag⟩:=hk.list (j:=2) (by decide);have HE:=I ag;rw[ar.o]at c1 av;clear hk hb ag em el;by_cases hlt:j<n
 ·obtain⟨p,O⟩:=HG.o j hlt;obtain⟨g,rfl,aB,e0⟩:=HE.o j _ O;change wr.cell? ⟨g,j,V⟩=E (aC (E ⟨p.pc,0,V⟩))at e0;have HS:=I (HST.o wr j j m' len' p hlt HK.o aq.o ap.o O);have aD:(0:Int)<=(j:Int):=by omega
  have aF:(j:Int)<(n:Int):=by omega
  obtain⟨pc,ah⟩:=aj p.pc;rw[<-ah]at e0 HS;clear O ah;go_wp2_with fail;refine HS.o.mono ?_;rintro e w2 ⟨rfl,f1,f2⟩;have K1:=I f1;have B1:=I (HB.o.trans f2);clear f1 f2 c1 au e0;go_wp2;go_roundw;case rel=>exact⟨j+1,by omega,by go_num,K1.o,B1.o⟩
  simp[intOf];omega
 have ej:j=n:=by omega
 subst ej;go_wp2;go_ret;exact⟨rfl,⟨m',len',HK.o⟩,HB.o⟩
end
namespace wL
open Go.ChangeShapes Go.WideShapes Go.ChangeAt Go.RowKit
theorem eJ {a b:Bool}(h:a=aa)(k:b=aa):(a&&b)=aa:=by rw[h,k];rfl
theorem k1:(Rows.sessionsUptoRow.wf (OpenSpec.ofChange (Rows.OpenSpec.upto Rows.sessionsSpec).bare))=aa:=by kernel_rfl
theorem k2:(laidOutB prog)=aa:=by kernel_rfl
theorem k3:(mapsRowed prog)=aa:=by kernel_rfl
theorem k4:(f4.params.all (prog.readableRec ·))=aa:=by kernel_rfl
theorem k5:(namedTie prog Rows.sessionsUptoRow.named (Rows.OpenSpec.upto Rows.sessionsSpec).bare.vars)=aa:=by kernel_rfl
theorem k6:((Rows.sessionsUptoRow.stops==[]))=aa:=by kernel_rfl
theorem k7:((prog.stops==[]))=aa:=by kernel_rfl
theorem k8:((Rows.sessionsUptoRow.knobs==[]))=aa:=by kernel_rfl
theorem k9:((prog.stopKnobs==[]))=aa:=by kernel_rfl
theorem Mn:((Rows.sessionsUptoRow.inPlace==prog.inPlace 4))=aa:=by kernel_rfl
theorem Mo:((Rows.sessionsUptoRow.unfollowed==prog.unfollowed 4))=aa:=by kernel_rfl
theorem vT:((Rows.sessionsUptoRow.recurses==prog.recurses 4))=aa:=by kernel_rfl
theorem Mp:((Rows.sessionsUptoRow.named==prog.varsNamed 4))=aa:=by kernel_rfl
theorem Mq:((Rows.sessionsUptoRow.maps==(f4.params.toList++(Rows.OpenSpec.upto Rows.sessionsSpec).bare.plain.varTypes prog).any (prog.mapsRec ·)))=aa:=by kernel_rfl
theorem Mr:((Rows.sessionsUptoRow.ifaces==(f4.params.toList++(Rows.OpenSpec.upto Rows.sessionsSpec).bare.plain.varTypes prog).any (prog.ifacesRec ·)))=aa:=by kernel_rfl
theorem Ms:((Rows.sessionsUptoRow.mapsOut==prog.mapsAmong f4.resultTypes.toList))=aa:=by kernel_rfl
theorem Mt:((Rows.sessionsUptoRow.loops==(f4.params.toList++(Rows.OpenSpec.upto Rows.sessionsSpec).bare.plain.varTypes prog).any (prog.loopsFrom ·)))=aa:=by kernel_rfl
theorem Mu:((Rows.sessionsUptoRow.wideKeys==(f4.params.toList++(Rows.OpenSpec.upto Rows.sessionsSpec).bare.plain.varTypes prog++f4.resultTypes.toList).any (prog.wideKeysFrom ·)))=aa:=by kernel_rfl
theorem yM:((Rows.OpenSpec.upto Rows.sessionsSpec).bare.vars.all (prog.varReadable ·))=aa:=by kernel_rfl
theorem Mv:(f4.resultTypes.all (λt=>prog.readableRec t&&decide (t<prog.types.size)))=aa:=by kernel_rfl
theorem Mw:((Rows.sessionsUptoRow.ifacesOut==f4.resultTypes.toList.any (prog.ifacesRec ·)))=aa:=by kernel_rfl
theorem Mx:((Rows.sessionsUptoRow.loopsOut==f4.resultTypes.toList.any (prog.loopsFrom ·)))=aa:=by kernel_rfl
theorem My:((Rows.sessionsUptoRow.plainKeys==prog.plainKeys))=aa:=by kernel_rfl
theorem Mz:(Rows.sessionsUptoRow.shortTexts.isNone)=aa:=by kernel_rfl
theorem MA:(prog.stopsHeard)=aa:=by kernel_rfl
theorem yN:(prog.mayEnter)=aa:=by kernel_rfl
theorem MB:((Rows.sessionsUptoRow.lifted==prog.liftsFinal))=aa:=by kernel_rfl
theorem MC:((prog.make==E Rows.sessionsUptoRow.make))=aa:=by kernel_rfl
theorem MD:((Rows.sessionsUptoRow.pinned==Rows.sessionsUptoRow.pinnedBy))=aa:=by kernel_rfl
theorem ME:((Rows.sessionsUptoRow.veiled==(f4.params.toList++(Rows.OpenSpec.upto Rows.sessionsSpec).bare.plain.varTypes prog++f4.resultTypes.toList).any (prog.veiledRec ·)))=aa:=by kernel_rfl
theorem MF:(Rows.sessionsUptoRow.veiledFits prog f4.params.toList (f4.params.toList++(Rows.OpenSpec.upto Rows.sessionsSpec).bare.plain.varTypes prog++f4.resultTypes.toList))=aa:=by kernel_rfl
theorem closed:joinedFacts prog 4 f4 (Rows.OpenSpec.upto Rows.sessionsSpec).bare Rows.sessionsUptoRow=aa:=by unfold joinedFacts;exact(eJ (eJ (eJ (eJ (eJ (eJ (eJ (eJ (eJ (eJ (eJ (eJ (eJ (eJ (eJ (eJ (eJ (eJ (eJ (eJ (eJ (eJ (eJ (eJ (eJ (eJ (eJ (eJ (eJ (eJ (eJ k1 k2) k3) k4) k5) k6) k7) k8) k9) Mn) Mo) vT) Mp) Mq) Mr) Ms) Mt) Mu) yM) Mv) Mw) Mx) My) Mz) MA) yN) MB) MC) (by kernel_rfl)) MD) ME) MF)
end wL
end Go.Proofs.YtchideljndagjabGreat


