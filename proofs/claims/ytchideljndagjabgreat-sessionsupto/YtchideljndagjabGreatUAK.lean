/- Joined -/
import Derived.Test.YtchideljndagjabGreatUAG
import Derived.Deep.RegionHeld3
import Derived.Test.YtchideljndagjabGreatUAJ
set_option linter.unusedVariables false
set_option maxHeartbeats 4000000
set_option maxRecDepth 100000
namespace Go.Proofs.YtchideljndagjabGreat
open aq aO aB bb
open Go.Value renaming int->Z,slice->U,bool->ak,agg->aD,tuple->br
open Go.IntKind renaming i64->J
open Go.Obj renaming cells->ah
open Option renaming none->V,some->E
open Bool renaming false->Y,true->aa
open Go renaming World->ac,Value->ag,Calls->ay,TypeId->cn
open Go.RowKit renaming Below->af,intOf->aA
abbrev eM:=@wpList_load_mid
abbrev Ga:=@List.any_eq_false
abbrev AH:=@List.all_cons
abbrev tu:=@List.getElem?_toArray
abbrev xz:=@List.ext_getElem?
abbrev tq:=@List.getElem?_set
abbrev mS:=@World.frozen?_setCell
abbrev xy:=@World.cell?_setCell_same
abbrev lO:=@World.cell?_setCell_other
abbrev F_:=@World.frozen?_setCells
abbrev AG:=@World.cell?_setCells_out
abbrev iX:=@Proofs.Tryz.underlying101
open Go.Proofs.Tryz
variable {c:Cl}{a fr id k:Int}{C:Cf}
section
open Go.ChangeShapes Go.WideShapes Go.ChangeAt Go.RowKit
def tL (id N T ch mk sd:Int)(v1 v2 v3:ag):PS:=⟨id,1,bB 37 ch,bB 37 mk,N,T,v1,ch,mk,sd,v2,v3,λ_=>Pr.z,U V 0 0⟩
def oY (id N T cp mp:Int):PS:=⟨id,1,cp,mp,N,T,U V 0 0,0,0,0,U V 0 0,U V 0 0,λ_=>Pr.z,U V 0 0⟩
theorem yZ{N T M D inp ch mk sd sm ss}(h:eT N T M D id inp ch mk sd sm ss=0):dV N T M D=aa/\(1<=id/\id<=N)/\fz T M inp ch mk sd sm ss=aa:=by unfold eT at h;cases e1:dV N T M D;rw[au e1]at h;omega;rw[ar (by rw[e1];simp)]at h;by_cases q:id<1\/N<id;rw[au q]at h;omega;rw[ar q]at h;cases e2:fz T M inp ch mk sd sm ss;rw[au e2]at h;omega;exact⟨rfl,by omega,rfl⟩
theorem NT{N T M D vi vm vs inp sm ss ch mk sd w}(hi:aY w vi inp)(hm:aY w vm sm)(hs:aY w vs ss)(hE:eT N T M D id inp ch mk sd sm ss=0):
  ay prog 126 #[aD #[Z J N,Z J T,Z J M,Z J D],Z J id,aD #[vi,Z J ch,Z J mk,Z J sd,vm,vs]] w λe w'=>
   ∃v1 v2 v3,e=.returned (br #[aD (cx (tL id N T ch mk sd v1 v2 v3)).toArray,Z J 0])/\w'.ownsRow w.1.size 3 1 v1 inp.length (inp.map (Value.int J))/\w'.ownsRow w.1.size 3 1 v2 sm.length (sm.map (Value.int J))/\w'.ownsRow w.1.size 3 1 v3 ss.length (ss.map (Value.int J))/\af w.1.size w w':=by
 obtain⟨aC,⟨q1,q2⟩,hdr⟩:=yZ hE;have hg:=vG aC ⟨q1,q2⟩ hdr;have gn:=hg.n;have gt:=hg.t;have gm:=hg.m;have aS:=hg.len;have aT:=hg.zQ;have aU:=hg.zS;obtain⟨k1,k2⟩:=hg.ch;obtain⟨k3,k4⟩:=hg.ms;change 1<=N/\N<=12 at gn;change 1<=T/\T<=N at gt;change 1<=M/\M<=12 at gm;change(inp.length:Int)=M at aS;change(sm.length:Int)=T-1 at aT;change(ss.length:Int)=T-1 at aU;change ch<_ at k2;change mk<_ at k4;replace k1:ch<=9223372036854775807:=by omega
 replace k3:mk<=9223372036854775807:=by omega
 obtain⟨g1,g2⟩:=gn;obtain⟨g3,g4⟩:=gt;have aN:=I (λ(W:ac)=>vy N T M D W);have aO:=bj w λW hb=>BQ N T M D ch mk sd (hi.below hb) (hm.below hb) (hs.below hb) g3 (by omega);have aX:=bj w λW hb=>IF ch mk sd (hi.below hb) (hm.below hb) (hs.below hb) (by omega) (by omega) (by omega);rw[aC]at aN;rw[hdr]at aO;clear aC hdr hg hE aS aT aU gm k2 k4;obtain⟨a1,c1,rfl,-⟩:=hi;obtain⟨a2,c2,rfl,-⟩:=hm;obtain⟨a3,c3,rfl,-⟩:=hs;generalize inp.length=n1 at*;generalize sm.length=n2 at*;generalize ss.length=n3 at*;have ai:=I (wb w N T M D (U a1 n1 c1) (U a2 n2 c2) (U a3 n3 c3) ch mk sd);have aq:=I (λW hb=>Dp w N T M D (U a1 n1 c1) (U a2 n2 c2) (U a3 n3 c3) ch mk sd (W:=W) hb);have HD:=A (jh zeroCells205 w N T M D (U a1 n1 c1) (U a2 n2 c2) (U a3 n3 c3) ch mk sd=((w.alloc (ah #[Z J N,Z J T,Z J M,Z J D] 26)).alloc (ah #[U a1 n1 c1,Z J ch,Z J mk,Z J sd,U a2 n2 c2,U a3 n3 c3] 117)).alloc (ah zeroCells205 205)) rfl;obtain⟨W0,hW0⟩:=aj (jh zeroCells205 w N T M D (U a1 n1 c1) (U a2 n2 c2) (U a3 n3 c3) ch mk sd);rw[<-hW0]at ai aq HD;clear hW0;have s0:w.1.size+2<W0.1.size:=by have:=ai.o.2.1;omega
 go_enter xt,xu;go_wp2_with fail;rw[<-HD.o];refine aH (aN.o W0) λw1 hb1=>?_;obtain⟨⟨x0,x1,x2,x3⟩,y0,y1,y2,y3,y4,y5⟩:=aq.o w1 hb1;have aG:=I hb1;have s1:=hb1.size;clear hb1;go_wp2_with fail;refine aH (aO.o w1 (ai.o.1.trans (aG.o.mono (by omega)))) λw2 hb2=>?_;have s2:=hb2.size;have aI:=I (aG.o.trans (hb2.mono s1));clear hb2 x0 x1 x2 x3 y0 y1 y2 y3 y4 y5;obtain⟨⟨x0,x1,x2,x3⟩,-⟩:=aq.o w2 aI.o;have aF:aJ (w2.alloc (ah zeroCells205 205)) w2.1.size 205 iC:=by unfold aJ;rw[<-ux];exact bo w2 _
 have hst:=uk prog w2.1.size 0 (cx (oY id N T 0 0)) (w2.alloc (ah zeroCells205 205)) (by rw[gD];exact aF.there 0 78 (by omega)) (λv hv=>xr.1 (sq (oY id N T 0 0) rfl rfl rfl rfl) v (by simpa using hv));have aV:(storeCells ⟨w2.1.size,0,V⟩ ((((zeroCells205.toList.set 0 (Value.int IntKind.i64 id)).set 1 (Value.int IntKind.i64 1)).set 4 (Value.int IntKind.i64 N)).set 5 (Value.int IntKind.i64 T))).run prog (w2.alloc (ah zeroCells205 205))=.ok () ((w2.alloc (ah zeroCells205 205)).setCells w2.1.size 0 (cx (oY id N T 0 0))):=hst;have ak:=I (aF.gU (oY id N T 0 0));have hb3:af w2.1.size w2 ((w2.alloc (ah zeroCells205 205)).setCells w2.1.size 0 (cx (oY id N T 0 0))):=dU (aw _) _ _ _ ((ax _ _).alloc (aw _) _);clear hst aF;obtain⟨w3,hw3⟩:=aj ((w2.alloc (ah zeroCells205 205)).setCells w2.1.size 0 (cx (oY id N T 0 0)));rw[<-hw3]at aV ak hb3;clear hw3;have aK:=I (aI.o.trans (hb3.mono (by omega)));have l3:=ak.o.lt;obtain⟨-,y0,y1,y2,y3,y4,y5⟩:=aq.o w3 aK.o;have e2:=ak.o.c2;have e3:=ak.o.c3;have ef:=ak.o.bF;clear hb3;go_wp2_with fail;refine aH (sj _ _ _ (by omega) (by omega) k1) λw' hw'=>?_;rw[hw'];clear hw';obtain⟨P1,az⟩:=aj (bB 37 ch);rw[<-az];have ba:=I az;clear az;go_wp2_with fail;refine aH (sj _ _ _ (by omega) (by omega) k3) λw' hw'=>?_;rw[hw'];clear hw';obtain⟨P2,aA⟩:=aj (bB 37 mk);rw[<-aA];have bb:=I aA;clear aA;go_wp2_with fail;obtain⟨w4,hw4⟩:=aj ((w3.setCell ⟨w2.1.size,2,V⟩ (Z J P1)).setCell ⟨w2.1.size,3,V⟩ (Z J P2));rw[<-hw4];have bt:=A (aJ w4 w2.1.size 205 (oY id N T P1 P2)) (by rw[hw4];exact(ak.o.Su P1).SC P2);have aB:av (λx=>x=w2.1.size) w3 w4:=by rw[hw4];exact(av.setCell w3 ⟨w2.1.size,2,V⟩ _).bY (av.setCell _ ⟨w2.1.size,3,V⟩ _)
 have aL:=A (af W0.1.size W0 w4) (aK.o.trans (aB.below (by omega) (λx e=>by omega)));have s4:=aB.size;clear aB hw4 e2 e3 ef x0 x1 x2 x3 y0 y1 y2 y3 y4 y5 aV;refine(aX.o w4 (ai.o.1.trans (aL.o.mono (by omega)))).mono ?_;rintro e w5 ⟨v1,v2,v3,rfl,o1,o2,o3,ar⟩;obtain⟨p1,r1,bw⟩:=a_ o1;obtain⟨p2,r2,hv2⟩:=a_ o2;obtain⟨p3,r3,hv3⟩:=a_ o3;subst bw hv2 hv3;have s5:=ar.size;have ae:=I (bt.o.below ar);have aW:=I (aL.o.trans (ar.mono (by omega)));have O1:=I o1;have O2:=I o2;have O3:=I o3;clear o1 o2 o3 ar;have e6:=ae.o.c6;have e7:=ae.o.c7;have e8:=ae.o.c8;have e9:=ae.o.c9;have bv:=ae.o.c10;have e11:=ae.o.c11;have ef:=ae.o.bF;obtain⟨S,hS⟩:=aj (tL id N T ch mk sd (U p1 n1 r1) (U p2 n2 r2) (U p3 n3 r3));have ap:∀(W:ac),W=w5.setCells w2.1.size 6 [U p1 n1 r1,Z J ch,Z J mk,Z J sd,U p2 n2 r2,U p3 n3 r3]->aJ W w2.1.size 205 S/\av (λx=>x=w2.1.size) w5 W:=λW hW=>by
  rw[hW,hS];have:=ae.o.wM (U p1 n1 r1) ch mk sd (U p2 n2 r2) (U p3 n3 r3);refine⟨?_,rO _ _ _ _⟩;have e:tL id N T ch mk sd (U p1 n1 r1) (U p2 n2 r2) (U p3 n3 r3)={oY id N T P1 P2 with inp:=U p1 n1 r1,ch:=ch,ms:=mk,sd:=sd,sm:=U p2 n2 r2,ss:=U p3 n3 r3}:=by rw[ba.o,bb.o];rfl
  rw[e];exact this
 have bi:=I ap;have HS:=I hS;have aP:=A ((cx S).toArray.all (·.oneCell')=aa) (by rw[hS];exact sq _ rfl rfl rfl rfl);clear hS ap;go_upto_region 11 with fail;obtain⟨Y,ap⟩:=aj ((((((w5.setCell ⟨w2.1.size,6,V⟩ (U p1 n1 r1)).setCell ⟨w2.1.size,7,V⟩ (Z J ch)).setCell ⟨w2.1.size,8,V⟩ (Z J mk)).setCell ⟨w2.1.size,9,V⟩ (Z J sd)).setCell ⟨w2.1.size,10,V⟩ (U p2 n2 r2)).setCell ⟨w2.1.size,11,V⟩ (U p3 n3 r3));rw[<-ap];obtain⟨p6,c6⟩:=bi.o Y ap;have bu:=I p6;have aM:=A (af W0.1.size W0 Y) (aW.o.trans (c6.below (by omega) (λx e=>by omega)));have bn:=I (bf O1.o c6 (λx e hx=>by have:=(O1.o.lt x e).1;omega));have bp:=I (bf O2.o c6 (λx e hx=>by have:=(O2.o.lt x e).1;omega));have bq:=I (bf O3.o c6 (λx e hx=>by have:=(O3.o.lt x e).1;omega));clear ap p6 c6 e6 e7 e8 e9 bv e11 ef;have aR:=A (aJ Y (w.1.size+2) 205 iC) (ai.o.2.2.block (aM.o.block _ (by omega)));obtain⟨O,am⟩:=aj (cx S);have au:=A (O.length=78) (by rw[am];exact gD S);have RG:=A (Y.rangeAt w2.1.size 0 O) (by rw[am];exact bu.o.PX);have bh:=A (Y.there (w.1.size+2) 0 O.toArray.size) (by rw[show O.toArray.size=78 by rw[bR];exact au.o];exact aR.o.there 0 78 (by omega));have bc:=A ((Y.setCells (w.1.size+2) 0 O).1[w.1.size+2]?=E (ah O.toArray 205 (0,0))) (by rw[am];exact aR.o.gU S);have c7:av (λx=>x=w.1.size+2) Y (Y.setCells (w.1.size+2) 0 O):=rO _ _ _ _;have BF:=A (af w.1.size w (Y.setCells (w.1.size+2) 0 O)) (dU (by omega) _ _ _ (ai.o.1.trans (aM.o.mono (by omega))));have bk:=I (bf bn.o c7 (λx e hx=>by have:=(O1.o.lt x e).1;omega));have bl:=I (bf bp.o c7 (λx e hx=>by have:=(O2.o.lt x e).1;omega));have bm:=I (bf bq.o c7 (λx e hx=>by have:=(O3.o.lt x e).1;omega));rw[<-am]at aP;have aZ:=I am;clear am c7;have aQ:=A ((prog.info? 205).map (·.size)=E O.toArray.size) (by rw[sI,bR,au.o]);have bg:=A ((prog.info? 205).map (·.size)=E O.length) (by rw[sI,au.o]);go_wp2_with(first|refine eM rfl 205 _ rfl w2.1.size 0 rfl O _ RG.o sY rfl bg.o ?_|refine cB rfl 205 _ _ rfl (w.1.size+2) 0 O.toArray rfl rfl bh.o aQ.o aP.o ?_);refine cQ (gT rfl (w.1.size+2) 205 O.toArray (0,0) rfl bc.o sY rfl aQ.o) rfl ?_;exact⟨_,_,_,by rw[aZ.o,HS.o];rfl,cS bk.o (by omega),cS bl.o (by omega),cS bm.o (by omega),BF.o⟩
def jF (id a b:Int)(x:aq.It):Bool:=decide (x.1=id)&&(decide (x.2.1=a)&&decide (x.2.2.1=b))
theorem OU{l}(h:bN l=aa){b}(ac:1<=id):
  l.any (jF id a b)=(decide ((aL l id).1=id)&&(decide ((aL l id).2.1=a)&&decide ((aL l id).2.2.1=b))):=by
 cases e:aP l id with
 |false=> rw[qB e,aM (show¬(0:Int)=id by omega),iD,Ga];intro x hx;unfold jF;rw[aM (o_.1 e x hx)];exact dR
 |true=>
  obtain⟨x,hx,O⟩:=jC.1 e;obtain⟨j,hj,rfl⟩:=fT hx;have hit:=cd l j hj;have Y:=vO h hj;rw[hit,O]at Y;rw[Y]
  cases q:(decide ((l[j]).1=id)&&(decide ((l[j]).2.1=a)&&decide ((l[j]).2.2.1=b)))with
  |true=>exact List.any_eq_true.2 ⟨_,hx,q⟩
  |false=>
   rw[Ga];intro y hy hown;obtain⟨i,hi,rfl⟩:=fT hy;unfold jF at hown;rw[bS,uE]at hown;have:i=j:=by rcases Nat.lt_trichotomy i j with r|r|r;have:=ub h hi hj r;rw[cd l i hi,hit]at this;omega;exact r;have:=ub h hj hi r;rw[cd l i hi,hit]at this;omega
   subst this;rw[O,aK rfl,hown.2]at q;cases q
theorem GU (l k)(hk:k<l.length)(p:aq.It->Bool):(l.take (k+1)).any p=((l.take k).any p||p (aq.it l k)):=by rw[gV hk,List.any_append,cd l k hk];simp
theorem OX{l}(h:bN l=aa){k}(hk:k<l.length){b}(e:(aq.it l k).1=id):(l.take k).any (jF id a b)=Y:=by
 rw[Ga];intro x hx;obtain⟨i,hi,rfl⟩:=fT hx;rw[List.getElem_take];have O:i<k:=by rw[eV]at hi;omega
 have:=ub h (by omega) hk O;rw[cd l i (by omega),e]at this;unfold jF;rw[aM (by omega)];exact dR
theorem RL{b x y w}(hk:0<=k)(O:k<2305843009213693951)(ha:1<=a)(ha':a<=12)(hb:1<=b)(hb':b<=12)(hx:0<=x)(Y:x<2305843009213693951)(hy:0<=y)(ae:y<2305843009213693951):
  ay prog 218 #[Z J k,Z J a,Z J b,Z J x,Z J y] w λe w'=>e=.returned (br #[Z J (bA x (bL k (64*a+4*b))),Z J (bA y (bL k (64*a+4*b+1))),Z J (fj k (64*a+4*b) (bA x (bL k (64*a+4*b))) (bA y (bL k (64*a+4*b+1)))),Z J 0])/\w'=w:=by
 have h1:(aG k&&(bE a&&bE b))=aa:=by rw[eD hk O,dW ha ha',dW hb hb'];rfl
 have h2:=eD hx Y;have h3:=eD hy ae;go_enter func218,ntmps218;go_wp2_with fail;refine aI (yK) ?_;rw[h1];go_wp2_with fail;refine aI (cX) ?_;go_wp2_with fail;refine aI (cX) ?_;go_wp2_with fail;refine aI (yr ha ha' hb hb') ?_;go_wp2_with fail;refine aI (qG hk O (by omega) (by omega)) ?_;go_wp2_with fail;refine aI (pu hx Y (iU _ _) (iT _ _)) ?_;go_wp2_with fail;refine aI (qG hk O (by omega) (by omega)) ?_;go_wp2_with fail;refine aI (pu hy ae (iU _ _) (iT _ _)) ?_;go_wp2_with fail;refine aI (z_ hk O (by omega) (by omega) (kC _ _) (kB _ _) (kC _ _) (kB _ _)) ?_;go_wp2_with fail;exact cQ (v:=br #[Z J (bA x (bL k (64*a+4*b))),Z J (bA y (bL k (64*a+4*b+1))),Z J (fj k (64*a+4*b) (bA x (bL k (64*a+4*b))) (bA y (bL k (64*a+4*b+1)))),Z J 0]) (by simp[results,results218,go_sem]) rfl ⟨rfl,rfl⟩
theorem Lv (f w):(Instr.index 203 (aD (b_ f).toArray) (Z J ((0:Nat):Int))).run prog w=.ok (aD #[ak (f 0).mem,Z J (f 0).ck,Z J (f 0).mq,Z J (f 0).ms,Z J (f 0).ss]) w:=by kernel_rfl
theorem Lx (f w):(Instr.index 203 (aD (b_ f).toArray) (Z J ((1:Nat):Int))).run prog w=.ok (aD #[ak (f 1).mem,Z J (f 1).ck,Z J (f 1).mq,Z J (f 1).ms,Z J (f 1).ss]) w:=by kernel_rfl
theorem LC (f w):(Instr.index 203 (aD (b_ f).toArray) (Z J ((2:Nat):Int))).run prog w=.ok (aD #[ak (f 2).mem,Z J (f 2).ck,Z J (f 2).mq,Z J (f 2).ms,Z J (f 2).ss]) w:=by kernel_rfl
theorem LD (f w):(Instr.index 203 (aD (b_ f).toArray) (Z J ((3:Nat):Int))).run prog w=.ok (aD #[ak (f 3).mem,Z J (f 3).ck,Z J (f 3).mq,Z J (f 3).ms,Z J (f 3).ss]) w:=by kernel_rfl
theorem LF (f w):(Instr.index 203 (aD (b_ f).toArray) (Z J ((4:Nat):Int))).run prog w=.ok (aD #[ak (f 4).mem,Z J (f 4).ck,Z J (f 4).mq,Z J (f 4).ms,Z J (f 4).ss]) w:=by kernel_rfl
theorem LG (f w):(Instr.index 203 (aD (b_ f).toArray) (Z J ((5:Nat):Int))).run prog w=.ok (aD #[ak (f 5).mem,Z J (f 5).ck,Z J (f 5).mq,Z J (f 5).ms,Z J (f 5).ss]) w:=by kernel_rfl
theorem LH (f w):(Instr.index 203 (aD (b_ f).toArray) (Z J ((6:Nat):Int))).run prog w=.ok (aD #[ak (f 6).mem,Z J (f 6).ck,Z J (f 6).mq,Z J (f 6).ms,Z J (f 6).ss]) w:=by kernel_rfl
theorem LI (f w):(Instr.index 203 (aD (b_ f).toArray) (Z J ((7:Nat):Int))).run prog w=.ok (aD #[ak (f 7).mem,Z J (f 7).ck,Z J (f 7).mq,Z J (f 7).ms,Z J (f 7).ss]) w:=by kernel_rfl
theorem LJ (f w):(Instr.index 203 (aD (b_ f).toArray) (Z J ((8:Nat):Int))).run prog w=.ok (aD #[ak (f 8).mem,Z J (f 8).ck,Z J (f 8).mq,Z J (f 8).ms,Z J (f 8).ss]) w:=by kernel_rfl
theorem LK (f w):(Instr.index 203 (aD (b_ f).toArray) (Z J ((9:Nat):Int))).run prog w=.ok (aD #[ak (f 9).mem,Z J (f 9).ck,Z J (f 9).mq,Z J (f 9).ms,Z J (f 9).ss]) w:=by kernel_rfl
theorem Lz (f w):(Instr.index 203 (aD (b_ f).toArray) (Z J ((10:Nat):Int))).run prog w=.ok (aD #[ak (f 10).mem,Z J (f 10).ck,Z J (f 10).mq,Z J (f 10).ms,Z J (f 10).ss]) w:=by kernel_rfl
theorem LA (f w):(Instr.index 203 (aD (b_ f).toArray) (Z J ((11:Nat):Int))).run prog w=.ok (aD #[ak (f 11).mem,Z J (f 11).ck,Z J (f 11).mq,Z J (f 11).ms,Z J (f 11).ss]) w:=by kernel_rfl
theorem LB (f w):(Instr.index 203 (aD (b_ f).toArray) (Z J ((12:Nat):Int))).run prog w=.ok (aD #[ak (f 12).mem,Z J (f 12).ck,Z J (f 12).mq,Z J (f 12).ms,Z J (f 12).ss]) w:=by kernel_rfl
theorem zD (f)(k:Nat)(hk:k<13)(w):(Instr.index 203 (aD (b_ f).toArray) (Z J (k:Int))).run prog w=
  .ok (aD #[ak (f k).mem,Z J (f k).ck,Z J (f k).mq,Z J (f k).ms,Z J (f k).ss]) w:=by
 have hd:k=0\/k=1\/k=2\/k=3\/k=4\/k=5\/k=6\/k=7\/k=8\/k=9\/k=10\/k=11\/k=12:=by omega
 rcases hd with rfl|rfl|rfl|rfl|rfl|rfl|rfl|rfl|rfl|rfl|rfl|rfl|rfl;exact Lv f w;exact Lx f w;exact LC f w;exact LD f w;exact LF f w;exact LG f w;exact LH f w;exact LI f w;exact LJ f w;exact LK f w;exact Lz f w;exact LA f w;exact LB f w
theorem RN (c l k):(h_ c l k).length<=k:=by unfold h_;rw[dI];exact fJ (pW _ _) (by simp)
def rW (S:PS)(f:Nat->Pr):PS:={S with ph:=2,f:=f,ch:=0,ms:=0,sm:=U V 0 0,ss:=U V 0 0}
theorem NL (c l m i n):iv c l m i (n+1)=iv c l m i n+(if aP m n=aa then(if c.id<(n:Int)then cj (eK c l n) i else 4294967296-cj (eK c l n) i)else 0):=rfl
theorem Nw (c l m k)(hk:k<c.M.toNat):(dy c l m).take (k+1)=(dy c l m).take k++[((k:Int)+1,kf c l m k%4294967296,0,0)]:=by
 have hl:k<(dy c l m).length:=by rw[mI];exact hk
 rw[gV hl,<-cd _ k hl,rZ c l m k hk]
def rJ (S:PS)(f:Nat->Pr):PS:={S with ph:=3,f:=f,inp:=U V 0 0,ch:=0,ms:=0,sd:=0,sm:=U V 0 0,ss:=U V 0 0}
theorem Ug (c k b a n):(ed c k b a n).length<=n:=by unfold ed;rw[dI];exact fJ (pW _ _) (by simp)
theorem GQ{α:Type}{l:List α}{p q}(h:∀x∈l,p x=q x):l.all p=l.all q:=by
 induction l with
 |nil=>rfl
 |cons a l ih=>rw[AH,AH,h a iE,ih (λx hx=>h x (ks _ hx))]
def qY (S:PS)(v:ag):PS:={S with ph:=4,f:=λ_=>Pr.z,told:=v}
def fP (c:Cl)(s:aO.St)(zs:List Int):aO.St:=match cJ zs with
 |none=>s
 |some f=>fQ c s f
def fM (c:Cl)(s:aO.St)(zs:List Int):Option aO.Fr:=match cJ zs with
 |none=>V
 |some f=>if (fQ c s f).1=s.1 then V else rG c (fQ c s f)
theorem um{s zs}(h:cJ zs=V):fP c s zs=s/\fM c s zs=V:=by unfold fP fM;rw[h];exact⟨rfl,rfl⟩
theorem uo{s zs}{f:aO.Fr}(h:cJ zs=E f):fP c s zs=fQ c s f/\fM c s zs=if (fQ c s f).1=s.1 then V else rG c (fQ c s f):=by unfold fP fM;rw[h];exact⟨rfl,rfl⟩
theorem wV{s zs l}(h:cJ zs=E (k,fr,l))(h1:¬(s.1=1/\k=2))(h2:¬(s.1=2/\k=4))(h3:¬(s.1=3/\k=6)):fP c s zs=s/\fM c s zs=V:=by have e:=ov c s (k,fr,l) h1 h2 h3;obtain⟨a1,a2⟩:=uo (c:=c) (s:=s) h;rw[a1,a2,e,au rfl];exact⟨rfl,rfl⟩
theorem wU{s zs l}(h:cJ zs=E (2,fr,l))(h1:s.1=1):
  fP c s zs=(if gB c l=aa then(2,l,[],[])else(0,l,[],[]))/\fM c s zs=(if gB c l=aa then E (3,c.id,fO c l)else V):=by
 obtain⟨a1,a2⟩:=uo (c:=c) (s:=s) h;have e:fQ c s (2,fr,l)=(if gB c l=aa then(2,l,[],[])else(0,l,[],[])):=by unfold fQ;rw[au ⟨h1,rfl⟩]
 rw[a1,a2,e,h1];cases gB c l<;>exact⟨rfl,rfl⟩
theorem wT{s zs l}(h:cJ zs=E (4,fr,l))(h1:s.1=2):
  fP c s zs=(if d_ c s.2.1 l=aa then(3,s.2.1,l,[])else(0,s.2.1,l,[]))/\fM c s zs=(if d_ c s.2.1 l=aa then E (5,c.id,dy c s.2.1 l)else V):=by
 obtain⟨a1,a2⟩:=uo (c:=c) (s:=s) h;have e:fQ c s (4,fr,l)=(if d_ c s.2.1 l=aa then(3,s.2.1,l,[])else(0,s.2.1,l,[])):=by unfold fQ;rw[ar (by rw[h1];simp),au ⟨h1,rfl⟩]
 rw[a1,a2,e,h1];cases d_ c s.2.1 l<;>exact⟨rfl,rfl⟩
theorem wS{s zs l}(h:cJ zs=E (6,fr,l))(h1:s.1=3):
  fP c s zs=(if gZ c s.2.2.1 l=aa then(4,s.2.1,s.2.2.1,l)else(0,s.2.1,s.2.2.1,l))/\fM c s zs=(if gZ c s.2.2.1 l=aa then E (7,c.id,aO.tells c s.2.1 s.2.2.1 l)else V):=by
 obtain⟨a1,a2⟩:=uo (c:=c) (s:=s) h;have e:fQ c s (6,fr,l)=(if gZ c s.2.2.1 l=aa then(4,s.2.1,s.2.2.1,l)else(0,s.2.1,s.2.2.1,l)):=by unfold fQ;rw[ar (by rw[h1];simp),ar (by rw[h1];simp),au ⟨h1,rfl⟩]
 rw[a1,a2,e,h1];cases gZ c s.2.2.1 l<;>exact⟨rfl,rfl⟩
theorem mz.after{w w1 w' b S' va o}(h:mz w1 w' b S' va o)(hb:w.1.size<=w1.1.size):mz w w' b S' va o:=by
 cases o with
 |none=>exact h
 |some f=>exact⟨cS h.1 hb,h.2⟩
theorem mz.form{w w' b S' va o}(h:mz w w' b S' va o):∃a n cap,va=U a n cap:=by
 cases o with
 |none=>exact⟨V,0,0,h⟩
 |some f=>obtain⟨a,cap,e⟩:=a_ h.1;exact⟨a,_,cap,e⟩
theorem Px (n):(37:Int) ^ n%2305843009213693951≠0:=by
 induction n with
 |zero=>rw[sS];decide
 |succ n ih=> rw[nB];intro h;rcases tA.mul_zero _ _ h with e|e;exact ih e;exact absurd e (by decide)
theorem DI:bK (bB 37 k)=aa:=by rw[pd];have h1:=ki 37 k;have h2:=kh 37 k;have h3:bB 37 k≠0:=Px k.toNat;omega
def fG (c:Cl):List aq.It:=[(c.id,kj c,aO.eU c,0)]
theorem tQ (hc:dr c):aq.okF 1 c.id (fG c)=aa:=by
 have O:=hc.i;have gn:=hc.n;have e1:bE c.id=aa:=dW O.1 (by omega);have e2:bK (kj c)=aa:=DI;have e3:bK (aO.eU c)=aa:=DI;have a1:decide ((fG c).length<=12)=aa:=rfl;have a2:dv 1 c.id=aa:=e1;have a3:bN (fG c)=aa:=iJ λi hi=>by
  obtain rfl:i=0:=by simpa[fG]using hi
  show(bE c.id&&(decide (0=0)||_))=aa;rw[e1];rfl
 have a4:ej 1 c.id (fG c)=aa:=by show(decide ((fG c).length=1)&& !aq.hE (fG c) c.id)=aa;have:hE (fG c) c.id=Y:=la 0 (by simp[fG]) (by show decide (c.id≠c.id)=Y;simp);rw[this];rfl
 have a5:iw 1 (fG c)=aa:=iJ λi hi=>by
  obtain rfl:i=0:=by simpa[fG]using hi
  show(bK (kj c)&&(bK (aO.eU c)&&zB 0))=aa;rw[e2,e3];rfl
 unfold aq.okF;rw[a1,a2,a3,a4,a5];rfl
def gl (c:Cl)(s:aO.St):List aq.It:=if s.1=4 then aO.tells c s.2.1 s.2.2.1 s.2.2.2 else[]
theorem Qr (hc:dr c){s}:(gl c s).length<=12:=by unfold gl;split;exact(en (sK hc _ _ _)).1;simp
end
section
open Go.RowKit
def bp (w:ac)(g:Nat)(T:cn)(N:Nat)(f:Nat->ag):Prop:=w.1[g]?=E (ah ((List.range N).map f).toArray T (0,0))
theorem vE (N)(f:Nat->ag)(t)(ht:t<N):((List.range N).map f)[t]?=E (f t):=by rw[dC,oz ht];rfl
section
variable {w w':ac}{g N:Nat}{T:cn}{f f':Nat->ag}
theorem bp.cell (h:bp w g T N f)(t)(ht:t<N):w.cell? ⟨g,t,V⟩=E (f t):=by rw[bg w g t _ _ (0,0) h,tu];exact vE N f t ht
theorem bp.bF (h:bp w g T N f)(t):w.frozen? ⟨g,t,V⟩=Y:=eh w g t _ _ h
theorem bp.lt (h:bp w g T N f):g<w.1.size:=by by_cases hb:g<w.1.size;exact hb;unfold bp at h;rw[cT (by omega)]at h;cases h
theorem bp.block (h:bp w g T N f)(e:w'.1[g]?=w.1[g]?):bp w' g T N f:=e.trans h
theorem bp.ext (h:bp w g T N f)(e:∀t,t<N->f t=f' t):bp w g T N f':=by unfold bp at h ⊢;rw[h];congr 3;apply mj;intro t ht;exact e t (eW.1 ht)
theorem bp.upd (h:bp w g T N f)(t)(ht:t<N)(v)(hz:f' t=v)(e:∀u,u<N->u≠t->f' u=f u):bp (w.setCell ⟨g,t,V⟩ v) g T N f':=by
 have:=bI w g t _ _ v h;unfold bp;rw[this,mv];congr 3;apply xz;intro u;rw[tq];by_cases hu:u<N
 ·rw[vE N f' u hu];by_cases O:t=u;·subst O;rw[au rfl,au (by simpa using ht),hz]
  rw[ar O,vE N f u hu,e u hu (λx=>O x.symm)]
 rw[jM (by simp;omega)];by_cases O:t=u;omega;rw[ar O,jM (by simp;omega)]
theorem bp.set (h:bp w g T N f)(t)(ht:t<N)(v):bp (w.setCell ⟨g,t,V⟩ v) g T N (λu=>if u=t then v else f u):=h.upd t ht v (au rfl) (λu _ hu=>ar hu)
end
theorem bp.range{w g N T f}(h:bp w g T N f)(o n)(hn:o+n<=N):w.rangeAt g o ((List.range n).map λj=>f (o+j)):=λj v e=>by
 have hj:j<n:=by have:=(fC.1 e).1;simpa using this
 rw[dC,oz hj]at e;rw[h.cell (o+j) (by omega)];exact e
theorem bp.there{w g N T f}(h:bp w g T N f)(o n)(hn:o+n<=N):w.there g o n:=λj hj=>⟨by rw[h.cell (o+j) (by omega)];rfl,h.bF _⟩
theorem bp.gU{w g N T f}(h:bp w g T N f)(f'):bp (w.setCells g 0 ((List.range N).map f')) g T N f':=by
 have hh:∀(vs:List ag)(pre:List ag)(mid:List ag)(w:ac),mid.length=vs.length->w.1[g]?=E (ah (pre++mid).toArray T (0,0))->(w.setCells g pre.length vs).1[g]?=E (ah (pre++vs).toArray T (0,0)):=by
  intro vs
  induction vs with
  |nil=>intro pre mid w hl h;rw[ku hl]at h;exact h
  |cons v vs ih=>
   intro pre mid w hl h;obtain⟨m,ms,rfl⟩:∃m ms,mid=m::ms:=by cases mid with|nil=>simp at hl|cons m ms=>exact⟨m,ms,rfl⟩
   have h1:=bI w g pre.length _ T v h;rw[mv,uI _ _ (aw _),nD]at h1;have h2:=ih (pre++[v]) ms (w.setCell ⟨g,pre.length,V⟩ v) (by simpa using hl) (by simpa using h1);rw[World.setCells];rw[cy]at h2;simpa using h2
 exact hh _ [] _ w (by simp) h
def bw (w:ac)(b o:Nat)(vs:List ag):Prop:=∀j v,vs[j]?=E v->w.cell? ⟨b,o+j,V⟩=E v/\w.frozen? ⟨b,o+j,V⟩=Y
section
variable {w w':ac}{b o:Nat}{vs:List ag}
theorem bw.cell (h:bw w b o vs)(j){v}(e:vs[j]?=E v):w.cell? ⟨b,o+j,V⟩=E v:=(h j v e).1
theorem bw.bF (h:bw w b o vs)(j)(hj:j<vs.length):w.frozen? ⟨b,o+j,V⟩=Y:=(h j vs[j] (aQ hj)).2
theorem bw.range (h:bw w b o vs):w.rangeAt b o vs:=λj v e=>(h j v e).1
theorem bw.there (h:bw w b o vs)(k n)(hn:k+n<=vs.length):w.there b (o+k) n:=λj hj=>by have e:=aQ (show k+j<vs.length by omega);have:=h (k+j) _ e;rw[<-jr]at this;exact⟨by rw[this.1];rfl,this.2⟩
theorem bw.part{pre mid post}(h:bw w b o (pre++(mid++post))):bw w b (o+pre.length) mid:=λj v e=>by have:=h (pre.length+j) v (by rw[fo (by omega),Av,ey (fC.1 e).1];exact e);rw[<-jr]at this;exact this
theorem bw.keep (h:bw w b o vs)(hc:∀j,j<vs.length->w'.cell? ⟨b,o+j,V⟩=w.cell? ⟨b,o+j,V⟩)(hf:∀j,j<vs.length->w'.frozen? ⟨b,o+j,V⟩=w.frozen? ⟨b,o+j,V⟩):bw w' b o vs:=λj v e=>by have hj:=(fC.1 e).1;rw[hc j hj,hf j hj];exact h j v e
theorem mF (e:w'.1[b]?=w.1[b]?)(i):w'.frozen? ⟨b,i,V⟩=w.frozen? ⟨b,i,V⟩:=by unfold World.frozen?;simp only[e]
theorem bw.block (h:bw w b o vs)(e:w'.1[b]?=w.1[b]?):bw w' b o vs:=h.keep (λj _=>ez (w:=w) e) (λj _=>mF e _)
theorem bw.lt (h:bw w b o vs)(hn:0<vs.length):b<w.1.size:=by by_cases hb:b<w.1.size;exact hb;have:=(h 0 vs[0] (aQ hn)).1;unfold World.cell? at this;rw[cT (by show w.1.size<=b;omega)]at this;cases this
theorem bw.set (h:bw w b o vs)(j)(hj:j<vs.length)(x):bw (w.setCell ⟨b,o+j,V⟩ x) b o (vs.set j x):=λi v e=>by rw[mS];rw[tq]at e;by_cases O:j=i;subst O;rw[au rfl,au hj]at e;have e':=nI e;subst e';have:=h j vs[j] (aQ hj);exact⟨xy _ _ _ this.1,this.2⟩;rw[ar O]at e;have:=h i v e;refine⟨?_,this.2⟩;rw[lO (h:=by intro q;injection q with q1 q2 q3;omega)];exact this.1
theorem bw.setAt (h:bw w b o vs)(j)(hj:j<vs.length)(x){vs'}(e:vs.set j x=vs'):bw (w.setCell ⟨b,o+j,V⟩ x) b o vs':=e▸h.set j hj x
theorem bw.pE{pre mid post}(h:bw w b o (pre++(mid++post)))(ms)(hl:ms.length=mid.length):bw (w.setCells b (o+pre.length) ms) b o (pre++(ms++post)):=λi v e=>by
 rw[F_];have hi:=(fC.1 e).1;simp only[List.length_append]at hi;have hlen:i<(pre++(mid++post)).length:=by simp only[List.length_append];omega
 have hold:=h i _ (aQ hlen);refine⟨?_,hold.2⟩;by_cases h1:i<pre.length;rw[AG b ms _ w _ (λ_ _=>.inl (by show o+i<o+pre.length;omega))];rw[ey h1]at e;exact(h i v (by rw[ey h1];exact e)).1;by_cases h2:i<pre.length+ms.length
 ·have hh:=World.cell?_setCells_in b ms (o+pre.length) w (λj hj=>by
   have hm:pre.length+j<(pre++(mid++post)).length:=by simp only[List.length_append];omega
   have:=(h (pre.length+j) _ (aQ hm)).1;rw[<-jr]at this;rw[this];rfl) (i-pre.length) (by omega);rw[show o+pre.length+(i-pre.length)=o+i by omega]at hh;rw[hh];rw[fo (by omega),ey (by omega)]at e;rw[<-e];exact(aQ _).symm
 rw[AG b ms _ w _ (λ_ _=>.inr (by show o+pre.length+ms.length<=o+i;omega))];refine(h i v ?_).1;rw[fo (by omega),fo (by omega)]at e ⊢;rw[hl]at e;exact e
theorem bw.gU (h:bw w b o vs)(ms)(hl:ms.length=vs.length):bw (w.setCells b o ms) b o ms:=by have:=bw.pE (pre:=[]) (mid:=vs) (post:=[]) (by rw[ew];exact h) ms hl;rw[ew]at this;exact this
end
def v13 (f:Nat->ag):List ag:=[f 0,f 1,f 2,f 3,f 4,f 5,f 6,f 7,f 8,f 9,f 10,f 11,f 12]
def jo (f:Nat->ag)(v:Nat)(x:ag):Nat->ag:=λu=>if u=v then x else f u
theorem sL{v}(hv:v<13):v=0\/v=1\/v=2\/v=3\/v=4\/v=5\/v=6\/v=7\/v=8\/v=9\/v=10\/v=11\/v=12:=by omega
theorem sN (f v)(hv:v<13):(v13 f)[v]?=E (f v):=by rcases sL hv with rfl|rfl|rfl|rfl|rfl|rfl|rfl|rfl|rfl|rfl|rfl|rfl|rfl<;>rfl
theorem Ut (f v)(hv:v<13)(x):(v13 f).set v x=v13 (jo f v x):=by rcases sL hv with rfl|rfl|rfl|rfl|rfl|rfl|rfl|rfl|rfl|rfl|rfl|rfl|rfl<;>rfl
theorem Us{f g}(h:∀v,v<13->f v=g v):v13 f=v13 g:=by unfold v13;rw[h 0 (by omega),h 1 (by omega),h 2 (by omega),h 3 (by omega),h 4 (by omega),h 5 (by omega),h 6 (by omega),h 7 (by omega),h 8 (by omega),h 9 (by omega),h 10 (by omega),h 11 (by omega),h 12 (by omega)]
theorem ra (f):(v13 f).length=13:=rfl
theorem q_{P:ag->Prop}{f}(h:∀v,v<13->P (f v)):∀x∈v13 f,P x:=λx hx=>by simp only[v13,List.mem_cons,List.not_mem_nil,or_false]at hx;rcases hx with rfl|rfl|rfl|rfl|rfl|rfl|rfl|rfl|rfl|rfl|rfl|rfl|rfl<;>exact h _ (by omega)
structure SS where
 n:Int
 t:Int
 m:Int
 d:Int
 tm:Int
 rd:Int
 sn:Nat->Bool
 ct:Nat->Bool
 it:Nat->ag
 pb:Nat->Int
 sh:Nat->Bool
 ml:ag
 st:Int
 ro:Int
 set:ag
 sum:ag
def dT (f:Nat->Bool):List ag:=v13 λu=>ak (f u)
def i13 (f:Nat->Int):List ag:=v13 λu=>Z J (f u)
def lG (s:SS):List ag:=[Z J s.n,Z J s.t,Z J s.m,Z J s.d,Z J s.tm,Z J s.rd]
def nw (s:SS):List ag:=[s.ml,Z J s.st,Z J s.ro,s.set,s.sum]
def cM (s:SS):List ag:=lG s++(dT s.sn++(dT s.ct++(v13 s.it++(i13 s.pb++(dT s.sh++nw s)))))
theorem pF (s):(cM s).length=76:=rfl
def aR (w:ac)(b:Nat)(s:SS):Prop:=bw w b 0 (cM s)
section
variable {w w':ac}{b:Nat}{s:SS}
theorem aR.lt (h:aR w b s):b<w.1.size:=bw.lt h (by rw[pF];omega)
theorem aR.at_ (h:aR w b s)(j){v}(e:(cM s)[j]?=E v):w.cell? ⟨b,j,V⟩=E v:=by have:=bw.cell h j e;rwa [cz]at this
theorem aR.bF (h:aR w b s)(j)(hj:j<76):w.frozen? ⟨b,j,V⟩=Y:=by have:=bw.bF h j (by rw[pF];exact hj);rwa [cz]at this
theorem aR.t (h:aR w b s):w.cell? ⟨b,1,V⟩=E (Z J s.t):=h.at_ 1 rfl
theorem aR.m (h:aR w b s):w.cell? ⟨b,2,V⟩=E (Z J s.m):=h.at_ 2 rfl
theorem aR.d (h:aR w b s):w.cell? ⟨b,3,V⟩=E (Z J s.d):=h.at_ 3 rfl
theorem aR.tm (h:aR w b s):w.cell? ⟨b,4,V⟩=E (Z J s.tm):=h.at_ 4 rfl
theorem aR.rd (h:aR w b s):w.cell? ⟨b,5,V⟩=E (Z J s.rd):=h.at_ 5 rfl
theorem aR.ml (h:aR w b s):w.cell? ⟨b,71,V⟩=E s.ml:=h.at_ 71 rfl
theorem aR.st (h:aR w b s):w.cell? ⟨b,72,V⟩=E (Z J s.st):=h.at_ 72 rfl
theorem aR.ro (h:aR w b s):w.cell? ⟨b,73,V⟩=E (Z J s.ro):=h.at_ 73 rfl
theorem aR.set (h:aR w b s):w.cell? ⟨b,74,V⟩=E s.set:=h.at_ 74 rfl
theorem aR.sum (h:aR w b s):w.cell? ⟨b,75,V⟩=E s.sum:=h.at_ 75 rfl
theorem aR.Es (h:aR w b s):bw w b 6 (dT s.sn):=by have:=bw.part (pre:=lG s) h;simpa[lG]using this
theorem aR.DW (h:aR w b s):bw w b 19 (dT s.ct):=by
 have h':bw w b 0 ((lG s++dT s.sn)++(dT s.ct++(v13 s.it++(i13 s.pb++(dT s.sh++nw s))))):=by rw[ee];exact h
 exact bw.part h'
theorem aR.Ef (h:aR w b s):bw w b 32 (v13 s.it):=by
 have h':bw w b 0 ((lG s++dT s.sn++dT s.ct)++(v13 s.it++(i13 s.pb++(dT s.sh++nw s)))):=by rw[ee,ee];exact h
 exact bw.part h'
theorem aR.QR (h:aR w b s):bw w b 45 (i13 s.pb):=by
 have h':bw w b 0 ((lG s++dT s.sn++dT s.ct++v13 s.it)++(i13 s.pb++(dT s.sh++nw s))):=by rw[ee,ee,ee];exact h
 exact bw.part h'
theorem aR.zz (h:aR w b s):bw w b 58 (dT s.sh):=by
 have h':bw w b 0 ((lG s++dT s.sn++dT s.ct++v13 s.it++i13 s.pb)++(dT s.sh++nw s)):=by rw[ee,ee,ee,ee];exact h
 exact bw.part h'
theorem aR.jX (h:aR w b s)(v)(hv:v<13):w.cell? ⟨b,6+v,V⟩=E (ak (s.sn v)):=h.Es.cell v (sN _ v hv)
theorem aR.jR (h:aR w b s)(v)(hv:v<13):w.cell? ⟨b,19+v,V⟩=E (ak (s.ct v)):=h.DW.cell v (sN _ v hv)
theorem aR.vw (h:aR w b s)(v)(hv:v<13):w.cell? ⟨b,32+v,V⟩=E (s.it v):=h.Ef.cell v (sN _ v hv)
theorem aR.II (h:aR w b s)(v)(hv:v<13):w.cell? ⟨b,45+v,V⟩=E (Z J (s.pb v)):=h.QR.cell v (sN _ v hv)
theorem aR.lf (h:aR w b s)(v)(hv:v<13):w.cell? ⟨b,58+v,V⟩=E (ak (s.sh v)):=h.zz.cell v (sN _ v hv)
theorem aR.block (h:aR w b s)(e:w'.1[b]?=w.1[b]?):aR w' b s:=bw.block h e
theorem aR.below (h:aR w b s)(hb:af w.1.size w w'):aR w' b s:=h.block (hb.block b h.lt)
theorem aR.put (h:aR w b s)(j)(hj:j<76)(x){s'}(e:(cM s).set j x=cM s'):aR (w.setCell ⟨b,j,V⟩ x) b s':=by have:=bw.setAt h j (by rw[pF];exact hj) x e;rwa [cz]at this
theorem aR.zI (h:aR w b s)(x):aR (w.setCell ⟨b,4,V⟩ (Z J x)) b {s with tm:=x}:=h.put 4 (by decide) _ rfl
theorem aR.SD (h:aR w b s)(x):aR (w.setCell ⟨b,5,V⟩ (Z J x)) b {s with rd:=x}:=h.put 5 (by decide) _ rfl
theorem aR.SB (h:aR w b s)(x):aR (w.setCell ⟨b,71,V⟩ x) b {s with ml:=x}:=h.put 71 (by decide) _ rfl
theorem aR.Sw (h:aR w b s)(v)(hv:v<13)(p):aR (w.setCell ⟨b,19+v,V⟩ (ak p)) b {s with ct:=λu=>if u=v then p else s.ct u}:=by refine h.put (19+v) (by omega) _ ?_;rcases sL hv with rfl|rfl|rfl|rfl|rfl|rfl|rfl|rfl|rfl|rfl|rfl|rfl|rfl<;>rfl
theorem aR.Sy (h:aR w b s)(v)(hv:v<13)(x):aR (w.setCell ⟨b,32+v,V⟩ x) b {s with it:=jo s.it v x}:=by refine h.put (32+v) (by omega) _ ?_;rcases sL hv with rfl|rfl|rfl|rfl|rfl|rfl|rfl|rfl|rfl|rfl|rfl|rfl|rfl<;>rfl
theorem aR.gU (h:aR w b s)(s'):aR (w.setCells b 0 (cM s')) b s':=bw.gU h (cM s') (by rw[pF,pF])
theorem aR.GO (h:aR w b s)(f):aR (w.setCells b 6 (dT f)) b {s with sn:=f}:=bw.pE (pre:=lG s) h (dT f) rfl
theorem aR.GH (h:aR w b s)(f):aR (w.setCells b 19 (dT f)) b {s with ct:=f}:=by
 have h':bw w b 0 ((lG s++dT s.sn)++(dT s.ct++(v13 s.it++(i13 s.pb++(dT s.sh++nw s))))):=by rw[ee];exact h
 have:=bw.pE h' (dT f) rfl;rw[ee]at this;exact this
theorem aR.GK (h:aR w b s)(f):aR (w.setCells b 32 (v13 f)) b {s with it:=f}:=by
 have h':bw w b 0 ((lG s++dT s.sn++dT s.ct)++(v13 s.it++(i13 s.pb++(dT s.sh++nw s)))):=by rw[ee,ee];exact h
 have:=bw.pE h' (v13 f) rfl;rw[ee,ee]at this;exact this
theorem aR.GL (h:aR w b s)(f):aR (w.setCells b 45 (i13 f)) b {s with pb:=f}:=by
 have h':bw w b 0 ((lG s++dT s.sn++dT s.ct++v13 s.it)++(i13 s.pb++(dT s.sh++nw s))):=by rw[ee,ee,ee];exact h
 have:=bw.pE h' (i13 f) rfl;rw[ee,ee,ee]at this;exact this
theorem aR.GN (h:aR w b s)(f):aR (w.setCells b 58 (dT f)) b {s with sh:=f}:=by
 have h':bw w b 0 ((lG s++dT s.sn++dT s.ct++v13 s.it++i13 s.pb)++(dT s.sh++nw s)):=by rw[ee,ee,ee,ee];exact h
 have:=bw.pE h' (dT f) rfl;rw[ee,ee,ee,ee]at this;exact this
end
def fL (b:Nat)(S:SS)(x:Nat):Prop:=x=b\/(∃v,v<13/\(S.it v).ownBlock=E x)\/S.ml.ownBlock=E x\/S.set.ownBlock=E x\/S.sum.ownBlock=E x
structure jv (w:ac)(b:Nat)(C:Cf)(s:Sv)(S:SS):Prop where
 at_:aR w b S
 st:S.st=s.o.1
 ro:S.ro=s.o.2.1
 set:aY w S.set s.o.2.2.1
 sum:aY w S.sum s.o.2.2.2
 apart:∀v,v<13->(S.it v).ownBlock≠E b
 gz:S.ml.ownBlock≠E b/\S.set.ownBlock≠E b/\S.sum.ownBlock≠E b
 zero:s.o.1=0->s.o=(0,0,[],[])/\S.set=U V 0 0/\S.sum=U V 0 0
 np:s.o.1≠0->S.rd=0
 i_:s.o.1=0->S.n=C.N/\S.t=C.T/\S.m=C.M/\S.d=C.D
 now:s.o.1=0->S.tm=s.tm/\S.rd=(s.rd:Int)
 sn:s.o.1=0->∀v,v<13->S.sn v=if s.rd=0 then decide (1<=v/\(v:Int)<=C.N)else aB.mem (s.G (s.rd-1)) v
 ct:s.o.1=0->∀v,v<13->S.ct v=aB.mem (s.G s.rd) v
 it:s.o.1=0->∀v,v<13->aX w (S.it v) (aB.its (s.G s.rd) v)
 pb:s.o.1=0->1<=s.rd->∀v,v<13->S.pb v=gi s.G v
 sh:s.o.1=0->2<=s.rd->∀v,v<13->S.sh v=aB.mem (s.G 1) v
 ml:s.o.1=0->s.rd=3->aY w S.ml ((List.range C.M.toNat).map λi=>iu s.G i%4294967296)
theorem jv.keep{w w' b s S}(h:jv w b C s S)(hs:w.1.size<=w'.1.size)(ha:aR w' b S)(hb:∀x,x≠b->fL b S x->w'.1[x]?=w.1[x]?):jv w' b C s S where
 at_:=ha
 st:=h.st
 ro:=h.ro
 set:=h.set.keep hs λx hx=>hb x (λe=>h.gz.2.1 (e▸hx)) (.inr (.inr (.inr (.inl hx))))
 sum:=h.sum.keep hs λx hx=>hb x (λe=>h.gz.2.2 (e▸hx)) (.inr (.inr (.inr (.inr hx))))
 apart:=h.apart
 gz:=h.gz
 zero:=h.zero
 np:=h.np
 i_:=h.i_
 now:=h.now
 sn:=h.sn
 ct:=h.ct
 it:=λp v hv=>(h.it p v hv).keep hs λx hx=>hb x (λe=>h.apart v hv (e▸hx)) (.inr (.inl ⟨v,hv,hx⟩))
 pb:=h.pb
 sh:=h.sh
 ml:=λp r=>(h.ml p r).keep hs λx hx=>hb x (λe=>h.gz.1 (e▸hx)) (.inr (.inr (.inl hx)))
structure jw (w:ac)(b:Nat)(C:Cf)(s:Sv)(S:SS):Prop where
 ba:jv w b C s S
 low:∀x,fL b S x->x<w.1.size
theorem jw.keep{w w' b s S}(h:jw w b C s S)(hs:w.1.size<=w'.1.size)(hb:∀x,fL b S x->w'.1[x]?=w.1[x]?):jw w' b C s S:=
 ⟨h.ba.keep hs (h.ba.at_.block (hb b (.inl rfl))) (λx _ hx=>hb x hx),λx hx=>cG (h.low x hx) hs⟩
theorem jw.below{w w' b s S}(h:jw w b C s S)(hb:af w.1.size w w'):jw w' b C s S:=h.keep hb.size (λx hx=>hb.block x (h.low x hx))
end
section
open Go.ChangeShapes Go.WideShapes Go.ChangeAt Go.RowKit
def kL (f:Nat->Bool):ag:=aD (aN f).toArray
theorem gu:(prog.info? 101).map (·.size)=E 13:=by kernel_rfl
theorem zN:(prog.info? 104).map (·.size)=E 13:=by kernel_rfl
theorem zL:(prog.info? 103).map (·.size)=E 13:=by kernel_rfl
theorem EM:(prog.info? 147).map (·.size)=E 4:=by kernel_rfl
theorem LZ (f w):(Instr.index 101 (aD (aN f).toArray) (Z J ((0:Nat):Int))).run prog w=.ok (ak (f 0)) w:=by kernel_rfl
theorem L_ (f w):(Instr.index 101 (aD (aN f).toArray) (Z J ((1:Nat):Int))).run prog w=.ok (ak (f 1)) w:=by kernel_rfl
theorem Mc (f w):(Instr.index 101 (aD (aN f).toArray) (Z J ((2:Nat):Int))).run prog w=.ok (ak (f 2)) w:=by kernel_rfl
theorem Md (f w):(Instr.index 101 (aD (aN f).toArray) (Z J ((3:Nat):Int))).run prog w=.ok (ak (f 3)) w:=by kernel_rfl
theorem Me (f w):(Instr.index 101 (aD (aN f).toArray) (Z J ((4:Nat):Int))).run prog w=.ok (ak (f 4)) w:=by kernel_rfl
theorem Mf (f w):(Instr.index 101 (aD (aN f).toArray) (Z J ((5:Nat):Int))).run prog w=.ok (ak (f 5)) w:=by kernel_rfl
theorem Mg (f w):(Instr.index 101 (aD (aN f).toArray) (Z J ((6:Nat):Int))).run prog w=.ok (ak (f 6)) w:=by kernel_rfl
theorem Mh (f w):(Instr.index 101 (aD (aN f).toArray) (Z J ((7:Nat):Int))).run prog w=.ok (ak (f 7)) w:=by kernel_rfl
theorem Mi (f w):(Instr.index 101 (aD (aN f).toArray) (Z J ((8:Nat):Int))).run prog w=.ok (ak (f 8)) w:=by kernel_rfl
theorem Mj (f w):(Instr.index 101 (aD (aN f).toArray) (Z J ((9:Nat):Int))).run prog w=.ok (ak (f 9)) w:=by kernel_rfl
theorem L' (f w):(Instr.index 101 (aD (aN f).toArray) (Z J ((10:Nat):Int))).run prog w=.ok (ak (f 10)) w:=by kernel_rfl
theorem Ma (f w):(Instr.index 101 (aD (aN f).toArray) (Z J ((11:Nat):Int))).run prog w=.ok (ak (f 11)) w:=by kernel_rfl
theorem Mb (f w):(Instr.index 101 (aD (aN f).toArray) (Z J ((12:Nat):Int))).run prog w=.ok (ak (f 12)) w:=by kernel_rfl
theorem nV (f)(k:Nat)(hk:k<13)(w):(Instr.index 101 (aD (aN f).toArray) (Z J (k:Int))).run prog w=.ok (ak (f k)) w:=by rcases sL hk with rfl|rfl|rfl|rfl|rfl|rfl|rfl|rfl|rfl|rfl|rfl|rfl|rfl;exact LZ f w;exact L_ f w;exact Mc f w;exact Md f w;exact Me f w;exact Mf f w;exact Mg f w;exact Mh f w;exact Mi f w;exact Mj f w;exact L' f w;exact Ma f w;exact Mb f w
theorem rI (w:ac)(T f):bZ (w.alloc (ah (aN f).toArray T)) w.1.size T f:=bo w _
theorem JP (n w):
  ay prog 190 #[Z J n] w λe w'=>e=.returned (kL λu=>decide (1<=u/\(u:Int)<=n))/\af w.1.size w w':=by
 have HA:=I (my w (ah (aN λ_=>Y).toArray 101) (ah (aN λ_=>Y).toArray 101));have az:=I (jN w (ah (aN λ_=>Y).toArray 101) (ah (aN λ_=>Y).toArray 101));unfold kL;go_enter func190,ntmps190;go_wp2;go_loopw [5] (λi wr=>∃k:Nat,k<=13/\i=Z J k/\bZ wr (w.1.size+1) 101 (λu=>decide (u<k)&&decide (1<=u/\(u:Int)<=n))/\bZ wr w.1.size 101 (λ_=>Y)/\af w.1.size w wr) (λi _=>13-(aA i).toNat);case atStart=> refine⟨0,by omega,rfl,?_,?_,((ax _ _).alloc (aw _) _).alloc (by simp) _⟩;exact az.o;exact HA.o
 obtain⟨k,hk,rfl,aG,aH,aF⟩:=hrel;have ae:=I aG;have O:=I aH;have HB:=I aF;by_cases hlt:k<13
 ·have aI:(k:Int)<13:=by omega
  have z0:=ae.o.cell k hlt;have zf:=ae.o.bF k
  have ag:=I (λ(p:Bool)(hp:p=decide (1<=k/\(k:Int)<=n))=>(show bZ (wr.setCell ⟨w.1.size+1,k,V⟩ (ak p)) (w.1.size+1) 101 (λu=>decide (u<k+1)&&decide (1<=u/\(u:Int)<=n))from
   (ae.o.set k hlt p).ext (λv hv=>by
    unfold fR;by_cases e:v=k;subst e;rw[au rfl,aK (show v<v+1 by omega),hp];rfl;rw[ar e];show(decide (v<k)&&decide (1<=v/\(v:Int)<=n))=(decide (v<k+1)&&decide (1<=v/\(v:Int)<=n));by_cases c:v<k;·rw[aK c,aK (show v<k+1 by omega)]
    rw[aM c,aM (show¬v<k+1 by omega)])));by_cases c1:1<=k
  ·have aD:(1:Int)<=(k:Int):=by omega
   by_cases c2:(k:Int)<=n
   ·have HP:=I (ag.o aa (aK ⟨c1,c2⟩).symm);go_wp2;go_roundw;case rel=>exact⟨k+1,by omega,by go_num,HP.o,O.o.block (fI _ _ _ _ (by simp)),HB.o.setCell (p:=⟨w.1.size+1,k,V⟩) (by show w.1.size<=w.1.size+1;omega) _⟩
    simp[aA];omega
   have HP:=I (ag.o Y (aM (by omega)).symm);go_wp2;go_roundw;case rel=>exact⟨k+1,by omega,by go_num,HP.o,O.o.block (fI _ _ _ _ (by simp)),HB.o.setCell (p:=⟨w.1.size+1,k,V⟩) (by show w.1.size<=w.1.size+1;omega) _⟩
   simp[aA];omega
  have aD:¬(1:Int)<=(k:Int):=by omega
  have HP:=I (ag.o Y (aM (by omega)).symm);go_wp2;go_roundw;case rel=>exact⟨k+1,by omega,by go_num,HP.o,O.o.block (fI _ _ _ _ (by simp)),HB.o.setCell (p:=⟨w.1.size+1,k,V⟩) (by show w.1.size<=w.1.size+1;omega) _⟩
  simp[aA];omega
 have ek:k=13:=by omega
 subst ek;have HST:=A (bZ wr (w.1.size+1) 101 (λu=>decide (1<=u/\(u:Int)<=n))) (ae.o.ext (λv hv=>by rw[aK hv];rfl));have RG:=I HST.o.range;have LX:=I (eN (λu=>decide (1<=u/\(u:Int)<=n)));have ai:=I (dN (ld (λu=>decide (1<=u/\(u:Int)<=n))));have aq:=I (show wr.there w.1.size 0 (aN (λu=>decide (1<=u/\(u:Int)<=n))).toArray.size from λi hi=>by rw[bR,eN]at hi;exact⟨by rw[cz,O.o.cell i hi];rfl,by rw[cz];exact O.o.bF i⟩);have am:=I (show(wr.setCells w.1.size 0 (aN (λu=>decide (1<=u/\(u:Int)<=n)))).1[w.1.size]?=E (ah (aN (λu=>decide (1<=u/\(u:Int)<=n))).toArray 101 (0,0))by have:=kI w.1.size 101 (aN (λu=>decide (1<=u/\(u:Int)<=n))) [] (aN λ_=>Y) [] wr rfl (by rw[ew];exact O.o);rw[ew]at this;exact this);have BF:=A (af w.1.size w (wr.setCells w.1.size 0 (aN (λu=>decide (1<=u/\(u:Int)<=n))))) (dU (aw _) _ _ _ HB.o);obtain⟨CS,av⟩:=aj (aN (λu=>decide (1<=u/\(u:Int)<=n)));rw[<-av]at RG LX ai aq am BF;have aB:=I av;have ap:=A ((prog.info? 101).map (·.size)=E CS.toArray.size) (by rw[gu,bR,LX.o]);have aC:=A ((prog.info? 101).map (·.size)=E CS.length) (by rw[gu,LX.o]);go_wp2_with(first|refine eM rfl 101 _ rfl (w.1.size+1) 0 rfl CS _ RG.o iX rfl aC.o ?_|refine cB rfl 101 _ _ rfl w.1.size 0 CS.toArray rfl rfl aq.o ap.o ai.o ?_);refine cQ (ic rfl _ _ w.1.size 101 CS.toArray (0,0) _ rfl am.o iX rfl ap.o) rfl ?_;exact⟨by rw[aB.o],BF.o⟩
theorem EL (f w):
  ay prog 195 #[kL f] w λe w'=>e=.returned (Z J ((aT f).length:Int))/\af w.1.size w w':=by
 unfold kL;have HB:=I (rI w 101 f);have BB:=A (af w.1.size w (w.alloc (ah (aN f).toArray 101))) ((ax _ _).alloc (aw _) _);have Y:=I (rI w 101 f).range;have ae:=I (nV f);have LX:=I (eN f);obtain⟨W,hW⟩:=aj (w.alloc (ah (aN f).toArray 101));rw[<-hW]at HB BB Y;have HW:=I hW;clear hW;obtain⟨X,hX⟩:=aj (aN f);rw[<-hX]at HW Y ae LX ⊢;clear hX;go_enter func195,ntmps195;go_upto_region 2 with fail;rw[<-HW.o];go_wp2_with(refine eM rfl 101 _ rfl w.1.size 0 rfl X _ Y.o iX rfl ?z ?_);case z=>rw[gu,LX.o]
 go_wp2;go_loop [3,7] (λn u=>∃k:Nat,k<=13/\u=Z J (k:Int)/\n=Z J ((bV f k).length:Int)) (λ_ u=>13-(aA u).toNat);case atStart=>exact⟨0,by omega,rfl,rfl⟩
 obtain⟨k,hk,rfl,rfl⟩:=hrel;have hle:=gC f k;have HS:=I (iM f k);obtain⟨m,hm⟩:=aj ((bV f k).length);rw[<-hm]at hle ⊢;have O:=I hm;clear hm;by_cases hlt:k<13
 ·have ai:(k:Int)<13:=by omega
  have ag:=ae.o k hlt;cases q:f k
  ·rw[q]at ag;have aa:=A ((bV f (k+1)).length=m) (by rw[HS.o,q,O.o];simp);clear q;go_wp2;go_round;case rel=>exact⟨k+1,by omega,by go_num,by rw[aa.o]⟩
   simp[aA];omega
  rw[q]at ag;have aa:=A ((bV f (k+1)).length=m+1) (by rw[HS.o,q,O.o];simp);clear q;go_wp2;go_round;case rel=>exact⟨k+1,by omega,by go_num,by rw[aa.o];go_num⟩
  simp[aA];omega
 have ek:k=13:=by omega
 subst ek;go_wp2;go_ret;exact⟨by rw[O.o];rfl,BB.o⟩
end
end Go.Proofs.YtchideljndagjabGreat


