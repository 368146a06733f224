/- Joined -/
import Derived.Test.YtchideljndagjabGreatUAT
set_option linter.unusedVariables false
set_option maxHeartbeats 4000000
set_option maxRecDepth 100000
namespace Go.Proofs.YtchideljndagjabGreat
open aq aO aB bb eH
open Go.Value renaming int->Z,slice->U,bool->ak,pointer->aC,agg->aD,tuple->br
open Go.IntKind renaming i64->J
open Go.Obj renaming cells->ah
open Go.Ending renaming returned->az
open Or renaming inl->ae,inr->Q
open Option renaming none->V,some->E
open Bool renaming false->Y,true->aa
open Go renaming World->ac,Value->ag,Calls->ay
open Go.RowKit renaming Below->af,intOf->aA
abbrev Ge:=@Proofs.Tryz.underlying106
abbrev Gf:=@Proofs.Tryz.underlying35
abbrev mU:=@Proofs.Tryz.underlying203
open Go.Proofs.Tryz
variable {c:Cl}{M N:Int}{zs:List Int}{T:TypeId}{v:ag}
section
open Go.ChangeShapes Go.WideShapes Go.ChangeAt Go.RowKit
def fS:SS:=iP 0 0 (U V 0 0) (U V 0 0)
def gP (N T M D:Int)(f:Nat->Bool):SS:={fS with n:=N,t:=T,m:=M,d:=D,sn:=f}
theorem rh:zeroCells106=(cM fS).toArray:=by kernel_rfl
theorem FB:zeroCells106.toList=cM fS:=by rw[rh]
def gY (w:ac)(b:Nat)(T:TypeId)(s:SS):Prop:=w.1[b]?=E (ah (cM s).toArray T (0,0))
theorem gY.at_{w b s}(h:gY w b T s):aR w b s:=λj v e=>by rw[cz];refine⟨?_,eh w b j _ T h⟩;rw[bg w b j _ T (0,0) h];simpa using e
theorem gY.gU{w b s}(h:gY w b T s)(s'):gY (w.setCells b 0 (cM s')) b T s':=by have:=kI b T (cM s') [] (cM s) [] w rfl (by rw[ew];exact h);rw[ew]at this;exact this
theorem gY.block{w w' b s}(h:gY w b T s)(e:w'.1[b]?=w.1[b]?):gY w' b T s:=e.trans h
theorem tN (N T M D f):∀v∈cM (gP N T M D f),v.oneCell'=aa:=uj (λ_ _=>rfl) rfl rfl rfl
def lF (O:Array ag)(w:ac)(N T M D:Int):ac:=(w.alloc (ah #[Z J N,Z J T,Z J M,Z J D] 26)).alloc (ah O 106)
theorem wR (w N T M D):af w.1.size w (lF zeroCells106 w N T M D)/\(lF zeroCells106 w N T M D).1.size=w.1.size+2/\gY (lF zeroCells106 w N T M D) (w.1.size+1) 106 fS:=by refine⟨((ax _ _).alloc (aw _) _).alloc (by simp) _,by simp[lF],?_⟩;unfold gY lF;rw[<-rh];exact jN w _ _
theorem EP (w N T M D){W}(hb:af (lF zeroCells106 w N T M D).1.size (lF zeroCells106 w N T M D) W):
  W.cell? ⟨w.1.size,0,V⟩=E (Z J N)/\W.cell? ⟨w.1.size,1,V⟩=E (Z J T)/\W.cell? ⟨w.1.size,2,V⟩=E (Z J M)/\W.cell? ⟨w.1.size,3,V⟩=E (Z J D):=by have hs:=(wR w N T M D).2.1;have hr:W.1[w.1.size]?=E (ah #[Z J N,Z J T,Z J M,Z J D] 26 (0,0)):=(hb.block _ (by omega)).trans (my w _ _);refine⟨?_,?_,?_,?_⟩;rw[bg W w.1.size 0 _ _ (0,0) hr];rfl;rw[bg W w.1.size 1 _ _ (0,0) hr];rfl;rw[bg W w.1.size 2 _ _ (0,0) hr];rfl;rw[bg W w.1.size 3 _ _ (0,0) hr];rfl
theorem EQ (w N T M D s)(h1:∀v∈cM s,v.oneCell'=aa){W}(hb:af (lF zeroCells106 w N T M D).1.size (lF zeroCells106 w N T M D) W):
  ∃X,(storeCells ⟨w.1.size+1,0,V⟩ (cM s)).run prog W=.ok () X/\X.1[w.1.size+1]?=E (ah (cM s).toArray 106 (0,0))/\af w.1.size w X:=by obtain⟨f1,f2,f3⟩:=wR w N T M D;have hp:=f3.block (hb.block _ (by omega));refine⟨_,zT prog (w.1.size+1) 0 (cM s) W ?_ h1,hp.gU s,dU (by omega) _ _ _ (f1.trans (hb.mono (by omega)))⟩;exact hp.at_.there 0 76 (by omega)
theorem Rx{T}(D w)(h:dV N T M D=Y):
  ay prog 125 #[aD #[Z J N,Z J T,Z J M,Z J D]] w λe w'=>e=az (br #[aD (cM fS).toArray,Z J 5])/\af w.1.size w w':=by have aa:=I (λ(W:ac)=>vy N T M D W);rw[h]at aa;have am:=I (wR w N T M D);have O:=I (λW hb=>EP w N T M D (W:=W) hb);have HST:=I (λW hb=>EQ w N T M D fS (uj (λ_ _=>rfl) rfl rfl rfl) (W:=W) hb);rw[<-FB]at HST;have ae:=A ((prog.info? 106).map (·.size)=E (cM fS).toArray.size) sJ;have HD:=A (lF zeroCells106 w N T M D=(w.alloc (ah #[Z J N,Z J T,Z J M,Z J D] 26)).alloc (ah zeroCells106 106)) rfl;obtain⟨W0,hW0⟩:=aj (lF zeroCells106 w N T M D);rw[<-hW0]at am O HST HD;clear hW0;rw[<-rh]at ae ⊢;obtain⟨CZ,ap⟩:=aj zeroCells106;clear ap;obtain⟨x0,x1,x2,x3⟩:=O.o W0 (ax _ _);go_enter func125,ntmps125;go_upto_region 1 with fail;rw[<-HD.o];go_wp2_with fail;refine aH (aa.o W0) λw1 hb1=>?_;obtain⟨X,hst,hrow,ag⟩:=HST.o w1 hb1;have ak:=I hrow;have ai:=I ag;clear hb1 hrow ag;go_wp2_with fail;refine cQ (gT rfl (w.1.size+1) 106 zeroCells106 (0,0) rfl ak.o Ge rfl ae.o) rfl ?_;exact⟨rfl,ai.o⟩
theorem Cw (N T M D f):(((((((((((((((((zeroCells106.toList.set 0 (Z J N)).set 1 (Z J T)).set 2 (Z J M)).set 3 (Z J D)).set 6 (ak (f 0))).set 7 (ak (f 1))).set 8 (ak (f 2))).set 9 (ak (f 3))).set 10 (ak (f 4))).set 11 (ak (f 5))).set 12 (ak (f 6))).set 13 (ak (f 7))).set 14 (ak (f 8))).set 15 (ak (f 9))).set 16 (ak (f 10))).set 17 (ak (f 11))).set 18 (ak (f 12)))=cM (gP N T M D f):=by rw[FB];rfl
theorem Ey{T}(D w)(h:dV N T M D=aa):
  ay prog 125 #[aD #[Z J N,Z J T,Z J M,Z J D]] w λe w'=>e=az (br #[aD (cM (gP N T M D λu:Nat=>decide (1<=u/\(u:Int)<=N))).toArray,Z J 0])/\af w.1.size w w':=by
 have Y:=I (λ(W:ac)=>vy N T M D W);rw[h]at Y;obtain⟨f,hf⟩:∃f:Nat->Bool,f=λu:Nat=>decide (1<=u/\(u:Int)<=N):=⟨_,rfl⟩;have ag:=I (λ(W:ac)=>(show ay prog 190 #[Z J N] W λe w'=>e=az (aD #[ak (f 0),ak (f 1),ak (f 2),ak (f 3),ak (f 4),ak (f 5),ak (f 6),ak (f 7),ak (f 8),ak (f 9),ak (f 10),ak (f 11),ak (f 12)])/\af W.1.size W w' by rw[hf];exact JP N W));rw[<-hf];clear hf;have aq:=I (wR w N T M D);have O:=I (λW hb=>EP w N T M D (W:=W) hb);have HST:=I (λW hb=>EQ w N T M D (gP N T M D f) (tN N T M D f) (W:=W) hb);rw[<-Cw]at HST;have ap:=A ((prog.info? 106).map (·.size)=E (cM (gP N T M D f)).toArray.size) sJ;have HD:=A (lF zeroCells106 w N T M D=(w.alloc (ah #[Z J N,Z J T,Z J M,Z J D] 26)).alloc (ah zeroCells106 106)) rfl;obtain⟨W0,hW0⟩:=aj (lF zeroCells106 w N T M D);rw[<-hW0]at aq O HST HD;clear hW0
 have am:=I (λ(W:ac)(hb:af W0.1.size W0 W)=>(show ay prog 190 #[Z J N] W λe w3=>e=az (aD #[ak (f 0),ak (f 1),ak (f 2),ak (f 3),ak (f 4),ak (f 5),ak (f 6),ak (f 7),ak (f 8),ak (f 9),ak (f 10),ak (f 11),ak (f 12)])/\
   (w3.cell? ⟨w.1.size,0,V⟩=E (Z J N)/\w3.cell? ⟨w.1.size,1,V⟩=E (Z J T)/\w3.cell? ⟨w.1.size,2,V⟩=E (Z J M)/\w3.cell? ⟨w.1.size,3,V⟩=E (Z J D))/\
   ∃X,(storeCells ⟨w.1.size+1,0,V⟩ (((((((((((((((((zeroCells106.toList.set 0 (Z J N)).set 1 (Z J T)).set 2 (Z J M)).set 3 (Z J D)).set 6 (ak (f 0))).set 7 (ak (f 1))).set 8 (ak (f 2))).set 9 (ak (f 3))).set 10 (ak (f 4))).set 11 (ak (f 5))).set 12 (ak (f 6))).set 13 (ak (f 7))).set 14 (ak (f 8))).set 15 (ak (f 9))).set 16 (ak (f 10))).set 17 (ak (f 11))).set 18 (ak (f 12)))).run prog w3=.ok () X/\cO (X.1[w.1.size+1]?=E (ah (cM (gP N T M D f)).toArray 106 (0,0))/\af w.1.size w X)from
  (ag.o W).mono λe w3 ⟨he,hb3⟩=>by have hb':=hb.trans (hb3.mono hb.size);obtain⟨X,q1,q2,q3⟩:=HST.o w3 hb';refine⟨he,O.o w3 hb',X,q1,?_,q3⟩;rw[<-Cw];exact q2));clear HST ag;obtain⟨x0,x1,x2,x3⟩:=O.o W0 (ax _ _);go_enter func125,ntmps125;go_upto_region 1 with fail;rw[<-HD.o];go_wp2_with fail;refine aH (Y.o W0) λw1 hb1=>?_;clear x0 x1 x2 x3;obtain⟨x0,x1,x2,x3⟩:=O.o w1 hb1;have ai:=I hb1;clear hb1;go_upto_region 3 with fail;go_region_with (go_at_call 190;refine(am.o _ (ai.o.drew)).mono ?_;rintro e w3 ⟨rfl,⟨y0,y1,y2,y3⟩,X,hst,ae⟩);all_goals(go_wp2_with fail)
 all_goals(refine cQ (gT rfl (w.1.size+1) 106 (cM (gP N T M D f)).toArray (0,0) rfl ae.o.1 Ge rfl ap.o) rfl ?_)
 all_goals(exact⟨rfl,ae.o.2⟩)
theorem zO:(prog.info? 35).map (·.size)=E 4:=by kernel_rfl
theorem wI{w:ac}{b x0 x1 x2 x3}(h:w.1[b]?=E (ah #[x0,x1,x2,x3] T (0,0)))(O Y y2 y3):((((w.setCell ⟨b,0,V⟩ O).setCell ⟨b,1,V⟩ Y).setCell ⟨b,2,V⟩ y2).setCell ⟨b,3,V⟩ y3).1[b]?=E (ah #[O,Y,y2,y3] T (0,0)):=
 bI _ _ 3 #[O,Y,y2,x3] _ _ (bI _ _ 2 #[O,Y,x2,x3] _ _ (bI _ _ 1 #[O,x1,x2,x3] _ _ (bI _ _ 0 _ _ _ h)))
theorem yf (w b O Y y2 y3):av (λx=>x=b) w ((((w.setCell ⟨b,0,V⟩ O).setCell ⟨b,1,V⟩ Y).setCell ⟨b,2,V⟩ y2).setCell ⟨b,3,V⟩ y3):=
 (((av.setCell w ⟨b,0,V⟩ O).bY (av.setCell _ ⟨b,1,V⟩ Y)).bY (av.setCell _ ⟨b,2,V⟩ y2)).bY (av.setCell _ ⟨b,3,V⟩ y3)
theorem gg{w:ac}{b x0 x1 x2 x3}(h:w.1[b]?=E (ah #[x0,x1,x2,x3] T (0,0))):(w.cell? ⟨b,0,V⟩=E x0/\w.cell? ⟨b,1,V⟩=E x1/\w.cell? ⟨b,2,V⟩=E x2/\w.cell? ⟨b,3,V⟩=E x3)/\∀i,w.frozen? ⟨b,i,V⟩=Y:=
 ⟨⟨by rw[bg w b 0 _ _ (0,0) h];rfl,by rw[bg w b 1 _ _ (0,0) h];rfl,by rw[bg w b 2 _ _ (0,0) h];rfl,by rw[bg w b 3 _ _ (0,0) h];rfl⟩,λi=>eh w b i _ _ h⟩
def Told (w w':ac)(va vb:ag)(ls us:List Int):Prop:=
 w'.ownsRow w.1.size 3 1 va ls.length (ls.map (Value.int J))/\w'.ownsRow w.1.size 3 1 vb us.length (us.map (Value.int J))/\(∀x,va.ownBlock=E x->vb.ownBlock≠E x)/\af w.1.size w w'
theorem Ry{b S ls us w}(h:aR w b S)(hs:aY w S.set ls)(hu:aY w S.sum us)(l1:ls.length<=12)(l2:us.length<=12):
  ay prog 70 #[aC (E ⟨b,0,V⟩)] w λe w'=>∃va vb,e=az (aD #[Z J S.st,Z J S.ro,va,vb])/\Told w w' va vb ls us:=by
 have C1:=bj w λW hb=>tH (hs.below hb) l1;have C2:=bj w λW hb=>tH (hu.below hb) l2;obtain⟨W0,hW0⟩:=aj (w.alloc (ah #[Z J 0,Z J 0,U V 0 0,U V 0 0] 35));have b0:af w.1.size w W0:=by rw[hW0];exact(ax _ _).alloc (aw _) _
 have h0:=h.below b0;have aQ:=h0.st;have aS:=h0.ro;have ag:=h0.set;have ai:=h0.sum;obtain⟨a1,k1,au,-⟩:=hs;obtain⟨a2,k2,hv2,-⟩:=hu;rw[au]at C1 ag;rw[hv2]at C2 ai;clear h h0 au hv2 l1 l2;have R0:=A (W0.1[w.1.size]?=E (ah #[Z J 0,Z J 0,U V 0 0,U V 0 0] 35 (0,0))) (by rw[hW0];exact bo w _);have z0:W0.1.size=w.1.size+1:=by rw[hW0];simp
 have aG:=I hW0;generalize S.st=st at*;generalize S.ro=ro at*;obtain⟨n1,ak⟩:∃n1,ls.length=n1:=⟨_,rfl⟩;obtain⟨n2,am⟩:∃n2,us.length=n2:=⟨_,rfl⟩;rw[ak]at C1 ag;rw[am]at C2 ai;have aK:=I ak;have aL:=I am;clear ak am;obtain⟨W1,hW1⟩:=aj (W0.alloc (ah #[Z J st,Z J ro,U a1 n1 k1,U a2 n2 k2] 35));have b1:af W0.1.size W0 W1:=by rw[hW1];exact(ax _ _).alloc (aw _) _
 have R1:=A (W1.1[W0.1.size]?=E (ah #[Z J st,Z J ro,U a1 n1 k1,U a2 n2 k2] 35 (0,0))) (by rw[hW1];exact bo W0 _);have z1:W1.1.size=w.1.size+2:=by rw[hW1];simp;omega
 have aM:=I ((b1.block w.1.size (by omega)).trans R0.o);have B1:=I (b0.trans (b1.mono b0.size));have aH:=I hW1;clear hW0 hW1 b0 b1;have aA:=I (C1.o W1 B1.o);obtain⟨⟨y0,y1,y2,y3⟩,aa⟩:=gg R1.o;obtain⟨d,hd⟩:=aj W0.1.size;have dz:d=w.1.size+1:=by omega
 have O:=I dz;rw[<-hd]at y0 y1 y2 y3 aa R1;have HD:=I hd;have Y:=I z1;clear z0 z1 hd dz;go_enter func70,ntmps70;go_upto_region 1 with fail;rw[<-aG.o];go_upto_region 2 with fail;rw[<-aH.o,<-HD.o];clear aQ aS ag ai;go_wp2_with(at_builtin;refine rc rfl 33 rfl rfl _ rfl 3 1 _ _ aA.o ?_);intro va w2 ap hb2;obtain⟨a3,k3,hv3⟩:=a_ ap;subst hv3;have s2:=hb2.size;have R2:=I ((hb2.block d (by have:=O.o;have:=Y.o;omega)).trans R1.o);have aN:=I ((hb2.block w.1.size (by have:=Y.o;omega)).trans aM.o);have B2:=I (B1.o.trans (hb2.mono B1.o.size));have O2:=I ap;clear ap hb2 y0 y1 y2 y3 aa;obtain⟨⟨y0,y1,y2,y3⟩,aa⟩:=gg R2.o;obtain⟨W3,hW3⟩:=aj (w2.setCell ⟨d,2,V⟩ (U a3 n1 k3));have c3:av (λx=>x=d) w2 W3:=by rw[hW3];exact av.setCell w2 ⟨d,2,V⟩ _
 have R3:=A (W3.1[d]?=E (ah #[Z J st,Z J ro,U a3 n1 k3,U a2 n2 k2] 35 (0,0))) (by rw[hW3];exact bI w2 d 2 _ _ _ R2.o);have aO:=I ((c3.block w.1.size (by have:=Y.o;omega) (by have:=O.o;omega)).trans aN.o);have B3:=A (af w.1.size w W3) (by rw[hW3];exact B2.o.setCell (p:=⟨d,2,V⟩) (by have:=O.o;show w.1.size<=d;omega) _);have O3:=I (bf O2.o c3 (λx hx e=>by have:=(O2.o.lt x hx).1;have:=O.o;have:=Y.o;omega));have s3:W3.1.size=w2.1.size:=by rw[hW3];simp
 have S3:=I s3;have aI:=I hW3;clear hW3 c3 s3;go_upto_region 3 with fail;rw[<-aI.o];clear y0 y1 y2 y3 aa;obtain⟨⟨y0,y1,y2,y3⟩,aa⟩:=gg R3.o;have aB:=I (C2.o W3 B3.o);go_wp2_with(at_builtin;refine rc rfl 33 rfl rfl _ rfl 3 1 _ _ aB.o ?_);intro vb w4 aq hb4;obtain⟨a4,k4,hv4⟩:=a_ aq;subst hv4;have s4:=hb4.size;have dl:d<W3.1.size:=by have:=O.o;have:=Y.o;have:=S3.o;omega
 have R4:=I ((hb4.block d dl).trans R3.o);have aP:=I ((hb4.block w.1.size (by have:=O.o;omega)).trans aO.o);have B4:=I (B3.o.trans (hb4.mono B3.o.size));have O4:=I (bf (S:=λ_=>False) O3.o (av.bz hb4) (λ_ _ h=>h));have P4:=I aq;clear aq hb4 y0 y1 y2 y3 aa;obtain⟨⟨y0,y1,y2,y3⟩,aa⟩:=gg R4.o;obtain⟨W5,ae⟩:=aj (w4.setCell ⟨d,3,V⟩ (U a4 n2 k4));have c5:av (λx=>x=d) w4 W5:=by rw[ae];exact av.setCell w4 ⟨d,3,V⟩ _
 have R5:=A (W5.1[d]?=E (ah #[Z J st,Z J ro,U a3 n1 k3,U a4 n2 k4] 35 (0,0))) (by rw[ae];exact bI w4 d 3 _ _ _ R4.o);have ar:=I ((c5.block w.1.size (by have:=O.o;omega) (by have:=O.o;omega)).trans aP.o);have B5:=A (af w.1.size w W5) (by rw[ae];exact B4.o.setCell (p:=⟨d,3,V⟩) (by have:=O.o;show w.1.size<=d;omega) _);have O5:=I (bf O4.o c5 (λx hx e=>by have:=(O4.o.lt x hx).1;have:=O.o;have:=Y.o;omega));have P5:=I (bf P4.o c5 (λx hx e=>by have:=(P4.o.lt x hx).1;omega));have aJ:=I ae;clear ae c5;go_upto_region 4 with fail;rw[<-aJ.o];clear y0 y1 y2 y3 aa;obtain⟨⟨y0,y1,y2,y3⟩,aa⟩:=gg R5.o;obtain⟨⟨x0,x1,x2,x3⟩,xf⟩:=gg ar.o;have c6:=yf W5 w.1.size (Z J st) (Z J ro) (U a3 n1 k3) (U a4 n2 k4);have R6:=I (wI ar.o (Z J st) (Z J ro) (U a3 n1 k3) (U a4 n2 k4));have aT:w.1.size+2<=W3.1.size:=by have:=Y.o;have:=S3.o;omega
 have aF:=I (show Told w ((((W5.setCell ⟨w.1.size,0,V⟩ (Z J st)).setCell ⟨w.1.size,1,V⟩ (Z J ro)).setCell ⟨w.1.size,2,V⟩ (U a3 n1 k3)).setCell ⟨w.1.size,3,V⟩ (U a4 n2 k4)) (U a3 n1 k3) (U a4 n2 k4) ls us from
  ⟨by rw[aK.o];exact cS (bf O5.o c6 (λx hx e=>by have:=(O5.o.lt x hx).1;have:=Y.o;omega)) (by have:=Y.o;omega),
   by rw[aL.o];exact cS (bf P5.o c6 (λx hx e=>by have:=(P5.o.lt x hx).1;omega)) (by omega),
   λx hx hy=>by have q1:=(O3.o.lt x hx).2;have q2:=(P4.o.lt x hy).1;omega,
   (((B5.o.setCell (p:=⟨w.1.size,0,V⟩) (aw _) _).setCell (p:=⟨w.1.size,1,V⟩) (aw _) _).setCell (p:=⟨w.1.size,2,V⟩) (aw _) _).setCell (p:=⟨w.1.size,3,V⟩) (aw _) _⟩);clear c6;go_wp2_with fail;refine cQ (ic rfl _ _ w.1.size 35 #[Z J st,Z J ro,U a3 n1 k3,U a4 n2 k4] (0,0) _ rfl R6.o Gf rfl zO) rfl ?_;exact⟨_,_,rfl,aF.o⟩
theorem Rz{b C s S w}(hw:jw w b C s S)(hs:s.o.1=0->gJ C s)(hv:bX w v zs):
  ay prog 140 #[aC (E ⟨b,0,V⟩),v] w λe w'=>e=az (ak (kQ C s zs))/\∃S',iI w w' b C (fB C s zs) S S':=by
 have hbl:=hw.ba.at_.lt;have HD:=I (yl hv);obtain⟨aI,cz,rfl,-,-,hB,-⟩:=eC hv;have HW:=I hw;obtain⟨rd,aq,hr4⟩:∃rd:Nat,S.rd=(rd:Int)/\rd<4:=by by_cases hp:s.o.1=0;exact⟨s.rd,(hw.ba.now hp).2,(hs hp).rd⟩;exact⟨0,hw.ba.np hp,by omega⟩
 clear hv hw
 cases hd:cJ zs with
 |none=>
  obtain⟨x1,x2,x3,x4⟩:=mC hd;rw[x1,x2,x3,x4]at HD;have O:kQ C s zs=Y:=by unfold kQ;rw[hd]
  have y2:fB C s zs=s:=by unfold fB;rw[hd]
  rw[O,y2];clear x1 x2 x3 x4 O y2 hd hB;go_enter func140,ntmps140;go_wp2_with fail;refine HD.o.mono ?_;rintro e w1 ⟨va,rfl,hown,hb⟩;obtain⟨a',c',hv'⟩:=a_ hown;subst hv';have HB:=I hb;clear hown hb;go_wp2;go_ret;exact⟨rfl,S,zV HW.o (HB.o.alloc HB.o.size _)⟩
 |some f=>
  obtain⟨k,fr,l⟩:=f;obtain⟨x1,x2,x3,x4⟩:=nR hd;rw[x1,x2,x3,x4]at HD;obtain⟨O,y2,y3⟩:=qw hB hd;obtain⟨u,hu⟩:∃u:Nat,fr=(u:Int):=⟨fr.toNat,by have:=(mK O).2.2.2.1;omega⟩;subst hu;have am:u<13:=by have:=(mK O).2.2.2.2.1;omega
  have aJ:(u:Int)<13:=by omega
  have aA:=I O;have au:=I (kg O);have e1:kQ C s zs=nQ S rd k u l:=by unfold kQ;rw[hd];exact(BO HW.o.ba hs O rd aq).symm
  have e2:fB C s zs=if nQ S rd k u l=aa then{s with G:=dY s.G s.rd u l}else s:=by unfold fB;rw[hd,BO HW.o.ba hs O rd aq];show iA C s (k,(u:Int),l)=_;unfold iA;rfl
  have HP:=I (λ(h:nQ S rd k u l=aa)=>(show s.o.1=0 by unfold nQ at h;rw[bS,decide_eq_true_iff,HW.o.ba.st]at h;exact h.1));rw[e1,e2];clear x1 x2 x3 x4 O y2 y3 hd hB e1 e2;have HM:=I (λ(w1:ac)(a':Option Addr)(c':Nat)(hb:af w.1.size w w1)(hown:w1.ownsRow w.1.size 147 4 (U a' l.length c') l.length (bD l))=>
   (show∀(o:Obj),af w.1.size w (w1.alloc o)/\jw (w1.alloc o) b C s S/\aX (w1.alloc o) (U a' l.length c') l/\(∀x,(Value.slice a' l.length c').ownBlock=E x->w.1.size<=x/\x<(w1.alloc o).1.size/\x≠w1.1.size)from λo=>by have hb2:=hb.alloc hb.size o;refine⟨hb2,HW.o.below hb2,(iL hown au.o).below ((ax _ _).alloc (aw _) _),λx hx=>?_⟩;have:=hown.lt x hx;exact⟨this.1,by simp;omega,by omega⟩));have ar:=I (λ(W:ac)(x:ag)(hS:aR W b S)(hI:aX W x l)=>IH u hS hI aA.o rd aq hr4);obtain⟨p,hp⟩:=aj (nQ S rd k u l);rw[<-hp]at ar HP ⊢;clear hp;go_enter func140,ntmps140;go_wp2_with fail;refine HD.o.mono ?_;rintro e w1 ⟨va,rfl,hown,hb⟩;obtain⟨a',c',hv'⟩:=a_ hown;subst hv';have s1:=hb.size;have MM:=I (HM.o w1 a' c' hb hown (ah #[Z J k,Z J (u:Int),U a' l.length c'] 65));clear hown hb HM HD;obtain⟨W,hW⟩:=aj (w1.alloc (ah #[Z J k,Z J (u:Int),U a' l.length c'] 65));have X0:=A (W.cell? ⟨w1.1.size,0,V⟩=E (Z J k)) (by rw[hW];simp);have X1:=A (W.cell? ⟨w1.1.size,1,V⟩=E (Z J (u:Int))) (by rw[hW];simp);have X2:=A (W.cell? ⟨w1.1.size,2,V⟩=E (U a' l.length c')) (by rw[hW];simp);have sz:w1.1.size<W.1.size:=by rw[hW];simp
  rw[<-hW]at MM;have aD:=I hW;clear hW;have CC:=I (ar.o W _ MM.o.2.1.ba.at_ MM.o.2.2.1);go_upto_region 2 with fail;rw[<-aD.o];have x0:=X0.o;have x1:=X1.o;have x2:=X2.o;go_wp2_with fail;refine aH CC.o λw2 hb2=>?_;have s2:=hb2.size;have T2:=I (MM.o.1.trans (hb2.mono MM.o.1.size));have S2:=I (MM.o.2.1.below hb2);have I2:=I (MM.o.2.2.1.below hb2);have F2:=I MM.o.2.2.2;have O:w2.cell? ⟨w1.1.size,1,V⟩=E (Z J (u:Int)):=(hb2.cell (p:=⟨w1.1.size,1,V⟩) sz).trans X1.o;have y2:w2.cell? ⟨w1.1.size,2,V⟩=E (U a' l.length c'):=(hb2.cell (p:=⟨w1.1.size,2,V⟩) sz).trans X2.o;clear hb2 x0 x1 x2 X0 X1 X2 MM CC;cases p;·go_wp2;go_ret;exact⟨rfl,S,zV HW.o T2.o⟩
  have c1:=S2.o.ba.at_.jR u am;have f1:=S2.o.ba.at_.bF (19+u) (by omega);have c2:=S2.o.ba.at_.vw u am;have f2:=S2.o.ba.at_.bF (32+u) (by omega);have hne:(⟨b,19+u,V⟩:Addr)≠⟨w1.1.size,1,V⟩:=by intro q;injection q with q1 q2 q3;omega
  have aF:(⟨b,19+u,V⟩:Addr)≠⟨w1.1.size,2,V⟩:=by intro q;injection q with q1 q2 q3;omega
  have aG:(⟨b,19+u,V⟩:Addr)≠⟨b,32+u,V⟩:=by intro q;injection q with q1 q2 q3;omega
  obtain⟨W3,hW3⟩:=aj ((w2.setCell ⟨b,19+u,V⟩ (ak aa)).drew);have z1:W3.cell? ⟨w1.1.size,1,V⟩=E (Z J (u:Int)):=by rw[hW3];exact(lO _ _ _ _ hne).trans O
  have z2:W3.cell? ⟨w1.1.size,2,V⟩=E (U a' l.length c'):=by rw[hW3];exact(lO _ _ _ _ aF).trans y2
  have z3:W3.cell? ⟨b,32+u,V⟩=E (S.it u):=by rw[hW3];exact(lO _ _ _ _ aG).trans c2
  have z4:W3.frozen? ⟨b,32+u,V⟩=Y:=by rw[hW3];exact(mS ..).trans f2
  have T3:=I (show iI w (W3.setCell ⟨b,32+u,V⟩ (U a' l.length c')).drew b C {s with G:=dY s.G s.rd u l} S {S with ct:=λv=>if v=u then aa else S.ct v,it:=jo S.it u (U a' l.length c')}by
   have hc:av (λx=>x=b) w2 (W3.setCell ⟨b,32+u,V⟩ (U a' l.length c')).drew:=by rw[hW3];exact(((av.setCell w2 ⟨b,19+u,V⟩ (ak aa)).bY (av.drew _ _)).bY (av.setCell _ ⟨b,32+u,V⟩ _)).bY (av.drew _ _)
   have ap:∀x,(Value.slice a' l.length c').ownBlock=E x->x≠b/\x<w2.1.size/\w.1.size<=x:=λx hx=>by have:=F2.o x hx;exact⟨by omega,by omega,this.1⟩
   have hat:aR (W3.setCell ⟨b,32+u,V⟩ (U a' l.length c')).drew b {S with ct:=λv=>if v=u then aa else S.ct v,it:=jo S.it u (U a' l.length c')}:=by rw[hW3];exact(((S2.o.ba.at_.Sw u am aa).block (w':=(w2.setCell ⟨b,19+u,V⟩ (ak aa)).drew) rfl).Sy u am (U a' l.length c')).block rfl
   refine⟨⟨Ti S2.o.ba (HP.o rfl) am hat (I2.o.aV hc (λx hx e=>(ap x hx).1 e)) (λe=>(ap b e).1 rfl) hc.size (λy hy hf=>hc.block y (S2.o.low y hf) hy),λx hx=>?_⟩,(av.bz T2.o).bY hc,λx hx=>?_,λi hi=>?_⟩
   ·refine cG ?_ hc.size;rcases hx with hx|⟨v,hv,hx⟩|hx;exact S2.o.low x (ae hx);·have ai:(jo S.it u (U a' l.length c') v).ownBlock=E x:=hx;unfold jo at ai;split at ai;exact(ap x ai).2.1;exact S2.o.low x (Q (ae ⟨v,hv,ai⟩))
    exact S2.o.low x (Q (Q hx))
   ·rcases hx with hx|⟨v,hv,hx⟩|hx;exact ae (ae hx);·have ai:(jo S.it u (U a' l.length c') v).ownBlock=E x:=hx;unfold jo at ai;split at ai;exact Q (ap x ai).2.2;exact ae (Q (ae ⟨v,hv,ai⟩))
    exact ae (Q (Q hx))
   rw[hW3,<-T2.o.cell (p:=⟨b,i,V⟩) hbl,<-T2.o.frozen (p:=⟨b,i,V⟩) hbl];refine⟨?_,?_⟩;show((w2.setCell ⟨b,19+u,V⟩ (ak aa)).drew.setCell ⟨b,32+u,V⟩ _).cell? ⟨b,i,V⟩=_;rw[lO (h:=by intro q;injection q with q1 q2 q3;omega)];exact lO _ _ _ _ (by intro q;injection q with q1 q2 q3;omega);show((w2.setCell ⟨b,19+u,V⟩ (ak aa)).drew.setCell ⟨b,32+u,V⟩ _).frozen? ⟨b,i,V⟩=_;rw[mS];exact mS ..);have aB:=I hW3;clear hW3;go_upto_region 4 with fail;go_region;rw[<-aB.o];go_upto_region 5 with fail;go_region;go_wp2;go_ret;exact⟨rfl,_,T3.o⟩
theorem EK (L:List ag):∀(k:Nat)(A:Array ag)(i:Nat),k+L.length<=A.size->(List.foldl (λ(cs:Array ag)(x:ag×Nat)=>cs.setIfInBounds x.2 x.1) A (L.zipIdx k))[i]?=if k<=i/\i<k+L.length then L[i-k]? else A[i]? :=by
 induction L with
 |nil=>intro k A i h;rw[ar (λq=>by have h1:=q.1;have h2:=q.2;simp at h2;omega)];rfl
 |cons a L ih=>
  intro k A i h;rw[sV]at h;rw[List.zipIdx_cons,List.foldl_cons,ih (k+1) _ i (by simp;omega),sV];by_cases e:i=k;subst e;rw[ar (by omega),au (by omega),nD];simp[Array.getElem?_setIfInBounds];omega;by_cases q:k+1<=i/\i<k+1+L.length;·rw[au q,au (by omega),show i-k=(i-(k+1))+1 by omega,List.getElem?_cons_succ]
  rw[ar q,ar (by omega)];simp only[Array.getElem?_setIfInBounds];rw[ar (λe'=>e e'.symm)]
theorem EJ (L:List ag)(A)(h:A.size=L.length):List.foldl (λ(cs:Array ag)(x:ag×Nat)=>cs.setIfInBounds x.2 x.1) A L.zipIdx=L.toArray:=by apply uF;intro i;rw[EK L 0 A i (by omega)];by_cases q:i<L.length;rw[au (by omega)];simp;rw[ar (by omega),cT (by omega),cT (by simp;omega)]
theorem gY.range{w b s}(h:gY w b T s):w.rangeAt b 0 (cM s):=bw.range h.at_
theorem E':∀v∈cM fS,v.oneCell'=aa:=uj (λ_ _=>rfl) rfl rfl rfl
theorem Tg{w b T D}(h:aR w b (gP N T M D λu:Nat=>decide (1<=u/\(u:Int)<=N))):jv w b ⟨N,T,M,D⟩ aB.start (gP N T M D λu:Nat=>decide (1<=u/\(u:Int)<=N)) where
 at_:=h
 st:=rfl
 ro:=rfl
 set:=nc
 sum:=nc
 apart:=λv _=>by show(Value.slice V 0 0).ownBlock≠E b;intro e;cases e
 gz:=⟨(by show(Value.slice V 0 0).ownBlock≠E b;intro e;cases e),(by show(Value.slice V 0 0).ownBlock≠E b;intro e;cases e),(by show(Value.slice V 0 0).ownBlock≠E b;intro e;cases e)⟩
 zero:=λ_=>⟨rfl,rfl,rfl⟩
 np:=λ_=>rfl
 i_:=λ_=>⟨rfl,rfl,rfl,rfl⟩
 now:=λ_=>⟨rfl,rfl⟩
 sn:=λ_ v _=>rfl
 ct:=λ_ v _=>rfl
 it:=λ_ v _=>vQ _
 pb:=λ_ r=>absurd r (by show¬1<=0;omega)
 sh:=λ_ r=>absurd r (by show¬2<=0;omega)
 ml:=λ_ r=>absurd r (by show¬(0:Nat)=3;omega)
end
namespace Co
open Go.RowKit
def aJ (w:ac)(b o:Nat)(s:PS):Prop:=bw w b o (cx s)
section
variable {w w':ac}{b o:Nat}{s:PS}
theorem aJ.lt (h:aJ w b o s):b<w.1.size:=bw.lt h (by rw[gD];decide)
theorem aJ.bF (h:aJ w b o s)(i)(hi:i<78):w.frozen? ⟨b,o+i,V⟩=Y:=bw.bF h i (by rw[gD];exact hi)
theorem aJ.c0 (h:aJ w b o s):w.cell? ⟨b,o,V⟩=E (Z J s.id):=(h 0 _ rfl).1
theorem aJ.c1 (h:aJ w b o s):w.cell? ⟨b,o+1,V⟩=E (Z J s.ph):=(h 1 _ rfl).1
theorem aJ.c2 (h:aJ w b o s):w.cell? ⟨b,o+2,V⟩=E (Z J s.cp):=(h 2 _ rfl).1
theorem aJ.c3 (h:aJ w b o s):w.cell? ⟨b,o+3,V⟩=E (Z J s.mp):=(h 3 _ rfl).1
theorem aJ.c4 (h:aJ w b o s):w.cell? ⟨b,o+4,V⟩=E (Z J s.n):=(h 4 _ rfl).1
theorem aJ.c5 (h:aJ w b o s):w.cell? ⟨b,o+5,V⟩=E (Z J s.t):=(h 5 _ rfl).1
theorem aJ.c6 (h:aJ w b o s):w.cell? ⟨b,o+6,V⟩=E s.inp:=(h 6 _ rfl).1
theorem aJ.c7 (h:aJ w b o s):w.cell? ⟨b,o+7,V⟩=E (Z J s.ch):=(h 7 _ rfl).1
theorem aJ.c8 (h:aJ w b o s):w.cell? ⟨b,o+8,V⟩=E (Z J s.ms):=(h 8 _ rfl).1
theorem aJ.c9 (h:aJ w b o s):w.cell? ⟨b,o+9,V⟩=E (Z J s.sd):=(h 9 _ rfl).1
theorem aJ.c10 (h:aJ w b o s):w.cell? ⟨b,o+10,V⟩=E s.sm:=(h 10 _ rfl).1
theorem aJ.c11 (h:aJ w b o s):w.cell? ⟨b,o+11,V⟩=E s.ss:=(h 11 _ rfl).1
theorem PG (s):(cx s)[77]?=E s.told:=by have e:(qK s).length=12:=rfl;unfold cx;rw[fo (by rw[e];decide),e,fo (by rw[fW];decide),fW];rfl
theorem aJ.bJ (h:aJ w b o s):w.cell? ⟨b,o+77,V⟩=E s.told:=(h 77 _ (PG s)).1
theorem aJ.IK (h:aJ w b o s):bw w b (o+12) (b_ s.f):=bw.part (pre:=qK s) h
theorem aJ.range (h:aJ w b o s):w.rangeAt b (o+12) (b_ s.f):=bw.range (aJ.IK h)
theorem aJ.there (h:aJ w b o s)(k n)(hn:k+n<=78):w.there b (o+k) n:=bw.there h k n (by rw[gD];exact hn)
end
section
variable {w w':ac}{b o:Nat}{s:PS}
theorem aJ.peer (h:aJ w b o s)(v)(hv:v<13):xO w b (o+12+v*5) (s.f v):=DK (aJ.range h) v hv
theorem aJ.ui (h:aJ w b o s)(x):aJ (w.setCell ⟨b,o+1,V⟩ (Z J x)) b o {s with ph:=x}:=bw.setAt h 1 (by rw[gD];decide) _ rfl
theorem aJ.wN (h:aJ w b o s)(x):aJ (w.setCell ⟨b,o+77,V⟩ x) b o {s with told:=x}:=by
 have e:(cx s).set 77 x=cx {s with told:=x}:=by unfold cx;rw[uI _ _ (by show 12<=77;omega)];show qK s++(b_ s.f++[s.told]).set 65 x=qK s++(b_ s.f++[x]);rw[uI _ _ (by rw[fW];exact aw _),fW];rfl
 exact bw.setAt h 77 (by rw[gD];decide) _ e
theorem aJ.zH (h:aJ w b o s)(g):aJ (w.setCells b (o+12) (b_ g)) b o {s with f:=g}:=
 bw.pE (pre:=qK s) (post:=[s.told]) h (b_ g) (by rw[fW,fW])
theorem aJ.wM (h:aJ w b o s)(v0 a1 a2 a3 v4 v5):
  aJ (w.setCells b (o+6) [v0,Z J a1,Z J a2,Z J a3,v4,v5]) b o {s with inp:=v0,ch:=a1,ms:=a2,sd:=a3,sm:=v4,ss:=v5}:=
 bw.pE (pre:=[Z J s.id,Z J s.ph,Z J s.cp,Z J s.mp,Z J s.n,Z J s.t]) (mid:=[s.inp,Z J s.ch,Z J s.ms,Z J s.sd,s.sm,s.ss]) (post:=b_ s.f++[s.told]) h [v0,Z J a1,Z J a2,Z J a3,v4,v5] rfl
theorem aJ.gU (h:aJ w b o s)(s'):aJ (w.setCells b o (cx s')) b o s':=bw.gU h _ (by rw[gD,gD])
theorem aJ.block (h:aJ w b o s)(e:w'.1[b]?=w.1[b]?):aJ w' b o s:=bw.block h e
theorem aJ.below (h:aJ w b o s)(hb:af w.1.size w w'):aJ w' b o s:=aJ.block h (hb.block b (aJ.lt h))
end
structure bQ (b o:Nat)(w w':ac):Prop where
 aV:av (λx=>x=b) w w'
 rest:∀i,i<o\/o+78<=i->w'.cell? ⟨b,i,V⟩=w.cell? ⟨b,i,V⟩/\w'.frozen? ⟨b,i,V⟩=w.frozen? ⟨b,i,V⟩
section
variable {w w' w'':ac}{b o:Nat}
theorem bQ.size (h:bQ b o w w'):w.1.size<=w'.1.size:=h.aV.size
theorem bQ.block (h:bQ b o w w')(x)(hx:x<w.1.size)(hn:x≠b):w'.1[x]?=w.1[x]? :=h.aV.block x hx hn
theorem bQ.bY (h:bQ b o w w')(k:bQ b o w' w''):bQ b o w w'':=⟨h.aV.trans k.aV (λ_ e _=>e),λi hi=>⟨(k.rest i hi).1.trans (h.rest i hi).1,(k.rest i hi).2.trans (h.rest i hi).2⟩⟩
theorem bQ.bz (hb:af w.1.size w w')(hl:b<w.1.size):bQ b o w w':=⟨av.bz hb,λi _=>⟨hb.cell (p:=⟨b,i,V⟩) hl,hb.frozen (p:=⟨b,i,V⟩) hl⟩⟩
theorem bQ.drew (b o w):bQ b o w w.drew:=⟨⟨rfl,rfl,rfl,aw _,λ_ _ _=>rfl⟩,λ_ _=>⟨rfl,rfl⟩⟩
theorem bQ.cells (w vs k)(hk:k+vs.length<=78):bQ b o w (w.setCells b (o+k) vs):=
 ⟨rO b vs _ w,λi hi=>⟨AG b vs _ w _ (λ_ _=>by show i<o+k\/o+k+vs.length<=i;omega),F_ ..⟩⟩
theorem bQ.cell (w v k)(hk:k<78):bQ b o w (w.setCell ⟨b,o+k,V⟩ v):=
 ⟨av.setCell w ⟨b,o+k,V⟩ v,λi hi=>⟨lO _ _ _ _ (by intro q;injection q with q1 q2 q3;omega),mS ..⟩⟩
end
structure ky (w:ac)(b o:Nat)(c:Cl)(s:aO.St)(S:PS):Prop where
 at_:aJ w b o S
 ph:0<=s.1/\s.1<=4
 dP:S.id=c.id
 oW:S.ph=s.1
 kG:S.cp=kj c
 emp:S.mp=aO.eU c
 one:s.1=1->S.n=c.N/\S.ch=c.ch/\S.ms=c.ms/\aY w S.sm c.sm/\aY w S.ss c.ss
 mid:1<=s.1->s.1<=2->aY w S.inp c.inp/\S.sd=c.sd
 et:1<=s.1->s.1<=3->S.t=c.T
 two:s.1=2->(∀v,v<13->S.f v=iq c s.2.1 v)/\bN s.2.1=aa/\gB c s.2.1=aa/\(∀x∈s.2.1,0<=x.2.1/\x.2.1<2305843009213693951/\0<=x.2.2.1/\x.2.2.1<2305843009213693951)
 three:s.1=3->(∀v,v<13->S.f v=iy c s.2.1 s.2.2.1 v)/\bN s.2.2.1=aa/\d_ c s.2.1 s.2.2.1=aa
 nil:s.1≠4->S.told=U V 0 0
 four:s.1=4->aX w S.told (aO.tells c s.2.1 s.2.2.1 s.2.2.2)
 apart:S.inp.ownBlock≠E b/\S.sm.ownBlock≠E b/\S.ss.ownBlock≠E b/\S.told.ownBlock≠E b
theorem ky.tV{w w' b o s S}(h:ky w b o c s S)(hs:w.1.size<=w'.1.size)(ha:aJ w' b o S)(hb:∀x,x≠b->eG b S x->w'.1[x]?=w.1[x]?):ky w' b o c s S where
 at_:=ha
 ph:=h.ph
 dP:=h.dP
 oW:=h.oW
 kG:=h.kG
 emp:=h.emp
 one:=λe=>by obtain⟨a1,a2,a3,a4,a5⟩:=h.one e;exact⟨a1,a2,a3,a4.keep hs (λx hx=>hb x (λe=>h.apart.2.1 (e▸hx)) (Q (Q (ae hx)))),a5.keep hs (λx hx=>hb x (λe=>h.apart.2.2.1 (e▸hx)) (Q (Q (Q (ae hx)))))⟩
 mid:=λe e'=>by obtain⟨a1,a2⟩:=h.mid e e';exact⟨a1.keep hs (λx hx=>hb x (λe=>h.apart.1 (e▸hx)) (Q (ae hx))),a2⟩
 et:=h.et
 two:=h.two
 three:=h.three
 nil:=h.nil
 four:=λe=>(h.four e).keep hs (λx hx=>hb x (λe=>h.apart.2.2.2 (e▸hx)) (Q (Q (Q (Q hx)))))
 apart:=h.apart
theorem ky.keep{w w' b o s S}(h:ky w b o c s S)(hs:w.1.size<=w'.1.size)(hb:∀x,eG b S x->w'.1[x]?=w.1[x]?):ky w' b o c s S:=h.tV hs (h.at_.block (hb b (ae rfl))) (λx _ hx=>hb x hx)
end Co
namespace Co
open Go.ChangeShapes Go.WideShapes Go.ChangeAt Go.RowKit
theorem vI{b oo S w}(h:aJ w b oo S):
  ay prog 200 #[aC (E ⟨b,oo,V⟩)] w λe w'=>e=az (br #[])/\aJ w' b oo (gh S)/\bQ b oo w w':=by
 have c0:=h.c0;have c2:=h.c2;have c3:=h.c3;have Y:=FP (P:=prog) b oo (cx (gh S)) 0 w.drew (λj hj=>((World.there_drew w b oo 78).2 (h.there 0 78 (by omega)) j (by rw[gD]at hj;exact hj)).1) (λj hj=>((World.there_drew w b oo 78).2 (h.there 0 78 (by omega)) j (by rw[gD]at hj;exact hj)).2) (λv hv=>(xr.1 (sq (gh S) rfl rfl rfl rfl)) v (by simpa using hv));have aa:(storeCells ⟨b,oo,V⟩ ((((zeroCells205.toList.set 0 (Value.int IntKind.i64 S.id)).set 1 (Value.int IntKind.i64 0)).set 2 (Value.int IntKind.i64 S.cp)).set 3 (Value.int IntKind.i64 S.mp)) 0).run prog w.drew=.ok () (w.drew.setCells b oo (cx (gh S))):=Y
 have O:=I (show aJ (w.drew.setCells b oo (cx (gh S))) b oo (gh S)/\bQ b oo w (w.drew.setCells b oo (cx (gh S)))from
  ⟨aJ.gU (w:=w.drew) h _,(bQ.drew b oo w).bY (bQ.cells (b:=b) (o:=oo) w.drew (cx (gh S)) 0 (by rw[gD];decide))⟩);generalize cx (gh S)=cs at*;generalize S.id=a at*;generalize S.cp=p at*;generalize S.mp=q at*;go_enter func200,ntmps200;go_wp2_with fail;go_region;all_goals(go_wp2;go_end0;exact⟨rfl,O.o⟩)
structure ju (w:ac)(b oo:Nat)(c:Cl)(s:aO.St)(S:PS):Prop where
 di:ky w b oo c s S
 low:∀x,eG b S x->x<w.1.size
theorem ju.keep{w w' b oo s S}(h:ju w b oo c s S)(hs:w.1.size<=w'.1.size)(hb:∀x,eG b S x->w'.1[x]?=w.1[x]?):ju w' b oo c s S:=
 ⟨h.di.keep hs hb,λx hx=>cG (h.low x hx) hs⟩
theorem ju.below{w w' b oo s S}(h:ju w b oo c s S)(hb:af w.1.size w w'):ju w' b oo c s S:=h.keep hb.size (λx hx=>hb.block x (h.low x hx))
structure lU (w w':ac)(b oo:Nat)(c:Cl)(s':aO.St)(S S':PS):Prop where
 di:ju w' b oo c s' S'
 aV:bQ b oo w w'
 aS:∀x,eG b S' x->eG b S x\/w.1.size<=x
theorem Iz{w' b oo s' S}(hs:s'.1=0)(hp:aJ w' b oo (gh S))(e1:S.id=c.id)(e2:S.cp=kj c)(e3:S.mp=aO.eU c):ky w' b oo c s' (gh S) where
 at_:=hp
 ph:=by omega
 dP:=e1
 oW:=hs.symm
 kG:=e2
 emp:=e3
 one:=λe=>by omega
 mid:=λe _=>by omega
 et:=λe _=>by omega
 two:=λe=>by omega
 three:=λe=>by omega
 nil:=λ_=>rfl
 four:=λe=>by omega
 apart:=⟨by rw[show(gh S).inp=U V 0 0 from rfl,jE];simp,by rw[show(gh S).sm=U V 0 0 from rfl,jE];simp,by rw[show(gh S).ss=U V 0 0 from rfl,jE];simp,by rw[show(gh S).told=U V 0 0 from rfl,jE];simp⟩
theorem Ae{w w1 w' b oo s' S}(hs:s'.1=0)(hp:aJ w' b oo (gh S))(e1:S.id=c.id)(e2:S.cp=kj c)(e3:S.mp=aO.eU c)(h1:bQ b oo w w1)(h2:bQ b oo w1 w'):lU w w' b oo c s' S (gh S):=
 ⟨⟨Iz hs hp e1 e2 e3,λx hx=>by rw[Ct x hx];exact hp.lt⟩,h1.bY h2,λx hx=>ae (ae (Ct x hx))⟩
theorem bQ.grow{b o w w' w''}(h:bQ b o w w')(k:af w'.1.size w' w'')(hl:b<w'.1.size):bQ b o w w'':=h.bY (bQ.bz k hl)
theorem CZ{b oo S l w}(h:aJ w b oo S)(hl:aX w v l)(hr:bN l=aa)(hlen:l.length<=12)(ht:1<=S.t/\S.t<=12):
  ay prog 258 #[aC (E ⟨b,oo,V⟩),v] w λe w'=>
   e=az (ak ((l.all λx=>decide (x.1<=S.n))&&(decide (S.t<=(l.length:Int))&&l.any (jF S.id S.cp S.mp))))/\af w.1.size w w':=by
 have hbl:=h.lt
 have HP:=I (λ(w1:ac)(hb:af w.1.size w w1)=>(show w1.cell? ⟨b,oo,V⟩=E (Z J S.id)/\w1.cell? ⟨b,oo+2,V⟩=E (Z J S.cp)/\w1.cell? ⟨b,oo+3,V⟩=E (Z J S.mp)/\w1.cell? ⟨b,oo+4,V⟩=E (Z J S.n)from
  ⟨(h.below hb).c0,(h.below hb).c2,(h.below hb).c3,(h.below hb).c4⟩));have c5:=h.c5;obtain⟨a,cap,rfl,l2,l3,_,hc⟩:=cK hl;have HC:=I hc;have HR:=I hr;clear h hl hr hc;generalize S.id=id at*;generalize S.cp=cp at*;generalize S.mp=mp at*;generalize S.n=N at*;generalize S.t=t at*;obtain⟨n,hn⟩:=aj l.length;rw[<-hn]at l2 HC hlen ⊢;have HN:=I hn;clear hn;by_cases t0:(n:Int)<t;·have H:=I (aM (show¬t<=(n:Int)by omega));go_enter func258,ntmps258;go_wp2;go_ret;exact⟨aF (by rw[H.o,iD,dZ]),ax _ _⟩
 have HT:=I (aK (show t<=(n:Int)by omega));go_enter func258,ntmps258;go_wp2;go_loopw [5,17] (λo i wr=>∃k:Nat,k<=n/\i=Z J k/\o=ak ((l.take k).any (jF id cp mp))/\(∀j,j<k->(aq.it l j).1<=N)/\af w.1.size w wr) (λ_ i _=>n-(aA i).toNat);case atStart=>exact⟨0,bi _,rfl,by simp,λj hj=>absurd hj (by omega),ax _ _⟩
 obtain⟨k,hk,rfl,rfl,hall,ae⟩:=hrel;have HA:=I hall;have O:=I ae;have hsz:=ae.size;clear hall ae;by_cases hlt:k<n
 ·obtain⟨b',off,rfl,hb,hit⟩:=HC.o k hlt;obtain⟨d0,d1,d2,d3⟩:=hit.below hb O.o;obtain⟨c0,c2,c3,c4⟩:=HP.o _ O.o;clear hit;have al:∀(ob:Obj)(o:Nat),(wr.alloc ob).cell? ⟨b,o,V⟩=wr.cell? ⟨b,o,V⟩:=λob o=>((ax wr.1.size wr).alloc (aw _) ob).cell (p:=⟨b,o,V⟩) (by show b<_;omega);have HS:=I (GU l k (by rw[<-HN.o];exact hlt) (jF id cp mp));obtain⟨x,hx⟩:=aj ((aq.it l k).1);obtain⟨xa,ag⟩:∃x,x=(aq.it l k).2.1:=⟨_,rfl⟩;obtain⟨xb,ah⟩:∃x,x=(aq.it l k).2.2.1:=⟨_,rfl⟩;have HX:=I hx;have HW:=A (jF id cp mp (aq.it l k)=(decide (x=id)&&(decide (xa=cp)&&decide (xb=mp)))) (by rw[hx,ag,ah];rfl);have HO:=I (λ(e:x=id)=>OX HR.o (show k<l.length by rw[<-HN.o];exact hlt) (a:=cp) (b:=mp) (show(aq.it l k).1=id by rw[<-hx];exact e));rw[<-hx]at d0;rw[<-ag]at d1;rw[<-ah]at d2;clear hx ag ah;generalize (aq.it l k).2.2.2=xc at*;obtain⟨o,ho⟩:=aj ((l.take k).any (jF id cp mp));rw[<-ho];have am:=I ho;clear ho;by_cases q1:N<x;·have H:=A ((l.all λx=>decide (x.1<=N))=Y) (kU.2 ⟨aq.it l k,by rw[cd l k (by rw[<-HN.o];exact hlt)];exact cN _,by rw[<-HX.o,aM (by omega)];exact dR⟩);go_wp2_with fail;go_quiet (fail);go_wp2;go_ret;exact⟨aF (by rw[H.o,iD]),(O.o.alloc (by omega) _).trans ((below_drewN _ _).mono (by simp;omega))⟩
  by_cases q2:x=id
  ·have ap:(x==id)=aa:=by simpa using q2
   have ai:=I (HO.o q2);by_cases q3:xa=cp
   ·have ar:(xa==cp)=aa:=by simpa using q3
    have HF:=A ((l.take (k+1)).any (jF id cp mp)=(xb==mp)) (by rw[HS.o,HW.o,ai.o,aK q2,aK q3];by_cases q:xb=mp<;>simp[q]);clear q2 q3;go_wp2_with fail;go_quiet (fail);go_wp2_with fail;go_quiet (fail);go_wp2_with fail;go_quiet (fail);go_wp2;go_roundw;case rel=> refine⟨k+1,by omega,by go_num,by rw[HF.o],λj hj=>?_,(O.o.alloc (by omega) _).trans ((below_drewN _ _).mono (by simp;omega))⟩;by_cases e:j=k;subst e;rw[<-HX.o];omega;exact HA.o j (by omega)
    simp[aA];omega
   have ar:(xa==cp)=Y:=by simpa using q3
   have HF:=A ((l.take (k+1)).any (jF id cp mp)=Y) (by rw[HS.o,HW.o,ai.o,aK q2,aM q3];rfl);clear q2 q3;go_wp2_with fail;go_quiet (fail);go_wp2_with fail;go_quiet (fail);go_wp2_with fail;go_quiet (fail);go_wp2;go_roundw;case rel=> refine⟨k+1,by omega,by go_num,by rw[HF.o],λj hj=>?_,(O.o.alloc (by omega) _).trans ((below_drewN _ _).mono (by simp;omega))⟩;by_cases e:j=k;subst e;rw[<-HX.o];omega;exact HA.o j (by omega)
   simp[aA];omega
  have ap:(x==id)=Y:=by simpa using q2
  have HF:=A ((l.take (k+1)).any (jF id cp mp)=o) (by rw[HS.o,HW.o,aM q2,iD,ri,am.o]);clear q2;go_wp2_with fail;go_quiet (fail);go_wp2_with fail;go_quiet (fail);go_wp2;go_roundw;case rel=> refine⟨k+1,by omega,by go_num,by rw[HF.o],λj hj=>?_,(O.o.alloc (by omega) _).trans ((below_drewN _ _).mono (by simp;omega))⟩;by_cases e:j=k;subst e;rw[<-HX.o];omega;exact HA.o j (by omega)
  simp[aA];omega
 have ek:k=n:=by omega
 subst ek;have H1:=I (show(l.all λx=>decide (x.1<=N))=aa from fk.2 λx hx=>by obtain⟨i,hi,rfl⟩:=fT hx;have:=HA.o i (by rw[HN.o];exact hi);rw[cd l i hi]at this;exact aK this);have H2:=A ((l.take k).any (jF id cp mp)=l.any (jF id cp mp)) (by rw[HN.o,iF]);go_wp2;go_ret;exact⟨aF (by rw[H1.o,HT.o,H2.o];rfl),O.o⟩
theorem Nt{b oo S}(v){w}(h:aJ w b oo S)(hl:aY w S.sm zs)(hall:zs.all aG=aa)(h0:0<=S.ms)(h1:S.ms<2305843009213693951)(v0:0<=v)(v1:v<2305843009213693951):
  ay prog 293 #[aC (E ⟨b,oo,V⟩),Z J v] w λe w'=>e=az (Z J (bW S.ms zs v))/\af w.1.size w w':=by have c8:=h.c8;have c10:=h.c10;have O:=I (λ(nq:Nat)=>Fy S.ms v (hl.below (below_drewN w nq)) hall h0 h1 v0 v1);generalize S.ms=m at*;generalize S.sm=u at*;go_enter func293,ntmps293;go_wp2_with fail;go_quiet ((go_at_call 265;refine gv (O.o _)));go_wp2;go_ret;exact⟨rfl,below_drewN _ _⟩
theorem EB{b oo S}(v){w}(h:aJ w b oo S)(hl:aY w S.ss zs)(hall:zs.all aG=aa)(h0:0<=S.sd)(h1:S.sd<2305843009213693951)(v0:0<=v)(v1:v<2305843009213693951):
  ay prog 292 #[aC (E ⟨b,oo,V⟩),Z J v] w λe w'=>e=az (Z J (bW S.sd zs v))/\af w.1.size w w':=by have c8:=h.c9;have c10:=h.c11;have O:=I (λ(nq:Nat)=>Fy S.sd v (hl.below (below_drewN w nq)) hall h0 h1 v0 v1);generalize S.sd=m at*;generalize S.ss=u at*;go_enter func292,ntmps292;go_wp2_with fail;go_quiet ((go_at_call 265;refine gv (O.o _)));go_wp2;go_ret;exact⟨rfl,below_drewN _ _⟩
theorem xe{b oo S}(k){l w}(h:aJ w b oo S)(hl:aX w v l)(ho:aq.okF k S.id l=aa):
  ay prog 193 #[aC (E ⟨b,oo,V⟩),Z J k,v] w λe w'=>∃va,e=az va/\w'.ownsRow w.1.size 5 1 va (bm k S.id l).length ((bm k S.id l).map (Value.int .u8))/\af w.1.size w w':=by have c0:=h.c0;have Y:=I (BZ hl ho);obtain⟨a,cap,rfl,-⟩:=cK hl;go_enter func193,ntmps193;go_wp2_with fail;refine Y.o.mono ?_;rintro e w' ⟨va,rfl,ho,hb⟩;have HO:=I ho;have O:=I hb;go_wp2;go_ret;exact⟨_,rfl,HO.o,O.o⟩
theorem RP{b oo S}(l){w}(h:aJ w b oo S)(hr:bN l=aa)(hc:dr c)(dP:S.id=c.id)(ap:S.ms=c.ms)(aB:S.sd=c.sd)(hsm:aY w S.sm c.sm)(ba:aY w S.ss c.ss)(hf:∀v,v<13->S.f v=iq c l v):
  ay prog 260 #[aC (E ⟨b,oo,V⟩)] w λe w'=>
   ∃va,e=az va/\w'.ownsRow w.1.size 147 4 va (fO c l).length (bD (fO c l))/\af w.1.size w w':=by
 obtain⟨i1,bh,bi,bk,bl⟩:=bO lj;have hbl:=h.lt;obtain⟨g3,g4⟩:=hc.ms;obtain⟨g5,g6⟩:=hc.sd;have gi:=hc.i;have gn:=hc.n;have aN:=I h.range;have aO:=I (fW S.f);have aI:=I (zD S.f);have HP:=bj w λw1 hb=>(show w1.cell? ⟨b,oo,V⟩=E (Z J c.id)by rw[<-dP];exact(h.below hb).c0);have aQ:=I (λ(w1:ac)(v:Nat)(hv:v<13)(hb:af w.1.size w w1)=>Nt v (h.below hb) (hsm.below hb) hc.sm (by rw[ap];exact g3) (by rw[ap];exact g4) (by omega) (by omega));have aR:=I (λ(w1:ac)(v:Nat)(hv:v<13)(hb:af w.1.size w w1)=>EB v (h.below hb) (ba.below hb) hc.ss (by rw[aB];exact g5) (by rw[aB];exact g6) (by omega) (by omega));rw[aB]at aR;rw[ap]at aQ;have HF:=I hf;have bc:=I (RQ c hr);have aS:∀j:Nat,j<13->aP l j=aa->1<=j:=λj hj e=>by obtain⟨x,hx,ex⟩:=jC.1 e;have:=(gm hr).2 x hx;omega
 have H0:=I aS;clear h hr hsm ba hf hc dP ap aB aS;generalize S.f=f at*;obtain⟨CS,aW⟩:=aj (b_ f);rw[<-aW]at aN aO aI;clear aW;go_enter func260,ntmps260;go_wp2_with(refine eM rfl 203 _ rfl b (oo+12) rfl CS _ aN.o mU rfl ?z ?_);case z=>rw[lC,aO.o]
 go_wp2;go_loopw [3,16] (λu i wr=>∃k:Nat,k<=13/\i=Z J k/\wr.ownsRow w.1.size 147 4 u (h_ c l k).length (bD (h_ c l k))/\af w.1.size w wr) (λ_ i _=>13-(aA i).toNat);case atStart=>exact⟨0,by omega,rfl,dp _ _ _ _,ax _ _⟩
 obtain⟨k,hk,rfl,hown,aG⟩:=hrel;have HO:=I hown;have HB:=I aG;have hsz:=aG.size;obtain⟨a3,c3,hv3⟩:=a_ hown;subst hv3;clear hown aG;by_cases hlt:k<13
 ·have br:(k:Int)<13:=by omega
  have aF:=aI.o k hlt;have ae:(f k).mem=aP l k:=by rw[HF.o k hlt];unfold iq;cases e:aP l k;rw[ar (by simp)];rfl;rw[au rfl];unfold lu;split<;>rfl
  have am:=I (RO c l k);cases q:aP l k
  ·rw[q]at ae am;rw[ae]at aF;clear ae;have ai:=A (h_ c l (k+1)=h_ c l k) (by rw[am.o];simp);clear q;generalize (f k).ck=y1 at*;generalize (f k).mq=y2 at*;generalize (f k).ms=y3 at*;generalize (f k).ss=y4 at*;go_wp2;go_roundw;case rel=>exact⟨k+1,by omega,by go_num,by rw[ai.o];exact HO.o.alloc _,HB.o.alloc (by omega) _⟩
   simp[aA];omega
  rw[q]at ae am;rw[ae]at aF;clear ae;have c0:=HP.o _ HB.o;have al:∀(ob:Obj)(o:Nat),(wr.alloc ob).cell? ⟨b,o,V⟩=wr.cell? ⟨b,o,V⟩:=λob o=>((ax wr.1.size wr).alloc (aw _) ob).cell (p:=⟨b,o,V⟩) (by show b<_;omega);by_cases q2:(k:Int)=c.id
  ·have bo:((k:Int)==c.id)=aa:=by simpa using q2
   have ai:=A (h_ c l (k+1)=h_ c l k) (by rw[am.o,aM (by simpa using q2)];simp);clear q q2;generalize (f k).ck=y1 at*;generalize (f k).mq=y2 at*;generalize (f k).ms=y3 at*;generalize (f k).ss=y4 at*;go_wp2;go_roundw;case rel=>exact⟨k+1,by omega,by go_num,by rw[ai.o];exact HO.o.alloc _,HB.o.alloc (by omega) _⟩
   simp[aA];omega
  have bo:((k:Int)==c.id)=Y:=by simpa using q2
  have bp:=H0.o k hlt q;have aX:(f k).ck=dh c l k:=by rw[HF.o k hlt];unfold iq;rw[au q];unfold lu;rw[ar q2]
  have k1:=ki (aL l (k:Int)).2.1 c.ch;have k2:=kh (aL l (k:Int)).2.1 c.ch;rw[aX]at aF;have ai:=A (h_ c l (k+1)=h_ c l k++[pC c l k]) (by rw[am.o,aK (by simpa using q2)];simp)
  have O:=I (show pC c l (k:Int)=((k:Int),bA (bW c.ms c.sm k) (bL (dh c l k) (64*c.id+4*k)),bA (bW c.sd c.ss k) (bL (dh c l k) (64*c.id+4*k+1)),
   fj (dh c l k) (64*c.id+4*k) (bA (bW c.ms c.sm k) (bL (dh c l k) (64*c.id+4*k))) (bA (bW c.sd c.ss k) (bL (dh c l k) (64*c.id+4*k+1))))from rfl);have p1:0<=bW c.ms c.sm k/\bW c.ms c.sm k<2305843009213693951:=io.1 (rR);have p2:0<=bW c.sd c.ss k/\bW c.sd c.ss k<2305843009213693951:=io.1 (rR);obtain⟨M,hM⟩:=aj (bW c.ms c.sm k);obtain⟨bb,hE⟩:=aj (bW c.sd c.ss k);have k3:0<=dh c l k:=k1;have k4:dh c l k<2305843009213693951:=k2;obtain⟨K,hK⟩:=aj (dh c l k);rw[<-hK]at aF O k3 k4;rw[<-hM]at p1 O;rw[<-hE]at p2 O;have HM:=I hM;have HE:=I hE;obtain⟨p1,bm⟩:=p1;obtain⟨p2,bn⟩:=p2;clear q q2 hM hE hK aX k1 k2;generalize (f k).mq=y2 at*;generalize (f k).ms=y3 at*;generalize (f k).ss=y4 at*;obtain⟨W1,hW1⟩:=aj (wr.alloc (ah #[ak aa,Z J K,Z J y2,Z J y3,Z J y4] 201));have sW:W1.1.size=wr.1.size+1:=by rw[hW1];simp
  have BW:=A (af w.1.size w W1) (by rw[hW1];exact HB.o.alloc (by omega) _);have OW:=A (W1.ownsRow w.1.size 147 4 (U a3 (h_ c l k).length c3) (h_ c l k).length (bD (h_ c l k))) (by rw[hW1];exact HO.o.alloc _);have z1:W1.cell? ⟨wr.1.size,1,V⟩=E (Z J K):=by rw[hW1];simp
  have Z1:=I z1;clear z1;have bg:=I hW1;go_wp2_with fail;rw[<-bg.o];clear hW1 al c0;refine aH (aQ.o W1 k hlt BW.o) λw1 hb1=>?_;rw[<-HM.o];have s1:=hb1.size;have B1:=I (BW.o.trans (hb1.mono BW.o.size));have O1:=I (bf (S:=λ_=>False) OW.o (av.bz hb1) (λ_ _ h=>h));have Z2:=I ((hb1.cell (p:=⟨wr.1.size,1,V⟩) (by show wr.1.size<W1.1.size;omega)).trans Z1.o);clear hb1;go_wp2_with fail;refine aH (aR.o w1 k hlt B1.o) λw2 hb2=>?_;rw[<-HE.o];have s2:=hb2.size;have B2:=I (B1.o.trans (hb2.mono B1.o.size));have O2:=I (bf (S:=λ_=>False) O1.o (av.bz hb2) (λ_ _ h=>h));have z3:=(hb2.cell (p:=⟨wr.1.size,1,V⟩) (by show wr.1.size<w1.1.size;omega)).trans Z2.o;have c0:=HP.o _ B2.o;clear hb2;go_wp2_with fail;go_quiet ((go_at_call 218;refine gv (RL k3 k4 (by omega) (by omega) (by omega) (by omega) p1 bm p2 bn)));obtain⟨A1,aT⟩:∃ag,ag=bA M (bL K (64*c.id+4*k)):=⟨_,rfl⟩;obtain⟨A2,aU⟩:∃ag,ag=bA bb (bL K (64*c.id+4*k+1)):=⟨_,rfl⟩;rw[<-aT,<-aU]at O ⊢;obtain⟨A3,aV⟩:∃ag,ag=fj K (64*c.id+4*k) A1 A2:=⟨_,rfl⟩;rw[<-aV]at O ⊢;clear aT aU aV;have O3:=I (bf (S:=λ_=>False) O2.o (av.bz (below_drewN w2 nq)) (λ_ _ h=>h));have B3:=I (B2.o.trans ((below_drewN w2 nq).mono B2.o.size));have bq:=RN c l k;go_wp2_with(at_builtin;refine eF _ rfl _ _ 63 rfl w.1.size 147 i1 (aD #[Z J 0,Z J 0,Z J 0,Z J 0]) 4 32 iG bh bi bk bl rfl (by decide) _ _ _ rfl (O3.o.alloc _) ⟨(w2.drewN nq).1.size,0,V⟩ 1 1 [Z J k,Z J A1,Z J A2,Z J A3] rfl rfl ?c1 ?c2 ?c3 ?c4 ?c5 ?_);case c1=>exact jS _ _ _ _ _ _
  case c2=>intro u hu;simp at hu;rcases hu with rfl|rfl|rfl|rfl<;>rfl
  case c3=>unfold maxLen;omega
  case c4=>omega
  case c5=>simp;omega
  intro v' w4 hown' aZ _;have hb4:=(B3.o.alloc (by simp;omega) _).grown aZ (by simp;omega) (λy hy=>(O3.o.lt y hy).1);have B4:=I hb4;have O4:=I (show w4.ownsRow w.1.size 147 4 v' (h_ c l (k+1)).length (bD (h_ c l (k+1)))by rw[ai.o,jc,O.o,cy];exact hown');clear hown' aZ hb4;go_wp2;go_roundw;case rel=>exact⟨k+1,by omega,by go_num,O4.o,B4.o⟩
  simp[aA];omega
 have ek:k=13:=by omega
 subst ek;go_wp2;go_ret;exact⟨_,rfl,by rw[<-bc.o];exact HO.o,HB.o⟩
end Co
end Go.Proofs.YtchideljndagjabGreat


