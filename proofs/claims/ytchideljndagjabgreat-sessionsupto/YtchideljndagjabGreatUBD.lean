/- Joined -/
import Derived.Test.YtchideljndagjabGreatUBC
import Derived.Test.YtchideljndagjabGreatUAL
set_option linter.unusedVariables false
set_option maxHeartbeats 4000000
set_option maxRecDepth 100000
namespace Go.Proofs.YtchideljndagjabGreat
open aq aO aB bb
open Go.Value renaming int->Z,slice->U,pointer->aC,agg->aD,tuple->br
open Go.IntKind renaming i64->J
open Go.Obj renaming cells->ah
open Go.Ending renaming returned->az
open Or renaming inl->ae,inr->Q
open Option renaming none->V,some->E
open Bool renaming false->Y,true->aa
open Go renaming World->ac,Value->ag,Calls->ay
open Go.RowKit renaming Below->af
open Go.Proofs.Tryz
variable {M N T:Int}{ps:List Pk}{vs:List ag}{a:Option Addr}{S:SS}{cv fv:ag}{w:ac}
section
open Go.ChangeShapes Go.WideShapes Go.ChangeAt Go.RowKit
def fN (N T M:Int)(O:Nat->DD)(j:Nat):Cl:=⟨N,T,M,(j:Int)+1,(O j).inp,(O j).ch,(O j).ms,(O j).sd,(O j).sm,(O j).ss⟩
def fY (N T M D:Int)(O:Nat->DD)(j:Nat):Int:=eT N T M D ((j:Int)+1) (O j).inp (O j).ch (O j).ms (O j).sd (O j).sm (O j).ss
structure AX (w w':ac)(n:Nat)(N T M D:Int)(O:Nat->DD)(b:Nat)(S:SS)(P:Nat->PS)(cv fv:ag)(us:List ag):Prop where
 fresh:S=gP N T M D λu:Nat=>decide (1<=u/\(u:Int)<=N)
 bP:eB w' b n ⟨N,T,M,D⟩ (fN N T M O) S P cv fv us (lh (fN N T M O) n)
 new:∀x,(x=b\/cv.ownBlock=E x\/fv.ownBlock=E x\/kY b n S P us x)->w.1.size<=x
theorem Sm (O)(hl:O.length=76):List.foldl (λ(cs:Array ag)(x:ag×Nat)=>cs.setIfInBounds x.2 x.1) zeroCells109 O.zipIdx=(O++[Value.slice V 0 0,Value.slice V 0 0]).toArray:=by
 have hz:zeroCells109.size=78:=by rw[rf];rfl
 apply uF;intro i;rw[EK O 0 _ i (by omega)];by_cases q:i<76;·rw[au (by omega),Nat.sub_zero,tu,ey (by omega)]
 rw[ar (by omega),rf,tu,tu];unfold fh;rw[fo (by show 76<=i;omega),fo (by omega),hl];rfl
theorem eB.keep{w' b i C cl P}(h:eB w b i C cl S P cv fv vs ps)(hs:w.1.size<=w'.1.size)(hb:∀x,(x=b\/cv.ownBlock=E x\/fv.ownBlock=E x\/kY b i S P vs x)->w'.1[x]?=w.1[x]?):eB w' b i C cl S P cv fv vs ps:=by
 have O:=hb b (ae rfl);have Y:∀x,kY b i S P vs x->w'.1[x]?=w.1[x]? :=λx hx=>hb x (Q (Q (Q hx)))
 exact{h with
  ba:=h.ba.keep hs (λx hx=>by by_cases e:x=b;rw[e];exact O;exact Y x (ae ⟨hx,e⟩))
  fy:=(ez (w:=w) (a:=⟨b,76,V⟩) O).trans h.fy
  f76:=(mF O 76).trans h.f76
  bJ:=(ez (w:=w) (a:=⟨b,77,V⟩) O).trans h.bJ
  f77:=(mF O 77).trans h.f77
  row:=mO h.row (λx hx=>hb x (Q (ae hx)))
  fr:=λj hj=>(h.fr j hj).keep hs (λx hx=>Y x (Q (ae ⟨j,hj,hx⟩)))
  fl:=h.fl.keep hs (λx hx=>hb x (Q (Q (ae hx)))) (λy hy x hx=>Y x (Q (Q ⟨y,hy,hx⟩)))}
theorem eB.range{b i C cl P}(h:eB w b i C cl S P cv fv vs ps):w.rangeAt b 0 (fh S cv fv):=λj v hj=>by
 have hl:(cM S).length=76:=rfl;by_cases q:j<76;unfold fh at hj;rw[ey (by rw[hl];exact q)]at hj;exact(h.ba.ba.at_ j v hj).1;have O:j<78:=by have:=(fC.1 hj).1;rwa [qQ]at this
 rcases(show j=76\/j=77 by omega)with rfl|rfl;have e:(fh S cv fv)[76]?=E cv:=rfl;rw[e]at hj;cases hj;exact h.fy;have e:(fh S cv fv)[77]?=E fv:=rfl;rw[e]at hj;cases hj;exact h.bJ
theorem eB.one{b i C cl P}(h:eB w b i C cl S P cv fv vs ps)(hS:∀v∈cM S,v.oneCell'=aa):∀v∈fh S cv fv,v.oneCell'=aa:=λv hv=>by obtain⟨a1,c1,e1⟩:=a_ h.row;obtain⟨a2,c2,e2,_⟩:=h.fl.view;rcases cZ.1 hv with hv|hv;exact hS v hv;simp only[List.mem_cons,List.not_mem_nil,or_false]at hv;rcases hv with rfl|rfl;rw[e1];rfl;rw[e2];rfl
theorem IA{b T s}(h:aJ w b T s):Co.aJ w b 0 s:=λj v hj=>by refine⟨?_,eh w b _ _ _ h⟩;rw[cz,h.cell j];exact hj
theorem KV:(prog.info? 205).map (λi=>(i.zero,i.size,i.bytes))=E (E (aD (cx iC).toArray),78,688):=by kernel_rfl
structure xM (w wr:ac)(bx j:Nat)(N T M D:Int)(O:Nat->DD)(S:SS)(P:Nat->PS)(cv fv:ag)(us:List ag):Prop where
 bP:eB wr bx j ⟨N,T,M,D⟩ (fN N T M O) S P cv fv us (lh (fN N T M O) j)
 new:∀x,(x=bx\/cv.ownBlock=E x\/fv.ownBlock=E x\/kY bx j S P us x)->w.1.size+2<=x
 fF:af w.1.size w wr
 i_:wr.1[w.1.size]?=E (ah #[Z J N,Z J T,Z J M,Z J D] 26 (0,0))
 res:wr.1[w.1.size+1]?=E (ah (fh fS (U V 0 0) (U V 0 0)).toArray 109 (0,0))
 ok:∀k,k<j->fY N T M D O k=0
theorem ED (D){n c:Nat}{vi vm vs O}(h:dV N T M D=aa)(hn:(n:Int)=N)(hD:jP w a n c vi vm vs O):
  ay prog 61 #[aD #[Z J N,Z J T,Z J M,Z J D],U a n c] w λe w'=>af w.1.size w w'/\((∃i,i<n/\fY N T M D O i≠0/\e=az (br #[aD (fh fS (U V 0 0) (U V 0 0)).toArray,Z J (fY N T M D O i)]))\/((∀j,j<n->fY N T M D O j=0)/\∃b S P cv fv us,e=az (br #[aD (fh S cv fv).toArray,Z J 0])/\AX w w' n N T M D O b S P cv fv us)):=by
 have HN:=I (λ(W:ac)=>Ey D W h);obtain⟨CS,aN⟩:=aj (cM (gP N T M D λu:Nat=>decide (1<=u/\(u:Int)<=N)));rw[<-aN]at HN;have aA:=A (CS.length=76) (by rw[aN];rfl);have bD:=A (CS.toArray.all (·.oneCell')=aa) (by rw[aN];exact dN (tN N T M D _));have cF:=A ((prog.info? 106).map (·.size)=E CS.toArray.size) (by rw[sJ,bR,aA.o]);obtain⟨ZS,aF⟩:=aj (fh fS (U V 0 0) (U V 0 0));have aM:=A (ZS.length=78) (by rw[aF];rfl);have cN:=A (ZS.toArray.all (·.oneCell')=aa) (by rw[aF];exact dN xg);have bJ:=A ((prog.info? 109).map (·.size)=E ZS.toArray.size) (by rw[ou,bR,aM.o]);have au:=A (zeroCells109=ZS.toArray) (by rw[aF];exact rf);rw[<-aF];have bA:=I aN;have dJ:((n:Int) != N)=Y:=by simpa using hn
 have cz:=I hn;have cR:=I aF;have cu:=bj w λW hb=>hD.below hb;have dB:=hD.le;have dC:=hD.mx;clear h aN aF hn hD;obtain⟨W0,hW0⟩:=aj ((w.alloc (ah #[Z J N,Z J T,Z J M,Z J D] 26)).alloc (ah zeroCells109 109));have b0:af w.1.size w W0:=by rw[hW0];exact((ax _ _).alloc (aw _) _).alloc (by simp) _
 have z0:W0.1.size=w.1.size+2:=by rw[hW0];simp
 have r0:W0.1[w.1.size]?=E (ah #[Z J N,Z J T,Z J M,Z J D] 26 (0,0)):=by rw[hW0,gf _ _ _ (by simp)];exact bo w _
 have r1:W0.1[w.1.size+1]?=E (ah ZS.toArray 109 (0,0)):=by have:=bo (w.alloc (ah #[Z J N,Z J T,Z J M,Z J D] 26)) (ah zeroCells109 109);rw[hW0,<-au.o];simpa using this
 obtain⟨⟨x0,x1,x2,x3⟩,-⟩:=gg r0;have R1:=I r1;have R0:=I r0;have B0:=I b0;have cI:=I hW0;have bQ:=I z0;have dx:w.1.size<W0.1.size:=by omega
 clear hW0 b0 r0 r1 z0;go_enter func61,ntmps61;go_upto_region 1 with fail;rw[<-cI.o];go_wp2_with fail;refine aH (HN.o W0) λw1 hb1=>?_;have s1:=hb1.size;have dv:=bQ.o;have R2:=I ((hb1.block (w.1.size+1) (by omega)).trans R1.o);have B1:=I (B0.o.trans (hb1.mono B0.o.size));have z1:=B1.o.size;have aZ:gY (w1.alloc (ah zeroCells106 106)) w1.1.size 106 fS:=by unfold gY;rw[<-rh];exact bo w1 _
 have cH:=A ((w1.alloc (ah zeroCells106 106)).there w1.1.size 0 CS.toArray.size) (by rw[show CS.toArray.size=76 by rw[bR];exact aA.o];exact aZ.at_.there 0 76 (by omega));obtain⟨w2,hw2⟩:=aj ((w1.alloc (ah zeroCells106 106)).setCells w1.1.size 0 CS);have hb2:af w1.1.size w1 w2:=by rw[hw2];exact dU (aw _) _ _ _ ((ax _ _).alloc (aw _) _)
 have R3:=I ((hb2.block (w.1.size+1) (by omega)).trans R2.o);have cY:=I ((hb2.block w.1.size (by omega)).trans ((hb1.block w.1.size (by omega)).trans R0.o));have B2:=I (B1.o.trans (hb2.mono z1));have bH:=I hw2;have y0:w2.cell? ⟨w.1.size,0,V⟩=E (Z J N):=(hb2.cell (p:=⟨w.1.size,0,V⟩) (by show w.1.size<_;omega)).trans ((hb1.cell (p:=⟨w.1.size,0,V⟩) dx).trans x0);have dK:w.1.size<w2.1.size:=by have:=hb2.size;omega
 have cC:=A (W0.1.size<=w2.1.size) (by have:=hb2.size;omega);clear hb1 aZ hb2 hw2 dv x0 x1 x2 x3;have hrg:w2.rangeAt w1.1.size 0 CS:=by
  have aZ:gY (w1.alloc (ah zeroCells106 106)) w1.1.size 106 fS:=by unfold gY;rw[<-rh];exact bo w1 _
  rw[bH.o,bA.o];exact(aZ.gU _).range
 have RG:=I hrg;have cE:=A ((prog.info? 106).map (·.size)=E CS.length) (by rw[sJ,aA.o]);have bC:=I (Sm CS aA.o);clear hrg;go_upto_region 2 with(refine cB rfl 106 _ _ rfl w1.1.size 0 CS.toArray rfl rfl cH.o cF.o bD.o ?_);rw[<-bH.o];go_upto_region 6 with fail;have dL:=aA.o;obtain⟨XS,aT⟩:=aj (CS++[Value.slice V 0 0,Value.slice V 0 0]);rw[<-aT]at bC;have LX:=A (XS.length=78) (by rw[aT,cy,aA.o];rfl);have cK:=I (show XS.toArray.all (·.oneCell')=aa by rw[aT];exact dN (λv hv=>by rcases cZ.1 hv with hv|hv;exact xr.1 bD.o v (by simpa using hv);simp only[List.mem_cons,List.not_mem_nil,or_false]at hv;rcases hv with rfl|rfl<;>rfl));have cL:=A ((prog.info? 109).map (·.size)=E XS.toArray.size) (by rw[ou,bR,LX.o]);have r8:(w2.alloc (ah zeroCells109 109)).1[w2.1.size]?=E (ah ZS.toArray 109 (0,0)):=by rw[<-au.o];exact bo w2 _
 have cG:=I (show(w2.alloc (ah zeroCells109 109)).there w2.1.size 0 XS.toArray.size from λj hj=>by
  have dG:j<78:=by have:=LX.o;simp at hj;omega
  refine⟨?_,eh _ _ _ _ _ r8⟩;rw[bg _ w2.1.size (0+j) _ _ (0,0) r8];simp only[List.getElem?_toArray];rw[aQ (by rw[aM.o];omega)];rfl);go_upto_region 7 with(first|refine eM rfl 106 _ rfl w1.1.size 0 rfl CS _ RG.o Ge rfl cE.o ?_|refine cB rfl 109 _ _ rfl w2.1.size 0 XS.toArray rfl (by rw[<-bC.o];rfl) cG.o cL.o cK.o ?_);obtain⟨w3,hw3⟩:=aj ((w2.alloc (ah zeroCells109 109)).setCells w2.1.size 0 XS);have aW:af w2.1.size w2 w3:=by rw[hw3];exact dU (aw _) _ _ _ ((ax _ _).alloc (aw _) _)
 have hr3:w3.1[w2.1.size]?=E (ah XS.toArray 109 (0,0)):=by rw[hw3];exact sH r8 (by rw[aM.o,LX.o])
 have dR:w.1.size+2<=w2.1.size:=by have:=bQ.o;have:=cC.o;omega
 have bN:=I (show xM w w3 w2.1.size 0 N T M D O (gP N T M D λu:Nat=>decide (1<=u/\(u:Int)<=N)) (λ_=>iC) (U V 0 0) (U V 0 0) []from by refine⟨Sk rfl (by rw[hr3,aT,bA.o];rfl),λx hx=>?_,B2.o.trans (aW.mono B2.o.size),(aW.block _ (by omega)).trans cY.o,(aW.block _ (by omega)).trans (by rw[R3.o,cR.o]),λk hk=>by omega⟩;rcases hx with hx|hx|hx|hx;omega;cases hx;cases hx;rcases hx with⟨hx,e⟩|⟨j,hj,_⟩|⟨y,hy,_⟩;exact absurd (tM hx) e;omega;cases hy);rw[<-hw3];clear hw3 aW hr3 r8 aT y0;obtain⟨bx,bY⟩:=aj w2.1.size;rw[<-bY]at bN ⊢;clear bY;go_wp2;go_loopw [33] (λx wr=>∃(j:Nat)(P:Nat->PS)(cv fv:ag)(us:List ag),j<=n/\x=Z J j/\xM w wr bx j N T M D O (gP N T M D λu:Nat=>decide (1<=u/\(u:Int)<=N)) P cv fv us) (λx _=>n-(intOf x).toNat);case atStart=>exact⟨0,_,_,_,_,bi _,rfl,bN.o⟩
 obtain⟨j,P,cv,fv,us,hj,rfl,ai⟩:=hrel;have HR:=I ai;by_cases hlt:j<n
 ·have aX:=cu.o wr ai.fF;obtain⟨db,off,dm,dE,d0,d1,d2,d3,d4,d5⟩:=aX.cells j hlt;obtain⟨l1,l2,l3,-⟩:=aX.its j hlt;subst dm;have am:=ai.fF;have sw:=am.size;have b_:w.1.size<wr.1.size:=by by_cases q:w.1.size<wr.1.size;exact q;have:=ai.i_;rw[cT (by omega)]at this;cases this
  obtain⟨a1,k1,e1,-⟩:=l1;obtain⟨a2,k2,e2,-⟩:=l2;obtain⟨a3,k3,e3,-⟩:=l3;have LL:=I (aX.its j hlt);rw[e1]at d0;rw[e2]at d4;rw[e3]at d5;rw[e1,e2,e3]at LL;obtain⟨W1,hW1⟩:=aj (wr.alloc (ah #[U a1 (O j).inp.length k1,Z J (O j).ch,Z J (O j).ms,Z J (O j).sd,U a2 (O j).sm.length k2,U a3 (O j).ss.length k3] 117));have bW:af wr.1.size wr W1:=by rw[hW1];exact(ax _ _).alloc (aw _) _
  have zW:wr.1.size<W1.1.size:=by rw[hW1];simp
  have rW:W1.1[wr.1.size]?=E (ah #[U a1 (O j).inp.length k1,Z J (O j).ch,Z J (O j).ms,Z J (O j).sd,U a2 (O j).sm.length k2,U a3 (O j).ss.length k3] 117 (0,0)):=by rw[hW1];exact bo wr _
  have g0:W1.cell? ⟨wr.1.size,0,V⟩=E (U a1 (O j).inp.length k1):=(bg W1 _ 0 _ _ (0,0) rW).trans rfl;have g1:W1.cell? ⟨wr.1.size,1,V⟩=E (Z J (O j).ch):=(bg W1 _ 1 _ _ (0,0) rW).trans rfl;have g2:W1.cell? ⟨wr.1.size,2,V⟩=E (Z J (O j).ms):=(bg W1 _ 2 _ _ (0,0) rW).trans rfl;have g3:W1.cell? ⟨wr.1.size,3,V⟩=E (Z J (O j).sd):=(bg W1 _ 3 _ _ (0,0) rW).trans rfl;have g4:W1.cell? ⟨wr.1.size,4,V⟩=E (U a2 (O j).sm.length k2):=(bg W1 _ 4 _ _ (0,0) rW).trans rfl;have g5:W1.cell? ⟨wr.1.size,5,V⟩=E (U a3 (O j).ss.length k3):=(bg W1 _ 5 _ _ (0,0) rW).trans rfl;obtain⟨⟨q0,q1,q2,q3⟩,-⟩:=gg ((bW.block w.1.size b_).trans ai.i_);have bG:=I hW1;have dH:(0:Int)<=(j:Int):=by omega
  have dI:(j:Int)<(n:Int):=by omega
  have cw:=I hlt;have cV:=I (λ(hE:fY N T M D O j≠0)=>NS (LL.o.1.below bW) (LL.o.2.1.below bW) (LL.o.2.2.1.below bW) hE);have cW:=I (λ(hE:fY N T M D O j=0)=>NT (LL.o.1.below bW) (LL.o.2.1.below bW) (LL.o.2.2.1.below bW) hE);have BW:=I bW;have RW:=I rW;clear aX hW1 bW rW e1 e2 e3;obtain⟨ct,aP⟩:=aj (fY N T M D O j);by_cases hE:fY N T M D O j=0
  ·have HC:=I (cW.o hE);obtain⟨bT,bU,bV⟩:=yZ hE;have hg:=vG bT bU bV;have aq:=I (And.intro hE (show dr (fN N T M O j)from hg));have bk:=I (am.trans (BW.o.mono sw));have SN:=I (ai.bP.below BW.o);clear hE aP ai am bT bU bV hg;go_upto_region 10 with fail;rw[<-bG.o];go_wp2_with fail;refine HC.o.mono ?_;rintro e w4 ⟨v1,v2,v3,rfl,o1,o2,o3,hb4⟩;have s4:=hb4.size;obtain⟨p1,r1,cg⟩:=a_ o1;obtain⟨p2,r2,hv2⟩:=a_ o2;obtain⟨p3,r3,hv3⟩:=a_ o3;obtain⟨Pn,aR⟩:=aj (tL ((j:Int)+1) N T (O j).ch (O j).ms (O j).sd v1 v2 v3);rw[<-aR];have bS:∀{zs:List Int},zs.all aG=aa->∀z∈zs,bq z:=λh z hz=>by have:=io.1 (fk.1 h z hz);unfold bq;omega
   have FP:=I (show kX w4 (fN N T M O j) Pn/\∀x,(Pn.inp.ownBlock=E x\/Pn.sm.ownBlock=E x\/Pn.ss.ownBlock=E x)->W1.1.size<=x from by
    rw[aR];refine⟨⟨rfl,na o1 (λz hz=>by have:=aq.o.2.inp z hz;unfold bq;omega),na o2 (bS aq.o.2.sm),na o3 (bS aq.o.2.ss),λx hx=>?_⟩,λx hx=>?_⟩;·rcases hx with hx|hx|hx;exact(o1.lt x hx).2;exact(o2.lt x hx).2;exact(o3.lt x hx).2
    rcases hx with hx|hx|hx;exact(o1.lt x hx).1;exact(o2.lt x hx).1;exact(o3.lt x hx).1);have ak:=A (Pn.id=(fN N T M O j).id/\Pn.cp=kj (fN N T M O j)/\Pn.mp=aO.eU (fN N T M O j)) (by rw[aR];exact⟨rfl,rfl,rfl⟩);obtain⟨PC,aC⟩:=aj (cx Pn);rw[<-aC];have LP:=A (PC.length=78) (by rw[aC];exact gD _);have PO:=A (PC.toArray.all (·.oneCell')=aa) (by rw[aC,aR,cg,hv2,hv3];exact sq _ rfl rfl rfl rfl);have bn:=A ((prog.info? 205).map (·.size)=E PC.toArray.size) (by rw[sI,bR,LP.o]);have cX:=A ((prog.info? 205).map (·.size)=E PC.length) (by rw[sI,LP.o]);have aK:aJ (w4.alloc (ah zeroCells205 205)) w4.1.size 205 iC:=by unfold aJ;rw[<-ux];exact bo w4 _
   have PT:=A ((w4.alloc (ah zeroCells205 205)).there w4.1.size 0 PC.toArray.size) (by rw[show PC.toArray.size=78 by rw[bR];exact LP.o];exact aK.there 0 78 (by omega));obtain⟨w5,ap⟩:=aj ((w4.alloc (ah zeroCells205 205)).setCells w4.1.size 0 PC);have ar:af w4.1.size w4 w5:=by rw[ap];exact dU (aw _) _ _ _ ((ax _ _).alloc (aw _) _)
   have ba:Co.aJ w5 w4.1.size 0 Pn:=by rw[ap,aC];exact IA (aK.gU Pn)
   have z5:w4.1.size<w5.1.size:=ba.lt;have HH:=I (Co.KA ba (by rw[ak.o.1,ak.o.2.1,ak.o.2.2];exact tQ aq.o.2));have cA:=I ba;have B5:=I (hb4.trans (ar.mono s4));have cq:=I ar;have bE:=I aC;have bl:=I ap;clear o1 o2 o3 hb4 aK ar ap aC aR cg hv2 hv3 ba g0 g1 g2 g3 g4 g5 q0 q1 q2 q3;go_upto_region 11 with(refine cB rfl 205 _ _ rfl w4.1.size 0 PC.toArray rfl rfl PT.o bn.o PO.o ?_);rw[<-bl.o];go_wp2_with fail;refine HH.o.mono ?_;rintro e w6 ⟨va,rfl,oh,aU⟩;have s6:=aU.size;have B6:=I (B5.o.trans (aU.mono (by have:=B5.o.size;omega)));have bv:=I (cq.o.trans (aU.mono (by omega)));have S6:=I (SN.o.below B6.o);obtain⟨a7,c7,bp⟩:=a_ oh;have OH:=I oh;have dh:=A (w6.rangeAt w4.1.size 0 PC) (by rw[bE.o];exact bw.range (cA.o.below aU));have fy:=S6.o.fy;have f76:=S6.o.f76;have bZ:=S6.o.blt;obtain⟨a8,c8,bb⟩:=a_ S6.o.row;have bM:=I S6.o.row;have OWN:=I S6.o.own;have dt:=bp;obtain⟨ln,ce⟩:=aj ((bm 1 Pn.id [(Pn.id,Pn.cp,Pn.mp,0)]).length);rw[<-ce]at bp;subst bp;have bF:=I bb;rw[bb]at fy bM;obtain⟨i1,cd,ck,cm,dy⟩:=bO KV;have dM:n<=12:=by have h1:1<=N/\N<=12:=aq.o.2.n;have h2:=cz.o;omega
   have hzs:(Value.agg (cx iC).toArray).cells.size=78:=by kernel_rfl
   have NB:=A ((Value.slice a8 j c8).ownBlock≠E bx) (by have:=OWN.o.1;rw[bb]at this;exact this);clear oh aU bb dt ce;go_upto_region 14 with fail;have bX:∀k u,PC[k]?=E u->(w6.alloc (ah PC.toArray 205)).cell? ((⟨w6.1.size,0,V⟩:Addr).add k)=E u:=λk u hk=>Vd (cs:=PC.toArray) (bo w6 (ah PC.toArray 205)) k u (by simpa using hk);have D1:=I bX;clear bX;go_wp2_with(first|refine eM rfl 205 _ rfl w4.1.size 0 rfl PC _ dh.o sY rfl cX.o ?_|refine UP rfl 107 205 rfl PC 78 i1 underlying107 cd ck cm (by decide) (by decide) LP.o rfl ?_|(at_builtin;refine tx _ rfl _ _ 107 rfl 0 205 i1 (aD (cx iC).toArray) 78 688 underlying107 cd ck cm dy hzs (by decide) (U a8 j c8) j (jW P j) rfl (bM.o.alloc _) ⟨w6.1.size,0,V⟩ 1 1 PC rfl (by rw[LP.o]) D1.o (λu hu=>xr.1 PO.o u (by simpa using hu)) (by decide) (by unfold maxLen;omega) (by omega) (bi _) _ rfl ?_));intro g cap w7 hr hgr hat dF;have aI:af w6.1.size w6 (w6.alloc (ah PC.toArray 205)):=(ax _ _).alloc (aw _) _;have d76:w7.cell? ⟨bx,76,V⟩=E (U a8 j c8):=by rw[hgr.cell_far ⟨bx,76,V⟩ (by show bx<_;simp;omega) (λe=>NB.o e.symm),aI.cell (p:=⟨bx,76,V⟩) bZ];exact fy
   have dl:w7.frozen? ⟨bx,76,V⟩=Y:=by rw[hgr.frozen_far ⟨bx,76,V⟩ (by show bx<_;simp;omega) (λe=>NB.o e.symm),aI.frozen (p:=⟨bx,76,V⟩) bZ];exact f76
   obtain⟨w8,cj⟩:=aj (w7.setCell ⟨bx,76,V⟩ (U (E ⟨g,0,V⟩) (j+1) cap));have GR:=I (And.intro hr (And.intro hgr hat));have bI:=I cj;clear hr hgr hat aI cj fy f76;go_upto_region 15 with fail;rw[<-bI.o];obtain⟨hr,hgr,hat⟩:=GR.o;have aI:af w6.1.size w6 (w6.alloc (ah PC.toArray 205)):=(ax _ _).alloc (aw _) _;have hcw:av (λx=>cv.ownBlock=E x) w6 w7:=by rw[bF.o];exact(av.bz aI).trans (av.grown hgr) (λx e _=>e)
   have aL:∀x,(Value.slice (E ⟨g,0,V⟩) (j+1) cap).ownBlock=E x->cv.ownBlock=E x\/w6.1.size<=x:=λx hx=>by
    have e:x=g:=by simpa[Value.ownBlock]using hx.symm
    subst e;rw[bF.o];rcases hat with k|k;exact ae k;exact Q (by omega)
   have dA:=SN.o.blt;have bc:∀x,cv.ownBlock=E x->x<W1.1.size:=λx hx=>(SN.o.row.lt x hx).2;have bt:∀x,fv.ownBlock=E x->x<W1.1.size:=λx hx=>SN.o.fl.ot hx;have dz:=bv.o.size;have F6:kX w6 (fN N T M O j) Pn:=FP.o.1.keep dz (λx hx=>bv.o.block x (FP.o.1.low x hx));obtain⟨N8,C8⟩:=S6.o.xQ (Pn:=Pn) hcw (by rw[<-bE.o];exact hr) aL bI.o F6 (λx hx=>by have q:=FP.o.2 x hx;exact⟨by omega,λe=>by have:=bc x e;omega,λe=>by have:=bt x e;omega⟩);have aB:=OH.o.lt;have bK:=bf OH.o C8 (λx hx e=>by have q:=(aB x hx).1;rcases e with e|e;omega;have:=bc x e;omega);have cn:=nM bK (qq (by rw[ak.o.1,ak.o.2.1,ak.o.2.2];exact tQ aq.o.2));have z8:=C8.size;have cD:=I (Sg ((j:Int)+1) N8 cn (λx hx=>by have q:=aB x hx;refine⟨by omega,by omega,λe=>?_,λe=>by have:=bt x e;omega⟩;rcases aL x e with k|k;have:=bc x k;omega;omega) (by rw[m_];omega));have cS:=I (And.intro C8 (And.intro aL aB));have cU:=A (∀x,(x=bx\/cv.ownBlock=E x\/fv.ownBlock=E x\/kY bx j (gP N T M D λu:Nat=>decide (1<=u/\(u:Int)<=N)) P us x)->w.1.size+2<=x) HR.o.new;clear hr hgr hat aI hcw aL dA bc bt F6 N8 C8 aB bK cn d76 dl;go_wp2_with fail;refine cD.o.mono ?_;rintro e w9 ⟨rfl,fv',ns⟩;have dc:=I (show xM w w9 bx (j+1) N T M D O (gP N T M D λu:Nat=>decide (1<=u/\(u:Int)<=N)) (bu P j Pn) (U (E ⟨g,0,V⟩) (j+1) cap) fv' (us++[U a7 ln c7])from by
    obtain⟨C8,aL,aB⟩:=cS.o;have z8:=C8.size;have b0:=cU.o;have hq:=b0 bx (ae rfl);have k1:∀x,x<w.1.size+2->x<wr.1.size->w9.1[x]?=wr.1[x]? :=λx hx hl=>by rw[ns.aV.block x (by omega) (λe=>by rcases e with e|e;omega;·have:=b0 x (Q (Q (ae e)));omega),C8.block x (by omega) (λe=>by rcases e with e|e;omega;have:=b0 x (Q (ae e));omega),B6.o.block x (by omega),BW.o.block x hl]
    refine⟨?_,λx hx=>?_,?_,?_,?_,λk hk=>?_⟩;have e:lh (fN N T M O) (j+1)=lh (fN N T M O) j++[((j:Int)+1,0,bm 1 Pn.id [(Pn.id,Pn.cp,Pn.mp,0)])]:=by rw[ak.o.1,ak.o.2.1,ak.o.2.2];rfl
    rw[e];exact ns.bP
    ·rcases hx with hx|hx|hx|hx;exact b0 x (ae hx);·rcases aL x hx with k|k;exact b0 x (Q (ae k));omega
     ·rcases ns.new x hx with k|k;exact b0 x (Q (Q (ae k)));omega
     rcases hx with hx|⟨i,hi,hx⟩|⟨y,hy,hx⟩;exact b0 x (Q (Q (Q (ae hx))));·by_cases e:i=j;subst e;rw[cP]at hx;have:=FP.o.2 x hx;omega;rw[dw _ _ _ e]at hx;exact b0 x (Q (Q (Q (Q (ae ⟨i,by omega,hx⟩)))))
     rcases cZ.1 hy with hy|hy;exact b0 x (Q (Q (Q (Q (Q ⟨y,hy,hx⟩)))));rw[lN.1 hy]at hx;have:=(aB x hx).1;omega
    ·exact((bk.o.trans (B6.o.mono (by omega))).trans (C8.below (by omega) (λq e=>by rcases e with e|e;omega;·have:=b0 q (Q (ae e));omega))).trans (ns.aV.below (by omega) (λq e=>by rcases e with e|e;omega;have:=b0 q (Q (Q (ae e)));omega))
    rw[k1 w.1.size (by omega) b_];exact HR.o.i_;·have hres:=HR.o.res;rw[k1 (w.1.size+1) (by omega) (by by_cases q:w.1.size+1<wr.1.size;exact q;rw[cT (by omega)]at hres;cases hres)];exact hres
    by_cases e:k=j;rw[e];exact aq.o.1;exact HR.o.ok k (by omega));clear ns;go_wp2;go_roundw;case rel=>exact⟨j+1,_,_,_,_,by omega,by go_num,dc.o⟩
   simp[intOf];omega
  have HC:=I (cV.o hE);change cO (ay prog _ _ _ λe w'=>e=az (br #[aD (cx iC).toArray,Z J (fY N T M D O j)])/\_)at HC;have dD:(ct != 0)=aa:=by rw[aP];simpa using hE
  have bB:=I (And.intro hE aP);rw[<-aP]at HC;obtain⟨PZ,aY⟩:=aj (cx iC);rw[<-aY]at HC;have LP:=A (PZ.length=78) (by rw[aY];exact gD _);have PO:=A (PZ.toArray.all (·.oneCell')=aa) (by rw[aY];exact sq _ rfl rfl rfl rfl);have bn:=A ((prog.info? 205).map (·.size)=E PZ.toArray.size) (by rw[sI,bR,LP.o]);have hres:=ai.res;have bL:=I ((BW.o.block (w.1.size+1) (by by_cases q:w.1.size+1<wr.1.size;exact q;rw[cT (by omega)]at hres;cases hres)).trans hres);have bk:=I (am.trans (BW.o.mono sw));clear aY hres hE aP ai am;generalize (O j).inp.length=n1 at*;generalize (O j).sm.length=n2 at*;generalize (O j).ss.length=n3 at*;generalize (O j).ch=dO at*;generalize (O j).ms=dP at*;generalize (O j).sd=dQ at*;go_upto_region 10 with fail;rw[<-bG.o];go_wp2_with fail;refine aH HC.o λw4 hb4=>?_;have s4:=hb4.size;have aK:aJ (w4.alloc (ah zeroCells205 205)) w4.1.size 205 iC:=by unfold aJ;rw[<-ux];exact bo w4 _
  have PT:=A ((w4.alloc (ah zeroCells205 205)).there w4.1.size 0 PZ.toArray.size) (by rw[show PZ.toArray.size=78 by rw[bR];exact LP.o];exact aK.there 0 78 (by omega));obtain⟨w5,ap⟩:=aj ((w4.alloc (ah zeroCells205 205)).setCells w4.1.size 0 PZ);have ar:af w4.1.size w4 w5:=by rw[ap];exact dU (aw _) _ _ _ ((ax _ _).alloc (aw _) _)
  have dp:w.1.size+1<W1.1.size:=by by_cases q:w.1.size+1<W1.1.size;exact q;have:=bL.o;rw[cT (by omega)]at this;cases this
  have R5:=I ((ar.block (w.1.size+1) (by omega)).trans ((hb4.block (w.1.size+1) dp).trans bL.o));have B5:=I ((bk.o.trans (hb4.mono (by omega))).trans (ar.mono (by omega)));have Z5:=I (show w5.there (w.1.size+1) 0 zeroCells109.size from λk hk=>by
   have dn:k<78:=by rw[au.o]at hk;have:=aM.o;simp at hk;omega
   refine⟨?_,eh _ _ _ _ _ R5.o⟩;rw[bg _ (w.1.size+1) (0+k) _ _ (0,0) R5.o];simp only[List.getElem?_toArray];rw[aQ (by rw[qQ];omega)];rfl);have ZZ:=A ((prog.info? 109).map (·.size)=E zeroCells109.size) (by rw[au.o];exact bJ.o);have ZO:=A (zeroCells109.all (·.oneCell')=aa) (by rw[au.o];exact cN.o);have df:=A ((w5.setCells (w.1.size+1) 0 ZS).1[w.1.size+1]?=E (ah ZS.toArray 109 (0,0))) (sH R5.o (by rw[qQ,aM.o]));have cr:=A (af w.1.size w (w5.setCells (w.1.size+1) 0 ZS)) (dU (by omega) _ _ _ B5.o);have bl:=I ap;clear hb4 aK ar ap g0 g1 g2 g3 g4 g5 q0 q1 q2 q3;go_upto_region 11 with(refine cB rfl 205 _ _ rfl w4.1.size 0 PZ.toArray rfl rfl PT.o bn.o PO.o ?_);rw[<-bl.o];go_wp2_with(refine cB rfl 109 _ _ rfl (w.1.size+1) 0 zeroCells109 rfl rfl Z5.o ZZ.o ZO.o ?_);rw[show zeroCells109.toList=ZS by rw[au.o]];refine cQ (gT rfl (w.1.size+1) 109 ZS.toArray (0,0) rfl df.o uS rfl bJ.o) rfl ?_;exact⟨cr.o,ae ⟨j,cw.o,bB.o.1,by rw[<-bB.o.2];rfl⟩⟩
 have ej:j=n:=by omega
 subst ej;obtain⟨S,hS⟩:=aj (gP N T M D λu:Nat=>decide (1<=u/\(u:Int)<=N));rw[<-hS]at ai HR;have cf:=ai.bP.one (by rw[hS];exact tN N T M D _);obtain⟨XF,aS⟩:=aj (fh S cv fv);have L8:=A (XF.length=78) (by rw[aS];rfl);have di:=A (wr.rangeAt bx 0 XF) (by rw[aS];exact ai.bP.range);have FO:=A (XF.toArray.all (·.oneCell')=aa) (by rw[aS];exact dN cf);have FZ:=A ((prog.info? 109).map (·.size)=E XF.toArray.size) (by rw[ou,bR,L8.o]);have FL:=A ((prog.info? 109).map (·.size)=E XF.length) (by rw[ou,L8.o]);have hres:=ai.res;have FT:=I (show wr.there (w.1.size+1) 0 XF.toArray.size from λk hk=>by
  have dn:k<78:=by have:=L8.o;simp at hk;omega
  refine⟨?_,eh _ _ _ _ _ hres⟩;rw[bg _ (w.1.size+1) (0+k) _ _ (0,0) hres];simp only[List.getElem?_toArray];rw[aQ (by rw[qQ];omega)];rfl);have dg:=A ((wr.setCells (w.1.size+1) 0 XF).1[w.1.size+1]?=E (ah XF.toArray 109 (0,0))) (sH hres (by rw[qQ,L8.o]));have am:af w.1.size w (wr.setCells (w.1.size+1) 0 XF):=dU (by omega) _ _ _ ai.fF;have bh:=A (af w.1.size w (wr.setCells (w.1.size+1) 0 XF)/\(∀k,k<j->fY N T M D O k=0)/\AX w (wr.setCells (w.1.size+1) 0 XF) j N T M D O bx S P cv fv us) ⟨am,ai.ok,hS,ai.bP.keep (by rw[EN];exact aw _) (λx hx=>heap_setCells_other (w.1.size+1) x (by have:=ai.new x hx;omega) XF 0 wr),λx hx=>by have:=ai.new x hx;omega⟩;have cJ:=I aS;clear hS cf aS hres am ai;go_wp2_with(first|refine eM rfl 109 _ rfl bx 0 rfl XF _ di.o uS rfl FL.o ?_|refine cB rfl 109 _ _ rfl (w.1.size+1) 0 XF.toArray rfl rfl FT.o FZ.o FO.o ?_);refine cQ (gT rfl (w.1.size+1) 109 XF.toArray (0,0) rfl dg.o uS rfl FZ.o) rfl ?_;exact⟨bh.o.1,Q ⟨bh.o.2.1,bx,S,P,cv,fv,us,by rw[<-cJ.o];rfl,bh.o.2.2⟩⟩
theorem S_:zeroCells111.size=78:=by kernel_rfl
theorem Al (N T M D k a n c w)(hk:k≠0)(h:∀W:ac,af w.1.size w W->ay prog 61 #[aD #[Z J N,Z J T,Z J M,Z J D],U a n c] W λe w'=>e=az (br #[aD (fh fS (U V 0 0) (U V 0 0)).toArray,Z J k])/\af W.1.size W w'):
  ay prog 28 #[aD #[Z J N,Z J T,Z J M,Z J D],U a n c] w λe w'=>e=az (br #[aC V,Z J k])/\af w.1.size w w':=by
 have HN:=I h;obtain⟨O,Y⟩:=aj (fh fS (U V 0 0) (U V 0 0));rw[<-Y]at HN;have ae:=A (O.length=78) (by rw[Y];rfl);have ag:=A (O.toArray.all (·.oneCell')=aa) (by rw[Y];exact dN xg);have ap:=A (zeroCells109=O.toArray) (by rw[Y];exact rf);have ar:(k != 0)=aa:=by simpa using hk
 clear Y h hk;have ai:=A ((prog.info? 109).map (·.size)=E O.toArray.size) (by rw[ou,bR,ae.o]);obtain⟨W0,hW0⟩:=aj (w.alloc (ah #[Z J N,Z J T,Z J M,Z J D] 26));have B0:=A (af w.1.size w W0) (by rw[hW0];exact(ax _ _).alloc (aw _) _);have am:=I hW0;clear hW0;go_enter func28,ntmps28;go_wp2_with fail;rw[<-am.o];refine aH (HN.o W0 B0.o) λw1 hb1=>?_;have B1:=I (B0.o.trans (hb1.mono B0.o.size));have z1:=B1.o.size;clear hb1;have r8:(w1.alloc (ah zeroCells109 109)).1[w1.1.size]?=E (ah O.toArray 109 (0,0)):=by rw[<-ap.o];exact bo w1 _
 have ak:=I (show(w1.alloc (ah zeroCells109 109)).there w1.1.size 0 O.toArray.size from λj hj=>by
  have aq:j<78:=by have:=ae.o;simp at hj;omega
  refine⟨?_,eh _ _ _ _ _ r8⟩;rw[bg _ w1.1.size (0+j) _ _ (0,0) r8];simp only[List.getElem?_toArray];rw[aQ (by rw[ae.o];omega)];rfl);have BF:=A (af w.1.size w ((w1.alloc (ah zeroCells109 109)).setCells w1.1.size 0 O)) (dU z1 _ _ _ (B1.o.alloc z1 _));clear r8;go_wp2_with(refine cB rfl 109 _ _ rfl w1.1.size 0 O.toArray rfl rfl ak.o ai.o ag.o ?_);go_ret2;exact⟨rfl,BF.o⟩
def fE (N T M D:Int)(n:Nat)(O:Nat->DD):Int:=if dV N T M D=Y then 5 else if (n:Int)≠N then 6 else if ((List.range n).all λj=>fz T M (O j).inp (O j).ch (O j).ms (O j).sd (O j).sm (O j).ss)=aa then 0 else 6
theorem tJ{D}(h:dV N T M D=aa){n:Nat}(hn:(n:Int)=N)(O){j}(hj:j<n):fY N T M D O j=if fz T M (O j).inp (O j).ch (O j).ms (O j).sd (O j).sm (O j).ss=Y then 6 else 0:=by unfold fY eT;rw[ar (by rw[h];simp),ar (by omega)]
def g_ (cl:Nat->Cl)(n:Nat):Sn:=⟨aB.start,λ_=>(1,[],[],[]),λ_=>Y,lh cl n⟩
theorem UI (D){n c:Nat}{vi vm vs Dd}(h:dV N T M D=aa)(hn:(n:Int)=N)(hD:jP w a n c vi vm vs Dd)(ap:∀j,j<n->fY N T M D Dd j=0):
  ay prog 28 #[aD #[Z J N,Z J T,Z J M,Z J D],U a n c] w λe w'=>∃b,e=az (br #[aC (E ⟨b,0,V⟩),Z J 0])/\af w.1.size w w'/\∃m,bM w' b n ⟨N,T,M,D⟩ (fN N T M Dd) (g_ (fN N T M Dd) n) m/\∀x,dx b n m x->w.1.size<=x:=by
 have HN:=bj w λW hb=>ED D h hn (hD.below hb);have aK:1<=n:=by have:=(vF h).n;have:1<=N:=this.1;omega
 have av:=I ap;have aJ:=I rf;clear h hn hD ap;obtain⟨W0,hW0⟩:=aj (w.alloc (ah #[Z J N,Z J T,Z J M,Z J D] 26));have B0:=A (af w.1.size w W0) (by rw[hW0];exact(ax _ _).alloc (aw _) _);have aH:=I hW0;clear hW0;go_enter func28,ntmps28;go_wp2_with fail;rw[<-aH.o];refine(HN.o W0 B0.o).mono ?_;rintro e w1 ⟨hb1,⟨i,hi,hne,_⟩|⟨hall,b0,S,P,cv,fv,us,rfl,ak⟩⟩;exact absurd (av.o i hi) hne;have B1:=I (B0.o.trans (hb1.mono B0.o.size));have z0:=B0.o.size;have z1:=B1.o.size;have Y:=I ak;obtain⟨O,ai⟩:=aj (fh S cv fv);have ac:=A (O.length=78) (by rw[ai];rfl);have aA:=A (O.toArray.all (·.oneCell')=aa) (by rw[ai];exact dN (ak.bP.one (by rw[ak.fresh];exact tN N T M D _)));have ar:=I ai;rw[<-ai];have aF:=A ((prog.info? 109).map (·.size)=E O.toArray.size) (by rw[ou,bR,ac.o]);have aB:=A ((prog.info? 109).map (·.size)=E O.length) (by rw[ou,ac.o]);have au:=I (EJ O zeroCells111 (by rw[S_,ac.o]));clear hb1 ak hall ai;have r8:(w1.alloc (ah zeroCells109 109)).1[w1.1.size]?=E (ah (fh fS (U V 0 0) (U V 0 0)).toArray 109 (0,0)):=by rw[<-aJ.o];exact bo w1 _
 have aG:=I (show(w1.alloc (ah zeroCells109 109)).there w1.1.size 0 O.toArray.size from λj hj=>by
  have aN:j<78:=by have:=ac.o;simp at hj;omega
  refine⟨?_,eh _ _ _ _ _ r8⟩;rw[bg _ w1.1.size (0+j) _ _ (0,0) r8];simp only[List.getElem?_toArray];rw[aQ (by rw[qQ];omega)];rfl);obtain⟨w2,hw2⟩:=aj ((w1.alloc (ah zeroCells109 109)).setCells w1.1.size 0 O);have hb2:af w1.1.size w1 w2:=by rw[hw2];exact dU (aw _) _ _ _ ((ax _ _).alloc (aw _) _)
 have hr2:w2.1[w1.1.size]?=E (ah O.toArray 109 (0,0)):=by rw[hw2];exact sH r8 (by rw[qQ,ac.o])
 have RG:=I (show w2.rangeAt w1.1.size 0 O from λj v hj=>by rw[bg w2 w1.1.size (0+j) _ _ (0,0) hr2,cz,tu];exact hj);have s2:=hb2.size;have aq:=I hb2;have aI:=I hw2;clear r8 hw2 hb2 hr2;go_upto_region 2 with(refine cB rfl 109 _ _ rfl w1.1.size 0 O.toArray rfl rfl aG.o aF.o aA.o ?_);rw[<-aI.o];have aO:=ac.o;go_wp2_with(refine eM rfl 109 _ rfl w1.1.size 0 rfl O _ RG.o uS rfl aB.o ?_);rw[au.o];go_ret2;have hb3:af w2.1.size w2 (w2.alloc (ah O.toArray 111)):=(ax _ _).alloc (aw _) _;have aM:(w2.alloc (ah O.toArray 111)).1[w2.1.size]?=E (ah (fh S cv fv).toArray 111 (0,0)):=by rw[<-ar.o];exact bo w2 _
 have am:af w1.1.size w1 (w2.alloc (ah O.toArray 111)):=aq.o.trans (hb3.mono s2);have aL:=(Y.o.bP.move Y.o.fresh am s2 aM);obtain⟨m,hm,hf⟩:=aL.bP aK;refine⟨w2.1.size,rfl,B1.o.trans (am.mono z1),m,hm,λx hx=>?_⟩;rcases hf x hx with e|e|e|e;omega;have:=Y.o.new x (Q (ae e));omega;have:=Y.o.new x (Q (Q (ae e)));omega;rcases e with⟨e1,e2⟩|e|e;rw[Y.o.fresh]at e1;exact absurd (tM e1) e2;have:=Y.o.new x (Q (Q (Q (Q (ae e)))));omega;have:=Y.o.new x (Q (Q (Q (Q (Q e)))));omega
theorem UH{D n c vi vm vs O}(hD:jP w a n c vi vm vs O):
  ay prog 28 #[aD #[Z J N,Z J T,Z J M,Z J D],U a n c] w λe w'=>af w.1.size w w'/\((fE N T M D n O≠0/\e=az (br #[aC V,Z J (fE N T M D n O)]))\/
   (fE N T M D n O=0/\∃b,e=az (br #[aC (E ⟨b,0,V⟩),Z J 0])/\∃m,bM w' b n ⟨N,T,M,D⟩ (fN N T M O) (g_ (fN N T M O) n) m/\∀x,dx b n m x->w.1.size<=x)):=by
 by_cases h:dV N T M D=aa
 ·by_cases hn:(n:Int)=N
  ·by_cases ac:∀j,j<n->fY N T M D O j=0
   ·have e0:fE N T M D n O=0:=by unfold fE;rw[ar (by rw[h];simp),ar (by omega),au];refine fk.2 λj hj=>?_;have:=ac j (eW.1 hj);rw[tJ h hn O (eW.1 hj)]at this;cases q:fz T M (O j).inp (O j).ch (O j).ms (O j).sd (O j).sm (O j).ss;rw[q]at this;simp at this;rfl
    exact(UI D h hn hD ac).mono (λe w' ⟨b,h1,h2,h3⟩=>⟨h2,Q ⟨e0,b,h1,h3⟩⟩)
   have Y:fE N T M D n O=6:=by unfold fE;rw[ar (by rw[h];simp),ar (by omega),ar];intro q;refine ac λj hj=>?_;have:=fk.1 q j (eW.2 hj);rw[tJ h hn O hj,this];simp
   refine(Al N T M D 6 a n c w (by decide) (λW hW=>(ED D h hn (hD.below hW)).mono (λe w' ⟨hb,hh⟩=>?_))).mono (λe w' ⟨h1,h2⟩=>⟨h2,ae ⟨by rw[Y];decide,by rw[Y];exact h1⟩⟩);rcases hh with⟨i,hi,hne,he⟩|⟨hall,_⟩
   ·refine⟨?_,hb⟩;have:fY N T M D O i=6:=by
     rw[tJ h hn O hi]at hne ⊢;split at hne;·rename_i q;rw[au q]
     exact absurd rfl hne
    rw[he,this]
   exact absurd hall ac
  have Y:fE N T M D n O=6:=by unfold fE;rw[ar (by rw[h];simp),au hn]
  exact(Al N T M D 6 a n c w (by decide) (λW hW=>Si D a n c W h hn)).mono (λe w' ⟨h1,h2⟩=>⟨h2,ae ⟨by rw[Y];decide,by rw[Y];exact h1⟩⟩)
 have h':=nJ.2 h;have e5:fE N T M D n O=5:=by unfold fE;rw[au h']
 exact(Al N T M D 5 a n c w (by decide) (λW hW=>Sj D a n c W h')).mono (λe w' ⟨h1,h2⟩=>⟨h2,ae ⟨by rw[e5];decide,by rw[e5];exact h1⟩⟩)
end
section
open Go.RowKit
def Gm (s:Sn):Prop:=∀p∈s.fl,cY p.2.2
theorem yC (cl):∀n i,i<n->(lh cl n)[i]?=E ((i:Int)+1,0,bm 1 (cl i).id (fG (cl i)))
 |0,i,h=>by omega
 |n+1,i,h=>by show(lh cl n++[_])[i]?=_;by_cases e:i=n;subst e;rw[fo (by rw[m_];exact aw _),m_,nD];rfl;rw[ey (by rw[m_];omega)];exact yC cl n i (by omega)
theorem KC{cl n p}(h:p∈lh cl n):∃i,i<n/\p=((i:Int)+1,0,bm 1 (cl i).id (fG (cl i))):=by obtain⟨i,hi,e⟩:=fT h;rw[m_]at hi;refine⟨i,hi,?_⟩;have:=yC cl n i hi;rw[aQ (by rw[m_];exact hi),e]at this;exact nI this
structure mV (C:Cf)(cl:Nat->Cl)(n:Nat):Prop where
 gc:fx C
 num:C.N=(n:Int)
 good:∀i,i<n->dr (cl i)
 id:∀i,i<n->(cl i).id=(i:Int)+1
 N:∀i,i<n->(cl i).N=C.N
 T:∀i,i<n->(cl i).T=C.T
 M:∀i,i<n->(cl i).M=C.M
theorem mV.le{C cl n}(h:mV C cl n):1<=n/\n<=12:=by have:=h.gc.n;have:=h.num;omega
theorem Hi{C cl n}(h:mV C cl n):bU C cl n (g_ cl n):=by have hn:=h.le;refine⟨h.gc,h.num,h.good,h.id,λ_=>ER h.gc,⟨bi _,bi _⟩,?_,λp hp=>?_⟩;show(lh cl n).length+(kn (λ_=>(1,[],[],[])) n+hZ aB.start)<=300;rw[m_];have:=zq (λ_=>(1,[],[],[])) n;have:=Ea aB.start;omega;obtain⟨i,hi,rfl⟩:=KC hp;exact yn (tQ (h.good i hi))
theorem Pd {l:List aq.It}{N:Nat}(h1:l.Pairwise (λx y=>x.1<y.1))(h2:∀x∈l,1<=x.1/\x.1<=(N:Int)):l.length<=N:=by
 have key:∀i (hi:i<l.length),(i:Int)+1<=(l[i]).1:=by
  intro i
  induction i with
  |zero=>intro hi;have:=h2 _ (cN hi);omega
  |succ i ih=> intro hi;have a:=ih (by omega);have b:=xl.1 h1 i (i+1) (by omega) hi (by omega);omega
 rcases mn l.length with h|h;omega;have a:=key (l.length-1) (by omega);have b:=h2 _ (cN (show l.length-1<l.length by omega));omega
def Di (C:Cf):Int:=if C.N<C.M then C.M else C.N
theorem Jm{k fr l X}(h:(l.length:Int)<=X):((bm k fr l).length:Int)<=3+25*X:=by have q2:=jL k;rw[qu];unfold aq.size;have:l.length*(1+8*bh k)<=l.length*25:=Nat.mul_le_mul_left _ (by omega);omega
structure Gv (C:Cf)(p:Pk):Prop where
 dec:∃k l,cJ p.2.2=E (k,p.1,l)
 len:(p.2.2.length:Int)<=3+25*Di C
 fr:0<=p.1/\p.1<=C.N
 dst:0<=p.2.1/\p.2.1<=C.N
 one:(p.1=0/\p.2.1≠0)\/(p.1≠0/\p.2.1=0)
section
variable {C:Cf}{cl:Nat->Cl}{n:Nat}{s:Sn}
theorem Ua (hC:mV C cl n)(hs:s.q.o.1=0->gJ C s.q):(∀p∈eu C s.q,Gv C p/\p.1=0)/\((eu C s.q).length:Int)<=C.N/\(eu C s.q=[]\/s.q.o.1=0/\s.q.rd<3/\(cm C s.q).rd=s.q.rd+1):=by
 have hn:=hC.gc.n;by_cases h:(aB.pend s.q&&(im C s.q&&(!aB.fZ C s.q&&decide (s.q.rd≠3))))=aa
 ·have h':=h;rw[bS,bS,bS]at h';obtain⟨h1,h2,h3,h4⟩:=h';have hp:=kO.1 h1;have ok:=hs hp;have hr:s.q.rd≠3:=rz h4;have hf:¬((dm (s.q.G s.q.rd):Int)<C.T):=by unfold fZ at h3;simpa using h3
  have ht:=hC.gc.t;have Y:=ok.rd;have e:eu C s.q=((aT (aB.mem (s.q.G s.q.rd))).map λu:Nat=>((u:Int),bm (2*(s.q.rd:Int)+2) 0 (lA s.q.G s.q.rd u))).map λp=>((0:Int),p.1,p.2):=by unfold eu pJ;rw[au h]
  have hle:∀r,(((aT (aB.mem (s.q.G r))).length:Nat):Int)<=C.N:=λr=>by have q:=Pd (l:=(aT (aB.mem (s.q.G r))).map λu:Nat=>((u:Int),(0:Int),(0:Int),(0:Int))) (N:=C.N.toNat) (by rw[rp];exact(vW _).imp (λ{a b} h=>by show(a:Int)<(b:Int);omega)) (λx hx=>by obtain⟨u,hu,rfl⟩:=cq.1 hx;have:=ok.good.mem (kM.1 hu).2;show 1<=(u:Int)/\(u:Int)<=_;omega);rw[dI]at q;omega
  refine⟨λp hp=>?_,by rw[e,dI,dI];exact hle _,Q ⟨hp,by omega,?_⟩⟩
  ·rw[e]at hp;obtain⟨x,hx,rfl⟩:=cq.1 hp;obtain⟨u,hu,rfl⟩:=cq.1 hx;obtain⟨g1,g2,g3,g4,_⟩:=ok.good.mem (kM.1 hu).2;have O:=uh ok.good s.q.rd u (by omega) (by omega);refine⟨⟨⟨_,_,yj O⟩,Jm ?_,⟨pN _,by show(0:Int)<=_;omega⟩,⟨by show(0:Int)<=(u:Int);omega,g3⟩,ae ⟨rfl,by show¬(u:Int)=0;omega⟩⟩,rfl⟩;have hl:((lA s.q.G s.q.rd u).length:Int)<=C.N:=by
    unfold lA;split;unfold pg;rw[dI];exact hle 0;split
    ·unfold oT;rw[dI];have:(bV (aB.without (aB.mem (s.q.G 1)) u) 13).length<=(bV (aB.mem (s.q.G 1)) 13).length:=by
      have e1:bV (aB.without (aB.mem (s.q.G 1)) u) 13=(bV (aB.mem (s.q.G 1)) 13).filter (λv=>decide (v≠u)):=by unfold bV;rw[Au];congr 1;funext v;unfold aB.without;exact Ar _ _
      rw[e1];exact pW _ _
     have:=hle 1;unfold aT at this;omega
    unfold oP;rw[dI];exact hle 2
   unfold Di;by_cases c:C.N<C.M;rw[au c];omega;rw[ar c];exact hl
  unfold cm;rw[au h1,au h2,ar (by simpa using h3),ar hr]
 have e:=lI (C:=C) (s:=s.q) (nJ.2 h);rw[e];exact⟨λp hp=>(by cases hp),by simp;omega,ae rfl⟩
end
def gH (C:Cf)(o:Int×Int×List Int×List Int):Prop:=
 (o.1=0/\o.2.1=0/\o.2.2.1=[]/\o.2.2.2=[])\/(o.1=2/\0<=o.2.1/\o.2.1<4/\o.2.2.1=[]/\o.2.2.2=[])\/
 (o.1=1/\o.2.1=0/\C.T<=(o.2.2.1.length:Int)/\(o.2.2.2.length:Int)=C.M/\(∀z∈o.2.2.1,1<=z/\z<=C.N)/\o.2.2.1.Pairwise (·< ·)/\∀z∈o.2.2.2,0<=z/\z<4294967296)
theorem SY{C G}(h:eP C G)(r):dm (G (r+1))<=dm (G r):=by
 unfold dm;have e:aT (aB.mem (G (r+1)))=(aT (aB.mem (G r))).filter (aB.mem (G (r+1))):=by unfold aT bV;rw[Au];apply FW;intro u _;cases q:aB.mem (G (r+1)) u;rfl;rw[h.up r u q];rfl
 rw[e];exact pW _ _
theorem gH.tick{C}(hc:fx C){q}(hs:q.o.1=0->gJ C q)(h:gH C q.o):gH C (cm C q).o:=by
 unfold cm;by_cases p:aB.pend q=aa
 ·rw[au p];have ok:=hs (kO.1 p);have O:=ok.rd;split
  ·split;exact Q (ae ⟨rfl,by show(0:Int)<=(q.rd:Int);omega,by show(q.rd:Int)<4;omega,rfl,rfl⟩);rename_i hf;split
   ·rename_i h3;have hf':¬((dm (q.G q.rd):Int)<C.T):=by unfold fZ at hf;simpa using hf
    rw[h3]at hf';have hm:=hc.m;refine Q (Q ⟨rfl,rfl,?_,?_,λz hz=>?_,?_,λz hz=>?_⟩);show C.T<=((kR q.G).length:Int);unfold kR;rw[dI];have:dm (q.G 3)<=dm (q.G 2):=SY ok.good 2;unfold dm at this hf';omega;show((ib C q.G).length:Int)=C.M;unfold ib;rw[dI,xB];omega;obtain⟨u,hu,rfl⟩:=cq.1 hz;have:=ok.good.mem (kM.1 hu).2;omega;show(kR q.G).Pairwise (·< ·);unfold kR;rw[rp];exact(vW _).imp (λ{a b} h=>by show(a:Int)<(b:Int);omega);obtain⟨i,_,rfl⟩:=cq.1 hz;unfold pL;omega
   exact h
  exact h
 rw[ar p];exact h
theorem Qc (C cl n s d zs):(eo C cl n s d zs).q.o=s.q.o/\(eo C cl n s d zs).q.rd=s.q.rd/\(eo C cl n s d zs).q.tm=s.q.tm:=by
 unfold eo gS qM;split;·split<;>exact⟨rfl,rfl,rfl⟩
 refine⟨(wW C s.q zs).1,(wW C s.q zs).2,?_⟩;show(fB C s.q zs).tm=_;unfold fB
 cases cJ zs with
 |none=>rfl
 |some f=>exact w_ C s.q f
end
section
open Go.RowKit aO aq
def eA (n:Nat)(s:Sn):Prop:=∀p∈s.fl,cY p.2.2/\0<=p.2.1/\p.2.1<=(n:Int)
section
variable {C:Cf}{cl:Nat->Cl}{n:Nat}{s:Sn}
theorem eA.flb (h:eA n s):Gm s:=λp hp=>(h p hp).1
theorem eA.less (h:eA n s)(i):eA n {s with fl:=s.fl.eraseIdx i}:=λp hp=>h p (Vf hp)
theorem eA.eo (ok:bU C cl n s)(h:eA n s)(d){zs}(hB:cY zs):eA n (eo C cl n s d zs):=by
 unfold Go.Proofs.YtchideljndagjabGreat.eo;split
 ·rename_i q;unfold gS;split;exact h;intro p hp;rcases cZ.1 hp with hp|hp;exact h p hp
  cases e:fM (cl (d.toNat-1)) (s.cs (d.toNat-1)) zs with
  |none=>rw[e]at hp;cases hp
  |some f=> rw[e]at hp;rw[lN.1 hp];exact⟨xY (ok.good _ (by omega)) hB f e,pN _,by show(0:Int)<=_;omega⟩
 exact h
theorem eA.drop (h:eA n s)(u):eA n (jb s u):=by unfold jb;split;exact h.less _;exact h
theorem eA.ym (ok:bU C cl n s)(h:eA n s)(u):eA n (jY C cl n s u):=by
 unfold jY;split
 ·rename_i q
  cases e:s.fl[u.toNat]? with
  |none=>exact h
  |some p=>
   have hd:bU C cl n {s with fl:=s.fl.eraseIdx u.toNat}:=by have:=ok.drop u;unfold jb at this;rw[au q]at this;exact this
   exact(h.less _).eo hd _ (h p (cU e)).1
 exact h
theorem eA.double (h:eA n s)(u):eA n (ja s u):=by
 unfold ja;split
 ·split
  ·cases e:s.fl[u.toNat]? with
   |none=>exact h
   |some p=> intro x hx;rcases cZ.1 hx with hx|hx;exact h x hx;rw[lN.1 hx];exact h p (cU e)
  exact h
 exact h
theorem eA.yG (ok:bU C cl n s)(h:eA n s)(u){zs}(hB:cY zs):eA n (kJ C cl n s u zs):=by unfold kJ;split;exact h.eo ok u hB;exact h
theorem eA.tI (h:eA n s)(u):eA n (kE n s u):=by unfold kE;split<;>exact h
theorem eA.tick (hC:mV C cl n)(ok:bU C cl n s)(h:eA n s):eA n (nz C s):=by intro p hp;rcases cZ.1 hp with hp|hp;exact h p hp;obtain⟨k1,_⟩:=Ua (s:=s) hC ok.ia;have:=(k1 p hp).1.dst;have hn:=hC.num;exact⟨Aa ok.gc ok.ia p hp,this.1,by omega⟩
theorem JS (hC:mV C cl n):eA n (g_ cl n):=by
 intro p hp;obtain⟨i,hi,e⟩:=fT hp;have O:i<n:=by have:(g_ cl n).fl.length=n:=m_ cl n;omega
 have e2:=yC cl n i O;have e3:(lh cl n)[i]?=E p:=by rw[<-e];exact aQ hi
 rw[e3]at e2;rw[nI e2];exact⟨qq (tQ (hC.good i O)),pN _,by show(0:Int)<=_;omega⟩
end
end
section
open Go.RowKit
theorem Oz{C cl n}:gH C (g_ cl n).q.o:=ae ⟨rfl,rfl,rfl,rfl⟩
end
end Go.Proofs.YtchideljndagjabGreat


