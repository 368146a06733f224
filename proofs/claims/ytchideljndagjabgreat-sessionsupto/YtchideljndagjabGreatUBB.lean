/- Joined -/
import Derived.Test.YtchideljndagjabGreatUAX
import Derived.Test.YtchideljndagjabGreatUBA
set_option linter.unusedVariables false
set_option maxHeartbeats 8000000
set_option maxRecDepth 100000
namespace Go.Proofs.YtchideljndagjabGreat
open aq aO aB
open Go.Value renaming int->Z,slice->U,bool->ak,pointer->aC
open Go.IntKind renaming i64->J
open Go.Obj renaming cells->ah
open Go.Ending renaming returned->az
open Or renaming inl->ae,inr->Q
open Option renaming none->V,some->E
open Bool renaming false->Y,true->aa
open Go renaming World->ac,Value->ag,Calls->ay
open Go.RowKit renaming Below->af
open Go.Proofs.Tryz
variable {zs:List Int}{X:List ag}{v:ag}
section
open Go.ChangeShapes Go.WideShapes Go.ChangeAt Go.RowKit
def jB:cI->List ag->List ag
 |e::L,v::X=>Z J e.1::Z J e.2.1::Z J e.2.2.1::v::jB L X
 |_,_=>[]
theorem JV (L X)(hl:L.length=X.length)(e v):jB (L++[e]) (X++[v])=jB L X++[Z J e.1,Z J e.2.1,Z J e.2.2.1,v]:=by
 induction L generalizing X with
 |nil=>cases X with
  |nil=>rfl
  |cons _ _=>simp at hl
 |cons g L ih=>cases X with
  |nil=>simp at hl
  |cons u X=> show _::_::_::_::jB (L++[e]) (X++[v])=_::_::_::_::(jB L X++_);rw[ih X (by simpa using hl)]
theorem JW (L X)(hl:L.length=X.length)(j)(hj:j<L.length):
  (jB L X)[j*4]?=E (Z J (jD L j).1)/\(jB L X)[j*4+1]?=E (Z J (jD L j).2.1)/\(jB L X)[j*4+2]?=E (Z J (jD L j).2.2.1)/\(jB L X)[j*4+3]?=X[j]? :=by
 induction L generalizing X j with
 |nil=>simp at hj
 |cons g L ih=>cases X with
  |nil=>simp at hl
  |cons u X=>cases j with
   |zero=>exact⟨rfl,rfl,rfl,rfl⟩
   |succ j=> have h1:=ih X (by simpa using hl) j (by simpa using hj);rw[show(j+1)*4=j*4+1+1+1+1 by omega];exact h1
structure rD (w:ac)(B:Nat)(v:ag)(L:cI)(X:List ag):Prop where
 len:L.length=X.length
 own:w.ownsRow B 242 4 v L.length (jB L X)
 its:∀j u,X[j]?=E u->aX w u (jD L j).2.2.2
theorem rD.lg{w B L}(h:rD w B v L X):xL w v L X:=by
 have h0:=h.own;rcases h.own.2 with⟨rfl,hn⟩|⟨g,cap,cur,rfl,_,hb,Y,hcm,_⟩;have hz:L=[]:=ku hn;subst hz;exact⟨V,0,rfl,aw _,by decide,λj hj=>by simp at hj⟩;refine⟨E ⟨g,0,V⟩,cap,rfl,Y,by unfold maxLen at hcm;omega,λj hj=>?_⟩;obtain⟨f1,f2,f3,f4⟩:=JW L X h.len j hj;have O:j<X.length:=by rw[<-h.len];exact hj
 have hx:X.getD j (U V 0 0)=X[j]:=by rw[bG,aQ O];rfl
 rw[aQ O]at f4;refine⟨g,0,rfl,(h0.lt g rfl).2,⟨?_,?_,?_,?_⟩,?_⟩;rw[cz];exact(h0.cellAt (j*4) (by omega)).trans f1;rw[cz];exact(h0.cellAt (j*4+1) (by omega)).trans f2;rw[cz];exact(h0.cellAt (j*4+2) (by omega)).trans f3;rw[cz,hx];exact(h0.cellAt (j*4+3) (by omega)).trans f4;rw[hx];exact h.its j _ (aQ O)
theorem rD.keep{w w' B L}(h:rD w B v L X)(hs:w.1.size<=w'.1.size)(h1:∀x,v.ownBlock=E x->w'.1[x]?=w.1[x]?)(h2:∀u∈X,∀x,u.ownBlock=E x->w'.1[x]?=w.1[x]?):rD w' B v L X:=
 ⟨h.len,qI h.own h1,λj u hu=>(h.its j u hu).keep hs (h2 u (cU hu))⟩
def kA (s:RV)(X:List ag)(x:Nat):Prop:=s.set.ownBlock=E x\/s.sum.ownBlock=E x\/∃u∈X,u.ownBlock=E x
def oK (b:Nat)(s:RV)(X:List ag)(x:Nat):Prop:=(x=b\/s.lv.ownBlock=E x)\/kA s X x
structure ii (w:ac)(pw b:Nat)(C:Cf)(q:Sv)(s:RV)(L:cI)(X:List ag):Prop where
 at_:dD w b C s
 tm:s.tm=q.tm
 st:s.st=q.o.1
 ro:s.ro=q.o.2.1
 set:aY w s.set q.o.2.2.1
 sum:aY w s.sum q.o.2.2.2
 log:rD w (pw+1) s.lv L X
 lp:mX C q L
 low:∀e∈L,0<=e.1
 sM:0<=q.tm/\q.tm<=200
 ia:q.o.1=0->gJ C q
 aS:∀x,oK b s X x->pw<x/\x<w.1.size
 apart:∀x,kA s X x->x≠b/\s.lv.ownBlock≠E x
 lc:s.lv.ownBlock≠E b
theorem ii.keep{w w' pw b C q s L}(h:ii w pw b C q s L X)(hs:w.1.size<=w'.1.size)(hb:∀x,oK b s X x->w'.1[x]?=w.1[x]?):ii w' pw b C q s L X:=
 {h with
  at_:=h.at_.block (hb b (ae (ae rfl)))
  set:=h.set.keep hs (λx hx=>hb x (Q (ae hx)))
  sum:=h.sum.keep hs (λx hx=>hb x (Q (Q (ae hx))))
  log:=h.log.keep hs (λx hx=>hb x (ae (Q hx))) (λu hu x hx=>hb x (Q (Q (Q ⟨u,hu,hx⟩))))
  aS:=λx hx=>⟨(h.aS x hx).1,cG (h.aS x hx).2 hs⟩}
theorem ii.below{w w' pw b C q s L}(h:ii w pw b C q s L X)(hb:af w.1.size w w'):ii w' pw b C q s L X:=
 h.keep hb.size (λx hx=>hb.block x (h.aS x hx).2)
structure nK (w w':ac)(pw b:Nat)(C:Cf)(q':Sv)(s s':RV)(L Y:cI)(X O:List ag):Prop where
 ba:ii w' pw b C q' s' Y O
 aV:av (λx=>x=b\/s.lv.ownBlock=E x) w w'
 aS:∀x,oK b s' O x->oK b s X x\/w.1.size<=x
 more:Y.length<=L.length+1
 own:∀x,s'.lv.ownBlock=E x->s.lv.ownBlock=E x\/w.1.size<=x
 stat:∀x,kA s' O x->kA s X x\/w.1.size<=x
theorem Am{w w' pw b C q s L}(h:ii w pw b C q s L X)(hb:af w.1.size w w'):nK w w' pw b C q s s L L X X:=
 ⟨h.below hb,av.bz hb,λ_ hx=>ae hx,by omega,λ_ hx=>ae hx,λ_ hx=>ae hx⟩
theorem xc{w w' pw b C}(hc:fx C){q s s' L}(h:ii w pw b C q s L X)(hp:aB.pend q=aa)(O:av (λx=>x=b) w w')(hat:dD w' b C s')(e1:s'.tm=q.tm+1)(e2:s'.lv=s.lv)(e3:s'.st=(cm C q).o.1)(e4:s'.ro=(cm C q).o.2.1)(h1:aY w' s'.set (cm C q).o.2.2.1)(h2:aY w' s'.sum (cm C q).o.2.2.2)(hn:∀x,s'.set.ownBlock=E x\/s'.sum.ownBlock=E x->(kA s X x\/w.1.size<=x)/\x<w'.1.size):
  nK w w' pw b C (cm C q) s s' L L X X:=by
 have z:=O.size;have hs:=h.ia (kO.1 hp);have hb:=Dq hc hs.rd hs.now;have Y:=h.aS b (ae (ae rfl));have st:∀x,kA s' X x->(kA s X x\/w.1.size<=x)/\x<w'.1.size:=by intro x hx;rcases hx with hx|hx|hx;exact hn x (ae hx);exact hn x (Q hx);exact⟨ae (Q (Q hx)),by have:=(h.aS x (Q (Q (Q hx)))).2;omega⟩
 refine⟨⟨hat,by rw[e1,Ac C q hp],e3,e4,h1,h2,?_,h.lp.tick hp,h.low,by rw[Ac C q hp];omega,λaf=>hs.tick hc af,?_,?_,by rw[e2];exact h.lc⟩,O.mono (λx e _=>ae e),?_,by omega,λx hx=>ae (by rw[e2]at hx;exact hx),λx hx=>(st x hx).1⟩;rw[e2];exact h.log.keep z (λx hx=>O.block x (h.aS x (ae (Q hx))).2 (λe=>h.lc (e▸hx))) (λu hu x hx=>O.block x (h.aS x (Q (Q (Q ⟨u,hu,hx⟩)))).2 (h.apart x (Q (Q ⟨u,hu,hx⟩))).1);·intro x hx;rcases hx with(hx|hx)|hx;subst hx;exact⟨Y.1,by omega⟩;rw[e2]at hx;have:=h.aS x (ae (Q hx));omega;obtain⟨k1,k2⟩:=st x hx;refine⟨?_,k2⟩;rcases k1 with k1|k1;exact(h.aS x (Q k1)).1;omega
 ·intro x hx;obtain⟨k1,k2⟩:=st x hx;rw[e2];rcases k1 with k1|k1;exact h.apart x k1;exact⟨by omega,λe=>by have:=(h.aS x (ae (Q e))).2;omega⟩
 intro x hx;rcases hx with(hx|hx)|hx;exact ae (ae (ae hx));rw[e2]at hx;exact ae (ae (Q hx));rcases(st x hx).1 with k1|k1;exact ae (Q k1);exact Q k1
def rF (w w':ac)(pw b:Nat)(C:Cf)(q:Sv)(s:RV)(L:cI)(X:List ag)(v:ag):Prop:=
 ∃s' vs,nK w w' pw b C (cm C q) s s' L L X X/\dt w' w.1.size v vs (eu C q)/\∀x,iZ v vs x->¬oK b s' X x
theorem wz:∀x,¬iZ (U V 0 0) [] x:=λx hx=>by rcases hx with hx|⟨y,hy,_⟩;cases hx;cases hy
theorem Pf (C q)(h:(aB.pend q&&(im C q&&(!aB.fZ C q&&decide (q.rd≠3))))=aa):lr q.G q.rd (aT (aB.mem (q.G q.rd))).length=eu C q:=by unfold lr eu pJ;rw[au h,iF,lL];rfl
theorem PU{pw b C}(hc:fx C){q s L w}(h:ii w pw b C q s L X):
  ay prog 116 #[aC (E ⟨b,0,V⟩)] w λe w'=>∃v,e=az v/\rF w w' pw b C q s L X v:=by
 have HW:=I h;have c6:=h.at_.cell 6;change w.cell? _=E (Z J s.st)at c6;rw[h.st]at c6;by_cases hp:q.o.1=0;rotate_left
 ·have e0:aB.pend q=Y:=by unfold aB.pend;exact aM hp
  have e1:cm C q=q:=by unfold cm;rw[ar (by rw[e0];exact dR)]
  have hq:(q.o.1 != 0)=aa:=by simpa using hp
  have ah:=A (rF w w pw b C q s L X (U V 0 0)) ⟨s,[],by rw[e1];exact Am h (ax _ _),by rw[lI (by rw[e0];rfl)];exact mM,λx hx=>absurd hx (wz x)⟩;clear h hp e0 e1;generalize q.o.1=st at*;go_enter func116,ntmps116;go_wp2;go_ret;exact⟨_,rfl,ah.o⟩
 have bi:aB.pend q=aa:=kO.2 hp;have hs:=h.ia hp;have bm:=I hs;have am:=I bi;have ak:=I hc;have hd:=hc.d;have c4:=h.at_.cell 4;change w.cell? _=E (Z J s.tm)at c4;have f4:=h.at_.bF 4;have tb:=h.sM;rw[h.tm]at c4;obtain⟨W1,hW1⟩:=aj (w.setCell ⟨b,4,V⟩ (Z J (q.tm+1)));have aH:=A (dD W1 b C {s with tm:=q.tm+1}) (by rw[hW1];exact h.at_.zI _);have hc1:av (λx=>x=b) w W1:=by rw[hW1];exact av.setCell w ⟨b,4,V⟩ _
 have C1:=I hc1;have z1:=hc1.size;have bn:=I (h.log.keep z1 (λx hx=>hc1.block x (h.aS x (ae (Q hx))).2 (λe=>h.lc (e▸hx))) (λu hu x hx=>hc1.block x (h.aS x (Q (Q (Q ⟨u,hu,hx⟩)))).2 (h.apart x (Q (Q ⟨u,hu,hx⟩))).1))
 have aX:=I (λ(W:ac)(hb:af W1.1.size W1 W)=>(show qb b C {s with tm:=q.tm+1} L X W from
  ⟨aH.o.below hb,(bn.o.keep hb.size (λx hx=>hb.block x (by have:=(h.aS x (ae (Q hx))).2;omega)) (λu hu x hx=>hb.block x (by have:=(h.aS x (Q (Q (Q ⟨u,hu,hx⟩)))).2;omega))).lg,h.lp.ok,λe he=>⟨h.low e he,by have:=h.lp.at_ e he;omega⟩⟩));have aD:=I (h.lp.tab);have aJ:=I (λr=>Jc hc hs.now r);have aW:=bj W1 λW hb=>(show av (λx=>x=b) w W from C1.o.grow hb);have HST:=I h.st;have ba:=I h.ro;have bb:=I (λ(W:ac)(hch:av (λx=>x=b) w W)=>(show aY W s.set q.o.2.2.1 from h.set.keep hch.size (λx hx=>hch.block x (h.aS x (Q (ae hx))).2 (h.apart x (ae hx)).1)));have bc:=I (λ(W:ac)(hch:av (λx=>x=b) w W)=>(show aY W s.sum q.o.2.2.2 from h.sum.keep hch.size (λx hx=>hch.block x (h.aS x (Q (Q (ae hx)))).2 (h.apart x (Q (ae hx))).1)));have aL:=I (λx (hx:oK b s X x)=>(h.aS x hx).2);have bp:=hs.rd;have hq:(q.o.1 != 0)=Y:=by simpa using hp
 have bf:=I hW1;rw[hp]at c6;clear h hs hc hW1 hc1 hp bi hq;obtain⟨tm,aU⟩:=aj q.tm;rw[<-aU]at c4 bf tb aJ aH aX;have aF:=I aU;clear aU;obtain⟨bt,bu⟩:=tb;go_enter func116,ntmps116;go_upto_region 4 with fail;rw[<-bf.o];clear c4 c6 f4;go_wp2;go_loopw [3] (λi wr=>∃k:Nat,k<=4/\i=Z J (k:Int)/\(∀j,j<k->¬(tm+1=C.D*((j:Int)+1)))/\af W1.1.size W1 wr) (λi _=>4-(intOf i).toNat);case atStart=>exact⟨0,by omega,rfl,λj hj=>absurd hj (pV j),ax _ _⟩
 obtain⟨k,hk,rfl,hno,aO⟩:=hrel;have aZ:=I hno;have HB:=I aO;have aI:=I (aH.o.below aO);clear hno aO;by_cases hlt:k<4
 ·have br:(k:Int)<4:=by omega
  have c3:=aI.o.cell 3;have c4:=aI.o.cell 4;change wr.cell? _=E (Z J C.D)at c3;change wr.cell? _=E (Z J (tm+1))at c4;have m1:0<=C.D*((k:Int)+1):=kT (by omega) (by omega);have m2:C.D*((k:Int)+1)<=50*4:=sR (by omega) (by omega) (by omega) (by omega);have hwr:IntKind.i64.wrap (C.D*((k:Int)+1))=C.D*((k:Int)+1):=by rw[kv,eL _ (by omega)]
  have DO:=I (aJ.o k);obtain⟨bg,hY⟩:=aj (C.D*((k:Int)+1));have HY:=I hY;have aN:=I (λ(hy:¬tm+1=bg) j (hj:j<k+1)=>(show¬(tm+1=C.D*((j:Int)+1))from λe=>by
   by_cases ej:j<k;exact aZ.o j ej e;have:j=k:=by omega
   subst this;exact hy (by rw[HY.o];exact e)));rw[<-hY]at DO;clear m1 m2 hY;by_cases hy:tm+1=bg
  ·have bo:(tm+1==C.D*((k:Int)+1))=aa:=by rw[<-HY.o];simpa using hy
   have DD:=I (DO.o.1 hy);have Bd:=I (HB.o.drew);have EI:=I (aX.o wr.drew HB.o.drew);have ap:=I (aW.o wr.drew HB.o.drew);have aQ:=DD.o.1;have aP:=DD.o.2;have bl:=I aP;have GT:=A (eP C (aB.tab C L)) (by rw[aD.o];exact bm.o.good);have GZ:=A (∀r,aB.tab C L r 0=V) (λr=>qE (GT.o.zero r));have O:=I (show cm C q=if fZ C q=aa then{q with tm:=q.tm+1,o:=(2,(q.rd:Int),[],[])}else if q.rd=3 then{q with tm:=q.tm+1,o:=(1,0,kR q.G,ib C q.G)}else{q with tm:=q.tm+1,rd:=q.rd+1}by unfold cm;rw[au am.o,au aP]);have aV:=A (fZ C q=decide ((dm (aB.tab C L k):Int)<C.T)) (by unfold fZ;rw[aD.o,aQ]);have aA:=I aQ;clear aP aQ hy DO aN;by_cases fw:(dm (aB.tab C L k):Int)<C.T
   ·have EN:=I (Qy ak.o EI.o k hlt GZ.o fw);have FW:=A (fZ C q=aa) (by rw[aV.o];exact aK fw);clear fw;go_wp2_with fail;go_region;go_wp2_with fail;refine EN.o.mono ?_;rintro e w5 ⟨rfl,aq,ag⟩;have z5:=ag.size;have ah:=I (show rF w w5 pw b C q s L X (U V 0 0)from by
     refine⟨_,[],xc ak.o HW.o am.o (ap.o.bY ag) aq (by rw[aF.o]) rfl ?_ ?_ ?_ ?_ (λx hx=>by rcases hx with hx|hx<;>cases hx),?_,λx hx=>absurd hx (wz x)⟩;·rw[O.o,au FW.o]
     ·rw[O.o,au FW.o,aA.o]
     rw[O.o,au FW.o];exact nc;rw[O.o,au FW.o];exact nc;rw[lI (by rw[FW.o];simp)];exact mM);clear aq ag;go_wp2;go_ret;exact⟨_,rfl,ah.o⟩
   have FW:=A (fZ C q=Y) (by rw[aV.o];exact aM fw);have ai:=A (¬fZ C q=aa) (by rw[FW.o];exact dR);by_cases k3:k=3
   ·have EN:=I (show ay prog 181 #[aC (E ⟨b,0,V⟩),Z J (k:Int)] wr.drew _ from by have:=Qx ak.o EI.o GT.o (by rw[<-k3];omega);rw[show((k:Nat):Int)=3 by omega];exact this);have R3:=A (q.rd=3) (by rw[<-aA.o];exact k3);clear fw k3;go_wp2_with fail;go_region;go_wp2_with fail;refine EN.o.mono ?_;rintro e w5 ⟨rfl,va,vb,aq,aR,aT,bh,ag⟩;have z5:=ag.size;have ah:=I (show rF w w5 pw b C q s L X (U V 0 0)from by
     have zz:=ap.o.size;rw[aD.o]at aR aT;refine⟨_,[],xc ak.o HW.o am.o (ap.o.bY ag) aq (by rw[aF.o]) rfl ?_ ?_ ?_ ?_ (λx hx=>by have:=bh x hx;exact⟨Q (by omega),by omega⟩),?_,λx hx=>absurd hx (wz x)⟩;·rw[O.o,ar ai.o,au R3.o]
     ·rw[O.o,ar ai.o,au R3.o]
     rw[O.o,ar ai.o,au R3.o];exact aR;rw[O.o,ar ai.o,au R3.o];exact aT;rw[lI (by rw[R3.o];simp)];exact mM);clear aq ag aR aT bh;go_wp2;go_ret;exact⟨_,rfl,ah.o⟩
   have EN:=I (Qz ak.o EI.o GT.o k (by omega) (by omega));have R3:=A (¬q.rd=3) (by rw[<-aA.o];exact k3);clear fw k3;go_wp2_with fail;go_region;go_wp2_with fail;refine EN.o.mono ?_;rintro e w5 ⟨v,vs,rfl,aw,aG⟩;have z5:=aG.size;have zz:=ap.o.size;have ah:=I (show rF w w5 pw b C q s L X v from by
    have ag:=ap.o.grow aG;rw[aD.o,aA.o,Pf C q (by rw[am.o,bl.o,FW.o];simp;exact R3.o)]at aw;refine⟨_,vs,xc ak.o HW.o am.o ag (EI.o.at_.below aG) (by rw[aF.o]) rfl ?_ ?_ ?_ ?_ (λx hx=>?_),aw.base zz,λx hx hf=>?_⟩;rw[O.o,ar ai.o,ar R3.o];exact HST.o;rw[O.o,ar ai.o,ar R3.o];exact ba.o;rw[O.o,ar ai.o,ar R3.o];exact bb.o w5 ag;rw[O.o,ar ai.o,ar R3.o];exact bc.o w5 ag
    ·have hst:kA s X x:=by rcases hx with hx|hx;exact ae hx;exact Q (ae hx)
     exact⟨ae hst,by have:=aL.o x (Q hst);omega⟩
    have h1:=(aw.low x hx).1;have h2:x<w.1.size:=aL.o x hf;omega);obtain⟨bq,cv,bk⟩:=a_ aw.row;rw[bk]at ah ⊢;clear aw aG bk;go_wp2;go_ret;exact⟨_,rfl,ah.o⟩
  have bo:(tm+1==C.D*((k:Int)+1))=Y:=by rw[<-HY.o];simpa using hy
  have NK:=I (aN.o hy);clear hy DO aN;have Bd:=I (HB.o.drew);go_wp2_with fail;go_region;go_wp2;go_roundw;case rel=>exact⟨k+1,by omega,by go_num,NK.o,Bd.o⟩
  simp[intOf];omega
 have ek:k=4:=by omega
 subst ek;have ND:=I (show im C q=Y from by cases e:im C q;rfl;exact absurd ((aJ.o q.rd).2 ⟨rfl,e⟩) (aZ.o q.rd bp));have ah:=I (show rF w wr pw b C q s L X (U V 0 0)from by
  have hch:=aW.o wr HB.o;have O:cm C q={q with tm:=q.tm+1}:=by unfold cm;rw[au am.o,ar (by rw[ND.o];exact dR)]
  refine⟨_,[],xc ak.o HW.o am.o hch aI.o (by rw[aF.o]) rfl ?_ ?_ ?_ ?_ (λx hx=>?_),?_,λx hx=>absurd hx (wz x)⟩;rw[O];exact HST.o;rw[O];exact ba.o;rw[O];exact bb.o wr hch;rw[O];exact bc.o wr hch
  ·have hst:kA s X x:=by rcases hx with hx|hx;exact ae hx;exact Q (ae hx)
   exact⟨ae hst,by have:=aL.o x (Q hst);have:=hch.size;omega⟩
  rw[lI (by rw[ND.o];simp)];exact mM);go_wp2;go_ret;exact⟨_,rfl,ah.o⟩
theorem La:(prog.info? 242).map (λi=>(i.zero,i.size,i.bytes))=E (E (.agg #[Z J 0,Z J 0,Z J 0,U V 0 0]),4,48):=by kernel_rfl
theorem Nf{w w1 W2 w3 w4 pw b C}(hC:fx C){q s L}(h:ii w pw b C q s L X)(hp:aB.pend q=aa){k fr l a cap}(hb1:af w.1.size w w1)(hown:w1.ownsRow w.1.size 147 4 (U a l.length cap) l.length (bD l))(am:∀x∈l,iK x)(ai:aq.okF k fr l=aa)(hW2:af w1.1.size w1 W2){g cap'}(aw:w3.ownsRow (pw+1) 242 4 (U (E ⟨g,0,V⟩) (L.length+1) cap') (L.length+1) (jB L X++[Z J q.tm,Z J k,Z J fr,U a l.length cap]))(hg3:W2.grownBy w3 s.lv.ownBlock)(hat:s.lv.ownBlock=E g\/g=W2.1.size)(ak:g<w3.1.size)(hr4:dD w4 b C {s with lv:= U (E ⟨g,0,V⟩) (L.length+1) cap'})(ag:av (λx=>x=b) w3 w4):
  nK w w4 pw b C (iA C q (k,fr,l)) s {s with lv:= U (E ⟨g,0,V⟩) (L.length+1) cap'} L (L++[(q.tm,(k,fr,l))]) X (X++[U a l.length cap]):=by
 have z1:=hb1.size;have z2:=hW2.size;have z3:=hg3.size;have z4:=ag.size;have aj:=h.aS b (ae (ae rfl));have c3:av (λx=>s.lv.ownBlock=E x) W2 w3:=av.grown hg3;have c13:av (λx=>s.lv.ownBlock=E x) w w3:=((av.bz (S:=λx=>s.lv.ownBlock=E x) hb1).grow hW2).bY c3;have c14:av (λx=>x=b\/s.lv.ownBlock=E x) w w4:=(c13.mono (S':=λx=>x=b\/s.lv.ownBlock=E x) (λx e _=> Q e)).trans ag (λx e _=> ae e);have hst:∀x,kA s X x->w4.1[x]? =w.1[x]? :=λx hx=>by have hf:=h.aS x (Q hx);have ha:=h.apart x hx;exact c14.block x hf.2 (λe=>by rcases e with e|e;exact ha.1 e;exact ha.2 e)
 have Y:∀x,(Value.slice a l.length cap).ownBlock=E x->w.1.size<=x/\x<w1.1.size:=λx hx=>hown.lt x hx;have hgb:g≠b:=by rcases hat with e|e;intro e2;subst e2;exact h.lc e;omega
 have hgx:∀x,(Value.slice a l.length cap).ownBlock=E x->g≠x:=λx hx e2=>by have:=Y x hx;subst e2;rcases hat with e|e;have:=h.aS g (ae (Q e));omega;omega
 have au:∀x,(Value.slice a l.length cap).ownBlock=E x->w4.1[x]? =w1.1[x]? :=λx hx=>by have h1:=Y x hx;rw[ag.block x (by omega) (by omega),c3.block x (by omega) (λe=>by have:=h.aS x (ae (Q e));omega),hW2.block x h1.2]
 have ap:aX w4 (U a l.length cap) l:=(iL hown am).keep (by omega) au;have hg4:w4.1[g]? =w3.1[g]? :=ag.block g ak hgb;have stat:∀x,kA {s with lv:= U (E ⟨g,0,V⟩) (L.length+1) cap'} (X++[U a l.length cap]) x->kA s X x\/(Value.slice a l.length cap).ownBlock=E x:=by intro x hx;rcases hx with hx|hx|⟨u,hu,hx⟩;exact ae (ae hx);exact ae (Q (ae hx));rcases cZ.1 hu with hu|hu;exact ae (Q (Q ⟨u,hu,hx⟩));simp at hu;subst hu;exact Q hx
 have O:∀x,(Value.slice (E ⟨g,0,V⟩) (L.length+1) cap').ownBlock=E x->x=g:=λx hx=>by simpa[Value.ownBlock]using hx.symm
 have hs:=h.ia (kO.1 hp);refine⟨⟨hr4,by rw[w_];exact h.tm,by rw[wZ];exact h.st,by rw[wZ];exact h.ro, ?_, ?_,⟨?_, ?_, ?_⟩,h.lp.take hC hs hp ai, ?_,by rw[w_];exact h.sM,λ_=>hs.take ai, ?_, ?_, ?_⟩,c14, ?_,by simp,λx hx=>by rw[O x hx];rcases hat with e|e;exact ae e;·exact Q (by omega),λx hx=>by rcases stat x hx with e|e;exact ae e;have:=Y x e;exact Q (by omega)⟩;rw[wZ];exact h.set.keep (by omega) (λx hx=>hst x (ae hx));rw[wZ];exact h.sum.keep (by omega) (λx hx=>hst x (Q (ae hx)));simp[h.log.len];have:w4.ownsRow (pw+1) 242 4 (U (E ⟨g,0,V⟩) (L.length+1) cap') (L.length+1) (jB L X++[Z J q.tm,Z J k,Z J fr,U a l.length cap]):=qI aw (λx hx=>by rw[O x hx];exact hg4);rw[JV L X h.log.len,cy];exact this
 ·intro j u hu;by_cases hj:j<X.length;rw[ey hj]at hu;have ah:j<L.length:=by rw[h.log.len];exact hj
  have:jD (L++[(q.tm,(k,fr,l))]) j=jD L j:=by rw[tW _ j (by simp;omega),tW _ j ah,Gc ah]
  rw[this];exact(h.log.its j u hu).keep (by omega) (λx hx=>hst x (Q (Q ⟨u,cU hu,hx⟩)));rw[fo (by omega)]at hu;have ar:j-X.length=0:=by rcases mn (j-X.length)with e|e;exact e;rw[jM (by simp;omega)]at hu;cases hu
  rw[ar]at hu;simp at hu;subst hu;have ej:j=L.length:=by rw[h.log.len];omega
  subst ej;have:jD (L++[(q.tm,(k,fr,l))]) L.length=(q.tm,(k,fr,l)):=by rw[tW _ _ (by simp)];simp
  rw[this];exact ap
 ·intro e he;rcases cZ.1 he with he|he;exact h.low e he;simp at he;subst he;exact h.sM.1
 ·intro x hx;rcases hx with(hx|hx)|hx;subst hx;exact⟨aj.1,by omega⟩;·rw[O x hx];refine⟨?_,by omega⟩;rcases hat with e|e;exact(h.aS g (ae (Q e))).1;omega
  rcases stat x hx with e|e;have:=h.aS x (Q e);omega;have:=Y x e;omega
 ·intro x hx;rcases stat x hx with e|e;·have ha:=h.apart x e;refine⟨ha.1,λe2=> ?_⟩;have:=O x e2;subst this;rcases hat with e3|e3;exact ha.2 e3;have:=h.aS x (Q e);omega
  have h1:=Y x e;refine⟨by omega,λe2=>hgx x e (O x e2).symm⟩
 intro e;exact hgb (O b e).symm;intro x hx;rcases hx with(hx|hx)|hx;exact ae (ae (ae hx));·rw[O x hx];rcases hat with e|e;exact ae (ae (Q e));exact Q (by omega)
 rcases stat x hx with e|e;exact ae (Q e);have:=Y x e;exact Q (by omega)
theorem Nd{b s u g n cap'}:∀x,oK b {s with lv:= U (E ⟨g,0,V⟩) n cap'} (X++[u]) x->oK b s X x\/u.ownBlock=E x\/x=g:=by intro x hx;rcases hx with(hx|hx)|hx|hx|⟨y,hy,hx⟩;exact ae (ae (ae hx));exact Q (Q (by simpa[Value.ownBlock]using hx.symm));exact ae (Q (ae hx));exact ae (Q (Q (ae hx)));rcases cZ.1 hy with hy|hy;exact ae (Q (Q (Q ⟨y,hy,hx⟩)));simp at hy;subst hy;exact Q (ae hx)
theorem Rw{C q}(h:cJ zs=V):fB C q zs=q/\kQ C q zs=Y:=by unfold fB kQ;rw[h];exact⟨rfl,rfl⟩
theorem Ex{C q}{f:aO.Fr}(h:cJ zs=E f):fB C q zs=iA C q f/\kQ C q zs=aB.counts C q f:=by unfold fB kQ;rw[h];exact⟨rfl,rfl⟩
theorem BP{b C}(hc:fx C){s L w}(h:qb b C s L X w)(hz:∀r,aB.tab C L r 0=V):
  ay prog 179 #[aC (E ⟨b,0,V⟩)] w λe w'=>∃H,e=az (.agg (cr H).toArray)/\af w.1.size w w'/\(∀v∈cr H,v.oneCell'=aa)/\mH H 4=aB.many (aB.tab C L):=
 (h.counted hc).mono λe w' ⟨H,he,hH,hb⟩=>⟨H,he,hb,hH.one,Nn hH hz⟩
theorem Eu{pw b C q s L w}(h:ii w pw b C q s L X)(hv:bX w v zs)(hno:cJ zs=V\/aB.pend q=Y):
  ay prog 114 #[aC (E ⟨b,0,V⟩),v] w λe w'=>e=az (ak (kQ C q zs))/\nK w w' pw b C (fB C q zs) s s L L X X:=by
 have hbl:=h.at_.lt;have HD:=I (wD hv);obtain⟨af,cz,rfl,-,-,hB,-⟩:=eC hv;have HW:=I h;have c6:=h.at_.cell 6;change w.cell? _=E (Z J s.st)at c6;rw[h.st]at c6;clear hv
 cases hd:cJ zs with
 |none=> obtain⟨x1,x2,x3,x4⟩:=mC hd;rw[x1,x2,x3,x4]at HD;obtain⟨y1,y2⟩:=Rw (C:=C) (q:=q) hd;rw[y1,y2];clear x1 x2 x3 x4 y1 y2 hd hB h hno c6;go_enter func114,ntmps114;go_wp2_with fail;refine HD.o.mono ?_;rintro e w1 ⟨va,rfl,hown,hb⟩;obtain⟨a',c',hv'⟩:=a_ hown;subst hv';have O:=I hb;clear hown hb;go_wp2;go_ret;exact⟨rfl,Am HW.o (O.o.alloc O.o.size _)⟩
 |some f=>
  have hp:aB.pend q=Y:=by rcases hno with e|e;rw[hd]at e;cases e;exact e
  have hq:q.o.1≠0:=λe=>by rw[kO.2 e]at hp;cases hp
  obtain⟨k,fr,l⟩:=f;obtain⟨x1,x2,x3,x4⟩:=nR hd;rw[x1,x2,x3,x4]at HD;obtain⟨y1,y2⟩:=Ex (C:=C) (q:=q) hd;have e1:aB.counts C q (k,fr,l)=Y:=by unfold aB.counts;rw[hp];rfl
  have e2:iA C q (k,fr,l)=q:=by unfold iA;rw[ar (by rw[e1];exact dR)]
  rw[y1,y2,e1,e2];have ae:(q.o.1 != 0)=aa:=by simpa using hq
  have C6:=I c6;clear x1 x2 x3 x4 y1 y2 hd hB h hno e1 e2 hp hq c6;obtain⟨st,hst⟩:=aj q.o.1;rw[<-hst]at C6 ae;clear hst;go_enter func114,ntmps114;go_wp2_with fail;refine HD.o.mono ?_;rintro e w1 ⟨va,rfl,hown,hb⟩;obtain⟨a',c',hv'⟩:=a_ hown;subst hv';have s1:=hb.size;have O:=I hb;have c6:=(hb.cell (p:=⟨b,6,V⟩) hbl).trans C6.o;have ag:b<w1.1.size:=by omega
  clear hown hb;generalize l.length=m;go_wp2;go_ret;exact⟨rfl,Am HW.o (O.o.alloc O.o.size _)⟩
theorem Rn{pw b C}(hc:fx C){q s L w}(h:ii w pw b C q s L X)(hv:bX w v zs)(hlen:(L.length+1)*48<=140737488355328)(k fr l)(hd:cJ zs=E (k,fr,l))(hp:aB.pend q=aa):
  ay prog 114 #[aC (E ⟨b,0,V⟩),v] w λe w'=>e=az (ak (kQ C q zs))/\∃s' L' X',nK w w' pw b C (fB C q zs) s s' L L' X X':=by
 obtain⟨i0,cu,hz0,hz1,hz2⟩:=bO La;have aJ:=h.aS b (ae (ae rfl));have hbl:=h.at_.lt;have cD:pw+1<=w.1.size:=by omega
 have HD:=I (wD hv);obtain⟨cA,cz,rfl,-,-,hB,-⟩:=eC hv;have HW:=I h;obtain⟨x1,x2,x3,x4⟩:=nR hd;rw[x1,x2,x3,x4]at HD;obtain⟨y1,y2,y3⟩:=qw hB hd;have bV:=I y1;have bT:=I (kg y1);obtain⟨bL,bM⟩:=Ex (C:=C) (q:=q) hd;rw[bL,bM];have hs:=h.ia (kO.1 hp);have aA:=I (h.lp.more hc hs hp (f:=(k,fr,l)) y1);have bW:=I hp;have bh:=I hc;have hz:∀r,aB.tab C L r 0=V:=λr=>by rw[h.lp.tab];exact qE (hs.good.zero r)
 have bI:∀r,aB.tab C (L++[(q.tm,(k,fr,l))]) r 0=V:=λr=>by rw[(h.lp.take hc hs hp (f:=(k,fr,l)) y1).tab];exact qE ((hs.take (f:=(k,fr,l)) y1).good.zero r)
 have ct:=I bI;have bS:=bj w λW hb=>BP hc (w:=W) ⟨h.at_.below hb,(h.log.keep hb.size (λx hx=>hb.block x (h.aS x (ae (Q hx))).2) (λu hu x hx=>hb.block x (h.aS x (Q (Q (Q ⟨u,hu,hx⟩)))).2)).lg,h.lp.ok,λe he=>⟨h.low e he,by have:=h.lp.at_ e he;have:=h.sM;omega⟩⟩ hz;have bQ:=bj w λW hb=>h.at_.below hb;obtain⟨al,cl,hlv⟩:=a_ h.log.own;have am:=I hlv;have bk:=bj w λW hb=>(show W.ownsRow (pw+1) 242 4 (U al L.length cl) L.length (jB L X)by rw[<-hlv];exact qI h.log.own (λx hx=>hb.block x (h.aS x (ae (Q hx))).2));have aQ:=I h.lc;rw[hlv]at aQ;have ck:=I h.tm;have c6:=h.at_.cell 6;change w.cell? _=E (Z J s.st)at c6;rw[h.st,kO.1 hp]at c6;have C6:=I c6;obtain⟨n,hn⟩:=aj L.length;rw[<-hn]at hlen bk aQ am;have bU:=I hn;clear x1 x2 x3 x4 y1 y2 y3 hd hB h hv bL bM hs hc hp hz bI hlv c6 hn aJ;go_enter func114,ntmps114;go_wp2_with fail;refine HD.o.mono ?_;rintro e w1 ⟨va,rfl,hown,hb⟩;obtain⟨a',c',hv'⟩:=a_ hown;subst hv';have s1:=hb.size;have O1:=I hown;have B1:=I hb;clear hown hb;obtain⟨m,hm⟩:=aj l.length;rw[<-hm]at O1 ⊢;have bi:=I hm;clear hm;obtain⟨W1,hW1⟩:=aj (w1.alloc (ah #[Z J k,Z J fr,U a' m c'] 65));have aU:af w1.1.size w1 W1:=by rw[hW1];exact(ax _ _).alloc (aw _) _
 have cx:W1.1.size=w1.1.size+1:=by rw[hW1];simp
 have ai:=I (B1.o.trans (aU.mono s1));have XF:=A (dc W1 w1.1.size k fr (U a' m c')) (by rw[hW1];exact dc.new w1 k fr _);have c6:=(ai.o.cell (p:=⟨b,6,V⟩) hbl).trans C6.o;have cC:b<W1.1.size:=by omega
 have cn:=I hW1;have aN:=I aU;have bf:=I (bS.o W1 ai.o);have cy:w1.1.size<W1.1.size:=by omega
 clear hW1 aU cx;go_upto_region 2 with fail;rw[<-cn.o];go_wp2_with fail;refine bf.o.mono ?_;rintro e w2 ⟨H,rfl,hb2,au,ar⟩;obtain⟨f1,f2,f3⟩:=wY w2 H;have ONE:=A ((cr H).toArray.all (·.oneCell')=aa) (dN au);have LT:=I (pH H);have s2:=hb2.size;have BA:=I (hb2.trans (f3.mono s2));have F2:=I f1;have z2:=f1.lt;have HT:=I f2;have RA:=A (((w2.alloc (ah zeroCells238 238)).setCells w2.1.size 0 (cr H)).rangeAt w2.1.size 0 (cr H)) (by have:=f1.range 0 156 (by omega);simp only[Nat.zero_add]at this;exact this);have MC:=I (λW=>Eg H W);rw[ar]at MC;clear f1 f2 f3 hb2 au ar c6 bf;obtain⟨CS,bt⟩:=aj (cr H);rw[<-bt]at ONE LT BA z2 F2 RA MC ⊢;clear bt;have cd:=A ((prog.info? 238).map (·.size)=E CS.toArray.size) (by rw[mf,bR,LT.o]);have bZ:=A ((prog.info? 238).map (·.size)=E CS.length) (by rw[mf,LT.o]);have cg:=A ((w2.alloc (ah zeroCells238 238)).there w2.1.size 0 CS.toArray.size) (by rw[show CS.toArray.size=156 by rw[bR];exact LT.o];exact HT.o);obtain⟨W2,hW2⟩:=aj ((w2.alloc (ah zeroCells238 238)).setCells w2.1.size 0 CS);rw[<-hW2]at BA z2 F2 RA;have cp:=I hW2;clear hW2 HT;obtain⟨before,aJ⟩:=aj (aB.many (aB.tab C L));rw[<-aJ]at MC aA;clear aJ;go_upto_region 5 with(refine cB rfl 238 _ _ rfl w2.1.size 0 CS.toArray rfl rfl cg.o cd.o ONE.o ?_);rw[<-cp.o];go_wp2_with(refine fK rfl 238 _ rfl w2.1.size 0 rfl CS _ RA.o tv rfl bZ.o ?_);refine aH (MC.o W2) λw3 hb3=>?_;have s3:=hb3.size;have aO:=I (BA.o.trans (hb3.mono BA.o.size));have bc:=I (ai.o.trans (aO.o.mono ai.o.size));have F3:=I (F2.o.block (hb3.block _ z2));obtain⟨x0,x1,x2⟩:=XF.o.below aO.o cy;have ap:=bQ.o w3 bc.o;have y4:=ap.cell 4;have y5:=ap.cell 5;change w3.cell? _=E (Z J s.tm)at y4;change w3.cell? _=E s.lv at y5;rw[ck.o]at y4;rw[am.o]at y5;have yf:=ap.bF 5;have bN:=I ap;have bm:=I (bk.o w3 bc.o);have nb:E b≠(Value.slice al n cl).ownBlock:=λe=>aQ.o e.symm;have aX:b<w3.1.size:=by omega
 have cG:w1.1.size<w3.1.size:=by omega
 have h63:n+1<=maxLen:=by unfold maxLen;omega
 have bn:∀(ob:Obj)(c o:Nat),c<w3.1.size->(w3.alloc ob).cell? ⟨c,o,V⟩=w3.cell? ⟨c,o,V⟩:=λob c o hc=>((ax w3.1.size w3).alloc (aw _) ob).cell (p:=⟨c,o,V⟩) hc;have bq:∀(ob:Obj)(c o:Nat),c<w3.1.size->(w3.alloc ob).frozen? ⟨c,o,V⟩=w3.frozen? ⟨c,o,V⟩:=λob c o hc=>((ax w3.1.size w3).alloc (aw _) ob).frozen (p:=⟨c,o,V⟩) hc;have cE:pw+1<=w3.1.size:=by omega
 clear hb3 ap RA;obtain⟨tm,aZ⟩:=aj q.tm;rw[<-aZ]at y4;have cm:=I aZ;clear aZ;have HQ:=I (show∀w4:ac,(w3.alloc (ah #[Z J tm,Z J k,Z J fr,U a' m c'] 242)).drew.grownBy w4 (Value.slice al n cl).ownBlock->w4.cell? ⟨b,5,V⟩=E (U al n cl)/\w4.frozen? ⟨b,5,V⟩=Y from λw4 hg=>
  ⟨(hg.cell_far ⟨b,5,V⟩ (by show b<(w3.alloc (ah #[Z J tm,Z J k,Z J fr,U a' m c'] 242)).1.size;simp;omega) nb).trans ((bn _ b 5 aX).trans y5),(hg.frozen_far ⟨b,5,V⟩ (by show b<(w3.alloc (ah #[Z J tm,Z J k,Z J fr,U a' m c'] 242)).1.size;simp;omega) nb).trans ((bq _ b 5 aX).trans yf)⟩);go_upto_region 6 with fail
 go_cut [4]from 29 to 43 (λp wc=>p=ak Y/\∃O cap' w4,wc=w4.setCell ⟨b,5,V⟩ (U (E ⟨O,0,V⟩) (n+1) cap')/\w4.ownsRow (pw+1) 242 4 (U (E ⟨O,0,V⟩) (n+1) cap') (n+1) (jB L X++[Z J tm,Z J k,Z J fr,U a' m c'])/\
  (w3.alloc (ah #[Z J tm,Z J k,Z J fr,U a' m c'] 242)).drew.grownBy w4 (Value.slice al n cl).ownBlock/\((Value.slice al n cl).ownBlock=E O\/O=w3.1.size+1)/\O<w4.1.size);case first=> go_region_law (refine AO _ (by rfl) _ _ _ (by rfl) (pw+1) 242 i0 _ 4 48 underlying132 cu hz0 hz1 hz2 rfl (by omega) (U al n cl) n (jB L X) (by rfl) ((bm.o.alloc _).drew) ⟨w3.1.size,0,V⟩ 1 1 [Z J tm,Z J k,Z J fr,U a' m c'] (by rfl) (by rfl) (AM (cs:= #[Z J tm,Z J k,Z J fr,U a' m c']) (t:=242) (fr:=(0,0)) (bo w3 _)) (by simp[Value.oneCell']) (by omega) h63 hlen (by simp;omega) (w3.1.size+1) (by simp) ?_;intro O cap' w4 cw ag hat aL;obtain⟨cF,qf⟩:=HQ.o w4 ag);all_goals(go_wp2;go_meet;exact⟨rfl,O,cap',w4,rfl,cw,ag,hat,aL⟩)
 obtain⟨rfl,O,cap',w4,hwc,bH,ag,hat,aL⟩:=hcut;have hn:=bU.o;have hm:=bi.o;have bb:(w3.alloc (ah #[Z J tm,Z J k,Z J fr,U a' m c'] 242)).drew.1.size=w3.1.size+1:=by show(w3.alloc (ah #[Z J tm,Z J k,Z J fr,U a' m c'] 242)).1.size=_;simp
 obtain⟨W3,hW3⟩:=aj ((w3.alloc (ah #[Z J tm,Z J k,Z J fr,U a' m c'] 242)).drew);have aI:af w3.1.size w3 W3:=by rw[hW3];exact((ax _ _).alloc (aw _) _).drew
 rw[<-hW3]at ag bb;have bA:af w1.1.size w1 W3:=(aN.o.trans (aO.o.mono aN.o.size)).trans (aI.mono (by have:=aN.o.size;omega));have bv:s.lv.ownBlock=E O\/O=W3.1.size:=by rw[bb,am.o];exact hat
 have bC:W3.grownBy w4 s.lv.ownBlock:=by rw[am.o];exact ag
 have z4:=ag.size;have bJ:dD w4 b C s:=bN.o.block (w':=w4) (by rw[ag.block b (by omega) nb];exact aI.block b aX);have aY:av (λx=>x=b) w4 wc:=by rw[hwc];exact av.setCell w4 ⟨b,5,V⟩ _
 have bK:dD wc b C {s with lv:=U (E ⟨O,0,V⟩) (L.length+1) cap'}:=by rw[hwc,<-hn];exact bJ.SA _
 have bE:w1.ownsRow w.1.size 147 4 (U a' l.length c') l.length (bD l):=by have:=O1.o;rw[hm]at this;exact this
 have bG:w4.ownsRow (pw+1) 242 4 (U (E ⟨O,0,V⟩) (L.length+1) cap') (L.length+1) (jB L X++[Z J q.tm,Z J k,Z J fr,U a' l.length c']):=by rw[<-hn,<-hm,<-cm.o];exact bH
 have TK:=I (Nf bh.o HW.o bW.o B1.o bE bT.o bV.o bA bG bC bv aL bK aY);have bP:=I (BP bh.o (w:=wc) ⟨TK.o.ba.at_,TK.o.ba.log.lg,TK.o.ba.lp.ok,λe he=>⟨TK.o.ba.low e he,by have h1:=TK.o.ba.lp.at_ e he;have h2:=TK.o.ba.sM;omega⟩⟩ ct.o);have GG:=I (show O<w.1.size\/w3.1.size<O by rcases hat with e|e;exact ae (HW.o.aS O (ae (Q (by rw[am.o];exact e)))).2;exact Q (by omega));have Fc:=I (show bp wc w2.1.size 238 156 (cR H)from F3.o.block (by
  have hl:=F3.o.lt;have e1:w2.1.size≠b:=by have:=ai.o.size;omega
  rw[aY.block _ (by omega) e1,ag.block _ (by omega) (λe=>by have:=(bm.o.lt _ e.symm).2;have h2:=(HW.o.aS w2.1.size (ae (Q (by rw[am.o];exact e.symm)))).2;have:=ai.o.size;omega)];exact aI.block _ hl));clear hwc bH ag hat aL hW3 aI bA bv bC bJ bK bE bG x0 x1 x2 y4 y5 yf bn bq aY hn hm bb;go_wp2_with fail;refine bP.o.mono ?_;rintro e w5 ⟨H2,rfl,aW,au,ar⟩;have F5:=I (Fc.o.block (aW.block _ Fc.o.lt));have f5:=F5.o.gU (cR H2);have aR:=A ((w5.setCells w2.1.size 0 (cr H2)).rangeAt w2.1.size 0 (cr H2)) (by have:=f5.range 0 156 (by omega);simp only[Nat.zero_add]at this;exact this);have bl:=A ((cr H2).toArray.all (·.oneCell')=aa) (dN au);have aD:=I (pH H2);have aG:=I (λW=>Eg H2 W);rw[ar]at aG;have cf:=I (F5.o.there 0 156 (by omega));have bB:=rO w2.1.size (cr H2) 0 w5;have aP:=I bB;have B5:=I aW;clear au ar f5 bB aW;obtain⟨C2,br⟩:=aj (cr H2);rw[<-br]at bl aD aR aG aP ⊢;clear br;have ce:=A ((prog.info? 238).map (·.size)=E C2.toArray.size) (by rw[mf,bR,aD.o]);have b_:=A ((prog.info? 238).map (·.size)=E C2.length) (by rw[mf,aD.o]);have cj:=A (w5.there w2.1.size 0 C2.toArray.size) (by rw[show C2.toArray.size=156 by rw[bR];exact aD.o];exact cf.o);obtain⟨W5,aT⟩:=aj (w5.setCells w2.1.size 0 C2);rw[<-aT]at aR aP;have cq:=I aT;clear aT;obtain⟨after,bu⟩:=aj (aB.many (aB.tab C (L++[(q.tm,(k,fr,l))])));rw[<-bu]at aG aA;clear bu;go_upto_region 8 with(refine cB rfl 238 _ _ rfl w2.1.size 0 C2.toArray rfl rfl cj.o ce.o bl.o ?_);rw[<-cq.o];go_wp2_with(refine fK rfl 238 _ rfl w2.1.size 0 rfl C2 _ aR.o tv rfl b_.o ?_);refine aH (aG.o W5) λw6 bw=>?_;have cH:w.1.size<=w2.1.size:=by have:=ai.o.size;omega
 have bg:=I (show∃s' L' X',nK w w6 pw b C (iA C q (k,fr,l)) s s' L L' X X' from by
  have tk:=TK.o;have hch:av (λx=>x=w2.1.size) wc w6:=((av.bz (S:=λx=>x=w2.1.size) B5.o).bY aP.o).grow bw;refine⟨_,_,_,⟨tk.ba.keep hch.size (λx hx=>hch.block x (tk.ba.aS x hx).2 (λe=>?_)),?_,tk.aS,tk.more,tk.own,tk.stat⟩⟩
  ·rcases Nd x hx with h1|h1|h1;have:=(HW.o.aS x h1).2;omega;have h2:(Value.slice a' m c').ownBlock=E x:=by rw[bi.o];exact h1
   have:=(O1.o.lt x h2).2;omega;rcases GG.o with h2|h2<;>omega
  exact tk.aV.trans hch (λx e hx=>absurd e (by omega)));have EQ:=A (decide ((before:Int)<(after:Int))=aB.counts C q (k,fr,l)) (by rw[<-aA.o];by_cases e:before<after<;>simp[e]);clear bw;by_cases e:(before:Int)<(after:Int);·have HE:=A (aB.counts C q (k,fr,l)=aa) (by rw[<-EQ.o];exact aK e);go_wp2;go_ret;exact⟨aF HE.o.symm,bg.o⟩
 have HE:=A (aB.counts C q (k,fr,l)=Y) (by rw[<-EQ.o];exact aM e);go_wp2;go_ret;exact⟨aF aA.o,bg.o⟩
theorem Rm{pw b C}(hc:fx C){q s L w}(h:ii w pw b C q s L X)(hv:bX w v zs)(hlen:(L.length+1)*48<=140737488355328):
  ay prog 114 #[aC (E ⟨b,0,V⟩),v] w λe w'=>e=az (ak (kQ C q zs))/\∃s' O Y,nK w w' pw b C (fB C q zs) s s' L O X Y:=by
 cases hd:cJ zs with
 |none=>exact(Eu h hv (ae hd)).mono λe w' ⟨h1,h2⟩=>⟨h1,s,L,X,h2⟩
 |some f=>
  cases hp:aB.pend q with
  |false=>exact(Eu h hv (Q hp)).mono λe w' ⟨h1,h2⟩=>⟨h1,s,L,X,h2⟩
  |true=> obtain⟨k,fr,l⟩:=f;exact Rn hc h hv hlen k fr l hd hp
def pB:RV:=⟨0,U V 0 0,0,0,U V 0 0,U V 0 0⟩
theorem Ro{w pw b C}(hc:fx C)(h:dD w b C pB)(hb:pw<b):ii w pw b C aB.start pB [] [] where
 at_:=h
 tm:=rfl
 st:=rfl
 ro:=rfl
 set:=nc
 sum:=nc
 log:=⟨rfl,dp _ _ _ _,λj u hu=>by simp at hu⟩
 lp:=Ng C
 low:=λe he=>by cases he
 sM:=⟨by decide,by decide⟩
 ia:=λ_=>ER hc
 aS:=λx hx=>by rcases hx with(hx|hx)|hx|hx|⟨u,hu,_⟩;subst hx;exact⟨hb,h.lt⟩;cases hx;cases hx;cases hx;cases hu
 apart:=λx hx=>by rcases hx with hx|hx|⟨u,hu,_⟩;cases hx;cases hx;cases hu
 lc:=λe=>by cases e
theorem Rl{N T M}(D w)(h:dV N T M D=Y):
  ay prog 112 #[.agg #[Z J N,Z J T,Z J M,Z J D]] w λe w'=>e=az (.tuple #[aC V,Z J 5])/\af w.1.size w w':=by have HC:=I (λW=>wC N T M D W);rw[h]at HC;clear h;have O:=A (af w.1.size w (w.alloc (ah #[Z J N,Z J T,Z J M,Z J D] 26))) ((ax _ _).alloc (aw _) _);go_enter func112,ntmps112;go_wp2_with fail;refine aH (HC.o _) λw1 hb1=>?_;have B1:=I (O.o.trans (hb1.mono O.o.size));clear hb1;go_wp2_with fail;go_ret2;exact⟨rfl,B1.o⟩
theorem Et (pw){N T M}(D w)(h:dV N T M D=aa)(ak:pw<w.1.size):
  ay prog 112 #[.agg #[Z J N,Z J T,Z J M,Z J D]] w λe w'=>∃b,e= az (.tuple #[aC (E ⟨b,0,V⟩),Z J 0])/\ii w' pw b ⟨N,T,M,D⟩ aB.start pB [] []/\af w.1.size w w'/\w.1.size<=b:=by
 have HC:=I (λW=>wC N T M D W);rw[h] at HC;have HG:=I (vF h);clear h;obtain ⟨W0,hW0⟩:=aj (w.alloc (ah #[Z J N,Z J T,Z J M,Z J D] 26));have O:=A (af w.1.size w W0) (by rw[hW0];exact (ax _ _).alloc (aw _) _);have z0:W0.1.size=w.1.size+1:=by rw[hW0];simp
 have x0:W0.cell? ⟨w.1.size,0,V⟩=E (Z J N):=by rw[hW0];simp
 have x1:W0.cell? ⟨w.1.size,1,V⟩=E (Z J T):=by rw[hW0];simp
 have x2:W0.cell? ⟨w.1.size,2,V⟩=E (Z J M):=by rw[hW0];simp
 have x3:W0.cell? ⟨w.1.size,3,V⟩=E (Z J D):=by rw[hW0];simp
 have X:=bj W0 λW hb=>And.intro ((hb.cell (p:=⟨w.1.size,0,V⟩) (by show w.1.size<_;omega)).trans x0) (And.intro ((hb.cell (p:=⟨w.1.size,1,V⟩) (by show w.1.size<_;omega)).trans x1) (And.intro ((hb.cell (p:=⟨w.1.size,2,V⟩) (by show w.1.size<_;omega)).trans x2) ((hb.cell (p:=⟨w.1.size,3,V⟩) (by show w.1.size<_;omega)).trans x3)));have ai:=I hW0;clear hW0;go_enter func112,ntmps112;go_upto_region 1 with fail;rw[<-ai.o];go_wp2_with fail;refine aH (HC.o _) λw1 hb1=> ?_;have s1:=hb1.size;have Y:=I (O.o.trans (hb1.mono O.o.size));clear x0 x1 x2 x3;obtain ⟨x0,x1,x2,x3⟩:=X.o w1 hb1;clear hb1;have ag:=I (λ(b:Nat) (hb:b=w1.1.size)=>(show ii (w1.alloc (ah #[Z J N,Z J T,Z J M,Z J D,Z J 0,U V 0 0,Z J 0,Z J 0,U V 0 0,U V 0 0] 134)) pw b ⟨N,T,M,D⟩ aB.start pB [] [] by subst hb;exact Ro HG.o (bo w1 _) (by omega)));have ae:=A (af w.1.size w (w1.alloc (ah #[Z J N,Z J T,Z J M,Z J D,Z J 0,U V 0 0,Z J 0,Z J 0,U V 0 0,U V 0 0] 134))) (Y.o.alloc Y.o.size _);go_wp2_with fail;go_ret2;exact ⟨w1.1.size,rfl,ag.o _ rfl,ae.o,by omega⟩
end
section
open Go.RowKit
structure RM where
 ys:Nat
 rv:RV
 L:cI
 X:List ag
 cv:ag
 yc:Nat->Nat
 rs:Nat->RS
 hh:Nat->List aO.Fr
 hv:Nat->List ag
 fv:ag
 vs:List ag
 tg:Nat->Nat
def fV (b n:Nat)(m:RM)(x:Nat):Prop:=x=b\/m.cv.ownBlock=E x\/m.fv.ownBlock=E x\/(x=m.ys\/m.rv.lv.ownBlock=E x)\/∃i,i<n/\(x=m.yc i\/(m.rs i).hv.ownBlock=E x)
def kZ (n:Nat)(m:RM)(x:Nat):Prop:=kA m.rv m.X x\/(∃i,i<n/\jQ (m.rs i) (m.hv i) x)\/∃y∈m.vs,y.ownBlock=E x
def cC (b n:Nat)(m:RM)(x:Nat):Prop:=fV b n m x\/kZ n m x
def kP (C:Cf)(n:Nat)(gone:Nat->Bool)(ys:Nat)(cv fv:ag)(t:Nat):ag:=
 if t=0 then Z J C.N else if t=1 then Z J C.T else if t=2 then Z J C.M else if t=3 then Z J C.D
 else if t=4 then aC (E ⟨ys,0,V⟩)else if t=5 then cv else if t=19 then fv else ak (decide (7<=t/\t<=n+6)&&gone (t-7))
structure bT (w:ac)(pw b n:Nat)(C:Cf)(cl:Nat->Cl)(s:Sn)(m:RM):Prop where
 row:bp w b 196 20 (kP C n s.gone m.ys m.cv m.fv)
 ba:ii w pw m.ys C s.q m.rv m.L m.X
 nP:w.ownsRow (pw+1) 168 1 m.cv n ((List.range n).map λi=>aC (E ⟨m.yc i,0,V⟩))
 di:∀i,i<n->gw w pw (m.yc i) (m.rs i) (m.hh i) (m.hv i)
 cs:∀i,i<n->(m.rs i).c=cl i/\aO.lk (cl i) (m.hh i)=s.cs i
 fl:fw w m.fv m.vs s.fl
 t0:m.tg b=0
 t1:∀x,m.cv.ownBlock=E x->m.tg x=1
 t2:∀x,m.fv.ownBlock=E x->m.tg x=2
 t3:∀x,(x=m.ys\/m.rv.lv.ownBlock=E x)->m.tg x=3
 t4:∀i,i<n->∀x,(x=m.yc i\/(m.rs i).hv.ownBlock=E x)->m.tg x=4+i
 t5:∀x,kZ n m x->m.tg x=100
 low:∀x,cC b n m x->pw<x/\x<w.1.size
section
variable {w w':ac}{pw b n:Nat}{C:Cf}{cl:Nat->Cl}{s:Sn}{m:RM}
theorem bT.keep (h:bT w pw b n C cl s m)(z:w.1.size<=w'.1.size)(hb:∀x,cC b n m x->w'.1[x]?=w.1[x]?)(hp:∀x,x<pw->w'.1[x]?=w.1[x]?):bT w' pw b n C cl s m:=
 {h with
  row:=h.row.block (hb b (ae (ae rfl)))
  ba:=h.ba.keep z (λx hx=>hb x (by rcases hx with hx|hx;exact ae (Q (Q (Q (ae hx))));exact Q (ae hx)))
  nP:=mO h.nP (λx hx=>hb x (ae (Q (ae hx))))
  di:=λi hi=>(h.di i hi).keep z (λx hx=>hb x (by rcases hx with hx|hx;exact ae (Q (Q (Q (Q ⟨i,hi,hx⟩))));exact Q (Q (ae ⟨i,hi,hx⟩)))) hp
  fl:=h.fl.keep z (λx hx=>hb x (ae (Q (Q (ae hx))))) (λy hy x hx=>hb x (Q (Q (Q ⟨y,hy,hx⟩))))
  low:=λx hx=>⟨(h.low x hx).1,cG (h.low x hx).2 z⟩}
theorem bT.below (h:bT w pw b n C cl s m)(hb:af w.1.size w w'):bT w' pw b n C cl s m:=
 h.keep hb.size (λx hx=>hb.block x (h.low x hx).2) (λx hx=>hb.block x (by have:=h.low b (ae (ae rfl));omega))
theorem bT.blt (h:bT w pw b n C cl s m):b<w.1.size:=h.row.lt
end
structure df (w w':ac)(pw b n:Nat)(C:Cf)(cl:Nat->Cl)(s':Sn)(m m':RM):Prop where
 bP:bT w' pw b n C cl s' m'
 aV:av (fV b n m) w w'
 own:∀x,fV b n m' x->fV b n m x\/w.1.size<=x
 aS:∀x,cC b n m' x->cC b n m x\/w.1.size<=x
 logs:m'.L.length<=m.L.length+1/\∀i,i<n->(m'.hh i).length<=(m.hh i).length+1
section
variable {w w1 w2 w':ac}{pw b n:Nat}{C:Cf}{cl:Nat->Cl}{s s1 s':Sn}{m m1 m2 m':RM}
theorem sF (h:bT w pw b n C cl s m)(hb:af w.1.size w w'):df w w' pw b n C cl s m m:=⟨h.below hb,av.bz hb,λ_ hx=>ae hx,λ_ hx=>ae hx,by omega,λ_ _=>by omega⟩
def f_ (w:ac)(t:Nat->Nat)(v:ag)(k:Nat)(x:Nat):Nat:=if x<w.1.size then t x else if v.ownBlock=E x then k else 100
theorem wa{w t k x}(h:x<w.1.size):f_ w t v k x=t x:=au h
theorem y_{w t k x}(h:¬x<w.1.size)(e:v.ownBlock=E x):f_ w t v k x=k:=by unfold f_;rw[ar h,au e]
theorem tY{w t k x}(h:¬x<w.1.size)(e:v.ownBlock≠E x):f_ w t v k x=100:=by unfold f_;rw[ar h,ar e]
theorem bT.Fq (h:bT w pw b n C cl s m){q' O L' Y}(t:nK w w' pw m.ys C q' m.rv O m.L L' m.X Y):df w w' pw b n C cl {s with q:=q'} m {m with rv:=O,L:=L',X:=Y,tg:=f_ w m.tg O.lv 3}:=by
 have z:=t.aV.size;have aa:∀x,cC b n m x->m.tg x≠3->w'.1[x]?=w.1[x]? :=λx hx e=>t.aV.block x (h.low x hx).2 (λq=>e (h.t3 x q));have old:∀{x k},cC b n m x->m.tg x=k->f_ w m.tg O.lv 3 x=k:=λhx e=>(wa (h.low _ hx).2).trans e;have stat:∀x,kZ n {m with rv:=O,L:=L',X:=Y,tg:=f_ w m.tg O.lv 3} x->kZ n m x\/(w.1.size<=x/\kA O Y x):=λx hx=>by
  rcases hx with hx|hx;·rcases t.stat x hx with q|q;exact ae (ae q);exact Q ⟨q,hx⟩
  exact ae (Q hx)
 have own:∀x,fV b n {m with rv:=O,L:=L',X:=Y,tg:=f_ w m.tg O.lv 3} x->fV b n m x\/w.1.size<=x:=λx hx=>by rcases hx with hx|hx|hx|(hx|hx)|hx;exact ae (ae hx);exact ae (Q (ae hx));exact ae (Q (Q (ae hx)));exact ae (Q (Q (Q (ae (ae hx)))));exact(t.own x hx).imp (λq=>Q (Q (Q (ae (Q q))))) id;exact ae (Q (Q (Q (Q hx))))
 have aS:∀x,cC b n {m with rv:=O,L:=L',X:=Y,tg:=f_ w m.tg O.lv 3} x->cC b n m x\/w.1.size<=x:=λx hx=>by rcases hx with hx|hx;exact(own x hx).imp ae id;exact(stat x hx).imp Q (λq=>q.1)
 refine⟨⟨h.row.block (aa b (ae (ae rfl)) (by rw[h.t0];omega)),t.ba,mO h.nP (λx hx=>aa x (ae (Q (ae hx))) (by rw[h.t1 x hx];omega)),λi hi=>(h.di i hi).keep z (λx hx=>?_) (λx hx=>?_),h.cs,h.fl.keep z (λx hx=>aa x (ae (Q (Q (ae hx)))) (by rw[h.t2 x hx];omega)) (λy hy x hx=>aa x (Q (Q (Q ⟨y,hy,hx⟩))) (by rw[h.t5 x (Q (Q ⟨y,hy,hx⟩))];omega)),old (ae (ae rfl)) h.t0,λx hx=>old (ae (Q (ae hx))) (h.t1 x hx),λx hx=>old (ae (Q (Q (ae hx)))) (h.t2 x hx),λx hx=>?_,λi hi x hx=>old (ae (Q (Q (Q (Q ⟨i,hi,hx⟩))))) (h.t4 i hi x hx),λx hx=>?_,λx hx=>?_⟩,t.aV.mono (λx e _=>Q (Q (Q (ae e)))),own,aS,t.more,λi _=>jO _⟩;·rcases hx with hx|hx;exact aa x (ae (Q (Q (Q (Q ⟨i,hi,hx⟩))))) (by rw[h.t4 i hi x hx];omega);exact aa x (Q (Q (ae ⟨i,hi,hx⟩))) (by rw[h.t5 x (Q (ae ⟨i,hi,hx⟩))];omega)
 refine t.aV.block x (by have:=h.low b (ae (ae rfl));omega) (λe=>?_);have:=h.low x (ae (Q (Q (Q (ae e)))));omega;·rcases hx with hx|hx;exact old (ae (Q (Q (Q (ae (ae hx)))))) (h.t3 x (ae hx));rcases t.own x hx with q|q;exact old (ae (Q (Q (Q (ae (Q q)))))) (h.t3 x (Q q));exact y_ (by omega) hx
 ·rcases stat x hx with q|⟨q,e⟩;exact old (Q q) (h.t5 x q);exact tY (by omega) (t.ba.apart x e).2
 rcases aS x hx with q|q;exact⟨(h.low x q).1,cG (h.low x q).2 z⟩;have ac:=(h.low b (ae (ae rfl)));refine⟨by omega,?_⟩;rcases hx with hx|hx;·rcases own x hx with o|_;exact cG (h.low x (ae o)).2 z;rcases hx with hx|hx|hx|(hx|hx)|hx;rw[hx];omega;have:=(h.low x (ae (Q (ae hx)))).2;omega;have:=(h.low x (ae (Q (Q (ae hx))))).2;omega;exact(t.ba.aS x (ae (ae hx))).2;exact(t.ba.aS x (ae (Q hx))).2;have:=(h.low x (ae (Q (Q (Q (Q hx)))))).2;omega
 rcases stat x hx with o|⟨_,o⟩;exact cG (h.low x (Q o)).2 z;exact(t.ba.aS x (Q o)).2
end
end
end Go.Proofs.YtchideljndagjabGreat


