/- Joined -/
import Derived.Test.YtchideljndagjabGreatUAY
import Derived.Deep.AppendLies
set_option linter.unusedVariables false
set_option maxHeartbeats 4000000
set_option maxRecDepth 100000
namespace Go.Proofs.YtchideljndagjabGreat
open aq aO aB
open Go.Value renaming int->Z,slice->U,pointer->aC
open Go.IntKind renaming i64->J
open Go.Obj renaming cells->ah
open Go.Ending renaming returned->az
open Or renaming inl->ae,inr->Q
open Option renaming none->V,some->E
open Bool renaming false->Y,true->aa
open Go renaming World->ac,Value->ag,Calls->ay
open Go.RowKit renaming Below->af,intOf->aA
abbrev Gh:=@Nat.le_succ
abbrev oD:=@Proofs.Tryz.func141
abbrev oF:=@Proofs.Tryz.ntmps141
abbrev tx:=@wpList_append_lies
open Go.Proofs.Tryz
namespace Co
open Go.ChangeShapes Go.WideShapes Go.ChangeAt Go.RowKit
theorem SP{b oo S c v}(l){m t w}(h:aJ w b oo S)(hv:aX w v t)(hr:bN t=aa)(hlen:t.length<=12)(hm:bN m=aa)(hc:dr c)(hf:∀v,v<13->S.f v=iy c l m v)(hno:aP m c.id=Y)(hown:aP t c.id=aa):
  ay prog 264 #[aC (E ⟨b,oo,V⟩),v] w λe w'=>
   ∃va,e=az va/\w'.ownsRow w.1.size 147 4 va (aO.tells c l m t).length (bD (aO.tells c l m t))/\af w.1.size w w':=by
 obtain⟨i1,aV,aY,aZ,ba⟩:=bO lj;have aL:=bj w λw1 hb=>(h.below hb).range;have aQ:=I (fW S.f);have aH:=I (zD S.f);have HF:=I hf;have bc:=I (Fo hc hm l t);have bf:=I hown;obtain⟨a,cap,rfl,l2,l3,_,aU⟩:=cK hv;have HC:=I aU;have HI:=I (λj (hj:j<t.length)=>(gm hr).2 (aq.it t j) (by rw[cd t j hj];exact cN hj));have aS:=I (CC t);clear h hv hr aU hf hno hown hm hc;generalize S.f=f at*;obtain⟨CS,aT⟩:=aj (b_ f);rw[<-aT]at aL aQ aH;clear aT;obtain⟨n,hn⟩:=aj t.length;rw[<-hn]at l2 HC hlen HI aS ⊢;have bg:=A (t.take n=t) (by rw[hn,iF]);clear hn;go_enter func264,ntmps264;go_wp2;go_loopw [13] (λi wr=>∃j:Nat,j<=n/\i=Z J j/\bZ wr w.1.size 36 (λv:Nat=>aP (t.take j) v)/\af w.1.size w wr) (λi _=>n-(aA i).toNat);case atStart=>
  refine⟨0,bi _,rfl,?_,(ax _ _).alloc (aw _) _⟩;have e:(λv:Nat=>aP (t.take 0) v)=λ_=>Y:=by funext v;simp[aP]
  rw[e];exact bo w _
 obtain⟨j,hj,rfl,ak,ai⟩:=hrel;have O:=I ak;have HB:=I ai;have hsz:=ai.size;have hs1:=ak.lt;clear ak ai;by_cases hlt:j<n
 ·obtain⟨b',off,rfl,hb,hit⟩:=HC.o j hlt;obtain⟨d0,d1,d2,d3⟩:=hit.below hb HB.o;obtain⟨u,hu⟩:∃u:Nat,(aq.it t j).1=(u:Int):=⟨(aq.it t j).1.toNat,by have:=HI.o j hlt;omega⟩;have bl:=HI.o j hlt;rw[hu]at bl d0;have bb:u<13:=by omega
  have bt:(u:Int)<13:=by omega
  have bh:=I (aS.o j hlt u hu);have z0:=O.o.cell u bb;have zf:=O.o.bF u;have al:∀(ob:Obj)(o:Nat),(wr.alloc ob).cell? ⟨w.1.size,o,V⟩=wr.cell? ⟨w.1.size,o,V⟩:=λob o=>((ax wr.1.size wr).alloc (aw _) ob).cell (p:=⟨w.1.size,o,V⟩) (by show w.1.size<_;omega);have bm:∀(ob:Obj)(o:Nat),(wr.alloc ob).frozen? ⟨w.1.size,o,V⟩=wr.frozen? ⟨w.1.size,o,V⟩:=λob o=>((ax wr.1.size wr).alloc (aw _) ob).frozen (p:=⟨w.1.size,o,V⟩) (by show w.1.size<_;omega);clear hit hu;generalize (aq.it t j).2.1=xa at*;generalize (aq.it t j).2.2.1=xb at*;generalize (aq.it t j).2.2.2=xc at*;go_wp2;go_roundw;case rel=> refine⟨j+1,by omega,by go_num,?_,(HB.o.setCell (p:=⟨w.1.size,u,V⟩) (aw _) _).alloc (by simp;omega) _⟩;rw[bh.o];exact(O.o.set u bb aa).below ((ax (wr.setCell ⟨w.1.size,u,V⟩ (.bool aa)).1.size _).alloc (aw _) _) (by simp;omega)
  simp[aA];omega
 have ej:j=n:=by omega
 subst ej;have HST:=A (bZ wr w.1.size 36 (λv:Nat=>aP t v)) (by have:=O.o;rwa [bg.o]at this);have aN:=I (aL.o wr HB.o);obtain⟨wo,aW⟩:∃wo:ac,wo=wr:=⟨_,rfl⟩;rw[<-aW]at HST HB hsz hs1 aN ⊢;clear O aW wr;go_wp2_with(refine eM rfl 203 _ rfl b (oo+12) rfl CS _ aN.o mU rfl ?z ?_);case z=>rw[lC,aQ.o]
 go_wp2;go_loopw [8,25] (λu i wr=>∃k:Nat,k<=13/\i=Z J k/\bZ wr w.1.size 36 (λv:Nat=>aP t v)/\wr.ownsRow (w.1.size+1) 147 4 u (ed c l m t k).length (bD (ed c l m t k))/\af w.1.size w wr) (λ_ i _=>13-(aA i).toNat);case atStart=>exact⟨0,by omega,rfl,HST.o,dp _ _ _ _,HB.o⟩
 obtain⟨k,hk,rfl,ak,hown,ai⟩:=hrel;have O:=I ak;have HO:=I hown;have av:=I ai;have br:=ai.size;have bq:=ak.lt;obtain⟨a3,c3,hv3⟩:=a_ hown;subst hv3;clear ak hown ai HST;by_cases ap:k<13
 ·have bp:(k:Int)<13:=by omega
  have bk:=aH.o k ap;have z0:=O.o.cell k ap;have aF:=HF.o k ap;have aD:=I (Ad c l m t k);have al:∀(ob:Obj)(o:Nat),(wr.alloc ob).cell? ⟨w.1.size,o,V⟩=wr.cell? ⟨w.1.size,o,V⟩:=λob o=>((ax wr.1.size wr).alloc (aw _) ob).cell (p:=⟨w.1.size,o,V⟩) (by show w.1.size<_;omega);have ah:(f k).mem=(aP m k||decide ((k:Int)=c.id)):=by
   rw[aF];unfold iy;cases e:aP m (k:Int);·rw[ar (by simp)];by_cases q:(k:Int)=c.id;rw[au q,aK q];rfl;rw[ar q,aM q];rfl
   rw[au rfl];rfl
  rw[<-ah]at aD;have aR:=I (show(f k).mem=aa->aP t (k:Int)=aa->(f k).ss=jH c l m k from λe1 e2=>by
   rw[aF];unfold iy;cases e:aP m (k:Int);rw[e]at ah;have q:(k:Int)=c.id:=by rw[e1]at ah;simpa using ah
   rw[ar (by simp),au q];unfold jH;rw[au q];rfl;rw[au rfl];rfl);have aI:=I (show(f k).mem=aa->aP t (k:Int)=Y->(f k).ms=j' c l m k from λe1 e2=>by
   rw[aF];unfold iy;cases e:aP m (k:Int);rw[e]at ah;have q:(k:Int)=c.id:=by rw[e1]at ah;simpa using ah
   rw[q,bf.o]at e2;cases e2;rw[au rfl];rfl);clear aF ah;obtain⟨F,hF⟩:=aj (f k);rw[<-hF]at bk aD aR aI;clear hF;obtain⟨F0,F1,F2,F3,F4⟩:=F;have bn:=Ug c l m t k;cases F0
  ·have aB:=A (ed c l m t (k+1)=ed c l m t k) (by rw[aD.o];simp);go_wp2;go_roundw;case rel=>exact⟨k+1,by omega,by go_num,O.o.below ((ax wr.1.size wr).alloc (aw _) _) (by omega),by rw[aB.o];exact HO.o.alloc _,av.o.alloc (by omega) _⟩
   simp[aA];omega
  have aB:=A (ed c l m t (k+1)=ed c l m t k++[qW c l m t k]) (by rw[aD.o];simp);cases q:aP t (k:Int)
  ·rw[q]at z0;have HT:=A (qW c l m t (k:Int)=((k:Int),2,F3,0)) (by unfold qW;rw[q,ar (by simp),ar (by simp),<-aI.o rfl q]);go_wp2_with(at_builtin;refine eF _ rfl _ _ 63 rfl (w.1.size+1) 147 i1 (.agg #[Z J 0,Z J 0,Z J 0,Z J 0]) 4 32 iG aV aY aZ ba rfl (by decide) _ _ _ rfl ((HO.o.alloc _).alloc _) ⟨wr.1.size+1,0,V⟩ 1 1 [Z J k,Z J 2,Z J F3,Z J 0] rfl rfl ?c1 ?c2 ?c3 ?c4 ?c5 ?_);case c2=>first|exact⟨rfl,rfl,rfl,rfl⟩|(intro u hu;simp at hu;rcases hu with rfl|rfl|rfl|rfl<;>rfl)
   case c3=>unfold maxLen;omega
   case c4=>omega
   case c5=>first|omega|(simp;omega)
   intro v' w4 hown' ae _;have hb4:=((av.o.alloc (by omega) _).alloc (by simp;omega) _).grown ae (by simp;omega) (λy hy=>fJ (Gh _) (HO.o.lt y hy).1);have B4:=I hb4;have O4:=I (show w4.ownsRow (w.1.size+1) 147 4 v' (ed c l m t (k+1)).length (bD (ed c l m t (k+1)))by rw[aB.o,jc,HT.o,cy];exact hown');have am:=I ((O.o.below (((ax wr.1.size wr).alloc (aw _) _).alloc (by simp) _) (by omega)).block (ae.block w.1.size (by simp;omega) (λe=>by have:=(HO.o.lt w.1.size e.symm).1;omega)));have z4:=am.o.cell k ap;rw[q]at z4;clear q;have aG:=yq ae wr.1.size 0 (by simp;omega) (λe=>by have:=(HO.o.lt wr.1.size e).2;omega);simp[go_sem]at aG;clear hown' ae hb4;go_wp2;go_roundw;case rel=>exact⟨k+1,by omega,by go_num,am.o,O4.o,B4.o⟩
   simp[aA];omega
  rw[q]at z0;have HT:=A (qW c l m t (k:Int)=((k:Int),1,F4,0)) (by unfold qW;rw[q,au rfl,au rfl,<-aR.o rfl q]);go_wp2_with(at_builtin;refine eF _ rfl _ _ 63 rfl (w.1.size+1) 147 i1 (.agg #[Z J 0,Z J 0,Z J 0,Z J 0]) 4 32 iG aV aY aZ ba rfl (by decide) _ _ _ rfl ((HO.o.alloc _).alloc _) ⟨wr.1.size+1,0,V⟩ 1 1 [Z J k,Z J 1,Z J F4,Z J 0] rfl rfl ?d1 ?d2 ?d3 ?d4 ?d5 ?_);case d2=>first|exact⟨rfl,rfl,rfl,rfl⟩|(intro u hu;simp at hu;rcases hu with rfl|rfl|rfl|rfl<;>rfl)
  case d3=>unfold maxLen;omega
  case d4=>omega
  case d5=>first|omega|(simp;omega)
  intro v' w4 hown' ae _;have hb4:=((av.o.alloc (by omega) _).alloc (by simp;omega) _).grown ae (by simp;omega) (λy hy=>fJ (Gh _) (HO.o.lt y hy).1);have B4:=I hb4;have O4:=I (show w4.ownsRow (w.1.size+1) 147 4 v' (ed c l m t (k+1)).length (bD (ed c l m t (k+1)))by rw[aB.o,jc,HT.o,cy];exact hown');have am:=I ((O.o.below (((ax wr.1.size wr).alloc (aw _) _).alloc (by simp) _) (by omega)).block (ae.block w.1.size (by simp;omega) (λe=>by have:=(HO.o.lt w.1.size e.symm).1;omega)));have z4:=am.o.cell k ap;rw[q]at z4;clear q;have aG:=yq ae wr.1.size 0 (by simp;omega) (λe=>by have:=(HO.o.lt wr.1.size e).2;omega);simp[go_sem]at aG;clear hown' ae hb4;go_wp2;go_roundw;case rel=>exact⟨k+1,by omega,by go_num,am.o,O4.o,B4.o⟩
  simp[aA];omega
 have ek:k=13:=by omega
 subst ek;go_wp2;go_ret;exact⟨_,rfl,by rw[<-bc.o];exact cS HO.o (Gh _),av.o⟩
theorem Hb{w b oo c s S l}(h:ky w b oo c s S)(h3:s.1=3)(hr:bN l=aa):
  ((l.all λx=>(S.f x.1.toNat).mem)&&(aP l S.id&&decide (S.t<=(l.length:Int))))=gZ c s.2.2.1 l:=by
 rw[h.dP,h.et (by omega) (by omega)];unfold gZ;congr 1;refine GQ λx hx=>?_;have hb:=(gm hr).2 x hx;have e:((x.1.toNat:Nat):Int)=x.1:=by omega
 rw[(h.three h3).1 _ (by omega)];unfold iy;rw[e];cases q:aP s.2.2.1 x.1;·rw[ar (by simp)];by_cases q2:x.1=c.id;rw[au q2,aK q2];rfl;rw[ar q2,aM q2];rfl
 rw[au rfl];rfl
theorem TM{b oo c s S v fr l w}(hc:dr c)(hw:ju w b oo c s S)(h3:s.1=3)(hl:aX w v l)(ho:aq.okF 6 fr l=aa):
  ay prog 208 #[aC (E ⟨b,oo,V⟩),v] w λe w'=>∃va,e=az va/\∃S',lU w w' b oo c (if gZ c s.2.2.1 l=aa then(4,s.2.1,s.2.2.1,l)else(0,s.2.1,s.2.2.1,l)) S S'/\mz w w' b S' va (if gZ c s.2.2.1 l=aa then E (7,c.id,aO.tells c s.2.1 s.2.2.1 l)else V):=by
 have h:=hw.di;have aL:=I hw.low;clear hw;obtain⟨o1,o2,o3,o4,o5⟩:=en ho;have gt:=hc.t;have gn:=hc.n;have et:=h.et (by omega) (by omega);obtain⟨n1,n2,n3⟩:=h.three h3;obtain⟨a1,a2,a3,a4⟩:=h.apart;have hbl:=h.at_.lt;have HK:=I (GY h.at_ hl o3 o1 (by rw[et];omega));rw[Hb h h3 o3]at HK;obtain⟨k,hk⟩:=aj s.2.1;obtain⟨m,hm⟩:=aj s.2.2.1;rw[<-hm]at HK;rw[<-hk,<-hm]at n1 n3 ⊢;rw[<-hm]at n2;have HH:=I (λw1 (hp:aJ w1 b oo S)=>vI hp);have aw:=I (λw1 (hb:af w.1.size w w1)=>h.at_.below hb);have HE:=I (And.intro h.dP (And.intro h.kG h.emp));cases ah:gZ c m l;·rw[ah]at HK;rw[ar (by simp),ar (by simp)];obtain⟨a,cap,rfl,-⟩:=cK hl;clear h hl ho o1 o2 o3 o4 o5 et n1 n2 n3 a1 a2 a3 a4 ah hk hm;go_enter func208,ntmps208;go_wp2_with fail;refine aH HK.o λw1 hb1=>?_;have B1:=I hb1;clear hb1;go_wp2_with fail;refine(HH.o _ (aw.o _ B1.o)).mono ?_;rintro e w2 ⟨rfl,hp,hch⟩;have HP:=I hp;have HC:=I hch;clear hp hch;go_wp2;go_ret;exact⟨_,rfl,gh S,Ae rfl HP.o HE.o.1 HE.o.2.1 HE.o.2.2 (bQ.bz B1.o hbl) HC.o,rfl⟩
 rw[ah]at HK;rw[au rfl,au rfl];have hno:aP m c.id=Y:=by unfold d_ at n3;rw[bS]at n3;simpa using n3.1
 have hown:aP l c.id=aa:=by unfold gZ at ah;rw[bS,bS]at ah;exact ah.2.1
 have aM:=bj w λw1 hb=>SP k (h.at_.below hb) (hl.below hb) o3 o1 n2 hc n1 hno hown;have ax:=I (sK hc k m l)
 have aK:=I (λ(w1:ac)(va:ag)(hp:aJ w1 b oo (qY S va))(hi:aX w1 va (aO.tells c k m l))(aR:va.ownBlock≠E b)=>(show ky w1 b oo c (4,k,m,l) (qY S va)from
  {at_:=hp,ph:=⟨by show(0:Int)<=4;omega,by show(4:Int)<=4;omega⟩,dP:=h.dP,oW:=rfl,kG:=h.kG,emp:=h.emp,one:=λe=>absurd e (by show¬(4:Int)=1;omega),mid:=λ_ e=>absurd e (by show¬(4:Int)<=2;omega),et:=λ_ e=>absurd e (by show¬(4:Int)<=3;omega),
   two:=λe=>absurd e (by show¬(4:Int)=2;omega),three:=λe=>absurd e (by show¬(4:Int)=3;omega),nil:=λe=>absurd rfl e,four:=λ_=>hi,
   apart:=⟨a1,a2,a3,aR⟩}));obtain⟨a,cap,rfl,-⟩:=cK hl;clear h hl ho o1 o2 o3 o4 o5 et n1 n2 n3 a1 a2 a3 a4 ah hk hm hno hown;have ap:=I Ap;go_enter func208,ntmps208;go_wp2_with fail;refine aH HK.o λw1 hb1=>?_;have B1:=I hb1;have s1:=hb1.size;clear hb1;go_wp2_with fail;refine(aM.o w1 B1.o).mono ?_;rintro e w2 ⟨va,rfl,hown,hb2⟩;have B2:=I (B1.o.trans (hb2.mono s1));have ai:=I (aw.o w2 B2.o);have O2:=I hown;obtain⟨a2,c2,hv2⟩:=a_ hown;subst hv2;clear hown hb2;have e1:=ai.o.c1;have aS:=ai.o.bJ;have aT:=ai.o.bF 1 (by decide);have aU:=ai.o.bF 77 (by decide);obtain⟨O,hV⟩:=aj (Value.slice a2 (aO.tells c k m l).length c2);have aA:=A (aJ ((w2.setCell ⟨b,oo+77,V⟩ O).setCell ⟨b,oo+1,V⟩ (Z J 4)) b oo {S with told:=O,ph:=4}) ((ai.o.wN O).ui 4);have aN:=A (((w2.setCell ⟨b,oo+77,V⟩ O).setCell ⟨b,oo+1,V⟩ (Z J 4)).there b (oo+12) zeroCells203.toList.length) (by rw[ap.o,fW];exact aA.o.there 12 65 (by omega));have hst:=uk prog b (oo+12) zeroCells203.toList _ aN.o (by rw[ap.o];exact nO _);have ak:=A (aJ (((w2.setCell ⟨b,oo+77,V⟩ O).setCell ⟨b,oo+1,V⟩ (Z J 4)).setCells b (oo+12) zeroCells203.toList) b oo (qY S O)) (by rw[ap.o];exact aA.o.zH _);have av:bQ b oo w2 (((w2.setCell ⟨b,oo+77,V⟩ O).setCell ⟨b,oo+1,V⟩ (Z J 4)).setCells b (oo+12) zeroCells203.toList):=((bQ.cell w2 O 77 (by decide)).bY (bQ.cell _ _ 1 (by decide))).bY (bQ.cells _ _ 12 (by rw[ap.o,fW];decide));obtain⟨w5,aI⟩:=aj (((w2.setCell ⟨b,oo+77,V⟩ O).setCell ⟨b,oo+1,V⟩ (Z J 4)).setCells b (oo+12) zeroCells203.toList);rw[<-aI]at ak av hst;clear aI;have C5:=I ((bQ.bz B2.o hbl).bY av);have s5:=C5.o.size;have O5:=I (bf O2.o av.aV (λx e hx=>by have:=(O2.o.lt x e).1;omega));have I5:=I (iL O5.o (kg ax.o));rw[<-hV]at I5 O5;have aB:=ak.o.bJ;have WR:=I (xe 7 ak.o I5.o (by show aq.okF 7 S.id _=aa;rw[HE.o.1];exact ax.o));rw[hV]at hst WR;change w5.cell? _=E O at aB;rw[hV]at aB;clear hV av;go_wp2_with fail;refine WR.o.mono ?_;rintro e w7 ⟨vb,rfl,aG,am⟩;have C7:=I (C5.o.grow am ak.o.lt);have aQ:=I (ak.o.below am);have I7:=I (I5.o.below am);have O7:=I aG;have s7:=am.size;clear aG am;go_wp2;go_ret;have hlt:∀x,O.ownBlock=E x->w1.1.size<=x/\x<w5.1.size:=λx hx=>O5.o.lt x hx;have aD:∀x,eG b (qY S O) x->eG b S x\/(w.1.size<=x/\x<w5.1.size):=λx hx=>by rcases hx with hx|hx|hx|hx|hx;exact ae (ae hx);exact ae (Q (ae hx));exact ae (Q (Q (ae hx)));exact ae (Q (Q (Q (ae hx))));have:=hlt x hx;exact Q ⟨by omega,this.2⟩
 have aF:∀x,eG b (qY S O) x->x<w5.1.size:=λx hx=>by rcases aD x hx with h|h;have:=aL.o x h;omega;exact h.2
 refine⟨_,rfl,qY S O,⟨⟨aK.o w7 O aQ.o I7.o (λe=>by have:=(hlt b e).1;omega),λx hx=>cG (aF x hx) s7⟩,C7.o,λx hx=>(aD x hx).imp id (λh=>h.1)⟩,?_,λx hx hf=>?_⟩;have e:(qY S (Value.slice a2 (aO.tells c k m l).length c2)).id=c.id:=HE.o.1;have:=O7.o;rw[e]at this;exact cS this s5;have hl:=(O7.o.lt x hx).1;have:=aF x hf;omega
theorem uv{w w' b oo c s S}(h:ju w b oo c s S)(hb:af w.1.size w w'):lU w w' b oo c s S S:=⟨h.below hb,bQ.bz hb h.di.at_.lt,λ_ hx=>ae hx⟩
theorem lU.after{w w1 w' b oo c s' S S'}(h:lU w1 w' b oo c s' S S')(hb:af w.1.size w w1)(hl:b<w.1.size):lU w w' b oo c s' S S':=
 ⟨h.di,(bQ.bz hb hl).bY h.aV,λx hx=>(h.aS x hx).imp id (λe=>fJ hb.size e)⟩
theorem TR{b oo c s S v zs w}(hc:dr c)(hw:ju w b oo c s S)(hv:bX w v zs):
  ay prog 141 #[aC (E ⟨b,oo,V⟩),v] w λe w'=>∃va,e=az va/\∃S',lU w w' b oo c (fP c s zs) S S'/\mz w w' b S' va (fM c s zs):=by
 have hbl:=hw.di.at_.lt;have HD:=I (yl hv);have c1:=hw.di.at_.c1;rw[hw.di.oW]at c1;obtain⟨aD,cz,rfl,-,-,hB,-⟩:=eC hv;have HW:=I hw;clear hv hw
 cases hd:cJ zs with
 |none=> obtain⟨x1,x2,x3,x4⟩:=mC hd;rw[x1,x2,x3,x4]at HD;obtain⟨O,y2⟩:=um (c:=c) (s:=s) hd;rw[O,y2];clear x1 x2 x3 x4 O y2 hd c1 hB;go_enter oD,oF;go_wp2_with fail;refine HD.o.mono ?_;rintro e w1 ⟨va,rfl,hown,hb⟩;obtain⟨a',c',hv'⟩:=a_ hown;subst hv';have HB:=I hb;clear hown hb;go_wp2;go_ret;exact⟨_,rfl,S,uv HW.o (HB.o.alloc HB.o.size _),rfl⟩
 |some f=>
  obtain⟨k,fr,l⟩:=f;obtain⟨x1,x2,x3,x4⟩:=nR hd;rw[x1,x2,x3,x4]at HD;obtain⟨O,y2,y3⟩:=qw hB hd;have au:=I O;have aB:=I (kg O);have ar:=I hd;clear x1 x2 x3 x4 O y2 y3 hd hB;have HM:=I (λ(w1:ac)(a':Option Addr)(c':Nat)(hb:af w.1.size w w1)(hown:w1.ownsRow w.1.size 147 4 (U a' l.length c') l.length (bD l))=>
   (show∀(o:Obj),af w.1.size w (w1.alloc o)/\ju (w1.alloc o) b oo c s S/\aX (w1.alloc o) (U a' l.length c') l/\w.1.size<=(w1.alloc o).1.size from λo=>by have hb2:=hb.alloc hb.size o;exact⟨hb2,HW.o.below hb2,(iL hown aB.o).below ((ax _ _).alloc (aw _) _),hb2.size⟩));by_cases k1:s.1=1/\k=2
  ·obtain⟨p1,rfl⟩:=k1;obtain⟨O,y2⟩:=wU (c:=c) ar.o p1;obtain⟨s',ak⟩:=aj (fP c s zs);obtain⟨o',ai⟩:=aj (fM c s zs);rw[<-ak,<-ai];have aq:=I (ak.trans O);have ap:=I (ai.trans y2);clear ak ai;rw[p1]at c1;have HP:=I p1;clear p1 O y2;go_enter oD,oF;go_wp2_with fail;refine HD.o.mono ?_;rintro e w1 ⟨va,rfl,hown,hb⟩;obtain⟨a',c',hv'⟩:=a_ hown;subst hv';have s1:=hb.size;have MM:=I (HM.o w1 a' c' hb hown);have al:∀(ob:Obj),(w1.alloc ob).cell? ⟨b,oo+1,V⟩=E (Z J 1):=λob=>by rw[((ax w1.1.size w1).alloc (aw _) ob).cell (p:=⟨b,oo+1,V⟩) (by show b<_;omega),hb.cell (p:=⟨b,oo+1,V⟩) hbl];exact c1
   clear hown hb;go_wp2_with fail;obtain⟨m1,m2,m3,m4⟩:=MM.o (ah #[Z J 2,Z J fr,U a' l.length c'] 65);have M1:=I m1;have M4:=I m4;have am:=I (show ay prog 206 #[aC (E ⟨b,oo,V⟩),U a' l.length c'] (w1.alloc (ah #[Z J 2,Z J fr,U a' l.length c'] 65)) λe w'=>∃va,e=az va/\∃S',lU (w1.alloc (ah #[Z J 2,Z J fr,U a' l.length c'] 65)) w' b oo c (if gB c l=aa then(2,l,[],[])else(0,l,[],[])) S S'/\mz (w1.alloc (ah #[Z J 2,Z J fr,U a' l.length c'] 65)) w' b S' va (if gB c l=aa then E (3,c.id,fO c l)else V)by cases e:gB c l;exact TP hc m2 HP.o m3 au.o e (0,l,[],[]) rfl;exact TQ hc m2 HP.o m3 au.o e);rw[<-aq.o,<-ap.o]at am;clear m1 m2 m3 m4;refine am.o.mono ?_;rintro e w2 ⟨vb,rfl,S',ht,ae⟩;obtain⟨a3,n3,c3,hv3⟩:=ae.form;have HT:=I ht;have HA:=I ae;rw[hv3]at HA ⊢;clear ht ae hv3;go_wp2;go_ret;exact⟨_,rfl,S',HT.o.after M1.o hbl,HA.o.after M4.o⟩
  by_cases k2:s.1=2/\k=4
  ·obtain⟨p1,rfl⟩:=k2;obtain⟨O,y2⟩:=wT (c:=c) ar.o p1;obtain⟨s',ak⟩:=aj (fP c s zs);obtain⟨o',ai⟩:=aj (fM c s zs);rw[<-ak,<-ai];have aq:=I (ak.trans O);have ap:=I (ai.trans y2);clear ak ai;rw[p1]at c1;have HP:=I p1;clear p1 O y2 k1;go_enter oD,oF;go_wp2_with fail;refine HD.o.mono ?_;rintro e w1 ⟨va,rfl,hown,hb⟩;obtain⟨a',c',hv'⟩:=a_ hown;subst hv';have s1:=hb.size;have MM:=I (HM.o w1 a' c' hb hown);have al:∀(ob:Obj),(w1.alloc ob).cell? ⟨b,oo+1,V⟩=E (Z J 2):=λob=>by rw[((ax w1.1.size w1).alloc (aw _) ob).cell (p:=⟨b,oo+1,V⟩) (by show b<_;omega),hb.cell (p:=⟨b,oo+1,V⟩) hbl];exact c1
   clear hown hb;go_wp2_with fail;obtain⟨m1,m2,m3,m4⟩:=MM.o (ah #[Z J 4,Z J fr,U a' l.length c'] 65);have M1:=I m1;have M4:=I m4;have am:=I (TN hc m2 HP.o m3 au.o);rw[<-aq.o,<-ap.o]at am;clear m1 m2 m3 m4;refine am.o.mono ?_;rintro e w2 ⟨vb,rfl,S',ht,ae⟩;obtain⟨a3,n3,c3,hv3⟩:=ae.form;have HT:=I ht;have HA:=I ae;rw[hv3]at HA ⊢;clear ht ae hv3;go_wp2;go_ret;exact⟨_,rfl,S',HT.o.after M1.o hbl,HA.o.after M4.o⟩
  by_cases k3:s.1=3/\k=6
  ·obtain⟨p1,rfl⟩:=k3;obtain⟨O,y2⟩:=wS (c:=c) ar.o p1;obtain⟨s',ak⟩:=aj (fP c s zs);obtain⟨o',ai⟩:=aj (fM c s zs);rw[<-ak,<-ai];have aq:=I (ak.trans O);have ap:=I (ai.trans y2);clear ak ai;rw[p1]at c1;have HP:=I p1;clear p1 O y2 k1 k2;go_enter oD,oF;go_wp2_with fail;refine HD.o.mono ?_;rintro e w1 ⟨va,rfl,hown,hb⟩;obtain⟨a',c',hv'⟩:=a_ hown;subst hv';have s1:=hb.size;have MM:=I (HM.o w1 a' c' hb hown);have al:∀(ob:Obj),(w1.alloc ob).cell? ⟨b,oo+1,V⟩=E (Z J 3):=λob=>by rw[((ax w1.1.size w1).alloc (aw _) ob).cell (p:=⟨b,oo+1,V⟩) (by show b<_;omega),hb.cell (p:=⟨b,oo+1,V⟩) hbl];exact c1
   clear hown hb;go_wp2_with fail;obtain⟨m1,m2,m3,m4⟩:=MM.o (ah #[Z J 6,Z J fr,U a' l.length c'] 65);have M1:=I m1;have M4:=I m4;have am:=I (TM hc m2 HP.o m3 au.o);rw[<-aq.o,<-ap.o]at am;clear m1 m2 m3 m4;refine am.o.mono ?_;rintro e w2 ⟨vb,rfl,S',ht,ae⟩;obtain⟨a3,n3,c3,hv3⟩:=ae.form;have HT:=I ht;have HA:=I ae;rw[hv3]at HA ⊢;clear ht ae hv3;go_wp2;go_ret;exact⟨_,rfl,S',HT.o.after M1.o hbl,HA.o.after M4.o⟩
  obtain⟨O,y2⟩:=wV (c:=c) ar.o k1 k2 k3;rw[O,y2];clear O y2;by_cases p1:s.1=1
  ·have av:(k==2)=Y:=by simpa using λe=>k1 ⟨p1,e⟩
   rw[p1]at c1;clear p1 k1 k2 k3;go_enter oD,oF;go_wp2_with fail;refine HD.o.mono ?_;rintro e w1 ⟨va,rfl,hown,hb⟩;obtain⟨a',c',hv'⟩:=a_ hown;subst hv';have s1:=hb.size;have al:∀(ob:Obj),(w1.alloc ob).cell? ⟨b,oo+1,V⟩=E (Z J 1):=λob=>by rw[((ax w1.1.size w1).alloc (aw _) ob).cell (p:=⟨b,oo+1,V⟩) (by show b<_;omega),hb.cell (p:=⟨b,oo+1,V⟩) hbl];exact c1
   have HB:=I hb;clear hown hb c1;go_wp2;go_ret;exact⟨_,rfl,S,uv HW.o (HB.o.alloc HB.o.size _),rfl⟩
  by_cases p2:s.1=2
  ·have av:(k==4)=Y:=by simpa using λe=>k2 ⟨p2,e⟩
   rw[p2]at c1;clear p2 k1 k2 k3 p1;go_enter oD,oF;go_wp2_with fail;refine HD.o.mono ?_;rintro e w1 ⟨va,rfl,hown,hb⟩;obtain⟨a',c',hv'⟩:=a_ hown;subst hv';have s1:=hb.size;have al:∀(ob:Obj),(w1.alloc ob).cell? ⟨b,oo+1,V⟩=E (Z J 2):=λob=>by rw[((ax w1.1.size w1).alloc (aw _) ob).cell (p:=⟨b,oo+1,V⟩) (by show b<_;omega),hb.cell (p:=⟨b,oo+1,V⟩) hbl];exact c1
   have HB:=I hb;clear hown hb c1;go_wp2;go_ret;exact⟨_,rfl,S,uv HW.o (HB.o.alloc HB.o.size _),rfl⟩
  by_cases p3:s.1=3
  ·have av:(k==6)=Y:=by simpa using λe=>k3 ⟨p3,e⟩
   rw[p3]at c1;clear p3 k1 k2 k3 p1 p2;go_enter oD,oF;go_wp2_with fail;refine HD.o.mono ?_;rintro e w1 ⟨va,rfl,hown,hb⟩;obtain⟨a',c',hv'⟩:=a_ hown;subst hv';have s1:=hb.size;have al:∀(ob:Obj),(w1.alloc ob).cell? ⟨b,oo+1,V⟩=E (Z J 3):=λob=>by rw[((ax w1.1.size w1).alloc (aw _) ob).cell (p:=⟨b,oo+1,V⟩) (by show b<_;omega),hb.cell (p:=⟨b,oo+1,V⟩) hbl];exact c1
   have HB:=I hb;clear hown hb c1;go_wp2;go_ret;exact⟨_,rfl,S,uv HW.o (HB.o.alloc HB.o.size _),rfl⟩
  obtain⟨ph,aA⟩:=aj s.1;rw[<-aA]at p1 p2 p3 c1;have q1:(ph==1)=Y:=by simpa using p1
  have q2:(ph==2)=Y:=by simpa using p2
  have q3:(ph==3)=Y:=by simpa using p3
  clear aA k1 k2 k3 p1 p2 p3;go_enter oD,oF;go_wp2_with fail;refine HD.o.mono ?_;rintro e w1 ⟨va,rfl,hown,hb⟩;obtain⟨a',c',hv'⟩:=a_ hown;subst hv';have s1:=hb.size;have al:∀(ob:Obj),(w1.alloc ob).cell? ⟨b,oo+1,V⟩=E (Z J ph):=λob=>by rw[((ax w1.1.size w1).alloc (aw _) ob).cell (p:=⟨b,oo+1,V⟩) (by show b<_;omega),hb.cell (p:=⟨b,oo+1,V⟩) hbl];exact c1
  have HB:=I hb;clear hown hb c1;go_wp2;go_ret;exact⟨_,rfl,S,uv HW.o (HB.o.alloc HB.o.size _),rfl⟩
theorem KA{b oo S w}(h:aJ w b oo S)(ho:aq.okF 1 S.id [(S.id,S.cp,S.mp,0)]=aa):
  ay prog 127 #[aC (E ⟨b,oo,V⟩)] w λe w'=>∃va,e=az va/\w'.ownsRow w.1.size 5 1 va (bm 1 S.id [(S.id,S.cp,S.mp,0)]).length ((bm 1 S.id [(S.id,S.cp,S.mp,0)]).map (Value.int .u8))/\af w.1.size w w':=by
 have hbl:=h.lt;have c0:=h.c0;have c2:=h.c2;have c3:=h.c3;have ae:=I (kg ho);have HW:=I (λ(W:ac)(v:ag)(hb:af w.1.size w W)(hl:aX W v [(S.id,S.cp,S.mp,0)])=>xe 1 (h.below hb) hl ho);clear h ho;have al:∀(ob:Obj)(o:Nat),(w.alloc ob).cell? ⟨b,o,V⟩=w.cell? ⟨b,o,V⟩:=λob o=>((ax w.1.size w).alloc (aw _) ob).cell (p:=⟨b,o,V⟩) hbl;generalize S.id=x0 at*;generalize S.cp=x1 at*;generalize S.mp=x2 at*;go_enter func127,ntmps127;go_wp2_with fail;go_region;go_wp2_with fail;obtain⟨W,hW⟩:=aj (((w.alloc (ah #[Z J x0,Z J x1,Z J x2,Z J 0] 147)).alloc (ah #[Z J x0,Z J x1,Z J x2,Z J 0] 147)).drew);rw[<-hW];have O:=A (af w.1.size w W) (by rw[hW];exact(((ax _ _).alloc (aw _) _).alloc (by simp) _).drew);have HI:=I (show aX W (U (E ⟨w.1.size+1,0,V⟩) 1 1) [(x0,x1,x2,0)]by
  refine⟨_,_,rfl,by simp,by unfold maxLen;omega,ae.o,Q ⟨w.1.size+1,0,rfl,by rw[hW];simp,λi hi=>?_⟩⟩;obtain rfl:i=0:=by simpa using hi
  rw[hW];refine⟨?_,?_,?_,?_⟩<;>simp[aq.it]);clear hW;refine(HW.o W _ O.o HI.o).mono ?_;rintro e w1 ⟨va,rfl,hown,hb1⟩;have s1:=O.o.size;have O1:=I (cS hown s1);have Y:=I (O.o.trans (hb1.mono s1));obtain⟨a3,ai,hv3⟩:=a_ hown;subst hv3;clear hown hb1;go_wp2;go_ret;exact⟨_,rfl,O1.o,Y.o⟩
theorem Qs{b oo S l w}(h:aJ w b oo S)(hl:aX w S.told l)(hlen:l.length<=12):
  ay prog 142 #[aC (E ⟨b,oo,V⟩)] w λe w'=>∃va,e=az va/\w'.ownsRow w.1.size 147 4 va l.length (bD l)/\af w.1.size w w':=by have bJ:=h.bJ;have O:=I (IG hl hlen);obtain⟨a,cap,hv,-⟩:=cK hl;rw[hv]at bJ O;clear h hl hv hlen;generalize l.length=n at*;generalize bD l=L at*;go_enter func142,ntmps142;go_wp2_with(at_builtin;refine rc rfl 63 rfl rfl (U a n cap) rfl 147 4 n L O.o ?_);intro v' w' hown hb;obtain⟨a3,aa,hv3⟩:=a_ hown;subst hv3;have O1:=I hown;have Y:=I hb;clear hown hb;go_wp2;go_ret;exact⟨_,rfl,O1.o,Y.o⟩
theorem Qq{w b oo c s S}(h:ky w b oo c s S):aX w S.told (gl c s):=by unfold gl;by_cases e:s.1=4;rw[au e];exact h.four e;rw[ar e,h.nil e];exact⟨V,0,rfl,by simp,bi _,(λx hx=>by cases hx),ae rfl⟩
def oZ (S:PS):PS:={gh S with told:=S.told}
theorem IJ{b oo S w}(h:aJ w b oo S)(hv:∃a n c,S.told=U a n c):
  ay prog 133 #[aC (E ⟨b,oo,V⟩)] w λe w'=>e=az (.tuple #[])/\aJ w' b oo (oZ S)/\bQ b oo w w':=by obtain⟨a,n,c,hv⟩:=hv;have bJ:=h.bJ;have HH:=I (vI h);have Y:=I hv;rw[hv]at bJ;clear h hv;go_enter func133,ntmps133;go_wp2_with fail;refine HH.o.mono ?_;rintro e w1 ⟨rfl,hp,hc⟩;have d77:=hp.bJ;have f77:=hp.bF 77 (by decide);have O:=A (aJ (w1.setCell ⟨b,oo+77,V⟩ (U a n c)) b oo (oZ S)/\bQ b oo w (w1.setCell ⟨b,oo+77,V⟩ (U a n c))) ⟨by have:=hp.wN (U a n c);rw[<-Y.o]at this ⊢;exact this,hc.bY (bQ.cell w1 _ 77 (by decide))⟩;clear hp hc bJ;go_wp2;go_end0;exact⟨rfl,O.o⟩
end Co
section
open Go.RowKit
theorem mO{w w':ac}{base e size v n xs}(h:w.ownsRow base e size v n xs)(hS:∀x,v.ownBlock=E x->w'.1[x]?=w.1[x]?):w'.ownsRow base e size v n xs:=by obtain⟨h1,h2⟩:=h;refine⟨h1,?_⟩;rcases h2 with h2|⟨g,cap,cur,rfl,h3,h4,h5⟩;exact ae h2;exact Q ⟨g,cap,cur,rfl,h3,by rw[hS g rfl];exact h4,h5⟩
structure fw (w:ac)(v:ag)(vs:List ag)(ps:List Pk):Prop where
 len:vs.length=ps.length
 row:w.ownsRow 0 49 3 v ps.length (bC ps vs)
 each:∀(i:Nat)(x:ag)(p:Pk),vs[i]?=E x->ps[i]?=E p->bX w x p.2.2
 low:∀x∈vs,∀g,x.ownBlock=E g->g<w.1.size
 apart:∀x∈vs,∀g,x.ownBlock=E g->v.ownBlock≠E g
section
variable {w w':ac}{v:ag}{vs:List ag}{ps:List Pk}
theorem bX.qD{v zs}(h:bX w v zs)(hs:w.1.size<=w'.1.size)(hb:∀x,v.ownBlock=E x->w'.1[x]?=w.1[x]?):bX w' v zs:=by obtain⟨a,cap,h1,h2,h3,h4,h5⟩:=h;refine⟨a,cap,h1,h2,h3,h4,?_⟩;rcases h5 with h5|⟨b,off,e1,e2,e3⟩;exact ae h5;refine Q ⟨b,off,e1,cG e2 hs,λi hi=>?_⟩;rw[<-e3 i hi];exact ez (w:=w) (hb b (by rw[h1,e1];rfl))
theorem Cm (w):fw w (U V 0 0) [] []:=⟨rfl,dp _ _ _ _,λi x p h=>(by simp at h),λx hx=>(by cases hx),λx hx=>(by cases hx)⟩
theorem fw.keep (h:fw w v vs ps)(hs:w.1.size<=w'.1.size)(h1:∀x,v.ownBlock=E x->w'.1[x]?=w.1[x]?)(h2:∀y∈vs,∀x,y.ownBlock=E x->w'.1[x]?=w.1[x]?):fw w' v vs ps:=
 ⟨h.len,mO h.row h1,λi x p hx hp=>(h.each i x p hx hp).qD hs (h2 x (cU hx)),λx hx g hg=>cG (h.low x hx g hg) hs,h.apart⟩
theorem fw.ot (h:fw w v vs ps){x}(hx:v.ownBlock=E x):x<w.1.size:=(h.row.lt x hx).2
theorem fw.view (h:fw w v vs ps):∃a c,v=U a ps.length c/\ps.length<=c/\c<=9223372036854775807/\∀j p,ps[j]?=E p->∃g y,a=E ⟨g,0,V⟩/\g<w.1.size/\vs[j]?=E y/\w.cell? ⟨g,j*3,V⟩=E (Z J p.1)/\w.cell? ⟨g,j*3+1,V⟩=E (Z J p.2.1)/\w.cell? ⟨g,j*3+2,V⟩=E y/\bX w y p.2.2:=by
 have h0:=h.row;rcases h.row.2 with⟨e0,hn⟩|⟨g,cap,cur,e0,_,_,Y,hcm,_⟩;refine⟨V,0,by rw[e0,hn],by omega,by omega,λj p hp=>?_⟩;have:=(fC.1 hp).1;omega;refine⟨E ⟨g,0,V⟩,cap,e0,Y,by unfold maxLen at hcm;omega,λj p hp=>?_⟩;have hj:=(fC.1 hp).1;have O:j<vs.length:=by rw[h.len];exact hj
 have hy:=aQ O;obtain⟨f1,f2,f3⟩:=wu ps vs j p _ hp hy;rw[e0]at h0;exact⟨g,_,rfl,(h0.lt g rfl).2,hy,(h0.cellAt (j*3) (by omega)).trans f1,(h0.cellAt (j*3+1) (by omega)).trans f2,(h0.cellAt (j*3+2) (by omega)).trans f3,h.each j _ p hy hp⟩
end
structure Sn where
 q:Sv
 cs:Nat->aO.St
 gone:Nat->Bool
 fl:List Pk
def bu {α:Type}(f:Nat->α)(i:Nat)(x:α):Nat->α:=λj=>if j=i then x else f j
theorem cP{α}(f i)(x:α):bu f i x i=x:=au rfl
theorem dw{α}(f i)(x:α){j}(h:j≠i):bu f i x j=f j:=ar h
def oN (i:Nat):Option aO.Fr->List Pk
 |none=>[]
 |some f=>[((i:Int)+1,0,bm f.1 f.2.1 f.2.2)]
def qM (C:Cf)(s:Sn)(zs:List Int):Sn:={s with q:=fB C s.q zs}
def gS (cl:Nat->Cl)(s:Sn)(i:Nat)(zs:List Int):Sn:=
 if s.gone i=aa then s else{s with cs:=bu s.cs i (fP (cl i) (s.cs i) zs),fl:=s.fl++oN i (fM (cl i) (s.cs i) zs)}
def eo (C:Cf)(cl:Nat->Cl)(n:Nat)(s:Sn)(d:Int)(zs:List Int):Sn:=
 if 1<=d/\d<=(n:Int)then gS cl s (d.toNat-1) zs else qM C s zs
def nz (C:Cf)(s:Sn):Sn:={s with q:=cm C s.q,fl:=s.fl++eu C s.q}
def rP (s:Sn)(i:Nat):Sn:={s with gone:=bu s.gone i aa}
def fg (st:aO.St):Nat:=if st.1=1 then 3 else if st.1=2 then 2 else if st.1=3 then 1 else 0
def kn (cs:Nat->aO.St):Nat->Nat
 |0=>0
 |n+1=>kn cs n+fg (cs n)
def hZ (q:Sv):Nat:=if q.o.1=0 then(3-q.rd)*13 else 0
structure bU (C:Cf)(cl:Nat->Cl)(n:Nat)(s:Sn):Prop where
 gc:fx C
 num:C.N=(n:Int)
 good:∀i,i<n->dr (cl i)
 id:∀i,i<n->(cl i).id=(i:Int)+1
 ia:s.q.o.1=0->gJ C s.q
 bd:s.q.o.2.2.1.length<=12/\s.q.o.2.2.2.length<=12
 fl:s.fl.length+(kn s.cs n+hZ s.q)<=300
 flb:∀p∈s.fl,p.2.2.length<=400
structure Gn (w:ac)(b o:Nat)(l:List aq.It)(S:PS):Prop where
 at_:Co.aJ w b o S
 ph:S.ph=0
 told:aX w S.told l
 nil:S.inp=U V 0 0/\S.sm=U V 0 0/\S.ss=U V 0 0
 apart:S.told.ownBlock≠E b
 low:∀x,eG b S x->x<w.1.size
structure ie (w:ac)(b o:Nat)(c:Cl)(g:Bool)(s:aO.St)(S:PS):Prop where
 live:g=Y->Co.ju w b o c s S
 dead:g=aa->Gn w b o (gl c s) S
section
variable {w w':ac}{b o:Nat}{c:Cl}{g:Bool}{s:aO.St}{S:PS}
theorem ie.at_ (h:ie w b o c g s S):Co.aJ w b o S:=by cases g;exact(h.live rfl).di.at_;exact(h.dead rfl).at_
theorem ie.low (h:ie w b o c g s S):∀x,eG b S x->x<w.1.size:=by cases g;exact(h.live rfl).low;exact(h.dead rfl).low
theorem ie.told (h:ie w b o c g s S):aX w S.told (gl c s):=by cases g;exact Co.Qq (h.live rfl).di;exact(h.dead rfl).told
theorem ie.tV (h:ie w b o c g s S)(hs:w.1.size<=w'.1.size)(ha:Co.aJ w' b o S)(hb:∀x,x≠b->eG b S x->w'.1[x]?=w.1[x]?):ie w' b o c g s S:=by refine⟨λe=>?_,λe=>?_⟩;have k:=h.live e;exact⟨k.di.tV hs ha hb,λx hx=>cG (k.low x hx) hs⟩;have k:=h.dead e;exact⟨ha,k.ph,k.told.keep hs (λx hx=>hb x (λe=>k.apart (e▸hx)) (Q (Q (Q (Q hx))))),k.nil,k.apart,λx hx=>cG (k.low x hx) hs⟩
theorem ie.keep (h:ie w b o c g s S)(hs:w.1.size<=w'.1.size)(hb:∀x,eG b S x->w'.1[x]?=w.1[x]?):ie w' b o c g s S:=h.tV hs (h.at_.block (hb b (ae rfl))) (λx _ hx=>hb x hx)
end
structure SM where
 S:SS
 cb:Nat
 cc:Nat
 P:Nat->PS
 fv:ag
 vs:List ag
def qd (b n:Nat)(m:SM)(x:Nat):Prop:=(fL b m.S x/\x≠b)\/(∃i,i<n/\eG m.cb (m.P i) x/\x≠m.cb)\/∃y∈m.vs,y.ownBlock=E x
def ij (b:Nat)(m:SM)(x:Nat):Prop:=x=b\/x=m.cb\/m.fv.ownBlock=E x
def dx (b n:Nat)(m:SM)(x:Nat):Prop:=ij b m x\/qd b n m x
structure bM (w:ac)(b n:Nat)(C:Cf)(cl:Nat->Cl)(s:Sn)(m:SM):Prop where
 ba:jw w b C s.q m.S
 fy:w.cell? ⟨b,76,V⟩=E (U (E ⟨m.cb,0,V⟩) n m.cc)
 bJ:w.cell? ⟨b,77,V⟩=E m.fv
 f77:w.frozen? ⟨b,77,V⟩=Y
 yY:n<=m.cc/\m.cc<=9223372036854775807
 di:∀i,i<n->ie w m.cb (i*78) (cl i) (s.gone i) (s.cs i) (m.P i)
 fl:fw w m.fv m.vs s.fl
 pj:m.cb<w.1.size
 own:m.cb≠b/\m.fv.ownBlock≠E b/\m.fv.ownBlock≠E m.cb
 ap:∀x,qd b n m x->¬ij b m x
section
variable {w w':ac}{b n:Nat}{C:Cf}{cl:Nat->Cl}{s:Sn}{m:SM}
theorem bM.low (h:bM w b n C cl s m){x}(hx:dx b n m x):x<w.1.size:=by rcases hx with(hx|hx|hx)|⟨hx,_⟩|⟨i,hi,hx,_⟩|⟨y,hy,hx⟩;exact h.ba.low x (ae hx);rw[hx];exact h.pj;exact h.fl.ot hx;exact h.ba.low x hx;exact(h.di i hi).low x hx;exact h.fl.low y hy x hx
theorem bM.keep (h:bM w b n C cl s m)(hs:w.1.size<=w'.1.size)(hb:∀x,dx b n m x->w'.1[x]?=w.1[x]?):bM w' b n C cl s m:=by
 have O:=hb b (ae (ae rfl));have fb:∀x,fL b m.S x->dx b n m x:=λx hx=>by by_cases e:x=b;exact ae (ae e);exact Q (ae ⟨hx,e⟩)
 have Y:∀i,i<n->∀x,eG m.cb (m.P i) x->dx b n m x:=λi hi x hx=>by by_cases e:x=m.cb;exact ae (Q (ae e));exact Q (Q (ae ⟨i,hi,hx,e⟩))
 exact{h with
  ba:=h.ba.keep hs (λx hx=>hb x (fb x hx))
  fy:=(ez (w:=w) (a:=⟨b,76,V⟩) O).trans h.fy
  bJ:=(ez (w:=w) (a:=⟨b,77,V⟩) O).trans h.bJ
  f77:=(mF O 77).trans h.f77
  di:=λi hi=>(h.di i hi).keep hs (λx hx=>hb x (Y i hi x hx))
  fl:=h.fl.keep hs (λx hx=>hb x (ae (Q (Q hx)))) (λy hy x hx=>hb x (Q (Q (Q ⟨y,hy,hx⟩))))
  pj:=cG h.pj hs}
theorem bM.below (h:bM w b n C cl s m)(hb:af w.1.size w w'):bM w' b n C cl s m:=h.keep hb.size (λx hx=>hb.block x (h.low hx))
theorem bM.blt (h:bM w b n C cl s m):b<w.1.size:=h.low (ae (ae rfl))
end
structure cL (w w':ac)(b n:Nat)(C:Cf)(cl:Nat->Cl)(s':Sn)(m m':SM):Prop where
 bP:bM w' b n C cl s' m'
 aV:av (ij b m) w w'
 own:∀x,ij b m' x->ij b m x\/w.1.size<=x
 aS:∀x,dx b n m' x->dx b n m x\/w.1.size<=x
section
variable {w w1 w':ac}{b n:Nat}{C:Cf}{cl:Nat->Cl}{s s1 s':Sn}{m m1 m':SM}
theorem qR (h:bM w b n C cl s m)(hb:af w.1.size w w'):cL w w' b n C cl s m m:=⟨h.below hb,av.bz hb,λ_ hx=>ae hx,λ_ hx=>ae hx⟩
theorem cL.trans (h:cL w w1 b n C cl s1 m m1)(k:cL w1 w' b n C cl s' m1 m'):cL w w' b n C cl s' m m':=by
 have z:=h.aV.size;refine⟨k.bP,h.aV.trans k.aV (λx e hx=>(h.own x e).elim id (λq=>by omega)),λx hx=>?_,λx hx=>?_⟩;·rcases k.own x hx with e|e;exact h.own x e;exact Q (by omega)
 rcases k.aS x hx with e|e;exact h.aS x e;exact Q (by omega)
theorem cL.after (h:cL w1 w' b n C cl s' m m')(hb:af w.1.size w w1):cL w w' b n C cl s' m m':=
 ⟨h.bP,(av.bz hb).bY h.aV,λx hx=>(h.own x hx).imp id (λe=>fJ hb.size e),λx hx=>(h.aS x hx).imp id (λe=>fJ hb.size e)⟩
end
section
variable {w w' w1:ac}{b n:Nat}{C:Cf}{cl:Nat->Cl}{s:Sn}{m:SM}
theorem bM.SG (h:bM w b n C cl s m){x}(hx:fL b m.S x):dx b n m x:=by by_cases e:x=b;exact ae (ae e);exact Q (ae ⟨hx,e⟩)
theorem bM.oV (h:bM w b n C cl s m){i}(hi:i<n){x}(hx:eG m.cb (m.P i) x):dx b n m x:=by by_cases e:x=m.cb;exact ae (Q (ae e));exact Q (Q (ae ⟨i,hi,hx,e⟩))
theorem bM.Af (h:bM w b n C cl s m){q' S'}(t:iI w w' b C q' m.S S'):cL w w' b n C cl {s with q:=q'} m {m with S:=S'}:=by
 have z:=t.aV.size;have O:∀x,dx b n m x->x≠b->w'.1[x]?=w.1[x]? :=λx hx e=>t.aV.block x (h.low hx) e;have Y:∀i,i<n->∀x,eG m.cb (m.P i) x->x≠b:=λi hi x hx e=>by by_cases q:x=m.cb;exact h.own.1 (q.symm.trans e);exact h.ap x (Q (ae ⟨i,hi,hx,q⟩)) (ae e)
 have stat:∀x,qd b n {m with S:=S'} x->qd b n m x\/w.1.size<=x:=λx hx=>by
  rcases hx with⟨hx,e⟩|hx|hx;·rcases t.aS x hx with k|k;exact ae (ae ⟨k,e⟩);exact Q k
  exact ae (Q (ae hx));exact ae (Q (Q hx))
 refine⟨⟨t.ba,(t.rest 76 (by omega)).1.trans h.fy,(t.rest 77 (by omega)).1.trans h.bJ,(t.rest 77 (by omega)).2.trans h.f77,h.yY,λi hi=>?_,?_,cG h.pj z,h.own,λx hx ho=>?_⟩,t.aV.mono (λx e _=>ae e),λx hx=>ae hx,λx hx=>?_⟩;exact(h.di i hi).keep z (λx hx=>O x (h.oV hi hx) (Y i hi x hx));exact h.fl.keep z (λx hx=>O x (ae (Q (Q hx))) (λe=>h.own.2.1 (e▸hx))) (λy hy x hx=>O x (Q (Q (Q ⟨y,hy,hx⟩))) (λe=>h.ap x (Q (Q ⟨y,hy,hx⟩)) (ae e)));·rcases stat x hx with k|k;exact h.ap x k ho;have:=h.low (ae ho:dx b n m x);omega
 rcases hx with hx|hx;exact ae (ae hx);exact(stat x hx).imp Q id
theorem bM.xa (h:bM w b n C cl s m){i}(hi:i<n){g' st' P'}(hc:Co.bQ m.cb (i*78) w w')(hat:ie w' m.cb (i*78) (cl i) g' st' P')(ac:∀x,eG m.cb P' x->eG m.cb (m.P i) x\/w.1.size<=x):
  cL w w' b n C cl {s with cs:=bu s.cs i st',gone:=bu s.gone i g'} m {m with P:=bu m.P i P'}:=by
 have z:=hc.size;have O:∀x,dx b n m x->x≠m.cb->w'.1[x]?=w.1[x]? :=λx hx e=>hc.block x (h.low hx) e;have ns:∀x,fL b m.S x->x≠m.cb:=λx hx e=>by by_cases q:x=b;exact h.own.1 (e.symm.trans q);exact h.ap x (ae ⟨hx,q⟩) (Q (ae e))
 have stat:∀x,qd b n {m with P:=bu m.P i P'} x->qd b n m x\/w.1.size<=x:=λx hx=>by
  rcases hx with hx|⟨j,hj,hx,e⟩|hx;exact ae (ae hx)
  ·have Y:eG m.cb (bu m.P i P' j) x:=hx;by_cases q:j=i;·subst q;rw[cP]at Y;rcases ac x Y with k|k;exact ae (Q (ae ⟨j,hj,k,e⟩));exact Q k
   rw[dw _ _ _ q]at Y;exact ae (Q (ae ⟨j,hj,Y,e⟩))
  exact ae (Q (Q hx))
 have aa:=O b (ae (ae rfl)) (λe=>h.own.1 e.symm);refine⟨⟨h.ba.keep z (λx hx=>O x (h.SG hx) (ns x hx)),(ez (w:=w) (a:=⟨b,76,V⟩) aa).trans h.fy,(ez (w:=w) (a:=⟨b,77,V⟩) aa).trans h.bJ,(mF aa 77).trans h.f77,h.yY,λj hj=>?_,?_,cG h.pj z,h.own,λx hx ho=>?_⟩,hc.aV.mono (λx e _=>Q (ae e)),λx hx=>ae hx,λx hx=>?_⟩
 ·show ie w' m.cb (j*78) (cl j) (bu s.gone i g' j) (bu s.cs i st' j) (bu m.P i P' j);by_cases q:j=i;subst q;rw[cP,cP,cP];exact hat;rw[dw _ _ _ q,dw _ _ _ q,dw _ _ _ q];refine(h.di j hj).tV z (bw.keep (h.di j hj).at_ (λk hk=>?_) (λk hk=>?_)) (λx e hx=>O x (h.oV hj hx) e);all_goals(rw[gD]at hk)
  exact(hc.rest (j*78+k) (by omega)).1;exact(hc.rest (j*78+k) (by omega)).2
 exact h.fl.keep z (λx hx=>O x (ae (Q (Q hx))) (λe=>h.own.2.2 (e▸hx))) (λy hy x hx=>O x (Q (Q (Q ⟨y,hy,hx⟩))) (λe=>h.ap x (Q (Q ⟨y,hy,hx⟩)) (Q (ae e))));·rcases stat x hx with k|k;exact h.ap x k ho;have:=h.low (ae ho:dx b n m x);omega
 rcases hx with hx|hx;exact ae (ae hx);exact(stat x hx).imp Q id
theorem bM.qZ (h:bM w b n C cl s m){fv' vs' ps'}(hc:av (λx=>m.fv.ownBlock=E x) w w1)(hf:fw w1 fv' vs' ps')(hw':w'=w1.setCell ⟨b,77,V⟩ fv')(hv:∀x,fv'.ownBlock=E x->m.fv.ownBlock=E x\/w.1.size<=x)(af:∀y∈vs',∀x,y.ownBlock=E x->x≠b/\x≠m.cb):
  bM w' b n C cl {s with fl:=ps'} {m with fv:=fv',vs:=vs'}/\av (ij b m) w w'/\(∀x,ij b {m with fv:=fv',vs:=vs'} x->ij b m x\/w.1.size<=x)/\
   ∀x,dx b n {m with fv:=fv',vs:=vs'} x->dx b n m x\/w.1.size<=x\/∃y∈vs',y.ownBlock=E x:=by
 have z1:=hc.size;have z':w'.1.size=w1.1.size:=by rw[hw'];simp[World.setCell]
 have c2:av (λx=>x=b) w1 w':=by rw[hw'];exact av.setCell w1 ⟨b,77,V⟩ fv'
 have aj:=h.blt;have ai:∀x,x<w.1.size->m.fv.ownBlock≠E x->w1.1[x]? =w.1[x]? :=λx hx e=>hc.block x hx e;have Y:∀x,x<w.1.size->m.fv.ownBlock≠E x->x≠b->w'.1[x]? =w.1[x]? :=λx hx e e2=>by rw[c2.block x (by omega) e2];exact ai x hx e
 have hb1:w1.1[b]? =w.1[b]? :=ai b aj h.own.2.1;have cell:∀k,k≠77->w'.cell? ⟨b,k,V⟩=w.cell? ⟨b,k,V⟩:=λk hk=>by rw[hw',lO _ _ _ _ (by intro q;injection q with q1 q2 q3;omega)];exact ez (w:=w) (a:=⟨b,k,V⟩) hb1
 have bF:∀k,w'.frozen? ⟨b,k,V⟩=w.frozen? ⟨b,k,V⟩:=λk=>by rw[hw',mS];exact mF hb1 k
 have d77:w1.cell? ⟨b,77,V⟩=E m.fv:=(ez (w:=w) (a:=⟨b,77,V⟩) hb1).trans h.bJ;have O:∀x,qd b n m x->x<w.1.size/\m.fv.ownBlock≠E x/\x≠b/\x≠m.cb:=λx hx=>⟨h.low (Q hx),λe=>h.ap x hx (Q (Q e)),λe=>h.ap x hx (ae e),λe=>h.ap x hx (Q (ae e))⟩;have aa:∀x,fv'.ownBlock=E x->x≠b/\x≠m.cb:=λx hx=>by rcases hv x hx with k|k;exact⟨λe=>h.own.2.1 (e▸k),λe=>h.own.2.2 (e▸k)⟩;have:=h.pj;exact⟨by omega,by omega⟩
 have hcb:w'.1[m.cb]? =w.1[m.cb]? :=Y m.cb h.pj h.own.2.2 h.own.1;refine⟨⟨?_,(cell 76 (by omega)).trans h.fy, ?_,(bF 77).trans h.f77,h.yY,λi hi=> ?_, ?_,by rw[z'];exact cG h.pj z1,⟨h.own.1,λe=>(aa b e).1 rfl,λe=>(aa m.cb e).2 rfl⟩,λx hx ho=> ?_⟩, ?_,λx hx=> ?_,λx hx=> ?_⟩;have k:=h.ba;refine⟨k.ba.keep (by omega) (bw.keep k.ba.at_ (λj hj=>cell _ ?_) (λj _=>bF _)) (λx e hx=> ?_),λx hx=>by have:=k.low x hx;omega⟩;have hl:(cM m.S).length=76:=rfl;have:j<76:=by rw[<-hl];exact hj
 omega;obtain⟨a1,a2,a3,a4⟩:=O x (ae ⟨hx,e⟩);exact Y x a1 a2 a3;show w'.cell? ⟨b,77,V⟩=E fv';rw[hw'];exact xy _ _ _ d77;·refine(h.di i hi).keep (by omega) (λx hx=> ?_);by_cases e:x=m.cb;rw[e];exact hcb;obtain⟨a1,a2,a3,a4⟩:=O x (Q (ae ⟨i,hi,hx,e⟩));exact Y x a1 a2 a3
 ·refine hf.keep (by omega) (λx hx=>c2.block x ((hf.row.lt x hx).2) (aa x hx).1) (λy hy x hx=>c2.block x (hf.low y hy x hx) (af y hy x hx).1)
 ·have ac:x=b\/x=m.cb\/fv'.ownBlock=E x:=ho;rcases hx with hx|hx|⟨y,hy,hx⟩;·obtain⟨a1,a2,a3,a4⟩:=O x (ae hx);rcases ac with e|e|e;exact a3 e;exact a4 e;rcases hv x e with k|k;exact a2 k;omega
  ·obtain⟨a1,a2,a3,a4⟩:=O x (Q (ae hx));rcases ac with e|e|e;exact a3 e;exact a4 e;rcases hv x e with k|k;exact a2 k;omega
  rcases ac with e|e|e;exact(af y hy x hx).1 e;exact(af y hy x hx).2 e;exact hf.apart y hy x hx e
 exact(hc.mono (S':=ij b m) (λx e _=> Q (Q e))).trans c2 (λx e _=> ae e);·have ah:x=b\/x=m.cb\/fv'.ownBlock=E x:=hx;rcases ah with e|e|e;exact ae (ae e);exact ae (Q (ae e));exact(hv x e).imp (λk=> Q (Q k)) id
 rcases hx with hx|hx|hx|hx;·have ah:x=b\/x=m.cb\/fv'.ownBlock=E x:=hx;rcases ah with e|e|e;exact ae (ae (ae e));exact ae (ae (Q (ae e)));rcases hv x e with k|k;exact ae (ae (Q (Q k)));exact Q (ae k)
 exact ae (Q (ae hx));exact ae (Q (Q (ae hx)));exact Q (Q hx)
end
theorem fw.snoc{w w' v v' vs ps}(h:fw w v vs ps){p y}(hy:bX w y p.2.2)(Y:∀g,y.ownBlock=E g->g<w.1.size/\v.ownBlock≠E g)(hr:w'.ownsRow 0 49 3 v' (ps.length+1) (bC ps vs++[Z J p.1,Z J p.2.1,y]))(hc:av (λx=>v.ownBlock=E x) w w')(hv:∀x,v'.ownBlock=E x->v.ownBlock=E x\/w.1.size<=x):fw w' v' (vs++[y]) (ps++[p]):=by
 have z:=hc.size;have ap:∀u∈vs++[y],∀g,u.ownBlock=E g->g<w.1.size/\v.ownBlock≠E g:=λu hu g hg=>by rcases cZ.1 hu with hu|hu;exact⟨h.low u hu g hg,h.apart u hu g hg⟩;rw[lN.1 hu]at hg;exact Y g hg
 have O:∀(i:Nat)(x:ag)(q:Pk),(vs++[y])[i]?=E x->(ps++[p])[i]?=E q->bX w x q.2.2:=λi x q hx hq=>by
  by_cases hi:i<ps.length;rw[ey (by rw[h.len];exact hi)]at hx;rw[ey hi]at hq;exact h.each i x q hx hq;rw[fo (by rw[h.len];omega),h.len]at hx;rw[fo (by omega)]at hq;have e:i-ps.length=0:=by rcases mn (i-ps.length)with e|e;exact e;rw[jM (by simp;omega)]at hq;cases hq
  rw[e]at hx hq;simp at hx hq;subst hx;subst hq;exact hy
 refine⟨by rw[cy,cy,h.len];rfl,?_,λi x q hx hq=>?_,λu hu g hg=>cG (ap u hu g hg).1 z,λu hu g hg e=>?_⟩;rw[wx ps vs p y h.len,cy];exact hr;exact(O i x q hx hq).qD z (λg hg=>hc.block g (ap x (cU hx) g hg).1 (ap x (cU hx) g hg).2);have a:=ap u hu g hg;rcases hv g e with k|k;exact a.2 k;omega
end
section
open Go.ChangeShapes Go.WideShapes Go.ChangeAt Go.RowKit
theorem tR{b n C cl s m}(u){w}(h:bM w b n C cl s m):
  ay prog 75 #[aC (E ⟨b,0,V⟩),Z J u] w λe w'=>e=az (.bool (decide (1<=u/\u<=(n:Int))))/\w'=w:=by
 have fy:=h.fy;clear h;obtain⟨bb,O⟩:=aj (decide (1<=u/\u<=(n:Int)));rw[<-O];by_cases h1:1<=u
 ·by_cases h2:u<=(n:Int);·have H:=A (bb=aa) (O.trans (aK ⟨h1,h2⟩));clear O;go_enter func75,ntmps75;go_wp2;go_ret;exact⟨by rw[H.o];rfl,rfl⟩
  have H:=A (bb=Y) (O.trans (aM (λq=>h2 q.2)));clear O;go_enter func75,ntmps75;go_wp2;go_ret;exact⟨by rw[H.o];rfl,rfl⟩
 have H:=A (bb=Y) (O.trans (aM (λq=>h1 q.1)));clear O;go_enter func75,ntmps75;go_wp2;go_ret;exact⟨by rw[H.o];rfl,rfl⟩
theorem qz{b n C cl s m}(u){w}(h:bM w b n C cl s m):
  ay prog 130 #[aC (E ⟨b,0,V⟩),Z J u] w λe w'=>e=az (.bool (decide (0<=u/\u<(s.fl.length:Int))))/\w'=w:=by
 have bJ:=h.bJ;obtain⟨a,c,hv,-⟩:=h.fl.view;rw[hv]at bJ;clear h hv;generalize s.fl.length=k at*;obtain⟨bb,O⟩:=aj (decide (0<=u/\u<(k:Int)));rw[<-O];by_cases h1:0<=u
 ·by_cases h2:u<(k:Int);·have H:=A (bb=aa) (O.trans (aK ⟨h1,h2⟩));clear O;go_enter func130,ntmps130;go_wp2;go_ret;exact⟨by rw[H.o];rfl,rfl⟩
  have H:=A (bb=Y) (O.trans (aM (λq=>h2 q.2)));clear O;go_enter func130,ntmps130;go_wp2;go_ret;exact⟨by rw[H.o];rfl,rfl⟩
 have H:=A (bb=Y) (O.trans (aM (λq=>h1 q.1)));clear O;go_enter func130,ntmps130;go_wp2;go_ret;exact⟨by rw[H.o];rfl,rfl⟩
structure xP (w w':ac)(b n:Nat)(C:Cf)(cl:Nat->Cl)(s':Sn)(m m':SM)(y:ag):Prop where
 bP:bM w' b n C cl s' m'
 aV:av (ij b m) w w'
 own:∀x,ij b m' x->ij b m x\/w.1.size<=x
 aS:∀x,dx b n m' x->dx b n m x\/w.1.size<=x\/y.ownBlock=E x
theorem bM.pD{w W w2 w3 b n g cap C cl s m}(h:bM w b n C cl s m){p y}(hy:bX w y p.2.2)(O:∀x,y.ownBlock=E x->x<w.1.size/\¬ij b m x)(hW:af w.1.size w W)(hr:w2.ownsRow 0 49 3 (U (E ⟨g,0,V⟩) (s.fl.length+1) cap) (s.fl.length+1) (bC s.fl m.vs++[Z J p.1,Z J p.2.1,y]))(hgr:W.grownBy w2 m.fv.ownBlock)(hat:m.fv.ownBlock=E g\/g=W.1.size)(hw3:w3=w2.setCell ⟨b,77,V⟩ (U (E ⟨g,0,V⟩) (s.fl.length+1) cap)):
  ∃m',xP w w3 b n C cl {s with fl:=s.fl++[p]} m m' y:=by
 have zW:=hW.size;have hv:∀x,(Value.slice (E ⟨g,0,V⟩) (s.fl.length+1) cap).ownBlock=E x->m.fv.ownBlock=E x\/w.1.size<=x:=λx hx=>by
  have e:x=g:=by simpa[Value.ownBlock]using hx.symm
  subst e;rcases hat with k|k;exact ae k;exact Q (by omega)
 have hc:av (λx=>m.fv.ownBlock=E x) w w2:=(av.bz hW).trans (av.grown hgr) (λx e _=>e);have hf:=h.fl.snoc (p:=p) hy (λx hx=>⟨(O x hx).1,λe=>(O x hx).2 (Q (Q e))⟩) hr hc hv;have R:=h.qZ hc hf hw3 hv (λu hu x hx=>?_);·obtain⟨r1,r2,r3,Y⟩:=R;refine⟨_,r1,r2,r3,λx hx=>?_⟩;rcases Y x hx with k|k|⟨u,hu,k⟩;exact ae k;exact Q (ae k);rcases cZ.1 hu with hu|hu;exact ae (Q (Q (Q ⟨u,hu,k⟩)));rw[lN.1 hu]at k;exact Q (Q k)
 rcases cZ.1 hu with hu|hu;exact⟨λe=>h.ap x (Q (Q ⟨u,hu,hx⟩)) (ae e),λe=>h.ap x (Q (Q ⟨u,hu,hx⟩)) (Q (ae e))⟩;rw[lN.1 hu]at hx;exact⟨λe=>(O x hx).2 (ae e),λe=>(O x hx).2 (Q (ae e))⟩
theorem Sf{b n C cl s m}(fr){y zs w}(h:bM w b n C cl s m)(hy:bX w y zs)(ak:∀x,y.ownBlock=E x->x<w.1.size/\¬ij b m x)(hlen:s.fl.length<=2000):
  ay prog 128 #[aC (E ⟨b,0,V⟩),Z J fr,y] w λe w'=>e=az (.tuple #[])/\∃m',xP w w' b n C cl {s with fl:=s.fl++[(fr,0,zs)]} m m' y:=by
 have bJ:=h.bJ;have f77:=h.f77;have hb:=h.blt;obtain⟨a,c,hv,-⟩:=h.fl.view;obtain⟨ai,cy,am,-⟩:=eC hy;have ae:=I h.fl.row;have O:=I h.own.2.1;have HS:=I (λ(W w2 w3:ac)(g cap:Nat) hW hr hgr hat hw3=>h.pD (p:=(fr,0,zs)) (W:=W) (w2:=w2) (w3:=w3) (g:=g) (cap:=cap) hy ak hW hr hgr hat hw3);obtain⟨i1,au,av,aA,aB⟩:=bO ll;rw[hv]at bJ ae HS O;rw[am]at HS ⊢;clear h hy ak hv am;obtain⟨k,hk⟩:=aj s.fl.length;obtain⟨nz,hnz⟩:=aj zs.length;rw[<-hk]at bJ ae HS hlen O;rw[<-hnz]at HS ⊢;clear hk hnz;go_enter func128,ntmps128;go_wp2_with(at_builtin;refine tx _ rfl _ _ 41 rfl 0 49 i1 (.agg #[Z J 0,Z J 0,U V 0 0]) 3 40 jt au av aA aB rfl (by decide) _ _ _ rfl (ae.o.alloc _) ⟨w.1.size,0,V⟩ 1 1 [Z J fr,Z J 0,U ai nz cy] rfl rfl ?c1 ?c2 (by decide) ?c3 ?c4 (bi _) _ rfl ?_);case c2=>exact⟨rfl,rfl,rfl⟩
 case c3=>unfold maxLen;omega
 case c4=>omega
 intro g cap w2 hr hgr hat ar;have aa:af w.1.size w (w.alloc (ah #[Z J fr,Z J 0,U ai nz cy] 49)):=(ax _ _).alloc (aw _) _;have d77:w2.cell? ⟨b,77,V⟩=E (U a k c):=by rw[hgr.cell_far ⟨b,77,V⟩ (by show b<_;simp;omega) (λe=>O.o e.symm),aa.cell (p:=⟨b,77,V⟩) hb];exact bJ
 have aD:w2.frozen? ⟨b,77,V⟩=Y:=by rw[hgr.frozen_far ⟨b,77,V⟩ (by show b<_;simp;omega) (λe=>O.o e.symm),aa.frozen (p:=⟨b,77,V⟩) hb];exact f77
 obtain⟨w3,hw3⟩:=aj (w2.setCell ⟨b,77,V⟩ (U (E ⟨g,0,V⟩) (k+1) cap));have ap:=I (HS.o _ w2 w3 g cap aa hr hgr (by simpa using hat) hw3);have aq:=I hw3;clear hr hgr hat ar aa hw3 bJ f77;go_wp2_with fail;rw[<-aq.o];go_end0;exact⟨rfl,ap.o⟩
end
end Go.Proofs.YtchideljndagjabGreat

