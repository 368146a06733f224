/- Joined -/
import Derived.Test.YtchideljndagjabGreatUAH
set_option linter.unusedVariables false
set_option maxHeartbeats 2000000
set_option maxRecDepth 100000
namespace Go.Proofs.YtchideljndagjabGreat
open aq aO bb
open Go.Value renaming int->Z,slice->U,bool->ak,pointer->aC,agg->aD
open Go.IntKind renaming i64->J
open Go.Obj renaming cells->ah
open Go.Ending renaming returned->az
open Option renaming none->V,some->E
open Bool renaming false->Y,true->aa
open Go renaming World->ac,Calls->ay
open Go.RowKit renaming Below->af,intOf->aA
abbrev td:=@Proofs.Tryz.func168
abbrev th:=@Proofs.Tryz.ntmps168
abbrev ry:=@Classical.byContradiction
open Go.Proofs.Tryz
open Go.ChangeShapes Go.WideShapes Go.ChangeAt Go.RowKit
variable {l:List aq.It}{v:Value}{w:ac}
theorem PZ{b s}(k1 f1 k2 f2){v1 v2 lk lb}(h:cA w b s)(hk:aX w v1 lk)(hb:aX w v2 lb)(hc:dr s.c)(rk:bN lk=aa)(rb:bN lb=aa)(bf:∀x∈lk,0<=x.2.1/\x.2.1<2305843009213693951/\0<=x.2.2.1/\x.2.2.1<2305843009213693951)(bc:∀x∈lb,(0<=x.2.1/\x.2.1<2305843009213693951)/\(0<=x.2.2.1/\x.2.2.1<2305843009213693951)/\(0<=x.2.2.2/\x.2.2.2<2305843009213693951)):
  ay prog 235 #[aC (E ⟨b,0,V⟩),aD #[Z J k1,Z J f1,v1],aD #[Z J k2,Z J f2,v2]] w λe w'=>e=az (ak (d_ s.c lk lb))/\af w.1.size w w':=by
 obtain⟨W0,hW0⟩:=aj ((w.alloc (ah #[Z J k1,Z J f1,v1] 65)).alloc (ah #[Z J k2,Z J f2,v2] 65));have hb0:af w.1.size w W0:=by rw[hW0];exact((ax _ _).alloc (aw _) _).alloc (by simp) _
 have z0:w.1.size+1<W0.1.size:=by rw[hW0];simp
 have F1:=A (dc W0 w.1.size k1 f1 v1) (by rw[hW0];refine⟨?_,?_,?_⟩<;>simp);have F2:=A (dc W0 (w.1.size+1) k2 f2 v2) (by rw[hW0];refine⟨?_,?_,?_⟩<;>simp);obtain⟨F,hF⟩:∃F:Nat->Bool,F=λu:Nat=>aP lk u:=⟨_,rfl⟩;obtain⟨G,hG⟩:∃G:Nat->Bool,G=λu:Nat=>aP lb u:=⟨_,rfl⟩;obtain⟨CF,aB⟩:=aj (aN F);obtain⟨CG,aG⟩:=aj (aN G);have bt:=I (show∀W,af W0.1.size W0 W->ay prog 276 #[aD #[Z J k1,Z J f1,v1]] W λe w'=>e=az (aD CF.toArray)/\af W.1.size W w' from λW hb'=>by rw[aB,hF];exact qO k1 f1 ((hk.below hb0).below hb') rk);have bu:=I (show∀W,af W0.1.size W0 W->ay prog 276 #[aD #[Z J k2,Z J f2,v2]] W λe w'=>e=az (aD CG.toArray)/\af W.1.size W w' from λW hb'=>by rw[aG,hG];exact qO k2 f2 ((hb.below hb0).below hb') rb);obtain⟨bh,bk⟩:=rV F CF aB;obtain⟨bi,bl⟩:=rV G CG aG;have OF:=I bh;have SF:=I bk;have OG:=I bi;have SG:=I bl;have bq:=I aB;have br:=I aG;have HR:=bj W0 λW hb'=>(h.below hb0).below hb';obtain⟨OB,aI⟩:∃OB:Nat->Bool,OB=λu:Nat=>gR s.c lk lb u:=⟨_,rfl⟩;have aZ:=I (show∀(W:ac),af W0.1.size W0 W->∀j:Nat,(j:Int)≠s.c.id->1<=j->j<=12->F j=aa->G j=aa->ay prog 277 #[aC (E ⟨b,0,V⟩),aD #[Z J k1,Z J f1,v1],aD #[Z J k2,Z J f2,v2],Z J (j:Int)] W λe w'=>
   ∃m q,e=az (.tuple #[Z J m,Z J q,ak (OB j)])/\af W.1.size W w' from λW hb' j q q1 q2 x1 x2=>by rw[hF]at x1;rw[hG]at x2;rw[aI];have m1:=bf _ (qA x1);obtain⟨m2,m3,m4⟩:=bc _ (qA x2);refine(Er k1 f1 k2 f2 j ((h.below hb0).below hb') ((hk.below hb0).below hb') ((hb.below hb0).below hb') hc q (by omega) (by omega) m1.1 m1.2.1 m2.1 m2.2 m3.1 m3.2 m4.1 m4.2).mono ?_;rintro e w' ⟨m,q,e1,_,e2⟩;exact⟨m,q,e1,e2⟩);have bp:=I (show(∀v:Nat,1<=v->v<13->G v=aa->(F v&&OB v)=aa)->(lb.all λx=>aP lk x.1&&gR s.c lk lb x.1)=aa from λhh=>by subst hF hG aI;exact Bj (p:=λu=>aP lk u&&gR s.c lk lb u) rb hh);have aV:=I (show∀v:Nat,G v=aa->(F v&&OB v)=Y->(lb.all λx=>aP lk x.1&&gR s.c lk lb x.1)=Y from λv h1 h2=>by subst hF hG aI;exact Bk (p:=λu=>aP lk u&&gR s.c lk lb u) h1 h2);obtain⟨U,hU⟩:∃U:Nat,s.c.id=(U:Int):=⟨s.c.id.toNat,by have:=hc.i;omega⟩;have U1:1<=U:=by have:=hc.i;omega
 have bC:U<13:=by have:=hc.i;have:=hc.n;omega
 have bG:(U:Int)<13:=by omega
 obtain⟨a2,c2,hv2,l2,l3,_,_⟩:=cK hb;have a_:=I hv2;have ar:=I (show d_ s.c lk lb=(!G U&&(decide (s.c.T<=(lb.length:Int)+1)&&lb.all λx=>aP lk x.1&&gR s.c lk lb x.1))by rw[hG];unfold d_;rw[hU]);rw[hU]at aZ;have HN:=I (show∀(W:ac),af W0.1.size W0 W->W.cell? ⟨b,1,V⟩=E (Z J s.c.T)/\W.cell? ⟨b,4,V⟩=E (Z J (U:Int))from λW hb'=>by obtain⟨_,y1,_,y4,_,_,_⟩:=(HR.o W hb').dz;rw[hU]at y4;exact⟨y1,y4⟩);have bF:lb.length<=12:=by obtain⟨p1,p2⟩:=gm rb;exact si p1 p2
 have ag:=I hb0;have bz:=I hW0;generalize d_ s.c lk lb=res at*;generalize (lb.all λx=>aP lk x.1&&gR s.c lk lb x.1)=bD at*;obtain⟨n,hn⟩:=aj lb.length;rw[<-hn]at a_ l2 ar bF;have hwr:IntKind.i64.wrap ((n:Int)+1)=(n:Int)+1:=by rw[kv,eL _ (by omega)]
 have bH:wrap64 ((n:Int)+1)=(n:Int)+1:=eL _ (by omega);generalize s.c.T=T at*;clear hv2 hn h hk hb hc rk rb bf bc hF hG aB aG aI hU hW0 hb0 bh bk bi bl;go_enter func235,ntmps235;go_upto_region 1 with fail;rw[<-bz.o];obtain⟨x0,x1,x2⟩:=F1.o;go_wp2_with fail;refine aH (bt.o W0 (ax _ _)) λw1 hb1=>?_;have s1:=hb1.size;obtain⟨t1,hb2,au⟩:=rU w1 F CF bq.o;have T1:=I t1;obtain⟨w2,hw2⟩:=aj ((w1.alloc (ah #[ak Y,ak Y,ak Y,ak Y,ak Y,ak Y,ak Y,ak Y,ak Y,ak Y,ak Y,ak Y,ak Y] 36)).setCells w1.1.size 0 CF);rw[<-hw2]at hb2 au;have bo:=I au;have bE:=au.lt;have aJ:=I (hb1.trans (hb2.mono s1));have bA:=I hw2;clear t1 hw2 hb1 hb2 au x0 x1 x2;go_upto_region 2 with(refine cB rfl 36 _ _ rfl w1.1.size 0 CF.toArray rfl rfl T1.o SF.o OF.o ?_);rw[<-bA.o];obtain⟨x0,x1,x2⟩:=F2.o.below aJ.o z0;go_wp2_with fail;refine aH (bu.o w2 aJ.o) λw3 hb3=>?_;have s3:=hb3.size;obtain⟨t3,hb4,av⟩:=rU w3 G CG br.o;have T3:=I t3;obtain⟨w4,hw4⟩:=aj ((w3.alloc (ah #[ak Y,ak Y,ak Y,ak Y,ak Y,ak Y,ak Y,ak Y,ak Y,ak Y,ak Y,ak Y,ak Y] 36)).setCells w3.1.size 0 CG);rw[<-hw4]at hb4 av;have BG:=I av;have bJ:=av.lt;have BF:=I ((bo.o.below hb3 bE).below hb4 (by omega));have ai:=I ((aJ.o.trans (hb3.mono (by omega))).trans (hb4.mono (by omega)));have bB:=I hw4;clear t3 hw4 hb3 hb4 av x0 x1 x2;go_upto_region 3 with(refine cB rfl 36 _ _ rfl w3.1.size 0 CG.toArray rfl rfl T3.o SG.o OG.o ?_);rw[<-bB.o];simp only[Act.put];obtain⟨y1,y4⟩:=HN.o w4 ai.o;obtain⟨x0,x1,x2⟩:=F2.o.below ai.o z0;rw[a_.o]at x2;have g0:=BG.o.cell U bC;by_cases qU:G U=aa;·have H:=A (res=Y) (by rw[ar.o,qU];rfl);rw[qU]at g0;go_quiet (fail);go_wp2;go_ret;exact⟨aF H.o.symm,(ag.o.trans (ai.o.mono (by omega))).trans ((below_drewN _ _).mono (by omega))⟩
 have ae:G U=Y:=by simpa using qU
 rw[ae]at g0;by_cases qT:(n:Int)+1<T;·have H:=A (res=Y) (by rw[ar.o,aM (show¬T<=(n:Int)+1 by omega)];simp);have HQ:=I ae;clear qU ae;go_quiet (fail);go_wp2;go_ret;exact⟨aF H.o.symm,(ag.o.trans (ai.o.mono (by omega))).trans ((below_drewN _ _).mono (by omega))⟩
 have aL:=A (res=bD) (by rw[ar.o,ae,aK (show T<=(n:Int)+1 by omega)];simp);have HQ:=I ae;clear qU ae;go_quiet (fail);have am:=I (below_drewN w4 nq);obtain⟨W5,ba⟩:=aj (w4.drewN nq);rw[<-ba]at am ⊢;have s5:=am.o.size;have aT:=I (ai.o.trans (am.o.mono (by omega)));have bm:=I (BF.o.below am.o (by omega));have bn:=I (BG.o.below am.o (by omega));clear ba x0 x1 x2 y1 y4 g0;go_wp2;go_loopw [9] (λi wr=>∃j:Nat,1<=j/\j<=13/\i=Z J j/\(∀v:Nat,1<=v->v<j->G v=aa->(F v&&OB v)=aa)/\af W5.1.size W5 wr) (λi _=>13-(aA i).toNat);case atStart=>exact⟨1,aw _,by omega,rfl,λv h1 h2=>by omega,ax _ _⟩
 obtain⟨j,j1,j2,rfl,hall,aO⟩:=hrel;have HA:=I hall;have HB:=I aO;have hsz:=aO.size;clear hall aO;by_cases hlt:j<=12
 ·have bg:j<13:=by omega
  have bI:(j:Int)<13:=by omega
  have jp:(0:Int)<=(j:Int):=by omega
  have gF:=(bm.o.below HB.o (by omega)).cell j bg;have gG:=(bn.o.below HB.o (by omega)).cell j bg;have ap:=I (aT.o.trans (HB.o.mono (by omega)));by_cases O:G j=aa
  ·by_cases qF:F j=aa
   ·have HC:=I (aZ.o wr ap.o j (by intro e;have:j=U:=(by omega);subst this;rw[HQ.o]at O;cases O) j1 hlt qF O);have bv:=I (aV.o j O);rw[O]at gG;rw[qF]at gF;have bw:=I qF;have aY:=I O;clear qF O;obtain⟨x0,x1,x2⟩:=F1.o.below ap.o (by omega);obtain⟨y0,y1,y2⟩:=F2.o.below ap.o z0;go_wp2_with fail;refine HC.o.mono ?_;rintro e w6 ⟨m,q,rfl,bb⟩;have aU:=I bb;clear bb x0 x1 x2 y0 y1 y2 gF gG;obtain⟨ob,aQ⟩:=aj (OB j);rw[<-aQ];have aW:=I aQ;clear aQ;cases ob;·have H:=A (res=Y) (by rw[aL.o];exact bv.o (by rw[<-aW.o];simp));go_wp2;go_ret;exact⟨aF H.o.symm,(ag.o.trans (ap.o.mono (by omega))).trans (aU.o.mono (by omega))⟩
    go_wp2;go_roundw;case rel=>exact⟨j+1,by omega,by omega,by go_num,λv h1 h2 h3=>by by_cases e:v=j;subst e;rw[bw.o,<-aW.o];rfl;exact HA.o v h1 (by omega) h3,HB.o.trans (aU.o.mono (by omega))⟩
    simp[aA];omega
   have aR:F j=Y:=by simpa using qF
   have H:=A (res=Y) (by rw[aL.o];exact aV.o j O (by rw[aR];rfl));rw[O]at gG;rw[aR]at gF;clear qF aR O;go_wp2;go_ret;exact⟨aF H.o.symm,ag.o.trans (ap.o.mono (by omega))⟩
  have aS:G j=Y:=by simpa using O
  rw[aS]at gG;have aY:=I aS;clear O aS;go_wp2;go_roundw;case rel=>exact⟨j+1,by omega,by omega,by go_num,λv h1 h2 h3=>by by_cases e:v=j;subst e;rw[aY.o]at h3;cases h3;exact HA.o v h1 (by omega) h3,HB.o⟩
  simp[aA];omega
 have ej:j=13:=by omega
 have H:=A (res=aa) (by rw[aL.o];exact bp.o (λv h1 h2 h3=>HA.o v h1 (by omega) h3));subst ej;go_wp2;go_ret;exact⟨aF H.o.symm,ag.o.trans ((aT.o.trans (HB.o.mono (by omega))).mono (by omega))⟩
theorem PY{b s}(k1 f1 k2 f2){v1 v2 lb O}(h:cA w b s)(hk:aX w v1 lb)(hb:aX w v2 O)(hc:dr s.c)(rk:bN lb=aa)(rb:bN O=aa):
  ay prog 237 #[aC (E ⟨b,0,V⟩),aD #[Z J k1,Z J f1,v1],aD #[Z J k2,Z J f2,v2]] w λe w'=>e=az (ak (gZ s.c lb O))/\af w.1.size w w':=by
 obtain⟨W0,hW0⟩:=aj ((w.alloc (ah #[Z J k1,Z J f1,v1] 65)).alloc (ah #[Z J k2,Z J f2,v2] 65));have hb0:af w.1.size w W0:=by rw[hW0];exact((ax _ _).alloc (aw _) _).alloc (by simp) _
 have z0:w.1.size+1<W0.1.size:=by rw[hW0];simp
 have F1:=A (dc W0 w.1.size k1 f1 v1) (by rw[hW0];refine⟨?_,?_,?_⟩<;>simp);have F2:=A (dc W0 (w.1.size+1) k2 f2 v2) (by rw[hW0];refine⟨?_,?_,?_⟩<;>simp);obtain⟨U,hU⟩:∃U:Nat,s.c.id=(U:Int):=⟨s.c.id.toNat,by have:=hc.i;omega⟩;have U1:1<=U:=by have:=hc.i;omega
 have aJ:U<13:=by have:=hc.i;have:=hc.n;omega
 have br:(U:Int)<13:=by omega
 obtain⟨F,hF⟩:∃F:Nat->Bool,F=λu:Nat=>aP lb u:=⟨_,rfl⟩;obtain⟨G,hG⟩:∃G:Nat->Bool,G=λu:Nat=>aP O u:=⟨_,rfl⟩;obtain⟨S,hS⟩:∃S:Nat->Bool,S=fR F U aa:=⟨_,rfl⟩;obtain⟨CF,ap⟩:=aj (aN F);obtain⟨CG,au⟩:=aj (aN G);have bf:=I (show∀W,af W0.1.size W0 W->ay prog 276 #[aD #[Z J k1,Z J f1,v1]] W λe w'=>e=az (aD CF.toArray)/\af W.1.size W w' from λW hb'=>by rw[ap,hF];exact qO k1 f1 ((hk.below hb0).below hb') rk);have bg:=I (show∀W,af W0.1.size W0 W->ay prog 276 #[aD #[Z J k2,Z J f2,v2]] W λe w'=>e=az (aD CG.toArray)/\af W.1.size W w' from λW hb'=>by rw[au,hG];exact qO k2 f2 ((hb.below hb0).below hb') rb);obtain⟨aW,aZ⟩:=rV F CF ap;obtain⟨aY,a_⟩:=rV G CG au;have OF:=I aW;have SF:=I aZ;have OG:=I aY;have SG:=I a_;have bb:=I ap;have bc:=I au;have bl:=I hS;have HR:=bj W0 λW hb'=>(h.below hb0).below hb';have aK:∀v:Nat,S v=(aP lb v||decide ((v:Int)=s.c.id)):=λv=>by rw[hS,hF,hU];unfold fR;by_cases e:v=U;subst e;simp;rw[ar e,aM (by omega),ri]
 have ba:=I (show(∀v:Nat,1<=v->v<13->G v=aa->S v=aa)->(O.all λx=>aP lb x.1||decide (x.1=s.c.id))=aa from λhh=>by subst hG;exact Bj (p:=λu=>aP lb u||decide (u=s.c.id)) rb (λv h1 h2 h3=>by rw[<-aK v];exact hh v h1 h2 h3));have bh:=I (show∀v:Nat,G v=aa->S v=Y->(O.all λx=>aP lb x.1||decide (x.1=s.c.id))=Y from λv h1 h2=>by subst hG;exact Bk (p:=λu=>aP lb u||decide (u=s.c.id)) (v:=(v:Int)) h1 (by rw[<-aK v];exact h2));obtain⟨a2,c2,hv2,l2,l3,_,_⟩:=cK hb;have aU:=I hv2;have aI:=I (show gZ s.c lb O=((O.all λx=>aP lb x.1||decide (x.1=s.c.id))&&(G U&&decide (s.c.T<=(O.length:Int))))by rw[hG];unfold gZ;rw[hU]);have HN:=I (show∀(W:ac),af W0.1.size W0 W->W.cell? ⟨b,1,V⟩=E (Z J s.c.T)/\W.cell? ⟨b,4,V⟩=E (Z J (U:Int))from λW hb'=>by obtain⟨_,y1,_,y4,_,_,_⟩:=(HR.o W hb').dz;rw[hU]at y4;exact⟨y1,y4⟩);have aB:=I hb0;have bm:=I hW0;generalize gZ s.c lb O=res at*;generalize (O.all λx=>aP lb x.1||decide (x.1=s.c.id))=bt at*;obtain⟨n,hn⟩:=aj O.length;rw[<-hn]at aU l2 aI;generalize s.c.T=T at*;clear hv2 hn h hk hb hc rk rb hF hG hS ap au hU hW0 hb0 aW aZ aY a_ aK;go_enter func237,ntmps237;go_upto_region 1 with fail;rw[<-bm.o];obtain⟨x0,x1,x2⟩:=F1.o;go_wp2_with fail;refine aH (bf.o W0 (ax _ _)) λw1 hb1=>?_;have s1:=hb1.size;obtain⟨t1,hb2,ae⟩:=rU w1 F CF bb.o;have T1:=I t1;obtain⟨w2,hw2⟩:=aj ((w1.alloc (ah #[ak Y,ak Y,ak Y,ak Y,ak Y,ak Y,ak Y,ak Y,ak Y,ak Y,ak Y,ak Y,ak Y] 36)).setCells w1.1.size 0 CF);rw[<-hw2]at hb2 ae;have bv:=ae.lt;have aS:=I (hb1.trans (hb2.mono s1));have bn:=I hw2;have g0:=ae.cell U aJ;have g1:=ae.bF U;obtain⟨av,ai⟩:=aj (w2.setCell ⟨w1.1.size,U,V⟩ (ak aa));have aR:=A (bZ av w1.1.size 36 S) (by rw[ai,bl.o];exact ae.set U aJ aa);have aG:=A (af W0.1.size W0 av) (by rw[ai];exact aS.o.setCell (p:=⟨w1.1.size,U,V⟩) (by show W0.1.size<=w1.1.size;omega) _);have bq:=aR.o.lt;have bz:av.1.size=w2.1.size:=by rw[ai];simp[World.setCell]
 have bo:=I ai;clear t1 hw2 hb1 hb2 ae x0 x1 x2 ai;go_upto_region 2 with(refine cB rfl 36 _ _ rfl w1.1.size 0 CF.toArray rfl rfl T1.o SF.o OF.o ?_);rw[<-bn.o];obtain⟨y1,y4⟩:=HN.o w2 aS.o;go_upto_region 3 with fail;rw[<-bo.o];clear g0 g1 y1 y4;obtain⟨x0,x1,x2⟩:=F2.o.below aG.o z0;go_wp2_with fail;refine aH (bg.o av aG.o) λw3 hb3=>?_;have s3:=hb3.size;obtain⟨t3,hb4,am⟩:=rU w3 G CG bc.o;have T3:=I t3;obtain⟨w4,hw4⟩:=aj ((w3.alloc (ah #[ak Y,ak Y,ak Y,ak Y,ak Y,ak Y,ak Y,ak Y,ak Y,ak Y,ak Y,ak Y,ak Y] 36)).setCells w3.1.size 0 CG);rw[<-hw4]at hb4 am;have BG:=I am;have bw:=am.lt;have BS:=I ((aR.o.below hb3 bq).below hb4 (by omega));have ag:=I ((aG.o.trans (hb3.mono (by omega))).trans (hb4.mono (by omega)));have bp:=I hw4;clear t3 hw4 hb3 hb4 am x0 x1 x2;go_upto_region 4 with(refine cB rfl 36 _ _ rfl w3.1.size 0 CG.toArray rfl rfl T3.o SG.o OG.o ?_);rw[<-bp.o];simp only[Act.put];go_wp2;go_loop [9] (λi=>∃j:Nat,1<=j/\j<=13/\i=Z J j/\(∀v:Nat,1<=v->v<j->G v=aa->S v=aa)) (λi=>13-(aA i).toNat);case atStart=>exact⟨1,aw _,by omega,rfl,λv h1 h2=>by omega⟩
 obtain⟨j,j1,j2,rfl,hall⟩:=hrel;have HA:=I hall;clear hall;by_cases hlt:j<=12
 ·have aV:j<13:=by omega
  have bu:(j:Int)<13:=by omega
  have jp:(0:Int)<=(j:Int):=by omega
  have gF:=BS.o.cell j aV;have gG:=BG.o.cell j aV;by_cases qG:G j=aa
  ·by_cases qF:S j=aa
   ·rw[qG]at gG;rw[qF]at gF;have bi:=I qF;clear qF qG;go_wp2;go_round;case rel=>exact⟨j+1,by omega,by omega,by go_num,λv h1 h2 h3=>by by_cases e:v=j;subst e;exact bi.o;exact HA.o v h1 (by omega) h3⟩
    simp[aA];omega
   have aL:S j=Y:=by simpa using qF
   have H:=A (res=Y) (by rw[aI.o,bh.o j qG aL];rfl);rw[qG]at gG;rw[aL]at gF;clear qF aL qG;go_wp2;go_ret;exact⟨aF H.o.symm,aB.o.trans (ag.o.mono (by omega))⟩
  have aO:G j=Y:=by simpa using qG
  rw[aO]at gG;have bk:=I aO;clear qG aO;go_wp2;go_round;case rel=>exact⟨j+1,by omega,by omega,by go_num,λv h1 h2 h3=>by by_cases e:v=j;subst e;rw[bk.o]at h3;cases h3;exact HA.o v h1 (by omega) h3⟩
  simp[aA];omega
 have ej:j=13:=by omega
 have aT:=A (res=(G U&&decide (T<=(n:Int)))) (by rw[aI.o,ba.o (λv h1 h2 h3=>HA.o v h1 (by omega) h3)];rfl);subst ej;obtain⟨y1,y4⟩:=HN.o w4 ag.o;obtain⟨x0,x1,x2⟩:=F2.o.below ag.o z0;rw[aU.o]at x2;have g0:=BG.o.cell U aJ;by_cases qU:G U=aa;·have H:=A (res=decide (T<=(n:Int))) (by rw[aT.o,qU];rfl);rw[qU]at g0;clear qU;go_wp2_with fail;go_quiet (fail);go_wp2;go_ret;exact⟨aF H.o.symm,(aB.o.trans (ag.o.mono (by omega))).trans ((below_drewN _ _).mono (by omega))⟩
 have aQ:G U=Y:=by simpa using qU
 have H:=A (res=Y) (by rw[aT.o,aQ];rfl);rw[aQ]at g0;clear qU aQ;go_wp2_with fail;go_quiet (fail);go_wp2;go_ret;exact⟨aF H.o.symm,(aB.o.trans (ag.o.mono (by omega))).trans ((below_drewN _ _).mono (by omega))⟩
theorem FA{k}(x):
  ay prog 168 #[Z J k,aD #[Z J x.1,Z J x.2.1,Z J x.2.2.1,Z J x.2.2.2]] w λe w'=>∃a,e=az (U a (bh k) (bh k))/\
   (0<bh k->∃g,a=E ⟨g,0,V⟩/\w.1.size<=g/\g<w'.1.size/\∀i,i<bh k->w'.cell? ⟨g,i,V⟩=E (Z J ((aq.dz k x).getD i 0)))/\af w.1.size w w':=by
 by_cases k1:k=1;·subst k1;have HW:=A (bh 1=2) rfl;have O:=A (aq.dz 1 x=[x.2.1,x.2.2.1]) rfl;go_enter td,th;go_wp2;go_ret;rw[O.o,HW.o];refine⟨_,rfl,λ_=>⟨_,rfl,by simp,by simp,λi hi=>?_⟩,((ax _ _).alloc (aw _) _).alloc (by simp) _⟩;rcases(show i=0\/i=1 by omega)with rfl|rfl<;>simp
 by_cases k2:k=2;·subst k2;have HW:=A (bh 2=2) rfl;have O:=A (aq.dz 2 x=[x.2.1,x.2.2.1]) rfl;go_enter td,th;go_wp2;go_ret;rw[O.o,HW.o];refine⟨_,rfl,λ_=>⟨_,rfl,by simp,by simp,λi hi=>?_⟩,((ax _ _).alloc (aw _) _).alloc (by simp) _⟩;rcases(show i=0\/i=1 by omega)with rfl|rfl<;>simp
 by_cases k7:k=7;·subst k7;have HW:=A (bh 7=2) rfl;have O:=A (aq.dz 7 x=[x.2.1,x.2.2.1]) rfl;go_enter td,th;go_wp2;go_ret;rw[O.o,HW.o];refine⟨_,rfl,λ_=>⟨_,rfl,by simp,by simp,λi hi=>?_⟩,((ax _ _).alloc (aw _) _).alloc (by simp) _⟩;rcases(show i=0\/i=1 by omega)with rfl|rfl<;>simp
 by_cases k3:k=3;·subst k3;have HW:=A (bh 3=3) rfl;have O:=A (aq.dz 3 x=[x.2.1,x.2.2.1,x.2.2.2]) rfl;go_enter td,th;go_wp2;go_ret;rw[O.o,HW.o];refine⟨_,rfl,λ_=>⟨_,rfl,by simp,by simp,λi hi=>?_⟩,((ax _ _).alloc (aw _) _).alloc (by simp) _⟩;rcases(show i=0\/i=1\/i=2 by omega)with rfl|rfl|rfl<;>simp
 by_cases k4:k=4;·subst k4;have HW:=A (bh 4=3) rfl;have O:=A (aq.dz 4 x=[x.2.1,x.2.2.1,x.2.2.2]) rfl;go_enter td,th;go_wp2;go_ret;rw[O.o,HW.o];refine⟨_,rfl,λ_=>⟨_,rfl,by simp,by simp,λi hi=>?_⟩,((ax _ _).alloc (aw _) _).alloc (by simp) _⟩;rcases(show i=0\/i=1\/i=2 by omega)with rfl|rfl|rfl<;>simp
 by_cases k5:k=5
 ·subst k5;have HW:=A (bh 5=1) rfl;have O:=A (aq.dz 5 x=[x.2.1]) rfl;go_enter td,th;go_wp2;go_ret;rw[O.o,HW.o];refine⟨_,rfl,λ_=>⟨_,rfl,by simp,by simp,λi hi=>?_⟩,((ax _ _).alloc (aw _) _).alloc (by simp) _⟩;obtain rfl:i=0:=by omega
  simp
 have HW:=A (bh k=0) (by unfold bh;rw[ar (by omega),ar (by omega),ar (by omega)]);go_enter td,th;go_wp2;go_ret;rw[HW.o];exact⟨V,rfl,λh=>absurd h (by omega),(ax _ _).alloc (aw _) _⟩
theorem QE (l w)(h:aX w v l):
  ay prog 225 #[v] w λe w'=>e=az (ak (decide (l.length<=12)&&bN l))/\af w.1.size w w':=by
 obtain⟨a,cap,rfl,l2,l3,_,hc⟩:=cK h;have HC:=I hc;clear hc h;have HN:=A (bN l=ei l.length (jl l)) rfl;have au:=I (λk=>(show jl l k=(bE (aq.it l k).1&&(decide (k=0)||decide ((aq.it l (k-1)).1<(aq.it l k).1)))from rfl));generalize hn:l.length=n at*;clear hn;by_cases t:12<(n:Int);·have H:=I (aM (show¬n<=12 by omega));go_enter func225,ntmps225;go_wp2;go_ret;exact⟨aF (by rw[H.o];rfl),ax _ _⟩
 have HT:=I (aK (show n<=12 by omega));go_enter func225,ntmps225;go_wp2;go_loopw [3] (λi wr=>∃k:Nat,k<=n/\i=Z J k/\(∀j,j<k->jl l j=aa)/\af w.1.size w wr) (λi _=>n-(aA i).toNat);case atStart=>exact⟨0,bi _,rfl,λj hj=>absurd hj (by omega),ax _ _⟩
 obtain⟨k,hk,rfl,hall,ai⟩:=hrel;have HA:=I hall;have HB:=I ai;have hsz:=ai.size;clear hall ai;by_cases hlt:k<n
 ·obtain⟨b,off,rfl,hb,hit⟩:=HC.o k hlt;obtain⟨c0,c1,c2,c3⟩:=hit.below hb HB.o;clear hit;have HR:=au.o k;obtain⟨x,hx⟩:=aj ((aq.it l k).1);rw[<-hx]at c0 HR;clear hx c1 c2 c3;have ae:=I HR;clear HR;cases q:bE x;·have H:=A (bN l=Y) (by rw[HN.o];exact la k hlt (by rw[ae.o,q];rfl));go_wp2_with fail;refine aH (nt) λw1 O=>?_;rw[O,q];clear O;go_wp2_with fail;go_quiet (fail);go_wp2;go_ret;exact⟨aF (by rw[H.o,dZ]),HB.o.trans ((below_drewN _ _).mono hsz)⟩
  by_cases ag:k=0
  ·have ah:=A (jl l k=aa) (by rw[ae.o,q,aK ag];rfl);have am:¬(0:Int)<(k:Int):=by omega
   have hk2:decide ((0:Int)<(k:Int))=Y:=aM am;have hk3:decide (0<k)=Y:=aM (by omega);have ap:=I ag;clear ag;go_wp2_with fail;refine aH (nt) λw1 O=>?_;rw[O,q];clear O;go_wp2_with fail;go_quiet (fail);go_wp2;go_roundw;case rel=> refine⟨k+1,by omega,by go_num,λj hj=>?_,HB.o.trans ((below_drewN _ _).mono hsz)⟩;by_cases e:j=k;subst e;exact ah.o;exact HA.o j (by omega)
   simp[aA];omega
  obtain⟨b',aB,ea,hb',ar⟩:=HC.o (k-1) (by omega);obtain⟨d0,_,_,_⟩:=ar.below hb' HB.o;clear ar;simp only[Option.some.injEq,Addr.mk.injEq,and_true]at ea;obtain⟨rfl,rfl⟩:=ea;obtain⟨y,hy⟩:=aj ((aq.it l (k-1)).1);rw[<-hy]at d0 ae;clear hy;obtain⟨j,hj⟩:=aj (k-1);rw[<-hj]at d0;have hkj:(k:Int)-1=(j:Int):=by omega
  have aw:(j:Int)<(n:Int):=by omega
  have am:(0:Int)<(k:Int):=by omega
  have hk2:decide ((0:Int)<(k:Int))=aa:=aK am;have hk3:decide (0<k)=aa:=aK (by omega);have hwr:IntKind.i64.wrap ((k:Int)-1)=(j:Int):=by rw[hkj,kv,eL _ (by omega)]
  have ap:=I ag;clear hj ag;by_cases hle:x<=y;·have H:=I (show bN l=Y by rw[HN.o];refine la k hlt ?_;rw[ae.o,q,aM ap.o,aM (show¬y<x by omega)];rfl);have av:decide (x<=y)=aa:=aK hle;go_wp2_with fail;refine aH (nt) λw1 O=>?_;rw[O,q];clear O;go_wp2_with fail;go_quiet (fail);go_wp2;go_ret;exact⟨aF (by rw[H.o,dZ]),HB.o.trans ((below_drewN _ _).mono hsz)⟩
  have ah:=A (jl l k=aa) (by rw[ae.o,q,aK (show y<x by omega)];simp);have av:decide (x<=y)=Y:=aM hle;go_wp2_with fail;refine aH (nt) λw1 O=>?_;rw[O,q];clear O;go_wp2_with fail;go_quiet (fail);go_wp2;go_roundw;case rel=> refine⟨k+1,by omega,by go_num,λj hj=>?_,HB.o.trans ((below_drewN _ _).mono hsz)⟩;by_cases e:j=k;subst e;exact ah.o;exact HA.o j (by omega)
  simp[aA];omega
 have ek:k=n:=by omega
 subst ek;go_wp2;go_ret;exact⟨aF (by rw[HN.o,iJ HA.o,HT.o];rfl),HB.o⟩
theorem DT (l)(h:aX w v l):
  ay prog 226 #[v] w λe w'=>e=az (ak (aq.eU l))/\af w.1.size w w':=by
 obtain⟨a,cap,rfl,l2,l3,_,hc⟩:=cK h;have HC:=I hc;have HN:=A (aq.eU l=ei l.length λi=>bK (aq.it l i).2.1&&(bK (aq.it l i).2.2.1&&zB (aq.it l i).2.2.2)) rfl;generalize hn:l.length=n at*;go_enter func226,ntmps226;go_wp2;go_loopw [3] (λi wr=>∃k:Nat,k<=n/\i=Z J k/\(∀j,j<k->(bK (aq.it l j).2.1&&(bK (aq.it l j).2.2.1&&zB (aq.it l j).2.2.2))=aa)/\af w.1.size w wr) (λi _=>n-(aA i).toNat);case atStart=>exact⟨0,bi _,rfl,λj hj=>absurd hj (by omega),ax _ _⟩
 obtain⟨k,hk,rfl,hall,ac⟩:=hrel;have HA:=I hall;have HB:=I ac;have hsz:=ac.size;by_cases hlt:k<n
 ·obtain⟨b,off,rfl,hb,hit⟩:=HC.o k hlt;have hit:=hit.below hb ac;obtain⟨c0,c1,c2,c3⟩:=hit;obtain⟨x,hx⟩:=aj (aq.it l k);rw[<-hx]at c0 c1 c2 c3;have HX:=I hx;obtain⟨xi,O,xb,xc⟩:=x;simp only at c0 c1 c2 c3;have HF:=A ((bK (xi,O,xb,xc).2.1&&(bK (xi,O,xb,xc).2.2.1&&zB (xi,O,xb,xc).2.2.2))=Y->aq.eU l=Y) (λe=>by rw[HN.o];exact la k hlt (by rw[<-HX.o];exact e));have HK:=I (show(bK (xi,O,xb,xc).2.1&&(bK (xi,O,xb,xc).2.2.1&&zB (xi,O,xb,xc).2.2.2))=aa->∀j,j<k+1->(bK (aq.it l j).2.1&&(bK (aq.it l j).2.2.1&&zB (aq.it l j).2.2.2))=aa from λe j hj=>by by_cases ej:j=k;subst ej;rw[<-HX.o];exact e;exact HA.o j (by omega));by_cases a1:O<1;·have H:=I (HF.o (by show(bK O&&(bK xb&&zB xc))=Y;rw[(show bK O=Y from aM (by omega))];rfl));go_wp2;go_ret;exact⟨aF H.o.symm,HB.o.alloc (by omega) _⟩
  by_cases a2:2305843009213693951<=O;·have H:=I (HF.o (by show(bK O&&(bK xb&&zB xc))=Y;rw[(show bK O=Y from aM (by omega))];rfl));go_wp2;go_ret;exact⟨aF H.o.symm,HB.o.alloc (by omega) _⟩
  by_cases b1:xb<1;·have H:=I (HF.o (by show(bK O&&(bK xb&&zB xc))=Y;rw[(show bK xb=Y from aM (by omega)),iD,dZ]));go_wp2;go_ret;exact⟨aF H.o.symm,HB.o.alloc (by omega) _⟩
  by_cases b2:2305843009213693951<=xb;·have H:=I (HF.o (by show(bK O&&(bK xb&&zB xc))=Y;rw[(show bK xb=Y from aM (by omega)),iD,dZ]));go_wp2;go_ret;exact⟨aF H.o.symm,HB.o.alloc (by omega) _⟩
  by_cases z:¬xc=0
  ·have H:=I (HF.o (by show(bK O&&(bK xb&&zB xc))=Y;rw[(show zB xc=Y from aM z),dZ,dZ]));have zz:(xc != 0)=aa:=by simpa using z
   go_wp2;go_ret;exact⟨aF H.o.symm,HB.o.alloc (by omega) _⟩
  have z:xc=0:=ry z;have H:=I (HK.o (by show(bK O&&(bK xb&&zB xc))=aa;rw[bS,bS,pd,pd,jq];omega));go_wp2;go_roundw;case rel=>exact⟨k+1,by omega,by go_num,H.o,HB.o.alloc (by omega) _⟩
  simp[aA];omega
 have ek:k=n:=by omega
 subst ek;go_wp2;go_ret;exact⟨aF (by rw[HN.o,iJ HA.o]),HB.o⟩
theorem Uh (h:aX w v l):
  ay prog 230 #[v] w λe w'=>e=az (ak (pK l))/\af w.1.size w w':=by
 obtain⟨a,cap,rfl,l2,l3,_,hc⟩:=cK h;have HC:=I hc;have HN:=A (pK l=ei l.length λi=>tB (aq.it l i).2.1&&(aG (aq.it l i).2.2.1&&zB (aq.it l i).2.2.2)) rfl;generalize hn:l.length=n at*;go_enter func230,ntmps230;go_wp2;go_loopw [3] (λi wr=>∃k:Nat,k<=n/\i=Z J k/\(∀j,j<k->(tB (aq.it l j).2.1&&(aG (aq.it l j).2.2.1&&zB (aq.it l j).2.2.2))=aa)/\af w.1.size w wr) (λi _=>n-(aA i).toNat);case atStart=>exact⟨0,bi _,rfl,λj hj=>absurd hj (by omega),ax _ _⟩
 obtain⟨k,hk,rfl,hall,ac⟩:=hrel;have HA:=I hall;have HB:=I ac;have hsz:=ac.size;by_cases hlt:k<n
 ·obtain⟨b,off,rfl,hb,hit⟩:=HC.o k hlt;have hit:=hit.below hb ac;obtain⟨c0,c1,c2,c3⟩:=hit;obtain⟨x,hx⟩:=aj (aq.it l k);rw[<-hx]at c0 c1 c2 c3;have HX:=I hx;obtain⟨xi,O,xb,xc⟩:=x;simp only at c0 c1 c2 c3;have HF:=A ((tB (xi,O,xb,xc).2.1&&(aG (xi,O,xb,xc).2.2.1&&zB (xi,O,xb,xc).2.2.2))=Y->pK l=Y) (λe=>by rw[HN.o];exact la k hlt (by rw[<-HX.o];exact e));have HK:=I (show(tB (xi,O,xb,xc).2.1&&(aG (xi,O,xb,xc).2.2.1&&zB (xi,O,xb,xc).2.2.2))=aa->∀j,j<k+1->(tB (aq.it l j).2.1&&(aG (aq.it l j).2.2.1&&zB (aq.it l j).2.2.2))=aa from λe j hj=>by by_cases ej:j=k;subst ej;rw[<-HX.o];exact e;exact HA.o j (by omega));cases q:aG xb;·have H:=I (HF.o (by show(tB O&&(aG xb&&zB xc))=Y;rw[q,iD,dZ]));go_wp2_with fail;refine aI (jk) ?_;rw[q];go_wp2;go_ret;exact⟨aF H.o.symm,HB.o.alloc (by omega) _⟩
  by_cases a1:O<1;·have H:=I (HF.o (by show(tB O&&(aG xb&&zB xc))=Y;rw[(show tB O=Y from aM (by omega))];rfl));go_wp2_with fail;refine aI (jk) ?_;rw[q];go_wp2;go_ret;exact⟨aF H.o.symm,HB.o.alloc (by omega) _⟩
  by_cases a2:2<O;·have H:=I (HF.o (by show(tB O&&(aG xb&&zB xc))=Y;rw[(show tB O=Y from aM (by omega))];rfl));go_wp2_with fail;refine aI (jk) ?_;rw[q];go_wp2;go_ret;exact⟨aF H.o.symm,HB.o.alloc (by omega) _⟩
  by_cases z:¬xc=0
  ·have H:=I (HF.o (by show(tB O&&(aG xb&&zB xc))=Y;rw[(show zB xc=Y from aM z),dZ,dZ]));have zz:(xc != 0)=aa:=by simpa using z
   go_wp2_with fail;refine aI (jk) ?_;rw[q];go_wp2;go_ret;exact⟨aF H.o.symm,HB.o.alloc (by omega) _⟩
  have z:xc=0:=ry z;have H:=I (HK.o (by show(tB O&&(aG xb&&zB xc))=aa;rw[bS,bS,Fa,io,jq];have:=io.1 q;omega));go_wp2_with fail;refine aI (jk) ?_;rw[q];go_wp2;go_roundw;case rel=>exact⟨k+1,by omega,by go_num,H.o,HB.o.alloc (by omega) _⟩
  simp[aA];omega
 have ek:k=n:=by omega
 subst ek;go_wp2;go_ret;exact⟨aF (by rw[HN.o,iJ HA.o]),HB.o⟩
theorem Po (h:aX w v l):
  ay prog 228 #[v] w λe w'=>e=az (ak (om l))/\af w.1.size w w':=by
 obtain⟨a,cap,rfl,l2,l3,_,hc⟩:=cK h;have HC:=I hc;have HN:=A (om l=ei l.length λi=>decide ((aq.it l i).1=(i:Int)+1)&&(dn (aq.it l i).2.1&&(zB (aq.it l i).2.2.1&&zB (aq.it l i).2.2.2))) rfl;generalize hn:l.length=n at*;go_enter func228,ntmps228;go_wp2;go_loopw [3] (λi wr=>∃k:Nat,k<=n/\i=Z J k/\(∀j,j<k->(decide ((aq.it l j).1=(j:Int)+1)&&(dn (aq.it l j).2.1&&(zB (aq.it l j).2.2.1&&zB (aq.it l j).2.2.2)))=aa)/\af w.1.size w wr) (λi _=>n-(aA i).toNat);case atStart=>exact⟨0,bi _,rfl,λj hj=>absurd hj (by omega),ax _ _⟩
 obtain⟨k,hk,rfl,hall,ac⟩:=hrel;have HA:=I hall;have HB:=I ac;have hsz:=ac.size;by_cases hlt:k<n
 ·obtain⟨b,off,rfl,hb,hit⟩:=HC.o k hlt;have hit:=hit.below hb ac;obtain⟨c0,c1,c2,c3⟩:=hit;obtain⟨x,hx⟩:=aj (aq.it l k);rw[<-hx]at c0 c1 c2 c3;have HX:=I hx;obtain⟨xi,O,xb,xc⟩:=x;simp only at c0 c1 c2 c3;have HF:=A ((decide ((xi,O,xb,xc).1=(k:Int)+1)&&(dn (xi,O,xb,xc).2.1&&(zB (xi,O,xb,xc).2.2.1&&zB (xi,O,xb,xc).2.2.2)))=Y->om l=Y) (λe=>by rw[HN.o];exact la k hlt (by rw[<-HX.o];exact e));have HK:=I (show(decide ((xi,O,xb,xc).1=(k:Int)+1)&&(dn (xi,O,xb,xc).2.1&&(zB (xi,O,xb,xc).2.2.1&&zB (xi,O,xb,xc).2.2.2)))=aa->∀j,j<k+1->(decide ((aq.it l j).1=(j:Int)+1)&&(dn (aq.it l j).2.1&&(zB (aq.it l j).2.2.1&&zB (aq.it l j).2.2.2)))=aa from λe j hj=>by by_cases ej:j=k;subst ej;rw[<-HX.o];exact e;exact HA.o j (by omega));by_cases i1:¬xi=(k:Int)+1
  ·have H:=I (HF.o (by show(decide (xi=(k:Int)+1)&&(dn O&&(zB xb&&zB xc)))=Y;rw[aM i1];rfl));have zz:(xi != (k:Int)+1)=aa:=by simpa using i1
   go_wp2;go_ret;exact⟨aF H.o.symm,HB.o.alloc (by omega) _⟩
  have i1:xi=(k:Int)+1:=ry i1;have yy:(xi != (k:Int)+1)=Y:=by rw[i1];simp
  have ae:=I i1;by_cases a1:O<0;·have H:=I (HF.o (by show(decide (xi=(k:Int)+1)&&(dn O&&(zB xb&&zB xc)))=Y;rw[(show dn O=Y from aM (by omega)),iD,dZ]));go_wp2;go_ret;exact⟨aF H.o.symm,HB.o.alloc (by omega) _⟩
  by_cases a2:4294967296<=O;·have H:=I (HF.o (by show(decide (xi=(k:Int)+1)&&(dn O&&(zB xb&&zB xc)))=Y;rw[(show dn O=Y from aM (by omega)),iD,dZ]));go_wp2;go_ret;exact⟨aF H.o.symm,HB.o.alloc (by omega) _⟩
  by_cases zb:¬xb=0
  ·have H:=I (HF.o (by show(decide (xi=(k:Int)+1)&&(dn O&&(zB xb&&zB xc)))=Y;rw[(show zB xb=Y from aM zb),iD,dZ,dZ]));have zz:(xb != 0)=aa:=by simpa using zb
   go_wp2;go_ret;exact⟨aF H.o.symm,HB.o.alloc (by omega) _⟩
  have zb:xb=0:=ry zb;by_cases zc:¬xc=0
  ·have H:=I (HF.o (by show(decide (xi=(k:Int)+1)&&(dn O&&(zB xb&&zB xc)))=Y;rw[(show zB xc=Y from aM zc),dZ,dZ,dZ]));have zz:(xc != 0)=aa:=by simpa using zc
   go_wp2;go_ret;exact⟨aF H.o.symm,HB.o.alloc (by omega) _⟩
  have zc:xc=0:=ry zc;have H:=I (HK.o (by show(decide (xi=(k:Int)+1)&&(dn O&&(zB xb&&zB xc)))=aa;rw[bS,bS,bS,decide_eq_true_iff,rb,jq,jq];exact⟨ae.o,by omega,by omega,by omega⟩));go_wp2;go_roundw;case rel=>exact⟨k+1,by omega,by go_num,H.o,HB.o.alloc (by omega) _⟩
  simp[aA];omega
 have ek:k=n:=by omega
 subst ek;go_wp2;go_ret;exact⟨aF (by rw[HN.o,iJ HA.o]),HB.o⟩
theorem Hc (h:aX w v l):
  ay prog 229 #[v] w λe w'=>e=az (ak (oO l))/\af w.1.size w w':=by
 obtain⟨a,cap,rfl,l2,l3,_,hc⟩:=cK h;have HC:=I hc;have HN:=A (oO l=ei l.length λi=>zB (aq.it l i).2.1&&(zB (aq.it l i).2.2.1&&zB (aq.it l i).2.2.2)) rfl;generalize hn:l.length=n at*;go_enter func229,ntmps229;go_wp2;go_loopw [3] (λi wr=>∃k:Nat,k<=n/\i=Z J k/\(∀j,j<k->(zB (aq.it l j).2.1&&(zB (aq.it l j).2.2.1&&zB (aq.it l j).2.2.2))=aa)/\af w.1.size w wr) (λi _=>n-(aA i).toNat);case atStart=>exact⟨0,bi _,rfl,λj hj=>absurd hj (by omega),ax _ _⟩
 obtain⟨k,hk,rfl,hall,ac⟩:=hrel;have HA:=I hall;have HB:=I ac;by_cases hlt:k<n
 ·obtain⟨b,off,rfl,hb,hit⟩:=HC.o k hlt;have hit:=hit.below hb ac;obtain⟨c0,c1,c2,c3⟩:=hit;obtain⟨x,hx⟩:=aj (aq.it l k);rw[<-hx]at c0 c1 c2 c3;have HX:=I hx;obtain⟨xi,O,xb,xc⟩:=x;simp only at c0 c1 c2 c3;have HF:=A ((zB (xi,O,xb,xc).2.1&&(zB (xi,O,xb,xc).2.2.1&&zB (xi,O,xb,xc).2.2.2))=Y->oO l=Y) (λe=>by rw[HN.o];exact la k hlt (by rw[<-HX.o];exact e));have HK:=I (show(zB (xi,O,xb,xc).2.1&&(zB (xi,O,xb,xc).2.2.1&&zB (xi,O,xb,xc).2.2.2))=aa->∀j,j<k+1->(zB (aq.it l j).2.1&&(zB (aq.it l j).2.2.1&&zB (aq.it l j).2.2.2))=aa from λe j hj=>by by_cases ej:j=k;subst ej;rw[<-HX.o];exact e;exact HA.o j (by omega));by_cases za:¬O=0
  ·have H:=I (HF.o (by show(zB O&&(zB xb&&zB xc))=Y;rw[(show zB O=Y from aM za)];rfl));have zz:(O != 0)=aa:=by simpa using za
   go_wp2;go_ret;exact⟨aF H.o.symm,HB.o⟩
  have za:O=0:=ry za;by_cases zb:¬xb=0
  ·have H:=I (HF.o (by show(zB O&&(zB xb&&zB xc))=Y;rw[(show zB xb=Y from aM zb)];rw[iD,dZ]));have zz:(xb != 0)=aa:=by simpa using zb
   go_wp2;go_ret;exact⟨aF H.o.symm,HB.o⟩
  have zb:xb=0:=ry zb;by_cases zc:¬xc=0
  ·have H:=I (HF.o (by show(zB O&&(zB xb&&zB xc))=Y;rw[(show zB xc=Y from aM zc)];rw[dZ,dZ]));have zz:(xc != 0)=aa:=by simpa using zc
   go_wp2;go_ret;exact⟨aF H.o.symm,HB.o⟩
  have zc:xc=0:=ry zc;have H:=I (HK.o (by show(zB O&&(zB xb&&zB xc))=aa;rw[bS,bS,jq,jq,jq];omega));go_wp2;go_roundw;case rel=>exact⟨k+1,by omega,by go_num,H.o,HB.o⟩
  simp[aA];omega
 have ek:k=n:=by omega
 subst ek;go_wp2;go_ret;exact⟨aF (by rw[HN.o,iJ HA.o]),HB.o⟩
theorem MQ (w:ac)(x y z)(h:∀u∈[x,y,z],bq u):aY (w.alloc (ah #[Z J x,Z J y,Z J z] 3)) (U (E ⟨w.1.size,0,V⟩) 3 3) [x,y,z]:=by refine⟨_,_,rfl,by simp,by unfold maxLen;omega,h,.inr ⟨w.1.size,0,rfl,by simp,λi hi=>?_⟩⟩;rcases(show i=0\/i=1\/i=2 by simp at hi;omega)with rfl|rfl|rfl<;>simp
theorem EA{u}(h:aX w v l):
  ay prog 227 #[v,Z J u] w λe w'=>e=az (ak (ko l u))/\af w.1.size w w':=by
 obtain⟨a,cap,rfl,l2,l3,ag,hc⟩:=cK h;have ai:=I (show∀k,k<l.length->∀xi O xb xc,(xi,O,xb,xc)=aq.it l k->∀z∈[O,xb,xc],bq z from λk hk xi O xb xc e z hz=>by obtain⟨_,h1,h2,h3⟩:=ag _ (CT hk);rw[<-e]at h1 h2 h3;simp only[List.mem_cons,List.not_mem_nil,or_false]at hz;rcases hz with rfl|rfl|rfl;exact h1;exact h2;exact h3);clear ag;have HC:=I hc;clear hc h;have HN:=A (ko l u=ei l.length λi=>(aG (aq.it l i).2.1&&(aG (aq.it l i).2.2.1&&aG (aq.it l i).2.2.2))&&decide ((aq.it l i).1≠u)) rfl;generalize hn:l.length=n at*;clear hn;go_enter func227,ntmps227;go_wp2;go_loopw [5] (λi wr=>∃k:Nat,k<=n/\i=Z J k/\(∀j,j<k->((aG (aq.it l j).2.1&&(aG (aq.it l j).2.2.1&&aG (aq.it l j).2.2.2))&&decide ((aq.it l j).1≠u))=aa)/\af w.1.size w wr) (λi _=>n-(aA i).toNat);case atStart=>exact⟨0,bi _,rfl,λj hj=>absurd hj (by omega),ax _ _⟩
 obtain⟨k,hk,rfl,hall,ae⟩:=hrel;have HA:=I hall;have HB:=I ae;have hsz:=ae.size;by_cases hlt:k<n
 ·obtain⟨b,off,rfl,hb,hit⟩:=HC.o k hlt;have hit:=hit.below hb ae;obtain⟨c0,c1,c2,c3⟩:=hit;obtain⟨x,hx⟩:=aj (aq.it l k);rw[<-hx]at c0 c1 c2 c3;have HX:=I hx;clear hx hall ae;obtain⟨xi,O,xb,xc⟩:=x;simp only at c0 c1 c2 c3;have HF:=A (((aG (xi,O,xb,xc).2.1&&(aG (xi,O,xb,xc).2.2.1&&aG (xi,O,xb,xc).2.2.2))&&decide ((xi,O,xb,xc).1≠u))=Y->ko l u=Y) (λe=>by rw[HN.o];exact la k hlt (by rw[<-HX.o];exact e));have HK:=I (show((aG (xi,O,xb,xc).2.1&&(aG (xi,O,xb,xc).2.2.1&&aG (xi,O,xb,xc).2.2.2))&&decide ((xi,O,xb,xc).1≠u))=aa->∀j,j<k+1->((aG (aq.it l j).2.1&&(aG (aq.it l j).2.2.1&&aG (aq.it l j).2.2.2))&&decide ((aq.it l j).1≠u))=aa from λe j hj=>by by_cases ej:j=k;subst ej;rw[<-HX.o];exact e;exact HA.o j (by omega));have LT:=I (show aY ((wr.alloc (ah #[Z J xi,Z J O,Z J xb,Z J xc] 147)).alloc (ah #[Z J O,Z J xb,Z J xc] 3)) (U (E ⟨wr.1.size+1,0,V⟩) 3 3) [O,xb,xc]by have:=MQ (wr.alloc (ah #[Z J xi,Z J O,Z J xb,Z J xc] 147)) O xb xc (ai.o k hlt _ _ _ _ HX.o);rw[sZ]at this;exact this);cases q:(aG O&&(aG xb&&aG xc));·have H:=I (HF.o (by show((aG O&&(aG xb&&aG xc))&&decide (xi≠u))=Y;rw[q];rfl));go_wp2_with fail;refine aH (su LT.o) λw1 ac=>?_;rw[ac,show([O,xb,xc].all aG)=(aG O&&(aG xb&&aG xc))by simp,q];clear ac;go_wp2;go_ret;exact⟨aF H.o.symm,((HB.o.alloc (by omega) _).alloc (by simp;omega) _)⟩
  by_cases iu:xi=u
  ·have H:=I (HF.o (by show((aG O&&(aG xb&&aG xc))&&decide (xi≠u))=Y;rw[aM (show¬xi≠u from λe=>e iu),dZ]));have zz:(xi==u)=aa:=by simpa using iu
   clear iu;go_wp2_with fail;refine aH (su LT.o) λw1 ac=>?_;rw[ac,show([O,xb,xc].all aG)=(aG O&&(aG xb&&aG xc))by simp,q];clear ac;go_wp2;go_ret;exact⟨aF H.o.symm,((HB.o.alloc (by omega) _).alloc (by simp;omega) _)⟩
  have zz:(xi==u)=Y:=by simpa using iu
  have H:=I (HK.o (by show((aG O&&(aG xb&&aG xc))&&decide (xi≠u))=aa;rw[q,aK iu];rfl));go_wp2_with fail;refine aH (su LT.o) λw1 ac=>?_;rw[ac,show([O,xb,xc].all aG)=(aG O&&(aG xb&&aG xc))by simp,q];clear ac;go_wp2;go_roundw;case rel=>exact⟨k+1,by omega,by go_num,H.o,((HB.o.alloc (by omega) _).alloc (by simp;omega) _)⟩
  simp[aA];omega
 have ek:k=n:=by omega
 subst ek;clear hall ae;go_wp2;go_ret;exact⟨aF (by rw[HN.o,iJ HA.o]),HB.o⟩
theorem Ee (k fr)(h:aX w v l):
  ay prog 167 #[aD #[Z J k,Z J fr,v]] w λe w'=>e=az (ak (aq.okF k fr l))/\af w.1.size w w':=by
 have ae:=I (Qp k fr l);have HM:=bj w λw1 hb=>h.below hb;obtain⟨a,cap,rfl,l2,l3,_,hc⟩:=cK h;have HC:=I hc;clear h hc;obtain⟨n,hn⟩:=aj l.length
 have HR:=I (show nr k fr l=((decide (l.length<=12)&&bN l)&&(if k=1 then bE fr&&(decide (l.length=1)&&(decide ((aq.it l 0).1=fr)&&aq.eU l))else if k=2 then zB fr&&(decide (1<=l.length)&&aq.eU l)
  else if k=3 then bE fr&&ko l fr else if k=4 then zB fr&&ko l 0 else if k=5 then bE fr&&(decide (1<=l.length)&&om l)
  else if k=6 then zB fr&&(decide (1<=l.length)&&oO l)else if k=7 then bE fr&&(decide (1<=l.length)&&pK l)else Y))from rfl);have ag:=I hn;rw[<-hn]at l2 HM HC ⊢;clear hn;obtain⟨bx,am⟩:=aj (w.alloc (ah #[Z J k,Z J fr,U a n cap] 65));have aI:bx.1.size=w.1.size+1:=by rw[am];simp
 have CB:=I (show∀w1,af bx.1.size bx w1->w1.cell? ⟨w.1.size,0,V⟩=E (Z J k)/\w1.cell? ⟨w.1.size,1,V⟩=E (Z J fr)/\w1.cell? ⟨w.1.size,2,V⟩=E (U a n cap)from λw1 hb=>by
  have hlt:w.1.size<bx.1.size:=by omega
  rw[hb.cell (p:=⟨w.1.size,0,V⟩) hlt,hb.cell (p:=⟨w.1.size,1,V⟩) hlt,hb.cell (p:=⟨w.1.size,2,V⟩) hlt,am];refine⟨?_,?_,?_⟩<;>simp[go_sem]);have BX:=A (af w.1.size w bx) (by rw[am];exact(ax _ _).alloc (aw _) _);obtain⟨e0,e1,e2⟩:=CB.o bx (ax _ _);have RS:=I (QE l bx (HM.o _ BX.o));go_enter func167,ntmps167;go_wp2_with fail;rw[<-am];clear am;refine aH RS.o λw1 hb1=>?_;have s1:=hb1.size;obtain⟨f0,f1,f2⟩:=CB.o w1 hb1;have O:=I (BX.o.trans (hb1.mono (by omega)));have IT:=I (HM.o w1 O.o);have zw:w.1.size<=w1.1.size:=by omega
 clear hb1 e0 e1 e2 RS;cases q0:(decide (l.length<=12)&&bN l);·have H:=A (aq.okF k fr l=Y) (by rw[<-ae.o,HR.o,q0];rfl);go_wp2;go_ret;exact⟨aF H.o.symm,O.o⟩
 by_cases k1:k=1
 ·subst k1;have ac:=A (nr 1 fr l=(bE fr&&(decide (l.length=1)&&(decide ((aq.it l 0).1=fr)&&aq.eU l)))) (by rw[HR.o,q0];rfl);clear HR q0;by_cases b1:1<=fr;rotate_left;·have d1:decide (1<=fr)=Y:=aM b1;have H:=A (aq.okF 1 fr l=Y) (by rw[<-ae.o,ac.o];rw[kD (λx=>b1 x.1)];rfl);go_wp2_with fail;go_quiet (fail);go_wp2;go_ret;exact⟨aF H.o.symm,O.o.trans ((below_drewN _ _).mono zw)⟩
  have d1:decide (1<=fr)=aa:=aK b1;by_cases b2:fr<=12;rotate_left;·have d2:decide (fr<=12)=Y:=aM b2;have H:=A (aq.okF 1 fr l=Y) (by rw[<-ae.o,ac.o];rw[kD (λx=>b2 x.2)];rfl);go_wp2_with fail;go_quiet (fail);go_wp2;go_ret;exact⟨aF H.o.symm,O.o.trans ((below_drewN _ _).mono zw)⟩
  have d2:decide (fr<=12)=aa:=aK b2;by_cases n1:n=1;rotate_left
  ·have H:=A (aq.okF 1 fr l=Y) (by rw[<-ae.o,ac.o,dW b1 b2,aM (by rw[<-ag.o];exact n1)];rfl);have ai:((n:Int)==1)=Y:=by simp;omega
   go_wp2_with fail;go_quiet (fail);go_wp2;go_ret;exact⟨aF H.o.symm,O.o.trans ((below_drewN _ _).mono zw)⟩
  obtain⟨b,off,rfl,hbl,hit⟩:=HC.o 0 (by omega);obtain⟨c0,_,_,_⟩:=hit.below hbl O.o;have aC:b<w1.1.size:=by omega
  rw[uD,lM]at c0;obtain⟨x,hx⟩:=aj ((aq.it l 0).1);rw[<-hx]at c0;have HX:=I hx;clear hx hit;have ai:((n:Int)==1)=aa:=by simp;omega
  have aG:(0:Int)<(n:Int):=by omega
  by_cases xf:x=fr;rotate_left
  ·have H:=A (aq.okF 1 fr l=Y) (by rw[<-ae.o,ac.o,dW b1 b2,aK (show l.length=1 by rw[<-ag.o];exact n1),aM (by rw[<-HX.o];exact xf)];rfl);have aB:(x==fr)=Y:=by simpa using xf
   clear n1;go_wp2_with fail;go_quiet (fail);go_wp2;go_ret;exact⟨aF H.o.symm,O.o.trans ((below_drewN _ _).mono zw)⟩
  have H:=A (aq.okF 1 fr l=aq.eU l) (by rw[<-ae.o,ac.o,dW b1 b2,aK (show l.length=1 by rw[<-ag.o];exact n1),aK (show(aq.it l 0).1=fr by rw[<-HX.o];exact xf)];rfl);have aB:(x==fr)=aa:=by simpa using xf
  clear n1 xf;go_wp2_with fail;have aJ:w.1.size<w1.1.size:=by omega
  refine nA (by kernel_rfl) (by kernel_rfl) ?_;intro av G hI hG aA au;repeat(go_big_quiet_step (first|(go_at_call 226;exact lW hG au (DT l (IT.o.below (hG.o _))))))
  refine oC ?_;intro w2 hw';obtain⟨u,hw''⟩:=hw';have ap:=hG.o u;rw[<-hw'']at ap;have B2:=I ap;clear hw'' aA au hG u hI G av ap;go_wp2;go_ret;exact⟨aF H.o.symm,O.o.trans (B2.o.mono zw)⟩
 by_cases k2:k=2
 ·subst k2;have ac:=A (nr 2 fr l=(zB fr&&(decide (1<=l.length)&&aq.eU l))) (by rw[HR.o,q0];rfl);clear HR q0;by_cases z:fr=0;rotate_left
  ·have zz:(fr==0)=Y:=by simpa using z
   have H:=A (aq.okF 2 fr l=Y) (by rw[<-ae.o,ac.o];rw[show zB fr=Y from aM z];rfl);go_wp2_with fail;all_goals(go_ret;exact⟨aF H.o.symm,O.o⟩)
  have HZ:=I z;have zz:(fr==0)=aa:=by simpa using z
  have b1:¬1<=fr:=by omega
  have d1:decide (1<=fr)=Y:=aM b1;clear z;by_cases n1:1<=n;rotate_left
  ·have ai:¬(1:Int)<=(n:Int):=by omega
   have H:=A (aq.okF 2 fr l=Y) (by rw[<-ae.o,ac.o];rw[(show zB fr=aa from aK HZ.o),aM (by rw[<-ag.o];exact n1)];rfl);go_wp2_with fail;all_goals(go_ret;exact⟨aF H.o.symm,O.o⟩)
  have ai:(1:Int)<=(n:Int):=by omega
  have H:=A (aq.okF 2 fr l=aq.eU l) (by rw[<-ae.o,ac.o,(show zB fr=aa from aK HZ.o),aK (show 1<=l.length by rw[<-ag.o];exact n1)];rfl);go_wp2_with fail;refine aH (DT l IT.o) λw2 hb2=>?_;have B2:=I hb2;clear hb2;go_wp2;go_ret;exact⟨aF H.o.symm,O.o.trans (B2.o.mono zw)⟩
 by_cases k3:k=3
 ·subst k3;have ac:=A (nr 3 fr l=(bE fr&&ko l fr)) (by rw[HR.o,q0];rfl);clear HR q0;by_cases b1:1<=fr;rotate_left;·have d1:decide (1<=fr)=Y:=aM b1;have H:=A (aq.okF 3 fr l=Y) (by rw[<-ae.o,ac.o];rw[kD (λx=>b1 x.1)];rfl);go_wp2_with fail;all_goals(go_ret;exact⟨aF H.o.symm,O.o⟩)
  have d1:decide (1<=fr)=aa:=aK b1;by_cases b2:fr<=12;rotate_left;·have d2:decide (fr<=12)=Y:=aM b2;have H:=A (aq.okF 3 fr l=Y) (by rw[<-ae.o,ac.o];rw[kD (λx=>b2 x.2)];rfl);go_wp2_with fail;all_goals(go_ret;exact⟨aF H.o.symm,O.o⟩)
  have d2:decide (fr<=12)=aa:=aK b2;have H:=A (aq.okF 3 fr l=ko l fr) (by rw[<-ae.o,ac.o,dW b1 b2];rfl);go_wp2_with fail;refine aH (EA IT.o) λw2 hb2=>?_;have B2:=I hb2;clear hb2;go_wp2;go_ret;exact⟨aF H.o.symm,O.o.trans (B2.o.mono zw)⟩
 by_cases k4:k=4
 ·subst k4;have ac:=A (nr 4 fr l=(zB fr&&ko l 0)) (by rw[HR.o,q0];rfl);clear HR q0;by_cases z:fr=0;rotate_left
  ·have zz:(fr==0)=Y:=by simpa using z
   have H:=A (aq.okF 4 fr l=Y) (by rw[<-ae.o,ac.o];rw[show zB fr=Y from aM z];rfl);go_wp2_with fail;all_goals(go_ret;exact⟨aF H.o.symm,O.o⟩)
  have HZ:=I z;have zz:(fr==0)=aa:=by simpa using z
  have b1:¬1<=fr:=by omega
  have d1:decide (1<=fr)=Y:=aM b1;clear z;have H:=A (aq.okF 4 fr l=ko l 0) (by rw[<-ae.o,ac.o,(show zB fr=aa from aK HZ.o)];rfl);go_wp2_with fail;refine aH (EA IT.o) λw2 hb2=>?_;have B2:=I hb2;clear hb2;go_wp2;go_ret;exact⟨aF H.o.symm,O.o.trans (B2.o.mono zw)⟩
 by_cases k5:k=5
 ·subst k5;have ac:=A (nr 5 fr l=(bE fr&&(decide (1<=l.length)&&om l))) (by rw[HR.o,q0];rfl);clear HR q0;by_cases b1:1<=fr;rotate_left;·have d1:decide (1<=fr)=Y:=aM b1;have H:=A (aq.okF 5 fr l=Y) (by rw[<-ae.o,ac.o];rw[kD (λx=>b1 x.1)];rfl);go_wp2_with fail;all_goals(go_ret;exact⟨aF H.o.symm,O.o⟩)
  have d1:decide (1<=fr)=aa:=aK b1;by_cases b2:fr<=12;rotate_left;·have d2:decide (fr<=12)=Y:=aM b2;have H:=A (aq.okF 5 fr l=Y) (by rw[<-ae.o,ac.o];rw[kD (λx=>b2 x.2)];rfl);go_wp2_with fail;all_goals(go_ret;exact⟨aF H.o.symm,O.o⟩)
  have d2:decide (fr<=12)=aa:=aK b2;by_cases n1:1<=n;rotate_left
  ·have ai:¬(1:Int)<=(n:Int):=by omega
   have H:=A (aq.okF 5 fr l=Y) (by rw[<-ae.o,ac.o];rw[dW b1 b2,aM (by rw[<-ag.o];exact n1)];rfl);go_wp2_with fail;all_goals(go_ret;exact⟨aF H.o.symm,O.o⟩)
  have ai:(1:Int)<=(n:Int):=by omega
  have H:=A (aq.okF 5 fr l=om l) (by rw[<-ae.o,ac.o,dW b1 b2,aK (show 1<=l.length by rw[<-ag.o];exact n1)];rfl);go_wp2_with fail;refine aH (Po IT.o) λw2 hb2=>?_;have B2:=I hb2;clear hb2;go_wp2;go_ret;exact⟨aF H.o.symm,O.o.trans (B2.o.mono zw)⟩
 by_cases k6:k=6
 ·subst k6;have ac:=A (nr 6 fr l=(zB fr&&(decide (1<=l.length)&&oO l))) (by rw[HR.o,q0];rfl);clear HR q0;by_cases z:fr=0;rotate_left
  ·have zz:(fr==0)=Y:=by simpa using z
   have H:=A (aq.okF 6 fr l=Y) (by rw[<-ae.o,ac.o];rw[show zB fr=Y from aM z];rfl);go_wp2_with fail;all_goals(go_ret;exact⟨aF H.o.symm,O.o⟩)
  have HZ:=I z;have zz:(fr==0)=aa:=by simpa using z
  have b1:¬1<=fr:=by omega
  have d1:decide (1<=fr)=Y:=aM b1;clear z;by_cases n1:1<=n;rotate_left
  ·have ai:¬(1:Int)<=(n:Int):=by omega
   have H:=A (aq.okF 6 fr l=Y) (by rw[<-ae.o,ac.o];rw[(show zB fr=aa from aK HZ.o),aM (by rw[<-ag.o];exact n1)];rfl);go_wp2_with fail;all_goals(go_ret;exact⟨aF H.o.symm,O.o⟩)
  have ai:(1:Int)<=(n:Int):=by omega
  have H:=A (aq.okF 6 fr l=oO l) (by rw[<-ae.o,ac.o,(show zB fr=aa from aK HZ.o),aK (show 1<=l.length by rw[<-ag.o];exact n1)];rfl);go_wp2_with fail;refine aH (Hc IT.o) λw2 hb2=>?_;have B2:=I hb2;clear hb2;go_wp2;go_ret;exact⟨aF H.o.symm,O.o.trans (B2.o.mono zw)⟩
 by_cases k7:k=7
 ·subst k7;have ac:=A (nr 7 fr l=(bE fr&&(decide (1<=l.length)&&pK l))) (by rw[HR.o,q0];rfl);clear HR q0;by_cases b1:1<=fr;rotate_left;·have d1:decide (1<=fr)=Y:=aM b1;have H:=A (aq.okF 7 fr l=Y) (by rw[<-ae.o,ac.o];rw[kD (λx=>b1 x.1)];rfl);go_wp2_with fail;all_goals(go_ret;exact⟨aF H.o.symm,O.o⟩)
  have d1:decide (1<=fr)=aa:=aK b1;by_cases b2:fr<=12;rotate_left;·have d2:decide (fr<=12)=Y:=aM b2;have H:=A (aq.okF 7 fr l=Y) (by rw[<-ae.o,ac.o];rw[kD (λx=>b2 x.2)];rfl);go_wp2_with fail;all_goals(go_ret;exact⟨aF H.o.symm,O.o⟩)
  have d2:decide (fr<=12)=aa:=aK b2;by_cases n1:1<=n;rotate_left
  ·have ai:¬(1:Int)<=(n:Int):=by omega
   have H:=A (aq.okF 7 fr l=Y) (by rw[<-ae.o,ac.o];rw[dW b1 b2,aM (by rw[<-ag.o];exact n1)];rfl);go_wp2_with fail;all_goals(go_ret;exact⟨aF H.o.symm,O.o⟩)
  have ai:(1:Int)<=(n:Int):=by omega
  have H:=A (aq.okF 7 fr l=pK l) (by rw[<-ae.o,ac.o,dW b1 b2,aK (show 1<=l.length by rw[<-ag.o];exact n1)];rfl);go_wp2_with fail;refine aH (Uh IT.o) λw2 hb2=>?_;have B2:=I hb2;clear hb2;go_wp2;go_ret;exact⟨aF H.o.symm,O.o.trans (B2.o.mono zw)⟩
 have H:=A (aq.okF k fr l=Y) (by rw[<-ae.o,HR.o,q0,ar k1,ar k2,ar k3,ar k4,ar k5,ar k6,ar k7];rfl);by_cases b1:1<=fr
 ·by_cases b2:fr<=12;·go_wp2;go_ret;exact⟨aF H.o.symm,O.o⟩
  go_wp2;go_ret;exact⟨aF H.o.symm,O.o⟩
 go_wp2;go_ret;exact⟨aF H.o.symm,O.o⟩
end Go.Proofs.YtchideljndagjabGreat


