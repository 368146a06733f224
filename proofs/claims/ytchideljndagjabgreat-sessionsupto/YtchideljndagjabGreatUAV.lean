/- Joined -/
import Derived.Test.YtchideljndagjabGreatUAP
import Derived.Test.YtchideljndagjabGreatUAS
set_option linter.unusedVariables false
set_option maxHeartbeats 8000000
set_option maxRecDepth 100000
namespace Go.Proofs.YtchideljndagjabGreat
open aq aO aB bb eH aZ tA
open Go.Value renaming int->Z,slice->U,bool->ak,pointer->aC,agg->aD
open Go.IntKind renaming i64->J
open Go.Obj renaming cells->ah
open Go.Ending renaming returned->az
open Option renaming none->V,some->E
open Bool renaming false->Y,true->aa
open Go renaming World->ac,Value->ag,Calls->ay
open Go.RowKit renaming Below->af,intOf->aA
abbrev kx:=@Proofs.Tryz.underlying237
abbrev tv:=@Proofs.Tryz.underlying238
abbrev Vc:=@Int.mul_ediv_add_emod
open Go.Proofs.Tryz
variable {a r0 r1 t0 t1:Int}{l:List aq.It}{r:Nat}{H:Nat->RF}{C:Cf}{L:cI}{G:bk}{v:ag}{w wr:ac}
section
open Go.ChangeShapes Go.WideShapes Go.ChangeAt Go.RowKit
theorem Ra (b M k)(u r:Nat){R0 R1 R2}(hm:w.cell? ⟨b,2,V⟩=E (Z J M))(hbl:b<w.1.size)(hl:aX w v l)(hr:bN l=aa)(hu:u<13)(hr4:r<4):
  ay prog 240 #[aC (E ⟨b,0,V⟩),aD #[Z J k,Z J (u:Int),v],Z J (r:Int),aD (cw R0).toArray,aD (cw R1).toArray,aD (cw R2).toArray] w λe w'=>e=az (ak (lB M r u l (cf R0) (cf R1) (cf R2)))/\af w.1.size w w':=by
 obtain⟨va,vc,rfl,hl2,cA,_,bQ⟩:=cK hl;have HC:=I bQ;clear bQ;have av:=I (λ(W:ac) hb=>SL w k (u:Int) (U va l.length vc) R0 R1 R2 (W:=W) hb);have cy:=bj w λW hb=>hl.below hb;have HM:=bj w λW hb=>(hb.cell (p:=⟨b,2,V⟩) hbl).trans hm;have bW:=bj w λW hb=>qO k (u:Int) (hl.below hb) hr;have aO:=I (λ(W:ac)=>zy R0 W);have aQ:=I (λ(W:ac)=>zy R1 W);have aR:=I (λ(W:ac)=>zy R2 W);have aU:=I (λ(f g:Nat->Bool)(W:ac)=>PW f g W);have HI:=I (λj (hj:j<l.length)=>(gm hr).2 (aq.it l j) (by rw[cd l j hj];exact cN hj));have bA:=I (lx R0);have bB:=I (lx R1);have bC:=I (lx R2);have HD:=A (nv w k (u:Int) (U va l.length vc) R0 R1 R2=(((w.alloc (ah #[Z J k,Z J (u:Int),U va l.length vc] 65)).alloc (ah (cw R0).toArray 237)).alloc (ah (cw R1).toArray 237)).alloc (ah (cw R2).toArray 237)) rfl;obtain⟨W,hW⟩:=aj (nv w k (u:Int) (U va l.length vc) R0 R1 R2);rw[<-hW]at av HD;clear hW hm;obtain⟨q0,bS⟩:=aj (cf R0);obtain⟨q1,bT⟩:=aj (cf R1);obtain⟨q2,bU⟩:=aj (cf R2);rw[<-bS]at aO ⊢;rw[<-bT]at aQ ⊢;rw[<-bU]at aR ⊢;clear bS bT bU;obtain⟨X0,bJ⟩:∃X,X=cw R0:=⟨_,rfl⟩;obtain⟨X1,bK⟩:∃X,X=cw R1:=⟨_,rfl⟩;obtain⟨X2,bL⟩:∃X,X=cw R2:=⟨_,rfl⟩;rw[<-bJ]at av aO bA HD ⊢;rw[<-bK]at av aQ bB HD ⊢;rw[<-bL]at av aR bC HD ⊢;clear bJ bK bL;have cq:=A ((prog.info? 237).map (·.size)=E X0.length) (by rw[lD,bA.o]);have cr:=A ((prog.info? 237).map (·.size)=E X1.length) (by rw[lD,bB.o]);have ct:=A ((prog.info? 237).map (·.size)=E X2.length) (by rw[lD,bC.o]);obtain⟨⟨x0,x1,x2⟩,-,-,-,b0,s0⟩:=av.o W (ax _ _);have B0:=I b0;have ID:=I (bW.o W b0);clear b0;unfold pA at ID aO aQ aR aU;have cC:(u:Int)<13:=by omega
 obtain⟨fi,bf⟩:∃fi:Nat->Bool,fi=λx:Nat=>aP l x:=⟨_,rfl⟩;rw[<-bf]at ID;have bp:=I bf;clear bf;have HP:=I (λ(W1:ac)=>ve W1 fi);have br:=I (dN (ld fi));have a_:=I (eN fi);clear hl;go_enter func240,ntmps240;go_upto_region 1 with fail;rw[<-HD.o];go_wp2_with fail;refine aH ID.o λw1 hb1=>?_;have B1:=I hb1;clear hb1 x0 x1 x2;obtain⟨pt,pb,ag⟩:=HP.o w1;have PT:=I pt;have O:=I pb;have ae:=I ag;clear pt pb ag;obtain⟨CI,ba⟩:=aj (aN fi);rw[<-ba]at PT O ae br a_ ⊢;have aV:=I ba;clear ba;have SI:=A ((prog.info? 36).map (·.size)=E CI.toArray.size) (by rw[mb,bR,a_.o]);have bE:=A ((prog.info? 36).map (·.size)=E CI.length) (by rw[mb,a_.o]);obtain⟨W1,hW1⟩:=aj (w1.alloc (ah #[ak Y,ak Y,ak Y,ak Y,ak Y,ak Y,ak Y,ak Y,ak Y,ak Y,ak Y,ak Y,ak Y] 36));obtain⟨W2,hW2⟩:=aj (W1.setCells w1.1.size 0 CI);rw[<-hW1]at PT O ae;rw[<-hW2]at O ae;have bX:=I hW1;have bY:=I hW2;clear hW1 hW2;go_upto_region 2 with(rw[<-bX.o];refine cB rfl 36 _ _ rfl w1.1.size 0 CI.toArray rfl rfl PT.o SI.o br.o ?_);rw[<-bY.o];have B2:=I (B1.o.trans (ae.o.mono B1.o.size));have s2:w1.1.size<W2.1.size:=O.o.lt;have KI:=I (λ(W':ac)(hb:af W2.1.size W2 W')=>(show bZ W' w1.1.size 36 fi/\W'.rangeAt w1.1.size 0 CI from by have h:=O.o.below hb s2;exact⟨h,by rw[aV.o];exact h.range⟩));have KW:=bj W2 λW' hb=>av.o W' (B2.o.trans (hb.mono B2.o.size));clear PT O ae;have hd:r=1\/r=2\/r=3\/r=0:=by omega
 rcases hd with rfl|rfl|rfl|rfl
 ·
  have HF:=A (lB M 1 u l q0 q1 q2=ly fi (fR q0 u Y)) (by unfold lB;rw[au rfl,bp.o]);obtain⟨-,r0,-,-,bw,-⟩:=KW.o W2 (ax _ _);have ck:=I r0;clear r0 bw;go_wp2_with(refine fK rfl 237 _ rfl (w.1.size+1) 0 rfl X0 _ ck.o kx rfl cq.o ?_);refine aH (aO.o W2) λw3 hb3=>?_;have B3:=I hb3;clear hb3;obtain⟨pt,pb,ag⟩:=ve w3 q0;have PT:=I pt;have O:=I pb;have ae:=I ag;have aL:=I (dN (ld q0));have aB:=I (eN q0);clear pt pb ag;obtain⟨CQ,aG⟩:=aj (aN q0);rw[<-aG]at PT O ae aL aB ⊢;clear aG;have SQ:=A ((prog.info? 36).map (·.size)=E CQ.toArray.size) (by rw[mb,bR,aB.o]);obtain⟨W4,am⟩:=aj (w3.alloc (ah #[ak Y,ak Y,ak Y,ak Y,ak Y,ak Y,ak Y,ak Y,ak Y,ak Y,ak Y,ak Y,ak Y] 36));obtain⟨W5,ap⟩:=aj (W4.setCells w3.1.size 0 CQ);rw[<-am]at PT O ae;rw[<-ap]at O ae;have aY:=I am;have aZ:=I ap;clear am ap;go_upto_region 5 with(rw[<-aY.o];refine cB rfl 36 _ _ rfl w3.1.size 0 CQ.toArray rfl rfl PT.o SQ.o aL.o ?_);rw[<-aZ.o];have B5:=I (B3.o.trans (ae.o.mono B3.o.size));have s5:w3.1.size<W5.1.size:=O.o.lt;obtain⟨⟨-,x1,x2⟩,-,-,-,-,cD⟩:=KW.o W5 B5.o;have z0:=O.o.cell u hu;have zf:=O.o.bF u;obtain⟨W6,aS⟩:=aj (W5.setCell ⟨w3.1.size,u,V⟩ (ak Y));have P6:=A (bZ W6 w3.1.size 36 (fR q0 u Y)) (by rw[aS];exact O.o.set u hu Y);have bG:af w3.1.size w3 W6:=by rw[aS];exact ae.o.setCell (p:=⟨w3.1.size,u,V⟩) (aw _) _
  have B6:=I (B3.o.trans (bG.mono B3.o.size));have b_:=I aS;clear aS bG PT O ae;go_upto_region 6 with fail;rw[<-b_.o];clear x1 x2 z0 zf;have RA:=I (KI.o W6 B6.o).2;have RB:=I P6.o.range;have LU:=I (eN (fR q0 u Y));have AK:=I (aU.o fi (fR q0 u Y) W6);rw[<-aV.o]at AK;obtain⟨CU,bI⟩:=aj (aN (fR q0 u Y));rw[<-bI]at RB LU AK;clear bI;have SU:=A ((prog.info? 36).map (·.size)=E CU.length) (by rw[mb,LU.o]);have FB:=I (B0.o.trans ((B2.o.trans (B6.o.mono B2.o.size)).mono B0.o.size));go_wp2_with(first|refine fK rfl 36 _ rfl w1.1.size 0 rfl CI _ RA.o ru rfl bE.o ?_|refine fK rfl 36 _ rfl w3.1.size 0 rfl CU _ RB.o ru rfl SU.o ?_);refine aH AK.o λw7 bO=>?_;have B7:=I (FB.o.trans (bO.mono FB.o.size));clear bO;go_wp2;go_ret;exact⟨aF HF.o.symm,B7.o⟩
 ·have HF:=A (lB M 2 u l q0 q1 q2=decide ((l.length:Int)=M)) (by unfold lB;rw[ar (by decide),au rfl]);obtain⟨⟨-,-,x2⟩,-,-,-,bw,-⟩:=KW.o W2 (ax _ _);have c2:=HM.o W2 bw;have bn:=I (λm=>bw.trans ((below_drewN W2 m).mono bw.size));clear bw;generalize l.length=n at*;by_cases q:(n:Int)=M
  ·have q':((n:Int)==M)=aa:=by simpa using q
   have aW:=A (lB M 2 u l q0 q1 q2=aa) (by rw[HF.o,aK q]);clear q;go_wp2_with fail;go_quiet (fail);go_wp2;go_ret;exact⟨aF aW.o.symm,bn.o _⟩
  have q':((n:Int)==M)=Y:=by simpa using q
  have aW:=A (lB M 2 u l q0 q1 q2=Y) (by rw[HF.o,aM q]);clear q;go_wp2_with fail;go_quiet (fail);go_wp2;go_ret;exact⟨aF aW.o.symm,bn.o _⟩
 ·have HF:=A (lB M 3 u l q0 q1 q2=((l.all λx=>decide (x.2.1=1)==q2 x.1.toNat)&&ly fi q1)) (by unfold lB;rw[ar (by decide),ar (by decide),au rfl,bp.o]);obtain⟨-,-,r1,-,bw,-⟩:=KW.o W2 (ax _ _);have cm:=I r1;clear r1 bw;go_wp2_with(refine fK rfl 237 _ rfl (w.1.size+2) 0 rfl X1 _ cm.o kx rfl cr.o ?_);refine aH (aQ.o W2) λw3 hb3=>?_;have B3:=I hb3;clear hb3;obtain⟨pt,pb,ag⟩:=ve w3 q1;have PT:=I pt;have O:=I pb;have ae:=I ag;have aL:=I (dN (ld q1));have aB:=I (eN q1);clear pt pb ag;obtain⟨CQ,aG⟩:=aj (aN q1);rw[<-aG]at PT O ae aL aB ⊢;have bl:=I aG;clear aG;have SQ:=A ((prog.info? 36).map (·.size)=E CQ.toArray.size) (by rw[mb,bR,aB.o]);have cp:=A ((prog.info? 36).map (·.size)=E CQ.length) (by rw[mb,aB.o]);obtain⟨W4,am⟩:=aj (w3.alloc (ah #[ak Y,ak Y,ak Y,ak Y,ak Y,ak Y,ak Y,ak Y,ak Y,ak Y,ak Y,ak Y,ak Y] 36));obtain⟨W5,ap⟩:=aj (W4.setCells w3.1.size 0 CQ);rw[<-am]at PT O ae;rw[<-ap]at O ae;have aY:=I am;have aZ:=I ap;clear am ap;go_upto_region 11 with(rw[<-aY.o];refine cB rfl 36 _ _ rfl w3.1.size 0 CQ.toArray rfl rfl PT.o SQ.o aL.o ?_);rw[<-aZ.o];have B5:=I (B3.o.trans (ae.o.mono B3.o.size));have s5:w3.1.size<W5.1.size:=O.o.lt;have KQ:=bj W5 λW' hb=>(show W'.rangeAt w3.1.size 0 CQ from by rw[bl.o];exact(O.o.below hb s5).range);obtain⟨-,-,-,r2,-,-⟩:=KW.o W5 B5.o;have cn:=I r2;clear r2 PT O ae;go_wp2_with(refine fK rfl 237 _ rfl (w.1.size+3) 0 rfl X2 _ cn.o kx rfl ct.o ?_);refine aH (aR.o W5) λw6 bM=>?_;have B6:=I bM;clear bM;obtain⟨pt,pb,ag⟩:=ve w6 q2;have PT:=I pt;have O:=I pb;have ae:=I ag;have bt:=I (dN (ld q2));have bz:=I (eN q2);clear pt pb ag;obtain⟨CT,bH⟩:=aj (aN q2);rw[<-bH]at PT O ae bt bz ⊢;clear bH;have ST:=A ((prog.info? 36).map (·.size)=E CT.toArray.size) (by rw[mb,bR,bz.o]);obtain⟨W7,bb⟩:=aj (w6.alloc (ah #[ak Y,ak Y,ak Y,ak Y,ak Y,ak Y,ak Y,ak Y,ak Y,ak Y,ak Y,ak Y,ak Y] 36));obtain⟨W8,bc⟩:=aj (W7.setCells w6.1.size 0 CT);rw[<-bb]at PT O ae;rw[<-bc]at O ae;have ce:=I bb;have cg:=I bc;clear bb bc;go_upto_region 12 with(rw[<-ce.o];refine cB rfl 36 _ _ rfl w6.1.size 0 CT.toArray rfl rfl PT.o ST.o bt.o ?_);rw[<-cg.o];have B8:=I (B6.o.trans (ae.o.mono B6.o.size));have s8:w6.1.size<W8.1.size:=O.o.lt;have cj:=I O.o;have aI:=I (B5.o.trans (B8.o.mono B5.o.size));clear PT O ae;obtain⟨n,hn⟩:=aj l.length;rw[<-hn]at HC HI hl2;have HN:=I hn;clear hn;have K2:=I (λ(W':ac)(hb:af W8.1.size W8 W')=>(show W'.cell? ⟨w.1.size,2,V⟩=E (U va n vc)from by have:=(KW.o W' (aI.o.trans (hb.mono aI.o.size))).1.2.2;rwa [<-HN.o]at this));have bh:=I (KW.o W8 aI.o).2.2.2.2.1;go_wp2;go_loopw [17] (λi wr=>∃j:Nat,j<=n/\i=Z J (j:Int)/\(∀i',i'<j->(decide ((aq.it l i').2.1=1)==q2 (aq.it l i').1.toNat)=aa)/\af W8.1.size W8 wr) (λi _=>n-(aA i).toNat);case atStart=>exact⟨0,bi _,rfl,λi h=>absurd h (by omega),ax _ _⟩
  obtain⟨j,hj,rfl,hall,aT⟩:=hrel;have bk:=I hall;have HB:=I aT;have x2:=K2.o _ aT;have aJ:=I (bh.o.trans (aT.mono bh.o.size));clear hall aT;by_cases hlt:j<n
  ·obtain⟨b',off,cu,hb,hit⟩:=HC.o j hlt;subst cu;obtain⟨d0,d1,-,-⟩:=hit.below hb aJ.o;clear hit;have bV:=HI.o j hlt;obtain⟨y,hy⟩:∃y:Nat,(aq.it l j).1=(y:Int):=⟨(aq.it l j).1.toNat,by omega⟩;rw[hy]at bV d0;obtain⟨cE,cF⟩:=bV;have cx:y<13:=by omega
   have cG:(y:Int)<13:=by omega
   have z0:=(cj.o.below HB.o s8).cell y cx;have bu:=A ((decide ((aq.it l j).2.1=1)==q2 (aq.it l j).1.toNat)=(decide ((aq.it l j).2.1=1)==q2 y)) (by rw[hy,ox]);have bq:=I (λ(e:(decide ((aq.it l j).2.1=1)==q2 (aq.it l j).1.toNat)=Y)=>(show(l.all λx=>decide (x.2.1=1)==q2 x.1.toNat)=Y from kU.2 ⟨aq.it l j,by rw[cd l j (by rw[<-HN.o];exact hlt)];exact cN _,by rw[e];exact dR⟩));obtain⟨xa,bg⟩:∃xa,(aq.it l j).2.1=xa:=⟨_,rfl⟩;rw[bg]at d1;have bv:=I bg;clear hy bg;have bm:=I (λm=>HB.o.trans ((below_drewN wr m).mono HB.o.size));have bo:=I (λm=>aJ.o.trans ((below_drewN wr m).mono aJ.o.size));have bD:=I (λ(e:(decide ((aq.it l j).2.1=1)==q2 (aq.it l j).1.toNat)=aa) i' (cz:i'<j+1)=>(show(decide ((aq.it l i').2.1=1)==q2 (aq.it l i').1.toNat)=aa from if q:i'=j then q▸e else bk.o i' (by omega)));by_cases c:xa=1
   ·have c':(xa==1)=aa:=by simpa using c
    have ai:=A ((decide ((aq.it l j).2.1=1)==q2 (aq.it l j).1.toNat)=q2 y) (by rw[bu.o,bv.o,aK c];cases q2 y<;>rfl);clear c;cases q:q2 y;·rw[q]at z0 ai;clear q;go_wp2_with fail;go_quiet (fail);go_wp2;go_ret;exact⟨aF (by rw[HF.o,bq.o ai.o];rfl),bo.o _⟩
    rw[q]at z0 ai;clear q;go_wp2_with fail;go_quiet (fail);go_wp2;go_roundw;case rel=>exact⟨j+1,by omega,by go_num,bD.o ai.o,bm.o _⟩
    simp[aA];omega
   have c':(xa==1)=Y:=by simpa using c
   have ai:=A ((decide ((aq.it l j).2.1=1)==q2 (aq.it l j).1.toNat)= !q2 y) (by rw[bu.o,bv.o,aM c];cases q2 y<;>rfl);clear c;cases q:q2 y
   ·rw[q]at z0 ai;clear q;go_wp2_with fail;go_quiet (fail);go_wp2;go_roundw;case rel=>exact⟨j+1,by omega,by go_num,bD.o ai.o,bm.o _⟩
    simp[aA];omega
   rw[q]at z0 ai;clear q;go_wp2_with fail;go_quiet (fail);go_wp2;go_ret;exact⟨aF (by rw[HF.o,bq.o ai.o];rfl),bo.o _⟩
  have ej:j=n:=by omega
  subst ej;have YY:=I (show(l.all λx=>decide (x.2.1=1)==q2 x.1.toNat)=aa from fk.2 λx hx=>by obtain⟨i,hi,rfl⟩:=fT hx;rw[<-cd l i hi];exact bk.o i (by rw[HN.o];exact hi));have RA:=I (KI.o wr (aI.o.trans (HB.o.mono aI.o.size))).2;have RB:=I (KQ.o wr (B8.o.trans (HB.o.mono B8.o.size)));have AK:=I (aU.o fi q1 wr);rw[<-aV.o,<-bl.o]at AK;go_wp2_with(first|refine fK rfl 36 _ rfl w1.1.size 0 rfl CI _ RA.o ru rfl bE.o ?_|refine fK rfl 36 _ rfl w3.1.size 0 rfl CQ _ RB.o ru rfl cp.o ?_);refine aH AK.o λw9 bP=>?_;have B9:=I (aJ.o.trans (bP.mono aJ.o.size));clear bP;go_wp2;go_ret;exact⟨aF (by rw[HF.o,YY.o];rfl),B9.o⟩
 have HF:=A (lB M 0 u l q0 q1 q2=aa) (by unfold lB;rw[ar (by decide),ar (by decide),ar (by decide)]);have bw:=(KW.o W2 (ax _ _)).2.2.2.2.1;have BW:=I bw;clear bw;go_wp2;go_ret;exact⟨aF HF.o.symm,BW.o⟩
end
section
open Go.RowKit
def jD (L:cI)(i:Nat):Int×aO.Fr:=L.getD i (0,(0,0,[]))
theorem tW (L i)(hi:i<L.length):jD L i=L[i]:=by unfold jD;rw[bG,aQ hi];rfl
theorem MM{i}(hi:i<L.length):jD L i∈L:=by rw[tW L i hi];exact cN hi
def xL (w:ac)(v:ag)(L:cI)(X:List ag):Prop:=
 ∃(a:Option Addr)(cap:Nat),v=U a L.length cap/\L.length<=cap/\cap<=9223372036854775807/\
  ∀i,i<L.length->∃b off,a=E ⟨b,off,V⟩/\b<w.1.size/\(w.cell? ⟨b,off+i*4,V⟩=E (Z J (jD L i).1)/\w.cell? ⟨b,off+i*4+1,V⟩=E (Z J (jD L i).2.1)/\w.cell? ⟨b,off+i*4+2,V⟩=E (Z J (jD L i).2.2.1)/\w.cell? ⟨b,off+i*4+3,V⟩=E (X.getD i (U V 0 0)))/\aX w (X.getD i (U V 0 0)) (jD L i).2.2.2
def eX (w:ac)(H:Nat->RF)(G:bk):Prop:=∀r u,r<4->u<13->(G r u=V->H (r*13+u)=RF.z)/\∀l,G r u=E l->∃x,H (r*13+u)=(2*(r:Int)+1,(u:Int),x)/\aX w x l
theorem KI (w):eX w (λ_=>RF.z) tZ:=λr u _ _=>⟨λ_=>rfl,λl e=>by cases e⟩
theorem eX.kind (h:eX w H G){u}(hr:r<4)(hu:u<13):((H (r*13+u)).1=0↔aB.mem (G r) u=Y):=by
 cases e:G r u with
 |none=>rw[(h r u hr hu).1 e];unfold aB.mem;rw[e];exact⟨λ_=>rfl,λ_=>rfl⟩
 |some l=> obtain⟨x,e1,_⟩:=(h r u hr hu).2 l e;rw[e1];unfold aB.mem;rw[e];constructor;intro q;have:2*(r:Int)+1=0:=q;omega;intro q;cases q
theorem eX.has (h:eX w H G)(hz:∀r,G r 0=V)(hr:r<4):∀u,u<13->cf (cE H r) u=aB.mem (G r) u:=λu hu=>by unfold cf cE;by_cases e:u=0;subst e;unfold aB.mem;rw[hz r];rfl;rw[aK (show 1<=u by omega),eE];cases q:aB.mem (G r) u;exact aM (λc=>c ((h.kind hr hu).2 q));exact aK (λc=>by rw[(h.kind hr hu).1 c]at q;cases q)
def ow (H:Nat->RF)(t:Nat)(x:RF):Nat->RF:=λi=>if i=t then x else H i
theorem eX.upd (h:eX w H G){u}(hr:r<4)(hu:u<13){x}(hx:aX w x l):eX w (ow H (r*13+u) (2*(r:Int)+1,(u:Int),x)) (dY G r u l):=λr' O Y aa=>by unfold ow dY;by_cases e:r'=r/\O=u;obtain⟨rfl,rfl⟩:=e;rw[au rfl,au ⟨rfl,rfl⟩];exact⟨λq=>(by cases q),λl' q=>⟨x,rfl,(by rw[<-nI q];exact hx)⟩⟩;rw[ar e,ar (by omega)];exact h r' O Y aa
theorem Ik (H t x j):cR (ow H t x) j=if j/3=t then zl x (j%3)else cR H j:=by unfold cR ow;split<;>rfl
theorem mf:(prog.info? 238).map (·.size)=E 156:=by kernel_rfl
theorem FC:zeroCells238=(cr λ_=>RF.z).toArray:=by kernel_rfl
def dH (C:Cf)(L:cI)(r j:Nat):bk:=(L.take j).foldl (jx C r) (jI C L r)
theorem Tl (C L r j)(hj:j<L.length):dH C L r (j+1)=jx C r (dH C L r j) (jD L j):=by unfold dH;rw[gV hj,List.foldl_append,tW L j hj];rfl
theorem Tk (C L r):dH C L r L.length=jI C L (r+1):=by unfold dH;rw[iF];rfl
theorem Bb (hr:r<4)(hz:∀r,G r 0=V){e}(O:aq.okF e.2.1 e.2.2.1 e.2.2.2=aa):∀r',jx C r G e r' 0=V:=by
 intro r';unfold jx aB.k_;split
 ·split;·rename_i hf;have hk:=(yt hf).1;have h1:=(en O).2.1;unfold dv at h1;rw[au (by omega),lY]at h1;unfold dY;rw[ar (by omega)];exact hz r'
  exact hz r'
 exact hz r'
theorem EW{C L}(O:∀e∈L,aq.okF e.2.1 e.2.2.1 e.2.2.2=aa):∀(r:Nat),r<=4->∀r',jI C L r r' 0=V
 |0,_,r'=>rfl
 |r+1,h,r'=>by
  have ih:=EW (C:=C) O r (by omega);have:∀(M:cI)(G:bk),(∀e∈M,aq.okF e.2.1 e.2.2.1 e.2.2.2=aa)->(∀r,G r 0=V)->∀r',M.foldl (jx C r) G r' 0=V:=by
   intro M
   induction M with
   |nil=>intro G _ hz;exact hz
   |cons e M Y=>intro G hM hz;exact Y _ (λx hx=>hM x (ks _ hx)) (Bb (by omega) hz (hM e iE))
  exact this L _ O ih r'
theorem Tm (O:∀e∈L,aq.okF e.2.1 e.2.2.1 e.2.2.2=aa)(r)(hr:r<4)(j):∀r',dH C L r j r' 0=V:=by
 have:∀(M:cI)(G:bk),(∀e∈M,aq.okF e.2.1 e.2.2.1 e.2.2.2=aa)->(∀r,G r 0=V)->∀r',M.foldl (jx C r) G r' 0=V:=by
  intro M
  induction M with
  |nil=>intro G _ hz;exact hz
  |cons e M Y=>intro G hM hz;exact Y _ (λx hx=>hM x (ks _ hx)) (Bb hr hz (hM e iE))
 exact this _ _ (λe he=>O e (Aw he)) (EW O r (by omega))
end
section
open Go.ChangeShapes Go.WideShapes Go.ChangeAt Go.RowKit
theorem vP (h:aX w v l):∃a n c,v=U a n c:=by obtain⟨a,cap,e,_⟩:=h;exact⟨a,_,cap,e⟩
structure kW (w wr:ac)(H:Nat->RF):Prop where
 res:bp wr w.1.size 238 156 (cR λ_=>RF.z)
 tab:bp wr (w.1.size+1) 238 156 (cR H)
 fF:af w.1.size w wr
theorem kW.grow{wr'}(h:kW w wr H)(hb:af wr.1.size wr wr'):kW w wr' H:=
 ⟨h.res.block (hb.block _ h.res.lt),h.tab.block (hb.block _ h.tab.lt),h.fF.trans (hb.mono h.fF.size)⟩
theorem bp.EG{g T}(h:bp w g T 156 (cR H))(t o)(ho:o=t*3)(ht:t<52)(x):bp (((w.setCell ⟨g,o,V⟩ (Z J x.1)).setCell ⟨g,o+1,V⟩ (Z J x.2.1)).setCell ⟨g,o+2,V⟩ x.2.2) g T 156 (cR (ow H t x)):=by
 subst ho;refine bp.ext (((h.set (t*3) (by omega) _).set (t*3+1) (by omega) _).set (t*3+2) (by omega) _) (λj hj=>?_);rw[Ik];by_cases e:j/3=t
 ·rw[au e];have hm:j%3=0\/j%3=1\/j%3=2:=by omega
  rcases hm with hm|hm|hm;rw[ar (by omega),ar (by omega),au (by omega),hm];rfl;rw[ar (by omega),au (by omega),hm];rfl;rw[au (by omega),hm];rfl
 rw[ar e,ar (by omega),ar (by omega),ar (by omega)]
theorem kW.range (h:kW w wr H)(r o)(ho:o=r*39)(hr:r<4):wr.rangeAt (w.1.size+1) o (cw (cE H r)):=by subst ho;have:=h.tab.range (r*39) 39 (by omega);rwa [El]at this
theorem kW.kind (h:kW w wr H)(r u)(hr:r<4)(hu:u<13):wr.cell? ⟨w.1.size+1,r*39+u*3,V⟩=E (Z J (H (r*13+u)).1):=by rw[h.tab.cell _ (by omega),show r*39+u*3=(r*13+u)*3 by omega,vh]
theorem TI (h:eX w H G):∀v∈cr H,v.oneCell'=aa:=by
 intro v hv;unfold cr at hv;obtain⟨t,ht,rfl⟩:=cq.1 hv;have O:=eW.1 ht;have hx:((H (t/3)).2.2).oneCell'=aa:=by
  have e:t/3=t/3/13*13+t/3%13:=by omega
  have:=h (t/3/13) (t/3%13) (by omega) (by omega);rw[<-e]at this
  cases q:G (t/3/13) (t/3%13)with
  |none=>rw[this.1 q];rfl
  |some l=> obtain⟨x,e1,e2⟩:=this.2 l q;obtain⟨a,n,c,e3⟩:=vP e2;rw[e1,e3];rfl
 unfold cR zl;split;rfl;rfl;exact hx
theorem P_ (b)(hc:fx C){X vl}(h0:w.cell? ⟨b,0,V⟩=E (Z J C.N))(h2:w.cell? ⟨b,2,V⟩=E (Z J C.M))(h3:w.cell? ⟨b,3,V⟩=E (Z J C.D))(h5:w.cell? ⟨b,5,V⟩=E vl)(hbl:b<w.1.size)(hL:xL w vl L X)(aV:∀e∈L,aq.okF e.2.1 e.2.2.1 e.2.2.2=aa)(hat:∀e∈L,0<=e.1/\e.1<=200):
  ay prog 179 #[aC (E ⟨b,0,V⟩)] w λe w'=>∃H,e=az (aD (cr H).toArray)/\eX w H (aB.tab C L)/\af w.1.size w w':=by
 obtain⟨va,vc,rfl,hl2,b_,bw⟩:=hL;have HC:=I bw;have bG:=I aV;have bD:=I hat;have HZ:=I (λr hr j=>Tm (C:=C) aV r hr j);have bf:=I (λr j hj=>Tl C L r j hj);have bc:=I (Tk C L)
 have aI:=I (λ(W:ac) (hb:af w.1.size w W)=>(show(W.cell? ⟨b,0,V⟩=E (Z J C.N)/\W.cell? ⟨b,2,V⟩=E (Z J C.M)/\W.cell? ⟨b,3,V⟩=E (Z J C.D))/\W.cell? ⟨b,5,V⟩=E (U va L.length vc)from
  ⟨⟨(hb.cell (p:=⟨b,0,V⟩) hbl).trans h0,(hb.cell (p:=⟨b,2,V⟩) hbl).trans h2,(hb.cell (p:=⟨b,3,V⟩) hbl).trans h3⟩,(hb.cell (p:=⟨b,5,V⟩) hbl).trans h5⟩));have hd:=hc.d;clear h0 h2 h3 h5 bw aV hat;obtain⟨n,aU⟩:=aj L.length;rw[<-aU]at HC bf bc aI hl2;have HN:=I aU;clear aU;obtain⟨W0,hW0⟩:=aj ((w.alloc (ah zeroCells238 238)).alloc (ah zeroCells238 238));have I0:=I (show kW w W0 (λ_=>RF.z)by rw[hW0,FC];exact⟨my w _ _,jN w _ _,((ax _ _).alloc (aw _) _).alloc (by simp) _⟩);have bJ:=I hW0;clear hW0;go_enter func179,ntmps179;go_wp2_with fail;rw[<-bJ.o];go_loopw [4] (λi wr=>∃(r:Nat) (H:Nat->RF),r<=4/\i=Z J (r:Int)/\eX w H (jI C L r)/\kW w wr H) (λi _=>4-(aA i).toNat);case atStart=>exact⟨0,_,by omega,rfl,KI w,I0.o⟩
 obtain⟨r,H0,hr,rfl,aG,av⟩:=hrel;have O:=I aG;have ai:=I av;clear aG av;by_cases hr4:r<4
 ·have cd:(r:Int)<4:=by omega
  have m1:0<=(r:Int)*C.D:=kT (by omega) (by omega);have m2:(r:Int)*C.D<=200:=by have:(r:Int)*C.D<=4*50:=sR (by omega) (by omega) (by omega) (by omega);omega
  have m3:0<=((r:Int)+1)*C.D:=kT (by omega) (by omega);have m4:((r:Int)+1)*C.D<=200:=by have:((r:Int)+1)*C.D<=4*50:=sR (by omega) (by omega) (by omega) (by omega);omega
  go_wp2;go_loopw [5] (λi wr=>∃(j:Nat) (H:Nat->RF),j<=n/\i=Z J (j:Int)/\eX w H (dH C L r j)/\kW w wr H) (λi _=>n-(aA i).toNat);case atStart=>exact⟨0,H0,bi _,rfl,O.o,ai.o⟩
  obtain⟨j,H,hj,rfl,aG,av⟩:=hrel;have O:=I aG;have ai:=I av;obtain⟨⟨c0,c2,c3⟩,c5⟩:=aI.o _ av.fF;clear aG av;by_cases hlt:j<n
  ·have HST:=I (bf.o r j hlt);obtain⟨b',off,bQ,hb',⟨d0,d1,d2,d3⟩,hit⟩:=HC.o j hlt;subst bQ;have aT:=MM (L:=L) (i:=j) (by rw[<-HN.o];exact hlt);have OK:=I (bG.o _ aT);have br:=bD.o _ aT;clear aT;have IT:=I hit;obtain⟨ia,im,ae,bz⟩:=vP hit;clear hit;obtain⟨at_,k,fr,l,he⟩:∃at_ k fr l,jD L j=(at_,(k,fr,l)):=⟨_,_,_,_,rfl⟩;rw[he]at d0 d1 d2 OK br IT HST;rw[bz]at d3 IT;clear he bz;have ok:aq.okF k fr l=aa:=OK.o;obtain⟨bL,bM⟩:=br;change 0<=at_ at bL;change at_<=200 at bM;change w.cell? _=E (Z J at_)at d0;change w.cell? _=E (Z J k)at d1;change w.cell? _=E (Z J fr)at d2;obtain⟨u,hu⟩:∃u:Nat,fr=(u:Int):=⟨fr.toNat,by have:=(mK ok).2.2.2.1;omega⟩;subst hu;have am:u<13:=by have:=(mK ok).2.2.2.2.1;omega
   have cg:(u:Int)<13:=by omega
   have aY:=I (λ(W:ac) (hb:af w.1.size w W)=>(show W.cell? ⟨b',off+j*4,V⟩=E (Z J at_)/\W.cell? ⟨b',off+j*4+1,V⟩=E (Z J k)/\W.cell? ⟨b',off+j*4+2,V⟩=E (Z J (u:Int))/\W.cell? ⟨b',off+j*4+3,V⟩=E (U ia im ae)from
    ⟨(hb.cell (p:=⟨b',off+j*4,V⟩) hb').trans d0,(hb.cell (p:=⟨b',off+j*4+1,V⟩) hb').trans d1,(hb.cell (p:=⟨b',off+j*4+2,V⟩) hb').trans d2,(hb.cell (p:=⟨b',off+j*4+3,V⟩) hb').trans d3⟩));clear d0 d1 d2 d3 OK;have OK:=I ok;have aO:cO (aX w (U ia im ae) l):=IT;have bg:cO (dH C L r (j+1)=jx C r (dH C L r j) (at_,(k,(u:Int),l))):=HST;clear ok IT HST;obtain⟨e0,e1,e2,e3⟩:=aY.o _ ai.o.fF;obtain⟨W1,hW1⟩:=aj (wr.alloc (ah #[Z J k,Z J (u:Int),U ia im ae] 65));have I1:=A (kW w W1 H) (by rw[hW1];exact ai.o.grow ((ax _ _).alloc (aw _) _));have x0:W1.cell? ⟨wr.1.size,0,V⟩=E (Z J k):=by rw[hW1];simp
   have x1:W1.cell? ⟨wr.1.size,1,V⟩=E (Z J (u:Int)):=by rw[hW1];simp
   have x2:W1.cell? ⟨wr.1.size,2,V⟩=E (U ia im ae):=by rw[hW1];simp
   have aW:wr.1.size<W1.1.size:=by rw[hW1];simp
   have bK:=I hW1;clear hW1;go_upto_region 9 with fail;rw[<-bK.o];clear c0 c2 c3 c5 e0 e1 e2 e3;obtain⟨⟨c0,c2,c3⟩,c5⟩:=aI.o _ I1.o.fF;obtain⟨e0,e1,e2,e3⟩:=aY.o _ I1.o.fF;have bZ:(j:Int)<(n:Int):=by omega
   have ID:=I (λm=>I1.o.grow (below_drewN W1 m));have E1:=I (λ(q:aB.now C r at_=Y)=>(show dH C L r (j+1)=dH C L r j by rw[bg.o];unfold jx;rw[ar (by rw[q];exact dR)]));have WC:=I (λ(W:ac)=>Rp r hr4 W);by_cases g1:(r:Int)*C.D<=at_;rotate_left
   ·have bN:decide ((r:Int)*C.D<=at_)=Y:=aM g1;have EQ:=I (E1.o (by unfold aB.now;exact aM (λq=>g1 q.1)));go_quiet (fail);go_wp2_with fail;refine aH (WC.o _) λw2 hw2=>?_;rw[hw2];clear hw2;go_wp2_with fail;go_quiet (fail);go_wp2;go_roundw;case rel=>exact⟨j+1,H,by omega,by go_num,by rw[EQ.o];exact O.o,ID.o _⟩
    simp[aA];omega
   have bN:decide ((r:Int)*C.D<=at_)=aa:=aK g1;by_cases g2:at_<((r:Int)+1)*C.D;rotate_left
   ·have bO:decide (at_<((r:Int)+1)*C.D)=Y:=aM g2;have EQ:=I (E1.o (by unfold aB.now;exact aM (λq=>g2 q.2)));go_quiet (fail);go_wp2_with fail;refine aH (WC.o _) λw2 hw2=>?_;rw[hw2];clear hw2;go_wp2_with fail;go_quiet (fail);go_wp2;go_roundw;case rel=>exact⟨j+1,H,by omega,by go_num,by rw[EQ.o];exact O.o,ID.o _⟩
    simp[aA];omega
   have bO:decide (at_<((r:Int)+1)*C.D)=aa:=aK g2;have E2:=A (dH C L r (j+1)=aB.k_ C r (dH C L r j) (k,(u:Int),l)) (by rw[bg.o];unfold jx;rw[au (by unfold aB.now;exact aK ⟨g1,g2⟩)]);have E3:=I (λ(q:aB.fits C (dH C L r j) r (k,(u:Int),l)=Y)=>(show dH C L r (j+1)=dH C L r j by rw[E2.o];unfold aB.k_;rw[ar (by rw[q];exact dR)]));have FT:=I (show aB.fits C (dH C L r j) r (k,(u:Int),l)=(decide (k=2*(r:Int)+1)&&(decide ((u:Int)<=C.N)&&(!aB.mem (dH C L r j r) u&&((decide (r=0)||aB.mem (dH C L r j (r-1)) u)&&aB.shape C (dH C L r j) r u l))))by unfold aB.fits;show(decide (k=2*(r:Int)+1)&&(decide ((u:Int)<=C.N)&&(!aB.mem (dH C L r j r) (u:Int).toNat&&((decide (r=0)||aB.mem (dH C L r j (r-1)) (u:Int).toNat)&&aB.shape C (dH C L r j) r (u:Int).toNat l))))=_;rw[ox]);clear g1 g2;by_cases q1:k=2*(r:Int)+1;rotate_left
   ·have bV:(k != 2*(r:Int)+1)=aa:=by simpa using q1
    have EQ:=I (E3.o (by rw[FT.o,aM q1];rfl));clear q1;go_quiet (fail);go_wp2_with fail;refine aH (WC.o _) λw2 hw2=>?_;rw[hw2];clear hw2;go_wp2_with fail;go_quiet (fail);go_wp2;go_roundw;case rel=>exact⟨j+1,H,by omega,by go_num,by rw[EQ.o];exact O.o,ID.o _⟩
    simp[aA];omega
   have bV:(k != 2*(r:Int)+1)=Y:=by simpa using q1
   have Q1:=I q1;clear q1;by_cases q2:(u:Int)<=C.N;rotate_left
   ·have bW:decide (C.N<(u:Int))=aa:=aK (by omega);have EQ:=I (E3.o (by rw[FT.o,aK Q1.o,aM q2];rfl));go_quiet (fail);go_wp2_with fail;refine aH (WC.o _) λw2 hw2=>?_;rw[hw2];clear hw2;go_wp2_with fail;go_quiet (fail);go_wp2;go_roundw;case rel=>exact⟨j+1,H,by omega,by go_num,by rw[EQ.o];exact O.o,ID.o _⟩
    simp[aA];omega
   have bW:decide (C.N<(u:Int))=Y:=aM (by omega);have kg:=I1.o.kind r u hr4 am;have KM:=I (O.o.kind hr4 am);obtain⟨x,hx⟩:=aj ((H (r*13+u)).1);rw[<-hx]at kg KM;clear hx;by_cases q3:x=0;rotate_left
   ·have bX:(x != 0)=aa:=by simpa using q3
    have EQ:=I (E3.o (by
     have hm:aB.mem (dH C L r j r) u=aa:=by cases e:aB.mem (dH C L r j r) u;exact absurd (KM.o.2 e) q3;rfl
     rw[FT.o,aK Q1.o,aK q2,hm];rfl));clear q3;go_quiet (fail);go_wp2_with fail;refine aH (WC.o _) λw2 hw2=>?_;rw[hw2];clear hw2;go_wp2_with fail;go_quiet (fail);go_wp2;go_roundw;case rel=>exact⟨j+1,H,by omega,by go_num,by rw[EQ.o];exact O.o,ID.o _⟩
    simp[aA];omega
   have bX:(x != 0)=Y:=by simpa using q3
   have MF:=I (KM.o.1 q3);clear q3;have ap:=I (λ(m:Nat)=>(show ay prog 240 #[aC (E ⟨b,0,V⟩),aD #[Z J k,Z J (u:Int),U ia im ae],Z J (r:Int),aD (cw (cE H 0)).toArray,aD (cw (cE H 1)).toArray,aD (cw (cE H 2)).toArray] (W1.drewN m) λe w'=>e=az (ak (aB.shape C (dH C L r j) r u l))/\af (W1.drewN m).1.size (W1.drewN m) w' by have hI:=ID.o m;have hz:=HZ.o r hr4 j;have bA:=(en OK.o).2.2.1;rw[<-SN (C:=C) (p0:=cf (cE H 0)) (p1:=cf (cE H 1)) (p2:=cf (cE H 2)) bA (λ_=>O.o.has hz (by omega)) (λ_=>O.o.has hz (by omega)) (λ_=>O.o.has hz (by omega))];exact Ra b C.M k u r (aI.o _ hI.fF).1.2.1 (cG hbl hI.fF.size) (aO.o.below hI.fF) bA am hr4));have bk:=I (lx (cE H 0));have bl:=I (lx (cE H 1));have bm:=I (lx (cE H 2));have aP:=I (λ(m:Nat)=>(ID.o m).range 0 0 (by omega) (by omega));have aQ:=I (λ(m:Nat)=>(ID.o m).range 1 39 (by omega) (by omega));have aR:=I (λ(m:Nat)=>(ID.o m).range 2 78 (by omega) (by omega));obtain⟨X0,bt⟩:∃X,X=cw (cE H 0):=⟨_,rfl⟩;obtain⟨X1,bu⟩:∃X,X=cw (cE H 1):=⟨_,rfl⟩;obtain⟨X2,bv⟩:∃X,X=cw (cE H 2):=⟨_,rfl⟩;rw[<-bt]at ap bk aP;rw[<-bu]at ap bl aQ;rw[<-bv]at ap bm aR;clear bt bu bv;have bn:=A ((prog.info? 237).map (·.size)=E X0.length) (by rw[lD,bk.o]);have bo:=A ((prog.info? 237).map (·.size)=E X1.length) (by rw[lD,bl.o]);have bq:=A ((prog.info? 237).map (·.size)=E X2.length) (by rw[lD,bm.o]);have XD:=I (λ(m:Nat) (W:ac) (hb:af (W1.drewN m).1.size (W1.drewN m) W)=>(show W.cell? ⟨wr.1.size,0,V⟩=E (Z J k)/\W.cell? ⟨wr.1.size,1,V⟩=E (Z J (u:Int))/\W.cell? ⟨wr.1.size,2,V⟩=E (U ia im ae)from by have hb':=(below_drewN W1 m).trans (hb.mono (below_drewN W1 m).size);exact⟨(hb'.cell (p:=⟨wr.1.size,0,V⟩) aW).trans x0,(hb'.cell (p:=⟨wr.1.size,1,V⟩) aW).trans x1,(hb'.cell (p:=⟨wr.1.size,2,V⟩) aW).trans x2⟩));obtain⟨sh,bB⟩:=aj (aB.shape C (dH C L r j) r u l);rw[<-bB]at ap FT;clear bB;go_quiet (fail);go_wp2_with fail;refine aH (WC.o _) λw2 hw2=>?_;rw[hw2];clear hw2;go_wp2_with fail;go_quiet (fail);go_upto_region 12 with fail;rcases mn r with aF|aF
   ·have bP:decide (0<r)=Y:=aM (by omega);have PV:=A ((decide (r=0)||aB.mem (dH C L r j (r-1)) u)=aa) (by rw[aK aF];rfl);have ba:=I aF;clear aF;go_quiet (fail);go_upto_region 13 with fail;simp only[World.drewN_drewN];go_wp2_with(first|refine fK rfl 237 _ rfl (w.1.size+1) 0 rfl X0 _ (aP.o _) kx rfl bn.o ?_|refine fK rfl 237 _ rfl (w.1.size+1) 39 rfl X1 _ (aQ.o _) kx rfl bo.o ?_|refine fK rfl 237 _ rfl (w.1.size+1) 78 rfl X2 _ (aR.o _) kx rfl bq.o ?_);refine aH (ap.o _) λw3 hb3=>?_;have I3:=I ((ID.o _).grow hb3);obtain⟨y0,y1,y2⟩:=XD.o _ w3 hb3;clear hb3;cases sh
    ·have EQ:=I (E3.o (by rw[FT.o,aK Q1.o,aK q2,MF.o,PV.o];rfl));go_wp2;go_roundw;case rel=>exact⟨j+1,H,by omega,by go_num,by rw[EQ.o];exact O.o,I3.o⟩
     simp[aA];omega
    have EQ:=I (show dH C L r (j+1)=dY (dH C L r j) r u l by rw[E2.o];unfold aB.k_;rw[au (by rw[FT.o,aK Q1.o,aK q2,MF.o,PV.o];rfl)];show dY (dH C L r j) r (u:Int).toNat l=_;rw[ox]);have tl:r*39+u*3+2<156:=by omega
    have o0:(w3.cell? ⟨w.1.size+1,r*39+u*3,V⟩).isSome=aa:=by rw[I3.o.tab.cell _ (by omega)];rfl
    have o1:(w3.cell? ⟨w.1.size+1,r*39+u*3+1,V⟩).isSome=aa:=by rw[I3.o.tab.cell _ (by omega)];rfl
    have o2:(w3.cell? ⟨w.1.size+1,r*39+u*3+2,V⟩).isSome=aa:=by rw[I3.o.tab.cell _ (by omega)];rfl
    obtain⟨p0,bS⟩:=tk.1 o0;obtain⟨p1,bT⟩:=tk.1 o1;obtain⟨p2,bU⟩:=tk.1 o2;clear o0 o1 o2;have of:=I3.o.tab.bF;have aL:=I (show kW w ((((w3.setCell ⟨w.1.size+1,r*39+u*3,V⟩ (Z J k)).setCell ⟨w.1.size+1,r*39+u*3+1,V⟩ (Z J (u:Int))).setCell ⟨w.1.size+1,r*39+u*3+2,V⟩ (U ia im ae)).drew) (ow H (r*13+u) (k,(u:Int),U ia im ae))by have ht:=bp.EG I3.o.tab (r*13+u) (r*39+u*3) (by omega) (by omega) (k,(u:Int),U ia im ae);refine⟨?_,ht,?_⟩;exact I3.o.res.block (((fI _ _ _ _ (by simp)).trans (fI _ _ _ _ (by simp))).trans (fI _ _ _ _ (by simp)));exact(((I3.o.fF.setCell (p:=⟨w.1.size+1,r*39+u*3,V⟩) (by show w.1.size<=w.1.size+1;omega) _).setCell (p:=⟨w.1.size+1,r*39+u*3+1,V⟩) (by show w.1.size<=w.1.size+1;omega) _).setCell (p:=⟨w.1.size+1,r*39+u*3+2,V⟩) (by show w.1.size<=w.1.size+1;omega) _).drew);have aN:=I (show eX w (ow H (r*13+u) (k,(u:Int),U ia im ae)) (dH C L r (j+1))by rw[EQ.o,Q1.o];exact O.o.upd hr4 am aO.o);go_upto_region 15 with fail;go_region;go_wp2;go_roundw;case rel=>exact⟨j+1,_,by omega,by go_num,aN.o,aL.o⟩
    simp[aA];omega
   have bP:decide (0<r)=aa:=aK (by omega);obtain⟨r',aJ⟩:=aj (r-1);have rr:(r:Int)-1=(r':Int):=by omega
   have bC:r'<4:=by omega
   have ce:(r':Int)<4:=by omega
   have kp:=I1.o.kind r' u bC am;have KP:=I (O.o.kind bC am);rw[aJ]at KP;have ba:=I aF;have a_:=I aJ;obtain⟨y,hy⟩:=aj ((H (r'*13+u)).1);rw[<-aJ,<-hy]at KP;rw[<-hy]at kp;clear aF aJ hy;by_cases q4:y=0
   ·have bY:(y==0)=aa:=by simpa using q4
    have EQ:=I (E3.o (by
     have hm:aB.mem (dH C L r j (r-1)) u=Y:=by rw[<-a_.o];exact KP.o.1 q4
     rw[FT.o,aK Q1.o,aK q2,MF.o,hm,aM (show¬r=0 by have:=ba.o;omega)];rfl));clear q4;go_quiet (fail);go_wp2;go_roundw;case rel=>exact⟨j+1,H,by omega,by go_num,by rw[EQ.o];exact O.o,ID.o _⟩
    simp[aA];omega
   have bY:(y==0)=Y:=by simpa using q4
   have PV:=I (show(decide (r=0)||aB.mem (dH C L r j (r-1)) u)=aa by cases e:aB.mem (dH C L r j (r-1)) u;exact absurd (KP.o.2 (by rw[a_.o];exact e)) q4;rw[sQ]);clear q4;go_quiet (fail);go_upto_region 13 with fail;simp only[World.drewN_drewN];go_wp2_with(first|refine fK rfl 237 _ rfl (w.1.size+1) 0 rfl X0 _ (aP.o _) kx rfl bn.o ?_|refine fK rfl 237 _ rfl (w.1.size+1) 39 rfl X1 _ (aQ.o _) kx rfl bo.o ?_|refine fK rfl 237 _ rfl (w.1.size+1) 78 rfl X2 _ (aR.o _) kx rfl bq.o ?_);refine aH (ap.o _) λw3 hb3=>?_;have I3:=I ((ID.o _).grow hb3);obtain⟨y0,y1,y2⟩:=XD.o _ w3 hb3;clear hb3;cases sh
   ·have EQ:=I (E3.o (by rw[FT.o,aK Q1.o,aK q2,MF.o,PV.o];rfl));go_wp2;go_roundw;case rel=>exact⟨j+1,H,by omega,by go_num,by rw[EQ.o];exact O.o,I3.o⟩
    simp[aA];omega
   have EQ:=I (show dH C L r (j+1)=dY (dH C L r j) r u l by rw[E2.o];unfold aB.k_;rw[au (by rw[FT.o,aK Q1.o,aK q2,MF.o,PV.o];rfl)];show dY (dH C L r j) r (u:Int).toNat l=_;rw[ox]);have tl:r*39+u*3+2<156:=by omega
   have o0:(w3.cell? ⟨w.1.size+1,r*39+u*3,V⟩).isSome=aa:=by rw[I3.o.tab.cell _ (by omega)];rfl
   have o1:(w3.cell? ⟨w.1.size+1,r*39+u*3+1,V⟩).isSome=aa:=by rw[I3.o.tab.cell _ (by omega)];rfl
   have o2:(w3.cell? ⟨w.1.size+1,r*39+u*3+2,V⟩).isSome=aa:=by rw[I3.o.tab.cell _ (by omega)];rfl
   obtain⟨p0,bS⟩:=tk.1 o0;obtain⟨p1,bT⟩:=tk.1 o1;obtain⟨p2,bU⟩:=tk.1 o2;clear o0 o1 o2;have of:=I3.o.tab.bF;have aL:=I (show kW w ((((w3.setCell ⟨w.1.size+1,r*39+u*3,V⟩ (Z J k)).setCell ⟨w.1.size+1,r*39+u*3+1,V⟩ (Z J (u:Int))).setCell ⟨w.1.size+1,r*39+u*3+2,V⟩ (U ia im ae)).drew) (ow H (r*13+u) (k,(u:Int),U ia im ae))by have ht:=bp.EG I3.o.tab (r*13+u) (r*39+u*3) (by omega) (by omega) (k,(u:Int),U ia im ae);refine⟨?_,ht,?_⟩;exact I3.o.res.block (((fI _ _ _ _ (by simp)).trans (fI _ _ _ _ (by simp))).trans (fI _ _ _ _ (by simp)));exact(((I3.o.fF.setCell (p:=⟨w.1.size+1,r*39+u*3,V⟩) (by show w.1.size<=w.1.size+1;omega) _).setCell (p:=⟨w.1.size+1,r*39+u*3+1,V⟩) (by show w.1.size<=w.1.size+1;omega) _).setCell (p:=⟨w.1.size+1,r*39+u*3+2,V⟩) (by show w.1.size<=w.1.size+1;omega) _).drew);have aN:=I (show eX w (ow H (r*13+u) (k,(u:Int),U ia im ae)) (dH C L r (j+1))by rw[EQ.o,Q1.o];exact O.o.upd hr4 am aO.o);go_upto_region 15 with fail;go_region;go_wp2;go_roundw;case rel=>exact⟨j+1,_,by omega,by go_num,aN.o,aL.o⟩
   simp[aA];omega
  have ej:j=n:=by omega
  subst ej;go_wp2;go_roundw;case rel=>exact⟨r+1,H,by omega,by go_num,by rw[<-bc.o r];exact O.o,ai.o⟩
  simp[aA];omega
 have er:r=4:=by omega
 subst er;have RG:=A (wr.rangeAt (w.1.size+1) 0 (cr H0)) (by have:=ai.o.tab.range 0 156 (by omega);simp only[Nat.zero_add]at this;exact this);have LT:=I (pH H0);have bj:=A (wr.there w.1.size 0 (cr H0).toArray.size) (by rw[show(cr H0).toArray.size=156 by rw[bR];exact pH H0];exact ai.o.res.there 0 156 (by omega));have bb:=A ((wr.setCells w.1.size 0 (cr H0)).1[w.1.size]? =E (ah (cr H0).toArray 238 (0,0))) (ai.o.res.gU (cR H0));have BF:=A (af w.1.size w (wr.setCells w.1.size 0 (cr H0))) (dU (aw _) _ _ _ ai.o.fF);have aZ:=A ((cr H0).toArray.all (·.oneCell')=aa) (dN (TI O.o));have bI:=A (eX w H0 (aB.tab C L)) O.o;obtain⟨CS,aS⟩:=aj (cr H0);rw[<-aS]at RG LT bj bb BF aZ;have bE:=I aS;clear aS;have bh:=A ((prog.info? 238).map (·.size)=E CS.toArray.size) (by rw[mf,bR,LT.o]);have bH:=A ((prog.info? 238).map (·.size)=E CS.length) (by rw[mf,LT.o]);go_wp2_with(first|refine fK rfl 238 _ rfl (w.1.size+1) 0 rfl CS _ RG.o tv rfl bH.o ?_|refine cB rfl 238 _ _ rfl w.1.size 0 CS.toArray rfl rfl bj.o bh.o aZ.o ?_);refine cQ (ic rfl _ _ w.1.size 238 CS.toArray (0,0) _ rfl bb.o tv rfl bh.o) rfl ?_;exact⟨H0,by rw[bE.o],bI.o,BF.o⟩
def mH (H:Nat->RF):Nat->Nat
 |0=>0
 |r+1=>mH H r+(aT (cf (cE H r))).length
theorem De (H):∀r,mH H r<=r*13
 |0=>aw _
 |r+1=>by have:=De H r;have h2:=gC (cf (cE H r)) 13;show mH H r+(bV (cf (cE H r)) 13).length<=_;omega
theorem Nn (h:eX w H G)(hz:∀r,G r 0=V):mH H 4=aB.many G:=by
 have e:∀r,r<4->(aT (cf (cE H r))).length=dm (G r):=λr hr=>by unfold dm;rw[nd (h.has hz hr)]
 show 0+(aT (cf (cE H 0))).length+(aT (cf (cE H 1))).length+(aT (cf (cE H 2))).length+(aT (cf (cE H 3))).length=_;rw[e 0 (by omega),e 1 (by omega),e 2 (by omega),e 3 (by omega)];unfold aB.many;omega
theorem ur (w:ac)(H):bp (w.alloc (ah (cr H).toArray 238)) w.1.size 238 156 (cR H):=bo w _
theorem qV{b T}(h:bp w b T 156 (cR H))(r)(hr:r<4):w.rangeAt b (r*39) (cw (cE H r)):=by have:=h.range (r*39) 39 (by omega);rwa [El]at this
theorem Eg (H w):
  ay prog 180 #[aD (cr H).toArray] w λe w'=>e=az (Z J (mH H 4:Int))/\af w.1.size w w':=by
 have HF:=I (ur w H);have Y:=A (af w.1.size w (w.alloc (ah (cr H).toArray 238))) ((ax _ _).alloc (aw _) _);obtain⟨X,hX⟩:=aj (cr H);rw[<-hX]at HF Y ⊢;clear hX;obtain⟨W,hW⟩:=aj (w.alloc (ah X.toArray 238));rw[<-hW]at HF Y;have hsz:=HF.o.lt;have HW:=I hW;clear hW;go_enter func180,ntmps180;go_wp2_with fail;rw[<-HW.o];go_loopw [3,4] (λx i wr=>∃r:Nat,r<=4/\i=Z J (r:Int)/\x=Z J (mH H r:Int)/\af W.1.size W wr) (λ_ i _=>4-(aA i).toNat);case atStart=>exact⟨0,by omega,rfl,rfl,ax _ _⟩
 obtain⟨r,hr,rfl,rfl,O⟩:=hrel;have HB:=I O;have ag:=I (Y.o.trans (O.mono Y.o.size));have am:=De H r;have ak:mH H r<=52:=by omega
 have aa:=A (mH H (r+1)=mH H r+(aT (cf (cE H r))).length) rfl;by_cases hlt:r<4
 ·have ap:(r:Int)<4:=by omega
  have RG:=I (qV (HF.o.block (O.block _ hsz)) r hlt);have LS:=I (wG (cE H r) wr);have LX:=I (lx (cE H r));have ai:(aT (cf (cE H r))).length<=13:=gC _ 13;obtain⟨CR,ae⟩:=aj (cw (cE H r));rw[<-ae]at RG LS LX;clear ae O am;obtain⟨n,hn⟩:=aj ((aT (cf (cE H r))).length);rw[<-hn]at LS aa ai;clear hn;obtain⟨m,hm⟩:=aj (mH H r);rw[<-hm]at aa ak ⊢;clear hm;have SL:=A ((prog.info? 237).map (·.size)=E CR.length) (by rw[lD,LX.o]);go_wp2_with(refine fK rfl 237 _ rfl w.1.size (r*39) rfl CR _ RG.o kx rfl SL.o ?_);refine LS.o.mono ?_;rintro e w1 ⟨v,rfl,hown,hb1⟩;obtain⟨a3,c3,hv3⟩:=a_ hown;subst hv3;have B1:=I (HB.o.trans (hb1.mono HB.o.size));clear hown hb1;go_wp2;go_roundw;case rel=>exact⟨r+1,by omega,by go_num,by rw[aa.o];go_num,B1.o⟩
  simp[aA];omega
 have er:r=4:=by omega
 subst er;clear O;go_wp2;go_ret;exact⟨rfl,ag.o⟩
theorem QT{ps}(h:lR w v ps):
  ay prog 214 #[v] w λe w'=>e=az (ak (fc ps))/\af w.1.size w w':=by
 obtain⟨a,cap,rfl,l2,l3,hc⟩:=ud h;have HC:=I hc;clear hc h;by_cases t1:(ps.length:Int)=0;·have ai:((ps.length:Int)==0)=aa:=beq_iff_eq.2 t1;have H:=A (fc ps=Y) (by unfold fc;rw[aM (by omega)];rfl);go_enter func214,ntmps214;go_wp2;go_ret;exact⟨cg (λx=>Ending.returned (ak x)) H.o.symm,ax _ _⟩
 have ai:((ps.length:Int)==0)=Y:=beq_eq_false_iff_ne.2 t1;by_cases t2:12<(ps.length:Int);·have H:=A (fc ps=Y) (by unfold fc;rw[aM (by omega)];rfl);go_enter func214,ntmps214;go_wp2;go_ret;exact⟨cg (λx=>Ending.returned (ak x)) H.o.symm,ax _ _⟩
 generalize hn:ps.length=n at*;have O:=I hn;clear hn;go_enter func214,ntmps214;go_wp2;go_loopw [4] (λi wr=>∃k:Nat,k<=n/\i=Z J k/\mZ wr w.1.size 36 (aZ.xs (ps.take k))/\(ps.take k).all mL=aa/\(aZ.xs (ps.take k)).Nodup/\af w.1.size w wr/\w.1.size<wr.1.size) (λi _=>n-(aA i).toNat);case atStart=>
  refine⟨0,by omega,rfl,⟨_,bo w _,rfl,λx h0 h1=>?_⟩,rfl,List.nodup_nil,(ax _ _).alloc (aw _) _,by simp⟩;have hx:x.toNat<=12:=by omega
  rw[show decide (x∈aZ.xs (ps.take 0))=Y from aM (by simp[aZ.xs])]
  match x.toNat,hx with
  |0,_=>rfl
  |1,_=>rfl
  |2,_=>rfl
  |3,_=>rfl
  |4,_=>rfl
  |5,_=>rfl
  |6,_=>rfl
  |7,_=>rfl
  |8,_=>rfl
  |9,_=>rfl
  |10,_=>rfl
  |11,_=>rfl
  |12,_=>rfl
  |n+13,h=>exact absurd h (by omega)
 obtain⟨k,hk,rfl,ac,hall,ag,ae,hsz⟩:=hrel;have HS:=I ac;have HA:=I hall;have HD:=I ag;have HB:=I ae;clear hall ag;by_cases hlt:k<n
 ·obtain⟨b,off,rfl,hb,c0,c1⟩:=HC.o k hlt;rw[<-ae.cell (p:=⟨b,off+k*2,V⟩) hb]at c0;rw[<-ae.cell (p:=⟨b,off+k*2+1,V⟩) hb]at c1;obtain⟨x,hx⟩:=aj ((ps.getD k (0,0)).1);obtain⟨y,hy⟩:=aj ((ps.getD k (0,0)).2);rw[<-hx]at c0;rw[<-hy]at c1;have HP:=A (ps.getD k (0,0)=(x,y)) (by rw[hx,hy]);clear hx hy ae;by_cases x1:x<1;·clear ac;have H:=I (sr ps k (by rw[O.o];exact hlt) (by rw[HP.o];show(bE x&&aG y)=Y;rw[kD (by omega)];rfl));go_wp2;go_ret;exact⟨cg (λx=>Ending.returned (ak x)) H.o.symm,HB.o.alloc (by omega) _⟩
  by_cases x2:12<x;·clear ac;have H:=I (sr ps k (by rw[O.o];exact hlt) (by rw[HP.o];show(bE x&&aG y)=Y;rw[kD (by omega)];rfl));go_wp2;go_ret;exact⟨cg (λx=>Ending.returned (ak x)) H.o.symm,HB.o.alloc (by omega) _⟩
  by_cases y1:y<0;·clear ac;have H:=I (sr ps k (by rw[O.o];exact hlt) (by rw[HP.o];show(bE x&&aG y)=Y;rw[qp (by omega)];simp));go_wp2;go_ret;exact⟨cg (λx=>Ending.returned (ak x)) H.o.symm,HB.o.alloc (by omega) _⟩
  by_cases y2:y<2305843009213693951
  ·obtain⟨s1,s2⟩:=ac.cell x (by omega) (by omega);have ah:mL (ps.getD k (0,0))=aa:=by rw[HP.o];show(bE x&&aG y)=aa;rw[dW (by omega) (by omega),eD (by omega) y2];rfl
   have HK:=I ah;clear ac ah;cases q3:decide (x∈aZ.xs (ps.take k))
   ·rw[q3]at s1;have HX:=I (of_decide_eq_false q3);clear q3;go_wp2;go_roundw;case rel=>
     have e:=wy ps k (by rw[O.o];exact hlt);have ex:aZ.xs (ps.take (k+1))=aZ.xs (ps.take k)++[x]:=by rw[e,sP,HP.o];rfl
     refine⟨k+1,by omega,by go_num,?_,?_,?_,(HB.o.setCell (p:=⟨w.1.size,x.toNat,V⟩) (aw _) _).alloc (by simp[World.setCell];omega) _,by simp[World.setCell];omega⟩;rw[ex];exact(HS.o.set x (by omega) (by omega)).alloc (by simp[World.setCell];omega) _;rw[e,xi,HA.o,eE,AH,List.all_nil,uy];exact HK.o;rw[ex,AD];refine⟨HD.o,by simp,λu hu z hz e=>?_⟩;simp at hz;subst hz;subst e;exact HX.o hu
    simp[aA];omega
   rw[q3]at s1;have H:=I (DO ps k (by rw[O.o];exact hlt) (by rw[HP.o];exact rz q3));clear q3;go_wp2;go_ret;exact⟨cg (λx=>Ending.returned (ak x)) H.o.symm,HB.o.alloc (by omega) _⟩
  clear ac;have H:=I (sr ps k (by rw[O.o];exact hlt) (by rw[HP.o];show(bE x&&aG y)=Y;rw[qp (by omega)];simp));go_wp2;go_ret;exact⟨cg (λx=>Ending.returned (ak x)) H.o.symm,HB.o.alloc (by omega) _⟩
 have ek:k=n:=by omega
 subst ek;clear ac ae;have et:ps.take k=ps:=kt (by rw[O.o];exact aw _);have H:=I (DR ps (by rw[O.o];omega) (by rw[O.o];omega) (by have:=HA.o;rw[et]at this;exact this) (by have:=HD.o;rw[et]at this;exact this));clear et;go_wp2;go_ret;exact⟨cg (λx=>Ending.returned (ak x)) H.o.symm,HB.o⟩
def EI (a r0 r1 t0 t1:Int):Prop:=
 0<=r1/\r1<r0/\r0<=2305843009213693951/\(r1=0->r0<2305843009213693951)/\Cg (t0*a) r0/\Cg (t1*a) r1/\ -2305843009213693951<t0/\t0<2305843009213693951/\
  (t0<=0/\0<=t1/\t1*r0-t0*r1=2305843009213693951\/0<=t0/\t1<=0/\t0*r1-t1*r0=2305843009213693951)
theorem Jf (a)(h:0<a)(h':a<2305843009213693951):EI a 2305843009213693951 a 0 1:=by refine⟨by omega,h',by omega,by omega,?_,?_,by omega,by omega,.inl ⟨by omega,by omega,by omega⟩⟩;unfold Cg;omega;rw[uz];exact il _
theorem Pw{b}(ha:0<=a)(hb:1<=b):a<=a*b:=by have:=AK hb ha;omega
theorem BS (h:EI a r0 r1 t0 t1)(h1:0<r1):
  0<=r0/r1/\r0/r1*r1<=r0/\0<=r0/r1*r1/\ -2305843009213693951<=r0/r1*t1/\r0/r1*t1<=2305843009213693951/\ -2305843009213693951<t1/\t1<2305843009213693951:=by
 obtain⟨a1,a2,a3,a4,a5,a6,a7,a8,a9⟩:=h;have q0:0<=r0/r1:=FD (by omega) a1;have e:r0=r1*(r0/r1)+r0%r1:=(Vc r0 r1).symm;have m0:0<=r0%r1:=Int.emod_nonneg _ (by omega);have c:r1*(r0/r1)=r0/r1*r1:=kS _ _;have n0:0<=r0/r1*r1:=kT q0 a1;have O:r0/r1<=r0:=by have:=Pw q0 (show 1<=r1 by omega);omega
 rcases a9 with⟨s1,s2,s3⟩|⟨s1,s2,s3⟩;have b1:0<= -t0*r1:=kT (by omega) a1;have b2:t1*r0<=2305843009213693951:=by rw[Int.neg_mul]at b1;omega
 have b3:r0/r1*t1<=r0*t1:=uN O s2;have b4:0<=r0/r1*t1:=kT q0 s2;rw[kS r0 t1]at b3;have Y:=AK (show 2<=r0 by omega) s2;exact⟨q0,by omega,n0,by omega,by omega,by omega,by omega⟩;have b1:0<=t0*r1:=kT s1 a1;have b2: -t1*r0<=2305843009213693951:=by rw[Int.neg_mul];omega
 have b3:r0/r1* -t1<=r0* -t1:=uN O (by omega);have b4:0<=r0/r1* -t1:=kT q0 (by omega);rw[kS r0 (-t1)]at b3;rw[Int.mul_neg]at b3 b4;have Y:=AK (show 2<=r0 by omega) (show 0<= -t1 by omega);exact⟨q0,by omega,n0,by omega,by omega,by omega,by omega⟩
theorem Je (h:EI a r0 r1 t0 t1)(h1:0<r1):EI a r1 (r0-r0/r1*r1) t1 (t0-r0/r1*t1):=by
 obtain⟨c1,c2,c3,c4,c5,c6,c7⟩:=BS h h1;obtain⟨a1,a2,a3,a4,a5,Y,a7,a8,a9⟩:=h;have e:r0=r1*(r0/r1)+r0%r1:=(Vc r0 r1).symm;have c:r1*(r0/r1)=r0/r1*r1:=kS _ _;have m1:r0%r1<r1:=Int.emod_lt_of_pos _ h1;generalize r0/r1=q at*;refine⟨by omega,by omega,by omega,λ_=>by omega,Y,?_,c6,c7,?_⟩;have e1:(t0-q*t1)*a=t0*a-q*(t1*a):=by grind
 rw[e1];exact vq a5 (jU (il q) Y);rcases a9 with⟨s1,s2,O⟩|⟨s1,s2,O⟩
 ·right;have n:0<=q*t1:=kT c1 s2;refine⟨s2,by omega,?_⟩;have:t1*(r0-q*r1)-(t0-q*t1)*r1=t1*r0-t0*r1:=by grind
  rw[this];exact O
 left;have n:0<=q* -t1:=kT c1 (by omega);rw[Int.mul_neg]at n;refine⟨s2,by omega,?_⟩;have:(t0-q*t1)*r1-t1*(r0-q*r1)=t0*r1-t1*r0:=by grind
 rw[this];exact O
theorem Jd (ha:0<a)(ha':a<2305843009213693951)(h:EI a r0 0 t0 t1):(if t0<0 then t0+2305843009213693951 else t0)=eH.inv a:=by
 obtain⟨a1,a2,a3,a4,a5,a6,a7,a8,a9⟩:=h;have hd:∃u:Int,u*r0=2305843009213693951:=by rcases a9 with⟨_,_,Y⟩|⟨_,_,Y⟩;exact⟨t1,by omega⟩;exact⟨-t1,by rw[Int.neg_mul];omega⟩
 have hr:r0=1:=by obtain⟨u,hu⟩:=hd;have O:r0 ∣ 2305843009213693951:=⟨u,by rw[kS];exact hu.symm⟩;have hn:r0.natAbs ∣ 2305843009213693951:=Int.ofNat_dvd_right.1 O;have:=yJ.2 _ hn;have:=a4 rfl;omega
 subst hr;have h1:=vL a ha ha';have l1:=yI a;have l2:=yH a;have c1:Cg (t0*a) (eH.inv a*a):=by refine lX a5 ?_;rw[vp,kS,h1];rfl
 have c2:Cg t0 (eH.inv a):=ye (by unfold Cg;omega) c1;unfold Cg at c2;split<;>omega
theorem QN (h:EI a r0 r1 t0 t1)(h1:0<r1):wrap64 (r0-wrap64 (r0/r1*r1))=r0-r0/r1*r1/\wrap64 (t0-wrap64 (r0/r1*t1))=t0-r0/r1*t1:=by obtain⟨c1,c2,c3,c4,c5,c6,c7⟩:=BS h h1;obtain⟨a1,a2,a3,a4,a5,O,Y,a8,a9⟩:=h;generalize r0/r1=q at*;generalize q*r1=A at*;generalize q*t1=B at*;rw[eL A (by omega),eL B (by omega),eL _ (by omega),eL _ (by omega)];exact⟨rfl,rfl⟩
theorem QD (ha:0<a)(ha':a<2305843009213693951):
  ay prog 216 #[Z J a] w λe w'=>e=az (Z J (eH.inv a))/\w'=w:=by
 have HS:=I (Jf a ha ha');go_enter func216,ntmps216;go_wp2;go_loop [3,4,5,6] (λx0 x1 y0 y1=>∃r0 r1 t0 t1:Int,x0=Z J r0/\x1=Z J r1/\y0=Z J t0/\y1=Z J t1/\EI a r0 r1 t0 t1) (λ_ x1 _ _=>(aA x1).toNat);case atStart=>exact⟨_,_,_,_,rfl,rfl,rfl,rfl,HS.o⟩
 obtain⟨r0,r1,t0,t1,rfl,rfl,rfl,rfl,hE⟩:=hrel;have Y:=I hE;obtain⟨a1,a2,a3,a4,a5,a6,a7,a8,a9⟩:=hE;by_cases h1:r1=0
 ·subst h1;have H:=I (Jd ha ha' Y.o);by_cases ht:t0<0;·have O:=A (t0+2305843009213693951=eH.inv a) (by rw[<-H.o,au ht]);go_wp2;go_ret;exact⟨cg (λx=>Ending.returned (Z J x)) O.o,rfl⟩
  have O:=A (t0=eH.inv a) (by rw[<-H.o,ar ht]);go_wp2;go_ret;exact⟨cg (λx=>Ending.returned (Z J x)) O.o,rfl⟩
 have hp:0<r1:=by omega
 have hne:(r1 != 0)=aa:=by simp[h1]
 have RF:=I (QN Y.o hp);have NX:=I (Je Y.o hp);go_wp2;go_round;case rel=>exact⟨_,_,_,_,rfl,rfl,rfl,rfl,by rw[RF.o.1,RF.o.2];exact NX.o⟩
 rw[RF.o.1];have:=NX.o.1;have:=NX.o.2.1;simp[aA];omega
end
end Go.Proofs.YtchideljndagjabGreat


