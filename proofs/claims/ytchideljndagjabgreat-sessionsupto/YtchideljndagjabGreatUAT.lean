/- Joined -/
import Derived.Test.YtchideljndagjabGreatUAS
set_option linter.unusedVariables false
set_option maxHeartbeats 4000000
set_option maxRecDepth 100000
namespace Go.Proofs.YtchideljndagjabGreat
open aq aO aB bb aZ
open Go.Value renaming int->Z,slice->U,pointer->aC,tuple->br
open Go.IntKind renaming i64->J
open Go.Ending renaming returned->az
open Or renaming inl->ae,inr->Q
open Option renaming none->V,some->E
open Bool renaming false->Y,true->aa
open Go renaming World->ac,Value->ag,Calls->ay
open Go.RowKit renaming Below->af,intOf->aA
abbrev Vb:=@List.range_succ_eq_map
abbrev Gd:=@List.length_range
open Go.Proofs.Tryz
variable {ms:List (Int×Bool)}{b:Nat}{p:Nat->Bool}{S:SS}{C:Cf}{s:Sv}{G:bk}{v:ag}{w w':ac}
section
open Go.ChangeShapes Go.WideShapes Go.ChangeAt Go.RowKit
def iP (st ro:Int)(set sum:ag):SS:=⟨0,0,0,0,0,0,λ_=>Y,λ_=>Y,λ_=>U V 0 0,λ_=>0,λ_=>Y,U V 0 0,st,ro,set,sum⟩
theorem sJ:(prog.info? 106).map (·.size)=E 76:=by kernel_rfl
theorem uj{s}(h1:∀v,v<13->(s.it v).oneCell'=aa)(h2:s.ml.oneCell'=aa)(h3:s.set.oneCell'=aa)(h4:s.sum.oneCell'=aa):∀v∈cM s,v.oneCell'=aa:=by
 intro v hv;unfold cM lG nw at hv;rcases cZ.1 hv with hv|hv;·simp only[List.mem_cons,List.not_mem_nil,or_false]at hv;rcases hv with rfl|rfl|rfl|rfl|rfl|rfl<;>rfl
 rcases cZ.1 hv with hv|hv;exact q_ (P:=λv=>v.oneCell'=aa) (λu hu=>rfl) v hv;rcases cZ.1 hv with hv|hv;exact q_ (P:=λv=>v.oneCell'=aa) (λu hu=>rfl) v hv;rcases cZ.1 hv with hv|hv;exact q_ (P:=λv=>v.oneCell'=aa) h1 v hv;rcases cZ.1 hv with hv|hv;exact q_ (P:=λv=>v.oneCell'=aa) (λu hu=>rfl) v hv;rcases cZ.1 hv with hv|hv;exact q_ (P:=λv=>v.oneCell'=aa) (λu hu=>rfl) v hv;simp only[List.mem_cons,List.not_mem_nil,or_false]at hv;rcases hv with rfl|rfl|rfl|rfl|rfl<;>first|rfl|assumption
theorem aR.there{s}(h:aR w b s)(o n)(hn:o+n<=76):w.there b o n:=by have:=bw.there h o n (by rw[pF];exact hn);rwa [cz]at this
theorem zT (P b o vs w)(ht:w.there b o vs.length)(h1:∀v∈vs,v.oneCell'=aa):(storeCells ⟨b,o,V⟩ vs).run P w=.ok () (w.setCells b o vs):=
 FP b o vs 0 w (λj hj=>(ht j hj).1) (λj hj=>(ht j hj).2) h1
structure cW (w w':ac)(b:Nat):Prop where
 aV:av (λx=>x=b) w w'
 rest:∀i,76<=i->w'.cell? ⟨b,i,V⟩=w.cell? ⟨b,i,V⟩/\w'.frozen? ⟨b,i,V⟩=w.frozen? ⟨b,i,V⟩
theorem cW.trans{w1 w2}(h:cW w w1 b)(k:cW w1 w2 b):cW w w2 b:=⟨h.aV.bY k.aV,λi hi=>⟨(k.rest i hi).1.trans (h.rest i hi).1,(k.rest i hi).2.trans (h.rest i hi).2⟩⟩
theorem cW.grow (hb:af w.1.size w w')(hl:b<w.1.size):cW w w' b:=⟨av.bz hb,λi _=>⟨hb.cell (p:=⟨b,i,V⟩) hl,hb.frozen (p:=⟨b,i,V⟩) hl⟩⟩
theorem cW.cells (w b o vs)(h:o+vs.length<=76):cW w (w.setCells b o vs) b:=
 ⟨rO b vs o w,λi hi=>⟨AG b vs o w ⟨b,i,V⟩ (λ_ _=>Q (by show o+vs.length<=i;omega)),F_ b vs o w ⟨b,i,V⟩⟩⟩
theorem cW.cell (w b j v)(h:j<76):cW w (w.setCell ⟨b,j,V⟩ v) b:=
 ⟨av.setCell w ⟨b,j,V⟩ v,λi hi=>⟨lO _ _ _ _ (by intro q;injection q with q1 q2 q3;omega),mS ..⟩⟩
theorem TA (h:aR w b S):
  ay prog 196 #[aC (E ⟨b,0,V⟩)] w λe w'=>e=az (br #[])/\w'=w.setCells b 0 (cM (iP 2 S.rd (U V 0 0) (U V 0 0))):=by have c5:=h.rd;have hst:=zT prog b 0 (cM (iP 2 S.rd (U V 0 0) (U V 0 0))) w (h.there 0 76 (by omega)) (uj (λ_ _=>rfl) rfl rfl rfl);have O:(storeCells ⟨b,0,V⟩ ((((zeroCells106.toList.set 72 (Value.int IntKind.i64 2)).set 73 (Value.int IntKind.i64 S.rd)).set 74 (Value.slice V 0 0)).set 75 (Value.slice V 0 0)) 0).run prog w=.ok () (w.setCells b 0 (cM (iP 2 S.rd (U V 0 0) (U V 0 0)))):=hst;generalize cM (iP 2 S.rd (U V 0 0) (U V 0 0))=cs at*;generalize S.rd=rd at*;go_enter func196,ntmps196;go_wp2;go_end0;exact⟨rfl,rfl⟩
def ng (S:SS)(pb:Nat->Int)(sh:Nat->Bool)(ml:ag):SS:={S with rd:=S.rd+1,sn:=S.ct,ct:=λ_=>Y,it:=λ_=>U V 0 0,pb:=pb,sh:=sh,ml:=ml}
theorem wh (h:aR w b S)(r)(hr:S.rd=r):
  (w.cell? ⟨b,5,V⟩=E (Z J r)/\w.frozen? ⟨b,5,V⟩=Y)/\
  ((w.setCell ⟨b,5,V⟩ (Z J (r+1))).rangeAt b 19 (aN S.ct)/\(w.setCell ⟨b,5,V⟩ (Z J (r+1))).there b 6 (aN S.ct).toArray.size)/\
  ((w.setCell ⟨b,5,V⟩ (Z J (r+1))).setCells b 6 (aN S.ct)).there b 19 (aN λ_=>Y).toArray.size/\
  (((w.setCell ⟨b,5,V⟩ (Z J (r+1))).setCells b 6 (aN S.ct)).setCells b 19 (aN λ_=>Y)).there b 32 (v13 λ_=>U V 0 0).toArray.size/\
  aR ((((w.setCell ⟨b,5,V⟩ (Z J (r+1))).setCells b 6 (aN S.ct)).setCells b 19 (aN λ_=>Y)).setCells b 32 (v13 λ_=>U V 0 0)) b (ng S S.pb S.sh S.ml)/\
  cW w ((((w.setCell ⟨b,5,V⟩ (Z J (r+1))).setCells b 6 (aN S.ct)).setCells b 19 (aN λ_=>Y)).setCells b 32 (v13 λ_=>U V 0 0)) b:=by
 subst hr;have h2:=h.SD (S.rd+1);have h3:=h2.GO S.ct;have h4:=h3.GH λ_=>Y;have h5:=h4.GK λ_=>U V 0 0
 exact⟨⟨h.rd,h.bF 5 (by omega)⟩,⟨h2.qg,h2.there 6 13 (by omega)⟩,h3.there 19 13 (by omega),h4.there 32 13 (by omega),h5,
  (((cW.cell w b 5 _ (by omega)).trans (cW.cells _ b 6 (aN S.ct) (by rw[eN];omega))).trans (cW.cells _ b 19 (aN λ_=>Y) (by rw[eN];omega))).trans (cW.cells _ b 32 (v13 λ_=>U V 0 0) (by rw[ra];omega))⟩
theorem zM:(prog.info? 101).map (·.size)=E (aN λ_=>Y).toArray.size:=gu
theorem zK:(prog.info? 103).map (·.size)=E (v13 λ_=>U V 0 0).toArray.size:=zL
theorem zj:(aN λ_=>Y).toArray.all (·.oneCell')=aa:=dN (ld λ_=>Y)
theorem zi:(v13 λ_=>U V 0 0).toArray.all (·.oneCell')=aa:=dN (q_ (P:=λv=>v.oneCell'=aa) (λ_ _=>rfl))
theorem Hj (h:aR w b S)(ai:S.rd=1):
  ay prog 199 #[aC (E ⟨b,0,V⟩)] w λe w'=>e=az (br #[])/\aR w' b (ng S S.pb S.ct S.ml)/\cW w w' b:=by have c5:=h.rd;rw[ai]at c5;have R0:=I h.qg;have T0:=A (w.there b 58 (aN S.ct).toArray.size) (h.there 58 13 (by omega));obtain⟨W1,hW1⟩:=aj (w.setCells b 58 (aN S.ct));have H1:=A (aR W1 b {S with sh:=S.ct}) (by rw[hW1];exact h.GN S.ct);have ak:=A (({S with sh:=S.ct}:SS).rd=1) ai;have am:=A (cW w W1 b) (by rw[hW1];exact cW.cells w b 58 (aN S.ct) (by rw[eN];omega));have ah:=I hW1;clear hW1;obtain⟨⟨d5,f5⟩,⟨r2,t2⟩,t3,t4,h5,tn⟩:=wh H1.o 1 ak.o;have R2:=I r2;have T2:=I t2;have T3:=I t3;have T4:=I t4;have HE:=A (aR _ b (ng S S.pb S.ct S.ml)/\cW w _ b) ⟨h5,am.o.trans tn⟩;clear r2 t2 t3 t4 h5 tn;obtain⟨O,ac⟩:=aj (aN S.ct);change cO (World.rangeAt (W1.setCell ⟨b,5,V⟩ (Z J (1+1))) b 19 (aN S.ct))at R2;rw[show(aN ({S with sh:=S.ct}:SS).ct)=aN S.ct from rfl]at T2 T3 T4 HE;rw[<-ac]at R0 T0 ah R2 T2 T3 T4 HE;have LX:=A (O.length=13) (by rw[ac];rfl);have ae:=A (O.toArray.all (·.oneCell')=aa) (by rw[ac];exact dN (ld S.ct));clear ac;have af:=A ((prog.info? 101).map (·.size)=E O.length) (by rw[gu,LX.o]);have ag:=A ((prog.info? 101).map (·.size)=E O.toArray.size) (by rw[gu,bR,LX.o]);go_enter func199,ntmps199;go_upto_region 7 with(first|refine eM rfl 101 _ rfl b 19 rfl O _ R0.o iX rfl af.o ?_|refine cB rfl 101 _ _ rfl b 58 O.toArray rfl rfl T0.o ag.o ae.o ?_);rw[<-ah.o];go_upto_region 8 with fail;go_upto_region 9 with(first|refine eM rfl 101 _ rfl b 19 rfl O _ R2.o iX rfl af.o ?_|refine cB rfl 101 _ _ rfl b 6 O.toArray rfl rfl T2.o ag.o ae.o ?_);go_upto_region 10 with(refine cB rfl 101 _ _ rfl b 19 (aN λ_=>Y).toArray rfl rfl T3.o zM zj ?_);go_wp2_with(refine cB rfl 103 _ _ rfl b 32 (v13 λ_=>U V 0 0).toArray rfl rfl T4.o zK zi ?_);go_end0;exact⟨rfl,HE.o.1,HE.o.2⟩
theorem Hl (L:Nat->List aq.It)(h:aR w b S)(hL:∀v,v<13->aX w (S.it v) (L v))(ai:S.rd=0):
  ay prog 199 #[aC (E ⟨b,0,V⟩)] w λe w'=>e=az (br #[])/\aR w' b (ng S (λu:Nat=>(aL (L u) u).2.2.1) S.sh S.ml)/\cW w w' b:=by have c5:=h.rd;rw[ai]at c5;have hbl:=h.lt;have MP:=I (Ns L h hL);have HS:=I h;clear h hL;go_enter func199,ntmps199;go_wp2_with fail;refine aH MP.o λw0 hb0=>?_;have h0:=HS.o.below hb0;have T0:=A (w0.there b 45 (v13 λu:Nat=>Z J (aL (L u) u).2.2.1).toArray.size) (h0.there 45 13 (by omega));obtain⟨W1,hW1⟩:=aj (w0.setCells b 45 (v13 λu:Nat=>Z J (aL (L u) u).2.2.1));have H1:=A (aR W1 b {S with pb:=λu:Nat=>(aL (L u) u).2.2.1}) (by rw[hW1];exact h0.GL _);have ak:=A (({S with pb:=λu:Nat=>(aL (L u) u).2.2.1}:SS).rd=0) ai;have au:=A (cW w W1 b) (by rw[hW1];exact(cW.grow hb0 hbl).trans (cW.cells w0 b 45 _ (by rw[ra];omega)));have ag:=I hW1;have ae:=I (dN (CV (λu:Nat=>(aL (L u) u).2.2.1)));have af:=A ((prog.info? 104).map (·.size)=E (v13 λu:Nat=>Z J (aL (L u) u).2.2.1).toArray.size) (by rw[zN,bR,ra]);clear hW1 hb0 h0;obtain⟨⟨d5,f5⟩,⟨r2,t2⟩,t3,t4,h5,tn⟩:=wh H1.o 0 ak.o;have R2:=I r2;have T2:=I t2;have T3:=I t3;have T4:=I t4;have HE:=A (aR _ b (ng S (λu:Nat=>(aL (L u) u).2.2.1) S.sh S.ml)/\cW w _ b) ⟨h5,au.o.trans tn⟩;clear r2 t2 t3 t4 h5 tn;obtain⟨O,ac⟩:=aj (aN S.ct);change cO (World.rangeAt (W1.setCell ⟨b,5,V⟩ (Z J (0+1))) b 19 (aN S.ct))at R2;rw[show(aN ({S with pb:=λu:Nat=>(aL (L u) u).2.2.1}:SS).ct)=aN S.ct from rfl]at T2 T3 T4 HE;rw[<-ac]at R2 T2 T3 T4 HE;have LX:=A (O.length=13) (by rw[ac];rfl);have am:=A (O.toArray.all (·.oneCell')=aa) (by rw[ac];exact dN (ld S.ct));clear ac;have ap:=A ((prog.info? 101).map (·.size)=E O.length) (by rw[gu,LX.o]);have ar:=A ((prog.info? 101).map (·.size)=E O.toArray.size) (by rw[gu,bR,LX.o]);obtain⟨PB,ah⟩:=aj (v13 λu:Nat=>Z J (aL (L u) u).2.2.1);rw[<-ah]at T0 ag ae af ⊢;clear ah;go_upto_region 7 with(refine cB rfl 104 _ _ rfl b 45 PB.toArray rfl rfl T0.o af.o ae.o ?_);rw[<-ag.o];go_upto_region 8 with fail;go_upto_region 9 with(first|refine eM rfl 101 _ rfl b 19 rfl O _ R2.o iX rfl ap.o ?_|refine cB rfl 101 _ _ rfl b 6 O.toArray rfl rfl T2.o ar.o am.o ?_);go_upto_region 10 with(refine cB rfl 101 _ _ rfl b 19 (aN λ_=>Y).toArray rfl rfl T3.o zM zj ?_);go_wp2_with(refine cB rfl 103 _ _ rfl b 32 (v13 λ_=>U V 0 0).toArray rfl rfl T4.o zK zi ?_);go_end0;exact⟨rfl,HE.o.1,HE.o.2⟩
theorem Hk (L)(M:Nat)(h:aR w b S)(hL:∀v,v<13->aX w (S.it v) (L v))(hm:S.m=(M:Int))(hM:M<=12)(hw:∀(v:Nat)(x:Int),0<=(aL (L v) x).2.1/\(aL (L v) x).2.1<4294967296)(ag:S.rd=2):
  ay prog 199 #[aC (E ⟨b,0,V⟩)] w λe w'=>e=az (br #[])/\∃va,w'.ownsRow w.1.size 3 1 va M ((pG L M).map (Value.int J))/\aR w' b (ng S S.pb S.sh va)/\cW w w' b:=by have c5:=h.rd;rw[ag]at c5;have hbl:=h.lt;have MP:=I (Nv L M h hL hm hM hw);have HS:=I h;clear h hL hm hw;go_enter func199,ntmps199;go_wp2_with fail;refine MP.o.mono ?_;rintro e w0 ⟨va,rfl,hown,hb0⟩;have h0:=HS.o.below hb0;obtain⟨a3,c3,hv3⟩:=a_ hown;subst hv3;obtain⟨W1,hW1⟩:=aj (w0.setCell ⟨b,71,V⟩ (U a3 M c3));have H1:=A (aR W1 b {S with ml:=U a3 M c3}) (by rw[hW1];exact h0.SB _);have ae:=A (({S with ml:=U a3 M c3}:SS).rd=2) ag;have am:=A (cW w W1 b) (by rw[hW1];exact(cW.grow hb0 hbl).trans (cW.cell w0 b 71 _ (by omega)));have ap:=A (cW w0 W1 b) (by rw[hW1];exact cW.cell w0 b 71 _ (by omega));have au:=h0.ml;have f71:=h0.bF 71 (by omega);have ar:=I hW1;have af:=I hown;clear hW1 hb0 h0 hown;have TL:=I (wh H1.o 2 ae.o).2.2.2.2.2;obtain⟨⟨d5,f5⟩,⟨r2,t2⟩,t3,t4,h5,tn⟩:=wh H1.o 2 ae.o;have R2:=I r2;have T2:=I t2;have T3:=I t3;have T4:=I t4;have HE:=A (aR _ b (ng S S.pb S.sh (U a3 M c3))/\cW w _ b) ⟨h5,am.o.trans tn⟩;clear r2 t2 t3 t4 h5 tn;obtain⟨O,ac⟩:=aj (aN S.ct);change cO (World.rangeAt (W1.setCell ⟨b,5,V⟩ (Z J (2+1))) b 19 (aN S.ct))at R2;rw[show(aN ({S with ml:=U a3 M c3}:SS).ct)=aN S.ct from rfl]at T2 T3 T4 HE;rw[show(aN ({S with ml:=U a3 M c3}:SS).ct)=aN S.ct from rfl]at TL;rw[<-ac]at TL R2 T2 T3 T4 HE;have LX:=A (O.length=13) (by rw[ac];rfl);have ah:=A (O.toArray.all (·.oneCell')=aa) (by rw[ac];exact dN (ld S.ct));clear ac;have ai:=A ((prog.info? 101).map (·.size)=E O.length) (by rw[gu,LX.o]);have ak:=A ((prog.info? 101).map (·.size)=E O.toArray.size) (by rw[gu,bR,LX.o]);go_upto_region 7 with fail;rw[<-ar.o];go_upto_region 8 with fail;go_upto_region 9 with(first|refine eM rfl 101 _ rfl b 19 rfl O _ R2.o iX rfl ai.o ?_|refine cB rfl 101 _ _ rfl b 6 O.toArray rfl rfl T2.o ak.o ah.o ?_);go_upto_region 10 with(refine cB rfl 101 _ _ rfl b 19 (aN λ_=>Y).toArray rfl rfl T3.o zM zj ?_);go_wp2_with(refine cB rfl 103 _ _ rfl b 32 (v13 λ_=>U V 0 0).toArray rfl rfl T4.o zK zi ?_);go_end0;refine⟨rfl,_,?_,HE.o.1,HE.o.2⟩;exact bf af.o (ap.o.trans TL.o).aV (λx hx e=>by have:=(af.o.lt x hx).1;omega)
def eI (sn sh:Nat->Bool)(pb:Nat->Int)(sec:Nat->Int)(n:Nat):List (Int×Bool):=((bV sh n).map λv=>iW sn pb v (sec v)).flatten
theorem Be (sn sh pb sec n):eI sn sh pb sec (n+1)=eI sn sh pb sec n++(if sh n=aa then iW sn pb n (sec n)else[]):=by unfold eI;rw[iM,cF,uB];split<;>simp
theorem Fz (sn pb v sec):(iW sn pb v sec).length<=13:=by unfold iW;split;simp;exact Dn _ _ _ _ _
theorem UN (sn pb v sec)(h:aT sn≠[]):0<(iW sn pb v sec).length:=by unfold iW;split;simp;unfold jg;rw[dI];exact List.length_pos_iff.2 h
theorem xU (sn sh pb sec):∀n,(eI sn sh pb sec n).length<=n*13
 |0=>by simp[eI,bV]
 |n+1=>by have h1:=xU sn sh pb sec n;have h2:=Fz sn pb n (sec n);rw[Be,cy];split;omega;simp;omega
theorem NA (l:List (Int×Bool)):∀v∈eR (l.map mkV),v.oneCell'=aa:=by intro v hv;unfold eR at hv;obtain⟨x,hx,hv⟩:=Ay.1 hv;obtain⟨p,hp,rfl⟩:=cq.1 hx;obtain⟨q,hq,rfl⟩:=cq.1 hp;simp only[List.mem_cons,List.not_mem_nil,or_false]at hv;rcases hv with rfl|rfl<;>rfl
theorem GC (g j):(⟨g,0,V⟩:Addr).add j=⟨g,j,V⟩:=by
 cases j with
 |zero=>simp[Addr.add]
 |succ j=>simp[Addr.add]
theorem Tb (L)(h:aR w b S)(hL:∀v,v<13->aX w (S.it v) (L v))(hp:∀v,v<13->S.sh v=aa->fc (dB S.ct L v 13)=aa)(hne:aT S.sn≠[])(aD:∀u,u<13->0<=S.pb u/\S.pb u<2305843009213693951):
  ay prog 284 #[aC (E ⟨b,0,V⟩)] w λe w'=>∃va,e=az va/\w'.ownsRow w.1.size 292 2 va (eI S.sn S.sh S.pb (λv=>dG (dB S.ct L v 13)) 13).length (eR ((eI S.sn S.sh S.pb (λv=>dG (dB S.ct L v 13)) 13).map mkV))/\af w.1.size w w':=by
 obtain⟨i1,aL,aO,aP,aQ⟩:=bO CK;have ak:=I h.GR;have LX:=I (eN S.sh);have ag:=I (nV S.sh);have am:=I (λ(w1:ac)(k:Nat)(hk:k<13)(hq:S.sh k=aa)(hb:af w.1.size w w1)=>R_ L k (h.below hb) (λv hv=>(hL v hv).below hb) (hp k hk hq));have ah:=I (λ(w1:ac)(k:Nat)(hk:k<13)(hb:af w.1.size w w1)=>Nx k (dG (dB S.ct L k 13)) (h.below hb) hk (vS _) (vR _) aD);have ai:=I (λ(k:Nat)=>UN S.sn S.pb k (dG (dB S.ct L k 13)) hne);clear h hL hp hne aD;obtain⟨sec,aF⟩:∃sec:Nat->Int,sec=λv=>dG (dB S.ct L v 13):=⟨_,rfl⟩;have e1:∀k,dG (dB S.ct L k 13)=sec k:=λk=>by rw[aF]
 simp only[e1]at am ah ai ⊢;clear aF e1;generalize S.sn=sn at*;generalize S.pb=pb at*;generalize S.sh=p at*;obtain⟨CS,ar⟩:=aj (aN p);rw[<-ar]at ak LX ag;clear ar;go_enter func284,ntmps284;go_wp2_with(refine eM rfl 101 _ rfl b 58 rfl CS _ ak.o iX rfl ?z ?_);case z=>rw[gu,LX.o]
 go_wp2;go_loopw [3,12] (λro i wr=>∃k:Nat,k<=13/\i=Z J k/\wr.ownsRow w.1.size 292 2 ro (eI sn p pb sec k).length (eR ((eI sn p pb sec k).map mkV))/\af w.1.size w wr) (λ_ i _=>13-(aA i).toNat);case atStart=>exact⟨0,by omega,rfl,dp _ _ _ _,ax _ _⟩
 obtain⟨k,hk,rfl,hown,au⟩:=hrel;have HO:=I hown;have O:=I au;obtain⟨a3,c3,hv3⟩:=a_ hown;subst hv3;clear hown au;have aU:(eI sn p pb sec k).length<=169:=by have:=xU sn p pb sec k;omega
 have ap:=I (Be sn p pb sec k);by_cases hlt:k<13
 ·have aV:(k:Int)<13:=by omega
  have aB:=ag.o k hlt;cases q:p k
  ·rw[q]at aB;have ae:=A (eI sn p pb sec (k+1)=eI sn p pb sec k) (by rw[ap.o,q];simp);clear q;go_wp2;go_roundw;case rel=>exact⟨k+1,by omega,by go_num,by rw[ae.o];exact HO.o,O.o⟩
   simp[aA];omega
  rw[q]at aB;have ae:=A (eI sn p pb sec (k+1)=eI sn p pb sec k++iW sn pb k (sec k)) (by rw[ap.o,q];simp);have SE:=I (am.o wr k hlt q O.o);clear q;go_wp2_with fail;refine aH SE.o λw1 hb1=>?_;have B1:=I (O.o.trans (hb1.mono O.o.size));have O1:=I (bf (S:=λ_=>False) HO.o (av.bz hb1) (λ_ _ h=>h));clear hb1;have MW:=I (ah.o w1 k hlt B1.o);go_wp2_with fail;refine MW.o.mono ?_;rintro e w2 ⟨va,rfl,aG,hb2⟩;have B2:=I (B1.o.trans (hb2.mono B1.o.size));have O2:=I (bf (S:=λ_=>False) O1.o (av.bz hb2) (λ_ _ h=>h));have wl:=Fz sn pb k (sec k);obtain⟨g,cap,aM,_,aS,hc1,hc2,hcc⟩:=wo aG (ai.o k);subst aM;have aI:=I hcc;have aJ:=A ((eR ((iW sn pb k (sec k)).map mkV)).length=(iW sn pb k (sec k)).length*2) (by rw[Cr,dI]);have aK:=I (NA (iW sn pb k (sec k)));clear hb2 aG hcc;have sB:=B2.o.size;generalize iW sn pb k (sec k)=lf at*;go_wp2_with(at_builtin;refine eF _ rfl _ _ 285 rfl w.1.size 292 i1 (.agg #[Z J 0,.bool Y]) 2 16 underlying285 aL aO aP aQ rfl (by decide) _ _ _ rfl O2.o ⟨g,0,V⟩ lf.length cap (eR (lf.map mkV)) rfl aJ.o ?c1 aK.o ?c3 ?c4 ?c5 ?_);case c1=>intro j u hu;rw[GC];exact aI.o j u hu
  case c3=>unfold maxLen;omega
  case c4=>omega
  case c5=>omega
  intro v' w4 hown' aw _;have hb4:=B2.o.grown aw sB (λy hy=>(O2.o.lt y hy).1);have B4:=I hb4;have O4:=I (show w4.ownsRow w.1.size 292 2 v' (eI sn p pb sec (k+1)).length (eR ((eI sn p pb sec (k+1)).map mkV))by rw[ae.o,cF,vD,cy];exact hown');clear hown' aw hb4;go_wp2;go_roundw;case rel=>exact⟨k+1,by omega,by go_num,O4.o,B4.o⟩
  simp[aA];omega
 have ek:k=13:=by omega
 subst ek;go_wp2;go_ret;exact⟨_,rfl,HO.o,O.o⟩
def tz (w:ac)(v:ag)(ms:List (Int×Bool)):Prop:=
 ∃(a:Option Addr)(cap:Nat),v=U a ms.length cap/\ms.length<=cap/\cap<=9223372036854775807/\
  ∀i,i<ms.length->∃b off,a=E ⟨b,off,V⟩/\b<w.1.size/\w.cell? ⟨b,off+i*2,V⟩=E (Z J (ms.getD i (0,Y)).1)/\w.cell? ⟨b,off+i*2+1,V⟩=E (.bool (ms.getD i (0,Y)).2)
theorem tz.below (h:tz w v ms)(hb:af w.1.size w w'):tz w' v ms:=by obtain⟨a,cap,h1,h2,h3,h4⟩:=h;refine⟨a,cap,h1,h2,h3,λi hi=>?_⟩;obtain⟨b,off,e1,e2,e3,e4⟩:=h4 i hi;exact⟨b,off,e1,cG e2 hb.size,(hb.cell (p:=⟨b,off+i*2,V⟩) e2).trans e3,(hb.cell (p:=⟨b,off+i*2+1,V⟩) e2).trans e4⟩
theorem ND{B}(h:w.ownsRow B 292 2 v ms.length (eR (ms.map mkV))):tz w v ms:=by
 by_cases hn:0<ms.length;obtain⟨g,cap,hv,hb,hl,h3,h4,hc⟩:=wo h hn;refine⟨_,_,hv,h3,by unfold maxLen at h4;omega,λi hi=>⟨g,0,rfl,hl,?_⟩⟩;have e:(ms.map mkV)[i]?=E (mkV ms[i]):=by rw[dC,aQ hi];rfl
 have eg:ms.getD i (0,Y)=ms[i]:=by rw[bG,aQ hi];rfl
 obtain⟨e1,e2⟩:=yu _ i _ e;rw[eg,cz];exact⟨hc _ _ e1,hc _ _ e2⟩;obtain⟨a,cap,e⟩:=a_ h;obtain⟨_,h2⟩:=h;rcases h2 with⟨h2,h3⟩|⟨g,cap',cur,hv,_,_,h3,h4,_⟩;exact⟨V,0,by rw[h2,h3],by omega,by omega,λi hi=>by omega⟩;exact⟨_,cap',hv,h3,by unfold maxLen at h4;omega,λi hi=>by omega⟩
theorem Ol (ms:List (Int×Bool))(i k)(hk:k<ms.length):eZ (ms.take (k+1)) i=eZ (ms.take k) i+oa i (ms.getD k (0,Y)):=by
 have e:ms.take (k+1)=ms.take k++[ms.getD k (0,Y)]:=by rw[gV hk,bG,aQ hk];rfl
 rw[e,Dv];simp[eZ]
theorem TT (i:Nat)(h:tz w v ms)(hl:ms.length<=169)(hi:i<=12)(am:∀k,k<ms.length->0<=(ms.getD k (0,Y)).1/\(ms.getD k (0,Y)).1<2305843009213693951):
  ay prog 285 #[v,Z J ((i:Int)+1)] w λe w'=>e=az (Z J (eZ ms i))/\af w.1.size w w':=by
 obtain⟨a,cap,rfl,h2,h3,hc⟩:=h;have HC:=I hc;have ar:=I am;have av:=I (Ol ms i);have aq:=I (λk=>zg i (ms.take k));have aw:=A (ms.take ms.length=ms) iF;have au:=I (λk=>(show(ms.take k).length<=169 by rw[eV];omega));clear hc am;generalize ms.length=n at*;go_enter func285,ntmps285;go_wp2;go_loopw [5,10] (λx j wr=>∃k:Nat,k<=n/\j=Z J (k:Int)/\x=Z J (eZ (ms.take k) i)/\af w.1.size w wr) (λ_ j _=>n-(aA j).toNat);case atStart=>exact⟨0,bi _,rfl,rfl,ax _ _⟩
 obtain⟨k,hk,rfl,rfl,ah⟩:=hrel;have O:=I ah;have hsz:=ah.size;clear ah;have bd:=aq.o k;have lt:=au.o k;by_cases hlt:k<n
 ·obtain⟨b',off,rfl,hb,d0,d1⟩:=HC.o k hlt;have aB:=(O.o.cell (p:=⟨b',off+k*2,V⟩) hb).trans d0;have aC:=(O.o.cell (p:=⟨b',off+k*2+1,V⟩) hb).trans d1;clear d0 d1;obtain⟨ai,ak⟩:=ar.o k hlt;have HT:=I (av.o k hlt);obtain⟨t,ht⟩:=aj (eZ (ms.take k) i);have tb:0<=t/\t<=725849473024:=by rw[ht];omega
  rw[<-ht]at HT ⊢;clear ht bd lt;obtain⟨aG,aH⟩:=tb;obtain⟨sd,ad,hm⟩:∃sd ad,ms.getD k (0,Y)=(sd,ad):=⟨_,_,rfl⟩;rw[hm]at aB aC ai ak HT;clear hm;have MN:=I (λ(w1:ac)=>vX sd i w1 ai ak hi);obtain⟨aD,aF⟩:=lH sd i;have ae:=A (oa i (sd,ad)=if ad=aa then 4294967296-cj sd i else cj sd i) rfl;obtain⟨m,ap⟩:=aj (cj sd i);rw[<-ap]at MN aD aF ae;clear ap;have B1:=I (O.o.alloc (by omega) (.cells #[Z J sd,.bool ad] 292));cases ad
  ·have ag:=A (eZ (ms.take (k+1)) i=t+m) (by rw[HT.o,ae.o];simp);go_wp2_with fail;refine aI (MN.o _) ?_;go_wp2;go_roundw;case rel=>exact⟨k+1,by omega,by go_num,by rw[ag.o],B1.o⟩
   simp[aA];omega
  have ag:=A (eZ (ms.take (k+1)) i=t+4294967296-m) (by rw[HT.o,ae.o];simp;omega);go_wp2_with fail;refine aI (MN.o _) ?_;go_wp2;go_roundw;case rel=>exact⟨k+1,by omega,by go_num,by rw[ag.o],B1.o⟩
  simp[aA];omega
 have ek:k=n:=by omega
 subst ek;go_wp2;go_ret;exact⟨ue (by rw[aw.o]),O.o⟩
def mh (zs:List Int)(ms:List (Int×Bool))(n:Nat):List Int:=(List.range n).map λi=>(zs.getD i 0+eZ ms i)%4294967296
theorem Un (zs ms n):mh zs ms (n+1)=mh zs ms n++[(zs.getD n 0+eZ ms n)%4294967296]:=by unfold mh;rw[mm,cF];rfl
theorem UM (sn pb v sec)(h:0<=sec/\sec<2305843009213693951):∀m∈iW sn pb v sec,0<=m.1/\m.1<2305843009213693951:=by intro m hm;unfold iW at hm;split at hm;simp at hm;subst hm;exact h;unfold jg at hm;obtain⟨u,_,rfl⟩:=cq.1 hm;exact⟨ki _ _,kh _ _⟩
theorem GI (sn sh pb sec)(h:∀v,0<=sec v/\sec v<2305843009213693951)(n):∀k,k<(eI sn sh pb sec n).length->0<=((eI sn sh pb sec n).getD k (0,Y)).1/\((eI sn sh pb sec n).getD k (0,Y)).1<2305843009213693951:=by intro k hk;rw[bG,aQ hk];have hm:(eI sn sh pb sec n)[k]∈eI sn sh pb sec n:=cN hk;unfold eI at hm;obtain⟨l,hl,hm⟩:=Ay.1 hm;obtain⟨v,_,rfl⟩:=cq.1 hl;exact UM sn pb v (sec v) (h v) _ hm
theorem Uo (L){zs}(h:aR w b S)(hL:∀v,v<13->aX w (S.it v) (L v))(hp:∀v,v<13->S.sh v=aa->fc (dB S.ct L v 13)=aa)(hne:aT S.sn≠[])(aw:∀u,u<13->0<=S.pb u/\S.pb u<2305843009213693951)(au:aY w S.ml zs)(hz:∀z∈zs,0<=z/\z<4294967296)(hn:zs.length<=12):
  ay prog 249 #[aC (E ⟨b,0,V⟩)] w λe w'=>∃va,e=az va/\w'.ownsRow w.1.size 3 1 va zs.length ((mh zs (eI S.sn S.sh S.pb (λv=>dG (dB S.ct L v 13)) 13) zs.length).map (Value.int J))/\af w.1.size w w':=by
 obtain⟨i0,hi,hz0,hz1,hz2⟩:=bO yE;have MC:=I (Tb L h hL hp hne aw);have aJ:=I (GI S.sn S.sh S.pb (λv=>dG (dB S.ct L v 13)) (λv=>⟨vS _,vR _⟩) 13);have ap:=A ((eI S.sn S.sh S.pb (λv=>dG (dB S.ct L v 13)) 13).length<=169) (xU _ _ _ _ 13);obtain⟨a1,c1,aB,l1,l2,ar⟩:=pk au;have aI:=bj w λw1 hb=>(show w1.cell? ⟨b,71,V⟩=E (U a1 zs.length c1)by rw[<-aB];exact(h.below hb).ml);have HC:=I ar;have HZ:=I (λk (hk:k<zs.length)=>hz (zs.getD k 0) (by rw[bG,aQ hk];exact cN hk));clear h hL hp hne aw au hz aB ar;generalize eI S.sn S.sh S.pb (λv=>dG (dB S.ct L v 13)) 13=ms at*;have aN:=I (Un zs ms);generalize zs.length=n at*;go_enter func249,ntmps249;go_wp2_with fail;refine MC.o.mono ?_;rintro e w0 ⟨vm,rfl,ak,hb0⟩;have s0:=hb0.size;obtain⟨am,cm,aV⟩:=a_ ak;have aL:=I (ND ak);subst aV;have aW:=aI.o w0 hb0;have B0:=I hb0;clear ak hb0;have aO:=I (λ(w1:ac)(k:Nat)(hk:k<=12)(hb:af w0.1.size w0 w1)=>TT k (aL.o.below hb) ap.o hk aJ.o);have aG:=I (λk=>zg k ms);have aK:=I ap.o;go_wp2;go_loopw [4,15] (λro j wr=>∃k:Nat,k<=n/\j=Z J (k:Int)/\wr.ownsRow w0.1.size 3 1 ro k ((mh zs ms k).map (Value.int J))/\af w0.1.size w0 wr/\af w.1.size w wr) (λ_ j _=>n-(aA j).toNat);case atStart=>exact⟨0,bi _,rfl,dp _ _ _ _,ax _ _,B0.o⟩
 obtain⟨k,hk,rfl,hown,ag,ah⟩:=hrel;have HO:=I hown;have Y:=I ag;have O:=I ah;have hsz:=ag.size;have aZ:=ah.size;obtain⟨a3,c3,hv3⟩:=a_ hown;subst hv3;clear hown ag ah;by_cases hlt:k<n
 ·obtain⟨b',off,aU,d0⟩:=HC.o k hlt;subst aU;have hb:b'<w.1.size:=World.block_lt_of_cell? w ⟨b',off+k,V⟩ d0;have aP:=(O.o.cell (p:=⟨b',off+k,V⟩) hb).trans d0;clear d0;obtain⟨z1,z2⟩:=HZ.o k hlt;have ae:=I (aN.o k);have TO:=I (aO.o wr k (by omega) Y.o);obtain⟨q1,q2⟩:=aG.o k;have q3:eZ ms k<=725849473024:=by have:=aK.o;omega
  obtain⟨t,ht⟩:=aj (eZ ms k);rw[<-ht]at TO q1 q3 ae;clear ht q2;obtain⟨z,hzz⟩:=aj (zs.getD k 0);rw[<-hzz]at aP z1 z2 ae;clear hzz;go_wp2_with fail;refine aH TO.o λw1 hb1=>?_;have s1:=hb1.size;have B1:=I (Y.o.trans (hb1.mono Y.o.size));have aD:=I (O.o.trans (hb1.mono O.o.size));have O1:=I (bf (S:=λ_=>False) HO.o (av.bz hb1) (λ_ _ h=>h));clear hb1;obtain⟨R,hR⟩:=aj ((z+t)%4294967296);have aS:(z+t)%4294967296=R:=hR.symm;have aM:=I aS;clear hR;go_wp2_with(at_builtin;refine eF _ rfl _ _ 33 rfl w0.1.size 3 i0 (Z J 0) 1 8 gW hi hz0 hz1 hz2 rfl (by decide) _ _ _ rfl (O1.o.alloc _) ⟨w1.1.size,0,V⟩ 1 1 [Z J R] rfl rfl ?c1 ?c2 ?c3 ?c4 ?c5 ?_);case c1=>exact uG _ _ _
  case c2=>intro u hu;simp at hu;subst hu;rfl
  case c3=>unfold maxLen;omega
  case c4=>omega
  case c5=>simp;omega
  intro v' w2 hown' ai _;have hb2:=(aD.o.alloc (by omega) _).grown ai (by simp;omega) (λx h=>fJ s0 (O1.o.lt x h).1);have hb3:af w0.1.size w0 w2:=(B1.o.alloc (by omega) _).grown ai (by simp;omega) (λx h=>(O1.o.lt x h).1);have aF:=I hb2;have B2:=I hb3;have O2:=I (show w2.ownsRow w0.1.size 3 1 v' (k+1) ((mh zs ms (k+1)).map (Value.int J))by rw[ae.o,cF,aM.o];exact hown');clear hown' ai hb2 hb3;go_wp2;go_roundw;case rel=>exact⟨k+1,by omega,by go_num,O2.o,B2.o,aF.o⟩
  simp[aA];omega
 have ek:k=n:=by omega
 subst ek;go_wp2;go_ret;exact⟨_,rfl,cS HO.o s0,O.o⟩
theorem JL (L){zs}(h:aR w b S)(hL:∀v,v<13->aX w (S.it v) (L v))(hp:∀v,v<13->S.sh v=aa->fc (dB S.ct L v 13)=aa)(hne:aT S.sn≠[])(am:∀u,u<13->0<=S.pb u/\S.pb u<2305843009213693951)(ak:aY w S.ml zs)(hz:∀z∈zs,0<=z/\z<4294967296)(hn:zs.length<=12):
  ay prog 197 #[aC (E ⟨b,0,V⟩)] w λe w'=>e=az (br #[])/\∃va vb,w'.ownsRow w.1.size 3 1 va (aT S.sn).length (n_ (aT S.sn))/\
   w'.ownsRow w.1.size 3 1 vb zs.length ((mh zs (eI S.sn S.sh S.pb (λv=>dG (dB S.ct L v 13)) 13) zs.length).map (Value.int J))/\aR w' b (iP 1 0 va vb)/\cW w w' b:=by
 have hbl:=h.lt;have af:=I h.xX;have LX:=I (eN S.sn);have Y:=I (MR S.sn w);have ag:=bj w λw1 hb=>Uo L (h.below hb) (λv hv=>(hL v hv).below hb) hp hne am (ak.below hb) hz hn;have HS:=bj w λw1 hb=>h.below hb;clear h hL hp hne am ak hz;obtain⟨us,ap⟩:=aj (mh zs (eI S.sn S.sh S.pb (λv=>dG (dB S.ct L v 13)) 13) zs.length);rw[<-ap]at ag ⊢;clear ap;unfold kL at Y;obtain⟨ls,ai⟩:=aj (aT S.sn);rw[<-ai]at Y ⊢;clear ai;obtain⟨CS,ah⟩:=aj (aN S.sn);rw[<-ah]at af LX Y;clear ah;go_enter func197,ntmps197;go_wp2_with(refine eM rfl 101 _ rfl b 6 rfl CS _ af.o iX rfl ?z ?_);case z=>rw[gu,LX.o]
 go_wp2_with fail;refine Y.o.mono ?_;rintro e w1 ⟨va,rfl,ac,hb1⟩;have s1:=hb1.size;obtain⟨a3,c3,hv3⟩:=a_ ac;subst hv3;have B1:=I hb1;have O1:=I ac;clear hb1 ac;have UN:=I (ag.o w1 B1.o);go_wp2_with fail;refine UN.o.mono ?_;rintro e w2 ⟨vb,rfl,ae,hb2⟩;obtain⟨a4,c4,hv4⟩:=a_ ae;subst hv4;have B2:=I (B1.o.trans (hb2.mono B1.o.size));have O2:=I (bf (S:=λ_=>False) O1.o (av.bz hb2) (λ_ _ h=>h));have P2:=I (cS ae s1);clear hb2 ae;have h2:=HS.o w2 B2.o;have hst:=zT prog b 0 (cM (iP 1 0 (U a3 ls.length c3) (U a4 zs.length c4))) w2 (h2.there 0 76 (by omega)) (uj (λ_ _=>rfl) rfl rfl rfl);have ar:(storeCells ⟨b,0,V⟩ ((((zeroCells106.toList.set 72 (Value.int IntKind.i64 1)).set 73 (Value.int IntKind.i64 0)).set 74 (U a3 ls.length c3)).set 75 (U a4 zs.length c4)) 0).run prog w2=.ok () (w2.setCells b 0 (cM (iP 1 0 (U a3 ls.length c3) (U a4 zs.length c4)))):=hst;have O:=A (aR (w2.setCells b 0 (cM (iP 1 0 (U a3 ls.length c3) (U a4 zs.length c4)))) b (iP 1 0 (U a3 ls.length c3) (U a4 zs.length c4))/\cW w2 (w2.setCells b 0 (cM (iP 1 0 (U a3 ls.length c3) (U a4 zs.length c4)))) b) ⟨h2.gU _,cW.cells w2 b 0 _ (by rw[pF];omega)⟩;clear hst h2;obtain⟨cs,hcs⟩:=aj (cM (iP 1 0 (U a3 ls.length c3) (U a4 zs.length c4)));rw[<-hcs]at ar O;clear hcs;go_wp2;go_end0;refine⟨rfl,_,_,?_,?_,O.o.1,(cW.grow B2.o hbl).trans O.o.2⟩;exact bf O2.o O.o.2.aV (λx hx e=>by have:=(O2.o.lt x hx).1;omega);exact bf P2.o O.o.2.aV (λx hx e=>by have:=(P2.o.lt x hx).1;omega)
theorem rY{q}(h:∀u,u<13->p u=q u):bV p 13=bV q 13:=nd h
theorem Cu{rd}(h:∀u,u<13->p u=aB.mem (G rd) u)(hr:rd<3)(u):mE p (aB.its (G rd)) rd u=lA G rd u:=by
 have hd:rd=0\/rd=1\/rd=2:=by omega
 rcases hd with rfl|rfl|rfl;show ir p (aB.its (G 0)) 13=pg G 13;unfold ir pg;rw[rY h];rfl;show gK p (aB.its (G 1)) u 13=oT G u 13;unfold gK oT;rw[rY (p:=aB.without p u) (q:=aB.without (aB.mem (G 1)) u) (λv hv=>by unfold aB.without;rw[h v hv])];rfl;show ik p 13=oP G 13;unfold ik oP;rw[rY h];rfl
def eu (C:Cf)(s:Sv):List Pk:=(pJ C s).map λp=>((0:Int),p.1,p.2)
theorem Pj{rd}(h:∀u,u<13->p u=aB.mem (G rd) u)(hr:rd<3):jG p (aB.its (G rd)) rd 13=((aT (aB.mem (G rd))).map λu:Nat=>((u:Int),bm (2*(rd:Int)+2) 0 (lA G rd u))).map λp=>((0:Int),p.1,p.2):=by unfold jG;rw[rY h,lL];apply mj;intro u _;show((0:Int),(u:Int),bm (2*(rd:Int)+2) 0 (mE p (aB.its (G rd)) rd u))=_;rw[Cu h hr u];rfl
theorem Fk (h:∀u,u<13->p u=aB.mem (G 3) u)(v):dB p (aB.its (G 3)) v 13=jm G v:=by unfold dB jm iB;rw[rY h]
theorem GJ{ct sn sh pb}(hc:∀u,u<13->ct u=aB.mem (G 3) u)(hn:∀u,u<13->sn u=aB.mem (G 2) u)(hh:∀u,u<13->sh u=aB.mem (G 1) u)(hb:∀u,u<13->pb u=gi G u):eI sn sh pb (λv=>dG (dB ct (aB.its (G 3)) v 13)) 13=tX G:=by unfold eI tX Df;rw[rY hh];congr 1;apply mj;intro v hv;have v13:v<13:=(kM.1 hv).1;show iW sn pb v (dG (dB ct (aB.its (G 3)) v 13))=pn G v;rw[Fk hc v];unfold iW pn gp;rw[hn v v13];split;rfl;unfold jg;show(aT sn).map _=(aT (aB.mem (G 2))).map _;rw[nd hn];apply mj;intro u hu;rw[hb u (kM.1 hu).1]
theorem Um (G M):mh ((List.range M).map λi=>iu G i%4294967296) (tX G) M=(List.range M).map (pL G):=by
 unfold mh;apply mj;intro i hi;have O:=eW.1 hi;have e:((List.range M).map λi=>iu G i%4294967296).getD i 0=iu G i%4294967296:=by rw[bG,dC,oz O];rfl
 rw[e];rfl
theorem Fm (h:eP C G)(hn:1<=dm (G 3))(v):fc (jm G v)=aa:=by
 unfold fc;have e:(jm G v).length=dm (G 3):=by unfold jm iB;rw[dI];rfl
 have hx:aZ.xs (jm G v)=(aT (aB.mem (G 3))).map λw:Nat=>(w:Int):=by unfold aZ.xs jm iB;rw[lL];rfl
 have hm:∀u∈aT (aB.mem (G 3)),1<=u/\u<=12:=λu hu=>by have:=h.mem (kM.1 hu).2;exact⟨this.2.1,this.2.2.2.1⟩
 have hlen:dm (G 3)<=12:=by unfold dm;have hz:=h.zero 3;unfold aT bV;have e0:List.range 13=0::(List.range 12).map Nat.succ:=Vb;rw[e0,pO,hz];refine fJ (pW _ _) ?_;simp
 have a1:decide (1<=(jm G v).length/\(jm G v).length<=12)=aa:=aK (by rw[e];exact⟨hn,hlen⟩);have a2:(jm G v).all mL=aa:=by rw[fk];intro p hp;unfold jm iB at hp;obtain⟨u,hu,rfl⟩:=cq.1 hp;have:=hm u hu;have el:=T_ h u (v:Int);show(bE (u:Int)&&aG _)=aa;rw[dW (by omega) (by omega),eD el.1 el.2];rfl
 have a3:decide (aZ.xs (jm G v)).Nodup=aa:=aK (by rw[hx];unfold List.Nodup;rw[rp];exact(vW _).imp (λ{a b} h=>by omega));rw[a1,a2,a3];rfl
end
section
open Go.RowKit
theorem Tj (h:jv w b C s S)(x)(hw:aR w' b {S with tm:=x})(hs:w.1.size<=w'.1.size)(hb:∀y,y≠b->fL b S y->w'.1[y]? =w.1[y]?):jv w' b C {s with tm:=x} {S with tm:=x} where
 at_:=hw
 st:=h.st
 ro:=h.ro
 set:=h.set.keep hs λy hy=>hb y (λe=>h.gz.2.1 (e▸hy)) (Q (Q (Q (ae hy))))
 sum:=h.sum.keep hs λy hy=>hb y (λe=>h.gz.2.2 (e▸hy)) (Q (Q (Q (Q hy))))
 apart:=h.apart
 gz:=h.gz
 zero:=h.zero
 np:=h.np
 i_:=h.i_
 now:=λp=>⟨rfl,(h.now p).2⟩
 sn:=h.sn
 ct:=h.ct
 it:=λp v hv=>(h.it p v hv).keep hs λy hy=>hb y (λe=>h.apart v hv (e▸hy)) (Q (ae ⟨v,hv,hy⟩))
 pb:=h.pb
 sh:=h.sh
 ml:=λp r=>(h.ml p r).keep hs λy hy=>hb y (λe=>h.gz.1 (e▸hy)) (Q (Q (ae hy)))
theorem vQ (w):aX w (U V 0 0) []:=⟨V,0,rfl,aw _,bi _,λx hx=>(by cases hx),ae rfl⟩
theorem nc:aY w (U V 0 0) []:=⟨V,0,rfl,aw _,bi _,λx hx=>(by cases hx),ae rfl⟩
theorem EU (C tm rd G){st ro va vb ls us}(hw:aR w' b (iP st ro va vb))(h1:aY w' va ls)(h2:aY w' vb us)(ha:va.ownBlock≠E b)(hb:vb.ownBlock≠E b)(hst:st≠0):jv w' b C ⟨tm,rd,G,(st,ro,ls,us)⟩ (iP st ro va vb) where
 at_:=hw
 st:=rfl
 ro:=rfl
 set:=h1
 sum:=h2
 apart:=λv _=>by show(Value.slice V 0 0).ownBlock≠E b;intro e;cases e
 gz:=⟨(by show(Value.slice V 0 0).ownBlock≠E b;intro e;cases e),ha,hb⟩
 zero:=λp=>absurd p hst
 np:=λ_=>rfl
 i_:=λp=>absurd p hst
 now:=λp=>absurd p hst
 sn:=λp=>absurd p hst
 ct:=λp=>absurd p hst
 it:=λp=>absurd p hst
 pb:=λp=>absurd p hst
 sh:=λp=>absurd p hst
 ml:=λp=>absurd p hst
theorem zR (h:jv w b C s S)(hp:s.o.1=0)(hr:s.rd<3)(hl:∀r,s.rd<r->s.G r=λ_=>V)(x){pb sh ml}(hw:aR w' b (ng {S with tm:=x} pb sh ml))(ac:∀u,u<13->pb u=gi s.G u)(ae:1<=s.rd->∀u,u<13->sh u=aB.mem (s.G 1) u)(aa:s.rd=2->aY w' ml ((List.range C.M.toNat).map λi=>iu s.G i%4294967296))(O:ml.ownBlock≠E b):
  jv w' b C {s with tm:=x,rd:=s.rd+1} (ng {S with tm:=x} pb sh ml) where
 at_:=hw
 st:=h.st
 ro:=h.ro
 set:=by have:=h.zero hp;show aY w' S.set s.o.2.2.1;rw[this.2.1,this.1];exact nc
 sum:=by have:=h.zero hp;show aY w' S.sum s.o.2.2.2;rw[this.2.2,this.1];exact nc
 apart:=λv _=>by show(Value.slice V 0 0).ownBlock≠E b;intro e;cases e
 gz:=⟨O,h.gz.2.1,h.gz.2.2⟩
 zero:=h.zero
 np:=λp=>absurd hp p
 i_:=h.i_
 now:=λp=>⟨rfl,by show S.rd+1=((s.rd+1:Nat):Int);rw[(h.now hp).2];rfl⟩
 sn:=λ_ v hv=>by show S.ct v=if s.rd+1=0 then _ else aB.mem (s.G (s.rd+1-1)) v;rw[ar (by omega),xm];exact h.ct hp v hv
 ct:=λ_ v hv=>by show Y=aB.mem (s.G (s.rd+1)) v;rw[hl (s.rd+1) (by omega)];rfl
 it:=λ_ v hv=>by show aX w' (U V 0 0) (aB.its (s.G (s.rd+1)) v);rw[hl (s.rd+1) (by omega)];exact vQ _
 pb:=λ_ _ v hv=>ac v hv
 sh:=λ_ r v hv=>ae (by have:2<=s.rd+1:=r;omega) v hv
 ml:=λ_ r=>aa (by have:s.rd+1=3:=r;omega)
theorem iI.wj{s' S'}(h:jv w' b C s' S')(ht:cW w w' b)(hb:b<w.1.size)(hf:∀x,x≠b->fL b S' x->(fL b S x\/w.1.size<=x)/\x<w'.1.size):iI w w' b C s' S S':=
 ⟨⟨h,λx hx=>by by_cases e:x=b;subst e;exact h.at_.lt;·exact(hf x e hx).2⟩,ht.aV,λx hx=>by by_cases e:x=b;exact ae (ae e);exact(hf x e hx).1,ht.rest⟩
end
section
open Go.ChangeShapes Go.WideShapes Go.ChangeAt Go.RowKit
theorem lI (h:(aB.pend s&&(im C s&&(!aB.fZ C s&&decide (s.rd≠3))))=Y):eu C s=[]:=by unfold eu pJ;rw[ar (by rw[h];exact dR)];rfl
theorem MP{B f}(h:w.ownsRow B 3 1 v (aT f).length (n_ (aT f))):aY w v ((aT f).map λu:Nat=>(u:Int)):=by
 have e:n_ (aT f)=((aT f).map λu:Nat=>(u:Int)).map (Value.int J):=by unfold n_;rw[lL];rfl
 rw[e]at h;refine na h (λz hz=>?_);obtain⟨u,hu,rfl⟩:=cq.1 hz;have:=(kM.1 hu).1;unfold bq;omega
def qf (w w':ac)(b:Nat)(C:Cf)(s:Sv)(S:SS)(v:ag):Prop:=
 ∃S' vs,iI w w' b C (cm C s) S S'/\dt w' w.1.size v vs (eu C s)/\∀x,iZ v vs x->¬fL b S' x
theorem RA      (hc:fx C) (hw:jw w b C s S) (hs:s.o.1=0->gJ C s):
  ay prog 132 #[aC (E ⟨b,0,V⟩)] w λe w'=>∃v,e= az v/\qf w w' b C s S v:=by
 have hbl:=hw.ba.at_.lt;have HW:=I hw;have IP:=I (CR hw.ba.at_);rw[hw.ba.st] at IP;by_cases hp:s.o.1=0;rotate_left
 ·have e0:aB.pend s=Y:=by unfold aB.pend;exact aM hp
  have e1:cm C s=s:=by unfold cm;rw[ar (by rw[e0];exact dR)]
  have e2:eu C s=[]:=lI (by rw[e0];rfl);rw[aM hp] at IP;have ai:=A (qf w w b C s S (U V 0 0)) ⟨S,[],by rw[e1];exact zV hw (ax _ _),by rw[e2];exact mM,λx hx=>by rcases hx with hx|⟨y,hy,_⟩<;>simp_all [Value.ownBlock]⟩;clear e0 e1 e2 hw hs hp;go_enter func132,ntmps132;go_wp2_with fail;refine aI IP.o ?_;go_wp2;go_ret;exact ⟨_,rfl,ai.o⟩
 have hsk:=hs hp;have e0:aB.pend s=aa:=by unfold aB.pend;exact aK hp
 rw[aK hp] at IP;obtain ⟨k1,k2,k3,k4⟩:=hw.ba.i_ hp;obtain ⟨k5,k6⟩:=hw.ba.now hp;have tb:=Dq hc hsk.rd hsk.now;have hd:=hc.d;have hr4:=hsk.rd;obtain ⟨W1,hW1⟩:=aj (w.setCell ⟨b,4,V⟩ (Z J (s.tm+1)));have H1:=A (aR W1 b {S with tm:=s.tm+1}) (by rw[hW1];exact hw.ba.at_.zI _);have aD:=A (cW w W1 b) (by rw[hW1];exact cW.cell w b 4 _ (by omega));have aQ:W1.1.size=w.1.size:=by rw[hW1];simp
 have KP:=A (∀y,y≠b->fL b S y->W1.1[y]? =w.1[y]?) (λy hy hf=>aD.o.aV.block y (hw.low y hf) hy);have A1:=I (Tj hw.ba (s.tm+1) H1.o (by omega) KP.o);have c4:w.cell? ⟨b,4,V⟩=E (Z J s.tm):=by rw[<-k5];exact hw.ba.at_.tm
 have f4:=hw.ba.at_.bF 4 (by omega);have d4:W1.cell? ⟨b,4,V⟩=E (Z J (s.tm+1)):=H1.o.tm;have d3:W1.cell? ⟨b,3,V⟩=E (Z J C.D):=by rw[<-k4];exact H1.o.d
 have d5:W1.cell? ⟨b,5,V⟩=E (Z J (s.rd:Int)):=by rw[<-k6];exact H1.o.rd
 have d1:W1.cell? ⟨b,1,V⟩=E (Z J C.T):=by rw[<-k2];exact H1.o.t
 have m1:0<=C.D*((s.rd:Int)+1):=kT (by omega) (by omega);have m2:C.D*((s.rd:Int)+1)<=200:=by have:C.D*((s.rd:Int)+1)<=50*4:=sR (by omega) (by omega) (by omega) (by omega);omega
 obtain ⟨bE,bG⟩:=tb;have aS:=I hW1;clear hW1;by_cases q1:s.tm+1=C.D*((s.rd:Int)+1);rotate_left
 ·have bz:(s.tm+1 != C.D*((s.rd:Int)+1))=aa:=by simpa using q1
  have e3:im C s=Y:=by unfold im;exact aM q1
  have e1:cm C s={s with tm:=s.tm+1}:=by unfold cm;rw[au e0,ar (by rw[e3];exact dR)]
  have e2:eu C s=[]:=lI (by rw[e3,e0];rfl);have ai:=I (λm=>(show qf w (W1.drewN m) b C s S (U V 0 0) from ⟨{S with tm:=s.tm+1},[],by rw[e1];exact (iI.wj (S:=S) A1.o aD.o hbl (λx _ hx=>⟨ae hx,by rw[aQ];exact HW.o.low x hx⟩)).then (below_drewN W1 m),by rw[e2];exact mM,λx hx=>by rcases hx with hx|⟨y,hy,_⟩<;>simp_all [Value.ownBlock]⟩));clear e0 e1 e2 e3 hw hs hp q1 hsk k1 k2 k3 k4 k5 k6 hd aQ;go_enter func132,ntmps132;go_wp2_with fail;refine aI IP.o ?_;go_upto_region 4 with fail;rw[<-aS.o];go_quiet (fail);go_wp2;go_ret;exact ⟨_,rfl,ai.o _⟩
 have bz:(s.tm+1 != C.D*((s.rd:Int)+1))=Y:=by simpa using q1
 have e3:im C s=aa:=by unfold im;exact aK q1
 have hg:=hsk.good;have bc:=hsk.late;have ap:=A (∀u,u<13->S.ct u=aB.mem (s.G s.rd) u) (hw.ba.ct hp);have hsize:(aT S.ct).length=dm (s.G s.rd):=by unfold dm;rw[nd ap.o]
 have H5:=I (λ(w5:ac) (hb:af W1.1.size W1 w5)=>(show aR w5 b {S with tm:=s.tm+1}/\(∀v,v<13->aX w5 (S.it v) (aB.its (s.G s.rd) v))/\cW w w5 b/\w.1.size<=w5.1.size from
  ⟨H1.o.below hb,λv hv=>(A1.o.it hp v hv).below hb,aD.o.trans (cW.grow hb H1.o.lt),by have:=hb.size;omega⟩));have SZ:=I (EL S.ct);rw[hsize] at SZ;unfold kL at SZ;have bw:dm (s.G s.rd)<=13:=gC _ 13;have ht:=hc.t;have bD:=hc.m;have aG:=A (cm C s=if fZ C s=aa then {s with tm:=s.tm+1,o:=(2,(s.rd:Int),[],[])} else if s.rd=3 then {s with tm:=s.tm+1,o:=(1,0,kR s.G,ib C s.G)} else {s with tm:=s.tm+1,rd:=s.rd+1}) (by unfold cm;rw[au e0,au e3]);have NP:=A (∀x,iZ (U V 0 0) [] x->False) (λx hx=>by rcases hx with hx|⟨y,hy,_⟩<;>simp_all [Value.ownBlock]);have ah:=I hp;have HG:=I hg;have aA:=I bc;have bm:=I e0;have bn:=I e3;have K1:=I k3;have K6:=I k6;clear hsk hg bc q1 e0 e3 aQ k1 k2 k3 k4 k5 k6 hs hw hp hsize hd;obtain ⟨n,hn⟩:=aj (dm (s.G s.rd));rw[<-hn] at SZ bw;have HN:=I hn;clear hn;go_enter func132,ntmps132;go_wp2_with fail;refine aH IP.o λw1 bi=> ?_;rw[bi];clear bi w1;go_upto_region 4 with fail;rw[<-aS.o];go_quiet (fail);go_upto_region 6 with fail;obtain ⟨W2,hW2⟩:=aj (W1.drewN nq);rw[<-hW2];have B2:=A (af W1.1.size W1 W2) (by rw[hW2];exact below_drewN W1 nq);clear hW2 d1 d3 d4 d5;have h2:=(H5.o W2 B2.o).1;have d1:W2.cell? ⟨b,1,V⟩=E (Z J C.T):=by have:=h2.t;rw[show ({S with tm:=s.tm+1}:SS).t=C.T from (HW.o.ba.i_ ah.o).2.1] at this;exact this
 have d5:W2.cell? ⟨b,5,V⟩=E (Z J (s.rd:Int)):=by have:=h2.rd;rw[show ({S with tm:=s.tm+1}:SS).rd=(s.rd:Int) from K6.o] at this;exact this
 have e0:=h2.jR 0 (by omega);have e1:=h2.jR 1 (by omega);have e2:=h2.jR 2 (by omega);have e3:=h2.jR 3 (by omega);have e4:=h2.jR 4 (by omega);have e5:=h2.jR 5 (by omega);have e6:=h2.jR 6 (by omega);have e7:=h2.jR 7 (by omega);have e8:=h2.jR 8 (by omega);have e9:=h2.jR 9 (by omega);have aW:=h2.jR 10 (by omega);have e11:=h2.jR 11 (by omega);have aZ:=h2.jR 12 (by omega);have bp:=h2.lt;clear h2;by_cases fw:(n:Int)<C.T
 ·have FW:=A (fZ C s=aa) (by unfold fZ;rw[<-HN.o];exact aK fw);refine nA (by kernel_rfl) (by kernel_rfl) ?_;intro aF GG hI hG aJ av;repeat (go_big_quiet_step ((go_at_call 195;exact lW hG av (SZ.o _))))
  refine oC ?_;intro w5 hw';obtain ⟨i,hw''⟩:=hw';have ak:=hG.o i;rw[<-hw''] at ak;have B5:=I (B2.o.trans (ak.mono B2.o.size));clear ak hw'' aJ av hG i hI GG aF e0 e1 e2 e3 e4 e5 e6 e7 e8 e9 aW e11 aZ d1 d5;obtain ⟨h5,_,t5,s5⟩:=H5.o w5 B5.o;have ST:=I (TA h5);have ai:=I (show qf w (w5.setCells b 0 (cM (iP 2 S.rd (U V 0 0) (U V 0 0)))) b C s S (U V 0 0) by
   refine ⟨iP 2 S.rd (U V 0 0) (U V 0 0),[], ?_, ?_,λx hx=>absurd hx (NP.o x)⟩;·rw[aG.o,au FW.o];have hat:=EU C (s.tm+1) s.rd s.G (h5.gU (iP 2 S.rd (U V 0 0) (U V 0 0))) (nc) (nc) (by intro e;cases e) (by intro e;cases e) (by decide);rw[K6.o] at hat ⊢;refine iI.wj hat (t5.trans (cW.cells w5 b 0 _ (by rw[pF];omega))) hbl (λx hx hf=> ?_);rcases hf with hf|⟨v,_,hf⟩|hf|hf|hf;exact absurd hf hx;all_goals (exfalso;cases hf)
   have:eu C s=[]:=lI (by rw[FW.o];simp);rw[this];exact mM);clear h5 t5;go_wp2_with fail;refine aI ST.o ?_;go_wp2;go_ret;exact ⟨_,rfl,ai.o⟩
 have FW:=A (fZ C s=Y) (by unfold fZ;rw[<-HN.o];exact aM fw);refine nA (by kernel_rfl) (by kernel_rfl) ?_;intro aF GG hI hG aJ av;repeat (go_big_quiet_step ((go_at_call 195;exact lW hG av (SZ.o _))))
 refine oC ?_;intro w5 hw';obtain ⟨i,hw''⟩:=hw';have ak:=hG.o i;rw[<-hw''] at ak;have B5:=I (B2.o.trans (ak.mono B2.o.size));have d6:=(ak.cell (p:=⟨b,5,V⟩) bp).trans d5;clear ak hw'' aJ av hG i hI GG aF e0 e1 e2 e3 e4 e5 e6 e7 e8 e9 aW e11 aZ d1 d5;obtain ⟨h5,i5,t5,s5⟩:=H5.o w5 B5.o;have I5:=I i5;have T5:=I t5;have H6:=I h5;have bj:1<=dm (s.G s.rd):=by rw[<-HN.o];omega
 have aU:=I bj;clear h5 i5 t5 bj;by_cases r3:s.rd=3
 ·have bA:((s.rd:Int)==3)=aa:=by simp;omega
  have E3:=I r3;have e1:∀u,u<13->S.ct u=aB.mem (s.G 3) u:=λu hu=>by rw[<-r3];exact ap.o u hu
  have e2:∀u,u<13->S.sn u=aB.mem (s.G 2) u:=λu hu=>by have:=HW.o.ba.sn ah.o u hu;rwa [r3,ar (by decide)] at this
  have e3:∀u,u<13->S.sh u=aB.mem (s.G 1) u:=HW.o.ba.sh ah.o (by omega);have e4:∀u,u<13->S.pb u=gi s.G u:=HW.o.ba.pb ah.o (by omega);have aP:1<=dm (s.G 3):=by have:=aU.o;rwa [r3] at this
  have hne:aT S.sn≠[]:=by rw[nd e2];intro e;have hx:0<(aT (aB.mem (s.G 3))).length:=aP;obtain ⟨u,hu⟩:=List.exists_mem_of_length_pos hx;obtain ⟨bt,bu⟩:=kM.1 hu;have:=kM.2 ⟨bt,HG.o.up 2 u bu⟩;rw[e] at this;cases this
  have bf:aY w5 S.ml ((List.range C.M.toNat).map λi=>iu s.G i%4294967296):=(A1.o.ml ah.o r3).below B5.o;have i5:∀v,v<13->aX w5 (S.it v) (aB.its (s.G 3) v):=λv hv=>by rw[<-r3];exact I5.o v hv
  have FF:=I (JL (aB.its (s.G 3)) H6.o i5 (λv hv _=>by show fc (dB S.ct (aB.its (s.G 3)) v 13)=aa;rw[Fk e1 v];exact Fm HG.o aP v) hne (λu hu=>by show 0<=S.pb u/\S.pb u<_;rw[e4 u hu];exact DS HG.o u) bf (λz hz=>by obtain ⟨i,_,rfl⟩:=cq.1 hz;omega) (by rw[dI,Gd];omega));have AE:=I (show mh ((List.range C.M.toNat).map λi=>iu s.G i%4294967296) (eI S.sn S.sh S.pb (λv=>dG (dB S.ct (aB.its (s.G 3)) v 13)) 13) ((List.range C.M.toNat).map λi=>iu s.G i%4294967296).length=ib C s.G by rw[GJ e1 e2 e3 e4,dI,Gd,Um];rfl);have LE:=A (aT S.sn=aT (aB.mem (s.G 2))) (nd e2);have bl:=I (show ay prog 197 #[aC (E ⟨b,0,V⟩)] w5 λe w'=>e= az (br #[])/\qf w w' b C s S (U V 0 0) by
   refine FF.o.mono ?_;rintro e O ⟨rfl,va,vb,am,bg,h6,t6⟩;refine ⟨rfl,iP 1 0 va vb,[], ?_, ?_,λx hx=>absurd hx (NP.o x)⟩
   ·rw[aG.o,ar (by rw[FW.o];exact dR),au E3.o];have bv:O.ownsRow w5.1.size 3 1 va (aT (aB.mem (s.G 2))).length (n_ (aT (aB.mem (s.G 2)))):=by rw[<-LE.o];exact am
    have bh:=bg;rw[show (mh ((List.range C.M.toNat).map λi=>iu s.G i%4294967296) (eI ({S with tm:=s.tm+1}:SS).sn ({S with tm:=s.tm+1}:SS).sh ({S with tm:=s.tm+1}:SS).pb (λv=>dG (dB ({S with tm:=s.tm+1}:SS).ct (aB.its (s.G 3)) v 13)) 13) ((List.range C.M.toNat).map λi=>iu s.G i%4294967296).length)=ib C s.G from AE.o] at bh;have hb1:∀x,va.ownBlock=E x->w5.1.size<=x/\x<O.1.size:=λx hx=>am.lt x hx;have hb2:∀x,vb.ownBlock=E x->w5.1.size<=x/\x<O.1.size:=λx hx=>bg.lt x hx;have bB:=H6.o.lt;have hat:=EU C (s.tm+1) s.rd s.G h6 (MP bv) (na bh (λz hz=>by unfold ib at hz;obtain ⟨i,_,rfl⟩:=cq.1 hz;unfold pL bq;omega)) (λe=>by have:=hb1 b e;omega) (λe=>by have:=hb2 b e;omega) (by decide);refine iI.wj hat (T5.o.trans t6) hbl (λx hx hf=> ?_);rcases hf with hf|⟨v,_,hf⟩|hf|hf|hf;exact absurd hf hx;cases hf;cases hf;have:=hb1 x hf;exact ⟨Q (by omega),this.2⟩;have:=hb2 x hf;exact ⟨Q (by omega),this.2⟩
   have:eu C s=[]:=lI (by rw[E3.o];simp);rw[this];exact mM);clear FF bf i5 hne e1 e2 e3 e4 aP;go_wp2_with fail;refine aH bl.o λO bb=> ?_;have ai:=I bb;clear bb;go_wp2;go_ret;exact ⟨_,rfl,ai.o⟩
 have bA:((s.rd:Int)==3)=Y:=by simp;omega
 have R3:=A (s.rd<3) (by omega);have E3:=I r3;clear r3;have PK:=I (show eu C s=jG S.ct (aB.its (s.G s.rd)) s.rd 13 by rw[Pj ap.o R3.o];unfold eu pJ;rw[au (by rw[bm.o,bn.o,FW.o,aK E3.o];rfl)]);have PC:=I (Pe (aB.its (s.G s.rd)) s.rd H6.o I5.o K6.o R3.o (λu hu _=>by show aq.okF (2*(s.rd:Int)+2) 0 (mE S.ct (aB.its (s.G s.rd)) s.rd u)=aa;rw[Cu ap.o R3.o u];exact uh HG.o s.rd u R3.o aU.o));rw[show (jG ({S with tm:=s.tm+1}:SS).ct (aB.its (s.G s.rd)) s.rd 13)=eu C s from PK.o.symm] at PC;have BN:=I (λ(O:ac) (h6:aR O b {S with tm:=s.tm+1}) (i6:∀v,v<13->aX O (S.it v) (aB.its (s.G s.rd) v))=>(show ay prog 199 #[aC (E ⟨b,0,V⟩)] O λe w7=>e= az (br #[])/\∃S',jv w7 b C {s with tm:=s.tm+1,rd:=s.rd+1} S'/\cW O w7 b/\∀x,x≠b->fL b S' x->fL b S x\/(O.1.size<=x/\x<w7.1.size) by
  have hd:s.rd=0\/s.rd=1\/s.rd=2:=by have:=R3.o;omega
  have old:∀(ml:ag) (pb:Nat->Int) (sh:Nat->Bool) (x:Nat),x≠b->fL b (ng {S with tm:=s.tm+1} pb sh ml) x->fL b S x\/ml.ownBlock=E x:=by intro ml pb sh x hx hf;rcases hf with hf|⟨v,_,hf⟩|hf|hf|hf;exact absurd hf hx;cases hf;exact Q hf;exact ae (Q (Q (Q (ae hf))));exact ae (Q (Q (Q (Q hf))))
  rcases hd with r|r|r;·refine (Hl (aB.its (s.G s.rd)) h6 i6 (K6.o.trans (by rw[r];rfl))).mono ?_;rintro e w7 ⟨rfl,h7,t7⟩;refine ⟨rfl,_,zR HW.o.ba ah.o R3.o aA.o (s.tm+1) h7 (λu _=>by rw[r];rfl) (λq=>by omega) (λq=>by omega) HW.o.ba.gz.1,t7,λx hx hf=> ?_⟩;rcases old _ _ _ x hx hf with q|q;exact ae q;exact ae (Q (Q (ae q)))
  ·refine (Hj h6 (K6.o.trans (by rw[r];rfl))).mono ?_;rintro e w7 ⟨rfl,h7,t7⟩;refine ⟨rfl,_,zR HW.o.ba ah.o R3.o aA.o (s.tm+1) h7 (HW.o.ba.pb ah.o (by omega)) (λ_ u hu=>by have:=ap.o u hu;rwa [r] at this) (λq=>by omega) HW.o.ba.gz.1,t7,λx hx hf=> ?_⟩;rcases old _ _ _ x hx hf with q|q;exact ae q;exact ae (Q (Q (ae q)))
  have hm:({S with tm:=s.tm+1}:SS).m=((C.M.toNat:Nat):Int):=by show S.m=_;rw[K1.o];omega
  refine (Hk (aB.its (s.G s.rd)) C.M.toNat h6 i6 hm (by omega) (λv x=>by rw[r];exact Ls HG.o v x) (K6.o.trans (by rw[r];rfl))).mono ?_;rintro e w7 ⟨rfl,va,am,h7,t7⟩;have bC:=h6.lt;refine ⟨rfl,_,zR HW.o.ba ah.o R3.o aA.o (s.tm+1) h7 (HW.o.ba.pb ah.o (by omega)) (λ_=>HW.o.ba.sh ah.o (by omega)) (λ_=> ?_) (λq=>by have:=(am.lt b q).1;omega),t7,λx hx hf=> ?_⟩;rw[r] at am;refine na (zs:=(List.range C.M.toNat).map λi=>iu s.G i%4294967296) am (λz hz=> ?_);obtain ⟨i,_,rfl⟩:=cq.1 hz;unfold bq;omega;rcases old _ _ _ x hx hf with q|q;exact ae q;exact Q (am.lt x q)));go_wp2_with fail;refine PC.o.mono ?_;rintro e O ⟨v,vs,rfl,aN,aw⟩;obtain ⟨a7,c7,aO⟩:=a_ aN.row;have P6:=I aN;have bk:=I (BN.o O (H6.o.below aw) (λv hv=>(I5.o v hv).below aw));have T6:=I (T5.o.trans (cW.grow aw H6.o.lt));have s6:=aw.size;have bo:=I aO;clear aN aw;rw[aO];clear aO;go_wp2_with fail;refine bk.o.mono ?_;rintro e w7 ⟨rfl,S',hat,t7,aL⟩;have ai:=I (show qf w w7 b C s S v by
  refine ⟨S',vs, ?_, ?_, ?_⟩;·rw[aG.o,ar (by rw[FW.o];exact dR),ar E3.o];refine iI.wj hat (T6.o.trans t7) hbl (λx hx hf=> ?_);rcases aL x hx hf with q|q;exact ⟨ae q,cG (HW.o.low x q) (fJ (by omega) t7.aV.size)⟩;exact ⟨Q (by omega),q.2⟩
  have:=P6.o.aV t7.aV (λx hx e=>by have:=(P6.o.low x hx).1;have:=H6.o.lt;omega);exact this.base s5;intro x hx hf;have hl:=P6.o.low x hx;by_cases e:x=b;have:=H6.o.lt;omega;rcases aL x e hf with q|q;have:=HW.o.low x q;omega;omega);clear hat t7 aL;go_wp2;go_ret;refine ⟨_,rfl, ?_⟩;rw[<-bo.o];exact ai.o
end
end Go.Proofs.YtchideljndagjabGreat


