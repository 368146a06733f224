/- Joined -/
import Derived.Test.YtchideljndagjabGreatUAM
set_option linter.unusedVariables false
set_option maxHeartbeats 8000000
set_option maxRecDepth 100000
namespace Go.Proofs.YtchideljndagjabGreat
open aq aO bb
open Go.Value renaming int->Z,slice->U,pointer->aC,tuple->br
open Go.IntKind renaming i64->J
open Go.Obj renaming cells->ah
open Go.Ending renaming returned->az
open Or renaming inl->ae,inr->Q
open Option renaming none->V,some->E
open Go renaming World->ac,Value->ag,Calls->ay
open Go.RowKit renaming Below->af,intOf->aA
abbrev AL:=@Nat.lt_irrefl
abbrev AK:=@Int.mul_le_mul_of_nonneg_left
open Go.Proofs.Tryz
variable {s:RS}{v:ag}{w w':ac}
section
open Go.ChangeShapes Go.WideShapes Go.ChangeAt Go.RowKit
theorem QL{b}(k1 f1 k2 f2){v1 v2 lk lb}(h:cA w b s)(hk:aX w v1 lk)(hb:aX w v2 lb)(bS:aY w s.vi s.c.inp)(hc:dr s.c)(rb:bN lb=true)(bU:∀x∈lk,0<=x.2.1/\x.2.1<2305843009213693951/\0<=x.2.2.1/\x.2.2.1<2305843009213693951):
  ay prog 236 #[aC (E ⟨b,0,V⟩),.agg #[Z J k1,Z J f1,v1],.agg #[Z J k2,Z J f2,v2]] w λe w'=>
   ∃va,e= az va/\w'.ownsRow w.1.size 5 1 va (bm 5 s.c.id (dy s.c lk lb)).length ((bm 5 s.c.id (dy s.c lk lb)).map (Value.int .u8))/\af w.1.size w w':=by
 obtain ⟨i1,cL,cR,cU,cV⟩:=bO lj;obtain ⟨i0,hi,hz0,hz1,hz2⟩:=bO yF;obtain ⟨W0,hW0⟩:=aj ((w.alloc (ah #[Z J k1,Z J f1,v1] 65)).alloc (ah #[Z J k2,Z J f2,v2] 65));have hb0:af w.1.size w W0:=by rw[hW0];exact ((ax _ _).alloc (aw _) _).alloc (by simp) _
 have z0:w.1.size+1<W0.1.size:=by rw[hW0];simp
 have F1:dc W0 w.1.size k1 f1 v1:=by rw[hW0];refine ⟨?_, ?_, ?_⟩<;>simp
 have F2:dc W0 (w.1.size+1) k2 f2 v2:=by rw[hW0];refine ⟨?_, ?_, ?_⟩<;>simp
 have FF:=A (∀W,af W0.1.size W0 W->dc W w.1.size k1 f1 v1/\dc W (w.1.size+1) k2 f2 v2) (λW hb'=>⟨F1.below hb' (by omega),F2.below hb' (by omega)⟩);clear F1 F2;have cG:=hc.m;obtain ⟨n,hn⟩:∃n:Nat,s.c.M=(n:Int):=⟨s.c.M.toNat,by omega⟩;rw[hn] at cG;have n1:1<=n:=by omega
 have b_:n<=12:=by omega
 obtain ⟨id,aN⟩:=aj s.c.id;obtain ⟨sd,aO⟩:=aj s.c.sd;have HN:=I (show ∀W,af W0.1.size W0 W->W.cell? ⟨b,2,V⟩=E (Z J (n:Int))/\W.cell? ⟨b,4,V⟩=E (Z J id)/\W.cell? ⟨b,8,V⟩=E (Z J sd) from λW hb'=>by obtain ⟨_,_,y2,y4,_,_,y8⟩:=((h.below hb0).below hb').dz;rw[hn] at y2;rw[<-aN] at y4;rw[<-aO] at y8;exact ⟨y2,y4,y8⟩);obtain ⟨ai,ci,bh,cW,dl,bb⟩:=pk bS;have bR:s.c.inp.length=n:=by have:=hc.len;rw[hn] at this;omega
 rw[bR] at bh cW bb;have cq:=I (show ∀W,af W0.1.size W0 W->W.cell? ⟨b,5,V⟩=E (U ai n ci)/\∀t,t<n->∃b' off,ai=E ⟨b',off,V⟩/\b'<w.1.size/\W.cell? ⟨b',off+t,V⟩=E (Z J (s.c.inp.getD t 0)) from λW hb'=>by obtain ⟨y5,_⟩:=((h.below hb0).below hb').vals;rw[bh] at y5;refine ⟨y5,λt ht=> ?_⟩;obtain ⟨b',off,e1,e2⟩:=bb t ht;have bK:b'<w.1.size:=By e2;exact ⟨b',off,e1,bK,((hb'.cell (p:=⟨b',off+t,V⟩) (by show b'<_;have:=hb0.size;omega)).trans (hb0.cell (p:=⟨b',off+t,V⟩) bK)).trans e2⟩);have cp:=A (∀t,t<n->0<=s.c.inp.getD t 0/\s.c.inp.getD t 0<4294967296) (λt ht=>hc.inp _ (by rw[bG,aQ (show t<s.c.inp.length by omega)];exact cN _));have cr:=A (∀t,lq s.c t=s.c.inp.getD t 0+cj sd t) (λt=>by rw[aO];rfl);have HST:=I (show ∀W,ay prog 86 #[Z J sd,Z J (n:Int)] W λe w'=>∃v,e= az (br #[v,Z J 0])/\w'.ownsRow W.1.size 3 1 v n ((mg sd n).map (Value.int J))/\af W.1.size W w' from λW=>by rw[aO];exact zA s.c.sd n W hc.sd.1 hc.sd.2 b_);have aT:∀v:Int,0<=eK s.c lk v/\eK s.c lk v<2305843009213693951:=λv=>⟨ki _ _,kh _ _⟩;have cz:=I (λ(W:ac) (v:Int)=>zA (eK s.c lk v) n W (aT v).1 (aT v).2 b_);have bc:∀u:Int,0<=(aL lk u).2.2.1/\(aL lk u).2.2.1<2305843009213693951:=λu=>by cases e:aP lk u;rw[qB e];exact ⟨by decide,by decide⟩;have:=bU _ (qA e);omega
 have cu:=I (λ(W:ac) (hb':af W0.1.size W0 W) (u:Int)=>QK k1 f1 u ((h.below hb0).below hb') ((hk.below hb0).below hb') hc.ms.1 hc.ms.2 (bc u).1 (bc u).2);have bt:=I (λj t hj=>Dj s.c lk lb j t hj);have cC:=A (∀v t,r_ s.c lk v t=if id<v then cj (eK s.c lk v) t else-cj (eK s.c lk v) t) (λv t=>by rw[aN];rfl);have cy:=I (λt=>Dk s.c lk lb t);have aV:=I (λt=>NF s.c lk lb t);have aS:=A (∀t,t<n->∀j,j<=lb.length-> -4294967296*(j:Int)<=eY s.c lk lb j t/\eY s.c lk lb j t<=8589934592+4294967296*(j:Int)) (λt ht j hj=>NG hc lk lb t (by rw[hn];omega) j hj);have cx:=A (∀t,t<n->(dy s.c lk lb).take (t+1)=(dy s.c lk lb).take t++[((t:Int)+1,kf s.c lk lb t%4294967296,0,0)]) (λt ht=>NB s.c lk lb t (by rw[hn];omega));have bg:(dy s.c lk lb).length=n:=by rw[mI,hn];rfl
 have cw:=A (∀t,t<=n->((dy s.c lk lb).take t).length=t) (λt ht=>by rw[eV,bg];omega);have ct:=A ((dy s.c lk lb).take n=dy s.c lk lb) (by rw[<-bg,iF]);have bp:=I (vZ hc lk lb);have bl:=I (λ(W:ac) (vv:ag) (hv:aX W vv (dy s.c lk lb))=>sw hv (vZ hc lk lb));obtain ⟨a2,c2,hv2,l2,l3,_,bM⟩:=cK (hb.below hb0);have cX:lb.length<=12:=by obtain ⟨p1,p2⟩:=gm rb;exact si p1 p2
 have bk:=I bM;have bw:=I hv2;obtain ⟨m,hm⟩:=aj lb.length;rw[<-hm] at bk bw cX l2 bt aV aS;have cf:=I hb0;have cD:=I hW0;rw[<-aN] at bp bl ⊢;generalize dy s.c lk lb=ML at*;clear hn aN aO bh bb bR h hk hb bS hc rb bU aT bc bg hv2 bM hm hW0 hb0;go_enter func236,ntmps236;go_upto_region 1 with fail;rw[<-cD.o];obtain ⟨y2,y4,y8⟩:=HN.o W0 (ax _ _);go_upto_region 2 with (at_make;refine uH _ rfl _ _ 33 rfl W0.1.size 3 i0 (Z J 0) 1 gW hi hz0 hz1 _ _ _ _ n rfl rfl (by omega) (by omega) ?m1 ?m2 ?m3 ?_);case m1=>rw[hz2];omega
 case m2=>unfold maxLen;omega
 case m3=>exact aw _
 intro w2 bW bQ;have hr:=Ep bW;have hb2:af W0.1.size W0 w2:=(ax _ _).grown bQ (aw _) (by simp);rw[xo,Ec] at hr;have R2:=A (cH w2 W0.1.size n (λ_=>0)) hr;have g2:=R2.o.lt;have bj:=I hb2;clear hr hb2 bW bQ y2 y4 y8;obtain ⟨y2,y4,y8⟩:=HN.o w2 bj.o;go_upto_region 2 with fail;go_cut [8,9] from 28 to 41 (λp q wc=>(∃va,p=va/\wc.ownsRow w2.1.size 3 1 va n ((mg sd n).map (Value.int J)))/\af w2.1.size w2 wc);case first=> go_region_with (go_at_call 86;refine (HST.o _).mono ?_;rintro e w1 ⟨va,rfl,aa,hb1⟩;have cn:=I (And.intro (show ∃cd,va=cd/\w1.ownsRow w2.1.size 3 1 cd n ((mg sd n).map (Value.int J)) from ⟨va,rfl,aa⟩) (show af w2.1.size w2 w1 from (ax w2.1.size w2).drew.trans hb1));clear aa hb1);all_goals (go_wp2;go_meet;exact cn.o)
 obtain ⟨⟨va,rfl,aa⟩,aK⟩:=hcut;obtain ⟨go,co,rfl,hgo,cI,cY,cZ,bV⟩:=wX aa n1;have sc:=aK.size;have RC:=I (R2.o.block (aK.block W0.1.size g2));have cg:=I (bj.o.trans (aK.mono (by omega)));have bn:=I bV;have hne:go≠W0.1.size:=by omega
 clear aa aK bV y2 y4 y8;go_wp2;go_loopw [10] (λi wr=>∃t:Nat,t<=n/\i= Z J t/\cH wr W0.1.size n (λu=>if u<t then lq s.c u else 0)/\av (λx=>x=W0.1.size) wc wr) (λi _=>n-(aA i).toNat);case atStart=>exact ⟨0,bi _,rfl,RC.o.ext (λt ht=>(ar (pV _)).symm),av.refl _ _⟩
 obtain ⟨t,ht,rfl,hrow,ak⟩:=hrel;have O:=I hrow;have ap:=I ak;have hsz:=ak.size;have HB:=I (cg.o.trans (ak.below (B:=W0.1.size) (by omega) (λx e=>by omega)));clear hrow ak;obtain ⟨y2,y4,y8⟩:=HN.o wr HB.o;by_cases hlt:t<n
 ·obtain ⟨y5,bT⟩:=cq.o wr HB.o;obtain ⟨b',off,rfl,hb',d0⟩:=bT t hlt;have o0:=(ez (w:=wc) (a:=⟨go,t,V⟩) (ap.o.block go cI hne)).trans (bn.o t hlt);obtain ⟨x1,x2⟩:=cp.o t hlt;obtain ⟨q1,q2⟩:=lH sd t;have aU:=I (cr.o t);obtain ⟨X,hX⟩:=aj (s.c.inp.getD t 0);obtain ⟨Y,hY⟩:=aj (cj sd t);rw[<-hX] at d0 x1 x2 aU;rw[<-hY] at o0 q1 q2 aU;have c0:=O.o.cell t hlt;have c1:=O.o.bF t;have hwr:IntKind.i64.wrap (X+Y)=X+Y:=by rw[kv,eL _ (by omega)]
  have aM:W0.1.size<wr.1.size:=by omega
  have aF:=I (show cH (wr.setCell ⟨W0.1.size,t,V⟩ (Z J (X+Y))).drew W0.1.size n (λu=>if u<t+1 then lq s.c u else 0) from
   (O.o.set t hlt (X+Y) (by show (if t<t+1 then lq s.c t else 0)=_;rw[au (pR t),aU.o]) (λu hu hne=>by
    show (if u<t+1 then lq s.c u else 0)=(if u<t then lq s.c u else 0);by_cases e:u<t;·rw[au e,au (by omega)]
    rw[ar e,ar (by omega)])).drew);have aD:=A (av (λx=>x=W0.1.size) wc (wr.setCell ⟨W0.1.size,t,V⟩ (Z J (X+Y))).drew) (rN (ap.o.bY (av.setCell wr ⟨W0.1.size,t,V⟩ _)));clear hX hY bT;go_wp2_with fail;go_region;go_wp2;go_roundw;case rel=>exact ⟨t+1,by omega,by go_num,aF.o,aD.o⟩
  simp[aA];omega
 have et:t=n:=by omega
 subst et;have R3:=I (show cH wr W0.1.size t (eY s.c lk lb 0) from O.o.ext (λu hu=>by show (if u<t then lq s.c u else 0)=_;rw[au hu,cy.o u]));go_wp2_with fail;clear ap O bn;go_loopw [11] (λi wr=>∃j:Nat,j<=m/\i= Z J j/\cH wr W0.1.size t (eY s.c lk lb j)/\af W0.1.size W0 wr) (λi _=>m-(aA i).toNat);case atStart=>exact ⟨0,bi _,rfl,R3.o,HB.o⟩
 clear R3 HB y2 y4 y8;obtain ⟨j,hj,rfl,hrow,aB⟩:=hrel;have O:=I hrow;have HB:=I aB;have hsz:=aB.size;have aM:=hrow.lt;clear hrow aB;obtain ⟨⟨x0,x1,x2⟩,⟨ce,z1,z2⟩⟩:=FF.o wr HB.o;rw[bw.o] at z2;obtain ⟨y2,y4,y8⟩:=HN.o wr HB.o;by_cases hlt:j<m
 ·obtain ⟨b',off,ha2,hb',hit⟩:=bk.o j hlt;obtain ⟨e0,_,_,_⟩:=hit.below hb' HB.o;rw[ha2] at z2;have bB:=I (λt=>bt.o j t hlt);obtain ⟨v,hv⟩:=aj ((aq.it lb j).1);rw[<-hv] at e0 bB;clear hv hit;go_wp2_with fail;refine aH (cu.o wr HB.o v) λw4 hb4=> ?_;have s4:=hb4.size;have B4:=I (HB.o.trans (hb4.mono (by omega)));have R4:=I (O.o.block (hb4.block W0.1.size aM));have bu:=I (λW=>cz.o W v);have bv:=I (λt=>cC.o v t);clear hb4 x0 x1 x2 ce z1 z2 y2 y4 y8 e0;obtain ⟨K,hK⟩:=aj (eK s.c lk v);rw[<-hK] at bu bv ⊢;clear hK;obtain ⟨y2,y4,y8⟩:=HN.o w4 B4.o;go_wp2_with fail;refine (bu.o w4).mono ?_;rintro e w5 ⟨va,rfl,aa,aZ⟩;obtain ⟨gs,cs,rfl,dh,cJ,cs1,df,hsc⟩:=wX aa n1;have B5:=I (B4.o.trans (aZ.mono (by omega)));have R5:=I (R4.o.block (aZ.block W0.1.size (by omega)));have cB:=I hsc;have cM:gs≠W0.1.size:=by omega
  clear aa aZ hsc y2 y4 y8;go_wp2;go_loopw [16] (λi wr=>∃u:Nat,u<=t/\i= Z J u/\cH wr W0.1.size t (λx=>if x<u then eY s.c lk lb (j+1) x else eY s.c lk lb j x)/\av (λx=>x=W0.1.size) w5 wr) (λi _=>t-(aA i).toNat);case atStart=>exact ⟨0,bi _,rfl,R5.o.ext (λx hx=>(ar (pV _)).symm),av.refl _ _⟩
  clear R4 R5 O HB B4;obtain ⟨u,hu,rfl,hrow,ak⟩:=hrel;have O:=I hrow;have ap:=I ak;have hsz':=ak.size;have HB:=I (B5.o.trans (ak.below (B:=W0.1.size) (by omega) (λx e=>by omega)));clear hrow ak;obtain ⟨y2,y4,y8⟩:=HN.o wr HB.o;by_cases am:u<t
  ·have o0:=(ez (w:=w5) (a:=⟨gs,u,V⟩) (ap.o.block gs cJ cM)).trans (cB.o u am);obtain ⟨q1,q2⟩:=lH K u;have SU:=I (bB.o u);have TV:=I (bv.o u);obtain ⟨p1,p2⟩:=aS.o u am j (by omega);have c0:=O.o.cell u am;have c1:=O.o.bF u;rw[ar (AL u)] at c0;have bq:=I (show ∀z,eY s.c lk lb (j+1) u=z->cH (wr.setCell ⟨W0.1.size,u,V⟩ (Z J z)).drew W0.1.size t (λx=>if x<u+1 then eY s.c lk lb (j+1) x else eY s.c lk lb j x) from λz hz=>
    (O.o.set u am z (by show (if u<u+1 then eY s.c lk lb (j+1) u else eY s.c lk lb j u)=_;rw[au (pR u),hz]) (λx hx hne=>by
     show (if x<u+1 then eY s.c lk lb (j+1) x else eY s.c lk lb j x)=(if x<u then eY s.c lk lb (j+1) x else eY s.c lk lb j x);by_cases e:x<u;·rw[au e,au (by omega)]
     rw[ar e,ar (by omega)])).drew);obtain ⟨Y,hY⟩:=aj (cj K u);obtain ⟨ae,hA⟩:=aj (eY s.c lk lb j u);rw[<-hY] at o0 q1 q2 TV;rw[<-hA] at p1 p2 c0 SU;clear hY hA;have di:(j:Int)<=12:=by omega
   by_cases qv:id<v
   ·have hwr:IntKind.i64.wrap (ae+Y)=ae+Y:=by rw[kv,eL _ (by omega)]
    have aF:=I (bq.o (ae+Y) (by rw[SU.o,TV.o,au qv]));have aD:=A (av (λx=>x=W0.1.size) w5 (wr.setCell ⟨W0.1.size,u,V⟩ (Z J (ae+Y))).drew) (rN (ap.o.bY (av.setCell wr ⟨W0.1.size,u,V⟩ _)));go_wp2_with fail;go_region;go_wp2;go_roundw;case rel=>exact ⟨u+1,by omega,by go_num,aF.o,aD.o⟩
    simp[aA];omega
   have hwr:IntKind.i64.wrap (ae-Y)=ae-Y:=by rw[kv,eL _ (by omega)]
   have aF:=I (bq.o (ae-Y) (by rw[SU.o,TV.o,ar qv];omega));have aD:=A (av (λx=>x=W0.1.size) w5 (wr.setCell ⟨W0.1.size,u,V⟩ (Z J (ae-Y))).drew) (rN (ap.o.bY (av.setCell wr ⟨W0.1.size,u,V⟩ _)));go_wp2_with fail;go_region;go_wp2;go_roundw;case rel=>exact ⟨u+1,by omega,by go_num,aF.o,aD.o⟩
   simp[aA];omega
  have eu:u=t:=by omega
  subst eu;have R6:=I (show cH wr W0.1.size u (eY s.c lk lb (j+1)) from O.o.ext (λx hx=>by show (if x<u then eY s.c lk lb (j+1) x else eY s.c lk lb j x)=_;rw[au hx]));go_wp2;go_roundw;case rel=>exact ⟨j+1,by omega,by go_num,R6.o,HB.o⟩
  simp[aA];omega
 have ej:j=m:=by omega
 subst ej;have R6:=A (cH wr W0.1.size t (kf s.c lk lb)) (O.o.ext (λx hx=>aV.o x));have aR:=I (cf.o.trans (HB.o.mono (by omega)));have ck:=A (∀x,x<t-> -4294967296*(j:Int)<=kf s.c lk lb x/\kf s.c lk lb x<=8589934592+4294967296*(j:Int)) (λx hx=>by rw[<-aV.o x];exact aS.o x hx j (aw _));obtain ⟨w7,bX⟩:=aj wr;obtain ⟨W8,aJ⟩:=aj (wr.alloc (ah #[Z J 5,Z J id,U V 0 0] 65));have B8:=A (af wr.1.size wr W8) (by rw[aJ];exact (ax _ _).alloc (aw _) _);have R8:=A (W8.1[wr.1.size]? =E (ah #[Z J 5,Z J id,U V 0 0] 65 (0,0))) (by rw[aJ];exact bo wr _);have bz:=I aJ;go_upto_region 20 with fail;rw[<-bz.o];clear x0 x1 x2 ce z1 z2 y2 y4 y8 aJ;rw[<-bX] at B8 R8 R6 aR HB aM hsz ⊢;clear bX bz O;go_wp2;go_loopw [18] (λi wr=>∃u:Nat,u<=t/\i= Z J u/\(∃vv,wr.1[w7.1.size]? =E (ah #[Z J 5,Z J id,vv] 65 (0,0))/\wr.ownsRow (w7.1.size+1) 147 4 vv u (bD (ML.take u)))/\af w7.1.size w7 wr) (λi _=>t-(aA i).toNat);case atStart=>exact ⟨0,bi _,rfl,⟨_,R8.o,dp _ _ _ _⟩,B8.o⟩
 clear R8 B8;obtain ⟨u,hu,rfl,⟨vv,hrow,hown⟩,aB⟩:=hrel;have O:=I hrow;have HO:=I hown;have aI:=I aB;have hsz':=aB.size;have dg:w7.1.size<wr.1.size:=by by_cases hb:w7.1.size<wr.1.size;exact hb;rw[cT (by omega)] at hrow;cases hrow
 obtain ⟨cF,cv,cQ⟩:=a_ hown;subst cQ;clear hrow hown aB;have cm:=I (HB.o.trans (aI.o.mono (by omega)));obtain ⟨y2,y4,y8⟩:=HN.o wr cm.o;by_cases am:u<t
 ·have RR:=R6.o.block (aI.o.block W0.1.size aM);have c0:=RR.cell u am;obtain ⟨p1,p2⟩:=ck.o u am;have aW:=I (cx.o u am);clear RR;obtain ⟨ae,hA⟩:=aj (kf s.c lk lb u);rw[<-hA] at c0 p1 p2 aW;clear hA;go_wp2_with fail;refine aH (Eh ae wr (by omega) (by omega)) λw9 bZ=> ?_;rw[bZ];clear bZ;obtain ⟨bC,hZ⟩:=aj (ae%4294967296);rw[<-hZ] at aW ⊢;clear hZ;obtain ⟨r0,r1,r2,r3⟩:=sy O.o;go_wp2_with (at_builtin;refine eF _ rfl _ _ 63 rfl (w7.1.size+1) 147 i1 (.agg #[Z J 0,Z J 0,Z J 0,Z J 0]) 4 32 iG cL cR cU cV rfl (by decide) _ _ _ rfl (HO.o.alloc _) ⟨wr.1.size,0,V⟩ 1 1 [Z J ((u:Int)+1),Z J bC,Z J 0,Z J 0] rfl rfl ?c1 ?c2 ?c3 ?c4 ?c5 ?_);case c1=>exact jS _ _ _ _ _ _
  case c2=>intro u hu;simp at hu;rcases hu with rfl|rfl|rfl|rfl<;>rfl
  case c3=>unfold maxLen;omega
  case c4=>omega
  case c5=>simp;omega
  intro v' w6 hown' bP _;obtain ⟨a6,c6,cO⟩:=a_ hown';subst cO;have ba:=((ax (w7.1.size+1) wr).alloc (by omega) (ah #[Z J ((u:Int)+1),Z J bC,Z J 0,Z J 0] 147)).grown bP (by simp;omega) (λy hy=>(HO.o.lt y hy).1);have bA:=I ((ba.block w7.1.size (by omega)).trans O.o);obtain ⟨t0,t1,t2,t3⟩:=sy bA.o;have R7:=I (bI w6 w7.1.size 2 _ _ (U a6 (u+1) c6) bA.o);obtain ⟨W9,aG⟩:=aj (w6.setCell ⟨w7.1.size,2,V⟩ (U a6 (u+1) c6));have bL:av (λx=>x=w7.1.size) w6 W9:=by rw[aG];exact av.setCell w6 ⟨w7.1.size,2,V⟩ _
  rw[<-aG] at R7;have O7:=I (bf hown' bL (λy hy=>by have:=hown'.lt y hy;omega));have B7:=A (af w7.1.size w7 W9) (by rw[aG];exact (aI.o.trans (ba.mono (by omega))).setCell (p:=⟨w7.1.size,2,V⟩) (aw _) _);have cE:=I aG;clear hown' bP ba bL aG r0 r1 r2 r3;go_wp2_with fail;rw[<-cE.o];go_roundw;case rel=>exact ⟨u+1,by omega,by go_num,⟨_,R7.o,by rw[aW.o,jc];exact O7.o⟩,B7.o⟩
  simp[aA];omega
 have eu:u=t:=by omega
 subst eu;obtain ⟨r0,r1,r2,r3⟩:=sy O.o;have bH:=ct.o;have bE:=cw.o u (aw _);rw[bH] at bE;have ITS:=A (aX wr (U cF u cv) ML) (iL (B:=w7.1.size+1) (by rw[bE];have:=HO.o;rw[bH] at this;exact this) (kg bp.o));go_wp2_with fail;refine (bl.o wr _ ITS.o).mono ?_;rintro e w9 ⟨va,rfl,aa,bJ⟩;obtain ⟨a3,c3,cP⟩:=a_ aa;have dm:=aR.o.size;have OA:=I (cS aa (show w.1.size<=wr.1.size by omega));have BF:=I ((aR.o.trans (aI.o.mono (by omega))).trans (bJ.mono (by omega)));subst cP;clear aa bJ;go_wp2;go_ret;exact ⟨_,rfl,OA.o,BF.o⟩
def lS (w w':ac)(va:ag):Option aO.Fr->Prop
 |none=>va=U V 0 0
 |some f=>w'.ownsRow w.1.size 5 1 va (bm f.1 f.2.1 f.2.2).length ((bm f.1 f.2.1 f.2.2).map (Value.int .u8))
theorem xS{kd h f t}(e:dO kd h=E (f,t)):f.1=kd:=by
 induction h with
 |nil=>cases e
 |cons g h ih=> unfold dO at e;by_cases q:g.1=kd;rw[au q]at e;cases e;exact q;rw[ar q]at e;exact ih e
section
variable {c:Cl}{h t t2 t3:List aO.Fr}{k b a:aO.Fr}
theorem Nb (e:dO 2 h=V):aO.lk c h=(1,[],[],[]):=by unfold aO.lk;rw[e]
theorem Na (e:dO 2 h=E (k,t))(q:gB c k.2.2=false):aO.lk c h=(0,k.2.2,[],[]):=by unfold aO.lk;rw[e];simp[q]
theorem Nc (e:dO 2 h=E (k,t))(q:gB c k.2.2=true):aO.lk c h=lm c k.2.2 t:=by unfold aO.lk;rw[e];simp[q]
theorem MU (kk)(e:dO 4 t=V):lm c kk t=(2,kk,[],[]):=by unfold lm;rw[e]
theorem MT (kk)(e:dO 4 t=E (b,t2))(q:d_ c kk b.2.2=false):lm c kk t=(0,kk,b.2.2,[]):=by unfold lm;rw[e];simp[q]
theorem MV (kk)(e:dO 4 t=E (b,t2))(q:d_ c kk b.2.2=true):lm c kk t=ln c kk b.2.2 t2:=by unfold lm;rw[e];simp[q]
theorem MY (kk O)(e:dO 6 t=V):ln c kk O t=(3,kk,O,[]):=by unfold ln;rw[e]
theorem MX (kk O)(e:dO 6 t=E (a,t3))(q:gZ c O a.2.2=false):ln c kk O t=(0,kk,O,a.2.2):=by unfold ln;rw[e];simp[q]
theorem MZ (kk O)(e:dO 6 t=E (a,t3))(q:gZ c O a.2.2=true):ln c kk O t=(4,kk,O,a.2.2):=by unfold ln;rw[e];simp[q]
end
theorem qN{p q}(h:q=p):Ending.returned (br #[Z J p,v])=az (br #[Z J q,v]):=by rw[h]
theorem QB{b h}(kd i)(hr:cA w b s)(hf:oH w s.hv h)(O:i<h.length):
  ay prog 232 #[aC (E ⟨b,0,V⟩),Z J kd,Z J ((i:Int)+1)] w λe w'=>
   ((e=az (Z J (-1))/\dO kd (h.drop (i+1))=V)\/∃j:Nat,e=az (Z J j)/\j<h.length/\dO kd (h.drop (i+1))=E (ea h j,h.drop (j+1)))/\w'=w:=by have:=Ed kd (i+1) hr hf O;rw[show(((i+1:Nat)):Int)=(i:Int)+1 by omega]at this;refine this.mono ?_;rintro e w' ⟨h1|⟨j,h1,_,h2,h3⟩,h4⟩;exact⟨ae h1,h4⟩;exact⟨Q ⟨j,h1,h2,h3⟩,h4⟩
theorem QJ{b hh}(h:cA w b s)(hf:oH w s.hv hh)(hi:aY w s.vi s.c.inp)(hm:aY w s.vm s.c.sm)(hs:aY w s.vs s.c.ss)(hc:dr s.c)(bP:∀f∈hh,aq.okF f.1 f.2.1 f.2.2=true):
  ay prog 178 #[aC (E ⟨b,0,V⟩)] w λe w'=>∃va,e=az (br #[Z J (aO.lk s.c hh).1,va])/\lS w w' va (rG s.c (aO.lk s.c hh))/\af w.1.size w w':=by
 have hbl:=h.lt;have aQ:=A (∀j kd,j<hh.length->(ea hh j).1=kd->aq.okF kd (ea hh j).2.1 (ea hh j).2.2=true) (λj kd hj e=>by rw[<-e];exact bP _ (by rw[oX hh j hj];exact cN hj));have HR:=bj w λW hb=>h.below hb;have bf:=I (Ed 2 0 h hf (bi _));have bg:=I (λ(W:ac)(hb:af w.1.size w W)(kd:Int)(i:Nat)(hi:i<hh.length)=>QB kd i (h.below hb) (hf.below hb) hi);have bm:=bj w λW hb=>(show aY W s.vi s.c.inp/\aY W s.vm s.c.sm/\aY W s.vs s.c.ss from⟨hi.below hb,hm.below hb,hs.below hb⟩);obtain⟨a,cap,hv,c2,c3,bI⟩:=hf;have HV:=I (show∀(W:ac),af w.1.size w W->W.cell? ⟨b,11,V⟩=E (U a hh.length cap)from λW hb=>by obtain⟨_,_,_,x,_⟩:=(h.below hb).vals;rw[hv]at x;exact x);have HC:=I (show∀j,j<hh.length->∃b' off vj,a=E ⟨b',off,V⟩/\b'<w.1.size/\∀W,af w.1.size w W->W.cell? ⟨b',off+j*3,V⟩=E (Z J (ea hh j).1)/\W.cell? ⟨b',off+j*3+1,V⟩=E (Z J (ea hh j).2.1)/\W.cell? ⟨b',off+j*3+2,V⟩=E vj/\aX W vj (ea hh j).2.2 from λj hj=>by obtain⟨b',off,vj,e1,e2,e3,e4,e5,e6⟩:=bI j hj;exact⟨b',off,vj,e1,e2,λW hb=>⟨(hb.cell (p:=⟨b',off+j*3,V⟩) e2).trans e3,(hb.cell (p:=⟨b',off+j*3+1,V⟩) e2).trans e4,(hb.cell (p:=⟨b',off+j*3+2,V⟩) e2).trans e5,e6.below hb⟩⟩);have av:=I hc;obtain⟨L,hL⟩:=aj (aO.lk s.c hh);have HL:=I hL;rw[<-hL];obtain⟨n,hn⟩:=aj hh.length;rw[<-hn]at aQ bf bg HV HC c2;clear hL hn hv bI h hi hm hs hc bP;rw[xv]at bf;go_enter func178,ntmps178;go_wp2_with fail;refine bf.o.mono ?_;rintro e w1 ⟨aF,rfl⟩;rcases aF with⟨rfl,hno⟩|⟨i,rfl,_,hi,hsome⟩;·have O:=A (L=(1,[],[],[])) (by rw[HL.o];exact Nb hno);clear hno;go_wp2_with fail;go_ret2;exact⟨_,qN (by rw[O.o]),by rw[O.o];rfl,ax _ _⟩
 obtain⟨b',off,vk,rfl,hb',hcc⟩:=HC.o i hi;obtain⟨d0,d1,d2,dI⟩:=hcc w1 (ax _ _);obtain⟨ak,ck,bR,_⟩:=cK dI;obtain⟨nk,bN⟩:∃x,x=(ea hh i).2.2.length:=⟨_,rfl⟩;rw[<-bN]at bR;subst bR;clear bN;have aA:=bj w1 λW hb=>dI.below hb;have Y:=xS hsome;have ap:=I (aQ.o i 2 hi Y);have aJ:=HV.o w1 (ax _ _);rw[Y]at d0;have bD:=I hsome;obtain⟨fk,bL⟩:∃x,x=(ea hh i).2.1:=⟨_,rfl⟩;obtain⟨lk,hlk⟩:∃x,x=(ea hh i).2.2:=⟨_,rfl⟩;rw[<-bL]at d1 ap;rw[<-hlk]at aA ap;have aP:=I hlk;clear hcc dI Y hsome bL hlk;obtain⟨W1,hW1⟩:=aj (w1.alloc (ah #[Z J 2,Z J fk,(U ak nk ck)] 65));have aV:=A (af w1.1.size w1 W1) (by rw[hW1];exact(ax _ _).alloc (aw _) _);have FK:=A (∀W,af W1.1.size W1 W->dc W w1.1.size 2 fk (U ak nk ck)) (λW hb=>(show dc W1 w1.1.size 2 fk (U ak nk ck)by rw[hW1];exact dc.new w1 2 fk (U ak nk ck)).below hb (by rw[hW1];simp));have ct:W1.1.size=w1.1.size+1:=by rw[hW1];simp
 have ce:=I hW1;clear hW1;go_upto_region 5 with fail;rw[<-ce.o];clear d0 d1 d2 aJ;obtain⟨x0,x1,x2⟩:=FK.o W1 (ax _ _);have bh:=I (QH 2 fk (HR.o W1 aV.o) (aA.o W1 aV.o) av.o);obtain⟨ka,hka⟩:∃x,x=gB s.c lk:=⟨_,rfl⟩;rw[<-hka]at bh;have bC:=I hka;clear hka;go_wp2_with fail;refine aH bh.o λw2 hb2=>?_;have s2:=hb2.size;have ai:=I (aV.o.trans (hb2.mono (by omega)));have bu:=I hb2;clear hb2 x0 x1 x2 bh;cases ka;·have O:=A (L=(0,lk,[],[])) (by rw[HL.o,aP.o];exact Na bD.o (by rw[<-aP.o,<-bC.o]));go_wp2_with fail;go_ret2;exact⟨_,qN (by rw[O.o]),by rw[O.o];rfl,ai.o⟩
 have bk:=A (L=lm s.c lk (hh.drop (i+1))) (by rw[HL.o,aP.o];exact Nc bD.o (by rw[<-aP.o,<-bC.o]));have bX:=I (bg.o w2 ai.o 4 i hi);go_wp2_with fail;refine bX.o.mono ?_;rintro e w3 ⟨aF,rfl⟩;rcases aF with⟨rfl,hno⟩|⟨j,rfl,hj,hsome⟩;·have O:=A (L=(2,lk,[],[])) (by rw[bk.o];exact MU lk hno);clear hno;obtain⟨x0,x1,x2⟩:=FK.o w3 bu.o;obtain⟨_,aI,ls⟩:=bm.o w3 ai.o;have b_:=I (Rc 2 fk (HR.o w3 ai.o) (aA.o w3 ai.o) aI ls av.o (en ap.o).2.2.1 (sf ap.o));clear aI ls;go_wp2_with fail;refine b_.o.mono ?_;rintro e w4 ⟨va,rfl,ae,hb4⟩;obtain⟨a3,bG,aG⟩:=a_ ae;have OA:=I (cS ae (show w1.1.size<=w3.1.size by omega));have BF:=I (ai.o.trans (hb4.mono (by omega)));subst aG;clear ae hb4;go_wp2_with fail;go_ret2;exact⟨_,qN (by rw[O.o]),by rw[O.o];exact OA.o,BF.o⟩
 obtain⟨b2,cp,vb,ha2,cm,hcc⟩:=HC.o j hj;obtain⟨e0,e1,e2,eI⟩:=hcc w3 ai.o;obtain⟨ab,cb,bQ,_⟩:=cK eI;obtain⟨nb,bM⟩:∃x,x=(ea hh j).2.2.length:=⟨_,rfl⟩;rw[<-bM]at bQ;subst bQ;clear bM;have aD:=bj w1 λW hb=>(hcc W hb).2.2.2;have Y:=xS hsome;have ar:=I (aQ.o j 4 hj Y);have aJ:=HV.o w3 ai.o;rw[Y]at e0;have bE:=I hsome;obtain⟨fb,bK⟩:∃x,x=(ea hh j).2.1:=⟨_,rfl⟩;obtain⟨lb,bt⟩:∃x,x=(ea hh j).2.2:=⟨_,rfl⟩;rw[<-bK]at e1 ar;rw[<-bt]at aD ar;have aN:=I bt;cases ha2;clear hcc eI Y hsome bK bt;obtain⟨W3,hW3⟩:=aj (w3.alloc (ah #[Z J 4,Z J fb,(U ab nb cb)] 65));have bo:af w3.1.size w3 W3:=by rw[hW3];exact(ax _ _).alloc (aw _) _
 have aK:=I (ai.o.trans (bo.mono (by omega)));have bv:=I (bu.o.trans (bo.mono (by omega)));have FB:=A (∀W,af W3.1.size W3 W->dc W w3.1.size 4 fb (U ab nb cb)) (λW hb=>(show dc W3 w3.1.size 4 fb (U ab nb cb)by rw[hW3];exact dc.new w3 4 fb (U ab nb cb)).below hb (by rw[hW3];simp));have cu:W3.1.size=w3.1.size+1:=by rw[hW3];simp
 have cf:=I hW3;clear hW3 bo;go_upto_region 12 with fail;rw[<-cf.o];clear e0 e1 e2 aJ;obtain⟨x0,x1,x2⟩:=FK.o W3 bv.o;obtain⟨z0,z1,z2⟩:=FB.o W3 (ax _ _);have bb:=I (PZ 2 fk 4 fb (HR.o W3 aK.o) (aA.o W3 aK.o) (aD.o W3 aK.o) av.o (en ap.o).2.2.1 (en ar.o).2.2.1 (sf ap.o) (zh ar.o));obtain⟨ba,bp⟩:∃x,x=d_ s.c lk lb:=⟨_,rfl⟩;rw[<-bp]at bb;have bc:=I bp;clear bp;go_wp2_with fail;refine aH bb.o λw4 hb4=>?_;have s4:=hb4.size;have ag:=I (aK.o.trans (hb4.mono (by omega)));have bw:=I (bv.o.trans (hb4.mono (by omega)));have bz:=I hb4;clear hb4 x0 x1 x2 z0 z1 z2 bb;cases ba;·have O:=A (L=(0,lk,lb,[])) (by rw[bk.o,aN.o];exact MT lk bE.o (by rw[<-aN.o,<-bc.o]));go_wp2_with fail;go_ret2;exact⟨_,qN (by rw[O.o]),by rw[O.o];rfl,ag.o⟩
 have bl:=A (L=ln s.c lk lb (hh.drop (j+1))) (by rw[bk.o,aN.o];exact MV lk bE.o (by rw[<-aN.o,<-bc.o]));have bY:=I (bg.o w4 ag.o 6 j hj);go_wp2_with fail;refine bY.o.mono ?_;rintro e w5 ⟨aF,rfl⟩;rcases aF with⟨rfl,hno⟩|⟨l,rfl,hl,hsome⟩;·have O:=A (L=(3,lk,lb,[])) (by rw[bl.o];exact MY lk lb hno);clear hno;obtain⟨x0,x1,x2⟩:=FK.o w5 bw.o;obtain⟨z0,z1,z2⟩:=FB.o w5 bz.o;obtain⟨li,_,_⟩:=bm.o w5 ag.o;have bZ:=I (QL 2 fk 4 fb (HR.o w5 ag.o) (aA.o w5 ag.o) (aD.o w5 ag.o) li av.o (en ar.o).2.2.1 (sf ap.o));clear li;go_wp2_with fail;refine bZ.o.mono ?_;rintro e w6 ⟨va,rfl,ae,am⟩;obtain⟨a3,bG,aG⟩:=a_ ae;have OA:=I (cS ae (show w1.1.size<=w5.1.size by omega));have BF:=I (ag.o.trans (am.mono (by omega)));subst aG;clear ae am;go_wp2_with fail;go_ret2;exact⟨_,qN (by rw[O.o]),by rw[O.o];exact OA.o,BF.o⟩
 obtain⟨b3,cr,vq,cj,cn,hcc⟩:=HC.o l hl;obtain⟨e0,e1,e2,eI⟩:=hcc w5 ag.o;obtain⟨aS,cq,bS,_⟩:=cK eI;obtain⟨aU,bO⟩:∃x,x=(ea hh l).2.2.length:=⟨_,rfl⟩;rw[<-bO]at bS;subst bS;clear bO;have aZ:=bj w1 λW hb=>(hcc W hb).2.2.2;have Y:=xS hsome;have aR:=I (aQ.o l 6 hl Y);have aJ:=HV.o w5 ag.o;rw[Y]at e0;have bF:=I hsome;obtain⟨fa,bJ⟩:∃x,x=(ea hh l).2.1:=⟨_,rfl⟩;obtain⟨la,bq⟩:∃x,x=(ea hh l).2.2:=⟨_,rfl⟩;rw[<-bJ]at e1 aR;rw[<-bq]at aZ aR;have aM:=I bq;cases cj;clear hcc eI Y hsome bJ bq;obtain⟨W5,aB⟩:=aj (w5.alloc (ah #[Z J 6,Z J fa,(U aS aU cq)] 65));have aT:af w5.1.size w5 W5:=by rw[aB];exact(ax _ _).alloc (aw _) _
 have aL:=I (ag.o.trans (aT.mono (by omega)));have bT:=I (bw.o.trans (aT.mono (by omega)));have bA:=I (bz.o.trans (aT.mono (by omega)));have FA:=A (∀W,af W5.1.size W5 W->dc W w5.1.size 6 fa (U aS aU cq)) (λW hb=>(show dc W5 w5.1.size 6 fa (U aS aU cq)by rw[aB];exact dc.new w5 6 fa (U aS aU cq)).below hb (by rw[aB];simp));have cw:W5.1.size=w5.1.size+1:=by rw[aB];simp
 have cg:=I aB;clear aB aT;go_upto_region 19 with fail;rw[<-cg.o];clear e0 e1 e2 aJ;obtain⟨z0,z1,z2⟩:=FB.o W5 bA.o;obtain⟨u0,u1,u2⟩:=FA.o W5 (ax _ _);have aW:=I (PY 4 fb 6 fa (HR.o W5 aL.o) (aD.o W5 aL.o) (aZ.o W5 aL.o) av.o (en ar.o).2.2.1 (en aR.o).2.2.1);obtain⟨aa,bn⟩:∃x,x=gZ s.c lb la:=⟨_,rfl⟩;rw[<-bn]at aW;have bB:=I bn;clear bn;go_wp2_with fail;refine aH aW.o λw6 am=>?_;have s6:=am.size;have au:=I (aL.o.trans (am.mono (by omega)));have bU:=I (bT.o.trans (am.mono (by omega)));have bV:=I (bA.o.trans (am.mono (by omega)));have bW:=I am;clear am z0 z1 z2 u0 u1 u2 aW;cases aa;·have O:=A (L=(0,lk,lb,la)) (by rw[bl.o,aM.o];exact MX lk lb bF.o (by rw[<-aM.o,<-bB.o]));go_wp2_with fail;go_ret2;exact⟨_,qN (by rw[O.o]),by rw[O.o];rfl,au.o⟩
 have O:=A (L=(4,lk,lb,la)) (by rw[bl.o,aM.o];exact MZ lk lb bF.o (by rw[<-aM.o,<-bB.o]));obtain⟨x0,x1,x2⟩:=FK.o w6 bU.o;obtain⟨z0,z1,z2⟩:=FB.o w6 bV.o;obtain⟨u0,u1,u2⟩:=FA.o w6 bW.o;obtain⟨_,aI,ls⟩:=bm.o w6 au.o;have cd:=I (Re 2 fk 4 fb 6 fa (HR.o w6 au.o) (aA.o w6 au.o) (aD.o w6 au.o) (aZ.o w6 au.o) aI ls av.o (en ar.o).2.2.1 (en aR.o).2.2.1 (sf ap.o) (zh ar.o) bc.o.symm);clear aI ls;go_wp2_with fail;refine cd.o.mono ?_;rintro e w7 ⟨va,rfl,ae,bH⟩;obtain⟨a3,bG,aG⟩:=a_ ae;have OA:=I (cS ae (show w1.1.size<=w6.1.size by omega));have BF:=I (au.o.trans (bH.mono (by omega)));subst aG;clear ae bH;go_wp2_with fail;go_ret2;exact⟨_,qN (by rw[O.o]),by rw[O.o];exact OA.o,BF.o⟩
end
section
open Go.RowKit
def jA:List aO.Fr->List ag->List ag
 |f::h,v::vs=>Z J f.1::Z J f.2.1::v::jA h vs
 |_,_=>[]
theorem Cn (h vs)(hl:h.length=vs.length)(f v):jA (h++[f]) (vs++[v])=jA h vs++[Z J f.1,Z J f.2.1,v]:=by
 induction h generalizing vs with
 |nil=>cases vs with
  |nil=>rfl
  |cons _ _=>simp at hl
 |cons g h ih=>cases vs with
  |nil=>simp at hl
  |cons u vs=> show _::_::_::jA (h++[f]) (vs++[v])=_::_::_::(jA h vs++_);rw[ih vs (by simpa using hl)]
theorem JT (h vs)(hl:h.length=vs.length)(j)(hj:j<h.length):
  (jA h vs)[j*3]?=E (Z J (ea h j).1)/\(jA h vs)[j*3+1]?=E (Z J (ea h j).2.1)/\(jA h vs)[j*3+2]?=vs[j]? :=by
 induction h generalizing vs j with
 |nil=>simp at hj
 |cons g h ih=>cases vs with
  |nil=>simp at hl
  |cons u vs=>cases j with
   |zero=>exact⟨rfl,rfl,rfl⟩
   |succ j=> have h1:=ih vs (by simpa using hl) j (by simpa using hj);rw[show(j+1)*3=j*3+1+1+1 by omega];exact h1
structure qc (w:ac)(B:Nat)(v:ag)(hh:List aO.Fr)(vs:List ag):Prop where
 len:hh.length=vs.length
 own:w.ownsRow B 65 3 v hh.length (jA hh vs)
 its:∀j u,vs[j]?=E u->aX w u (ea hh j).2.2
theorem qc.Kd{B hh vs}(h:qc w B v hh vs):oH w v hh:=by
 have h0:=h.own;rcases h.own.2 with⟨rfl,hn⟩|⟨g,cap,cur,rfl,_,hb,Y,hcm,_⟩;have hz:hh=[]:=ku hn;subst hz;exact⟨V,0,rfl,aw _,by decide,λj hj=>by simp at hj⟩;refine⟨E ⟨g,0,V⟩,cap,rfl,Y,by unfold maxLen at hcm;omega,λj hj=>?_⟩;obtain⟨f1,f2,f3⟩:=JT hh vs h.len j hj;have O:j<vs.length:=by rw[<-h.len];exact hj
 rw[aQ O]at f3;refine⟨g,0,vs[j],rfl,(h0.lt g rfl).2,?_,?_,?_,h.its j _ (aQ O)⟩;rw[cz];exact(h0.cellAt (j*3) (by omega)).trans f1;rw[cz];exact(h0.cellAt (j*3+1) (by omega)).trans f2;rw[cz];exact(h0.cellAt (j*3+2) (by omega)).trans f3
theorem qI{base e size n xs}(h:w.ownsRow base e size v n xs)(hS:∀x,v.ownBlock=E x->w'.1[x]?=w.1[x]?):w'.ownsRow base e size v n xs:=by obtain⟨h1,h2⟩:=h;refine⟨h1,?_⟩;rcases h2 with h2|⟨g,cap,cur,rfl,h3,h4,h5⟩;exact ae h2;exact Q ⟨g,cap,cur,rfl,h3,by rw[hS g rfl];exact h4,h5⟩
theorem qc.keep{B hh vs}(h:qc w B v hh vs)(hs:w.1.size<=w'.1.size)(h1:∀x,v.ownBlock=E x->w'.1[x]?=w.1[x]?)(h2:∀u∈vs,∀x,u.ownBlock=E x->w'.1[x]?=w.1[x]?):qc w' B v hh vs:=
 ⟨h.len,qI h.own h1,λj u hu=>(h.its j u hu).keep hs (h2 u (cU hu))⟩
theorem bX.keep{zs}(h:bX w v zs)(hs:w.1.size<=w'.1.size)(hb:∀x,v.ownBlock=E x->w'.1[x]?=w.1[x]?):bX w' v zs:=by obtain⟨a,cap,h1,h2,h3,h4,h5⟩:=h;refine⟨a,cap,h1,h2,h3,h4,?_⟩;rcases h5 with h5|⟨b,off,e1,e2,e3⟩;exact ae h5;refine Q ⟨b,off,e1,cG e2 hs,λi hi=>?_⟩;rw[<-e3 i hi];exact ez (w:=w) (hb b (by rw[h1,e1];rfl))
theorem aY.nW{zs}(h:aY w v zs)(hs:w.1.size<=w'.1.size)(hb:∀x,(zs≠[]/\v.ownBlock=E x)->w'.1[x]?=w.1[x]?):aY w' v zs:=by by_cases e:zs=[];obtain⟨a,cap,h1,h2,h3,h4,h5⟩:=h;exact⟨a,cap,h1,h2,h3,h4,ae e⟩;exact h.keep hs (λx hx=>hb x ⟨e,hx⟩)
def jQ (s:RS)(vs:List ag)(x:Nat):Prop:=s.hi.ownBlock=E x\/s.told.ownBlock=E x\/∃u∈vs,u.ownBlock=E x
def mY (b:Nat)(s:RS)(vs:List ag)(x:Nat):Prop:=(x=b\/s.hv.ownBlock=E x)\/jQ s vs x
structure gw (w:ac)(pw b:Nat)(s:RS)(hh:List aO.Fr)(vs:List ag):Prop where
 at_:cA w b s
 good:dr s.c
 vi:aY w s.vi s.c.inp
 vm:aY w s.vm s.c.sm
 vz:aY w s.vs s.c.ss
 low:∀x,((s.c.inp≠[]/\s.vi.ownBlock=E x)\/(s.c.sm≠[]/\s.vm.ownBlock=E x)\/(s.c.ss≠[]/\s.vs.ownBlock=E x))->x<pw
 hi:bX w s.hi (bm 1 s.c.id (fG s.c))
 heard:qc w (pw+1) s.hv hh vs
 told:aX w s.told (gl s.c (aO.lk s.c hh))
 ph:s.ph=(aO.lk s.c hh).1
 ok:∀f∈hh,aq.okF f.1 f.2.1 f.2.2=true
 aS:∀x,mY b s vs x->pw<x/\x<w.1.size
 apart:∀x,jQ s vs x->x≠b/\s.hv.ownBlock≠E x
 lc:s.hv.ownBlock≠E b
theorem gw.keep{pw b hh vs}(h:gw w pw b s hh vs)(hs:w.1.size<=w'.1.size)(hb:∀x,mY b s vs x->w'.1[x]?=w.1[x]?)(hp:∀x,x<pw->w'.1[x]?=w.1[x]?):gw w' pw b s hh vs where
 at_:=h.at_.block (hb b (ae (ae rfl)))
 good:=h.good
 vi:=h.vi.nW hs (λx hx=>hp x (h.low x (ae hx)))
 vm:=h.vm.nW hs (λx hx=>hp x (h.low x (Q (ae hx))))
 vz:=h.vz.nW hs (λx hx=>hp x (h.low x (Q (Q hx))))
 low:=h.low
 hi:=h.hi.keep hs (λx hx=>hb x (Q (ae hx)))
 heard:=h.heard.keep hs (λx hx=>hb x (ae (Q hx))) (λu hu x hx=>hb x (Q (Q (Q ⟨u,hu,hx⟩))))
 told:=h.told.keep hs (λx hx=>hb x (Q (Q (ae hx))))
 ph:=h.ph
 ok:=h.ok
 aS:=λx hx=>⟨(h.aS x hx).1,cG (h.aS x hx).2 hs⟩
 apart:=h.apart
 lc:=h.lc
theorem gw.below{pw b hh vs}(h:gw w pw b s hh vs)(hb:af w.1.size w w'):gw w' pw b s hh vs:=
 h.keep hb.size (λx hx=>hb.block x (h.aS x hx).2) (λx hx=>hb.block x (by have:=h.aS b (ae (ae rfl));omega))
def mJ (s:RS)(v:ag)(p:Int)(t:ag):RS:={s with hv:=v,ph:=p,told:=t}
theorem To{c s f}(h:(fQ c s f).1≠s.1):s.1=1\/s.1=2\/s.1=3:=by by_cases h1:s.1=1;exact ae h1;by_cases h2:s.1=2;exact Q (ae h2);by_cases h3:s.1=3;exact Q (Q h3);exact absurd (by rw[ov c s f (λe=>h1 e.1) (λe=>h2 e.1) (λe=>h3 e.1)]) h
structure tC (w w':ac)(pw b:Nat)(s s':RS)(hh O:List aO.Fr)(vs vs':List ag):Prop where
 ref:gw w' pw b s' O vs'
 cl:s'.c=s.c
 aV:av (λx=>x=b\/s.hv.ownBlock=E x) w w'
 aS:∀x,mY b s' vs' x->mY b s vs x\/w.1.size<=x
 more:O.length<=hh.length+1
 own:∀x,s'.hv.ownBlock=E x->s.hv.ownBlock=E x\/w.1.size<=x
 stat:∀x,jQ s' vs' x->jQ s vs x\/w.1.size<=x
end
section
open Go.ChangeShapes Go.WideShapes Go.ChangeAt Go.RowKit
def jf (b:List Int)(m:Nat):Nat->Int
 |0=>0
 |c+1=>jf b m c+256 ^ c*aW b (m+c)
theorem Dc (b m):jf b m 8=ji b m:=by unfold ji;simp only[jf,Nat.add_zero];omega
theorem vV{b}(hb:cY b)(m c):0<=jf b m c/\jf b m c<256 ^ c:=by
 induction c with
 |zero=>simp[jf]
 |succ c ih=> have h:=dJ hb (m+c);have hp:(0:Int)<256 ^ c:=Int.pow_pos (by omega);unfold jf;have e:(256:Int) ^ (c+1)=256 ^ c*256:=nB _ _;rw[e];have h1:(256:Int) ^ c*aW b (m+c)<=256 ^ c*255:=AK h.2 (uM hp);have h2:0<=(256:Int) ^ c*aW b (m+c):=kT (uM hp) h.1;omega
theorem Oi (x)(h:0<=x)(h':x<18446744073709551616):(BitVec.ofInt 64 x).toNat=x.toNat:=by rw[BitVec.toNat_ofInt];have:x%((2 ^ 64:Nat):Int)=x:=FE h (by simpa using h');rw[this]
theorem Oj{y}(h:0<=y)(h':y<18446744073709551616):(BitVec.ofInt 64 (wrap64 y)).toNat=y.toNat:=by
 rw[BitVec.toNat_ofInt];have:wrap64 y%((2 ^ 64:Nat):Int)=y:=by show wrap64 y%18446744073709551616=y;unfold wrap64;omega
 rw[this]
theorem Ox{i x z}(hx:x<2 ^ i):x ||| (z*2 ^ i)=x+z*2 ^ i:=by have h:=Nat.shiftLeft_add_eq_or_of_lt hx z;rw[Nat.shiftLeft_eq]at h;rw[Nat.or_comm,<-h,FM]
theorem Oy (c)(hc:c<=7){x z}(hx:0<=x)(af:x<256 ^ c)(hz:0<=z)(ac:z<=255):
  bits .or J x (wrap64 (z*2 ^ (8*c)))=wrap64 (x+256 ^ c*z):=by
 have O:(2:Int) ^ (8*c)=256 ^ c:=by rw[Int.pow_mul];rfl
 have n8:(2:Nat) ^ (8*c)=256 ^ c:=by rw[Nat.pow_mul]
 have hp:(0:Int)<256 ^ c:=Int.pow_pos (by omega);have Y:(256:Int) ^ c<=72057594037927936:=by rcases(show c=0\/c=1\/c=2\/c=3\/c=4\/c=5\/c=6\/c=7 by omega)with rfl|rfl|rfl|rfl|rfl|rfl|rfl|rfl<;>decide
 have aa:0<=z*256 ^ c:=kT hz (uM hp);have ae:z*256 ^ c<=255*72057594037927936:=sR ac Y (uM hp) (by omega);unfold bits;show IntKind.i64.wrap ((BitVec.ofInt 64 x ||| BitVec.ofInt 64 (wrap64 (z*2 ^ (8*c)))).toNat:Int)=_;rw[BitVec.toNat_or,O,Oi x hx (by omega),Oj aa (by omega)];have key:x.toNat ||| (z*256 ^ c).toNat=x.toNat+z.toNat*2 ^ (8*c):=by
  have e:(z*256 ^ c).toNat=z.toNat*2 ^ (8*c):=by rw[n8,Int.toNat_mul hz (uM hp),Int.toNat_pow_of_nonneg (by omega)];rfl
  rw[e];refine Ox ?_;have:(x.toNat:Int)<((2 ^ (8*c):Nat):Int):=by rw[n8,FU];show _<(256:Int) ^ c;omega
  omega
 rw[key,kv];congr 1;rw[AB,xq,n8,FU,kS ((256:Int) ^ c)];show(x.toNat:Int)+(z.toNat:Int)*(256:Int) ^ c=_;rw[Int.toNat_of_nonneg hx,Int.toNat_of_nonneg hz]
def oL (b:List Int)(m i:Nat):Int:=if i=8 then gN b m else jf b m i
theorem Ba{b}(hb:cY b)(m c)(hc:c<8):wrap64 (jf b m c+256 ^ c*aW b (m+c))=oL b m (c+1):=by
 have e:jf b m c+256 ^ c*aW b (m+c)=jf b m (c+1):=rfl;rw[e];obtain⟨h0,h1⟩:=vV hb m (c+1);unfold oL;by_cases h7:c=7;·subst h7;rw[au rfl];have O:=Dc b m;rw[show jf b m (7+1)=ji b m from O]at h0 h1 ⊢;unfold gN wrap64;split<;>omega
 rw[ar (by omega)];have Y:(256:Int) ^ (c+1)<=72057594037927936:=by rcases(show c=0\/c=1\/c=2\/c=3\/c=4\/c=5\/c=6 by omega)with rfl|rfl|rfl|rfl|rfl|rfl|rfl<;>decide
 exact eL _ (by omega)
theorem Gx{b}(hb:cY b)(m c)(hc:c<8)(hz:aW b (m+c)=0):jf b m c=oL b m (c+1):=by
 rw[<-Ba hb m c hc,hz,Int.mul_zero,Int.add_zero];obtain⟨h0,h1⟩:=vV hb m c;have O:(256:Int) ^ c<=72057594037927936:=by rcases(show c=0\/c=1\/c=2\/c=3\/c=4\/c=5\/c=6\/c=7 by omega)with rfl|rfl|rfl|rfl|rfl|rfl|rfl|rfl<;>decide
 exact(eL _ (by omega)).symm
theorem sx{zs x}(n:Nat)(h:bX w v zs)(hx:x=(n:Int))(hn:n<=1000000):
  ay prog 231 #[v,Z J x] w λe w'=>e=az (Z J (gN zs n))/\w'=w:=by
 subst hx;obtain⟨a,cap,rfl,l2,l3,hb,hc⟩:=eC h;have O:=I hb;have HC:=I hc;clear hc h hb;obtain⟨L,hL⟩:=aj zs.length;rw[<-hL]at l2 HC ⊢;have HL:=I hL;clear hL;go_enter func231,ntmps231;go_wp2;go_loop [5,6] (λu i=>∃c:Nat,c<=8/\i=Z J (c:Int)/\u=Z J (oL zs n c)) (λ_ i=>(8-aA i).toNat);case atStart=>exact⟨0,by omega,rfl,rfl⟩
 obtain⟨c,af,rfl,rfl⟩:=hrel;by_cases hlt:c<8
 ·have ev:oL zs n c=jf zs n c:=by unfold oL;rw[ar (by omega)]
  rw[ev];clear ev;obtain⟨v0,v1⟩:=vV O.o n c;have ag:(c:Int)<8:=by omega
  by_cases aa:n+c<L
  ·obtain⟨b,off,rfl,hbl,c0⟩:=HC.o (n+c) aa;have BJ:=dJ O.o (n+c);have Y:=I (show bits .or J (jf zs n c) (wrap64 (aW zs (n+c)*2 ^ (8*c)))=oL zs n (c+1)by rw[Oy c (by omega) v0 v1 BJ.1 BJ.2];exact Ba O.o n c hlt);obtain⟨z,hz⟩:=aj (aW zs (n+c));rw[<-hz]at c0 BJ Y;clear hz;have ac:(n:Int)+(c:Int)<(L:Int):=by omega
   have ae:((n:Int)+(c:Int)).toNat=n+c:=by omega
   generalize jf zs n c=u at*;clear v0 v1;go_wp2;go_round;case rel=>exact⟨c+1,by omega,by go_num,by rw[<-Y.o]⟩
   simp[aA];omega
  have Y:=I (Gx O.o n c hlt (by unfold aW;rw[bG,jM (by rw[<-HL.o];omega)];rfl));have ac:¬(n:Int)+(c:Int)<(L:Int):=by omega
  generalize jf zs n c=u at*;clear v0 v1;go_wp2;go_round;case rel=>exact⟨c+1,by omega,by go_num,by rw[<-Y.o]⟩
  simp[aA];omega
 have ec:c=8:=by omega
 subst ec;have HE:=A (oL zs n 8=gN zs n) rfl;go_wp2;go_ret;exact⟨ue HE.o,rfl⟩
end
end Go.Proofs.YtchideljndagjabGreat


