/- Joined -/
import Derived.Test.YtchideljndagjabGreatUAV
import Derived.Test.YtchideljndagjabGreatUAU
set_option linter.unusedVariables false
set_option maxHeartbeats 16000000
set_option maxRecDepth 100000
namespace Go.Proofs.YtchideljndagjabGreat
open aO aB bb eH aZ
open Go.Value renaming int->Z,slice->U,agg->aD
open Go.IntKind renaming i64->J
open Go.Obj renaming cells->ah
open Go.Ending renaming returned->az
open Option renaming none->V,some->E
open Go renaming World->ac,Value->ag,Calls->ay
open Go.RowKit renaming Below->af,intOf->aA
abbrev Gg:=@List.length_set
open Go.Proofs.Tryz
open Go.ChangeShapes Go.WideShapes Go.ChangeAt Go.RowKit
variable {ps:List (Int×Int)}{zs:List Int}{B g:Nat}{H:Nat->RF}{G:bk}{w:ac}
def IR (w:ac)(B g:Nat)(zs:List Int):Prop:=w.ownsRow B 3 1 (U (E ⟨g,0,V⟩) zs.length zs.length) zs.length (zs.map (Value.int J))
theorem IR.cell (h:IR w B g zs)(j)(hj:j<zs.length):w.cell? ⟨g,j,V⟩=E (Z J (zs.getD j 0))/\w.frozen? ⟨g,j,V⟩=false:=by refine⟨?_,World.ownsRow.frozenAt h j⟩;rw[World.ownsRow.cellAt h j (by omega),dC,bG,aQ hj];rfl
theorem IR.set (h:IR w B g zs)(j z):IR (w.setCell ⟨g,j,V⟩ (Z J z)) B g (zs.set j z):=by have:=(World.ownsRow.stored h j (Z J z)).1;rw[<-List.map_set]at this;unfold IR;rw[Gg];exact this
theorem IR.MO{w'}(h:IR w B g zs)(e:w'.heap=w.heap):IR w' B g zs:=by unfold IR World.ownsRow at*;rw[e];exact h
theorem Hn{a b}(h:af B w a)(e:b.heap=a.heap)(e1:b.os=a.os)(e2:b.tape=a.tape)(e3:b.output=a.output):af B w b:=
 ⟨e1.trans h.os,e2.trans h.tape,e3.trans h.output,by rw[e];exact h.size,λk hk=>by rw[e];exact h.block k hk⟩
def tab (n:Nat)(f:Nat->Int):List Int:=(List.range n).map f
theorem pI (n f):(tab n f).length=n:=by simp[tab]
theorem Ff{n f i}(h:i<n):(tab n f).getD i 0=f i:=by unfold tab;rw[bG,dC,oz h];rfl
theorem Fh (n f i y):(tab n f).set i y=tab n (λj=>if j=i then y else f j):=by
 apply xz;intro j;rw[tq];by_cases hj:j<n
 ·have e1:(tab n f)[j]?=E (f j):=by unfold tab;rw[dC,oz hj];rfl
  have e2:(tab n (λj=>if j=i then y else f j))[j]?=E (if j=i then y else f j):=by unfold tab;rw[dC,oz hj];rfl
  rw[e1,e2];by_cases e:i=j;·subst e;rw[au rfl,au rfl,au (by rw[pI];exact hj)]
  rw[ar e,ar (λh=>e h.symm)]
 rw[jM (by rw[pI];omega),jM (by rw[pI];omega),pI];by_cases e:i=j;·rw[au e,ar (by omega)]
 rw[ar e]
theorem TH{n f g}(h:∀j,j<n->f j=g j):tab n f=tab n g:=mj λj hj=>h j (eW.1 hj)
def fA (ps:List (Int×Int))(i s:Nat):List (Int×Int):=(ps.drop i).take (s+1)
theorem EC (ps i s):(fA ps i s).Sublist ps:=(List.take_sublist _ _).trans (List.drop_sublist _ _)
theorem Sc (h:aZ.good ps)(i s):aZ.good (fA ps i s):=
 ⟨λk hk=>by obtain⟨p,hp,rfl⟩:=cq.1 hk;exact h.1 _ (cq.2 ⟨p,(EC ps i s).mem hp,rfl⟩),List.Nodup.sublist ((EC ps i s).map _) h.2⟩
theorem Se (ps i)(hi:i<ps.length):fA ps i 0=[ps.getD i (0,0)]:=by unfold fA;rw[xj hi,bG,aQ hi];rfl
theorem Sd (ps i s)(h:i+(s+1)<ps.length):∃m,fA ps i (s+1)=ps.getD i (0,0)::m++[ps.getD (i+(s+1)) (0,0)]/\fA ps i s=ps.getD i (0,0)::m/\fA ps (i+1) s=m++[ps.getD (i+(s+1)) (0,0)]:=by
 have hi:i<ps.length:=by omega
 have e0:ps.drop i=ps.getD i (0,0)::ps.drop (i+1):=by rw[xj hi,bG,aQ hi];rfl
 have e1:(ps.drop (i+1)).take (s+1)=(ps.drop (i+1)).take s++[ps.getD (i+(s+1)) (0,0)]:=by rw[List.take_add_one,List.getElem?_drop,show i+1+s=i+(s+1)by omega,aQ h,bG,aQ h];rfl
 refine⟨(ps.drop (i+1)).take s,?_,?_,?_⟩;unfold fA;rw[e0,List.take_succ_cons,e1];rfl;·unfold fA;rw[e0,List.take_succ_cons]
 unfold fA;exact e1
theorem yO (ps):Cg (dG ps) (aZ.lam ps):=vo _
theorem narrow (hg:aZ.good ps)(i s)(h:i+(s+1)<ps.length):
  0<dA (ps.getD (i+(s+1)) (0,0)).1 (ps.getD i (0,0)).1/\
  bc (dA (bc (ps.getD (i+(s+1)) (0,0)).1 (dG (fA ps i s))) (bc (ps.getD i (0,0)).1 (dG (fA ps (i+1) s)))) (eH.inv (dA (ps.getD (i+(s+1)) (0,0)).1 (ps.getD i (0,0)).1))=dG (fA ps i (s+1)):=by
 obtain⟨m,e1,e2,e3⟩:=Sd ps i s h;have g1:=Sc hg i (s+1);rw[e1]at g1;have nv:=NQ (ps.getD i (0,0)) (ps.getD (i+(s+1)) (0,0)) m g1;obtain⟨_,sa,na⟩:=Cy (l:=m++[ps.getD (i+(s+1)) (0,0)]) g1;obtain⟨_,sb,nb⟩:=Cx g1;have hne:=na (ps.getD (i+(s+1)) (0,0)) (by simp);rw[<-e1,<-e2,<-e3]at nv;generalize ps.getD i (0,0)=a at*;generalize ps.getD (i+(s+1)) (0,0)=b at*;have c1:=yO (fA ps i s);have c2:=yO (fA ps (i+1) s);have l1:=vS (fA ps i (s+1));have l2:=vR (fA ps i (s+1));have c3:=yO (fA ps i (s+1));generalize dG (fA ps i s)=O at*;generalize dG (fA ps (i+1) s)=J2 at*;generalize dG (fA ps i (s+1))=J at*;have hd:0<dA b.1 a.1:=by unfold aZ.small at*;unfold dA;omega
 refine⟨hd,?_⟩;have aa:=uq b.1 a.1;have hi:=vL (dA b.1 a.1) hd aa;have d1:Cg (dA b.1 a.1) (b.1-a.1):=by unfold dA Cg;omega
 have t1:Cg (dA (bc b.1 O) (bc a.1 J2)) (b.1*O-a.1*J2):=by unfold dA bc Cg;generalize b.1*O=X;generalize a.1*J2=Y;omega
 have t2:Cg (b.1*O-a.1*J2) (dA b.1 a.1*J):=by refine lX (vq (jU (il _) c1) (jU (il _) c2)) ?_;refine lX (rM nv) ?_;exact jU (rM d1) (rM c3)
 have t3:=lX t1 t2;generalize dA (bc b.1 O) (bc a.1 J2)=T at*;generalize dA b.1 a.1=D at*;have t4:Cg (T*eH.inv D) J:=by
  refine lX (jU t3 (il _)) ?_;have e:D*J*eH.inv D=D*eH.inv D*J:=by grind
  rw[e];refine lX (jU (b:=1) (by rw[vp,hi];rfl) (il J)) ?_;rw[uz];exact il _
 unfold bc;unfold Cg at t4;omega
def CP (f:Nat->Int)(n:Nat):Prop:=∀j,j<n->0<=f j/\f j<2305843009213693951
theorem QG{v}(h:lR w v ps)(hb:fc ps=true):
  ay prog 155 #[v] w λe w'=>e=az (.tuple #[Z J (dG ps),Z J 0])/\af w.1.size w w':=by
 obtain⟨i0,hi,hz0,hz1,hz2⟩:=bO Ld;have HP:=I h;obtain⟨ak,n1,n2,ai⟩:=wB hb;obtain⟨a,cap,hv,l2,l3,hc⟩:=ud h;rw[hv]at HP ⊢;have HC:=I hc;have HG:=I ak;have HE:=I ai;have aJ:=I hb;clear hc h ak ai hb hv;generalize hn:ps.length=n at*;have HN:=I hn;clear hn;go_enter func155,ntmps155;go_wp2_with fail;refine aH (QT HP.o) λw1 hb1=>?_;rw[aJ.o];have B1:=I hb1;have z1:=hb1.size;clear hb1;go_wp2_with(at_make;refine uH _ rfl _ _ 33 rfl w.1.size 3 i0 (Z J 0) 1 gW hi hz0 hz1 _ _ _ _ n rfl rfl rfl rfl ?m1 ?m2 ?m3 ?_);case m1=>rw[hz2];omega
 case m2=>unfold maxLen;omega
 case m3=>exact z1
 intro w2 aB am;have hb2:af w1.1.size w1 w2:=(ax _ _).grown am (aw _) (by simp);have hr2:IR w2 w.1.size w1.1.size (tab n (λ_=>0)):=by unfold IR;rw[pI,show tab n (λ_=>0)=List.replicate n 0 by unfold tab;exact List.map_const' .. |>.trans (by simp),List.map_replicate,<-xo];exact aB
 have aM:=I hr2;have aG:=I (B1.o.trans (hb2.mono z1));have ap:w.1.size<=w1.1.size:=z1;generalize aN:w1.1.size=gv at*;clear aN aB am hb2 hr2;go_wp2;go_loopw [7] (λi wr=>∃k:Nat,k<=n/\i=Z J k/\IR wr w.1.size gv (tab n (λj=>if j<k then(ps.getD j (0,0)).2 else 0))/\af w.1.size w wr) (λi _=>n-(aA i).toNat);case atStart=>exact⟨0,by omega,rfl,by rw[show(λj=>if j<0 then(ps.getD j (0,0)).2 else 0)=λ_=>(0:Int)by funext j;rw[ar (by omega)]];exact aM.o,aG.o⟩
 obtain⟨k,hk,rfl,hr,Y⟩:=hrel;have HR:=I hr;have HB:=I Y;by_cases hlt:k<n
 ·obtain⟨b,off,rfl,ae,c0,c1⟩:=HC.o k hlt;rw[<-Y.cell (p:=⟨b,off+k*2+1,V⟩) ae]at c1;have tl:=pI n (λj=>if j<k then(ps.getD j (0,0)).2 else 0);obtain⟨x1,x2⟩:=hr.cell k (by rw[tl];exact hlt);obtain⟨y,hy⟩:=aj ((ps.getD k (0,0)).2);rw[<-hy]at c1;have HY:=I hy;obtain⟨x,hx⟩:=aj ((tab n (λj=>if j<k then(ps.getD j (0,0)).2 else 0)).getD k 0);rw[<-hx]at x1;clear hy c0 hr Y tl hx;go_wp2;go_roundw;case rel=>
   have R:=HR.o.set k y;rw[Fh]at R;refine⟨k+1,by omega,by go_num,?_,HB.o.setCell (p:=⟨gv,k,V⟩) ap _⟩;rw[show tab n (λj=>if j<k+1 then(ps.getD j (0,0)).2 else 0)=tab n (λj=>if j=k then y else if j<k then(ps.getD j (0,0)).2 else 0)from TH λj hj=>by
    by_cases e:j=k;·subst e;rw[au (by omega),au rfl,HY.o]
    rw[ar e];by_cases e2:j<k;·rw[au e2,au (by omega)]
    rw[ar e2,ar (by omega)]];exact R
  simp[aA];omega
 have ek:k=n:=by omega
 subst ek;clear hr Y;go_wp2;go_loopw [8] (λst wr=>∃(s:Nat)(f:Nat->Int),1<=s/\s<=k/\st=Z J s/\IR wr w.1.size gv (tab k f)/\(∀j,j+(s-1)<k->f j=dG (fA ps j (s-1)))/\CP f k/\af w.1.size w wr) (λst _=>k-(aA st).toNat);case atStart=>
  refine⟨1,_,by omega,by omega,rfl,HR.o,λj hj=>?_,λj hj=>?_,HB.o⟩;have aa:j<ps.length:=by rw[HN.o];omega
  rw[au (by omega),show 1-1=0 from rfl,Se ps j aa];have:=HE.o (ps.getD j (0,0)) (by rw[bG,aQ aa];exact cN aa);have c:=ML (ps.getD j (0,0));rw[vp]at c;unfold dG;rw[c];omega;show 0<=(if j<k then(ps.getD j (0,0)).2 else 0)/\(if j<k then(ps.getD j (0,0)).2 else 0)<2305843009213693951;rw[au hj];have aa:j<ps.length:=by rw[HN.o];omega
  exact HE.o (ps.getD j (0,0)) (by rw[bG,aQ aa];exact cN aa)
 clear HR HB;obtain⟨s,f,s1,s2,rfl,hr,hf,he,Y⟩:=hrel;have HR:=I hr;have HF:=I hf;have ac:=I he;have HB:=I Y;clear hr hf he Y;by_cases ba:s<k
 ·go_wp2;go_loopw [9,10,11,12,13] (λi _ _ _ _ wr=>∃(O:Nat)(f:Nat->Int),O+s<=k/\i=Z J O/\IR wr w.1.size gv (tab k f)/\(∀j,j<O->f j=dG (fA ps j s))/\(∀j,O<=j->j+(s-1)<k->f j=dG (fA ps j (s-1)))/\CP f k/\af w.1.size w wr) (λi _ _ _ _ _=>k-(aA i).toNat);case atStart=>exact⟨0,f,by omega,rfl,HR.o,λj hj=>by omega,λj _ hj=>HF.o j hj,ac.o,HB.o⟩
  clear HR HF ac HB;obtain⟨O,f,i1,rfl,hr,ah,hf2,he,Y⟩:=hrel;have HR:=I hr;have aK:=I ah;have aL:=I hf2;have ac:=I he;have HB:=I Y;by_cases aO:O+s<k
  ·obtain⟨b,off,rfl,ae,c0,_⟩:=HC.o O (by omega);obtain⟨b',aR,eb,_,c2,_⟩:=HC.o (O+s) aO;obtain⟨rfl,rfl⟩:b=b'/\off=aR:=by simpa using eb
   rw[<-Y.cell (p:=⟨b,off+O*2,V⟩) ae]at c0;rw[<-Y.cell (p:=⟨b,off+(O+s)*2,V⟩) ae]at c2;have tl:=pI k f;obtain⟨x1,bj⟩:=hr.cell O (by rw[tl];omega);obtain⟨x2,_⟩:=hr.cell (O+1) (by rw[tl];omega);rw[Ff (by omega)]at x1 x2;have y1:=he O (by omega);have y2:=he (O+1) (by omega);have aq:ps.getD O (0,0)∈ps:=by rw[bG,aQ (by rw[HN.o];omega)];exact cN _
   have av:ps.getD (O+s) (0,0)∈ps:=by rw[bG,aQ (by rw[HN.o];omega)];exact cN _
   have aD:=HG.o.1 _ (cq.2 ⟨_,aq,rfl⟩);have aF:=HG.o.1 _ (cq.2 ⟨_,av,rfl⟩);have nr:=narrow HG.o O (s-1) (by rw[HN.o];omega);rw[show s-1+1=s by omega]at nr;have g1:=hf2 O (aw _) (by omega);have g2:=hf2 (O+1) (by omega) (by omega);rw[<-g1,<-g2]at nr;unfold aZ.small at aD aF;generalize (ps.getD O (0,0)).1=Xa at*;generalize (ps.getD (O+s) (0,0)).1=Xb at*;have GU:=A (∀j,j<O->f j=dG (fA ps j s)) ah;obtain⟨u,hu⟩:=aj (f O);obtain⟨v,hv⟩:=aj (f (O+1));rw[<-hu]at x1 y1 nr;rw[<-hv]at x2 y2 nr;obtain⟨aP,aC⟩:=nr;have NR:=I aC;obtain⟨bf,bg⟩:=aD;obtain⟨bh,bi⟩:=aF;obtain⟨aS,aT⟩:=y1;obtain⟨aU,aV⟩:=y2;have sb:=uq Xb Xa;clear hr ah hf2 he Y tl eb aq av aC g1 g2 hu hv;have P1:∀W,ay prog 146 #[Z J Xb,Z J u] W λe w'=>e=az (Z J (bc Xb u))/\w'=W:=λW=>nk (by omega) (by omega) aS aT;have P2:∀W,ay prog 146 #[Z J Xa,Z J v] W λe w'=>e=az (Z J (bc Xa v))/\w'=W:=λW=>nk (by omega) (by omega) aU aV;have P3:∀W,ay prog 215 #[Z J Xb,Z J Xa] W λe w'=>e=az (Z J (dA Xb Xa))/\w'=W:=λW=>wF (by omega) (by omega) (by omega) (by omega);have Q1:=I P1;have Q2:=I P2;have Q3:=I P3;clear P1 P2 P3;have aX:(O:Int)<(k:Int):=by omega
   have aY:(O:Int)+1<(k:Int):=by omega
   have aW:(0:Int)<=(O:Int):=by omega
   have a_:(0:Int)<=(O:Int)+1:=by omega
   have hwr:IntKind.i64.wrap ((O:Int)+1)=(O:Int)+1:=by rw[kv,eL _ (by omega)]
   have bb:((O:Int)+1).toNat=O+1:=by omega
   go_wp2_with fail;go_quiet ((go_at_call 146;exact pU (Q1.o _)));go_wp2_with fail;go_quiet ((go_at_call 146;exact(Q2.o _).mono (λe w' h=>⟨h.1,_,h.2⟩)));go_wp2_with fail;go_quiet ((go_at_call 215;exact(Q3.o _).mono (λe w' h=>⟨h.1,_,h.2⟩)));go_wp2_with fail;refine aI (QD aP sb) ?_;go_wp2_with fail;refine aI (wF (iO) (iN) (iO) (iN)) ?_;go_wp2_with fail;refine aI (nk (zX _ _) (uq _ _) (yI _) (yH _)) ?_;obtain⟨y,hy⟩:=aj (bc (dA (bc Xb u) (bc Xa v)) (eH.inv (dA Xb Xa)));rw[<-hy];have HY:=I hy;clear hy;go_wp2;go_roundw;case rel=>
    have R:=HR.o.set O y;rw[Fh]at R;have ey:y=dG (fA ps O s):=by rw[HY.o];exact NR.o
    refine⟨O+1,_,by omega,by go_num,R.MO rfl,λj hj=>?_,λj hj hjk=>?_,λj hj=>?_,Hn (HB.o.setCell (p:=⟨gv,O,V⟩) ap _) rfl rfl rfl rfl⟩
    ·show(if j=O then y else f j)=_;by_cases e:j=O;·rw[au e,e,ey]
     rw[ar e];exact GU.o j (by omega)
    show(if j=O then y else f j)=_;rw[ar (by omega)];exact aL.o j (by omega) hjk;show 0<=(if j=O then y else f j)/\(if j=O then y else f j)<2305843009213693951;by_cases e:j=O;rw[au e,HY.o];exact⟨iO,iN⟩;rw[ar e];exact ac.o j hj
   simp[aA];omega
  clear hr ah hf2 he Y;go_wp2;go_roundw;case rel=>exact⟨s+1,f,by omega,by omega,by go_num,HR.o,λj hj=>by rw[xm];exact aK.o j (by omega),ac.o,HB.o⟩
  simp[aA];omega
 have es:s=k:=by omega
 subst es;have tl:=pI s f;obtain⟨x1,_⟩:=HR.o.cell 0 (by rw[tl];omega);rw[Ff (by omega)]at x1;have H:=I (show f 0=dG ps by rw[HF.o 0 (by omega)];unfold fA;rw[xv,show s-1+1=s by omega,kt (by rw[HN.o];exact aw _)]);generalize f 0=z at*;clear tl;go_wp2_with fail;go_ret2;exact⟨cg (λx=>Ending.returned (.tuple #[Z J x,Z J 0])) H.o,HB.o⟩
theorem eX.view (h:eX w H G){r u}(hr:r<4)(hu:u<13):(aB.mem (G r) u=false/\H (r*13+u)=RF.z)\/(aB.mem (G r) u=true/\∃a n c,H (r*13+u)=(2*(r:Int)+1,(u:Int),U a n c)/\aX w (U a n c) (aB.its (G r) u)):=by
 cases e:G r u with
 |none=>exact .inl ⟨by unfold aB.mem;rw[e];rfl,(h r u hr hu).1 e⟩
 |some l=> obtain⟨x,e1,e2⟩:=(h r u hr hu).2 l e;obtain⟨a,n,c,rfl⟩:=vP e2;exact .inr ⟨by unfold aB.mem;rw[e];rfl,a,n,c,e1,by rw[tU e];exact e2⟩
theorem qj{b T}(h:bp w b T 156 (cR H))(t o)(ho:o=t*3)(ht:t<52):w.cell? ⟨b,o,V⟩=E (Z J (H t).1)/\w.cell? ⟨b,o+1,V⟩=E (Z J (H t).2.1)/\w.cell? ⟨b,o+2,V⟩=E (H t).2.2:=by subst ho;exact⟨by rw[h.cell _ (by omega),vh],by rw[h.cell _ (by omega),Ii],by rw[h.cell _ (by omega),Ij]⟩
theorem QZ (v)(hH:eX w H G)(hz:∀r,G r 0=V)(hp:fc (jm G v)=true):
  ay prog 283 #[aD (cr H).toArray,Z J (v:Int)] w λe w'=>e=az (Z J (gp G v))/\af w.1.size w w':=by
 obtain⟨i1,aI,aK,aM,aN⟩:=bO CM;have aF:=I (λu hu=>hH.view (r:=3) (by omega) (u:=u) hu);have HJ:=I (λ(w1:ac) (x:ag) (hx:lR w1 x (jm G v))=>QG hx hp);obtain⟨g1,g2,g3,g4⟩:=wB hp;have aC:=I (λ(w1:ac) (x:ag) (hx:w1.ownsRow w.1.size 139 2 x (jm G v).length (eR ((jm G v).map oq)))=>DN hx (by omega) (λp aq=>by have q1:=g1.1 p.1 (cq.2 ⟨p,aq,rfl⟩);have q2:=g4 p aq;unfold aZ.small at q1;unfold bq;exact⟨by omega,by omega⟩));have H0:=A (iB G v 1=[]) (by rw[Fl];unfold aB.mem;rw[hz 3];rfl);have au:=I (λ(w1:ac) (u:Nat) (x:ag) (hb:af w.1.size w w1) (hx:aX w x (aB.its (G 3) u))=>qP 7 (u:Int) (v:Int) (hx.below hb));clear hH hz hp g1 g2 g3 g4;have HF:=I (ur w H);have BB:=A (af w.1.size w (w.alloc (ah (cr H).toArray 238))) ((ax _ _).alloc (aw _) _);obtain⟨X,hX⟩:=aj (cr H);rw[<-hX]at HF BB ⊢;clear hX;obtain⟨W,hW⟩:=aj (w.alloc (ah X.toArray 238));rw[<-hW]at HF BB;have aJ:=HF.o.lt;have HW:=I hW;clear hW;go_enter func283,ntmps283;go_wp2_with fail;rw[<-HW.o];go_loopw [5,6] (λro i wr=>∃k:Nat,k<=12/\i=Z J ((k:Int)+1)/\wr.ownsRow W.1.size 139 2 ro (iB G v (k+1)).length (eR ((iB G v (k+1)).map oq))/\af W.1.size W wr) (λ_ i _=>13-(aA i).toNat);case atStart=>exact⟨0,by omega,rfl,by rw[H0.o];exact dp _ _ _ _,ax _ _⟩
 obtain⟨k,hk,rfl,hown,Y⟩:=hrel;have HO:=I hown;have HB:=I Y;have ak:=I (BB.o.trans (Y.mono BB.o.size));have hsz:=Y.size;obtain⟨a3,c3,hv3⟩:=a_ hown;subst hv3;have aP:(iB G v (k+1)).length<=13:=by unfold iB;rw[dI];exact fJ (gC _ _) (by omega)
 have am:=I (Fl G v (k+1));by_cases hlt:k<12
 ·have aQ:(k:Int)+1<=12:=by omega
  have aO:(k:Int)+1<13:=by omega
  obtain⟨ae,O,ai⟩:=qj (HF.o.block (Y.block _ aJ)) (3*13+(k+1)) (117+(k+1)*3) (by omega) (by omega);clear hown Y;rcases aF.o (k+1) (by omega)with⟨hm,hh⟩|⟨hm,fa,fn,aG,hh,hit⟩
  ·rw[hh]at ae O ai;have aa:=A (iB G v (k+1+1)=iB G v (k+1)) (by rw[am.o,hm];simp);change wr.cell? _=E (Z J 0)at ae;clear hh hm O ai;go_wp2;go_roundw;case rel=>exact⟨k+1,by omega,by go_num,by rw[aa.o];exact HO.o,HB.o⟩
   simp[aA];omega
  rw[hh]at ae O ai;have aa:=A (iB G v (k+1+1)=iB G v (k+1)++[(((k+1:Nat):Int),(aL (aB.its (G 3) (k+1)) v).2.2.1)]) (by rw[am.o,hm];simp);change wr.cell? _=E (Z J 7)at ae;change wr.cell? _=E (Z J ((k+1:Nat):Int))at O;change wr.cell? _=E (U fa fn aG)at ai;have IM:=I (au.o wr (k+1) _ ak.o hit);clear hh hm hit;obtain⟨y0,y1,y2,y3,hy⟩:∃y0 y1 y2 y3,aL (aB.its (G 3) (k+1)) (v:Int)=(y0,y1,y2,y3):=⟨_,_,_,_,rfl⟩;rw[hy]at IM aa;clear hy;obtain⟨q,hq⟩:∃q:Int,q=((k+1:Nat):Int):=⟨_,rfl⟩;rw[<-hq]at O IM aa;have ar:(k:Int)+1=q:=by omega
  have HQ:=I ar;clear hq ar;go_wp2_with fail;refine aH IM.o λw1 hb1=>?_;have s1:=hb1.size;have B1:=I (HB.o.trans (hb1.mono HB.o.size));have O1:=I (bf (S:=λ_=>False) HO.o (av.bz hb1) (λ_ _ h=>h));clear hb1 ae O ai;go_wp2_with(at_builtin;refine eF _ rfl _ _ 137 rfl W.1.size 139 i1 (aD #[Z J 0,Z J 0]) 2 16 underlying137 aI aK aM aN rfl (by decide) _ _ _ rfl ((O1.o.alloc _).alloc _) ⟨w1.1.size+1,0,V⟩ 1 1 [Z J ((k:Int)+1),Z J y2] rfl rfl ?c1 ?c2 ?c3 ?c4 ?c5 ?_);case c1=>have:=ya (w1.alloc (ah #[Z J y0,Z J y1,Z J y2,Z J y3] 147)) (Z J ((k:Int)+1)) (Z J y2) 139;simpa using this
  case c2=>intro u hu;simp at hu;rcases hu with rfl|rfl<;>rfl
  case c3=>unfold maxLen;omega
  case c4=>omega
  case c5=>simp;omega
  intro v' w4 hown' ap _;have hb4:=((B1.o.alloc (by omega) _).alloc (by simp;omega) _).grown ap (by simp;omega) (λy hy=>(O1.o.lt y hy).1);have B4:=I hb4;have O4:=I (show w4.ownsRow W.1.size 139 2 v' (iB G v (k+1+1)).length (eR ((iB G v (k+1+1)).map oq))by rw[aa.o,cF,vD,cy,<-HQ.o];exact hown');clear hown' ap hb4;go_wp2;go_roundw;case rel=>exact⟨k+1,by omega,by go_num,O4.o,B4.o⟩
  simp[aA];omega
 have ek:k=12:=by omega
 subst ek;clear hown Y;have JJ:=I (HJ.o wr _ (aC.o wr _ (cS HO.o BB.o.size)));go_wp2_with fail;refine aH JJ.o λw1 hb1=>?_;have B1:=I (ak.o.trans (hb1.mono ak.o.size));clear hb1;go_wp2;go_ret;exact⟨rfl,B1.o⟩
theorem Sh{C}(hg:eP C G){r}(hr:r<3)(u):∃(L:Nat->List aq.It)(P:Nat->Bool)(I:Nat->aq.It),lA G r u=L 13/\L 1=[]/\(∀n,(L n).length<=n)/\(∀n,L (n+1)=L n++if P n=true then[I n]else[])/\(∀v,P v=(aB.mem (G r) v&&decide (r=1->v≠u)))/\(∀v (j a0 a1 a2 a3:Int),aB.mem (G r) v=true->aL (aB.its (G r) v) j=(a0,a1,a2,a3)->(r=0/\j=v\/r=1/\j=u)->I v=((v:Int),a1,a2,a3))/\(r=2->∀v,I v=((v:Int),0,0,0)):=by
 have hl:∀(P:Nat->Bool)(I:Nat->aq.It)(n:Nat),((bV P n).map I).length<=n:=λP I n=>by rw[dI];exact gC _ _
 have h0:∀(P:Nat->Bool)(I:Nat->aq.It),P 0=false->(bV P 1).map I=[]:=λP I h=>by rw[iM,h];rfl
 rcases(show r=0\/r=1\/r=2 by omega)with rfl|rfl|rfl
 ·exact⟨pg G,aB.mem (G 0),tP G,rfl,h0 _ _ (hg.zero 0),hl _ _,MJ G,λv=>by simp,λv j a0 a1 a2 a3 hv hy hj=>by
   obtain rfl:j=v:=by omega
   have h3:=(yB hg hv).2.2.2;rw[hy]at h3;unfold tP;rw[hy];obtain rfl:a3=0:=h3;rfl,λe=>by omega⟩
 ·exact⟨oT G u,aB.without (aB.mem (G 1)) u,vg G u,rfl,h0 _ _ (by unfold aB.without;rw[hg.zero 1];rfl),hl _ _,HF G u,λv=>by simp[aB.without],λv j a0 a1 a2 a3 hv hy hj=>by
   obtain rfl:j=u:=by omega
   unfold vg;rw[hy],λe=>by omega⟩
 exact⟨oP G,aB.mem (G 2),u',rfl,h0 _ _ (hg.zero 2),hl _ _,G' G,λv=>by simp,λv j a0 a1 a2 a3 hv hy hj=>by omega,λ_ _=>rfl⟩
theorem vn{b T x0 x1 x2}(h:w.1[b]?=E (ah #[x0,x1,x2] T (0,0))):(w.cell? ⟨b,0,V⟩=E x0/\w.cell? ⟨b,1,V⟩=E x1/\w.cell? ⟨b,2,V⟩=E x2)/\∀i,w.frozen? ⟨b,i,V⟩=false:=
 ⟨⟨by rw[bg w b 0 _ _ (0,0) h];rfl,by rw[bg w b 1 _ _ (0,0) h];rfl,by rw[bg w b 2 _ _ (0,0) h];rfl⟩,λi=>eh w b i _ _ h⟩
theorem QF{k fr v l u}(hl:aX w v l):ay prog 274 #[aD #[Z J k,Z J fr,v],Z J u] w λe w'=>∃O Y y2 y3,aL l u=(O,Y,y2,y3)/\e=az (aD #[Z J O,Z J Y,Z J y2,Z J y3])/\af w.1.size w w':=
 (qP k fr u hl).mono λ_ _ h=>⟨_,_,_,_,rfl,h⟩
theorem Q_{C}(r u:Nat)(hr:r<3)(hH:eX w H G)(hg:eP C G):
  ay prog 243 #[aD (cr H).toArray,Z J (r:Int),Z J (u:Int)] w λe w'=>∃va,e=az (aD #[Z J (2*(r:Int)+2),Z J 0,va])/\w'.ownsRow w.1.size 147 4 va (lA G r u).length (bD (lA G r u))/\af w.1.size w w':=by
 obtain⟨i1,bg,bi,bj,bk⟩:=bO lj;have aW:=I (λx hx=>hH.view (r:=r) (by omega) (u:=x) hx);obtain⟨L,P,aF,hL,H0,aC,HS,hP,hI,aN⟩:=Sh hg hr u;rw[hL];replace H0:=I H0;replace aC:=I aC;replace HS:=I HS;have HP:=I hP;have HI:=I hI;have aU:=I aN;obtain⟨ri,aQ⟩:∃a,a=(r:Int):=⟨_,rfl⟩;obtain⟨rk,aR⟩:∃a,a=2*(r:Int)+1:=⟨_,rfl⟩;obtain⟨kd,aP⟩:∃a,a=2*(r:Int)+2:=⟨_,rfl⟩;rw[<-aP,<-aQ];obtain⟨X,hX⟩:=aj (cr H);obtain⟨W0,hW0⟩:=aj (((w.alloc (ah X.toArray 238)).alloc (ah #[Z J 0,Z J 0,U V 0 0] 65)).alloc (ah #[Z J kd,Z J 0,U V 0 0] 65));have z0:W0.1.size=w.1.size+3:=by rw[hW0];simp
 have FT:=I (show bp W0 w.1.size 238 156 (cR H)by rw[hW0,hX];have k:af (w.1.size+1) (w.alloc (ah (cr H).toArray 238)) (((w.alloc (ah (cr H).toArray 238)).alloc (ah #[Z J 0,Z J 0,U V 0 0] 65)).alloc (ah #[Z J kd,Z J 0,U V 0 0] 65)):=((ax _ _).alloc (by simp) _).alloc (by simp) _;exact(ur w H).block (k.block _ (by omega)));have FR:=I (show W0.1[w.1.size+1]?=E (ah #[Z J 0,Z J 0,U V 0 0] 65 (0,0))by rw[hW0];simpa only[World.size_alloc]using my (w.alloc (ah X.toArray 238)) _ _);have FF:=I (show W0.1[w.1.size+2]?=E (ah #[Z J kd,Z J 0,U V 0 0] 65 (0,0))by rw[hW0];simpa only[World.size_alloc]using jN (w.alloc (ah X.toArray 238)) _ _);have B0:=A (af w.1.size w W0) (by rw[hW0];exact(((ax _ _).alloc (aw _) _).alloc (by simp) _).alloc (by simp;omega) _);rw[<-hX];have Z0:=I z0;clear z0 hX hH hg hL hP hI aN;rcases(show r=0/\ri=0/\rk=1/\kd=2\/r=1/\ri=1/\rk=3/\kd=4\/r=2/\ri=2/\rk=5/\kd=6 by omega)with⟨aH,rfl,rfl,hk⟩|⟨aH,rfl,rfl,hk⟩|⟨aH,rfl,rfl,hk⟩
 all_goals
  have aV:=I aR;rw[hk]at hW0;have aX:=I hW0;clear aQ aR aP hW0 hk;go_enter func243,ntmps243;go_wp2_with fail;rw[<-aX.o];go_loopw [8] (λi wr=>∃(k:Nat)(ro:ag),k<=12/\i=Z J ((k:Int)+1)/\wr.1[w.1.size+2]?=E (ah #[Z J kd,Z J 0,ro] 65 (0,0))/\wr.1[w.1.size+1]?=E (ah #[Z J 0,Z J 0,U V 0 0] 65 (0,0))/\bp wr w.1.size 238 156 (cR H)/\wr.ownsRow W0.1.size 147 4 ro (L (k+1)).length (bD (L (k+1)))/\af w.1.size w wr/\W0.1.size<=wr.1.size) (λi _=>13-(aA i).toNat);case atStart=>exact⟨0,_,by omega,rfl,FF.o,FR.o,FT.o,by rw[H0.o];exact dp _ _ _ _,B0.o,aw _⟩
  obtain⟨k,ro,hk,rfl,am,ak,ac,HO,HB,hsz⟩:=hrel;obtain⟨a3,c3,rfl⟩:=a_ HO;replace am:=I am;replace ak:=I ak;replace HO:=I HO;replace HB:=I HB;have br:=aC.o (k+1);have O:=I (HS.o (k+1));rw[HP.o (k+1)]at O;by_cases hlt:k<12
  ·have bt:(k:Int)+1<=12:=by omega
   have bq:(k:Int)+1<13:=by omega
   obtain⟨aa,ae,ai⟩:=qj ac (r*13+(k+1)) (39*r+(k+1)*3) (by omega) (by omega)
   have aI:=ac.lt;replace ac:=I ac;rcases aW.o (k+1) (by omega)with⟨hm,hh⟩|⟨hm,fa,fn,fc,hh,hit⟩
   ·rw[hh]at aa;replace O:=A (L (k+1+1)=L (k+1)) (by rw[O.o,hm];simp);change wr.cell? _=E (Z J 0)at aa;rw[aH]at aa;simp only[Nat.reduceMul,Nat.zero_add]at aa;clear hh hm ae ai;go_wp2;go_roundw;case rel=>exact⟨k+1,_,by omega,by go_num,am.o,ak.o,ac.o,by rw[O.o];exact HO.o,HB.o,hsz⟩
    simp[aA];omega
   rw[hh]at aa ae ai;change wr.cell? _=E (Z J (2*(r:Int)+1))at aa;change wr.cell? _=E (Z J ((k+1:Nat):Int))at ae;change wr.cell? _=E (U fa fn fc)at ai;rw[<-aV.o]at aa;rw[aH]at aa ae ai;simp only[Nat.reduceMul,Nat.zero_add]at aa ae ai;obtain⟨W1,hW1⟩:=aj (wr.alloc (ah #[Z J 0,Z J 0,Z J 0,Z J 0] 147));have bA:af wr.1.size wr W1:=by rw[hW1];exact(ax _ _).alloc (aw _) _
   have RY:=A (W1.1[wr.1.size]?=E (ah #[Z J 0,Z J 0,Z J 0,Z J 0] 147 (0,0))) (by rw[hW1];exact bo wr _);have bm:wr.1.size<W1.1.size:=by rw[hW1];simp
   have BA:=I bA;have aY:=I hW1;have bh:=I (hit.below (HB.o.trans (bA.mono HB.o.size)));have d0:=(bA.cell (by exact aI)).trans aa;have d1:=(bA.cell (by exact aI)).trans ae;have d2:=(bA.cell (by exact aI)).trans ai;have HM:=I hm;obtain⟨q,hq⟩:∃q:Int,q=((k+1:Nat):Int):=⟨_,rfl⟩;rw[<-hq]at d1;have HQ:=I hq;clear hh hW1 bA hit hm hq;go_upto_region 7 with fail;rw[<-aY.o];clear aa ae ai
   first
   |(go_upto_region 12 with fail;obtain⟨W3,hW3⟩:∃a,a=W1:=⟨_,rfl⟩;have K3:=A (af wr.1.size wr W3/\∃y0 Y y2 y3,W3.1[wr.1.size]?=E (ah #[Z J y0,Z J Y,Z J y2,Z J y3] 147 (0,0))/\aF (k+1)=(((k+1:Nat):Int),Y,y2,y3)) (by rw[hW3];exact⟨BA.o,_,_,_,_,RY.o,aU.o aH _⟩);rw[<-hW3];clear hW3)
   |(go_wp2_with fail;refine(QF bh.o).mono ?_;rintro e w2 ⟨y0,Y,y2,y3,hy,rfl,hb2⟩;have B2:=I (BA.o.trans (hb2.mono BA.o.size));have aL:=I ((hb2.block _ bm).trans RY.o);obtain⟨⟨p0,p1,p2,p3⟩,pf⟩:=gg aL.o;obtain⟨W3,hW3⟩:=aj ((((w2.setCell ⟨wr.1.size,0,V⟩ (Z J y0)).setCell ⟨wr.1.size,1,V⟩ (Z J Y)).setCell ⟨wr.1.size,2,V⟩ (Z J y2)).setCell ⟨wr.1.size,3,V⟩ (Z J y3));have K3:=I (show af wr.1.size wr W3/\∃y0 Y y2 y3,W3.1[wr.1.size]?=E (ah #[Z J y0,Z J Y,Z J y2,Z J y3] 147 (0,0))/\aF (k+1)=(((k+1:Nat):Int),Y,y2,y3)by rw[hW3];refine⟨(((B2.o.setCell (p:=⟨wr.1.size,0,V⟩) (aw _) _).setCell (p:=⟨wr.1.size,1,V⟩) (aw _) _).setCell (p:=⟨wr.1.size,2,V⟩) (aw _) _).setCell (p:=⟨wr.1.size,3,V⟩) (aw _) _,_,_,_,_,wI aL.o _ _ _ _,?_⟩;exact HI.o _ _ _ _ _ _ HM.o hy (by omega));have aZ:=I hW3;clear hb2 d0 d1 d2 hW3;go_upto_region 12 with fail;rw[<-aZ.o];clear p0 p1 p2 p3 pf)
   obtain⟨b3,y0,Y,y2,y3,au,aS⟩:=K3.o;have bn:=I au;have bb:=I aS;obtain⟨⟨p0,p1,p2,p3⟩,pf⟩:=gg au;obtain⟨W4,ap⟩:=aj (W3.setCell ⟨wr.1.size,0,V⟩ (Z J ((k:Int)+1)));have bc:=A (W4.1[wr.1.size]?=E (ah #[Z J ((k:Int)+1),Z J Y,Z J y2,Z J y3] 147 (0,0))) (by rw[ap];exact bI W3 _ 0 _ _ _ au);have B4:=A (af wr.1.size wr W4) (by rw[ap];exact b3.setCell (p:=⟨wr.1.size,0,V⟩) (aw _) _);have ba:=I ap;clear ap b3 au aS;go_upto_region 13 with fail;rw[<-ba.o];clear p0 p1 p2 p3 pf;obtain⟨⟨p0,p1,p2,p3⟩,pf⟩:=gg bc.o;have s4:=B4.o.size;have l2:w.1.size+2<wr.1.size:=by have:=Z0.o;omega
   have F4:=I ((B4.o.block _ l2).trans am.o);have G4:=I ((B4.o.block _ (by omega)).trans ak.o);have T4:=I (ac.o.block (B4.o.block _ (by omega)));have O4:=I (bf (S:=λ_=>False) HO.o (av.bz B4.o) (λ_ _ h=>h));have aJ:=I (HB.o.trans (B4.o.mono HB.o.size));rw[HM.o]at O;by_cases q2:r=1/\(k:Int)+1=(u:Int)
   ·first
    |omega
    |(have bl:((k:Int)+1 != (u:Int))=false:=by simpa using q2.2
      replace O:=A (L (k+1+1)=L (k+1)) (by rw[O.o,aM (by omega)];simp);clear q2;go_wp2;go_roundw;case rel=>exact⟨k+1,_,by omega,by go_num,F4.o,G4.o,T4.o,by rw[O.o];exact O4.o,aJ.o,by omega⟩
      simp[aA];omega)
   try have bl:((k:Int)+1 != (u:Int))=true:=by simp;omega
   obtain⟨⟨_,_,f2⟩,ff⟩:=vn F4.o;replace O:=A (L (k+1+1)=L (k+1)++[aF (k+1)]) (by rw[O.o,aK (by omega)];simp);go_wp2_with(at_builtin;refine eF _ rfl _ _ 63 rfl W0.1.size 147 i1 (aD #[Z J 0,Z J 0,Z J 0,Z J 0]) 4 32 iG bg bi bj bk rfl (by decide) _ _ _ rfl (O4.o.alloc _) ⟨W4.1.size,0,V⟩ 1 1 [Z J ((k:Int)+1),Z J Y,Z J y2,Z J y3] rfl rfl ?c1 ?c2 ?c3 ?c4 ?c5 ?_);case c1=>exact jS _ _ _ _ _ _
   case c2=>intro x hx;simp at hx;rcases hx with rfl|rfl|rfl|rfl<;>rfl
   case c3=>unfold maxLen;omega
   case c4=>omega
   case c5=>simp;omega
   intro v' w5 hown' ar _;obtain⟨a5,c5,rfl⟩:=a_ hown';have aG:=λx (hx:(Value.slice a3 (L (k+1)).length c3).ownBlock=E x)=>(O4.o.lt x hx).1;have aO:af W4.1.size W4 (W4.alloc (ah #[Z J ((k:Int)+1),Z J Y,Z J y2,Z J y3] 147)):=(ax _ _).alloc (aw _) _;have aq:∀x,x<=w.1.size+2->w5.1[x]?=W4.1[x]? :=λx hx=>(ar.block x (by simp;omega) (λe=>by have:=aG x e.symm;have:=Z0.o;omega)).trans (aO.block x (by omega));have aT:=I ((aJ.o.alloc (by omega) _).grown ar (by simp;omega) (λy hy=>by have:=aG y hy;have:=Z0.o;omega));have F5:=I ((aq _ (aw _)).trans F4.o);have O5:=I (show w5.ownsRow W0.1.size 147 4 (U a5 ((L (k+1)).length+1) c5) (L (k+1+1)).length (bD (L (k+1+1)))by rw[O.o,jc,cy,bb.o];exact hown');have s5:=ar.size;have l5:W0.1.size<=w5.1.size:=by simp at s5;omega
   have aB:∀W6,W6=w5.setCell ⟨w.1.size+2,2,V⟩ (U a5 ((L (k+1)).length+1) c5)->W6.1[w.1.size+2]?=E (ah #[Z J kd,Z J 0,U a5 ((L (k+1)).length+1) c5] 65 (0,0))/\W6.1[w.1.size+1]?=E (ah #[Z J 0,Z J 0,U V 0 0] 65 (0,0))/\bp W6 w.1.size 238 156 (cR H)/\W6.ownsRow W0.1.size 147 4 (U a5 ((L (k+1)).length+1) c5) (L (k+1+1)).length (bD (L (k+1+1)))/\af w.1.size w W6/\W0.1.size<=W6.1.size:=λW6 e=>by subst e;exact⟨bI w5 _ 2 _ _ _ F5.o,(fI _ _ _ _ (by simp)).trans ((aq _ (by omega)).trans G4.o),(T4.o.block (aq _ (by omega))).block (fI _ _ _ _ (by simp)),bf O5.o (show av (λx=>x=w.1.size+2) w5 _ from av.setCell w5 ⟨w.1.size+2,2,V⟩ _) (λx hx e=>by have:=(O5.o.lt x hx).1;have:=Z0.o;omega),aT.o.setCell (p:=⟨w.1.size+2,2,V⟩) (by show w.1.size<=w.1.size+2;omega) _,by simp;omega⟩
   replace aB:=I aB;clear hown' ar aG aO aq f2 ff p0 p1 p2 p3 pf;obtain⟨⟨_,_,f2⟩,ff⟩:=vn F5.o;go_wp2;go_roundw;case rel=>exact⟨k+1,_,by omega,by go_num,aB.o _ rfl⟩
   simp[aA];omega
  obtain rfl:k=12:=by omega
  have l2:w.1.size+2<wr.1.size:=by have:=Z0.o;omega
  obtain⟨⟨g0,g1,g2⟩,_⟩:=vn am.o;obtain⟨⟨r0,r1,r2⟩,rf⟩:=vn ak.o;have E1:=I (zv ak.o (Z J kd) (Z J 0) (U a3 (L (12+1)).length c3));have E2:=I (vd HB.o (jO w.1.size) (Z J kd) (Z J 0) (U a3 (L (12+1)).length c3));have E3:=I (cS (bf HO.o (BJ wr (w.1.size+1) (Z J kd) (Z J 0) (U a3 (L (12+1)).length c3)) (λx hx e=>by have:=(HO.o.lt x hx).1;have:=Z0.o;omega)) (show w.1.size<=W0.1.size by have:=Z0.o;omega));go_wp2_with fail;refine cQ (ic rfl _ _ (w.1.size+1) 65 #[Z J kd,Z J 0,_] (0,0) _ rfl E1.o mR rfl wQ) rfl ?_;exact⟨_,rfl,E3.o,E2.o⟩
end Go.Proofs.YtchideljndagjabGreat


