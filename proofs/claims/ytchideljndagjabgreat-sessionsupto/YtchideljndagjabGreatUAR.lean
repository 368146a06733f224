/- Joined -/
import Derived.Test.YtchideljndagjabGreatUAK
set_option linter.unusedVariables false
set_option maxHeartbeats 2000000
set_option maxRecDepth 100000
namespace Go.Proofs.YtchideljndagjabGreat
open aq aO aB bb
open Go.Value renaming int->Z,bool->ak,pointer->aC,agg->aD
open Go.IntKind renaming i64->J
open Go.Obj renaming cells->ah
open Go.Ending renaming returned->az
open Option renaming none->V,some->E
open Bool renaming false->Y,true->aa
open Go renaming World->ac,Value->ag,Calls->ay
open Go.RowKit renaming Below->af,intOf->aA
abbrev Va:=@List.take_append_drop
abbrev gv:=@Calls.quiet_of_same
abbrev uO:=@Proofs.Tryz.func257
abbrev uP:=@Proofs.Tryz.ntmps257
abbrev xE:=@Proofs.Tryz.func205
abbrev xF:=@Proofs.Tryz.ntmps205
open Go.Proofs.Tryz
open Go.ChangeShapes Go.WideShapes Go.ChangeAt Go.RowKit
variable {l:List aq.It}{b u:Nat}{S:SS}{C:Cf}{s:Sv}{v:ag}{w w':ac}
theorem yE:(prog.info? 3).map (λi=>(i.zero,i.size,i.bytes))=E (E (Z J 0),1,8):=by kernel_rfl
def n_ (l:List Nat):List ag:=l.map λu:Nat=>Z J (u:Int)
theorem MR (f w):
  ay prog 248 #[kL f] w λe w'=>∃v,e=az v/\w'.ownsRow w.1.size 3 1 v (aT f).length (n_ (aT f))/\af w.1.size w w':=by
 obtain⟨i0,hi,hz0,hz1,hz2⟩:=bO yE;unfold kL;have BB:=A (af w.1.size w (w.alloc (ah (aN f).toArray 101))) ((ax _ _).alloc (aw _) _);have Y:=I (rI w 101 f).range;have ag:=I (nV f);have LX:=I (eN f);obtain⟨W,hW⟩:=aj (w.alloc (ah (aN f).toArray 101));rw[<-hW]at BB Y;have HW:=I hW;clear hW;obtain⟨X,hX⟩:=aj (aN f);rw[<-hX]at HW Y ag LX ⊢;clear hX;go_enter func248,ntmps248;go_upto_region 2 with fail;rw[<-HW.o];go_wp2_with(refine eM rfl 101 _ rfl w.1.size 0 rfl X _ Y.o iX rfl ?z ?_);case z=>rw[gu,LX.o]
 go_wp2;go_loopw [3,7] (λu i wr=>∃k:Nat,k<=13/\i=Z J (k:Int)/\wr.ownsRow w.1.size 3 1 u (bV f k).length (n_ (bV f k))/\af w.1.size w wr) (λ_ i _=>13-(aA i).toNat);case atStart=>exact⟨0,by omega,rfl,dp _ _ _ _,BB.o⟩
 obtain⟨k,hk,rfl,hown,ae⟩:=hrel;have HO:=I hown;have O:=I ae;have hsz:=ae.size;obtain⟨a3,c3,hv3⟩:=a_ hown;subst hv3;clear hown ae;have hle:=gC f k;have HS:=I (iM f k);by_cases hlt:k<13
 ·have au:(k:Int)<13:=by omega
  have am:=ag.o k hlt;cases q:f k
  ·rw[q]at am;have aa:=A (bV f (k+1)=bV f k) (by rw[HS.o,q];simp);clear q;go_wp2;go_roundw;case rel=>exact⟨k+1,by omega,by go_num,by rw[aa.o];exact HO.o,O.o⟩
   simp[aA];omega
  rw[q]at am;have aa:=A (bV f (k+1)=bV f k++[k]) (by rw[HS.o,q];simp);clear q;go_wp2_with(at_builtin;refine eF _ rfl _ _ 33 rfl w.1.size 3 i0 (Z J 0) 1 8 gW hi hz0 hz1 hz2 rfl (by decide) _ _ _ rfl (HO.o.alloc _) ⟨wr.1.size,0,V⟩ 1 1 [Z J (k:Int)] rfl rfl ?c1 ?c2 ?c3 ?c4 ?c5 ?_);case c1=>exact uG _ _ _
  case c2=>intro u hu;simp at hu;subst hu;rfl
  case c3=>unfold maxLen;omega
  case c4=>omega
  case c5=>simp;omega
  intro v' w2 hown' ak _;have ai:=λx (h:Value.ownBlock _=E x)=>HO.o.lt x h;have hb2:=(O.o.alloc hsz _).grown ak (by simp;omega) (λx h=>(ai x h).1);have aq:=I hb2;have ap:w2.ownsRow w.1.size 3 1 v' (bV f (k+1)).length (n_ (bV f (k+1))):=by rw[aa.o,cy];unfold n_ at hown' ⊢;rw[cF];exact hown'
  have ar:=I ap;clear hown' ak ai hb2 ap;go_wp2;go_roundw;case rel=>exact⟨k+1,by omega,by go_num,ar.o,aq.o⟩
  simp[aA];omega
 have ek:k=13:=by omega
 subst ek;go_wp2;go_ret;exact⟨_,rfl,HO.o,O.o⟩
theorem Ll (l u):∀j,(∀i,i<j->(aq.it l i).1≠u)->j<l.length->(aq.it l j).1=u->aL l u=aq.it l j:=λj hj hlt e=>by
 unfold aL;have hs:l=l.take j++(l[j]::l.drop (j+1)):=by rw[List.getElem_cons_drop,Va]
 have hnone:(l.take j).find? (λx=>decide (x.1=u))=V:=by rw[sT];intro x hx;obtain⟨i,hi,rfl⟩:=fT hx;rw[eV]at hi;rw[List.getElem_take];have:=hj i (by omega);rw[cd l i (by omega)]at this;simpa using this
 rw[cd l j hlt]at e;rw[cd l j hlt];conv=>lhs;rw[hs]
 rw[List.find?_append,hnone,List.find?_cons,aK e];rfl
theorem Ln (l u)(h:∀i,i<l.length->(aq.it l i).1≠u):aL l u=(0,0,0,0):=qB (o_.2 λx hx=>by obtain⟨i,hi,rfl⟩:=fT hx;have:=h i hi;rwa [cd l i hi]at this)
def qC (x:aq.It):ag:=aD #[Z J x.1,Z J x.2.1,Z J x.2.2.1,Z J x.2.2.2]
theorem ug (u)(hl:aX w v l):
  ay prog 289 #[v,Z J u] w λe w'=>e=az (qC (aL l u))/\af w.1.size w w':=by
 obtain⟨a,cap,rfl,l2,l3,_,ak⟩:=cK hl;have HC:=I ak;have HF:=I (Ll l u);have HN:=I (Ln l u);clear hl ak;unfold qC;generalize l.length=n at*;have ap:=I (bo w (ah #[Z J 0,Z J 0,Z J 0,Z J 0] 147));have B0:=A (af w.1.size w (w.alloc (ah #[Z J 0,Z J 0,Z J 0,Z J 0] 147))) ((ax _ _).alloc (aw _) _);go_enter func289,ntmps289;go_wp2;go_loopw [9] (λi wr=>∃j:Nat,j<=n/\i=Z J j/\(∀i',i'<j->(aq.it l i').1≠u)/\wr.1[w.1.size]?=E (ah #[Z J 0,Z J 0,Z J 0,Z J 0] 147 (0,0))/\af w.1.size w wr) (λi _=>n-(aA i).toNat);case atStart=>exact⟨0,bi _,rfl,λi h=>by omega,ap.o,B0.o⟩
 obtain⟨j,hj,rfl,hall,hrow,ai⟩:=hrel;have HA:=I hall;have HR:=I hrow;have HB:=I ai;have hsz:w.1.size<wr.1.size:=by apply AA;intro c;rw[cT (by omega)]at hrow;cases hrow
 clear hall hrow ai;by_cases hlt:j<n
 ·obtain⟨b',off,rfl,hb,hit⟩:=HC.o j hlt;obtain⟨d0,d1,d2,d3⟩:=hit.below hb HB.o;clear hit;have ag:=I (HF.o j HA.o hlt);obtain⟨z0,O,z2,z3,hz⟩:∃z0 O z2 z3,aq.it l j=(z0,O,z2,z3):=⟨_,_,_,_,rfl⟩;rw[hz]at d0 d1 d2 d3 ag;have HZ:=I hz;clear hz;obtain⟨W1,hW1⟩:=aj (wr.alloc (ah #[Z J z0,Z J O,Z J z2,Z J z3] 147));have x0:W1.cell? ⟨wr.1.size,0,V⟩=E (Z J z0):=by rw[hW1];simp
  have x1:W1.cell? ⟨wr.1.size,1,V⟩=E (Z J O):=by rw[hW1];simp
  have x2:W1.cell? ⟨wr.1.size,2,V⟩=E (Z J z2):=by rw[hW1];simp
  have x3:W1.cell? ⟨wr.1.size,3,V⟩=E (Z J z3):=by rw[hW1];simp
  have ac:=I (show W1.1[w.1.size]?=E (ah #[Z J 0,Z J 0,Z J 0,Z J 0] 147 (0,0))by rw[hW1,((ax wr.1.size wr).alloc (aw _) _).block _ hsz];exact HR.o);have ae:=A (af w.1.size w W1) (by rw[hW1];exact HB.o.alloc (by omega) _);have y0:W1.cell? ⟨w.1.size,0,V⟩=E (Z J 0):=by rw[bg W1 w.1.size 0 _ _ (0,0) ac.o];rfl
  have y1:W1.cell? ⟨w.1.size,1,V⟩=E (Z J 0):=by rw[bg W1 w.1.size 1 _ _ (0,0) ac.o];rfl
  have y2:W1.cell? ⟨w.1.size,2,V⟩=E (Z J 0):=by rw[bg W1 w.1.size 2 _ _ (0,0) ac.o];rfl
  have y3:W1.cell? ⟨w.1.size,3,V⟩=E (Z J 0):=by rw[bg W1 w.1.size 3 _ _ (0,0) ac.o];rfl
  have yf:=λi=>eh W1 w.1.size i _ _ ac.o;have ar:=I hW1;clear hW1;go_upto_region 4 with fail;all_goals(try rw[<-ar.o])
  by_cases q:z0=u
  ·have q':(z0==u)=aa:=by simpa using q
   have HI:=I (ag.o q);have HQ:=I q;clear q
   have E1:=I (show(((((W1.setCell ⟨w.1.size,0,V⟩ (Z J z0)).setCell ⟨w.1.size,1,V⟩ (Z J O)).setCell ⟨w.1.size,2,V⟩ (Z J z2)).setCell ⟨w.1.size,3,V⟩ (Z J z3)).1[w.1.size]?=E (ah #[Z J z0,Z J O,Z J z2,Z J z3] 147 (0,0)))from
    bI _ _ 3 #[Z J z0,Z J O,Z J z2,Z J 0] _ _ (bI _ _ 2 #[Z J z0,Z J O,Z J 0,Z J 0] _ _ (bI _ _ 1 #[Z J z0,Z J 0,Z J 0,Z J 0] _ _ (bI _ _ 0 _ _ _ ac.o))))
   have E2:=I (show af w.1.size w ((((W1.setCell ⟨w.1.size,0,V⟩ (Z J z0)).setCell ⟨w.1.size,1,V⟩ (Z J O)).setCell ⟨w.1.size,2,V⟩ (Z J z2)).setCell ⟨w.1.size,3,V⟩ (Z J z3))from
    (((ae.o.setCell (p:=⟨w.1.size,0,V⟩) (aw _) _).setCell (p:=⟨w.1.size,1,V⟩) (aw _) _).setCell (p:=⟨w.1.size,2,V⟩) (aw _) _).setCell (p:=⟨w.1.size,3,V⟩) (aw _) _);go_wp2_with fail;refine cQ (ic rfl _ _ w.1.size 147 #[Z J z0,Z J O,Z J z2,Z J z3] (0,0) _ rfl E1.o underlying147 rfl EM) rfl ?_;exact⟨by rw[HI.o],E2.o⟩
  have q':(z0==u)=Y:=by simpa using q
  have HQ:=I q;clear q;go_wp2;go_roundw;case rel=> refine⟨j+1,by omega,by go_num,λi hi=>?_,ac.o,ae.o⟩;by_cases e:i=j;subst e;rw[HZ.o];exact HQ.o;exact HA.o i (by omega)
  simp[aA];omega
 have ej:j=n:=by omega
 subst ej;have am:=I (HN.o HA.o);have y0:wr.cell? ⟨w.1.size,0,V⟩=E (Z J 0):=by rw[bg wr w.1.size 0 _ _ (0,0) HR.o];rfl
 have y1:wr.cell? ⟨w.1.size,1,V⟩=E (Z J 0):=by rw[bg wr w.1.size 1 _ _ (0,0) HR.o];rfl
 have y2:wr.cell? ⟨w.1.size,2,V⟩=E (Z J 0):=by rw[bg wr w.1.size 2 _ _ (0,0) HR.o];rfl
 have y3:wr.cell? ⟨w.1.size,3,V⟩=E (Z J 0):=by rw[bg wr w.1.size 3 _ _ (0,0) HR.o];rfl
 have yf:=λi=>eh wr w.1.size i _ _ HR.o
 have E1:=I (show(((((wr.setCell ⟨w.1.size,0,V⟩ (Z J 0)).setCell ⟨w.1.size,1,V⟩ (Z J 0)).setCell ⟨w.1.size,2,V⟩ (Z J 0)).setCell ⟨w.1.size,3,V⟩ (Z J 0)).1[w.1.size]?=E (ah #[Z J 0,Z J 0,Z J 0,Z J 0] 147 (0,0)))from
   bI _ _ 3 #[Z J 0,Z J 0,Z J 0,Z J 0] _ _ (bI _ _ 2 #[Z J 0,Z J 0,Z J 0,Z J 0] _ _ (bI _ _ 1 #[Z J 0,Z J 0,Z J 0,Z J 0] _ _ (bI _ _ 0 _ _ _ HR.o))))
 have E2:=I (show af w.1.size w ((((wr.setCell ⟨w.1.size,0,V⟩ (Z J 0)).setCell ⟨w.1.size,1,V⟩ (Z J 0)).setCell ⟨w.1.size,2,V⟩ (Z J 0)).setCell ⟨w.1.size,3,V⟩ (Z J 0))from
   (((HB.o.setCell (p:=⟨w.1.size,0,V⟩) (aw _) _).setCell (p:=⟨w.1.size,1,V⟩) (aw _) _).setCell (p:=⟨w.1.size,2,V⟩) (aw _) _).setCell (p:=⟨w.1.size,3,V⟩) (aw _) _);go_wp2_with fail;refine cQ (ic rfl _ _ w.1.size 147 #[Z J 0,Z J 0,Z J 0,Z J 0] (0,0) _ rfl E1.o underlying147 rfl EM) rfl ?_;exact⟨by rw[am.o],E2.o⟩
theorem Bi{p}:(∀j,j<l.length->p (aq.it l j)=aa)->l.all p=aa:=λh=>fk.2 λx hx=>by obtain⟨i,hi,rfl⟩:=fT hx;rw[<-cd l i hi];exact h i hi
theorem Bh{p}(j)(hj:j<l.length)(h:p (aq.it l j)=Y):l.all p=Y:=kU.2 ⟨aq.it l j,by rw[cd l j hj];exact cN hj,by rw[h];exact dR⟩
theorem CD (f)(hl:aX w v l)(hr:bN l=aa):
  ay prog 290 #[v,kL f] w λe w'=>e=az (ak (nT l f))/\af w.1.size w w':=by
 obtain⟨a,cap,rfl,l2,l3,_,aD⟩:=cK hl;have HC:=I aD;have HI:=I (λj (hj:j<l.length)=>(gm hr).2 (aq.it l j) (by rw[cd l j hj];exact cN hj));have ae:=I (EL f);have HY:=I (λh=>Bi (l:=l) (p:=λx=>bE x.1&&f x.1.toNat) h);have av:=I (λj hj h=>Bh (l:=l) (p:=λx=>bE x.1&&f x.1.toNat) j hj h);clear hl hr aD;unfold kL at ae ⊢;have LX:=I (eN f);have ai:=I (rI w 101 f);have BB:=A (af w.1.size w (w.alloc (ah (aN f).toArray 101))) ((ax _ _).alloc (aw _) _);have aB:=I (λ(W:ac)(h:bZ W w.1.size 101 f)=>h.range);unfold nT;obtain⟨n,hn⟩:=aj l.length;rw[<-hn]at l2 HC HI HY av ⊢;obtain⟨m,hm⟩:=aj ((aT f).length);rw[<-hm]at ae ⊢;have aR:m<=13:=by rw[hm];exact gC f 13
 clear hn hm;obtain⟨X,hX⟩:=aj (aN f);rw[<-hX]at ai BB ae aB LX ⊢;clear hX;go_enter func290,ntmps290;go_wp2;go_loopw [9] (λi wr=>∃j:Nat,j<=n/\i=Z J j/\(∀k,k<j->(bE (aq.it l k).1&&f (aq.it l k).1.toNat)=aa)/\bZ wr w.1.size 101 f/\af w.1.size w wr) (λi _=>n-(aA i).toNat);case atStart=>exact⟨0,bi _,rfl,λi h=>absurd h (by omega),ai.o,BB.o⟩
 obtain⟨j,hj,rfl,hall,ag,aC⟩:=hrel;have HA:=I hall;have ap:=I ag;have O:=I aC;have hsz:=ag.lt;clear hall ag aC;by_cases hlt:j<n
 ·obtain⟨b',off,rfl,hb,hit⟩:=HC.o j hlt;obtain⟨d0,d1,d2,d3⟩:=hit.below hb O.o;clear hit;have aG:=HI.o j hlt;have aL:=I (av.o j hlt);obtain⟨u,hu⟩:∃u:Nat,(aq.it l j).1=(u:Int):=⟨(aq.it l j).1.toNat,by omega⟩;rw[hu]at aG d0;obtain⟨aJ,aK⟩:=aG;have aQ:u<13:=by omega
  have aS:(u:Int)<13:=by omega
  have au:=I (dW aJ aK);have Y:=A ((bE (aq.it l j).1&&f (aq.it l j).1.toNat)=f u) (by rw[hu,dW aJ aK,ox];rfl);clear hu;generalize (aq.it l j).2.1=xa at*;generalize (aq.it l j).2.2.1=xb at*;generalize (aq.it l j).2.2.2=xc at*;obtain⟨W1,hW1⟩:=aj (wr.alloc (ah #[Z J (u:Int),Z J xa,Z J xb,Z J xc] 147));have x0:W1.cell? ⟨wr.1.size,0,V⟩=E (Z J (u:Int)):=by rw[hW1];simp
  have ar:=A (bZ W1 w.1.size 101 f) (by rw[hW1];exact ap.o.below ((ax wr.1.size wr).alloc (aw _) _) hsz);have am:=A (af w.1.size w W1) (by rw[hW1];exact O.o.alloc (by omega) _);have aO:=I hW1;clear hW1;go_upto_region 4 with fail;rw[<-aO.o];have z0:=ar.o.cell u aQ;cases q:f u;·rw[q]at z0 Y;clear q;go_wp2_with fail;refine aI (fX _ _) ?_;rw[au.o];go_wp2;go_ret;exact⟨aF (by rw[aL.o Y.o];rfl),am.o⟩
  rw[q]at z0 Y;clear q;go_wp2_with fail;refine aI (fX _ _) ?_;rw[au.o];go_wp2;go_roundw;case rel=> refine⟨j+1,by omega,by go_num,λk hk=>?_,ar.o,am.o⟩;by_cases e:k=j;subst e;exact Y.o;exact HA.o k (by omega)
  simp[aA];omega
 have ej:j=n:=by omega
 subst ej;have aP:=I (HY.o HA.o);have RG:=I (aB.o wr ap.o);go_wp2_with(refine eM rfl 101 _ rfl w.1.size 0 rfl X _ RG.o iX rfl ?z ?_);case z=>rw[gu,LX.o]
 go_wp2_with fail;refine aH (ae.o wr) λW2 hb2=>?_;have B2:=I (O.o.trans (hb2.mono O.o.size));clear hb2;go_wp2;go_ret;exact⟨aF (by rw[aP.o,eE];by_cases e:j=m;subst e;simp;rw[aM e];simp;omega),B2.o⟩
theorem TY (f)(hl:aX w v l)(hr:bN l=aa):
  ay prog 291 #[v,kL f] w λe w'=>e=az (ak (qX l f))/\af w.1.size w w':=by
 obtain⟨a,cap,rfl,l2,l3,_,aH⟩:=cK hl;have HC:=I aH;have HI:=I (λj (hj:j<l.length)=>(gm hr).2 (aq.it l j) (by rw[cd l j hj];exact cN hj));have HY:=I (λh=>Bi (l:=l) (p:=λx=>bE x.1&&(f x.1.toNat==decide (x.2.1=1))) h);have aB:=I (λj hj h=>Bh (l:=l) (p:=λx=>bE x.1&&(f x.1.toNat==decide (x.2.1=1))) j hj h);clear hl hr aH;unfold kL;have ap:=I (rI w 101 f);have BB:=A (af w.1.size w (w.alloc (ah (aN f).toArray 101))) ((ax _ _).alloc (aw _) _);unfold qX;obtain⟨n,hn⟩:=aj l.length;rw[<-hn]at l2 HC HI HY aB ⊢;clear hn;obtain⟨X,hX⟩:=aj (aN f);rw[<-hX]at ap BB ⊢;clear hX;go_enter func291,ntmps291;go_wp2;go_loopw [9] (λi wr=>∃j:Nat,j<=n/\i=Z J j/\(∀k,k<j->(bE (aq.it l k).1&&(f (aq.it l k).1.toNat==decide ((aq.it l k).2.1=1)))=aa)/\bZ wr w.1.size 101 f/\af w.1.size w wr) (λi _=>n-(aA i).toNat);case atStart=>exact⟨0,bi _,rfl,λi h=>absurd h (by omega),ap.o,BB.o⟩
 obtain⟨j,hj,rfl,hall,ai,aG⟩:=hrel;have HA:=I hall;have aO:=I ai;have HB:=I aG;have hsz:=ai.lt;clear hall ai aG;by_cases hlt:j<n
 ·obtain⟨b',off,rfl,hb,hit⟩:=HC.o j hlt;obtain⟨d0,d1,d2,d3⟩:=hit.below hb HB.o;clear hit;have aI:=HI.o j hlt;have av:=I (aB.o j hlt);obtain⟨u,hu⟩:∃u:Nat,(aq.it l j).1=(u:Int):=⟨(aq.it l j).1.toNat,by omega⟩;rw[hu]at aI d0;obtain⟨aJ,aL⟩:=aI;have aS:u<13:=by omega
  have aT:(u:Int)<13:=by omega
  have aP:=I (dW aJ aL);have aC:=A ((bE (aq.it l j).1&&(f (aq.it l j).1.toNat==decide ((aq.it l j).2.1=1)))=(f u==decide ((aq.it l j).2.1=1))) (by rw[hu,dW aJ aL,ox];rfl);clear hu;obtain⟨xa,am⟩:∃xa,(aq.it l j).2.1=xa:=⟨_,rfl⟩;rw[am]at d1;have aD:=I am;clear am;generalize (aq.it l j).2.2.1=xb at*;generalize (aq.it l j).2.2.2=xc at*;obtain⟨W1,hW1⟩:=aj (wr.alloc (ah #[Z J (u:Int),Z J xa,Z J xb,Z J xc] 147));have x0:W1.cell? ⟨wr.1.size,0,V⟩=E (Z J (u:Int)):=by rw[hW1];simp
  have x1:W1.cell? ⟨wr.1.size,1,V⟩=E (Z J xa):=by rw[hW1];simp
  have ag:=A (bZ W1 w.1.size 101 f) (by rw[hW1];exact aO.o.below ((ax wr.1.size wr).alloc (aw _) _) hsz);have ar:=A (af w.1.size w W1) (by rw[hW1];exact HB.o.alloc (by omega) _);have sW:w.1.size<W1.1.size:=ag.o.lt;have SW:=I sW;clear sW;have aQ:=I hW1;clear hW1;go_upto_region 4 with fail;rw[<-aQ.o];have z0:=ag.o.cell u aS;have ae:=A (∀W:ac,ay prog 201 #[Z J (u:Int)] W λe w'=>e=az (ak aa)/\w'=W) (λW=>by rw[<-aP.o];exact fX _ _);have HD:=I (λm=>ar.o.trans ((below_drewN W1 m).mono ar.o.size));have au:=I (λm=>ag.o.below (below_drewN W1 m) SW.o);by_cases c:xa=1
  ·have c':(xa==1)=aa:=by simpa using c
   have O:=A ((bE (aq.it l j).1&&(f (aq.it l j).1.toNat==decide ((aq.it l j).2.1=1)))=f u) (by rw[aC.o,aD.o,aK c];cases f u<;>rfl);clear c;cases q:f u;·rw[q]at z0 O;clear q;go_quiet ((go_at_call 201;exact gv (ae.o _)));go_wp2;go_ret;exact⟨aF (by rw[av.o O.o]),HD.o _⟩
   rw[q]at z0 O;clear q;go_quiet ((go_at_call 201;exact gv (ae.o _)));go_wp2;go_roundw;case rel=> refine⟨j+1,by omega,by go_num,λk hk=>?_,au.o _,HD.o _⟩;by_cases e:k=j;subst e;exact O.o;exact HA.o k (by omega)
   simp[aA];omega
  have c':(xa==1)=Y:=by simpa using c
  have O:=A ((bE (aq.it l j).1&&(f (aq.it l j).1.toNat==decide ((aq.it l j).2.1=1)))= !f u) (by rw[aC.o,aD.o,aM c];cases f u<;>rfl);clear c;cases q:f u
  ·rw[q]at z0 O;clear q;go_quiet ((go_at_call 201;exact gv (ae.o _)));go_wp2;go_roundw;case rel=> refine⟨j+1,by omega,by go_num,λk hk=>?_,au.o _,HD.o _⟩;by_cases e:k=j;subst e;exact O.o;exact HA.o k (by omega)
   simp[aA];omega
  rw[q]at z0 O;clear q;go_quiet ((go_at_call 201;exact gv (ae.o _)));go_wp2;go_ret;exact⟨aF (by rw[av.o O.o]),HD.o _⟩
 have ej:j=n:=by omega
 subst ej;have aR:=I (HY.o HA.o);go_wp2;go_ret;exact⟨aF (by rw[aR.o]),HB.o⟩
theorem CR (h:aR w b S):
  ay prog 194 #[aC (E ⟨b,0,V⟩)] w λe w'=>e=az (ak (decide (S.st=0)))/\w'=w:=by
 have c:=h.st;generalize S.st=st at*;by_cases q:st=0;·have HD:=I (aK q);subst q;go_enter func194,ntmps194;go_wp2;go_ret;exact⟨aF (by simp),rfl⟩
 have HD:=I (aM q);have q':(st==0)=Y:=by simpa using q
 go_enter func194,ntmps194;go_wp2;go_ret;exact⟨aF (by rw[HD.o]),rfl⟩
theorem UJ (rd:Nat)(hr:rd<4)(w):
  ay prog 256 #[Z J (rd:Int)] w λe w'=>e=az (Z J (2*(rd:Int)+1))/\w'=w:=by
 have hd:rd=0\/rd=1\/rd=2\/rd=3:=by omega
 rcases hd with rfl|rfl|rfl|rfl;·go_enter func256,ntmps256;go_wp2;go_ret;exact⟨rfl,rfl⟩
 ·go_enter func256,ntmps256;go_wp2;go_ret;exact⟨rfl,rfl⟩
 ·go_enter func256,ntmps256;go_wp2;go_ret;exact⟨rfl,rfl⟩
 go_enter func256,ntmps256;go_wp2;go_ret;exact⟨rfl,rfl⟩
def kH (S:SS)(u:Nat)(l:List aq.It):Bool:=
 if S.rd=1 then nT l (fR S.sn u Y)else if S.rd=2 then decide ((l.length:Int)=S.m)else if S.rd=3 then nT l S.sh&&qX l S.sn else aa
theorem aR.xX (h:aR w b S):w.rangeAt b 6 (aN S.sn):=h.Es.range
theorem aR.qg (h:aR w b S):w.rangeAt b 19 (aN S.ct):=h.DW.range
theorem aR.GR (h:aR w b S):w.rangeAt b 58 (aN S.sh):=h.zz.range
theorem Lt (k)(u:Nat)(h:aR w b S)(hl:aX w v l)(hr:bN l=aa)(hu:u<13)(rd:Nat)(ba:S.rd=(rd:Int))(hr4:rd<4):
  ay prog 257 #[aC (E ⟨b,0,V⟩),aD #[Z J k,Z J (u:Int),v]] w λe w'=>e=az (ak (kH S u l))/\af w.1.size w w':=by
 obtain⟨W,hW⟩:=aj (w.alloc (ah #[Z J k,Z J (u:Int),v] 65));have O:=A (af w.1.size w W) (by rw[hW];exact(ax _ _).alloc (aw _) _);have x1:W.cell? ⟨w.1.size,1,V⟩=E (Z J (u:Int)):=by rw[hW];simp
 have x2:W.cell? ⟨w.1.size,2,V⟩=E v:=by rw[hW];simp
 have HS:=I (h.below O.o);have HL:=I (hl.below O.o);have hsz:w.1.size<W.1.size:=by rw[hW];simp
 have hlt:=h.lt;have c5:W.cell? ⟨b,5,V⟩=E (Z J (rd:Int)):=by rw[<-ba];exact HS.o.rd
 have bf:(u:Int)<13:=by omega
 have HW:=I hW;clear hW h hl;have hd:rd=1\/rd=2\/rd=3\/rd=0:=by omega
 rcases hd with rfl|rfl|rfl|rfl;·have HF:=A (kH S u l=nT l (fR S.sn u Y)) (by unfold kH;rw[au (by omega)]);have RG:=I HS.o.xX;have LX:=I (eN S.sn);have aA:=I (dN (ld S.sn));have HH:=bj W λW' hb=>CD (fR S.sn u Y) (HL.o.below hb) hr;obtain⟨W1,hW1⟩:=aj (W.alloc (ah #[ak Y,ak Y,ak Y,ak Y,ak Y,ak Y,ak Y,ak Y,ak Y,ak Y,ak Y,ak Y,ak Y] 101));have B1:=A (af W.1.size W W1) (by rw[hW1];exact(ax _ _).alloc (aw _) _);have ai:=A (bZ W1 W.1.size 101 (λ_=>Y)) (by rw[hW1];exact rI W _ (λ_=>Y));have aB:=I (show W1.there W.1.size 0 (aN S.sn).toArray.size from λi hi=>by rw[bR,eN]at hi;exact⟨by rw[cz,ai.o.cell i hi];rfl,by rw[cz];exact ai.o.bF i⟩);have ae:=I (show bZ (W1.setCells W.1.size 0 (aN S.sn)) W.1.size 101 S.sn by have:=kI W.1.size 101 (aN S.sn) [] (aN λ_=>Y) [] W1 rfl (by rw[ew];exact ai.o);rw[ew]at this;exact this);have B2:=A (af W.1.size W (W1.setCells W.1.size 0 (aN S.sn))) (dU (aw _) _ _ _ B1.o);have aY:=I hW1;clear hW1;obtain⟨CS,aJ⟩:=aj (aN S.sn);rw[<-aJ]at RG LX aA aB ae B2;clear aJ;have aU:=A ((prog.info? 101).map (·.size)=E CS.length) (by rw[gu,LX.o]);have aW:=A ((prog.info? 101).map (·.size)=E CS.toArray.size) (by rw[gu,bR,LX.o]);obtain⟨W2,hW2⟩:=aj (W1.setCells W.1.size 0 CS);rw[<-hW2]at ae B2;have aZ:=I hW2;clear hW2;have y1:W2.cell? ⟨w.1.size,1,V⟩=E (Z J (u:Int)):=(B2.o.cell (p:=⟨w.1.size,1,V⟩) hsz).trans x1;have z0:=ae.o.cell u hu;have zf:=ae.o.bF u;have aT:=I (ae.o.set u hu Y);have B3:=I (B2.o.setCell (p:=⟨W.1.size,u,V⟩) (aw _) (ak Y));have aq:=I aT.o.range;have L3:=I (eN (fR S.sn u Y));have bb:(W2.setCell ⟨W.1.size,u,V⟩ (ak Y)).cell? ⟨w.1.size,2,V⟩=E v:=(B3.o.cell (p:=⟨w.1.size,2,V⟩) hsz).trans x2;unfold kL at HH;obtain⟨CU,aL⟩:=aj (aN (fR S.sn u Y));rw[<-aL]at aq L3 HH;clear aL;have aV:=A ((prog.info? 101).map (·.size)=E CU.length) (by rw[gu,L3.o]);go_enter uO,uP;go_upto_region 1 with fail;rw[<-HW.o];go_upto_region 4 with(first|refine eM rfl 101 _ rfl b 6 rfl CS _ RG.o iX rfl aU.o ?_|(rw[<-aY.o];refine cB rfl 101 _ _ rfl W.1.size 0 CS.toArray rfl rfl aB.o aW.o aA.o ?_));rw[<-aZ.o];obtain⟨W3,hW3⟩:=aj (W2.setCell ⟨W.1.size,u,V⟩ (ak Y));rw[<-hW3]at B3 aq bb;have a_:=I hW3;clear hW3;go_upto_region 5 with fail;rw[<-a_.o];go_wp2_with(refine eM rfl 101 _ rfl W.1.size 0 rfl CU _ aq.o iX rfl aV.o ?_);refine aH (HH.o W3 B3.o) λW4 hb4=>?_;have B4:=I ((O.o.trans (B3.o.mono O.o.size)).trans (hb4.mono (by have:=O.o.size;have:=B3.o.size;omega)));clear hb4;go_wp2;go_ret;exact⟨aF HF.o.symm,B4.o⟩
 ·have HF:=A (kH S u l=decide ((l.length:Int)=S.m)) (by unfold kH;rw[ar (by omega),au (by omega)]);have c2:=HS.o.m;obtain⟨a,cap,rfl,l2,l3,_,_⟩:=cK HL.o;generalize S.m=M at*;generalize l.length=n at*;have HD:=I (λm=>O.o.trans ((below_drewN W m).mono O.o.size));by_cases q:(n:Int)=M
  ·have q':((n:Int)==M)=aa:=by simpa using q
   have am:=A (kH S u l=aa) (by rw[HF.o,aK q]);clear q;go_enter uO,uP;go_upto_region 1 with fail;rw[<-HW.o];go_wp2_with fail;go_quiet (fail);go_wp2;go_ret;exact⟨aF (by rw[am.o]),HD.o _⟩
  have q':((n:Int)==M)=Y:=by simpa using q
  have am:=A (kH S u l=Y) (by rw[HF.o,aM q]);clear q;go_enter uO,uP;go_upto_region 1 with fail;rw[<-HW.o];go_wp2_with fail;go_quiet (fail);go_wp2;go_ret;exact⟨aF (by rw[am.o]),HD.o _⟩
 ·have HF:=A (kH S u l=(nT l S.sh&&qX l S.sn)) (by unfold kH;rw[ar (by omega),ar (by omega),au (by omega)]);have H1:=bj W λW' hb=>CD S.sh (HL.o.below hb) hr;have H2:=bj W λW' hb=>TY S.sn (HL.o.below hb) hr;unfold kL at H1 H2;have s0:=HS.o.lf 0 (by omega);have s1:=HS.o.lf 1 (by omega);have s2:=HS.o.lf 2 (by omega);have s3:=HS.o.lf 3 (by omega);have s4:=HS.o.lf 4 (by omega);have s5:=HS.o.lf 5 (by omega);have s6:=HS.o.lf 6 (by omega);have s7:=HS.o.lf 7 (by omega);have s8:=HS.o.lf 8 (by omega);have s9:=HS.o.lf 9 (by omega);have aP:=HS.o.lf 10 (by omega);have aQ:=HS.o.lf 11 (by omega);have aS:=HS.o.lf 12 (by omega);have e0:=HS.o.jX 0 (by omega);have e1:=HS.o.jX 1 (by omega);have e2:=HS.o.jX 2 (by omega);have e3:=HS.o.jX 3 (by omega);have e4:=HS.o.jX 4 (by omega);have e5:=HS.o.jX 5 (by omega);have e6:=HS.o.jX 6 (by omega);have e7:=HS.o.jX 7 (by omega);have e8:=HS.o.jX 8 (by omega);have e9:=HS.o.jX 9 (by omega);have aG:=HS.o.jX 10 (by omega);have e11:=HS.o.jX 11 (by omega);have aI:=HS.o.jX 12 (by omega);have bc:b<W.1.size:=by omega
  obtain⟨p,hp⟩:=aj (nT l S.sh);obtain⟨p',aO⟩:=aj (qX l S.sn);rw[<-hp]at HF H1;rw[<-aO]at HF H2;clear hp aO;cases p
  ·go_enter uO,uP;go_upto_region 1 with fail;rw[<-HW.o];go_upto_region 9 with fail;refine nA (by kernel_rfl) (by kernel_rfl) ?_;intro ap GG hI hG av ac;repeat(go_big_quiet_step (first|(go_at_call 290;exact lW hG ac (H1.o _ (hG.o _)))|(go_at_call 291;exact lW hG ac (H2.o _ (hG.o _)))))
   refine oC ?_;intro w5 hw';obtain⟨i,hw''⟩:=hw';have ag:=hG.o i;rw[<-hw'']at ag;have B5:=I (O.o.trans (ag.mono O.o.size));clear hw'' av ac hG i hI GG ap e0 e1 e2 e3 e4 e5 e6 e7 e8 e9 aG e11 aI s0 s1 s2 s3 s4 s5 s6 s7 s8 s9 aP aQ aS;go_wp2;go_ret;exact⟨aF (by rw[HF.o];rfl),B5.o⟩
  go_enter uO,uP;go_upto_region 1 with fail;rw[<-HW.o];go_upto_region 9 with fail;refine nA (by kernel_rfl) (by kernel_rfl) ?_;intro ap GG hI hG av ac;repeat(go_big_quiet_step (first|(go_at_call 290;exact lW hG ac (H1.o _ (hG.o _)))|(go_at_call 291;exact lW hG ac (H2.o _ (hG.o _)))))
  refine oC ?_;intro w5 hw';obtain⟨i,hw''⟩:=hw';have ag:=hG.o i;rw[<-hw'']at ag;have B5:=I (O.o.trans (ag.mono O.o.size));clear hw'' av ac hG i hI GG ap e0 e1 e2 e3 e4 e5 e6 e7 e8 e9 aG e11 aI s0 s1 s2 s3 s4 s5 s6 s7 s8 s9 aP aQ aS;go_wp2;go_ret;exact⟨aF (by rw[HF.o];rfl),B5.o⟩
 have HF:=A (kH S u l=aa) (by unfold kH;rw[ar (by omega),ar (by omega),ar (by omega)]);go_enter uO,uP;go_upto_region 1 with fail;rw[<-HW.o];go_wp2;go_ret;exact⟨aF (by rw[HF.o]),O.o⟩
def nQ (S:SS)(rd:Nat)(k:Int)(u:Nat)(l:List aq.It):Bool:=decide (S.st=0)&&(decide (k=2*(rd:Int)+1)&&(S.sn u&&(!S.ct u&&kH S u l)))
theorem IH{k}(u:Nat)(h:aR w b S)(hl:aX w v l)(ac:aq.okF k (u:Int) l=aa)(rd:Nat)(ai:S.rd=(rd:Int))(hr4:rd<4):
  ay prog 205 #[aC (E ⟨b,0,V⟩),aD #[Z J k,Z J (u:Int),v]] w λe w'=>e=az (ak (nQ S rd k u l))/\af w.1.size w w':=by
 have hr:=(en ac).2.2.1;have hu:u<13:=by have:=(mK ac).2.2.2.2.1;omega
 have ar:(u:Int)<13:=by omega
 have ae:=I (λ(e:k=2*(rd:Int)+1)=>(show bE (u:Int)=aa by have:=(en ac).2.1;unfold dv at this;rwa [au (by omega)]at this));obtain⟨W,hW⟩:=aj (w.alloc (ah #[Z J k,Z J (u:Int),v] 65));have B0:=A (af w.1.size w W) (by rw[hW];exact(ax _ _).alloc (aw _) _);have x0:W.cell? ⟨w.1.size,0,V⟩=E (Z J k):=by rw[hW];simp
 have x1:W.cell? ⟨w.1.size,1,V⟩=E (Z J (u:Int)):=by rw[hW];simp
 have x2:W.cell? ⟨w.1.size,2,V⟩=E v:=by rw[hW];simp
 have HS:=I (h.below B0.o);have HL:=I (hl.below B0.o);have c5:W.cell? ⟨b,5,V⟩=E (Z J (rd:Int)):=by rw[<-ai];exact HS.o.rd
 have HW:=I hW;clear hW h hl ac;have H1:=I (λ(m:Nat)=>CR (HS.o.below (below_drewN W m)));have H2:=I (λ(m:Nat)=>UJ rd hr4 (W.drewN m));have O:=I (λ(m:Nat)=>fX (u:Int) (W.drewN m));have H4:=bj W λW' hb=>Lt k u (HS.o.below hb) (HL.o.below hb) hr hu rd ai hr4;have HD:=I (λm=>B0.o.trans ((below_drewN W m).mono B0.o.size));unfold nQ;by_cases q1:S.st=0;rotate_left;·rw[aM q1]at H1 ⊢;clear q1;go_enter xE,xF;go_upto_region 1 with fail;rw[<-HW.o];go_quiet (first|(go_at_call 194;exact gv (H1.o _))|(go_at_call 256;exact gv (H2.o _))|(go_at_call 201;exact gv (O.o _)));go_wp2;go_ret;exact⟨rfl,HD.o _⟩
 rw[aK q1]at H1 ⊢;clear q1;rw[eE];by_cases q2:k=2*(rd:Int)+1;rotate_left
 ·have ap:(k != 2*(rd:Int)+1)=aa:=by simpa using q2
  rw[aM q2];clear q2;go_enter xE,xF;go_upto_region 1 with fail;rw[<-HW.o];go_quiet (first|(go_at_call 194;exact gv (H1.o _))|(go_at_call 256;exact gv (H2.o _))|(go_at_call 201;exact gv (O.o _)));go_wp2;go_ret;exact⟨rfl,HD.o _⟩
 have am:=I (ae.o q2);rw[am.o]at O;have ap:(k != 2*(rd:Int)+1)=Y:=by simpa using q2
 rw[aK q2,eE];clear q2 ae;have n1:=HS.o.jX u hu;have n2:=HS.o.jR u hu;have ag:=I (λm m'=>(HD.o m).trans ((below_drewN (W.drewN m) m').mono (HD.o m).size));cases q3:S.sn u;·rw[q3]at n1;clear q3;go_enter xE,xF;go_upto_region 1 with fail;rw[<-HW.o];go_quiet (first|(go_at_call 194;exact gv (H1.o _))|(go_at_call 256;exact gv (H2.o _))|(go_at_call 201;exact gv (O.o _)));go_wp2_with fail;go_quiet (fail);go_wp2;go_ret;exact⟨rfl,ag.o _ _⟩
 rw[q3]at n1;clear q3;rw[eE];cases q4:S.ct u;rotate_left;·rw[q4]at n2;clear q4;go_enter xE,xF;go_upto_region 1 with fail;rw[<-HW.o];go_quiet (first|(go_at_call 194;exact gv (H1.o _))|(go_at_call 256;exact gv (H2.o _))|(go_at_call 201;exact gv (O.o _)));go_wp2_with fail;go_quiet (fail);go_wp2;go_ret;exact⟨rfl,ag.o _ _⟩
 rw[q4]at n2;clear q4;go_enter xE,xF;go_upto_region 1 with fail;rw[<-HW.o];go_quiet (first|(go_at_call 194;exact gv (H1.o _))|(go_at_call 256;exact gv (H2.o _))|(go_at_call 201;exact gv (O.o _)));go_wp2_with fail;go_quiet (fail);go_wp2_with fail;refine aH (H4.o _ (below_drewN W _)) λW4 hb4=>?_;have B4:=I ((HD.o _).trans (hb4.mono (HD.o _).size));clear hb4;go_wp2;go_ret;exact⟨rfl,B4.o⟩
def fB (C:Cf)(s:Sv)(zs:List Int):Sv:=match cJ zs with
 |none=>s
 |some f=>iA C s f
def kQ (C:Cf)(s:Sv)(zs:List Int):Bool:=match cJ zs with
 |none=>Y
 |some f=>aB.counts C s f
structure iI (w w':ac)(b:Nat)(C:Cf)(s':Sv)(S S':SS):Prop where
 ba:jw w' b C s' S'
 aV:av (λx=>x=b) w w'
 aS:∀x,fL b S' x->fL b S x\/w.1.size<=x
 rest:∀i,76<=i->w'.cell? ⟨b,i,V⟩=w.cell? ⟨b,i,V⟩/\w'.frozen? ⟨b,i,V⟩=w.frozen? ⟨b,i,V⟩
theorem zV (h:jw w b C s S)(hb:af w.1.size w w'):iI w w' b C s S S:=
 ⟨h.below hb,av.bz hb,λ_ hx=>.inl hx,λi _=>⟨hb.cell (p:=⟨b,i,V⟩) h.ba.at_.lt,hb.frozen (p:=⟨b,i,V⟩) h.ba.at_.lt⟩⟩
theorem iI.then{w1 s' S'}(h:iI w w1 b C s' S S')(hb:af w1.1.size w1 w'):iI w w' b C s' S S':=
 ⟨h.ba.below hb,h.aV.grow hb,h.aS,λi hi=>by obtain⟨e1,e2⟩:=h.rest i hi;have hl:=h.ba.ba.at_.lt;exact⟨(hb.cell (p:=⟨b,i,V⟩) hl).trans e1,(hb.frozen (p:=⟨b,i,V⟩) hl).trans e2⟩⟩
theorem JR (h:jv w b C s S)(hp:s.o.1=0)(hr:bN l=aa):kH S u l=aB.shape C s.G s.rd u l:=by
 obtain⟨_,e2⟩:=h.now hp;unfold kH aB.shape;rw[e2];by_cases r1:s.rd=1
 ·rw[au (by omega),au r1,CE hr];rw[pM,lz,lz];have e:∀v,v<13->fR S.sn u Y v=aB.without (aB.mem (s.G 0)) u v:=λv hv=>by
   unfold fR aB.without;have e0:=h.sn hp v hv;rw[r1,ar (by decide)]at e0;by_cases c:v=u;·rw[au c,aM (by simpa using c),dZ]
   rw[ar c,aK c,uy,e0]
  exact⟨λa v hv=>(a v hv).trans (e v hv),λa v hv=>(a v hv).trans (e v hv).symm⟩
 rw[ar (by omega),ar r1];by_cases r2:s.rd=2;·rw[au (by omega),au r2,(h.i_ hp).2.2.1]
 rw[ar (by omega),ar r2];by_cases r3:s.rd=3
 ·rw[au (by omega),au r3,CE hr,TZ hr,Ar];congr 1
  ·rw[pM,fk,fk];have e:∀x∈l,S.sn x.1.toNat=aB.mem (s.G 2) x.1.toNat:=λx hx=>by have e0:=h.sn hp _ (yA hr x hx).1;rwa [r3,ar (by decide)]at e0
   exact⟨λa x hx=>by rw[<-e x hx];exact a x hx,λa x hx=>by rw[e x hx];exact a x hx⟩
  rw[pM,lz,lz];have e:=h.sh hp (by omega);exact⟨λa v hv=>(a v hv).trans (e v hv),λa v hv=>(a v hv).trans (e v hv).symm⟩
 rw[ar (by omega),ar r3]
theorem BO (h:jv w b C s S)(hs:s.o.1=0->gJ C s){k}(O:aq.okF k (u:Int) l=aa)(rd:Nat)(ac:S.rd=(rd:Int)):nQ S rd k u l=aB.counts C s (k,(u:Int),l):=by
 have hr:=(en O).2.2.1;have hu:u<13:=by have:=(mK O).2.2.2.2.1;omega
 unfold nQ aB.counts aB.pend;rw[h.st];by_cases hp:s.o.1=0;rotate_left;rw[aM hp];rfl;rw[aK hp,eE,eE];have hg:=(hs hp).good;have e:rd=s.rd:=by have:=(h.now hp).2;omega
 subst e;unfold aB.fits;show _=(decide (k=2*(s.rd:Int)+1)&&(decide ((u:Int)<=C.N)&&(!aB.mem (s.G s.rd) (u:Int).toNat&&((decide (s.rd=0)||aB.mem (s.G (s.rd-1)) (u:Int).toNat)&&aB.shape C s.G s.rd (u:Int).toNat l))));rw[ox,JR h hp hr,h.ct hp u hu,h.sn hp u hu];by_cases q2:k=2*(s.rd:Int)+1;rotate_left;rw[aM q2];rfl;rw[aK q2,eE,eE];have Y:1<=u:=by have:=(en O).2.1;unfold dv at this;rw[au (by have:=(hs hp).rd;omega),lY]at this;omega
 by_cases r0:s.rd=0;rw[au r0,aK r0,Bool.true_or,eE];congr 1;exact decide_eq_decide.2 ⟨λa=>a.2,λa=>⟨Y,a⟩⟩;rw[ar r0,aM r0,Bool.false_or];cases hm:aB.mem (s.G (s.rd-1)) u;·rw[iD,iD,dZ,dZ]
 rw[aK (hg.mem hm).2.2.1];rfl
theorem Ti (h:jv w b C s S)(hp:s.o.1=0)(hu:u<13){x}(hw:aR w' b {S with ct:=λv=>if v=u then aa else S.ct v,it:=jo S.it u x})(hx:aX w' x l)(O:x.ownBlock≠E b)(hs:w.1.size<=w'.1.size)(hb:∀y,y≠b->fL b S y->w'.1[y]? =w.1[y]?):
  jv w' b C {s with G:=dY s.G s.rd u l} {S with ct:=λv=>if v=u then aa else S.ct v,it:=jo S.it u x} where
 at_:=hw
 st:=h.st
 ro:=h.ro
 set:=h.set.keep hs λy hy=>hb y (λe=>h.gz.2.1 (e▸hy)) (.inr (.inr (.inr (.inl hy))))
 sum:=h.sum.keep hs λy hy=>hb y (λe=>h.gz.2.2 (e▸hy)) (.inr (.inr (.inr (.inr hy))))
 apart:=λv hv=>by show(jo S.it u x v).ownBlock≠E b;unfold jo;split;exact O;exact h.apart v hv
 gz:=h.gz
 zero:=h.zero
 np:=h.np
 i_:=h.i_
 now:=h.now
 sn:=λp v hv=>by
  show S.sn v=if s.rd=0 then _ else aB.mem (dY s.G s.rd u l (s.rd-1)) v;rw[h.sn p v hv];by_cases r:s.rd=0;·rw[au r,au r]
  rw[ar r,ar r,iV s.G s.rd u l (by omega)]
 ct:=λp v hv=>by show(if v=u then aa else S.ct v)=aB.mem (dY s.G s.rd u l s.rd) v;by_cases e:v=u;subst e;rw[au rfl];unfold aB.mem;rw[Ak];rfl;rw[ar e,h.ct p v hv];unfold aB.mem;rw[Aj s.G s.rd u l s.rd e]
 it:=λp v hv=>by
  show aX w' (jo S.it u x v) (aB.its (dY s.G s.rd u l s.rd) v);by_cases e:v=u;subst e;unfold jo;rw[au rfl,tU (Ak s.G s.rd v l)];exact hx;unfold jo;rw[ar e];have e2:aB.its (dY s.G s.rd u l s.rd) v=aB.its (s.G s.rd) v:=by unfold aB.its;rw[Aj s.G s.rd u l s.rd e]
  rw[e2];exact(h.it p v hv).keep hs λy hy=>hb y (λe=>h.apart v hv (e▸hy)) (.inr (.inl ⟨v,hv,hy⟩))
 pb:=λp r v hv=>by show S.pb v=gi (dY s.G s.rd u l) v;rw[h.pb p r v hv];unfold gi;rw[iV s.G s.rd u l (by have:1<=s.rd:=r;omega)]
 sh:=λp r v hv=>by show S.sh v=aB.mem (dY s.G s.rd u l 1) v;rw[h.sh p r v hv,iV s.G s.rd u l (by have:2<=s.rd:=r;omega)]
 ml:=λp r=>by
  have e:(λi=>iu (dY s.G s.rd u l) i%4294967296)=λi=>iu s.G i%4294967296:=by funext i;unfold iu yX;rw[iV s.G s.rd u l (by have:s.rd=3:=r;omega)]
  show aY w' S.ml ((List.range C.M.toNat).map λi=>iu (dY s.G s.rd u l) i%4294967296);rw[e];exact(h.ml p r).keep hs λy hy=>hb y (λe=>h.gz.1 (e▸hy)) (.inr (.inr (.inl hy)))
def ir (p:Nat->Bool)(L:Nat->List aq.It)(n:Nat):List aq.It:=(bV p n).map λv:Nat=>((v:Int),(aL (L v) v).2.1,(aL (L v) v).2.2.1,(0:Int))
def gK (p:Nat->Bool)(L:Nat->List aq.It)(u:Nat)(n:Nat):List aq.It:=(bV (aB.without p u) n).map λv:Nat=>((v:Int),(aL (L v) u).2.1,(aL (L v) u).2.2.1,(aL (L v) u).2.2.2)
def ik (p:Nat->Bool)(n:Nat):List aq.It:=(bV p n).map λv:Nat=>((v:Int),(0:Int),(0:Int),(0:Int))
theorem MH (p L n):ir p L (n+1)=ir p L n++(if p n=aa then[((n:Int),(aL (L n) n).2.1,(aL (L n) n).2.2.1,(0:Int))]else[]):=by unfold ir;rw[iM,cF];split<;>rfl
theorem HE (p L u n):gK p L u (n+1)=gK p L u n++(if aB.without p u n=aa then[((n:Int),(aL (L n) u).2.1,(aL (L n) u).2.2.1,(aL (L n) u).2.2.2)]else[]):=by unfold gK;rw[iM,cF];split<;>rfl
theorem G_ (p n):ik p (n+1)=ik p n++(if p n=aa then[((n:Int),(0:Int),(0:Int),(0:Int))]else[]):=by unfold ik;rw[iM,cF];split<;>rfl
theorem MG (p L n):(ir p L n).length<=n:=by unfold ir;rw[dI];exact gC _ _
theorem HC (p L u n):(gK p L u n).length<=n:=by unfold gK;rw[dI];exact gC _ _
theorem GZ (p n):(ik p n).length<=n:=by unfold ik;rw[dI];exact gC _ _
theorem tT (h:aX w v l):∃a n c,v=.slice a n c:=by obtain⟨a,cap,e,_⟩:=h;exact⟨a,_,cap,e⟩
theorem MK (L)(h:aR w b S)(hL:∀v,v<13->aX w (S.it v) (L v)):
  ay prog 286 #[aC (E ⟨b,0,V⟩)] w λe w'=>∃va,e=az va/\w'.ownsRow w.1.size 147 4 va (ir S.ct L 13).length (bD (ir S.ct L 13))/\af w.1.size w w':=by
 obtain⟨i1,aF,aG,aI,aJ⟩:=bO lj;have ai:=I h.qg;have LX:=I (eN S.ct);have ag:=I (nV S.ct);have aB:=I (λ(w1:ac) (k:Nat) (hk:k<13) (hb:af w.1.size w w1)=>(h.below hb).vw k hk);have aw:=I (λ(k:Nat) (hk:k<13)=>tT (hL k hk));have au:=I (λ(w1:ac) (k:Nat) (hk:k<13) (hb:af w.1.size w w1)=>ug (k:Int) ((hL k hk).below hb));clear h hL;generalize S.ct=p at*;generalize S.it=it at*;obtain⟨CS,am⟩:=aj (aN p);rw[<-am]at ai LX ag;clear am;go_enter func286,ntmps286;go_wp2_with(refine eM rfl 101 _ rfl b 19 rfl CS _ ai.o iX rfl ?z ?_);case z=>rw[gu,LX.o]
 go_wp2;go_loopw [3,11] (λro i wr=>∃k:Nat,k<=13/\i=Z J k/\wr.ownsRow w.1.size 147 4 ro (ir p L k).length (bD (ir p L k))/\af w.1.size w wr) (λ_ i _=>13-(aA i).toNat);case atStart=>exact⟨0,by omega,rfl,dp _ _ _ _,ax _ _⟩
 obtain⟨k,hk,rfl,hown,ae⟩:=hrel;have HO:=I hown;have O:=I ae;have hsz:=ae.size;obtain⟨a3,c3,hv3⟩:=a_ hown;subst hv3;clear hown ae;have aK:=MG p L k;have ak:=I (MH p L k);by_cases hlt:k<13
 ·have aM:(k:Int)<13:=by omega
  have ar:=ag.o k hlt;cases q:p k
  ·rw[q]at ar;have aa:=A (ir p L (k+1)=ir p L k) (by rw[ak.o,q];simp);clear q;go_wp2;go_roundw;case rel=>exact⟨k+1,by omega,by go_num,by rw[aa.o];exact HO.o,O.o⟩
   simp[aA];omega
  rw[q]at ar;have aa:=A (ir p L (k+1)=ir p L k++[((k:Int),(aL (L k) (k:Int)).2.1,(aL (L k) (k:Int)).2.2.1,(0:Int))]) (by rw[ak.o,q];simp);clear q;have ci:=aB.o wr k hlt O.o;have CI:=I (au.o wr k hlt O.o);obtain⟨fa,fn,fc,hf⟩:=aw.o k hlt;rw[hf]at ci CI;clear hf;unfold qC at CI;obtain⟨y0,Y,y2,y3,hy⟩:∃y0 Y y2 y3,aL (L k) (k:Int)=(y0,Y,y2,y3):=⟨_,_,_,_,rfl⟩;rw[hy]at CI aa;clear hy;go_wp2_with fail;refine aH CI.o λw1 hb1=>?_;have s1:=hb1.size;have B1:=I (O.o.trans (hb1.mono O.o.size));have O1:=I (bf (S:=λ_=>False) HO.o (av.bz hb1) (λ_ _ h=>h));clear hb1;go_wp2_with(at_builtin;refine eF _ rfl _ _ 63 rfl w.1.size 147 i1 (aD #[Z J 0,Z J 0,Z J 0,Z J 0]) 4 32 iG aF aG aI aJ rfl (by decide) _ _ _ rfl ((O1.o.alloc _).alloc _) ⟨w1.1.size+1,0,V⟩ 1 1 [Z J k,Z J Y,Z J y2,Z J 0] rfl rfl ?c1 ?c2 ?c3 ?c4 ?c5 ?_);case c1=>have:=jS (w1.alloc (ah #[Z J y0,Z J Y,Z J y2,Z J y3] 147)) (Z J k) (Z J Y) (Z J y2) (Z J 0) 147;simpa using this
  case c2=>intro u hu;simp at hu;rcases hu with rfl|rfl|rfl|rfl<;>rfl
  case c3=>unfold maxLen;omega
  case c4=>omega
  case c5=>simp;omega
  intro v' w4 hown' ap _;have hb4:=((B1.o.alloc (by omega) _).alloc (by simp;omega) _).grown ap (by simp;omega) (λy hy=>(O1.o.lt y hy).1);have B4:=I hb4;have O4:=I (show w4.ownsRow w.1.size 147 4 v' (ir p L (k+1)).length (bD (ir p L (k+1)))by rw[aa.o,jc,cy];exact hown');clear hown' ap hb4;go_wp2;go_roundw;case rel=>exact⟨k+1,by omega,by go_num,O4.o,B4.o⟩
  simp[aA];omega
 have ek:k=13:=by omega
 subst ek;go_wp2;go_ret;exact⟨_,rfl,HO.o,O.o⟩
theorem HB (L)(u:Nat)(h:aR w b S)(hL:∀v,v<13->aX w (S.it v) (L v)):
  ay prog 287 #[aC (E ⟨b,0,V⟩),Z J (u:Int)] w λe w'=>∃va,e=az va/\w'.ownsRow w.1.size 147 4 va (gK S.ct L u 13).length (bD (gK S.ct L u 13))/\af w.1.size w w':=by
 obtain⟨i1,aI,aJ,aO,aP⟩:=bO lj;have am:=I h.qg;have LX:=I (eN S.ct);have ak:=I (nV S.ct);have aG:=I (λ(w1:ac) (k:Nat) (hk:k<13) (hb:af w.1.size w w1)=>(h.below hb).vw k hk);have aF:=I (λ(k:Nat) (hk:k<13)=>tT (hL k hk));have aw:=I (λ(w1:ac) (k:Nat) (hk:k<13) (hb:af w.1.size w w1)=>ug (u:Int) ((hL k hk).below hb));clear h hL;generalize S.ct=p at*;generalize S.it=it at*;obtain⟨CS,ap⟩:=aj (aN p);rw[<-ap]at am LX ak;clear ap;go_enter func287,ntmps287;go_wp2_with(refine eM rfl 101 _ rfl b 19 rfl CS _ am.o iX rfl ?z ?_);case z=>rw[gu,LX.o]
 go_wp2;go_loopw [5,13] (λro i wr=>∃k:Nat,k<=13/\i=Z J k/\wr.ownsRow w.1.size 147 4 ro (gK p L u k).length (bD (gK p L u k))/\af w.1.size w wr) (λ_ i _=>13-(aA i).toNat);case atStart=>exact⟨0,by omega,rfl,dp _ _ _ _,ax _ _⟩
 obtain⟨k,hk,rfl,hown,ai⟩:=hrel;have HO:=I hown;have O:=I ai;have hsz:=ai.size;obtain⟨a3,c3,hv3⟩:=a_ hown;subst hv3;clear hown ai;have aS:=HC p L u k;have ag:=I (HE p L u k);by_cases hlt:k<13
 ·have aT:(k:Int)<13:=by omega
  have au:=ak.o k hlt;cases q:p k
  ·rw[q]at au;have ae:=A (gK p L u (k+1)=gK p L u k) (by rw[ag.o];unfold aB.without;rw[q];simp);clear q;go_wp2;go_roundw;case rel=>exact⟨k+1,by omega,by go_num,by rw[ae.o];exact HO.o,O.o⟩
   simp[aA];omega
  rw[q]at au;by_cases q2:(k:Int)=(u:Int)
  ·have aQ:((k:Int) != (u:Int))=Y:=by simpa using q2
   have ae:=A (gK p L u (k+1)=gK p L u k) (by rw[ag.o];unfold aB.without;rw[aM (by omega),dZ];simp);clear q q2;go_wp2;go_roundw;case rel=>exact⟨k+1,by omega,by go_num,by rw[ae.o];exact HO.o,O.o⟩
   simp[aA];omega
  have aQ:((k:Int) != (u:Int))=aa:=by simpa using q2
  have ae:=A (gK p L u (k+1)=gK p L u k++[((k:Int),(aL (L k) (u:Int)).2.1,(aL (L k) (u:Int)).2.2.1,(aL (L k) (u:Int)).2.2.2)]) (by rw[ag.o];unfold aB.without;rw[q,aK (by omega)];simp);clear q q2;have ci:=aG.o wr k hlt O.o;have CI:=I (aw.o wr k hlt O.o);obtain⟨fa,fn,fc,hf⟩:=aF.o k hlt;rw[hf]at ci CI;clear hf;unfold qC at CI;obtain⟨y0,y1,y2,y3,hy⟩:∃y0 y1 y2 y3,aL (L k) (u:Int)=(y0,y1,y2,y3):=⟨_,_,_,_,rfl⟩;rw[hy]at CI ae;clear hy;go_wp2_with fail;refine aH CI.o λw1 hb1=>?_;have s1:=hb1.size;have B1:=I (O.o.trans (hb1.mono O.o.size));have O1:=I (bf (S:=λ_=>False) HO.o (av.bz hb1) (λ_ _ h=>h));clear hb1;go_wp2_with(at_builtin;refine eF _ rfl _ _ 63 rfl w.1.size 147 i1 (aD #[Z J 0,Z J 0,Z J 0,Z J 0]) 4 32 iG aI aJ aO aP rfl (by decide) _ _ _ rfl ((O1.o.alloc _).alloc _) ⟨w1.1.size+1,0,V⟩ 1 1 [Z J k,Z J y1,Z J y2,Z J y3] rfl rfl ?c1 ?c2 ?c3 ?c4 ?c5 ?_);case c1=>have:=jS (w1.alloc (ah #[Z J y0,Z J y1,Z J y2,Z J y3] 147)) (Z J k) (Z J y1) (Z J y2) (Z J y3) 147;simpa using this
  case c2=>intro u hu;simp at hu;rcases hu with rfl|rfl|rfl|rfl<;>rfl
  case c3=>unfold maxLen;omega
  case c4=>omega
  case c5=>simp;omega
  intro v' w4 hown' ar _;have hb4:=((B1.o.alloc (by omega) _).alloc (by simp;omega) _).grown ar (by simp;omega) (λy hy=>(O1.o.lt y hy).1);have B4:=I hb4;have O4:=I (show w4.ownsRow w.1.size 147 4 v' (gK p L u (k+1)).length (bD (gK p L u (k+1)))by rw[ae.o,jc,cy];exact hown');clear hown' ar hb4;go_wp2;go_roundw;case rel=>exact⟨k+1,by omega,by go_num,O4.o,B4.o⟩
  simp[aA];omega
 have ek:k=13:=by omega
 subst ek;go_wp2;go_ret;exact⟨_,rfl,HO.o,O.o⟩
theorem Ha (h:aR w b S):
  ay prog 288 #[aC (E ⟨b,0,V⟩)] w λe w'=>∃va,e=az va/\w'.ownsRow w.1.size 147 4 va (ik S.ct 13).length (bD (ik S.ct 13))/\af w.1.size w w':=by
 obtain⟨i1,am,ap,aq,ar⟩:=bO lj;have ae:=I h.qg;have LX:=I (eN S.ct);have ac:=I (nV S.ct);clear h;generalize S.ct=p at*;generalize S.it=it at*;obtain⟨CS,ah⟩:=aj (aN p);rw[<-ah]at ae LX ac;clear ah;go_enter func288,ntmps288;go_wp2_with(refine eM rfl 101 _ rfl b 19 rfl CS _ ae.o iX rfl ?z ?_);case z=>rw[gu,LX.o]
 go_wp2;go_loopw [3,10] (λro i wr=>∃k:Nat,k<=13/\i=Z J k/\wr.ownsRow w.1.size 147 4 ro (ik p k).length (bD (ik p k))/\af w.1.size w wr) (λ_ i _=>13-(aA i).toNat);case atStart=>exact⟨0,by omega,rfl,dp _ _ _ _,ax _ _⟩
 obtain⟨k,hk,rfl,hown,aa⟩:=hrel;have HO:=I hown;have O:=I aa;have hsz:=aa.size;obtain⟨a3,c3,hv3⟩:=a_ hown;subst hv3;clear hown aa;have au:=GZ p k;have ag:=I (G_ p k);by_cases hlt:k<13
 ·have av:(k:Int)<13:=by omega
  have ak:=ac.o k hlt;cases q:p k
  ·rw[q]at ak;have Y:=A (ik p (k+1)=ik p k) (by rw[ag.o,q];simp);clear q;go_wp2;go_roundw;case rel=>exact⟨k+1,by omega,by go_num,by rw[Y.o];exact HO.o,O.o⟩
   simp[aA];omega
  rw[q]at ak;have Y:=A (ik p (k+1)=ik p k++[((k:Int),(0:Int),(0:Int),(0:Int))]) (by rw[ag.o,q];simp);clear q;go_wp2_with(at_builtin;refine eF _ rfl _ _ 63 rfl w.1.size 147 i1 (aD #[Z J 0,Z J 0,Z J 0,Z J 0]) 4 32 iG am ap aq ar rfl (by decide) _ _ _ rfl (HO.o.alloc _) ⟨wr.1.size,0,V⟩ 1 1 [Z J k,Z J 0,Z J 0,Z J 0] rfl rfl ?c1 ?c2 ?c3 ?c4 ?c5 ?_);case c1=>exact jS _ _ _ _ _ _
  case c2=>intro u hu;simp at hu;rcases hu with rfl|rfl|rfl|rfl<;>rfl
  case c3=>unfold maxLen;omega
  case c4=>omega
  case c5=>simp;omega
  intro v' w4 hown' ai _;have hb4:=(O.o.alloc hsz _).grown ai (by simp;omega) (λy hy=>(HO.o.lt y hy).1);have B4:=I hb4;have O4:=I (show w4.ownsRow w.1.size 147 4 v' (ik p (k+1)).length (bD (ik p (k+1)))by rw[Y.o,jc,cy];exact hown');clear hown' ai hb4;go_wp2;go_roundw;case rel=>exact⟨k+1,by omega,by go_num,O4.o,B4.o⟩
  simp[aA];omega
 have ek:k=13:=by omega
 subst ek;go_wp2;go_ret;exact⟨_,rfl,HO.o,O.o⟩
end Go.Proofs.YtchideljndagjabGreat


