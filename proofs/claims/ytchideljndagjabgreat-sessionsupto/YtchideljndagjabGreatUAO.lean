/- Joined -/
import Derived.Test.YtchideljndagjabGreatUAN
import Derived.Deep.AppendLies
import Derived.Deep.RegionLaw
set_option linter.unusedVariables false
set_option maxHeartbeats 4000000
set_option maxRecDepth 100000
namespace Go.Proofs.YtchideljndagjabGreat
open aq aO
open Go.Value renaming int->Z,slice->U,pointer->aC,agg->aD
open Go.IntKind renaming i64->J
open Go.Obj renaming cells->ah
open Or renaming inl->ae,inr->Q
open Option renaming none->V,some->E
open Bool renaming false->Y,true->aa
open Go renaming World->ac,Value->ag,Calls->ay
open Go.RowKit renaming Below->af,intOf->aA
abbrev Gc:=@List.getElem_append_left
abbrev AO:=@step_append_lies
abbrev AM:=@World.news_of_block
open Go.Proofs.Tryz
open Go.ChangeShapes Go.WideShapes Go.ChangeAt Go.RowKit
variable {k:Int}{hh:List aO.Fr}{zs:List Int}{vs:List ag}{b pw:Nat}{o:Option aO.Fr}{s:RS}{v va:ag}{w w' w1:ac}
theorem Kk{b m}:(gL k b m).length=m:=by simp[gL]
theorem Kl (k b m):gL k b (m+1)=gL k b m++[gI k b (3+m*aq.size k)]:=by unfold gL;rw[mm,cF];rfl
theorem yv{b}(hb:cY b){a}:bq (gN b a):=by have h0:=vV hb a 8;rw[Dc]at h0;unfold bq gN;split<;>omega
theorem Kh{b}(hb:cY b)(k){a}:iK (gI k b a):=by
 have z:bq 0:=by unfold bq;omega
 have h0:=dJ hb a;refine⟨?_,?_,?_,?_⟩;show bq (aW b a);unfold bq;omega;·show bq (if 1<=bh k then gN b (a+1)else 0);split;exact yv hb;exact z
 ·show bq (if 2<=bh k then gN b (a+9)else 0);split;exact yv hb;exact z
 show bq (if 3<=bh k then gN b (a+17)else 0);split;exact yv hb;exact z
theorem Kj{b}(hb:cY b){m}:∀x∈gL k b m,iK x:=by intro x hx;unfold gL at hx;obtain⟨i,_,rfl⟩:=cq.1 hx;exact Kh hb k
theorem Kt (h:bX w v zs)(h3:3<=zs.length):
  ay prog 170 #[v] w λe w'=>∃va,e=.returned (aD #[Z J (aW zs 0),Z J (aW zs 1),va])/\∃m,GM zs m/\w'.ownsRow w.1.size 147 4 va m (bD (gL (aW zs 0) zs m))/\af w.1.size w w':=by
 obtain⟨i1,aL,aM,aO,aP⟩:=bO lj;have HM:=bj w λw1 hb=>h.below hb;obtain⟨a,cap,rfl,l2,l3,hb,hc⟩:=eC h;have HB:=I hb;have HC:=I hc;clear h hb hc;obtain⟨L,hL⟩:=aj zs.length;rw[<-hL]at l2 HM HC h3 ⊢;have HL:=I hL;clear hL;obtain⟨b,off,rfl,hlt,c0⟩:=HC.o 0 (by omega);obtain⟨b',aZ,ea,_,c1⟩:=HC.o 1 (by omega);simp only[Option.some.injEq,Addr.mk.injEq,and_true]at ea;obtain⟨rfl,rfl⟩:=ea;obtain⟨b',aZ,ea,_,c2⟩:=HC.o 2 (by omega);simp only[Option.some.injEq,Addr.mk.injEq,and_true]at ea;obtain⟨rfl,rfl⟩:=ea;rw[lM]at c0;have B0:=dJ HB.o 0;have B1:=dJ HB.o 1;have B2:=dJ HB.o 2;have aB:=I (λm (h1:m<=(aW zs 2).toNat)(h2:m=(aW zs 2).toNat\/zs.length<=3+m*aq.size (aW zs 0))=>(show GM zs m from⟨h1,h2⟩));obtain⟨k,hk⟩:=aj (aW zs 0);obtain⟨fr,aV⟩:=aj (aW zs 1);obtain⟨n,hn⟩:∃n:Nat,n=(aW zs 2).toNat:=⟨_,rfl⟩;have aX:aW zs 2=(n:Int):=by omega
 rw[<-hk]at c0 B0 aB ⊢;rw[<-aV]at c1 B1 ⊢;rw[<-hn,<-HL.o]at aB;rw[aX]at c2 B2;clear hk aV hn aX;have hs:=jL k;have aU:=I (λm=>Kl k zs m);have aT:=I (λq=>(show gI k zs q=(aW zs q,if 1<=bh k then gN zs (q+1)else 0,if 2<=bh k then gN zs (q+9)else 0,if 3<=bh k then gN zs (q+17)else 0)from rfl));obtain⟨W,aK⟩:=aj (bh k);obtain⟨S,aR⟩:=aj (aq.size k);have hS:S=1+8*W:=by rw[aR,aK];rfl
 rw[<-aR]at aB aU;rw[<-aK]at aT hs;have ba:=I aK;have bk:S<=25:=by omega
 have aJ:=I hS;clear aR aK hS;go_enter func170,ntmps170;go_wp2_with fail
 go_cut [3]from 8 to 16 (λs wc=>s=aC (E ⟨w.1.size+1,0,V⟩)/\wc.1[w.1.size]?=E (ah #[Z J 0,Z J 0,U V 0 0] 65 (0,0))/\
  wc.1[w.1.size+1]?=E (ah #[Z J k,Z J fr,U V 0 0] 65 (0,0))/\af w.1.size w wc/\w.1.size+2<=wc.1.size);case first=> go_region;all_goals(go_wp2;go_meet;exact⟨rfl,my w _ _,jN w _ _,by go_grown,by simp⟩)
 obtain⟨rfl,aa,O,au,hsz⟩:=hcut;have d0:wc.cell? ⟨w.1.size+1,0,V⟩=E (Z J k):=by simp only[World.cell?,O];rfl
 have G8:=I aa;have G9:=I O;have BL:=I au;clear aa O au c0 c1;go_wp2_with fail;refine(FA (0,0,0,0)).mono ?_;rintro e w1 ⟨aN,rfl,_,hb1⟩;rw[<-ba.o];have s1:=hb1.size;have K8:=I ((hb1.block w.1.size (by omega)).trans G8.o);have K9:=I ((hb1.block (w.1.size+1) (by omega)).trans G9.o);have L1:=I (BL.o.trans (hb1.mono (by omega)));clear hb1 d0;go_wp2
 go_loopw [5,6] (λq i wr=>∃(m M:Nat)(va:ag),M=m*S/\m<=n/\q=Z J (3+(M:Int))/\i=Z J (m:Int)/\wr.1[w.1.size]?=E (ah #[Z J 0,Z J 0,U V 0 0] 65 (0,0))/\
  wr.1[w.1.size+1]?=E (ah #[Z J k,Z J fr,va] 65 (0,0))/\wr.ownsRow (w.1.size+2) 147 4 va m (bD (gL k zs m))/\af w.1.size w wr/\w.1.size+2<=wr.1.size) (λ_ i _=>n-(aA i).toNat);case atStart=>exact⟨0,0,U V 0 0,by omega,by omega,rfl,rfl,K8.o,K9.o,dp _ _ _ _,L1.o,by omega⟩
 clear K8 K9 L1 s1 G8 G9 BL hsz;obtain⟨m,M,va,hM,bp,rfl,rfl,aa,O,hown,au,hsz⟩:=hrel;obtain⟨a',c',hv'⟩:=a_ hown;subst hv';have az:=I hM;have bo:M<=255*25:=by rw[hM];exact uJ (by omega) bk
 have G8:=I aa;have G9:=I O;have OW:=I hown;have BL:=I au;have BA:=I (HM.o _ au);have e2:=au.cell (p:=⟨b,off+2,V⟩) hlt;rw[c2]at e2;by_cases t1:m<n
 ·have bl:(m:Int)<(n:Int):=by omega
  by_cases t2:3+M<L
  ·have bm:(3:Int)+(M:Int)<(L:Int):=by omega
   obtain⟨b',aZ,ea,_,cq⟩:=HC.o (3+M) t2;simp only[Option.some.injEq,Addr.mk.injEq,and_true]at ea;obtain⟨rfl,rfl⟩:=ea;have e3:=au.cell (p:=⟨b,off+(3+M),V⟩) hlt;rw[cq]at e3;have BQ:=dJ HB.o (3+M);obtain⟨xi,aY⟩:=aj (aW zs (3+M));have aH:=A (gL k zs (m+1)=gL k zs m++[gI k zs (3+M)]) (by rw[aU.o,az.o]);have aF:=I (aT.o (3+M));rw[<-aY]at e3 BQ aF;clear aa O hown au hM cq aY;have bn:((3:Int)+(M:Int)).toNat=3+M:=by omega
   rcases(show W=0\/W=1\/W=2\/W=3 by omega)with rfl|rfl|rfl|rfl
   ·have ar:=A (gI k zs (3+M)=(xi,0,0,0)) aF.o;have d2:wr.cell? ⟨w.1.size+1,2,V⟩=E (U a' m c'):=by simp only[World.cell?,G9.o];rfl
    have A2:∀ob,(wr.alloc ob).cell? ⟨w.1.size+1,2,V⟩=E (U a' m c'):=λob=>by rw[((ax wr.1.size wr).alloc (aw _) ob).cell (p:=⟨w.1.size+1,2,V⟩) (by simp;omega)];exact d2
    go_wp2_with(at_builtin;refine eF _ rfl _ _ 63 rfl (w.1.size+2) 147 i1 (aD #[Z J 0,Z J 0,Z J 0,Z J 0]) 4 32 iG aL aM aO aP rfl (by decide) _ _ _ rfl ((OW.o.alloc _).alloc _) ⟨wr.1.size+1,0,V⟩ 1 1 [Z J xi,Z J 0,Z J 0,Z J 0] rfl rfl ?c1 ?c2 ?c3 ?c4 ?c5 ?_);case c1=> have:=jS (wr.alloc (ah #[Z J xi,Z J 0,Z J 0,Z J 0] 147)) (Z J xi) (Z J 0) (Z J 0) (Z J 0) 147;simpa using this
    case c2=>intro y hy;simp at hy;rcases hy with rfl|rfl<;>rfl
    case c3=>unfold maxLen;omega
    case c4=>omega
    case c5=>simp;omega
    intro v' w2 hown' ac _;obtain⟨a2,ak,hv2⟩:=a_ hown';subst hv2;have z2:=ac.size;simp at z2;have ai:∀g,g<w.1.size+2->(Value.slice a' m c').ownBlock≠E g:=λg hg e=>by have:=(OW.o.lt g e).1;omega
    have O:w2.1[w.1.size+1]?=E (ah #[Z J k,Z J fr,U a' m c'] 65 (0,0)):=by rw[ac.block _ (by simp;omega) (λe=>ai _ (by omega) e.symm),gf _ _ _ (by simp;omega),gf _ _ _ (by omega)];exact G9.o
    have aa:w2.1[w.1.size]?=E (ah #[Z J 0,Z J 0,U V 0 0] 65 (0,0)):=by rw[ac.block _ (by simp;omega) (λe=>ai _ (by omega) e.symm),gf _ _ _ (by simp;omega),gf _ _ _ (by omega)];exact G8.o
    have am:af w.1.size w w2:=(((BL.o.alloc (by omega) _).alloc (by simp;omega) _).grown ac (by simp;omega) (λy hy=>by have:=(OW.o.lt y hy).1;omega));have O2:=A (w2.ownsRow (w.1.size+2) 147 4 (U a2 (m+1) ak) (m+1) (bD (gL k zs (m+1)))) (by rw[aH.o,ar.o,jc];exact hown');have J8:=I aa;have J9:=I O;have L2:=I am;have y2:w2.cell? ⟨w.1.size+1,2,V⟩=E (U a' m c'):=by simp only[World.cell?,O];rfl
    have f2:w2.frozen? ⟨w.1.size+1,2,V⟩=Y:=by simp[World.frozen?,O]
    clear hown' ac aa O am ai d2 A2;go_wp2;go_roundw;case rel=>
     refine⟨m+1,M+1,U a2 (m+1) ak,?_,by omega,?_,by go_num,?_,?_,?_,?_,?_⟩;·(rw[kV,<-az.o,aJ.o])<;>omega
     ·(congr 1)<;>omega
     rw[fI _ _ _ _ (by simp)];exact J8.o;exact bI w2 (w.1.size+1) 2 #[Z J k,Z J fr,U a' m c'] 65 _ J9.o;exact bf (S:=λx=>x=w.1.size+1) O2.o (av.setCell w2 ⟨w.1.size+1,2,V⟩ _) (λx hx e=>by have:=(O2.o.lt x hx).1;omega);exact L2.o.setCell (p:=⟨w.1.size+1,2,V⟩) (by simp) _;simp[World.setCell];omega
    simp[aA];omega
   ·have ar:=A (gI k zs (3+M)=(xi,gN zs (3+M+1),0,0)) aF.o;obtain⟨ga,ap⟩:∃x,x=gN zs (3+M+1):=⟨_,rfl⟩;rw[<-ap]at ar;have aG:=I ap;clear ap;go_wp2_with fail;refine aI (sx (3+M+1) (BA.o.below (by go_grown)) (by omega) (by omega)) ?_;rw[<-aG.o];have d2:wr.cell? ⟨w.1.size+1,2,V⟩=E (U a' m c'):=by simp only[World.cell?,G9.o];rfl
    have A2:∀ob,(wr.alloc ob).cell? ⟨w.1.size+1,2,V⟩=E (U a' m c'):=λob=>by rw[((ax wr.1.size wr).alloc (aw _) ob).cell (p:=⟨w.1.size+1,2,V⟩) (by simp;omega)];exact d2
    go_wp2_with(at_builtin;refine eF _ rfl _ _ 63 rfl (w.1.size+2) 147 i1 (aD #[Z J 0,Z J 0,Z J 0,Z J 0]) 4 32 iG aL aM aO aP rfl (by decide) _ _ _ rfl ((OW.o.alloc _).alloc _) ⟨wr.1.size+1,0,V⟩ 1 1 [Z J xi,Z J ga,Z J 0,Z J 0] rfl rfl ?c1 ?c2 ?c3 ?c4 ?c5 ?_);case c1=> have:=jS (wr.alloc (ah #[Z J xi,Z J ga,Z J 0,Z J 0] 147)) (Z J xi) (Z J ga) (Z J 0) (Z J 0) 147;simpa using this
    case c2=>intro y hy;simp at hy;rcases hy with rfl|rfl|rfl<;>rfl
    case c3=>unfold maxLen;omega
    case c4=>omega
    case c5=>simp;omega
    intro v' w2 hown' ac _;obtain⟨a2,ak,hv2⟩:=a_ hown';subst hv2;have z2:=ac.size;simp at z2;have ai:∀g,g<w.1.size+2->(Value.slice a' m c').ownBlock≠E g:=λg hg e=>by have:=(OW.o.lt g e).1;omega
    have O:w2.1[w.1.size+1]?=E (ah #[Z J k,Z J fr,U a' m c'] 65 (0,0)):=by rw[ac.block _ (by simp;omega) (λe=>ai _ (by omega) e.symm),gf _ _ _ (by simp;omega),gf _ _ _ (by omega)];exact G9.o
    have aa:w2.1[w.1.size]?=E (ah #[Z J 0,Z J 0,U V 0 0] 65 (0,0)):=by rw[ac.block _ (by simp;omega) (λe=>ai _ (by omega) e.symm),gf _ _ _ (by simp;omega),gf _ _ _ (by omega)];exact G8.o
    have am:af w.1.size w w2:=(((BL.o.alloc (by omega) _).alloc (by simp;omega) _).grown ac (by simp;omega) (λy hy=>by have:=(OW.o.lt y hy).1;omega));have O2:=A (w2.ownsRow (w.1.size+2) 147 4 (U a2 (m+1) ak) (m+1) (bD (gL k zs (m+1)))) (by rw[aH.o,ar.o,jc];exact hown');have J8:=I aa;have J9:=I O;have L2:=I am;have y2:w2.cell? ⟨w.1.size+1,2,V⟩=E (U a' m c'):=by simp only[World.cell?,O];rfl
    have f2:w2.frozen? ⟨w.1.size+1,2,V⟩=Y:=by simp[World.frozen?,O]
    clear hown' ac aa O am ai d2 A2;go_wp2;go_roundw;case rel=>
     refine⟨m+1,M+9,U a2 (m+1) ak,?_,by omega,?_,by go_num,?_,?_,?_,?_,?_⟩;·(rw[kV,<-az.o,aJ.o])<;>omega
     ·(congr 1)<;>omega
     rw[fI _ _ _ _ (by simp)];exact J8.o;exact bI w2 (w.1.size+1) 2 #[Z J k,Z J fr,U a' m c'] 65 _ J9.o;exact bf (S:=λx=>x=w.1.size+1) O2.o (av.setCell w2 ⟨w.1.size+1,2,V⟩ _) (λx hx e=>by have:=(O2.o.lt x hx).1;omega);exact L2.o.setCell (p:=⟨w.1.size+1,2,V⟩) (by simp) _;simp[World.setCell];omega
    simp[aA];omega
   ·have ar:=A (gI k zs (3+M)=(xi,gN zs (3+M+1),gN zs (3+M+9),0)) aF.o;obtain⟨ga,ap⟩:∃x,x=gN zs (3+M+1):=⟨_,rfl⟩;obtain⟨gb,hgb⟩:∃x,x=gN zs (3+M+9):=⟨_,rfl⟩;rw[<-ap,<-hgb]at ar;have aG:=I ap;clear ap;have aQ:=I hgb;clear hgb;go_wp2_with fail;refine aI (sx (3+M+1) (BA.o.below (by go_grown)) (by omega) (by omega)) ?_;rw[<-aG.o];go_wp2_with fail;refine aI (sx (3+M+9) (BA.o.below (by go_grown)) (by omega) (by omega)) ?_;rw[<-aQ.o];have d2:wr.cell? ⟨w.1.size+1,2,V⟩=E (U a' m c'):=by simp only[World.cell?,G9.o];rfl
    have A2:∀ob,(wr.alloc ob).cell? ⟨w.1.size+1,2,V⟩=E (U a' m c'):=λob=>by rw[((ax wr.1.size wr).alloc (aw _) ob).cell (p:=⟨w.1.size+1,2,V⟩) (by simp;omega)];exact d2
    go_wp2_with(at_builtin;refine eF _ rfl _ _ 63 rfl (w.1.size+2) 147 i1 (aD #[Z J 0,Z J 0,Z J 0,Z J 0]) 4 32 iG aL aM aO aP rfl (by decide) _ _ _ rfl ((OW.o.alloc _).alloc _) ⟨wr.1.size+1,0,V⟩ 1 1 [Z J xi,Z J ga,Z J gb,Z J 0] rfl rfl ?c1 ?c2 ?c3 ?c4 ?c5 ?_);case c1=> have:=jS (wr.alloc (ah #[Z J xi,Z J ga,Z J gb,Z J 0] 147)) (Z J xi) (Z J ga) (Z J gb) (Z J 0) 147;simpa using this
    case c2=>intro y hy;simp at hy;rcases hy with rfl|rfl|rfl|rfl<;>rfl
    case c3=>unfold maxLen;omega
    case c4=>omega
    case c5=>simp;omega
    intro v' w2 hown' ac _;obtain⟨a2,ak,hv2⟩:=a_ hown';subst hv2;have z2:=ac.size;simp at z2;have ai:∀g,g<w.1.size+2->(Value.slice a' m c').ownBlock≠E g:=λg hg e=>by have:=(OW.o.lt g e).1;omega
    have O:w2.1[w.1.size+1]?=E (ah #[Z J k,Z J fr,U a' m c'] 65 (0,0)):=by rw[ac.block _ (by simp;omega) (λe=>ai _ (by omega) e.symm),gf _ _ _ (by simp;omega),gf _ _ _ (by omega)];exact G9.o
    have aa:w2.1[w.1.size]?=E (ah #[Z J 0,Z J 0,U V 0 0] 65 (0,0)):=by rw[ac.block _ (by simp;omega) (λe=>ai _ (by omega) e.symm),gf _ _ _ (by simp;omega),gf _ _ _ (by omega)];exact G8.o
    have am:af w.1.size w w2:=(((BL.o.alloc (by omega) _).alloc (by simp;omega) _).grown ac (by simp;omega) (λy hy=>by have:=(OW.o.lt y hy).1;omega));have O2:=A (w2.ownsRow (w.1.size+2) 147 4 (U a2 (m+1) ak) (m+1) (bD (gL k zs (m+1)))) (by rw[aH.o,ar.o,jc];exact hown');have J8:=I aa;have J9:=I O;have L2:=I am;have y2:w2.cell? ⟨w.1.size+1,2,V⟩=E (U a' m c'):=by simp only[World.cell?,O];rfl
    have f2:w2.frozen? ⟨w.1.size+1,2,V⟩=Y:=by simp[World.frozen?,O]
    clear hown' ac aa O am ai d2 A2;go_wp2;go_roundw;case rel=>
     refine⟨m+1,M+17,U a2 (m+1) ak,?_,by omega,?_,by go_num,?_,?_,?_,?_,?_⟩;·(rw[kV,<-az.o,aJ.o])<;>omega
     ·(congr 1)<;>omega
     rw[fI _ _ _ _ (by simp)];exact J8.o;exact bI w2 (w.1.size+1) 2 #[Z J k,Z J fr,U a' m c'] 65 _ J9.o;exact bf (S:=λx=>x=w.1.size+1) O2.o (av.setCell w2 ⟨w.1.size+1,2,V⟩ _) (λx hx e=>by have:=(O2.o.lt x hx).1;omega);exact L2.o.setCell (p:=⟨w.1.size+1,2,V⟩) (by simp) _;simp[World.setCell];omega
    simp[aA];omega
   have ar:=A (gI k zs (3+M)=(xi,gN zs (3+M+1),gN zs (3+M+9),gN zs (3+M+17))) aF.o;obtain⟨ga,ap⟩:∃x,x=gN zs (3+M+1):=⟨_,rfl⟩;obtain⟨gb,hgb⟩:∃x,x=gN zs (3+M+9):=⟨_,rfl⟩;obtain⟨gc,aS⟩:∃x,x=gN zs (3+M+17):=⟨_,rfl⟩;rw[<-ap,<-hgb,<-aS]at ar;have aG:=I ap;clear ap;have aQ:=I hgb;clear hgb;have bb:=I aS;clear aS;go_wp2_with fail;refine aI (sx (3+M+1) (BA.o.below (by go_grown)) (by omega) (by omega)) ?_;rw[<-aG.o];go_wp2_with fail;refine aI (sx (3+M+9) (BA.o.below (by go_grown)) (by omega) (by omega)) ?_;rw[<-aQ.o];go_wp2_with fail;refine aI (sx (3+M+17) (BA.o.below (by go_grown)) (by omega) (by omega)) ?_;rw[<-bb.o];have d2:wr.cell? ⟨w.1.size+1,2,V⟩=E (U a' m c'):=by simp only[World.cell?,G9.o];rfl
   have A2:∀ob,(wr.alloc ob).cell? ⟨w.1.size+1,2,V⟩=E (U a' m c'):=λob=>by rw[((ax wr.1.size wr).alloc (aw _) ob).cell (p:=⟨w.1.size+1,2,V⟩) (by simp;omega)];exact d2
   go_wp2_with(at_builtin;refine eF _ rfl _ _ 63 rfl (w.1.size+2) 147 i1 (aD #[Z J 0,Z J 0,Z J 0,Z J 0]) 4 32 iG aL aM aO aP rfl (by decide) _ _ _ rfl ((OW.o.alloc _).alloc _) ⟨wr.1.size+1,0,V⟩ 1 1 [Z J xi,Z J ga,Z J gb,Z J gc] rfl rfl ?c1 ?c2 ?c3 ?c4 ?c5 ?_);case c1=> have:=jS (wr.alloc (ah #[Z J xi,Z J ga,Z J gb,Z J gc] 147)) (Z J xi) (Z J ga) (Z J gb) (Z J gc) 147;simpa using this
   case c2=>intro y hy;simp at hy;rcases hy with rfl|rfl|rfl|rfl<;>rfl
   case c3=>unfold maxLen;omega
   case c4=>omega
   case c5=>simp;omega
   intro v' w2 hown' ac _;obtain⟨a2,ak,hv2⟩:=a_ hown';subst hv2;have z2:=ac.size;simp at z2;have ai:∀g,g<w.1.size+2->(Value.slice a' m c').ownBlock≠E g:=λg hg e=>by have:=(OW.o.lt g e).1;omega
   have O:w2.1[w.1.size+1]?=E (ah #[Z J k,Z J fr,U a' m c'] 65 (0,0)):=by rw[ac.block _ (by simp;omega) (λe=>ai _ (by omega) e.symm),gf _ _ _ (by simp;omega),gf _ _ _ (by omega)];exact G9.o
   have aa:w2.1[w.1.size]?=E (ah #[Z J 0,Z J 0,U V 0 0] 65 (0,0)):=by rw[ac.block _ (by simp;omega) (λe=>ai _ (by omega) e.symm),gf _ _ _ (by simp;omega),gf _ _ _ (by omega)];exact G8.o
   have am:af w.1.size w w2:=(((BL.o.alloc (by omega) _).alloc (by simp;omega) _).grown ac (by simp;omega) (λy hy=>by have:=(OW.o.lt y hy).1;omega));have O2:=A (w2.ownsRow (w.1.size+2) 147 4 (U a2 (m+1) ak) (m+1) (bD (gL k zs (m+1)))) (by rw[aH.o,ar.o,jc];exact hown');have J8:=I aa;have J9:=I O;have L2:=I am;have y2:w2.cell? ⟨w.1.size+1,2,V⟩=E (U a' m c'):=by simp only[World.cell?,O];rfl
   have f2:w2.frozen? ⟨w.1.size+1,2,V⟩=Y:=by simp[World.frozen?,O]
   clear hown' ac aa O am ai d2 A2;go_wp2;go_roundw;case rel=>
    refine⟨m+1,M+25,U a2 (m+1) ak,?_,by omega,?_,by go_num,?_,?_,?_,?_,?_⟩;·(rw[kV,<-az.o,aJ.o])<;>omega
    ·(congr 1)<;>omega
    rw[fI _ _ _ _ (by simp)];exact J8.o;exact bI w2 (w.1.size+1) 2 #[Z J k,Z J fr,U a' m c'] 65 _ J9.o;exact bf (S:=λx=>x=w.1.size+1) O2.o (av.setCell w2 ⟨w.1.size+1,2,V⟩ _) (λx hx e=>by have:=(O2.o.lt x hx).1;omega);exact L2.o.setCell (p:=⟨w.1.size+1,2,V⟩) (by simp) _;simp[World.setCell];omega
   simp[aA];omega
  have bm:¬(3:Int)+(M:Int)<(L:Int):=by omega
  have HG:=I (aB.o m (by omega) (Q (by rw[<-az.o];omega)));have q0:wr.cell? ⟨w.1.size,0,V⟩=E (Z J 0)/\wr.frozen? ⟨w.1.size,0,V⟩=Y:=⟨by simp only[World.cell?,aa];rfl,by simp[World.frozen?,aa]⟩;have q1:wr.cell? ⟨w.1.size,1,V⟩=E (Z J 0)/\wr.frozen? ⟨w.1.size,1,V⟩=Y:=⟨by simp only[World.cell?,aa];rfl,by simp[World.frozen?,aa]⟩;have q2:wr.cell? ⟨w.1.size,2,V⟩=E (U V 0 0)/\wr.frozen? ⟨w.1.size,2,V⟩=Y:=⟨by simp only[World.cell?,aa];rfl,by simp[World.frozen?,aa]⟩;obtain⟨q0,bc⟩:=q0;obtain⟨q1,bg⟩:=q1;obtain⟨q2,bi⟩:=q2;have p0:wr.cell? ⟨w.1.size+1,0,V⟩=E (Z J k):=by simp only[World.cell?,O];rfl
  have p1:wr.cell? ⟨w.1.size+1,1,V⟩=E (Z J fr):=by simp only[World.cell?,O];rfl
  have p2:wr.cell? ⟨w.1.size+1,2,V⟩=E (U a' m c'):=by simp only[World.cell?,O];rfl
  clear aa O hown au hM;go_wp2_with fail;(try simp only[Exit.inBlock,Exit.then]);refine cQ (ic rfl _ _ w.1.size 65 #[Z J k,Z J fr,U a' m c'] (0,0) _ rfl (qx G8.o) mR rfl qT) rfl ?_;refine⟨U a' m c',rfl,m,HG.o,?_,?_⟩;refine cS (bf (S:=λx=>x=w.1.size) OW.o ?_ (λx hx e=>by have:=(OW.o.lt x hx).1;omega)) (by omega);exact vu;have:=BL.o;go_grown
 have bl:¬(m:Int)<(n:Int):=by omega
 have HG:=I (aB.o m (by omega) (ae (by omega)));have q0:wr.cell? ⟨w.1.size,0,V⟩=E (Z J 0)/\wr.frozen? ⟨w.1.size,0,V⟩=Y:=⟨by simp only[World.cell?,aa];rfl,by simp[World.frozen?,aa]⟩;have q1:wr.cell? ⟨w.1.size,1,V⟩=E (Z J 0)/\wr.frozen? ⟨w.1.size,1,V⟩=Y:=⟨by simp only[World.cell?,aa];rfl,by simp[World.frozen?,aa]⟩;have q2:wr.cell? ⟨w.1.size,2,V⟩=E (U V 0 0)/\wr.frozen? ⟨w.1.size,2,V⟩=Y:=⟨by simp only[World.cell?,aa];rfl,by simp[World.frozen?,aa]⟩;obtain⟨q0,bc⟩:=q0;obtain⟨q1,bg⟩:=q1;obtain⟨q2,bi⟩:=q2;have p0:wr.cell? ⟨w.1.size+1,0,V⟩=E (Z J k):=by simp only[World.cell?,O];rfl
 have p1:wr.cell? ⟨w.1.size+1,1,V⟩=E (Z J fr):=by simp only[World.cell?,O];rfl
 have p2:wr.cell? ⟨w.1.size+1,2,V⟩=E (U a' m c'):=by simp only[World.cell?,O];rfl
 clear aa O hown au hM;go_wp2_with fail;(try simp only[Exit.inBlock,Exit.then]);refine cQ (ic rfl _ _ w.1.size 65 #[Z J k,Z J fr,U a' m c'] (0,0) _ rfl (qx G8.o) mR rfl qT) rfl ?_;refine⟨U a' m c',rfl,m,HG.o,?_,?_⟩;refine cS (bf (S:=λx=>x=w.1.size) OW.o ?_ (λx hx e=>by have:=(OW.o.lt x hx).1;omega)) (by omega);exact vu;have:=BL.o;go_grown
theorem wD (h:bX w v zs):
  ay prog 97 #[v] w λe w'=>∃va,e=.returned (.tuple #[aD #[Z J (dK zs),Z J (dF zs),va],Z J (dE zs)])/\w'.ownsRow w.1.size 147 4 va (dL zs).length (bD (dL zs))/\af w.1.size w w':=by
 have HM:=bj w λw1 hb=>h.below hb;have az:=A (cY zs) (by obtain⟨_,_,_,_,_,h4,_⟩:=h;exact h4);have aJ:=I (λ(h3:zs.length<3)=>mC (show cJ zs=V by unfold cJ;rw[au h3]));have HG:=I (λw1 (hb:af w.1.size w w1)(h3:3<=zs.length)=>Kt (h.below hb) h3);obtain⟨a,cap,rfl,l2,l3,hb,hc⟩:=eC h;clear h hb hc;obtain⟨L,hL⟩:=aj zs.length;rw[<-hL]at l2 HM aJ HG ⊢;clear hL;by_cases t3:L<3
 ·have H:=I (aJ.o t3);have aV:(L:Int)<3:=by omega
  go_enter func97,ntmps97;go_wp2_with fail;go_returns;refine⟨_,py H.o.1 H.o.2.1 rfl H.o.2.2.2,?_,by go_grown⟩;rw[H.o.2.2.1];exact dp _ _ _ _
 have aV:¬(L:Int)<3:=by omega
 obtain⟨bx,ak⟩:=aj (w.alloc (ah #[Z J 0,Z J 0,U V 0 0] 65));have aZ:bx.1.size=w.1.size+1:=by rw[ak];simp
 have BX:=A (af w.1.size w bx) (by rw[ak];exact(ax _ _).alloc (aw _) _);have aG:=I (show∀w1,af bx.1.size bx w1->w1.1[w.1.size]?=E (ah #[Z J 0,Z J 0,U V 0 0] 65 (0,0))from λw1 hb=>by rw[hb.block w.1.size (by omega),ak];exact bo w _);have GC:=I (HG.o bx BX.o (by omega));go_enter func97,ntmps97;go_wp2_with fail;rw[<-ak];clear ak;refine GC.o.mono ?_;rintro e w1 ⟨va,rfl,m,aC,hown,hb1⟩;obtain⟨k,hk⟩:=aj (aW zs 0);obtain⟨fr,am⟩:=aj (aW zs 1);obtain⟨O,ae⟩:=aj (gL (aW zs 0) zs m);have aN:=I (λ(h1:aq.okF k fr O=aa)(h2:bm k fr O=zs)=>(show cJ zs=E (k,fr,O)by rw[hk,am,ae];rw[hk,am,ae]at h1 h2;exact Kv az.o aC h1 h2));have aI:=I (λ(h1:¬(aq.okF k fr O=aa/\bm k fr O=zs))=>(show cJ zs=V by rw[hk,am,ae]at h1;exact Ku az.o aC h1));have hlen:O.length=m:=by rw[ae];exact Kk
 have aO:=A (∀x∈O,iK x) (by rw[ae];exact Kj az.o);rw[<-ae]at hown;rw[<-hk,<-am];clear hk am ae aC;subst hlen;obtain⟨a',c',hv'⟩:=a_ hown;subst hv';have s1:=hb1.size;have B1:=I hb1;obtain⟨wf,ap⟩:=aj (w1.alloc (ah #[Z J k,Z J fr,U a' O.length c'] 65));have zf:wf.1.size=w1.1.size+1:=by rw[ap];simp
 have aB:af w1.1.size w1 wf:=by rw[ap];exact(ax _ _).alloc (aw _) _
 have BF:=I (B1.o.trans (aB.mono (by omega)));have CF:=I (show∀W,af wf.1.size wf W->W.cell? ⟨w1.1.size,0,V⟩=E (Z J k)/\W.cell? ⟨w1.1.size,1,V⟩=E (Z J fr)/\W.cell? ⟨w1.1.size,2,V⟩=E (U a' O.length c')from λW hb=>by
  have hlt:w1.1.size<wf.1.size:=by omega
  rw[hb.cell (p:=⟨w1.1.size,0,V⟩) hlt,hb.cell (p:=⟨w1.1.size,1,V⟩) hlt,hb.cell (p:=⟨w1.1.size,2,V⟩) hlt,ap];refine⟨?_,?_,?_⟩<;>simp[go_sem]);have aQ:=I (bf (S:=λ_=>False) hown (av.bz aB) (λ_ _ h=>h));have aK:=I ((iL hown aO.o).below aB);have aM:=I (HM.o wf (BX.o.trans (BF.o.mono (by omega))));clear hown hb1 aB;go_wp2_with fail;rw[<-ap];clear ap;cases ag:aq.okF k fr O;·have H:=I (mC (aI.o (λe=>by rw[ag]at e;exact dR e.1)));refine aH (Qw aK.o ag) λw3 hb3=>?_;have ac:af bx.1.size bx w3:=BF.o.trans (hb3.mono (by omega));have hrow:=aG.o w3 ac;have ar:=I (BX.o.trans (ac.mono (by omega)));have q0:w3.cell? ⟨w.1.size,0,V⟩=E (Z J 0)/\w3.frozen? ⟨w.1.size,0,V⟩=Y:=⟨by simp only[World.cell?,hrow];rfl,by simp[World.frozen?,hrow]⟩;have q1:w3.cell? ⟨w.1.size,1,V⟩=E (Z J 0)/\w3.frozen? ⟨w.1.size,1,V⟩=Y:=⟨by simp only[World.cell?,hrow];rfl,by simp[World.frozen?,hrow]⟩;have q2:w3.cell? ⟨w.1.size,2,V⟩=E (U V 0 0)/\w3.frozen? ⟨w.1.size,2,V⟩=Y:=⟨by simp only[World.cell?,hrow];rfl,by simp[World.frozen?,hrow]⟩;obtain⟨q0,aS⟩:=q0;obtain⟨q1,aT⟩:=q1;obtain⟨q2,aU⟩:=q2;have aA:=I hrow;clear hrow ac hb3 ag;go_wp2_with fail;(try simp only[Exit.inBlock,Exit.then]);refine cQ (gT rfl w.1.size 65 #[Z J 0,Z J 0,U V 0 0] (0,0) rfl (qx aA.o) mR rfl qT) rfl ?_;refine⟨_,py H.o.1 H.o.2.1 rfl H.o.2.2.2,?_,?_⟩;rw[H.o.2.2.1];exact dp _ _ _ _;have:=ar.o;go_grown
 refine(sw aK.o ag).mono ?_;rintro e w3 ⟨vb,rfl,aF,hb3⟩;obtain⟨a3,c3,hv3⟩:=a_ aF;have aL:=qq ag;have aR:=vA (nM aF aL);have aX:=vA (aM.o.below hb3);subst hv3;have ac:af bx.1.size bx w3:=BF.o.trans (hb3.mono (by omega));have hrow:=aG.o w3 ac;have ar:=I (BX.o.trans (ac.mono (by omega)));obtain⟨p0,p1,p2⟩:=CF.o w3 hb3;have O3:=I (bf (S:=λ_=>False) aQ.o (av.bz hb3) (λ_ _ h=>h));have q0:w3.cell? ⟨w.1.size,0,V⟩=E (Z J 0)/\w3.frozen? ⟨w.1.size,0,V⟩=Y:=⟨by simp only[World.cell?,hrow];rfl,by simp[World.frozen?,hrow]⟩;have q1:w3.cell? ⟨w.1.size,1,V⟩=E (Z J 0)/\w3.frozen? ⟨w.1.size,1,V⟩=Y:=⟨by simp only[World.cell?,hrow];rfl,by simp[World.frozen?,hrow]⟩;have q2:w3.cell? ⟨w.1.size,2,V⟩=E (U V 0 0)/\w3.frozen? ⟨w.1.size,2,V⟩=Y:=⟨by simp only[World.cell?,hrow];rfl,by simp[World.frozen?,hrow]⟩;obtain⟨q0,aS⟩:=q0;obtain⟨q1,aT⟩:=q1;obtain⟨q2,aU⟩:=q2;have aA:=I hrow;have aP:=I ag;clear hrow ac hb3 ag aF;by_cases ai:bm k fr O=zs;·have H:=I (nR (aN.o aP.o ai));rw[ai]at aR ⊢;clear ai;go_wp2_with fail;(try simp only[Exit.inBlock,Exit.then]);refine cQ (gT rfl w.1.size 65 #[Z J k,Z J fr,U a' O.length c'] (0,0) rfl (qx aA.o) mR rfl qT) rfl ?_;refine⟨_,py H.o.1 H.o.2.1 rfl H.o.2.2.2,?_,?_⟩;rw[H.o.2.2.1];refine cS (bf (S:=λx=>x=w.1.size) O3.o ?_ (λx hx e=>by have:=(O3.o.lt x hx).1;omega)) (by omega);exact vu;have:=ar.o;go_grown
 have H:=I (mC (aI.o (λe=>ai e.2)));have hne:¬strOfNums (bm k fr O)=strOfNums zs:=λe=>ai ((TC aL az.o).1 e);have aY:((strOfNums (bm k fr O)).toList==(strOfNums zs).toList)=Y:=by rw[beq_eq_false_iff_ne];intro e;rw[ByteArray.toList_eq,ByteArray.toList_eq]at e;exact hne (ByteArray.ext (Array.ext' e))
 generalize strOfNums (bm k fr O)=sA at*;generalize strOfNums zs=sB at*;clear ai;go_wp2_with fail;(try simp only[Exit.inBlock,Exit.then]);refine cQ (gT rfl w.1.size 65 #[Z J 0,Z J 0,U V 0 0] (0,0) rfl (qx aA.o) mR rfl qT) rfl ?_;refine⟨_,py H.o.1 H.o.2.1 rfl H.o.2.2.2,?_,?_⟩;rw[H.o.2.2.1];exact dp _ _ _ _;have:=ar.o;go_grown
theorem KY:(prog.info? 65).map (λi=>(i.zero,i.size,i.bytes))=E (E (aD #[Z J 0,Z J 0,U V 0 0]),3,40):=by kernel_rfl
theorem Ky{W2 w3}(h:gw w pw b s hh vs){fr l a cap}(hb1:af w.1.size w w1)(hown:w1.ownsRow w.1.size 147 4 (U a l.length cap) l.length (bD l))(ap:∀x∈l,iK x)(ay:aq.okF k fr l=aa)(hW2:af w1.1.size w1 W2){g cap'}(ax:w3.ownsRow (pw+1) 65 3 (U (E ⟨g,0,V⟩) (hh.length+1) cap') (hh.length+1) (jA hh vs++[Z J k,Z J fr,U a l.length cap]))(hg3:W2.grownBy w3 s.hv.ownBlock)(hat:s.hv.ownBlock=E g\/g=W2.1.size)(am:g<w3.1.size)(p t){w4}(hp:p=(aO.lk s.c (hh++[(k,fr,l)])).1)(hr4:cA w4 b (mJ s (U (E ⟨g,0,V⟩) (hh.length+1) cap') p t))(ah:av (λx=>x=b) w3 w4)(aA:aX w4 t (gl s.c (aO.lk s.c (hh++[(k,fr,l)]))))(az:∀x,t.ownBlock=E x->(s.told.ownBlock=E x\/w3.1.size<=x)/\x<w4.1.size):
  tC w w4 pw b s (mJ s (U (E ⟨g,0,V⟩) (hh.length+1) cap') p t) hh (hh++[(k,fr,l)]) vs (vs++[U a l.length cap]):=by
 have z1:=hb1.size;have z2:=hW2.size;have z3:=hg3.size;have z4:=ah.size;have ak:=h.aS b (ae (ae rfl));have c3:av (λx=>s.hv.ownBlock=E x) W2 w3:=av.grown hg3;have c13:av (λx=>s.hv.ownBlock=E x) w w3:=((av.bz (S:=λx=>s.hv.ownBlock=E x) hb1).grow hW2).bY c3;have c14:av (λx=>x=b\/s.hv.ownBlock=E x) w w4:=(c13.mono (S':=λx=>x=b\/s.hv.ownBlock=E x) (λx e _=>Q e)).trans ah (λx e _=>ae e);have hst:∀x,jQ s vs x->w4.1[x]?=w.1[x]? :=λx hx=>by have hf:=h.aS x (Q hx);have ha:=h.apart x hx;exact c14.block x hf.2 (λe=>by rcases e with e|e;exact ha.1 e;exact ha.2 e)
 have ai:∀x,x<pw->w4.1[x]?=w.1[x]? :=λx hx=>c14.block x (by omega) (λe=>by rcases e with e|e;omega;have:=h.aS x (ae (Q e));omega);have Y:∀x,(Value.slice a l.length cap).ownBlock=E x->w.1.size<=x/\x<w1.1.size:=λx hx=>hown.lt x hx;have hgb:g≠b:=by rcases hat with e|e;intro e2;subst e2;exact h.lc e;omega
 have hgx:∀x,(Value.slice a l.length cap).ownBlock=E x->g≠x:=λx hx e2=>by have:=Y x hx;subst e2;rcases hat with e|e;have:=h.aS g (ae (Q e));omega;omega
 have aw:∀x,(Value.slice a l.length cap).ownBlock=E x->w4.1[x]?=w1.1[x]? :=λx hx=>by have h1:=Y x hx;rw[ah.block x (by omega) (by omega),c3.block x (by omega) (λe=>by have:=h.aS x (ae (Q e));omega),hW2.block x h1.2]
 have ar:aX w4 (U a l.length cap) l:=(iL hown ap).keep (by omega) aw;have hg4:w4.1[g]?=w3.1[g]? :=ah.block g am hgb;have stat:∀x,jQ (mJ s (U (E ⟨g,0,V⟩) (hh.length+1) cap') p t) (vs++[U a l.length cap]) x->jQ s vs x\/((Value.slice a l.length cap).ownBlock=E x)\/(w3.1.size<=x/\x<w4.1.size):=by
  intro x hx;rcases hx with hx|hx|⟨u,hu,hx⟩;exact ae (ae hx);·rcases az x hx with⟨e|e,e2⟩;exact ae (Q (ae e));exact Q (Q ⟨e,e2⟩)
  rcases cZ.1 hu with hu|hu;exact ae (Q (Q ⟨u,hu,hx⟩));simp at hu;subst hu;exact Q (ae hx)
 have O:∀x,(Value.slice (E ⟨g,0,V⟩) (hh.length+1) cap').ownBlock=E x->x=g:=λx hx=>by simpa[Value.ownBlock]using hx.symm
 refine⟨⟨hr4,h.good,h.vi.nW (by omega) (λx hx=>ai x (h.low x (ae hx))),h.vm.nW (by omega) (λx hx=>ai x (h.low x (Q (ae hx)))),h.vz.nW (by omega) (λx hx=>ai x (h.low x (Q (Q hx)))),h.low,
  h.hi.keep (by omega) (λx hx=>hst x (ae hx)),⟨?_,?_,?_⟩,aA,hp,?_,?_,?_,?_⟩,rfl,c14,?_,by simp,λx hx=>?_,λx hx=>?_⟩;simp[h.heard.len];have:w4.ownsRow (pw+1) 65 3 (U (E ⟨g,0,V⟩) (hh.length+1) cap') (hh.length+1) (jA hh vs++[Z J k,Z J fr,U a l.length cap]):=qI ax (λx hx=>by rw[O x hx];exact hg4);rw[Cn hh vs h.heard.len,cy];exact this
 ·intro j u hu;by_cases hj:j<vs.length;rw[ey hj]at hu;have aj:j<hh.length:=by rw[h.heard.len];exact hj
  have:ea (hh++[(k,fr,l)]) j=ea hh j:=by rw[oX _ j (by simp;omega),oX _ j aj,Gc aj]
  rw[this];exact(h.heard.its j u hu).keep (by omega) (λx hx=>hst x (Q (Q ⟨u,cU hu,hx⟩)));rw[fo (by omega)]at hu;have au:j-vs.length=0:=by rcases mn (j-vs.length)with e|e;exact e;rw[jM (by simp;omega)]at hu;cases hu
  rw[au]at hu;simp at hu;subst hu;have ej:j=hh.length:=by rw[h.heard.len];omega
  subst ej;have:ea (hh++[(k,fr,l)]) hh.length=(k,fr,l):=by rw[oX _ _ (by simp)];simp
  rw[this];exact ar
 ·intro f hf;rcases cZ.1 hf with hf|hf;exact h.ok f hf;simp at hf;subst hf;exact ay
 ·intro x hx;rcases hx with(hx|hx)|hx;subst hx;exact⟨ak.1,by omega⟩;·rw[O x hx];refine⟨?_,by omega⟩;rcases hat with e|e;exact(h.aS g (ae (Q e))).1;omega
  rcases stat x hx with e|e|e;have:=h.aS x (Q e);omega;have:=Y x e;omega;omega
 ·intro x hx;have aB:∀y,(Value.slice (E ⟨g,0,V⟩) (hh.length+1) cap').ownBlock=E y->y=g:=O;rcases stat x hx with e|e|e;·have ha:=h.apart x e;refine⟨ha.1,λe2=>?_⟩;have:=O x e2;subst this;rcases hat with e3|e3;exact ha.2 e3;have:=h.aS x (Q e);omega
  ·have h1:=Y x e;refine⟨by omega,λe2=>hgx x e (O x e2).symm⟩
  refine⟨by omega,λe2=>?_⟩;have:=O x e2;omega
 intro e;exact hgb (O b e).symm
 ·intro x hx;rcases hx with(hx|hx)|hx;exact ae (ae (ae hx));·rw[O x hx];rcases hat with e|e;exact ae (ae (Q e));exact Q (by omega)
  rcases stat x hx with e|e|e;exact ae (Q e);have:=Y x e;exact Q (by omega);exact Q (by omega)
 ·rw[O x hx];rcases hat with e|e;exact ae e;exact Q (by omega)
 rcases stat x hx with e|e|e;exact ae e;have:=Y x e;exact Q (by omega);exact Q (by omega)
theorem Kz{W2 w3}(h:gw w pw b s hh vs){fr l a cap}(hb1:af w.1.size w w1)(hown:w1.ownsRow w.1.size 147 4 (U a l.length cap) l.length (bD l))(ak:∀x∈l,iK x)(ay:aq.okF k fr l=aa)(hW2:af w1.1.size w1 W2){g cap'}(aw:w3.ownsRow (pw+1) 65 3 (U (E ⟨g,0,V⟩) (hh.length+1) cap') (hh.length+1) (jA hh vs++[Z J k,Z J fr,U a l.length cap]))(hg3:W2.grownBy w3 s.hv.ownBlock)(hat:s.hv.ownBlock=E g\/g=W2.1.size)(ai:g<w3.1.size){w4}(O:av (λx=>x=b) w3 w4):oH w4 (U (E ⟨g,0,V⟩) (hh.length+1) cap') (hh++[(k,fr,l)])/\aY w4 s.vi s.c.inp/\aY w4 s.vm s.c.sm/\aY w4 s.vs s.c.ss:=by
 have z1:=hb1.size;have z2:=hW2.size;have z3:=hg3.size;have z4:=O.size;have ax:=h.aS b (ae (ae rfl));have c3:av (λx=>s.hv.ownBlock=E x) W2 w3:=av.grown hg3;have c13:av (λx=>s.hv.ownBlock=E x) w w3:=((av.bz (S:=λx=>s.hv.ownBlock=E x) hb1).grow hW2).bY c3;have c14:av (λx=>x=b\/s.hv.ownBlock=E x) w w4:=(c13.mono (S':=λx=>x=b\/s.hv.ownBlock=E x) (λx e _=>Q e)).trans O (λx e _=>ae e);have hst:∀x,jQ s vs x->w4.1[x]?=w.1[x]? :=λx hx=>by have hf:=h.aS x (Q hx);have ha:=h.apart x hx;exact c14.block x hf.2 (λe=>by rcases e with e|e;exact ha.1 e;exact ha.2 e)
 have Y:∀x,x<pw->w4.1[x]?=w.1[x]? :=λx hx=>c14.block x (by omega) (λe=>by rcases e with e|e;omega;have:=h.aS x (ae (Q e));omega);have ar:∀x,(Value.slice a l.length cap).ownBlock=E x->w.1.size<=x/\x<w1.1.size:=λx hx=>hown.lt x hx;have hgb:g≠b:=by rcases hat with e|e;intro e2;subst e2;exact h.lc e;omega
 have au:∀x,(Value.slice a l.length cap).ownBlock=E x->w4.1[x]?=w1.1[x]? :=λx hx=>by have h1:=ar x hx;rw[O.block x (by omega) (by omega),c3.block x (by omega) (λe=>by have:=h.aS x (ae (Q e));omega),hW2.block x h1.2]
 have am:aX w4 (U a l.length cap) l:=(iL hown ak).keep (by omega) au;have hg4:w4.1[g]?=w3.1[g]? :=O.block g ai hgb;have ah:∀x,(Value.slice (E ⟨g,0,V⟩) (hh.length+1) cap').ownBlock=E x->x=g:=λx hx=>by simpa[Value.ownBlock]using hx.symm
 have aj:qc w4 (pw+1) (U (E ⟨g,0,V⟩) (hh.length+1) cap') (hh++[(k,fr,l)]) (vs++[U a l.length cap]):=by
  refine⟨by simp[h.heard.len],?_,?_⟩;have:w4.ownsRow (pw+1) 65 3 (U (E ⟨g,0,V⟩) (hh.length+1) cap') (hh.length+1) (jA hh vs++[Z J k,Z J fr,U a l.length cap]):=qI aw (λx hx=>by rw[ah x hx];exact hg4);rw[Cn hh vs h.heard.len,cy];exact this;intro j u hu;by_cases hj:j<vs.length;rw[ey hj]at hu;have ag:j<hh.length:=by rw[h.heard.len];exact hj
  have:ea (hh++[(k,fr,l)]) j=ea hh j:=by rw[oX _ j (by simp;omega),oX _ j ag,Gc ag]
  rw[this];exact(h.heard.its j u hu).keep (by omega) (λx hx=>hst x (Q (Q ⟨u,cU hu,hx⟩)));rw[fo (by omega)]at hu;have ap:j-vs.length=0:=by rcases mn (j-vs.length)with e|e;exact e;rw[jM (by simp;omega)]at hu;cases hu
  rw[ap]at hu;simp at hu;subst hu;have ej:j=hh.length:=by rw[h.heard.len];omega
  subst ej;have:ea (hh++[(k,fr,l)]) hh.length=(k,fr,l):=by rw[oX _ _ (by simp)];simp
  rw[this];exact am
 exact⟨aj.Kd,h.vi.nW (by omega) (λx hx=>Y x (h.low x (ae hx))),h.vm.nW (by omega) (λx hx=>Y x (h.low x (Q (ae hx)))),h.vz.nW (by omega) (λx hx=>Y x (h.low x (Q (Q hx))))⟩
theorem cA.Sx (h:cA w b s)(v):cA (w.setCell ⟨b,11,V⟩ v) b (mJ s v s.ph s.told):=by have:=bI w b 11 _ _ v h;rw[mv]at this;exact this
theorem cA.ui (h:cA w b s)(p):cA (w.setCell ⟨b,13,V⟩ (Z J p)) b (mJ s s.hv p s.told):=by have:=bI w b 13 _ _ (Z J p) h;rw[mv]at this;exact this
theorem cA.wN (h:cA w b s)(v):cA (w.setCell ⟨b,14,V⟩ v) b (mJ s s.hv s.ph v):=by have:=bI w b 14 _ _ v h;rw[mv]at this;exact this
theorem lS.form (h:lS w w' va o):∃a n c,va=U a n c:=by
 cases o with
 |none=>exact⟨V,0,0,h⟩
 |some f=>obtain⟨a,c,e⟩:=a_ h;exact⟨a,_,c,e⟩
theorem lS.base (h:lS w1 w' va o)(hb:w.1.size<=w1.1.size):lS w w' va o:=by
 cases o with
 |none=>exact h
 |some f=>exact cS h hb
theorem lS.aV{w'' P}(h:lS w w' va o)(hc:av P w' w'')(hn:∀x,w.1.size<=x->¬P x):lS w w'' va o:=by
 cases o with
 |none=>exact h
 |some f=>exact bf h hc (λx hx=>hn x (World.ownsRow.lt h x hx).1)
theorem Fp (h:gw w pw b s hh vs)(hc:av (λx=>x=b\/s.hv.ownBlock=E x) w w'):aX w' s.told (gl s.c (aO.lk s.c hh)):=
 h.told.keep hc.size (λx hx=>hc.block x (h.aS x (Q (Q (ae hx)))).2 (λe=>by have ha:=h.apart x (Q (ae hx));rcases e with e|e;exact ha.1 e;exact ha.2 e))
theorem Ui (h:gw w pw b s hh vs)(hb:af w.1.size w w'):tC w w' pw b s s hh hh vs vs:=
 ⟨h.below hb,rfl,av.bz hb,λ_ hx=>ae hx,by omega,λ_ hx=>ae hx,λ_ hx=>ae hx⟩
theorem PT (h:gw w pw b s hh vs)(hv:bX w v zs)(hlen:(hh.length+1)*40<=140737488355328):
  ay prog 110 #[aC (E ⟨b,0,V⟩),v] w λe w'=>∃va,e=.returned va/\∃s' cr vs',tC w w' pw b s s' hh cr vs vs'/\aO.lk s.c cr=fP s.c (aO.lk s.c hh) zs/\lS w w' va (fM s.c (aO.lk s.c hh) zs):=by
 obtain⟨i0,di,hz0,hz1,hz2⟩:=bO KY;have dv:=h.aS b (ae (ae rfl));have HD:=I (wD hv);obtain⟨az,cz,rfl,-,-,hB,-⟩:=eC hv;have HW:=I h;clear hv
 cases hd:cJ zs with
 |none=> obtain⟨x1,x2,x3,x4⟩:=mC hd;rw[x1,x2,x3,x4]at HD;obtain⟨y1,y2⟩:=um (c:=s.c) (s:=aO.lk s.c hh) hd;rw[y1,y2];clear x1 x2 x3 x4 y1 y2 hd hB h;go_enter func110,ntmps110;go_wp2_with fail;refine HD.o.mono ?_;rintro e w1 ⟨va,rfl,hown,hb⟩;obtain⟨a',c',hv'⟩:=a_ hown;subst hv';have HB:=I hb;clear hown hb;go_wp2;go_ret;exact⟨_,rfl,s,hh,vs,Ui HW.o (HB.o.alloc HB.o.size _),rfl,rfl⟩
 |some f=>
  obtain⟨k,fr,l⟩:=f;obtain⟨x1,x2,x3,x4⟩:=nR hd;rw[x1,x2,x3,x4]at HD;obtain⟨y1,y2,y3⟩:=qw hB hd;have bq:=I y1;have cd:=I (kg y1);obtain⟨bS,bT⟩:=uo (c:=s.c) (s:=aO.lk s.c hh) hd;obtain⟨O,bv⟩:=aj (aO.lk s.c (hh++[(k,fr,l)]));have hstep:O=fQ s.c (aO.lk s.c hh) (k,fr,l):=by rw[bv];exact M_
  rw[<-hstep]at bS bT;have HL:=I bv;have br:=I bS;have bk:=I bT;have bt:=I (λ(e:O.1=(aO.lk s.c hh).1)=>(show O=aO.lk s.c hh by rw[hstep]at e ⊢;exact Tp e));have cf:=I h.ph;have cq:O.1≠(aO.lk s.c hh).1->(aO.lk s.c hh).1≠4:=λe=>by rw[hstep]at e;have:=To e;omega
  have bn:=I cq;obtain⟨am,ch,aW⟩:=a_ h.heard.own;have aH:=I aW;have cO:=bj w λW hb=>h.at_.below hb;have aI:=I h.heard.own;rw[aW]at aI;have bi:=I h.lc;rw[aW]at bi;obtain⟨n,hn⟩:=aj hh.length;rw[<-hn]at hlen aI bi aH;have cM:=I hn;clear x1 x2 x3 x4 y1 y2 y3 hd hB h bv hstep bS bT cq aW hn;go_enter func110,ntmps110;go_wp2_with fail;refine HD.o.mono ?_;rintro e w1 ⟨va,rfl,hown,hb⟩;obtain⟨a',c',hv'⟩:=a_ hown;subst hv';have s1:=hb.size;have O1:=I hown;have B1:=I hb;clear hown hb;obtain⟨m,hm⟩:=aj l.length;rw[<-hm]at O1 ⊢;have cK:=I hm;clear hm;obtain⟨W1,hW1⟩:=aj (w1.alloc (ah #[Z J k,Z J fr,U a' m c'] 65));have bC:af w1.1.size w1 W1:=by rw[hW1];exact(ax _ _).alloc (aw _) _
  have dt:W1.1.size=w1.1.size+1:=by rw[hW1];simp
  have bV:=I (B1.o.trans (bC.mono s1));obtain⟨x0,x1,x2⟩:dc W1 w1.1.size k fr (U a' m c'):=by rw[hW1];exact dc.new w1 k fr _
  have aZ:=cO.o W1 bV.o;obtain⟨_,_,_,bU,_⟩:=aZ.vals;rw[aH.o]at bU;have yf:=aZ.bF 11;have cR:=I hW1;have cE:=I bC;have cU:=I (qI aI.o (w':=W1) (λx hx=>bV.o.block x (World.ownsRow.lt aI.o x hx).2));have cV:=I aZ;have nb:E b≠(Value.slice am n ch).ownBlock:=λe=>bi.o e.symm;have bI:b<W1.1.size:=by omega
  have h63:n+1<=maxLen:=by unfold maxLen;omega
  have al:∀(ob:Obj)(c o:Nat),c<W1.1.size->(W1.alloc ob).cell? ⟨c,o,V⟩=W1.cell? ⟨c,o,V⟩:=λob c o hc=>((ax W1.1.size W1).alloc (aw _) ob).cell (p:=⟨c,o,V⟩) hc;have cm:∀(ob:Obj)(c o:Nat),c<W1.1.size->(W1.alloc ob).frozen? ⟨c,o,V⟩=W1.frozen? ⟨c,o,V⟩:=λob c o hc=>((ax W1.1.size W1).alloc (aw _) ob).frozen (p:=⟨c,o,V⟩) hc;have dz:w1.1.size<W1.1.size:=by omega
  have dy:pw+1<=W1.1.size:=by omega
  have HQ:=I (show∀w3:ac,(W1.alloc (ah #[Z J k,Z J fr,U a' m c'] 65)).drew.grownBy w3 (Value.slice am n ch).ownBlock->w3.cell? ⟨b,11,V⟩=E (U am n ch)/\w3.frozen? ⟨b,11,V⟩=Y from λw3 hg=>
   ⟨(hg.cell_far ⟨b,11,V⟩ (by show b<(W1.alloc (ah #[Z J k,Z J fr,U a' m c'] 65)).1.size;simp;omega) nb).trans ((al _ b 11 bI).trans bU),(hg.frozen_far ⟨b,11,V⟩ (by show b<(W1.alloc (ah #[Z J k,Z J fr,U a' m c'] 65)).1.size;simp;omega) nb).trans ((cm _ b 11 bI).trans yf)⟩);clear hW1 bC aZ dt;go_upto_region 4 with fail;rw[<-cR.o]
  go_cut [6]from 18 to 27 (λp wc=>p=Z J 0/\∃gg cap' w3,wc=w3.setCell ⟨b,11,V⟩ (U (E ⟨gg,0,V⟩) (n+1) cap')/\w3.ownsRow (pw+1) 65 3 (U (E ⟨gg,0,V⟩) (n+1) cap') (n+1) (jA hh vs++[Z J k,Z J fr,U a' m c'])/\
   (W1.alloc (ah #[Z J k,Z J fr,U a' m c'] 65)).drew.grownBy w3 (Value.slice am n ch).ownBlock/\((Value.slice am n ch).ownBlock=E gg\/gg=W1.1.size+1)/\gg<w3.1.size);case first=> go_region_law (refine AO _ (by rfl) _ _ _ (by rfl) (pw+1) 65 i0 _ 3 40 underlying176 di hz0 hz1 hz2 rfl (by omega) (U am n ch) n (jA hh vs) (by rfl) ((cU.o.alloc _).drew) ⟨W1.1.size,0,V⟩ 1 1 [Z J k,Z J fr,U a' m c'] (by rfl) (by rfl) (AM (cs:= #[Z J k,Z J fr,U a' m c']) (t:=65) (fr:=(0,0)) (bo W1 _)) (by simp[Value.oneCell']) (by omega) h63 hlen (by simp;omega) (W1.1.size+1) (by simp) ?_;intro gg cap' w3 aY ai hat aF;obtain⟨dA,qf⟩:=HQ.o w3 ai);all_goals(go_wp2;go_meet;exact⟨rfl,gg,cap',w3,rfl,aY,ai,hat,aF⟩)
  obtain⟨rfl,gg,cap',w3,hwc,aY,ai,hat,aF⟩:=hcut;have hn:=cM.o;have hm:=cK.o;have cD:(W1.alloc (ah #[Z J k,Z J fr,U a' m c'] 65)).drew.1.size=W1.1.size+1:=by show(W1.alloc (ah #[Z J k,Z J fr,U a' m c'] 65)).1.size=_;simp
  obtain⟨W2,hW2⟩:=aj ((W1.alloc (ah #[Z J k,Z J fr,U a' m c'] 65)).drew);have aT:af w1.1.size w1 W2:=by rw[hW2];exact(cE.o.alloc (by omega) _).drew
  rw[<-hW2]at ai cD;have bB:s.hv.ownBlock=E gg\/gg=W2.1.size:=by rw[cD,aH.o];exact hat
  have aU:W2.grownBy w3 s.hv.ownBlock:=by rw[aH.o];exact ai
  have z3:=ai.size;have cC:cA w3 b s:=(cV.o.block (w':=w3) (by rw[ai.block b (by omega) nb,hW2];exact((ax W1.1.size W1).alloc (aw _) (ah #[Z J k,Z J fr,U a' m c'] 65)).drew.block b bI));have hc3:av (λx=>x=b) w3 wc:=by rw[hwc];exact av.setCell w3 ⟨b,11,V⟩ _
  have bR:cA wc b (mJ s (U (E ⟨gg,0,V⟩) (hh.length+1) cap') s.ph s.told):=by rw[hwc,<-hn];exact cC.Sx _
  have bM:w1.ownsRow w.1.size 147 4 (U a' l.length c') l.length (bD l):=by have:=O1.o;rw[hm]at this;exact this
  have bN:w3.ownsRow (pw+1) 65 3 (U (E ⟨gg,0,V⟩) (hh.length+1) cap') (hh.length+1) (jA hh vs++[Z J k,Z J fr,U a' l.length c']):=by rw[<-hn,<-hm];exact aY
  obtain⟨cn,cx,cy,cB⟩:=Kz HW.o B1.o bM cd.o bq.o aT bN aU bB aF hc3;have bp:=I (λ(p:Int)(t:ag)(w4:ac)(hp:p=O.1)(hr4:cA w4 b (mJ s (U (E ⟨gg,0,V⟩) (hh.length+1) cap') p t))(dh:av (λx=>x=b) w3 w4)(dm:aX w4 t (gl s.c O))(dl:∀x,t.ownBlock=E x->(s.told.ownBlock=E x\/w3.1.size<=x)/\x<w4.1.size)=>
   (show tC w w4 pw b s (mJ s (U (E ⟨gg,0,V⟩) (hh.length+1) cap') p t) hh (hh++[(k,fr,l)]) vs (vs++[U a' l.length c'])from
    Ky HW.o B1.o bM cd.o bq.o aT bN aU bB aF p t (by rw[hp,HL.o]) hr4 dh (by rw[<-HL.o];exact dm) dl));have cu:∀f∈hh++[(k,fr,l)],aq.okF f.1 f.2.1 f.2.2=aa:=λf hf=>by rcases cZ.1 hf with hf|hf;exact HW.o.ok f hf;simp at hf;subst hf;exact bq.o
  have cI:=I (show ay prog 178 #[aC (E ⟨b,0,V⟩)] wc λe w'=>∃va,e=.returned (.tuple #[Z J O.1,va])/\lS wc w' va (rG s.c O)/\af wc.1.size wc w' by rw[HL.o];have:=QJ bR cn cx cy cB HW.o.good cu;exact this);have cW:=I bR;have cH:=I hc3
  have CW:=I (show av (λx=>x=b\/s.hv.ownBlock=E x) w wc from
   (((((av.bz (S:=λx=>x=b\/s.hv.ownBlock=E x) B1.o).grow aT)).trans (av.grown aU) (λx e _=>Q e))).trans hc3 (λx e _=>ae e));have z4:=hc3.size;have zw:w.1.size<=wc.1.size:=CW.o.size;have dx:b<wc.1.size:=by omega
  clear hwc aY ai hat aF hW2 aT bB aU cC hc3 bR bM bN cn cx cy cB cu hn hm x0 x1 x2 bU yf al cm;go_wp2_with fail;refine cI.o.mono ?_;rintro e w5 ⟨va,rfl,bA,aB⟩;have s5:=aB.size;obtain⟨df,nv,cv,dn⟩:=bA.form;subst dn;have cG:=I bA;have aL:=I (cW.o.below aB);have bW:=I (cH.o.grow aB);have bh:=I (CW.o.grow aB);have ba:=aL.o.vals.2.2.2.2;change w5.cell? ⟨b,13,V⟩=E (Z J s.ph)at ba;have f13:=aL.o.bF 13;rw[cf.o]at ba;obtain⟨ph,bQ⟩:=aj ((aO.lk s.c hh).1);rw[<-bQ]at ba bt bn;have aJ:=I bQ;obtain⟨p,hp⟩:=aj O.1;rw[<-hp]at bt bn ⊢;have ak:=I hp;clear bA aB bQ hp;by_cases q:p=ph
  ·have q':(p==ph)=aa:=by simpa using q
   have HX:=I (bt.o q);have aK:=I q;clear q;go_wp2;go_ret;refine⟨_,rfl,_,_,_,bp.o s.ph s.told w5 (by rw[cf.o,HX.o]) aL.o bW.o (by rw[HX.o];exact Fp HW.o bh.o) (λx hx=>⟨ae hx,by have:=(HW.o.aS x (Q (Q (ae hx)))).2;have:=bh.o.size;omega⟩),?_,?_⟩;rw[<-HL.o];exact br.o.symm;rw[bk.o,au (by rw[<-ak.o,<-aJ.o];exact aK.o)];rfl
  have q':(p==ph)=Y:=by simpa using q
  have cL:=I (bn.o q);have aK:=I q;clear q;obtain⟨W6,aP⟩:=aj (w5.setCell ⟨b,13,V⟩ (Z J p));have aD:av (λx=>x=b) w5 W6:=by rw[aP];exact av.setCell w5 ⟨b,13,V⟩ _
  have aM:=A (cA W6 b (mJ s (U (E ⟨gg,0,V⟩) (hh.length+1) cap') p s.told)) (by rw[aP];exact aL.o.ui p);have z6:=aD.size;have bg:=I (bW.o.bY aD);have b_:=A (av (λx=>x=b\/s.hv.ownBlock=E x) w W6) (bh.o.trans aD (λx e _=>ae e));have bc:=I (cG.o.aV aD (λx hx e=>by omega));have cg:=I aP;have cY:=I (Fp HW.o b_.o);have cP:=A (gl s.c (aO.lk s.c hh)=[]) (by unfold gl;rw[ar (by rw[<-aJ.o];exact cL.o)]);clear aD aP;by_cases q4:p=4
  ·have dr:(p==4)=aa:=by simpa using q4
   have hl4:O.1=4:=by rw[<-ak.o];exact q4
   have aG:=sK HW.o.good O.2.1 O.2.2.1 O.2.2.2;have cw:gl s.c O=aO.tells s.c O.2.1 O.2.2.1 O.2.2.2:=by unfold gl;rw[au hl4]
   have bw:rG s.c O=E (7,s.c.id,aO.tells s.c O.2.1 O.2.2.1 O.2.2.2):=by unfold rG;rw[ar (by omega),ar (by omega),au hl4]
   rw[<-cw]at aG bw;have cp:bX W6 (U df nv cv) (bm 7 s.c.id (gl s.c O)):=by have h6:=bc.o;rw[bw]at h6;exact nM h6 (qq aG)
   have bK:=wD cp;obtain⟨k1,k2,k3,k4⟩:=nR (yj aG);rw[k1,k2,k3,k4]at bK;have bl:=I bK;have ce:=I (kg aG);obtain⟨id,ct⟩:=aj s.c.id;obtain⟨TT,aN⟩:=aj (gl s.c O);rw[<-ct,<-aN]at bl;rw[<-aN]at ce;have cQ:=I aN;obtain⟨nt,bL⟩:=aj TT.length;rw[<-bL]at bl;have cN:=I bL;have dw:b<W6.1.size:=by omega
   have bb:=aM.o.cell 14;change W6.cell? ⟨b,14,V⟩=E s.told at bb;have f14:=aM.o.bF 14;clear q4 hl4 aG cw bw cp bK k1 k2 k3 k4 ct aN bL;go_upto_region 9 with fail;rw[<-cg.o];go_wp2_with fail;refine bl.o.mono ?_;rintro e w7 ⟨vt,rfl,bP,bG⟩;obtain⟨ap,aA,dp⟩:=a_ bP;subst dp;have s7:=bG.size;obtain⟨W7,aQ⟩:=aj (w7.alloc (ah #[Z J 7,Z J id,U ap nt aA] 65));have bH:af w7.1.size w7 W7:=by rw[aQ];exact(ax _ _).alloc (aw _) _
   obtain⟨x0,x1,x2⟩:dc W7 w7.1.size 7 id (U ap nt aA):=by rw[aQ];exact dc.new w7 7 id _
   have bE:=bG.trans (bH.mono s7);have bu:=I (aM.o.below bE);have cj:=I (bf (S:=λ_=>False) bP (av.bz bH) (λ_ _ h=>h));have cF:=I bE;have cS:=I aQ;clear bb f14 bP bG aQ bH bE ba f13;have bb:=bu.o.cell 14;change W7.cell? ⟨b,14,V⟩=E s.told at bb;have f14:=bu.o.bF 14;obtain⟨W8,aR⟩:=aj (W7.setCell ⟨b,14,V⟩ (U ap nt aA));have bJ:av (λx=>x=b) W7 W8:=by rw[aR];exact av.setCell W7 ⟨b,14,V⟩ _
   have cX:=A (cA W8 b (mJ s (U (E ⟨gg,0,V⟩) (hh.length+1) cap') p (U ap nt aA))) (by rw[aR];exact bu.o.wN _);have bZ:=A (av (λx=>x=b) W6 W8) ((av.bz (S:=λx=>x=b) cF.o).bY bJ);have ck:=I (bf cj.o bJ (λx hx e=>by have:=cj.o.lt x hx;omega));have cT:=I aR;clear bJ aR;go_upto_region 11 with fail;rw[<-cS.o];go_wp2_with fail;rw[<-cT.o];go_ret;have dg:aX W8 (U ap nt aA) TT:=iL (B:=W6.1.size) (by rw[<-cN.o];exact ck.o) ce.o;have dB:=bg.o.size;refine⟨_,rfl,_,_,_,bp.o p (U ap nt aA) W8 ak.o cX.o (bg.o.bY bZ.o) (by rw[<-cQ.o];exact dg) (λx hx=>by have:=ck.o.lt x hx;exact⟨Q (by omega),by omega⟩),?_,?_⟩;rw[<-HL.o];exact br.o.symm;rw[bk.o,ar (by rw[<-ak.o,<-aJ.o];exact aK.o)];exact(bc.o.aV bZ.o (λx hx e=>by omega)).base zw
  have dr:(p==4)=Y:=by simpa using q4
  have HX:=A (gl s.c O=[]) (by unfold gl;rw[ar (by rw[<-ak.o];exact q4)]);clear q4;go_wp2_with fail;rw[<-cg.o];go_ret;refine⟨_,rfl,_,_,_,bp.o p s.told W6 ak.o aM.o bg.o (by rw[HX.o,<-cP.o];exact cY.o) (λx hx=>⟨ae hx,by have:=(HW.o.aS x (Q (Q (ae hx)))).2;have:=b_.o.size;omega⟩),?_,?_⟩;rw[<-HL.o];exact br.o.symm;rw[bk.o,ar (by rw[<-ak.o,<-aJ.o];exact aK.o)];exact bc.o.base zw
end Go.Proofs.YtchideljndagjabGreat


