/- Joined -/
import Derived.WalkKit
import Derived.ProofKit
import Derived.OpenShut
import Derived.Below
import Derived.Deep.QuietTactic
import Derived.BigQuiet
import Derived.Deep.RegionWith
import Derived.Laws.AppendOwn
import Derived.Laws.OwnMore
import Derived.Laws.Rows
import Derived.OwnWalk
import Derived.ArgAppend
import Derived.Test.YtchideljndagjabGreatRows
import Derived.WalkSpells
import Derived.Test.YtchideljndagjabGreatUAA
import Derived.Test.YtchideljndagjabGreatUHD
set_option linter.unusedVariables false
set_option maxHeartbeats 1000000
set_option maxRecDepth 100000
namespace Go.Proofs.YtchideljndagjabGreat
open bb
open Go.Value renaming int->Z,slice->U,bool->ak,pointer->aC
open Go.IntKind renaming i64->J
open Go.Obj renaming cells->ah
open Go.Ending renaming returned->az
open Or renaming inl->ae,inr->Q
open Option renaming none->V,some->E
open Bool renaming false->Y,true->aa
open Go renaming World->ac,Value->ag,Calls->ay,TypeId->cn
open Go.RowKit renaming Below->af,intOf->aA
abbrev ax:=@RowKit.Below.refl
abbrev fJ:=@Nat.le_trans
abbrev cG:=@Nat.lt_of_lt_of_le
abbrev fI:=@RowKit.Below.heap_setCell
abbrev gf:=@RowKit.Below.heap_alloc
abbrev ku:=@List.eq_nil_of_length_eq_zero
abbrev bI:=@heap_setCell_same
abbrev cT:=@Array.getElem?_eq_none
abbrev cZ:=@List.mem_append
abbrev cU:=@List.mem_of_getElem?
abbrev pP:=@Array.getElem?_setIfInBounds
abbrev nC:=@List.replicate_succ
abbrev uF:=@Array.ext_getElem?
abbrev bO:=@info_parts
abbrev gW:=@Proofs.Tryz.underlying33
abbrev pQ:=@RowKit.ownsRow_setCell_below
abbrev bi:=@Nat.zero_le
open Go.Proofs.Tryz
variable {P:Program}{e:cn}
section
open Go.RowKit
theorem nA{id Q a w l}(hm:P.follows .mixedOrders=aa)(hB:Region.lexB .any l.toArray=aa)(h:∀(O:Type)(G:O->ac),Nonempty O->cO (∀u,af w.1.size w (G u))->(∀u b o,b<w.1.size->(G u).cell? ⟨b,o,V⟩=w.cell? ⟨b,o,V⟩)->
   cO (∀u w',af w.1.size (G u) w'->∃v,w'=G v)->
   wpQuiet P l.toArray (λw'=>∃u,w'=G u) (λa'=>∀w',(∃u,w'=G u)->Q .normal a' w') l a):(Code.region id l.toArray aa).wp P Q a w:=by
 have h1:=h {w':ac // af w.1.size w w'} Subtype.val ⟨⟨w,ax _ _⟩⟩ (I λu=>u.2) (λu b o hb=>u.2.cell (p:=⟨b,o,V⟩) hb)
  (I λu w' hw=>⟨⟨w',u.2.trans hw⟩,rfl⟩);exact wp_region_quiet (C:=λw'=>∃u:{w':ac // af w.1.size w w'},w'=u.1) hm hB ⟨⟨w.drew,(ax _ _).drew⟩,rfl⟩ (by simpa using h1)
theorem lW{f args W}{I:Type}{G:I->ac}{v}(hw:cO (∀u,af W.1.size W (G u)))(hn:cO (∀u w',af W.1.size (G u) w'->∃v,w'=G v)){u}(h:ay P f args (G u) λe w'=>e=az v/\af (G u).1.size (G u) w'):ay P f args (G u) λe w'=>e=az v/\∃m,w'=G m:=
 h.mono λ_ w' ⟨he,hb⟩=>⟨he,hn.o u w' (hb.mono (hw.o u).size)⟩
theorem Ia{f args}{I:Type}{G:I->ac}{v u}(h:ay P f args (G u) λe w'=>e=az v/\w'=G u):ay P f args (G u) λe w'=>e=az v/\∃m,w'=G m:=
 h.mono λ_ _ ⟨he,hb⟩=>⟨he,u,hb⟩
theorem Hf{W w1}(hb:af W.1.size W w1):(∀b o,b<W.1.size->w1.cell? ⟨b,o,V⟩=W.cell? ⟨b,o,V⟩)/\(∀b o,b<W.1.size->w1.frozen? ⟨b,o,V⟩=W.frozen? ⟨b,o,V⟩):=
 ⟨λb o h=>hb.cell (p:=⟨b,o,V⟩) h,λb o h=>hb.frozen (p:=⟨b,o,V⟩) h⟩
structure av (S:Nat->Prop)(w w':ac):Prop where
 os:w'.os=w.os
 tape:w'.tape=w.tape
 output:w'.output=w.output
 size:w.1.size<=w'.1.size
 block:∀k,k<w.1.size->¬S k->w'.1[k]?=w.1[k]?
theorem av.refl (S w):av S w w:=⟨rfl,rfl,rfl,aw _,λ_ _ _=>rfl⟩
theorem av.mono{S S' w w'}(h:av S w w')(hS:∀b,S b->b<w.1.size->S' b):av S' w w':=
 ⟨h.os,h.tape,h.output,h.size,λk hk hn=>h.block k hk (λhs=>hn (hS k hs hk))⟩
theorem av.trans{S S' a b c}(h:av S a b)(k:av S' b c)(hS:∀x,S' x->x<a.1.size->S x):av S a c:=
 ⟨k.os.trans h.os,k.tape.trans h.tape,k.output.trans h.output,fJ h.size k.size,λi hi hn=>
  (k.block i (cG hi h.size) (λhs=>hn (hS i hs hi))).trans (h.block i hi hn)⟩
theorem av.setCell (w p u):av (λb=>b=p.block) w (w.setCell p u):=
 ⟨rfl,rfl,rfl,by simp[World.setCell],λk _ hn=>fI _ _ _ _ hn⟩
theorem av.alloc (S w o):av S w (w.alloc o):=
 ⟨rfl,rfl,rfl,by simp,λk hk _=>gf _ _ _ hk⟩
theorem av.grown{w w' row}(h:w.grownBy w' row):av (λb=>row=E b) w w':=
 ⟨h.os,h.tape,h.output,h.size,λk hk hn=>h.block k hk (λe=>hn e.symm)⟩
theorem av.bz{S w w'}(h:af w.1.size w w'):av S w w':=⟨h.os,h.tape,h.output,h.size,λk hk _=>h.block k hk⟩
theorem av.below{S B w w'}(h:av S w w')(hB:B<=w.1.size)(hS:∀b,S b->B<=b):af B w w':=
 ⟨h.os,h.tape,h.output,h.size,λk hk=>h.block k (by omega) (λhs=>by have:=hS k hs;omega)⟩
theorem bf{S w w' base size v n xs}(h:w.ownsRow base e size v n xs)(hc:av S w w')(hS:∀b,v.ownBlock=E b->¬S b):w'.ownsRow base e size v n xs:=by have hlt:=h.lt;obtain⟨h1,h2⟩:=h;refine⟨h1,?_⟩;rcases h2 with h2|⟨g,cap,cur,rfl,h3,h4,h5⟩;exact ae h2;exact Q ⟨g,cap,cur,rfl,h3,by rw[hc.block g (hlt g rfl).2 (hS g rfl)];exact h4,h5⟩
theorem cS{w:ac}{base base' size v n xs}(h:w.ownsRow base e size v n xs)(hb:base'<=base):w.ownsRow base' e size v n xs:=by obtain⟨h1,h2⟩:=h;refine⟨h1,?_⟩;rcases h2 with h2|⟨g,cap,cur,h0,h3,h4⟩;exact ae h2;exact Q ⟨g,cap,cur,h0,by omega,h4⟩
theorem dQ{w ops rest o a ai}(hgd:o.guard=V){s x}(t)(ho:o.op=.call {callee:=.builtin .append,args:= #[s,x],argTypes:= #[t,t]})(base e i z bytes)(ht:P.underlying t=E (.slice e))(hi:P.info? e=E i)(hz:i.zero=E z)(hsize:i.size=1)(hby:i.bytes=bytes)(hzs:z.cells.size=1)(v n xs)(hs:a.eval s=v)(hown:w.ownsRow base e 1 v n xs)(ad c new)(hx:a.eval x=U (E ad) 1 c)(am:w.cell? ad=E new)(h1:new.oneCell'=aa)(h63:n+1<=maxLen)(hbytes:(n+1)*bytes<=140737488355328)(hbase:base<=w.1.size)(h:∀g' cap' w',w'.ownsRow base e 1 (U (E ⟨g',0,V⟩) (n+1) cap') (n+1) (xs++[new])->w.grownBy w' v.ownBlock->(v.ownBlock=E g'\/w.1.size<=g')->
   wpList P ops ai rest (a.put o.dst (U (E ⟨g',0,V⟩) (n+1) cap')) w'):wpList P ops ai (o::rest) a w:=by
 have shape:∀(B k:Nat)(v':ag)(w':ac)(ys:List ag),w'.ownsRow B e 1 v' (k+1) ys->∃g' cap',v'=U (E ⟨g',0,V⟩) (k+1) cap'/\B<=g':=by intro B k v' w' ys O;rcases O.2 with⟨_,e0⟩|⟨g',cap',_,e0,e1,_⟩;omega;exact⟨g',cap',e0,e1⟩
 have hnews:∀j u,([new]:List ag)[j]?=E u->w.cell? (ad.add j)=E u:=by
  intro j u hj
  match j,hj with
  |0,hj=>simp at hj;subst hj;simpa[Addr.add]using am
 have ah:∀u∈[new],u.oneCell'=aa:=by intro u hu;simp at hu;subst hu;exact h1
 have free:∀w',w.grownBy w' V->w.grownBy w' v.ownBlock:=λw' g=>⟨g.os,g.tape,g.output,g.size,λk hk _=>g.block k hk (by simp)⟩;have aj:=hown;obtain⟨hl,ak⟩:=hown;rcases ak with⟨rfl,rfl⟩|⟨g,cap,cur,rfl,hbg,hg,ap,hcm,hcs,aq⟩;have hx0:xs=[]:=ku (by simpa using hl);subst hx0;refine wpList_append_grows w hgd s x t ho e i z 1 bytes ht hi hz hsize hby hzs (by omega) V 0 0 [] hs (λ_=>⟨rfl,rfl⟩) rfl (λ_ h=>by cases h) ad 1 c [new] hx rfl hnews ah (by omega) h63 hbytes ?_;intro v' w' O Y;obtain⟨g',cap',rfl,af⟩:=shape _ _ _ _ _ O;exact h g' cap' w' (cS O hbase) (free w' Y) (Q af);by_cases hroom:n+1<=cap;refine wpList_append_fits w hgd s x t ho base e i 1 ht hi hsize g n cap xs hs aj ad 1 c [new] hx rfl hnews ah hroom ?_;intro w' O Y;exact h g cap w' O Y (ae rfl)
 refine wpList_append_grows w hgd s x t ho e i z 1 bytes ht hi hz hsize hby hzs (by omega) (E ⟨g,0,V⟩) n cap xs hs (λh=>by cases h) hl
  (λb hb=>by cases hb;exact aj.cells (g:=g) rfl) ad 1 c [new] hx rfl hnews ah (by omega) h63 hbytes ?_;intro v' w' O Y;obtain⟨g',cap',rfl,af⟩:=shape _ _ _ _ _ O;exact h g' cap' w' (cS O hbase) (free w' Y) (Q af)
def jZ (F:Nat->ag):Array ag:= #[F 0,F 1,F 2,F 3,F 4,F 5,F 6,F 7,F 8,F 9,F 10,F 11,F 12,F 13,F 14,F 15]
def upd (F:Nat->ag)(j:Nat)(v:ag):Nat->ag:=λi=>if i=j then v else F i
theorem upd_same (F j v):upd F j v j=v:=by simp[upd]
theorem dM{F i j v}(h:i≠j):upd F j v i=F i:=by simp[upd,h]
theorem Jt (F j v)(hj:j<16):(jZ F).setIfInBounds j v=jZ (upd F j v):=by
 match j,hj with
 |0,_=>rfl
 |1,_=>rfl
 |2,_=>rfl
 |3,_=>rfl
 |4,_=>rfl
 |5,_=>rfl
 |6,_=>rfl
 |7,_=>rfl
 |8,_=>rfl
 |9,_=>rfl
 |10,_=>rfl
 |11,_=>rfl
 |12,_=>rfl
 |13,_=>rfl
 |14,_=>rfl
 |15,_=>rfl
 |n+16,h=>exact absurd h (by omega)
theorem wO{w:ac}{pw F T}(j v)(hj:j<16)(h:w.1[pw]?=E (ah (jZ F) T (0,0))):
  (w.setCell ⟨pw,j,V⟩ v).1[pw]?=E (ah (jZ (upd F j v)) T (0,0)):=by rw[<-Jt F j v hj];exact bI w pw j (jZ F) T v h
theorem dg{w:ac}{pw F T}(h:w.1[pw]?=E (ah (jZ F) T (0,0)))(j)(hj:j<16):w.cell? ⟨pw,j,V⟩=E (F j)/\w.frozen? ⟨pw,j,V⟩=Y:=by
 constructor
 ·simp only[World.cell?,h]
  match j,hj with
  |0,_=>rfl
  |1,_=>rfl
  |2,_=>rfl
  |3,_=>rfl
  |4,_=>rfl
  |5,_=>rfl
  |6,_=>rfl
  |7,_=>rfl
  |8,_=>rfl
  |9,_=>rfl
  |10,_=>rfl
  |11,_=>rfl
  |12,_=>rfl
  |13,_=>rfl
  |14,_=>rfl
  |15,_=>rfl
  |n+16,h=>exact absurd h (by omega)
 simp[World.frozen?,h]
structure xJ where
 fi:Nat
 fm:Nat
 e:cn
 s:cn
 pat:Int->List ag
def cat:Nat->xJ
 |0=>⟨3,9,3,33,λm=>[Z J m]⟩
 |1=>⟨4,10,5,47,λm=>[Z .u8 m]⟩
 |2=>⟨5,11,147,63,λm=>[Z J m,Z J m,Z J m,Z J m]⟩
 |3=>⟨6,12,49,41,λm=>[Z J m,Z J m,U V 0 0]⟩
 |4=>⟨7,13,117,27,λm=>[U V 0 0,Z J m,Z J m,Z J m,U V 0 0,U V 0 0]⟩
 |_=>⟨8,14,139,137,λm=>[Z J m,Z J m]⟩
theorem nN (c):3<=(cat c).fi/\(cat c).fi<=8:=by unfold cat;split<;>simp
theorem oU (c):9<=(cat c).fm/\(cat c).fm<=14:=by unfold cat;split<;>simp
theorem Ie:∀c,c<6->∀d,d<6->(cat c).fi=(cat d).fi->c=d:=by decide
theorem Ig:∀c,c<6->∀d,d<6->(cat c).fm=(cat d).fm->c=d:=by decide
theorem Ih (c):(cat c).s≠3:=by unfold cat;split<;>decide
abbrev Ow:=Option Nat×Nat×Int
def iQ (o:Ow):ag:=
 match o.1 with
 |none=>U V 0 0
 |some g=>U (E ⟨g,0,V⟩) o.2.1 o.2.1
def ix (c:xJ)(o:Ow):List ag:=(List.replicate o.2.1 (c.pat o.2.2)).flatten
def Gu (w:ac)(pw:Nat)(c:xJ)(vs vm:ag)(l:List Ow):Prop:=
 w.ownsRow (pw+1) c.s 1 vs l.length (l.map iQ)/\w.ownsRow (pw+1) 3 1 vm l.length (l.map λo=>Value.int J o.2.2)/\
  ∀o∈l,(o.1=V->o.2.1=0)/\(o.2.1<=maxLen)/\∀g,o.1=E g->pw<g/\g<w.1.size/\w.1[g]?=E (ah (ix c o).toArray c.e (0,0))
structure bH (w:ac)(pw:Nat)(F:Nat->ag)(nx:Int)(ls:Nat->List Ow):Prop where
 blk:w.1[pw]?=E (ah (jZ F) 89 (0,0))
 zf:F 15=Z J nx
 own:∀c,c<6->Gu w pw (cat c) (F (cat c).fi) (F (cat c).fm) (ls c)
 tag:∃tg:Nat->Nat×Nat×Nat,(∀c,c<6->∀b,(F (cat c).fi).ownBlock=E b->tg b=(c,0,0))/\(∀c,c<6->∀b,(F (cat c).fm).ownBlock=E b->tg b=(c,1,0))/\
  ∀c,c<6->∀(i:Nat) o b,(ls c)[i]?=E o->o.1=E b->tg b=(c,2,i)
def aU (F:Nat->ag)(ls:Nat->List Ow)(b:Nat):Prop:=
 ∃c,c<6/\((F (cat c).fi).ownBlock=E b\/(F (cat c).fm).ownBlock=E b\/∃o∈ls c,o.1=E b)
theorem bH.fe{w pw F nx ls}(h:bH w pw F nx ls):pw<w.1.size:=by have:=h.blk;by_cases hb:pw<w.1.size;exact hb;rw[cT (by omega)]at this;cases this
theorem bH.gO{w pw F nx ls}(h:bH w pw F nx ls){b}(hf:aU F ls b):pw<b/\b<w.1.size:=by obtain⟨c,hc,hf⟩:=hf;obtain⟨h1,h2,h3⟩:=h.own c hc;rcases hf with hf|hf|⟨o,ho,hf⟩;have:=h1.lt b hf;omega;have:=h2.lt b hf;omega;have:=(h3 o ho).2.2 b hf;omega
theorem bH.aV{S w w' pw F nx ls}(h:bH w pw F nx ls)(hc:av S w w')(hS:∀b,S b->b≠pw/\¬aU F ls b):bH w' pw F nx ls:=by have hp:=h.fe;refine⟨by rw[hc.block pw hp (λhs=>(hS pw hs).1 rfl)];exact h.blk,h.zf,λc hc'=>?_,h.tag⟩;obtain⟨h1,h2,h3⟩:=h.own c hc';refine⟨bf h1 hc (λb hb hs=>(hS b hs).2 ⟨c,hc',ae hb⟩),bf h2 hc (λb hb hs=>(hS b hs).2 ⟨c,hc',Q (ae hb)⟩),λo ho=>?_⟩;obtain⟨k1,O,k2⟩:=h3 o ho;refine⟨k1,O,λg hg=>?_⟩;obtain⟨q1,q2,q3⟩:=k2 g hg;exact⟨q1,cG q2 hc.size,by rw[hc.block g q2 (λhs=>(hS g hs).2 ⟨c,hc',Q (Q ⟨o,ho,hg⟩)⟩)];exact q3⟩
theorem bH.below{w w' pw F nx ls}(h:bH w pw F nx ls)(hb:af w.1.size w w'):bH w' pw F nx ls:=
 h.aV (S:=λ_=>False) (av.bz hb) (λ_ hs=>hs.elim)
def bn (ls:Nat->List Ow)(c:Nat)(l:List Ow):Nat->List Ow:=λd=>if d=c then l else ls d
def jJ (F:Nat->ag)(c:Nat)(nx:Int)(v' m':ag):Nat->ag:=upd (upd (upd F 15 (Z J (nx+1))) (cat c).fi v') (cat c).fm m'
theorem Ag (F c nx v' m'):jJ F c nx v' m' (cat c).fi=v':=by have:=nN c;have:=oU c;rw[jJ,dM (by omega),upd_same]
theorem Ah (F c nx v' m'):jJ F c nx v' m' (cat c).fm=m':=upd_same _ _ _
theorem Ai{F c nx v' m' j}(h1:j≠(cat c).fi)(h2:j≠(cat c).fm)(h3:j≠15):jJ F c nx v' m' j=F j:=by rw[jJ,dM h2,dM h1,dM h3]
theorem Up{F c nx v' m'}:jJ F c nx v' m' 15=Z J (nx+1):=by have:=nN c;have:=oU c;rw[jJ,dM (by omega),dM (by omega),upd_same]
theorem OZ{w w' pw F nx ls}(h:bH w pw F nx ls)(c)(hc:c<6)(o v' m')(af:av (λb=>b=pw\/o.1=E b\/(F (cat c).fi).ownBlock=E b\/(F (cat c).fm).ownBlock=E b) w w')(hblk:w'.1[pw]?=E (ah (jZ (jJ F c nx v' m')) 89 (0,0)))(ho:w'.ownsRow (pw+1) (cat c).s 1 v' ((ls c).length+1) ((ls c).map iQ++[iQ o]))(hm:w'.ownsRow (pw+1) 3 1 m' ((ls c).length+1) (((ls c).map λo=>Value.int J o.2.2)++[Z J o.2.2]))(hv':∀b,v'.ownBlock=E b->(F (cat c).fi).ownBlock=E b\/w.1.size<=b)(ai:∀b,m'.ownBlock=E b->(F (cat c).fm).ownBlock=E b\/w.1.size<=b)(hg:∀g,o.1=E g->¬aU F ls g/\pw<g/\g<w.1.size/\w'.1[g]?=E (ah (ix (cat c) o).toArray (cat c).e (0,0)))(hn:o.1=V->o.2.1=0)(hmx:o.2.1<=maxLen):
  bH w' pw (jJ F c nx v' m') (nx+1) (bn ls c (ls c++[o]))/\
   ∀b,b<w.1.size->o.1≠E b->¬aU F ls b->¬aU (jJ F c nx v' m') (bn ls c (ls c++[o])) b:=by
 obtain⟨tg,t1,t2,t3⟩:=h.tag;have other:∀d,d<6->d≠c->jJ F c nx v' m' (cat d).fi=F (cat d).fi/\jJ F c nx v' m' (cat d).fm=F (cat d).fm/\bn ls c (ls c++[o]) d=ls d:=by intro d hd O;have a1:=nN d;have a2:=oU d;have a3:=nN c;have a4:=oU c;refine⟨Ai (λe=>O (Ie d hd c hc e)) (by omega) (by omega),Ai (by omega) (λe=>O (Ig d hd c hc e)) (by omega),by simp[bn,O]⟩
 have same:bn ls c (ls c++[o]) c=ls c++[o]:=by simp[bn]
 have apart:∀d,d<6->∀b,((F (cat d).fi).ownBlock=E b/\d≠c\/(F (cat d).fm).ownBlock=E b/\d≠c\/∃x∈ls d,x.1=E b)->
   ¬(b=pw\/o.1=E b\/(F (cat c).fi).ownBlock=E b\/(F (cat c).fm).ownBlock=E b):=by
  intro d hd b hb;have aa:aU F ls b:=by rcases hb with⟨hb,_⟩|⟨hb,_⟩|hb;exact⟨d,hd,ae hb⟩;exact⟨d,hd,Q (ae hb)⟩;exact⟨d,hd,Q (Q hb)⟩
  have hl:=h.gO aa;rintro(e|e|e|e);omega;exact(hg b e).1 aa;·have e1:=t1 c hc b e;rcases hb with⟨hb,hne⟩|⟨hb,hne⟩|⟨x,hx,hb⟩;rw[t1 d hd b hb]at e1;simp at e1;omega;rw[t2 d hd b hb]at e1;simp at e1;obtain⟨i,hi⟩:=List.getElem?_of_mem hx;rw[t3 d hd i x b hi hb]at e1;simp at e1
  have e1:=t2 c hc b e;rcases hb with⟨hb,hne⟩|⟨hb,hne⟩|⟨x,hx,hb⟩;rw[t1 d hd b hb]at e1;simp at e1;rw[t2 d hd b hb]at e1;simp at e1;omega;obtain⟨i,hi⟩:=List.getElem?_of_mem hx;rw[t3 d hd i x b hi hb]at e1;simp at e1
 have keeps:∀d,d<6->∀x∈ls d,(x.1=V->x.2.1=0)/\(x.2.1<=maxLen)/\∀g,x.1=E g->pw<g/\g<w'.1.size/\w'.1[g]?=E (ah (ix (cat d) x).toArray (cat d).e (0,0)):=by intro d hd x hx;obtain⟨k1,k0,k2⟩:=(h.own d hd).2.2 x hx;refine⟨k1,k0,λg hgx=>?_⟩;obtain⟨q1,q2,q3⟩:=k2 g hgx;exact⟨q1,cG q2 af.size,by rw[af.block g q2 (apart d hd g (Q (Q ⟨x,hx,hgx⟩)))];exact q3⟩
 have au:∀b,v'.ownBlock=E b->m'.ownBlock=E b->False:=by
  intro b h1 h2;rcases ho.2 with⟨e,_⟩|⟨g,cap,cur,e,_,e1,_⟩;rw[e]at h1;cases h1;rcases hm.2 with⟨f,_⟩|⟨g2,aw,ax,f,_,f1,_⟩;rw[f]at h2;cases h2;rw[e]at h1;rw[f]at h2;have eg:g=b:=by simpa[Value.ownBlock]using h1
  have ak:g2=b:=by simpa[Value.ownBlock]using h2
  subst eg;subst ak;rw[e1]at f1;simp at f1;exact Ih c f1.2
 refine⟨⟨hblk,Up,λd hd=>?_,?_⟩,?_⟩
 ·by_cases O:d=c;·subst O;rw[Ag,Ah,same];refine⟨by simpa using ho,by simpa using hm,λx hx=>?_⟩;rcases cZ.1 hx with hx|hx;exact keeps d hd x hx;simp at hx;subst hx;exact⟨hn,hmx,λg hgx=>let⟨_,q1,q2,q3⟩:=hg g hgx;⟨q1,cG q2 af.size,q3⟩⟩
  obtain⟨e1,e2,e3⟩:=other d hd O;rw[e1,e2,e3];obtain⟨h1,h2,_⟩:=h.own d hd;exact⟨bf h1 af (λb hb=>apart d hd b (ae ⟨hb,O⟩)),bf h2 af (λb hb=>apart d hd b (Q (ae ⟨hb,O⟩))),keeps d hd⟩
 ·
  classical
  refine⟨λb=>if v'.ownBlock=E b then(c,0,0)else if m'.ownBlock=E b then(c,1,0)else if o.1=E b then(c,2,(ls c).length)else tg b,?_,?_,?_⟩
  ·intro d hd b hb;by_cases O:d=c;subst O;rw[Ag]at hb;simp[hb];rw[(other d hd O).1]at hb;have aa:aU F ls b:=⟨d,hd,ae hb⟩;have hl:=h.gO aa;have Y:=apart d hd b (ae ⟨hb,O⟩);have n1:v'.ownBlock≠E b:=λe=>by rcases hv' b e with e|e;exact Y (Q (Q (ae e)));omega
   have n2:m'.ownBlock≠E b:=λe=>by rcases ai b e with e|e;exact Y (Q (Q (Q e)));omega
   have n3:o.1≠E b:=λe=>Y (Q (ae e));simp only[n1,n2,n3,if_false];exact t1 d hd b hb
  ·intro d hd b hb;by_cases O:d=c;subst O;rw[Ah]at hb;have n1:v'.ownBlock≠E b:=λe=>au b e hb;simp[hb,n1];rw[(other d hd O).2.1]at hb;have aa:aU F ls b:=⟨d,hd,Q (ae hb)⟩;have hl:=h.gO aa;have Y:=apart d hd b (Q (ae ⟨hb,O⟩));have n1:v'.ownBlock≠E b:=λe=>by rcases hv' b e with e|e;exact Y (Q (Q (ae e)));omega
   have n2:m'.ownBlock≠E b:=λe=>by rcases ai b e with e|e;exact Y (Q (Q (Q e)));omega
   have n3:o.1≠E b:=λe=>Y (Q (ae e));simp only[n1,n2,n3,if_false];exact t2 d hd b hb
  intro d hd i x b hi hb;have old:x∈ls d->(ls d)[i]?=E x->(if v'.ownBlock=E b then(c,0,0)else if m'.ownBlock=E b then(c,1,0)else if o.1=E b then(c,2,(ls c).length)else tg b)=(d,2,i):=by
   intro hx am;have aa:aU F ls b:=⟨d,hd,Q (Q ⟨x,hx,hb⟩)⟩;have hl:=h.gO aa;have Y:=apart d hd b (Q (Q ⟨x,hx,hb⟩));have n1:v'.ownBlock≠E b:=λe=>by rcases hv' b e with e|e;exact Y (Q (Q (ae e)));omega
   have n2:m'.ownBlock≠E b:=λe=>by rcases ai b e with e|e;exact Y (Q (Q (Q e)));omega
   have n3:o.1≠E b:=λe=>Y (Q (ae e));simp only[n1,n2,n3,if_false];exact t3 d hd i x b am hb
  by_cases O:d=c
  ·subst O;rw[same]at hi;by_cases aq:i<(ls d).length;rw[ey aq]at hi;exact old (cU hi) hi;rw[fo (by omega)]at hi;have ap:i-(ls d).length=0:=by rcases mn (i-(ls d).length)with e|e;exact e;rw[jM (by simp;omega)]at hi;cases hi
   rw[ap]at hi;simp at hi;subst hi;have hgb:=hg b hb;have n1:v'.ownBlock≠E b:=λe=>by rcases hv' b e with e|e;exact hgb.1 ⟨d,hd,ae e⟩;omega
   have n2:m'.ownBlock≠E b:=λe=>by rcases ai b e with e|e;exact hgb.1 ⟨d,hd,Q (ae e)⟩;omega
   simp only[n1,n2,hb,if_false,if_true];rw[show i=(ls d).length by omega]
  rw[(other d hd O).2.2]at hi;exact old (cU hi) hi
 intro b hb ar aj;rintro⟨d,hd,hf⟩;by_cases O:d=c
 ·subst O;rw[Ag,Ah,same]at hf;rcases hf with hf|hf|⟨x,hx,hf⟩;·rcases hv' b hf with e|e;exact aj ⟨d,hd,ae e⟩;omega
  ·rcases ai b hf with e|e;exact aj ⟨d,hd,Q (ae e)⟩;omega
  rcases cZ.1 hx with hx|hx;exact aj ⟨d,hd,Q (Q ⟨x,hx,hf⟩)⟩;simp at hx;subst hx;exact ar hf
 rw[(other d hd O).1,(other d hd O).2.1,(other d hd O).2.2]at hf;exact aj ⟨d,hd,hf⟩
section
variable {w w1 wr w3 w5:ac}{pw:Nat}{F:Nat->ag}{nx:Int}{ls:Nat->List Ow}{o:Ow}
theorem nh (h:bH w pw F nx ls)(c)(hc:c<6)(k1:w1=w.setCell ⟨pw,15,V⟩ (Z J (nx+1)))(k2:av (λb=>o.1=E b) w1 wr)(hg:∀g,o.1=E g->¬aU F ls g/\pw<g):
  wr.1[pw]?=E (ah (jZ (upd F 15 (Z J (nx+1)))) 89 (0,0))/\wr.ownsRow (pw+1) (cat c).s 1 (F (cat c).fi) (ls c).length ((ls c).map iQ)/\
   wr.ownsRow (pw+1) 3 1 (F (cat c).fm) (ls c).length ((ls c).map λo=>Value.int J o.2.2)/\w.1.size<=wr.1.size/\av (λb=>b=pw\/o.1=E b) w wr:=by
 have hp:=h.fe;have s1:w1.1.size=w.1.size:=by rw[k1];simp[World.setCell]
 have c1:av (λb=>b=pw) w w1:=by rw[k1];exact av.setCell w ⟨pw,15,V⟩ _
 have c2:av (λb=>b=pw\/o.1=E b) w wr:=(c1.mono (λb e _=>ae e)).trans k2 (λx e _=>Q e);have hn:∀b,aU F ls b->¬(b=pw\/o.1=E b):=by rintro b hf (e|e);have:=h.gO hf;omega;exact(hg b e).1 hf
 refine⟨?_,bf (h.own c hc).1 c2 (λb hb=>hn b ⟨c,hc,ae hb⟩),bf (h.own c hc).2.1 c2 (λb hb=>hn b ⟨c,hc,Q (ae hb)⟩),c2.size,c2⟩;rw[k2.block pw (by omega) (λe=>by have:=(hg pw e).2;omega),k1];exact wO 15 _ (by omega) h.blk
theorem ni (h:bH w pw F nx ls)(c)(hc:c<6)(hb:wr.1[pw]?=E (ah (jZ (upd F 15 (Z J (nx+1)))) 89 (0,0)))(hm:wr.ownsRow (pw+1) 3 1 (F (cat c).fm) (ls c).length ((ls c).map λo=>Value.int J o.2.2))(hi:wr.ownsRow (pw+1) (cat c).s 1 (F (cat c).fi) (ls c).length ((ls c).map iQ)){X}(k3:(wr.alloc X).grownBy w3 (F (cat c).fi).ownBlock):
  w3.1[pw]?=E (ah (jZ (upd F 15 (Z J (nx+1)))) 89 (0,0))/\w3.ownsRow (pw+1) 3 1 (F (cat c).fm) (ls c).length ((ls c).map λo=>Value.int J o.2.2)/\wr.1.size<w3.1.size/\
   av (λb=>(F (cat c).fi).ownBlock=E b) wr w3:=by
 have hp:pw<wr.1.size:=by by_cases hb':pw<wr.1.size;exact hb';rw[cT (by omega)]at hb;cases hb
 have cc:av (λb=>(F (cat c).fi).ownBlock=E b) wr w3:=(av.alloc _ wr X).trans (av.grown k3) (λx e _=>e);refine⟨?_,bf hm cc (λb hb e=>?_),?_,cc⟩;rw[cc.block pw hp (λe=>by have:=hi.lt pw e;omega)];exact hb;obtain⟨tg,t1,t2,_⟩:=h.tag;have e1:=t1 c hc b e;rw[t2 c hc b hb]at e1;simp at e1;have:=k3.size;simp at this;omega
theorem nj (h:bH w pw F nx ls)(c)(hb:w3.1[pw]?=E (ah (jZ (upd F 15 (Z J (nx+1)))) 89 (0,0)))(hm:w3.ownsRow (pw+1) 3 1 (F (cat c).fm) (ls c).length ((ls c).map λo=>Value.int J o.2.2))(v'){Y}(k5:((w3.setCell ⟨pw,(cat c).fi,V⟩ v').alloc Y).grownBy w5 (F (cat c).fm).ownBlock):
  w5.1[pw]?=E (ah (jZ (upd (upd F 15 (Z J (nx+1))) (cat c).fi v')) 89 (0,0))/\w3.1.size<w5.1.size/\av (λb=>b=pw\/(F (cat c).fm).ownBlock=E b) w3 w5:=by
 have hp:pw<w3.1.size:=by by_cases hb':pw<w3.1.size;exact hb';rw[cT (by omega)]at hb;cases hb
 have O:(w3.setCell ⟨pw,(cat c).fi,V⟩ v').1.size=w3.1.size:=by simp[World.setCell]
 have b4:=wO (cat c).fi v' (by have:=nN c;omega) hb;have c4:av (λb=>(F (cat c).fm).ownBlock=E b) (w3.setCell ⟨pw,(cat c).fi,V⟩ v') w5:=(av.alloc _ _ Y).trans (av.grown k5) (λx e _=>e);refine⟨?_,?_,?_⟩;rw[c4.block pw (by omega) (λe=>by have:=hm.lt pw e;omega)];exact b4;have:=k5.size;simp at this;omega;exact((av.setCell w3 ⟨pw,(cat c).fi,V⟩ v').mono (λb e _=>ae e)).trans c4 (λx e _=>Q e)
theorem oc (h:bH w pw F nx ls)(c)(hc:c<6)(v' m')(k1:w1=w.setCell ⟨pw,15,V⟩ (Z J (nx+1)))(k2:av (λb=>o.1=E b) w1 wr){X Y}(k3:(wr.alloc X).grownBy w3 (F (cat c).fi).ownBlock)(o3:w3.ownsRow (pw+1) (cat c).s 1 v' ((ls c).length+1) ((ls c).map iQ++[iQ o]))(v3:∀b,v'.ownBlock=E b->(F (cat c).fi).ownBlock=E b\/(wr.alloc X).1.size<=b)(k5:((w3.setCell ⟨pw,(cat c).fi,V⟩ v').alloc Y).grownBy w5 (F (cat c).fm).ownBlock)(O:w5.ownsRow (pw+1) 3 1 m' ((ls c).length+1) (((ls c).map λo=>Value.int J o.2.2)++[Z J o.2.2]))(v5:∀b,m'.ownBlock=E b->(F (cat c).fm).ownBlock=E b\/((w3.setCell ⟨pw,(cat c).fi,V⟩ v').alloc Y).1.size<=b)(hg:∀g,o.1=E g->¬aU F ls g/\pw<g/\g<w.1.size/\wr.1[g]?=E (ah (ix (cat c) o).toArray (cat c).e (0,0)))(hn:o.1=V->o.2.1=0)(hmx:o.2.1<=maxLen):
  bH (w5.setCell ⟨pw,(cat c).fm,V⟩ m') pw (jJ F c nx v' m') (nx+1) (bn ls c (ls c++[o]))/\
   (∀b,b<w.1.size->o.1≠E b->¬aU F ls b->¬aU (jJ F c nx v' m') (bn ls c (ls c++[o])) b)/\(∀j,j<3->jJ F c nx v' m' j=F j)/\
   av (λb=>b=pw\/o.1=E b\/aU F ls b) w (w5.setCell ⟨pw,(cat c).fm,V⟩ m'):=by
 obtain⟨m1,m2,m3,m4,m5⟩:=nh h c hc k1 k2 (λg e=>⟨(hg g e).1,(hg g e).2.1⟩);obtain⟨p1,p2,p3,p4⟩:=ni h c hc m1 m3 m2 k3;obtain⟨q1,q2,q3⟩:=nj h c p1 p2 v' k5;have a3:=nN c;have a4:=oU c;have s3:(w3.setCell ⟨pw,(cat c).fi,V⟩ v').1.size=w3.1.size:=by simp[World.setCell]
 have s6:(w5.setCell ⟨pw,(cat c).fm,V⟩ m').1.size=w5.1.size:=by simp[World.setCell]
 have all:av (λb=>b=pw\/o.1=E b\/(F (cat c).fi).ownBlock=E b\/(F (cat c).fm).ownBlock=E b) w (w5.setCell ⟨pw,(cat c).fm,V⟩ m'):=
  ((((m5.mono (S':=λb=>b=pw\/o.1=E b\/(F (cat c).fi).ownBlock=E b\/(F (cat c).fm).ownBlock=E b) (λb e _=>by rcases e with e|e;exact ae e;exact Q (ae e))).trans p4
   (λx e _=>Q (Q (ae e)))).trans q3 (λx e _=>by rcases e with e|e;exact ae e;exact Q (Q (Q e))))).trans (av.setCell w5 ⟨pw,(cat c).fm,V⟩ m') (λx e _=>ae e);have ai:∀b,v'.ownBlock=E b->b≠pw:=λb hb e=>by have:=o3.lt b hb;omega
 have af:∀b,v'.ownBlock=E b->(F (cat c).fm).ownBlock≠E b:=by intro b hb e;have hlt:=m3.lt b e;rcases v3 b hb with e'|e';obtain⟨tg,t1,t2,_⟩:=h.tag;have e1:=t1 c hc b e';rw[t2 c hc b e]at e1;simp at e1;simp at e';omega
 have aa:(w5.setCell ⟨pw,(cat c).fm,V⟩ m').ownsRow (pw+1) (cat c).s 1 v' ((ls c).length+1) ((ls c).map iQ++[iQ o]):=
  bf o3 (q3.trans (av.setCell w5 ⟨pw,(cat c).fm,V⟩ m') (λx e _=>ae e)) (λb hb e=>by rcases e with e|e;exact ai b hb e;exact af b hb e)
 have ac:(w5.setCell ⟨pw,(cat c).fm,V⟩ m').ownsRow (pw+1) 3 1 m' ((ls c).length+1) (((ls c).map λo=>Value.int J o.2.2)++[Z J o.2.2]):=
  bf O (av.setCell w5 ⟨pw,(cat c).fm,V⟩ m') (λb hb e=>by have:=O.lt b hb;simp at e;omega)
 have step:=OZ h c hc o v' m' all (by rw[jJ];exact wO (cat c).fm m' (by omega) q1) aa ac
  (λb hb=>by rcases v3 b hb with e|e;exact ae e;simp at e;exact Q (by omega))
  (λb hb=>by rcases v5 b hb with e|e;exact ae e;rw[show((w3.setCell ⟨pw,(cat c).fi,V⟩ v').alloc Y).1.size=w3.1.size+1 by simp[World.setCell]]at e;exact Q (by omega))
  (λg e=>by obtain⟨g1,g2,g3,g4⟩:=hg g e;refine⟨g1,g2,g3,?_⟩;have n1:(F (cat c).fi).ownBlock≠E g:=λe'=>g1 ⟨c,hc,ae e'⟩;have n2:(F (cat c).fm).ownBlock≠E g:=λe'=>g1 ⟨c,hc,Q (ae e')⟩;rw[(av.setCell w5 ⟨pw,(cat c).fm,V⟩ m').block g (by omega) (by simp;omega),q3.block g (by omega) (by rintro(e'|e');omega;exact n2 e'),p4.block g (by omega) n1];exact g4) hn hmx;refine⟨step.1,step.2,λj hj=>Ai (by omega) (by omega) (by omega),all.mono (λb e _=>?_)⟩;rcases e with e|e|e|e;exact ae e;exact Q (ae e);exact Q (Q ⟨c,hc,ae e⟩);exact Q (Q ⟨c,hc,Q (ae e)⟩)
end
end
section
open Go.ChangeShapes Go.WideShapes Go.ChangeAt Go.RowKit
theorem nU:(prog.info? 3).map (λi=>(i.zero,i.size,i.bytes))=E (E (Z J 0),1,8):=by kernel_rfl
theorem CJ:(prog.info? 33).map (λi=>(i.zero,i.size,i.bytes))=E (E (U V 0 0),1,24):=by kernel_rfl
def ek (nx:Int):Int:=(nx+1)%250+1
theorem yV (nx):1<=ek nx:=by unfold ek;omega
theorem yU (nx):ek nx<=250:=by unfold ek;omega
theorem nX{pw F nx ls w}(h:bH w pw F nx ls)(h0:0<=nx)(h1:nx<=1000000000000000000):
  ay prog 160 #[aC (E ⟨pw,0,V⟩)] w λe w'=>e=az (Z J (ek nx))/\w'=w.setCell ⟨pw,15,V⟩ (Z J (nx+1)):=by obtain⟨c1,c2⟩:=dg h.blk 15 (by omega);rw[h.zf]at c1;go_enter func160,ntmps160;go_wp2;go_ret;exact⟨rfl,rfl⟩
theorem iR{v:ag}{N g n c}(h:v.ownBlock=E g\/N<=g):∀b,(Value.slice (E ⟨g,0,V⟩) n c).ownBlock=E b->v.ownBlock=E b\/N<=b:=by intro b hb;simp[Value.ownBlock]at hb;subst hb;exact h
def oG (w:ac)(g:Nat)(e:cn)(n:Nat)(u:ag)(k:Nat)(wr:ac):Prop:=
 av (λb=>b=g) w wr/\∃cur:Array ag,wr.1[g]?=E (ah cur e (0,0))/\cur.size=n/\∀j,j<k->cur[j]?=E u
theorem Ck{w g n u cur}(h:w.1[g]?=E (ah cur e (0,0)))(hs:cur.size=n):oG w g e n u 0 w:=
 ⟨av.refl _ _,cur,h,hs,λj hj=>absurd hj (by omega)⟩
theorem Ci{w wr g n u k}(h:oG w g e n u k wr)(j)(hj:j<n):(∃v,wr.cell? ⟨g,j,V⟩=E v)/\wr.frozen? ⟨g,j,V⟩=Y:=by obtain⟨_,cur,h1,h2,_⟩:=h;refine⟨⟨cur[j]'(by omega),?_⟩,by simp[World.frozen?,h1]⟩;simp only[World.cell?,h1];simp[h2,hj]
theorem Cj{w wr g n u k}(h:oG w g e n u k wr)(hk:k<n):oG w g e n u (k+1) (wr.setCell ⟨g,k,V⟩ u):=by obtain⟨h0,cur,h1,h2,h3⟩:=h;refine⟨h0.trans (av.setCell wr ⟨g,k,V⟩ u) (λx hx _=>hx),cur.setIfInBounds k u,bI wr g k cur e u h1,by simp[h2],λj hj=>?_⟩;rw[pP];by_cases e:k=j;subst e;simp;omega;rw[ar e];exact h3 j (by omega)
theorem OH (b n m):ix (cat 0) (b,n,m)=List.replicate n (Z J m):=by
 show(List.replicate n [Value.int J m]).flatten=_
 induction n with
 |zero=>rfl
 |succ n ih=>rw[nC,oy,ih,nC];rfl
theorem JI{w wr g n m}(h:oG w g e n (Z J m) n wr):wr.1[g]?=E (ah (ix (cat 0) (E g,n,m)).toArray e (0,0)):=by obtain⟨_,cur,h1,h2,h3⟩:=h;rw[h1];have e1:=OH (E g) n m;rw[e1];congr 2;apply uF;intro i;by_cases hi:i<n;rw[h3 i hi];simp[hi];rw[cT (by omega),cT (by simp;omega)]
theorem Dz{pw F nx ls}(g n cap cur){w}(h:bH w pw F nx ls)(h0:0<=nx)(h1:nx<=1000000000000000000)(hlen:((ls 0).length+1)*24<=140737488355328)(hg:w.1[g]?=E (ah cur 3 (0,0)))(hcs:cur.size=cap)(aK:n<=cap)(hcm:cap<=maxLen)(ap:pw<g)(aj:¬aU F ls g):
  ay prog 88 #[aC (E ⟨pw,0,V⟩),U (E ⟨g,0,V⟩) n cap] w λe w'=>e=az (.tuple #[])/\∃F',bH w' pw F' (nx+1) (bn ls 0 (ls 0++[(E g,cap,ek nx)]))/\
   (∀b,b<w.1.size->g≠b->¬aU F ls b->¬aU F' (bn ls 0 (ls 0++[(E g,cap,ek nx)])) b)/\(∀j,j<3->F' j=F j)/\
   av (λb=>b=pw\/g=b\/aU F ls b) w w':=by
 obtain⟨i0,hi,hz0,hz1,hz2⟩:=bO nU;obtain⟨i1,aD,aF,aG,aI⟩:=bO CJ;unfold maxLen at hcm;have aB:g<w.1.size:=by by_cases hb:g<w.1.size;exact hb;rw[cT (by omega)]at hg;cases hg
 have O:=I h;have HF:=I aj;have HG:=I hg;have HC:=I hcs;clear h aj hg hcs;go_enter func88,ntmps88;go_wp2_with fail;refine aH (nX O.o h0 h1) λw1 af=>?_;have g1:w1.1[g]?=E (ah cur 3 (0,0)):=by rw[af,fI _ _ _ _ (by simp;omega)];exact HG.o
 have W1:=I af;have G1:=I g1;clear af g1;generalize hm:ek nx=m at*;have HM:=I hm;clear hm;go_wp2;go_loopw [6] (λi wr=>∃k:Nat,k<=cap/\i=Z J k/\oG w1 g 3 cap (Z J m) k wr) (λi _=>cap-(aA i).toNat);case atStart=>exact⟨0,by omega,rfl,Ck G1.o HC.o⟩
 obtain⟨k,hk,rfl,Y⟩:=hrel;have FI:=I Y;by_cases hlt:k<cap
 ·obtain⟨⟨v,c1⟩,c2⟩:=Ci Y k hlt;clear Y;go_wp2;go_roundw;case rel=>exact⟨k+1,by omega,by go_num,Cj FI.o hlt⟩
  simp[aA];omega
 have ax:k=cap:=by omega
 subst ax;clear Y;have k2:=FI.o.1.mono (S':=λb=>((E g,k,m):Ow).1=E b) (λb e _=>by rw[e]);have K2:=I k2;obtain⟨a1,a2,a3,a4,a5⟩:=nh O.o 0 (by omega) W1.o k2 (λx e=>by cases e;exact⟨HF.o,ap⟩);obtain⟨c3,ar⟩:=dg a1 3 (by omega);rw[dM (by omega)]at c3;have A1:=I a1;have A2:=I a2;have A3:=I a3;clear a1 a2 a3 a5 k2;go_wp2_with(at_builtin;refine dQ rfl 82 rfl (pw+1) 33 i1 (U V 0 0) 24 underlying82 aD aF aG aI rfl (F 3) (ls 0).length ((ls 0).map iQ) rfl (A2.o.alloc _) ⟨wr.1.size,0,V⟩ 1 (U (E ⟨g,0,V⟩) k k) rfl (by simp[go_sem]) rfl (by unfold maxLen;omega) hlen (by simp;omega) ?_);intro g3 aa w3 ak hg3 hv3;obtain⟨p1,p2,p3,p4⟩:=ni O.o 0 (by omega) A1.o A3.o A2.o hg3;obtain⟨c9,au⟩:=dg p1 9 (by omega);rw[dM (by omega)]at c9;obtain⟨d3,aw⟩:=dg p1 3 (by omega);rw[dM (by omega)]at d3;have O3:=I ak;have K3:=I hg3;have V3:=I (iR (n:=(ls 0).length+1) (c:=aa) hv3);have P1:=I p1;have P2:=I p2;clear ak hg3 hv3 p1 p2 p4 c3 ar;go_wp2_with(at_builtin;(refine dQ rfl 33 rfl (pw+1) 3 i0 (Z J 0) 8 gW hi hz0 hz1 hz2 rfl (F 9) (ls 0).length ((ls 0).map λo=>Value.int J o.2.2) rfl ((pQ P2.o (by simp) _).alloc _) ⟨w3.1.size,0,V⟩ 1 (Z J m) rfl (by simp[go_sem]) rfl (by unfold maxLen;omega) (by omega) (by simp[World.setCell];omega) ?_));intro g5 ai w5 am ae aq;obtain⟨q1,q2,q3⟩:=nj O.o 0 P1.o P2.o (U (E ⟨g3,0,V⟩) ((ls 0).length+1) aa) ae;obtain⟨f9,aJ⟩:=dg q1 9 (by omega);have O5:=I am;have K5:=I ae;have V5:=I (iR (n:=(ls 0).length+1) (c:=ai) aq);clear am ae aq q1 q3 d3 aw c9 au;go_wp2;go_end0;have R:=oc O.o 0 (by omega) (o:=(E g,k,m)) (U (E ⟨g3,0,V⟩) ((ls 0).length+1) aa) (U (E ⟨g5,0,V⟩) ((ls 0).length+1) ai) W1.o K2.o K3.o O3.o (λb hb=>by simpa[cat]using V3.o b hb) K5.o O5.o (λb hb=>by simpa[World.setCell,cat]using V5.o b hb) (λx e=>by cases e;exact⟨HF.o,ap,aB,JI FI.o⟩) (λe=>by cases e) (by first|exact bi _|(show k<=maxLen;unfold maxLen;omega));rw[HM.o];exact⟨rfl,_,R.1,λb hb hne hf=>R.2.1 b hb (by simpa using hne) hf,R.2.2.1,R.2.2.2.mono (λb e _=>by simpa using e)⟩
theorem OQ{pw F nx ls w}(h:bH w pw F nx ls)(h0:0<=nx)(h1:nx<=1000000000000000000)(hlen:((ls 0).length+1)*24<=140737488355328):
  ay prog 88 #[aC (E ⟨pw,0,V⟩),U V 0 0] w λe w'=>e=az (.tuple #[])/\∃F',bH w' pw F' (nx+1) (bn ls 0 (ls 0++[(V,0,ek nx)]))/\
   (∀b,b<w.1.size->¬aU F ls b->¬aU F' (bn ls 0 (ls 0++[(V,0,ek nx)])) b)/\(∀j,j<3->F' j=F j)/\
   av (λb=>b=pw\/aU F ls b) w w':=by
 obtain⟨i0,hi,hz0,hz1,hz2⟩:=bO nU;obtain⟨i1,aq,ar,au,aw⟩:=bO CJ;have hpl:=h.fe;have O:=I h;clear h;go_enter func88,ntmps88;go_wp2_with fail;refine aH (nX O.o h0 h1) λwr aj=>?_;have W1:=I aj;clear aj;generalize hm:ek nx=m at*;have HM:=I hm;clear hm;have k2:av (λb=>((V,0,m):Ow).1=E b) wr wr:=av.refl _ _;have K2:=I k2;obtain⟨a1,a2,a3,a4,a5⟩:=nh O.o 0 (by omega) W1.o k2 (λx e=>by cases e);obtain⟨c3,ak⟩:=dg a1 3 (by omega);rw[dM (by omega)]at c3;have A1:=I a1;have A2:=I a2;have A3:=I a3;clear a1 a2 a3 a5 k2;go_wp2;go_loop [6] (λi=>i=Z J 0) (λ_=>0);case atStart=>rfl
 subst hrel;go_wp2_with(at_builtin;refine dQ rfl 82 rfl (pw+1) 33 i1 (U V 0 0) 24 underlying82 aq ar au aw rfl (F 3) (ls 0).length ((ls 0).map iQ) rfl (A2.o.alloc _) ⟨wr.1.size,0,V⟩ 1 (U V 0 0) rfl (by simp[go_sem]) rfl (by unfold maxLen;omega) hlen (by simp;omega) ?_);intro g3 Y w3 af hg3 hv3;obtain⟨p1,p2,p3,p4⟩:=ni O.o 0 (by omega) A1.o A3.o A2.o hg3;obtain⟨c9,am⟩:=dg p1 9 (by omega);rw[dM (by omega)]at c9;obtain⟨d3,ap⟩:=dg p1 3 (by omega);rw[dM (by omega)]at d3;have O3:=I af;have K3:=I hg3;have V3:=I (iR (n:=(ls 0).length+1) (c:=Y) hv3);have P1:=I p1;have P2:=I p2;clear af hg3 hv3 p1 p2 p4 c3 ak;go_wp2_with(at_builtin;(refine dQ rfl 33 rfl (pw+1) 3 i0 (Z J 0) 8 gW hi hz0 hz1 hz2 rfl (F 9) (ls 0).length ((ls 0).map λo=>Value.int J o.2.2) rfl ((pQ P2.o (by simp) _).alloc _) ⟨w3.1.size,0,V⟩ 1 (Z J m) rfl (by simp[go_sem]) rfl (by unfold maxLen;omega) (by omega) (by simp[World.setCell];omega) ?_));intro g5 ae w5 ah aa ai;obtain⟨q1,q2,q3⟩:=nj O.o 0 P1.o P2.o (U (E ⟨g3,0,V⟩) ((ls 0).length+1) Y) aa;obtain⟨f9,ax⟩:=dg q1 9 (by omega);have O5:=I ah;have K5:=I aa;have V5:=I (iR (n:=(ls 0).length+1) (c:=ae) ai);clear ah aa ai q1 q3 d3 ap c9 am;go_wp2;go_end0;have R:=oc O.o 0 (by omega) (o:=(V,0,m)) (U (E ⟨g3,0,V⟩) ((ls 0).length+1) Y) (U (E ⟨g5,0,V⟩) ((ls 0).length+1) ae) W1.o K2.o K3.o O3.o (λb hb=>by simpa[cat]using V3.o b hb) K5.o O5.o (λb hb=>by simpa[World.setCell,cat]using V5.o b hb) (λx e=>by cases e) (λ_=>rfl) (bi _);rw[HM.o];exact⟨rfl,_,R.1,λb hb hf=>R.2.1 b hb (by simp) hf,R.2.2.1,R.2.2.2.mono (λb e _=>by simpa using e)⟩
theorem pu{a b w}(ha:0<=a)(ha':a<2305843009213693951)(hb:0<=b)(hb':b<2305843009213693951):
  ay prog 268 #[Z J a,Z J b] w λe w'=>e=az (Z J (bA a b))/\w'=w:=by go_enter func268,ntmps268;go_wp2;go_ret;exact⟨rfl,rfl⟩
theorem yT{a b w}(ha:0<=a)(ha':a<2305843009213693951)(hb:0<=b)(hb':b<2305843009213693951):
  ay prog 273 #[Z J a,Z J b] w λe w'=>e=az (Z J (dA a b))/\w'=w:=by go_enter func273,ntmps273;go_wp2;go_ret;exact⟨rfl,rfl⟩
theorem lJ{a b w}(ha:0<=a)(ha':a<2305843009213693951)(hb:0<=b)(hb':b<2305843009213693951):
  ay prog 144 #[Z J a,Z J b] w λe w'=>e=az (Z J (bc a b))/\w'=w:=by go_enter func144,ntmps144;go_wp2;go_ret;exact⟨cg (λx=>Ending.returned (Z J x)) (Ue a b ha ha' hb hb'),rfl⟩
theorem cX{a w}:
  ay prog 143 #[Z J a] w λe w'=>e=az (ak (aG a))/\w'=w:=by
 by_cases h:0<=a
 ·by_cases h':a<2305843009213693951;·have H:cO (aG a=aa):=eD h h';go_enter func143,ntmps143;go_wp2;go_ret;exact⟨cg (λx=>Ending.returned (ak x)) H.o.symm,rfl⟩
  have H:cO (aG a=Y):=qp (λx=>h' x.2);go_enter func143,ntmps143;go_wp2;go_ret;exact⟨cg (λx=>Ending.returned (ak x)) H.o.symm,rfl⟩
 have H:cO (aG a=Y):=qp (λx=>h x.1);go_enter func143,ntmps143;go_wp2;go_ret;exact⟨cg (λx=>Ending.returned (ak x)) H.o.symm,rfl⟩
theorem fX (a w):
  ay prog 201 #[Z J a] w λe w'=>e=az (ak (bE a))/\w'=w:=by
 by_cases h:1<=a
 ·by_cases h':a<=12;·have H:cO (bE a=aa):=dW h h';go_enter func201,ntmps201;go_wp2;go_ret;exact⟨cg (λx=>Ending.returned (ak x)) H.o.symm,rfl⟩
  have H:cO (bE a=Y):=kD (λx=>h' x.2);go_enter func201,ntmps201;go_wp2;go_ret;exact⟨cg (λx=>Ending.returned (ak x)) H.o.symm,rfl⟩
 have H:cO (bE a=Y):=kD (λx=>h x.1);go_enter func201,ntmps201;go_wp2;go_ret;exact⟨cg (λx=>Ending.returned (ak x)) H.o.symm,rfl⟩
theorem sj (a k w)(ha:0<=a)(ha':a<2305843009213693951)(hk:k<=9223372036854775807):
  ay prog 147 #[Z J a,Z J k] w λe w'=>e=az (Z J (bB a k))/\w'=w:=by
 go_enter func147,ntmps147;go_wp2;go_loop [1,5,6] (λk' p s=>∃kk pp ss:Int,k'=Z J kk/\p=Z J pp/\s=Z J ss/\oI a k kk pp ss) (λk' _ _=>(aA k').toNat);case atStart=>exact⟨_,_,_,rfl,rfl,rfl,PB a k ha ha' hk⟩
 obtain⟨kk,pp,ss,rfl,rfl,rfl,hi⟩:=hrel;have q1:=hi.1;have q2:=hi.2.1;have q3:=hi.2.2.1;have q4:=hi.2.2.2.1;have q5:=hi.2.2.2.2.1;have H:cO (oI a k kk pp ss):=hi;by_cases hp:0<kk
 ·by_cases ho:kk%2=1
  ·have O:(kk%2==1)=aa:=by simp[ho]
   go_wp2_with(go_at_call 144;refine(lJ (by assumption) (by assumption) (by assumption) (by assumption)).mono ?_;rintro e w' ⟨rfl,rfl⟩);go_round;case rel=>exact⟨_,_,_,rfl,rfl,rfl,PA H.o hp O⟩
   simp[aA];omega
  have O:(kk%2==1)=Y:=by simp[ho]
  go_wp2_with(go_at_call 144;refine(lJ (by assumption) (by assumption) (by assumption) (by assumption)).mono ?_;rintro e w' ⟨rfl,rfl⟩);go_round;case rel=>exact⟨_,_,_,rfl,rfl,rfl,Pz H.o hp O⟩
  simp[aA];omega
 go_wp2;go_ret;exact⟨cg (λx=>Ending.returned (Z J x)) (Py H.o hp),rfl⟩
theorem gQ{p}(h:p):cO p:=h
theorem pz{a b w}(ha:0<=a)(ha':a<2305843009213693951)(hb:0<=b)(hb':b<2305843009213693951):
  ay prog 209 #[Z J a,Z J b] w λe w'=>e=az (Z J (bA a b))/\w'=w:=by
 by_cases h:a+b<2305843009213693951
 ·have H:cO (a+b=bA a b):=by show _=(a+b)%2305843009213693951;omega
  go_enter func209,ntmps209;go_wp2;go_ret;exact⟨cg (λx=>Ending.returned (Z J x)) H.o,rfl⟩
 have H:cO (a+b-2305843009213693951=bA a b):=by show _=(a+b)%2305843009213693951;omega
 go_enter func209,ntmps209;go_wp2;go_ret;exact⟨cg (λx=>Ending.returned (Z J x)) H.o,rfl⟩
theorem wF{a b w}(ha:0<=a)(ha':a<2305843009213693951)(hb:0<=b)(hb':b<2305843009213693951):
  ay prog 215 #[Z J a,Z J b] w λe w'=>e=az (Z J (dA a b))/\w'=w:=by
 by_cases h:a<b
 ·have H:cO (a+2305843009213693951-b=dA a b):=by show _=(a-b+2305843009213693951)%2305843009213693951;omega
  go_enter func215,ntmps215;go_wp2;go_ret;exact⟨cg (λx=>Ending.returned (Z J x)) H.o,rfl⟩
 have H:cO (a-b=dA a b):=by show _=(a-b+2305843009213693951)%2305843009213693951;omega
 go_enter func215,ntmps215;go_wp2;go_ret;exact⟨cg (λx=>Ending.returned (Z J x)) H.o,rfl⟩
theorem nk{a b w}(ha:0<=a)(ha':a<2305843009213693951)(hb:0<=b)(hb':b<2305843009213693951):
  ay prog 146 #[Z J a,Z J b] w λe w'=>e=az (Z J (bc a b))/\w'=w:=by
 go_enter func146,ntmps146;go_wp2;go_loop [5,6] (λr i=>∃O Y:Int,-1<=O/\O<=60/\i=Z J O/\r=Z J Y/\Y=bc a (b/2 ^ (O+1).toNat)) (λ_ i=>(aA i+1).toNat);case atStart=>exact⟨60,0,by omega,by omega,rfl,rfl,Hr a b 61 hb (by omega)⟩
 obtain⟨O,Y,hn,aa,rfl,rfl,hr⟩:=hrel;have r1:0<=Y:=by rw[hr];exact iO
 have r2:Y<2305843009213693951:=by rw[hr];exact iN
 by_cases h:0<=O
 ·have HR:cO (Y=bc a (b/2 ^ (O.toNat+1))):=by rw[show O.toNat+1=(O+1).toNat by omega];exact hr
  clear hr;have e1:(O-1+1).toNat=O.toNat:=by omega
  have E1:cO ((O-1+1).toNat=O.toNat):=e1;clear e1;go_wp2_with fail;refine aI (pz r1 r2 r1 r2) ?_;cases ht:((b/2 ^ O.toNat).tmod 2==1)
  ·go_wp2;go_round;case rel=>exact⟨O-1,_,by omega,by omega,rfl,rfl,by rw[E1.o];exact Hq a b Y hb HR.o ht⟩
   simp[aA];omega
  go_wp2_with fail;refine aI (pz (kC _ _) (kB _ _) ha ha') ?_;go_wp2;go_round;case rel=>exact⟨O-1,_,by omega,by omega,rfl,rfl,by rw[E1.o];exact Ht a b Y hb HR.o ht⟩
  simp[aA];omega
 have HR:cO (Y=bc a b):=by show Y=bc a b;rw[hr,show(O+1).toNat=0 by omega];exact Hs a b
 clear hr;go_wp2;go_ret;exact⟨cg (λx=>Ending.returned (Z J x)) HR.o,rfl⟩
theorem qL (a)(ha:0<=a)(ha':a<2305843009213693951):∀(n:Nat)(k:Int)(w:ac),k.toNat<=n->k<=9223372036854775807->
  ay prog 148 #[Z J a,Z J k] w λe w'=>e=az (Z J (bB a k))/\w'=w:=by
 intro n
 induction n with
 |zero=>
  intro k w hk Y;have hp:k<=0:=by omega
  have H:cO (1=bB a k):=by show 1=bB a k;exact(DJ a k hp).symm
  go_enter func148,ntmps148;go_wp2;go_ret;exact⟨cg (λx=>Ending.returned (Z J x)) H.o,rfl⟩
 |succ n ih=>
  intro k w hk Y;have O:cO _:=gQ ih;by_cases hp:k<=0
  ·have H:cO (1=bB a k):=by show 1=bB a k;exact(DJ a k hp).symm
   go_enter func148,ntmps148;go_wp2;go_ret;exact⟨cg (λx=>Ending.returned (Z J x)) H.o,rfl⟩
  cases ho:(k%2==1);·have H:cO (bc (bB a (k/2)) (bB a (k/2))=bB a k):=PD a k (by omega) ho;go_enter func148,ntmps148;go_wp2_with fail;refine aI (O.o _ _ (by omega) (by omega)) ?_;go_wp2_with fail;refine aI (nk (ki _ _) (kh _ _) (ki _ _) (kh _ _)) ?_;go_wp2;go_ret;exact⟨cg (λx=>Ending.returned (Z J x)) H.o,rfl⟩
  have H:cO (bc (bc (bB a (k/2)) (bB a (k/2))) a=bB a k):=PF a k (by omega) ho;go_enter func148,ntmps148;go_wp2_with fail;refine aI (O.o _ _ (by omega) (by omega)) ?_;go_wp2_with fail;refine aI (nk (ki _ _) (kh _ _) (ki _ _) (kh _ _)) ?_;go_wp2_with fail;refine aI (nk (iO) (iN) ha ha') ?_;go_wp2;go_ret;exact⟨cg (λx=>Ending.returned (Z J x)) H.o,rfl⟩
theorem jk{a w}:
  ay prog 145 #[Z J a] w λe w'=>e=az (ak (aG a))/\w'=w:=by
 by_cases h:0<=a
 ·by_cases h':a<2305843009213693951;·have H:cO (aG a=aa):=eD h h';go_enter func145,ntmps145;go_wp2;go_ret;exact⟨cg (λx=>Ending.returned (ak x)) H.o.symm,rfl⟩
  have H:cO (aG a=Y):=qp (λx=>h' x.2);go_enter func145,ntmps145;go_wp2;go_ret;exact⟨cg (λx=>Ending.returned (ak x)) H.o.symm,rfl⟩
 have H:cO (aG a=Y):=qp (λx=>h x.1);go_enter func145,ntmps145;go_wp2;go_ret;exact⟨cg (λx=>Ending.returned (ak x)) H.o.symm,rfl⟩
theorem nt{a w}:
  ay prog 219 #[Z J a] w λe w'=>e=az (ak (bE a))/\w'=w:=by
 by_cases h:1<=a
 ·by_cases h':a<=12;·have H:cO (bE a=aa):=dW h h';go_enter func219,ntmps219;go_wp2;go_ret;exact⟨cg (λx=>Ending.returned (ak x)) H.o.symm,rfl⟩
  have H:cO (bE a=Y):=kD (λx=>h' x.2);go_enter func219,ntmps219;go_wp2;go_ret;exact⟨cg (λx=>Ending.returned (ak x)) H.o.symm,rfl⟩
 have H:cO (bE a=Y):=kD (λx=>h x.1);go_enter func219,ntmps219;go_wp2;go_ret;exact⟨cg (λx=>Ending.returned (ak x)) H.o.symm,rfl⟩
theorem qF{a w}:
  ay prog 80 #[Z J a] w λe w'=>e=az (Z J a)/\w'=w:=by go_enter func80,ntmps80;go_wp2;go_ret;exact⟨rfl,rfl⟩
theorem zw{w:ac}{B v n xs}(h:w.ownsRow B e 1 v n xs):
  ∃(a:Option Addr)(c:Nat),v=U a n c/\n<=c/\c<=maxLen/\∀i,i<n->∃g,a=E ⟨g,0,V⟩/\w.cell? ⟨g,i,V⟩=xs[i]? :=by have h0:=h;rcases h.2 with⟨rfl,rfl⟩|⟨g,cap,cur,rfl,_,_,O,hcm,_⟩;exact⟨V,0,rfl,aw _,bi _,λi hi=>absurd hi (by omega)⟩;exact⟨E ⟨g,0,V⟩,cap,rfl,O,hcm,λi hi=>⟨g,rfl,h0.cellAt i (by omega)⟩⟩
theorem rX{w pw F nx ls}(h:bH w pw F nx ls)(c)(hc:c<6):∃a cap,F (cat c).fi=U a (ls c).length cap/\(ls c).length<=cap/\cap<=maxLen:=by obtain⟨a,cap,e,l,m,_⟩:=zw (h.own c hc).1;exact⟨a,cap,e,l,m⟩
theorem qG{k q w}(ha:0<=k)(ha':k<2305843009213693951)(hb:0<=q)(hb':q<2305843009213693951):
  ay prog 269 #[Z J k,Z J q] w λe w'=>e=az (Z J (bL k q))/\w'=w:=by go_enter func269,ntmps269;go_wp2_with fail;refine aI (lJ hb hb' (by omega) (by omega)) ?_;go_wp2_with fail;refine aI (pu ha ha' (iO) (iN)) ?_;go_wp2_with fail;refine aI (lJ (kC _ _) (kB _ _) (kC _ _) (kB _ _)) ?_;go_wp2_with fail;refine aI (lJ (iO) (iN) (kC _ _) (kB _ _)) ?_;go_wp2;go_ret;exact⟨rfl,rfl⟩
theorem yr{a b w}(ha:1<=a)(ha':a<=12)(hb:1<=b)(hb':b<=12):
  ay prog 271 #[Z J a,Z J b] w λe w'=>e=az (Z J (64*a+4*b))/\w'=w:=by go_enter func271,ntmps271;go_wp2;go_ret;exact⟨rfl,rfl⟩
theorem z_{k q x y w}(hk:0<=k)(O:k<2305843009213693951)(hq:0<=q)(ae:q<=1000)(hx:0<=x)(Y:x<2305843009213693951)(hy:0<=y)(aa:y<2305843009213693951):
  ay prog 272 #[Z J k,Z J q,Z J x,Z J y] w λe w'=>e=az (Z J (fj k q x y))/\w'=w:=by go_enter func272,ntmps272;go_wp2_with fail;refine aI (qG hk O (by omega) (by omega)) ?_;have p1:=iU k (q+2);have p2:=iT k (q+2);go_wp2_with fail;refine aI (lJ p1 p2 hx Y) ?_;go_wp2_with fail;refine aI (lJ p1 p2 p1 p2) ?_;go_wp2_with fail;refine aI (lJ (iO) (iN) hy aa) ?_;go_wp2_with fail;refine aI (pu (iO) (iN) (iO) (iN)) ?_;go_wp2_with fail;refine aI (qG hk O (by omega) (by omega)) ?_;go_wp2_with fail;refine aI (pu (kC _ _) (kB _ _) (iU _ _) (iT _ _)) ?_;go_wp2;go_ret;exact⟨rfl,rfl⟩
theorem yK{k a b w}:
  ay prog 270 #[Z J k,Z J a,Z J b] w λe w'=>e=az (ak (aG k&&(bE a&&bE b)))/\w'=w:=by
 cases h1:aG k;·go_enter func270,ntmps270;go_wp2_with(go_at_call 143;refine(cX).mono ?_;rintro e w' ⟨rfl,rfl⟩);go_ret;exact⟨rfl,rfl⟩
 cases h2:bE a;·go_enter func270,ntmps270;go_wp2_with(first|(go_at_call 143;refine(cX).mono ?_;rintro e w' ⟨rfl,rfl⟩)|(go_at_call 201;refine(fX _ _).mono ?_;rintro e w' ⟨rfl,rfl⟩));go_ret;exact⟨rfl,rfl⟩
 cases h3:bE b;all_goals go_enter func270,ntmps270;go_wp2_with(first|(go_at_call 143;refine(cX).mono ?_;rintro e w' ⟨rfl,rfl⟩)|(go_at_call 201;refine(fX _ _).mono ?_;rintro e w' ⟨rfl,rfl⟩));go_ret;exact⟨rfl,rfl⟩
theorem vX (k)(i:Nat)(w)(ha:0<=k)(ha':k<2305843009213693951)(hi:i<=12):
  ay prog 217 #[Z J k,Z J ((i:Int)+1)] w λe w'=>e=az (Z J (cj k i))/\w'=w:=by
 go_enter func217,ntmps217;go_wp2_with fail;refine aI (qG ha ha' (by omega) (by omega)) ?_;obtain⟨p,hp⟩:=aj (bL k ((i:Int)+1));rw[<-hp];have p1:0<=p:=by rw[hp];exact iU _ _
 have p2:p<2305843009213693951:=by rw[hp];exact iT _ _
 have O:=I hp;clear hp;have Y:=A (cj k i=p/1048576%4294967296) (by rw[O.o];rfl);go_wp2;go_ret;rw[Y.o];exact⟨rfl,rfl⟩
end
end Go.Proofs.YtchideljndagjabGreat


