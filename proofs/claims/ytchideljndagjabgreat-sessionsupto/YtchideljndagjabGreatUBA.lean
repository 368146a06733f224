/- Joined -/
import Derived.Test.YtchideljndagjabGreatUAZ
import Derived.Laws.Cover3
import Derived.Laws.AppendOwnNone
import Derived.Deep.RegionLaw
set_option linter.unusedVariables false
set_option maxHeartbeats 2000000
set_option maxRecDepth 100000
namespace Go.Proofs.YtchideljndagjabGreat
open aq aO aB
open Go.Value renaming int->Z,slice->U,pointer->aC,agg->aD,tuple->br
open Go.IntKind renaming i64->J
open Go.Obj renaming cells->ah
open Go.Ending renaming returned->az
open Or renaming inl->ae,inr->Q
open Option renaming none->V,some->E
open Go renaming World->ac,Value->ag,Calls->ay,TypeId->cn
open Go.RowKit renaming Below->af,intOf->aA
abbrev Gi:=@results_none
abbrev Gj:=@List.eraseIdx_of_length_le
abbrev Ve:=@List.length_eraseIdx_le
abbrev AP:=@List.length_eraseIdx
abbrev Vf:=@List.mem_of_mem_eraseIdx
abbrev Vj:=@step_append_lies
abbrev Vd:=@World.news_of_block
open Go.Proofs.Tryz
open Go.ChangeShapes Go.WideShapes Go.ChangeAt Go.RowKit
variable {c:Cl}{zs:List Int}{b n:Nat}{cl:Nat->Cl}{S:PS}{m:SM}{s:Sn}{C:Cf}{α:Type}{v v':ag}{w w':ac}
theorem TS{oo}(h:Co.aJ w b oo S)(hp:S.ph=0)(hv:bX w v zs):
  ay prog 141 #[aC (E ⟨b,oo,V⟩),v] w λe w'=>e=az (U V 0 0)/\af w.1.size w w':=by
 have hbl:=h.lt;have HD:=I (yl hv);have c1:=h.c1;rw[hp]at c1;obtain⟨aa,cz,rfl,-,-,hB,-⟩:=eC hv;clear hv h hp
 cases hd:cJ zs with
 |none=> obtain⟨x1,x2,x3,Y⟩:=mC hd;rw[x1,x2,x3,Y]at HD;clear x1 x2 x3 Y hd c1 hB;go_enter oD,oF;go_wp2_with fail;refine HD.o.mono ?_;rintro e w1 ⟨va,rfl,hown,hb⟩;obtain⟨a',c',hv'⟩:=a_ hown;subst hv';have O:=I hb;clear hown hb;go_wp2;go_ret;exact⟨rfl,O.o.alloc O.o.size _⟩
 |some f=>
  obtain⟨k,fr,l⟩:=f;obtain⟨x1,x2,x3,Y⟩:=nR hd;rw[x1,x2,x3,Y]at HD;clear x1 x2 x3 Y hd hB;go_enter oD,oF;go_wp2_with fail;refine HD.o.mono ?_;rintro e w1 ⟨va,rfl,hown,hb⟩;obtain⟨a',c',hv'⟩:=a_ hown;subst hv';have s1:=hb.size;have al:∀(ob:Obj),(w1.alloc ob).cell? ⟨b,oo+1,V⟩=E (Z J 0):=λob=>by rw[((ax w1.1.size w1).alloc (aw _) ob).cell (p:=⟨b,oo+1,V⟩) (by show b<_;omega),hb.cell (p:=⟨b,oo+1,V⟩) hbl];exact c1
  have O:=I hb;clear hown hb c1;go_wp2;go_ret;exact⟨rfl,O.o.alloc O.o.size _⟩
theorem Fu (f:Nat->α)(i):bu f i (f i)=f:=by
 funext j;unfold bu;split;·rename_i e;rw[e]
 rfl
theorem Qo (d)(h:bM w b n C cl s m)(ok:bU C cl n s)(hd:¬(1<=d/\d<=(n:Int)))(hv:bX w v zs):
  ay prog 76 #[aC (E ⟨b,0,V⟩),Z J d,v] w λe w'=>e=az (br #[])/\∃m',cL w w' b n C cl (qM C s zs) m m':=by have O:=I (tR d h);rw[aM hd]at O;have HT:=I (Rz h.ba ok.ia hv);have HS:=I (λ(w':ac)(S':SS)(t:iI w w' b C (fB C s.q zs) m.S S')=>h.Af t);obtain⟨ae,cz,rfl,-⟩:=eC hv;clear h ok hd hv;generalize kQ C s.q zs=cn at*;generalize zs.length=nz at*;go_enter func76,ntmps76;go_wp2_with fail;refine aH O.o λw1 Y=>?_;rw[Y];clear Y w1;go_wp2_with fail;refine HT.o.mono ?_;rintro e w2 ⟨rfl,S',t⟩;have aa:=I (HS.o w2 S' t);clear t;go_wp2_with fail;(try simp only[Exit.inBlock,Exit.then]);refine cQ (Gi rfl _ _ _) rfl ?_;exact⟨rfl,_,aa.o⟩
theorem Sl{w1 w2}{i:Nat}{s s1 s2:Sn}{m1 m2 va}(h:cL w w1 b n C cl s1 m m1)(k:xP w1 w2 b n C cl s2 m1 m2 va)(O:∀x,va.ownBlock=E x->w.1.size<=x):cL w w2 b n C cl s2 m m2:=by
 have z:=h.aV.size;refine⟨k.bP,h.aV.trans k.aV (λx e hx=>(h.own x e).elim id (λq=>by omega)),λx hx=>?_,λx hx=>?_⟩;·rcases k.own x hx with e|e;exact h.own x e;exact Q (by omega)
 rcases k.aS x hx with e|e|e;exact h.aS x e;exact Q (by omega);exact Q (O x e)
theorem Bo (hc:dr c){s}(hB:cY zs){f}(h:fM c s zs=E f):aq.okF f.1 f.2.1 f.2.2=true:=by
 cases hd:cJ zs with
 |none=>rw[(um hd).2]at h;cases h
 |some g=>
  obtain⟨k,fr,l⟩:=g;by_cases k1:s.1=1/\k=2;·obtain⟨p1,rfl⟩:=k1;rw[(wU (c:=c) hd p1).2]at h;split at h;cases h;exact wP hc (en (qw hB hd).1).2.2.1;cases h
  by_cases k2:s.1=2/\k=4;·obtain⟨p1,rfl⟩:=k2;rw[(wT (c:=c) hd p1).2]at h;split at h;cases h;exact vZ hc _ _;cases h
  by_cases k3:s.1=3/\k=6;·obtain⟨p1,rfl⟩:=k3;rw[(wS (c:=c) hd p1).2]at h;split at h;cases h;exact sK hc _ _ _;cases h
  rw[(wV (c:=c) hd k1 k2 k3).2]at h;cases h
theorem xY (hc:dr c){s}(hB:cY zs):∀f,fM c s zs=E f->cY (bm f.1 f.2.1 f.2.2):=λf e=>qq (Bo hc hB e)
theorem Ji (k fr l):0<(bm k fr l).length:=by rw[qu];unfold aq.size;omega
theorem Qn (i)(h:bM w b n C cl s m)(ok:bU C cl n s)(hi:i<n)(hv:bX w v zs):
  ay prog 76 #[aC (E ⟨b,0,V⟩),Z J ((i:Int)+1),v] w λe w'=>e=az (br #[])/\∃m',cL w w' b n C cl (gS cl s i zs) m m':=by
 have HC:=I (tR ((i:Int)+1) h);rw[aK (show 1<=(i:Int)+1/\(i:Int)+1<=(n:Int)by omega)]at HC;have aN:n<=12:=by have:=ok.gc.n;have:=ok.num;omega
 have fy:=h.fy;have hb:=h.blt;have ag:=ok.good i hi;have ax:=eC hv;have af:=h.di i hi;obtain⟨aM,cz,hv',-,-,hB,-⟩:=eC hv;cases hg:s.gone i
 ·have av:=af.live hg;have O:=I (Co.TR ag av hv);have e1:gS cl s i zs={s with cs:=bu s.cs i (fP (cl i) (s.cs i) zs),fl:=s.fl++oN i (fM (cl i) (s.cs i) zs)}:=by unfold gS;rw[ar (by rw[hg];exact dR)]
  have HS:=I (λ(w':ac)(P':PS)(t:Co.lU w w' m.cb (i*78) (cl i) (fP (cl i) (s.cs i) zs) (m.P i) P')=>(show cL w w' b n C cl {s with cs:=bu s.cs i (fP (cl i) (s.cs i) zs)} m {m with P:=bu m.P i P'}from by
   have k:=h.xa hi (g':=false) (st':=fP (cl i) (s.cs i) zs) (P':=P') t.aV ⟨λ_=>t.di,λe=>by cases e⟩ t.aS;have e:bu s.gone i false=s.gone:=by rw[<-hg];exact Fu _ _
   rw[e]at k;exact k));have HL:=A (s.fl.length<=2000) (by have:=ok.fl;omega);have aA:=A (∀x,ij b m x->x<w.1.size) (λx hx=>h.low (ae hx));have hz:=xY ag (s:=s.cs i) hB;rw[e1];rw[hv']at O ⊢;have HO:=I hz;clear h ok hv hg af av ag e1 hv' ax hB hz;obtain⟨o,ho⟩:=aj (fM (cl i) (s.cs i) zs);rw[<-ho]at O HO ⊢;have aL:=I ho;clear ho;generalize zs.length=nz at*;go_enter func76,ntmps76;go_wp2_with fail;refine aH HC.o λw1 aa=>?_;rw[aa];clear aa w1;have aF:(i:Int)<(n:Int):=by omega
  have aD:(0:Int)<=(i:Int):=by omega
  go_wp2_with fail;refine O.o.mono ?_;rintro e w2 ⟨va,rfl,P',t,ai⟩;have ST:=I (HS.o w2 P' t)
  cases o with
  |none=> have ah:va=U V 0 0:=ai;subst ah;have Y:=A (∃m',cL w w2 b n C cl {s with cs:=bu s.cs i (fP (cl i) (s.cs i) zs),fl:=s.fl++oN i V} m m') ⟨_,by rw[show s.fl++oN i V=s.fl from ew _];exact ST.o⟩;clear ai t;go_wp2;go_end0;exact⟨rfl,Y.o⟩
  |some f=>
   obtain⟨hown,aG⟩:=ai;have aJ:=Ji f.1 f.2.1 f.2.2;have aB:∃g cap,va=U (E ⟨g,0,V⟩) (bm f.1 f.2.1 f.2.2).length cap:=by rcases hown.2 with⟨_,hn⟩|⟨g,cap,cur,e0,_⟩;omega;exact⟨g,cap,e0⟩
   have hlt:=hown.lt;have aq:=nM hown (HO.o f rfl);have am:=I (Sf ((i:Int)+1) ST.o.bP aq (λx hx=>⟨(hlt x hx).2,λho=>by have q:=(hlt x hx).1;have aI:ij b m x:=ho;have:=aA.o x aI;omega⟩) HL.o);have ap:=I (λx (hx:va.ownBlock=E x)=>(hlt x hx).1);obtain⟨g,cap,ah⟩:=aB;rw[ah]at am ap ⊢;clear hown aG hlt aq t ah aJ;generalize (bm f.1 f.2.1 f.2.2).length=ln at*;go_wp2_with fail;refine am.o.mono ?_;rintro e w3 ⟨rfl,m3,aw⟩;have Y:=I (Sl (i:=i) (s:=s) ST.o aw ap.o);clear aw;go_wp2;go_end0;exact⟨rfl,_,Y.o⟩
 have ak:=af.dead hg;have O:=I (TS ak.at_ ak.ph hv);have e1:gS cl s i zs=s:=by unfold gS;rw[au hg]
 have HS:=bj w λw' hb=>qR h hb;rw[e1];rw[hv']at O ⊢;clear h ok hv hg af ak ag e1 hv' ax hB;generalize zs.length=nz at*;go_enter func76,ntmps76;go_wp2_with fail;refine aH HC.o λw1 aa=>?_;rw[aa];clear aa w1;have aF:(i:Int)<(n:Int):=by omega
 have aD:(0:Int)<=(i:Int):=by omega
 go_wp2_with fail;refine aH O.o λw2 hb2=>?_;have Y:=I (HS.o w2 hb2);clear hb2;go_wp2;go_end0;exact⟨rfl,_,Y.o⟩
theorem Qd{d}(h:¬(1<=d/\d<=(n:Int))):eo C cl n s d zs=qM C s zs:=ar h
theorem Qb{i}(h:i<n):eo C cl n s ((i:Int)+1) zs=gS cl s i zs:=by unfold eo;rw[au (by omega)];congr 1
theorem D_ (d)(h:bM w b n C cl s m)(ok:bU C cl n s)(hv:bX w v zs):
  ay prog 76 #[aC (E ⟨b,0,V⟩),Z J d,v] w λe w'=>e=az (br #[])/\∃m',cL w w' b n C cl (eo C cl n s d zs) m m':=by by_cases hd:1<=d/\d<=(n:Int);obtain⟨i,rfl⟩:∃i:Nat,d=(i:Int)+1:=⟨d.toNat-1,by omega⟩;rw[Qb (by omega)];exact Qn i h ok (by omega) hv;rw[Qd hd];exact Qo d h ok hd hv
theorem Lg (d)(h:bM w b n C cl s m)(ok:bU C cl n s)(hv:bX w v zs):
  ay prog 44 #[aC (E ⟨b,0,V⟩),Z J d,v] w λe w'=>(0<=d/\d<=(n:Int)->e=az (Z J 0)/\∃m',cL w w' b n C cl (eo C cl n s d zs) m m')/\(¬(0<=d/\d<=(n:Int))->e=az (Z J 7)/\w'=w):=by
 have HC:=I (tR d h);have HR:=I (D_ d h ok hv);obtain⟨ae,cz,rfl,-⟩:=eC hv;clear h ok hv;generalize zs.length=nz at*;by_cases h0:d=0
 ·subst h0;have ac:(0:Int)<=0/\(0:Int)<=(n:Int):=by omega
  have O:=I ac;clear ac;go_enter func44,ntmps44;go_wp2_with fail;refine HR.o.mono ?_;rintro e w2 ⟨rfl,m',t⟩;have aa:=I t;clear t;go_wp2;go_ret;exact⟨λ_=>⟨rfl,m',aa.o⟩,λq=>absurd O.o q⟩
 have hne:(d != 0)=true:=by simpa using h0
 by_cases h1:1<=d/\d<=(n:Int);·rw[aK h1]at HC;have O:=A (0<=d/\d<=(n:Int)) (by omega);clear h1 h0;go_enter func44,ntmps44;go_wp2_with fail;refine aH HC.o λw1 Y=>?_;rw[Y];clear Y;go_wp2_with fail;refine HR.o.mono ?_;rintro e w2 ⟨rfl,m',t⟩;have aa:=I t;clear t;go_wp2;go_ret;exact⟨λ_=>⟨rfl,m',aa.o⟩,λq=>absurd O.o q⟩
 rw[aM h1]at HC;have O:=A (¬(0<=d/\d<=(n:Int))) (by omega);clear h1 h0;go_enter func44,ntmps44;go_wp2_with fail;refine aH HC.o λw1 Y=>?_;rw[Y];clear Y;go_wp2;go_ret;exact⟨λq=>absurd q O.o,λ_=>⟨rfl,rfl⟩⟩
theorem Ic{o g s}(h:ie w b o c g s S)(hp:Co.aJ w' b o (Co.oZ S))(hc:Co.bQ b o w w')(hap:S.told.ownBlock≠E b):ie w' b o c true s (Co.oZ S)/\∀x,eG b (Co.oZ S) x->eG b S x\/w.1.size<=x:=by
 have z:=hc.size;have ft:∀x,eG b (Co.oZ S) x->eG b S x:=λx hx=>by rcases hx with hx|hx|hx|hx|hx;exact ae hx;change(Value.slice V 0 0).ownBlock=E x at hx;cases hx;change(Value.slice V 0 0).ownBlock=E x at hx;cases hx;change(Value.slice V 0 0).ownBlock=E x at hx;cases hx;exact Q (Q (Q (Q hx)))
 have ti:aX w' (Co.oZ S).told (gl c s):=h.told.keep z (λx hx=>hc.block x (h.low x (Q (Q (Q (Q hx))))) (λe=>hap (e▸hx)));exact⟨⟨λe=>(by cases e),λ_=>⟨hp,rfl,ti,⟨rfl,rfl,rfl⟩,hap,λx hx=>cG (h.low x (ft x hx)) z⟩⟩,λx hx=>ae (ft x hx)⟩
theorem ie.TU{o g s}(h:ie w b o c g s S):S.told.ownBlock≠E b:=by cases g;exact(h.live rfl).di.apart.2.2.2;exact(h.dead rfl).apart
theorem RK (u)(h:bM w b n C cl s m)(hn:n<=12):
  ay prog 69 #[aC (E ⟨b,0,V⟩),Z J u] w λe w'=>(∀i:Nat,i<n->u=(i:Int)+1->e=az (Z J 0)/\∃m',cL w w' b n C cl (rP s i) m m')/\(¬(1<=u/\u<=(n:Int))->e=az (Z J 7)/\w'=w):=by
 have HC:=I (tR u h);by_cases h1:1<=u/\u<=(n:Int)
 ·rw[aK h1]at HC;obtain⟨i,rfl⟩:∃i:Nat,u=(i:Int)+1:=⟨u.toNat-1,by omega⟩;have hi:i<n:=by omega
  have O:=h.di i hi;obtain⟨ta,tc,aa,-⟩:=cK O.told;have HK:=I (Co.IJ O.at_ ⟨_,_,_,aa⟩);have HS:=I (λ(w':ac)(hp:Co.aJ w' m.cb (i*78) (Co.oZ (m.P i)))(hc:Co.bQ m.cb (i*78) w w')=>(show∃m',cL w w' b n C cl (rP s i) m m' from by obtain⟨k1,k2⟩:=Ic O hp hc O.TU;have k:=h.xa hi (g':=true) (st':=s.cs i) hc k1 k2;rw[Fu]at k;exact⟨_,k⟩));have fy:=h.fy;have HI:=I (And.intro h1 hi);clear h h1 O aa;have ag:(i:Int)<(n:Int):=by omega
  have af:(0:Int)<=(i:Int):=by omega
  go_enter func69,ntmps69;go_wp2_with fail;refine aH HC.o λw1 Y=>?_;rw[Y];clear Y;go_wp2_with fail;refine HK.o.mono ?_;rintro e w2 ⟨rfl,hp,hc⟩;have ae:=I (HS.o w2 hp hc);clear hp hc;go_wp2;go_ret;refine⟨λj hj e=>?_,λq=>absurd HI.o.1 q⟩;have:j=i:=by omega
  subst this;exact⟨rfl,ae.o⟩
 rw[aM h1]at HC;have HI:=I h1;clear h h1 hn;go_enter func69,ntmps69;go_wp2_with fail;refine aH HC.o λw1 Y=>?_;rw[Y];clear Y;go_wp2;go_ret;exact⟨λj hj e=>absurd (show 1<=u/\u<=(n:Int)by omega) HI.o,λ_=>⟨rfl,rfl⟩⟩
def km (cl:Nat->Cl)(n:Nat)(s:Sn)(u:Int):List aq.It:=if 1<=u/\u<=(n:Int)then gl (cl (u.toNat-1)) (s.cs (u.toNat-1))else[]
theorem Tf (u)(h:bM w b n C cl s m)(ok:bU C cl n s):
  ay prog 77 #[aC (E ⟨b,0,V⟩),Z J u] w λe w'=>∃va,e=az va/\w'.ownsRow w.1.size 147 4 va (km cl n s u).length (bD (km cl n s u))/\af w.1.size w w':=by
 have Y:=I (tR u h);have ah:n<=12:=by have:=ok.gc.n;have:=ok.num;omega
 by_cases h1:1<=u/\u<=(n:Int)
 ·rw[aK h1]at Y;obtain⟨i,rfl⟩:∃i:Nat,u=(i:Int)+1:=⟨u.toNat-1,by omega⟩;have hi:i<n:=by omega
  have aa:=h.di i hi;have e1:km cl n s ((i:Int)+1)=gl (cl i) (s.cs i):=by unfold km;rw[au h1,show((i:Int)+1).toNat-1=i by omega]
  rw[e1];have HK:=I (Co.Qs aa.at_ aa.told (Qr (ok.good i hi)));have fy:=h.fy;clear h h1 aa ok e1;have ag:(i:Int)<(n:Int):=by omega
  have ae:(0:Int)<=(i:Int):=by omega
  generalize gl (cl i) (s.cs i)=L at*;go_enter func77,ntmps77;go_wp2_with fail;refine aH Y.o λw1 O=>?_;rw[O];clear O;go_wp2_with fail;refine HK.o.mono ?_;rintro e w2 ⟨va,rfl,hown,hb2⟩;have ac:=I (And.intro hown hb2);obtain⟨a3,c3,hv3⟩:=a_ hown;subst hv3;clear hown hb2;go_wp2;go_ret;exact⟨_,rfl,ac.o⟩
 rw[aM h1]at Y;have e1:km cl n s u=[]:=by unfold km;rw[ar h1]
 rw[e1];clear h h1 ok e1;go_enter func77,ntmps77;go_wp2_with fail;refine aH Y.o λw1 O=>?_;rw[O];clear O;go_wp2;go_ret;exact⟨_,rfl,dp _ _ _ _,ax _ _⟩
def er {α:Type}(l:List α)(i j:Nat):List α:=(l.take j).eraseIdx i
theorem Cc (l:List α)(i):er l i 0=[]:=by unfold er;simp
theorem Cb (l:List α)(i)(hi:i<l.length):er l i (i+1)=er l i i:=by unfold er;rw[gV hi,List.eraseIdx_append_of_length_le (by rw[eV];omega),eV,Nat.min_eq_left (by omega),nD];rw[Gj (l:=List.take i l) (by rw[eV];omega)];simp
theorem Ca (l:List α)(i j)(hj:j<l.length)(h:j≠i):er l i (j+1)=er l i j++[l[j]]:=by
 unfold er;rw[gV hj];by_cases q:i<j;·rw[List.eraseIdx_append_of_lt_length (by rw[eV];omega)]
 rw[Gj (by rw[cy,eV];simp;omega),Gj (by rw[eV];omega)]
theorem B_ (l:List α)(i):er l i l.length=l.eraseIdx i:=by unfold er;rw[iF]
theorem Jp (l:List α)(i j):(er l i j).length<=l.length:=by unfold er;have h1:=Ve (l.take j) i;have h2:=List.length_take_le' j l;omega
theorem Jq{β}(l:List α)(k:List β)(i j)(h:l.length=k.length):(er l i j).length=(er k i j).length:=by unfold er;rw[AP,AP,eV,eV,h]
theorem nS{l:List α}{i x}(h:x∈l.eraseIdx i):x∈l:=Vf h
theorem fw.erase{vs ps}(h:fw w v vs ps)(i)(hb:af w.1.size w w')(hr:w'.ownsRow w.1.size 49 3 v' (ps.eraseIdx i).length (bC (ps.eraseIdx i) (vs.eraseIdx i))):fw w' v' (vs.eraseIdx i) (ps.eraseIdx i):=by
 refine⟨by rw[AP,AP,h.len],cS hr (bi _),λj x p hx hp=>?_,λx hx g hg=>cG (h.low x (nS hx) g hg) hb.size,λx hx g hg e=>?_⟩
 ·rw[List.getElem?_eraseIdx]at hx hp;have hm:∃k:Nat,vs[k]?=E x/\ps[k]?=E p:=by
   split at hx;·rename_i q;rw[au q]at hp;exact⟨j,hx,hp⟩
   rename_i q;rw[ar q]at hp;exact⟨j+1,hx,hp⟩
  obtain⟨k,k1,k2⟩:=hm;exact(h.each k x p k1 k2).qD hb.size (λg hg=>hb.block g (h.low x (cU k1) g hg))
 have a:=h.low x (nS hx) g hg;have c:=(hr.lt g e).1;omega
theorem bM.wE{wr}(h:bM w b n C cl s m)(i)(hb:af w.1.size w wr)(hr:wr.ownsRow w.1.size 49 3 v' (s.fl.eraseIdx i).length (bC (s.fl.eraseIdx i) (m.vs.eraseIdx i)))(hw':w'=wr.setCell ⟨b,77,V⟩ v'):
  ∃m',cL w w' b n C cl {s with fl:=s.fl.eraseIdx i} m m':=by have hf:=h.fl.erase i hb hr;have R:=h.qZ (av.bz hb) hf hw' (λx hx=>Q (hr.lt x hx).1) (λy hy x hx=>⟨λe=>h.ap x (Q (Q ⟨y,nS hy,hx⟩)) (ae e),λe=>h.ap x (Q (Q ⟨y,nS hy,hx⟩)) (Q (ae e))⟩);obtain⟨r1,r2,r3,O⟩:=R;refine⟨_,r1,r2,r3,λx hx=>?_⟩;rcases O x hx with k|k|⟨y,hy,k⟩;exact ae k;exact Q k;exact ae (Q (Q (Q ⟨y,nS hy,k⟩)))
theorem Eb (i)(h:bM w b n C cl s m)(hi:i<s.fl.length)(hlen:s.fl.length<=2000):
  ay prog 131 #[aC (E ⟨b,0,V⟩),Z J (i:Int)] w λe w'=>e= az (br #[])/\∃m',cL w w' b n C cl {s with fl:=s.fl.eraseIdx i} m m':=by
 have bJ:=h.bJ;have f77:=h.f77;have hb:=h.blt;obtain ⟨a,c,hv,aK,hcm,aI⟩:=h.fl.view;rw[hv] at bJ;have aF:=I aI;have HR:=I (λ(wr w':ac) (v':ag) hb hr hw'=>h.wE (wr:=wr) (w':=w') (v':=v') i hb hr hw');have Y:=I h.fl.len;obtain ⟨i1,aY,bc,bf,bg⟩:=bO ll;obtain ⟨ps,aw⟩:=aj s.fl;obtain ⟨vs,aM⟩:=aj m.vs;rw[<-aw,<-aM] at HR aF Y;rw[<-aw] at bJ aK hi hlen ⊢;clear h hv aI aw aM;have ak:=I (And.intro (B_ ps i) (show er vs i ps.length=vs.eraseIdx i by rw[<-Y.o];exact B_ vs i));have HZ:=I (And.intro (Cc ps i) (Cc vs i));have aG:=I (And.intro (Cb ps i hi) (Cb vs i (by rw[Y.o];exact hi)));have aT:=I (λj (hj:j<ps.length) (hne:j≠i)=>And.intro (Ca ps i j hj hne) (Ca vs i j (by rw[Y.o];exact hj) hne));have aP:=I (λj=>Jq vs ps i j Y.o);have aR:=I (λj=>(show (er ps i j).length<=2000 from fJ (Jp ps i j) hlen));obtain ⟨k,hk⟩:=aj ps.length;rw[<-hk] at bJ aK hi hlen ak;have HK:=I hk;clear hk;go_enter func131,ntmps131;go_wp2;go_loopw [4,12] (λr x wr=>∃j:Nat,j<=k/\x= Z J j/\wr.ownsRow w.1.size 49 3 r (er ps i j).length (bC (er ps i j) (er vs i j))/\af w.1.size w wr) (λ_ x _=>k-(aA x).toNat);case atStart=>exact ⟨0,bi _,rfl,by rw[HZ.o.1,HZ.o.2];exact dp _ _ _ _,ax _ _⟩
 obtain ⟨j,hj,rfl,hown,aq⟩:=hrel;have HO:=I hown;have O:=I aq;have sw:=aq.size;obtain ⟨ar,cr,bb⟩:=a_ hown;subst bb;clear hown aq;by_cases hlt:j<k
 ·have ae:j<ps.length:=by rw[<-HK.o];exact hlt
  obtain ⟨g,y,aX,au,aO,x0,x1,x2,aN⟩:=aF.o j _ (aQ ae);subst aX;obtain ⟨am,ap,aB,-⟩:=eC aN;obtain ⟨nb,aL⟩:=aj (ps[j].2.2.length);rw[<-aL] at aB;have d0:=(O.o.cell (p:=⟨g,j*3,V⟩) au).trans x0;have d1:=(O.o.cell (p:=⟨g,j*3+1,V⟩) au).trans x1;have d2:=(O.o.cell (p:=⟨g,j*3+2,V⟩) au).trans x2;have aH:=I aO;have aV:=A (ps[j]? =E ps[j]) (aQ ae);obtain ⟨p,hp⟩:=aj (ps[j]);rw[<-hp] at d0 d1 aV;rw[aB] at d2 aH;have aU:=I hp;clear x0 x1 x2 aO aN hp aB aL;have bj:(0:Int)<=(j:Int):=by omega
  have hjk:(j:Int)<(k:Int):=by omega
  by_cases aa:j=i
  ·have hne:((j:Int) != (i:Int))=false:=by rw[aa];simp
   have ai:=I (show ∀ob,(wr.alloc ob).ownsRow w.1.size 49 3 (U ar (er ps i j).length cr) (er ps i (j+1)).length (bC (er ps i (j+1)) (er vs i (j+1)))/\af w.1.size w (wr.alloc ob) from λob=>by
    have s1:er ps i (j+1)=er ps i j:=by rw[aa];exact aG.o.1
    have s2:er vs i (j+1)=er vs i j:=by rw[aa];exact aG.o.2
    rw[s1,s2];exact ⟨HO.o.alloc _,O.o.alloc sw _⟩);clear aa;go_wp2;go_roundw;case rel=>exact ⟨j+1,by omega,by go_num,(ai.o _).1,(ai.o _).2⟩
   simp[aA];omega
  have hne:((j:Int) != (i:Int))=true:=by simp;omega
  have aZ:=aR.o j;have NX:=I (aT.o j ae aa);obtain ⟨nr,av⟩:=aj ((er ps i j).length);rw[<-av] at HO aZ ⊢;have aS:=I av;clear aa av;go_wp2_with (at_builtin;refine eF _ rfl _ _ 41 rfl w.1.size 49 i1 (aD #[Z J 0,Z J 0,U V 0 0]) 3 40 jt aY bc bf bg rfl (by decide) _ _ _ rfl ((HO.o.alloc _).alloc _) ⟨wr.1.size+1,0,V⟩ 1 1 [Z J p.1,Z J p.2.1,U am nb ap] rfl rfl ?c1 ?c2 ?c3 ?c4 ?c5 ?_);case c1=>have:=rK (wr.alloc (ah #[Z J p.1,Z J p.2.1,U am nb ap] 49)) (Z J p.1) (Z J p.2.1) (U am nb ap) 49;simpa using this
  case c2=>intro u hu;simp at hu;rcases hu with rfl|rfl|rfl<;>rfl
  case c3=>unfold maxLen;omega
  case c4=>omega
  case c5=>simp;omega
  intro v' w4 hown' aJ _;have hb4:=(((O.o.alloc sw _).alloc (by simp;omega) _).grown aJ (by simp;omega) (λy hy=>(HO.o.lt y hy).1));have B4:=I hb4;have O4:=I (show w4.ownsRow w.1.size 49 3 v' (er ps i (j+1)).length (bC (er ps i (j+1)) (er vs i (j+1))) by
   have e1:vs[j]'(by rw[Y.o];exact ae)= U am nb ap:=by have:=aH.o;rw[aQ (by rw[Y.o];exact ae)] at this;exact nI this
   rw[NX.o.1,NX.o.2,e1,<-aU.o,wx _ _ _ _ (aP.o j),cy,<-aS.o];exact hown');obtain ⟨a5,c5,ba⟩:=a_ hown';subst ba;clear hown' aJ hb4;go_wp2;go_roundw;case rel=>exact ⟨j+1,by omega,by go_num,O4.o,B4.o⟩
  simp[aA];omega
 have ej:j=k:=by omega
 subst ej;have d77:wr.cell? ⟨b,77,V⟩=E (U a j c):=(O.o.cell (p:=⟨b,77,V⟩) hb).trans bJ;have bh:wr.frozen? ⟨b,77,V⟩=false:=(O.o.frozen (p:=⟨b,77,V⟩) hb).trans f77;obtain ⟨w3,hw3⟩:=aj (wr.setCell ⟨b,77,V⟩ (U ar (er ps i j).length cr));have ai:=I (HR.o wr w3 _ O.o (by have:=HO.o;rw[ak.o.1,ak.o.2] at this;exact this) (by rw[hw3,ak.o.1]));have aW:=I hw3;clear hw3;go_wp2_with fail;rw[<-aW.o];go_end0;exact ⟨rfl,ai.o⟩
theorem Jb (i)(h:bM w b n C cl s m)(hi:i<s.fl.length)(hlen:s.fl.length<=2000):
  ay prog 66 #[aC (E ⟨b,0,V⟩),Z J (i:Int)] w λe w'=>e=az (Z J 0)/\∃m',cL w w' b n C cl {s with fl:=s.fl.eraseIdx i} m m':=by have O:=I (qz (i:Int) h);rw[aK (show(0:Int)<=(i:Int)/\(i:Int)<(s.fl.length:Int)by omega)]at O;have HR:=I (Eb i h hi hlen);clear h hi hlen;go_enter func66,ntmps66;go_wp2_with fail;refine aH O.o λw1 Y=>?_;rw[Y];clear Y;go_wp2_with fail;refine aH HR.o λw2 hq=>?_;have aa:=I hq;clear hq;go_wp2;go_ret;exact⟨rfl,aa.o⟩
theorem Ja (u)(h:bM w b n C cl s m)(hu:¬(0<=u/\u<(s.fl.length:Int))):
  ay prog 66 #[aC (E ⟨b,0,V⟩),Z J u] w λe w'=>e=az (Z J 7)/\w'=w:=by have O:=I (qz u h);rw[aM hu]at O;clear h hu;go_enter func66,ntmps66;go_wp2_with fail;refine aH O.o λw1 Y=>?_;rw[Y];clear Y;go_wp2;go_ret;exact⟨rfl,rfl⟩
theorem IM (u)(h:bM w b n C cl s m)(hu:¬(0<=u/\u<(s.fl.length:Int))):
  ay prog 65 #[aC (E ⟨b,0,V⟩),Z J u] w λe w'=>e=az (Z J 7)/\w'=w:=by have O:=I (qz u h);rw[aM hu]at O;clear h hu;go_enter func65,ntmps65;go_wp2_with fail;refine aH O.o λw1 Y=>?_;rw[Y];clear Y;go_wp2;go_ret;exact⟨rfl,rfl⟩
theorem bU.less (h:bU C cl n s)(i):bU C cl n {s with fl:=s.fl.eraseIdx i}:=
 {h with fl:=(by have h1:=Ve s.fl i;have h2:=h.fl;show(s.fl.eraseIdx i).length+(kn s.cs n+hZ s.q)<=300;omega),flb:=λp hp=>h.flb p (nS hp)}
theorem IP (i:Nat){p}(h:bM w b n C cl s m)(ok:bU C cl n s)(hp:s.fl[i]?=E p):
  ay prog 65 #[aC (E ⟨b,0,V⟩),Z J (i:Int)] w λe w'=>e=az (Z J 0)/\∃m',cL w w' b n C cl (eo C cl n {s with fl:=s.fl.eraseIdx i} p.2.1 p.2.2) m m':=by
 have hi:i<s.fl.length:=(fC.1 hp).1;have HC:=I (qz (i:Int) h);rw[aK (show(0:Int)<=(i:Int)/\(i:Int)<(s.fl.length:Int)by omega)]at HC;have bJ:=h.bJ;obtain⟨a,c,hv,aF,hcm,ai⟩:=h.fl.view;rw[hv]at bJ;obtain⟨g,y,rfl,aB,am,x0,x1,x2,O⟩:=ai i p hp;have Y:=cU am;obtain⟨aA,cy,aq,-⟩:=eC O;obtain⟨W1,hW1⟩:=aj (w.alloc (ah #[Z J p.1,Z J p.2.1,y] 49));have b1:af w.1.size w W1:=by rw[hW1];exact(ax _ _).alloc (aw _) _
 have z1:w.1.size<W1.1.size:=by rw[hW1];simp
 have r1:W1.1[w.1.size]?=E (ah #[Z J p.1,Z J p.2.1,y] 49 (0,0)):=by rw[hW1];exact bo w _
 have h1:=h.below b1;have HR:=I (Eb i h1 hi (by have:=ok.fl;omega));have aa:=I (λ(w2:ac)(m1:SM)(t:cL W1 w2 b n C cl {s with fl:=s.fl.eraseIdx i} m m1)=>(show(w2.cell? ⟨w.1.size,1,V⟩=E (Z J p.2.1)/\w2.cell? ⟨w.1.size,2,V⟩=E y)/\ay prog 76 #[aC (E ⟨b,0,V⟩),Z J p.2.1,y] w2 λe w'=>e=az (br #[])/\∃m',cL w w' b n C cl (eo C cl n {s with fl:=s.fl.eraseIdx i} p.2.1 p.2.2) m m' from by
  have e2:w2.1[w.1.size]?=E (ah #[Z J p.1,Z J p.2.1,y] 49 (0,0)):=by rw[t.aV.block w.1.size z1 (λe=>by have:=h.low (ae e:dx b n m _);omega)];exact r1
  refine⟨⟨(bg w2 w.1.size 1 _ _ (0,0) e2).trans rfl,(bg w2 w.1.size 2 _ _ (0,0) e2).trans rfl⟩,?_⟩;have hb2:bX w2 y p.2.2:=(O.below b1).qD t.aV.size (λx hx=>t.aV.block x (by have:=h.fl.low y Y x hx;omega) (λe=>h.ap x (Q (Q ⟨y,Y,hx⟩)) e));refine(D_ p.2.1 t.bP (ok.less i) hb2).mono ?_;rintro e w' ⟨rfl,m',t'⟩;exact⟨rfl,m',(t.trans t').after b1⟩));rw[aq]at x2 hW1 aa;have av:=I hW1;have aD:(0:Int)<=(i:Int):=by omega
 have hik:(i:Int)<(s.fl.length:Int):=by omega
 clear h ok hp ai am O Y aq hv h1 r1 b1 hW1;generalize s.fl.length=k at*;generalize p.2.2.length=nb at*;go_enter func65,ntmps65;go_wp2_with fail;refine aH HC.o λw1 ak=>?_;rw[ak];clear ak;go_upto_region 4 with fail;rw[<-av.o];go_wp2_with fail;refine HR.o.mono ?_;rintro e w2 ⟨rfl,m1,t⟩;obtain⟨⟨q1,q2⟩,ag⟩:=aa.o w2 m1 t;have au:=I ag;clear t ag bJ x0 x1 x2;go_wp2_with fail;refine aH au.o λw3 hq=>?_;have ar:=I hq;clear hq;go_wp2;go_ret;exact⟨rfl,ar.o⟩
theorem Td{S ls us}(h:aR w b S)(hs:aY w S.set ls)(hu:aY w S.sum us)(l1:ls.length<=12)(l2:us.length<=12):
  ay prog 38 #[aC (E ⟨b,0,V⟩)] w λe w'=>∃va vb,e=az (aD #[Z J S.st,Z J S.ro,va,vb])/\Told w w' va vb ls us:=by
 obtain⟨W0,hW0⟩:=aj (w.alloc (ah #[Z J 0,Z J 0,U V 0 0,U V 0 0] 35));have b0:af w.1.size w W0:=by rw[hW0];exact(ax _ _).alloc (aw _) _
 have R0:=A (W0.1[w.1.size]?=E (ah #[Z J 0,Z J 0,U V 0 0,U V 0 0] 35 (0,0))) (by rw[hW0];exact bo w _);have z0:w.1.size<W0.1.size:=by rw[hW0];simp
 have H:=I (Ry (h.below b0) (hs.below b0) (hu.below b0) l1 l2);have O:=I b0;have ac:=I hW0;clear h hs hu l1 l2 b0 hW0;generalize S.st=st at*;generalize S.ro=ro at*;go_enter func38,ntmps38;go_upto_region 1 with fail;rw[<-ac.o];go_wp2_with fail;refine H.o.mono ?_;rintro e w1 ⟨va,vb,rfl,ht⟩;obtain⟨t1,t2,t3,t4⟩:=ht;obtain⟨a3,k3,hv3⟩:=a_ t1;obtain⟨a4,k4,hv4⟩:=a_ t2;have R1:=I ((t4.block _ z0).trans R0.o);obtain⟨⟨x0,x1,x2,x3⟩,xf⟩:=gg R1.o;have R6:=I (wI R1.o (Z J st) (Z J ro) va vb);have Y:=O.o.trans (t4.mono O.o.size);have c6:=yf w1 w.1.size (Z J st) (Z J ro) va vb
 have aa:=I (show Told w ((((w1.setCell ⟨w.1.size,0,V⟩ (Z J st)).setCell ⟨w.1.size,1,V⟩ (Z J ro)).setCell ⟨w.1.size,2,V⟩ va).setCell ⟨w.1.size,3,V⟩ vb) va vb ls us from
  ⟨cS (bf t1 c6 (λx hx e=>by have:=(t1.lt x hx).1;omega)) (by omega),
   cS (bf t2 c6 (λx hx e=>by have:=(t2.lt x hx).1;omega)) (by omega),t3,
   (((Y.setCell (p:=⟨w.1.size,0,V⟩) (aw _) _).setCell (p:=⟨w.1.size,1,V⟩) (aw _) _).setCell (p:=⟨w.1.size,2,V⟩) (aw _) _).setCell (p:=⟨w.1.size,3,V⟩) (aw _) _⟩);clear t1 t2 t3 t4 Y c6;rw[hv3,hv4]at R6 aa ⊢;clear hv3 hv4;go_wp2_with fail;refine cQ (ic rfl _ _ w.1.size 35 #[Z J st,Z J ro,_,_] (0,0) _ rfl R6.o Gf rfl zO) rfl ?_;exact⟨_,_,rfl,aa.o⟩
theorem Te (h:bM w b n C cl s m)(ok:bU C cl n s):
  ay prog 38 #[aC (E ⟨b,0,V⟩)] w λe w'=>∃va vb,e=az (aD #[Z J s.q.o.1,Z J s.q.o.2.1,va,vb])/\Told w w' va vb s.q.o.2.2.1 s.q.o.2.2.2:=by have:=Td h.ba.ba.at_ h.ba.ba.set h.ba.ba.sum ok.bd.1 ok.bd.2;rw[h.ba.ba.st,h.ba.ba.ro]at this;exact this
theorem ua:∀(ps:List Pk)(vs:List ag)(qs:List Pk)(ys:List ag),vs.length=ps.length->bC (ps++qs) (vs++ys)=bC ps vs++bC qs ys
 |[],[],qs,ys,_=>rfl
 |p::ps,v::vs,qs,ys,h=>by show _::_::_::bC (ps++qs) (vs++ys)=_;rw[ua ps vs qs ys (by simpa using h)];rfl
 |[],v::vs,qs,ys,h=>by simp at h
 |p::ps,[],qs,ys,h=>by simp at h
theorem ww:∀(ps:List Pk)(vs:List ag),(∀v∈vs,v.oneCell'=true)->∀u∈bC ps vs,u.oneCell'=true
 |[],vs,_,u,hu=>by cases vs<;>cases hu
 |p::ps,[],_,u,hu=>by cases hu
 |p::ps,v::vs,h,u,hu=>by have O:u∈(Value.int J p.1::Value.int J p.2.1::v::bC ps vs):=hu;simp only[List.mem_cons]at O;rcases O with rfl|rfl|rfl|O;rfl;rfl;exact h u iE;exact ww ps vs (λx hx=>h x (ks _ hx)) u O
theorem Rk{P}(base t ty e i size)(ht:P.underlying t=E (.slice e))(hi:P.info? e=E i)(v n xs)(hown:w.ownsRow base e size v n xs)(ad c):
  (Builtin.append_ #[t,t] ty #[v,U (E ad) 0 c]).run P w=.ok v w:=by rcases hown.2 with⟨rfl,rfl⟩|⟨g,cap,cur,rfl,_,_,O,_⟩;simp[Builtin.append_,run_underlying ht,sizeOf,typeInfo,hi,Builtin.lenOf,Builtin.firstCells,loadCells,loadCellsFrom];simp[Builtin.append_,run_underlying ht,sizeOf,typeInfo,hi,Builtin.lenOf,Builtin.firstCells,loadCells,loadCellsFrom,O,storeCells]
theorem xd{P ops rest o a Q}(hgd:o.guard=V){s x}(t)(ho:o.op=.call {callee:=.builtin .append,args:= #[s,x],argTypes:= #[t,t]})(base e i size)(ht:P.underlying t=E (.slice e))(hi:P.info? e=E i)(v n xs)(hs:a.eval s=v)(hown:w.ownsRow base e size v n xs)(d c)(hd:d=V->c=0)(hx:a.eval x=U d 0 c)(h:wpList P ops Q rest (a.put o.dst v) w):wpList P ops Q (o::rest) a w:=by
 refine FQ hgd λK hK=>?_;have hrun:(Builtin.append_ #[t,t] o.type #[v,U d 0 c]).run P w=.ok v w:=by
  cases d with
  |none=>rw[hd rfl];exact run_append_owned_none (P:=P) (w:=w) base t o.type e i size ht hi v n xs hown
  |some ad=>exact Rk base t o.type e i size ht hi v n xs hown ad c
 unfold Oper.wp;simp[execOp,ho,resolve,invoke,builtin,hs,hx,hrun,Result.andThen];exact hK _ _ h
theorem fw.app{vs ys ps qs}(h:fw w v vs ps)(hl:ys.length=qs.length)(hy:∀(i:Nat)(x:ag)(p:Pk),ys[i]?=E x->qs[i]?=E p->bX w x p.2.2)(Y:∀y∈ys,∀g,y.ownBlock=E g->g<w.1.size/\v.ownBlock≠E g)(hr:w'.ownsRow 0 49 3 v' (ps.length+qs.length) (bC ps vs++bC qs ys))(hc:av (λx=>v.ownBlock=E x) w w')(hv:∀x,v'.ownBlock=E x->v.ownBlock=E x\/w.1.size<=x):fw w' v' (vs++ys) (ps++qs):=by
 have z:=hc.size;have ap:∀u∈vs++ys,∀g,u.ownBlock=E g->g<w.1.size/\v.ownBlock≠E g:=λu hu g hg=>by rcases cZ.1 hu with hu|hu;exact⟨h.low u hu g hg,h.apart u hu g hg⟩;exact Y u hu g hg
 have O:∀(i:Nat)(x:ag)(q:Pk),(vs++ys)[i]?=E x->(ps++qs)[i]?=E q->bX w x q.2.2:=λi x q hx hq=>by by_cases hi:i<ps.length;rw[ey (by rw[h.len];exact hi)]at hx;rw[ey hi]at hq;exact h.each i x q hx hq;rw[fo (by rw[h.len];omega),h.len]at hx;rw[fo (by omega)]at hq;exact hy _ x q hx hq
 refine⟨by rw[cy,cy,h.len,hl],?_,λi x q hx hq=>?_,λu hu g hg=>cG (ap u hu g hg).1 z,λu hu g hg e=>?_⟩;rw[ua ps vs qs ys h.len,cy];exact hr;exact(O i x q hx hq).qD z (λg hg=>hc.block g (ap x (cU hx) g hg).1 (ap x (cU hx) g hg).2);have a:=ap u hu g hg;rcases hv g e with k|k;exact a.2 k;omega
theorem bM.Ud{w1 w2 w3}(h:bM w b n C cl s m)(hq:∀p∈eu C s.q,cY p.2.2){S'}(t:iI w w1 b C (cm C s.q) m.S S'){fv' ys}(hp:dt w1 w.1.size v ys (eu C s.q))(hr:w2.ownsRow 0 49 3 fv' (s.fl.length+(eu C s.q).length) (bC s.fl m.vs++bC (eu C s.q) ys))(hc:av (λx=>m.fv.ownBlock=E x) w1 w2)(hv:∀x,fv'.ownBlock=E x->m.fv.ownBlock=E x\/w1.1.size<=x)(hw3:w3=w2.setCell ⟨b,77,V⟩ fv'):
  ∃m',cL w w3 b n C cl (nz C s) m m':=by
 have T:=h.Af t;have z1:=t.aV.size;have pl:=hp.low;have O:∀y∈ys,∀g,y.ownBlock=E g->w.1.size<=g/\g<w1.1.size:=λy hy g hg=>pl g (Q ⟨y,hy,hg⟩);have Y:∀x,ij b m x->x<w.1.size:=λx hx=>h.low (ae hx);have hf:=T.bP.fl.app hp.len (λi x p hx aa=>nM (hp.each i x p hx aa) (hq p (cU aa))) (λy hy g hg=>⟨(O y hy g hg).2,λe=>by have a:=O y hy g hg;have c:=Y g (Q (Q e));omega⟩) hr hc hv;have R:=T.bP.qZ (w':=w3) hc hf hw3 hv (λy hy x hx=>?_)
 ·obtain⟨r1,r2,r3,r4⟩:=R;refine⟨_,r1,T.aV.trans r2 (λx e hx=>(T.own x e).elim id (λq=>by omega)),λx hx=>?_,λx hx=>?_⟩;·rcases r3 x hx with k|k;exact T.own x k;exact Q (by omega)
  rcases r4 x hx with k|k|⟨y,hy,k⟩;exact T.aS x k;exact Q (by omega);rcases cZ.1 hy with hy|hy;exact ae (Q (Q (Q ⟨y,hy,k⟩)));exact Q (O y hy x k).1
 rcases cZ.1 hy with hy|hy;exact⟨λe=>h.ap x (Q (Q ⟨y,hy,hx⟩)) (ae e),λe=>h.ap x (Q (Q ⟨y,hy,hx⟩)) (Q (ae e))⟩;have a:=O y hy x hx;have c1:=Y b (ae rfl);have c2:=Y m.cb (Q (ae rfl));exact⟨by omega,λe=>by have e':x=m.cb:=e;omega⟩
theorem Aa{q}(hc:fx C)(hs:q.o.1=0->gJ C q):∀p∈eu C q,cY p.2.2:=by
 intro p hp;unfold eu pJ at hp;by_cases h:(aB.pend q&&(im C q&&(!aB.fZ C q&&decide (q.rd≠3))))=true
 ·rw[au h]at hp;rw[bS,bS,bS]at h;obtain⟨h1,h2,h3,h4⟩:=h;have ok:=hs (kO.1 h1);have hr:q.rd≠3:=rz h4;have hf:¬((dm (q.G q.rd):Int)<C.T):=by unfold fZ at h3;simpa using h3
  have ht:=hc.t;have O:=ok.rd;obtain⟨x,hx,rfl⟩:=cq.1 hp;obtain⟨u,hu,rfl⟩:=cq.1 hx;exact qq (uh ok.good q.rd u (by omega) (by omega))
 rw[ar h]at hp;cases hp
theorem Ab{q}:(eu C q).length<=13:=by unfold eu pJ;rw[dI];split;rw[dI];exact gC _ _;exact bi _
theorem Tt (h:bM w b n C cl s m)(ok:bU C cl n s):
  ay prog 68 #[aC (E ⟨b,0,V⟩)] w λe w'=>e=az (br #[])/\∃m',cL w w' b n C cl (nz C s) m m':=by
 have HT:=I (RA ok.gc h.ba ok.ia);have HB:=I (Aa (C:=C) (q:=s.q) ok.gc ok.ia);have HS:=I (λ(w1 w2 w3:ac)(S':SS)(v fv':ag)(ys:List ag) t hp hr hc hv hw3=>h.Ud (w1:=w1) (w2:=w2) (w3:=w3) (S':=S') (v:=v) (fv':=fv') (ys:=ys) HB.o t hp hr hc hv hw3);have aL:=I (λ(w1:ac)(S':SS)(t:iI w w1 b C (cm C s.q) m.S S')=>(h.Af t).bP);have hb:=h.blt;have hl:=ok.fl;have hk:=Ab (C:=C) (q:=s.q);have aG:=I (And.intro h.own.2.1 (λx (hx:m.fv.ownBlock=E x)=>h.low (ae (Q (Q hx)):dx b n m x)));obtain⟨i1,aw,aS,aT,aU⟩:=bO ll;obtain⟨a,c,hv,-⟩:=h.fl.view;clear h ok;obtain⟨qs,am⟩:=aj (eu C s.q);have e0:∀w1 v,qf w w1 b C s.q m.S v->∃S' ys,iI w w1 b C (cm C s.q) m.S S'/\dt w1 w.1.size v ys qs:=λw1 v ⟨S',ys,t,p,_⟩=>⟨S',ys,t,by rw[am];exact p⟩;have aI:=I e0;rw[<-am]at HS hk;clear am e0;go_enter func68,ntmps68;go_wp2_with fail;refine HT.o.mono ?_;rintro e w1 ⟨v,rfl,aA⟩;obtain⟨S',ys,t,hp⟩:=aI.o w1 v aA;have z1:=t.aV.size;have SE:=I (aL.o w1 S' t);have bJ:=SE.o.bJ;have f77:=SE.o.f77;have ah:=I SE.o.fl.row;change w1.cell? _=E m.fv at bJ;rw[hv]at bJ;have HP:=I hp;have ap:=I t;have ar:b<w1.1.size:=by omega
 obtain⟨va,vc,Y⟩:=a_ hp.row;have hrow:=hp.row;have au:∀(g:Nat),va=E ⟨g,0,V⟩->∀j u,(bC qs ys)[j]?=E u->w1.cell? ((⟨g,0,V⟩:Addr).add j)=E u:=λg hg j u hu=>by
  have hr:=hrow;rw[Y,hg]at hr;have hl':(bC qs ys).length=qs.length*3:=qJ qs ys hp.len;have hj:j<qs.length*3:=by rw[<-hl'];exact(fC.1 hu).1
  have aO:(⟨g,0,V⟩:Addr).add j=⟨g,j,V⟩:=by unfold Addr.add;split<;>simp_all
  rw[aO,hr.cellAt j hj];exact hu
 have ax:∀u∈bC qs ys,u.oneCell'=true:=ww qs ys (λy hy=>by obtain⟨i,hi,e⟩:=fT hy;obtain⟨a',c',e'⟩:=a_ (hp.each i y (qs[i]'(by rw[<-hp.len];exact hi)) (by rw[aQ hi,e]) (aQ _));rw[e'];rfl);have hpl:(bC qs ys).length=qs.length*3:=qJ qs ys hp.len;have aF:qs.length=0->va=V->vc=0:=λe1 e2=>by
  rcases hrow.2 with⟨e3,_⟩|⟨g,cap,cur,e3,_⟩;·rw[Y]at e3;injection e3 with _ _ q
  rw[Y,e2]at e3;injection e3 with q;cases q
 have aB:0<qs.length->∃g,va=E ⟨g,0,V⟩:=λe1=>by rcases hrow.2 with⟨e3,hn⟩|⟨g,cap,cur,e3,_⟩;omega;rw[Y]at e3;injection e3 with q;exact⟨g,q⟩
 have aH:=I au;have aJ:=I ax;have aK:=I hpl;have aN:=I aF;have aM:=I aB;have aW:=I Y;have HV:=I hv;rw[Y];obtain⟨k,ai⟩:=aj s.fl.length;obtain⟨nq,ak⟩:=aj qs.length;have aa:=I ak;have O:=I ai;rw[<-ai]at bJ hl;rw[<-ak]at hk ⊢;clear aA t hp hrow au ax hpl aF aB Y hv ak ai;by_cases aP:nq=0;·subst aP;have af:=I (λ(w3:ac)(hw3:w3=w1.setCell ⟨b,77,V⟩ m.fv)=>HS.o w1 w1 w3 S' v m.fv ys ap.o HP.o (by have e:qs=[]:=ku aa.o.symm;have e2:ys=[]:=ku (by rw[HP.o.len,e];rfl);rw[e,e2];show w1.ownsRow 0 49 3 m.fv (s.fl.length+0) (bC s.fl m.vs++[]);rw[ew];exact ah.o) (av.refl _ _) (λx hx=>ae hx) hw3);have R2:=I (show w1.ownsRow 0 49 3 (U a k c) k (bC s.fl m.vs)by have:=ah.o;change w1.ownsRow 0 49 3 m.fv s.fl.length (bC s.fl m.vs)at this;rw[HV.o,<-O.o]at this;exact this);rw[HV.o,<-O.o]at af;go_wp2_with(at_builtin;refine xd rfl 41 rfl 0 49 i1 3 jt aw (U a k c) k _ rfl R2.o va vc (aN.o aa.o.symm) rfl ?_);go_wp2;go_end0;exact⟨rfl,af.o _ rfl⟩
 obtain⟨g,hg⟩:=aM.o (by have:=aa.o;omega);subst hg;have aR:0<nq:=by omega
 have R2:=I (show w1.ownsRow 0 49 3 (U a k c) k (bC s.fl m.vs)by have:=ah.o;change w1.ownsRow 0 49 3 m.fv s.fl.length (bC s.fl m.vs)at this;rw[HV.o,<-O.o]at this;exact this);have aq:(Value.slice a k c).ownBlock≠E b:=by have:=aG.o.1;rw[HV.o,<-O.o]at this;exact this
 have NB:=I aq;clear aq;go_wp2_with(at_builtin;refine tx _ rfl _ _ 41 rfl 0 49 i1 (aD #[Z J 0,Z J 0,U V 0 0]) 3 40 jt aw aS aT aU rfl (by decide) (U a k c) k (bC s.fl m.vs) rfl R2.o ⟨g,0,V⟩ nq vc (bC qs ys) rfl (by rw[aK.o,<-aa.o]) (aH.o g rfl) aJ.o aR (by unfold maxLen;omega) (by omega) (bi _) _ rfl ?_);intro g2 cap w2 hr hgr hat hlt;have d77:w2.cell? ⟨b,77,V⟩=E (U a k c):=by rw[hgr.cell_far ⟨b,77,V⟩ ar (λe=>NB.o e.symm)];exact bJ
 have aX:w2.frozen? ⟨b,77,V⟩=false:=by rw[hgr.frozen_far ⟨b,77,V⟩ ar (λe=>NB.o e.symm)];exact f77
 have af:=I (λ(w3:ac)(hw3:w3=w2.setCell ⟨b,77,V⟩ (U (E ⟨g2,0,V⟩) (k+nq) cap))=>HS.o w1 w2 w3 S' v (U (E ⟨g2,0,V⟩) (k+nq) cap) ys ap.o HP.o (by rw[<-O.o,<-aa.o];exact hr) (by rw[HV.o,<-O.o];exact av.grown hgr) (λx hx=>by
  have e:x=g2:=by simpa[Value.ownBlock]using hx.symm
  subst e;rw[HV.o,<-O.o];rcases hat with q|q;exact ae q;exact Q (by omega)) hw3);clear hr hgr hat hlt bJ f77;go_wp2;go_end0;exact⟨rfl,af.o _ rfl⟩
theorem IW (u)(h:bM w b n C cl s m)(hu:¬(0<=u/\u<(s.fl.length:Int))):
  ay prog 67 #[aC (E ⟨b,0,V⟩),Z J u] w λe w'=>e=az (Z J 7)/\w'=w:=by have O:=I (qz u h);rw[aM hu]at O;clear h hu;go_enter func67,ntmps67;go_wp2_with fail;refine aH O.o λw1 Y=>?_;rw[Y];clear Y;go_wp2;go_ret;exact⟨rfl,rfl⟩
theorem IV (i)(h:bM w b n C cl s m)(hi:i<s.fl.length)(hf:200<=s.fl.length):
  ay prog 67 #[aC (E ⟨b,0,V⟩),Z J (i:Int)] w λe w'=>e=az (Z J 8)/\w'=w:=by
 have O:=I (qz (i:Int) h);rw[aK (show(0:Int)<=(i:Int)/\(i:Int)<(s.fl.length:Int)by omega)]at O;have bJ:=h.bJ;obtain⟨a,c,hv,-⟩:=h.fl.view;rw[hv]at bJ;clear h hv;generalize s.fl.length=k at*;have hk:(200:Int)<=(k:Int):=by omega
 go_enter func67,ntmps67;go_wp2_with fail;refine aH O.o λw1 Y=>?_;rw[Y];clear Y;go_wp2;go_ret;exact⟨rfl,rfl⟩
theorem IX (i:Nat){p}(h:bM w b n C cl s m)(hp:s.fl[i]?=E p)(hf:s.fl.length<200):
  ay prog 67 #[aC (E ⟨b,0,V⟩),Z J (i:Int)] w λe w'=>e=az (Z J 0)/\∃m',cL w w' b n C cl {s with fl:=s.fl++[p]} m m':=by
 have hi:i<s.fl.length:=(fC.1 hp).1;have HC:=I (qz (i:Int) h);rw[aK (show(0:Int)<=(i:Int)/\(i:Int)<(s.fl.length:Int)by omega)]at HC;have bJ:=h.bJ;have f77:=h.f77;have hb:=h.blt;obtain⟨a,c,hv,aJ,hcm,am⟩:=h.fl.view;obtain⟨g,y,rfl,aP,aD,x0,x1,x2,ai⟩:=am i p hp;have aa:=cU aD;obtain⟨O,Y,aF,-⟩:=eC ai;have ar:∀x,y.ownBlock=E x->x<w.1.size/\¬ij b m x:=λx hx=>⟨h.fl.low y aa x hx,h.ap x (Q (Q ⟨y,aa,hx⟩))⟩;have HS:=I (λ(W w2 w3:ac)(g cap:Nat) hW hr hgr hat hw3=>(show∃m',cL w w3 b n C cl {s with fl:=s.fl++[p]} m m' from by obtain⟨m',k⟩:=h.pD (p:=p) (W:=W) (w2:=w2) (w3:=w3) (g:=g) (cap:=cap) ai ar hW hr hgr hat hw3;exact⟨m',k.bP,k.aV,k.own,λx hx=>by rcases k.aS x hx with q|q|q;exact ae q;exact Q q;exact ae (Q (Q (Q ⟨y,aa,q⟩)))⟩));have ag:=I h.fl.row;have NB:=I h.own.2.1;obtain⟨i1,aI,aM,aN,aO⟩:=bO ll;rw[hv]at bJ ag HS NB;rw[aF]at x2 HS;have aQ:(0:Int)<=(i:Int):=by omega
 have hik:(i:Int)<(s.fl.length:Int):=by omega
 clear h hp am aD ai aa aF hv ar;obtain⟨k,hk⟩:=aj s.fl.length;obtain⟨nb,au⟩:=aj p.2.2.length;rw[<-hk]at bJ ag HS NB hf aJ hik hi;rw[<-au]at x2 HS;obtain⟨p1,av⟩:=aj p.1;obtain⟨p2,aA⟩:=aj p.2.1;rw[<-av]at x0 HS;rw[<-aA]at x1 HS;clear hk au av aA;have HQ:=I (show∀w3:ac,(w.alloc (ah #[Z J p1,Z J p2,U O nb Y] 49)).drew.grownBy w3 (Value.slice (E ⟨g,0,V⟩) k c).ownBlock->w3.cell? ⟨b,77,V⟩=E (U (E ⟨g,0,V⟩) k c)/\w3.frozen? ⟨b,77,V⟩=false from λw3 hg=>by
  have ak:af w.1.size w (w.alloc (ah #[Z J p1,Z J p2,U O nb Y] 49)).drew:=((ax _ _).alloc (aw _) _).drew;have hbl:b<(w.alloc (ah #[Z J p1,Z J p2,U O nb Y] 49)).drew.1.size:=by show b<(w.alloc _).1.size;simp;omega
  exact⟨(hg.cell_far ⟨b,77,V⟩ hbl (λe=>NB.o e.symm)).trans ((ak.cell (p:=⟨b,77,V⟩) hb).trans bJ),(hg.frozen_far ⟨b,77,V⟩ hbl (λe=>NB.o e.symm)).trans ((ak.frozen (p:=⟨b,77,V⟩) hb).trans f77)⟩);have hsz:(w.alloc (ah #[Z J p1,Z J p2,U O nb Y] 49)).drew.1.size=w.1.size+1:=by show(w.alloc _).1.size=_;simp
 have SZ:=I hsz;clear hsz;have h63:k+1<=maxLen:=by unfold maxLen;omega
 have hlen:(k+1)*40<=140737488355328:=by omega
 go_enter func67,ntmps67;go_wp2_with fail;refine aH HC.o λw1 aB=>?_;rw[aB];clear aB;go_upto_region 5 with fail;go_region_law (refine Vj _ (by rfl) _ _ _ (by rfl) 0 49 i1 _ 3 40 jt aI aM aN aO rfl (by omega) (U (E ⟨g,0,V⟩) k c) k (bC s.fl m.vs) (by rfl) ((ag.o.alloc _).drew) ⟨w.1.size,0,V⟩ 1 1 [Z J p1,Z J p2,U O nb Y] (by rfl) (by rfl) (Vd (cs:= #[Z J p1,Z J p2,U O nb Y]) (t:=49) (fr:=(0,0)) (bo w _)) (by simp[Value.oneCell']) (by omega) h63 hlen (bi _) (w.1.size+1) (by simp) ?_;intro gg cap' w3 aL aq hat aR;obtain⟨aT,qf⟩:=HQ.o w3 aq);all_goals(have aG:=I (HS.o _ w3 _ gg cap' (((ax w.1.size w).alloc (aw _) _).drew) aL aq (by rw[SZ.o];exact hat) rfl);go_wp2;go_ret;exact⟨rfl,aG.o⟩)
theorem Le:(prog.info? 5).map (λi=>(i.zero,i.size,i.bytes))=E (E (Z .u8 0),1,1):=by kernel_rfl
theorem IE (h:bX w v zs)(hl:zs.length<=400):qa prog w 47 5 1 v zs.length (lV zs):=by
 obtain⟨i1,Y,aa,ac,ae⟩:=bO Le;obtain⟨a,cap,rfl,h2,h3,h4,h5⟩:=h
 cases a with
 |none=>
  have:zs=[]:=by rcases h5 with h5|⟨b,off,e,_⟩;exact h5;cases e
  subst this;exact yh w i1 1 cap fD Y
 |some ad=>
  refine yi w i1 (Z .u8 0) 1 1 fD Y aa ac ae rfl (by decide) ad zs.length cap (by unfold lV;simp) ?_ ?_ (by unfold maxLen;omega) (by omega)
  ·intro j u hj;rcases h5 with h5|⟨b,off,e,hb,hc⟩;subst h5;simp[lV]at hj;cases e;have O:j<zs.length:=by have:=(fC.1 hj).1;simpa[lV]using this
   rw[FO,hc j O];unfold lV at hj;rw[dC,aQ O]at hj;unfold aW;rw[bG,aQ O];exact hj
  intro u hu;obtain⟨_,_,rfl⟩:=cq.1 hu;rfl
theorem J' (h:bM w b n C cl s m)(hlen:s.fl.length<=2000)(hbl:∀p∈s.fl,p.2.2.length<=400):
  ay prog 64 #[aC (E ⟨b,0,V⟩)] w λe w'=>∃v vs,e=az v/\dt w' w.1.size v vs s.fl/\af w.1.size w w':=by
 have bJ:=h.bJ;obtain⟨a,c,hv,aU,hcm,aB⟩:=h.fl.view;rw[hv]at bJ;obtain⟨ps,aX⟩:=aj s.fl;rw[<-aX]at bJ aU aB hlen hbl ⊢;have bk:=I aB;have bj:=I hbl;have bq:=I (λ(j:Nat)(y:ag)(hy:m.vs[j]?=E y)(x:Nat)(hx:y.ownBlock=E x)=>h.fl.low y (cU hy) x hx);obtain⟨i1,bu,bD,bE,bF⟩:=bO ll;clear h hv aB aX hbl;obtain⟨k,hk⟩:=aj ps.length;rw[<-hk]at bJ aU hlen;have HK:=I hk;clear hk;go_enter func64,ntmps64;go_wp2;go_loopw [3,11] (λr x wr=>∃(j:Nat)(vs:List ag),j<=k/\x=Z J j/\dt wr w.1.size r vs (ps.take j)/\af w.1.size w wr) (λ_ x _=>k-(aA x).toNat);case atStart=>exact⟨0,[],bi _,rfl,mM,ax _ _⟩
 obtain⟨j,vs,hj,rfl,aN,au⟩:=hrel;have HO:=I aN;have Y:=I au;have sw:=au.size;obtain⟨ar,cr,aY⟩:=a_ aN.row;obtain⟨nr,aJ⟩:=aj ((ps.take j).length);rw[<-aJ]at aY;subst aY;have ai:=I aJ;clear aN au aJ;by_cases hlt:j<k
 ·have aH:j<ps.length:=by rw[<-HK.o];exact hlt
  obtain⟨g,y,br,aF,bb,x0,x1,x2,ac⟩:=bk.o j _ (aQ aH);subst br;have ba:=bq.o j y bb;obtain⟨p,hp⟩:=aj (ps[j]);rw[<-hp]at x0 x1 ac;have aW:=bj.o p (by rw[hp];exact cN aH);have bm:=A (ps.take (j+1)=ps.take j++[p]) (by rw[gV aH,hp]);have bn:=A ((ps.take j).length=j) (by rw[eV];omega);obtain⟨aa,cy,aO,-⟩:=eC ac;have d0:=(Y.o.cell (p:=⟨g,j*3,V⟩) aF).trans x0;have d1:=(Y.o.cell (p:=⟨g,j*3+1,V⟩) aF).trans x1;have d2:=(Y.o.cell (p:=⟨g,j*3+2,V⟩) aF).trans x2;rw[aO]at d2;have aZ:∀ob,bX (wr.alloc ob) y p.2.2:=λob=>ac.qD (by simp;omega) (λx hx=>(Y.o.alloc sw ob).block x (ba x hx));have ae:=I (λob=>IE (aZ ob) aW);rw[aO]at ae;have bG:(0:Int)<=(j:Int):=by omega
  have hjk:(j:Int)<(k:Int):=by omega
  clear x0 x1 x2 bb ac hp aO ba aZ;obtain⟨p1,aL⟩:=aj p.1;obtain⟨p2,aM⟩:=aj p.2.1;obtain⟨O,aI⟩:=aj p.2.2.length;rw[<-aL]at d0;rw[<-aM]at d1;rw[<-aI]at d2 ae aW;have ak:=I (And.intro aL (And.intro aM aI));clear aL aM aI;obtain⟨W1,hW1⟩:=aj (wr.alloc (ah #[Z J p1,Z J p2,U aa O cy] 49));have r1:W1.1[wr.1.size]?=E (ah #[Z J p1,Z J p2,U aa O cy] 49 (0,0)):=by rw[hW1];exact bo wr _
  have z1:wr.1.size<W1.1.size:=by rw[hW1];simp
  have aq:af wr.1.size wr W1:=by rw[hW1];exact(ax _ _).alloc (aw _) _
  have CP:=A (qa prog W1 47 5 1 (U aa O cy) O (lV p.2.2)) (by rw[hW1];exact ae.o _);have O1:=I (HO.o.below aq);have B1:=I (Y.o.trans (aq.mono sw));have R1:=I r1;have u2:W1.cell? ⟨wr.1.size,2,V⟩=E (U aa O cy):=(bg W1 wr.1.size 2 _ _ (0,0) r1).trans rfl;have bp:=I hW1;clear hW1 r1 aq;go_upto_region 5 with fail;rw[<-bp.o];go_wp2_with(at_builtin;refine rc rfl 47 rfl rfl (U aa O cy) rfl 5 1 O (lV p.2.2) CP.o ?_);intro v2 w2 aK hb2;obtain⟨a5,c5,bA⟩:=a_ aK;subst bA;have z2:=hb2.size;have R2:=I ((hb2.block wr.1.size z1).trans R1.o);have t0:=(bg w2 wr.1.size 0 _ _ (0,0) R2.o).trans (show _=E (Value.int J p1)from rfl);have t1:=(bg w2 wr.1.size 1 _ _ (0,0) R2.o).trans (show _=E (Value.int J p2)from rfl);have t2:=(bg w2 wr.1.size 2 _ _ (0,0) R2.o).trans (show _=E (Value.slice aa O cy)from rfl);have tf:=eh w2 wr.1.size 2 _ _ R2.o;have O2:=I (O1.o.below hb2);have aR:=I aK;have B2:=I (B1.o.trans (hb2.mono (by omega)));have bH:wr.1.size<w2.1.size:=by omega
  have aS:=I (λx (hx:iZ (U ar nr cr) vs x)=>(HO.o.low x hx).2);clear aK hb2 u2;go_upto_region 6 with fail;obtain⟨w3,hw3⟩:=aj (w2.setCell ⟨wr.1.size,2,V⟩ (U a5 O c5));rw[<-hw3];have z3:w3.1.size=w2.1.size:=by rw[hw3];simp[World.setCell]
  have am:av (λx=>x=wr.1.size) w2 w3:=by rw[hw3];exact av.setCell w2 ⟨wr.1.size,2,V⟩ _
  have s0:w3.cell? ⟨wr.1.size,0,V⟩=E (Z J p1):=by rw[hw3,lO _ _ _ _ (by intro q;injection q with q1 q2 q3;omega)];exact t0
  have s1:w3.cell? ⟨wr.1.size,1,V⟩=E (Z J p2):=by rw[hw3,lO _ _ _ _ (by intro q;injection q with q1 q2 q3;omega)];exact t1
  have s2:w3.cell? ⟨wr.1.size,2,V⟩=E (U a5 O c5):=by rw[hw3];exact xy _ _ _ t2
  have O3:=I (O2.o.aV am (λx hx e=>by have:=aS.o x hx;omega));have aP:=I (bf aR.o am (λx hx e=>by have:=(aR.o.lt x hx).1;omega));have B3:=A (af w.1.size w w3) (by rw[hw3];exact B2.o.setCell (p:=⟨wr.1.size,2,V⟩) sw _);have bw:w.1.size<=w3.1.size:=by omega
  have bc:=A (w3.ownsRow w.1.size 5 1 (U a5 O c5) p.2.2.length (lV p.2.2)) (by rw[<-ak.o.2.2];exact cS aP.o (by omega));have NEW:=I (λx (hx:(Value.slice a5 O c5).ownBlock=E x) y (hy:y∈vs)(e:y.ownBlock=E x)=>(show False by have q1:=(aP.o.lt x hx).1;have q2:=aS.o x (Q ⟨y,hy,e⟩);omega));have bv:(ps.take j).length<=2000:=by rw[bn.o];omega
  have aT:=A (w3.ownsRow w.1.size 49 3 (U ar nr cr) nr (bC (ps.take j) vs)) (by have:=O3.o.row;rw[<-ai.o]at this;exact this);rw[<-ai.o]at bv;clear hw3 am t0 t1 t2 tf z3;go_wp2_with(at_builtin;refine eF _ rfl _ _ 41 rfl w.1.size 49 i1 (aD #[Z J 0,Z J 0,U V 0 0]) 3 40 jt bu bD bE bF rfl (by decide) _ _ _ rfl (aT.o.alloc _) ⟨w3.1.size,0,V⟩ 1 1 [Z J p1,Z J p2,U a5 O c5] rfl rfl ?c1 ?c2 ?c3 ?c4 ?c5 ?_);case c1=>exact rK _ _ _ _ _
  case c2=>intro u hu;simp at hu;rcases hu with rfl|rfl|rfl<;>rfl
  case c3=>unfold maxLen;omega
  case c4=>omega
  case c5=>simp;omega
  intro v' w4 hown' aG _;have hb4:=(B3.o.alloc bw _).grown aG (by simp;omega) (λy hy=>(aT.o.lt y hy).1);have B4:=I hb4;have ap:af w3.1.size w3 (w3.alloc (ah #[Z J p1,Z J p2,U a5 O c5] 49)):=(ax _ _).alloc (aw _) _;have O4:=I (show dt w4 w.1.size v' (vs++[U a5 O c5]) (ps.take (j+1))by rw[bm.o];have bt:av (λx=>(Value.slice ar nr cr).ownBlock=E x) (w3.alloc (ah #[Z J p1,Z J p2,U a5 O c5] 49)) w4:=av.grown aG;exact(O3.o.below ap).snoc (p:=p) (bf (S:=λ_=>False) bc.o (av.bz ap) (λ_ _ h=>h)) (λx hx y hy e=>NEW.o x hx y hy e) (by rw[<-ak.o.1,<-ak.o.2.1,<-ai.o];exact hown') bt);obtain⟨a6,c6,bB⟩:=a_ hown';subst bB;clear hown' aG hb4 ap;go_wp2;go_roundw;case rel=>exact⟨j+1,_,by omega,by go_num,O4.o,B4.o⟩
  simp[aA];omega
 have ej:j=k:=by omega
 have bl:=A (ps.take j=ps) (by rw[ej,HK.o];exact iF);clear ej;have bh:=A (dt wr w.1.size (U ar nr cr) vs ps) (by have:=HO.o;rw[bl.o]at this;exact this);go_wp2;go_ret;exact⟨_,vs,rfl,bh.o,Y.o⟩
end Go.Proofs.YtchideljndagjabGreat


