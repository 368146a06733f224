/- Joined -/
import Derived.Test.YtchideljndagjabGreatUBA
import Derived.Great.BuildSlice
set_option linter.unusedVariables false
set_option maxHeartbeats 2000000
set_option maxRecDepth 100000
namespace Go.Proofs.YtchideljndagjabGreat
open aq aO aB
open Go.Value renaming int->Z,slice->U,pointer->aC,agg->aD,tuple->br
open Go.IntKind renaming i64->J
open Go.Obj renaming cells->ah
open Go.Ending renaming returned->az
open Or renaming inl->ae,inr->Q
open Option renaming none->V,some->E
open Bool renaming false->Y,true->aa
open Go renaming World->ac,Value->ag,Calls->ay
open Go.RowKit renaming Below->af
abbrev uS:=@Proofs.Tryz.underlying109
open Go.Proofs.Tryz
variable {D M N T:Int}{Ty:TypeId}
section
open Go.ChangeShapes Go.WideShapes Go.ChangeAt Go.RowKit
theorem xb{vf O}(hf:vf=32/\O=65\/vf=33/\O=66\/vf=34/\O=67\/vf=36/\O=69)(b u w)(Q:Int->ac->Prop)(h:ay prog O #[aC (E ⟨b,0,V⟩),Z J u] w λe w'=>∃k,e=az (Z J k)/\Q k w'):
  ay prog vf #[aC (E ⟨b,0,V⟩),Z J u] w λe w'=>∃k,e=az (Z J k)/\Q k w':=by
 have H:=I h;clear h;rcases hf with⟨rfl,rfl⟩|⟨rfl,rfl⟩|⟨rfl,rfl⟩|⟨rfl,rfl⟩
 all_goals
  first|go_enter func32,ntmps32|go_enter func33,ntmps33|go_enter func34,ntmps34|go_enter func36,ntmps36
  go_wp2_with fail;refine H.o.mono ?_;rintro e w1 ⟨k,rfl,hq⟩;have Y:=I hq;clear hq;go_wp2;go_ret;exact⟨k,rfl,Y.o⟩
theorem UB (b u){a n c}(w)(Q:Int->ac->Prop)(h:ay prog 44 #[aC (E ⟨b,0,V⟩),Z J u,U a n c] w λe w'=>∃k,e=az (Z J k)/\Q k w'):
  ay prog 22 #[aC (E ⟨b,0,V⟩),Z J u,U a n c] w λe w'=>∃k,e=az (Z J k)/\Q k w':=by have H:=I h;clear h;go_enter func22,ntmps22;go_wp2_with fail;refine H.o.mono ?_;rintro e w1 ⟨k,rfl,hq⟩;have O:=I hq;clear hq;go_wp2;go_ret;exact⟨k,rfl,O.o⟩
theorem Uz (b w)(Q:ag->ac->Prop)(h:ay prog 64 #[aC (E ⟨b,0,V⟩)] w λe w'=>∃a n c,e=az (U a n c)/\Q (U a n c) w'):
  ay prog 30 #[aC (E ⟨b,0,V⟩)] w λe w'=>∃a n c,e=az (U a n c)/\Q (U a n c) w':=by have H:=I h;clear h;go_enter func30,ntmps30;go_wp2_with fail;refine H.o.mono ?_;rintro e w1 ⟨a,n,c,rfl,hq⟩;have O:=I hq;clear hq;go_wp2;go_ret;exact⟨a,n,c,rfl,O.o⟩
theorem UE (b u w)(Q:ag->ac->Prop)(h:ay prog 77 #[aC (E ⟨b,0,V⟩),Z J u] w λe w'=>∃a n c,e=az (U a n c)/\Q (U a n c) w'):
  ay prog 46 #[aC (E ⟨b,0,V⟩),Z J u] w λe w'=>∃a n c,e=az (U a n c)/\Q (U a n c) w':=by have H:=I h;clear h;go_enter func46,ntmps46;go_wp2_with fail;refine H.o.mono ?_;rintro e w1 ⟨a,n,c,rfl,hq⟩;have O:=I hq;clear hq;go_wp2;go_ret;exact⟨a,n,c,rfl,O.o⟩
theorem UG (b w){Q:ac->Prop}(h:ay prog 68 #[aC (E ⟨b,0,V⟩)] w λe w'=>e=az (br #[])/\Q w'):
  ay prog 35 #[aC (E ⟨b,0,V⟩)] w λe w'=>e=az (br #[])/\Q w':=by have H:=I h;clear h;go_enter func35,ntmps35;go_wp2_with fail;refine aH H.o λw1 hq=>?_;have O:=I hq;clear hq;go_wp2;go_end0;exact⟨rfl,O.o⟩
section
variable {w:ac}{b n:Nat}{C:Cf}{cl:Nat->Cl}{s:Sn}{m:SM}
def kF (s:Sn)(u:Int):Int:=if 0<=u/\u<(s.fl.length:Int)then 0 else 7
def jY (C:Cf)(cl:Nat->Cl)(n:Nat)(s:Sn)(u:Int):Sn:=if 0<=u/\u<(s.fl.length:Int)then(match s.fl[u.toNat]? with|none=>s|some p=>eo C cl n {s with fl:=s.fl.eraseIdx u.toNat} p.2.1 p.2.2)else s
def jb (s:Sn)(u:Int):Sn:=if 0<=u/\u<(s.fl.length:Int)then{s with fl:=s.fl.eraseIdx u.toNat}else s
def mD (s:Sn)(u:Int):Int:=if 0<=u/\u<(s.fl.length:Int)then(if s.fl.length<200 then 0 else 8)else 7
def ja (s:Sn)(u:Int):Sn:=if 0<=u/\u<(s.fl.length:Int)then(if s.fl.length<200 then(match s.fl[u.toNat]? with|none=>s|some p=>{s with fl:=s.fl++[p]})else s)else s
def qy (n:Nat)(u:Int):Int:=if 0<=u/\u<=(n:Int)then 0 else 7
def kJ (C:Cf)(cl:Nat->Cl)(n:Nat)(s:Sn)(u:Int)(zs:List Int):Sn:=if 0<=u/\u<=(n:Int)then eo C cl n s u zs else s
def qo (n:Nat)(u:Int):Int:=if 1<=u/\u<=(n:Int)then 0 else 7
def kE (n:Nat)(s:Sn)(u:Int):Sn:=if 1<=u/\u<=(n:Int)then rP s (u.toNat-1)else s
theorem Uv (h:bM w b n C cl s m)(ok:bU C cl n s)(u):ay prog 32 #[aC (E ⟨b,0,V⟩),Z J u] w λe w'=>e=az (Z J (kF s u))/\∃m',cL w w' b n C cl (jY C cl n s u) m m':=by
 refine(xb (ae ⟨rfl,rfl⟩) b u w (λk w'=>k=kF s u/\∃m',cL w w' b n C cl (jY C cl n s u) m m') ?_).mono (λe w' ⟨k,h1,h2,h3⟩=>⟨by rw[h1,h2],h3⟩);unfold kF jY;by_cases hu:0<=u/\u<(s.fl.length:Int);obtain⟨i,rfl⟩:∃i:Nat,u=(i:Int):=⟨u.toNat,by omega⟩;have hi:i<s.fl.length:=by omega
 rw[au hu,au hu,show((i:Int)).toNat=i by omega,aQ hi];exact(IP i h ok (aQ hi)).mono (λe w' ⟨h1,h2⟩=>⟨0,h1,rfl,h2⟩);rw[ar hu,ar hu];exact(IM u h hu).mono (λe w' ⟨h1,h2⟩=>⟨7,h1,rfl,m,by rw[h2];exact qR h (ax _ _)⟩)
theorem Ux (h:bM w b n C cl s m)(ok:bU C cl n s)(u):ay prog 33 #[aC (E ⟨b,0,V⟩),Z J u] w λe w'=>e=az (Z J (kF s u))/\∃m',cL w w' b n C cl (jb s u) m m':=by
 refine(xb (Q (ae ⟨rfl,rfl⟩)) b u w (λk w'=>k=kF s u/\∃m',cL w w' b n C cl (jb s u) m m') ?_).mono (λe w' ⟨k,h1,h2,h3⟩=>⟨by rw[h1,h2],h3⟩);unfold kF jb;by_cases hu:0<=u/\u<(s.fl.length:Int);obtain⟨i,rfl⟩:∃i:Nat,u=(i:Int):=⟨u.toNat,by omega⟩;have hi:i<s.fl.length:=by omega
 rw[au hu,au hu,show((i:Int)).toNat=i by omega];exact(Jb i h hi (by have:=ok.fl;omega)).mono (λe w' ⟨h1,h2⟩=>⟨0,h1,rfl,h2⟩);rw[ar hu,ar hu];exact(Ja u h hu).mono (λe w' ⟨h1,h2⟩=>⟨7,h1,rfl,m,by rw[h2];exact qR h (ax _ _)⟩)
theorem Uw (h:bM w b n C cl s m)(u):ay prog 34 #[aC (E ⟨b,0,V⟩),Z J u] w λe w'=>e=az (Z J (mD s u))/\∃m',cL w w' b n C cl (ja s u) m m':=by
 refine(xb (Q (Q (ae ⟨rfl,rfl⟩))) b u w (λk w'=>k=mD s u/\∃m',cL w w' b n C cl (ja s u) m m') ?_).mono (λe w' ⟨k,h1,h2,h3⟩=>⟨by rw[h1,h2],h3⟩);unfold mD ja;by_cases hu:0<=u/\u<(s.fl.length:Int)
 ·obtain⟨i,rfl⟩:∃i:Nat,u=(i:Int):=⟨u.toNat,by omega⟩;have hi:i<s.fl.length:=by omega
  rw[au hu,au hu,show((i:Int)).toNat=i by omega,aQ hi];by_cases hf:s.fl.length<200;rw[au hf,au hf];exact(IX i h (aQ hi) hf).mono (λe w' ⟨h1,h2⟩=>⟨0,h1,rfl,h2⟩);rw[ar hf,ar hf];exact(IV i h hi (by omega)).mono (λe w' ⟨h1,h2⟩=>⟨8,h1,rfl,m,by rw[h2];exact qR h (ax _ _)⟩)
 rw[ar hu,ar hu];exact(IW u h hu).mono (λe w' ⟨h1,h2⟩=>⟨7,h1,rfl,m,by rw[h2];exact qR h (ax _ _)⟩)
theorem UA (h:bM w b n C cl s m)(ok:bU C cl n s)(u){v zs}(hv:bX w v zs):ay prog 22 #[aC (E ⟨b,0,V⟩),Z J u,v] w λe w'=>e=az (Z J (qy n u))/\∃m',cL w w' b n C cl (kJ C cl n s u zs) m m':=by have H:=Lg u h ok hv;obtain⟨a,c,rfl,-⟩:=eC hv;refine(UB b u w (λk w'=>k=qy n u/\∃m',cL w w' b n C cl (kJ C cl n s u zs) m m') (H.mono (λe w' ⟨h1,h2⟩=>?_))).mono (λe w' ⟨k,h1,h2,h3⟩=>⟨by rw[h1,h2],h3⟩);unfold qy kJ;by_cases hu:0<=u/\u<=(n:Int);rw[au hu,au hu];obtain⟨q1,q2⟩:=h1 hu;exact⟨0,q1,rfl,q2⟩;rw[ar hu,ar hu];obtain⟨q1,q2⟩:=h2 hu;exact⟨7,q1,rfl,m,by rw[q2];exact qR h (ax _ _)⟩
theorem Uu (h:bM w b n C cl s m)(ok:bU C cl n s)(u):ay prog 36 #[aC (E ⟨b,0,V⟩),Z J u] w λe w'=>e=az (Z J (qo n u))/\∃m',cL w w' b n C cl (kE n s u) m m':=by
 have O:n<=12:=by have:=ok.gc.n;have:=ok.num;omega
 refine(xb (Q (Q (Q ⟨rfl,rfl⟩))) b u w (λk w'=>k=qo n u/\∃m',cL w w' b n C cl (kE n s u) m m') ((RK u h O).mono (λe w' ⟨h1,h2⟩=>?_))).mono (λe w' ⟨k,h1,h2,h3⟩=>⟨by rw[h1,h2],h3⟩);unfold qo kE;by_cases hu:1<=u/\u<=(n:Int);rw[au hu,au hu];obtain⟨q1,q2⟩:=h1 (u.toNat-1) (by omega) (by omega);exact⟨0,q1,rfl,q2⟩;rw[ar hu,ar hu];obtain⟨q1,q2⟩:=h2 hu;exact⟨7,q1,rfl,m,by rw[q2];exact qR h (ax _ _)⟩
theorem UF (h:bM w b n C cl s m)(ok:bU C cl n s):ay prog 35 #[aC (E ⟨b,0,V⟩)] w λe w'=>e=az (br #[])/\∃m',cL w w' b n C cl (nz C s) m m':=UG b w (Tt h ok)
theorem Uy (h:bM w b n C cl s m)(hlen:s.fl.length<=2000)(hbl:∀p∈s.fl,p.2.2.length<=400):ay prog 30 #[aC (E ⟨b,0,V⟩)] w λe w'=>∃v vs,e=az v/\dt w' w.1.size v vs s.fl/\af w.1.size w w':=by refine(Uz b w (λv w'=>∃vs,dt w' w.1.size v vs s.fl/\af w.1.size w w') ((J' h hlen hbl).mono (λe w' ⟨v,vs,h1,h2,h3⟩=>?_))).mono (λe w' ⟨a,k,c,h1,vs,h2⟩=>⟨_,vs,h1,h2⟩);obtain⟨a,c,e1⟩:=a_ h2.row;subst e1;exact⟨a,_,c,h1,vs,h2,h3⟩
theorem UD (h:bM w b n C cl s m)(ok:bU C cl n s)(u):ay prog 46 #[aC (E ⟨b,0,V⟩),Z J u] w λe w'=>∃va,e=az va/\w'.ownsRow w.1.size 147 4 va (km cl n s u).length (bD (km cl n s u))/\af w.1.size w w':=by refine(UE b u w (λv w'=>w'.ownsRow w.1.size 147 4 v (km cl n s u).length (bD (km cl n s u))/\af w.1.size w w') ((Tf u h ok).mono (λe w' ⟨v,h1,h2,h3⟩=>?_))).mono (λe w' ⟨a,k,c,h1,h2⟩=>⟨_,h1,h2⟩);obtain⟨a,c,e1⟩:=a_ h2;subst e1;exact⟨a,_,c,h1,h2,h3⟩
end
theorem UC (b){st ro ls us}(w)(h:∀W:ac,af w.1.size w W->ay prog 38 #[aC (E ⟨b,0,V⟩)] W λe w'=>∃va vb,e=az (aD #[Z J st,Z J ro,va,vb])/\Told W w' va vb ls us):
  ay prog 15 #[aC (E ⟨b,0,V⟩)] w λe w'=>∃va vb,e=az (aD #[Z J st,Z J ro,va,vb])/\Told w w' va vb ls us:=by
 obtain⟨W0,hW0⟩:=aj (w.alloc (ah #[Z J 0,Z J 0,U V 0 0,U V 0 0] 35));have b0:af w.1.size w W0:=by rw[hW0];exact(ax _ _).alloc (aw _) _
 have R0:=A (W0.1[w.1.size]?=E (ah #[Z J 0,Z J 0,U V 0 0,U V 0 0] 35 (0,0))) (by rw[hW0];exact bo w _);have z0:w.1.size<W0.1.size:=by rw[hW0];simp
 have H:=I (h W0 b0);have O:=I b0;have ae:=I hW0;clear h b0 hW0;go_enter func15,ntmps15;go_upto_region 1 with fail;rw[<-ae.o];go_wp2_with fail;refine H.o.mono ?_;rintro e w1 ⟨va,vb,rfl,ht⟩;obtain⟨t1,t2,t3,t4⟩:=ht;obtain⟨a3,k3,hv3⟩:=a_ t1;obtain⟨a4,k4,hv4⟩:=a_ t2;have R1:=I ((t4.block _ z0).trans R0.o);obtain⟨⟨x0,x1,x2,x3⟩,xf⟩:=gg R1.o;have R6:=I (wI R1.o (Z J st) (Z J ro) va vb);have Y:=O.o.trans (t4.mono O.o.size);have c6:=yf w1 w.1.size (Z J st) (Z J ro) va vb
 have aa:=I (show Told w ((((w1.setCell ⟨w.1.size,0,V⟩ (Z J st)).setCell ⟨w.1.size,1,V⟩ (Z J ro)).setCell ⟨w.1.size,2,V⟩ va).setCell ⟨w.1.size,3,V⟩ vb) va vb ls us from
  ⟨cS (bf t1 c6 (λx hx e=>by have:=(t1.lt x hx).1;omega)) (by omega),
   cS (bf t2 c6 (λx hx e=>by have:=(t2.lt x hx).1;omega)) (by omega),t3,
   (((Y.setCell (p:=⟨w.1.size,0,V⟩) (aw _) _).setCell (p:=⟨w.1.size,1,V⟩) (aw _) _).setCell (p:=⟨w.1.size,2,V⟩) (aw _) _).setCell (p:=⟨w.1.size,3,V⟩) (aw _) _⟩);clear t1 t2 t3 t4 Y c6;rw[hv3,hv4]at R6 aa ⊢;clear hv3 hv4;go_wp2_with fail;refine cQ (ic rfl _ _ w.1.size 35 #[Z J st,Z J ro,_,_] (0,0) _ rfl R6.o Gf rfl zO) rfl ?_;exact⟨_,_,rfl,aa.o⟩
theorem Fx{w b n C cl s m}(h:bM w b n C cl s m)(ok:bU C cl n s):ay prog 15 #[aC (E ⟨b,0,V⟩)] w λe w'=>∃va vb,e=az (aD #[Z J s.q.o.1,Z J s.q.o.2.1,va,vb])/\Told w w' va vb s.q.o.2.2.1 s.q.o.2.2.2:=
 UC b w (λW hW=>Te (h.below hW) ok)
end
section
open Go.RowKit
theorem Qt (st):fg st<=3:=by unfold fg;split<;>(try split)<;>(try split)<;>omega
theorem zq (cs):∀n,kn cs n<=3*n
 |0=>aw _
 |n+1=>by have:=zq cs n;have:=Qt (cs n);show kn cs n+fg (cs n)<=_;omega
theorem D' (cs i st):∀n,kn (bu cs i st) n+(if i<n then fg (cs i)else 0)=kn cs n+(if i<n then fg st else 0)
 |0=>by simp[kn]
 |n+1=>by have ih:=D' cs i st n;show kn (bu cs i st) n+fg (bu cs i st n)+_=kn cs n+fg (cs n)+_;by_cases e:n=i;subst e;rw[cP,au (by omega),au (by omega)];rw[ar (by omega),ar (by omega)]at ih;omega;rw[dw _ _ _ e];by_cases q:i<n;rw[au q,au q]at ih;rw[au (by omega),au (by omega)];omega;rw[ar q,ar q]at ih;rw[ar (by omega),ar (by omega)];omega
theorem Ea (q):hZ q<=39:=by unfold hZ;split<;>omega
theorem Qu (c s zs i):fg (fP c s zs)+(oN i (fM c s zs)).length<=fg s:=by
 cases hd:cJ zs with
 |none=>rw[(um hd).1,(um hd).2];exact aw _
 |some g=>
  obtain⟨k,fr,l⟩:=g;by_cases k1:s.1=1/\k=2;obtain⟨p1,rfl⟩:=k1;rw[(wU (c:=c) hd p1).1,(wU (c:=c) hd p1).2];have e:fg s=3:=by unfold fg;rw[au p1]
  rw[e];cases gB c l;show fg (0,l,[],[])+0<=3;unfold fg;simp;show fg (2,l,[],[])+1<=3;unfold fg;simp;by_cases k2:s.1=2/\k=4;obtain⟨p1,rfl⟩:=k2;rw[(wT (c:=c) hd p1).1,(wT (c:=c) hd p1).2];have e:fg s=2:=by unfold fg;rw[ar (by omega),au p1]
  rw[e];cases d_ c s.2.1 l;show fg (0,s.2.1,l,[])+0<=2;unfold fg;simp;show fg (3,s.2.1,l,[])+1<=2;unfold fg;simp;by_cases k3:s.1=3/\k=6;obtain⟨p1,rfl⟩:=k3;rw[(wS (c:=c) hd p1).1,(wS (c:=c) hd p1).2];have e:fg s=1:=by unfold fg;rw[ar (by omega),ar (by omega),au p1]
  rw[e];cases gZ c s.2.2.1 l;show fg (0,s.2.1,s.2.2.1,l)+0<=1;unfold fg;simp;show fg (4,s.2.1,s.2.2.1,l)+1<=1;unfold fg;simp;rw[(wV (c:=c) hd k1 k2 k3).1,(wV (c:=c) hd k1 k2 k3).2];exact aw _
theorem yn{k fr l}(h:aq.okF k fr l=aa):(bm k fr l).length<=400:=by have q1:=(en h).1;have q2:=jL k;rw[qu];unfold aq.size;have:l.length*(1+8*bh k)<=12*25:=uJ q1 (by omega);omega
theorem Nl{p}(h:p 0=Y):(aT p).length<=12:=by unfold aT bV;rw[show(13:Nat)=12+1 from rfl,Vb,List.filter_cons_of_neg (by rw[h];exact dR)];have:=pW p (List.map Nat.succ (List.range 12));simpa using this
theorem Uc{C}(hc:fx C){q}(hs:q.o.1=0->gJ C q)(h:q.o.2.2.1.length<=12/\q.o.2.2.2.length<=12):(cm C q).o.2.2.1.length<=12/\(cm C q).o.2.2.2.length<=12:=by
 unfold cm;by_cases p:aB.pend q=aa
 ·rw[au p];have ok:=hs (kO.1 p);split;·split;exact⟨bi _,bi _⟩;split;have:=hc.m;refine⟨?_,?_⟩;show(kR q.G).length<=12;unfold kR;rw[dI];exact Nl (ok.good.zero 2);show(ib C q.G).length<=12;unfold ib;rw[dI,Gd];omega;exact h
  exact h
 rw[ar p];exact h
section
variable {C:Cf}{cl:Nat->Cl}{n:Nat}{s:Sn}
theorem bU.gS (h:bU C cl n s){i}(hi:i<n){zs}(hB:cY zs):bU C cl n (gS cl s i zs):=by
 unfold Go.Proofs.YtchideljndagjabGreat.gS;by_cases hg:s.gone i=aa;rw[au hg];exact h;rw[ar hg];refine{h with fl:=?_,flb:=λp hp=>?_};have h1:=h.fl;have h2:=D' s.cs i (fP (cl i) (s.cs i) zs) n;rw[au hi,au hi]at h2;have h3:=Qu (cl i) (s.cs i) zs i;show(s.fl++oN i (fM (cl i) (s.cs i) zs)).length+(kn (bu s.cs i (fP (cl i) (s.cs i) zs)) n+hZ s.q)<=300;rw[cy];omega;rcases cZ.1 hp with hp|hp;exact h.flb p hp
 cases e:fM (cl i) (s.cs i) zs with
 |none=>rw[e]at hp;cases hp
 |some f=> rw[e]at hp;rw[lN.1 hp];exact yn (Bo (h.good i hi) hB e)
theorem wW (C q zs):(fB C q zs).o=q.o/\(fB C q zs).rd=q.rd:=by
 unfold fB
 cases cJ zs with
 |none=>exact⟨rfl,rfl⟩
 |some f=>show(iA C q f).o=_/\(iA C q f).rd=_;unfold iA;split<;>exact⟨rfl,rfl⟩
theorem Tc{q}(hc:fx C)(h:q.o.1=0->gJ C q){zs}(hB:cY zs):(fB C q zs).o.1=0->gJ C (fB C q zs):=by
 intro e;rw[(wW C q zs).1]at e;unfold fB
 cases hd:cJ zs with
 |none=>exact h e
 |some f=>exact(h e).take (qw hB hd).1
theorem bU.qM (h:bU C cl n s){zs}(hB:cY zs):bU C cl n (qM C s zs):=by
 obtain⟨e1,e2⟩:=wW C s.q zs;refine{h with ia:=Tc h.gc h.ia hB,bd:=?_,fl:=?_};show(fB C s.q zs).o.2.2.1.length<=12/\(fB C s.q zs).o.2.2.2.length<=12;rw[e1];exact h.bd;show s.fl.length+(kn s.cs n+hZ (fB C s.q zs))<=300;have:hZ (fB C s.q zs)=hZ s.q:=by unfold hZ;rw[e1,e2]
 rw[this];exact h.fl
theorem bU.eo (h:bU C cl n s)(d){zs}(hB:cY zs):bU C cl n (eo C cl n s d zs):=by unfold Go.Proofs.YtchideljndagjabGreat.eo;by_cases q:1<=d/\d<=(n:Int);rw[au q];exact h.gS (by omega) hB;rw[ar q];exact h.qM hB
theorem bU.tI (h:bU C cl n s)(u):bU C cl n (kE n s u):=by unfold kE;split;exact{h with};exact h
theorem bU.drop (h:bU C cl n s)(u):bU C cl n (jb s u):=by unfold jb;split;exact h.less _;exact h
theorem bU.double (h:bU C cl n s)(u):bU C cl n (ja s u):=by
 unfold ja;split
 ·split
  ·rename_i hf;split;exact h;rename_i p hp;have O:n<=12:=by have:=h.gc.n;have:=h.num;omega
   have a1:=zq s.cs n;have a2:=Ea s.q;refine{h with fl:=?_,flb:=λq hq=>?_};show(s.fl++[p]).length+(kn s.cs n+hZ s.q)<=300;rw[cy];simp;omega;rcases cZ.1 hq with hq|hq;exact h.flb q hq;rw[lN.1 hq];exact h.flb p (cU hp)
  exact h
 exact h
theorem Qv{q}(h:q.o.1=0->gJ C q):hZ (cm C q)+(eu C q).length<=hZ q:=by
 have hl:=Ab (C:=C) (q:=q);by_cases p:aB.pend q=aa
 ·have ok:=h (kO.1 p);have O:=kO.1 p;have ac:=ok.rd;have Y:hZ q=(3-q.rd)*13:=au O;by_cases d:im C q=aa
  ·by_cases f:fZ C q=aa;rw[lI (by rw[f];simp)];have e:hZ (cm C q)=0:=by unfold cm;rw[au p,au d,au f];rfl
   rw[e];exact bi _;by_cases r:q.rd=3;rw[lI (by rw[r];simp)];have e:hZ (cm C q)=0:=by unfold cm;rw[au p,au d,ar f,au r];rfl
   rw[e];exact bi _;have e:hZ (cm C q)=(3-(q.rd+1))*13:=by unfold cm;rw[au p,au d,ar f,ar r];exact au O
   rw[e,Y];omega
  have e:hZ (cm C q)=hZ q:=by unfold cm;rw[au p,ar d];rfl
  rw[lI (by rw[Bool.not_eq_true _ |>.mp d];simp),e];exact aw _
 have e:cm C q=q:=by unfold cm;rw[ar p]
 rw[lI (by rw[Bool.not_eq_true _ |>.mp p];rfl),e];exact aw _
theorem bU.tick (h:bU C cl n s):bU C cl n (nz C s):=by
 have hr:=Qv (C:=C) (q:=s.q) h.ia;refine{h with ia:=λe=>?_,bd:=Uc h.gc h.ia h.bd,fl:=?_,flb:=λp hp=>?_}
 ·have e':(cm C s.q).o.1=0:=e;by_cases p:s.q.o.1=0;exact(h.ia p).tick h.gc e';have q:cm C s.q=s.q:=by unfold cm;rw[ar (λk=>p (kO.1 k))]
  rw[q]at e';exact absurd e' p
 have h1:=h.fl;show(s.fl++eu C s.q).length+(kn s.cs n+hZ (cm C s.q))<=300;rw[cy];omega;rcases cZ.1 hp with hp|hp;exact h.flb p hp;unfold eu pJ at hp;by_cases hh:(aB.pend s.q&&(im C s.q&&(!aB.fZ C s.q&&decide (s.q.rd≠3))))=aa;rw[au hh]at hp;rw[bS,bS,bS]at hh;obtain⟨h1,h2,h3,h4⟩:=hh;have ok:=h.ia (kO.1 h1);have hr:s.q.rd≠3:=rz h4;have hf:¬((dm (s.q.G s.q.rd):Int)<C.T):=by unfold fZ at h3;simpa using h3
 have ht:=h.gc.t;have O:=ok.rd;obtain⟨x,hx,rfl⟩:=cq.1 hp;obtain⟨u,hu,rfl⟩:=cq.1 hx;exact yn (uh ok.good s.q.rd u (by omega) (by omega));rw[ar hh]at hp;cases hp
theorem bU.yG (h:bU C cl n s)(u){zs}(hB:cY zs):bU C cl n (kJ C cl n s u zs):=by unfold kJ;split;exact h.eo u hB;exact h
theorem bU.ym (h:bU C cl n s)(u)(hB:∀p∈s.fl,cY p.2.2):bU C cl n (jY C cl n s u):=by
 unfold jY;split;·split;exact h;rename_i p hp;exact(h.less _).eo _ (hB p (cU hp))
 exact h
end
def jW (P:Nat->PS):Nat->List ag
 |0=>[]
 |i+1=>jW P i++cx (P i)
theorem vx (P):∀i,(jW P i).length=i*78
 |0=>rfl
 |i+1=>by show(jW P i++cx (P i)).length=_;rw[cy,vx P i,gD];omega
theorem BM (P):∀i j k,j<i->k<78->(jW P i)[j*78+k]?=(cx (P j))[k]?
 |0,j,k,h,_=>by omega
 |i+1,j,k,h,hk=>by show(jW P i++cx (P i))[j*78+k]?=_;by_cases e:j=i;subst e;rw[fo (by rw[vx];omega),vx];congr 1;omega;rw[ey (by rw[vx];omega)];exact BM P i j k (by omega) hk
theorem BL{P Q}:∀i,(∀j,j<i->P j=Q j)->jW P i=jW Q i
 |0,_=>rfl
 |i+1,h=>by show jW P i++cx (P i)=jW Q i++cx (Q i);rw[BL i (λj hj=>h j (by omega)),h i (by omega)]
structure kX (w:ac)(c:Cl)(P:PS):Prop where
 eq:P=tL c.id c.N c.T c.ch c.ms c.sd P.inp P.sm P.ss
 inp:aY w P.inp c.inp
 sm:aY w P.sm c.sm
 ss:aY w P.ss c.ss
 low:∀x,(P.inp.ownBlock=E x\/P.sm.ownBlock=E x\/P.ss.ownBlock=E x)->x<w.1.size
theorem kX.told{w c P}(h:kX w c P):P.told=U V 0 0:=by rw[h.eq];rfl
theorem kX.aS{w c P}(h:kX w c P){b x}(hx:eG b P x):x=b\/(P.inp.ownBlock=E x\/P.sm.ownBlock=E x\/P.ss.ownBlock=E x):=by rcases hx with hx|hx|hx|hx|hx;exact ae hx;exact Q (ae hx);exact Q (Q (ae hx));exact Q (Q (Q hx));rw[h.told]at hx;cases hx
theorem kX.keep{w w' c P}(h:kX w c P)(hs:w.1.size<=w'.1.size)(hb:∀x,(P.inp.ownBlock=E x\/P.sm.ownBlock=E x\/P.ss.ownBlock=E x)->w'.1[x]?=w.1[x]?):kX w' c P:=
 ⟨h.eq,h.inp.keep hs (λx hx=>hb x (ae hx)),h.sm.keep hs (λx hx=>hb x (Q (ae hx))),h.ss.keep hs (λx hx=>hb x (Q (Q hx))),λx hx=>cG (h.low x hx) hs⟩
theorem kX.di{w c P}(h:kX w c P){b o}(hp:Co.aJ w b o P)(hn:∀x,(P.inp.ownBlock=E x\/P.sm.ownBlock=E x\/P.ss.ownBlock=E x)->x≠b):Co.ju w b o c (1,[],[],[]) P:=by have e:=h.eq;refine⟨{at_:=hp,ph:=⟨by show(0:Int)<=1;omega,by show(1:Int)<=4;omega⟩,dP:=by rw[e];rfl,oW:=by rw[e];rfl,kG:=by rw[e];rfl,emp:=by rw[e];rfl,one:=λ_=>⟨by rw[e];rfl,by rw[e];rfl,by rw[e];rfl,h.sm,h.ss⟩,mid:=λ_ _=>⟨h.inp,by rw[e];rfl⟩,et:=λ_ _=>by rw[e];rfl,two:=λe=>absurd e (by show¬(1:Int)=2;omega),three:=λe=>absurd e (by show¬(1:Int)=3;omega),nil:=λ_=>h.told,four:=λe=>absurd e (by show¬(1:Int)=4;omega),apart:=⟨λq=>hn b (ae q) rfl,λq=>hn b (Q (ae q)) rfl,λq=>hn b (Q (Q q)) rfl,by rw[h.told];intro q;cases q⟩},λx hx=>?_⟩;rcases h.aS hx with q|q;rw[q];exact hp.lt;exact h.low x q
structure eB (w:ac)(b i:Nat)(C:Cf)(cl:Nat->Cl)(S:SS)(P:Nat->PS)(cv fv:ag)(vs:List ag)(ps:List Pk):Prop where
 ba:jw w b C aB.start S
 fy:w.cell? ⟨b,76,V⟩=E cv
 f76:w.frozen? ⟨b,76,V⟩=Y
 bJ:w.cell? ⟨b,77,V⟩=E fv
 f77:w.frozen? ⟨b,77,V⟩=Y
 row:w.ownsRow 0 205 78 cv i (jW P i)
 fr:∀j,j<i->kX w (cl j) (P j)
 fl:fw w fv vs ps
 own:cv.ownBlock≠E b/\fv.ownBlock≠E b/\∀x,fv.ownBlock=E x->cv.ownBlock≠E x
 ap:∀x,((fL b S x/\x≠b)\/(∃j,j<i/\((P j).inp.ownBlock=E x\/(P j).sm.ownBlock=E x\/(P j).ss.ownBlock=E x))\/∃y∈vs,y.ownBlock=E x)->x≠b/\cv.ownBlock≠E x/\fv.ownBlock≠E x
theorem eB.bP{w b n C cl S P cv fv vs ps}(h:eB w b n C cl S P cv fv vs ps)(hn:1<=n):
  ∃m,bM w b n C cl ⟨aB.start,λ_=>(1,[],[],[]),λ_=>Y,ps⟩ m/\∀x,dx b n m x->x=b\/cv.ownBlock=E x\/fv.ownBlock=E x\/((fL b S x/\x≠b)\/(∃j,j<n/\((P j).inp.ownBlock=E x\/(P j).sm.ownBlock=E x\/(P j).ss.ownBlock=E x))\/∃y∈vs,y.ownBlock=E x):=by
 have h0:=h.row;rcases h.row.2 with⟨_,e⟩|⟨g,cap,cur,e0,_,_,af,hcm,_⟩;omega;have hg:cv.ownBlock=E g:=by rw[e0];rfl
 rw[e0]at h0;have O:=(h0.lt g rfl).2;have ah:∀j,j<n->Co.aJ w g (j*78) (P j):=λj hj k v hk=>by
  have aa:k<78:=by have:=(fC.1 hk).1;rwa [gD]at this
  refine⟨?_,?_⟩;rw[h0.cellAt (j*78+k) (by omega),BM P n j k hj aa];exact hk;rcases h0.2 with⟨q,_⟩|⟨g',cap',cur',q,_,hc',_⟩;cases q;have:g'=g:=by injection q with q1;injection q1 with q2;injection q2 with q3;exact q3.symm
  subst this;exact eh w g' _ _ _ hc'
 have aj:∀j,j<n->∀x,((P j).inp.ownBlock=E x\/(P j).sm.ownBlock=E x\/(P j).ss.ownBlock=E x)->x≠g:=λj hj x hx e=>(h.ap x (Q (ae ⟨j,hj,hx⟩))).2.1 (by rw[e];exact hg);refine⟨⟨S,g,cap,P,fv,vs⟩,⟨h.ba,by rw[h.fy,e0],h.bJ,h.f77,⟨af,by unfold maxLen at hcm;omega⟩,λj hj=>⟨λ_=>(h.fr j hj).di (ah j hj) (aj j hj),λe=>(by cases e)⟩,h.fl,O,⟨λe=>h.own.1 (by rw[hg];exact cg E e),h.own.2.1,λe=>h.own.2.2 g e hg⟩,λx hx ho=>?_⟩,λx hx=>?_⟩
 ·have ai:(fL b S x/\x≠b)\/(∃j,j<n/\((P j).inp.ownBlock=E x\/(P j).sm.ownBlock=E x\/(P j).ss.ownBlock=E x))\/∃y∈vs,y.ownBlock=E x:=by
   rcases hx with hx|⟨j,hj,hx,e⟩|hx;exact ae hx;·rcases(h.fr j hj).aS hx with q|q;exact absurd q e;exact Q (ae ⟨j,hj,q⟩)
   exact Q (Q hx)
  obtain⟨a1,a2,a3⟩:=h.ap x ai;rcases ho with o|o|o;exact a1 o;have o':x=g:=o;exact a2 (by rw[o'];exact hg);exact a3 o
 rcases hx with(o|o|o)|hx|⟨j,hj,hx,e⟩|hx;exact ae o;have o':x=g:=o;exact Q (ae (by rw[o'];exact hg));exact Q (Q (ae o));exact Q (Q (Q (ae hx)));·rcases(h.fr j hj).aS hx with q|q;exact absurd q e;exact Q (Q (Q (Q (ae ⟨j,hj,q⟩))))
 exact Q (Q (Q (Q (Q hx))))
def kY (b i:Nat)(S:SS)(P:Nat->PS)(vs:List ag)(x:Nat):Prop:=(fL b S x/\x≠b)\/(∃j,j<i/\((P j).inp.ownBlock=E x\/(P j).sm.ownBlock=E x\/(P j).ss.ownBlock=E x))\/∃y∈vs,y.ownBlock=E x
section
variable {w w1 w':ac}{b i:Nat}{C:Cf}{cl:Nat->Cl}{S:SS}{P:Nat->PS}{cv fv cv' fv':ag}{vs vs':List ag}{ps ps':List Pk}
theorem eB.qU (h:eB w b i C cl S P cv fv vs ps){x}(hx:kY b i S P vs x):x<w.1.size:=by rcases hx with⟨hx,_⟩|⟨j,hj,hx⟩|⟨y,hy,hx⟩;exact h.ba.low x hx;exact(h.fr j hj).low x hx;exact h.fl.low y hy x hx
theorem eB.blt (h:eB w b i C cl S P cv fv vs ps):b<w.1.size:=h.ba.low b (ae rfl)
theorem EV (h:jw w b C aB.start S){k}(hk:76<=k){v}(hb1:w1.1[b]?=w.1[b]?)(hw':w'=w1.setCell ⟨b,k,V⟩ v)(hs:w.1.size<=w'.1.size)(O:∀x,fL b S x->x≠b->w'.1[x]?=w.1[x]?):jw w' b C aB.start S:=by refine⟨h.ba.keep hs (bw.keep h.ba.at_ (λj hj=>?_) (λj _=>?_)) (λx e hx=>O x hx e),λx hx=>cG (h.low x hx) hs⟩;have hl:(cM S).length=76:=rfl;rw[hw',lO _ _ _ _ (by intro q;injection q with q1 q2 q3;omega)];exact ez (w:=w) (a:=⟨b,0+j,V⟩) hb1;rw[hw',mS];exact mF hb1 _
theorem eB.xQ (h:eB w b i C cl S P cv fv vs ps){Pn}(hc:av (λx=>cv.ownBlock=E x) w w1)(hr:w1.ownsRow 0 205 78 cv' (i+1) (jW P i++cx Pn))(hv:∀x,cv'.ownBlock=E x->cv.ownBlock=E x\/w.1.size<=x)(hw':w'=w1.setCell ⟨b,76,V⟩ cv')(hf:kX w (cl i) Pn)(hn:∀x,(Pn.inp.ownBlock=E x\/Pn.sm.ownBlock=E x\/Pn.ss.ownBlock=E x)->x≠b/\cv.ownBlock≠E x/\fv.ownBlock≠E x):
  eB w' b (i+1) C cl S (bu P i Pn) cv' fv vs ps/\av (λx=>x=b\/cv.ownBlock=E x) w w':=by
 have z1:=hc.size;have z':w'.1.size=w1.1.size:=by rw[hw'];simp[World.setCell]
 have c2:av (λx=>x=b) w1 w':=by rw[hw'];exact av.setCell w1 ⟨b,76,V⟩ cv'
 have ac:=h.blt;have O:∀x,x<w.1.size->cv.ownBlock≠E x->x≠b->w'.1[x]?=w.1[x]? :=λx hx e e2=>by rw[c2.block x (by omega) e2];exact hc.block x hx e
 have hb1:w1.1[b]?=w.1[b]? :=hc.block b ac h.own.1;have Y:∀x,kY b i S P vs x->w'.1[x]?=w.1[x]? :=λx hx=>by obtain⟨a1,a2,a3⟩:=h.ap x hx;exact O x (h.qU hx) a2 a1
 have d76:w1.cell? ⟨b,76,V⟩=E cv:=(ez (w:=w) (a:=⟨b,76,V⟩) hb1).trans h.fy;have aa:∀x,cv'.ownBlock=E x->x≠b:=λx hx e=>by rcases hv x hx with k|k;exact h.own.1 (by rw[<-e];exact k);omega
 have nf:∀x,(Pn.inp.ownBlock=E x\/Pn.sm.ownBlock=E x\/Pn.ss.ownBlock=E x)->w'.1[x]?=w.1[x]? :=λx hx=>by obtain⟨a1,a2,_⟩:=hn x hx;exact O x (hf.low x hx) a2 a1
 refine⟨⟨EV h.ba (by omega) hb1 hw' (by omega) (λx hx e=>Y x (ae ⟨hx,e⟩)),by rw[hw'];exact xy _ _ _ d76,?_,?_,?_,?_,λj hj=>?_,?_,⟨λe=>aa b e rfl,h.own.2.1,λx hx e=>?_⟩,λx hx=>?_⟩,(hc.mono (S':=λx=>x=b\/cv.ownBlock=E x) (λx e _=>Q e)).trans c2 (λx e _=>ae e)⟩;rw[hw',mS];exact(mF hb1 76).trans h.f76;rw[hw',lO _ _ _ _ (by intro q;injection q with q1 q2 q3;omega)];exact(ez (w:=w) (a:=⟨b,77,V⟩) hb1).trans h.bJ;rw[hw',mS];exact(mF hb1 77).trans h.f77
 ·have e:jW (bu P i Pn) (i+1)=jW P i++cx Pn:=by show jW (bu P i Pn) i++cx (bu P i Pn i)=_;rw[cP,BL i (λj hj=>dw P i Pn (by omega))]
  rw[e];exact mO hr (λx hx=>c2.block x (hr.lt x hx).2 (aa x hx))
 ·by_cases e:j=i;subst e;rw[cP];exact hf.keep (by omega) nf;rw[dw _ _ _ e];exact(h.fr j (by omega)).keep (by omega) (λx hx=>Y x (Q (ae ⟨j,by omega,hx⟩)))
 exact h.fl.keep (by omega) (λx hx=>O x (h.fl.ot hx) (h.own.2.2 x hx) (λe=>h.own.2.1 (by rw[<-e];exact hx))) (λy hy x hx=>Y x (Q (Q ⟨y,hy,hx⟩)));·rcases hv x e with k|k;exact h.own.2.2 x hx k;have:=h.fl.ot hx;omega
 have af:kY b i S P vs x\/(Pn.inp.ownBlock=E x\/Pn.sm.ownBlock=E x\/Pn.ss.ownBlock=E x):=by
  rcases hx with hx|⟨j,hj,hx⟩|hx;exact ae (ae hx);·by_cases e:j=i;subst e;rw[cP]at hx;exact Q hx;rw[dw _ _ _ e]at hx;exact ae (Q (ae ⟨j,by omega,hx⟩))
  exact ae (Q (Q hx))
 have k:x<w.1.size/\x≠b/\cv.ownBlock≠E x/\fv.ownBlock≠E x:=by rcases af with q|q;exact⟨h.qU q,h.ap x q⟩;exact⟨hf.low x q,hn x q⟩
 refine⟨k.2.1,λe=>?_,k.2.2.2⟩;rcases hv x e with q|q;exact k.2.2.1 q;omega
theorem eB.k_ (h:eB w b i C cl S P cv fv vs ps)(hc:av (λx=>fv.ownBlock=E x) w w1)(hf:fw w1 fv' vs' ps')(hv:∀x,fv'.ownBlock=E x->fv.ownBlock=E x\/w.1.size<=x)(hw':w'=w1.setCell ⟨b,77,V⟩ fv')
  (O:∀y∈vs',∀x,y.ownBlock=E x->x≠b/\cv.ownBlock≠E x):eB w' b i C cl S P cv fv' vs' ps'/\av (λx=>x=b\/fv.ownBlock=E x) w w':=by
 have z1:=hc.size;have z':w'.1.size=w1.1.size:=by rw[hw'];simp[World.setCell]
 have c2:av (λx=>x=b) w1 w':=by rw[hw'];exact av.setCell w1 ⟨b,77,V⟩ fv'
 have af:=h.blt;have aa:∀x,x<w.1.size->fv.ownBlock≠E x->x≠b->w'.1[x]?=w.1[x]? :=λx hx e e2=>by rw[c2.block x (by omega) e2];exact hc.block x hx e
 have hb1:w1.1[b]?=w.1[b]? :=hc.block b af h.own.2.1;have sf:∀x,kY b i S P vs x->w'.1[x]?=w.1[x]? :=λx hx=>by obtain⟨a1,a2,a3⟩:=h.ap x hx;exact aa x (h.qU hx) a3 a1
 have d77:w1.cell? ⟨b,77,V⟩=E fv:=(ez (w:=w) (a:=⟨b,77,V⟩) hb1).trans h.bJ;have ac:∀x,fv'.ownBlock=E x->x≠b:=λx hx e=>by rcases hv x hx with k|k;exact h.own.2.1 (by rw[<-e];exact k);omega
 have Y:∀x,cv.ownBlock=E x->x<w.1.size:=λx hx=>(h.row.lt x hx).2;refine⟨⟨EV h.ba (by omega) hb1 hw' (by omega) (λx hx e=>sf x (ae ⟨hx,e⟩)),?_,?_,by rw[hw'];exact xy _ _ _ d77,?_,?_,λj hj=>?_,?_,⟨h.own.1,λe=>ac b e rfl,λx hx e=>?_⟩,λx hx=>?_⟩,(hc.mono (S':=λx=>x=b\/fv.ownBlock=E x) (λx e _=>Q e)).trans c2 (λx e _=>ae e)⟩;rw[hw',lO _ _ _ _ (by intro q;injection q with q1 q2 q3;omega)];exact(ez (w:=w) (a:=⟨b,76,V⟩) hb1).trans h.fy;rw[hw',mS];exact(mF hb1 76).trans h.f76;rw[hw',mS];exact(mF hb1 77).trans h.f77;exact mO h.row (λx hx=>aa x (Y x hx) (λe=>h.own.2.2 x e hx) (λe=>h.own.1 (by rw[<-e];exact hx)));exact(h.fr j hj).keep (by omega) (λx hx=>sf x (Q (ae ⟨j,hj,hx⟩)));exact hf.keep (by omega) (λx hx=>c2.block x (hf.ot hx) (ac x hx)) (λy hy x hx=>c2.block x (hf.low y hy x hx) (O y hy x hx).1);·rcases hv x hx with k|k;exact h.own.2.2 x k e;have:=Y x e;omega
 have old:kY b i S P vs x->x≠b/\cv.ownBlock≠E x/\fv'.ownBlock≠E x:=λq=>by obtain⟨a1,a2,a3⟩:=h.ap x q;refine⟨a1,a2,λe=>?_⟩;rcases hv x e with k|k;exact a3 k;have:=h.qU q;omega
 rcases hx with hx|hx|⟨y,hy,hx⟩;exact old (ae hx);exact old (Q (ae hx));exact⟨(O y hy x hx).1,(O y hy x hx).2,hf.apart y hy x hx⟩
theorem eB.below (h:eB w b i C cl S P cv fv vs ps)(hb:af w.1.size w w'):eB w' b i C cl S P cv fv vs ps:=by
 have z:=hb.size;have O:=h.blt;have Y:∀x,kY b i S P vs x->w'.1[x]?=w.1[x]? :=λx hx=>hb.block x (h.qU hx)
 exact{h with
  ba:=h.ba.below hb
  fy:=(hb.cell (p:=⟨b,76,V⟩) O).trans h.fy
  f76:=(hb.frozen (p:=⟨b,76,V⟩) O).trans h.f76
  bJ:=(hb.cell (p:=⟨b,77,V⟩) O).trans h.bJ
  f77:=(hb.frozen (p:=⟨b,77,V⟩) O).trans h.f77
  row:=mO h.row (λx hx=>hb.block x (h.row.lt x hx).2)
  fr:=λj hj=>(h.fr j hj).keep z (λx hx=>Y x (Q (ae ⟨j,hj,hx⟩)))
  fl:=h.fl.keep z (λx hx=>hb.block x (h.fl.ot hx)) (λy hy x hx=>Y x (Q (Q ⟨y,hy,hx⟩)))}
end
end
section
open Go.ChangeShapes Go.WideShapes Go.ChangeAt Go.RowKit
structure AW (w w':ac)(b i:Nat)(C:Cf)(cl:Nat->Cl)(S:SS)(P:Nat->PS)(cv fv:ag)(vs:List ag)(ps:List Pk)(p:Pk)(y:ag)(fv':ag):Prop where
 bP:eB w' b i C cl S P cv fv' (vs++[y]) (ps++[p])
 aV:av (λx=>x=b\/fv.ownBlock=E x) w w'
 new:∀x,fv'.ownBlock=E x->fv.ownBlock=E x\/w.1.size<=x
theorem eB.pD{w W w2 w3 b i g cap C cl S P cv fv vs ps}(h:eB w b i C cl S P cv fv vs ps){p y}(hy:bX w y p.2.2)(O:∀x,y.ownBlock=E x->x<w.1.size/\x≠b/\cv.ownBlock≠E x/\fv.ownBlock≠E x)(hW:af w.1.size w W)(hr:w2.ownsRow 0 49 3 (U (E ⟨g,0,V⟩) (ps.length+1) cap) (ps.length+1) (bC ps vs++[Z J p.1,Z J p.2.1,y]))(hgr:W.grownBy w2 fv.ownBlock)(hat:fv.ownBlock=E g\/g=W.1.size)(hw3:w3=w2.setCell ⟨b,77,V⟩ (U (E ⟨g,0,V⟩) (ps.length+1) cap)):
  ∃fv',AW w w3 b i C cl S P cv fv vs ps p y fv':=by
 have Y:=hW.size;have hv:∀x,(Value.slice (E ⟨g,0,V⟩) (ps.length+1) cap).ownBlock=E x->fv.ownBlock=E x\/w.1.size<=x:=λx hx=>by
  have e:x=g:=by simpa[Value.ownBlock]using hx.symm
  subst e;rcases hat with k|k;exact ae k;exact Q (by omega)
 have hc:av (λx=>fv.ownBlock=E x) w w2:=(av.bz hW).trans (av.grown hgr) (λx e _=>e);have hf:=h.fl.snoc (p:=p) hy (λx hx=>⟨(O x hx).1,(O x hx).2.2.2⟩) hr hc hv;obtain⟨r1,r2⟩:=h.k_ hc hf hv hw3 (λu hu x hx=>by rcases cZ.1 hu with hu|hu;have k:=h.ap x (Q (Q ⟨u,hu,hx⟩));exact⟨k.1,k.2.1⟩;rw[lN.1 hu]at hx;exact⟨(O x hx).2.1,(O x hx).2.2.1⟩);exact⟨_,r1,r2,hv⟩
theorem Sg{b i C cl S P cv fv vs ps}(fr){y zs w}(h:eB w b i C cl S P cv fv vs ps)(hy:bX w y zs)(ak:∀x,y.ownBlock=E x->x<w.1.size/\x≠b/\cv.ownBlock≠E x/\fv.ownBlock≠E x)(hlen:ps.length<=2000):
  ay prog 128 #[aC (E ⟨b,0,V⟩),Z J fr,y] w λe w'=>e=az (br #[])/\∃fv',AW w w' b i C cl S P cv fv vs ps (fr,0,zs) y fv':=by
 have bJ:=h.bJ;have f77:=h.f77;have hb:=h.blt;obtain⟨a,c,hv,-⟩:=h.fl.view;obtain⟨ai,cy,am,-⟩:=eC hy;have ae:=I h.fl.row;have O:=I h.own.2.1;have HS:=I (λ(W w2 w3:ac)(g cap:Nat) hW hr hgr hat hw3=>h.pD (p:=(fr,0,zs)) (W:=W) (w2:=w2) (w3:=w3) (g:=g) (cap:=cap) hy ak hW hr hgr hat hw3);obtain⟨i1,au,av,aA,aB⟩:=bO ll;rw[hv]at bJ ae HS O ⊢;rw[am]at HS ⊢;clear h hy ak hv am;obtain⟨k,hk⟩:=aj ps.length;obtain⟨nz,hnz⟩:=aj zs.length;rw[<-hk]at bJ ae HS hlen O ⊢;rw[<-hnz]at HS ⊢;clear hk hnz;go_enter func128,ntmps128;go_wp2_with(at_builtin;refine tx _ rfl _ _ 41 rfl 0 49 i1 (aD #[Z J 0,Z J 0,U V 0 0]) 3 40 jt au av aA aB rfl (by decide) _ _ _ rfl (ae.o.alloc _) ⟨w.1.size,0,V⟩ 1 1 [Z J fr,Z J 0,U ai nz cy] rfl rfl ?c1 ?c2 (by decide) ?c3 ?c4 (bi _) _ rfl ?_);case c2=>exact⟨rfl,rfl,rfl⟩
 case c3=>unfold maxLen;omega
 case c4=>omega
 intro g cap w2 hr hgr hat ar;have aa:af w.1.size w (w.alloc (ah #[Z J fr,Z J 0,U ai nz cy] 49)):=(ax _ _).alloc (aw _) _;have d77:w2.cell? ⟨b,77,V⟩=E (U a k c):=by rw[hgr.cell_far ⟨b,77,V⟩ (by show b<_;simp;omega) (λe=>O.o e.symm),aa.cell (p:=⟨b,77,V⟩) hb];exact bJ
 have aF:w2.frozen? ⟨b,77,V⟩=Y:=by rw[hgr.frozen_far ⟨b,77,V⟩ (by show b<_;simp;omega) (λe=>O.o e.symm),aa.frozen (p:=⟨b,77,V⟩) hb];exact f77
 obtain⟨w3,hw3⟩:=aj (w2.setCell ⟨b,77,V⟩ (U (E ⟨g,0,V⟩) (k+1) cap));have ap:=I (HS.o _ w2 w3 g cap aa hr hgr (by simpa using hat) hw3);have aq:=I hw3;clear hr hgr hat ar aa hw3 bJ f77;go_wp2_with fail;rw[<-aq.o];go_end0;exact⟨rfl,ap.o⟩
def fh (S:SS)(cv fv:ag):List ag:=cM S++[cv,fv]
theorem rf:zeroCells109=(fh fS (U V 0 0) (U V 0 0)).toArray:=by kernel_rfl
theorem ou:(prog.info? 109).map (·.size)=E 78:=by kernel_rfl
theorem qQ (S cv fv):(fh S cv fv).length=78:=rfl
theorem xg:∀v∈fh fS (U V 0 0) (U V 0 0),v.oneCell'=aa:=by intro v hv;rcases cZ.1 hv with hv|hv;exact E' v hv;simp only[List.mem_cons,List.not_mem_nil,or_false]at hv;rcases hv with rfl|rfl<;>rfl
theorem sH{w:ac}{b}{L O:List ag}(h:w.1[b]?=E (ah L.toArray 109 (0,0)))(hl:L.length=O.length):(w.setCells b 0 O).1[b]?=E (ah O.toArray 109 (0,0)):=by have:=kI b 109 O [] L [] w hl (by simpa using h);simpa using this
theorem Sj (D a n c w)(h:dV N T M D=Y):
  ay prog 61 #[aD #[Z J N,Z J T,Z J M,Z J D],U a n c] w λe w'=>e=az (br #[aD (fh fS (U V 0 0) (U V 0 0)).toArray,Z J 5])/\af w.1.size w w':=by
 have HN:=I (λ(W:ac)=>Rx D W h);obtain⟨CS,ai⟩:=aj (cM fS);rw[<-ai]at HN;have ap:=A (CS.length=76) (by rw[ai];rfl);have ar:=A (CS.toArray.all (·.oneCell')=aa) (by rw[ai];exact dN E');have au:=A ((prog.info? 106).map (·.size)=E CS.toArray.size) (by rw[sJ,bR,ap.o]);obtain⟨O,ag⟩:=aj (fh fS (U V 0 0) (U V 0 0));have ak:=A (O.length=78) (by rw[ag];rfl);have aF:=A (O.toArray.all (·.oneCell')=aa) (by rw[ag];exact dN xg);have am:=A ((prog.info? 109).map (·.size)=E O.toArray.size) (by rw[ou,bR,ak.o]);have ae:=A (zeroCells109=O.toArray) (by rw[ag];exact rf);rw[<-ag];clear h ai ag;obtain⟨W0,hW0⟩:=aj ((w.alloc (ah #[Z J N,Z J T,Z J M,Z J D] 26)).alloc (ah zeroCells109 109));have b0:af w.1.size w W0:=by rw[hW0];exact((ax _ _).alloc (aw _) _).alloc (by simp) _
 have z0:W0.1.size=w.1.size+2:=by rw[hW0];simp
 have r0:W0.1[w.1.size]?=E (ah #[Z J N,Z J T,Z J M,Z J D] 26 (0,0)):=by rw[hW0,gf _ _ _ (by simp)];exact bo w _
 have r1:W0.1[w.1.size+1]?=E (ah O.toArray 109 (0,0)):=by have:=bo (w.alloc (ah #[Z J N,Z J T,Z J M,Z J D] 26)) (ah zeroCells109 109);rw[hW0,<-ae.o];simpa using this
 obtain⟨⟨x0,x1,x2,x3⟩,-⟩:=gg r0;have R1:=I r1;have B0:=I b0;have aB:=I hW0;have aG:=I z0;clear hW0 b0 r0 r1 z0;go_enter func61,ntmps61;go_upto_region 1 with fail;rw[<-aB.o];go_wp2_with fail;refine aH (HN.o W0) λw1 hb1=>?_;have s1:=hb1.size;have aI:=aG.o;have R2:=I ((hb1.block (w.1.size+1) (by omega)).trans R1.o);have B1:=I (B0.o.trans (hb1.mono B0.o.size));have z1:=B1.o.size;have aq:gY (w1.alloc (ah zeroCells106 106)) w1.1.size 106 fS:=by unfold gY;rw[<-rh];exact bo w1 _
 have aA:=A ((w1.alloc (ah zeroCells106 106)).there w1.1.size 0 CS.toArray.size) (by rw[show CS.toArray.size=76 by rw[bR];exact ap.o];exact aq.at_.there 0 76 (by omega));obtain⟨w2,hw2⟩:=aj ((w1.alloc (ah zeroCells106 106)).setCells w1.1.size 0 CS);have hb2:af w1.1.size w1 w2:=by rw[hw2];exact dU (aw _) _ _ _ ((ax _ _).alloc (aw _) _)
 have R3:=I ((hb2.block (w.1.size+1) (by omega)).trans R2.o);have B2:=I (B1.o.trans (hb2.mono z1));have aC:=I hw2;have av:=I (show w2.there (w.1.size+1) 0 O.toArray.size from λj hj=>by
  have aJ:j<78:=by have:=ak.o;simp at hj;omega
  refine⟨?_,eh w2 _ _ _ _ R3.o⟩;rw[bg w2 (w.1.size+1) (0+j) _ _ (0,0) R3.o];simp only[List.getElem?_toArray];rw[aQ (by rw[ak.o];omega)];rfl);have RF:=I (sH R3.o (rfl:O.length=O.length));have BF:=A (af w.1.size w (w2.setCells (w.1.size+1) 0 O)) (dU (by omega) _ _ _ B2.o);clear hb1 aq hb2 hw2 aI x0 x1 x2 x3;go_upto_region 2 with(refine cB rfl 106 _ _ rfl w1.1.size 0 CS.toArray rfl rfl aA.o au.o ar.o ?_);rw[<-aC.o];have ZT:=A (w2.there (w.1.size+1) 0 zeroCells109.size) (by rw[ae.o];exact av.o);have ZZ:=A ((prog.info? 109).map (·.size)=E zeroCells109.size) (by rw[ae.o];exact am.o);have ZO:=A (zeroCells109.all (·.oneCell')=aa) (by rw[ae.o];exact aF.o);go_wp2_with(refine cB rfl 109 _ _ rfl (w.1.size+1) 0 zeroCells109 rfl rfl ZT.o ZZ.o ZO.o ?_);rw[show zeroCells109.toList=O by rw[ae.o]];refine cQ (gT rfl (w.1.size+1) 109 O.toArray (0,0) rfl RF.o uS rfl am.o) rfl ?_;exact⟨rfl,BF.o⟩
end
section
open Go.RowKit
def lh (cl:Nat->Cl):Nat->List Pk
 |0=>[]
 |i+1=>lh cl i++[((i:Int)+1,0,bm 1 (cl i).id (fG (cl i)))]
theorem m_ (cl):∀i,(lh cl i).length=i
 |0=>rfl
 |i+1=>by show(lh cl i++[_]).length=_;rw[cy,m_ cl i];rfl
theorem tM{f b x}(hx:fL b (gP N T M D f) x):x=b:=by rcases hx with hx|⟨v,_,hx⟩|hx|hx|hx;exact hx;all_goals(exfalso;cases hx)
theorem EF{w b S cv fv}(hS:S=gP N T M D λu:Nat=>decide (1<=u/\(u:Int)<=N))(hr:w.1[b]?=E (ah (fh S cv fv).toArray Ty (0,0))):jw w b ⟨N,T,M,D⟩ aB.start S:=by
 have hb:b<w.1.size:=by by_cases hb:b<w.1.size;exact hb;rw[cT (by omega)]at hr;cases hr
 have hat:aR w b S:=λj v hj=>by
  have hl:(cM S).length=76:=rfl;have O:j<76:=by rw[<-hl];exact(fC.1 hj).1
  refine⟨?_,eh w b _ _ _ hr⟩;rw[bg w b (0+j) _ _ (0,0) hr,cz];simp only[List.getElem?_toArray];unfold fh;rw[ey (by rw[hl];exact O)];exact hj
 refine⟨by rw[hS]at hat ⊢;exact Tg hat,λx hx=>?_⟩;rw[hS]at hx;rw[tM hx];exact hb
theorem EE{w:ac}{b S cv fv}(hr:w.1[b]?=E (ah (fh S cv fv).toArray Ty (0,0))):(w.cell? ⟨b,76,V⟩=E cv/\w.cell? ⟨b,77,V⟩=E fv)/\∀i,w.frozen? ⟨b,i,V⟩=Y:=
 ⟨⟨(bg w b 76 _ _ (0,0) hr).trans rfl,(bg w b 77 _ _ (0,0) hr).trans rfl⟩,λi=>eh w b i _ _ hr⟩
theorem Sk{w b cl S P}(hS:S=gP N T M D λu:Nat=>decide (1<=u/\(u:Int)<=N))(hr:w.1[b]?=E (ah (fh S (U V 0 0) (U V 0 0)).toArray Ty (0,0))):
  eB w b 0 ⟨N,T,M,D⟩ cl S P (U V 0 0) (U V 0 0) [] []:=by obtain⟨⟨c1,c2⟩,f⟩:=EE hr;refine⟨EF hS hr,c1,f 76,c2,f 77,dp _ _ _ _,λj hj=>by omega,Cm w,⟨λe=>(by cases e),λe=>(by cases e),λx e=>(by cases e)⟩,λx hx=>?_⟩;rcases hx with⟨hx,e⟩|⟨j,hj,_⟩|⟨y,hy,_⟩;rw[hS]at hx;exact absurd (tM hx) e;omega;cases hy
theorem eB.move{w w' b b' n cl S P cv fv vs ps}(h:eB w b n ⟨N,T,M,D⟩ cl S P cv fv vs ps)(hS:S=gP N T M D λu:Nat=>decide (1<=u/\(u:Int)<=N))(hb:af w.1.size w w')(hn:w.1.size<=b')(hr:w'.1[b']?=E (ah (fh S cv fv).toArray Ty (0,0))):eB w' b' n ⟨N,T,M,D⟩ cl S P cv fv vs ps:=by obtain⟨⟨c1,c2⟩,f⟩:=EE hr;have k:=h.below hb;have O:∀x,cv.ownBlock=E x->x<w.1.size:=λx hx=>(h.row.lt x hx).2;have Y:∀x,fv.ownBlock=E x->x<w.1.size:=λx hx=>h.fl.ot hx;refine⟨EF hS hr,c1,f 76,c2,f 77,k.row,k.fr,k.fl,⟨λe=>(by have:=O b' e;omega),λe=>(by have:=Y b' e;omega),h.own.2.2⟩,λx hx=>?_⟩;rcases hx with⟨hx,e⟩|hx|hx;rw[hS]at hx;exact absurd (tM hx) e;have q:=h.ap x (Q (ae hx));have l:=h.qU (Q (ae hx):kY b n S P vs x);exact⟨by omega,q.2⟩;have q:=h.ap x (Q (Q hx));have l:=h.qU (Q (Q hx):kY b n S P vs x);exact⟨by omega,q.2⟩
end
section
open Go.ChangeShapes Go.WideShapes Go.ChangeAt Go.RowKit
theorem Si (D a)(n c:Nat)(w)(h:dV N T M D=aa)(hne:(n:Int)≠N):
  ay prog 61 #[aD #[Z J N,Z J T,Z J M,Z J D],U a n c] w λe w'=>e=az (br #[aD (fh fS (U V 0 0) (U V 0 0)).toArray,Z J 6])/\af w.1.size w w':=by
 have HN:=I (λ(W:ac)=>Ey D W h);obtain⟨Y,ai⟩:=aj (cM (gP N T M D λu:Nat=>decide (1<=u/\(u:Int)<=N)));rw[<-ai]at HN;have ap:=A (Y.length=76) (by rw[ai];rfl);have ar:=A (Y.toArray.all (·.oneCell')=aa) (by rw[ai];exact dN (tN N T M D _));have au:=A ((prog.info? 106).map (·.size)=E Y.toArray.size) (by rw[sJ,bR,ap.o]);obtain⟨O,ag⟩:=aj (fh fS (U V 0 0) (U V 0 0));have ak:=A (O.length=78) (by rw[ag];rfl);have aF:=A (O.toArray.all (·.oneCell')=aa) (by rw[ag];exact dN xg);have am:=A ((prog.info? 109).map (·.size)=E O.toArray.size) (by rw[ou,bR,ak.o]);have ae:=A (zeroCells109=O.toArray) (by rw[ag];exact rf);rw[<-ag];have aL:((n:Int) != N)=aa:=by simpa using hne
 clear h ai ag hne;obtain⟨W0,hW0⟩:=aj ((w.alloc (ah #[Z J N,Z J T,Z J M,Z J D] 26)).alloc (ah zeroCells109 109));have b0:af w.1.size w W0:=by rw[hW0];exact((ax _ _).alloc (aw _) _).alloc (by simp) _
 have z0:W0.1.size=w.1.size+2:=by rw[hW0];simp
 have r0:W0.1[w.1.size]?=E (ah #[Z J N,Z J T,Z J M,Z J D] 26 (0,0)):=by rw[hW0,gf _ _ _ (by simp)];exact bo w _
 have r1:W0.1[w.1.size+1]?=E (ah O.toArray 109 (0,0)):=by have:=bo (w.alloc (ah #[Z J N,Z J T,Z J M,Z J D] 26)) (ah zeroCells109 109);rw[hW0,<-ae.o];simpa using this
 obtain⟨⟨x0,x1,x2,x3⟩,-⟩:=gg r0;have R1:=I r1;have B0:=I b0;have aB:=I hW0;have aG:=I z0;have aJ:w.1.size<W0.1.size:=by omega
 clear hW0 b0 r0 r1 z0;go_enter func61,ntmps61;go_upto_region 1 with fail;rw[<-aB.o];go_wp2_with fail;refine aH (HN.o W0) λw1 hb1=>?_;have s1:=hb1.size;have aI:=aG.o;have R2:=I ((hb1.block (w.1.size+1) (by omega)).trans R1.o);have B1:=I (B0.o.trans (hb1.mono B0.o.size));have z1:=B1.o.size;have aq:gY (w1.alloc (ah zeroCells106 106)) w1.1.size 106 fS:=by unfold gY;rw[<-rh];exact bo w1 _
 have aA:=A ((w1.alloc (ah zeroCells106 106)).there w1.1.size 0 Y.toArray.size) (by rw[show Y.toArray.size=76 by rw[bR];exact ap.o];exact aq.at_.there 0 76 (by omega));obtain⟨w2,hw2⟩:=aj ((w1.alloc (ah zeroCells106 106)).setCells w1.1.size 0 Y);have hb2:af w1.1.size w1 w2:=by rw[hw2];exact dU (aw _) _ _ _ ((ax _ _).alloc (aw _) _)
 have R3:=I ((hb2.block (w.1.size+1) (by omega)).trans R2.o);have B2:=I (B1.o.trans (hb2.mono z1));have aC:=I hw2;have av:=I (show w2.there (w.1.size+1) 0 O.toArray.size from λj hj=>by
  have aK:j<78:=by have:=ak.o;simp at hj;omega
  refine⟨?_,eh w2 _ _ _ _ R3.o⟩;rw[bg w2 (w.1.size+1) (0+j) _ _ (0,0) R3.o];simp only[List.getElem?_toArray];rw[aQ (by rw[ak.o];omega)];rfl);have RF:=I (sH R3.o (rfl:O.length=O.length));have BF:=A (af w.1.size w (w2.setCells (w.1.size+1) 0 O)) (dU (by omega) _ _ _ B2.o);have y0:w2.cell? ⟨w.1.size,0,V⟩=E (Z J N):=(hb2.cell (p:=⟨w.1.size,0,V⟩) (by show w.1.size<_;omega)).trans ((hb1.cell (p:=⟨w.1.size,0,V⟩) aJ).trans x0);clear hb1 aq hb2 hw2 aI x0 x1 x2 x3;go_upto_region 2 with(refine cB rfl 106 _ _ rfl w1.1.size 0 Y.toArray rfl rfl aA.o au.o ar.o ?_);rw[<-aC.o];have ZT:=A (w2.there (w.1.size+1) 0 zeroCells109.size) (by rw[ae.o];exact av.o);have ZZ:=A ((prog.info? 109).map (·.size)=E zeroCells109.size) (by rw[ae.o];exact am.o);have ZO:=A (zeroCells109.all (·.oneCell')=aa) (by rw[ae.o];exact aF.o);go_wp2_with(refine cB rfl 109 _ _ rfl (w.1.size+1) 0 zeroCells109 rfl rfl ZT.o ZZ.o ZO.o ?_);rw[show zeroCells109.toList=O by rw[ae.o]];refine cQ (gT rfl (w.1.size+1) 109 O.toArray (0,0) rfl RF.o uS rfl am.o) rfl ?_;exact⟨rfl,BF.o⟩
end
section
open Go.RowKit
theorem Jx (O:List ag){A}(k)(hl:O.length=k)(hA:A.size=k):Instr.fill (λi=>E (i*k,k)) A [(0,aD O.toArray)]=E O.toArray:=by unfold Instr.fill;simp[Instr.fill,Value.cells,hl,hA];exact EJ O A (by omega)
theorem UP{P ops rest o a w Q}(hg:o.guard=V)(t e){y}(ho:o.op=.buildSlice t 1 #[(0,y)])(O:List ag)(k Y){z}(hu:P.underlying t=E (.slice e))(aa:P.info? e=E Y)(hz:Y.zero=E z)(hk:Y.size=k)(ae:0<k)(af:k<=16777216)(hl:O.length=k)(hy:a.eval y=aD O.toArray)(h:wpList P ops Q rest (a.put o.dst (U (E ⟨w.1.size,0,V⟩) 1 1)) (w.alloc (ah O.toArray e))):wpList P ops Q (o::rest) a w:=by
 subst hk;refine wpList_buildSlice hg t e 1 _ ho O.toArray Y z hu aa hz (by omega) (by omega) ?_ h;have e1:((#[(0,y)]:Array (Nat×Operand)).map λ(i,x)=>(i,a.eval x)).toList=[(0,aD O.toArray)]:=by simp[hy]
 rw[e1];exact Jx O Y.size hl (by simp)
end
end Go.Proofs.YtchideljndagjabGreat


