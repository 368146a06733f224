/- Sessions: whatever script of at most 1,048,576 steps a session's caller plays, the program's sessions answer as the document's do: what is in flight, the outcome and what each client has released, where the script asks and at the end. Conditions: none but that number of steps. -/
import Derived.Test.YtchideljndagjabGreatUBI
import Derived.ShutString
import Derived.Deep.CondSized
set_option linter.unusedVariables false
set_option maxHeartbeats 1000000
set_option maxRecDepth 100000
namespace Go.Proofs.YtchideljndagjabGreat
open Go.Value renaming int->Z,slice->U
open Option renaming none->V,some->E
open Bool renaming false->Y,true->aa
open Go renaming World->ac,Value->ag,Calls->ay
open Go.Proofs.Tryz
variable {a k:Nat}{w w':ac}
namespace wL
open Go.ChangeShapes Go.WideShapes Go.ChangeAt Go.RowKit
theorem own:ownKnob prog.godebug=V:=by kernel_rfl
theorem laidOut:laidOutB prog=aa:=by kernel_rfl
theorem Tq {pw:ag}(kd x y z:Int)(r:Nat->ag)(w:ac)(Q:ac->Prop)(ae:19<=kd/\kd<=28)
  (hc:∀w1,Below w.1.size w w1->ay prog 55 #[pw,.agg #[Z .i64 kd,Z .i64 x,Z .i64 y,Z .i64 z,r 0,r 1,r 2,r 3,r 4,r 5,r 6,r 7,r 8,r 9]] w1 λe w'=>e=.returned (.bool aa)/\Q w'):
  ay prog 25 #[pw,.agg #[Z .i64 kd,Z .i64 x,Z .i64 y,Z .i64 z,r 0,r 1,r 2,r 3,r 4,r 5,r 6,r 7,r 8,r 9]] w λe w'=>e=.returned (.bool aa)/\Q w':=by have O:=I hc;clear hc;obtain⟨h1,h2⟩:=ae;go_enter func25,ntmps25;go_wp2_with fail;refine aH (O.o _ ((ax _ _).alloc (aw _) _)) λw' hq=>?_;have Y:=I hq;clear hq;go_wp2;go_ret;exact⟨rfl,Y.o⟩
theorem iY.mono {pw m m' i:Nat}{len len':Nat->Nat}{T:Nat->List Th}{p:NP}(h:iY pw m k i len T p w w')(hm:m<=m')(hl:∀c,len c<=len' c):iY pw m' k i len' T p w w':=by obtain⟨p',a,b,c⟩:=h;exact⟨p',a.mono hm hl,b,c⟩
theorem Ur (len:Nat->Nat)(c:Nat):kr len 1 1 c<=len c+1:=by by_cases e:c=1;subst e;rw[lK];omega;rw[jK e];omega
structure AU (w:ac)(k:Nat)(wr:ac)(m:Nat)(len:Nat->Nat)(T:Nat->List Th)(K:List NP):Prop where
 ai:AI wr w.1.size m len T
 hm:m<=3146129*k
 hl:∀c,len c<=3146129*k
 two:T 2=K.map (eb w.1.size)
 t0:T 0=[]
 t1:T 1=[]
 kl:K.length<=k
 lg:∀q∈K,gX k q
def J (w:ac)(k:Nat)(wr:ac):Prop:=Below w.1.size w wr/\∃m len T K,AU w k wr m len T K
def J2 (w:ac)(wr:ac):Prop:=Below w.1.size w wr/\∃m len T,AI wr w.1.size m len T
theorem Lh (w:ac):bH (w.alloc (.cells #[U V 0 0,U V 0 0,U V 0 0,U V 0 0,U V 0 0,U V 0 0,U V 0 0,U V 0 0,U V 0 0,U V 0 0,U V 0 0,U V 0 0,U V 0 0,U V 0 0,U V 0 0,Z .i64 0] 89)) w.1.size (λj=>if j=15 then Z .i64 0 else U V 0 0) 0 (λ_=>[]):=by refine⟨?_,rfl,λc hc=>?_,⟨λ_=>(0,0,0),λc hc b hb=>?_,λc hc b hb=>?_,λc hc i o b hi hb=>by simp at hi⟩⟩;rw[bo];rfl;have a:=nN c;have b:=oU c;rw[ar (show¬(cat c).fi=15 by omega),ar (show¬(cat c).fm=15 by omega)];exact⟨dp _ _ _ _,dp _ _ _ _,λo ho=>by cases ho⟩;have a:=nN c;rw[ar (by omega)]at hb;cases hb;have a:=oU c;rw[ar (by omega)]at hb;cases hb
theorem GF (w:ac):AI (w.alloc (.cells #[U V 0 0,U V 0 0,U V 0 0,U V 0 0,U V 0 0,U V 0 0,U V 0 0,U V 0 0,U V 0 0,U V 0 0,U V 0 0,U V 0 0,U V 0 0,U V 0 0,U V 0 0,Z .i64 0] 89)) w.1.size 0 (λ_=>0) (λ_=>[]):=by refine⟨_,0,_,Lh w,⟨λj hj=>?_,λj hj t ht=>(by cases ht),⟨λ_=>0,λj i t x hj hp=>(by simp at hp),λj x hj hx=>?_,λx hx=>rfl⟩⟩,λo ho=>(by cases ho),pN _,pN _,λc=>aw _⟩;show World.ownsRow _ _ _ 1 (if j=15 then _ else _) 0 [];rw[ar (by omega)];exact dp _ _ _ _;have O:(if j=15 then Value.int .i64 0 else Value.slice V 0 0).ownBlock=E x:=hx;rw[ar (by omega)]at O;cases O
theorem Da {K:List NP}(h:∀q∈K,gX k q):∀q∈K,gX (k+1) q:=λq hq=>by have:=h q hq;exact⟨by have:=this.1;omega,λt ht=>by have:=this.2 t ht;omega⟩
theorem Mk {wr:ac}(h:J w k wr)(hB:Below wr.1.size wr w'):J w k w':=by obtain⟨h1,m,len,T,K,h2⟩:=h;exact⟨h1.trans (hB.mono h1.size),m,len,T,K,{h2 with ai:=h2.ai.below hB}⟩
theorem Ml {wr:ac}(h:J w k wr):J w (k+1) wr:=by obtain⟨h1,m,len,T,K,h2⟩:=h;exact⟨h1,m,len,T,K,⟨h2.ai,by have:=h2.hm;omega,λc=>by have:=h2.hl c;omega,h2.two,h2.t0,h2.t1,by have:=h2.kl;omega,Da h2.lg⟩⟩
theorem tF (h:a<=3400000000000):a*24<=140737488355328:=fJ (oB 24 h) (by decide)
theorem Hd (h:a<=1048576):(a+3)*96<=140737488355328:=fJ (oB 96 (Gk h 3)) (by decide)
theorem Bp (h:a<1048576):(a+1)*48<=140737488355328:=fJ (oB 48 h) (by decide)
theorem b8 (h:a<1048576):(a+1)*8<=140737488355328:=fJ (oB 8 h) (by decide)
theorem CY {w1:ac}{m m':Nat}{len len':Nat->Nat}{T:Nat->List Th}{K:List NP}(b1:Below w.1.size w w1)(b2:AU w k w1 m len T K)(hm:m'<=m+400)(hl:∀c,len' c<=len c+400)(h:oJ w.1.size m' k len' T K w1 w'):J w (k+1) w':=by obtain⟨T',K',f1,f2,f3⟩:=h;exact⟨b1.trans f3,m',len',T',K',⟨f1,by have:=b2.hm;omega,λc=>by have h1:=b2.hl c;have h2:=hl c;omega,f2.two,(f2.other 0 (by decide)).trans b2.t0,(f2.other 1 (by decide)).trans b2.t1,by have h1:=b2.kl;have h2:=f2.len;omega,f2.MN⟩⟩
theorem walk {a:Option Addr}{len:Nat}(cap:Nat)(hs:uY w a len 1048576):
  ay prog 4 #[U a len cap] w λe w'=>e=.returned (.bool aa)/\Below w.1.size w w':=by
 have HS:=I hs;have hlen:=hs.1.2;clear hs;go_enter func4,ntmps4;go_wp2_with fail;refine(Pq 19 28 cap HS.o (J w) (J2 w) ?_ ?_ ?_ ?_ ?_ ?_).mono ?_;exact⟨(ax _ _).alloc (aw _) _,0,_,_,[],GF w,bi _,λ_=>bi _,rfl,rfl,rfl,aw _,λq hq=>(by cases hq)⟩;exact λk wr h=>h.1;exact λk wr h=>Ml h
 ·intro k wr kd x y z r hk hj h1 h2 ho;obtain⟨⟨_,⟨st,hst,hsz⟩,_,_⟩,⟨N,T,M,Dd,e5,e6,e7,e8,_⟩,⟨aD,nD,cD,vi,vm,vs,D,e9,hD,_,hDl,aq⟩⟩:=ho;have ap:∀i,i<nD->∀x,(((D i).inp≠[]/\(vi i).ownBlock=E x)\/((D i).sm≠[]/\(vm i).ownBlock=E x)\/((D i).ss≠[]/\(vs i).ownBlock=E x))->x<w.1.size:=λi hi x hx=>by obtain⟨l1,l2,l3,_⟩:=hD.its i hi;rcases hx with⟨h0,hx⟩|⟨h0,hx⟩|⟨h0,hx⟩;exact yP l1 h0 x hx;exact yP l2 h0 x hx;exact yP l3 h0 x hx
  refine Tq kd x y z r wr (λw'=>J w (k+1) w') ⟨h1,h2⟩ (λw1 aj=>?_);obtain⟨b1,m,O,Y,K,b2⟩:=Mk hj aj;have am:=b2.kl;have hm:=b2.hm;have hl:=b2.hl;have hl0:=hl 0;have ar:=hl 1;have hl4:=hl 4;have af:k<1048576:=by omega
  by_cases ag:kd=19;subst ag;refine(Sr k K x y z r N T M Dd b2.ai b2.two b2.lg e5 e6 e7 e8 e9 (hD.below b1) hDl ap (Hd aq) (by omega) (tF (by omega)) (tF (by omega)) (b8 (by omega))).mono ?_;rintro e w' ⟨rfl,T',K',f1,f2,f3,f4,f5,f6⟩;exact⟨rfl,b1.trans f6,_,_,T',K',⟨f1,by omega,λc=>by have:=hl c;show O c+(3*nD+1)<=_;omega,f2,(f3 0 (by decide)).trans b2.t0,(f3 1 (by decide)).trans b2.t1,by omega,Da f5⟩⟩;by_cases ah:kd<=25
  ·refine(Sp (m+1) k (λc=>O c+1) K kd x y z r b2.ai b2.two b2.lg ⟨by omega,ah⟩ (jO _) (λc=>jO _) ?_).mono ?_;·intro W p i hA hp hq;rcases(show(kd=20\/kd=21\/kd=22\/kd=25)\/kd=23\/kd=24 by omega)with ak|rfl|rfl;exact(Gy i x y z r hA hp hq (Bp af) kd ak).mono (λe w' q=>⟨q.1,iY.mono q.2 (jO _) (λc=>jO _)⟩);exact(Gz i x y z r st hA hp hq (Bp af) hst hsz (by omega) (tF (by omega))).mono (λe w' q=>⟨q.1,iY.mono q.2 (aw _) (λc=>Ur O c)⟩);exact(GA i x y z r hA hp hq).mono (λe w' q=>⟨q.1,iY.mono q.2 (jO _) (λc=>jO _)⟩)
   rintro e w' ⟨rfl,hq⟩;exact⟨rfl,CY b1 b2 (by omega) (λc=>by show O c+1<=_;omega) hq⟩
  have ae:m+400<=1000000000000000000:=by omega
  have ac:∀c,(O c+400)*24<=140737488355328:=λc=>tF (by have:=hl c;omega);refine(Sq (m+400) k (λc=>O c+400) K kd x y z r b2.ai b2.two b2.lg ⟨by omega,h2⟩ (Nat.le_add_right _ _) (λc=>Nat.le_add_right _ _) ?_).mono ?_;·intro W p i hA hp;rcases(show kd=26\/kd=27\/kd=28 by omega)with rfl|rfl|rfl;exact Nh p i x y z r hA hp ae ac (λ_=>rfl);exact Nj p i x y z r hA hp ae ac (λ_=>rfl);exact Ni p i x y z r hA hp ae ac (λ_=>rfl)
  rintro e w' ⟨rfl,hq⟩;exact⟨rfl,CY b1 b2 (aw _) (λc=>aw _) hq⟩
 intro wr hj;obtain⟨b1,m,O,Y,K,b2⟩:=hj;have am:=b2.kl;have hm:=b2.hm;refine(Jo K b2.ai b2.two b2.t0 b2.t1 (by omega) (λc=>tF (by have:=b2.hl c;omega))).mono ?_;rintro e w' ⟨rfl,⟨m',au,f1⟩,f2⟩;exact⟨rfl,b1.trans f2,_,_,Y,f1⟩;intro wr hj;obtain⟨b1,m,O,Y,F,nx,ls,c1,c2,c3,_⟩:=hj;refine aH (Nk c1 c3) λw' hb=>?_;exact⟨rfl,b1.trans (hb.mono b1.size)⟩;rintro e w' ⟨rfl,hb⟩;have HB:=I hb;clear hb;go_wp2;go_ret;exact⟨rfl,HB.o⟩
theorem contract (H:Type)(enc:TypeId×ag->H)(W:ac)(base:Nat)(args:Array ag)(ds gs:List (DataW H))(before:List MemPlace)
  (hval:∀(j:Nat) t v,f4.params[j]?=E t->args[j]?=E v->Value.okWide prog W .any base t v)
  (hW:DataW.Whole enc prog f4.params.toList Rows.sessionsSpec.vars Y W args.toList ds gs before)(hk:Rows.uptoSmall H (ds++gs)=aa)
  (hsz:(DataW.weightsEach prog (f4.params.toList++Rows.sessionsSpec.plain.varTypes prog) (ds++gs)).all (·<=reachBytes)=aa):
  ay prog 4 args W λe W'=>∃v,e=.returned v/\Rows.sessionsSpec.post enc prog f4 Y aa Y Y W args v W':=by
 have af:=hW;obtain⟨p,q,O,hV,rfl,ap,aq⟩:=hW;have hA:DataW.TrodAll enc prog W 0 (λ_=>aa) aa f4.params.toList args.toList ds p:=O;rw[params4]at hA hval hsz;obtain⟨v0,ar,d0,ak,p0,q0,am,rfl,rfl,h0,r0⟩:=trodAll_cons hA;obtain⟨rfl,rfl,rfl⟩:=trodAll_nil r0;obtain rfl:args= #[v0]:=by cases args;simp_all
 obtain⟨rfl,rfl⟩:=trodVars_none hV;obtain⟨a0,ai,ae,rfl⟩:=okWide_slice underlying22 (hval 0 22 v0 rfl rfl);have k0:=h0;have aj:∀x∈p0,x.block<W.1.size:=by obtain⟨m,hm⟩:=k0;exact DataW.trod_lt m _ _ _ hm
 have ah:Rows.uptoBulk d0<=1048576:=by have h:=rz hk;simp only[List.append_nil,Rows.uptoBulkAll]at h;omega
 have w0:uY W a0 ai 1048576:=by obtain⟨fuel,hf⟩:=h0;exact RJ hf (λn hn=>by have:=fk.1 hsz _ (pY (j:=0) (t:=22) rfl rfl n hn);simpa using this) ah
 clear O;refine(walk ae w0).mono λe W' ⟨he,fF⟩=>?_;subst he;exact⟨_,rfl,_,_,_,[],_,[],af,trodAll_mk1 (shut_bool underlying4 _),(trodAll_cons_mk (Below.trod laidOut (by kernel_rfl) (rz (by kernel_rfl)) k0 fF aj) trodAll_mk0),rfl,fF.frame _,λh=>by cases h⟩
theorem lifted (os:Os)(started:os.Started)(H:Type)(enc:TypeId×ag->H)(F:Stop.Interp):
  ReturnsInHanded {} checked os 4 .any ((Rows.OpenSpec.upto Rows.sessionsSpec).pre6 enc prog f4 Rows.sessionsUptoRow.domain Y) (((Rows.OpenSpec.upto Rows.sessionsSpec).at F).post enc prog f4 Y aa Y Y):=by
 refine returnsInHanded_of_cond_sized (C:=checked) (s:=Rows.OpenSpec.upto Rows.sessionsSpec) (k:=Rows.uptoSmall) rfl own started (by kernel_rfl) func4
  (OpenSpec.witness (enc:=enc) (C:=checked) (s:=Rows.OpenSpec.upto Rows.sessionsSpec) (k:=Rows.uptoSmall) rfl Y ⟨#[],#[U V 0 0],[]⟩ 8 (by kernel_rfl) (by kernel_rfl) (by kernel_rfl)
   (x:=([.nil],[],[])) (by kernel_rfl) rfl (by kernel_rfl)) ?_;intro W base args ds gs before hval hW _ hk hsz _;exact contract H enc W base args ds gs before hval hW hk hsz
theorem over:Rows.sessionsUptoRow.holds Tryz.pinned (Rows.OpenSpec.upto Rows.sessionsSpec):=
 OpenClaim.holds_of_cond 4 f4 rfl rfl rfl rfl rfl rfl rfl ⟨rfl,rfl,rfl,rfl,rfl⟩ rfl rfl rfl rfl rfl (by kernel_rfl) func4 closed
  (rz (by kernel_rfl)) (by unfold Func.isWrapper;first|(rw[au (by decide+kernel)];kernel_rfl)|(rw[ar (by decide+kernel)];exact⟨rfl,rfl⟩))
  (λos started H enc _ F=>lifted os started H enc F)
end wL
section
theorem sessionsUpto_holds:Rows.SessionsUptoSaid:=wL.over
end
end Go.Proofs.YtchideljndagjabGreat
#print axioms Go.Proofs.YtchideljndagjabGreat.sessionsUpto_holds


