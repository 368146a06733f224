/- Joined -/
import Derived.Lib.BufferWrite
import Derived.Deep.Slices
import Derived.SizedLaws
import Derived.Test.YtchideljndagjabGreatUAK
set_option linter.unusedVariables false
set_option maxHeartbeats 4000000
set_option maxRecDepth 100000
namespace Go.Proofs.YtchideljndagjabGreat
open aq
open Go.Value renaming int->Z,slice->U
open Go.IntKind renaming i64->J,u8->bt
open Go.Obj renaming cells->ah
open Option renaming none->V,some->E
open Go renaming World->ac,Value->ag,Calls->ay,TypeId->cn
open Go.RowKit renaming Below->af,intOf->aA
abbrev xB:=@List.length_range
abbrev js:=@World.block_lt_of_cell?
abbrev xA:=@DataW.trod_struct
abbrev AJ:=@World.cells?_some
abbrev Gb:=@Deep.add_add
abbrev pY:=@DataW.weights_mem_each
open Go.Proofs.Tryz
variable {nx:Int}
section
open Go.ChangeShapes Go.WideShapes Go.ChangeAt Go.RowKit
def cH (w:ac)(g n:Nat)(r:Nat->Int):Prop:=w.1[g]?=E (ah ((List.range n).map λt=>Value.int J (r t)).toArray 3 (0,0))
theorem zt (n)(r:Nat->Int)(t)(ht:t<n):((List.range n).map λt=>Value.int J (r t))[t]?=E (Z J (r t)):=by rw[dC,oz ht];rfl
theorem cH.cell{w g n r}(h:cH w g n r)(t)(ht:t<n):w.cell? ⟨g,t,V⟩=E (Z J (r t)):=by rw[bg w g t _ _ (0,0) h,tu];exact zt n r t ht
theorem cH.bF{w g n r}(h:cH w g n r)(t):w.frozen? ⟨g,t,V⟩=false:=eh w g t _ _ h
theorem cH.lt{w g n r}(h:cH w g n r):g<w.1.size:=by by_cases hb:g<w.1.size;exact hb;unfold cH at h;rw[cT (by omega)]at h;cases h
theorem cH.block{w w' g n r}(h:cH w g n r)(e:w'.1[g]?=w.1[g]?):cH w' g n r:=e.trans h
theorem cH.ext{w g n r r'}(h:cH w g n r)(e:∀t,t<n->r t=r' t):cH w g n r':=by unfold cH at h ⊢;rw[h];congr 3;apply mj;intro t ht;rw[e t (eW.1 ht)]
theorem cH.set{w g n r r'}(h:cH w g n r)(t)(ht:t<n)(z)(hz:r' t=z)(e:∀u,u<n->u≠t->r' u=r u):cH (w.setCell ⟨g,t,V⟩ (Z J z)) g n r':=by
 have:=bI w g t _ _ (Z J z) h;unfold cH;rw[this,mv];congr 3;apply xz;intro u;rw[tq];by_cases hu:u<n
 ·rw[zt n r' u hu];by_cases O:t=u;·subst O;rw[au rfl,au (by simpa using ht),hz]
  rw[ar O,zt n r u hu,e u hu (λx=>O x.symm)]
 rw[jM (by simp;omega)];by_cases O:t=u;omega;rw[ar O,jM (by simp;omega)]
theorem Ep{w:ac}{B g n e xs}(h:w.ownsRow B e 1 (U (E ⟨g,0,V⟩) n n) n xs):w.1[g]?=E (ah xs.toArray e (0,0)):=by rcases h.2 with⟨e0,_⟩|⟨g',cap,cur,e0,_,hg,_,_,hcs,O⟩;cases e0;cases e0;rw[hg];congr 2;have:cur.toList.take (n*1)=cur.toList:=kt (by simp;omega);rw[this]at O;rw[<-O]
theorem Ec (n)(x:ag):List.replicate n x=(List.range n).map λ_=>x:=by rw[List.map_const',xB]
theorem rN{S a b}(h:av S a b):av S a b.drew:=h.trans (S':=λ_=>False) ⟨rfl,rfl,rfl,aw _,λ_ _ _=>rfl⟩ (λ_ e _=>e.elim)
theorem cH.drew{w g n r}(h:cH w g n r):cH w.drew g n r:=h
end
section
open Go.RowKit
theorem KZ:(prog.info? 5).map (λi=>(i.zero,i.size,i.bytes))=E (E (Z bt 0),1,1):=by kernel_rfl
theorem SU:(prog.info? 5).map (·.size)=E 1:=by kernel_rfl
theorem UQ{P w ops rest o a Q}(hgd:o.guard=V){d s}(Y sT)(ho:o.op=.call {callee:=.builtin .copy,args:= #[d,s],argTypes:= #[Y,sT]})(elem)(hu:P.underlying Y=E (.slice elem))(hsz:(P.info? elem).map (·.size)=E 1)(g){O aa}(str)(hd:a.eval d=U (E ⟨g,0,V⟩) O aa)(hs:a.eval s=.string str){cur:List ag}(t)(hg:w.1[g]?=E (ah cur.toArray t (0,0)))(hle:str.size<=O)(ai:str.size<=cur.length){B w0}(hb:af B w0 w)(ae:B<=g)(h:∀w',cO (w'.1[g]?=E (ah ((bl str).map (Value.int bt)++cur.drop str.size).toArray t (0,0)))->af B w0 w'->wpList P ops Q rest (a.put o.dst (goInt str.size)) w'):
  wpList P ops Q (o::rest) a w:=by
 refine FQ hgd λK hK=>?_;have hrun:=Lib.run_copy_row_string (P:=P) w Y sT o.type elem g 0 O aa str cur.toArray t hu hsz hg hle (by simpa using ai);unfold Oper.wp;simp only[execOp,ho,resolve,invoke,builtin];simp[hd,hs,hrun,Result.andThen];refine hK _ _ (h _ ?_ (below_setRow hb ae _));show _=_;rw[setRow_heap w g _ _ t _ hg];have e:Lib.byteCells str.data.toList=(bl str).map (Value.int bt):=by unfold bl;rw[lL];rfl
 simp[e]
def jz (zs:List Int)(k:Nat):List ag:=zs.map (Value.int bt)++(List.replicate k (Z bt 77)++List.replicate (3-k) (Z bt 0))
theorem tG{zs k}(hk:k<=3):(jz zs k).length=zs.length+3:=by simp[jz];omega
theorem Hp (zs k)(hk:k<3):(jz zs k).set (zs.length+k) (Z bt 77)=jz zs (k+1):=by unfold jz;rw[uI _ _ (by simp)];simp only[List.length_map,Nat.add_sub_cancel_left];rcases(show k=0\/k=1\/k=2 by omega)with rfl|rfl|rfl<;>rfl
theorem Ko (s w)(hb:s.size<=140737488351232):
  ay prog 96 #[.string s] w λe w'=>∃g,w.1.size<=g/\e=.returned (U (E ⟨g,0,V⟩) s.size (s.size+3))/\
   w'.1[g]?=E (ah (jz (bl s) 3).toArray 5 (0,0))/\af w.1.size w w':=by
 obtain⟨i0,hi,hz0,hz1,hz2⟩:=bO KZ;have O:=I (oQ s);obtain⟨n,hn⟩:=aj s.size;have aa:s.size=n:=hn.symm;rw[aa]at O;rw[aa]at hb;rw[aa];clear hn;have en:((n:Int)+3).toNat=n+3:=by omega
 go_enter func96,ntmps96;go_wp2_with(at_make;refine uH _ rfl _ _ 47 rfl w.1.size 5 i0 (Z bt 0) 1 fD hi hz0 hz1 _ _ _ _ (n+3) rfl rfl (by omega) (by omega) ?m1 ?m2 ?m3 ?_);case m1=>rw[hz2];omega
 case m2=>unfold maxLen;omega
 case m3=>exact aw _
 intro w2 am ak;have hr:=Ek am;have hb2:af w.1.size w w2:=(ax _ _).grown ak (aw _) (by simp);rw[xo]at hr;have HR:=I hr;have HB:=I hb2;clear hr hb2 am ak;generalize hg:w.1.size=B at*;have HG:=I hg;go_wp2_with(refine UQ rfl 47 9 rfl 5 fD SU B s rfl rfl 5 HR.o ?c1 ?c2 HB.o (aw _) ?_);case c1=>omega
 case c2=>simp;omega
 intro w3 ag hb3;have ap:=I hb3;clear hb3;have hr3:w3.1[B]?=E (ah (jz (bl s) 0).toArray 5 (0,0)):=ag;have aq:=I hr3;clear hr3 ag;go_wp2;go_loopw [4] (λi wr=>∃j:Nat,n<=j/\j<=n+3/\i=Z J j/\wr.1[B]?=E (ah (jz (bl s) (j-n)).toArray 5 (0,0))/\af B w wr) (λi _=>n+3-(aA i).toNat);case atStart=>exact⟨n,aw _,by omega,rfl,by rw[nD];exact aq.o,ap.o⟩
 obtain⟨j,ar,au,rfl,hr,Y⟩:=hrel;have ai:=I hr;have ae:=I Y;by_cases hlt:j<n+3
 ·obtain⟨c1,c2⟩:=sD hr j (by rw[tG (by omega),O.o];exact hlt);obtain⟨u,hu⟩:∃u,(jz (bl s) (j-n))[j]?=E u:=⟨_,aQ (by rw[tG (by omega),O.o];exact hlt)⟩;rw[hu]at c1;clear hr Y hu;go_wp2;go_roundw;case rel=> have R:=Em ai.o j (Z bt 77);have e:=Hp (bl s) (j-n) (by omega);rw[O.o,show n+(j-n)=j by omega,show j-n+1=j+1-n by omega]at e;rw[e]at R;exact⟨j+1,by omega,by omega,by go_num,R,ae.o.setCell (p:=⟨B,j,V⟩) (aw _) _⟩
  simp[aA];omega
 have ej:j=n+3:=by omega
 subst ej;clear hr Y;go_wp2;go_ret;have R:=ai.o;rw[Av]at R;exact⟨B,by rw[HG.o];exact aw _,rfl,R,by rw[HG.o];exact ae.o⟩
theorem Ho{w g s}(hg:w.1[g]?=E (ah (jz (bl s) 3).toArray 5 (0,0)))(hb:s.size<=140737488351232):
  bX w (U (E ⟨g,0,V⟩) s.size (s.size+3)) (bl s):=by
 refine⟨_,_,by rw[oQ],by rw[oQ];omega,by unfold maxLen;omega,x_ s,.inr ⟨g,0,rfl,?_,λi hi=>?_⟩⟩;·by_cases h:g<w.1.size;exact h;rw[cT (by omega)]at hg;cases hg
 rw[cz,(sD hg i (by rw[tG (aw _)];omega)).1];unfold jz aW;rw[ey (by simpa using hi),dC,aQ hi,bG,aQ hi];rfl
theorem KU (s)(k:Nat)(hk:k<s.size)(w):(Instr.index 9 (.string s) (Z J (k:Int))).run prog w=.ok (Z bt (aW (bl s) k)) w:=by have hi:0<=(k:Int)/\(k:Int)<s.size:=⟨by omega,by omega⟩;rw[run_index_string w 9 s J (k:Int) uK,dif_pos hi];have O:k<s.data.size:=hk;congr 2;unfold aW bl;rw[bG,dC,FN,UY O];rfl
theorem Tu (s w g)(hb:s.size<=140737488351232)(hg:w.1[g]?=E (ah (jz (bl s) 3).toArray 5 (0,0))):
  ay prog 99 #[U (E ⟨g,0,V⟩) s.size (s.size+3),.string s] w λe w'=>e=.returned (.bool true)/\∃nq,w'=w.drewN nq:=by
 have hcell:∀i,i<s.size+3->w.cell? ⟨g,i,V⟩=E (Z bt (if i<s.size then aW (bl s) i else 77)):=by intro i hi;have hl:=oQ s;rw[(sD hg i (by rw[tG (aw _)];omega)).1];unfold jz aW;by_cases h1:i<s.size;rw[au h1,ey (by simp;omega),dC,aQ (by omega),bG,aQ (by omega)];rfl;rw[ar h1,fo (by simp;omega)];rw[ey (by simp;omega),UW,au (by simp;omega)]
 have Y:=I hcell;have aa:=I (λk hk W=>KU s k hk W);clear hcell hg;obtain⟨n,hn⟩:=aj s.size;have ae:s.size=n:=hn.symm;rw[ae]at hb Y aa;rw[ae];clear hn;have en:((n:Int)+3).toNat=n+3:=by omega
 go_enter func99,ntmps99;go_wp2;go_loopw [6] (λi wr=>∃k nq:Nat,k<=n+3/\i=Z J k/\wr=w.drewN nq) (λi _=>n+3-(aA i).toNat);case atStart=>exact⟨0,0,by omega,rfl,rfl⟩
 obtain⟨k,nq,hk,rfl,rfl⟩:=hrel;by_cases hlt:k<n+3
 ·have c1:=Y.o k hlt;by_cases O:k<n
  ·rw[au O]at c1;have ai:=aa.o k O;generalize aW (bl s) k=z at*;have af:(0:Int)<=(k:Int):=by omega
   have ag:(k:Int)<(n:Int):=by omega
   have hk2:(k:Int)<(n:Int)+3:=by omega
   have hd:decide (n<=k)=false:=by simp;omega
   go_wp2_with fail;go_quiet (fail);go_wp2;go_roundw;case rel=>exact⟨k+1,_,by omega,by go_num,rfl⟩
   simp[aA];omega
  rw[ar O]at c1;have af:(0:Int)<=(k:Int):=by omega
  have ag:¬((k:Int)<(n:Int)):=by omega
  have hk2:(k:Int)<(n:Int)+3:=by omega
  have hk3:(n:Int)<=(k:Int):=by omega
  have hd:decide (n<=k)=true:=by simp;omega
  go_wp2_with fail;go_quiet (fail);go_wp2;go_roundw;case rel=>exact⟨k+1,_,by omega,by go_num,rfl⟩
  simp[aA];omega
 go_wp2;go_ret;exact⟨rfl,nq,rfl⟩
end
section
open Go.ChangeShapes Go.WideShapes Go.ChangeAt Go.RowKit
theorem QA{p:List ag}(n k j)(hk:k<n)(hj:j<p.length):(List.replicate n p).flatten[k*p.length+j]?=p[j]? :=by
 induction n generalizing k with
 |zero=>omega
 |succ n ih=>
  rw[nC,oy]
  cases k with
  |zero=>rw[uD,cz,ey hj]
  |succ k=> rw[fo (by rw[kV];omega),show(k+1)*p.length+j-p.length=k*p.length+j by rw[kV];omega];exact ih k (by omega)
theorem rH{w pw F ls}(h:bH w pw F nx ls)(c)(hc:c<6)(i)(hi:i<(ls c).length):
  ∃(g3 g9 c3 c9:Nat)(ao:Option Addr)(n:Nat)(m:Int),F (cat c).fi=U (E ⟨g3,0,V⟩) (ls c).length c3/\F (cat c).fm=U (E ⟨g9,0,V⟩) (ls c).length c9/\
   w.cell? ⟨g3,i,V⟩=E (U ao n n)/\w.cell? ⟨g9,i,V⟩=E (Z J m)/\n<=maxLen/\(ls c).length<=c3/\c3<=maxLen/\(ls c).length<=c9/\c9<=maxLen/\(∃o∈ls c,o.2.2=m)/\
   ∀k,k<n->∃g,ao=E ⟨g,0,V⟩/\∀j,j<((cat c).pat m).length->w.cell? ⟨g,k*((cat c).pat m).length+j,V⟩=((cat c).pat m)[j]? :=by
 obtain⟨h1,h2,h3⟩:=h.own c hc;obtain⟨a3,c3,e3,l3,m3,v3⟩:=zw h1;obtain⟨a9,c9,Y,l9,m9,v9⟩:=zw h2;obtain⟨g3,rfl,k3⟩:=v3 i hi;obtain⟨g9,rfl,k9⟩:=v9 i hi;have O:(ls c)[i]∈ls c:=cN hi;obtain⟨q1,q0,q2⟩:=h3 _ O;rw[dC,aQ hi]at k3 k9;generalize (ls c)[i]=o at*;obtain⟨ob,n,m⟩:=o
 cases ob with
 |none=> have hn:n=0:=q1 rfl;subst hn;exact⟨g3,g9,c3,c9,V,0,m,e3,Y,k3,k9,bi _,l3,m3,l9,m9,⟨_,O,rfl⟩,λk hk=>absurd hk (by omega)⟩
 |some g=>
  obtain⟨_,_,q3⟩:=q2 g rfl;refine⟨g3,g9,c3,c9,E ⟨g,0,V⟩,n,m,e3,Y,k3,k9,q0,l3,m3,l9,m9,⟨_,O,rfl⟩,λk hk=>⟨g,rfl,λj hj=>?_⟩⟩;have e:w.cell? ⟨g,k*((cat c).pat m).length+j,V⟩=(ix (cat c) (E g,n,m))[k*((cat c).pat m).length+j]? :=by simp[World.cell?,q3]
  rw[e];exact QA n k j hk hj
theorem Pp{pw F ls w}(h:bH w pw F nx ls)(aD:∀o∈ls 1,0<=o.2.2/\o.2.2<=255):
  ay prog 60 #[.pointer (E ⟨pw,0,V⟩)] w λe w'=>e=.returned (.bool true)/\af w.1.size w w':=by
 have aC:=I aD;have HI:=I h;have CF:=I (λ(wr:ac)(hb:af w.1.size w wr)(j:Nat)(hj:j<16)=>(dg (h.below hb).blk j hj).1);obtain⟨a0,k0,e0,l0,m0⟩:=rX h 0 (by omega);have E0:=A (F 3=Value.slice a0 (ls 0).length k0) e0;unfold maxLen at m0;obtain⟨a1,k1,e1,l1,m1⟩:=rX h 1 (by omega);have E1:=A (F 4=Value.slice a1 (ls 1).length k1) e1;unfold maxLen at m1;obtain⟨a2,k2,e2,l2,m2⟩:=rX h 2 (by omega);have E2:=A (F 5=Value.slice a2 (ls 2).length k2) e2;unfold maxLen at m2;have HB:=I (ax w.1.size w);go_enter func60,ntmps60;go_wp2;go_loopw [3,4] (λi _ wr=>∃Y:Nat,Y<=(ls 0).length/\i=Z J Y/\af w.1.size w wr) (λi _ _=>(ls 0).length-(aA i).toNat);case atStart=>exact⟨0,by omega,rfl,HB.o⟩
 obtain⟨Y,ap,rfl,O⟩:=hrel;have HB:=I O;have zb:=O.size;have d4:=CF.o wr O 3 (by omega);rw[E0.o]at d4;by_cases hlt:Y<(ls 0).length
 ·obtain⟨g3,g9,ai,aj,ao,n,m,f3,f9,v3,v9,hn,aw,aB,az,ah,hm,hk⟩:=rH HI.o 0 (by omega) Y hlt;have ea:a0=E ⟨g3,0,V⟩:=by have:=E0.o.symm.trans (show F 3=_ from f3);simp at this;exact this.1
  subst ea;have b3:=js w _ v3;have b9:=js w _ v9;simp at b3 b9;have F9:=A (F 9=_) f9;have V3:=I v3;have V9:=I v9;have HK:=I hk;have av:=True.intro;unfold maxLen at hn ah;have u3:=HB.o.cell (p:=⟨g3,Y,V⟩) b3;rw[V3.o]at u3;have ak:(0:Int)<=(Y:Int):=by omega
  have am:(Y:Int)<((ls 0).length:Int):=by omega
  go_wp2;go_loopw [4] (λk wr=>∃kk:Nat,kk<=n/\k=Z J kk/\af w.1.size w wr) (λk _=>n-(aA k).toNat);case atStart=>exact⟨0,by omega,rfl,HB.o⟩
  obtain⟨kk,au,rfl,O⟩:=hrel;have HB:=I O;have zb:=O.size;have d4:=CF.o wr O 3 (by omega);rw[E0.o]at d4;have d10:=CF.o wr O 9 (by omega);rw[F9.o]at d10;have d3:=O.cell (p:=⟨g3,Y,V⟩) b3;rw[V3.o]at d3;have d9:=O.cell (p:=⟨g9,Y,V⟩) b9;rw[V9.o]at d9;by_cases ae:kk<n
  ·obtain⟨g,rfl,aa⟩:=HK.o kk ae;have q0:w.cell? ⟨g,kk*1+0,V⟩=E (Z J m):=aa 0 (show 0<1 by omega);have bg:=js w _ q0;simp at bg;rw[<-O.cell (p:=⟨g,kk*1+0,V⟩) bg]at q0;rw[Nat.mul_one,lM]at q0;have aq:(0:Int)<=(kk:Int):=by omega
   have ar:(kk:Int)<(n:Int):=by omega
   go_wp2_with fail;go_quiet (fail);go_wp2;go_roundw;case rel=>exact⟨kk+1,by omega,by go_num,HB.o.trans ((below_drewN _ _).mono zb)⟩
   simp[aA];omega
  go_wp2;go_roundw;case rel=>exact⟨Y+1,by omega,by go_num,HB.o⟩
  simp[aA];omega
 go_wp2;go_loopw [5,6] (λi _ wr=>∃Y:Nat,Y<=(ls 1).length/\i=Z J Y/\af w.1.size w wr) (λi _ _=>(ls 1).length-(aA i).toNat);case atStart=>exact⟨0,by omega,rfl,HB.o⟩
 obtain⟨Y,ap,rfl,O⟩:=hrel;have HB:=I O;have zb:=O.size;have d4:=CF.o wr O 4 (by omega);rw[E1.o]at d4;by_cases hlt:Y<(ls 1).length
 ·obtain⟨g3,g9,ai,aj,ao,n,m,f3,f9,v3,v9,hn,aw,aB,az,ah,hm,hk⟩:=rH HI.o 1 (by omega) Y hlt;have ea:a1=E ⟨g3,0,V⟩:=by have:=E1.o.symm.trans (show F 4=_ from f3);simp at this;exact this.1
  subst ea;have b3:=js w _ v3;have b9:=js w _ v9;simp at b3 b9;have F9:=A (F 10=_) f9;have V3:=I v3;have V9:=I v9;have HK:=I hk;have av:0<=m/\m<=255:=by obtain⟨o,ho,e⟩:=hm;rw[<-e];exact aC.o o ho
  unfold maxLen at hn ah;have u3:=HB.o.cell (p:=⟨g3,Y,V⟩) b3;rw[V3.o]at u3;have ak:(0:Int)<=(Y:Int):=by omega
  have am:(Y:Int)<((ls 1).length:Int):=by omega
  go_wp2;go_loopw [6] (λk wr=>∃kk:Nat,kk<=n/\k=Z J kk/\af w.1.size w wr) (λk _=>n-(aA k).toNat);case atStart=>exact⟨0,by omega,rfl,HB.o⟩
  obtain⟨kk,au,rfl,O⟩:=hrel;have HB:=I O;have zb:=O.size;have d4:=CF.o wr O 4 (by omega);rw[E1.o]at d4;have d10:=CF.o wr O 10 (by omega);rw[F9.o]at d10;have d3:=O.cell (p:=⟨g3,Y,V⟩) b3;rw[V3.o]at d3;have d9:=O.cell (p:=⟨g9,Y,V⟩) b9;rw[V9.o]at d9;by_cases ae:kk<n
  ·obtain⟨g,rfl,aa⟩:=HK.o kk ae;have q0:w.cell? ⟨g,kk*1+0,V⟩=E (Z bt m):=aa 0 (show 0<1 by omega);have bg:=js w _ q0;simp at bg;rw[<-O.cell (p:=⟨g,kk*1+0,V⟩) bg]at q0;rw[Nat.mul_one,lM]at q0;have aq:(0:Int)<=(kk:Int):=by omega
   have ar:(kk:Int)<(n:Int):=by omega
   go_wp2_with fail;go_quiet (fail);go_wp2;go_roundw;case rel=>exact⟨kk+1,by omega,by go_num,HB.o.trans ((below_drewN _ _).mono zb)⟩
   simp[aA];omega
  go_wp2;go_roundw;case rel=>exact⟨Y+1,by omega,by go_num,HB.o⟩
  simp[aA];omega
 go_wp2;go_loopw [7,8,9,10] (λi _ _ _ wr=>∃Y:Nat,Y<=(ls 2).length/\i=Z J Y/\af w.1.size w wr) (λi _ _ _ _=>(ls 2).length-(aA i).toNat);case atStart=>exact⟨0,by omega,rfl,HB.o⟩
 obtain⟨Y,ap,rfl,O⟩:=hrel;have HB:=I O;have zb:=O.size;have d4:=CF.o wr O 5 (by omega);rw[E2.o]at d4;by_cases hlt:Y<(ls 2).length
 ·obtain⟨g3,g9,ai,aj,ao,n,m,f3,f9,v3,v9,hn,aw,aB,az,ah,hm,hk⟩:=rH HI.o 2 (by omega) Y hlt;have ea:a2=E ⟨g3,0,V⟩:=by have:=E2.o.symm.trans (show F 5=_ from f3);simp at this;exact this.1
  subst ea;have b3:=js w _ v3;have b9:=js w _ v9;simp at b3 b9;have F9:=A (F 11=_) f9;have V3:=I v3;have V9:=I v9;have HK:=I hk;have av:=True.intro;unfold maxLen at hn ah;have u3:=HB.o.cell (p:=⟨g3,Y,V⟩) b3;rw[V3.o]at u3;have ak:(0:Int)<=(Y:Int):=by omega
  have am:(Y:Int)<((ls 2).length:Int):=by omega
  go_wp2;go_loopw [8,9,10] (λk _ _ wr=>∃kk:Nat,kk<=n/\k=Z J kk/\af w.1.size w wr) (λk _ _ _=>n-(aA k).toNat);case atStart=>exact⟨0,by omega,rfl,HB.o⟩
  obtain⟨kk,au,rfl,O⟩:=hrel;have HB:=I O;have zb:=O.size;have d4:=CF.o wr O 5 (by omega);rw[E2.o]at d4;have d10:=CF.o wr O 11 (by omega);rw[F9.o]at d10;have d3:=O.cell (p:=⟨g3,Y,V⟩) b3;rw[V3.o]at d3;have d9:=O.cell (p:=⟨g9,Y,V⟩) b9;rw[V9.o]at d9;by_cases ae:kk<n
  ·obtain⟨g,rfl,aa⟩:=HK.o kk ae;have q0:w.cell? ⟨g,kk*4+0,V⟩=E (Z J m):=aa 0 (show 0<4 by omega);have q1:w.cell? ⟨g,kk*4+1,V⟩=E (Z J m):=aa 1 (show 1<4 by omega);have q2:w.cell? ⟨g,kk*4+2,V⟩=E (Z J m):=aa 2 (show 2<4 by omega);have q3:w.cell? ⟨g,kk*4+3,V⟩=E (Z J m):=aa 3 (show 3<4 by omega);have bg:=js w _ q0;simp at bg;rw[<-O.cell (p:=⟨g,kk*4+0,V⟩) bg]at q0;rw[<-O.cell (p:=⟨g,kk*4+1,V⟩) bg]at q1;rw[<-O.cell (p:=⟨g,kk*4+2,V⟩) bg]at q2;rw[<-O.cell (p:=⟨g,kk*4+3,V⟩) bg]at q3;rw[lM]at q0;have aq:(0:Int)<=(kk:Int):=by omega
   have ar:(kk:Int)<(n:Int):=by omega
   go_wp2;go_roundw;case rel=>exact⟨kk+1,by omega,by go_num,HB.o.alloc zb _⟩
   simp[aA];omega
  go_wp2;go_roundw;case rel=>exact⟨Y+1,by omega,by go_num,HB.o⟩
  simp[aA];omega
 go_wp2;go_ret;exact⟨rfl,HB.o⟩
theorem Nk{pw F ls w}(h:bH w pw F nx ls)(aD:∀o∈ls 1,0<=o.2.2/\o.2.2<=255):
  ay prog 27 #[.pointer (E ⟨pw,0,V⟩)] w λe w'=>e=.returned (.bool true)/\af w.1.size w w':=by
 have hpl:=h.fe;have HI:=I h;have CF:=I (λ(wr:ac)(hb:af w.1.size w wr)(j:Nat)(hj:j<16)=>(dg (h.below hb).blk j hj).1);obtain⟨a3,k3,e3,l3,m3⟩:=rX h 3 (by omega);have E3:=A (F 6=Value.slice a3 (ls 3).length k3) e3;unfold maxLen at m3;obtain⟨a4,k4,e4,l4,m4⟩:=rX h 4 (by omega);have E4:=A (F 7=Value.slice a4 (ls 4).length k4) e4;unfold maxLen at m4;obtain⟨a5,k5,e5,l5,m5⟩:=rX h 5 (by omega);have E5:=A (F 8=Value.slice a5 (ls 5).length k5) e5;unfold maxLen at m5;have HP:=bj w λwr hb=>Pp (h.below hb) aD;have HB:=I (ax w.1.size w);go_enter func27,ntmps27;go_wp2;go_loopw [3,4,5] (λi _ _ wr=>∃Y:Nat,Y<=(ls 3).length/\i=Z J Y/\af w.1.size w wr) (λi _ _ _=>(ls 3).length-(aA i).toNat);case atStart=>exact⟨0,by omega,rfl,HB.o⟩
 obtain⟨Y,ap,rfl,O⟩:=hrel;have HB:=I O;have zb:=O.size;have d4:=CF.o wr O 6 (by omega);rw[E3.o]at d4;by_cases hlt:Y<(ls 3).length
 ·obtain⟨g3,g9,aj,ae,ao,n,m,f3,f9,v3,v9,hn,av,aB,az,ai,hm,hk⟩:=rH HI.o 3 (by omega) Y hlt;have ea:a3=E ⟨g3,0,V⟩:=by have:=E3.o.symm.trans (show F 6=_ from f3);simp at this;exact this.1
  subst ea;have b3:=js w _ v3;have b9:=js w _ v9;simp at b3 b9;have F9:=A (F 12=_) f9;have V3:=I v3;have V9:=I v9;have HK:=I hk;unfold maxLen at hn ai;have u3:=HB.o.cell (p:=⟨g3,Y,V⟩) b3;rw[V3.o]at u3;have ak:(0:Int)<=(Y:Int):=by omega
  have am:(Y:Int)<((ls 3).length:Int):=by omega
  go_wp2;go_loopw [4,5] (λk _ wr=>∃kk:Nat,kk<=n/\k=Z J kk/\af w.1.size w wr) (λk _ _=>n-(aA k).toNat);case atStart=>exact⟨0,by omega,rfl,HB.o⟩
  obtain⟨kk,au,rfl,O⟩:=hrel;have HB:=I O;have zb:=O.size;have d4:=CF.o wr O 6 (by omega);rw[E3.o]at d4;have d10:=CF.o wr O 12 (by omega);rw[F9.o]at d10;have d3:=O.cell (p:=⟨g3,Y,V⟩) b3;rw[V3.o]at d3;have d9:=O.cell (p:=⟨g9,Y,V⟩) b9;rw[V9.o]at d9;by_cases ah:kk<n
  ·obtain⟨g,rfl,aa⟩:=HK.o kk ah;have q0:w.cell? ⟨g,kk*3+0,V⟩=E (Z J m):=aa 0 (show 0<3 by omega);have q1:w.cell? ⟨g,kk*3+1,V⟩=E (Z J m):=aa 1 (show 1<3 by omega);have q2:w.cell? ⟨g,kk*3+2,V⟩=E (U V 0 0):=aa 2 (show 2<3 by omega);have bg:=js w _ q0;simp at bg;rw[<-O.cell (p:=⟨g,kk*3+0,V⟩) bg]at q0;rw[<-O.cell (p:=⟨g,kk*3+1,V⟩) bg]at q1;rw[<-O.cell (p:=⟨g,kk*3+2,V⟩) bg]at q2;rw[lM]at q0;have aq:(0:Int)<=(kk:Int):=by omega
   have ar:(kk:Int)<(n:Int):=by omega
   have al:∀(ob:Obj)(b o:Nat),b<wr.1.size->(wr.alloc ob).cell? ⟨b,o,V⟩=wr.cell? ⟨b,o,V⟩:=λob b o hb=>((ax wr.1.size wr).alloc (aw _) ob).cell (p:=⟨b,o,V⟩) hb;have A1:∀ob,(wr.alloc ob).cell? ⟨pw,12,V⟩=E (U (E ⟨g9,0,V⟩) (ls 3).length ae):=λob=>by rw[al _ _ _ (by omega)];exact d10
   have A2:∀ob,(wr.alloc ob).cell? ⟨g9,Y,V⟩=E (Z J m):=λob=>by rw[al _ _ _ (by omega)];exact d9
   go_wp2_with fail;go_quiet (fail);go_wp2;go_roundw;case rel=>exact⟨kk+1,by omega,by go_num,(HB.o.alloc zb _).trans ((below_drewN _ _).mono (by simp;omega))⟩
   simp[aA];omega
  go_wp2;go_roundw;case rel=>exact⟨Y+1,by omega,by go_num,HB.o⟩
  simp[aA];omega
 go_wp2;go_loopw [6,7,8] (λi _ _ wr=>∃Y:Nat,Y<=(ls 5).length/\i=Z J Y/\af w.1.size w wr) (λi _ _ _=>(ls 5).length-(aA i).toNat);case atStart=>exact⟨0,by omega,rfl,HB.o⟩
 obtain⟨Y,ap,rfl,O⟩:=hrel;have HB:=I O;have zb:=O.size;have d4:=CF.o wr O 8 (by omega);rw[E5.o]at d4;by_cases hlt:Y<(ls 5).length
 ·obtain⟨g3,g9,aj,ae,ao,n,m,f3,f9,v3,v9,hn,av,aB,az,ai,hm,hk⟩:=rH HI.o 5 (by omega) Y hlt;have ea:a5=E ⟨g3,0,V⟩:=by have:=E5.o.symm.trans (show F 8=_ from f3);simp at this;exact this.1
  subst ea;have b3:=js w _ v3;have b9:=js w _ v9;simp at b3 b9;have F9:=A (F 14=_) f9;have V3:=I v3;have V9:=I v9;have HK:=I hk;unfold maxLen at hn ai;have u3:=HB.o.cell (p:=⟨g3,Y,V⟩) b3;rw[V3.o]at u3;have ak:(0:Int)<=(Y:Int):=by omega
  have am:(Y:Int)<((ls 5).length:Int):=by omega
  go_wp2;go_loopw [7,8] (λk _ wr=>∃kk:Nat,kk<=n/\k=Z J kk/\af w.1.size w wr) (λk _ _=>n-(aA k).toNat);case atStart=>exact⟨0,by omega,rfl,HB.o⟩
  obtain⟨kk,au,rfl,O⟩:=hrel;have HB:=I O;have zb:=O.size;have d4:=CF.o wr O 8 (by omega);rw[E5.o]at d4;have d10:=CF.o wr O 14 (by omega);rw[F9.o]at d10;have d3:=O.cell (p:=⟨g3,Y,V⟩) b3;rw[V3.o]at d3;have d9:=O.cell (p:=⟨g9,Y,V⟩) b9;rw[V9.o]at d9;by_cases ah:kk<n
  ·obtain⟨g,rfl,aa⟩:=HK.o kk ah;have q0:w.cell? ⟨g,kk*2+0,V⟩=E (Z J m):=aa 0 (show 0<2 by omega);have q1:w.cell? ⟨g,kk*2+1,V⟩=E (Z J m):=aa 1 (show 1<2 by omega);have bg:=js w _ q0;simp at bg;rw[<-O.cell (p:=⟨g,kk*2+0,V⟩) bg]at q0;rw[<-O.cell (p:=⟨g,kk*2+1,V⟩) bg]at q1;rw[lM]at q0;have aq:(0:Int)<=(kk:Int):=by omega
   have ar:(kk:Int)<(n:Int):=by omega
   have al:∀(ob:Obj)(b o:Nat),b<wr.1.size->(wr.alloc ob).cell? ⟨b,o,V⟩=wr.cell? ⟨b,o,V⟩:=λob b o hb=>((ax wr.1.size wr).alloc (aw _) ob).cell (p:=⟨b,o,V⟩) hb;have A1:∀ob,(wr.alloc ob).cell? ⟨pw,14,V⟩=E (U (E ⟨g9,0,V⟩) (ls 5).length ae):=λob=>by rw[al _ _ _ (by omega)];exact d10
   have A2:∀ob,(wr.alloc ob).cell? ⟨g9,Y,V⟩=E (Z J m):=λob=>by rw[al _ _ _ (by omega)];exact d9
   go_wp2_with fail;go_quiet (fail);go_wp2;go_roundw;case rel=>exact⟨kk+1,by omega,by go_num,(HB.o.alloc zb _).trans ((below_drewN _ _).mono (by simp;omega))⟩
   simp[aA];omega
  go_wp2;go_roundw;case rel=>exact⟨Y+1,by omega,by go_num,HB.o⟩
  simp[aA];omega
 go_wp2;go_loopw [9,10,11,12] (λi _ _ _ wr=>∃Y:Nat,Y<=(ls 4).length/\i=Z J Y/\af w.1.size w wr) (λi _ _ _ _=>(ls 4).length-(aA i).toNat);case atStart=>exact⟨0,by omega,rfl,HB.o⟩
 obtain⟨Y,ap,rfl,O⟩:=hrel;have HB:=I O;have zb:=O.size;have d4:=CF.o wr O 7 (by omega);rw[E4.o]at d4;by_cases hlt:Y<(ls 4).length
 ·obtain⟨g3,g9,aj,ae,ao,n,m,f3,f9,v3,v9,hn,av,aB,az,ai,hm,hk⟩:=rH HI.o 4 (by omega) Y hlt;have ea:a4=E ⟨g3,0,V⟩:=by have:=E4.o.symm.trans (show F 7=_ from f3);simp at this;exact this.1
  subst ea;have b3:=js w _ v3;have b9:=js w _ v9;simp at b3 b9;have F9:=A (F 13=_) f9;have V3:=I v3;have V9:=I v9;have HK:=I hk;unfold maxLen at hn ai;have u3:=HB.o.cell (p:=⟨g3,Y,V⟩) b3;rw[V3.o]at u3;have ak:(0:Int)<=(Y:Int):=by omega
  have am:(Y:Int)<((ls 4).length:Int):=by omega
  go_wp2;go_loopw [10,11,12] (λk _ _ wr=>∃kk:Nat,kk<=n/\k=Z J kk/\af w.1.size w wr) (λk _ _ _=>n-(aA k).toNat);case atStart=>exact⟨0,by omega,rfl,HB.o⟩
  obtain⟨kk,au,rfl,O⟩:=hrel;have HB:=I O;have zb:=O.size;have d4:=CF.o wr O 7 (by omega);rw[E4.o]at d4;have d10:=CF.o wr O 13 (by omega);rw[F9.o]at d10;have d3:=O.cell (p:=⟨g3,Y,V⟩) b3;rw[V3.o]at d3;have d9:=O.cell (p:=⟨g9,Y,V⟩) b9;rw[V9.o]at d9;by_cases ah:kk<n
  ·obtain⟨g,rfl,aa⟩:=HK.o kk ah;have q0:w.cell? ⟨g,kk*6+0,V⟩=E (U V 0 0):=aa 0 (show 0<6 by omega);have q1:w.cell? ⟨g,kk*6+1,V⟩=E (Z J m):=aa 1 (show 1<6 by omega);have q2:w.cell? ⟨g,kk*6+2,V⟩=E (Z J m):=aa 2 (show 2<6 by omega);have q3:w.cell? ⟨g,kk*6+3,V⟩=E (Z J m):=aa 3 (show 3<6 by omega);have q4:w.cell? ⟨g,kk*6+4,V⟩=E (U V 0 0):=aa 4 (show 4<6 by omega);have q5:w.cell? ⟨g,kk*6+5,V⟩=E (U V 0 0):=aa 5 (show 5<6 by omega);have bg:=js w _ q0;simp at bg;rw[<-O.cell (p:=⟨g,kk*6+0,V⟩) bg]at q0;rw[<-O.cell (p:=⟨g,kk*6+1,V⟩) bg]at q1;rw[<-O.cell (p:=⟨g,kk*6+2,V⟩) bg]at q2;rw[<-O.cell (p:=⟨g,kk*6+3,V⟩) bg]at q3;rw[<-O.cell (p:=⟨g,kk*6+4,V⟩) bg]at q4;rw[<-O.cell (p:=⟨g,kk*6+5,V⟩) bg]at q5;rw[lM]at q0;have aq:(0:Int)<=(kk:Int):=by omega
   have ar:(kk:Int)<(n:Int):=by omega
   have al:∀(ob:Obj)(b o:Nat),b<wr.1.size->(wr.alloc ob).cell? ⟨b,o,V⟩=wr.cell? ⟨b,o,V⟩:=λob b o hb=>((ax wr.1.size wr).alloc (aw _) ob).cell (p:=⟨b,o,V⟩) hb;have A1:∀ob,(wr.alloc ob).cell? ⟨pw,13,V⟩=E (U (E ⟨g9,0,V⟩) (ls 4).length ae):=λob=>by rw[al _ _ _ (by omega)];exact d10
   have A2:∀ob,(wr.alloc ob).cell? ⟨g9,Y,V⟩=E (Z J m):=λob=>by rw[al _ _ _ (by omega)];exact d9
   go_wp2;go_roundw;case rel=>exact⟨kk+1,by omega,by go_num,HB.o.alloc zb _⟩
   simp[aA];omega
  go_wp2;go_roundw;case rel=>exact⟨Y+1,by omega,by go_num,HB.o⟩
  simp[aA];omega
 go_wp2_with fail;refine aH (HP.o _ HB.o) λw' hb=>?_;have aC:=I hb;have zz:=HB.o.size;go_wp2;go_ret;exact⟨rfl,HB.o.trans (aC.o.mono zz)⟩
end
section
open Go.ChangeShapes Go.WideShapes Go.ChangeAt Go.RowKit Go.Deep
theorem rL:prog.cellsOf 3=1:=by kernel_rfl
theorem BC:prog.cellsOf 33=1:=by kernel_rfl
theorem HV:prog.bytesOf 3=8:=by kernel_rfl
theorem H_:prog.bytesOf 91=168:=by kernel_rfl
theorem BF:prog.cellsOf 91=14:=by kernel_rfl
section
variable {H:Type}{enc:cn×ag->H}{w:ac}{spare:Nat->Bool}{held:Bool}
theorem vk{a v}(h:w.cell? a=E v):a.block<w.1.size:=by have hs:=uL h;obtain⟨b,off,spot⟩:=a;refine World.cells?_block (w:=w) (base:=0) (a:=⟨b,off,spot⟩) (n:=1) (cs:=[v]) ?_ (by omega);simp[World.cells?,Addr.add,h]
theorem je{n c y}(h:DataW.trod enc prog w 0 spare held n 3 [c]=E y):∃x:Int,c=Z J x/\bq x:=by obtain⟨x,e,_,hx⟩:=DataW.trod_int underlying3 h;simp at e;exact⟨x,e,bounds_i64 hx⟩
theorem yR{P e d}:∀{l:List (DataW H)},d∈l->∀n∈d.weights P e,n∈DataW.weightsAll P e l
 |[],h,_,_=>by cases h
 |x::l,h,n,hn=>by rw[DataW.weightsAll];rcases rk.1 h with e|h;subst e;exact cZ.2 (.inl hn);exact cZ.2 (.inr (yR h n hn))
theorem vU{n c y}(h:DataW.trod enc prog w 0 spare held n 33 [c]=E y)(hw:∀n∈y.1.weights prog 33,n<=reachBytes):AV w c:=by
 rcases open_ints gW underlying3 rL h with⟨hcs,_⟩|⟨x,l,c',zs,hcs,_,hl,hm,hz,hy,hcell,ac⟩;simp at hcs;exact⟨[],⟨V,0,hcs,by simp,by unfold maxLen;omega,by simp,.inl rfl⟩,by simp⟩;simp at hcs;have af:l<=zs.length:=by rw[hz];split<;>omega
 have Y:(zs.take l).length=l:=by rw[eV];omega
 have hbytes:=hw _ (by rw[hy];simp only[DataW.weights,underlying33];exact iE);rw[HV]at hbytes;simp only[lits,List.length_map,List.length_take,List.length_drop,reachBytes]at hbytes;refine⟨zs.take l,⟨E x,c',by rw[Y];exact hcs,by omega,hm,λz ae=>bounds_i64 (ac z (Aw ae)),?_⟩,by rw[Y];omega⟩;rcases mn l with h0|h0;exact .inl (by rw[h0];rfl);right;obtain⟨b,off,spot⟩:=x;have hc0:=hcell 0 (by omega);have hspot:spot=V:=by simpa[Addr.add]using uL hc0
 subst hspot;refine⟨b,off,rfl,?_,λi hi=>?_⟩;exact vk hc0;have aa:=hcell i (by omega);rw[bG,List.getElem?_take_of_lt (by omega),<-bG,<-aa];unfold Addr.add;by_cases O:i=0;simp[O];simp[O]
end
def A_ (v:ag):Prop:=∃s:ByteArray,v=.string s/\s.size<=140737488351232
def uV (w:ac)(v:ag):Prop:=∃l,aX w v l/\l.length*32<=140737488351232
def Gt (w:ac)(kd x y z:Int)(r:Nat->ag):Prop:=
 Gs w kd x y z r/\A_ (r 1)/\(∃k fr:Int,r 2=Z J k/\r 3=Z J fr)/\uV w (r 4)
theorem BD:prog.cellsOf 147=4:=by kernel_rfl
theorem HX:prog.bytesOf 147=32:=by kernel_rfl
theorem BB:prog.cellsOf 65=3:=by kernel_rfl
theorem Io:prog.cellsOf 9=1:=by kernel_rfl
theorem Im:prog.cellsOf 63=1:=by kernel_rfl
section
variable {H:Type}{enc:cn×ag->H}{w:ac}{spare:Nat->Bool}{held:Bool}
theorem Lq{n cs y}(h:DataW.trod enc prog w 0 spare held n 147 cs=E y):
  ∃x:aq.It,iK x/\cs=[Z J x.1,Z J x.2.1,Z J x.2.2.1,Z J x.2.2.2]:=by
 obtain⟨xs,m,_,hy,hl,hlen,hf⟩:=xA underlying147 h;rw[BD]at hl
 match cs,hl with
 |[c0,c1,c2,c3],_=> have f0:=hf 0 _ rfl;have f1:=hf 1 _ rfl;have f2:=hf 2 _ rfl;have f3:=hf 3 _ rfl;simp[rL]at f0 f1 f2 f3;have Y:xs.length=4:=hlen;rw[aQ (by omega)]at f0 f1 f2 f3;obtain⟨a,rfl,O⟩:=je f0;obtain⟨b,rfl,k1⟩:=je f1;obtain⟨c,rfl,k2⟩:=je f2;obtain⟨d,rfl,k3⟩:=je f3;exact⟨(a,b,c,d),⟨O,k1,k2,k3⟩,rfl⟩
theorem Lu{n c y}(h:DataW.trod enc prog w 0 spare held n 63 [c]=E y)(hw:∀n∈y.1.weights prog 63,n<=reachBytes):uV w c:=by
 rcases open_slice iG h with⟨hcs,_⟩|⟨x,l,cp,m,n',D,Pl,hcs,_,hl,hm,ae,hy,hx⟩;simp at hcs;exact⟨[],⟨V,0,hcs,by simp,by unfold maxLen;omega,by simp,.inl rfl⟩,by simp⟩;simp at hcs;have hbytes:=hw _ (by rw[hy];simp only[DataW.weights,underlying63];exact iE);rw[HX]at hbytes;simp only[List.length_map,List.length_range,reachBytes]at hbytes;have af:l<=m:=by rw[ae];split<;>omega
 rw[BD]at hx;have hit:∀i,i<l->∃t:aq.It,iK t/\∀j,j<4->w.cell? (x.add (i*4+j))=E (([Z J t.1,Z J t.2.1,Z J t.2.2.1,Z J t.2.2.2]:List ag).getD j undef):=by intro i hi;obtain⟨cs,e1,e2⟩:=hx i (by omega);obtain⟨_,e3,e4⟩:=AJ e1;obtain⟨t,ht,ac⟩:=Lq e2;refine⟨t,ht,λj hj=>?_⟩;have O:=e4 j hj;rw[aQ (by omega)]at O;rw[<-ac,bG,aQ (by omega),xn,<-O,Gb]
 let T:Nat->aq.It:=λi=>if hi:i<l then(hit i hi).choose else(0,0,0,0);have hT:∀i,i<l->iK (T i)/\∀j,j<4->w.cell? (x.add (i*4+j))=E (([Z J (T i).1,Z J (T i).2.1,Z J (T i).2.2.1,Z J (T i).2.2.2]:List ag).getD j undef):=λi hi=>by have e:T i=(hit i hi).choose:=dif_pos hi;rw[e];exact(hit i hi).choose_spec
 have hlen:((List.range l).map T).length=l:=by simp
 refine⟨(List.range l).map T,⟨E x,cp,by rw[hlen];exact hcs,by rw[hlen];omega,hm,λt ht=>?_,?_⟩,by rw[hlen];omega⟩;obtain⟨i,hi,rfl⟩:=cq.1 ht;exact(hT i (eW.1 hi)).1;rcases mn l with h0|h0;exact .inl (by rw[h0];rfl);right;obtain⟨b,off,spot⟩:=x;have Y:=(hT 0 h0).2 0 (by omega);have hspot:spot=V:=by simpa[Addr.add]using uL Y
 subst hspot;refine⟨b,off,rfl,by simpa[Addr.add]using vk Y,λi hi=>?_⟩;rw[hlen]at hi;have aa:∀j,(⟨b,off,V⟩:Addr).add j=⟨b,off+j,V⟩:=λj=>by unfold Addr.add;by_cases hz:j=0<;>simp[hz]
 have e:aq.it ((List.range l).map T) i=T i:=tS l T i hi;rw[e];have g:=(hT i hi).2;have g0:=g 0 (by omega);have g1:=g 1 (by omega);have g2:=g 2 (by omega);have g3:=g 3 (by omega);rw[aa]at g0 g1 g2 g3;exact⟨by rw[lM]at g0;exact g0,by rw[jr];exact g1,by rw[jr];exact g2,by rw[jr];exact g3⟩
theorem tK{n cs y}(h:DataW.trod enc prog w 0 spare held n 65 cs=E y)(hw:∀n∈y.1.weights prog 65,n<=reachBytes):
  ∃(k fr:Int)(v:ag),cs=[Z J k,Z J fr,v]/\uV w v:=by
 obtain⟨xs,m,_,hy,hl,hlen,hf⟩:=xA mR h;rw[BB]at hl
 match cs,hl with
 |[c0,c1,c2],_=> have f0:=hf 0 _ rfl;have f1:=hf 1 _ rfl;have f2:=hf 2 _ rfl;simp[rL,Im]at f0 f1 f2;have O:xs.length=3:=hlen;rw[aQ (by omega)]at f0 f1 f2;obtain⟨a,rfl,Y⟩:=je f0;obtain⟨b,rfl,k1⟩:=je f1;refine⟨a,b,c2,rfl,Lu f2 (λn hn=>hw n (by rw[hy];simp only[DataW.weights,underlying65];refine pY (j:=2) (t:=63) (d:=(xs[2]).1) rfl ?_ n hn;rw[dC,aQ (by omega)];rfl))⟩
theorem TD{n c y}(h:DataW.trod enc prog w 0 spare held n 9 [c]=E y)(hw:∀n∈y.1.weights prog 9,n<=reachBytes):A_ c:=by obtain⟨s,e,hy,hs⟩:=DataW.trod_string uK h;simp at e;have hb:=hw s.size (by rw[hy];simp[DataW.weights]);exact⟨s,e,hb⟩
end
end
section
open Go.RowKit
def oh (d0 d1 d2 d3 d4 d5:ag):Nat->ag
 |0=>d0
 |1=>d1
 |2=>d2
 |3=>d3
 |4=>d4
 |_=>d5
def iz (w:ac)(g o:Nat)(d0 d1 d2 d3 d4 d5:ag):ac:=(((((w.setCell ⟨g,o,V⟩ d0).setCell ⟨g,o+1,V⟩ d1).setCell ⟨g,o+2,V⟩ d2).setCell ⟨g,o+3,V⟩ d3).setCell ⟨g,o+4,V⟩ d4).setCell ⟨g,o+5,V⟩ d5
theorem bp.iz{w g N T f}(h:bp w g T N f)(i)(hi:i*6+5<N)(d0 d1 d2 d3 d4 d5):bp (iz w g (i*6) d0 d1 d2 d3 d4 d5) g T N (λt=>if t/6=i then oh d0 d1 d2 d3 d4 d5 (t%6)else f t):=by
 have h5:=(((((h.set (i*6) (by omega) d0).set (i*6+1) (by omega) d1).set (i*6+2) (by omega) d2).set (i*6+3) (by omega) d3).set (i*6+4) (by omega) d4).set (i*6+5) (by omega) d5;refine bp.ext h5 (λt ht=>?_);by_cases e:t/6=i
 ·rw[au e];have hm:t%6=0\/t%6=1\/t%6=2\/t%6=3\/t%6=4\/t%6=5:=by omega
  rcases hm with hm|hm|hm|hm|hm|hm;rw[ar (by omega),ar (by omega),ar (by omega),ar (by omega),ar (by omega),au (by omega),hm];rfl;rw[ar (by omega),ar (by omega),ar (by omega),ar (by omega),au (by omega),hm];rfl;rw[ar (by omega),ar (by omega),ar (by omega),au (by omega),hm];rfl;rw[ar (by omega),ar (by omega),au (by omega),hm];rfl;rw[ar (by omega),au (by omega),hm];rfl;rw[au (by omega),hm];rfl
 rw[ar e,ar (by omega),ar (by omega),ar (by omega),ar (by omega),ar (by omega),ar (by omega)]
theorem zG (w g o d0 d1 d2 d3 d4 d5):av (λb=>b=g) w (iz w g o d0 d1 d2 d3 d4 d5):=by unfold iz;exact((((((av.setCell w ⟨g,o,V⟩ d0).trans (av.setCell _ ⟨g,o+1,V⟩ d1) (λ_ e _=>e)).trans (av.setCell _ ⟨g,o+2,V⟩ d2) (λ_ e _=>e)).trans (av.setCell _ ⟨g,o+3,V⟩ d3) (λ_ e _=>e)).trans (av.setCell _ ⟨g,o+4,V⟩ d4) (λ_ e _=>e)).trans (av.setCell _ ⟨g,o+5,V⟩ d5) (λ_ e _=>e))
structure DD where
 inp:List Int
 ch:Int
 ms:Int
 sd:Int
 sm:List Int
 ss:List Int
def dl (d:DD):Nat->List Int
 |0=>d.inp
 |1=>d.sm
 |_=>d.ss
def gG (w:ac)(b:Nat)(d0 d1 d2 d3 d4 d5:ag):Prop:=w.1[b]?=E (ah #[d0,d1,d2,d3,d4,d5] 117 (0,0))
theorem gG.cells{w b d0 d1 d2 d3 d4 d5}(h:gG w b d0 d1 d2 d3 d4 d5):(w.cell? ⟨b,0,V⟩=E d0/\w.cell? ⟨b,1,V⟩=E d1/\w.cell? ⟨b,2,V⟩=E d2/\w.cell? ⟨b,3,V⟩=E d3/\w.cell? ⟨b,4,V⟩=E d4/\w.cell? ⟨b,5,V⟩=E d5)/\∀i,w.frozen? ⟨b,i,V⟩=false:=
 ⟨⟨(bg w b 0 _ _ (0,0) h).trans rfl,(bg w b 1 _ _ (0,0) h).trans rfl,(bg w b 2 _ _ (0,0) h).trans rfl,(bg w b 3 _ _ (0,0) h).trans rfl,(bg w b 4 _ _ (0,0) h).trans rfl,(bg w b 5 _ _ (0,0) h).trans rfl⟩,λi=>eh w b i _ _ h⟩
theorem gG.below{w w' b B d0 d1 d2 d3 d4 d5}(h:gG w b d0 d1 d2 d3 d4 d5)(hb:af B w w')(hB:b<B):gG w' b d0 d1 d2 d3 d4 d5:=(hb.block b hB).trans h
theorem gG.zE{w b d0 d1 d2 d3 d4 d5}(h:gG w b d0 d1 d2 d3 d4 d5)(v):gG (w.setCell ⟨b,0,V⟩ v) b v d1 d2 d3 d4 d5:=bI w b 0 _ _ v h
theorem gG.zF{w b d0 d1 d2 d3 d4 d5}(h:gG w b d0 d1 d2 d3 d4 d5)(v):gG (w.setCell ⟨b,4,V⟩ v) b d0 d1 d2 d3 v d5:=bI w b 4 _ _ v h
theorem gG.Ss{w b d0 d1 d2 d3 d4 d5}(h:gG w b d0 d1 d2 d3 d4 d5)(v):gG (w.setCell ⟨b,5,V⟩ v) b d0 d1 d2 d3 d4 v:=bI w b 5 _ _ v h
def mW (w:ac)(vi vm vs:ag)(d:DD):Prop:=aY w vi d.inp/\aY w vm d.sm/\aY w vs d.ss/\bq d.ch/\bq d.ms/\bq d.sd
theorem mW.below{w w' vi vm vs d}(h:mW w vi vm vs d)(hb:af w.1.size w w'):mW w' vi vm vs d:=⟨h.1.below hb,h.2.1.below hb,h.2.2.1.below hb,h.2.2.2⟩
structure jP (w:ac)(a:Option Addr)(n cap:Nat)(vi vm vs:Nat->ag)(D:Nat->DD):Prop where
 le:n<=cap
 mx:cap<=9223372036854775807
 cells:∀i,i<n->∃b off,a=E ⟨b,off,V⟩/\b<w.1.size/\w.cell? ⟨b,off+i*6,V⟩=E (vi i)/\w.cell? ⟨b,off+i*6+1,V⟩=E (Z J (D i).ch)/\w.cell? ⟨b,off+i*6+2,V⟩=E (Z J (D i).ms)/\w.cell? ⟨b,off+i*6+3,V⟩=E (Z J (D i).sd)/\w.cell? ⟨b,off+i*6+4,V⟩=E (vm i)/\w.cell? ⟨b,off+i*6+5,V⟩=E (vs i)
 its:∀i,i<n->mW w (vi i) (vm i) (vs i) (D i)
theorem jP.below{w w' a n cap vi vm vs D}(h:jP w a n cap vi vm vs D)(hb:af w.1.size w w'):jP w' a n cap vi vm vs D:=
 ⟨h.le,h.mx,λi hi=>by obtain⟨b,off,e1,e2,e3,e4,O,Y,e7,e8⟩:=h.cells i hi;exact⟨b,off,e1,cG e2 hb.size,(hb.cell (p:=⟨b,off+i*6,V⟩) e2).trans e3,(hb.cell (p:=⟨b,off+i*6+1,V⟩) e2).trans e4,(hb.cell (p:=⟨b,off+i*6+2,V⟩) e2).trans O,(hb.cell (p:=⟨b,off+i*6+3,V⟩) e2).trans Y,(hb.cell (p:=⟨b,off+i*6+4,V⟩) e2).trans e7,(hb.cell (p:=⟨b,off+i*6+5,V⟩) e2).trans e8⟩,
  λi hi=>(h.its i hi).below hb⟩
def dX (g:Nat)(l:List Int):ag:=U (E ⟨g,0,V⟩) l.length (l.length+3)
def cD (n:Nat)(G:Nat->Nat->Nat)(D:Nat->DD)(t:Nat):ag:=
 if t/6<n then oh (dX (G (t/6) 0) (D (t/6)).inp) (Z J (D (t/6)).ch) (Z J (D (t/6)).ms) (Z J (D (t/6)).sd) (dX (G (t/6) 1) (D (t/6)).sm) (dX (G (t/6) 2) (D (t/6)).ss) (t%6)
 else oh (U V 0 0) (Z J 77) (Z J 77) (Z J 77) (U V 0 0) (U V 0 0) (t%6)
structure ig (w:ac)(B g n:Nat)(G:Nat->Nat->Nat)(D:Nat->DD):Prop where
 row:∀i k,i<n->k<3->w.1[G i k]?=E (ah (given (dl (D i) k) 3).toArray 3 (0,0))
 lo:∀i k,i<n->k<3->B<=G i k/\G i k≠g
 inj:∀i k i' k',i<n->k<3->i'<n->k'<3->G i k=G i' k'->i=i'/\k=k'
theorem ig.lt{w B g n G D}(h:ig w B g n G D)(i k)(hi:i<n)(hk:k<3):G i k<w.1.size:=by have:=h.row i k hi hk;by_cases hb:G i k<w.1.size;exact hb;rw[cT (by omega)]at this;cases this
theorem Nm (n):(madeCells #[Value.slice V 0 0,Z J 0,Z J 0,Z J 0,U V 0 0,U V 0 0] (n*6)).toList=(List.range (n*6)).map (λt=>oh (U V 0 0) (Z J 0) (Z J 0) (Z J 0) (U V 0 0) (U V 0 0) (t%6)):=by
 apply xz;intro i;by_cases hi:i<n*6;·rw[vE _ _ i hi];unfold madeCells;simp[hi];rcases(show i%6=0\/i%6=1\/i%6=2\/i%6=3\/i%6=4\/i%6=5 by omega)with e|e|e|e|e|e<;>simp[e,oh]
 rw[jM (by simp[madeCells];omega),jM (by simp;omega)]
theorem QO{w:ac}{B g n e xs}(h:w.ownsRow B e 6 (U (E ⟨g,0,V⟩) n n) n xs):w.1[g]?=E (ah xs.toArray e (0,0)):=by rcases h.2 with⟨e0,_⟩|⟨g',cap,cur,e0,_,hg,_,_,hcs,O⟩;cases e0;cases e0;rw[hg];congr 2;have:cur.toList.take (n*6)=cur.toList:=kt (by simp;omega);rw[this]at O;rw[<-O]
theorem KX:(prog.info? 117).map (λi=>(i.zero,i.size,i.bytes))=E (E (.agg #[U V 0 0,Z J 0,Z J 0,Z J 0,U V 0 0,U V 0 0]),6,96):=by kernel_rfl
end
end Go.Proofs.YtchideljndagjabGreat


