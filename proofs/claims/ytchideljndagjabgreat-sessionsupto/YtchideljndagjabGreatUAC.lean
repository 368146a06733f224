/- Joined -/
import Derived.Test.YtchideljndagjabGreatUAB
import Derived.Laws.CopyOwn
import Derived.Laws.MakeOwn
import Derived.Laws.BytesArg
import Derived.Laws.IdiomStrings
set_option linter.unusedVariables false
set_option maxHeartbeats 1000000
set_option maxRecDepth 100000
namespace Go.Proofs.YtchideljndagjabGreat
open aq bb
open Go.Value renaming int->Z,slice->U,tuple->br
open Go.IntKind renaming i64->J
open Go.Obj renaming cells->ah
open Go.Ending renaming returned->az
open Option renaming none->V,some->E
open Go renaming World->ac,Value->ag,Calls->ay
open Go.RowKit renaming Below->af,intOf->aA
abbrev cQ:=@bodyPost_ret
abbrev dp:=@World.ownsRow_nil
abbrev eF:=@wpList_append_own
abbrev uG:=@cell_one_new
abbrev uI:=@List.set_append_right
abbrev uH:=@wpList_make_full
abbrev xo:=@toList_madeCells_one
abbrev fC:=@List.getElem?_eq_some_iff
abbrev nD:=@Nat.sub_self
abbrev Av:=@Nat.add_sub_cancel_left
abbrev UW:=@List.getElem?_replicate
open Go.Proofs.Tryz
variable {l:List aq.It}{zs:List Int}{xs:List ag}{B g n:Nat}{e:TypeId}{v:ag}{w w':ac}
section
open Go.ChangeShapes Go.WideShapes Go.ChangeAt Go.RowKit
theorem uf{k q}(hk:0<=k)(Y:k<2305843009213693951)(hq:0<=q)(aa:q<=1000):
  ay prog 159 #[Z J k,Z J q] w λe w'=>e=az (Z J (bL k q))/\w'=w:=by
 go_enter func159,ntmps159;go_wp2;go_loop [5,6] (λv i=>∃n:Int,0<=n/\n<=q/\i=Z J n/\v=Z J (bA k (bc n 1099511627777))) (λ_ i=>(q-aA i).toNat);case atStart=>exact⟨0,by omega,hq,rfl,by rw[Ts k hk Y]⟩
 obtain⟨n,n1,n2,rfl,rfl⟩:=hrel;have l1:=kC k (bc n 1099511627777);have l2:=kB k (bc n 1099511627777);by_cases hlt:n<q
 ·have H:=gQ (Tr k n);go_wp2_with fail;refine aI (pz l1 l2 (by omega) (by omega)) ?_;go_wp2;go_round;case rel=>exact⟨n+1,by omega,by omega,rfl,by rw[H.o]⟩
  simp[aA];omega
 have O:n=q:=by omega
 subst O;have H:=gQ (IL (bA k (bc n 1099511627777)));go_wp2_with fail;refine aI (qL _ l1 l2 _ _ _ (aw _) (by omega)) ?_;go_wp2;go_ret;exact⟨cg (λx=>Ending.returned (Z J x)) H.o,rfl⟩
def ma (k q:Int):Nat->Array ag
 |0=> #[Z J 0,Z J 0,Z J 0,Z J 0]
 |1=> #[Z J (bL k q),Z J 0,Z J 0,Z J 0]
 |2=> #[Z J (bL k q),Z J (bL k (q+1)),Z J 0,Z J 0]
 |3=> #[Z J (bL k q),Z J (bL k (q+1)),Z J (bL k (q+2)),Z J 0]
 |_=> #[Z J (bL k q),Z J (bL k (q+1)),Z J (bL k (q+2)),Z J (bL k (q+3))]
theorem zx{k a b}(hk:0<=k)(O:k<2305843009213693951)(ha:1<=a)(ha':a<=12)(hb:1<=b)(hb':b<=12):
  ay prog 220 #[Z J k,Z J a,Z J b] w λe w'=>e=az (.agg (ma k (64*a+4*b) 4))/\af w.1.size w w':=by
 go_enter func220,ntmps220;go_wp2;go_loopw [8] (λi wr=>∃j:Nat,j<=4/\i=Z J j/\wr=(w.alloc (ah #[Z J 0,Z J 0,Z J 0,Z J 0] 254)).alloc (ah (ma k (64*a+4*b) j) 254)) (λi _=>4-(aA i).toNat);case atStart=>exact⟨0,by omega,rfl,rfl⟩
 obtain⟨j,hj,rfl,rfl⟩:=hrel
 match j,hj with
 |0,_=>
  unfold ma;go_wp2_with fail;refine aI (uf hk O (by omega) (by omega)) ?_;go_wp2;go_roundw;case rel=>exact⟨1,by omega,rfl,rfl⟩
  simp[aA]
 |1,_=>
  unfold ma;go_wp2_with fail;refine aI (uf hk O (by omega) (by omega)) ?_;go_wp2;go_roundw;case rel=>exact⟨2,by omega,rfl,rfl⟩
  simp[aA]
 |2,_=>
  unfold ma;go_wp2_with fail;refine aI (uf hk O (by omega) (by omega)) ?_;go_wp2;go_roundw;case rel=>exact⟨3,by omega,rfl,rfl⟩
  simp[aA]
 |3,_=>
  unfold ma;go_wp2_with fail;refine aI (uf hk O (by omega) (by omega)) ?_;go_wp2;go_roundw;case rel=>exact⟨4,by omega,rfl,rfl⟩
  simp[aA]
 |4,_=> unfold ma;go_wp2_with fail;exact cQ (v:=.agg (ma k (64*a+4*b) 4)) (by simp[results,results220,go_sem,ma]) rfl ⟨rfl,((ax _ _).alloc (aw _) _).alloc (by simp) _⟩
theorem zC{p0 p1 p2 O x y}(Y:0<=p2)(aa:p2<2305843009213693951)(ac:0<=O)(ae:O<2305843009213693951)(hx:0<=x)(ag:x<2305843009213693951)(hy:0<=y)(ah:y<2305843009213693951):
  ay prog 221 #[.agg #[Z J p0,Z J p1,Z J p2,Z J O],Z J x,Z J y] w λe w'=>e=az (Z J (bA (bA (bc p2 x) (bc (bc p2 p2) y)) O))/\af w.1.size w w':=by go_enter func221,ntmps221;go_wp2_with fail;refine aI (nk Y aa hx ag) ?_;go_wp2_with fail;refine aI (nk Y aa Y aa) ?_;go_wp2_with fail;refine aI (nk (iO) (iN) hy ah) ?_;go_wp2_with fail;refine aI (pz (iO) (iN) (iO) (iN)) ?_;go_wp2_with fail;refine aI (pz (kC _ _) (kB _ _) ac ae) ?_;go_wp2;go_ret;exact⟨rfl,(ax _ _).alloc (aw _) _⟩
theorem PR (k a b x y w)(hk:0<=k)(Y:k<2305843009213693951)(ha:1<=a)(ha':a<=12)(hb:1<=b)(hb':b<=12)(hx:0<=x)(aa:x<2305843009213693951)(hy:0<=y)(ae:y<2305843009213693951):
  ay prog 163 #[Z J k,Z J a,Z J b,Z J x,Z J y] w λe w'=>e=az (br #[Z J (bA x (bL k (64*a+4*b))),Z J (bA y (bL k (64*a+4*b+1))),Z J (fj k (64*a+4*b) (bA x (bL k (64*a+4*b))) (bA y (bL k (64*a+4*b+1)))),Z J 0])/\af w.1.size w w':=by have q1:=eD hk Y;have q2:=eD hx aa;have q3:=eD hy ae;have q4:=dW ha ha';have q5:=dW hb hb';go_enter func163,ntmps163;go_wp2_with fail;refine aI (jk) ?_;go_wp2_with fail;refine aI (jk) ?_;go_wp2_with fail;refine aI (jk) ?_;go_wp2_with fail;refine aI (nt) ?_;go_wp2_with fail;refine aI (nt) ?_;go_wp2_with fail;refine aH (zx hk Y ha ha' hb hb') λw1 hb1=>?_;have O:=gQ hb1;unfold ma;go_wp2_with fail;refine aI (pz hx aa (iU _ _) (iT _ _)) ?_;go_wp2_with fail;refine aI (pz hy ae (iU _ _) (iT _ _)) ?_;go_wp2_with fail;refine aH (zC (iU _ _) (iT _ _) (iU _ _) (iT _ _) (kC _ _) (kB _ _) (kC _ _) (kB _ _)) λw2 hb2=>?_;have ag:=gQ hb2;go_wp2_with fail;exact cQ (v:=br #[Z J (bA x (bL k (64*a+4*b))),Z J (bA y (bL k (64*a+4*b+1))),Z J (fj k (64*a+4*b) (bA x (bL k (64*a+4*b))) (bA y (bL k (64*a+4*b+1)))),Z J 0]) (by simp[results,results163,go_sem,fj]) rfl ⟨rfl,(O.o.alloc O.o.size _).trans (ag.o.mono (by have:=O.o.size;simp;omega))⟩
theorem PO (k a b x y z w)(hk:0<=k)(Y:k<2305843009213693951)(ha:1<=a)(ha':a<=12)(hb:1<=b)(hb':b<=12)(hx:0<=x)(aa:x<2305843009213693951)(hy:0<=y)(ae:y<2305843009213693951)(hz:0<=z)(ah:z<2305843009213693951)(ht:(fj k (64*a+4*b) x y != z)=true):
  ay prog 165 #[Z J k,Z J a,Z J b,Z J x,Z J y,Z J z] w λe w'=>e=az (br #[Z J 0,Z J 0,Z J 3])/\af w.1.size w w':=by have q1:=eD hk Y;have q2:=eD hx aa;have q3:=eD hy ae;have q6:=eD hz ah;have q4:=dW ha ha';have q5:=dW hb hb';unfold fj at ht;go_enter func165,ntmps165;go_wp2_with fail;refine aI (jk) ?_;go_wp2_with fail;refine aI (jk) ?_;go_wp2_with fail;refine aI (jk) ?_;go_wp2_with fail;refine aI (jk) ?_;go_wp2_with fail;refine aI (nt) ?_;go_wp2_with fail;refine aI (nt) ?_;go_wp2_with fail;refine aH (zx hk Y ha ha' hb hb') λw1 hb1=>?_;have O:=gQ hb1;unfold ma;go_wp2_with fail;refine aH (zC (iU _ _) (iT _ _) (iU _ _) (iT _ _) hx aa hy ae) λw2 hb2=>?_;have ag:=gQ hb2;go_wp2_with fail;go_ret3;exact⟨rfl,(O.o.alloc O.o.size _).trans (ag.o.mono (by have:=O.o.size;simp;omega))⟩
theorem PQ (k a b x y z w)(hk:0<=k)(ae:k<2305843009213693951)(ha:1<=a)(ha':a<=12)(hb:1<=b)(hb':b<=12)(hx:0<=x)(Y:x<2305843009213693951)(hy:0<=y)(aa:y<2305843009213693951)(hz:0<=z)(ah:z<2305843009213693951)(ht:(fj k (64*a+4*b) x y != z)=false):
  ay prog 165 #[Z J k,Z J a,Z J b,Z J x,Z J y,Z J z] w λe w'=>e=az (br #[Z J (dA x (bL k (64*a+4*b))),Z J (dA y (bL k (64*a+4*b+1))),Z J 0])/\af w.1.size w w':=by have q1:=eD hk ae;have q2:=eD hx Y;have q3:=eD hy aa;have q6:=eD hz ah;have q4:=dW ha ha';have q5:=dW hb hb';unfold fj at ht;go_enter func165,ntmps165;go_wp2_with fail;refine aI (jk) ?_;go_wp2_with fail;refine aI (jk) ?_;go_wp2_with fail;refine aI (jk) ?_;go_wp2_with fail;refine aI (jk) ?_;go_wp2_with fail;refine aI (nt) ?_;go_wp2_with fail;refine aI (nt) ?_;go_wp2_with fail;refine aH (zx hk ae ha ha' hb hb') λw1 hb1=>?_;have O:=gQ hb1;unfold ma;go_wp2_with fail;refine aH (zC (iU _ _) (iT _ _) (iU _ _) (iT _ _) hx Y hy aa) λw2 hb2=>?_;have ag:=gQ hb2;obtain⟨hc,hf⟩:=Hf hb2;go_wp2_with fail;refine aI (wF hx Y (iU _ _) (iT _ _)) ?_;go_wp2_with fail;refine aI (wF hy aa (iU _ _) (iT _ _)) ?_;go_wp2_with fail;go_ret3;exact⟨rfl,(O.o.alloc O.o.size _).trans (ag.o.mono (by have:=O.o.size;simp;omega))⟩
theorem yF:(prog.info? 3).map (λi=>(i.zero,i.size,i.bytes))=E (E (Z J 0),1,8):=by kernel_rfl
theorem zA (O)(n:Nat)(w)(ah:0<=O)(ai:O<2305843009213693951)(hn:n<=12):
  ay prog 86 #[Z J O,Z J (n:Int)] w λe w'=>∃v,e=az (br #[v,Z J 0])/\w'.ownsRow w.1.size 3 1 v n ((mg O n).map (Value.int J))/\af w.1.size w w':=by
 obtain⟨i0,hi,hz0,hz1,hz2⟩:=bO yF;have q1:=eD ah ai;go_enter func86,ntmps86;go_wp2_with fail;refine(jk).mono ?_;rintro e w ⟨rfl,rfl⟩;go_wp2_with fail;clear q1;go_loopw [6,7] (λv i wr=>∃k:Nat,k<=n/\i=Z J ((k:Int)+1)/\wr.ownsRow w.1.size 3 1 v k ((mg O k).map (Value.int J))/\af w.1.size w wr) (λ_ i _=>n+1-(aA i).toNat);case atStart=>exact⟨0,by omega,rfl,dp _ _ _ _,ax _ _⟩
 obtain⟨k,hk,rfl,hown,Y⟩:=hrel;have HO:=I hown;have HB:=I Y;have hsz:=Y.size;clear hown Y;by_cases hlt:k<n
 ·go_wp2_with fail;refine(uf ah ai (by omega) (by omega)).mono ?_;rintro e wr ⟨rfl,rfl⟩;obtain⟨p,hp⟩:=aj (bL O ((k:Int)+1));rw[<-hp];have p1:0<=p:=by rw[hp];exact iU _ _
  have p2:p<2305843009213693951:=by rw[hp];exact iT _ _
  have HP:=I hp;clear hp;go_wp2_with(at_builtin;refine eF _ rfl _ _ 33 rfl w.1.size 3 i0 (Z J 0) 1 8 gW hi hz0 hz1 hz2 rfl (by decide) _ _ _ rfl (HO.o.alloc _) ⟨wr.1.size,0,V⟩ 1 1 [Z J (p/1048576%4294967296)] rfl rfl ?c1 ?c2 ?c3 ?c4 ?c5 ?_);case c1=>exact uG _ _ _
  case c2=>intro u hu;simp at hu;subst hu;rfl
  case c3=>unfold maxLen;omega
  case c4=>omega
  case c5=>simp;omega
  intro v' w2 hown' ae _;have aa:=λx (h:Value.ownBlock _=E x)=>HO.o.lt x h;have hb2:=(HB.o.alloc hsz _).grown ae (by simp;omega) (λx h=>(aa x h).1);have ak:=I hb2;have ag:w2.ownsRow w.1.size 3 1 v' (k+1) ((mg O (k+1)).map (Value.int J)):=by rw[TB,cF];rw[show cj O k=p/1048576%4294967296 by rw[HP.o];rfl];exact hown'
  have am:=I ag;clear hown' ae aa hb2 ag;go_wp2;go_roundw;case rel=>exact⟨k+1,by omega,by go_num,am.o,ak.o⟩
  simp[aA];omega
 have ek:k=n:=by omega
 subst ek;go_wp2_with fail;go_ret2;exact⟨_,rfl,HO.o,HB.o⟩
end
section
open Go.RowKit
def bq (x:Int):Prop:= -9223372036854775808<=x/\x<=9223372036854775807
def aY (w:ac)(v:ag)(zs:List Int):Prop:=
 ∃(a:Option Addr)(cap:Nat),v=U a zs.length cap/\zs.length<=cap/\cap<=maxLen/\(∀z∈zs,bq z)/\
  (zs=[]\/∃b off,a=E ⟨b,off,V⟩/\b<w.1.size/\∀i,i<zs.length->w.cell? ⟨b,off+i,V⟩=E (Z J (zs.getD i 0)))
theorem aY.below (h:aY w v zs)(hb:af w.1.size w w'):aY w' v zs:=by obtain⟨a,cap,h1,h2,h3,h4,h5⟩:=h;refine⟨a,cap,h1,h2,h3,h4,?_⟩;rcases h5 with h5|⟨b,off,e1,e2,e3⟩;exact .inl h5;exact .inr ⟨b,off,e1,cG e2 hb.size,λi hi=>by rw[hb.cell (p:=⟨b,off+i,V⟩) e2];exact e3 i hi⟩
theorem na (h:w.ownsRow B 3 1 v n (zs.map (Value.int J)))(hz:∀z∈zs,bq z):aY w v zs:=by
 have hl:zs.length=n:=by have:=h.1;simpa using this
 subst hl;have h0:=h;rcases h.2 with⟨rfl,hn⟩|⟨g,cap,cur,rfl,_,hb,O,hcm,_⟩;have hz0:zs=[]:=ku hn;subst hz0;exact⟨V,0,rfl,by simp,bi _,hz,.inl rfl⟩;refine⟨E ⟨g,0,V⟩,cap,rfl,O,hcm,hz,.inr ⟨g,0,rfl,(h0.lt g rfl).2,λi hi=>?_⟩⟩;have:=h0.cellAt i (by omega);rw[cz,this,dC,aQ hi,bG,aQ hi];rfl
theorem below_drewN (w n):af w.1.size w (w.drewN n):=by
 induction n with
 |zero=>exact ax _ _
 |succ n ih=>exact⟨rfl,rfl,rfl,aw _,λ_ _=>rfl⟩
end
section
open Go.ChangeShapes Go.WideShapes Go.ChangeAt Go.RowKit
def AV (w:ac)(v:ag):Prop:=∃zs,aY w v zs/\zs.length*8<=140737488351232
def Gs (w:ac)(kd x y z:Int)(r:Nat->ag):Prop:=bq kd/\bq x/\bq y/\bq z/\AV w (r 0)
def t_ (kd x y z:Int)(r:Nat->ag):List ag:=
 [Z J kd,Z J x,Z J y,Z J z,r 0,r 1,r 2,r 3,r 4,r 5,r 6,r 7,r 8,r 9]
theorem Ez{va vb}(ha:aY w va zs)(hb:aY w vb zs):
  ay prog 87 #[va,vb] w λe w'=>e=az (.bool true)/\∃nq,w'=w.drewN nq:=by
 obtain⟨a,ca,rfl,a2,a3,a4,a5⟩:=ha;obtain⟨b,cb,rfl,b2,b3,b4,Y⟩:=hb;unfold maxLen at a3 b3;have hA:cO (zs=[]\/∃g off,a=E ⟨g,off,V⟩/\∀i,i<zs.length->w.cell? ⟨g,off+i,V⟩=E (Z J (zs.getD i 0))):=by rcases a5 with h|⟨g,off,h1,_,h2⟩;exact .inl h;exact .inr ⟨g,off,h1,h2⟩
 have hB:cO (zs=[]\/∃g off,b=E ⟨g,off,V⟩/\∀i,i<zs.length->w.cell? ⟨g,off+i,V⟩=E (Z J (zs.getD i 0))):=by rcases Y with h|⟨g,off,h1,_,h2⟩;exact .inl h;exact .inr ⟨g,off,h1,h2⟩
 generalize hn:zs.length=n at*;have O:=I hn;go_enter func87,ntmps87;go_wp2;go_loopw [5] (λi wr=>∃k nq:Nat,k<=n/\i=Z J k/\wr=w.drewN nq) (λi _=>n-(aA i).toNat);case atStart=>exact⟨0,0,by omega,rfl,rfl⟩
 obtain⟨k,nq,hk,rfl,rfl⟩:=hrel;by_cases hlt:k<n
 ·obtain⟨g1,o1,rfl,q1⟩:∃g off,a=E ⟨g,off,V⟩/\w.cell? ⟨g,off+k,V⟩=E (Z J (zs.getD k 0)):=by rcases hA.o with h|⟨g,off,h1,h2⟩;have:=O.o;rw[h]at this;simp at this;omega;exact⟨g,off,h1,h2 k hlt⟩
  obtain⟨g2,o2,rfl,q2⟩:∃g off,b=E ⟨g,off,V⟩/\w.cell? ⟨g,off+k,V⟩=E (Z J (zs.getD k 0)):=by rcases hB.o with h|⟨g,off,h1,h2⟩;have:=O.o;rw[h]at this;simp at this;omega;exact⟨g,off,h1,h2 k hlt⟩
  generalize zs.getD k 0=z at*;go_wp2_with fail;go_quiet (fail);go_wp2;go_roundw;case rel=>exact⟨k+1,_,by omega,by go_num,rfl⟩
  simp[aA];omega
 go_wp2;go_ret;exact⟨rfl,nq,rfl⟩
end
section
open Go.RowKit
theorem K_:(prog.info? 3).map (λi=>(i.zero,i.size,i.bytes))=E (E (Z J 0),1,8):=by kernel_rfl
theorem SV:(prog.info? 3).map (·.size)=E 1:=by kernel_rfl
def given (zs:List Int)(k:Nat):List ag:=zs.map (Value.int J)++(List.replicate k (Z J 77)++List.replicate (3-k) (Z J 0))
theorem tO{k}(hk:k<=3):(given zs k).length=zs.length+3:=by simp[given];omega
theorem Kr (zs k)(hk:k<3):(given zs k).set (zs.length+k) (Z J 77)=given zs (k+1):=by unfold given;rw[uI _ _ (by simp)];simp only[List.length_map,Nat.add_sub_cancel_left];rcases(show k=0\/k=1\/k=2 by omega)with rfl|rfl|rfl<;>rfl
theorem Ek (h:w.ownsRow B e 1 (U (E ⟨g,0,V⟩) n n) n xs):w.1[g]?=E (ah xs.toArray e (0,0)):=by rcases h.2 with⟨e0,_⟩|⟨g',cap,cur,e0,_,hg,_,_,hcs,O⟩;cases e0;cases e0;rw[hg];congr 2;have:cur.toList.take (n*1)=cur.toList:=kt (by simp;omega);rw[this]at O;rw[<-O]
theorem Em (h:w.1[g]?=E (ah xs.toArray e (0,0)))(k u):
  (w.setCell ⟨g,k,V⟩ u).1[g]?=E (ah (xs.set k u).toArray e (0,0)):=by rw[setCell_eq_setRow w g k _ e (0,0) u h,setRow_heap w g _ _ e _ h];simp
theorem sD (h:w.1[g]?=E (ah xs.toArray e (0,0)))(k)(hk:k<xs.length):
  w.cell? ⟨g,k,V⟩=xs[k]? /\w.frozen? ⟨g,k,V⟩=false:=by constructor;simp[World.cell?,h];simp[World.frozen?,h]
theorem yy (h:aY w v zs)(hb:zs.length*8<=140737488351232):
  ay prog 149 #[v] w λe w'=>∃g,w.1.size<=g/\e=az (U (E ⟨g,0,V⟩) zs.length (zs.length+3))/\
   w'.1[g]?=E (ah (given zs 3).toArray 3 (0,0))/\af w.1.size w w':=by
 obtain⟨i0,hi,hz0,hz1,hz2⟩:=bO K_;obtain⟨a,cap,rfl,l2,l3,l4,l5⟩:=h;unfold maxLen at l3;have HL:=I l5;clear l4 l5;obtain⟨n,hn⟩:=aj zs.length;rw[<-hn]at l2 hb ⊢;have O:=I hn;clear hn;have en:((n:Int)+3).toNat=n+3:=by omega
 go_enter func149,ntmps149;go_wp2_with(at_make;refine uH _ rfl _ _ 33 rfl w.1.size 3 i0 (Z J 0) 1 gW hi hz0 hz1 _ _ _ _ (n+3) rfl rfl (by omega) (by omega) ?m1 ?m2 ?m3 ?_);case m1=>rw[hz2];omega
 case m2=>unfold maxLen;omega
 case m3=>exact aw _
 intro w2 am ak;have hr:=Ek am;have hb2:af w.1.size w w2:=(ax _ _).grown ak (aw _) (by simp);rw[xo]at hr;have HR:=I hr;have HB:=I hb2;clear hr hb2 am ak;generalize hg:w.1.size=B at*;have HG:=I hg;obtain⟨X,hX⟩:=aj (zs.map (Value.int J));have Y:=I hX;have ai:=A (X.length=n) (by rw[hX,O.o];simp);clear hX;go_wp2_with(refine wpList_copy_splice rfl _ _ 33 33 rfl 3 gW SV _ _ _ _ _ _ rfl rfl B 0 _ 3 HR.o X ?c1 ?c2 ?c3 ?c4 B w HB.o (aw _) ?_);case c1=>rw[ai.o];simp
 case c2=>
  intro hp;try refine⟨rfl,?_⟩
  rcases HL.o with e|⟨b,off,e1,e2,e3⟩;rw[Y.o,e]at hp;simp at hp;refine⟨_,e1,λj u hj=>?_⟩;rw[Y.o,dC,Option.map_eq_some_iff]at hj;obtain⟨z,hz,rfl⟩:=hj;have ar:j<zs.length:=(fC.1 hz).1;have:=e3 j ar;rw[bG,hz]at this;rw[<-HG.o]at e2;rw[show(⟨b,off,V⟩:Addr).add j=⟨b,off+j,V⟩from by unfold Addr.add;simp];rw[HB.o.cell (p:=⟨b,off+j,V⟩) (by rw[<-HG.o];exact e2)];exact this
 case c3=>simp[ai.o]
 case c4=>intro u hu;rw[Y.o]at hu;simp at hu;obtain⟨z,_,rfl⟩:=hu;rfl
 intro w3 ae hb3;have ap:=I hb3;clear hb3;have es:splice (List.replicate (n+3) (Value.int J 0)) 0 X=given zs 0:=by unfold splice given;rw[Y.o,O.o];simp
 have hr3:_=_:=ae;rw[es]at hr3;have aq:=I hr3;clear hr3 ae es;go_wp2;go_loopw [4] (λi wr=>∃j:Nat,n<=j/\j<=n+3/\i=Z J j/\wr.1[B]?=E (ah (given zs (j-n)).toArray 3 (0,0))/\af B w wr) (λi _=>n+3-(aA i).toNat);case atStart=>exact⟨n,aw _,by omega,rfl,by rw[nD];exact aq.o,ap.o⟩
 obtain⟨j,au,av,rfl,hr,aa⟩:=hrel;have ag:=I hr;have ac:=I aa;by_cases hlt:j<n+3
 ·obtain⟨c1,c2⟩:=sD hr j (by rw[tO (by omega),<-O.o];exact hlt);obtain⟨u,hu⟩:∃u,(given zs (j-n))[j]?=E u:=⟨_,aQ (by rw[tO (by omega),<-O.o];exact hlt)⟩;rw[hu]at c1;clear hr aa hu;go_wp2;go_roundw;case rel=> have R:=Em ag.o j (Z J 77);have e:=Kr zs (j-n) (by omega);rw[<-O.o,show n+(j-n)=j by omega,show j-n+1=j+1-n by omega]at e;rw[e]at R;exact⟨j+1,by omega,by omega,by go_num,R,ac.o.setCell (p:=⟨B,j,V⟩) (aw _) _⟩
  simp[aA];omega
 have ej:j=n+3:=by omega
 subst ej;clear hr aa;go_wp2;go_ret;have R:=ag.o;rw[Av]at R;exact⟨B,by rw[HG.o];exact aw _,rfl,R,by rw[HG.o];exact ac.o⟩
theorem zU (g)(h:aY w v zs)(hb:zs.length*8<=140737488351232)(hg:w.1[g]?=E (ah (given zs 3).toArray 3 (0,0))):
  ay prog 152 #[U (E ⟨g,0,V⟩) zs.length (zs.length+3),v] w λe w'=>e=az (.bool true)/\∃nq,w'=w.drewN nq:=by
 have hcell:∀i,i<zs.length+3->w.cell? ⟨g,i,V⟩=E (Z J (if i<zs.length then zs.getD i 0 else 77)):=by intro i hi;rw[(sD hg i (by rw[tO (aw _)];exact hi)).1];unfold given;by_cases h1:i<zs.length;rw[au h1,ey (by simpa using h1),dC,aQ h1,bG,aQ h1];rfl;rw[ar h1,fo (by simp;omega)];rw[ey (by simp;omega),UW,au (by simp;omega)]
 obtain⟨a,cap,rfl,l2,l3,l4,l5⟩:=h;unfold maxLen at l3;have HL:=I l5;have Y:=I hcell;clear l4 l5 hcell hg;obtain⟨n,hn⟩:=aj zs.length;rw[<-hn]at l2 hb Y ⊢;have HN:=I hn;clear hn;have en:((n:Int)+3).toNat=n+3:=by omega
 go_enter func152,ntmps152;go_wp2;go_loopw [6] (λi wr=>∃k nq:Nat,k<=n+3/\i=Z J k/\wr=w.drewN nq) (λi _=>n+3-(aA i).toNat);case atStart=>exact⟨0,0,by omega,rfl,rfl⟩
 obtain⟨k,nq,hk,rfl,rfl⟩:=hrel;by_cases hlt:k<n+3
 ·have c1:=Y.o k hlt;by_cases O:k<n
  ·rw[au O]at c1;obtain⟨g2,o2,rfl,q2⟩:∃g off,a=E ⟨g,off,V⟩/\w.cell? ⟨g,off+k,V⟩=E (Z J (zs.getD k 0)):=by rcases HL.o with h|⟨g,off,h1,_,h2⟩;have:=HN.o;rw[h]at this;simp at this;omega;exact⟨g,off,h1,h2 k (by rw[<-HN.o];exact O)⟩
   generalize zs.getD k 0=z at*;have aa:(0:Int)<=(k:Int):=by omega
   have ac:(k:Int)<(n:Int):=by omega
   have hk2:(k:Int)<(n:Int)+3:=by omega
   have hd:decide (n<=k)=false:=by simp;omega
   go_wp2_with fail;go_quiet (fail);go_wp2;go_roundw;case rel=>exact⟨k+1,_,by omega,by go_num,rfl⟩
   simp[aA];omega
  rw[ar O]at c1;have aa:(0:Int)<=(k:Int):=by omega
  have ac:¬((k:Int)<(n:Int)):=by omega
  have hk2:(k:Int)<(n:Int)+3:=by omega
  have hk3:(n:Int)<=(k:Int):=by omega
  have hd:decide (n<=k)=true:=by simp;omega
  go_wp2_with fail;go_quiet (fail);go_wp2;go_roundw;case rel=>exact⟨k+1,_,by omega,by go_num,rfl⟩
  simp[aA];omega
 go_wp2;go_ret;exact⟨rfl,nq,rfl⟩
def bX (w:ac)(v:ag)(zs:List Int):Prop:=
 ∃(a:Option Addr)(cap:Nat),v=U a zs.length cap/\zs.length<=cap/\cap<=maxLen/\cY zs/\
  (zs=[]\/∃b off,a=E ⟨b,off,V⟩/\b<w.1.size/\∀i,i<zs.length->w.cell? ⟨b,off+i,V⟩=E (Z .u8 (aW zs i)))
theorem bX.below (h:bX w v zs)(hb:af w.1.size w w'):bX w' v zs:=by obtain⟨a,cap,h1,h2,h3,h4,h5⟩:=h;refine⟨a,cap,h1,h2,h3,h4,?_⟩;rcases h5 with h5|⟨b,off,e1,e2,e3⟩;exact .inl h5;exact .inr ⟨b,off,e1,cG e2 hb.size,λi hi=>by rw[hb.cell (p:=⟨b,off+i,V⟩) e2];exact e3 i hi⟩
theorem nM (h:w.ownsRow B 5 1 v n (zs.map (Value.int .u8)))(hz:cY zs):bX w v zs:=by
 have hl:zs.length=n:=by have:=h.1;simpa using this
 subst hl;have h0:=h;rcases h.2 with⟨rfl,hn⟩|⟨g,cap,cur,rfl,_,hb,O,hcm,_⟩;have hz0:zs=[]:=ku hn;subst hz0;exact⟨V,0,rfl,by simp,bi _,hz,.inl rfl⟩;refine⟨E ⟨g,0,V⟩,cap,rfl,O,hcm,hz,.inr ⟨g,0,rfl,(h0.lt g rfl).2,λi hi=>?_⟩⟩;have:=h0.cellAt i (by omega);unfold aW;rw[cz,this,dC,aQ hi,bG,aQ hi];rfl
theorem eC (h:bX w v zs):∃(a:Option Addr)(cap:Nat),v=U a zs.length cap/\zs.length<=cap/\cap<=9223372036854775807/\cY zs/\
  ∀k,k<zs.length->∃b off,a=E ⟨b,off,V⟩/\b<w.1.size/\w.cell? ⟨b,off+k,V⟩=E (Z .u8 (aW zs k)):=by obtain⟨a,cap,h1,h2,h3,h4,h5⟩:=h;refine⟨a,cap,h1,h2,by unfold maxLen at h3;omega,h4,λk hk=>?_⟩;rcases h5 with h5|⟨b,off,e,hb,hc⟩;rw[h5]at hk;simp at hk;exact⟨b,off,e,hb,hc k hk⟩
def iK (x:aq.It):Prop:=bq x.1/\bq x.2.1/\bq x.2.2.1/\bq x.2.2.2
def rC (w:ac)(b o:Nat)(x:aq.It):Prop:=
 w.cell? ⟨b,o,V⟩=E (Z J x.1)/\w.cell? ⟨b,o+1,V⟩=E (Z J x.2.1)/\w.cell? ⟨b,o+2,V⟩=E (Z J x.2.2.1)/\w.cell? ⟨b,o+3,V⟩=E (Z J x.2.2.2)
def aX (w:ac)(v:ag)(l:List aq.It):Prop:=
 ∃(a:Option Addr)(cap:Nat),v=U a l.length cap/\l.length<=cap/\cap<=maxLen/\(∀x∈l,iK x)/\
  (l=[]\/∃b off,a=E ⟨b,off,V⟩/\b<w.1.size/\∀i,i<l.length->rC w b (off+i*4) (aq.it l i))
theorem rC.below{b o x}(h:rC w b o x)(hlt:b<w.1.size)(hb:af w.1.size w w'):rC w' b o x:=by obtain⟨h0,h1,h2,h3⟩:=h;refine⟨?_,?_,?_,?_⟩;rw[hb.cell (p:=⟨b,o,V⟩) hlt];exact h0;rw[hb.cell (p:=⟨b,o+1,V⟩) hlt];exact h1;rw[hb.cell (p:=⟨b,o+2,V⟩) hlt];exact h2;rw[hb.cell (p:=⟨b,o+3,V⟩) hlt];exact h3
theorem aX.below (h:aX w v l)(hb:af w.1.size w w'):aX w' v l:=by obtain⟨a,cap,h1,h2,h3,h4,h5⟩:=h;refine⟨a,cap,h1,h2,h3,h4,?_⟩;rcases h5 with h5|⟨b,off,e1,e2,e3⟩;exact .inl h5;exact .inr ⟨b,off,e1,cG e2 hb.size,λi hi=>(e3 i hi).below e2 hb⟩
theorem cK (h:aX w v l):∃(a:Option Addr)(cap:Nat),v=U a l.length cap/\l.length<=cap/\cap<=9223372036854775807/\(∀x∈l,iK x)/\
  ∀k,k<l.length->∃b off,a=E ⟨b,off,V⟩/\b<w.1.size/\rC w b (off+k*4) (aq.it l k):=by obtain⟨a,cap,h1,h2,h3,h4,h5⟩:=h;refine⟨a,cap,h1,h2,by unfold maxLen at h3;omega,h4,λk hk=>?_⟩;rcases h5 with h5|⟨b,off,e,hb,hc⟩;rw[h5]at hk;simp at hk;exact⟨b,off,e,hb,hc k hk⟩
theorem CT{i}(hi:i<l.length):aq.it l i∈l:=by unfold aq.it;rw[bG,aQ hi];exact cN hi
def bD:List aq.It->List ag
 |[]=>[]
 |p::l=>Z J p.1::Z J p.2.1::Z J p.2.2.1::Z J p.2.2.2::bD l
theorem jc (l m):bD (l++m)=bD l++bD m:=by
 induction l with
 |nil=>rfl
 |cons p l ih=>show _::_::_::_::bD (l++m)=_::_::_::_::(bD l++bD m);rw[ih]
theorem Cq (l):(bD l).length=l.length*4:=by
 induction l with
 |nil=>rfl
 |cons p l ih=>show(bD l).length+1+1+1+1=(l.length+1)*4;rw[ih];omega
theorem Cp (l i)(hi:i<l.length):(bD l)[i*4]?=E (Z J (aq.it l i).1)/\(bD l)[i*4+1]?=E (Z J (aq.it l i).2.1)/\
  (bD l)[i*4+2]?=E (Z J (aq.it l i).2.2.1)/\(bD l)[i*4+3]?=E (Z J (aq.it l i).2.2.2):=by
 induction l generalizing i with
 |nil=>simp at hi
 |cons p l ih=>
  cases i with
  |zero=>exact⟨rfl,rfl,rfl,rfl⟩
  |succ i=> have h:=ih i (by simpa using hi);rw[show(i+1)*4=i*4+1+1+1+1 by omega];exact h
theorem iL (h:w.ownsRow B 147 4 v l.length (bD l))(hp:∀x∈l,iK x):aX w v l:=by have h0:=h;rcases h.2 with⟨rfl,hn⟩|⟨g,cap,cur,rfl,_,hb,O,hcm,_⟩;have hz0:l=[]:=ku hn;subst hz0;exact⟨V,0,rfl,by simp,bi _,hp,.inl rfl⟩;refine⟨E ⟨g,0,V⟩,cap,rfl,O,hcm,hp,.inr ⟨g,0,rfl,(h0.lt g rfl).2,λi hi=>?_⟩⟩;obtain⟨f1,f2,f3,f4⟩:=Cp l i hi;rw[cz];exact⟨(h0.cellAt (i*4) (by omega)).trans f1,(h0.cellAt (i*4+1) (by omega)).trans f2,(h0.cellAt (i*4+2) (by omega)).trans f3,(h0.cellAt (i*4+3) (by omega)).trans f4⟩
def bl (s:ByteArray):List Int:=s.data.toList.map λb=>(b.toNat:Int)
theorem oQ (s):(bl s).length=s.size:=by unfold bl;rw[dI];rfl
theorem x_ (s):cY (bl s):=by intro x hx;unfold bl at hx;obtain⟨b,_,rfl⟩:=cq.1 hx;have:=b.toNat_lt;omega
theorem Bu (h:cY zs):bl (strOfNums zs)=zs:=by
 unfold bl;rw[strOfNums_data,lL];conv=>rhs;rw[<-List.map_id zs]
 apply mj;intro z hz;have:=h z hz;show((UInt8.ofNat z.toNat).toNat:Int)=z;rw[UInt8.toNat_ofNat_of_lt' (by show z.toNat<256;omega)];omega
theorem TC{ys}(h1:cY zs)(h2:cY ys):strOfNums zs=strOfNums ys↔zs=ys:=
 ⟨λh=>by have:=cg bl h;rwa [Bu h1,Bu h2]at this,λh=>by rw[h]⟩
end
end Go.Proofs.YtchideljndagjabGreat


