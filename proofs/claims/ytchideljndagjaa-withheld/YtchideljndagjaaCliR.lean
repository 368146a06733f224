/- Contracts of the program's client: NewClient, Hello, Released. -/
import Derived.Test.YtchideljndagjaaCliNew
import Derived.Test.YtchideljndagjaaCliTake
import Derived.Test.YtchideljndagjaaNumAll
namespace Go.Proofs.Ytchideljndagjaa
open Go.ChangeShapes Go.WideShapes Go.ChangeAt Go.RowKit
set_option linter.unusedVariables false

theorem fold_get (L : List Value) : ∀ (k : Nat) (A : Array Value) (i : Nat), k + L.length ≤ A.size → (List.foldl (fun (cs : Array Value) (x : Value × Nat) => cs.setIfInBounds x.2 x.1) A (L.zipIdx k))[i]? = if k ≤ i ∧ i < k + L.length then L[i - k]? else A[i]? := by
  induction L with
  | nil => intro k A i h; rw [if_neg (fun q => by have h1 := q.1; have h2 := q.2; simp at h2; omega)]; rfl
  | cons a L ih =>
    intro k A i h
    rw [List.length_cons] at h
    rw [List.zipIdx_cons, List.foldl_cons, ih (k + 1) _ i (by simp; omega), List.length_cons]
    by_cases e : i = k
    · subst e
      rw [if_neg (by omega), if_pos (by omega), Nat.sub_self]
      simp [Array.getElem?_setIfInBounds]
      omega
    · by_cases q : k + 1 ≤ i ∧ i < k + 1 + L.length
      · rw [if_pos q, if_pos (by omega), show i - k = (i - (k + 1)) + 1 by omega, List.getElem?_cons_succ]
      · rw [if_neg q, if_neg (by omega)]
        simp only [Array.getElem?_setIfInBounds]
        rw [if_neg (fun e' => e e'.symm)]
theorem fold_all (L : List Value) (A : Array Value) (h : A.size = L.length) : List.foldl (fun (cs : Array Value) (x : Value × Nat) => cs.setIfInBounds x.2 x.1) A L.zipIdx = L.toArray := by
  apply Array.ext_getElem?
  intro i
  rw [fold_get L 0 A i (by omega)]
  by_cases q : i < L.length
  · rw [if_pos (by omega)]; simp
  · rw [if_neg (by omega), Array.getElem?_eq_none (by omega), Array.getElem?_eq_none (by simp; omega)]

theorem size102 : (Try.prog.info? 102).map (·.size) = some 78 := by kernel_rfl

set_option maxHeartbeats 2000000 in
set_option maxRecDepth 100000 in
theorem veilNew_no (N T M D id : Int) (vi vm vs : Value) (inp sm ss : List Int) (ch mk sd : Int) (w : World) (hi : ListAt w vi inp) (hm : ListAt w vm sm) (hs : ListAt w vs ss) (hE : newE N T M D id inp ch mk sd sm ss ≠ 0) :
    Calls Try.prog 33 #[.agg #[.int .i64 N, .int .i64 T, .int .i64 M, .int .i64 D], .int .i64 id, .agg #[vi, .int .i64 ch, .int .i64 mk, .int .i64 sd, vm, vs]] w fun e w' =>
      e = .returned (.tuple #[.pointer none, .int .i64 (newE N T M D id inp ch mk sd sm ss)]) ∧ Below w.heap.size w w' := by
  have HN := hideG (fun (W : World) (hb : Below w.heap.size w W) => new_no N T M D id vi vm vs inp sm ss ch mk sd W (hi.below hb) (hm.below hb) (hs.below hb) hE)
  obtain ⟨a1, c1, rfl, -⟩ := hi
  obtain ⟨a2, c2, rfl, -⟩ := hm
  obtain ⟨a3, c3, rfl, -⟩ := hs
  have hEE : (newE N T M D id inp ch mk sd sm ss != 0) = true := by simpa using hE
  generalize inp.length = n1 at *
  generalize sm.length = n2 at *
  generalize ss.length = n3 at *
  generalize newE N T M D id inp ch mk sd sm ss = E at *
  obtain ⟨CS, hCS⟩ : ∃ CS, CS = psCells zeroPS := ⟨_, rfl⟩
  rw [← hCS] at HN
  have L78 := hideG (show CS.length = 78 by rw [hCS]; exact psCells_length _)
  have HONE := hideG (show CS.toArray.all (·.oneCell') = true by rw [hCS]; exact psCells_one _ rfl rfl rfl rfl)
  clear hCS hE
  have HSZ := hideG (show (Try.prog.info? 98).map (·.size) = some CS.toArray.size by rw [size98, List.size_toArray, L78.out])
  go_enter Try.func33, Try.ntmps33
  go_wp2_with fail
  refine (HN.out _ (((Below.refl _ _).alloc (Nat.le_refl _) _).alloc (by simp) _)).mono ?_
  rintro e w1 ⟨rfl, hb1⟩
  have s1 := hb1.size
  have B1 := hideG ((((Below.refl w.heap.size w).alloc (Nat.le_refl _) _).alloc (by simp) _).trans (hb1.mono (by simp; omega)))
  have z1 := B1.out.size
  clear hb1
  have hp3 : PSAt (w1.alloc (.cells Try.zeroCells98 98)) w1.heap.size 98 zeroPS := by unfold PSAt; rw [← zero_ps]; exact heap_alloc_new w1 _
  have HTH := hideG (show (w1.alloc (.cells Try.zeroCells98 98)).there w1.heap.size 0 CS.toArray.size by rw [show CS.toArray.size = 78 by rw [List.size_toArray]; exact L78.out]; exact hp3.there 0 78 (by omega))
  have BF := hideG (show Below w.heap.size w ((w1.alloc (.cells Try.zeroCells98 98)).setCells w1.heap.size 0 CS) from below_setCells z1 _ _ _ (B1.out.alloc z1 _))
  clear hp3
  go_wp2_with (refine wpList_store_mid rfl 98 _ _ rfl w1.heap.size 0 CS.toArray rfl rfl HTH.out HSZ.out HONE.out ?_)
  go_ret2
  exact ⟨rfl, BF.out⟩

set_option maxHeartbeats 2000000 in
set_option maxRecDepth 100000 in
theorem veilNew_ok (N T M D id : Int) (vi vm vs : Value) (inp sm ss : List Int) (ch mk sd : Int) (w : World) (hi : ListAt w vi inp) (hm : ListAt w vm sm) (hs : ListAt w vs ss) (hE : newE N T M D id inp ch mk sd sm ss = 0) :
    Calls Try.prog 33 #[.agg #[.int .i64 N, .int .i64 T, .int .i64 M, .int .i64 D], .int .i64 id, .agg #[vi, .int .i64 ch, .int .i64 mk, .int .i64 sd, vm, vs]] w fun e w' =>
      ∃ b, e = .returned (.tuple #[.pointer (some ⟨b, 0, none⟩), .int .i64 0]) ∧ ∃ S, CliW w' b ⟨N, T, M, id, inp, ch, mk, sd, sm, ss⟩ (1, [], [], []) S ∧ Below w.heap.size w w' ∧ ∀ x, CFoot b S x → w.heap.size ≤ x := by
  have HN := hideG (fun (W : World) (hb : Below w.heap.size w W) => new_ok N T M D id vi vm vs inp sm ss ch mk sd W (hi.below hb) (hm.below hb) (hs.below hb) hE)
  obtain ⟨a1, c1, rfl, -⟩ := hi
  obtain ⟨a2, c2, rfl, -⟩ := hm
  obtain ⟨a3, c3, rfl, -⟩ := hs
  generalize inp.length = n1 at *
  generalize sm.length = n2 at *
  generalize ss.length = n3 at *
  go_enter Try.func33, Try.ntmps33
  go_wp2_with fail
  refine (HN.out _ (((Below.refl _ _).alloc (Nat.le_refl _) _).alloc (by simp) _)).mono ?_
  rintro e w1 ⟨v1, v2, v3, rfl, o1, o2, o3, hb1⟩
  obtain ⟨S, hS⟩ : ∃ S, S = freshS id N T ch mk sd v1 v2 v3 := ⟨_, rfl⟩
  rw [← hS]
  obtain ⟨p1, r1, hv1⟩ := owns_form o1
  obtain ⟨p2, r2, hv2⟩ := owns_form o2
  obtain ⟨p3, r3, hv3⟩ := owns_form o3
  obtain ⟨CS, hCS⟩ : ∃ CS, CS = psCells S := ⟨_, rfl⟩
  rw [← hCS]
  have L78 := hideG (show CS.length = 78 by rw [hCS]; exact psCells_length _)
  have HONE := hideG (show CS.toArray.all (·.oneCell') = true by rw [hCS, hS, hv1, hv2, hv3]; exact psCells_one _ rfl rfl rfl rfl)
  have HSZ := hideG (show (Try.prog.info? 98).map (·.size) = some CS.toArray.size by rw [size98, List.size_toArray, L78.out])
  have hz102 : Try.zeroCells102.size = 78 := by kernel_rfl
  have HFO := hideG (fold_all CS Try.zeroCells102 (by rw [hz102, L78.out]))
  clear hz102
  have HSL := hideG (show (Try.prog.info? 98).map (·.size) = some CS.length by rw [size98, L78.out])
  have s1 := hb1.size
  have B1 := hideG ((((Below.refl w.heap.size w).alloc (Nat.le_refl _) _).alloc (by simp) _).trans (hb1.mono (by simp; omega)))
  have z1 := B1.out.size
  have O1 := hideG o1
  have O2 := hideG o2
  have O3 := hideG o3
  clear hb1 o1 o2 o3 hv1 hv2 hv3
  have hp3 : PSAt (w1.alloc (.cells Try.zeroCells98 98)) w1.heap.size 98 zeroPS := by unfold PSAt; rw [← zero_ps]; exact heap_alloc_new w1 _
  have HTH := hideG (show (w1.alloc (.cells Try.zeroCells98 98)).there w1.heap.size 0 CS.toArray.size by rw [show CS.toArray.size = 78 by rw [List.size_toArray]; exact L78.out]; exact hp3.there 0 78 (by omega))
  have hb2 : Below w1.heap.size w1 ((w1.alloc (.cells Try.zeroCells98 98)).setCells w1.heap.size 0 CS) := below_setCells (Nat.le_refl _) _ _ _ ((Below.refl _ _).alloc (Nat.le_refl _) _)
  have RG := hideG (show ((w1.alloc (.cells Try.zeroCells98 98)).setCells w1.heap.size 0 CS).rangeAt w1.heap.size 0 CS by rw [hCS]; exact (hp3.setAll S).range78)
  have HCS := hideG hCS
  have HS := hideG hS
  clear hp3 hCS hS
  obtain ⟨w2, hw2⟩ : ∃ w2, w2 = (w1.alloc (.cells Try.zeroCells98 98)).setCells w1.heap.size 0 CS := ⟨_, rfl⟩
  rw [← hw2] at RG hb2
  have s2 := hb2.size
  have HB2 := hideG hb2
  have HW2 := hideG hw2
  clear hw2 hb2
  go_upto_region 2 with (refine wpList_store_mid rfl 98 _ _ rfl w1.heap.size 0 CS.toArray rfl rfl HTH.out HSZ.out HONE.out ?_)
  rw [← HW2.out]
  have l78 := L78.out
  go_wp2_with (refine wpList_load_mid rfl 98 _ rfl w1.heap.size 0 rfl CS _ RG.out Try.underlying98 rfl HSL.out ?_)
  rw [HFO.out]
  go_ret2
  have hb3 : Below w2.heap.size w2 (w2.alloc (.cells CS.toArray 102)) := (Below.refl _ _).alloc (Nat.le_refl _) _
  have OF1 := ownsRow_chg (S := fun _ => False) (ownsRow_chg (S := fun _ => False) O1.out (Chg.of_below HB2.out) (fun _ _ h => h)) (Chg.of_below hb3) (fun _ _ h => h)
  have OF2 := ownsRow_chg (S := fun _ => False) (ownsRow_chg (S := fun _ => False) O2.out (Chg.of_below HB2.out) (fun _ _ h => h)) (Chg.of_below hb3) (fun _ _ h => h)
  have OF3 := ownsRow_chg (S := fun _ => False) (ownsRow_chg (S := fun _ => False) O3.out (Chg.of_below HB2.out) (fun _ _ h => h)) (Chg.of_below hb3) (fun _ _ h => h)
  have hps : PSAt (w2.alloc (.cells CS.toArray 102)) w2.heap.size 102 S := by unfold PSAt; rw [← HCS.out]; exact heap_alloc_new w2 _
  obtain ⟨g1, g2, g3⟩ := newE_ok hE
  have hg := Cli.good_of g1 g2 g3
  have elI : ∀ {zs : List Int}, zs.all Num.elB = true → ∀ z ∈ zs, inI z := fun h z hz => by have := Num.elB_iff.1 (List.all_eq_true.1 h z hz); unfold inI; omega
  have lA1 := listAt_of_owns OF1 (fun z hz => by have := hg.inp z hz; unfold inI; omega)
  have lA2 := listAt_of_owns OF2 (elI hg.sm)
  have lA3 := listAt_of_owns OF3 (elI hg.ss)
  have lt1 := OF1.lt
  have lt2 := OF2.lt
  have lt3 := OF3.lt
  have l1 := fun x (hx : v1.ownBlock = some x) => (O1.out.lt x hx)
  have l2 := fun x (hx : v2.ownBlock = some x) => (O2.out.lt x hx)
  have l3 := fun x (hx : v3.ownBlock = some x) => (O3.out.lt x hx)
  have hf : ∀ x, CFoot w2.heap.size S x → x = w2.heap.size ∨ (w.heap.size ≤ x ∧ x < w1.heap.size) := fun x hx => by
    rw [HS.out] at hx
    rcases hx with hx | hx | hx | hx | hx
    · exact .inl hx
    · have := l1 x hx; simp at this; exact .inr ⟨by omega, this.2⟩
    · have := l2 x hx; simp at this; exact .inr ⟨by omega, this.2⟩
    · have := l3 x hx; simp at this; exact .inr ⟨by omega, this.2⟩
    · change (Value.slice none 0 0).ownBlock = some x at hx; rw [nil_own] at hx; cases hx
  refine ⟨w2.heap.size, rfl, S, ⟨?_, fun x hx => ?_⟩, (B1.out.trans (HB2.out.mono z1)).trans (hb3.mono (by omega)), fun x hx => ?_⟩
  · exact { at_ := hps, ph := ⟨by show (0 : Int) ≤ 1; omega, by show (1 : Int) ≤ 4; omega⟩, eid := by rw [HS.out]; rfl, eph := by rw [HS.out]; rfl, ecp := by rw [HS.out]; rfl, emp := by rw [HS.out]; rfl,
            one := fun _ => by rw [HS.out]; exact ⟨rfl, rfl, rfl, lA2, lA3⟩, mid := fun _ _ => by rw [HS.out]; exact ⟨lA1, rfl⟩, et := fun _ _ => by rw [HS.out]; rfl,
            two := fun e => absurd e (by show ¬ (1 : Int) = 2; omega), three := fun e => absurd e (by show ¬ (1 : Int) = 3; omega), nil := fun _ => by rw [HS.out]; rfl, four := fun e => absurd e (by show ¬ (1 : Int) = 4; omega),
            apart := by
              rw [HS.out]
              refine ⟨fun e => ?_, fun e => ?_, fun e => ?_, fun e => ?_⟩
              · have := (l1 _ e).2; omega
              · have := (l2 _ e).2; omega
              · have := (l3 _ e).2; omega
              · change (Value.slice none 0 0).ownBlock = some _ at e; rw [nil_own] at e; cases e }
  · rcases hf x hx with h | h
    · rw [h]; simp
    · simp; omega
  · rcases hf x hx with h | h
    · omega
    · exact h.1

set_option maxHeartbeats 1000000 in
set_option maxRecDepth 100000 in
theorem hello_calls (b : Nat) (T : TypeId) (S : PS) (w : World) (h : PSAt w b T S) (ho : Frm.okF 1 S.id [(S.id, S.cp, S.mp, 0)] = true) :
    Calls Try.prog 57 #[.pointer (some ⟨b, 0, none⟩)] w fun e w' => ∃ va, e = .returned va ∧ w'.ownsRow w.heap.size 5 1 va (Frm.encF 1 S.id [(S.id, S.cp, S.mp, 0)]).length ((Frm.encF 1 S.id [(S.id, S.cp, S.mp, 0)]).map (Value.int .u8)) ∧ Below w.heap.size w w' := by
  have hbl := h.lt
  have c0 := h.c0
  have c2 := h.c2
  have c3 := h.c3
  have HIN := hideG (okF_in ho)
  have HW := hideG (fun (W : World) (v : Value) (hb : Below w.heap.size w W) (hl : ItemsAt W v [(S.id, S.cp, S.mp, 0)]) => written_calls_c b T S 1 v [(S.id, S.cp, S.mp, 0)] W (h.below hb) hl ho)
  clear h ho
  have al : ∀ (ob : Obj) (o : Nat), (w.alloc ob).cell? ⟨b, o, none⟩ = w.cell? ⟨b, o, none⟩ := fun ob o => ((Below.refl w.heap.size w).alloc (Nat.le_refl _) ob).cell (p := ⟨b, o, none⟩) hbl
  generalize S.id = x0 at *
  generalize S.cp = x1 at *
  generalize S.mp = x2 at *
  go_enter Try.func57, Try.ntmps57
  go_wp2_with fail
  go_region
  go_wp2_with fail
  obtain ⟨W, hW⟩ : ∃ W, W = ((w.alloc (.cells #[.int .i64 x0, .int .i64 x1, .int .i64 x2, .int .i64 0] 91)).alloc (.cells #[.int .i64 x0, .int .i64 x1, .int .i64 x2, .int .i64 0] 91)).drew := ⟨_, rfl⟩
  rw [← hW]
  have HB := hideG (show Below w.heap.size w W by rw [hW]; exact (((Below.refl _ _).alloc (Nat.le_refl _) _).alloc (by simp) _).drew)
  have HI := hideG (show ItemsAt W (.slice (some ⟨w.heap.size + 1, 0, none⟩) 1 1) [(x0, x1, x2, 0)] by
    refine ⟨_, _, rfl, by simp, by unfold maxLen; omega, HIN.out, .inr ⟨w.heap.size + 1, 0, rfl, by rw [hW]; simp, fun i hi => ?_⟩⟩
    obtain rfl : i = 0 := by simpa using hi
    rw [hW]
    refine ⟨?_, ?_, ?_, ?_⟩ <;> simp [Frm.it])
  clear hW
  refine (HW.out W _ HB.out HI.out).mono ?_
  rintro e w1 ⟨va, rfl, hown, hb1⟩
  have s1 := HB.out.size
  have O1 := hideG (ownsRow_base hown s1)
  have B1 := hideG (HB.out.trans (hb1.mono s1))
  obtain ⟨a3, c3', hv3⟩ := owns_form hown
  subst hv3
  clear hown hb1
  go_wp2_with fail
  go_ret
  exact ⟨_, rfl, O1.out, B1.out⟩

theorem veilHello_calls (b : Nat) (T : TypeId) (S : PS) (w : World) (h : PSAt w b T S) (ho : Frm.okF 1 S.id [(S.id, S.cp, S.mp, 0)] = true) :
    Calls Try.prog 35 #[.pointer (some ⟨b, 0, none⟩)] w fun e w' => ∃ va, e = .returned va ∧ w'.ownsRow w.heap.size 5 1 va (Frm.encF 1 S.id [(S.id, S.cp, S.mp, 0)]).length ((Frm.encF 1 S.id [(S.id, S.cp, S.mp, 0)]).map (Value.int .u8)) ∧ Below w.heap.size w w' := by
  have HC := hideG (hello_calls b T S w h ho)
  clear h ho
  go_enter Try.func35, Try.ntmps35
  go_wp2_with fail
  refine HC.out.mono ?_
  rintro e w1 ⟨va, rfl, hown, hb1⟩
  have O1 := hideG hown
  have B1 := hideG hb1
  obtain ⟨a3, c3', hv3⟩ := owns_form hown
  subst hv3
  clear hown hb1
  go_wp2_with fail
  go_ret
  exact ⟨_, rfl, O1.out, B1.out⟩

theorem released_calls (b : Nat) (T : TypeId) (S : PS) (l : List Frm.It) (w : World) (h : PSAt w b T S) (hl : ItemsAt w S.told l) (hlen : l.length ≤ 12) :
    Calls Try.prog 62 #[.pointer (some ⟨b, 0, none⟩)] w fun e w' => ∃ va, e = .returned va ∧ w'.ownsRow w.heap.size 91 4 va l.length (flat4 l) ∧ Below w.heap.size w w' := by
  have c77 := h.c77
  have HC := hideG (copied_items w S.told l hl hlen)
  obtain ⟨a, cap, hv, -⟩ := items_view hl
  rw [hv] at c77 HC
  clear h hl hv hlen
  generalize l.length = n at *
  generalize flat4 l = L at *
  go_enter Try.func62, Try.ntmps62
  go_wp2_with (at_builtin; refine wpList_append_copy _ rfl _ _ 50 rfl rfl (.slice a n cap) rfl 91 4 n L HC.out ?_)
  intro v' w' hown hb
  obtain ⟨a3, c3', hv3⟩ := owns_form hown
  subst hv3
  have O1 := hideG hown
  have B1 := hideG hb
  clear hown hb
  go_wp2_with fail
  go_ret
  exact ⟨_, rfl, O1.out, B1.out⟩

theorem veilReleased_calls (b : Nat) (T : TypeId) (S : PS) (l : List Frm.It) (w : World) (h : PSAt w b T S) (hl : ItemsAt w S.told l) (hlen : l.length ≤ 12) :
    Calls Try.prog 39 #[.pointer (some ⟨b, 0, none⟩)] w fun e w' => ∃ va, e = .returned va ∧ w'.ownsRow w.heap.size 91 4 va l.length (flat4 l) ∧ Below w.heap.size w w' := by
  have HC := hideG (released_calls b T S l w h hl hlen)
  clear h hl
  go_enter Try.func39, Try.ntmps39
  go_wp2_with fail
  refine HC.out.mono ?_
  rintro e w1 ⟨va, rfl, hown, hb1⟩
  have O1 := hideG hown
  have B1 := hideG hb1
  obtain ⟨a3, c3', hv3⟩ := owns_form hown
  subst hv3
  clear hown hb1
  go_wp2_with fail
  go_ret
  exact ⟨_, rfl, O1.out, B1.out⟩

/-! ### By the client's state -/
theorem pow37 (n : Nat) : (37 : Int) ^ n % 2305843009213693951 ≠ 0 := by
  induction n with
  | zero => rw [Int.pow_zero]; decide
  | succ n ih =>
    rw [Int.pow_succ]
    intro h
    rcases Prm.mul_zero _ _ h with e | e
    · exact ih e
    · exact absurd e (by decide)
theorem pow37_key (k : Int) : Frm.keyB (Num.powP 37 k) = true := by
  rw [Frm.keyB_iff]
  have h1 := Num.powP_lo 37 k
  have h2 := Num.powP_hi 37 k
  have h3 : Num.powP 37 k ≠ 0 := pow37 k.toNat
  omega
def helloL (c : Cli.Cl) : List Frm.It := [(c.id, Cli.pubA c, Cli.pubB c, 0)]
theorem helloL_ok {c : Cli.Cl} (hc : Cli.Good c) : Frm.okF 1 c.id (helloL c) = true := by
  have gi := hc.i
  have gn := hc.n
  have e1 : Num.clB c.id = true := Num.clB_yes gi.1 (by omega)
  have e2 : Frm.keyB (Cli.pubA c) = true := pow37_key _
  have e3 : Frm.keyB (Cli.pubB c) = true := pow37_key _
  have a1 : decide ((helloL c).length ≤ 12) = true := rfl
  have a2 : Frm.fromB 1 c.id = true := e1
  have a3 : Frm.riseB (helloL c) = true := Frm.allB_yes fun i hi => by
    obtain rfl : i = 0 := by simpa [helloL] using hi
    show (Num.clB c.id && (decide (0 = 0) || _)) = true
    rw [e1]; rfl
  have a4 : Frm.idsB 1 c.id (helloL c) = true := by
    show (decide ((helloL c).length = 1) && !Frm.noneB (helloL c) c.id) = true
    have : Frm.noneB (helloL c) c.id = false := Frm.allB_no 0 (by simp [helloL]) (by show decide (c.id ≠ c.id) = false; simp)
    rw [this]; rfl
  have a5 : Frm.numsB 1 (helloL c) = true := Frm.allB_yes fun i hi => by
    obtain rfl : i = 0 := by simpa [helloL] using hi
    show (Frm.keyB (Cli.pubA c) && (Frm.keyB (Cli.pubB c) && Frm.zB 0)) = true
    rw [e2, e3]; rfl
  unfold Frm.okF
  rw [a1, a2, a3, a4, a5]; rfl
def relL (c : Cli.Cl) (s : Cli.St) : List Frm.It := if s.1 = 4 then Cli.tells c s.2.1 s.2.2.1 s.2.2.2 else []
theorem relL_items {w : World} {b : Nat} {c : Cli.Cl} {s : Cli.St} {S : PS} (h : CliAt w b c s S) : ItemsAt w S.told (relL c s) := by
  unfold relL
  by_cases e : s.1 = 4
  · rw [if_pos e]; exact h.four e
  · rw [if_neg e, h.nil e]; exact ⟨none, 0, rfl, by simp, Nat.zero_le _, (fun x hx => by cases hx), .inl rfl⟩
theorem relL_len {c : Cli.Cl} (hc : Cli.Good c) (s : Cli.St) : (relL c s).length ≤ 12 := by
  unfold relL
  split
  · exact (Frm.okF_parts (Cli.tells_ok hc _ _ _)).1
  · simp

theorem cliHello {w : World} {b : Nat} {c : Cli.Cl} {s : Cli.St} {S : PS} (hc : Cli.Good c) (h : CliW w b c s S) :
    Calls Try.prog 35 #[.pointer (some ⟨b, 0, none⟩)] w fun e w' => ∃ va, e = .returned va ∧ w'.ownsRow w.heap.size 5 1 va (Frm.encF 1 c.id (helloL c)).length ((Frm.encF 1 c.id (helloL c)).map (Value.int .u8)) ∧ Below w.heap.size w w' := by
  have e1 := h.cli.eid
  have e2 := h.cli.ecp
  have e3 := h.cli.emp
  have e : [(S.id, S.cp, S.mp, (0 : Int))] = helloL c := by rw [e1, e2, e3]; rfl
  have := veilHello_calls b _ S w h.cli.at_ (by rw [e, e1]; exact helloL_ok hc)
  rw [e, e1] at this
  exact this
theorem cliReleased {w : World} {b : Nat} {c : Cli.Cl} {s : Cli.St} {S : PS} (hc : Cli.Good c) (h : CliW w b c s S) :
    Calls Try.prog 39 #[.pointer (some ⟨b, 0, none⟩)] w fun e w' => ∃ va, e = .returned va ∧ w'.ownsRow w.heap.size 91 4 va (relL c s).length (flat4 (relL c s)) ∧ Below w.heap.size w w' :=
  veilReleased_calls b _ S _ w h.cli.at_ (relL_items h.cli) (relL_len hc s)
theorem cliPhase {w : World} {b : Nat} {c : Cli.Cl} {s : Cli.St} {S : PS} (h : CliW w b c s S) :
    Calls Try.prog 42 #[.pointer (some ⟨b, 0, none⟩)] w fun e w' => e = .returned (.int .i64 s.1) ∧ w' = w := by
  have := veilPhase_calls b _ S w h.cli.at_
  rw [h.cli.eph] at this
  exact this

end Go.Proofs.Ytchideljndagjaa
