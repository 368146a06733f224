/- Contracts of package frame: the bounds, how many numbers, the bytes of a number, a number read. -/
import Derived.Test.YtchideljndagjaaField
import Derived.Test.YtchideljndagjaaMemAll
import Derived.WalkSpells
import Derived.Laws.Rows
namespace Go.Proofs.Ytchideljndagjaa
open Go.ChangeShapes Go.WideShapes Go.ChangeAt Go.RowKit
set_option linter.unusedVariables false

theorem ret_bool {a b : Bool} (h : a = b) : Ending.returned (.bool a) = Ending.returned (.bool b) := congrArg (fun x => Ending.returned (.bool x)) h

theorem key_calls (a : Int) (w : World) :
    Calls Try.prog 118 #[.int .i64 a] w fun e w' => e = .returned (.bool (Frm.keyB a)) ∧ w' = w := by
  by_cases h : 1 ≤ a
  · have H := hideG (show Frm.keyB a = decide (a < 2305843009213693951) by unfold Frm.keyB; simp [h])
    by_cases h' : a < 2305843009213693951
    · go_enter Try.func118, Try.ntmps118
      go_wp2
      go_ret
      exact ⟨ret_bool (by rw [H.out]; exact (decide_eq_true h').symm), rfl⟩
    · go_enter Try.func118, Try.ntmps118
      go_wp2
      go_ret
      exact ⟨ret_bool (by rw [H.out]; exact (decide_eq_false (by omega)).symm), rfl⟩
  · have H := hideG (show Frm.keyB a = false from decide_eq_false (fun x => h x.1))
    go_enter Try.func118, Try.ntmps118
    go_wp2
    go_ret
    exact ⟨ret_bool H.out.symm, rfl⟩

theorem word_calls (a : Int) (w : World) :
    Calls Try.prog 114 #[.int .i64 a] w fun e w' => e = .returned (.bool (Frm.wdB a)) ∧ w' = w := by
  by_cases h : 0 ≤ a
  · have H := hideG (show Frm.wdB a = decide (a < 4294967296) by unfold Frm.wdB; simp [h])
    by_cases h' : a < 4294967296
    · go_enter Try.func114, Try.ntmps114
      go_wp2
      go_ret
      exact ⟨ret_bool (by rw [H.out]; exact (decide_eq_true h').symm), rfl⟩
    · go_enter Try.func114, Try.ntmps114
      go_wp2
      go_ret
      exact ⟨ret_bool (by rw [H.out]; exact (decide_eq_false (by omega)).symm), rfl⟩
  · have H := hideG (show Frm.wdB a = false from decide_eq_false (fun x => h x.1))
    go_enter Try.func114, Try.ntmps114
    go_wp2
    go_ret
    exact ⟨ret_bool H.out.symm, rfl⟩

theorem isShareKind_calls (a : Int) (w : World) :
    Calls Try.prog 119 #[.int .i64 a] w fun e w' => e = .returned (.bool (Frm.tB a)) ∧ w' = w := by
  by_cases h : a = 1
  · have H := hideG (show Frm.tB a = true from decide_eq_true (.inl h))
    subst h
    go_enter Try.func119, Try.ntmps119
    go_wp2
    go_ret
    exact ⟨ret_bool H.out.symm, rfl⟩
  · by_cases h' : a = 2
    · have H := hideG (show Frm.tB a = true from decide_eq_true (.inr h'))
      subst h'
      go_enter Try.func119, Try.ntmps119
      go_wp2
      go_ret
      exact ⟨ret_bool H.out.symm, rfl⟩
    · have H := hideG (show Frm.tB a = false from decide_eq_false (by omega))
      go_enter Try.func119, Try.ntmps119
      go_wp2
      go_ret
      exact ⟨ret_bool (by rw [H.out]; simp; omega), rfl⟩

theorem ret_i64 {a b : Int} (h : a = b) : Ending.returned (.int .i64 a) = Ending.returned (.int .i64 b) := congrArg (fun x => Ending.returned (.int .i64 x)) h

theorem named_calls (k : Int) (w : World) :
    Calls Try.prog 100 #[.int .i64 k] w fun e w' => e = .returned (.int .i64 (Frm.wid k : Int)) ∧ w' = w := by
  have main : ∀ (n : Int) (P : Prop), Hid ((Frm.wid k : Int) = n) → (∀ w, Calls Try.prog 100 #[.int .i64 k] w fun e w' => e = .returned (.int .i64 n) ∧ w' = w) → Calls Try.prog 100 #[.int .i64 k] w fun e w' => e = .returned (.int .i64 (Frm.wid k : Int)) ∧ w' = w :=
    fun n _ h hc => by rw [h.out]; exact hc w
  by_cases h5 : k = 5
  · subst h5
    refine main 1 True rfl (fun w => ?_)
    go_enter Try.func100, Try.ntmps100
    go_wp2
    go_ret
    exact ⟨rfl, rfl⟩
  by_cases h1 : k = 1
  · subst h1
    refine main 2 True rfl (fun w => ?_)
    go_enter Try.func100, Try.ntmps100
    go_wp2
    go_ret
    exact ⟨rfl, rfl⟩
  by_cases h2 : k = 2
  · subst h2
    refine main 2 True rfl (fun w => ?_)
    go_enter Try.func100, Try.ntmps100
    go_wp2
    go_ret
    exact ⟨rfl, rfl⟩
  by_cases h7 : k = 7
  · subst h7
    refine main 2 True rfl (fun w => ?_)
    go_enter Try.func100, Try.ntmps100
    go_wp2
    go_ret
    exact ⟨rfl, rfl⟩
  by_cases h3 : k = 3
  · subst h3
    refine main 3 True rfl (fun w => ?_)
    go_enter Try.func100, Try.ntmps100
    go_wp2
    go_ret
    exact ⟨rfl, rfl⟩
  by_cases h4 : k = 4
  · subst h4
    refine main 3 True rfl (fun w => ?_)
    go_enter Try.func100, Try.ntmps100
    go_wp2
    go_ret
    exact ⟨rfl, rfl⟩
  refine main 0 True (show ((Frm.wid k : Nat) : Int) = 0 by unfold Frm.wid; rw [if_neg h5, if_neg (by omega), if_neg (by omega)]; rfl) (fun w => ?_)
  go_enter Try.func100, Try.ntmps100
  go_wp2
  go_ret
  exact ⟨rfl, rfl⟩

theorem itemSize_calls (k : Int) (w : World) :
    Calls Try.prog 79 #[.int .i64 k] w fun e w' => e = .returned (.int .i64 (Frm.size k : Int)) ∧ w' = w := by
  have hw := Frm.wid_le k
  have H := hideG (show (Frm.size k : Int) = 1 + 8 * (Frm.wid k : Int) by unfold Frm.size; omega)
  go_enter Try.func79, Try.ntmps79
  go_wp2_with fail
  refine (named_calls _ _).mono ?_
  rintro e w' ⟨rfl, rfl⟩
  generalize Frm.wid k = n at *
  go_wp2_with fail
  go_ret
  exact ⟨ret_i64 (by rw [H.out]), rfl⟩

/-- The numbers of an item that its bytes have, in a list of the call's own. -/
theorem namedNumbers_calls (k : Int) (x : Frm.It) (w : World) :
    Calls Try.prog 80 #[.int .i64 k, .agg #[.int .i64 x.1, .int .i64 x.2.1, .int .i64 x.2.2.1, .int .i64 x.2.2.2]] w fun e w' => ∃ a, e = .returned (.slice a (Frm.wid k) (Frm.wid k)) ∧
      (0 < Frm.wid k → ∃ g, a = some ⟨g, 0, none⟩ ∧ w.heap.size ≤ g ∧ g < w'.heap.size ∧ ∀ i, i < Frm.wid k → w'.cell? ⟨g, i, none⟩ = some (.int .i64 ((Frm.nums k x).getD i 0))) ∧ Below w.heap.size w w' := by
  have hw := Frm.wid_le k
  have HN := hideG (show Frm.nums k x = [x.2.1, x.2.2.1, x.2.2.2].take (Frm.wid k) from rfl)
  rcases (show Frm.wid k = 0 ∨ Frm.wid k = 1 ∨ Frm.wid k = 2 ∨ Frm.wid k = 3 by omega) with e | e | e | e
  · have HW := hideG e
    clear hw
    go_enter Try.func80, Try.ntmps80
    go_wp2_with fail
    refine (named_calls _ _).mono ?_
    rintro e w' ⟨rfl, rfl⟩
    go_wp2_with fail
    go_ret
    rw [HW.out]
    exact ⟨none, rfl, fun h => absurd h (by omega), (Below.refl _ _).alloc (Nat.le_refl _) _⟩
  · have HW := hideG e
    clear hw
    go_enter Try.func80, Try.ntmps80
    go_wp2_with fail
    refine (named_calls _ _).mono ?_
    rintro e w' ⟨rfl, rfl⟩
    go_wp2_with fail
    go_ret
    rw [HN.out, HW.out]
    refine ⟨_, rfl, fun _ => ⟨_, rfl, by simp, by simp, fun i hi => ?_⟩, ((Below.refl _ _).alloc (Nat.le_refl _) _).alloc (by simp) _⟩
    obtain rfl : i = 0 := by omega
    simp
  · have HW := hideG e
    clear hw
    go_enter Try.func80, Try.ntmps80
    go_wp2_with fail
    refine (named_calls _ _).mono ?_
    rintro e w' ⟨rfl, rfl⟩
    go_wp2_with fail
    go_ret
    rw [HN.out, HW.out]
    refine ⟨_, rfl, fun _ => ⟨_, rfl, by simp, by simp, fun i hi => ?_⟩, ((Below.refl _ _).alloc (Nat.le_refl _) _).alloc (by simp) _⟩
    rcases (show i = 0 ∨ i = 1 by omega) with rfl | rfl <;> simp
  · have HW := hideG e
    clear hw
    go_enter Try.func80, Try.ntmps80
    go_wp2_with fail
    refine (named_calls _ _).mono ?_
    rintro e w' ⟨rfl, rfl⟩
    go_wp2_with fail
    go_ret
    rw [HN.out, HW.out]
    refine ⟨_, rfl, fun _ => ⟨_, rfl, by simp, by simp, fun i hi => ?_⟩, ((Below.refl _ _).alloc (Nat.le_refl _) _).alloc (by simp) _⟩
    rcases (show i = 0 ∨ i = 1 ∨ i = 2 by omega) with rfl | rfl | rfl <;> simp

end Go.Proofs.Ytchideljndagjaa
