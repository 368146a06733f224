/- Contracts of the steps of a script: Times and Power. -/
import Derived.Test.YtchideljndagjaaGreatVeil
import Derived.Test.YtchideljndagjaaGreatRef
namespace Go.Proofs.YtchideljndagjaaGreat
open Go.ChangeShapes Go.WideShapes Go.ChangeAt Go.RowKit
set_option linter.unusedVariables false

theorem num_calls (a : Int) (w : World) :
    Calls Tryz.prog 25 #[.int .i64 a] w fun e w' => e = .returned (.int .i64 a) ∧ w' = w := by
  go_enter Tryz.func25, Tryz.ntmps25
  go_wp2
  go_ret
  exact ⟨rfl, rfl⟩

/-- Both answer alike: the program's Times and the document's. -/
theorem both_times (x y : Int) (hx : -9223372036854775808 ≤ x ∧ x ≤ 9223372036854775807) (hy : -9223372036854775808 ≤ y ∧ y ≤ 9223372036854775807) : ∃ v e : Int, ∀ w,
    Calls Tryz.prog 23 #[.int .i64 x, .int .i64 y] w (fun en w' => en = .returned (.tuple #[.int .i64 v, .int .i64 e]) ∧ w' = w) ∧
    Calls Tryz.prog 24 #[.int .i64 x, .int .i64 y] w (fun en w' => en = .returned (.tuple #[.int .i64 v, .int .i64 e]) ∧ w' = w) := by
  cases h : (Num.elB x && Num.elB y)
  · exact ⟨0, 1, fun w => ⟨veilTimes_no x y w h, rTimes_no x y w h⟩⟩
  · rw [Bool.and_eq_true, Num.elB_iff, Num.elB_iff] at h
    exact ⟨_, _, fun w => ⟨veilTimes_yes x y w h.1.1 h.1.2 h.2.1 h.2.2, rTimes_yes x y w h.1.1 h.1.2 h.2.1 h.2.2⟩⟩

theorem both_power (x y : Int) (hx : -9223372036854775808 ≤ x ∧ x ≤ 9223372036854775807) (hy : -9223372036854775808 ≤ y ∧ y ≤ 9223372036854775807) : ∃ v e : Int, ∀ w,
    Calls Tryz.prog 26 #[.int .i64 x, .int .i64 y] w (fun en w' => en = .returned (.tuple #[.int .i64 v, .int .i64 e]) ∧ w' = w) ∧
    Calls Tryz.prog 27 #[.int .i64 x, .int .i64 y] w (fun en w' => en = .returned (.tuple #[.int .i64 v, .int .i64 e]) ∧ w' = w) := by
  cases h : Num.elB x
  · exact ⟨0, 1, fun w => ⟨veilPower_no x y w (.inl h), rPower_no x y w (.inl h)⟩⟩
  · by_cases h2 : y < 0
    · exact ⟨0, 1, fun w => ⟨veilPower_no x y w (.inr h2), rPower_no x y w (.inr h2)⟩⟩
    · rw [Num.elB_iff] at h
      exact ⟨_, _, fun w => ⟨veilPower_yes x y w h.1 h.2 (by omega) hy.2, rPower_yes x y w h.1 h.2 (by omega) hy.2⟩⟩

theorem numbers_times (pw : Value) (x y z : Int) (l s f0 f1 f2 g0 g1 g2 g3 d : Value) (w : World)
    (hx : -9223372036854775808 ≤ x ∧ x ≤ 9223372036854775807) (hy : -9223372036854775808 ≤ y ∧ y ≤ 9223372036854775807) :
    Calls Tryz.prog 12 #[pw, .agg #[.int .i64 1, .int .i64 x, .int .i64 y, .int .i64 z, l, s, f0, f1, f2, g0, g1, g2, g3, d]] w fun e w' => e = .returned (.bool true) ∧ Below w.heap.size w w' := by
  obtain ⟨v, e, hb⟩ := both_times x y hx hy
  have HB := hideH hb
  clear hb
  have e1 : (v == v) = true := by simp
  have e2 : (e == e) = true := by simp
  go_enter Tryz.func12, Tryz.ntmps12
  go_wp2_with fail
  refine (HB.out _).1.mono ?_
  rintro e w' ⟨rfl, rfl⟩
  go_wp2_with fail
  refine (HB.out _).2.mono ?_
  rintro e w' ⟨rfl, rfl⟩
  go_wp2_with fail
  refine (num_calls _ _).mono ?_
  rintro e w' ⟨rfl, rfl⟩
  go_wp2_with fail
  refine (num_calls _ _).mono ?_
  rintro e w' ⟨rfl, rfl⟩
  go_wp2_with fail
  go_ret
  exact ⟨rfl, (Below.refl _ _).alloc (Nat.le_refl _) _⟩

theorem numbers_power (pw : Value) (x y z : Int) (l s f0 f1 f2 g0 g1 g2 g3 d : Value) (w : World)
    (hx : -9223372036854775808 ≤ x ∧ x ≤ 9223372036854775807) (hy : -9223372036854775808 ≤ y ∧ y ≤ 9223372036854775807) :
    Calls Tryz.prog 12 #[pw, .agg #[.int .i64 2, .int .i64 x, .int .i64 y, .int .i64 z, l, s, f0, f1, f2, g0, g1, g2, g3, d]] w fun e w' => e = .returned (.bool true) ∧ Below w.heap.size w w' := by
  obtain ⟨v, e, hb⟩ := both_power x y hx hy
  have HB := hideH hb
  clear hb
  have e1 : (v == v) = true := by simp
  have e2 : (e == e) = true := by simp
  go_enter Tryz.func12, Tryz.ntmps12
  go_wp2_with fail
  refine (HB.out _).1.mono ?_
  rintro e w' ⟨rfl, rfl⟩
  go_wp2_with fail
  refine (HB.out _).2.mono ?_
  rintro e w' ⟨rfl, rfl⟩
  go_wp2_with fail
  refine (num_calls _ _).mono ?_
  rintro e w' ⟨rfl, rfl⟩
  go_wp2_with fail
  refine (num_calls _ _).mono ?_
  rintro e w' ⟨rfl, rfl⟩
  go_wp2_with fail
  go_ret
  exact ⟨rfl, (Below.refl _ _).alloc (Nat.le_refl _) _⟩

theorem step_num (pw : Value) (k x y z : Int) (l s f0 f1 f2 g0 g1 g2 g3 d : Value) (w : World) (Q : Ending → World → Prop) (hk : 1 ≤ k) (hk' : k ≤ 7)
    (hc : ∀ w1, Below w.heap.size w w1 → Calls Tryz.prog 12 #[pw, .agg #[.int .i64 k, .int .i64 x, .int .i64 y, .int .i64 z, l, s, f0, f1, f2, g0, g1, g2, g3, d]] w1 fun e w' => e = .returned (.bool true) ∧ Q (.returned (.bool true)) w') :
    Calls Tryz.prog 9 #[pw, .agg #[.int .i64 k, .int .i64 x, .int .i64 y, .int .i64 z, l, s, f0, f1, f2, g0, g1, g2, g3, d]] w fun e w' => e = .returned (.bool true) ∧ Q (.returned (.bool true)) w' := by
  have HC := hideH hc
  clear hc
  go_enter Tryz.func9, Tryz.ntmps9
  go_wp2_with fail
  refine (HC.out _ ((Below.refl _ _).alloc (Nat.le_refl _) _)).mono ?_
  rintro e w' ⟨rfl, hq⟩
  have HQ := hideH hq
  clear hq
  go_wp2_with fail
  go_ret
  exact ⟨rfl, HQ.out⟩

/-- The World with nothing in it, at block b. -/
def NilW (w : World) (b : Nat) : Prop :=
  (∀ j, j < 15 → w.cell? ⟨b, j, none⟩ = some (.slice none 0 0)) ∧ w.cell? ⟨b, 15, none⟩ = some (.int .i64 0)

set_option maxRecDepth 100000 in
theorem ends_nil (b : Nat) (w : World) (h : NilW w b) :
    Calls Tryz.prog 10 #[.pointer (some ⟨b, 0, none⟩)] w fun e w' => e = .returned (.bool true) ∧ w' = w := by
  have h0 := h.1 0 (by omega)
  have h1 := h.1 1 (by omega)
  have h2 := h.1 2 (by omega)
  have HN := hideH h
  clear h
  go_enter Tryz.func10, Tryz.ntmps10
  go_wp2_with fail
  go_loop [3] (fun i => i = .int .i64 0) (fun _ => 0)
  case atStart => rfl
  case round =>
    subst hrel
    go_wp2_with fail
    go_loop [5] (fun i => i = .int .i64 0) (fun _ => 0)
    case atStart => rfl
    case round =>
      subst hrel
      go_wp2_with fail
      go_loop [8] (fun i => i = .int .i64 0) (fun _ => 0)
      case atStart => rfl
      case round =>
        subst hrel
        go_wp2_with fail
        go_ret
        exact ⟨rfl, rfl⟩

set_option maxRecDepth 100000 in
theorem plain_nil (b : Nat) (w : World) (h : NilW w b) :
    Calls Tryz.prog 22 #[.pointer (some ⟨b, 0, none⟩)] w fun e w' => e = .returned (.bool true) ∧ w' = w := by
  have h3 := h.1 3 (by omega)
  have h4 := h.1 4 (by omega)
  have h5 := h.1 5 (by omega)
  have HN := hideH h
  clear h
  go_enter Tryz.func22, Tryz.ntmps22
  go_wp2_with fail
  go_loop [3] (fun i => i = .int .i64 0) (fun _ => 0)
  case atStart => rfl
  case round =>
    subst hrel
    go_wp2_with fail
    go_loop [5] (fun i => i = .int .i64 0) (fun _ => 0)
    case atStart => rfl
    case round =>
      subst hrel
      go_wp2_with fail
      go_loop [7] (fun i => i = .int .i64 0) (fun _ => 0)
      case atStart => rfl
      case round =>
        subst hrel
        go_wp2_with fail
        go_ret
        exact ⟨rfl, rfl⟩

set_option maxRecDepth 100000 in
theorem looks_nil (b : Nat) (w : World) (h : NilW w b) :
    Calls Tryz.prog 11 #[.pointer (some ⟨b, 0, none⟩)] w fun e w' => e = .returned (.bool true) ∧ w' = w := by
  have h6 := h.1 6 (by omega)
  have h8 := h.1 8 (by omega)
  have h7 := h.1 7 (by omega)
  have HN := hideH h
  clear h
  go_enter Tryz.func11, Tryz.ntmps11
  go_wp2_with fail
  go_loop [3] (fun i => i = .int .i64 0) (fun _ => 0)
  case atStart => rfl
  case round =>
    subst hrel
    go_wp2_with fail
    go_loop [6] (fun i => i = .int .i64 0) (fun _ => 0)
    case atStart => rfl
    case round =>
      subst hrel
      go_wp2_with fail
      go_loop [9] (fun i => i = .int .i64 0) (fun _ => 0)
      case atStart => rfl
      case round =>
        subst hrel
        go_wp2_with fail
        refine (plain_nil _ _ HN.out).mono ?_
        rintro e w' ⟨rfl, rfl⟩
        go_wp2_with fail
        go_ret
        exact ⟨rfl, rfl⟩

end Go.Proofs.YtchideljndagjaaGreat
