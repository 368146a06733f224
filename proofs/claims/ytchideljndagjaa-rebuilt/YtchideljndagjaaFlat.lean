/- Points in a row of the call's own. -/
import Derived.Test.YtchideljndagjaaPts
namespace Go.Proofs.Ytchideljndagjaa
open Go.ChangeShapes Go.WideShapes Go.ChangeAt Go.RowKit
set_option linter.unusedVariables false

theorem infoPt : (Try.prog.info? 41).map (fun i => (i.zero, i.size, i.bytes)) = some (some (.agg #[.int .i64 0, .int .i64 0]), 2, 16) := by kernel_rfl

/-- The cells of points. -/
def flat : List (Int × Int) → List Value
  | [] => []
  | p :: l => .int .i64 p.1 :: .int .i64 p.2 :: flat l

theorem flat_append (l m : List (Int × Int)) : flat (l ++ m) = flat l ++ flat m := by
  induction l with
  | nil => rfl
  | cons p l ih => show _ :: _ :: flat (l ++ m) = _ :: _ :: (flat l ++ flat m); rw [ih]
theorem flat_length (l : List (Int × Int)) : (flat l).length = l.length * 2 := by
  induction l with
  | nil => rfl
  | cons p l ih => show (flat l).length + 1 + 1 = (l.length + 1) * 2; rw [ih]; omega
theorem flat_get (l : List (Int × Int)) (i : Nat) (hi : i < l.length) : (flat l)[i * 2]? = some (.int .i64 (l.getD i (0, 0)).1) ∧ (flat l)[i * 2 + 1]? = some (.int .i64 (l.getD i (0, 0)).2) := by
  induction l generalizing i with
  | nil => simp at hi
  | cons p l ih =>
    cases i with
    | zero => exact ⟨rfl, rfl⟩
    | succ i =>
      have h := ih i (by simpa using hi)
      rw [show (i + 1) * 2 = i * 2 + 1 + 1 by omega]
      exact h
theorem flat_set (l : List (Int × Int)) (i : Nat) (hi : i < l.length) (y : Int) : (flat l).set (i * 2 + 1) (.int .i64 y) = flat (l.set i ((l.getD i (0, 0)).1, y)) := by
  induction l generalizing i with
  | nil => simp at hi
  | cons p l ih =>
    cases i with
    | zero => rfl
    | succ i =>
      have h := ih i (by simpa using hi)
      rw [show (i + 1) * 2 + 1 = i * 2 + 1 + 1 + 1 by omega]
      show Value.int .i64 p.1 :: Value.int .i64 p.2 :: (flat l).set (i * 2 + 1) (.int .i64 y) = Value.int .i64 p.1 :: Value.int .i64 p.2 :: flat (l.set i ((l.getD i (0, 0)).1, y))
      rw [h]

theorem ptsAt_of_owns {w : World} {B : Nat} {v : Value} {ps : List (Int × Int)} (h : w.ownsRow B 41 2 v ps.length (flat ps)) (hp : ∀ p ∈ ps, inI p.1 ∧ inI p.2) : PtsAt w v ps := by
  have h0 := h
  rcases h.2 with ⟨rfl, hn⟩ | ⟨g, cap, cur, rfl, _, hb, hnc, hcm, _⟩
  · have hz0 : ps = [] := List.eq_nil_of_length_eq_zero hn
    subst hz0
    exact ⟨none, 0, rfl, by simp, Nat.zero_le _, hp, .inl rfl⟩
  · refine ⟨some ⟨g, 0, none⟩, cap, rfl, hnc, hcm, hp, .inr ⟨g, 0, rfl, (h0.lt g rfl).2, fun i hi => ?_⟩⟩
    obtain ⟨f1, f2⟩ := flat_get ps i hi
    rw [Nat.zero_add]
    exact ⟨(h0.cellAt (i * 2) (by omega)).trans f1, (h0.cellAt (i * 2 + 1) (by omega)).trans f2⟩

theorem cell_pair_new (w : World) (x y : Value) (t : TypeId) : ∀ j u, ([x, y] : List Value)[j]? = some u → (w.alloc (.cells #[x, y] t)).cell? ((⟨w.heap.size, 0, none⟩ : Addr).add j) = some u := by
  intro j u hj
  match j, hj with
  | 0, hj => simp at hj; subst hj; simp [Addr.add]
  | 1, hj => simp at hj; subst hj; simp [Addr.add]

end Go.Proofs.Ytchideljndagjaa
