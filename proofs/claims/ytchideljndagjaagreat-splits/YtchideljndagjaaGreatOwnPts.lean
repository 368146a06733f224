/- ownPoints: a list of points is written full and owned. -/
import Derived.Test.YtchideljndagjaaGreatGivePts
import Derived.Test.YtchideljndagjaaGreatOwnInts
namespace Go.Proofs.YtchideljndagjaaGreat
open Go.RowKit
set_option linter.unusedVariables false

theorem infoPL : (Tryz.prog.info? 70).map (fun i => (i.zero, i.size, i.bytes)) = some (some (.slice none 0 0), 1, 24) := by kernel_rfl

/-- Row g, points: the first k are (m, m); nothing else has turned. -/
def Filled2 (w : World) (g : Nat) (n : Nat) (m : Int) (k : Nat) (wr : World) : Prop :=
  Chg (fun b => b = g) w wr ∧ ∃ L : List (Int × Int), wr.heap[g]? = some (.cells (flat L).toArray 72 (0, 0)) ∧ L.length = n ∧ ∀ i, i < k → L[i]? = some (m, m)

theorem filled2_start {w : World} {g : Nat} {n : Nat} {m : Int} {L : List (Int × Int)} (h : w.heap[g]? = some (.cells (flat L).toArray 72 (0, 0))) (hs : L.length = n) : Filled2 w g n m 0 w :=
  ⟨Chg.refl _ _, L, h, hs, fun i hi => by omega⟩

theorem filled2_cell {w wr : World} {g : Nat} {n : Nat} {m : Int} {k : Nat} (h : Filled2 w g n m k wr) (j : Nat) (hj : j < n) :
    (∃ v, wr.cell? ⟨g, j * 2, none⟩ = some v) ∧ wr.frozen? ⟨g, j * 2, none⟩ = false ∧ (∃ v, wr.cell? ⟨g, j * 2 + 1, none⟩ = some v) ∧ wr.frozen? ⟨g, j * 2 + 1, none⟩ = false := by
  obtain ⟨_, L, h1, h2, _⟩ := h
  have ff := flat_get L j (by omega)
  have r1 := row_cell h1 (j * 2) (by rw [flat_length]; omega)
  have r2 := row_cell h1 (j * 2 + 1) (by rw [flat_length]; omega)
  exact ⟨⟨_, r1.1.trans ff.1⟩, r1.2, ⟨_, r2.1.trans ff.2⟩, r2.2⟩

theorem filled2_next {w wr : World} {g : Nat} {n : Nat} {m : Int} {k : Nat} (h : Filled2 w g n m k wr) (hk : k < n) : Filled2 w g n m (k + 1) ((wr.setCell ⟨g, k * 2, none⟩ (.int .i64 m)).setCell ⟨g, k * 2 + 1, none⟩ (.int .i64 m)) := by
  obtain ⟨h0, L, h1, h2, h3⟩ := h
  refine ⟨(h0.trans (Chg.setCell _ _ _) (fun x e _ => e)).trans (Chg.setCell _ _ _) (fun x e _ => e), L.set k (m, m), ?_, by simpa using h2, fun i hi => ?_⟩
  · have R := row_set (row_set h1 (k * 2) (.int .i64 m)) (k * 2 + 1) (.int .i64 m)
    rw [flat_set2] at R
    exact R
  · by_cases e : i = k
    · subst e; rw [List.getElem?_set_self (by omega)]
    · rw [List.getElem?_set_ne (by omega)]; exact h3 i (by omega)

theorem filled2_end {w wr : World} {g : Nat} {n : Nat} {m : Int} (h : Filled2 w g n m n wr) : wr.heap[g]? = some (.cells (owCells (cat 5) (some g, n, m)).toArray 72 (0, 0)) := by
  obtain ⟨_, L, h1, h2, h3⟩ := h
  have e : L = List.replicate n (m, m) := by
    apply List.ext_getElem?
    intro i
    by_cases hi : i < n
    · rw [h3 i hi, List.getElem?_replicate, if_pos hi]
    · rw [List.getElem?_eq_none (by omega), List.getElem?_eq_none (by simp; omega)]
  rw [h1, e]
  have key : ∀ n, flat (List.replicate n (m, m)) = owCells (cat 5) (some g, n, m) := by
    intro n
    induction n with
    | zero => rfl
    | succ n ih =>
      unfold owCells at ih ⊢
      rw [List.replicate_succ, List.replicate_succ, List.flatten_cons, ← ih]
      rfl
  rw [key]

set_option maxHeartbeats 1000000 in
set_option maxRecDepth 100000 in
theorem ownPoints_calls (pw : Nat) (F : Nat → Value) (nx : Int) (ls : Nat → List Ow) (g n cap : Nat) (L0 : List (Int × Int)) (w : World) (h : InvW w pw F nx ls) (h0 : 0 ≤ nx) (h1 : nx ≤ 1000000000000000000)
    (hlen : ((ls 5).length + 1) * 24 ≤ 140737488355328) (hg : w.heap[g]? = some (.cells (flat L0).toArray 72 (0, 0))) (hcs : L0.length = cap) (hnc : n ≤ cap) (hcm : cap ≤ maxLen) (hpg : pw < g) (hfoot : ¬ Foot F ls g) :
    Calls Tryz.prog 88 #[.pointer (some ⟨pw, 0, none⟩), .slice (some ⟨g, 0, none⟩) n cap] w fun e w' => e = .returned (.tuple #[]) ∧ ∃ F', InvW w' pw F' (nx + 1) (updL ls 5 (ls 5 ++ [(some g, cap, mkN nx)])) ∧
      (∀ b, b < w.heap.size → g ≠ b → ¬ Foot F ls b → ¬ Foot F' (updL ls 5 (ls 5 ++ [(some g, cap, mkN nx)])) b) ∧ (∀ j, j < 3 → F' j = F j) ∧
      Chg (fun b => b = pw ∨ g = b ∨ Foot F ls b) w w' := by
  obtain ⟨i0, hi, hz0, hz1, hz2⟩ := info_parts infoI
  obtain ⟨i1, hi1, hy0, hy1, hy2⟩ := info_parts infoPL
  unfold maxLen at hcm
  have m1 := mkN_lo nx
  have m2 := mkN_hi nx
  have hgl : g < w.heap.size := by
    by_cases hb : g < w.heap.size
    · exact hb
    · rw [Array.getElem?_eq_none (by omega)] at hg; cases hg
  have hpl := h.pw_lt
  have HI := hideG h
  have HF := hideG hfoot
  have HG := hideG hg
  have HC := hideG hcs
  clear h hfoot hg hcs
  go_enter Tryz.func88, Tryz.ntmps88
  go_wp2_with fail
  refine (mark_calls pw F nx ls _ HI.out h0 h1).mono ?_
  rintro e w1 ⟨rfl, hw1⟩
  have g1 : w1.heap[g]? = some (.cells (flat L0).toArray 72 (0, 0)) := by rw [hw1, Below.heap_setCell _ _ _ _ (by simp; omega)]; exact HG.out
  have W1 := hideG hw1
  have G1 := hideG g1
  clear hw1 g1
  generalize hm : mkN nx = m at *
  have HM := hideG hm
  clear hm
  go_wp2_with fail
  go_loopw [6] (fun i wr => ∃ k : Nat, k ≤ cap ∧ i = .int .i64 k ∧ Filled2 w1 g cap m k wr) (fun i _ => cap - (intOf i).toNat)
  case atStart => exact ⟨0, by omega, rfl, filled2_start G1.out HC.out⟩
  case round =>
    obtain ⟨k, hk, rfl, hfill⟩ := hrel
    have FI := hideG hfill
    by_cases hlt : k < cap
    · obtain ⟨⟨v, c1⟩, c2, ⟨v', c3⟩, c4⟩ := filled2_cell hfill k hlt
      clear hfill
      go_wp2_with fail
      go_roundw
      case rel => exact ⟨k + 1, by omega, by go_num, filled2_next FI.out hlt⟩
      case measure => simp [intOf]; omega
    · have ek : k = cap := by omega
      subst ek
      clear hfill
      have k2 := FI.out.1.mono (S' := fun b => ((some g, k, m) : Ow).1 = some b) (fun b e _ => by rw [e])
      have K2 := hideG k2
      obtain ⟨a1, a2, a3, a4, a5⟩ := own_mid1 HI.out 5 (by omega) W1.out k2 (fun x e => by cases e; exact ⟨HF.out, hpg⟩)
      obtain ⟨c3, c3f⟩ := cell_f a1 8 (by omega)
      rw [upd_other _ _ (by omega)] at c3
      have A1 := hideG a1
      have A2 := hideG a2
      have A3 := hideG a3
      clear a1 a2 a3 a5 k2
      go_wp2_with (at_builtin; refine wpList_append_one _ rfl _ _ 34 rfl (pw + 1) 70 i1 (.slice none 0 0) 24 Tryz.underlying34 hi1 hy0 hy1 hy2 rfl (F 8) (ls 5).length ((ls 5).map owVal) rfl (A2.out.alloc _) ⟨wr.heap.size, 0, none⟩ 1 (.slice (some ⟨g, 0, none⟩) k k) rfl (by simp [go_sem]) rfl (by unfold maxLen; omega) hlen (by simp; omega) ?_)
      intro g3 cap3 w3 ho3 hg3 hv3
      obtain ⟨p1, p2, p3, p4⟩ := own_mid2 HI.out 5 (by omega) A1.out A3.out A2.out hg3
      obtain ⟨c9, c9f⟩ := cell_f p1 14 (by omega)
      rw [upd_other _ _ (by omega)] at c9
      obtain ⟨d3, d3f⟩ := cell_f p1 8 (by omega)
      rw [upd_other _ _ (by omega)] at d3
      have O3 := hideG ho3
      have K3 := hideG hg3
      have V3 := hideG (own_one (n := (ls 5).length + 1) (c := cap3) hv3)
      have P1 := hideG p1
      have P2 := hideG p2
      clear ho3 hg3 hv3 p1 p2 p4 c3 c3f
      go_wp2_with (at_builtin; (refine wpList_append_one _ rfl _ _ 35 rfl (pw + 1) 3 i0 (.int .i64 0) 8 Tryz.underlying35 hi hz0 hz1 hz2 rfl (F 14) (ls 5).length ((ls 5).map fun o => Value.int .i64 o.2.2) rfl ((ownsRow_setCell_below P2.out (by simp) _).alloc _) ⟨w3.heap.size, 0, none⟩ 1 (.int .i64 m) rfl (by simp [go_sem]) rfl (by unfold maxLen; omega) (by omega) (by simp [World.setCell]; omega) ?_))
      intro g5 cap5 w5 ho5 hg5 hv5
      obtain ⟨q1, q2, q3⟩ := own_mid3 HI.out 5 P1.out P2.out (.slice (some ⟨g3, 0, none⟩) ((ls 5).length + 1) cap3) hg5
      obtain ⟨f9, f9f⟩ := cell_f q1 14 (by omega)
      have O5 := hideG ho5
      have K5 := hideG hg5
      have V5 := hideG (own_one (n := (ls 5).length + 1) (c := cap5) hv5)
      clear ho5 hg5 hv5 q1 q3 d3 d3f c9 c9f
      go_wp2_with fail
      go_end0
      have R := own_finish HI.out 5 (by omega) (o := (some g, k, m)) (.slice (some ⟨g3, 0, none⟩) ((ls 5).length + 1) cap3) (.slice (some ⟨g5, 0, none⟩) ((ls 5).length + 1) cap5) W1.out K2.out K3.out O3.out (fun b hb => by simpa [cat] using V3.out b hb) K5.out O5.out (fun b hb => by simpa [World.setCell, cat] using V5.out b hb) (fun x e => by cases e; exact ⟨HF.out, hpg, hgl, filled2_end FI.out⟩) (fun e => by cases e) (by first | exact Nat.zero_le _ | (show k ≤ maxLen; unfold maxLen; omega))
      rw [HM.out]
      exact ⟨rfl, _, R.1, fun b hb hne hf => R.2.1 b hb (by simpa using hne) hf, R.2.2.1, R.2.2.2.mono (fun b e _ => by simpa using e)⟩


end Go.Proofs.YtchideljndagjaaGreat
