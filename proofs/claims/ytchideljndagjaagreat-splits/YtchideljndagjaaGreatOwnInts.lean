/- Contracts of a World's marks and of its owning a list of integers. -/
import Derived.Test.YtchideljndagjaaGreatRows
import Derived.Test.YtchideljndagjaaGreatInv2
import Derived.WalkSpells
namespace Go.Proofs.YtchideljndagjaaGreat
open Go.ChangeShapes Go.WideShapes Go.ChangeAt Go.RowKit
set_option linter.unusedVariables false

theorem infoI : (Tryz.prog.info? 3).map (fun i => (i.zero, i.size, i.bytes)) = some (some (.int .i64 0), 1, 8) := by kernel_rfl
theorem infoL : (Tryz.prog.info? 35).map (fun i => (i.zero, i.size, i.bytes)) = some (some (.slice none 0 0), 1, 24) := by kernel_rfl

/-- The mark that comes next. -/
def mkN (nx : Int) : Int := (nx + 1) % 250 + 1
theorem mkN_lo (nx : Int) : 1 ≤ mkN nx := by unfold mkN; omega
theorem mkN_hi (nx : Int) : mkN nx ≤ 250 := by unfold mkN; omega

theorem mark_calls (pw : Nat) (F : Nat → Value) (nx : Int) (ls : Nat → List Ow) (w : World) (h : InvW w pw F nx ls) (h0 : 0 ≤ nx) (h1 : nx ≤ 1000000000000000000) :
    Calls Tryz.prog 91 #[.pointer (some ⟨pw, 0, none⟩)] w fun e w' => e = .returned (.int .i64 (mkN nx)) ∧ w' = w.setCell ⟨pw, 15, none⟩ (.int .i64 (nx + 1)) := by
  obtain ⟨c1, c2⟩ := cell_f h.blk 15 (by omega)
  rw [h.nxt] at c1
  clear h
  go_enter Tryz.func91, Tryz.ntmps91
  go_wp2
  go_ret
  exact ⟨rfl, rfl⟩

theorem own_one {v : Value} {N g n c : Nat} (h : v.ownBlock = some g ∨ N ≤ g) : ∀ b, (Value.slice (some ⟨g, 0, none⟩) n c).ownBlock = some b → v.ownBlock = some b ∨ N ≤ b := by
  intro b hb
  simp [Value.ownBlock] at hb
  subst hb
  exact h

/-- A block whose first k cells have been written full. -/
def Filled (w : World) (g : Nat) (e : TypeId) (n : Nat) (u : Value) (k : Nat) (wr : World) : Prop :=
  Chg (fun b => b = g) w wr ∧ ∃ cur : Array Value, wr.heap[g]? = some (.cells cur e (0, 0)) ∧ cur.size = n ∧ ∀ j, j < k → cur[j]? = some u

theorem filled_start {w : World} {g : Nat} {e : TypeId} {n : Nat} {u : Value} {cur : Array Value} (h : w.heap[g]? = some (.cells cur e (0, 0))) (hs : cur.size = n) : Filled w g e n u 0 w :=
  ⟨Chg.refl _ _, cur, h, hs, fun j hj => absurd hj (by omega)⟩

theorem filled_cell {w wr : World} {g : Nat} {e : TypeId} {n : Nat} {u : Value} {k : Nat} (h : Filled w g e n u k wr) (j : Nat) (hj : j < n) : (∃ v, wr.cell? ⟨g, j, none⟩ = some v) ∧ wr.frozen? ⟨g, j, none⟩ = false := by
  obtain ⟨_, cur, h1, h2, _⟩ := h
  refine ⟨⟨cur[j]'(by omega), ?_⟩, by simp [World.frozen?, h1]⟩
  simp only [World.cell?, h1]
  simp [h2, hj]

theorem filled_next {w wr : World} {g : Nat} {e : TypeId} {n : Nat} {u : Value} {k : Nat} (h : Filled w g e n u k wr) (hk : k < n) : Filled w g e n u (k + 1) (wr.setCell ⟨g, k, none⟩ u) := by
  obtain ⟨h0, cur, h1, h2, h3⟩ := h
  refine ⟨h0.trans (Chg.setCell wr ⟨g, k, none⟩ u) (fun x hx _ => hx), cur.setIfInBounds k u, heap_setCell_same wr g k cur e u h1, by simp [h2], fun j hj => ?_⟩
  rw [Array.getElem?_setIfInBounds]
  by_cases e : k = j
  · subst e; simp; omega
  · rw [if_neg e]; exact h3 j (by omega)

theorem owCells_ints (b : Option Nat) (n : Nat) (m : Int) : owCells (cat 0) (b, n, m) = List.replicate n (.int .i64 m) := by
  show (List.replicate n [Value.int .i64 m]).flatten = _
  induction n with
  | zero => rfl
  | succ n ih => rw [List.replicate_succ, List.flatten_cons, ih, List.replicate_succ]; rfl

theorem filled_end {w wr : World} {g : Nat} {e : TypeId} {n : Nat} {m : Int} (h : Filled w g e n (.int .i64 m) n wr) : wr.heap[g]? = some (.cells (owCells (cat 0) (some g, n, m)).toArray e (0, 0)) := by
  obtain ⟨_, cur, h1, h2, h3⟩ := h
  rw [h1]
  have e1 := owCells_ints (some g) n m
  rw [e1]
  congr 2
  apply Array.ext_getElem?
  intro i
  by_cases hi : i < n
  · rw [h3 i hi]; simp [hi]
  · rw [Array.getElem?_eq_none (by omega), Array.getElem?_eq_none (by simp; omega)]

set_option maxHeartbeats 1000000 in
set_option maxRecDepth 100000 in
theorem ownInts_calls (pw : Nat) (F : Nat → Value) (nx : Int) (ls : Nat → List Ow) (g n cap : Nat) (cur : Array Value) (w : World) (h : InvW w pw F nx ls) (h0 : 0 ≤ nx) (h1 : nx ≤ 1000000000000000000)
    (hlen : ((ls 0).length + 1) * 24 ≤ 140737488355328) (hg : w.heap[g]? = some (.cells cur 3 (0, 0))) (hcs : cur.size = cap) (hnc : n ≤ cap) (hcm : cap ≤ maxLen) (hpg : pw < g) (hfoot : ¬ Foot F ls g) :
    Calls Tryz.prog 33 #[.pointer (some ⟨pw, 0, none⟩), .slice (some ⟨g, 0, none⟩) n cap] w fun e w' => e = .returned (.tuple #[]) ∧ ∃ F', InvW w' pw F' (nx + 1) (updL ls 0 (ls 0 ++ [(some g, cap, mkN nx)])) ∧
      (∀ b, b < w.heap.size → g ≠ b → ¬ Foot F ls b → ¬ Foot F' (updL ls 0 (ls 0 ++ [(some g, cap, mkN nx)])) b) ∧ (∀ j, j < 3 → F' j = F j) ∧
      Chg (fun b => b = pw ∨ g = b ∨ Foot F ls b) w w' := by
  obtain ⟨i0, hi, hz0, hz1, hz2⟩ := info_parts infoI
  obtain ⟨i1, hi1, hy0, hy1, hy2⟩ := info_parts infoL
  unfold maxLen at hcm
  have m1 := mkN_lo nx
  have m2 := mkN_hi nx
  have hgl : g < w.heap.size := by
    by_cases hb : g < w.heap.size
    · exact hb
    · rw [Array.getElem?_eq_none (by omega)] at hg; cases hg
  have hpl := h.pw_lt
  have HI := hideG h
  have HF := hideG hfoot
  have HG := hideG hg
  have HC := hideG hcs
  clear h hfoot hg hcs
  go_enter Tryz.func33, Tryz.ntmps33
  go_wp2_with fail
  refine (mark_calls pw F nx ls _ HI.out h0 h1).mono ?_
  rintro e w1 ⟨rfl, hw1⟩
  have g1 : w1.heap[g]? = some (.cells cur 3 (0, 0)) := by rw [hw1, Below.heap_setCell _ _ _ _ (by simp; omega)]; exact HG.out
  have W1 := hideG hw1
  have G1 := hideG g1
  clear hw1 g1
  generalize hm : mkN nx = m at *
  have HM := hideG hm
  clear hm
  go_wp2_with fail
  go_loopw [6] (fun i wr => ∃ k : Nat, k ≤ cap ∧ i = .int .i64 k ∧ Filled w1 g 3 cap (.int .i64 m) k wr) (fun i _ => cap - (intOf i).toNat)
  case atStart => exact ⟨0, by omega, rfl, filled_start G1.out HC.out⟩
  case round =>
    obtain ⟨k, hk, rfl, hfill⟩ := hrel
    have FI := hideG hfill
    by_cases hlt : k < cap
    · obtain ⟨⟨v, c1⟩, c2⟩ := filled_cell hfill k hlt
      clear hfill
      go_wp2_with fail
      go_roundw
      case rel => exact ⟨k + 1, by omega, by go_num, filled_next FI.out hlt⟩
      case measure => simp [intOf]; omega
    · have ek : k = cap := by omega
      subst ek
      clear hfill
      have k2 := FI.out.1.mono (S' := fun b => ((some g, k, m) : Ow).1 = some b) (fun b e _ => by rw [e])
      have K2 := hideG k2
      obtain ⟨a1, a2, a3, a4, a5⟩ := own_mid1 HI.out 0 (by omega) W1.out k2 (fun x e => by cases e; exact ⟨HF.out, hpg⟩)
      obtain ⟨c3, c3f⟩ := cell_f a1 3 (by omega)
      rw [upd_other _ _ (by omega)] at c3
      have A1 := hideG a1
      have A2 := hideG a2
      have A3 := hideG a3
      clear a1 a2 a3 a5 k2
      go_wp2_with (at_builtin; refine wpList_append_one _ rfl _ _ 29 rfl (pw + 1) 35 i1 (.slice none 0 0) 24 Tryz.underlying29 hi1 hy0 hy1 hy2 rfl (F 3) (ls 0).length ((ls 0).map owVal) rfl (A2.out.alloc _) ⟨wr.heap.size, 0, none⟩ 1 (.slice (some ⟨g, 0, none⟩) k k) rfl (by simp [go_sem]) rfl (by unfold maxLen; omega) hlen (by simp; omega) ?_)
      intro g3 cap3 w3 ho3 hg3 hv3
      obtain ⟨p1, p2, p3, p4⟩ := own_mid2 HI.out 0 (by omega) A1.out A3.out A2.out hg3
      obtain ⟨c9, c9f⟩ := cell_f p1 9 (by omega)
      rw [upd_other _ _ (by omega)] at c9
      obtain ⟨d3, d3f⟩ := cell_f p1 3 (by omega)
      rw [upd_other _ _ (by omega)] at d3
      have O3 := hideG ho3
      have K3 := hideG hg3
      have V3 := hideG (own_one (n := (ls 0).length + 1) (c := cap3) hv3)
      have P1 := hideG p1
      have P2 := hideG p2
      clear ho3 hg3 hv3 p1 p2 p4 c3 c3f
      go_wp2_with (at_builtin; (refine wpList_append_one _ rfl _ _ 35 rfl (pw + 1) 3 i0 (.int .i64 0) 8 Tryz.underlying35 hi hz0 hz1 hz2 rfl (F 9) (ls 0).length ((ls 0).map fun o => Value.int .i64 o.2.2) rfl ((ownsRow_setCell_below P2.out (by simp) _).alloc _) ⟨w3.heap.size, 0, none⟩ 1 (.int .i64 m) rfl (by simp [go_sem]) rfl (by unfold maxLen; omega) (by omega) (by simp [World.setCell]; omega) ?_))
      intro g5 cap5 w5 ho5 hg5 hv5
      obtain ⟨q1, q2, q3⟩ := own_mid3 HI.out 0 P1.out P2.out (.slice (some ⟨g3, 0, none⟩) ((ls 0).length + 1) cap3) hg5
      obtain ⟨f9, f9f⟩ := cell_f q1 9 (by omega)
      have O5 := hideG ho5
      have K5 := hideG hg5
      have V5 := hideG (own_one (n := (ls 0).length + 1) (c := cap5) hv5)
      clear ho5 hg5 hv5 q1 q3 d3 d3f c9 c9f
      go_wp2_with fail
      go_end0
      have R := own_finish HI.out 0 (by omega) (o := (some g, k, m)) (.slice (some ⟨g3, 0, none⟩) ((ls 0).length + 1) cap3) (.slice (some ⟨g5, 0, none⟩) ((ls 0).length + 1) cap5) W1.out K2.out K3.out O3.out (fun b hb => by simpa [cat] using V3.out b hb) K5.out O5.out (fun b hb => by simpa [World.setCell, cat] using V5.out b hb) (fun x e => by cases e; exact ⟨HF.out, hpg, hgl, filled_end FI.out⟩) (fun e => by cases e) (by first | exact Nat.zero_le _ | (show k ≤ maxLen; unfold maxLen; omega))
      rw [HM.out]
      exact ⟨rfl, _, R.1, fun b hb hne hf => R.2.1 b hb (by simpa using hne) hf, R.2.2.1, R.2.2.2.mono (fun b e _ => by simpa using e)⟩

set_option maxHeartbeats 1000000 in
set_option maxRecDepth 100000 in
theorem ownNil_calls (pw : Nat) (F : Nat → Value) (nx : Int) (ls : Nat → List Ow) (w : World) (h : InvW w pw F nx ls) (h0 : 0 ≤ nx) (h1 : nx ≤ 1000000000000000000)
    (hlen : ((ls 0).length + 1) * 24 ≤ 140737488355328) :
    Calls Tryz.prog 33 #[.pointer (some ⟨pw, 0, none⟩), .slice none 0 0] w fun e w' => e = .returned (.tuple #[]) ∧ ∃ F', InvW w' pw F' (nx + 1) (updL ls 0 (ls 0 ++ [(none, 0, mkN nx)])) ∧
      (∀ b, b < w.heap.size → ¬ Foot F ls b → ¬ Foot F' (updL ls 0 (ls 0 ++ [(none, 0, mkN nx)])) b) ∧ (∀ j, j < 3 → F' j = F j) ∧
      Chg (fun b => b = pw ∨ Foot F ls b) w w' := by
  obtain ⟨i0, hi, hz0, hz1, hz2⟩ := info_parts infoI
  obtain ⟨i1, hi1, hy0, hy1, hy2⟩ := info_parts infoL
  have m1 := mkN_lo nx
  have m2 := mkN_hi nx
  have hpl := h.pw_lt
  have HI := hideG h
  clear h
  go_enter Tryz.func33, Tryz.ntmps33
  go_wp2_with fail
  refine (mark_calls pw F nx ls _ HI.out h0 h1).mono ?_
  rintro e wr ⟨rfl, hw1⟩
  have W1 := hideG hw1
  clear hw1
  generalize hm : mkN nx = m at *
  have HM := hideG hm
  clear hm
  have k2 : Chg (fun b => ((none, 0, m) : Ow).1 = some b) wr wr := Chg.refl _ _
  have K2 := hideG k2
  obtain ⟨a1, a2, a3, a4, a5⟩ := own_mid1 HI.out 0 (by omega) W1.out k2 (fun x e => by cases e)
  obtain ⟨c3, c3f⟩ := cell_f a1 3 (by omega)
  rw [upd_other _ _ (by omega)] at c3
  have A1 := hideG a1
  have A2 := hideG a2
  have A3 := hideG a3
  clear a1 a2 a3 a5 k2
  go_wp2_with fail
  go_loop [6] (fun i => i = .int .i64 0) (fun _ => 0)
  case atStart => rfl
  case round =>
    subst hrel
    go_wp2_with (at_builtin; refine wpList_append_one _ rfl _ _ 29 rfl (pw + 1) 35 i1 (.slice none 0 0) 24 Tryz.underlying29 hi1 hy0 hy1 hy2 rfl (F 3) (ls 0).length ((ls 0).map owVal) rfl (A2.out.alloc _) ⟨wr.heap.size, 0, none⟩ 1 (.slice none 0 0) rfl (by simp [go_sem]) rfl (by unfold maxLen; omega) hlen (by simp; omega) ?_)
    intro g3 cap3 w3 ho3 hg3 hv3
    obtain ⟨p1, p2, p3, p4⟩ := own_mid2 HI.out 0 (by omega) A1.out A3.out A2.out hg3
    obtain ⟨c9, c9f⟩ := cell_f p1 9 (by omega)
    rw [upd_other _ _ (by omega)] at c9
    obtain ⟨d3, d3f⟩ := cell_f p1 3 (by omega)
    rw [upd_other _ _ (by omega)] at d3
    have O3 := hideG ho3
    have K3 := hideG hg3
    have V3 := hideG (own_one (n := (ls 0).length + 1) (c := cap3) hv3)
    have P1 := hideG p1
    have P2 := hideG p2
    clear ho3 hg3 hv3 p1 p2 p4 c3 c3f
    go_wp2_with (at_builtin; (refine wpList_append_one _ rfl _ _ 35 rfl (pw + 1) 3 i0 (.int .i64 0) 8 Tryz.underlying35 hi hz0 hz1 hz2 rfl (F 9) (ls 0).length ((ls 0).map fun o => Value.int .i64 o.2.2) rfl ((ownsRow_setCell_below P2.out (by simp) _).alloc _) ⟨w3.heap.size, 0, none⟩ 1 (.int .i64 m) rfl (by simp [go_sem]) rfl (by unfold maxLen; omega) (by omega) (by simp [World.setCell]; omega) ?_))
    intro g5 cap5 w5 ho5 hg5 hv5
    obtain ⟨q1, q2, q3⟩ := own_mid3 HI.out 0 P1.out P2.out (.slice (some ⟨g3, 0, none⟩) ((ls 0).length + 1) cap3) hg5
    obtain ⟨f9, f9f⟩ := cell_f q1 9 (by omega)
    have O5 := hideG ho5
    have K5 := hideG hg5
    have V5 := hideG (own_one (n := (ls 0).length + 1) (c := cap5) hv5)
    clear ho5 hg5 hv5 q1 q3 d3 d3f c9 c9f
    go_wp2_with fail
    go_end0
    have R := own_finish HI.out 0 (by omega) (o := (none, 0, m)) (.slice (some ⟨g3, 0, none⟩) ((ls 0).length + 1) cap3) (.slice (some ⟨g5, 0, none⟩) ((ls 0).length + 1) cap5) W1.out K2.out K3.out O3.out (fun b hb => by simpa [cat] using V3.out b hb) K5.out O5.out (fun b hb => by simpa [World.setCell, cat] using V5.out b hb) (fun x e => by cases e) (fun _ => rfl) (Nat.zero_le _)
    rw [HM.out]
    exact ⟨rfl, _, R.1, fun b hb hf => R.2.1 b hb (by simp) hf, R.2.2.1, R.2.2.2.mono (fun b e _ => by simpa using e)⟩

end Go.Proofs.YtchideljndagjaaGreat
