/- Lists of numbers that are handed in: giveInts and stillInts. -/
import Derived.Test.YtchideljndagjaaGreatLook2
import Derived.Laws.CopyOwn
import Derived.Laws.MakeOwn
namespace Go.Proofs.YtchideljndagjaaGreat
open Go.RowKit
set_option linter.unusedVariables false

theorem infoGi : (Tryz.prog.info? 3).map (fun i => (i.zero, i.size, i.bytes)) = some (some (.int .i64 0), 1, 8) := by kernel_rfl
theorem sizeGi : (Tryz.prog.info? 3).map (·.size) = some 1 := by kernel_rfl

/-- The list, and behind it k marks and what is left of three noughts. -/
def given (zs : List Int) (k : Nat) : List Value := zs.map (Value.int .i64) ++ (List.replicate k (.int .i64 77) ++ List.replicate (3 - k) (.int .i64 0))

theorem given_length (zs : List Int) (k : Nat) (hk : k ≤ 3) : (given zs k).length = zs.length + 3 := by simp [given]; omega

theorem given_set (zs : List Int) (k : Nat) (hk : k < 3) : (given zs k).set (zs.length + k) (.int .i64 77) = given zs (k + 1) := by
  unfold given
  rw [List.set_append_right _ _ (by simp)]
  simp only [List.length_map, Nat.add_sub_cancel_left]
  rcases (show k = 0 ∨ k = 1 ∨ k = 2 by omega) with rfl | rfl | rfl <;> rfl

theorem row_of_full {w : World} {B g n : Nat} {e : TypeId} {xs : List Value} (h : w.ownsRow B e 1 (.slice (some ⟨g, 0, none⟩) n n) n xs) : w.heap[g]? = some (.cells xs.toArray e (0, 0)) := by
  have hl := h.1
  rcases h.2 with ⟨e0, _⟩ | ⟨g', cap, cur, e0, _, hg, _, _, hcs, htake⟩
  · cases e0
  · cases e0
    rw [hg]
    congr 2
    have : cur.toList.take (n * 1) = cur.toList := List.take_of_length_le (by simp; omega)
    rw [this] at htake
    rw [← htake]

theorem row_set {w : World} {g : Nat} {e : TypeId} {xs : List Value} (h : w.heap[g]? = some (.cells xs.toArray e (0, 0))) (k : Nat) (u : Value) :
    (w.setCell ⟨g, k, none⟩ u).heap[g]? = some (.cells (xs.set k u).toArray e (0, 0)) := by
  rw [setCell_eq_setRow w g k _ e (0, 0) u h, setRow_heap w g _ _ e _ h]
  simp

theorem row_cell {w : World} {g : Nat} {e : TypeId} {xs : List Value} (h : w.heap[g]? = some (.cells xs.toArray e (0, 0))) (k : Nat) (hk : k < xs.length) :
    w.cell? ⟨g, k, none⟩ = xs[k]? ∧ w.frozen? ⟨g, k, none⟩ = false := by
  constructor
  · simp [World.cell?, h]
  · simp [World.frozen?, h]

set_option maxHeartbeats 1000000 in
set_option maxRecDepth 100000 in
theorem giveInts_calls (v : Value) (zs : List Int) (w : World) (h : ListAt w v zs) (hb : zs.length * 8 ≤ 140737488351232) :
    Calls Tryz.prog 80 #[v] w fun e w' => ∃ g, w.heap.size ≤ g ∧ e = .returned (.slice (some ⟨g, 0, none⟩) zs.length (zs.length + 3)) ∧
      w'.heap[g]? = some (.cells (given zs 3).toArray 3 (0, 0)) ∧ Below w.heap.size w w' := by
  obtain ⟨i0, hi, hz0, hz1, hz2⟩ := info_parts infoGi
  obtain ⟨a, cap, rfl, l2, l3, l4, l5⟩ := h
  unfold maxLen at l3
  have HL := hideG l5
  clear l4 l5
  obtain ⟨n, hn⟩ : ∃ n, n = zs.length := ⟨_, rfl⟩
  rw [← hn] at l2 hb ⊢
  have HN := hideG hn
  clear hn
  have en : ((n : Int) + 3).toNat = n + 3 := by omega
  go_enter Tryz.func80, Tryz.ntmps80
  go_wp2_with (at_make; refine wpList_make_full _ rfl _ _ 35 rfl w.heap.size 3 i0 (.int .i64 0) 1 Tryz.underlying35 hi hz0 hz1 _ _ _ _ (n + 3) rfl rfl (by omega) (by omega) ?m1 ?m2 ?m3 ?_)
  case m1 => rw [hz2]; omega
  case m2 => unfold maxLen; omega
  case m3 => exact Nat.le_refl _
  intro w2 hown2 hgrow2
  have hr := row_of_full hown2
  have hb2 : Below w.heap.size w w2 := (Below.refl _ _).grown hgrow2 (Nat.le_refl _) (by simp)
  rw [toList_madeCells_one] at hr
  have HR := hideG hr
  have HB := hideG hb2
  clear hr hb2 hown2 hgrow2
  generalize hg : w.heap.size = B at *
  have HG := hideG hg
  obtain ⟨X, hX⟩ : ∃ X, X = zs.map (Value.int .i64) := ⟨_, rfl⟩
  have HX := hideG hX
  have hXl := hideG (show X.length = n by rw [hX, HN.out]; simp)
  clear hX
  go_wp2_with (refine wpList_copy_splice rfl _ _ 35 35 rfl 3 Tryz.underlying35 sizeGi _ _ _ _ _ _ rfl rfl B 0 _ 3 HR.out X ?c1 ?c2 ?c3 ?c4 B w HB.out (Nat.le_refl _) ?_)
  case c1 => rw [hXl.out]; simp
  case c2 =>
    intro hp
    try refine ⟨rfl, ?_⟩
    rcases HL.out with e | ⟨b, off, e1, e2, e3⟩
    · rw [HX.out, e] at hp; simp at hp
    · refine ⟨_, e1, fun j u hj => ?_⟩
      rw [HX.out, List.getElem?_map, Option.map_eq_some_iff] at hj
      obtain ⟨z, hz, rfl⟩ := hj
      have hjl : j < zs.length := (List.getElem?_eq_some_iff.1 hz).1
      have := e3 j hjl
      rw [List.getD_eq_getElem?_getD, hz] at this
      rw [← HG.out] at e2
      rw [show (⟨b, off, none⟩ : Addr).add j = ⟨b, off + j, none⟩ from by unfold Addr.add; simp]
      rw [HB.out.cell (p := ⟨b, off + j, none⟩) (by rw [← HG.out]; exact e2)]
      exact this
  case c3 => simp [hXl.out]
  case c4 => intro u hu; rw [HX.out] at hu; simp at hu; obtain ⟨z, _, rfl⟩ := hu; rfl
  intro w3 HR3 hb3
  have HB3 := hideG hb3
  clear hb3
  have es : splice (List.replicate (n + 3) (Value.int .i64 0)) 0 X = given zs 0 := by
    unfold splice given
    rw [HX.out, HN.out]
    simp
  have hr3 := HR3.out
  rw [es] at hr3
  have HR3' := hideG hr3
  clear hr3 HR3 es
  go_wp2_with fail
  go_loopw [4] (fun i wr => ∃ j : Nat, n ≤ j ∧ j ≤ n + 3 ∧ i = .int .i64 j ∧ wr.heap[B]? = some (.cells (given zs (j - n)).toArray 3 (0, 0)) ∧ Below B w wr) (fun i _ => n + 3 - (intOf i).toNat)
  case atStart => exact ⟨n, Nat.le_refl _, by omega, rfl, by rw [Nat.sub_self]; exact HR3'.out, HB3.out⟩
  case round =>
    obtain ⟨j, hj1, hj2, rfl, hr, hbel⟩ := hrel
    have HR4 := hideG hr
    have HB4 := hideG hbel
    by_cases hlt : j < n + 3
    · obtain ⟨c1, c2⟩ := row_cell hr j (by rw [given_length _ _ (by omega), ← HN.out]; exact hlt)
      obtain ⟨u, hu⟩ : ∃ u, (given zs (j - n))[j]? = some u := ⟨_, List.getElem?_eq_getElem (by rw [given_length _ _ (by omega), ← HN.out]; exact hlt)⟩
      rw [hu] at c1
      clear hr hbel hu
      go_wp2_with fail
      go_roundw
      case rel =>
        have R := row_set HR4.out j (.int .i64 77)
        have e := given_set zs (j - n) (by omega)
        rw [← HN.out, show n + (j - n) = j by omega, show j - n + 1 = j + 1 - n by omega] at e
        rw [e] at R
        exact ⟨j + 1, by omega, by omega, by go_num, R, HB4.out.setCell (p := ⟨B, j, none⟩) (Nat.le_refl _) _⟩
      case measure => simp [intOf]; omega
    · have ej : j = n + 3 := by omega
      subst ej
      clear hr hbel
      go_wp2_with fail
      go_ret
      have R := HR4.out
      rw [Nat.add_sub_cancel_left] at R
      exact ⟨B, by rw [HG.out]; exact Nat.le_refl _, rfl, R, by rw [HG.out]; exact HB4.out⟩

/-- A list that was handed in is as it was. -/
theorem stillInts_calls (v : Value) (zs : List Int) (w : World) (g : Nat) (h : ListAt w v zs) (hb : zs.length * 8 ≤ 140737488351232) (hg : w.heap[g]? = some (.cells (given zs 3).toArray 3 (0, 0))) :
    Calls Tryz.prog 83 #[.slice (some ⟨g, 0, none⟩) zs.length (zs.length + 3), v] w fun e w' => e = .returned (.bool true) ∧ ∃ nq, w' = w.drewN nq := by
  have hcell : ∀ i, i < zs.length + 3 → w.cell? ⟨g, i, none⟩ = some (.int .i64 (if i < zs.length then zs.getD i 0 else 77)) := by
    intro i hi
    rw [(row_cell hg i (by rw [given_length _ _ (Nat.le_refl _)]; exact hi)).1]
    unfold given
    by_cases h1 : i < zs.length
    · rw [if_pos h1, List.getElem?_append_left (by simpa using h1), List.getElem?_map, List.getElem?_eq_getElem h1, List.getD_eq_getElem?_getD, List.getElem?_eq_getElem h1]; rfl
    · rw [if_neg h1, List.getElem?_append_right (by simp; omega)]
      rw [List.getElem?_append_left (by simp; omega), List.getElem?_replicate, if_pos (by simp; omega)]
  obtain ⟨a, cap, rfl, l2, l3, l4, l5⟩ := h
  unfold maxLen at l3
  have HL := hideG l5
  have HC := hideG hcell
  clear l4 l5 hcell hg
  obtain ⟨n, hn⟩ : ∃ n, n = zs.length := ⟨_, rfl⟩
  rw [← hn] at l2 hb HC ⊢
  have HN := hideG hn
  clear hn
  have en : ((n : Int) + 3).toNat = n + 3 := by omega
  go_enter Tryz.func83, Tryz.ntmps83
  go_wp2_with fail
  go_loopw [6] (fun i wr => ∃ k nq : Nat, k ≤ n + 3 ∧ i = .int .i64 k ∧ wr = w.drewN nq) (fun i _ => n + 3 - (intOf i).toNat)
  case atStart => exact ⟨0, 0, by omega, rfl, rfl⟩
  case round =>
    obtain ⟨k, nq, hk, rfl, rfl⟩ := hrel
    by_cases hlt : k < n + 3
    · have c1 := HC.out k hlt
      by_cases hlt2 : k < n
      · rw [if_pos hlt2] at c1
        obtain ⟨g2, o2, rfl, q2⟩ : ∃ g off, a = some ⟨g, off, none⟩ ∧ w.cell? ⟨g, off + k, none⟩ = some (.int .i64 (zs.getD k 0)) := by
          rcases HL.out with h | ⟨g, off, h1, _, h2⟩
          · have := HN.out; rw [h] at this; simp at this; omega
          · exact ⟨g, off, h1, h2 k (by rw [← HN.out]; exact hlt2)⟩
        generalize zs.getD k 0 = z at *
        have ez : (z != z) = false := by simp
        have hk0 : (0 : Int) ≤ (k : Int) := by omega
        have hk1 : (k : Int) < (n : Int) := by omega
        have hk2 : (k : Int) < (n : Int) + 3 := by omega
        have hd : decide (n ≤ k) = false := by simp; omega
        go_wp2_with fail
        go_quiet (fail)
        go_wp2_with fail
        go_roundw
        case rel => exact ⟨k + 1, _, by omega, by go_num, rfl⟩
        case measure => simp [intOf]; omega
      · rw [if_neg hlt2] at c1
        have hk0 : (0 : Int) ≤ (k : Int) := by omega
        have hk1 : ¬ ((k : Int) < (n : Int)) := by omega
        have hk2 : (k : Int) < (n : Int) + 3 := by omega
        have hk3 : (n : Int) ≤ (k : Int) := by omega
        have hd : decide (n ≤ k) = true := by simp; omega
        have hd2 : decide (k < n) = false := by simp; omega
        go_wp2_with fail
        go_quiet (fail)
        go_wp2_with fail
        go_roundw
        case rel => exact ⟨k + 1, _, by omega, by go_num, rfl⟩
        case measure => simp [intOf]; omega
    · go_wp2_with fail
      go_ret
      exact ⟨rfl, nq, rfl⟩

end Go.Proofs.YtchideljndagjaaGreat
