/- Contracts of package frame: which Ids a kind can have; isFrame. -/
import Derived.Test.YtgfkgekaodibhaaGreatFrameD
namespace Go.Proofs.YtgfkgekaodibhaaGreat
open Go.ChangeShapes Go.WideShapes Go.ChangeAt Go.RowKit
set_option linter.unusedVariables false

set_option maxHeartbeats 1000000 in
set_option maxRecDepth 100000 in
theorem idsFit_calls (k fr : Int) (v : Value) (l : List Frm.It) (w : World) (h : ItemsAt w v l) :
    Calls Tryz.prog 190 #[.agg #[.int .i64 k, .int .i64 fr, v]] w fun e w' => e = .returned (.bool (Frm.idsB k fr l)) ∧ Below w.heap.size w w' := by
  have HM := hideG (fun (w1 : World) (hb : Below w.heap.size w w1) => h.below hb)
  obtain ⟨a, cap, rfl, l2, l3, _, _⟩ := items_view h
  clear h
  obtain ⟨n, hn⟩ : ∃ n, n = l.length := ⟨_, rfl⟩
  rw [← hn] at l2 HM ⊢
  have HN := hideG hn
  clear hn
  by_cases k1 : k = 1
  · subst k1
    by_cases hn1 : n = 1
    · have H := hideG (show Frm.idsB 1 fr l = !Frm.noneB l fr by show (decide (l.length = 1) && !Frm.noneB l fr) = _; rw [decide_eq_true (by rw [← HN.out]; exact hn1)]; rfl)
      subst hn1
      go_enter Tryz.func190, Tryz.ntmps190
      go_wp2_with fail
      refine (hasId_calls _ l _ _ (HM.out _ (by go_grown))).mono ?_
      rintro e w1 ⟨rfl, hb1⟩
      have B1 := hideG hb1
      clear hb1
      go_wp2_with fail
      go_ret
      exact ⟨ret_bool H.out.symm, ((Below.refl _ _).alloc (Nat.le_refl _) _).trans (B1.out.mono (by simp))⟩
    · have H := hideG (show Frm.idsB 1 fr l = false by show (decide (l.length = 1) && !Frm.noneB l fr) = _; rw [decide_eq_false (by rw [← HN.out]; exact hn1)]; rfl)
      have hn2 : ((n : Int) == 1) = false := by simp; omega
      go_enter Tryz.func190, Tryz.ntmps190
      go_wp2_with fail
      go_ret
      exact ⟨ret_bool H.out.symm, by go_grown⟩
  by_cases k2 : k = 2
  · subst k2
    by_cases hn1 : 1 ≤ n
    · have H := hideG (show Frm.idsB 2 fr l = true from decide_eq_true (by rw [← HN.out]; exact hn1))
      have hn2 : (1 : Int) ≤ (n : Int) := by omega
      go_enter Tryz.func190, Tryz.ntmps190
      go_wp2_with fail
      go_ret
      exact ⟨ret_bool H.out.symm, by go_grown⟩
    · have H := hideG (show Frm.idsB 2 fr l = false from decide_eq_false (by rw [← HN.out]; exact hn1))
      have hn2 : ¬ (1 : Int) ≤ (n : Int) := by omega
      go_enter Tryz.func190, Tryz.ntmps190
      go_wp2_with fail
      go_ret
      exact ⟨ret_bool H.out.symm, by go_grown⟩
  by_cases k6 : k = 6
  · subst k6
    by_cases hn1 : 1 ≤ n
    · have H := hideG (show Frm.idsB 6 fr l = true from decide_eq_true (by rw [← HN.out]; exact hn1))
      have hn2 : (1 : Int) ≤ (n : Int) := by omega
      go_enter Tryz.func190, Tryz.ntmps190
      go_wp2_with fail
      go_ret
      exact ⟨ret_bool H.out.symm, by go_grown⟩
    · have H := hideG (show Frm.idsB 6 fr l = false from decide_eq_false (by rw [← HN.out]; exact hn1))
      have hn2 : ¬ (1 : Int) ≤ (n : Int) := by omega
      go_enter Tryz.func190, Tryz.ntmps190
      go_wp2_with fail
      go_ret
      exact ⟨ret_bool H.out.symm, by go_grown⟩
  by_cases k7 : k = 7
  · subst k7
    by_cases hn1 : 1 ≤ n
    · have H := hideG (show Frm.idsB 7 fr l = true from decide_eq_true (by rw [← HN.out]; exact hn1))
      have hn2 : (1 : Int) ≤ (n : Int) := by omega
      go_enter Tryz.func190, Tryz.ntmps190
      go_wp2_with fail
      go_ret
      exact ⟨ret_bool H.out.symm, by go_grown⟩
    · have H := hideG (show Frm.idsB 7 fr l = false from decide_eq_false (by rw [← HN.out]; exact hn1))
      have hn2 : ¬ (1 : Int) ≤ (n : Int) := by omega
      go_enter Tryz.func190, Tryz.ntmps190
      go_wp2_with fail
      go_ret
      exact ⟨ret_bool H.out.symm, by go_grown⟩
  by_cases k3 : k = 3
  · subst k3
    have H := hideG (show Frm.idsB 3 fr l = Frm.noneB l fr from rfl)
    go_enter Tryz.func190, Tryz.ntmps190
    go_wp2_with fail
    refine (hasId_calls _ l _ _ (HM.out _ (by go_grown))).mono ?_
    rintro e w1 ⟨rfl, hb1⟩
    have B1 := hideG hb1
    clear hb1
    go_wp2_with fail
    go_ret
    exact ⟨ret_bool (by rw [H.out]), ((Below.refl _ _).alloc (Nat.le_refl _) _).trans (B1.out.mono (by simp))⟩
  by_cases k4 : k = 4
  · subst k4
    have H := hideG (show Frm.idsB 4 fr l = true from rfl)
    go_enter Tryz.func190, Tryz.ntmps190
    go_wp2_with fail
    go_ret
    exact ⟨ret_bool H.out.symm, by go_grown⟩
  by_cases k5 : k = 5
  · subst k5
    by_cases hn1 : 1 ≤ n
    · have H := hideG (show Frm.idsB 5 fr l = Frm.countB l by show (decide (1 ≤ l.length) && Frm.countB l) = _; rw [decide_eq_true (by rw [← HN.out]; exact hn1)]; rfl)
      have hn2 : (1 : Int) ≤ (n : Int) := by omega
      go_enter Tryz.func190, Tryz.ntmps190
      go_wp2_with fail
      refine (areCounted_calls _ l _ (HM.out _ (by go_grown))).mono ?_
      rintro e w1 ⟨rfl, hb1⟩
      have B1 := hideG hb1
      clear hb1
      go_wp2_with fail
      go_ret
      exact ⟨ret_bool H.out.symm, ((Below.refl _ _).alloc (Nat.le_refl _) _).trans (B1.out.mono (by simp))⟩
    · have H := hideG (show Frm.idsB 5 fr l = false by show (decide (1 ≤ l.length) && Frm.countB l) = _; rw [decide_eq_false (by rw [← HN.out]; exact hn1)]; rfl)
      have hn2 : ¬ (1 : Int) ≤ (n : Int) := by omega
      go_enter Tryz.func190, Tryz.ntmps190
      go_wp2_with fail
      go_ret
      exact ⟨ret_bool H.out.symm, by go_grown⟩
  have H := hideG (show Frm.idsB k fr l = false by unfold Frm.idsB; rw [if_neg (by omega), if_neg (by omega), if_neg (by omega), if_neg (by omega), if_neg (by omega)])
  go_enter Tryz.func190, Tryz.ntmps190
  go_wp2_with fail
  go_ret
  exact ⟨ret_bool H.out.symm, by go_grown⟩

set_option maxHeartbeats 1000000 in
set_option maxRecDepth 100000 in
theorem isFrame_calls (k fr : Int) (v : Value) (l : List Frm.It) (w : World) (h : ItemsAt w v l) :
    Calls Tryz.prog 144 #[.agg #[.int .i64 k, .int .i64 fr, v]] w fun e w' => e = .returned (.bool (Frm.okF k fr l)) ∧ Below w.heap.size w w' := by
  have HM := hideG (fun (w1 : World) (hb : Below w.heap.size w w1) => h.below hb)
  have HO := hideG (show Frm.okF k fr l = (decide (l.length ≤ 12) && (Frm.fromB k fr && (Frm.riseB l && (Frm.idsB k fr l && Frm.numsB k l)))) from rfl)
  obtain ⟨a, cap, rfl, l2, l3, _, _⟩ := items_view h
  clear h
  obtain ⟨n, hn⟩ : ∃ n, n = l.length := ⟨_, rfl⟩
  rw [← hn] at l2 HM HO ⊢
  clear hn
  by_cases t : 12 < (n : Int)
  · have H := hideG (show Frm.okF k fr l = false by rw [HO.out, decide_eq_false (by omega)]; rfl)
    go_enter Tryz.func144, Tryz.ntmps144
    go_wp2_with fail
    go_ret
    exact ⟨ret_bool H.out.symm, by go_grown⟩
  have HL := hideG (show Frm.okF k fr l = (Frm.fromB k fr && (Frm.riseB l && (Frm.idsB k fr l && Frm.numsB k l))) by rw [HO.out, decide_eq_true (by omega)]; rfl)
  clear HO
  obtain ⟨bx, hbx⟩ : ∃ bx, bx = w.alloc (.cells #[.int .i64 k, .int .i64 fr, .slice a n cap] 40) := ⟨_, rfl⟩
  have sbx : bx.heap.size = w.heap.size + 1 := by rw [hbx]; simp
  have CB := hideG (show ∀ w1, Below bx.heap.size bx w1 → w1.cell? ⟨w.heap.size, 0, none⟩ = some (.int .i64 k) ∧ w1.cell? ⟨w.heap.size, 1, none⟩ = some (.int .i64 fr) ∧ w1.cell? ⟨w.heap.size, 2, none⟩ = some (.slice a n cap) from fun w1 hb => by
    have hlt : w.heap.size < bx.heap.size := by omega
    rw [hb.cell (p := ⟨w.heap.size, 0, none⟩) hlt, hb.cell (p := ⟨w.heap.size, 1, none⟩) hlt, hb.cell (p := ⟨w.heap.size, 2, none⟩) hlt, hbx]
    refine ⟨?_, ?_, ?_⟩ <;> simp [go_sem])
  have BX := hideG (show Below w.heap.size w bx by rw [hbx]; exact (Below.refl _ _).alloc (Nat.le_refl _) _)
  obtain ⟨e0, e1, e2⟩ := CB.out bx (Below.refl _ _)
  go_enter Tryz.func144, Tryz.ntmps144
  go_wp2_with fail
  rw [← hbx]
  clear hbx
  refine (fromFits_calls _ _ _ _).mono ?_
  rintro e w1 ⟨rfl, hb1⟩
  have B1 := hideG hb1
  obtain ⟨f0, f1, f2⟩ := CB.out w1 hb1
  clear hb1 e0 e1 e2
  cases q1 : Frm.fromB k fr
  · rw [q1] at HL
    go_wp2_with fail
    go_ret
    exact ⟨ret_bool (by rw [HL.out]; rfl), BX.out.trans (B1.out.mono (by omega))⟩
  rw [q1] at HL
  go_wp2_with fail
  refine (idsRise_calls _ l _ (HM.out _ (BX.out.trans (B1.out.mono (by omega))))).mono ?_
  rintro e w2 ⟨rfl, hb2⟩
  have B2 := hideG (B1.out.trans (hb2.mono B1.out.size))
  clear hb2 f0 f1 f2
  obtain ⟨f0, f1, f2⟩ := CB.out w2 B2.out
  cases q2 : Frm.riseB l
  · rw [q2] at HL
    go_wp2_with fail
    go_ret
    exact ⟨ret_bool (by rw [HL.out]; rfl), BX.out.trans (B2.out.mono (by omega))⟩
  rw [q2] at HL
  go_wp2_with fail
  refine (idsFit_calls _ _ _ l _ (HM.out _ (BX.out.trans (B2.out.mono (by omega))))).mono ?_
  rintro e w3 ⟨rfl, hb3⟩
  have B3 := hideG (B2.out.trans (hb3.mono B2.out.size))
  clear hb3 f0 f1 f2
  obtain ⟨f0, f1, f2⟩ := CB.out w3 B3.out
  cases q3 : Frm.idsB k fr l
  · rw [q3] at HL
    go_wp2_with fail
    go_ret
    exact ⟨ret_bool (by rw [HL.out]; rfl), BX.out.trans (B3.out.mono (by omega))⟩
  rw [q3] at HL
  go_wp2_with fail
  refine (numbersFit_calls _ _ _ l _ (HM.out _ (BX.out.trans (B3.out.mono (by omega))))).mono ?_
  rintro e w4 ⟨rfl, hb4⟩
  have B4 := hideG (B3.out.trans (hb4.mono B3.out.size))
  clear hb4 f0 f1 f2
  go_wp2_with fail
  go_ret
  exact ⟨ret_bool (by rw [HL.out]; rfl), BX.out.trans (B4.out.mono (by omega))⟩

end Go.Proofs.YtgfkgekaodibhaaGreat
