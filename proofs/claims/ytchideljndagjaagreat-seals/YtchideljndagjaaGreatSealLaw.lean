/- Contracts of the steps of a script: Seal and Open. -/
import Derived.Test.YtchideljndagjaaGreatMemAll
import Derived.Test.YtchideljndagjaaGreatPadAll
import Derived.Test.YtchideljndagjaaGreatRefSeal
import Derived.Test.YtchideljndagjaaGreatPlays
namespace Go.Proofs.YtchideljndagjaaGreat
open Go.ChangeShapes Go.WideShapes Go.ChangeAt Go.RowKit
set_option linter.unusedVariables false

theorem at_calls (v : Value) (i : Nat) (zs : List Int) (w : World) (hi : i ≤ 2) (h : ListAt w v zs) :
    Calls Tryz.prog 93 #[v, .int .i64 (i : Int)] w fun e w' => e = .returned (.int .i64 (zs.getD i 0)) ∧ w' = w := by
  obtain ⟨a, cap, rfl, h2, h3, h4, h5⟩ := h
  unfold maxLen at h3
  by_cases hlt : i < zs.length
  · obtain ⟨b, off, rfl, _, hc⟩ : ∃ b off, a = some ⟨b, off, none⟩ ∧ b < w.heap.size ∧ ∀ i, i < zs.length → w.cell? ⟨b, off + i, none⟩ = some (.int .i64 (zs.getD i 0)) := by
      rcases h5 with h5 | h5
      · rw [h5] at hlt; simp at hlt
      · exact h5
    have c0 := hc i hlt
    obtain ⟨x, hx⟩ : ∃ x, x = zs.getD i 0 := ⟨_, rfl⟩
    rw [← hx] at c0 ⊢
    clear hc h4 hx
    go_enter Tryz.func93, Tryz.ntmps93
    go_wp2
    go_ret
    exact ⟨rfl, rfl⟩
  · have H := hideG (show (0 : Int) = zs.getD i 0 by rw [List.getD_eq_getElem?_getD, List.getElem?_eq_none (by omega)]; rfl)
    clear h4 h5
    go_enter Tryz.func93, Tryz.ntmps93
    go_wp2
    go_ret
    exact ⟨congrArg (fun x => Ending.returned (.int .i64 x)) H.out, rfl⟩

theorem at0 (v : Value) (zs : List Int) (w : World) (h : ListAt w v zs) :
    Calls Tryz.prog 93 #[v, .int .i64 0] w fun e w' => e = .returned (.int .i64 (zs.getD 0 0)) ∧ w' = w := at_calls v 0 zs w (by omega) h

theorem at1 (v : Value) (zs : List Int) (w : World) (h : ListAt w v zs) :
    Calls Tryz.prog 93 #[v, .int .i64 1] w fun e w' => e = .returned (.int .i64 (zs.getD 1 0)) ∧ w' = w := at_calls v 1 zs w (by omega) h

theorem at2 (v : Value) (zs : List Int) (w : World) (h : ListAt w v zs) :
    Calls Tryz.prog 93 #[v, .int .i64 2] w fun e w' => e = .returned (.int .i64 (zs.getD 2 0)) ∧ w' = w := at_calls v 2 zs w (by omega) h

/-- Both answer alike: the program's Seal and the document's. -/
theorem both_seal (k a b x y : Int) : ∃ v0 v1 v2 v3 : Int, ∀ w,
    Calls Tryz.prog 92 #[.int .i64 k, .int .i64 a, .int .i64 b, .int .i64 x, .int .i64 y] w (fun en w' => en = .returned (.tuple #[.int .i64 v0, .int .i64 v1, .int .i64 v2, .int .i64 v3]) ∧ w' = w) ∧
    Calls Tryz.prog 94 #[.int .i64 k, .int .i64 a, .int .i64 b, .int .i64 x, .int .i64 y] w (fun en w' => en = .returned (.tuple #[.int .i64 v0, .int .i64 v1, .int .i64 v2, .int .i64 v3]) ∧ Below w.heap.size w w') := by
  cases h : (Num.elB k && (Num.clB a && Num.clB b) && (Num.elB x && Num.elB y))
  · have h2 : (Num.elB k && (Num.elB x && (Num.elB y && (Num.clB a && Num.clB b)))) = false := by
      cases h1 : Num.elB k <;> cases h2 : Num.elB x <;> cases h3 : Num.elB y <;> cases h4 : Num.clB a <;> cases h5 : Num.clB b <;> simp_all
    exact ⟨0, 0, 0, 1, fun w => ⟨veilSeal _ _ _ _ _ _ _ _ _ _ (seal_no _ _ _ _ _ _ h), (rSeal_no _ _ _ _ _ _ h2).mono fun e w' h => ⟨h.1, by rw [h.2]; exact Below.refl _ _⟩⟩⟩
  · simp only [Bool.and_eq_true, Num.elB_iff, Num.clB_iff] at h
    obtain ⟨⟨⟨k1, k2⟩, ⟨a1, a2⟩, b1, b2⟩, ⟨x1, x2⟩, y1, y2⟩ := h
    exact ⟨_, _, _, _, fun w => ⟨veilSeal _ _ _ _ _ _ _ _ _ _ (seal_yes _ _ _ _ _ _ k1 k2 a1 a2 b1 b2 x1 x2 y1 y2), rSeal_yes _ _ _ _ _ _ k1 k2 a1 a2 b1 b2 x1 x2 y1 y2⟩⟩

theorem both_open (k a b x y z : Int) : ∃ v0 v1 v2 : Int, ∀ w,
    Calls Tryz.prog 95 #[.int .i64 k, .int .i64 a, .int .i64 b, .int .i64 x, .int .i64 y, .int .i64 z] w (fun en w' => en = .returned (.tuple #[.int .i64 v0, .int .i64 v1, .int .i64 v2]) ∧ w' = w) ∧
    Calls Tryz.prog 96 #[.int .i64 k, .int .i64 a, .int .i64 b, .int .i64 x, .int .i64 y, .int .i64 z] w (fun en w' => en = .returned (.tuple #[.int .i64 v0, .int .i64 v1, .int .i64 v2]) ∧ Below w.heap.size w w') := by
  cases h : (Num.elB k && (Num.clB a && Num.clB b) && (Num.elB x && (Num.elB y && Num.elB z)))
  · have h2 : (Num.elB k && (Num.elB x && (Num.elB y && (Num.elB z && (Num.clB a && Num.clB b))))) = false := by
      cases h1 : Num.elB k <;> cases h2 : Num.elB x <;> cases h3 : Num.elB y <;> cases h6 : Num.elB z <;> cases h4 : Num.clB a <;> cases h5 : Num.clB b <;> simp_all
    exact ⟨0, 0, 1, fun w => ⟨veilOpen _ _ _ _ _ _ _ _ _ _ (open_no _ _ _ _ _ _ _ h), (rOpen_no _ _ _ _ _ _ _ h2).mono fun e w' h => ⟨h.1, by rw [h.2]; exact Below.refl _ _⟩⟩⟩
  · simp only [Bool.and_eq_true, Num.elB_iff, Num.clB_iff] at h
    obtain ⟨⟨⟨k1, k2⟩, ⟨a1, a2⟩, b1, b2⟩, ⟨x1, x2⟩, ⟨y1, y2⟩, z1, z2⟩ := h
    cases ht : (Num.tagN k (64 * a + 4 * b) x y != z)
    · exact ⟨_, _, _, fun w => ⟨veilOpen _ _ _ _ _ _ _ _ _ _ (open_yes _ _ _ _ _ _ _ k1 k2 a1 a2 b1 b2 x1 x2 y1 y2 z1 z2 ht), rOpen_yes _ _ _ _ _ _ _ k1 k2 a1 a2 b1 b2 x1 x2 y1 y2 z1 z2 ht⟩⟩
    · exact ⟨_, _, _, fun w => ⟨veilOpen _ _ _ _ _ _ _ _ _ _ (open_tag _ _ _ _ _ _ _ k1 k2 a1 a2 b1 b2 x1 x2 y1 y2 z1 z2 ht), rOpen_tag _ _ _ _ _ _ _ k1 k2 a1 a2 b1 b2 x1 x2 y1 y2 z1 z2 ht⟩⟩

set_option maxHeartbeats 1000000 in
set_option maxRecDepth 100000 in
theorem sealed_seal (x y z : Int) (l s f0 f1 f2 g0 g1 g2 g3 d : Value) (zs : List Int) (w : World) (hl : ListAt w l zs) :
    Calls Tryz.prog 34 #[.agg #[.int .i64 6, .int .i64 x, .int .i64 y, .int .i64 z, l, s, f0, f1, f2, g0, g1, g2, g3, d]] w fun e w' => e = .returned (.bool true) ∧ Below w.heap.size w w' := by
  obtain ⟨v0, v1, v2, v3, hb⟩ := both_seal x y z (zs.getD 0 0) (zs.getD 1 0)
  have HB := hideG hb
  have HM := hideG fun (w1 : World) (h : Below w.heap.size w w1) => hl.below h
  clear hb hl
  have e0 : (v0 == v0) = true := by simp
  have e1 : (v1 == v1) = true := by simp
  have e2 : (v2 == v2) = true := by simp
  have e3 : (v3 == v3) = true := by simp
  go_enter Tryz.func34, Tryz.ntmps34
  go_wp2_with fail
  refine wp_region_grow (by kernel_rfl) (by kernel_rfl) ?_
  intro I G hI hG hGc hGn
  repeat (go_big_quiet_step (first | (go_at_call_of 93 (Value.int IntKind.i64 0); exact call_same (at0 l zs _ (HM.out _ (((Below.refl _ _).alloc (Nat.le_refl _) _).trans ((hG.out _).mono (by simp)))))) | (go_at_call_of 93 (Value.int IntKind.i64 1); exact call_same (at1 l zs _ (HM.out _ (((Below.refl _ _).alloc (Nat.le_refl _) _).trans ((hG.out _).mono (by simp)))))) | (go_at_call_of 93 (Value.int IntKind.i64 2); exact call_same (at2 l zs _ (HM.out _ (((Below.refl _ _).alloc (Nat.le_refl _) _).trans ((hG.out _).mono (by simp)))))) | (go_at_call 92; exact call_same (HB.out _).1)))
  refine wpQuiet_nil ?_
  intro w1 hw'
  obtain ⟨u, hw''⟩ := hw'
  have hw1 := hG.out u
  rw [← hw''] at hw1
  clear hw'' hGc hGn hG u hI G I
  obtain ⟨hcw1, hfw1⟩ := bcell hw1
  have Hw1 := hideG hw1
  have hzw1 : w.heap.size < w1.heap.size := by have := hw1.size; (try simp at this); omega
  clear hw1
  go_wp2_with fail
  refine wp_region_grow (by kernel_rfl) (by kernel_rfl) ?_
  intro I G hI hG hGc hGn
  repeat (go_big_quiet_step (first | (go_at_call_of 93 (Value.int IntKind.i64 0); exact call_same (at0 l zs _ (HM.out _ ((((Below.refl _ _).alloc (Nat.le_refl _) _).trans (Hw1.out.mono (by simp))).trans ((hG.out _).mono (by omega)))))) | (go_at_call_of 93 (Value.int IntKind.i64 1); exact call_same (at1 l zs _ (HM.out _ ((((Below.refl _ _).alloc (Nat.le_refl _) _).trans (Hw1.out.mono (by simp))).trans ((hG.out _).mono (by omega)))))) | (go_at_call_of 93 (Value.int IntKind.i64 2); exact call_same (at2 l zs _ (HM.out _ ((((Below.refl _ _).alloc (Nat.le_refl _) _).trans (Hw1.out.mono (by simp))).trans ((hG.out _).mono (by omega)))))) | (go_at_call 94; exact call_grow hG hGn (HB.out _).2)))
  refine wpQuiet_nil ?_
  intro w2 hw'
  obtain ⟨u, hw''⟩ := hw'
  have hw2 := hG.out u
  rw [← hw''] at hw2
  clear hw'' hGc hGn hG u hI G I
  obtain ⟨hcw2, hfw2⟩ := bcell hw2
  have Hw2 := hideG hw2
  have hzw2 : w.heap.size < w2.heap.size := by have := hw2.size; (try simp at this); omega
  clear hw2
  go_wp2_with fail
  refine (num_calls _ _).mono ?_
  rintro e w' ⟨rfl, rfl⟩
  go_wp2_with fail
  refine (num_calls _ _).mono ?_
  rintro e w' ⟨rfl, rfl⟩
  go_wp2_with fail
  go_ret
  exact ⟨rfl, (((Below.refl _ _).alloc (Nat.le_refl _) _).trans (Hw1.out.mono (by simp))).trans (Hw2.out.mono (by omega))⟩

set_option maxHeartbeats 1000000 in
set_option maxRecDepth 100000 in
theorem sealed_open (x y z : Int) (l s f0 f1 f2 g0 g1 g2 g3 d : Value) (zs : List Int) (w : World) (hl : ListAt w l zs) :
    Calls Tryz.prog 34 #[.agg #[.int .i64 7, .int .i64 x, .int .i64 y, .int .i64 z, l, s, f0, f1, f2, g0, g1, g2, g3, d]] w fun e w' => e = .returned (.bool true) ∧ Below w.heap.size w w' := by
  obtain ⟨v0, v1, v2, hb⟩ := both_open x y z (zs.getD 0 0) (zs.getD 1 0) (zs.getD 2 0)
  have HB := hideG hb
  have HM := hideG fun (w1 : World) (h : Below w.heap.size w w1) => hl.below h
  clear hb hl
  have e0 : (v0 == v0) = true := by simp
  have e1 : (v1 == v1) = true := by simp
  have e2 : (v2 == v2) = true := by simp
  go_enter Tryz.func34, Tryz.ntmps34
  go_wp2_with fail
  refine wp_region_grow (by kernel_rfl) (by kernel_rfl) ?_
  intro I G hI hG hGc hGn
  repeat (go_big_quiet_step (first | (go_at_call_of 93 (Value.int IntKind.i64 0); exact call_same (at0 l zs _ (HM.out _ (((Below.refl _ _).alloc (Nat.le_refl _) _).trans ((hG.out _).mono (by simp)))))) | (go_at_call_of 93 (Value.int IntKind.i64 1); exact call_same (at1 l zs _ (HM.out _ (((Below.refl _ _).alloc (Nat.le_refl _) _).trans ((hG.out _).mono (by simp)))))) | (go_at_call_of 93 (Value.int IntKind.i64 2); exact call_same (at2 l zs _ (HM.out _ (((Below.refl _ _).alloc (Nat.le_refl _) _).trans ((hG.out _).mono (by simp)))))) | (go_at_call 95; exact call_same (HB.out _).1)))
  refine wpQuiet_nil ?_
  intro w1 hw'
  obtain ⟨u, hw''⟩ := hw'
  have hw1 := hG.out u
  rw [← hw''] at hw1
  clear hw'' hGc hGn hG u hI G I
  obtain ⟨hcw1, hfw1⟩ := bcell hw1
  have Hw1 := hideG hw1
  have hzw1 : w.heap.size < w1.heap.size := by have := hw1.size; (try simp at this); omega
  clear hw1
  go_wp2_with fail
  refine wp_region_grow (by kernel_rfl) (by kernel_rfl) ?_
  intro I G hI hG hGc hGn
  repeat (go_big_quiet_step (first | (go_at_call_of 93 (Value.int IntKind.i64 0); exact call_same (at0 l zs _ (HM.out _ ((((Below.refl _ _).alloc (Nat.le_refl _) _).trans (Hw1.out.mono (by simp))).trans ((hG.out _).mono (by omega)))))) | (go_at_call_of 93 (Value.int IntKind.i64 1); exact call_same (at1 l zs _ (HM.out _ ((((Below.refl _ _).alloc (Nat.le_refl _) _).trans (Hw1.out.mono (by simp))).trans ((hG.out _).mono (by omega)))))) | (go_at_call_of 93 (Value.int IntKind.i64 2); exact call_same (at2 l zs _ (HM.out _ ((((Below.refl _ _).alloc (Nat.le_refl _) _).trans (Hw1.out.mono (by simp))).trans ((hG.out _).mono (by omega)))))) | (go_at_call 96; exact call_grow hG hGn (HB.out _).2)))
  refine wpQuiet_nil ?_
  intro w2 hw'
  obtain ⟨u, hw''⟩ := hw'
  have hw2 := hG.out u
  rw [← hw''] at hw2
  clear hw'' hGc hGn hG u hI G I
  obtain ⟨hcw2, hfw2⟩ := bcell hw2
  have Hw2 := hideG hw2
  have hzw2 : w.heap.size < w2.heap.size := by have := hw2.size; (try simp at this); omega
  clear hw2
  go_wp2_with fail
  refine (num_calls _ _).mono ?_
  rintro e w' ⟨rfl, rfl⟩
  go_wp2_with fail
  refine (num_calls _ _).mono ?_
  rintro e w' ⟨rfl, rfl⟩
  go_wp2_with fail
  go_ret
  exact ⟨rfl, (((Below.refl _ _).alloc (Nat.le_refl _) _).trans (Hw1.out.mono (by simp))).trans (Hw2.out.mono (by omega))⟩

end Go.Proofs.YtchideljndagjaaGreat
