/- Contracts of what the laws of shares ask: may these be the arguments of Split? -/
import Derived.Test.YtchideljndagjaaKeep
import Derived.Test.YtchideljndagjaaSplit
namespace Go.Proofs.Ytchideljndagjaa
open Go.ChangeShapes Go.WideShapes Go.ChangeAt Go.RowKit
set_option linter.unusedVariables false

set_option maxHeartbeats 400000 in
theorem kelements_list (v : Value) (zs : List Int) (w : World) (h : ListAt w v zs) :
    Calls Try.prog 16 #[v] w fun e w' => e = .returned (.bool (zs.all Num.elB)) ∧ w' = w := by
  obtain ⟨a, cap, rfl, h2, h3, hc⟩ := list_view h
  have HC := hideG hc
  clear hc h
  generalize hn : zs.length = n at *
  have HN := hideG hn
  clear hn
  go_enter Try.func16, Try.ntmps16
  go_wp2_with fail
  go_loop [3] (fun i => ∃ k : Nat, k ≤ n ∧ i = .int .i64 k ∧ (zs.take k).all Num.elB = true) (fun i => n - (intOf i).toNat)
  case atStart => exact ⟨0, Nat.zero_le _, rfl, rfl⟩
  case round =>
    obtain ⟨k, hk, rfl, hall⟩ := hrel
    have HA := hideG hall
    clear hall
    by_cases hlt : k < n
    · obtain ⟨b, off, rfl, c0⟩ := HC.out k hlt
      obtain ⟨z, hz⟩ : ∃ z, z = zs.getD k 0 := ⟨_, rfl⟩
      rw [← hz] at c0
      have HZ := hideG hz
      clear hz
      by_cases h1 : z < 0
      · go_wp2_with fail
        go_ret
        exact ⟨congrArg (fun x => Ending.returned (.bool x)) (Num.all_off zs k (by rw [HN.out]; exact hlt) (by rw [← HZ.out]; omega)).symm, rfl⟩
      · by_cases h2 : z < 2305843009213693951
        · go_wp2_with fail
          go_round
          case rel => exact ⟨k + 1, by omega, by go_num, Num.all_on zs k (by rw [HN.out]; exact hlt) HA.out (by rw [← HZ.out]; omega)⟩
          case measure => simp [intOf]; omega
        · go_wp2_with fail
          go_ret
          exact ⟨congrArg (fun x => Ending.returned (.bool x)) (Num.all_off zs k (by rw [HN.out]; exact hlt) (by rw [← HZ.out]; omega)).symm, rfl⟩
    · go_wp2_with fail
      go_ret
      exact ⟨congrArg (fun x => Ending.returned (.bool x)) (Num.all_end zs k (by rw [HN.out]; omega) HA.out).symm, rfl⟩

set_option maxHeartbeats 400000 in
theorem mayShare_calls (s : Int) (v : Value) (zs : List Int) (n : Int) (w : World) (h : ListAt w v zs) :
    Calls Try.prog 15 #[.int .i64 s, v, .int .i64 n] w fun e w' => e = .returned (.bool (spB s zs n)) ∧ w' = w := by
  obtain ⟨a, cap, hv, h2, h3, hc⟩ := list_view h
  have HL := hideG h
  clear hc h
  rw [hv] at HL ⊢
  clear hv
  by_cases t1 : n < 1
  · have H := hideG (show spB s zs n = false by unfold spB; rw [decide_eq_false (by omega)]; rfl)
    go_enter Try.func15, Try.ntmps15
    go_wp2_with fail
    go_ret
    exact ⟨congrArg (fun x => Ending.returned (.bool x)) H.out.symm, rfl⟩
  · by_cases t2 : 12 < n
    · have H := hideG (show spB s zs n = false by unfold spB; rw [decide_eq_false (by omega)]; rfl)
      go_enter Try.func15, Try.ntmps15
      go_wp2_with fail
      go_ret
      exact ⟨congrArg (fun x => Ending.returned (.bool x)) H.out.symm, rfl⟩
    · by_cases t3 : n ≤ (zs.length : Int)
      · have H := hideG (show spB s zs n = false by unfold spB; rw [decide_eq_false (by omega)]; rfl)
        go_enter Try.func15, Try.ntmps15
        go_wp2_with fail
        go_ret
        exact ⟨congrArg (fun x => Ending.returned (.bool x)) H.out.symm, rfl⟩
      · have H := hideG (show spB s zs n = (Num.elB s && zs.all Num.elB) by unfold spB; rw [decide_eq_true (by omega), Bool.true_and])
        cases q1 : Num.elB s <;> cases q2 : zs.all Num.elB
        all_goals
          have Q2 := hideG q2
          clear q2
          go_enter Try.func15, Try.ntmps15
          go_wp2_with fail
          refine (kelement_calls _ _).mono ?_
          rintro e w' ⟨rfl, rfl⟩
          go_wp2_with fail
          refine (kelements_list _ zs _ HL.out).mono ?_
          rintro e w' ⟨rfl, rfl⟩
          rw [Q2.out]
          go_wp2_with fail
          go_ret
          exact ⟨congrArg (fun x => Ending.returned (.bool x)) (by rw [H.out, q1, Q2.out]; rfl), rfl⟩

theorem own_shape {w : World} {B : Nat} {e : TypeId} {v : Value} {n : Nat} {xs : List Value} (h : w.ownsRow B e 1 v n xs) (hn : 0 < n) : ∃ g cap, v = .slice (some ⟨g, 0, none⟩) n cap ∧ n ≤ cap ∧ cap ≤ maxLen := by
  rcases h.2 with ⟨_, e0⟩ | ⟨g', cap', _, e0, _, _, e1, e2, _⟩
  · omega
  · exact ⟨g', cap', e0, e1, e2⟩

theorem own_below {w w' : World} {B : Nat} {e : TypeId} {size : Nat} {v : Value} {n : Nat} {xs : List Value} (h : w.ownsRow B e size v n xs) (hb : Below w.heap.size w w') : w'.ownsRow B e size v n xs := by
  have hlt := h.lt
  obtain ⟨h1, h2⟩ := h
  refine ⟨h1, ?_⟩
  rcases h2 with h2 | ⟨g, cap, cur, rfl, h3, h4, h5⟩
  · exact .inl h2
  · exact .inr ⟨g, cap, cur, rfl, h3, by rw [hb.block g (hlt g rfl).2]; exact h4, h5⟩

theorem el_inI {zs : List Int} (h : ∀ z ∈ zs, 0 ≤ z ∧ z < 2305843009213693951) : ∀ z ∈ zs, inI z := fun z hz => by have := h z hz; unfold inI; omega

end Go.Proofs.Ytchideljndagjaa
