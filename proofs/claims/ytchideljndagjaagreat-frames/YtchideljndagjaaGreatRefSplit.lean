/- Contracts of Split of package veilref: the same shares. -/
import Derived.Test.YtchideljndagjaaGreatRef
import Derived.Test.YtchideljndagjaaGreatSplit
namespace Go.Proofs.YtchideljndagjaaGreat
open Go.ChangeShapes Go.WideShapes Go.ChangeAt Go.RowKit
set_option linter.unusedVariables false

set_option maxHeartbeats 400000 in
theorem relements_list (v : Value) (zs : List Int) (w : World) (h : ListAt w v zs) :
    Calls Tryz.prog 138 #[v] w fun e w' => e = .returned (.bool (zs.all Num.elB)) ∧ w' = w := by
  obtain ⟨a, cap, rfl, h2, h3, hc⟩ := list_view h
  have HC := hideG hc
  clear hc h
  generalize hn : zs.length = n at *
  have HN := hideG hn
  clear hn
  go_enter Tryz.func138, Tryz.ntmps138
  go_wp2_with fail
  go_loop [3] (fun i => ∃ k : Nat, k ≤ n ∧ i = .int .i64 k ∧ (zs.take k).all Num.elB = true) (fun i => n - (intOf i).toNat)
  case atStart => exact ⟨0, Nat.zero_le _, rfl, rfl⟩
  case round =>
    obtain ⟨k, hk, rfl, hall⟩ := hrel
    have HA := hideG hall
    clear hall
    by_cases hlt : k < n
    · obtain ⟨b, off, rfl, c0⟩ := HC.out k hlt
      obtain ⟨z, hz⟩ : ∃ z, z = zs.getD k 0 := ⟨_, rfl⟩
      rw [← hz] at c0
      have HZ := hideG hz
      clear hz
      by_cases h1 : z < 0
      · go_wp2_with fail
        go_ret
        exact ⟨congrArg (fun x => Ending.returned (.bool x)) (Num.all_off zs k (by rw [HN.out]; exact hlt) (by rw [← HZ.out]; omega)).symm, rfl⟩
      · by_cases h2 : z < 2305843009213693951
        · go_wp2_with fail
          go_round
          case rel => exact ⟨k + 1, by omega, by go_num, Num.all_on zs k (by rw [HN.out]; exact hlt) HA.out (by rw [← HZ.out]; omega)⟩
          case measure => simp [intOf]; omega
        · go_wp2_with fail
          go_ret
          exact ⟨congrArg (fun x => Ending.returned (.bool x)) (Num.all_off zs k (by rw [HN.out]; exact hlt) (by rw [← HZ.out]; omega)).symm, rfl⟩
    · go_wp2_with fail
      go_ret
      exact ⟨congrArg (fun x => Ending.returned (.bool x)) (Num.all_end zs k (by rw [HN.out]; omega) HA.out).symm, rfl⟩

set_option maxHeartbeats 400000 in
theorem rvalue_calls (s : Int) (v : Value) (zs : List Int) (x : Int) (w : World) (h : ListAt w v zs) (hall : zs.all Num.elB = true) (hs : 0 ≤ s) (hs' : s < 2305843009213693951) (hx : 0 ≤ x) (hx' : x < 2305843009213693951) (hlen : zs.length ≤ 1000) :
    Calls Tryz.prog 139 #[.int .i64 s, v, .int .i64 x] w fun e w' => e = .returned (.int .i64 (Pol.polyP s zs x)) ∧ w' = w := by
  obtain ⟨a, cap, rfl, h2, h3, hc⟩ := list_view h
  have HC := hideG hc
  have HA := hideG hall
  clear hc h hall
  generalize hn : zs.length = n at *
  have HN := hideG hn
  clear hn
  go_enter Tryz.func139, Tryz.ntmps139
  go_wp2_with fail
  go_loop [7, 8] (fun u i => ∃ k : Nat, k ≤ n ∧ i = .int .i64 k ∧ u = .int .i64 (Pol.polyP s (zs.take k) x)) (fun _ i => n - (intOf i).toNat)
  case atStart => exact ⟨0, by omega, rfl, by rw [List.take_zero, Pol.poly_nil s x hs hs']⟩
  case round =>
    obtain ⟨k, hk, rfl, rfl⟩ := hrel
    by_cases hlt : k < n
    · obtain ⟨b, off, rfl, c0⟩ := HC.out k hlt
      obtain ⟨z, hz⟩ : ∃ z, z = zs.getD k 0 := ⟨_, rfl⟩
      have hel := all_el HA.out k (by rw [HN.out]; omega)
      rw [← hz] at c0 hel
      have HP := hideG (Pol.poly_step s zs k x (by rw [HN.out]; exact hlt))
      have HZ := hideG hz
      clear hz
      obtain ⟨e1, e2⟩ := hel
      have l1 := Pol.polyP_lo s (zs.take k) x
      have l2 := Pol.polyP_hi s (zs.take k) x
      generalize Pol.polyP s (zs.take k) x = u at *
      go_wp2_with fail
      refine (raised_calls _ hx hx' _ _ _ (Nat.le_refl _) (by omega)).mono ?_
      rintro e w' ⟨rfl, rfl⟩
      go_wp2_with fail
      refine (product_calls _ _ _ e1 e2 (Num.powP_lo _ _) (Num.powP_hi _ _)).mono ?_
      rintro e w' ⟨rfl, rfl⟩
      go_wp2_with fail
      refine (rplus_calls _ _ _ l1 l2 (Num.mulP_lo _ _) (Num.mulP_hi _ _)).mono ?_
      rintro e w' ⟨rfl, rfl⟩
      go_wp2_with fail
      go_round
      case rel => exact ⟨k + 1, by omega, by go_num, by rw [← HP.out, HZ.out]⟩
      case measure => simp [intOf]; omega
    · have ek : k = n := by omega
      subst ek
      have H := hideG (show Pol.polyP s (zs.take k) x = Pol.polyP s zs x by rw [List.take_of_length_le (by rw [HN.out]; exact Nat.le_refl _)])
      generalize Pol.polyP s (zs.take k) x = u at *
      go_wp2_with fail
      go_ret
      exact ⟨congrArg (fun x => Ending.returned (.int .i64 x)) H.out, rfl⟩

set_option maxHeartbeats 1000000 in
set_option maxRecDepth 100000 in
theorem rsplit_yes (s : Int) (v : Value) (zs : List Int) (n : Nat) (w : World) (h : ListAt w v zs) (hall : zs.all Num.elB = true) (hs : 0 ≤ s) (hs' : s < 2305843009213693951) (hn : n ≤ 12) (hzn : zs.length < n) :
    Calls Tryz.prog 82 #[.int .i64 s, v, .int .i64 (n : Int)] w fun e w' => ∃ u, e = .returned (.tuple #[u, .int .i64 0]) ∧ w'.ownsRow w.heap.size 3 1 u n ((Pol.shL s zs n).map (Value.int .i64)) ∧ Below w.heap.size w w' := by
  obtain ⟨i0, hi, hz0, hz1, hz2⟩ := info_parts infoSp
  obtain ⟨a, cap, hv, h2, h3, hc⟩ := list_view h
  have HL := hideG h
  have HA := hideG hall
  have q1 := Num.elB_yes hs hs'
  have t1 : ¬ ((n : Int) ≤ (zs.length : Int)) := by omega
  have t2 : ¬ ((n : Int) < 1) := by omega
  have t3 : ¬ (12 < (n : Int)) := by omega
  clear hc h
  rw [hv] at HL ⊢
  clear hv
  go_enter Tryz.func82, Tryz.ntmps82
  go_wp2_with fail
  refine (relement_calls _ _).mono ?_
  rintro e w ⟨rfl, rfl⟩
  go_wp2_with fail
  refine (relements_list _ zs _ HL.out).mono ?_
  rintro e w ⟨rfl, rfl⟩
  rw [HA.out]
  go_wp2_with fail
  clear q1 t1 t2 t3
  go_loopw [8, 9] (fun u i wr => ∃ k : Nat, k ≤ n ∧ i = .int .i64 ((k : Int) + 1) ∧ wr.ownsRow w.heap.size 3 1 u k ((Pol.shL s zs k).map (Value.int .i64)) ∧ Below w.heap.size w wr) (fun _ i _ => n + 1 - (intOf i).toNat)
  case atStart => exact ⟨0, by omega, rfl, World.ownsRow_nil _ _ _ _, Below.refl _ _⟩
  case round =>
    obtain ⟨k, hk, rfl, hown, hbel⟩ := hrel
    have HO := hideG hown
    have HB := hideG hbel
    have hsz := hbel.size
    clear hown hbel
    by_cases hlt : k < n
    · go_wp2_with fail
      refine (rvalue_calls s _ zs _ _ (HL.out.below HB.out) HA.out hs hs' (by omega) (by omega) (by omega)).mono ?_
      rintro e wr ⟨rfl, rfl⟩
      obtain ⟨p, hp⟩ : ∃ p, p = Pol.polyP s zs ((k : Int) + 1) := ⟨_, rfl⟩
      rw [← hp]
      have HP := hideG hp
      clear hp
      go_wp2_with (at_builtin; refine wpList_append_own _ rfl _ _ 35 rfl w.heap.size 3 i0 (.int .i64 0) 1 8 Tryz.underlying35 hi hz0 hz1 hz2 rfl (by decide) _ _ _ rfl (HO.out.alloc _) ⟨wr.heap.size, 0, none⟩ 1 1 [.int .i64 p] rfl rfl ?c1 ?c2 ?c3 ?c4 ?c5 ?_)
      case c1 => exact cell_one_new _ _ _
      case c2 => intro u hu; simp at hu; subst hu; rfl
      case c3 => unfold maxLen; omega
      case c4 => omega
      case c5 => simp; omega
      intro v' w2 hown' hgrow' _
      have hbk := fun x (h : Value.ownBlock _ = some x) => HO.out.lt x h
      have hb2 := (HB.out.alloc hsz _).grown hgrow' (by simp; omega) (fun x h => (hbk x h).1)
      have HB2 := hideG hb2
      have ho2 : w2.ownsRow w.heap.size 3 1 v' (k + 1) ((Pol.shL s zs (k + 1)).map (Value.int .i64)) := by
        rw [Pol.shL_succ, List.map_append]; rw [show Pol.shAt s zs k = p by rw [HP.out]; rfl]; exact hown'
      have HO2 := hideG ho2
      clear hown' hgrow' hbk hb2 ho2
      go_wp2_with fail
      go_roundw
      case rel => exact ⟨k + 1, by omega, by go_num, HO2.out, HB2.out⟩
      case measure => simp [intOf]; omega
    · have ek : k = n := by omega
      subst ek
      go_wp2_with fail
      go_ret2
      exact ⟨_, rfl, HO.out, HB.out⟩

set_option maxHeartbeats 400000 in
set_option maxRecDepth 100000 in
theorem rsplit_no (s : Int) (v : Value) (zs : List Int) (n : Int) (w : World) (h : ListAt w v zs) (hno : spB s zs n = false) :
    Calls Tryz.prog 82 #[.int .i64 s, v, .int .i64 n] w fun e w' => e = .returned (.tuple #[.slice none 0 0, .int .i64 1]) ∧ w' = w := by
  obtain ⟨a, cap, hv, h2, h3, hc⟩ := list_view h
  have HL := hideG h
  clear hc h
  rw [hv] at HL ⊢
  clear hv
  by_cases t1 : n < 1
  · clear hno
    go_enter Tryz.func82, Tryz.ntmps82
    go_wp2_with fail
    go_ret2
    exact ⟨rfl, rfl⟩
  · by_cases t2 : 12 < n
    · clear hno
      go_enter Tryz.func82, Tryz.ntmps82
      go_wp2_with fail
      go_ret2
      exact ⟨rfl, rfl⟩
    · by_cases t3 : n ≤ (zs.length : Int)
      · clear hno
        go_enter Tryz.func82, Tryz.ntmps82
        go_wp2_with fail
        go_ret2
        exact ⟨rfl, rfl⟩
      · have hno2 : (Num.elB s && zs.all Num.elB) = false := by
          unfold spB at hno
          rw [decide_eq_true (show 1 ≤ n ∧ n ≤ 12 ∧ (zs.length : Int) < n by omega), Bool.true_and] at hno
          exact hno
        clear hno
        cases q1 : Num.elB s
        · clear hno2
          go_enter Tryz.func82, Tryz.ntmps82
          go_wp2_with fail
          refine (relement_calls _ _).mono ?_
          rintro e w' ⟨rfl, rfl⟩
          go_wp2_with fail
          go_ret2
          exact ⟨rfl, rfl⟩
        · rw [q1, Bool.true_and] at hno2
          have HN2 := hideG hno2
          clear hno2
          go_enter Tryz.func82, Tryz.ntmps82
          go_wp2_with fail
          refine (relement_calls _ _).mono ?_
          rintro e w' ⟨rfl, rfl⟩
          go_wp2_with fail
          refine (relements_list _ zs _ HL.out).mono ?_
          rintro e w' ⟨rfl, rfl⟩
          rw [HN2.out]
          go_wp2_with fail
          go_ret2
          exact ⟨rfl, rfl⟩

end Go.Proofs.YtchideljndagjaaGreat
