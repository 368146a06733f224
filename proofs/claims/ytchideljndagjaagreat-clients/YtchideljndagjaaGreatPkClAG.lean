/- Contracts of the pads, of Seal and of Open of package veilref. -/
import Derived.Test.YtchideljndagjaaGreatPkClAF
import Derived.Test.YtchideljndagjaaGreatPkClAB
import Derived.Test.YtchideljndagjaaGreatPkClAA
import Derived.WalkSpells
namespace Go.Proofs.YtchideljndagjaaGreat
open Go.ChangeShapes Go.WideShapes Go.ChangeAt Go.RowKit
set_option linter.unusedVariables false

theorem rpad_calls (k q : Int) (w : World) (hk : 0 ≤ k) (hk' : k < 2305843009213693951) (hq : 0 ≤ q) (hq' : q ≤ 1000) :
    Calls Tryz.prog 90 #[.int .i64 k, .int .i64 q] w fun e w' => e = .returned (.int .i64 (Num.padN k q)) ∧ w' = w := by
  go_enter Tryz.func90, Tryz.ntmps90
  go_wp2_with fail
  go_loop [5, 6] (fun v i => ∃ n : Int, 0 ≤ n ∧ n ≤ q ∧ i = .int .i64 n ∧ v = .int .i64 (Num.addP k (Num.mulP n 1099511627777))) (fun _ i => (q - intOf i).toNat)
  case atStart => exact ⟨0, by omega, hq, rfl, by rw [Num.stepped_zero k hk hk']⟩
  case round =>
    obtain ⟨n, n1, n2, rfl, rfl⟩ := hrel
    have l1 := Num.addP_lo k (Num.mulP n 1099511627777)
    have l2 := Num.addP_hi k (Num.mulP n 1099511627777)
    by_cases hlt : n < q
    · have H := hideH (Num.stepped k n)
      go_wp2_with fail
      refine (rplus_calls _ _ _ l1 l2 (by omega) (by omega)).mono ?_
      rintro e w' ⟨rfl, rfl⟩
      go_wp2_with fail
      go_round
      case rel => exact ⟨n + 1, by omega, by omega, rfl, by rw [H.out]⟩
      case measure => simp [intOf]; omega
    · have en : n = q := by omega
      subst en
      have H := hideH (Num.cube (Num.addP k (Num.mulP n 1099511627777)))
      go_wp2_with fail
      refine (raised_calls _ l1 l2 _ _ _ (Nat.le_refl _) (by omega)).mono ?_
      rintro e w' ⟨rfl, rfl⟩
      go_wp2_with fail
      go_ret
      exact ⟨congrArg (fun x => Ending.returned (.int .i64 x)) H.out, rfl⟩

/-- The four pads of a way, the first j of them laid. -/
def padArr (k q : Int) : Nat → Array Value
  | 0 => #[.int .i64 0, .int .i64 0, .int .i64 0, .int .i64 0]
  | 1 => #[.int .i64 (Num.padN k q), .int .i64 0, .int .i64 0, .int .i64 0]
  | 2 => #[.int .i64 (Num.padN k q), .int .i64 (Num.padN k (q + 1)), .int .i64 0, .int .i64 0]
  | 3 => #[.int .i64 (Num.padN k q), .int .i64 (Num.padN k (q + 1)), .int .i64 (Num.padN k (q + 2)), .int .i64 0]
  | _ => #[.int .i64 (Num.padN k q), .int .i64 (Num.padN k (q + 1)), .int .i64 (Num.padN k (q + 2)), .int .i64 (Num.padN k (q + 3))]

set_option maxHeartbeats 1000000 in
theorem rpads_calls (k a b : Int) (w : World) (hk : 0 ≤ k) (hk' : k < 2305843009213693951) (ha : 1 ≤ a) (ha' : a ≤ 12) (hb : 1 ≤ b) (hb' : b ≤ 12) :
    Calls Tryz.prog 147 #[.int .i64 k, .int .i64 a, .int .i64 b] w fun e w' => e = .returned (.agg (padArr k (64 * a + 4 * b) 4)) ∧ Below w.heap.size w w' := by
  go_enter Tryz.func147, Tryz.ntmps147
  go_wp2_with fail
  go_loopw [8] (fun i wr => ∃ j : Nat, j ≤ 4 ∧ i = .int .i64 j ∧ wr = (w.alloc (.cells #[.int .i64 0, .int .i64 0, .int .i64 0, .int .i64 0] 202)).alloc (.cells (padArr k (64 * a + 4 * b) j) 202)) (fun i _ => 4 - (intOf i).toNat)
  case atStart => exact ⟨0, by omega, rfl, rfl⟩
  case round =>
    obtain ⟨j, hj, rfl, rfl⟩ := hrel
    match j, hj with
    | 0, _ =>
      unfold padArr
      go_wp2_with fail
      refine (rpad_calls _ _ _ hk hk' (by omega) (by omega)).mono ?_
      rintro e w' ⟨rfl, rfl⟩
      go_wp2_with fail
      go_roundw
      case rel => exact ⟨1, by omega, rfl, rfl⟩
      case measure => simp [intOf]
    | 1, _ =>
      unfold padArr
      go_wp2_with fail
      refine (rpad_calls _ _ _ hk hk' (by omega) (by omega)).mono ?_
      rintro e w' ⟨rfl, rfl⟩
      go_wp2_with fail
      go_roundw
      case rel => exact ⟨2, by omega, rfl, rfl⟩
      case measure => simp [intOf]
    | 2, _ =>
      unfold padArr
      go_wp2_with fail
      refine (rpad_calls _ _ _ hk hk' (by omega) (by omega)).mono ?_
      rintro e w' ⟨rfl, rfl⟩
      go_wp2_with fail
      go_roundw
      case rel => exact ⟨3, by omega, rfl, rfl⟩
      case measure => simp [intOf]
    | 3, _ =>
      unfold padArr
      go_wp2_with fail
      refine (rpad_calls _ _ _ hk hk' (by omega) (by omega)).mono ?_
      rintro e w' ⟨rfl, rfl⟩
      go_wp2_with fail
      go_roundw
      case rel => exact ⟨4, by omega, rfl, rfl⟩
      case measure => simp [intOf]
    | 4, _ =>
      unfold padArr
      go_wp2_with fail
      exact bodyPost_ret (v := .agg (padArr k (64 * a + 4 * b) 4)) (by simp [results, Tryz.results147, go_sem, padArr]) rfl ⟨rfl, ((Below.refl _ _).alloc (Nat.le_refl _) _).alloc (by simp) _⟩

theorem rtag_calls (p0 p1 p2 p3 x y : Int) (w : World) (hp2 : 0 ≤ p2) (hp2' : p2 < 2305843009213693951) (hp3 : 0 ≤ p3) (hp3' : p3 < 2305843009213693951) (hx : 0 ≤ x) (hx' : x < 2305843009213693951) (hy : 0 ≤ y) (hy' : y < 2305843009213693951) :
    Calls Tryz.prog 148 #[.agg #[.int .i64 p0, .int .i64 p1, .int .i64 p2, .int .i64 p3], .int .i64 x, .int .i64 y] w fun e w' => e = .returned (.int .i64 (Num.addP (Num.addP (Num.mulP p2 x) (Num.mulP (Num.mulP p2 p2) y)) p3)) ∧ Below w.heap.size w w' := by
  go_enter Tryz.func148, Tryz.ntmps148
  go_wp2_with fail
  refine (product_calls _ _ _ hp2 hp2' hx hx').mono ?_
  rintro e w' ⟨rfl, rfl⟩
  go_wp2_with fail
  refine (product_calls _ _ _ hp2 hp2' hp2 hp2').mono ?_
  rintro e w' ⟨rfl, rfl⟩
  go_wp2_with fail
  refine (product_calls _ _ _ (Num.mulP_lo _ _) (Num.mulP_hi _ _) hy hy').mono ?_
  rintro e w' ⟨rfl, rfl⟩
  go_wp2_with fail
  refine (rplus_calls _ _ _ (Num.mulP_lo _ _) (Num.mulP_hi _ _) (Num.mulP_lo _ _) (Num.mulP_hi _ _)).mono ?_
  rintro e w' ⟨rfl, rfl⟩
  go_wp2_with fail
  refine (rplus_calls _ _ _ (Num.addP_lo _ _) (Num.addP_hi _ _) hp3 hp3').mono ?_
  rintro e w' ⟨rfl, rfl⟩
  go_wp2_with fail
  go_ret
  exact ⟨rfl, (Below.refl _ _).alloc (Nat.le_refl _) _⟩

set_option maxHeartbeats 1000000 in
theorem rSeal_yes (k a b x y : Int) (w : World) (hk : 0 ≤ k) (hk' : k < 2305843009213693951) (ha : 1 ≤ a) (ha' : a ≤ 12) (hb : 1 ≤ b) (hb' : b ≤ 12)
    (hx : 0 ≤ x) (hx' : x < 2305843009213693951) (hy : 0 ≤ y) (hy' : y < 2305843009213693951) :
    Calls Tryz.prog 94 #[.int .i64 k, .int .i64 a, .int .i64 b, .int .i64 x, .int .i64 y] w fun e w' => e = .returned (.tuple #[.int .i64 (Num.addP x (Num.padN k (64 * a + 4 * b))), .int .i64 (Num.addP y (Num.padN k (64 * a + 4 * b + 1))), .int .i64 (Num.tagN k (64 * a + 4 * b) (Num.addP x (Num.padN k (64 * a + 4 * b))) (Num.addP y (Num.padN k (64 * a + 4 * b + 1)))), .int .i64 0]) ∧ Below w.heap.size w w' := by
  have q1 := Num.elB_yes hk hk'
  have q2 := Num.elB_yes hx hx'
  have q3 := Num.elB_yes hy hy'
  have q4 := Num.clB_yes ha ha'
  have q5 := Num.clB_yes hb hb'
  go_enter Tryz.func94, Tryz.ntmps94
  go_wp2_with fail
  refine (relement_calls _ _).mono ?_
  rintro e w' ⟨rfl, rfl⟩
  go_wp2_with fail
  refine (relement_calls _ _).mono ?_
  rintro e w' ⟨rfl, rfl⟩
  go_wp2_with fail
  refine (relement_calls _ _).mono ?_
  rintro e w' ⟨rfl, rfl⟩
  go_wp2_with fail
  refine (rparty_calls _ _).mono ?_
  rintro e w' ⟨rfl, rfl⟩
  go_wp2_with fail
  refine (rparty_calls _ _).mono ?_
  rintro e w' ⟨rfl, rfl⟩
  go_wp2_with fail
  refine (rpads_calls _ _ _ _ hk hk' ha ha' hb hb').mono ?_
  rintro e w1 ⟨rfl, hb1⟩
  have HB1 := hideH hb1
  clear hb1 q1 q2 q3 q4 q5
  unfold padArr
  go_wp2_with fail
  refine (rplus_calls _ _ _ hx hx' (Num.padN_lo _ _) (Num.padN_hi _ _)).mono ?_
  rintro e w' ⟨rfl, rfl⟩
  go_wp2_with fail
  refine (rplus_calls _ _ _ hy hy' (Num.padN_lo _ _) (Num.padN_hi _ _)).mono ?_
  rintro e w' ⟨rfl, rfl⟩
  go_wp2_with fail
  refine (rtag_calls _ _ _ _ _ _ _ (Num.padN_lo _ _) (Num.padN_hi _ _) (Num.padN_lo _ _) (Num.padN_hi _ _) (Num.addP_lo _ _) (Num.addP_hi _ _) (Num.addP_lo _ _) (Num.addP_hi _ _)).mono ?_
  rintro e w2 ⟨rfl, hb2⟩
  have HB2 := hideH hb2
  clear hb2
  go_wp2_with fail
  exact bodyPost_ret (v := .tuple #[.int .i64 (Num.addP x (Num.padN k (64 * a + 4 * b))), .int .i64 (Num.addP y (Num.padN k (64 * a + 4 * b + 1))), .int .i64 (Num.tagN k (64 * a + 4 * b) (Num.addP x (Num.padN k (64 * a + 4 * b))) (Num.addP y (Num.padN k (64 * a + 4 * b + 1)))), .int .i64 0]) (by simp [results, Tryz.results94, go_sem, Num.tagN]) rfl ⟨rfl, (HB1.out.alloc HB1.out.size _).trans (HB2.out.mono (by have := HB1.out.size; simp; omega))⟩

set_option maxHeartbeats 1000000 in
theorem rOpen_tag (k a b x y z : Int) (w : World) (hk : 0 ≤ k) (hk' : k < 2305843009213693951) (ha : 1 ≤ a) (ha' : a ≤ 12) (hb : 1 ≤ b) (hb' : b ≤ 12)
    (hx : 0 ≤ x) (hx' : x < 2305843009213693951) (hy : 0 ≤ y) (hy' : y < 2305843009213693951) (hz : 0 ≤ z) (hz' : z < 2305843009213693951)
    (ht : (Num.tagN k (64 * a + 4 * b) x y != z) = true) :
    Calls Tryz.prog 96 #[.int .i64 k, .int .i64 a, .int .i64 b, .int .i64 x, .int .i64 y, .int .i64 z] w fun e w' => e = .returned (.tuple #[.int .i64 0, .int .i64 0, .int .i64 3]) ∧ Below w.heap.size w w' := by
  have q1 := Num.elB_yes hk hk'
  have q2 := Num.elB_yes hx hx'
  have q3 := Num.elB_yes hy hy'
  have q6 := Num.elB_yes hz hz'
  have q4 := Num.clB_yes ha ha'
  have q5 := Num.clB_yes hb hb'
  unfold Num.tagN at ht
  go_enter Tryz.func96, Tryz.ntmps96
  go_wp2_with fail
  refine (relement_calls _ _).mono ?_
  rintro e w' ⟨rfl, rfl⟩
  go_wp2_with fail
  refine (relement_calls _ _).mono ?_
  rintro e w' ⟨rfl, rfl⟩
  go_wp2_with fail
  refine (relement_calls _ _).mono ?_
  rintro e w' ⟨rfl, rfl⟩
  go_wp2_with fail
  refine (relement_calls _ _).mono ?_
  rintro e w' ⟨rfl, rfl⟩
  go_wp2_with fail
  refine (rparty_calls _ _).mono ?_
  rintro e w' ⟨rfl, rfl⟩
  go_wp2_with fail
  refine (rparty_calls _ _).mono ?_
  rintro e w' ⟨rfl, rfl⟩
  go_wp2_with fail
  refine (rpads_calls _ _ _ _ hk hk' ha ha' hb hb').mono ?_
  rintro e w1 ⟨rfl, hb1⟩
  have HB1 := hideH hb1
  clear hb1 q1 q2 q3 q4 q5 q6
  unfold padArr
  go_wp2_with fail
  refine (rtag_calls _ _ _ _ _ _ _ (Num.padN_lo _ _) (Num.padN_hi _ _) (Num.padN_lo _ _) (Num.padN_hi _ _) hx hx' hy hy').mono ?_
  rintro e w2 ⟨rfl, hb2⟩
  have HB2 := hideH hb2
  clear hb2
  go_wp2_with fail
  go_ret3
  exact ⟨rfl, (HB1.out.alloc HB1.out.size _).trans (HB2.out.mono (by have := HB1.out.size; simp; omega))⟩

set_option maxHeartbeats 1000000 in
theorem rOpen_yes (k a b x y z : Int) (w : World) (hk : 0 ≤ k) (hk' : k < 2305843009213693951) (ha : 1 ≤ a) (ha' : a ≤ 12) (hb : 1 ≤ b) (hb' : b ≤ 12)
    (hx : 0 ≤ x) (hx' : x < 2305843009213693951) (hy : 0 ≤ y) (hy' : y < 2305843009213693951) (hz : 0 ≤ z) (hz' : z < 2305843009213693951)
    (ht : (Num.tagN k (64 * a + 4 * b) x y != z) = false) :
    Calls Tryz.prog 96 #[.int .i64 k, .int .i64 a, .int .i64 b, .int .i64 x, .int .i64 y, .int .i64 z] w fun e w' => e = .returned (.tuple #[.int .i64 (Num.subP x (Num.padN k (64 * a + 4 * b))), .int .i64 (Num.subP y (Num.padN k (64 * a + 4 * b + 1))), .int .i64 0]) ∧ Below w.heap.size w w' := by
  have q1 := Num.elB_yes hk hk'
  have q2 := Num.elB_yes hx hx'
  have q3 := Num.elB_yes hy hy'
  have q6 := Num.elB_yes hz hz'
  have q4 := Num.clB_yes ha ha'
  have q5 := Num.clB_yes hb hb'
  unfold Num.tagN at ht
  go_enter Tryz.func96, Tryz.ntmps96
  go_wp2_with fail
  refine (relement_calls _ _).mono ?_
  rintro e w' ⟨rfl, rfl⟩
  go_wp2_with fail
  refine (relement_calls _ _).mono ?_
  rintro e w' ⟨rfl, rfl⟩
  go_wp2_with fail
  refine (relement_calls _ _).mono ?_
  rintro e w' ⟨rfl, rfl⟩
  go_wp2_with fail
  refine (relement_calls _ _).mono ?_
  rintro e w' ⟨rfl, rfl⟩
  go_wp2_with fail
  refine (rparty_calls _ _).mono ?_
  rintro e w' ⟨rfl, rfl⟩
  go_wp2_with fail
  refine (rparty_calls _ _).mono ?_
  rintro e w' ⟨rfl, rfl⟩
  go_wp2_with fail
  refine (rpads_calls _ _ _ _ hk hk' ha ha' hb hb').mono ?_
  rintro e w1 ⟨rfl, hb1⟩
  have HB1 := hideH hb1
  clear hb1 q1 q2 q3 q4 q5 q6
  unfold padArr
  go_wp2_with fail
  refine (rtag_calls _ _ _ _ _ _ _ (Num.padN_lo _ _) (Num.padN_hi _ _) (Num.padN_lo _ _) (Num.padN_hi _ _) hx hx' hy hy').mono ?_
  rintro e w2 ⟨rfl, hb2⟩
  have HB2 := hideH hb2
  obtain ⟨hc, hf⟩ := bcell hb2
  clear hb2
  go_wp2_with fail
  refine (rless_calls _ _ _ hx hx' (Num.padN_lo _ _) (Num.padN_hi _ _)).mono ?_
  rintro e w' ⟨rfl, rfl⟩
  go_wp2_with fail
  refine (rless_calls _ _ _ hy hy' (Num.padN_lo _ _) (Num.padN_hi _ _)).mono ?_
  rintro e w' ⟨rfl, rfl⟩
  go_wp2_with fail
  go_ret3
  exact ⟨rfl, (HB1.out.alloc HB1.out.size _).trans (HB2.out.mono (by have := HB1.out.size; simp; omega))⟩

end Go.Proofs.YtchideljndagjaaGreat

namespace Go.Proofs.YtchideljndagjaaGreat
open Go.ChangeShapes Go.WideShapes Go.ChangeAt Go.RowKit
set_option linter.unusedVariables false

theorem list_view {w : World} {v : Value} {zs : List Int} (h : ListAt w v zs) : ∃ (a : Option Addr) (cap : Nat), v = .slice a zs.length cap ∧ zs.length ≤ cap ∧ cap ≤ 9223372036854775807 ∧
    ∀ k, k < zs.length → ∃ b off, a = some ⟨b, off, none⟩ ∧ w.cell? ⟨b, off + k, none⟩ = some (.int .i64 (zs.getD k 0)) := by
  obtain ⟨a, cap, h1, h2, h3, h4, h5⟩ := h
  refine ⟨a, cap, h1, h2, by unfold maxLen at h3; omega, fun k hk => ?_⟩
  rcases h5 with h5 | ⟨b, off, e, _, hc⟩
  · rw [h5] at hk; simp at hk
  · exact ⟨b, off, e, hc k hk⟩

set_option maxHeartbeats 400000 in
theorem elements_calls (v : Value) (zs : List Int) (w : World) (h : ListAt w v zs) :
    Calls Tryz.prog 201 #[v] w fun e w' => e = .returned (.bool (zs.all Num.elB)) ∧ w' = w := by
  obtain ⟨a, cap, rfl, h2, h3, hc⟩ := list_view h
  have HC := hideG hc
  clear hc h
  generalize hn : zs.length = n at *
  have HN := hideG hn
  clear hn
  go_enter Tryz.func201, Tryz.ntmps201
  go_wp2_with fail
  go_loop [7] (fun i => ∃ k : Nat, k ≤ n ∧ i = .int .i64 k ∧ (zs.take k).all Num.elB = true) (fun i => n - (intOf i).toNat)
  case atStart => exact ⟨0, Nat.zero_le _, rfl, rfl⟩
  case round =>
    obtain ⟨k, hk, rfl, hall⟩ := hrel
    have HA := hideG hall
    clear hall
    by_cases hlt : k < n
    · obtain ⟨b, off, rfl, c0⟩ := HC.out k hlt
      obtain ⟨z, hz⟩ : ∃ z, z = zs.getD k 0 := ⟨_, rfl⟩
      rw [← hz] at c0
      have HZ := hideG hz
      clear hz
      cases q : Num.elB z
      · go_wp2_with fail
        refine (element_calls _ _).mono ?_
        rintro e w' ⟨rfl, rfl⟩
        go_wp2_with fail
        go_ret
        exact ⟨congrArg (fun x => Ending.returned (.bool x)) (Num.all_off zs k (by rw [HN.out]; exact hlt) (by rw [← HZ.out]; exact Num.elB_off.1 q)).symm, rfl⟩
      · go_wp2_with fail
        refine (element_calls _ _).mono ?_
        rintro e w' ⟨rfl, rfl⟩
        go_wp2_with fail
        go_round
        case rel => exact ⟨k + 1, by omega, by go_num, Num.all_on zs k (by rw [HN.out]; exact hlt) HA.out (by rw [← HZ.out]; exact Num.elB_iff.1 q)⟩
        case measure => simp [intOf]; omega
    · go_wp2_with fail
      go_ret
      exact ⟨congrArg (fun x => Ending.returned (.bool x)) (Num.all_end zs k (by rw [HN.out]; omega) HA.out).symm, rfl⟩

theorem all_el {zs : List Int} (h : zs.all Num.elB = true) (k : Nat) (hk : k < zs.length) : 0 ≤ zs.getD k 0 ∧ zs.getD k 0 < 2305843009213693951 := by
  rw [List.all_eq_true] at h
  rw [List.getD_eq_getElem?_getD, List.getElem?_eq_getElem hk]
  exact Num.elB_iff.1 (h _ (List.getElem_mem hk))

set_option maxHeartbeats 400000 in
theorem valueAt_calls (s : Int) (v : Value) (zs : List Int) (x : Int) (w : World) (h : ListAt w v zs) (hall : zs.all Num.elB = true) (hs : 0 ≤ s) (hs' : s < 2305843009213693951) (hx : 0 ≤ x) (hx' : x < 2305843009213693951) :
    Calls Tryz.prog 202 #[.int .i64 s, v, .int .i64 x] w fun e w' => e = .returned (.int .i64 (Pol.polyP s zs x)) ∧ w' = w := by
  obtain ⟨a, cap, rfl, h2, h3, hc⟩ := list_view h
  have HC := hideG hc
  have HA := hideG hall
  clear hc h hall
  generalize hn : zs.length = n at *
  have HN := hideG hn
  clear hn
  go_enter Tryz.func202, Tryz.ntmps202
  go_wp2_with fail
  go_loop [7, 8] (fun u i => ∃ k : Nat, k ≤ n ∧ i = .int .i64 ((k : Int) - 1) ∧ u = .int .i64 (Pol.hor (zs.drop k) x)) (fun _ i => (intOf i + 1).toNat)
  case atStart => exact ⟨n, Nat.le_refl _, rfl, by rw [List.drop_of_length_le (by rw [HN.out]; exact Nat.le_refl _)]; rfl⟩
  case round =>
    obtain ⟨k, hk, rfl, rfl⟩ := hrel
    by_cases hlt : 0 < k
    · obtain ⟨j, rfl⟩ : ∃ j, k = j + 1 := ⟨k - 1, by omega⟩
      obtain ⟨b, off, rfl, c0⟩ := HC.out j (by omega)
      obtain ⟨z, hz⟩ : ∃ z, z = zs.getD j 0 := ⟨_, rfl⟩
      have hel := all_el HA.out j (by rw [HN.out]; omega)
      rw [← hz] at c0 hel
      have HP := hideG (Pol.hor_drop zs j (by rw [HN.out]; omega) x)
      have HZ := hideG hz
      clear hz
      obtain ⟨e1, e2⟩ := hel
      have l1 := Pol.hor_lo (zs.drop (j + 1)) x
      have l2 := Pol.hor_hi (zs.drop (j + 1)) x
      generalize Pol.hor (zs.drop (j + 1)) x = u at *
      go_wp2_with fail
      refine (plus_calls _ _ _ l1 l2 e1 e2).mono ?_
      rintro e w' ⟨rfl, rfl⟩
      go_wp2_with fail
      refine (times_calls _ _ _ (Num.addP_lo _ _) (Num.addP_hi _ _) hx hx').mono ?_
      rintro e w' ⟨rfl, rfl⟩
      go_wp2_with fail
      go_round
      case rel => exact ⟨j, by omega, by go_num, by rw [← HP.out, HZ.out]⟩
      case measure => simp [intOf]
    · have ek : k = 0 := by omega
      subst ek
      have HP := hideG (Pol.hor_poly s zs x)
      have l1 := Pol.hor_lo zs x
      have l2 := Pol.hor_hi zs x
      rw [List.drop_zero]
      generalize Pol.hor zs x = u at *
      go_wp2_with fail
      refine (plus_calls _ _ _ l1 l2 hs hs').mono ?_
      rintro e w' ⟨rfl, rfl⟩
      go_wp2_with fail
      go_ret
      exact ⟨congrArg (fun x => Ending.returned (.int .i64 x)) HP.out, rfl⟩

end Go.Proofs.YtchideljndagjaaGreat

namespace Go.Proofs.YtchideljndagjaaGreat
open Go.ChangeShapes Go.WideShapes Go.ChangeAt Go.RowKit
set_option linter.unusedVariables false

set_option maxHeartbeats 400000 in
theorem relements_list (v : Value) (zs : List Int) (w : World) (h : ListAt w v zs) :
    Calls Tryz.prog 138 #[v] w fun e w' => e = .returned (.bool (zs.all Num.elB)) ∧ w' = w := by
  obtain ⟨a, cap, rfl, h2, h3, hc⟩ := list_view h
  have HC := hideG hc
  clear hc h
  generalize hn : zs.length = n at *
  have HN := hideG hn
  clear hn
  go_enter Tryz.func138, Tryz.ntmps138
  go_wp2_with fail
  go_loop [3] (fun i => ∃ k : Nat, k ≤ n ∧ i = .int .i64 k ∧ (zs.take k).all Num.elB = true) (fun i => n - (intOf i).toNat)
  case atStart => exact ⟨0, Nat.zero_le _, rfl, rfl⟩
  case round =>
    obtain ⟨k, hk, rfl, hall⟩ := hrel
    have HA := hideG hall
    clear hall
    by_cases hlt : k < n
    · obtain ⟨b, off, rfl, c0⟩ := HC.out k hlt
      obtain ⟨z, hz⟩ : ∃ z, z = zs.getD k 0 := ⟨_, rfl⟩
      rw [← hz] at c0
      have HZ := hideG hz
      clear hz
      by_cases h1 : z < 0
      · go_wp2_with fail
        go_ret
        exact ⟨congrArg (fun x => Ending.returned (.bool x)) (Num.all_off zs k (by rw [HN.out]; exact hlt) (by rw [← HZ.out]; omega)).symm, rfl⟩
      · by_cases h2 : z < 2305843009213693951
        · go_wp2_with fail
          go_round
          case rel => exact ⟨k + 1, by omega, by go_num, Num.all_on zs k (by rw [HN.out]; exact hlt) HA.out (by rw [← HZ.out]; omega)⟩
          case measure => simp [intOf]; omega
        · go_wp2_with fail
          go_ret
          exact ⟨congrArg (fun x => Ending.returned (.bool x)) (Num.all_off zs k (by rw [HN.out]; exact hlt) (by rw [← HZ.out]; omega)).symm, rfl⟩
    · go_wp2_with fail
      go_ret
      exact ⟨congrArg (fun x => Ending.returned (.bool x)) (Num.all_end zs k (by rw [HN.out]; omega) HA.out).symm, rfl⟩

set_option maxHeartbeats 400000 in
theorem rvalue_calls (s : Int) (v : Value) (zs : List Int) (x : Int) (w : World) (h : ListAt w v zs) (hall : zs.all Num.elB = true) (hs : 0 ≤ s) (hs' : s < 2305843009213693951) (hx : 0 ≤ x) (hx' : x < 2305843009213693951) (hlen : zs.length ≤ 1000) :
    Calls Tryz.prog 139 #[.int .i64 s, v, .int .i64 x] w fun e w' => e = .returned (.int .i64 (Pol.polyP s zs x)) ∧ w' = w := by
  obtain ⟨a, cap, rfl, h2, h3, hc⟩ := list_view h
  have HC := hideG hc
  have HA := hideG hall
  clear hc h hall
  generalize hn : zs.length = n at *
  have HN := hideG hn
  clear hn
  go_enter Tryz.func139, Tryz.ntmps139
  go_wp2_with fail
  go_loop [7, 8] (fun u i => ∃ k : Nat, k ≤ n ∧ i = .int .i64 k ∧ u = .int .i64 (Pol.polyP s (zs.take k) x)) (fun _ i => n - (intOf i).toNat)
  case atStart => exact ⟨0, by omega, rfl, by rw [List.take_zero, Pol.poly_nil s x hs hs']⟩
  case round =>
    obtain ⟨k, hk, rfl, rfl⟩ := hrel
    by_cases hlt : k < n
    · obtain ⟨b, off, rfl, c0⟩ := HC.out k hlt
      obtain ⟨z, hz⟩ : ∃ z, z = zs.getD k 0 := ⟨_, rfl⟩
      have hel := all_el HA.out k (by rw [HN.out]; omega)
      rw [← hz] at c0 hel
      have HP := hideG (Pol.poly_step s zs k x (by rw [HN.out]; exact hlt))
      have HZ := hideG hz
      clear hz
      obtain ⟨e1, e2⟩ := hel
      have l1 := Pol.polyP_lo s (zs.take k) x
      have l2 := Pol.polyP_hi s (zs.take k) x
      generalize Pol.polyP s (zs.take k) x = u at *
      go_wp2_with fail
      refine (raised_calls _ hx hx' _ _ _ (Nat.le_refl _) (by omega)).mono ?_
      rintro e w' ⟨rfl, rfl⟩
      go_wp2_with fail
      refine (product_calls _ _ _ e1 e2 (Num.powP_lo _ _) (Num.powP_hi _ _)).mono ?_
      rintro e w' ⟨rfl, rfl⟩
      go_wp2_with fail
      refine (rplus_calls _ _ _ l1 l2 (Num.mulP_lo _ _) (Num.mulP_hi _ _)).mono ?_
      rintro e w' ⟨rfl, rfl⟩
      go_wp2_with fail
      go_round
      case rel => exact ⟨k + 1, by omega, by go_num, by rw [← HP.out, HZ.out]⟩
      case measure => simp [intOf]; omega
    · have ek : k = n := by omega
      subst ek
      have H := hideG (show Pol.polyP s (zs.take k) x = Pol.polyP s zs x by rw [List.take_of_length_le (by rw [HN.out]; exact Nat.le_refl _)])
      generalize Pol.polyP s (zs.take k) x = u at *
      go_wp2_with fail
      go_ret
      exact ⟨congrArg (fun x => Ending.returned (.int .i64 x)) H.out, rfl⟩

end Go.Proofs.YtchideljndagjaaGreat

namespace Go.Proofs.YtchideljndagjaaGreat
open Go.ChangeShapes Go.WideShapes Go.ChangeAt Go.RowKit
set_option linter.unusedVariables false

set_option maxHeartbeats 2000000 in
set_option maxRecDepth 100000 in
theorem rshares_own (b : Nat) (s : RS) (k1 f1 k2 f2 : Int) (v1 v2 : Value) (u : Int) (w : World) (h : RAt w b s) (hc : Cli.Good s.c) (hm : ListAt w s.vm s.c.sm) (hs : ListAt w s.vs s.c.ss) (hu : u = s.c.id) :
    Calls Tryz.prog 231 #[.pointer (some ⟨b, 0, none⟩), .agg #[.int .i64 k1, .int .i64 f1, v1], .agg #[.int .i64 k2, .int .i64 f2, v2], .int .i64 u] w fun e w' =>
      e = .returned (.tuple #[.int .i64 (Pol.polyP s.c.ms s.c.sm s.c.id), .int .i64 (Pol.polyP s.c.sd s.c.ss s.c.id), .bool true]) ∧ Below w.heap.size w w' := by
  have hbl := h.lt
  obtain ⟨W0, hW0⟩ : ∃ W0, W0 = (w.alloc (.cells #[.int .i64 k1, .int .i64 f1, v1] 40)).alloc (.cells #[.int .i64 k2, .int .i64 f2, v2] 40) := ⟨_, rfl⟩
  have hb0 : Below w.heap.size w W0 := by rw [hW0]; exact ((Below.refl _ _).alloc (Nat.le_refl _) _).alloc (by simp) _
  obtain ⟨_, _, _, x4, x6, x7, x8⟩ := (h.below hb0).nums
  obtain ⟨_, x9, x10, _, _⟩ := (h.below hb0).vals
  have q : (u == s.c.id) = true := by simpa using hu
  have gi := hc.i
  have gn := hc.n
  have gt := hc.t
  obtain ⟨m1, m2⟩ := hc.ms
  obtain ⟨d1, d2⟩ := hc.sd
  have l1 := hc.sml
  have l2 := hc.ssl
  have HV1 := hideG (fun (W : World) (hb : Below W0.heap.size W0 W) => rvalue_calls s.c.ms s.vm s.c.sm s.c.id W ((hm.below hb0).below hb) hc.sm m1 m2 (by omega) (by omega) (by omega))
  have HV2 := hideG (fun (W : World) (hb : Below W0.heap.size W0 W) => rvalue_calls s.c.sd s.vs s.c.ss s.c.id W ((hs.below hb0).below hb) hc.ss d1 d2 (by omega) (by omega) (by omega))
  have z0 : w.heap.size ≤ W0.heap.size := hb0.size
  have HB0 := hideG hb0
  have HW0 := hideG hW0
  have hbl0 : b < W0.heap.size := by omega
  have HXC := hideG (And.intro x4 (And.intro x8 x10))
  clear hW0 hb0 h hm hs l1 l2 m1 m2 d1 d2 gi gn gt hc hu
  generalize Pol.polyP s.c.ms s.c.sm s.c.id = pm at *
  generalize Pol.polyP s.c.sd s.c.ss s.c.id = ps at *
  generalize s.c.ms = ms at *
  generalize s.c.sd = sd at *
  generalize s.c.id = id at *
  generalize s.vm = vm at *
  generalize s.vs = vs at *
  go_enter Tryz.func231, Tryz.ntmps231
  go_upto_region 1 with fail
  rw [← HW0.out]
  go_upto_region 2 with fail
  go_quiet ((go_at_call 139; refine Calls.quiet_of_same (HV1.out _ (below_drewN _ _))))
  have HBN := hideG (below_drewN W0 nq)
  obtain ⟨y4, y8, y10⟩ := HXC.out
  replace y4 := (HBN.out.cell (p := ⟨b, 4, none⟩) hbl0).trans y4
  replace y8 := (HBN.out.cell (p := ⟨b, 8, none⟩) hbl0).trans y8
  replace y10 := (HBN.out.cell (p := ⟨b, 10, none⟩) hbl0).trans y10
  obtain ⟨W1, hW1⟩ : ∃ W1, W1 = W0.drewN nq := ⟨_, rfl⟩
  rw [← hW1] at HBN y4 y8 y10 ⊢
  have s1 := HBN.out.size
  clear hW1 x4 x6 x7 x8 x9 x10
  go_upto_region 3 with fail
  go_quiet ((go_at_call 139; refine Calls.quiet_of_same (HV2.out _ (HBN.out.trans ((below_drewN _ _).mono s1)))))
  go_wp2_with fail
  go_ret3
  exact ⟨rfl, (HB0.out.trans (HBN.out.mono z0)).trans ((below_drewN W1 _).mono (by omega))⟩

set_option maxHeartbeats 2000000 in
set_option maxRecDepth 100000 in
theorem rshares_box (b : Nat) (s : RS) (k1 f1 k2 f2 : Int) (v1 v2 : Value) (lk lb : List Frm.It) (u : Int) (w : World) (h : RAt w b s) (hk : ItemsAt w v1 lk) (hb : ItemsAt w v2 lb) (hc : Cli.Good s.c) (hu : u ≠ s.c.id) (u1 : 1 ≤ u) (u2 : u ≤ 12)
    (h3 : 0 ≤ (Cli.itemOf lk u).2.1) (h4 : (Cli.itemOf lk u).2.1 < 2305843009213693951) (hA : 0 ≤ (Cli.itemOf lb u).2.1) (hA' : (Cli.itemOf lb u).2.1 < 2305843009213693951)
    (hB : 0 ≤ (Cli.itemOf lb u).2.2.1) (hB' : (Cli.itemOf lb u).2.2.1 < 2305843009213693951) (hC : 0 ≤ (Cli.itemOf lb u).2.2.2) (hC' : (Cli.itemOf lb u).2.2.2 < 2305843009213693951) :
    Calls Tryz.prog 231 #[.pointer (some ⟨b, 0, none⟩), .agg #[.int .i64 k1, .int .i64 f1, v1], .agg #[.int .i64 k2, .int .i64 f2, v2], .int .i64 u] w fun e w' =>
      ∃ m q, e = .returned (.tuple #[.int .i64 m, .int .i64 q, .bool (Cli.opensB s.c lk lb u)]) ∧ (Cli.opensB s.c lk lb u = true → m = Cli.mShare s.c lk lb u ∧ q = Cli.sShare s.c lk lb u) ∧ Below w.heap.size w w' := by
  have hbl := h.lt
  obtain ⟨W0, hW0⟩ : ∃ W0, W0 = (w.alloc (.cells #[.int .i64 k1, .int .i64 f1, v1] 40)).alloc (.cells #[.int .i64 k2, .int .i64 f2, v2] 40) := ⟨_, rfl⟩
  have hb0 : Below w.heap.size w W0 := by rw [hW0]; exact ((Below.refl _ _).alloc (Nat.le_refl _) _).alloc (by simp) _
  have z0 : w.heap.size + 1 < W0.heap.size := by rw [hW0]; simp
  have x : (W0.cell? ⟨w.heap.size, 0, none⟩ = some (.int .i64 k1) ∧ W0.cell? ⟨w.heap.size, 1, none⟩ = some (.int .i64 f1) ∧ W0.cell? ⟨w.heap.size, 2, none⟩ = some v1) ∧ (W0.cell? ⟨w.heap.size + 1, 0, none⟩ = some (.int .i64 k2) ∧ W0.cell? ⟨w.heap.size + 1, 1, none⟩ = some (.int .i64 f2) ∧ W0.cell? ⟨w.heap.size + 1, 2, none⟩ = some v2) := by
    rw [hW0]; refine ⟨⟨?_, ?_, ?_⟩, ⟨?_, ?_, ?_⟩⟩ <;> simp
  obtain ⟨⟨x0, x1, x2⟩, HX⟩ := x
  have HY := hideG HX
  obtain ⟨_, _, _, x4, _, _, _⟩ := (h.below hb0).nums
  have q : (u == s.c.id) = false := by simpa using hu
  have gi := hc.i
  have gn := hc.n
  obtain ⟨c1, c2⟩ := hc.ch
  have HCH := hideG (rchannel_calls b s k1 f1 v1 lk u W0 (h.below hb0) (hk.below hb0) c1 c2 h3 h4)
  have HIT := hideG (fun (W : World) (hw : Below W0.heap.size W0 W) => ritem_calls k2 f2 v2 lb u W ((hb.below hb0).below hw))
  have HR := hideG (h.below hb0)
  have HB0 := hideG hb0
  have HW0 := hideG hW0
  have HOB := hideG (show Cli.opensB s.c lk lb u = decide (Num.tagN (Cli.chKey s.c lk u) (64 * u + 4 * s.c.id) (Cli.itemOf lb u).2.1 (Cli.itemOf lb u).2.2.1 = (Cli.itemOf lb u).2.2.2) from rfl)
  have HMS := hideG (show Cli.mShare s.c lk lb u = Num.subP (Cli.itemOf lb u).2.1 (Num.padN (Cli.chKey s.c lk u) (64 * u + 4 * s.c.id)) from if_neg hu)
  have HSS := hideG (show Cli.sShare s.c lk lb u = Num.subP (Cli.itemOf lb u).2.2.1 (Num.padN (Cli.chKey s.c lk u) (64 * u + 4 * s.c.id + 1)) from if_neg hu)
  have e1 := Num.powP_lo (Cli.itemOf lk u).2.1 s.c.ch
  have e2 := Num.powP_hi (Cli.itemOf lk u).2.1 s.c.ch
  have HKK := hideG (show 0 ≤ Cli.chKey s.c lk u ∧ Cli.chKey s.c lk u < 2305843009213693951 from ⟨e1, e2⟩)
  clear h hk hb hW0 hb0 c1 c2 hc hu e1 e2 h3 h4
  generalize Cli.opensB s.c lk lb u = ob at *
  generalize Cli.mShare s.c lk lb u = msh at *
  generalize Cli.sShare s.c lk lb u = ssh at *
  generalize Cli.chKey s.c lk u = key at *
  generalize Cli.itemOf lb u = t at *
  obtain ⟨t0, t1, t2, t3⟩ := t
  simp only at hA hA' hB hB' hC hC' HOB HMS HSS
  obtain ⟨id, hid⟩ : ∃ id, id = s.c.id := ⟨_, rfl⟩
  rw [← hid] at q gi x4 HOB HMS HSS
  have HID := hideG hid
  clear hid
  obtain ⟨i1, i2⟩ := gi
  have i12 : id ≤ 12 := by omega
  obtain ⟨kk1, kk2⟩ := HKK.out
  go_enter Tryz.func231, Tryz.ntmps231
  go_upto_region 1 with fail
  rw [← HW0.out]
  go_wp2_with fail
  refine HCH.out.mono ?_
  rintro e w1 ⟨rfl, hb1⟩
  have s1 := hb1.size
  obtain ⟨y0, y1, y2⟩ := HY.out
  replace y0 := (hb1.cell (p := ⟨w.heap.size + 1, 0, none⟩) z0).trans y0
  replace y1 := (hb1.cell (p := ⟨w.heap.size + 1, 1, none⟩) z0).trans y1
  replace y2 := (hb1.cell (p := ⟨w.heap.size + 1, 2, none⟩) z0).trans y2
  have HB1 := hideG hb1
  clear hb1 x0 x1 x2 x4
  go_wp2_with fail
  refine (HIT.out w1 HB1.out).mono ?_
  rintro e w2 ⟨rfl, hb2⟩
  have s2 := hb2.size
  have E1 := heap_alloc_new w2 (.cells #[.int .i64 t0, .int .i64 t1, .int .i64 t2, .int .i64 t3] 142)
  have E2 := (Below.refl w2.heap.size w2).alloc (Nat.le_refl _) (.cells #[.int .i64 t0, .int .i64 t1, .int .i64 t2, .int .i64 t3] 142)
  have s3 : w2.heap.size < (w2.alloc (.cells #[.int .i64 t0, .int .i64 t1, .int .i64 t2, .int .i64 t3] 142)).heap.size := by simp
  obtain ⟨W3, hW3⟩ : ∃ W3, W3 = w2.alloc (.cells #[.int .i64 t0, .int .i64 t1, .int .i64 t2, .int .i64 t3] 142) := ⟨_, rfl⟩
  rw [← hW3] at E1 E2 s3
  have e1 := cell_of_row W3 w2.heap.size 1 _ _ (0, 0) E1
  have e2 := cell_of_row W3 w2.heap.size 2 _ _ (0, 0) E1
  have e3 := cell_of_row W3 w2.heap.size 3 _ _ (0, 0) E1
  simp only [List.getElem?_toArray, List.getElem?_cons_zero, List.getElem?_cons_succ] at e1 e2 e3
  obtain ⟨_, _, _, x4, _, _, _⟩ := (((HR.out.below HB1.out).below hb2).below E2).nums
  rw [← HID.out] at x4
  have HB3 := hideG (show Below w.heap.size w W3 from ((HB0.out.trans (HB1.out.mono (by omega))).trans (hb2.mono (by omega))).trans (E2.mono (by omega)))
  have HW3 := hideG hW3
  have hb3 : b < W3.heap.size := by omega
  clear E1 E2 hW3 hb2 y0 y1 y2
  go_upto_region 7 with fail
  rw [← HW3.out]
  by_cases qt : Num.tagN key (64 * u + 4 * id) t1 t2 = t3
  · have HO := hideG (show ob = true by rw [HOB.out]; exact decide_eq_true qt)
    have HT := hideG (show (Num.tagN key (64 * u + 4 * id) t1 t2 != t3) = false by simpa using qt)
    have HOP := hideG (fun (W : World) => rOpen_yes key u id t1 t2 t3 W kk1 kk2 u1 u2 i1 i12 hA hA' hB hB' hC hC' HT.out)
    clear qt
    rw [← HMS.out, ← HSS.out] at HOP
    refine wp_region_grow (by kernel_rfl) (by kernel_rfl) ?_
    intro I GG hI hG hGc hGn
    repeat (go_big_quiet_step (first | (go_at_call 96; exact call_grow hG hGn (HOP.out _))))
    refine wpQuiet_nil ?_
    intro w5 hw'
    obtain ⟨g, hw''⟩ := hw'
    have hb5 := hG.out g
    rw [← hw''] at hb5
    have HB5 := hideG (HB3.out.trans (hb5.mono (by omega)))
    clear hw'' hGc hGn hG g hI GG I hb5
    go_wp2_with fail
    go_ret3
    exact ⟨msh, ssh, by rw [HO.out]; rfl, fun _ => ⟨rfl, rfl⟩, HB5.out⟩
  · have HO := hideG (show ob = false by rw [HOB.out]; exact decide_eq_false qt)
    have HT := hideG (show (Num.tagN key (64 * u + 4 * id) t1 t2 != t3) = true by simpa using qt)
    have HOP := hideG (fun (W : World) => rOpen_tag key u id t1 t2 t3 W kk1 kk2 u1 u2 i1 i12 hA hA' hB hB' hC hC' HT.out)
    clear qt
    refine wp_region_grow (by kernel_rfl) (by kernel_rfl) ?_
    intro I GG hI hG hGc hGn
    repeat (go_big_quiet_step (first | (go_at_call 96; exact call_grow hG hGn (HOP.out _))))
    refine wpQuiet_nil ?_
    intro w5 hw'
    obtain ⟨g, hw''⟩ := hw'
    have hb5 := hG.out g
    rw [← hw''] at hb5
    have HB5 := hideG (HB3.out.trans (hb5.mono (by omega)))
    clear hw'' hGc hGn hG g hI GG I hb5
    go_wp2_with fail
    go_ret3
    exact ⟨0, 0, by rw [HO.out]; rfl, (fun hh : ob = true => absurd (HO.out.symm.trans hh) (by decide)), HB5.out⟩

end Go.Proofs.YtchideljndagjaaGreat
