/- Contracts of package veilkeep: a frame out of raw numbers. -/
import Derived.Test.YtchideljndagjaaFrameG
import Derived.Test.YtchideljndagjaaKeep
namespace Go.Proofs.Ytchideljndagjaa
open Go.ChangeShapes Go.WideShapes Go.ChangeAt Go.RowKit
set_option linter.unusedVariables false

set_option maxHeartbeats 400000 in
theorem kraw_calls (v : Value) (zs : List Int) (i : Int) (w : World) (h : ListAt w v zs) (h0 : 0 ≤ i) (h1 : i ≤ 1000) :
    Calls Try.prog 77 #[v, .int .i64 i] w fun e w' => ∃ z, e = .returned (.int .i64 z) ∧ inI z ∧ w' = w := by
  obtain ⟨a, cap, rfl, l2, l3, l4, l5⟩ := h
  unfold maxLen at l3
  have HL := hideG l5
  have HI := hideG l4
  clear l4 l5
  obtain ⟨n, hn⟩ : ∃ n, n = zs.length := ⟨_, rfl⟩
  rw [← hn] at l2 ⊢
  have HN := hideG hn
  clear hn
  by_cases hz : n = 0
  · subst hz
    go_enter Try.func77, Try.ntmps77
    go_wp2_with fail
    go_ret
    exact ⟨0, rfl, by unfold inI; omega, rfl⟩
  · obtain ⟨b, off, rfl, hb, hc⟩ : ∃ b off, a = some ⟨b, off, none⟩ ∧ b < w.heap.size ∧ ∀ i, i < zs.length → w.cell? ⟨b, off + i, none⟩ = some (.int .i64 (zs.getD i 0)) := by
      rcases HL.out with e | ⟨b, off, h1, h0, h2⟩
      · have := HN.out; rw [e] at this; simp at this; omega
      · exact ⟨b, off, h1, h0, h2⟩
    obtain ⟨t, ht⟩ : ∃ t : Nat, i % (n : Int) = (t : Int) := ⟨(i % (n : Int)).toNat, by have := Int.emod_nonneg i (show (n : Int) ≠ 0 by omega); omega⟩
    have hlt : t < n := by have := Int.emod_lt_of_pos i (show 0 < (n : Int) by omega); omega
    have hlt' : (t : Int) < (n : Int) := by omega
    have c0 := hc t (by rw [← HN.out]; exact hlt)
    obtain ⟨z, hzz⟩ : ∃ z, z = zs.getD t 0 := ⟨_, rfl⟩
    have HZ := hideG (show inI z by rw [hzz, List.getD_eq_getElem?_getD, List.getElem?_eq_getElem (by rw [← HN.out]; exact hlt)]; exact HI.out _ (List.getElem_mem _))
    rw [← hzz] at c0
    clear hc hzz
    have hn0 : ¬ (n : Int) = 0 := by omega
    have hn1 : ((n : Int) == 0) = false := by simp; omega
    go_enter Try.func77, Try.ntmps77
    go_wp2_with fail
    go_ret
    exact ⟨z, rfl, HZ.out, rfl⟩

/-- What is known of who is among the Ids. -/
def MemOK (k fr p u : Int) (m : Bool) : Prop :=
  (k = 1 → m = decide (u = fr)) ∧ (k = 5 → m = decide (u ≤ 1 + p)) ∧ (k = 3 → m = true → u ≠ fr) ∧ ((k = 2 ∨ k = 6 ∨ k = 7) → u = 1 + p → m = true)

set_option maxHeartbeats 400000 in
theorem kmember_calls (k fr who u : Int) (w : World) (hk1 : 1 ≤ k) (hk7 : k ≤ 7) (hw : inI who) (h1 : 1 ≤ u) (h2 : u ≤ 12) :
    Calls Try.prog 50 #[.int .i64 k, .int .i64 fr, .int .i64 who, .int .i64 u] w fun e w' => ∃ m, e = .returned (.bool m) ∧ w' = w ∧ MemOK k fr (Num.pickN who 12) u m := by
  have p0 := Num.pickN_lo who 12 (by omega)
  have p1 := Num.pickN_hi who 12 (by omega)
  unfold inI at hw
  by_cases k1 : k = 1
  · subst k1
    by_cases q : u = fr
    · subst q
      go_enter Try.func50, Try.ntmps50
      go_wp2_with fail
      go_ret
      exact ⟨_, rfl, rfl, fun _ => by simp, fun e => by omega, fun e => by omega, fun e => by omega⟩
    · have q' : (u == fr) = false := by simpa using q
      go_enter Try.func50, Try.ntmps50
      go_wp2_with fail
      go_ret
      exact ⟨_, rfl, rfl, fun _ => (decide_eq_false q).symm, fun e => by omega, fun e => by omega, fun e => by omega⟩
  by_cases k5 : k = 5
  · subst k5
    by_cases q : u ≤ 1 + Num.pickN who 12
    · have HQ := hideG q
      go_enter Try.func50, Try.ntmps50
      go_wp2_with fail
      refine (pick_calls _ _ _ hw.1 hw.2 (by omega) (by omega)).mono ?_
      rintro e w' ⟨rfl, rfl⟩
      go_wp2_with fail
      go_ret
      exact ⟨_, rfl, rfl, fun e => by omega, fun _ => by first | exact (decide_eq_true HQ.out).symm | rfl, fun e => by omega, fun e => by omega⟩
    · have HQ := hideG q
      go_enter Try.func50, Try.ntmps50
      go_wp2_with fail
      refine (pick_calls _ _ _ hw.1 hw.2 (by omega) (by omega)).mono ?_
      rintro e w' ⟨rfl, rfl⟩
      go_wp2_with fail
      go_ret
      exact ⟨_, rfl, rfl, fun e => by omega, fun _ => by first | exact (decide_eq_false HQ.out).symm | rfl, fun e => by omega, fun e => by omega⟩
  by_cases k3 : k = 3
  · subst k3
    by_cases q : u = fr
    · subst q
      have q' : (u != u) = false := by simp
      go_enter Try.func50, Try.ntmps50
      go_wp2_with fail
      go_ret
      exact ⟨_, rfl, rfl, fun e => by omega, fun e => by omega, fun _ e => by simp at e, fun e => by omega⟩
    · have q' : (u != fr) = true := by simpa using q
      have HQ := hideG q
      go_enter Try.func50, Try.ntmps50
      go_wp2_with fail
      go_ret
      exact ⟨_, rfl, rfl, fun e => by omega, fun e => by omega, fun _ _ => HQ.out, fun e => by omega⟩
  by_cases k4 : k = 4
  · subst k4
    go_enter Try.func50, Try.ntmps50
    go_wp2_with fail
    go_ret
    exact ⟨_, rfl, rfl, fun e => by omega, fun e => by omega, fun e => by omega, fun e => by omega⟩
  have n1 : (k == 1) = false := by simpa using k1
  have n3 : (k == 3) = false := by simpa using k3
  have n4 : (k == 4) = false := by simpa using k4
  have n5 : (k == 5) = false := by simpa using k5
  obtain ⟨p, hp⟩ : ∃ p, p = Num.pickN who 12 := ⟨_, rfl⟩
  rw [← hp] at p0 p1 ⊢
  have HP := hideG hp
  clear hp
  by_cases q : u = 1 + p
  · have q' : (u == 1 + p) = true := by simpa using q
    have HQ := hideG q
    clear q
    go_enter Try.func50, Try.ntmps50
    go_wp2_with fail
    refine (pick_calls _ _ _ hw.1 hw.2 (by omega) (by omega)).mono ?_
    rintro e w' ⟨rfl, rfl⟩
    rw [← HP.out]
    go_wp2_with fail
    go_ret
    exact ⟨_, rfl, rfl, fun e => by omega, fun e => by omega, fun e => by omega, fun _ _ => by first | rfl | simp⟩
  · have q' : (u == 1 + p) = false := by simpa using q
    have HQ := hideG q
    clear q
    go_enter Try.func50, Try.ntmps50
    go_wp2_with fail
    refine (pick_calls _ _ _ hw.1 hw.2 (by omega) (by omega)).mono ?_
    rintro e w' ⟨rfl, rfl⟩
    rw [← HP.out]
    go_wp2_with fail
    go_ret
    exact ⟨_, rfl, rfl, fun e => by omega, fun e => by omega, fun e => by omega, fun _ e => absurd e HQ.out⟩

set_option maxHeartbeats 1000000 in
set_option maxRecDepth 100000 in
theorem kitem_calls (k u i : Int) (v : Value) (zs : List Int) (w : World) (h : ListAt w v zs) (hk1 : 1 ≤ k) (hk7 : k ≤ 7) (h1 : 1 ≤ u) (h2 : u ≤ 12) (h0 : 0 ≤ i) (h3 : i ≤ 100) :
    Calls Try.prog 51 #[.int .i64 k, .int .i64 u, v, .int .i64 i] w fun e w' => ∃ A B C, e = .returned (.agg #[.int .i64 u, .int .i64 A, .int .i64 B, .int .i64 C]) ∧ Frm.okI k (u, A, B, C) = true ∧ inIt (u, A, B, C) ∧ Below w.heap.size w w' := by
  have HM := hideG (fun (w1 : World) (hb : Below w.heap.size w w1) => h.below hb)
  clear h
  by_cases k1 : k = 1
  · subst k1
    go_enter Try.func51, Try.ntmps51
    go_wp2_with fail
    refine (kraw_calls _ zs _ _ (HM.out _ (by go_grown)) (by omega) (by omega)).mono ?_
    rintro e w' ⟨a, rfl, ha, rfl⟩
    unfold inI at ha
    go_wp2_with fail
    refine (kraw_calls _ zs _ _ (HM.out _ (by go_grown)) (by omega) (by omega)).mono ?_
    rintro e w' ⟨b, rfl, hb, rfl⟩
    unfold inI at hb
    go_wp2_with fail
    refine (kraw_calls _ zs _ _ (HM.out _ (by go_grown)) (by omega) (by omega)).mono ?_
    rintro e w' ⟨c, rfl, hc, rfl⟩
    unfold inI at hc
    go_wp2_with fail
    refine (pick_calls _ _ _ ha.1 ha.2 (by omega) (by omega)).mono ?_
    rintro e w' ⟨rfl, rfl⟩
    have a0 := Num.pickN_lo a 2305843009213693950 (by omega)
    have a1 := Num.pickN_hi a 2305843009213693950 (by omega)
    generalize Num.pickN a 2305843009213693950 = ap at *
    go_wp2_with fail
    refine (pick_calls _ _ _ hb.1 hb.2 (by omega) (by omega)).mono ?_
    rintro e w' ⟨rfl, rfl⟩
    have b0 := Num.pickN_lo b 2305843009213693950 (by omega)
    have b1 := Num.pickN_hi b 2305843009213693950 (by omega)
    generalize Num.pickN b 2305843009213693950 = bp at *
    go_wp2_with fail
    go_returns
    refine ⟨(1 + ap), (1 + bp), 0, rfl, ?_, ⟨by unfold inI; omega, by show inI (1 + ap); unfold inI; omega, by show inI (1 + bp); unfold inI; omega, by show inI 0; unfold inI; omega⟩, by go_grown⟩
    show (Frm.keyB (1 + ap) && (Frm.keyB (1 + bp) && Frm.zB 0)) = true
    rw [Bool.and_eq_true, Bool.and_eq_true, Frm.keyB_iff, Frm.keyB_iff, Frm.zB_iff]
    omega
  by_cases k2 : k = 2
  · subst k2
    go_enter Try.func51, Try.ntmps51
    go_wp2_with fail
    refine (kraw_calls _ zs _ _ (HM.out _ (by go_grown)) (by omega) (by omega)).mono ?_
    rintro e w' ⟨a, rfl, ha, rfl⟩
    unfold inI at ha
    go_wp2_with fail
    refine (kraw_calls _ zs _ _ (HM.out _ (by go_grown)) (by omega) (by omega)).mono ?_
    rintro e w' ⟨b, rfl, hb, rfl⟩
    unfold inI at hb
    go_wp2_with fail
    refine (kraw_calls _ zs _ _ (HM.out _ (by go_grown)) (by omega) (by omega)).mono ?_
    rintro e w' ⟨c, rfl, hc, rfl⟩
    unfold inI at hc
    go_wp2_with fail
    refine (pick_calls _ _ _ ha.1 ha.2 (by omega) (by omega)).mono ?_
    rintro e w' ⟨rfl, rfl⟩
    have a0 := Num.pickN_lo a 2305843009213693950 (by omega)
    have a1 := Num.pickN_hi a 2305843009213693950 (by omega)
    generalize Num.pickN a 2305843009213693950 = ap at *
    go_wp2_with fail
    refine (pick_calls _ _ _ hb.1 hb.2 (by omega) (by omega)).mono ?_
    rintro e w' ⟨rfl, rfl⟩
    have b0 := Num.pickN_lo b 2305843009213693950 (by omega)
    have b1 := Num.pickN_hi b 2305843009213693950 (by omega)
    generalize Num.pickN b 2305843009213693950 = bp at *
    go_wp2_with fail
    go_returns
    refine ⟨(1 + ap), (1 + bp), 0, rfl, ?_, ⟨by unfold inI; omega, by show inI (1 + ap); unfold inI; omega, by show inI (1 + bp); unfold inI; omega, by show inI 0; unfold inI; omega⟩, by go_grown⟩
    show (Frm.keyB (1 + ap) && (Frm.keyB (1 + bp) && Frm.zB 0)) = true
    rw [Bool.and_eq_true, Bool.and_eq_true, Frm.keyB_iff, Frm.keyB_iff, Frm.zB_iff]
    omega
  by_cases k3 : k = 3
  · subst k3
    go_enter Try.func51, Try.ntmps51
    go_wp2_with fail
    refine (kraw_calls _ zs _ _ (HM.out _ (by go_grown)) (by omega) (by omega)).mono ?_
    rintro e w' ⟨a, rfl, ha, rfl⟩
    unfold inI at ha
    go_wp2_with fail
    refine (kraw_calls _ zs _ _ (HM.out _ (by go_grown)) (by omega) (by omega)).mono ?_
    rintro e w' ⟨b, rfl, hb, rfl⟩
    unfold inI at hb
    go_wp2_with fail
    refine (kraw_calls _ zs _ _ (HM.out _ (by go_grown)) (by omega) (by omega)).mono ?_
    rintro e w' ⟨c, rfl, hc, rfl⟩
    unfold inI at hc
    go_wp2_with fail
    refine (pick_calls _ _ _ ha.1 ha.2 (by omega) (by omega)).mono ?_
    rintro e w' ⟨rfl, rfl⟩
    have a0 := Num.pickN_lo a 2305843009213693951 (by omega)
    have a1 := Num.pickN_hi a 2305843009213693951 (by omega)
    generalize Num.pickN a 2305843009213693951 = ap at *
    go_wp2_with fail
    refine (pick_calls _ _ _ hb.1 hb.2 (by omega) (by omega)).mono ?_
    rintro e w' ⟨rfl, rfl⟩
    have b0 := Num.pickN_lo b 2305843009213693951 (by omega)
    have b1 := Num.pickN_hi b 2305843009213693951 (by omega)
    generalize Num.pickN b 2305843009213693951 = bp at *
    go_wp2_with fail
    refine (pick_calls _ _ _ hc.1 hc.2 (by omega) (by omega)).mono ?_
    rintro e w' ⟨rfl, rfl⟩
    have c0 := Num.pickN_lo c 2305843009213693951 (by omega)
    have c1 := Num.pickN_hi c 2305843009213693951 (by omega)
    generalize Num.pickN c 2305843009213693951 = cp at *
    go_wp2_with fail
    go_returns
    refine ⟨ap, bp, cp, rfl, ?_, ⟨by unfold inI; omega, by show inI ap; unfold inI; omega, by show inI bp; unfold inI; omega, by show inI cp; unfold inI; omega⟩, by go_grown⟩
    show (Num.elB ap && (Num.elB bp && Num.elB cp)) = true
    rw [Bool.and_eq_true, Bool.and_eq_true, Num.elB_iff, Num.elB_iff, Num.elB_iff]
    omega
  by_cases k4 : k = 4
  · subst k4
    go_enter Try.func51, Try.ntmps51
    go_wp2_with fail
    refine (kraw_calls _ zs _ _ (HM.out _ (by go_grown)) (by omega) (by omega)).mono ?_
    rintro e w' ⟨a, rfl, ha, rfl⟩
    unfold inI at ha
    go_wp2_with fail
    refine (kraw_calls _ zs _ _ (HM.out _ (by go_grown)) (by omega) (by omega)).mono ?_
    rintro e w' ⟨b, rfl, hb, rfl⟩
    unfold inI at hb
    go_wp2_with fail
    refine (kraw_calls _ zs _ _ (HM.out _ (by go_grown)) (by omega) (by omega)).mono ?_
    rintro e w' ⟨c, rfl, hc, rfl⟩
    unfold inI at hc
    go_wp2_with fail
    refine (pick_calls _ _ _ ha.1 ha.2 (by omega) (by omega)).mono ?_
    rintro e w' ⟨rfl, rfl⟩
    have a0 := Num.pickN_lo a 2305843009213693951 (by omega)
    have a1 := Num.pickN_hi a 2305843009213693951 (by omega)
    generalize Num.pickN a 2305843009213693951 = ap at *
    go_wp2_with fail
    refine (pick_calls _ _ _ hb.1 hb.2 (by omega) (by omega)).mono ?_
    rintro e w' ⟨rfl, rfl⟩
    have b0 := Num.pickN_lo b 2305843009213693951 (by omega)
    have b1 := Num.pickN_hi b 2305843009213693951 (by omega)
    generalize Num.pickN b 2305843009213693951 = bp at *
    go_wp2_with fail
    refine (pick_calls _ _ _ hc.1 hc.2 (by omega) (by omega)).mono ?_
    rintro e w' ⟨rfl, rfl⟩
    have c0 := Num.pickN_lo c 2305843009213693951 (by omega)
    have c1 := Num.pickN_hi c 2305843009213693951 (by omega)
    generalize Num.pickN c 2305843009213693951 = cp at *
    go_wp2_with fail
    go_returns
    refine ⟨ap, bp, cp, rfl, ?_, ⟨by unfold inI; omega, by show inI ap; unfold inI; omega, by show inI bp; unfold inI; omega, by show inI cp; unfold inI; omega⟩, by go_grown⟩
    show (Num.elB ap && (Num.elB bp && Num.elB cp)) = true
    rw [Bool.and_eq_true, Bool.and_eq_true, Num.elB_iff, Num.elB_iff, Num.elB_iff]
    omega
  by_cases k5 : k = 5
  · subst k5
    go_enter Try.func51, Try.ntmps51
    go_wp2_with fail
    refine (kraw_calls _ zs _ _ (HM.out _ (by go_grown)) (by omega) (by omega)).mono ?_
    rintro e w' ⟨a, rfl, ha, rfl⟩
    unfold inI at ha
    go_wp2_with fail
    refine (kraw_calls _ zs _ _ (HM.out _ (by go_grown)) (by omega) (by omega)).mono ?_
    rintro e w' ⟨b, rfl, hb, rfl⟩
    unfold inI at hb
    go_wp2_with fail
    refine (kraw_calls _ zs _ _ (HM.out _ (by go_grown)) (by omega) (by omega)).mono ?_
    rintro e w' ⟨c, rfl, hc, rfl⟩
    unfold inI at hc
    go_wp2_with fail
    refine (pick_calls _ _ _ ha.1 ha.2 (by omega) (by omega)).mono ?_
    rintro e w' ⟨rfl, rfl⟩
    have a0 := Num.pickN_lo a 4294967296 (by omega)
    have a1 := Num.pickN_hi a 4294967296 (by omega)
    generalize Num.pickN a 4294967296 = ap at *
    go_wp2_with fail
    go_returns
    refine ⟨ap, 0, 0, rfl, ?_, ⟨by unfold inI; omega, by show inI ap; unfold inI; omega, by show inI 0; unfold inI; omega, by show inI 0; unfold inI; omega⟩, by go_grown⟩
    show (Frm.wdB ap && (Frm.zB 0 && Frm.zB 0)) = true
    rw [Bool.and_eq_true, Bool.and_eq_true, Frm.wdB_iff, Frm.zB_iff]
    omega
  by_cases k6 : k = 6
  · subst k6
    go_enter Try.func51, Try.ntmps51
    go_wp2_with fail
    refine (kraw_calls _ zs _ _ (HM.out _ (by go_grown)) (by omega) (by omega)).mono ?_
    rintro e w' ⟨a, rfl, ha, rfl⟩
    unfold inI at ha
    go_wp2_with fail
    refine (kraw_calls _ zs _ _ (HM.out _ (by go_grown)) (by omega) (by omega)).mono ?_
    rintro e w' ⟨b, rfl, hb, rfl⟩
    unfold inI at hb
    go_wp2_with fail
    refine (kraw_calls _ zs _ _ (HM.out _ (by go_grown)) (by omega) (by omega)).mono ?_
    rintro e w' ⟨c, rfl, hc, rfl⟩
    unfold inI at hc
    go_wp2_with fail
    go_returns
    refine ⟨0, 0, 0, rfl, ?_, ⟨by unfold inI; omega, by show inI 0; unfold inI; omega, by show inI 0; unfold inI; omega, by show inI 0; unfold inI; omega⟩, by go_grown⟩
    show (Frm.zB 0 && (Frm.zB 0 && Frm.zB 0)) = true
    rw [Bool.and_eq_true, Bool.and_eq_true, Frm.zB_iff]
    omega
  obtain rfl : k = 7 := by omega
  go_enter Try.func51, Try.ntmps51
  go_wp2_with fail
  refine (kraw_calls _ zs _ _ (HM.out _ (by go_grown)) (by omega) (by omega)).mono ?_
  rintro e w' ⟨a, rfl, ha, rfl⟩
  unfold inI at ha
  go_wp2_with fail
  refine (kraw_calls _ zs _ _ (HM.out _ (by go_grown)) (by omega) (by omega)).mono ?_
  rintro e w' ⟨b, rfl, hb, rfl⟩
  unfold inI at hb
  go_wp2_with fail
  refine (kraw_calls _ zs _ _ (HM.out _ (by go_grown)) (by omega) (by omega)).mono ?_
  rintro e w' ⟨c, rfl, hc, rfl⟩
  unfold inI at hc
  go_wp2_with fail
  refine (pick_calls _ _ _ ha.1 ha.2 (by omega) (by omega)).mono ?_
  rintro e w' ⟨rfl, rfl⟩
  have a0 := Num.pickN_lo a 2 (by omega)
  have a1 := Num.pickN_hi a 2 (by omega)
  generalize Num.pickN a 2 = ap at *
  go_wp2_with fail
  refine (pick_calls _ _ _ hb.1 hb.2 (by omega) (by omega)).mono ?_
  rintro e w' ⟨rfl, rfl⟩
  have b0 := Num.pickN_lo b 2305843009213693951 (by omega)
  have b1 := Num.pickN_hi b 2305843009213693951 (by omega)
  generalize Num.pickN b 2305843009213693951 = bp at *
  go_wp2_with fail
  go_returns
  refine ⟨(1 + ap), bp, 0, rfl, ?_, ⟨by unfold inI; omega, by show inI (1 + ap); unfold inI; omega, by show inI bp; unfold inI; omega, by show inI 0; unfold inI; omega⟩, by go_grown⟩
  show (Frm.tB (1 + ap) && (Num.elB bp && Frm.zB 0)) = true
  rw [Bool.and_eq_true, Bool.and_eq_true, Frm.tB_iff, Num.elB_iff, Frm.zB_iff]
  omega

end Go.Proofs.Ytchideljndagjaa
