/- Contracts of package veilref: the looks at a frame's items. -/
import Derived.Test.YtchideljndagjaaGreatFrameG
import Derived.Test.YtchideljndagjaaGreatRef
import Derived.Test.YtchideljndagjaaGreatRefSplit
import Derived.BigQuiet
namespace Go.Proofs.YtchideljndagjaaGreat
open Go.ChangeShapes Go.WideShapes Go.ChangeAt Go.RowKit
set_option linter.unusedVariables false

/-- The numbers of an item that stand in the bytes, in a list of the call's own. -/
theorem written_calls (k : Int) (x : Frm.It) (w : World) :
    Calls Tryz.prog 99 #[.int .i64 k, .agg #[.int .i64 x.1, .int .i64 x.2.1, .int .i64 x.2.2.1, .int .i64 x.2.2.2]] w fun e w' => ∃ a, e = .returned (.slice a (Frm.wid k) (Frm.wid k)) ∧
      (0 < Frm.wid k → ∃ g, a = some ⟨g, 0, none⟩ ∧ w.heap.size ≤ g ∧ g < w'.heap.size ∧ ∀ i, i < Frm.wid k → w'.cell? ⟨g, i, none⟩ = some (.int .i64 ((Frm.nums k x).getD i 0))) ∧ Below w.heap.size w w' := by
  by_cases k1 : k = 1
  · subst k1
    have HW := hideG (show Frm.wid 1 = 2 from rfl)
    have HN := hideG (show Frm.nums 1 x = [x.2.1, x.2.2.1] from rfl)
    go_enter Tryz.func99, Tryz.ntmps99
    go_wp2_with fail
    go_ret
    rw [HN.out, HW.out]
    refine ⟨_, rfl, fun _ => ⟨_, rfl, by simp, by simp, fun i hi => ?_⟩, ((Below.refl _ _).alloc (Nat.le_refl _) _).alloc (by simp) _⟩
    rcases (show i = 0 ∨ i = 1 by omega) with rfl | rfl <;> simp
  by_cases k2 : k = 2
  · subst k2
    have HW := hideG (show Frm.wid 2 = 2 from rfl)
    have HN := hideG (show Frm.nums 2 x = [x.2.1, x.2.2.1] from rfl)
    go_enter Tryz.func99, Tryz.ntmps99
    go_wp2_with fail
    go_ret
    rw [HN.out, HW.out]
    refine ⟨_, rfl, fun _ => ⟨_, rfl, by simp, by simp, fun i hi => ?_⟩, ((Below.refl _ _).alloc (Nat.le_refl _) _).alloc (by simp) _⟩
    rcases (show i = 0 ∨ i = 1 by omega) with rfl | rfl <;> simp
  by_cases k7 : k = 7
  · subst k7
    have HW := hideG (show Frm.wid 7 = 2 from rfl)
    have HN := hideG (show Frm.nums 7 x = [x.2.1, x.2.2.1] from rfl)
    go_enter Tryz.func99, Tryz.ntmps99
    go_wp2_with fail
    go_ret
    rw [HN.out, HW.out]
    refine ⟨_, rfl, fun _ => ⟨_, rfl, by simp, by simp, fun i hi => ?_⟩, ((Below.refl _ _).alloc (Nat.le_refl _) _).alloc (by simp) _⟩
    rcases (show i = 0 ∨ i = 1 by omega) with rfl | rfl <;> simp
  by_cases k3 : k = 3
  · subst k3
    have HW := hideG (show Frm.wid 3 = 3 from rfl)
    have HN := hideG (show Frm.nums 3 x = [x.2.1, x.2.2.1, x.2.2.2] from rfl)
    go_enter Tryz.func99, Tryz.ntmps99
    go_wp2_with fail
    go_ret
    rw [HN.out, HW.out]
    refine ⟨_, rfl, fun _ => ⟨_, rfl, by simp, by simp, fun i hi => ?_⟩, ((Below.refl _ _).alloc (Nat.le_refl _) _).alloc (by simp) _⟩
    rcases (show i = 0 ∨ i = 1 ∨ i = 2 by omega) with rfl | rfl | rfl <;> simp
  by_cases k4 : k = 4
  · subst k4
    have HW := hideG (show Frm.wid 4 = 3 from rfl)
    have HN := hideG (show Frm.nums 4 x = [x.2.1, x.2.2.1, x.2.2.2] from rfl)
    go_enter Tryz.func99, Tryz.ntmps99
    go_wp2_with fail
    go_ret
    rw [HN.out, HW.out]
    refine ⟨_, rfl, fun _ => ⟨_, rfl, by simp, by simp, fun i hi => ?_⟩, ((Below.refl _ _).alloc (Nat.le_refl _) _).alloc (by simp) _⟩
    rcases (show i = 0 ∨ i = 1 ∨ i = 2 by omega) with rfl | rfl | rfl <;> simp
  by_cases k5 : k = 5
  · subst k5
    have HW := hideG (show Frm.wid 5 = 1 from rfl)
    have HN := hideG (show Frm.nums 5 x = [x.2.1] from rfl)
    go_enter Tryz.func99, Tryz.ntmps99
    go_wp2_with fail
    go_ret
    rw [HN.out, HW.out]
    refine ⟨_, rfl, fun _ => ⟨_, rfl, by simp, by simp, fun i hi => ?_⟩, ((Below.refl _ _).alloc (Nat.le_refl _) _).alloc (by simp) _⟩
    obtain rfl : i = 0 := by omega
    simp
  have HW := hideG (show Frm.wid k = 0 by unfold Frm.wid; rw [if_neg (by omega), if_neg (by omega), if_neg (by omega)])
  go_enter Tryz.func99, Tryz.ntmps99
  go_wp2_with fail
  go_ret
  rw [HW.out]
  exact ⟨none, rfl, fun h => absurd h (by omega), (Below.refl _ _).alloc (Nat.le_refl _) _⟩

set_option maxHeartbeats 1000000 in
set_option maxRecDepth 100000 in
theorem rising_calls (v : Value) (l : List Frm.It) (w : World) (h : ItemsAt w v l) :
    Calls Tryz.prog 154 #[v] w fun e w' => e = .returned (.bool (decide (l.length ≤ 12) && Frm.riseB l)) ∧ Below w.heap.size w w' := by
  obtain ⟨a, cap, rfl, l2, l3, _, hc⟩ := items_view h
  have HC := hideG hc
  clear hc h
  have HN := hideG (show Frm.riseB l = Frm.allB l.length (Frm.riseAt l) from rfl)
  have HRA := hideG (fun k => (show Frm.riseAt l k = (Num.clB (Frm.it l k).1 && (decide (k = 0) || decide ((Frm.it l (k - 1)).1 < (Frm.it l k).1))) from rfl))
  generalize hn : l.length = n at *
  clear hn
  by_cases t : 12 < (n : Int)
  · have H := hideG (decide_eq_false (show ¬ n ≤ 12 by omega))
    go_enter Tryz.func154, Tryz.ntmps154
    go_wp2_with fail
    go_ret
    exact ⟨ret_bool (by rw [H.out]; rfl), Below.refl _ _⟩
  have HT := hideG (decide_eq_true (show n ≤ 12 by omega))
  go_enter Tryz.func154, Tryz.ntmps154
  go_wp2_with fail
  go_loopw [3] (fun i wr => ∃ k : Nat, k ≤ n ∧ i = .int .i64 k ∧ (∀ j, j < k → Frm.riseAt l j = true) ∧ Below w.heap.size w wr) (fun i _ => n - (intOf i).toNat)
  case atStart => exact ⟨0, Nat.zero_le _, rfl, fun j hj => absurd hj (by omega), Below.refl _ _⟩
  case round =>
    obtain ⟨k, hk, rfl, hall, hbel⟩ := hrel
    have HA := hideG hall
    have HB := hideG hbel
    have hsz := hbel.size
    clear hall hbel
    by_cases hlt : k < n
    · obtain ⟨b, off, rfl, hb, hit⟩ := HC.out k hlt
      obtain ⟨c0, c1, c2, c3⟩ := hit.below hb HB.out
      clear hit
      have HR := HRA.out k
      obtain ⟨x, hx⟩ : ∃ x, x = (Frm.it l k).1 := ⟨_, rfl⟩
      rw [← hx] at c0 HR
      clear hx c1 c2 c3
      have HRK := hideG HR
      clear HR
      cases q : Num.clB x
      · have H := hideG (show Frm.riseB l = false by rw [HN.out]; exact Frm.allB_no k hlt (by rw [HRK.out, q]; rfl))
        go_wp2_with fail
        refine (rparty_calls _ _).mono ?_
        rintro e w1 ⟨rfl, hw1⟩
        rw [hw1, q]
        clear hw1
        go_wp2_with fail
        go_quiet (fail)
        go_wp2_with fail
        go_ret
        exact ⟨ret_bool (by rw [H.out, Bool.and_false]), HB.out.trans ((below_drewN _ _).mono hsz)⟩
      · by_cases hk0 : k = 0
        · have HRT := hideG (show Frm.riseAt l k = true by rw [HRK.out, q, decide_eq_true hk0]; rfl)
          have hk1 : ¬ (0 : Int) < (k : Int) := by omega
          have hk2 : decide ((0 : Int) < (k : Int)) = false := decide_eq_false hk1
          have hk3 : decide (0 < k) = false := decide_eq_false (by omega)
          have HK0 := hideG hk0
          clear hk0
          go_wp2_with fail
          refine (rparty_calls _ _).mono ?_
          rintro e w1 ⟨rfl, hw1⟩
          rw [hw1, q]
          clear hw1
          go_wp2_with fail
          go_quiet (fail)
          go_wp2_with fail
          go_roundw
          case rel =>
            refine ⟨k + 1, by omega, by go_num, fun j hj => ?_, HB.out.trans ((below_drewN _ _).mono hsz)⟩
            by_cases e : j = k
            · subst e; exact HRT.out
            · exact HA.out j (by omega)
          case measure => simp [intOf]; omega
        · obtain ⟨b', off', ea, hb', hit'⟩ := HC.out (k - 1) (by omega)
          obtain ⟨d0, _, _, _⟩ := hit'.below hb' HB.out
          clear hit'
          simp only [Option.some.injEq, Addr.mk.injEq, and_true] at ea
          obtain ⟨rfl, rfl⟩ := ea
          obtain ⟨y, hy⟩ : ∃ y, y = (Frm.it l (k - 1)).1 := ⟨_, rfl⟩
          rw [← hy] at d0 HRK
          clear hy
          obtain ⟨j, hj⟩ : ∃ j, j = k - 1 := ⟨_, rfl⟩
          rw [← hj] at d0
          have hkj : (k : Int) - 1 = (j : Int) := by omega
          have hjn : (j : Int) < (n : Int) := by omega
          have hk1 : (0 : Int) < (k : Int) := by omega
          have hk2 : decide ((0 : Int) < (k : Int)) = true := decide_eq_true hk1
          have hk3 : decide (0 < k) = true := decide_eq_true (by omega)
          have hwr : IntKind.i64.wrap ((k : Int) - 1) = (j : Int) := by rw [hkj, IntWalk.i64_left, IntWalk.wrap64_in _ (by omega)]
          have HK0 := hideG hk0
          clear hj hk0
          by_cases hle : x ≤ y
          · have H := hideG (show Frm.riseB l = false by
              rw [HN.out]
              refine Frm.allB_no k hlt ?_
              rw [HRK.out, q, decide_eq_false HK0.out, decide_eq_false (show ¬ y < x by omega)]; rfl)
            have hle2 : decide (x ≤ y) = true := decide_eq_true hle
            go_wp2_with fail
            refine (rparty_calls _ _).mono ?_
            rintro e w1 ⟨rfl, hw1⟩
            rw [hw1, q]
            clear hw1
            go_wp2_with fail
            go_quiet (fail)
            go_wp2_with fail
            go_ret
            exact ⟨ret_bool (by rw [H.out, Bool.and_false]), HB.out.trans ((below_drewN _ _).mono hsz)⟩
          · have HRT := hideG (show Frm.riseAt l k = true by rw [HRK.out, q, decide_eq_true (show y < x by omega)]; simp)
            have hle2 : decide (x ≤ y) = false := decide_eq_false hle
            go_wp2_with fail
            refine (rparty_calls _ _).mono ?_
            rintro e w1 ⟨rfl, hw1⟩
            rw [hw1, q]
            clear hw1
            go_wp2_with fail
            go_quiet (fail)
            go_wp2_with fail
            go_roundw
            case rel =>
              refine ⟨k + 1, by omega, by go_num, fun j hj => ?_, HB.out.trans ((below_drewN _ _).mono hsz)⟩
              by_cases e : j = k
              · subst e; exact HRT.out
              · exact HA.out j (by omega)
            case measure => simp [intOf]; omega
    · have ek : k = n := by omega
      subst ek
      go_wp2_with fail
      go_ret
      exact ⟨ret_bool (by rw [HN.out, Frm.allB_yes HA.out, HT.out]; rfl), HB.out⟩

end Go.Proofs.YtchideljndagjaaGreat
