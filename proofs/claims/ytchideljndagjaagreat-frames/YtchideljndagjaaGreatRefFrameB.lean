/- Contracts of package veilref: items of public keys, places, shares, Ids. -/
import Derived.Test.YtchideljndagjaaGreatFrameG
import Derived.Test.YtchideljndagjaaGreatRef
import Derived.Test.YtchideljndagjaaGreatRefSplit
import Derived.BigQuiet
namespace Go.Proofs.YtchideljndagjaaGreat
open Go.ChangeShapes Go.WideShapes Go.ChangeAt Go.RowKit
set_option linter.unusedVariables false

set_option maxHeartbeats 1000000 in
set_option maxRecDepth 100000 in
theorem publics_calls (v : Value) (l : List Frm.It) (w : World) (h : ItemsAt w v l) :
    Calls Tryz.prog 155 #[v] w fun e w' => e = .returned (.bool (Frm.pubB l)) ∧ Below w.heap.size w w' := by
  obtain ⟨a, cap, rfl, l2, l3, _, hc⟩ := items_view h
  have HC := hideG hc
  clear hc h
  have HN := hideG (show Frm.pubB l = Frm.allB l.length fun i => Frm.keyB (Frm.it l i).2.1 && (Frm.keyB (Frm.it l i).2.2.1 && Frm.zB (Frm.it l i).2.2.2) from rfl)
  generalize hn : l.length = n at *
  clear hn
  go_enter Tryz.func155, Tryz.ntmps155
  go_wp2_with fail
  go_loopw [3] (fun i wr => ∃ k : Nat, k ≤ n ∧ i = .int .i64 k ∧ (∀ j, j < k → (Frm.keyB (Frm.it l j).2.1 && (Frm.keyB (Frm.it l j).2.2.1 && Frm.zB (Frm.it l j).2.2.2)) = true) ∧ Below w.heap.size w wr) (fun i _ => n - (intOf i).toNat)
  case atStart => exact ⟨0, Nat.zero_le _, rfl, fun j hj => absurd hj (by omega), Below.refl _ _⟩
  case round =>
    obtain ⟨k, hk, rfl, hall, hbel⟩ := hrel
    have HA := hideG hall
    have HB := hideG hbel
    have hsz := hbel.size
    by_cases hlt : k < n
    · obtain ⟨b, off, rfl, hb, hit⟩ := HC.out k hlt
      have hit := hit.below hb hbel
      have hb2 : b < wr.heap.size := by omega
      obtain ⟨c0, c1, c2, c3⟩ := hit
      obtain ⟨x, hx⟩ : ∃ x, x = Frm.it l k := ⟨_, rfl⟩
      rw [← hx] at c0 c1 c2 c3
      have HX := hideG hx
      clear hx hall hbel
      obtain ⟨xi, xa, xb, xc⟩ := x
      simp only at c0 c1 c2 c3
      have HF := hideG (show (Frm.keyB (xi, xa, xb, xc).2.1 && (Frm.keyB (xi, xa, xb, xc).2.2.1 && Frm.zB (xi, xa, xb, xc).2.2.2)) = false → Frm.pubB l = false from fun e => by rw [HN.out]; exact Frm.allB_no k hlt (by rw [← HX.out]; exact e))
      have HK := hideG (show (Frm.keyB (xi, xa, xb, xc).2.1 && (Frm.keyB (xi, xa, xb, xc).2.2.1 && Frm.zB (xi, xa, xb, xc).2.2.2)) = true → ∀ j, j < k + 1 → (Frm.keyB (Frm.it l j).2.1 && (Frm.keyB (Frm.it l j).2.2.1 && Frm.zB (Frm.it l j).2.2.2)) = true from fun e j hj => by
        by_cases ej : j = k
        · subst ej; rw [← HX.out]; exact e
        · exact HA.out j (by omega))
      by_cases a1 : xa < 1
      · have H := hideG (HF.out (by show (Frm.keyB xa && (Frm.keyB xb && Frm.zB xc)) = false; rw [(show Frm.keyB xa = false from decide_eq_false (by omega))]; rfl))
        go_wp2_with fail
        go_ret
        exact ⟨ret_bool H.out.symm, HB.out.alloc (by omega) _⟩
      by_cases a2 : 2305843009213693951 ≤ xa
      · have H := hideG (HF.out (by show (Frm.keyB xa && (Frm.keyB xb && Frm.zB xc)) = false; rw [(show Frm.keyB xa = false from decide_eq_false (by omega))]; rfl))
        go_wp2_with fail
        go_ret
        exact ⟨ret_bool H.out.symm, HB.out.alloc (by omega) _⟩
      by_cases b1 : xb < 1
      · have H := hideG (HF.out (by show (Frm.keyB xa && (Frm.keyB xb && Frm.zB xc)) = false; rw [(show Frm.keyB xb = false from decide_eq_false (by omega)), Bool.false_and, Bool.and_false]))
        go_wp2_with fail
        go_ret
        exact ⟨ret_bool H.out.symm, HB.out.alloc (by omega) _⟩
      by_cases b2 : 2305843009213693951 ≤ xb
      · have H := hideG (HF.out (by show (Frm.keyB xa && (Frm.keyB xb && Frm.zB xc)) = false; rw [(show Frm.keyB xb = false from decide_eq_false (by omega)), Bool.false_and, Bool.and_false]))
        go_wp2_with fail
        go_ret
        exact ⟨ret_bool H.out.symm, HB.out.alloc (by omega) _⟩
      by_cases z : ¬ xc = 0
      · have H := hideG (HF.out (by show (Frm.keyB xa && (Frm.keyB xb && Frm.zB xc)) = false; rw [(show Frm.zB xc = false from decide_eq_false z), Bool.and_false, Bool.and_false]))
        have zz : (xc != 0) = true := by simpa using z
        go_wp2_with fail
        go_ret
        exact ⟨ret_bool H.out.symm, HB.out.alloc (by omega) _⟩
      have z : xc = 0 := Classical.byContradiction z
      have H := hideG (HK.out (by show (Frm.keyB xa && (Frm.keyB xb && Frm.zB xc)) = true; rw [Bool.and_eq_true, Bool.and_eq_true, Frm.keyB_iff, Frm.keyB_iff, Frm.zB_iff]; omega))
      go_wp2_with fail
      go_roundw
      case rel => exact ⟨k + 1, by omega, by go_num, H.out, HB.out.alloc (by omega) _⟩
      case measure => simp [intOf]; omega
    · have ek : k = n := by omega
      subst ek
      clear hall hbel
      go_wp2_with fail
      go_ret
      exact ⟨ret_bool (by rw [HN.out, Frm.allB_yes HA.out]), HB.out⟩

set_option maxHeartbeats 1000000 in
set_option maxRecDepth 100000 in
theorem told_calls (v : Value) (l : List Frm.It) (w : World) (h : ItemsAt w v l) :
    Calls Tryz.prog 159 #[v] w fun e w' => e = .returned (.bool (Frm.toldB l)) ∧ Below w.heap.size w w' := by
  obtain ⟨a, cap, rfl, l2, l3, _, hc⟩ := items_view h
  have HC := hideG hc
  clear hc h
  have HN := hideG (show Frm.toldB l = Frm.allB l.length fun i => Frm.tB (Frm.it l i).2.1 && (Num.elB (Frm.it l i).2.2.1 && Frm.zB (Frm.it l i).2.2.2) from rfl)
  generalize hn : l.length = n at *
  clear hn
  go_enter Tryz.func159, Tryz.ntmps159
  go_wp2_with fail
  go_loopw [3] (fun i wr => ∃ k : Nat, k ≤ n ∧ i = .int .i64 k ∧ (∀ j, j < k → (Frm.tB (Frm.it l j).2.1 && (Num.elB (Frm.it l j).2.2.1 && Frm.zB (Frm.it l j).2.2.2)) = true) ∧ Below w.heap.size w wr) (fun i _ => n - (intOf i).toNat)
  case atStart => exact ⟨0, Nat.zero_le _, rfl, fun j hj => absurd hj (by omega), Below.refl _ _⟩
  case round =>
    obtain ⟨k, hk, rfl, hall, hbel⟩ := hrel
    have HA := hideG hall
    have HB := hideG hbel
    have hsz := hbel.size
    by_cases hlt : k < n
    · obtain ⟨b, off, rfl, hb, hit⟩ := HC.out k hlt
      have hit := hit.below hb hbel
      have hb2 : b < wr.heap.size := by omega
      obtain ⟨c0, c1, c2, c3⟩ := hit
      obtain ⟨x, hx⟩ : ∃ x, x = Frm.it l k := ⟨_, rfl⟩
      rw [← hx] at c0 c1 c2 c3
      have HX := hideG hx
      clear hx hall hbel
      obtain ⟨xi, xa, xb, xc⟩ := x
      simp only at c0 c1 c2 c3
      have HF := hideG (show (Frm.tB (xi, xa, xb, xc).2.1 && (Num.elB (xi, xa, xb, xc).2.2.1 && Frm.zB (xi, xa, xb, xc).2.2.2)) = false → Frm.toldB l = false from fun e => by rw [HN.out]; exact Frm.allB_no k hlt (by rw [← HX.out]; exact e))
      have HK := hideG (show (Frm.tB (xi, xa, xb, xc).2.1 && (Num.elB (xi, xa, xb, xc).2.2.1 && Frm.zB (xi, xa, xb, xc).2.2.2)) = true → ∀ j, j < k + 1 → (Frm.tB (Frm.it l j).2.1 && (Num.elB (Frm.it l j).2.2.1 && Frm.zB (Frm.it l j).2.2.2)) = true from fun e j hj => by
        by_cases ej : j = k
        · subst ej; rw [← HX.out]; exact e
        · exact HA.out j (by omega))
      cases q : Num.elB xb
      · have H := hideG (HF.out (by show (Frm.tB xa && (Num.elB xb && Frm.zB xc)) = false; rw [q, Bool.false_and, Bool.and_false]))
        go_wp2_with fail
        refine (relement_calls _ _).mono ?_
        rintro e w' ⟨rfl, rfl⟩
        rw [q]
        go_wp2_with fail
        go_ret
        exact ⟨ret_bool H.out.symm, HB.out.alloc (by omega) _⟩
      by_cases a1 : xa < 1
      · have H := hideG (HF.out (by show (Frm.tB xa && (Num.elB xb && Frm.zB xc)) = false; rw [(show Frm.tB xa = false from decide_eq_false (by omega))]; rfl))
        go_wp2_with fail
        refine (relement_calls _ _).mono ?_
        rintro e w' ⟨rfl, rfl⟩
        rw [q]
        go_wp2_with fail
        go_ret
        exact ⟨ret_bool H.out.symm, HB.out.alloc (by omega) _⟩
      by_cases a2 : 2 < xa
      · have H := hideG (HF.out (by show (Frm.tB xa && (Num.elB xb && Frm.zB xc)) = false; rw [(show Frm.tB xa = false from decide_eq_false (by omega))]; rfl))
        go_wp2_with fail
        refine (relement_calls _ _).mono ?_
        rintro e w' ⟨rfl, rfl⟩
        rw [q]
        go_wp2_with fail
        go_ret
        exact ⟨ret_bool H.out.symm, HB.out.alloc (by omega) _⟩
      by_cases z : ¬ xc = 0
      · have H := hideG (HF.out (by show (Frm.tB xa && (Num.elB xb && Frm.zB xc)) = false; rw [(show Frm.zB xc = false from decide_eq_false z), Bool.and_false, Bool.and_false]))
        have zz : (xc != 0) = true := by simpa using z
        go_wp2_with fail
        refine (relement_calls _ _).mono ?_
        rintro e w' ⟨rfl, rfl⟩
        rw [q]
        go_wp2_with fail
        go_ret
        exact ⟨ret_bool H.out.symm, HB.out.alloc (by omega) _⟩
      have z : xc = 0 := Classical.byContradiction z
      have H := hideG (HK.out (by show (Frm.tB xa && (Num.elB xb && Frm.zB xc)) = true; rw [Bool.and_eq_true, Bool.and_eq_true, Frm.tB_iff, Num.elB_iff, Frm.zB_iff]; have := Num.elB_iff.1 q; omega))
      go_wp2_with fail
      refine (relement_calls _ _).mono ?_
      rintro e w' ⟨rfl, rfl⟩
      rw [q]
      go_wp2_with fail
      go_roundw
      case rel => exact ⟨k + 1, by omega, by go_num, H.out, HB.out.alloc (by omega) _⟩
      case measure => simp [intOf]; omega
    · have ek : k = n := by omega
      subst ek
      clear hall hbel
      go_wp2_with fail
      go_ret
      exact ⟨ret_bool (by rw [HN.out, Frm.allB_yes HA.out]), HB.out⟩

set_option maxHeartbeats 1000000 in
set_option maxRecDepth 100000 in
theorem places_calls (v : Value) (l : List Frm.It) (w : World) (h : ItemsAt w v l) :
    Calls Tryz.prog 157 #[v] w fun e w' => e = .returned (.bool (Frm.placeB l)) ∧ Below w.heap.size w w' := by
  obtain ⟨a, cap, rfl, l2, l3, _, hc⟩ := items_view h
  have HC := hideG hc
  clear hc h
  have HN := hideG (show Frm.placeB l = Frm.allB l.length fun i => decide ((Frm.it l i).1 = (i : Int) + 1) && (Frm.wdB (Frm.it l i).2.1 && (Frm.zB (Frm.it l i).2.2.1 && Frm.zB (Frm.it l i).2.2.2)) from rfl)
  generalize hn : l.length = n at *
  clear hn
  go_enter Tryz.func157, Tryz.ntmps157
  go_wp2_with fail
  go_loopw [3] (fun i wr => ∃ k : Nat, k ≤ n ∧ i = .int .i64 k ∧ (∀ j, j < k → (decide ((Frm.it l j).1 = (j : Int) + 1) && (Frm.wdB (Frm.it l j).2.1 && (Frm.zB (Frm.it l j).2.2.1 && Frm.zB (Frm.it l j).2.2.2))) = true) ∧ Below w.heap.size w wr) (fun i _ => n - (intOf i).toNat)
  case atStart => exact ⟨0, Nat.zero_le _, rfl, fun j hj => absurd hj (by omega), Below.refl _ _⟩
  case round =>
    obtain ⟨k, hk, rfl, hall, hbel⟩ := hrel
    have HA := hideG hall
    have HB := hideG hbel
    have hsz := hbel.size
    by_cases hlt : k < n
    · obtain ⟨b, off, rfl, hb, hit⟩ := HC.out k hlt
      have hit := hit.below hb hbel
      have hb2 : b < wr.heap.size := by omega
      obtain ⟨c0, c1, c2, c3⟩ := hit
      obtain ⟨x, hx⟩ : ∃ x, x = Frm.it l k := ⟨_, rfl⟩
      rw [← hx] at c0 c1 c2 c3
      have HX := hideG hx
      clear hx hall hbel
      obtain ⟨xi, xa, xb, xc⟩ := x
      simp only at c0 c1 c2 c3
      have HF := hideG (show (decide ((xi, xa, xb, xc).1 = (k : Int) + 1) && (Frm.wdB (xi, xa, xb, xc).2.1 && (Frm.zB (xi, xa, xb, xc).2.2.1 && Frm.zB (xi, xa, xb, xc).2.2.2))) = false → Frm.placeB l = false from fun e => by rw [HN.out]; exact Frm.allB_no k hlt (by rw [← HX.out]; exact e))
      have HK := hideG (show (decide ((xi, xa, xb, xc).1 = (k : Int) + 1) && (Frm.wdB (xi, xa, xb, xc).2.1 && (Frm.zB (xi, xa, xb, xc).2.2.1 && Frm.zB (xi, xa, xb, xc).2.2.2))) = true → ∀ j, j < k + 1 → (decide ((Frm.it l j).1 = (j : Int) + 1) && (Frm.wdB (Frm.it l j).2.1 && (Frm.zB (Frm.it l j).2.2.1 && Frm.zB (Frm.it l j).2.2.2))) = true from fun e j hj => by
        by_cases ej : j = k
        · subst ej; rw [← HX.out]; exact e
        · exact HA.out j (by omega))
      by_cases i1 : ¬ xi = (k : Int) + 1
      · have H := hideG (HF.out (by show (decide (xi = (k : Int) + 1) && (Frm.wdB xa && (Frm.zB xb && Frm.zB xc))) = false; rw [decide_eq_false i1]; rfl))
        have zz : (xi != (k : Int) + 1) = true := by simpa using i1
        go_wp2_with fail
        go_ret
        exact ⟨ret_bool H.out.symm, HB.out.alloc (by omega) _⟩
      have i1 : xi = (k : Int) + 1 := Classical.byContradiction i1
      have yy : (xi != (k : Int) + 1) = false := by rw [i1]; simp
      have HI1 := hideG i1
      clear i1
      by_cases a1 : xa < 0
      · have H := hideG (HF.out (by show (decide (xi = (k : Int) + 1) && (Frm.wdB xa && (Frm.zB xb && Frm.zB xc))) = false; rw [(show Frm.wdB xa = false from decide_eq_false (by omega)), Bool.false_and, Bool.and_false]))
        go_wp2_with fail
        go_ret
        exact ⟨ret_bool H.out.symm, HB.out.alloc (by omega) _⟩
      by_cases a2 : 4294967296 ≤ xa
      · have H := hideG (HF.out (by show (decide (xi = (k : Int) + 1) && (Frm.wdB xa && (Frm.zB xb && Frm.zB xc))) = false; rw [(show Frm.wdB xa = false from decide_eq_false (by omega)), Bool.false_and, Bool.and_false]))
        go_wp2_with fail
        go_ret
        exact ⟨ret_bool H.out.symm, HB.out.alloc (by omega) _⟩
      by_cases zb : ¬ xb = 0
      · have H := hideG (HF.out (by show (decide (xi = (k : Int) + 1) && (Frm.wdB xa && (Frm.zB xb && Frm.zB xc))) = false; rw [(show Frm.zB xb = false from decide_eq_false zb), Bool.false_and, Bool.and_false, Bool.and_false]))
        have zz : (xb != 0) = true := by simpa using zb
        go_wp2_with fail
        go_ret
        exact ⟨ret_bool H.out.symm, HB.out.alloc (by omega) _⟩
      have zb : xb = 0 := Classical.byContradiction zb
      by_cases zc : ¬ xc = 0
      · have H := hideG (HF.out (by show (decide (xi = (k : Int) + 1) && (Frm.wdB xa && (Frm.zB xb && Frm.zB xc))) = false; rw [(show Frm.zB xc = false from decide_eq_false zc), Bool.and_false, Bool.and_false, Bool.and_false]))
        have zz : (xc != 0) = true := by simpa using zc
        go_wp2_with fail
        go_ret
        exact ⟨ret_bool H.out.symm, HB.out.alloc (by omega) _⟩
      have zc : xc = 0 := Classical.byContradiction zc
      have H := hideG (HK.out (by show (decide (xi = (k : Int) + 1) && (Frm.wdB xa && (Frm.zB xb && Frm.zB xc))) = true; rw [Bool.and_eq_true, Bool.and_eq_true, Bool.and_eq_true, decide_eq_true_iff, Frm.wdB_iff, Frm.zB_iff, Frm.zB_iff]; exact ⟨HI1.out, by omega, by omega, by omega⟩))
      go_wp2_with fail
      go_roundw
      case rel => exact ⟨k + 1, by omega, by go_num, H.out, HB.out.alloc (by omega) _⟩
      case measure => simp [intOf]; omega
    · have ek : k = n := by omega
      subst ek
      clear hall hbel
      go_wp2_with fail
      go_ret
      exact ⟨ret_bool (by rw [HN.out, Frm.allB_yes HA.out]), HB.out⟩

set_option maxHeartbeats 1000000 in
set_option maxRecDepth 100000 in
theorem asked_calls (v : Value) (l : List Frm.It) (w : World) (h : ItemsAt w v l) :
    Calls Tryz.prog 158 #[v] w fun e w' => e = .returned (.bool (Frm.askB l)) ∧ Below w.heap.size w w' := by
  obtain ⟨a, cap, rfl, l2, l3, _, hc⟩ := items_view h
  have HC := hideG hc
  clear hc h
  have HN := hideG (show Frm.askB l = Frm.allB l.length fun i => Frm.zB (Frm.it l i).2.1 && (Frm.zB (Frm.it l i).2.2.1 && Frm.zB (Frm.it l i).2.2.2) from rfl)
  generalize hn : l.length = n at *
  clear hn
  go_enter Tryz.func158, Tryz.ntmps158
  go_wp2_with fail
  go_loopw [3] (fun i wr => ∃ k : Nat, k ≤ n ∧ i = .int .i64 k ∧ (∀ j, j < k → (Frm.zB (Frm.it l j).2.1 && (Frm.zB (Frm.it l j).2.2.1 && Frm.zB (Frm.it l j).2.2.2)) = true) ∧ Below w.heap.size w wr) (fun i _ => n - (intOf i).toNat)
  case atStart => exact ⟨0, Nat.zero_le _, rfl, fun j hj => absurd hj (by omega), Below.refl _ _⟩
  case round =>
    obtain ⟨k, hk, rfl, hall, hbel⟩ := hrel
    have HA := hideG hall
    have HB := hideG hbel
    have hsz := hbel.size
    by_cases hlt : k < n
    · obtain ⟨b, off, rfl, hb, hit⟩ := HC.out k hlt
      have hit := hit.below hb hbel
      have hb2 : b < wr.heap.size := by omega
      obtain ⟨c0, c1, c2, c3⟩ := hit
      obtain ⟨x, hx⟩ : ∃ x, x = Frm.it l k := ⟨_, rfl⟩
      rw [← hx] at c0 c1 c2 c3
      have HX := hideG hx
      clear hx hall hbel
      obtain ⟨xi, xa, xb, xc⟩ := x
      simp only at c0 c1 c2 c3
      have HF := hideG (show (Frm.zB (xi, xa, xb, xc).2.1 && (Frm.zB (xi, xa, xb, xc).2.2.1 && Frm.zB (xi, xa, xb, xc).2.2.2)) = false → Frm.askB l = false from fun e => by rw [HN.out]; exact Frm.allB_no k hlt (by rw [← HX.out]; exact e))
      have HK := hideG (show (Frm.zB (xi, xa, xb, xc).2.1 && (Frm.zB (xi, xa, xb, xc).2.2.1 && Frm.zB (xi, xa, xb, xc).2.2.2)) = true → ∀ j, j < k + 1 → (Frm.zB (Frm.it l j).2.1 && (Frm.zB (Frm.it l j).2.2.1 && Frm.zB (Frm.it l j).2.2.2)) = true from fun e j hj => by
        by_cases ej : j = k
        · subst ej; rw [← HX.out]; exact e
        · exact HA.out j (by omega))
      by_cases za : ¬ xa = 0
      · have H := hideG (HF.out (by show (Frm.zB xa && (Frm.zB xb && Frm.zB xc)) = false; rw [(show Frm.zB xa = false from decide_eq_false za)]; rfl))
        have zz : (xa != 0) = true := by simpa using za
        go_wp2_with fail
        go_ret
        exact ⟨ret_bool H.out.symm, HB.out⟩
      have za : xa = 0 := Classical.byContradiction za
      by_cases zb : ¬ xb = 0
      · have H := hideG (HF.out (by show (Frm.zB xa && (Frm.zB xb && Frm.zB xc)) = false; rw [(show Frm.zB xb = false from decide_eq_false zb)]; rw [Bool.false_and, Bool.and_false]))
        have zz : (xb != 0) = true := by simpa using zb
        go_wp2_with fail
        go_ret
        exact ⟨ret_bool H.out.symm, HB.out⟩
      have zb : xb = 0 := Classical.byContradiction zb
      by_cases zc : ¬ xc = 0
      · have H := hideG (HF.out (by show (Frm.zB xa && (Frm.zB xb && Frm.zB xc)) = false; rw [(show Frm.zB xc = false from decide_eq_false zc)]; rw [Bool.and_false, Bool.and_false]))
        have zz : (xc != 0) = true := by simpa using zc
        go_wp2_with fail
        go_ret
        exact ⟨ret_bool H.out.symm, HB.out⟩
      have zc : xc = 0 := Classical.byContradiction zc
      have H := hideG (HK.out (by show (Frm.zB xa && (Frm.zB xb && Frm.zB xc)) = true; rw [Bool.and_eq_true, Bool.and_eq_true, Frm.zB_iff, Frm.zB_iff, Frm.zB_iff]; omega))
      go_wp2_with fail
      go_roundw
      case rel => exact ⟨k + 1, by omega, by go_num, H.out, HB.out⟩
      case measure => simp [intOf]; omega
    · have ek : k = n := by omega
      subst ek
      clear hall hbel
      go_wp2_with fail
      go_ret
      exact ⟨ret_bool (by rw [HN.out, Frm.allB_yes HA.out]), HB.out⟩

end Go.Proofs.YtchideljndagjaaGreat
