/- Contracts of package veilref: items of public keys, places, shares, Ids. -/
import Derived.Test.YtchideljndagjabGreatPkSeAF
import Derived.Test.YtchideljndagjabGreatPkSeAC
import Derived.Test.YtchideljndagjabGreatPkSeAH
import Derived.BigQuiet
import Derived.Test.YtchideljndagjabGreatPkSeAB
namespace Go.Proofs.YtchideljndagjabGreat
open Go.ChangeShapes Go.WideShapes Go.ChangeAt Go.RowKit
set_option linter.unusedVariables false

set_option maxHeartbeats 1000000 in
set_option maxRecDepth 100000 in
theorem publics_calls (v : Value) (l : List Frm.It) (w : World) (h : ItemsAt w v l) :
    Calls Tryz.prog 226 #[v] w fun e w' => e = .returned (.bool (Frm.pubB l)) ∧ Below w.heap.size w w' := by
  obtain ⟨a, cap, rfl, l2, l3, _, hc⟩ := items_view h
  have HC := hideG hc
  clear hc h
  have HN := hideG (show Frm.pubB l = Frm.allB l.length fun i => Frm.keyB (Frm.it l i).2.1 && (Frm.keyB (Frm.it l i).2.2.1 && Frm.zB (Frm.it l i).2.2.2) from rfl)
  generalize hn : l.length = n at *
  clear hn
  go_enter Tryz.func226, Tryz.ntmps226
  go_wp2_with fail
  go_loopw [3] (fun i wr => ∃ k : Nat, k ≤ n ∧ i = .int .i64 k ∧ (∀ j, j < k → (Frm.keyB (Frm.it l j).2.1 && (Frm.keyB (Frm.it l j).2.2.1 && Frm.zB (Frm.it l j).2.2.2)) = true) ∧ Below w.heap.size w wr) (fun i _ => n - (intOf i).toNat)
  case atStart => exact ⟨0, Nat.zero_le _, rfl, fun j hj => absurd hj (by omega), Below.refl _ _⟩
  case round =>
    obtain ⟨k, hk, rfl, hall, hbel⟩ := hrel
    have HA := hideG hall
    have HB := hideG hbel
    have hsz := hbel.size
    by_cases hlt : k < n
    · obtain ⟨b, off, rfl, hb, hit⟩ := HC.out k hlt
      have hit := hit.below hb hbel
      have hb2 : b < wr.heap.size := by omega
      obtain ⟨c0, c1, c2, c3⟩ := hit
      obtain ⟨x, hx⟩ : ∃ x, x = Frm.it l k := ⟨_, rfl⟩
      rw [← hx] at c0 c1 c2 c3
      have HX := hideG hx
      clear hx hall hbel
      obtain ⟨xi, xa, xb, xc⟩ := x
      simp only at c0 c1 c2 c3
      have HF := hideG (show (Frm.keyB (xi, xa, xb, xc).2.1 && (Frm.keyB (xi, xa, xb, xc).2.2.1 && Frm.zB (xi, xa, xb, xc).2.2.2)) = false → Frm.pubB l = false from fun e => by rw [HN.out]; exact Frm.allB_no k hlt (by rw [← HX.out]; exact e))
      have HK := hideG (show (Frm.keyB (xi, xa, xb, xc).2.1 && (Frm.keyB (xi, xa, xb, xc).2.2.1 && Frm.zB (xi, xa, xb, xc).2.2.2)) = true → ∀ j, j < k + 1 → (Frm.keyB (Frm.it l j).2.1 && (Frm.keyB (Frm.it l j).2.2.1 && Frm.zB (Frm.it l j).2.2.2)) = true from fun e j hj => by
        by_cases ej : j = k
        · subst ej; rw [← HX.out]; exact e
        · exact HA.out j (by omega))
      by_cases a1 : xa < 1
      · have H := hideG (HF.out (by show (Frm.keyB xa && (Frm.keyB xb && Frm.zB xc)) = false; rw [(show Frm.keyB xa = false from decide_eq_false (by omega))]; rfl))
        go_wp2_with fail
        go_ret
        exact ⟨ret_bool H.out.symm, HB.out.alloc (by omega) _⟩
      by_cases a2 : 2305843009213693951 ≤ xa
      · have H := hideG (HF.out (by show (Frm.keyB xa && (Frm.keyB xb && Frm.zB xc)) = false; rw [(show Frm.keyB xa = false from decide_eq_false (by omega))]; rfl))
        go_wp2_with fail
        go_ret
        exact ⟨ret_bool H.out.symm, HB.out.alloc (by omega) _⟩
      by_cases b1 : xb < 1
      · have H := hideG (HF.out (by show (Frm.keyB xa && (Frm.keyB xb && Frm.zB xc)) = false; rw [(show Frm.keyB xb = false from decide_eq_false (by omega)), Bool.false_and, Bool.and_false]))
        go_wp2_with fail
        go_ret
        exact ⟨ret_bool H.out.symm, HB.out.alloc (by omega) _⟩
      by_cases b2 : 2305843009213693951 ≤ xb
      · have H := hideG (HF.out (by show (Frm.keyB xa && (Frm.keyB xb && Frm.zB xc)) = false; rw [(show Frm.keyB xb = false from decide_eq_false (by omega)), Bool.false_and, Bool.and_false]))
        go_wp2_with fail
        go_ret
        exact ⟨ret_bool H.out.symm, HB.out.alloc (by omega) _⟩
      by_cases z : ¬ xc = 0
      · have H := hideG (HF.out (by show (Frm.keyB xa && (Frm.keyB xb && Frm.zB xc)) = false; rw [(show Frm.zB xc = false from decide_eq_false z), Bool.and_false, Bool.and_false]))
        have zz : (xc != 0) = true := by simpa using z
        go_wp2_with fail
        go_ret
        exact ⟨ret_bool H.out.symm, HB.out.alloc (by omega) _⟩
      have z : xc = 0 := Classical.byContradiction z
      have H := hideG (HK.out (by show (Frm.keyB xa && (Frm.keyB xb && Frm.zB xc)) = true; rw [Bool.and_eq_true, Bool.and_eq_true, Frm.keyB_iff, Frm.keyB_iff, Frm.zB_iff]; omega))
      go_wp2_with fail
      go_roundw
      case rel => exact ⟨k + 1, by omega, by go_num, H.out, HB.out.alloc (by omega) _⟩
      case measure => simp [intOf]; omega
    · have ek : k = n := by omega
      subst ek
      clear hall hbel
      go_wp2_with fail
      go_ret
      exact ⟨ret_bool (by rw [HN.out, Frm.allB_yes HA.out]), HB.out⟩

set_option maxHeartbeats 1000000 in
set_option maxRecDepth 100000 in
theorem told_calls (v : Value) (l : List Frm.It) (w : World) (h : ItemsAt w v l) :
    Calls Tryz.prog 230 #[v] w fun e w' => e = .returned (.bool (Frm.toldB l)) ∧ Below w.heap.size w w' := by
  obtain ⟨a, cap, rfl, l2, l3, _, hc⟩ := items_view h
  have HC := hideG hc
  clear hc h
  have HN := hideG (show Frm.toldB l = Frm.allB l.length fun i => Frm.tB (Frm.it l i).2.1 && (Num.elB (Frm.it l i).2.2.1 && Frm.zB (Frm.it l i).2.2.2) from rfl)
  generalize hn : l.length = n at *
  clear hn
  go_enter Tryz.func230, Tryz.ntmps230
  go_wp2_with fail
  go_loopw [3] (fun i wr => ∃ k : Nat, k ≤ n ∧ i = .int .i64 k ∧ (∀ j, j < k → (Frm.tB (Frm.it l j).2.1 && (Num.elB (Frm.it l j).2.2.1 && Frm.zB (Frm.it l j).2.2.2)) = true) ∧ Below w.heap.size w wr) (fun i _ => n - (intOf i).toNat)
  case atStart => exact ⟨0, Nat.zero_le _, rfl, fun j hj => absurd hj (by omega), Below.refl _ _⟩
  case round =>
    obtain ⟨k, hk, rfl, hall, hbel⟩ := hrel
    have HA := hideG hall
    have HB := hideG hbel
    have hsz := hbel.size
    by_cases hlt : k < n
    · obtain ⟨b, off, rfl, hb, hit⟩ := HC.out k hlt
      have hit := hit.below hb hbel
      have hb2 : b < wr.heap.size := by omega
      obtain ⟨c0, c1, c2, c3⟩ := hit
      obtain ⟨x, hx⟩ : ∃ x, x = Frm.it l k := ⟨_, rfl⟩
      rw [← hx] at c0 c1 c2 c3
      have HX := hideG hx
      clear hx hall hbel
      obtain ⟨xi, xa, xb, xc⟩ := x
      simp only at c0 c1 c2 c3
      have HF := hideG (show (Frm.tB (xi, xa, xb, xc).2.1 && (Num.elB (xi, xa, xb, xc).2.2.1 && Frm.zB (xi, xa, xb, xc).2.2.2)) = false → Frm.toldB l = false from fun e => by rw [HN.out]; exact Frm.allB_no k hlt (by rw [← HX.out]; exact e))
      have HK := hideG (show (Frm.tB (xi, xa, xb, xc).2.1 && (Num.elB (xi, xa, xb, xc).2.2.1 && Frm.zB (xi, xa, xb, xc).2.2.2)) = true → ∀ j, j < k + 1 → (Frm.tB (Frm.it l j).2.1 && (Num.elB (Frm.it l j).2.2.1 && Frm.zB (Frm.it l j).2.2.2)) = true from fun e j hj => by
        by_cases ej : j = k
        · subst ej; rw [← HX.out]; exact e
        · exact HA.out j (by omega))
      cases q : Num.elB xb
      · have H := hideG (HF.out (by show (Frm.tB xa && (Num.elB xb && Frm.zB xc)) = false; rw [q, Bool.false_and, Bool.and_false]))
        go_wp2_with fail
        refine (relement_calls _ _).mono ?_
        rintro e w' ⟨rfl, rfl⟩
        rw [q]
        go_wp2_with fail
        go_ret
        exact ⟨ret_bool H.out.symm, HB.out.alloc (by omega) _⟩
      by_cases a1 : xa < 1
      · have H := hideG (HF.out (by show (Frm.tB xa && (Num.elB xb && Frm.zB xc)) = false; rw [(show Frm.tB xa = false from decide_eq_false (by omega))]; rfl))
        go_wp2_with fail
        refine (relement_calls _ _).mono ?_
        rintro e w' ⟨rfl, rfl⟩
        rw [q]
        go_wp2_with fail
        go_ret
        exact ⟨ret_bool H.out.symm, HB.out.alloc (by omega) _⟩
      by_cases a2 : 2 < xa
      · have H := hideG (HF.out (by show (Frm.tB xa && (Num.elB xb && Frm.zB xc)) = false; rw [(show Frm.tB xa = false from decide_eq_false (by omega))]; rfl))
        go_wp2_with fail
        refine (relement_calls _ _).mono ?_
        rintro e w' ⟨rfl, rfl⟩
        rw [q]
        go_wp2_with fail
        go_ret
        exact ⟨ret_bool H.out.symm, HB.out.alloc (by omega) _⟩
      by_cases z : ¬ xc = 0
      · have H := hideG (HF.out (by show (Frm.tB xa && (Num.elB xb && Frm.zB xc)) = false; rw [(show Frm.zB xc = false from decide_eq_false z), Bool.and_false, Bool.and_false]))
        have zz : (xc != 0) = true := by simpa using z
        go_wp2_with fail
        refine (relement_calls _ _).mono ?_
        rintro e w' ⟨rfl, rfl⟩
        rw [q]
        go_wp2_with fail
        go_ret
        exact ⟨ret_bool H.out.symm, HB.out.alloc (by omega) _⟩
      have z : xc = 0 := Classical.byContradiction z
      have H := hideG (HK.out (by show (Frm.tB xa && (Num.elB xb && Frm.zB xc)) = true; rw [Bool.and_eq_true, Bool.and_eq_true, Frm.tB_iff, Num.elB_iff, Frm.zB_iff]; have := Num.elB_iff.1 q; omega))
      go_wp2_with fail
      refine (relement_calls _ _).mono ?_
      rintro e w' ⟨rfl, rfl⟩
      rw [q]
      go_wp2_with fail
      go_roundw
      case rel => exact ⟨k + 1, by omega, by go_num, H.out, HB.out.alloc (by omega) _⟩
      case measure => simp [intOf]; omega
    · have ek : k = n := by omega
      subst ek
      clear hall hbel
      go_wp2_with fail
      go_ret
      exact ⟨ret_bool (by rw [HN.out, Frm.allB_yes HA.out]), HB.out⟩

set_option maxHeartbeats 1000000 in
set_option maxRecDepth 100000 in
theorem places_calls (v : Value) (l : List Frm.It) (w : World) (h : ItemsAt w v l) :
    Calls Tryz.prog 228 #[v] w fun e w' => e = .returned (.bool (Frm.placeB l)) ∧ Below w.heap.size w w' := by
  obtain ⟨a, cap, rfl, l2, l3, _, hc⟩ := items_view h
  have HC := hideG hc
  clear hc h
  have HN := hideG (show Frm.placeB l = Frm.allB l.length fun i => decide ((Frm.it l i).1 = (i : Int) + 1) && (Frm.wdB (Frm.it l i).2.1 && (Frm.zB (Frm.it l i).2.2.1 && Frm.zB (Frm.it l i).2.2.2)) from rfl)
  generalize hn : l.length = n at *
  clear hn
  go_enter Tryz.func228, Tryz.ntmps228
  go_wp2_with fail
  go_loopw [3] (fun i wr => ∃ k : Nat, k ≤ n ∧ i = .int .i64 k ∧ (∀ j, j < k → (decide ((Frm.it l j).1 = (j : Int) + 1) && (Frm.wdB (Frm.it l j).2.1 && (Frm.zB (Frm.it l j).2.2.1 && Frm.zB (Frm.it l j).2.2.2))) = true) ∧ Below w.heap.size w wr) (fun i _ => n - (intOf i).toNat)
  case atStart => exact ⟨0, Nat.zero_le _, rfl, fun j hj => absurd hj (by omega), Below.refl _ _⟩
  case round =>
    obtain ⟨k, hk, rfl, hall, hbel⟩ := hrel
    have HA := hideG hall
    have HB := hideG hbel
    have hsz := hbel.size
    by_cases hlt : k < n
    · obtain ⟨b, off, rfl, hb, hit⟩ := HC.out k hlt
      have hit := hit.below hb hbel
      have hb2 : b < wr.heap.size := by omega
      obtain ⟨c0, c1, c2, c3⟩ := hit
      obtain ⟨x, hx⟩ : ∃ x, x = Frm.it l k := ⟨_, rfl⟩
      rw [← hx] at c0 c1 c2 c3
      have HX := hideG hx
      clear hx hall hbel
      obtain ⟨xi, xa, xb, xc⟩ := x
      simp only at c0 c1 c2 c3
      have HF := hideG (show (decide ((xi, xa, xb, xc).1 = (k : Int) + 1) && (Frm.wdB (xi, xa, xb, xc).2.1 && (Frm.zB (xi, xa, xb, xc).2.2.1 && Frm.zB (xi, xa, xb, xc).2.2.2))) = false → Frm.placeB l = false from fun e => by rw [HN.out]; exact Frm.allB_no k hlt (by rw [← HX.out]; exact e))
      have HK := hideG (show (decide ((xi, xa, xb, xc).1 = (k : Int) + 1) && (Frm.wdB (xi, xa, xb, xc).2.1 && (Frm.zB (xi, xa, xb, xc).2.2.1 && Frm.zB (xi, xa, xb, xc).2.2.2))) = true → ∀ j, j < k + 1 → (decide ((Frm.it l j).1 = (j : Int) + 1) && (Frm.wdB (Frm.it l j).2.1 && (Frm.zB (Frm.it l j).2.2.1 && Frm.zB (Frm.it l j).2.2.2))) = true from fun e j hj => by
        by_cases ej : j = k
        · subst ej; rw [← HX.out]; exact e
        · exact HA.out j (by omega))
      by_cases i1 : ¬ xi = (k : Int) + 1
      · have H := hideG (HF.out (by show (decide (xi = (k : Int) + 1) && (Frm.wdB xa && (Frm.zB xb && Frm.zB xc))) = false; rw [decide_eq_false i1]; rfl))
        have zz : (xi != (k : Int) + 1) = true := by simpa using i1
        go_wp2_with fail
        go_ret
        exact ⟨ret_bool H.out.symm, HB.out.alloc (by omega) _⟩
      have i1 : xi = (k : Int) + 1 := Classical.byContradiction i1
      have yy : (xi != (k : Int) + 1) = false := by rw [i1]; simp
      have HI1 := hideG i1
      clear i1
      by_cases a1 : xa < 0
      · have H := hideG (HF.out (by show (decide (xi = (k : Int) + 1) && (Frm.wdB xa && (Frm.zB xb && Frm.zB xc))) = false; rw [(show Frm.wdB xa = false from decide_eq_false (by omega)), Bool.false_and, Bool.and_false]))
        go_wp2_with fail
        go_ret
        exact ⟨ret_bool H.out.symm, HB.out.alloc (by omega) _⟩
      by_cases a2 : 4294967296 ≤ xa
      · have H := hideG (HF.out (by show (decide (xi = (k : Int) + 1) && (Frm.wdB xa && (Frm.zB xb && Frm.zB xc))) = false; rw [(show Frm.wdB xa = false from decide_eq_false (by omega)), Bool.false_and, Bool.and_false]))
        go_wp2_with fail
        go_ret
        exact ⟨ret_bool H.out.symm, HB.out.alloc (by omega) _⟩
      by_cases zb : ¬ xb = 0
      · have H := hideG (HF.out (by show (decide (xi = (k : Int) + 1) && (Frm.wdB xa && (Frm.zB xb && Frm.zB xc))) = false; rw [(show Frm.zB xb = false from decide_eq_false zb), Bool.false_and, Bool.and_false, Bool.and_false]))
        have zz : (xb != 0) = true := by simpa using zb
        go_wp2_with fail
        go_ret
        exact ⟨ret_bool H.out.symm, HB.out.alloc (by omega) _⟩
      have zb : xb = 0 := Classical.byContradiction zb
      by_cases zc : ¬ xc = 0
      · have H := hideG (HF.out (by show (decide (xi = (k : Int) + 1) && (Frm.wdB xa && (Frm.zB xb && Frm.zB xc))) = false; rw [(show Frm.zB xc = false from decide_eq_false zc), Bool.and_false, Bool.and_false, Bool.and_false]))
        have zz : (xc != 0) = true := by simpa using zc
        go_wp2_with fail
        go_ret
        exact ⟨ret_bool H.out.symm, HB.out.alloc (by omega) _⟩
      have zc : xc = 0 := Classical.byContradiction zc
      have H := hideG (HK.out (by show (decide (xi = (k : Int) + 1) && (Frm.wdB xa && (Frm.zB xb && Frm.zB xc))) = true; rw [Bool.and_eq_true, Bool.and_eq_true, Bool.and_eq_true, decide_eq_true_iff, Frm.wdB_iff, Frm.zB_iff, Frm.zB_iff]; exact ⟨HI1.out, by omega, by omega, by omega⟩))
      go_wp2_with fail
      go_roundw
      case rel => exact ⟨k + 1, by omega, by go_num, H.out, HB.out.alloc (by omega) _⟩
      case measure => simp [intOf]; omega
    · have ek : k = n := by omega
      subst ek
      clear hall hbel
      go_wp2_with fail
      go_ret
      exact ⟨ret_bool (by rw [HN.out, Frm.allB_yes HA.out]), HB.out⟩

set_option maxHeartbeats 1000000 in
set_option maxRecDepth 100000 in
theorem asked_calls (v : Value) (l : List Frm.It) (w : World) (h : ItemsAt w v l) :
    Calls Tryz.prog 229 #[v] w fun e w' => e = .returned (.bool (Frm.askB l)) ∧ Below w.heap.size w w' := by
  obtain ⟨a, cap, rfl, l2, l3, _, hc⟩ := items_view h
  have HC := hideG hc
  clear hc h
  have HN := hideG (show Frm.askB l = Frm.allB l.length fun i => Frm.zB (Frm.it l i).2.1 && (Frm.zB (Frm.it l i).2.2.1 && Frm.zB (Frm.it l i).2.2.2) from rfl)
  generalize hn : l.length = n at *
  clear hn
  go_enter Tryz.func229, Tryz.ntmps229
  go_wp2_with fail
  go_loopw [3] (fun i wr => ∃ k : Nat, k ≤ n ∧ i = .int .i64 k ∧ (∀ j, j < k → (Frm.zB (Frm.it l j).2.1 && (Frm.zB (Frm.it l j).2.2.1 && Frm.zB (Frm.it l j).2.2.2)) = true) ∧ Below w.heap.size w wr) (fun i _ => n - (intOf i).toNat)
  case atStart => exact ⟨0, Nat.zero_le _, rfl, fun j hj => absurd hj (by omega), Below.refl _ _⟩
  case round =>
    obtain ⟨k, hk, rfl, hall, hbel⟩ := hrel
    have HA := hideG hall
    have HB := hideG hbel
    have hsz := hbel.size
    by_cases hlt : k < n
    · obtain ⟨b, off, rfl, hb, hit⟩ := HC.out k hlt
      have hit := hit.below hb hbel
      have hb2 : b < wr.heap.size := by omega
      obtain ⟨c0, c1, c2, c3⟩ := hit
      obtain ⟨x, hx⟩ : ∃ x, x = Frm.it l k := ⟨_, rfl⟩
      rw [← hx] at c0 c1 c2 c3
      have HX := hideG hx
      clear hx hall hbel
      obtain ⟨xi, xa, xb, xc⟩ := x
      simp only at c0 c1 c2 c3
      have HF := hideG (show (Frm.zB (xi, xa, xb, xc).2.1 && (Frm.zB (xi, xa, xb, xc).2.2.1 && Frm.zB (xi, xa, xb, xc).2.2.2)) = false → Frm.askB l = false from fun e => by rw [HN.out]; exact Frm.allB_no k hlt (by rw [← HX.out]; exact e))
      have HK := hideG (show (Frm.zB (xi, xa, xb, xc).2.1 && (Frm.zB (xi, xa, xb, xc).2.2.1 && Frm.zB (xi, xa, xb, xc).2.2.2)) = true → ∀ j, j < k + 1 → (Frm.zB (Frm.it l j).2.1 && (Frm.zB (Frm.it l j).2.2.1 && Frm.zB (Frm.it l j).2.2.2)) = true from fun e j hj => by
        by_cases ej : j = k
        · subst ej; rw [← HX.out]; exact e
        · exact HA.out j (by omega))
      by_cases za : ¬ xa = 0
      · have H := hideG (HF.out (by show (Frm.zB xa && (Frm.zB xb && Frm.zB xc)) = false; rw [(show Frm.zB xa = false from decide_eq_false za)]; rfl))
        have zz : (xa != 0) = true := by simpa using za
        go_wp2_with fail
        go_ret
        exact ⟨ret_bool H.out.symm, HB.out⟩
      have za : xa = 0 := Classical.byContradiction za
      by_cases zb : ¬ xb = 0
      · have H := hideG (HF.out (by show (Frm.zB xa && (Frm.zB xb && Frm.zB xc)) = false; rw [(show Frm.zB xb = false from decide_eq_false zb)]; rw [Bool.false_and, Bool.and_false]))
        have zz : (xb != 0) = true := by simpa using zb
        go_wp2_with fail
        go_ret
        exact ⟨ret_bool H.out.symm, HB.out⟩
      have zb : xb = 0 := Classical.byContradiction zb
      by_cases zc : ¬ xc = 0
      · have H := hideG (HF.out (by show (Frm.zB xa && (Frm.zB xb && Frm.zB xc)) = false; rw [(show Frm.zB xc = false from decide_eq_false zc)]; rw [Bool.and_false, Bool.and_false]))
        have zz : (xc != 0) = true := by simpa using zc
        go_wp2_with fail
        go_ret
        exact ⟨ret_bool H.out.symm, HB.out⟩
      have zc : xc = 0 := Classical.byContradiction zc
      have H := hideG (HK.out (by show (Frm.zB xa && (Frm.zB xb && Frm.zB xc)) = true; rw [Bool.and_eq_true, Bool.and_eq_true, Frm.zB_iff, Frm.zB_iff, Frm.zB_iff]; omega))
      go_wp2_with fail
      go_roundw
      case rel => exact ⟨k + 1, by omega, by go_num, H.out, HB.out⟩
      case measure => simp [intOf]; omega
    · have ek : k = n := by omega
      subst ek
      clear hall hbel
      go_wp2_with fail
      go_ret
      exact ⟨ret_bool (by rw [HN.out, Frm.allB_yes HA.out]), HB.out⟩

end Go.Proofs.YtchideljndagjabGreat

namespace Go.Proofs.YtchideljndagjabGreat
open Go.ChangeShapes Go.WideShapes Go.ChangeAt Go.RowKit
set_option linter.unusedVariables false

theorem listAt_three (w : World) (x y z : Int) (h : ∀ u ∈ [x, y, z], inI u) : ListAt (w.alloc (.cells #[.int .i64 x, .int .i64 y, .int .i64 z] 3)) (.slice (some ⟨w.heap.size, 0, none⟩) 3 3) [x, y, z] := by
  refine ⟨_, _, rfl, by simp, by unfold maxLen; omega, h, .inr ⟨w.heap.size, 0, rfl, by simp, fun i hi => ?_⟩⟩
  rcases (show i = 0 ∨ i = 1 ∨ i = 2 by simp at hi; omega) with rfl | rfl | rfl <;> simp

set_option maxHeartbeats 1000000 in
set_option maxRecDepth 100000 in
theorem sealed_calls (v : Value) (l : List Frm.It) (u : Int) (w : World) (h : ItemsAt w v l) :
    Calls Tryz.prog 227 #[v, .int .i64 u] w fun e w' => e = .returned (.bool (Frm.sealB l u)) ∧ Below w.heap.size w w' := by
  obtain ⟨a, cap, rfl, l2, l3, hin0, hc⟩ := items_view h
  have HIN := hideG (show ∀ k, k < l.length → ∀ xi xa xb xc, (xi, xa, xb, xc) = Frm.it l k → ∀ z ∈ [xa, xb, xc], inI z from fun k hk xi xa xb xc e z hz => by
    obtain ⟨_, h1, h2, h3⟩ := hin0 _ (it_mem hk)
    rw [← e] at h1 h2 h3
    simp only [List.mem_cons, List.not_mem_nil, or_false] at hz
    rcases hz with rfl | rfl | rfl
    · exact h1
    · exact h2
    · exact h3)
  clear hin0
  have HC := hideG hc
  clear hc h
  have HN := hideG (show Frm.sealB l u = Frm.allB l.length fun i => (Num.elB (Frm.it l i).2.1 && (Num.elB (Frm.it l i).2.2.1 && Num.elB (Frm.it l i).2.2.2)) && decide ((Frm.it l i).1 ≠ u) from rfl)
  generalize hn : l.length = n at *
  clear hn
  go_enter Tryz.func227, Tryz.ntmps227
  go_wp2_with fail
  go_loopw [5] (fun i wr => ∃ k : Nat, k ≤ n ∧ i = .int .i64 k ∧ (∀ j, j < k → ((Num.elB (Frm.it l j).2.1 && (Num.elB (Frm.it l j).2.2.1 && Num.elB (Frm.it l j).2.2.2)) && decide ((Frm.it l j).1 ≠ u)) = true) ∧ Below w.heap.size w wr) (fun i _ => n - (intOf i).toNat)
  case atStart => exact ⟨0, Nat.zero_le _, rfl, fun j hj => absurd hj (by omega), Below.refl _ _⟩
  case round =>
    obtain ⟨k, hk, rfl, hall, hbel⟩ := hrel
    have HA := hideG hall
    have HB := hideG hbel
    have hsz := hbel.size
    by_cases hlt : k < n
    · obtain ⟨b, off, rfl, hb, hit⟩ := HC.out k hlt
      have hit := hit.below hb hbel
      have hb2 : b < wr.heap.size := by omega
      obtain ⟨c0, c1, c2, c3⟩ := hit
      obtain ⟨x, hx⟩ : ∃ x, x = Frm.it l k := ⟨_, rfl⟩
      rw [← hx] at c0 c1 c2 c3
      have HX := hideG hx
      clear hx hall hbel
      obtain ⟨xi, xa, xb, xc⟩ := x
      simp only at c0 c1 c2 c3
      have HF := hideG (show ((Num.elB (xi, xa, xb, xc).2.1 && (Num.elB (xi, xa, xb, xc).2.2.1 && Num.elB (xi, xa, xb, xc).2.2.2)) && decide ((xi, xa, xb, xc).1 ≠ u)) = false → Frm.sealB l u = false from fun e => by rw [HN.out]; exact Frm.allB_no k hlt (by rw [← HX.out]; exact e))
      have HK := hideG (show ((Num.elB (xi, xa, xb, xc).2.1 && (Num.elB (xi, xa, xb, xc).2.2.1 && Num.elB (xi, xa, xb, xc).2.2.2)) && decide ((xi, xa, xb, xc).1 ≠ u)) = true → ∀ j, j < k + 1 → ((Num.elB (Frm.it l j).2.1 && (Num.elB (Frm.it l j).2.2.1 && Num.elB (Frm.it l j).2.2.2)) && decide ((Frm.it l j).1 ≠ u)) = true from fun e j hj => by
        by_cases ej : j = k
        · subst ej; rw [← HX.out]; exact e
        · exact HA.out j (by omega))
      have LT := hideG (show ListAt ((wr.alloc (.cells #[.int .i64 xi, .int .i64 xa, .int .i64 xb, .int .i64 xc] 147)).alloc (.cells #[.int .i64 xa, .int .i64 xb, .int .i64 xc] 3)) (.slice (some ⟨wr.heap.size + 1, 0, none⟩) 3 3) [xa, xb, xc] by
        have := listAt_three (wr.alloc (.cells #[.int .i64 xi, .int .i64 xa, .int .i64 xb, .int .i64 xc] 147)) xa xb xc (HIN.out k hlt _ _ _ _ HX.out)
        rw [World.size_alloc] at this
        exact this)
      cases q : (Num.elB xa && (Num.elB xb && Num.elB xc))
      · have H := hideG (HF.out (by show ((Num.elB xa && (Num.elB xb && Num.elB xc)) && decide (xi ≠ u)) = false; rw [q]; rfl))
        go_wp2_with fail
        refine (relements_list _ [xa, xb, xc] _ LT.out).mono ?_
        rintro e w1 ⟨rfl, hw1⟩
        rw [hw1, show ([xa, xb, xc].all Num.elB) = (Num.elB xa && (Num.elB xb && Num.elB xc)) by simp, q]
        clear hw1
        go_wp2_with fail
        go_ret
        exact ⟨ret_bool H.out.symm, ((HB.out.alloc (by omega) _).alloc (by simp; omega) _)⟩
      by_cases iu : xi = u
      · have H := hideG (HF.out (by show ((Num.elB xa && (Num.elB xb && Num.elB xc)) && decide (xi ≠ u)) = false; rw [decide_eq_false (show ¬ xi ≠ u from fun e => e iu), Bool.and_false]))
        have zz : (xi == u) = true := by simpa using iu
        clear iu
        go_wp2_with fail
        refine (relements_list _ [xa, xb, xc] _ LT.out).mono ?_
        rintro e w1 ⟨rfl, hw1⟩
        rw [hw1, show ([xa, xb, xc].all Num.elB) = (Num.elB xa && (Num.elB xb && Num.elB xc)) by simp, q]
        clear hw1
        go_wp2_with fail
        go_ret
        exact ⟨ret_bool H.out.symm, ((HB.out.alloc (by omega) _).alloc (by simp; omega) _)⟩
      have zz : (xi == u) = false := by simpa using iu
      have H := hideG (HK.out (by show ((Num.elB xa && (Num.elB xb && Num.elB xc)) && decide (xi ≠ u)) = true; rw [q, decide_eq_true iu]; rfl))
      go_wp2_with fail
      refine (relements_list _ [xa, xb, xc] _ LT.out).mono ?_
      rintro e w1 ⟨rfl, hw1⟩
      rw [hw1, show ([xa, xb, xc].all Num.elB) = (Num.elB xa && (Num.elB xb && Num.elB xc)) by simp, q]
      clear hw1
      go_wp2_with fail
      go_roundw
      case rel => exact ⟨k + 1, by omega, by go_num, H.out, ((HB.out.alloc (by omega) _).alloc (by simp; omega) _)⟩
      case measure => simp [intOf]; omega
    · have ek : k = n := by omega
      subst ek
      clear hall hbel
      go_wp2_with fail
      go_ret
      exact ⟨ret_bool (by rw [HN.out, Frm.allB_yes HA.out]), HB.out⟩

end Go.Proofs.YtchideljndagjabGreat

namespace Go.Proofs.YtchideljndagjabGreat
open Go.ChangeShapes Go.WideShapes Go.ChangeAt Go.RowKit
set_option linter.unusedVariables false

set_option maxHeartbeats 2000000 in
set_option maxRecDepth 100000 in
theorem rframe_calls (k fr : Int) (v : Value) (l : List Frm.It) (w : World) (h : ItemsAt w v l) :
    Calls Tryz.prog 167 #[.agg #[.int .i64 k, .int .i64 fr, v]] w fun e w' => e = .returned (.bool (Frm.okF k fr l)) ∧ Below w.heap.size w w' := by
  have HEQ := hideG (Frm.refF_eq k fr l)
  have HM := hideG (fun (w1 : World) (hb : Below w.heap.size w w1) => h.below hb)
  obtain ⟨a, cap, rfl, l2, l3, _, hc⟩ := items_view h
  have HC := hideG hc
  clear h hc
  obtain ⟨n, hn⟩ : ∃ n, n = l.length := ⟨_, rfl⟩
  have HR := hideG (show Frm.refF k fr l = ((decide (l.length ≤ 12) && Frm.riseB l) && (if k = 1 then Num.clB fr && (decide (l.length = 1) && (decide ((Frm.it l 0).1 = fr) && Frm.pubB l)) else if k = 2 then Frm.zB fr && (decide (1 ≤ l.length) && Frm.pubB l)
    else if k = 3 then Num.clB fr && Frm.sealB l fr else if k = 4 then Frm.zB fr && Frm.sealB l 0 else if k = 5 then Num.clB fr && (decide (1 ≤ l.length) && Frm.placeB l)
    else if k = 6 then Frm.zB fr && (decide (1 ≤ l.length) && Frm.askB l) else if k = 7 then Num.clB fr && (decide (1 ≤ l.length) && Frm.toldB l) else false)) from rfl)
  have HNL := hideG hn
  rw [← hn] at l2 HM HC ⊢
  clear hn
  obtain ⟨bx, hbx⟩ : ∃ bx, bx = w.alloc (.cells #[.int .i64 k, .int .i64 fr, .slice a n cap] 65) := ⟨_, rfl⟩
  have sbx : bx.heap.size = w.heap.size + 1 := by rw [hbx]; simp
  have CB := hideG (show ∀ w1, Below bx.heap.size bx w1 → w1.cell? ⟨w.heap.size, 0, none⟩ = some (.int .i64 k) ∧ w1.cell? ⟨w.heap.size, 1, none⟩ = some (.int .i64 fr) ∧ w1.cell? ⟨w.heap.size, 2, none⟩ = some (.slice a n cap) from fun w1 hb => by
    have hlt : w.heap.size < bx.heap.size := by omega
    rw [hb.cell (p := ⟨w.heap.size, 0, none⟩) hlt, hb.cell (p := ⟨w.heap.size, 1, none⟩) hlt, hb.cell (p := ⟨w.heap.size, 2, none⟩) hlt, hbx]
    refine ⟨?_, ?_, ?_⟩ <;> simp [go_sem])
  have BX := hideG (show Below w.heap.size w bx by rw [hbx]; exact (Below.refl _ _).alloc (Nat.le_refl _) _)
  obtain ⟨e0, e1, e2⟩ := CB.out bx (Below.refl _ _)
  have RS := hideG (rising_calls _ l bx (HM.out _ BX.out))
  go_enter Tryz.func167, Tryz.ntmps167
  go_wp2_with fail
  rw [← hbx]
  clear hbx
  refine RS.out.mono ?_
  rintro e w1 ⟨rfl, hb1⟩
  have B1 := hideG hb1
  have s1 := hb1.size
  obtain ⟨f0, f1, f2⟩ := CB.out w1 hb1
  have BW := hideG (BX.out.trans (hb1.mono (by omega)))
  have IT := hideG (HM.out w1 BW.out)
  have zw : w.heap.size ≤ w1.heap.size := by omega
  clear hb1 e0 e1 e2 RS
  cases q0 : (decide (l.length ≤ 12) && Frm.riseB l)
  · have H := hideG (show Frm.okF k fr l = false by rw [← HEQ.out, HR.out, q0]; rfl)
    go_wp2_with fail
    go_ret
    exact ⟨ret_bool H.out.symm, BW.out⟩
  by_cases k1 : k = 1
  · subst k1
    have HRK := hideG (show Frm.refF 1 fr l = (Num.clB fr && (decide (l.length = 1) && (decide ((Frm.it l 0).1 = fr) && Frm.pubB l))) by rw [HR.out, q0]; rfl)
    clear HR q0
    by_cases b1 : 1 ≤ fr
    rotate_left
    · have d1 : decide (1 ≤ fr) = false := decide_eq_false b1
      have H := hideG (show Frm.okF 1 fr l = false by rw [← HEQ.out, HRK.out]; rw [Num.clB_no (fun x => b1 x.1)]; rfl)
      go_wp2_with fail
      go_quiet (fail)
      go_wp2_with fail
      go_ret
      exact ⟨ret_bool H.out.symm, BW.out.trans ((below_drewN _ _).mono zw)⟩
    have d1 : decide (1 ≤ fr) = true := decide_eq_true b1
    by_cases b2 : fr ≤ 12
    rotate_left
    · have d2 : decide (fr ≤ 12) = false := decide_eq_false b2
      have H := hideG (show Frm.okF 1 fr l = false by rw [← HEQ.out, HRK.out]; rw [Num.clB_no (fun x => b2 x.2)]; rfl)
      go_wp2_with fail
      go_quiet (fail)
      go_wp2_with fail
      go_ret
      exact ⟨ret_bool H.out.symm, BW.out.trans ((below_drewN _ _).mono zw)⟩
    have d2 : decide (fr ≤ 12) = true := decide_eq_true b2
    by_cases n1 : n = 1
    rotate_left
    · have H := hideG (show Frm.okF 1 fr l = false by rw [← HEQ.out, HRK.out, Num.clB_yes b1 b2, decide_eq_false (by rw [← HNL.out]; exact n1)]; rfl)
      have n1' : ((n : Int) == 1) = false := by simp; omega
      have n2' : decide ((n : Int) = 1) = false := decide_eq_false (by omega)
      have n3' : decide (n = 1) = false := decide_eq_false n1
      have n4' : (n == 1) = false := by simpa using n1
      go_wp2_with fail
      go_quiet (fail)
      go_wp2_with fail
      go_ret
      exact ⟨ret_bool H.out.symm, BW.out.trans ((below_drewN _ _).mono zw)⟩
    obtain ⟨b, off, rfl, hbl, hit⟩ := HC.out 0 (by omega)
    obtain ⟨c0, _, _, _⟩ := hit.below hbl BW.out
    have hbl1 : b < w1.heap.size := by omega
    rw [Nat.zero_mul, Nat.add_zero] at c0
    obtain ⟨x, hx⟩ : ∃ x, x = (Frm.it l 0).1 := ⟨_, rfl⟩
    rw [← hx] at c0
    have HX := hideG hx
    clear hx hit
    have n1' : ((n : Int) == 1) = true := by simp; omega
    have n2' : decide ((n : Int) = 1) = true := decide_eq_true (by omega)
    have n3' : decide (n = 1) = true := decide_eq_true n1
    have n4' : (n == 1) = true := by simpa using n1
    have n1'' : (0 : Int) < (n : Int) := by omega
    have HN1 := hideG n1
    by_cases xf : x = fr
    rotate_left
    · have H := hideG (show Frm.okF 1 fr l = false by rw [← HEQ.out, HRK.out, Num.clB_yes b1 b2, decide_eq_true (show l.length = 1 by rw [← HNL.out]; exact n1), decide_eq_false (by rw [← HX.out]; exact xf)]; rfl)
      have xf' : (x == fr) = false := by simpa using xf
      clear n1
      go_wp2_with fail
      go_quiet (fail)
      go_wp2_with fail
      go_ret
      exact ⟨ret_bool H.out.symm, BW.out.trans ((below_drewN _ _).mono zw)⟩
    have H := hideG (show Frm.okF 1 fr l = Frm.pubB l by rw [← HEQ.out, HRK.out, Num.clB_yes b1 b2, decide_eq_true (show l.length = 1 by rw [← HNL.out]; exact n1), decide_eq_true (show (Frm.it l 0).1 = fr by rw [← HX.out]; exact xf)]; rfl)
    have xf' : (x == fr) = true := by simpa using xf
    clear n1 xf
    go_wp2_with fail
    have zlt : w.heap.size < w1.heap.size := by omega
    refine wp_region_grow (by kernel_rfl) (by kernel_rfl) ?_
    intro I G hI hG hGc hGn
    repeat (go_big_quiet_step (first | (go_at_call 226; exact call_grow hG hGn (publics_calls _ l _ (IT.out.below (hG.out _))))))
    refine wpQuiet_nil ?_
    intro w2 hw'
    obtain ⟨u, hw''⟩ := hw'
    have hw1 := hG.out u
    rw [← hw''] at hw1
    have B2 := hideG hw1
    clear hw'' hGc hGn hG u hI G I hw1
    go_wp2_with fail
    go_ret
    exact ⟨ret_bool H.out.symm, BW.out.trans (B2.out.mono zw)⟩
  by_cases k2 : k = 2
  · subst k2
    have HRK := hideG (show Frm.refF 2 fr l = (Frm.zB fr && (decide (1 ≤ l.length) && Frm.pubB l)) by rw [HR.out, q0]; rfl)
    clear HR q0
    by_cases z : fr = 0
    rotate_left
    · have zz : (fr == 0) = false := by simpa using z
      have H := hideG (show Frm.okF 2 fr l = false by rw [← HEQ.out, HRK.out]; rw [show Frm.zB fr = false from decide_eq_false z]; rfl)
      go_wp2_with fail
      all_goals (go_ret; exact ⟨ret_bool H.out.symm, BW.out⟩)
    have HZ := hideG z
    have zz : (fr == 0) = true := by simpa using z
    have b1 : ¬ 1 ≤ fr := by omega
    have d1 : decide (1 ≤ fr) = false := decide_eq_false b1
    clear z
    by_cases n1 : 1 ≤ n
    rotate_left
    · have n1' : ¬ (1 : Int) ≤ (n : Int) := by omega
      have H := hideG (show Frm.okF 2 fr l = false by rw [← HEQ.out, HRK.out]; rw [(show Frm.zB fr = true from decide_eq_true HZ.out), decide_eq_false (by rw [← HNL.out]; exact n1)]; rfl)
      go_wp2_with fail
      all_goals (go_ret; exact ⟨ret_bool H.out.symm, BW.out⟩)
    have n1' : (1 : Int) ≤ (n : Int) := by omega
    have H := hideG (show Frm.okF 2 fr l = Frm.pubB l by rw [← HEQ.out, HRK.out, (show Frm.zB fr = true from decide_eq_true HZ.out), decide_eq_true (show 1 ≤ l.length by rw [← HNL.out]; exact n1)]; rfl)
    go_wp2_with fail
    refine (publics_calls _ l _ IT.out).mono ?_
    rintro e w2 ⟨rfl, hb2⟩
    have B2 := hideG hb2
    clear hb2
    go_wp2_with fail
    go_ret
    exact ⟨ret_bool H.out.symm, BW.out.trans (B2.out.mono zw)⟩
  by_cases k3 : k = 3
  · subst k3
    have HRK := hideG (show Frm.refF 3 fr l = (Num.clB fr && Frm.sealB l fr) by rw [HR.out, q0]; rfl)
    clear HR q0
    by_cases b1 : 1 ≤ fr
    rotate_left
    · have d1 : decide (1 ≤ fr) = false := decide_eq_false b1
      have H := hideG (show Frm.okF 3 fr l = false by rw [← HEQ.out, HRK.out]; rw [Num.clB_no (fun x => b1 x.1)]; rfl)
      go_wp2_with fail
      all_goals (go_ret; exact ⟨ret_bool H.out.symm, BW.out⟩)
    have d1 : decide (1 ≤ fr) = true := decide_eq_true b1
    by_cases b2 : fr ≤ 12
    rotate_left
    · have d2 : decide (fr ≤ 12) = false := decide_eq_false b2
      have H := hideG (show Frm.okF 3 fr l = false by rw [← HEQ.out, HRK.out]; rw [Num.clB_no (fun x => b2 x.2)]; rfl)
      go_wp2_with fail
      all_goals (go_ret; exact ⟨ret_bool H.out.symm, BW.out⟩)
    have d2 : decide (fr ≤ 12) = true := decide_eq_true b2
    have H := hideG (show Frm.okF 3 fr l = Frm.sealB l fr by rw [← HEQ.out, HRK.out, Num.clB_yes b1 b2]; rfl)
    go_wp2_with fail
    refine (sealed_calls _ l _ _ IT.out).mono ?_
    rintro e w2 ⟨rfl, hb2⟩
    have B2 := hideG hb2
    clear hb2
    go_wp2_with fail
    go_ret
    exact ⟨ret_bool H.out.symm, BW.out.trans (B2.out.mono zw)⟩
  by_cases k4 : k = 4
  · subst k4
    have HRK := hideG (show Frm.refF 4 fr l = (Frm.zB fr && Frm.sealB l 0) by rw [HR.out, q0]; rfl)
    clear HR q0
    by_cases z : fr = 0
    rotate_left
    · have zz : (fr == 0) = false := by simpa using z
      have H := hideG (show Frm.okF 4 fr l = false by rw [← HEQ.out, HRK.out]; rw [show Frm.zB fr = false from decide_eq_false z]; rfl)
      go_wp2_with fail
      all_goals (go_ret; exact ⟨ret_bool H.out.symm, BW.out⟩)
    have HZ := hideG z
    have zz : (fr == 0) = true := by simpa using z
    have b1 : ¬ 1 ≤ fr := by omega
    have d1 : decide (1 ≤ fr) = false := decide_eq_false b1
    clear z
    have H := hideG (show Frm.okF 4 fr l = Frm.sealB l 0 by rw [← HEQ.out, HRK.out, (show Frm.zB fr = true from decide_eq_true HZ.out)]; rfl)
    go_wp2_with fail
    refine (sealed_calls _ l _ _ IT.out).mono ?_
    rintro e w2 ⟨rfl, hb2⟩
    have B2 := hideG hb2
    clear hb2
    go_wp2_with fail
    go_ret
    exact ⟨ret_bool H.out.symm, BW.out.trans (B2.out.mono zw)⟩
  by_cases k5 : k = 5
  · subst k5
    have HRK := hideG (show Frm.refF 5 fr l = (Num.clB fr && (decide (1 ≤ l.length) && Frm.placeB l)) by rw [HR.out, q0]; rfl)
    clear HR q0
    by_cases b1 : 1 ≤ fr
    rotate_left
    · have d1 : decide (1 ≤ fr) = false := decide_eq_false b1
      have H := hideG (show Frm.okF 5 fr l = false by rw [← HEQ.out, HRK.out]; rw [Num.clB_no (fun x => b1 x.1)]; rfl)
      go_wp2_with fail
      all_goals (go_ret; exact ⟨ret_bool H.out.symm, BW.out⟩)
    have d1 : decide (1 ≤ fr) = true := decide_eq_true b1
    by_cases b2 : fr ≤ 12
    rotate_left
    · have d2 : decide (fr ≤ 12) = false := decide_eq_false b2
      have H := hideG (show Frm.okF 5 fr l = false by rw [← HEQ.out, HRK.out]; rw [Num.clB_no (fun x => b2 x.2)]; rfl)
      go_wp2_with fail
      all_goals (go_ret; exact ⟨ret_bool H.out.symm, BW.out⟩)
    have d2 : decide (fr ≤ 12) = true := decide_eq_true b2
    by_cases n1 : 1 ≤ n
    rotate_left
    · have n1' : ¬ (1 : Int) ≤ (n : Int) := by omega
      have H := hideG (show Frm.okF 5 fr l = false by rw [← HEQ.out, HRK.out]; rw [Num.clB_yes b1 b2, decide_eq_false (by rw [← HNL.out]; exact n1)]; rfl)
      go_wp2_with fail
      all_goals (go_ret; exact ⟨ret_bool H.out.symm, BW.out⟩)
    have n1' : (1 : Int) ≤ (n : Int) := by omega
    have H := hideG (show Frm.okF 5 fr l = Frm.placeB l by rw [← HEQ.out, HRK.out, Num.clB_yes b1 b2, decide_eq_true (show 1 ≤ l.length by rw [← HNL.out]; exact n1)]; rfl)
    go_wp2_with fail
    refine (places_calls _ l _ IT.out).mono ?_
    rintro e w2 ⟨rfl, hb2⟩
    have B2 := hideG hb2
    clear hb2
    go_wp2_with fail
    go_ret
    exact ⟨ret_bool H.out.symm, BW.out.trans (B2.out.mono zw)⟩
  by_cases k6 : k = 6
  · subst k6
    have HRK := hideG (show Frm.refF 6 fr l = (Frm.zB fr && (decide (1 ≤ l.length) && Frm.askB l)) by rw [HR.out, q0]; rfl)
    clear HR q0
    by_cases z : fr = 0
    rotate_left
    · have zz : (fr == 0) = false := by simpa using z
      have H := hideG (show Frm.okF 6 fr l = false by rw [← HEQ.out, HRK.out]; rw [show Frm.zB fr = false from decide_eq_false z]; rfl)
      go_wp2_with fail
      all_goals (go_ret; exact ⟨ret_bool H.out.symm, BW.out⟩)
    have HZ := hideG z
    have zz : (fr == 0) = true := by simpa using z
    have b1 : ¬ 1 ≤ fr := by omega
    have d1 : decide (1 ≤ fr) = false := decide_eq_false b1
    clear z
    by_cases n1 : 1 ≤ n
    rotate_left
    · have n1' : ¬ (1 : Int) ≤ (n : Int) := by omega
      have H := hideG (show Frm.okF 6 fr l = false by rw [← HEQ.out, HRK.out]; rw [(show Frm.zB fr = true from decide_eq_true HZ.out), decide_eq_false (by rw [← HNL.out]; exact n1)]; rfl)
      go_wp2_with fail
      all_goals (go_ret; exact ⟨ret_bool H.out.symm, BW.out⟩)
    have n1' : (1 : Int) ≤ (n : Int) := by omega
    have H := hideG (show Frm.okF 6 fr l = Frm.askB l by rw [← HEQ.out, HRK.out, (show Frm.zB fr = true from decide_eq_true HZ.out), decide_eq_true (show 1 ≤ l.length by rw [← HNL.out]; exact n1)]; rfl)
    go_wp2_with fail
    refine (asked_calls _ l _ IT.out).mono ?_
    rintro e w2 ⟨rfl, hb2⟩
    have B2 := hideG hb2
    clear hb2
    go_wp2_with fail
    go_ret
    exact ⟨ret_bool H.out.symm, BW.out.trans (B2.out.mono zw)⟩
  by_cases k7 : k = 7
  · subst k7
    have HRK := hideG (show Frm.refF 7 fr l = (Num.clB fr && (decide (1 ≤ l.length) && Frm.toldB l)) by rw [HR.out, q0]; rfl)
    clear HR q0
    by_cases b1 : 1 ≤ fr
    rotate_left
    · have d1 : decide (1 ≤ fr) = false := decide_eq_false b1
      have H := hideG (show Frm.okF 7 fr l = false by rw [← HEQ.out, HRK.out]; rw [Num.clB_no (fun x => b1 x.1)]; rfl)
      go_wp2_with fail
      all_goals (go_ret; exact ⟨ret_bool H.out.symm, BW.out⟩)
    have d1 : decide (1 ≤ fr) = true := decide_eq_true b1
    by_cases b2 : fr ≤ 12
    rotate_left
    · have d2 : decide (fr ≤ 12) = false := decide_eq_false b2
      have H := hideG (show Frm.okF 7 fr l = false by rw [← HEQ.out, HRK.out]; rw [Num.clB_no (fun x => b2 x.2)]; rfl)
      go_wp2_with fail
      all_goals (go_ret; exact ⟨ret_bool H.out.symm, BW.out⟩)
    have d2 : decide (fr ≤ 12) = true := decide_eq_true b2
    by_cases n1 : 1 ≤ n
    rotate_left
    · have n1' : ¬ (1 : Int) ≤ (n : Int) := by omega
      have H := hideG (show Frm.okF 7 fr l = false by rw [← HEQ.out, HRK.out]; rw [Num.clB_yes b1 b2, decide_eq_false (by rw [← HNL.out]; exact n1)]; rfl)
      go_wp2_with fail
      all_goals (go_ret; exact ⟨ret_bool H.out.symm, BW.out⟩)
    have n1' : (1 : Int) ≤ (n : Int) := by omega
    have H := hideG (show Frm.okF 7 fr l = Frm.toldB l by rw [← HEQ.out, HRK.out, Num.clB_yes b1 b2, decide_eq_true (show 1 ≤ l.length by rw [← HNL.out]; exact n1)]; rfl)
    go_wp2_with fail
    refine (told_calls _ l _ IT.out).mono ?_
    rintro e w2 ⟨rfl, hb2⟩
    have B2 := hideG hb2
    clear hb2
    go_wp2_with fail
    go_ret
    exact ⟨ret_bool H.out.symm, BW.out.trans (B2.out.mono zw)⟩
  have H := hideG (show Frm.okF k fr l = false by rw [← HEQ.out, HR.out, q0, if_neg k1, if_neg k2, if_neg k3, if_neg k4, if_neg k5, if_neg k6, if_neg k7]; rfl)
  have b0 : True := trivial
  by_cases b1 : 1 ≤ fr
  · by_cases b2 : fr ≤ 12
    · go_wp2_with fail
      go_ret
      exact ⟨ret_bool H.out.symm, BW.out⟩
    · go_wp2_with fail
      go_ret
      exact ⟨ret_bool H.out.symm, BW.out⟩
  · go_wp2_with fail
    go_ret
    exact ⟨ret_bool H.out.symm, BW.out⟩

end Go.Proofs.YtchideljndagjabGreat
