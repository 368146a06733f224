/- Contracts of package veilref: sealed items. -/
import Derived.Test.YtchideljndagjaaGreatFrameG
import Derived.Test.YtchideljndagjaaGreatRef
import Derived.Test.YtchideljndagjaaGreatRefSplit
import Derived.BigQuiet
namespace Go.Proofs.YtchideljndagjaaGreat
open Go.ChangeShapes Go.WideShapes Go.ChangeAt Go.RowKit
set_option linter.unusedVariables false

theorem listAt_three (w : World) (x y z : Int) (h : ∀ u ∈ [x, y, z], inI u) : ListAt (w.alloc (.cells #[.int .i64 x, .int .i64 y, .int .i64 z] 3)) (.slice (some ⟨w.heap.size, 0, none⟩) 3 3) [x, y, z] := by
  refine ⟨_, _, rfl, by simp, by unfold maxLen; omega, h, .inr ⟨w.heap.size, 0, rfl, by simp, fun i hi => ?_⟩⟩
  rcases (show i = 0 ∨ i = 1 ∨ i = 2 by simp at hi; omega) with rfl | rfl | rfl <;> simp

set_option maxHeartbeats 1000000 in
set_option maxRecDepth 100000 in
theorem sealed_calls (v : Value) (l : List Frm.It) (u : Int) (w : World) (h : ItemsAt w v l) :
    Calls Tryz.prog 156 #[v, .int .i64 u] w fun e w' => e = .returned (.bool (Frm.sealB l u)) ∧ Below w.heap.size w w' := by
  obtain ⟨a, cap, rfl, l2, l3, hin0, hc⟩ := items_view h
  have HIN := hideG (show ∀ k, k < l.length → ∀ xi xa xb xc, (xi, xa, xb, xc) = Frm.it l k → ∀ z ∈ [xa, xb, xc], inI z from fun k hk xi xa xb xc e z hz => by
    obtain ⟨_, h1, h2, h3⟩ := hin0 _ (it_mem hk)
    rw [← e] at h1 h2 h3
    simp only [List.mem_cons, List.not_mem_nil, or_false] at hz
    rcases hz with rfl | rfl | rfl
    · exact h1
    · exact h2
    · exact h3)
  clear hin0
  have HC := hideG hc
  clear hc h
  have HN := hideG (show Frm.sealB l u = Frm.allB l.length fun i => (Num.elB (Frm.it l i).2.1 && (Num.elB (Frm.it l i).2.2.1 && Num.elB (Frm.it l i).2.2.2)) && decide ((Frm.it l i).1 ≠ u) from rfl)
  generalize hn : l.length = n at *
  clear hn
  go_enter Tryz.func156, Tryz.ntmps156
  go_wp2_with fail
  go_loopw [5] (fun i wr => ∃ k : Nat, k ≤ n ∧ i = .int .i64 k ∧ (∀ j, j < k → ((Num.elB (Frm.it l j).2.1 && (Num.elB (Frm.it l j).2.2.1 && Num.elB (Frm.it l j).2.2.2)) && decide ((Frm.it l j).1 ≠ u)) = true) ∧ Below w.heap.size w wr) (fun i _ => n - (intOf i).toNat)
  case atStart => exact ⟨0, Nat.zero_le _, rfl, fun j hj => absurd hj (by omega), Below.refl _ _⟩
  case round =>
    obtain ⟨k, hk, rfl, hall, hbel⟩ := hrel
    have HA := hideG hall
    have HB := hideG hbel
    have hsz := hbel.size
    by_cases hlt : k < n
    · obtain ⟨b, off, rfl, hb, hit⟩ := HC.out k hlt
      have hit := hit.below hb hbel
      have hb2 : b < wr.heap.size := by omega
      obtain ⟨c0, c1, c2, c3⟩ := hit
      obtain ⟨x, hx⟩ : ∃ x, x = Frm.it l k := ⟨_, rfl⟩
      rw [← hx] at c0 c1 c2 c3
      have HX := hideG hx
      clear hx hall hbel
      obtain ⟨xi, xa, xb, xc⟩ := x
      simp only at c0 c1 c2 c3
      have HF := hideG (show ((Num.elB (xi, xa, xb, xc).2.1 && (Num.elB (xi, xa, xb, xc).2.2.1 && Num.elB (xi, xa, xb, xc).2.2.2)) && decide ((xi, xa, xb, xc).1 ≠ u)) = false → Frm.sealB l u = false from fun e => by rw [HN.out]; exact Frm.allB_no k hlt (by rw [← HX.out]; exact e))
      have HK := hideG (show ((Num.elB (xi, xa, xb, xc).2.1 && (Num.elB (xi, xa, xb, xc).2.2.1 && Num.elB (xi, xa, xb, xc).2.2.2)) && decide ((xi, xa, xb, xc).1 ≠ u)) = true → ∀ j, j < k + 1 → ((Num.elB (Frm.it l j).2.1 && (Num.elB (Frm.it l j).2.2.1 && Num.elB (Frm.it l j).2.2.2)) && decide ((Frm.it l j).1 ≠ u)) = true from fun e j hj => by
        by_cases ej : j = k
        · subst ej; rw [← HX.out]; exact e
        · exact HA.out j (by omega))
      have LT := hideG (show ListAt ((wr.alloc (.cells #[.int .i64 xi, .int .i64 xa, .int .i64 xb, .int .i64 xc] 142)).alloc (.cells #[.int .i64 xa, .int .i64 xb, .int .i64 xc] 3)) (.slice (some ⟨wr.heap.size + 1, 0, none⟩) 3 3) [xa, xb, xc] by
        have := listAt_three (wr.alloc (.cells #[.int .i64 xi, .int .i64 xa, .int .i64 xb, .int .i64 xc] 142)) xa xb xc (HIN.out k hlt _ _ _ _ HX.out)
        rw [World.size_alloc] at this
        exact this)
      cases q : (Num.elB xa && (Num.elB xb && Num.elB xc))
      · have H := hideG (HF.out (by show ((Num.elB xa && (Num.elB xb && Num.elB xc)) && decide (xi ≠ u)) = false; rw [q]; rfl))
        go_wp2_with fail
        refine (relements_list _ [xa, xb, xc] _ LT.out).mono ?_
        rintro e w1 ⟨rfl, hw1⟩
        rw [hw1, show ([xa, xb, xc].all Num.elB) = (Num.elB xa && (Num.elB xb && Num.elB xc)) by simp, q]
        clear hw1
        go_wp2_with fail
        go_ret
        exact ⟨ret_bool H.out.symm, ((HB.out.alloc (by omega) _).alloc (by simp; omega) _)⟩
      by_cases iu : xi = u
      · have H := hideG (HF.out (by show ((Num.elB xa && (Num.elB xb && Num.elB xc)) && decide (xi ≠ u)) = false; rw [decide_eq_false (show ¬ xi ≠ u from fun e => e iu), Bool.and_false]))
        have zz : (xi == u) = true := by simpa using iu
        clear iu
        go_wp2_with fail
        refine (relements_list _ [xa, xb, xc] _ LT.out).mono ?_
        rintro e w1 ⟨rfl, hw1⟩
        rw [hw1, show ([xa, xb, xc].all Num.elB) = (Num.elB xa && (Num.elB xb && Num.elB xc)) by simp, q]
        clear hw1
        go_wp2_with fail
        go_ret
        exact ⟨ret_bool H.out.symm, ((HB.out.alloc (by omega) _).alloc (by simp; omega) _)⟩
      have zz : (xi == u) = false := by simpa using iu
      have H := hideG (HK.out (by show ((Num.elB xa && (Num.elB xb && Num.elB xc)) && decide (xi ≠ u)) = true; rw [q, decide_eq_true iu]; rfl))
      go_wp2_with fail
      refine (relements_list _ [xa, xb, xc] _ LT.out).mono ?_
      rintro e w1 ⟨rfl, hw1⟩
      rw [hw1, show ([xa, xb, xc].all Num.elB) = (Num.elB xa && (Num.elB xb && Num.elB xc)) by simp, q]
      clear hw1
      go_wp2_with fail
      go_roundw
      case rel => exact ⟨k + 1, by omega, by go_num, H.out, ((HB.out.alloc (by omega) _).alloc (by simp; omega) _)⟩
      case measure => simp [intOf]; omega
    · have ek : k = n := by omega
      subst ek
      clear hall hbel
      go_wp2_with fail
      go_ret
      exact ⟨ret_bool (by rw [HN.out, Frm.allB_yes HA.out]), HB.out⟩

end Go.Proofs.YtchideljndagjaaGreat
