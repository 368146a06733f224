/- Contracts of package frame: the Ids, the numbers, all of it. -/
import Derived.Test.YtgfkgekaodibhaaGreatFrameC
namespace Go.Proofs.YtgfkgekaodibhaaGreat
open Go.ChangeShapes Go.WideShapes Go.ChangeAt Go.RowKit
set_option linter.unusedVariables false

set_option maxHeartbeats 1000000 in
set_option maxRecDepth 100000 in
theorem hasId_calls (v : Value) (l : List Frm.It) (u : Int) (w : World) (h : ItemsAt w v l) :
    Calls Tryz.prog 216 #[v, .int .i64 u] w fun e w' => e = .returned (.bool (!Frm.noneB l u)) ∧ Below w.heap.size w w' := by
  obtain ⟨a, cap, rfl, l2, l3, _, hc⟩ := items_view h
  have HC := hideG hc
  clear hc h
  have HN := hideG (show Frm.noneB l u = Frm.allB l.length fun i => decide ((Frm.it l i).1 ≠ u) from rfl)
  generalize hn : l.length = n at *
  clear hn
  go_enter Tryz.func216, Tryz.ntmps216
  go_wp2_with fail
  go_loopw [9] (fun i wr => ∃ k : Nat, k ≤ n ∧ i = .int .i64 k ∧ (∀ j, j < k → decide ((Frm.it l j).1 ≠ u) = true) ∧ Below w.heap.size w wr) (fun i _ => n - (intOf i).toNat)
  case atStart => exact ⟨0, Nat.zero_le _, rfl, fun j hj => absurd hj (by omega), Below.refl _ _⟩
  case round =>
    obtain ⟨k, hk, rfl, hall, hbel⟩ := hrel
    have HA := hideG hall
    have HB := hideG hbel
    have hsz := hbel.size
    by_cases hlt : k < n
    · obtain ⟨b, off, rfl, hb, hit⟩ := HC.out k hlt
      have hit := hit.below hb hbel
      obtain ⟨c0, c1, c2, c3⟩ := hit
      obtain ⟨x, hx⟩ : ∃ x, x = (Frm.it l k).1 := ⟨_, rfl⟩
      rw [← hx] at c0
      generalize (Frm.it l k).2.1 = y1 at *
      generalize (Frm.it l k).2.2.1 = y2 at *
      generalize (Frm.it l k).2.2.2 = y3 at *
      have HX := hideG hx
      clear hx hall hbel
      by_cases q : x = u
      · have H := hideG (show Frm.noneB l u = false by rw [HN.out]; exact Frm.allB_no k hlt (decide_eq_false (by rw [← HX.out]; simpa using q)))
        subst q
        go_wp2_with fail
        go_ret
        exact ⟨ret_bool (by rw [H.out]; rfl), HB.out.alloc (by omega) _⟩
      · have q' : (x == u) = false := by simpa using q
        go_wp2_with fail
        go_roundw
        case rel =>
          refine ⟨k + 1, by omega, by go_num, fun j hj => ?_, HB.out.alloc (by omega) _⟩
          by_cases e : j = k
          · subst e; exact decide_eq_true (by rw [← HX.out]; exact q)
          · exact HA.out j (by omega)
        case measure => simp [intOf]; omega
    · have ek : k = n := by omega
      subst ek
      clear hall hbel
      go_wp2_with fail
      go_ret
      exact ⟨ret_bool (by rw [HN.out, Frm.allB_yes HA.out]; rfl), HB.out⟩

set_option maxHeartbeats 1000000 in
set_option maxRecDepth 100000 in
theorem areCounted_calls (v : Value) (l : List Frm.It) (w : World) (h : ItemsAt w v l) :
    Calls Tryz.prog 217 #[v] w fun e w' => e = .returned (.bool (Frm.countB l)) ∧ Below w.heap.size w w' := by
  obtain ⟨a, cap, rfl, l2, l3, _, hc⟩ := items_view h
  have HC := hideG hc
  clear hc h
  have HN := hideG (show Frm.countB l = Frm.allB l.length fun i => decide ((Frm.it l i).1 = (i : Int) + 1) from rfl)
  generalize hn : l.length = n at *
  clear hn
  go_enter Tryz.func217, Tryz.ntmps217
  go_wp2_with fail
  go_loopw [7] (fun i wr => ∃ k : Nat, k ≤ n ∧ i = .int .i64 k ∧ (∀ j, j < k → decide ((Frm.it l j).1 = (j : Int) + 1) = true) ∧ Below w.heap.size w wr) (fun i _ => n - (intOf i).toNat)
  case atStart => exact ⟨0, Nat.zero_le _, rfl, fun j hj => absurd hj (by omega), Below.refl _ _⟩
  case round =>
    obtain ⟨k, hk, rfl, hall, hbel⟩ := hrel
    have HA := hideG hall
    have HB := hideG hbel
    have hsz := hbel.size
    by_cases hlt : k < n
    · obtain ⟨b, off, rfl, hb, hit⟩ := HC.out k hlt
      have hit := hit.below hb hbel
      obtain ⟨c0, c1, c2, c3⟩ := hit
      obtain ⟨x, hx⟩ : ∃ x, x = (Frm.it l k).1 := ⟨_, rfl⟩
      rw [← hx] at c0
      generalize (Frm.it l k).2.1 = y1 at *
      generalize (Frm.it l k).2.2.1 = y2 at *
      generalize (Frm.it l k).2.2.2 = y3 at *
      have HX := hideG hx
      clear hx hall hbel
      by_cases q : x = (k : Int) + 1
      · have HQ := hideG q
        subst q
        go_wp2_with fail
        go_roundw
        case rel =>
          refine ⟨k + 1, by omega, by go_num, fun j hj => ?_, HB.out.alloc (by omega) _⟩
          by_cases e : j = k
          · subst e; exact decide_eq_true HX.out.symm
          · exact HA.out j (by omega)
        case measure => simp [intOf]; omega
      · have H := hideG (show Frm.countB l = false by rw [HN.out]; exact Frm.allB_no k hlt (decide_eq_false (by rw [← HX.out]; exact q)))
        have q' : (x != (k : Int) + 1) = true := by simpa using q
        go_wp2_with fail
        go_ret
        exact ⟨ret_bool H.out.symm, HB.out.alloc (by omega) _⟩
    · have ek : k = n := by omega
      subst ek
      clear hall hbel
      go_wp2_with fail
      go_ret
      exact ⟨ret_bool (by rw [HN.out, Frm.allB_yes HA.out]), HB.out⟩

/-- The Id ahead of place k; 0 ahead of the first. -/
def befN (l : List Frm.It) (k : Nat) : Int := if k = 0 then 0 else (Frm.it l (k - 1)).1

set_option maxHeartbeats 1000000 in
set_option maxRecDepth 100000 in
theorem idsRise_calls (v : Value) (l : List Frm.It) (w : World) (h : ItemsAt w v l) :
    Calls Tryz.prog 189 #[v] w fun e w' => e = .returned (.bool (Frm.riseB l)) ∧ Below w.heap.size w w' := by
  obtain ⟨a, cap, rfl, l2, l3, _, hc⟩ := items_view h
  have HC := hideG hc
  clear hc h
  have HN := hideG (show Frm.riseB l = Frm.allB l.length (Frm.riseAt l) from rfl)
  generalize hn : l.length = n at *
  clear hn
  go_enter Tryz.func189, Tryz.ntmps189
  go_wp2_with fail
  go_loopw [3, 8] (fun f i wr => ∃ k : Nat, k ≤ n ∧ i = .int .i64 k ∧ f = .int .i64 (befN l k) ∧ (∀ j, j < k → Frm.riseAt l j = true) ∧ Below w.heap.size w wr) (fun _ i _ => n - (intOf i).toNat)
  case atStart => exact ⟨0, Nat.zero_le _, rfl, rfl, fun j hj => absurd hj (by omega), Below.refl _ _⟩
  case round =>
    obtain ⟨k, hk, rfl, rfl, hall, hbel⟩ := hrel
    have HA := hideG hall
    have HB := hideG hbel
    have hsz := hbel.size
    by_cases hlt : k < n
    · obtain ⟨b, off, rfl, hb, hit⟩ := HC.out k hlt
      have hit := hit.below hb hbel
      obtain ⟨c0, c1, c2, c3⟩ := hit
      obtain ⟨x, hx⟩ : ∃ x, x = (Frm.it l k).1 := ⟨_, rfl⟩
      rw [← hx] at c0
      generalize (Frm.it l k).2.1 = y1 at *
      generalize (Frm.it l k).2.2.1 = y2 at *
      generalize (Frm.it l k).2.2.2 = y3 at *
      have HX := hideG hx
      clear hx hall hbel
      have HBF := hideG (show Frm.riseAt l k = (Num.clB x && (decide (k = 0) || decide (befN l k < x))) by
        unfold Frm.riseAt befN
        rw [← HX.out]
        by_cases hk0 : k = 0
        · simp [hk0]
        · simp [hk0])
      have HB0 := hideG (show k = 0 → befN l k = 0 from fun e => by rw [e]; rfl)
      have HNX := hideG (show befN l (k + 1) = x by unfold befN; rw [if_neg (by omega), Nat.add_sub_cancel]; exact HX.out.symm)
      generalize befN l k = f at *
      cases q : Num.clB x
      · have H := hideG (show Frm.riseB l = false by rw [HN.out]; exact Frm.allB_no k hlt (by rw [HBF.out, q]; rfl))
        by_cases hle : x ≤ f
        · go_wp2_with fail
          go_ret
          exact ⟨ret_bool H.out.symm, HB.out.alloc (by omega) _⟩
        · go_wp2_with fail
          refine (client_calls _ _).mono ?_
          rintro e w' ⟨rfl, rfl⟩
          rw [q]
          go_wp2_with fail
          go_ret
          exact ⟨ret_bool H.out.symm, HB.out.alloc (by omega) _⟩
      · have hcl := Num.clB_iff.1 q
        by_cases hle : x ≤ f
        · have H := hideG (show Frm.riseB l = false by
            rw [HN.out]
            refine Frm.allB_no k hlt ?_
            rw [HBF.out, q, decide_eq_false (show ¬ k = 0 from fun e => by have := HB0.out e; omega), decide_eq_false (show ¬ f < x by omega)]; rfl)
          go_wp2_with fail
          go_ret
          exact ⟨ret_bool H.out.symm, HB.out.alloc (by omega) _⟩
        · have HT := hideG (show Frm.riseAt l k = true by rw [HBF.out, q, decide_eq_true (show f < x by omega)]; simp)
          go_wp2_with fail
          refine (client_calls _ _).mono ?_
          rintro e w' ⟨rfl, rfl⟩
          rw [q]
          go_wp2_with fail
          go_roundw
          case rel =>
            refine ⟨k + 1, by omega, by go_num, by rw [HNX.out], fun j hj => ?_, HB.out.alloc (by omega) _⟩
            by_cases e : j = k
            · subst e; exact HT.out
            · exact HA.out j (by omega)
          case measure => simp [intOf]; omega
    · have ek : k = n := by omega
      subst ek
      clear hall hbel
      go_wp2_with fail
      go_ret
      exact ⟨ret_bool (by rw [HN.out, Frm.allB_yes HA.out]), HB.out⟩

set_option maxHeartbeats 1000000 in
set_option maxRecDepth 100000 in
theorem numbersFit_calls (k0 fr : Int) (v : Value) (l : List Frm.It) (w : World) (h : ItemsAt w v l) :
    Calls Tryz.prog 191 #[.agg #[.int .i64 k0, .int .i64 fr, v]] w fun e w' => e = .returned (.bool (Frm.numsB k0 l)) ∧ Below w.heap.size w w' := by
  obtain ⟨a, cap, rfl, l2, l3, _, hc⟩ := items_view h
  have HC := hideG hc
  clear hc h
  have HN := hideG (show Frm.numsB k0 l = Frm.allB l.length fun i => Frm.okI k0 (Frm.it l i) from rfl)
  generalize hn : l.length = n at *
  clear hn
  obtain ⟨bx, hbx⟩ : ∃ bx, bx = w.alloc (.cells #[.int .i64 k0, .int .i64 fr, .slice a n cap] 40) := ⟨_, rfl⟩
  have sbx : bx.heap.size = w.heap.size + 1 := by rw [hbx]; simp
  have cbx : bx.cell? ⟨w.heap.size, 0, none⟩ = some (.int .i64 k0) := by rw [hbx]; simp [go_sem]
  have BX := hideG (show Below w.heap.size w bx by rw [hbx]; exact (Below.refl _ _).alloc (Nat.le_refl _) _)
  go_enter Tryz.func191, Tryz.ntmps191
  go_wp2_with fail
  rw [← hbx]
  clear hbx
  go_loopw [8] (fun i wr => ∃ k : Nat, k ≤ n ∧ i = .int .i64 k ∧ (∀ j, j < k → Frm.okI k0 (Frm.it l j) = true) ∧ Below (w.heap.size + 1) bx wr) (fun i _ => n - (intOf i).toNat)
  case atStart => exact ⟨0, Nat.zero_le _, rfl, fun j hj => absurd hj (by omega), Below.refl _ _⟩
  case round =>
    obtain ⟨k, hk, rfl, hall, hbel⟩ := hrel
    have HA := hideG hall
    have HB := hideG hbel
    have hsz := hbel.size
    have d0 := hbel.cell (p := ⟨w.heap.size, 0, none⟩) (by simp)
    rw [cbx] at d0
    by_cases hlt : k < n
    · obtain ⟨b, off, rfl, hb, hit⟩ := HC.out k hlt
      have hit := hit.below hb (BX.out.trans (hbel.mono (by omega)))
      obtain ⟨c0, c1, c2, c3⟩ := hit
      have HX := hideG (show Frm.okI k0 (Frm.it l k) = Frm.okI k0 ((Frm.it l k).1, (Frm.it l k).2.1, (Frm.it l k).2.2.1, (Frm.it l k).2.2.2) from rfl)
      have HK := hideG (show Frm.okI k0 ((Frm.it l k).1, (Frm.it l k).2.1, (Frm.it l k).2.2.1, (Frm.it l k).2.2.2) = false → Frm.numsB k0 l = false from fun e => by rw [HN.out]; exact Frm.allB_no k hlt e)
      have al : ∀ (ob : Obj) (b o : Nat), b < wr.heap.size → (wr.alloc ob).cell? ⟨b, o, none⟩ = wr.cell? ⟨b, o, none⟩ := fun ob b o hb => ((Below.refl wr.heap.size wr).alloc (Nat.le_refl _) ob).cell (p := ⟨b, o, none⟩) hb
      have A0 : ∀ ob, (wr.alloc ob).cell? ⟨w.heap.size, 0, none⟩ = some (.int .i64 k0) := fun ob => by rw [al _ _ _ (by omega)]; exact d0
      clear hall hbel al
      obtain ⟨x, hx⟩ : ∃ x, x = (Frm.it l k).1 := ⟨_, rfl⟩
      obtain ⟨y1, hy1⟩ : ∃ x, x = (Frm.it l k).2.1 := ⟨_, rfl⟩
      obtain ⟨y2, hy2⟩ : ∃ x, x = (Frm.it l k).2.2.1 := ⟨_, rfl⟩
      obtain ⟨y3, hy3⟩ : ∃ x, x = (Frm.it l k).2.2.2 := ⟨_, rfl⟩
      rw [← hx] at c0 HX HK
      rw [← hy1] at c1 HX HK
      rw [← hy2] at c2 HX HK
      rw [← hy3] at c3 HX HK
      clear hx hy1 hy2 hy3
      cases q : Frm.okI k0 (x, y1, y2, y3)
      · have H := hideG (HK.out q)
        go_wp2_with fail
        refine (itemFits_calls _ _ _ _ _ _).mono ?_
        rintro e w1 ⟨rfl, hb1⟩
        rw [q]
        have B1 := hideG hb1
        clear hb1
        go_wp2_with fail
        go_ret
        exact ⟨ret_bool H.out.symm, (BX.out.trans (HB.out.mono (by omega))).trans (((Below.refl _ _).alloc (by omega) _).trans (B1.out.mono (by simp; omega)))⟩
      · go_wp2_with fail
        refine (itemFits_calls _ _ _ _ _ _).mono ?_
        rintro e w1 ⟨rfl, hb1⟩
        rw [q]
        have B1 := hideG hb1
        clear hb1
        go_wp2_with fail
        go_roundw
        case rel =>
          refine ⟨k + 1, by omega, by go_num, fun j hj => ?_, HB.out.trans (((Below.refl _ _).alloc (by omega) _).trans (B1.out.mono (by simp; omega)))⟩
          by_cases e : j = k
          · subst e; rw [HX.out]; exact q
          · exact HA.out j (by omega)
        case measure => simp [intOf]; omega
    · have ek : k = n := by omega
      subst ek
      clear hall hbel
      go_wp2_with fail
      go_ret
      exact ⟨ret_bool (by rw [HN.out, Frm.allB_yes HA.out]), BX.out.trans (HB.out.mono (by omega))⟩

end Go.Proofs.YtgfkgekaodibhaaGreat
