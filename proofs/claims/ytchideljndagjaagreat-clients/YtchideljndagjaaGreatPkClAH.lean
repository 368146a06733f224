/- Contracts of veilref's client: does a Keys frame agree? -/
import Derived.Test.YtchideljndagjaaGreatPkClAG
import Derived.Deep.CutRange
import Derived.Test.YtchideljndagjaaGreatPkClAB
namespace Go.Proofs.YtchideljndagjaaGreat
open Go.ChangeShapes Go.WideShapes Go.ChangeAt Go.RowKit
set_option linter.unusedVariables false

theorem row_store (W : World) (g : Nat) (p q r s : Int) (h : W.heap[g]? = some (.cells #[.int .i64 0, .int .i64 0, .int .i64 0, .int .i64 0] 142 (0, 0))) :
    ((((W.setCell ⟨g, 0, none⟩ (.int .i64 p)).setCell ⟨g, 1, none⟩ (.int .i64 q)).setCell ⟨g, 2, none⟩ (.int .i64 r)).setCell ⟨g, 3, none⟩ (.int .i64 s)).heap[g]? = some (.cells #[.int .i64 p, .int .i64 q, .int .i64 r, .int .i64 s] 142 (0, 0)) :=
  heap_setCell_same _ _ 3 #[.int .i64 p, .int .i64 q, .int .i64 r, .int .i64 0] _ _ (heap_setCell_same _ _ 2 #[.int .i64 p, .int .i64 q, .int .i64 0, .int .i64 0] _ _ (heap_setCell_same _ _ 1 #[.int .i64 p, .int .i64 0, .int .i64 0, .int .i64 0] _ _ (heap_setCell_same _ _ 0 _ _ _ h)))

theorem item_end_a (W0 w1 : World) (t0 t1 t2 t3 : Int) (h : Below W0.heap.size W0 w1) : ∃ g, Value.pointer (some ⟨w1.heap.size, 0, none⟩) = .pointer (some ⟨g, 0, none⟩) ∧
    (w1.alloc (.cells #[.int .i64 t0, .int .i64 t1, .int .i64 t2, .int .i64 t3] 142)).heap[g]? = some (.cells #[.int .i64 t0, .int .i64 t1, .int .i64 t2, .int .i64 t3] 142 (0, 0)) ∧ Below W0.heap.size W0 (w1.alloc (.cells #[.int .i64 t0, .int .i64 t1, .int .i64 t2, .int .i64 t3] 142)) := ⟨_, rfl, heap_alloc_new _ _, h.alloc h.size _⟩
theorem item_end_b (W0 w1 : World) (n : Nat) (t0 t1 t2 t3 : Int) (hr : w1.heap[n]? = some (.cells #[.int .i64 0, .int .i64 0, .int .i64 0, .int .i64 0] 142 (0, 0))) (h : Below W0.heap.size W0 w1) (hn : W0.heap.size ≤ n) :
    ∃ g, Value.pointer (some ⟨n, 0, none⟩) = .pointer (some ⟨g, 0, none⟩) ∧ ((((w1.setCell ⟨n, 0, none⟩ (.int .i64 t0)).setCell ⟨n, 1, none⟩ (.int .i64 t1)).setCell ⟨n, 2, none⟩ (.int .i64 t2)).setCell ⟨n, 3, none⟩ (.int .i64 t3)).heap[g]? = some (.cells #[.int .i64 t0, .int .i64 t1, .int .i64 t2, .int .i64 t3] 142 (0, 0)) ∧
      Below W0.heap.size W0 ((((w1.setCell ⟨n, 0, none⟩ (.int .i64 t0)).setCell ⟨n, 1, none⟩ (.int .i64 t1)).setCell ⟨n, 2, none⟩ (.int .i64 t2)).setCell ⟨n, 3, none⟩ (.int .i64 t3)) :=
  ⟨_, rfl, row_store _ _ _ _ _ _ hr, (((h.setCell (p := ⟨n, 0, none⟩) hn _).setCell (p := ⟨n, 1, none⟩) hn _).setCell (p := ⟨n, 2, none⟩) hn _).setCell (p := ⟨n, 3, none⟩) hn _⟩

set_option maxHeartbeats 4000000 in
set_option maxRecDepth 100000 in
theorem rkeysAgree_calls (b : Nat) (s : RS) (kd fr : Int) (v : Value) (l : List Frm.It) (w : World) (h : RAt w b s) (hl : ItemsAt w v l) (hc : Cli.Good s.c) :
    Calls Tryz.prog 171 #[.pointer (some ⟨b, 0, none⟩), .agg #[.int .i64 kd, .int .i64 fr, v]] w fun e w' => e = .returned (.bool (Cli.keysAgree s.c l)) ∧ Below w.heap.size w w' := by
  have hbl := h.lt
  obtain ⟨W0, hW0⟩ : ∃ W0, W0 = w.alloc (.cells #[.int .i64 kd, .int .i64 fr, v] 40) := ⟨_, rfl⟩
  have hb0 : Below w.heap.size w W0 := by rw [hW0]; exact (Below.refl _ _).alloc (Nat.le_refl _) _
  have z0 : w.heap.size < W0.heap.size := by rw [hW0]; simp
  have HX := hideG (show W0.cell? ⟨w.heap.size, 0, none⟩ = some (.int .i64 kd) ∧ W0.cell? ⟨w.heap.size, 1, none⟩ = some (.int .i64 fr) ∧ W0.cell? ⟨w.heap.size, 2, none⟩ = some v by rw [hW0]; refine ⟨?_, ?_, ?_⟩ <;> simp)
  have HIT := hideG (fun (W : World) (hb : Below W0.heap.size W0 W) => ritem_calls kd fr v l s.c.id W ((hl.below hb0).below hb))
  have HOWN := hideG (fun (W : World) (hb : Below W0.heap.size W0 W) => rown_calls b s W ((h.below hb0).below hb) hc.ch.1 hc.ch.2 hc.ms.1 hc.ms.2)
  have HN := hideG (fun (W : World) (hb : Below W0.heap.size W0 W) => ((h.below hb0).below hb).nums)
  have HKA := hideG (show Cli.keysAgree s.c l = ((l.all fun x => decide (x.1 ≤ s.c.N)) && (decide (s.c.T ≤ (l.length : Int)) && (decide ((Cli.itemOf l s.c.id).1 = s.c.id) && (decide ((Cli.itemOf l s.c.id).2.1 = Cli.pubA s.c) && decide ((Cli.itemOf l s.c.id).2.2.1 = Cli.pubB s.c))))) from rfl)
  have HB0 := hideG hb0
  have HW0 := hideG hW0
  obtain ⟨a, cap, hv, l2, l3, _, hcl⟩ := items_view hl
  have HC := hideG (fun k (hk : k < l.length) => (hcl k hk))
  have HBC := hideG (show ∀ k, k < l.length → ∃ b' off, a = some ⟨b', off, none⟩ ∧ b' < W0.heap.size ∧ ItemAt W0 b' (off + k * 4) (Frm.it l k) from fun k hk => by
    obtain ⟨b', off, e1, e2, e3⟩ := hcl k hk
    exact ⟨b', off, e1, Nat.lt_of_lt_of_le e2 hb0.size, e3.below e2 hb0⟩)
  rw [hv] at HX
  have HAF := hideG (fun k (hk : k < l.length) (hgt : s.c.N < (Frm.it l k).1) => (show (l.all fun x => decide (x.1 ≤ s.c.N)) = false from List.all_eq_false.2 ⟨Frm.it l k, it_mem hk, by rw [decide_eq_false (by omega)]; exact Bool.false_ne_true⟩))
  have HAT := hideG (fun (hall : ∀ j, j < l.length → (Frm.it l j).1 ≤ s.c.N) => (show (l.all fun x => decide (x.1 ≤ s.c.N)) = true from List.all_eq_true.2 fun x hx => by
    obtain ⟨i, hi, rfl⟩ := List.getElem_of_mem hx
    have := hall i hi
    rw [Cli.it_get l i hi] at this
    exact decide_eq_true this))
  clear h hl hcl hW0 hb0 hc HC
  generalize Cli.keysAgree s.c l = res at *
  generalize (l.all fun x => decide (x.1 ≤ s.c.N)) = ball at *
  generalize Cli.itemOf l s.c.id = t at *
  obtain ⟨t0, t1, t2, t3⟩ := t
  generalize Cli.pubA s.c = pa at *
  generalize Cli.pubB s.c = pb at *
  simp only at HKA
  rw [hv]
  rw [hv] at HIT HW0
  clear hv
  obtain ⟨n, hn⟩ : ∃ n, n = l.length := ⟨_, rfl⟩
  rw [← hn] at l2 HX HKA HBC HAF HAT HIT HW0 ⊢
  clear hn
  generalize s.c.N = N at *
  generalize s.c.T = T at *
  generalize s.c.id = id at *
  generalize s.c.M = M at *
  generalize s.c.ch = ch at *
  generalize s.c.ms = ms at *
  generalize s.c.sd = sd at *
  go_enter Tryz.func171, Tryz.ntmps171
  go_upto_region 1 with fail
  rw [← HW0.out]
  go_wp2_with fail
  go_loopw [5] (fun i wr => ∃ j : Nat, j ≤ n ∧ i = .int .i64 j ∧ (∀ i', i' < j → (Frm.it l i').1 ≤ N) ∧ Below W0.heap.size W0 wr) (fun i _ => n - (intOf i).toNat)
  case atStart => exact ⟨0, Nat.zero_le _, rfl, fun i h => absurd h (Nat.not_lt_zero _), Below.refl _ _⟩
  case round =>
    obtain ⟨j, hj, rfl, hall, hbel⟩ := hrel
    have HA := hideG hall
    have HB := hideG hbel
    have hsz := hbel.size
    obtain ⟨x0, x1, x2⟩ := HX.out
    replace x0 := (hbel.cell (p := ⟨w.heap.size, 0, none⟩) z0).trans x0
    replace x1 := (hbel.cell (p := ⟨w.heap.size, 1, none⟩) z0).trans x1
    replace x2 := (hbel.cell (p := ⟨w.heap.size, 2, none⟩) z0).trans x2
    obtain ⟨y0, _, _, y4, _, _, _⟩ := HN.out _ hbel
    clear hall hbel
    by_cases hlt : j < n
    · obtain ⟨b', off, rfl, hb, hit⟩ := HBC.out j hlt
      obtain ⟨d0, _, _, _⟩ := hit.below hb HB.out
      clear hit
      have HAJ := hideG (HAF.out j hlt)
      obtain ⟨x, hx⟩ : ∃ x, x = (Frm.it l j).1 := ⟨_, rfl⟩
      rw [← hx] at d0 HAJ
      have HXX := hideG hx
      clear hx
      have hb' : b' < wr.heap.size := by omega
      have hbb : b < wr.heap.size := by have := HB0.out.size; omega
      by_cases q : N < x
      · have H := hideG (show res = false by rw [HKA.out, HAJ.out q, Bool.false_and])
        go_wp2_with fail
        go_quiet (fail)
        go_wp2_with fail
        go_ret
        exact ⟨ret_bool H.out.symm, (HB0.out.trans (HB.out.mono (by omega))).trans ((below_drewN _ _).mono (by omega))⟩
      · go_wp2_with fail
        go_quiet (fail)
        go_wp2_with fail
        go_roundw
        case rel => exact ⟨j + 1, by omega, by go_num, fun i' h => by
          by_cases e : i' = j
          · subst e; rw [← HXX.out]; omega
          · exact HA.out i' (by omega), HB.out.trans ((below_drewN _ _).mono (by omega))⟩
        case measure => simp [intOf]; omega
    · have ej : j = n := by omega
      subst ej
      have HK2 := hideG (show res = (decide (T ≤ (j : Int)) && (decide (t0 = id) && (decide (t1 = pa) && decide (t2 = pb)))) by rw [HKA.out, HAT.out HA.out, Bool.true_and])
      have hbb : b < wr.heap.size := by have := HB0.out.size; omega
      have hzz : w.heap.size < wr.heap.size := by omega
      have al0 : ∀ (ob : Obj) (o : Nat), (wr.alloc ob).cell? ⟨b, o, none⟩ = wr.cell? ⟨b, o, none⟩ := fun ob o => ((Below.refl wr.heap.size wr).alloc (Nat.le_refl _) ob).cell (p := ⟨b, o, none⟩) hbb
      have al1 : ∀ (ob : Obj) (o : Nat), (wr.alloc ob).cell? ⟨w.heap.size, o, none⟩ = wr.cell? ⟨w.heap.size, o, none⟩ := fun ob o => ((Below.refl wr.heap.size wr).alloc (Nat.le_refl _) ob).cell (p := ⟨w.heap.size, o, none⟩) hzz
      go_upto_region 6 with fail
      go_cut [6] from 27 to 32 (fun p wc => ∃ g, p = .pointer (some ⟨g, 0, none⟩) ∧ wc.heap[g]? = some (.cells #[.int .i64 t0, .int .i64 t1, .int .i64 t2, .int .i64 t3] 142 (0, 0)) ∧ Below W0.heap.size W0 wc)
      case first =>
        go_region_with (go_at_call 228; first
          | (refine (HIT.out _ HB.out.drew).mono ?_
             rintro e w1 ⟨rfl, hb1⟩
             have HFIN := hideG (item_end_a W0 w1 t0 t1 t2 t3 (HB.out.drew.trans (hb1.mono hsz)))
             clear hb1)
          | (refine (HIT.out _ (HB.out.alloc hsz _).drew).mono ?_
             rintro e w1 ⟨rfl, hb1⟩
             have hrow1 := (hb1.block wr.heap.size (Nat.lt_of_lt_of_eq (Nat.lt_succ_self _) (World.size_alloc _ _).symm)).trans (heap_alloc_new wr _)
             have r0 := cell_of_row w1 wr.heap.size 0 _ _ (0, 0) hrow1
             have r1 := cell_of_row w1 wr.heap.size 1 _ _ (0, 0) hrow1
             have r2 := cell_of_row w1 wr.heap.size 2 _ _ (0, 0) hrow1
             have r3 := cell_of_row w1 wr.heap.size 3 _ _ (0, 0) hrow1
             simp only [List.getElem?_toArray, List.getElem?_cons_zero, List.getElem?_cons_succ] at r0 r1 r2 r3
             have rf := fun i => frozen_of_row w1 wr.heap.size i _ _ hrow1
             have HFIN := hideG (item_end_b W0 w1 wr.heap.size t0 t1 t2 t3 hrow1 ((HB.out.alloc hsz _).drew.trans (hb1.mono (Nat.le_trans hsz (Nat.le_of_lt (Nat.lt_of_lt_of_eq (Nat.lt_succ_self _) (World.size_alloc _ _).symm))))) hsz)
             clear hb1 hrow1))
        all_goals (go_wp2_with fail; go_meet; exact HFIN.out)
      case rest =>
        obtain ⟨g, rfl, hrow, hbc⟩ := hcut
        have HROW := hideG hrow
        have HBC2 := hideG hbc
        have sc := hbc.size
        have hg : g < wc.heap.size := by
          by_cases hb : g < wc.heap.size
          · exact hb
          · rw [Array.getElem?_eq_none (by omega)] at hrow; cases hrow
        clear hrow hbc x0 x1 x2 y0 y4 al0 al1
        go_wp2_with fail
        refine (HOWN.out wc HBC2.out).mono ?_
        rintro e w3 ⟨rfl, hb3⟩
        have s3 := hb3.size
        have E1 := heap_alloc_new w3 (.cells #[.int .i64 id, .int .i64 pa, .int .i64 pb, .int .i64 0] 142)
        have E2 := (Below.refl w3.heap.size w3).alloc (Nat.le_refl _) (.cells #[.int .i64 id, .int .i64 pa, .int .i64 pb, .int .i64 0] 142)
        have s4 : w3.heap.size < (w3.alloc (.cells #[.int .i64 id, .int .i64 pa, .int .i64 pb, .int .i64 0] 142)).heap.size := by simp
        obtain ⟨W4, hW4⟩ : ∃ W4, W4 = w3.alloc (.cells #[.int .i64 id, .int .i64 pa, .int .i64 pb, .int .i64 0] 142) := ⟨_, rfl⟩
        rw [← hW4] at E1 E2 s4
        have e1 := cell_of_row W4 w3.heap.size 1 _ _ (0, 0) E1
        have e2 := cell_of_row W4 w3.heap.size 2 _ _ (0, 0) E1
        have hb4 : Below wc.heap.size wc W4 := hb3.trans (E2.mono s3)
        have HR4 := (hb4.block g hg).trans HROW.out
        have i0 := cell_of_row W4 g 0 _ _ (0, 0) HR4
        have i1 := cell_of_row W4 g 1 _ _ (0, 0) HR4
        have i2 := cell_of_row W4 g 2 _ _ (0, 0) HR4
        simp only [List.getElem?_toArray, List.getElem?_cons_zero, List.getElem?_cons_succ] at e1 e2 i0 i1 i2
        have HB4 := hideG (show Below W0.heap.size W0 W4 from HBC2.out.trans (hb4.mono sc))
        obtain ⟨_, y1, _, y4, _, _, _⟩ := HN.out _ HB4.out
        obtain ⟨_, _, x2⟩ := HX.out
        replace x2 := (HB4.out.cell (p := ⟨w.heap.size, 2, none⟩) z0).trans x2
        have HW4 := hideG hW4
        have hb5 : b < W4.heap.size := by omega
        have hg5 : g < W4.heap.size := by omega
        have HEND := hideG (fun nq => (HB0.out.trans (HB4.out.mono (by omega))).trans ((below_drewN W4 nq).mono (by omega)))
        clear E1 E2 hW4 hb3 hb4 HR4
        go_upto_region 8 with fail
        rw [← HW4.out]
        by_cases q1 : T ≤ (j : Int)
        · have p1 : decide (T ≤ (j : Int)) = true := decide_eq_true q1
          by_cases q2 : t0 = id
          · have p2 : (t0 == id) = true := by simpa using q2
            by_cases q3 : t1 = pa
            · have p3 : (t1 == pa) = true := by simpa using q3
              have HF := hideG (show res = (t2 == pb) by rw [HK2.out, decide_eq_true q1, decide_eq_true q2, decide_eq_true q3]; by_cases q : t2 = pb <;> simp [q])
              have HQ := hideG (And.intro q2 q3)
              clear q2 q3
              go_quiet (fail)
              go_wp2_with fail
              go_ret
              exact ⟨ret_bool HF.out.symm, HEND.out _⟩
            · have p3 : (t1 == pa) = false := by simpa using q3
              have HF := hideG (show res = false by rw [HK2.out, decide_eq_false q3]; simp)
              have HQ := hideG (And.intro q2 q3)
              clear q2 q3
              go_quiet (fail)
              go_wp2_with fail
              go_ret
              exact ⟨ret_bool HF.out.symm, HEND.out _⟩
          · have p2 : (t0 == id) = false := by simpa using q2
            have HF := hideG (show res = false by rw [HK2.out, decide_eq_false q2]; simp)
            have HQ := hideG q2
            clear q2
            go_quiet (fail)
            go_wp2_with fail
            go_ret
            exact ⟨ret_bool HF.out.symm, HEND.out _⟩
        · have p1 : decide (T ≤ (j : Int)) = false := decide_eq_false q1
          have HF := hideG (show res = false by rw [HK2.out, p1]; rfl)
          go_quiet (fail)
          go_wp2_with fail
          go_ret
          exact ⟨ret_bool HF.out.symm, HEND.out _⟩

end Go.Proofs.YtchideljndagjaaGreat

namespace Go.Proofs.YtchideljndagjaaGreat
open Go.ChangeShapes Go.WideShapes Go.ChangeAt Go.RowKit
set_option linter.unusedVariables false

/-- Three cells in a block of their own. -/
def FrAt (w : World) (b : Nat) (k fr : Int) (v : Value) : Prop := w.cell? ⟨b, 0, none⟩ = some (.int .i64 k) ∧ w.cell? ⟨b, 1, none⟩ = some (.int .i64 fr) ∧ w.cell? ⟨b, 2, none⟩ = some v
theorem FrAt.below {w w' : World} {b B : Nat} {k fr : Int} {v : Value} (h : FrAt w b k fr v) (hb : Below B w w') (hB : b < B) : FrAt w' b k fr v :=
  ⟨(hb.cell (p := ⟨b, 0, none⟩) hB).trans h.1, (hb.cell (p := ⟨b, 1, none⟩) hB).trans h.2.1, (hb.cell (p := ⟨b, 2, none⟩) hB).trans h.2.2⟩

theorem FrAt.new (w : World) (k fr : Int) (v : Value) : FrAt (w.alloc (.cells #[.int .i64 k, .int .i64 fr, v] 40)) w.heap.size k fr v := by refine ⟨?_, ?_, ?_⟩ <;> simp
theorem FrAt.alloc {w : World} {b : Nat} {k fr : Int} {v : Value} (h : FrAt w b k fr v) (hb : b < w.heap.size) (ob : Obj) : FrAt (w.alloc ob) b k fr v := h.below ((Below.refl _ _).alloc (Nat.le_refl _) ob) hb
theorem frames3 (w : World) (k1 f1 k2 f2 k3 f3 : Int) (v1 v2 v3 : Value) : FrAt (((w.alloc (.cells #[.int .i64 k1, .int .i64 f1, v1] 40)).alloc (.cells #[.int .i64 k2, .int .i64 f2, v2] 40)).alloc (.cells #[.int .i64 k3, .int .i64 f3, v3] 40)) w.heap.size k1 f1 v1 ∧
    FrAt (((w.alloc (.cells #[.int .i64 k1, .int .i64 f1, v1] 40)).alloc (.cells #[.int .i64 k2, .int .i64 f2, v2] 40)).alloc (.cells #[.int .i64 k3, .int .i64 f3, v3] 40)) (w.heap.size + 1) k2 f2 v2 ∧
    FrAt (((w.alloc (.cells #[.int .i64 k1, .int .i64 f1, v1] 40)).alloc (.cells #[.int .i64 k2, .int .i64 f2, v2] 40)).alloc (.cells #[.int .i64 k3, .int .i64 f3, v3] 40)) (w.heap.size + 2) k3 f3 v3 := by
  refine ⟨((FrAt.new w k1 f1 v1).alloc (by simp) _).alloc (by simp; omega) _, ?_, ?_⟩
  · have h := FrAt.new (w.alloc (.cells #[.int .i64 k1, .int .i64 f1, v1] 40)) k2 f2 v2
    rw [World.size_alloc] at h
    exact h.alloc (by simp) _
  · have h := FrAt.new ((w.alloc (.cells #[.int .i64 k1, .int .i64 f1, v1] 40)).alloc (.cells #[.int .i64 k2, .int .i64 f2, v2] 40)) k3 f3 v3
    rw [World.size_alloc, World.size_alloc] at h
    exact h

theorem bools_box (w : World) (T : TypeId) (f : Nat → Bool) : BoolsAt (w.alloc (.cells (bl13 f).toArray T)) w.heap.size T f := heap_alloc_new w _
theorem bools_store (w : World) (f g : Nat → Bool) (T : TypeId) : BoolsAt ((w.alloc (.cells (bl13 f).toArray T)).setCells w.heap.size 0 (bl13 g)) w.heap.size T g := by
  have := heap_setCells w.heap.size T (bl13 g) [] (bl13 f) [] (w.alloc (.cells (bl13 f).toArray T)) rfl (by rw [List.append_nil]; exact heap_alloc_new w _)
  rw [List.append_nil] at this
  exact this
theorem bools_there (w : World) (T : TypeId) : (w.alloc (.cells (bl13 fun _ => false).toArray T)).there w.heap.size 0 13 := fun j hj =>
  ⟨by rw [Nat.zero_add, (bools_box w T (fun _ => false)).cell j hj]; rfl, by rw [Nat.zero_add]; exact (bools_box w T (fun _ => false)).froz j⟩

/-- The Ids, put into a new block. -/
theorem ids_box (w1 : World) (F : Nat → Bool) (CF : List Value) (h : CF = bl13 F) :
    (w1.alloc (.cells #[.bool false, .bool false, .bool false, .bool false, .bool false, .bool false, .bool false, .bool false, .bool false, .bool false, .bool false, .bool false, .bool false] 127)).there w1.heap.size 0 CF.toArray.size ∧
    Below w1.heap.size w1 ((w1.alloc (.cells #[.bool false, .bool false, .bool false, .bool false, .bool false, .bool false, .bool false, .bool false, .bool false, .bool false, .bool false, .bool false, .bool false] 127)).setCells w1.heap.size 0 CF) ∧
    BoolsAt ((w1.alloc (.cells #[.bool false, .bool false, .bool false, .bool false, .bool false, .bool false, .bool false, .bool false, .bool false, .bool false, .bool false, .bool false, .bool false] 127)).setCells w1.heap.size 0 CF) w1.heap.size 127 F := by
  subst h
  exact ⟨bools_there w1 127, below_setCells (Nat.le_refl _) _ _ _ ((Below.refl _ _).alloc (Nat.le_refl _) _), bools_store w1 (fun _ => false) F _⟩
theorem ids_facts (F : Nat → Bool) (CF : List Value) (h : CF = bl13 F) : CF.toArray.all (·.oneCell') = true ∧ (Tryz.prog.info? 127).map (·.size) = some CF.toArray.size := by
  subst h
  exact ⟨all_oneCell_toArray (bl13_one F), by rw [size_b13, List.size_toArray, bl13_length]⟩

theorem itemOf_mem {l : List Frm.It} {v : Int} (h : Cli.hasI l v = true) : Cli.itemOf l v ∈ l := by
  unfold Cli.itemOf
  cases e : l.find? (fun x => decide (x.1 = v)) with
  | none =>
    rw [List.find?_eq_none] at e
    obtain ⟨x, hx, hv⟩ := Cli.hasI_iff.1 h
    exact absurd (decide_eq_true hv) (e x hx)
  | some x => exact List.mem_of_find?_eq_some e

theorem all_ids {l : List Frm.It} {p : Int → Bool} (hr : Frm.riseB l = true) (h : ∀ v : Nat, 1 ≤ v → v < 13 → Cli.hasI l v = true → p v = true) : (l.all fun x => p x.1) = true := by
  rw [List.all_eq_true]
  intro x hx
  have hi := (Cli.rise_pair hr).2 x hx
  obtain ⟨u, hu⟩ : ∃ u : Nat, x.1 = (u : Int) := ⟨x.1.toNat, by omega⟩
  have := h u (by omega) (by omega) (Cli.hasI_iff.2 ⟨x, hx, hu⟩)
  rw [hu]; exact this
theorem all_ids_no {l : List Frm.It} {p : Int → Bool} {v : Int} (hv : Cli.hasI l v = true) (h : p v = false) : (l.all fun x => p x.1) = false := by
  obtain ⟨x, hx, e⟩ := Cli.hasI_iff.1 hv
  rw [List.all_eq_false]
  exact ⟨x, hx, by rw [e, h]; exact Bool.false_ne_true⟩

end Go.Proofs.YtchideljndagjaaGreat

namespace Go.Proofs.YtchideljndagjaaGreat
open Go.ChangeShapes Go.WideShapes Go.ChangeAt Go.RowKit
set_option linter.unusedVariables false

set_option maxHeartbeats 2000000 in
set_option maxRecDepth 100000 in
theorem rboxAgrees_calls (b : Nat) (s : RS) (k1 f1 k2 f2 : Int) (v1 v2 : Value) (lk lb : List Frm.It) (w : World) (h : RAt w b s) (hk : ItemsAt w v1 lk) (hb : ItemsAt w v2 lb) (hc : Cli.Good s.c) (rk : Frm.riseB lk = true) (rb : Frm.riseB lb = true)
    (hkk : ∀ x ∈ lk, 0 ≤ x.2.1 ∧ x.2.1 < 2305843009213693951 ∧ 0 ≤ x.2.2.1 ∧ x.2.2.1 < 2305843009213693951)
    (hbb : ∀ x ∈ lb, (0 ≤ x.2.1 ∧ x.2.1 < 2305843009213693951) ∧ (0 ≤ x.2.2.1 ∧ x.2.2.1 < 2305843009213693951) ∧ (0 ≤ x.2.2.2 ∧ x.2.2.2 < 2305843009213693951)) :
    Calls Tryz.prog 173 #[.pointer (some ⟨b, 0, none⟩), .agg #[.int .i64 k1, .int .i64 f1, v1], .agg #[.int .i64 k2, .int .i64 f2, v2]] w fun e w' => e = .returned (.bool (Cli.boxAgree s.c lk lb)) ∧ Below w.heap.size w w' := by
  have hbl := h.lt
  obtain ⟨W0, hW0⟩ : ∃ W0, W0 = (w.alloc (.cells #[.int .i64 k1, .int .i64 f1, v1] 40)).alloc (.cells #[.int .i64 k2, .int .i64 f2, v2] 40) := ⟨_, rfl⟩
  have hb0 : Below w.heap.size w W0 := by rw [hW0]; exact ((Below.refl _ _).alloc (Nat.le_refl _) _).alloc (by simp) _
  have z0 : w.heap.size + 1 < W0.heap.size := by rw [hW0]; simp
  have F1 := hideG (show FrAt W0 w.heap.size k1 f1 v1 by rw [hW0]; refine ⟨?_, ?_, ?_⟩ <;> simp)
  have F2 := hideG (show FrAt W0 (w.heap.size + 1) k2 f2 v2 by rw [hW0]; refine ⟨?_, ?_, ?_⟩ <;> simp)
  obtain ⟨F, hF⟩ : ∃ F : Nat → Bool, F = fun u : Nat => Cli.hasI lk u := ⟨_, rfl⟩
  obtain ⟨G, hG⟩ : ∃ G : Nat → Bool, G = fun u : Nat => Cli.hasI lb u := ⟨_, rfl⟩
  obtain ⟨CF, hCF⟩ : ∃ CF, CF = bl13 F := ⟨_, rfl⟩
  obtain ⟨CG, hCG⟩ : ∃ CG, CG = bl13 G := ⟨_, rfl⟩
  have HI1 := hideG (show ∀ W, Below W0.heap.size W0 W → Calls Tryz.prog 230 #[.agg #[.int .i64 k1, .int .i64 f1, v1]] W fun e w' => e = .returned (.agg CF.toArray) ∧ Below W.heap.size W w' from fun W hb' => by
    rw [hCF, hF]; exact rids_calls k1 f1 v1 lk W ((hk.below hb0).below hb') rk)
  have HI2 := hideG (show ∀ W, Below W0.heap.size W0 W → Calls Tryz.prog 230 #[.agg #[.int .i64 k2, .int .i64 f2, v2]] W fun e w' => e = .returned (.agg CG.toArray) ∧ Below W.heap.size W w' from fun W hb' => by
    rw [hCG, hG]; exact rids_calls k2 f2 v2 lb W ((hb.below hb0).below hb') rb)
  obtain ⟨ofF, szF⟩ := ids_facts F CF hCF
  obtain ⟨ofG, szG⟩ := ids_facts G CG hCG
  have OF := hideG ofF
  have SF := hideG szF
  have OG := hideG ofG
  have SG := hideG szG
  have HCF := hideG hCF
  have HCG := hideG hCG
  have HR := hideG (fun (W : World) (hb' : Below W0.heap.size W0 W) => (h.below hb0).below hb')
  obtain ⟨OB, hOB⟩ : ∃ OB : Nat → Bool, OB = fun u : Nat => Cli.opensB s.c lk lb u := ⟨_, rfl⟩
  have HSH := hideG (show ∀ (W : World), Below W0.heap.size W0 W → ∀ j : Nat, (j : Int) ≠ s.c.id → 1 ≤ j → j ≤ 12 → F j = true → G j = true → Calls Tryz.prog 231 #[.pointer (some ⟨b, 0, none⟩), .agg #[.int .i64 k1, .int .i64 f1, v1], .agg #[.int .i64 k2, .int .i64 f2, v2], .int .i64 (j : Int)] W fun e w' =>
      ∃ m q, e = .returned (.tuple #[.int .i64 m, .int .i64 q, .bool (OB j)]) ∧ Below W.heap.size W w' from fun W hb' j q q1 q2 x1 x2 => by
    rw [hF] at x1
    rw [hG] at x2
    rw [hOB]
    have m1 := hkk _ (itemOf_mem x1)
    obtain ⟨m2, m3, m4⟩ := hbb _ (itemOf_mem x2)
    refine (rshares_box b s k1 f1 k2 f2 v1 v2 lk lb j W ((h.below hb0).below hb') ((hk.below hb0).below hb') ((hb.below hb0).below hb') hc q (by omega) (by omega) m1.1 m1.2.1 m2.1 m2.2 m3.1 m3.2 m4.1 m4.2).mono ?_
    rintro e w' ⟨m, q, e1, _, e2⟩
    exact ⟨m, q, e1, e2⟩)
  have HALL := hideG (show (∀ v : Nat, 1 ≤ v → v < 13 → G v = true → (F v && OB v) = true) → (lb.all fun x => Cli.hasI lk x.1 && Cli.opensB s.c lk lb x.1) = true from fun hh => by
    subst hF hG hOB
    exact all_ids (p := fun u => Cli.hasI lk u && Cli.opensB s.c lk lb u) rb hh)
  have HNO := hideG (show ∀ v : Nat, G v = true → (F v && OB v) = false → (lb.all fun x => Cli.hasI lk x.1 && Cli.opensB s.c lk lb x.1) = false from fun v h1 h2 => by
    subst hF hG hOB
    exact all_ids_no (p := fun u => Cli.hasI lk u && Cli.opensB s.c lk lb u) h1 h2)
  obtain ⟨U, hU⟩ : ∃ U : Nat, s.c.id = (U : Int) := ⟨s.c.id.toNat, by have := hc.i; omega⟩
  have U1 : 1 ≤ U := by have := hc.i; omega
  have U13 : U < 13 := by have := hc.i; have := hc.n; omega
  have U13' : (U : Int) < 13 := by omega
  obtain ⟨a2, c2, hv2, l2, l3, _, _⟩ := items_view hb
  have HV2 := hideG hv2
  have HRES := hideG (show Cli.boxAgree s.c lk lb = (!G U && (decide (s.c.T ≤ (lb.length : Int) + 1) && lb.all fun x => Cli.hasI lk x.1 && Cli.opensB s.c lk lb x.1)) by
    rw [hG]; unfold Cli.boxAgree; rw [hU])
  rw [hU] at HSH
  have HN := hideG (show ∀ (W : World), Below W0.heap.size W0 W → W.cell? ⟨b, 1, none⟩ = some (.int .i64 s.c.T) ∧ W.cell? ⟨b, 4, none⟩ = some (.int .i64 (U : Int)) from fun W hb' => by
    obtain ⟨_, y1, _, y4, _, _, _⟩ := (HR.out W hb').nums
    rw [hU] at y4
    exact ⟨y1, y4⟩)
  have hT := hc.t
  have hT2 := hc.n
  have n12 : lb.length ≤ 12 := by obtain ⟨p1, p2⟩ := Cli.rise_pair rb; exact Cli.pair_len p1 p2
  have HB0 := hideG hb0
  have HW0 := hideG hW0
  generalize Cli.boxAgree s.c lk lb = res at *
  generalize (lb.all fun x => Cli.hasI lk x.1 && Cli.opensB s.c lk lb x.1) = ball at *
  obtain ⟨n, hn⟩ : ∃ n, n = lb.length := ⟨_, rfl⟩
  rw [← hn] at HV2 l2 HRES n12
  have hwr : IntKind.i64.wrap ((n : Int) + 1) = (n : Int) + 1 := by rw [IntWalk.i64_left, IntWalk.wrap64_in _ (by omega)]
  have hwr2 : wrap64 ((n : Int) + 1) = (n : Int) + 1 := IntWalk.wrap64_in _ (by omega)
  generalize s.c.T = T at *
  clear hv2 hn h hk hb hc rk rb hkk hbb hF hG hCF hCG hOB hU hW0 hb0 ofF szF ofG szG
  go_enter Tryz.func173, Tryz.ntmps173
  go_upto_region 1 with fail
  rw [← HW0.out]
  obtain ⟨x0, x1, x2⟩ := F1.out
  go_wp2_with fail
  refine (HI1.out W0 (Below.refl _ _)).mono ?_
  rintro e w1 ⟨rfl, hb1⟩
  have s1 := hb1.size
  obtain ⟨t1, hb2, bo2⟩ := ids_box w1 F CF HCF.out
  have T1 := hideG t1
  obtain ⟨w2, hw2⟩ : ∃ w2, w2 = (w1.alloc (.cells #[.bool false, .bool false, .bool false, .bool false, .bool false, .bool false, .bool false, .bool false, .bool false, .bool false, .bool false, .bool false, .bool false] 127)).setCells w1.heap.size 0 CF := ⟨_, rfl⟩
  rw [← hw2] at hb2 bo2
  have s2 := hb2.size
  have BO2 := hideG bo2
  have l2' := bo2.lt
  have HB2 := hideG (hb1.trans (hb2.mono s1))
  have HW2 := hideG hw2
  clear t1 hw2 hb1 hb2 bo2 x0 x1 x2
  go_upto_region 2 with (refine wpList_store_mid rfl 127 _ _ rfl w1.heap.size 0 CF.toArray rfl rfl T1.out SF.out OF.out ?_)
  rw [← HW2.out]
  obtain ⟨x0, x1, x2⟩ := F2.out.below HB2.out z0
  go_wp2_with fail
  refine (HI2.out w2 HB2.out).mono ?_
  rintro e w3 ⟨rfl, hb3⟩
  have s3 := hb3.size
  obtain ⟨t3, hb4, bo4⟩ := ids_box w3 G CG HCG.out
  have T3 := hideG t3
  obtain ⟨w4, hw4⟩ : ∃ w4, w4 = (w3.alloc (.cells #[.bool false, .bool false, .bool false, .bool false, .bool false, .bool false, .bool false, .bool false, .bool false, .bool false, .bool false, .bool false, .bool false] 127)).setCells w3.heap.size 0 CG := ⟨_, rfl⟩
  rw [← hw4] at hb4 bo4
  have s4 := hb4.size
  have BG := hideG bo4
  have l4' := bo4.lt
  have BF := hideG ((BO2.out.below hb3 l2').below hb4 (by omega))
  have HB4 := hideG ((HB2.out.trans (hb3.mono (by omega))).trans (hb4.mono (by omega)))
  have HW4 := hideG hw4
  clear t3 hw4 hb3 hb4 bo4 x0 x1 x2
  go_upto_region 3 with (refine wpList_store_mid rfl 127 _ _ rfl w3.heap.size 0 CG.toArray rfl rfl T3.out SG.out OG.out ?_)
  rw [← HW4.out]
  simp only [Act.put]
  obtain ⟨y1, y4⟩ := HN.out w4 HB4.out
  obtain ⟨x0, x1, x2⟩ := F2.out.below HB4.out z0
  rw [HV2.out] at x2
  have g0 := BG.out.cell U U13
  have hbl4 : b < w4.heap.size := by have := HB0.out.size; omega
  by_cases qU : G U = true
  · have H := hideG (show res = false by rw [HRES.out, qU]; rfl)
    rw [qU] at g0
    go_quiet (fail)
    go_wp2_with fail
    go_ret
    exact ⟨ret_bool H.out.symm, (HB0.out.trans (HB4.out.mono (by omega))).trans ((below_drewN _ _).mono (by omega))⟩
  have qU' : G U = false := by simpa using qU
  rw [qU'] at g0
  by_cases qT : (n : Int) + 1 < T
  · have H := hideG (show res = false by rw [HRES.out, decide_eq_false (show ¬ T ≤ (n : Int) + 1 by omega)]; simp)
    have HQ := hideG qU'
    clear qU qU'
    go_quiet (fail)
    go_wp2_with fail
    go_ret
    exact ⟨ret_bool H.out.symm, (HB0.out.trans (HB4.out.mono (by omega))).trans ((below_drewN _ _).mono (by omega))⟩
  have HRE := hideG (show res = ball by rw [HRES.out, qU', decide_eq_true (show T ≤ (n : Int) + 1 by omega)]; simp)
  have HQ := hideG qU'
  clear qU qU'
  go_quiet (fail)
  have HBN := hideG (below_drewN w4 nq)
  obtain ⟨W5, hW5⟩ : ∃ W5, W5 = w4.drewN nq := ⟨_, rfl⟩
  rw [← hW5] at HBN ⊢
  have s5 := HBN.out.size
  have HB5 := hideG (HB4.out.trans (HBN.out.mono (by omega)))
  have BF5 := hideG (BF.out.below HBN.out (by omega))
  have BG5 := hideG (BG.out.below HBN.out (by omega))
  clear hW5 x0 x1 x2 y1 y4 g0
  go_wp2_with fail
  go_loopw [9] (fun i wr => ∃ j : Nat, 1 ≤ j ∧ j ≤ 13 ∧ i = .int .i64 j ∧ (∀ v : Nat, 1 ≤ v → v < j → G v = true → (F v && OB v) = true) ∧ Below W5.heap.size W5 wr) (fun i _ => 13 - (intOf i).toNat)
  case atStart => exact ⟨1, Nat.le_refl _, by omega, rfl, fun v h1 h2 => by omega, Below.refl _ _⟩
  case round =>
    obtain ⟨j, j1, j2, rfl, hall, hbel⟩ := hrel
    have HA := hideG hall
    have HB := hideG hbel
    have hsz := hbel.size
    clear hall hbel
    by_cases hlt : j ≤ 12
    · have j13 : j < 13 := by omega
      have j13' : (j : Int) < 13 := by omega
      have jp : (0 : Int) ≤ (j : Int) := by omega
      have gF := (BF5.out.below HB.out (by omega)).cell j j13
      have gG := (BG5.out.below HB.out (by omega)).cell j j13
      have HBW := hideG (HB5.out.trans (HB.out.mono (by omega)))
      by_cases qG : G j = true
      · by_cases qF : F j = true
        · have HC := hideG (HSH.out wr HBW.out j (by intro e; have : j = U := by omega
                                                     subst this; rw [HQ.out] at qG; cases qG) j1 hlt qF qG)
          have HNJ := hideG (HNO.out j qG)
          rw [qG] at gG
          rw [qF] at gF
          have HQF := hideG qF
          have HQG := hideG qG
          clear qF qG
          obtain ⟨x0, x1, x2⟩ := F1.out.below HBW.out (by omega)
          obtain ⟨y0, y1, y2⟩ := F2.out.below HBW.out z0
          go_wp2_with fail
          refine HC.out.mono ?_
          rintro e w6 ⟨m, q, rfl, hb6⟩
          have s6 := hb6.size
          have HB6 := hideG hb6
          clear hb6 x0 x1 x2 y0 y1 y2 gF gG
          obtain ⟨ob, hob⟩ : ∃ ob, ob = OB j := ⟨_, rfl⟩
          rw [← hob]
          have HOB := hideG hob
          clear hob
          cases ob
          · have H := hideG (show res = false by rw [HRE.out]; exact HNJ.out (by rw [← HOB.out]; simp))
            go_wp2_with fail
            go_ret
            exact ⟨ret_bool H.out.symm, (HB0.out.trans (HBW.out.mono (by omega))).trans (HB6.out.mono (by omega))⟩
          · go_wp2_with fail
            go_roundw
            case rel => exact ⟨j + 1, by omega, by omega, by go_num, fun v h1 h2 h3 => by
              by_cases e : v = j
              · subst e; rw [HQF.out, ← HOB.out]; rfl
              · exact HA.out v h1 (by omega) h3, HB.out.trans (HB6.out.mono (by omega))⟩
            case measure => simp [intOf]; omega
        · have qF' : F j = false := by simpa using qF
          have H := hideG (show res = false by rw [HRE.out]; exact HNO.out j qG (by rw [qF']; rfl))
          rw [qG] at gG
          rw [qF'] at gF
          clear qF qF' qG
          go_wp2_with fail
          go_ret
          exact ⟨ret_bool H.out.symm, HB0.out.trans (HBW.out.mono (by omega))⟩
      · have qG' : G j = false := by simpa using qG
        rw [qG'] at gG
        have HQG := hideG qG'
        clear qG qG'
        go_wp2_with fail
        go_roundw
        case rel => exact ⟨j + 1, by omega, by omega, by go_num, fun v h1 h2 h3 => by
          by_cases e : v = j
          · subst e; rw [HQG.out] at h3; cases h3
          · exact HA.out v h1 (by omega) h3, HB.out⟩
        case measure => simp [intOf]; omega
    · have ej : j = 13 := by omega
      have H := hideG (show res = true by rw [HRE.out]; exact HALL.out (fun v h1 h2 h3 => HA.out v h1 (by omega) h3))
      subst ej
      go_wp2_with fail
      go_ret
      exact ⟨ret_bool H.out.symm, HB0.out.trans ((HB5.out.trans (HB.out.mono (by omega))).mono (by omega))⟩

end Go.Proofs.YtchideljndagjaaGreat

namespace Go.Proofs.YtchideljndagjaaGreat
open Go.ChangeShapes Go.WideShapes Go.ChangeAt Go.RowKit
set_option linter.unusedVariables false

set_option maxHeartbeats 2000000 in
set_option maxRecDepth 100000 in
theorem raskAgrees_calls (b : Nat) (s : RS) (k1 f1 k2 f2 : Int) (v1 v2 : Value) (lb la : List Frm.It) (w : World) (h : RAt w b s) (hk : ItemsAt w v1 lb) (hb : ItemsAt w v2 la) (hc : Cli.Good s.c) (rk : Frm.riseB lb = true) (rb : Frm.riseB la = true) :
    Calls Tryz.prog 175 #[.pointer (some ⟨b, 0, none⟩), .agg #[.int .i64 k1, .int .i64 f1, v1], .agg #[.int .i64 k2, .int .i64 f2, v2]] w fun e w' => e = .returned (.bool (Cli.askAgree s.c lb la)) ∧ Below w.heap.size w w' := by
  have hbl := h.lt
  obtain ⟨W0, hW0⟩ : ∃ W0, W0 = (w.alloc (.cells #[.int .i64 k1, .int .i64 f1, v1] 40)).alloc (.cells #[.int .i64 k2, .int .i64 f2, v2] 40) := ⟨_, rfl⟩
  have hb0 : Below w.heap.size w W0 := by rw [hW0]; exact ((Below.refl _ _).alloc (Nat.le_refl _) _).alloc (by simp) _
  have z0 : w.heap.size + 1 < W0.heap.size := by rw [hW0]; simp
  have F1 := hideG (show FrAt W0 w.heap.size k1 f1 v1 by rw [hW0]; refine ⟨?_, ?_, ?_⟩ <;> simp)
  have F2 := hideG (show FrAt W0 (w.heap.size + 1) k2 f2 v2 by rw [hW0]; refine ⟨?_, ?_, ?_⟩ <;> simp)
  obtain ⟨U, hU⟩ : ∃ U : Nat, s.c.id = (U : Int) := ⟨s.c.id.toNat, by have := hc.i; omega⟩
  have U1 : 1 ≤ U := by have := hc.i; omega
  have U13 : U < 13 := by have := hc.i; have := hc.n; omega
  have U13' : (U : Int) < 13 := by omega
  obtain ⟨F, hF⟩ : ∃ F : Nat → Bool, F = fun u : Nat => Cli.hasI lb u := ⟨_, rfl⟩
  obtain ⟨G, hG⟩ : ∃ G : Nat → Bool, G = fun u : Nat => Cli.hasI la u := ⟨_, rfl⟩
  obtain ⟨S, hS⟩ : ∃ S : Nat → Bool, S = updB F U true := ⟨_, rfl⟩
  obtain ⟨CF, hCF⟩ : ∃ CF, CF = bl13 F := ⟨_, rfl⟩
  obtain ⟨CG, hCG⟩ : ∃ CG, CG = bl13 G := ⟨_, rfl⟩
  have HI1 := hideG (show ∀ W, Below W0.heap.size W0 W → Calls Tryz.prog 230 #[.agg #[.int .i64 k1, .int .i64 f1, v1]] W fun e w' => e = .returned (.agg CF.toArray) ∧ Below W.heap.size W w' from fun W hb' => by
    rw [hCF, hF]; exact rids_calls k1 f1 v1 lb W ((hk.below hb0).below hb') rk)
  have HI2 := hideG (show ∀ W, Below W0.heap.size W0 W → Calls Tryz.prog 230 #[.agg #[.int .i64 k2, .int .i64 f2, v2]] W fun e w' => e = .returned (.agg CG.toArray) ∧ Below W.heap.size W w' from fun W hb' => by
    rw [hCG, hG]; exact rids_calls k2 f2 v2 la W ((hb.below hb0).below hb') rb)
  obtain ⟨ofF, szF⟩ := ids_facts F CF hCF
  obtain ⟨ofG, szG⟩ := ids_facts G CG hCG
  have OF := hideG ofF
  have SF := hideG szF
  have OG := hideG ofG
  have SG := hideG szG
  have HCF := hideG hCF
  have HCG := hideG hCG
  have HSS := hideG hS
  have HR := hideG (fun (W : World) (hb' : Below W0.heap.size W0 W) => (h.below hb0).below hb')
  have hsv : ∀ v : Nat, S v = (Cli.hasI lb v || decide ((v : Int) = s.c.id)) := fun v => by
    rw [hS, hF, hU]
    unfold updB
    by_cases e : v = U
    · subst e; simp
    · rw [if_neg e, decide_eq_false (by omega), Bool.or_false]
  have HALL := hideG (show (∀ v : Nat, 1 ≤ v → v < 13 → G v = true → S v = true) → (la.all fun x => Cli.hasI lb x.1 || decide (x.1 = s.c.id)) = true from fun hh => by
    subst hG
    exact all_ids (p := fun u => Cli.hasI lb u || decide (u = s.c.id)) rb (fun v h1 h2 h3 => by rw [← hsv v]; exact hh v h1 h2 h3))
  have HNO := hideG (show ∀ v : Nat, G v = true → S v = false → (la.all fun x => Cli.hasI lb x.1 || decide (x.1 = s.c.id)) = false from fun v h1 h2 => by
    subst hG
    exact all_ids_no (p := fun u => Cli.hasI lb u || decide (u = s.c.id)) (v := (v : Int)) h1 (by rw [← hsv v]; exact h2))
  obtain ⟨a2, c2, hv2, l2, l3, _, _⟩ := items_view hb
  have HV2 := hideG hv2
  have HRES := hideG (show Cli.askAgree s.c lb la = ((la.all fun x => Cli.hasI lb x.1 || decide (x.1 = s.c.id)) && (G U && decide (s.c.T ≤ (la.length : Int)))) by
    rw [hG]; unfold Cli.askAgree; rw [hU])
  have HN := hideG (show ∀ (W : World), Below W0.heap.size W0 W → W.cell? ⟨b, 1, none⟩ = some (.int .i64 s.c.T) ∧ W.cell? ⟨b, 4, none⟩ = some (.int .i64 (U : Int)) from fun W hb' => by
    obtain ⟨_, y1, _, y4, _, _, _⟩ := (HR.out W hb').nums
    rw [hU] at y4
    exact ⟨y1, y4⟩)
  have hT := hc.t
  have hT2 := hc.n
  have HB0 := hideG hb0
  have HW0 := hideG hW0
  generalize Cli.askAgree s.c lb la = res at *
  generalize (la.all fun x => Cli.hasI lb x.1 || decide (x.1 = s.c.id)) = ball at *
  obtain ⟨n, hn⟩ : ∃ n, n = la.length := ⟨_, rfl⟩
  rw [← hn] at HV2 l2 HRES
  generalize s.c.T = T at *
  clear hv2 hn h hk hb hc rk rb hF hG hS hCF hCG hU hW0 hb0 ofF szF ofG szG hsv
  go_enter Tryz.func175, Tryz.ntmps175
  go_upto_region 1 with fail
  rw [← HW0.out]
  obtain ⟨x0, x1, x2⟩ := F1.out
  go_wp2_with fail
  refine (HI1.out W0 (Below.refl _ _)).mono ?_
  rintro e w1 ⟨rfl, hb1⟩
  have s1 := hb1.size
  obtain ⟨t1, hb2, bo2⟩ := ids_box w1 F CF HCF.out
  have T1 := hideG t1
  obtain ⟨w2, hw2⟩ : ∃ w2, w2 = (w1.alloc (.cells #[.bool false, .bool false, .bool false, .bool false, .bool false, .bool false, .bool false, .bool false, .bool false, .bool false, .bool false, .bool false, .bool false] 127)).setCells w1.heap.size 0 CF := ⟨_, rfl⟩
  rw [← hw2] at hb2 bo2
  have s2 := hb2.size
  have l2' := bo2.lt
  have HB2 := hideG (hb1.trans (hb2.mono s1))
  have HW2 := hideG hw2
  have g0 := bo2.cell U U13
  have g1 := bo2.froz U
  obtain ⟨w2', hw2'⟩ : ∃ w2', w2' = w2.setCell ⟨w1.heap.size, U, none⟩ (.bool true) := ⟨_, rfl⟩
  have BO2 := hideG (show BoolsAt w2' w1.heap.size 127 S by rw [hw2', HSS.out]; exact bo2.set U U13 true)
  have HB2' := hideG (show Below W0.heap.size W0 w2' by rw [hw2']; exact HB2.out.setCell (p := ⟨w1.heap.size, U, none⟩) (by show W0.heap.size ≤ w1.heap.size; omega) _)
  have l2'' := BO2.out.lt
  have s2' : w2'.heap.size = w2.heap.size := by rw [hw2']; simp [World.setCell]
  have HW2' := hideG hw2'
  clear t1 hw2 hb1 hb2 bo2 x0 x1 x2 hw2'
  go_upto_region 2 with (refine wpList_store_mid rfl 127 _ _ rfl w1.heap.size 0 CF.toArray rfl rfl T1.out SF.out OF.out ?_)
  rw [← HW2.out]
  obtain ⟨y1, y4⟩ := HN.out w2 HB2.out
  have hbl2 : b < w2.heap.size := by have := HB0.out.size; omega
  go_upto_region 3 with fail
  rw [← HW2'.out]
  clear g0 g1 y1 y4
  obtain ⟨x0, x1, x2⟩ := F2.out.below HB2'.out z0
  go_wp2_with fail
  refine (HI2.out w2' HB2'.out).mono ?_
  rintro e w3 ⟨rfl, hb3⟩
  have s3 := hb3.size
  obtain ⟨t3, hb4, bo4⟩ := ids_box w3 G CG HCG.out
  have T3 := hideG t3
  obtain ⟨w4, hw4⟩ : ∃ w4, w4 = (w3.alloc (.cells #[.bool false, .bool false, .bool false, .bool false, .bool false, .bool false, .bool false, .bool false, .bool false, .bool false, .bool false, .bool false, .bool false] 127)).setCells w3.heap.size 0 CG := ⟨_, rfl⟩
  rw [← hw4] at hb4 bo4
  have s4 := hb4.size
  have BG := hideG bo4
  have l4' := bo4.lt
  have BS := hideG ((BO2.out.below hb3 l2'').below hb4 (by omega))
  have HB4 := hideG ((HB2'.out.trans (hb3.mono (by omega))).trans (hb4.mono (by omega)))
  have HW4 := hideG hw4
  clear t3 hw4 hb3 hb4 bo4 x0 x1 x2
  go_upto_region 4 with (refine wpList_store_mid rfl 127 _ _ rfl w3.heap.size 0 CG.toArray rfl rfl T3.out SG.out OG.out ?_)
  rw [← HW4.out]
  simp only [Act.put]
  go_wp2_with fail
  go_loop [9] (fun i => ∃ j : Nat, 1 ≤ j ∧ j ≤ 13 ∧ i = .int .i64 j ∧ (∀ v : Nat, 1 ≤ v → v < j → G v = true → S v = true)) (fun i => 13 - (intOf i).toNat)
  case atStart => exact ⟨1, Nat.le_refl _, by omega, rfl, fun v h1 h2 => by omega⟩
  case round =>
    obtain ⟨j, j1, j2, rfl, hall⟩ := hrel
    have HA := hideG hall
    clear hall
    by_cases hlt : j ≤ 12
    · have j13 : j < 13 := by omega
      have j13' : (j : Int) < 13 := by omega
      have jp : (0 : Int) ≤ (j : Int) := by omega
      have gF := BS.out.cell j j13
      have gG := BG.out.cell j j13
      by_cases qG : G j = true
      · by_cases qF : S j = true
        · rw [qG] at gG
          rw [qF] at gF
          have HQF := hideG qF
          clear qF qG
          go_wp2_with fail
          go_round
          case rel => exact ⟨j + 1, by omega, by omega, by go_num, fun v h1 h2 h3 => by
            by_cases e : v = j
            · subst e; exact HQF.out
            · exact HA.out v h1 (by omega) h3⟩
          case measure => simp [intOf]; omega
        · have qF' : S j = false := by simpa using qF
          have H := hideG (show res = false by rw [HRES.out, HNO.out j qG qF']; rfl)
          rw [qG] at gG
          rw [qF'] at gF
          clear qF qF' qG
          go_wp2_with fail
          go_ret
          exact ⟨ret_bool H.out.symm, HB0.out.trans (HB4.out.mono (by omega))⟩
      · have qG' : G j = false := by simpa using qG
        rw [qG'] at gG
        have HQG := hideG qG'
        clear qG qG'
        go_wp2_with fail
        go_round
        case rel => exact ⟨j + 1, by omega, by omega, by go_num, fun v h1 h2 h3 => by
          by_cases e : v = j
          · subst e; rw [HQG.out] at h3; cases h3
          · exact HA.out v h1 (by omega) h3⟩
        case measure => simp [intOf]; omega
    · have ej : j = 13 := by omega
      have HRE := hideG (show res = (G U && decide (T ≤ (n : Int))) by rw [HRES.out, HALL.out (fun v h1 h2 h3 => HA.out v h1 (by omega) h3)]; rfl)
      subst ej
      obtain ⟨y1, y4⟩ := HN.out w4 HB4.out
      obtain ⟨x0, x1, x2⟩ := F2.out.below HB4.out z0
      rw [HV2.out] at x2
      have g0 := BG.out.cell U U13
      have hbl4 : b < w4.heap.size := by have := HB0.out.size; omega
      by_cases qU : G U = true
      · have H := hideG (show res = decide (T ≤ (n : Int)) by rw [HRE.out, qU]; rfl)
        rw [qU] at g0
        clear qU
        go_wp2_with fail
        go_quiet (fail)
        go_wp2_with fail
        go_ret
        exact ⟨ret_bool H.out.symm, (HB0.out.trans (HB4.out.mono (by omega))).trans ((below_drewN _ _).mono (by omega))⟩
      · have qU' : G U = false := by simpa using qU
        have H := hideG (show res = false by rw [HRE.out, qU']; rfl)
        rw [qU'] at g0
        clear qU qU'
        go_wp2_with fail
        go_quiet (fail)
        go_wp2_with fail
        go_ret
        exact ⟨ret_bool H.out.symm, (HB0.out.trans (HB4.out.mono (by omega))).trans ((below_drewN _ _).mono (by omega))⟩

end Go.Proofs.YtchideljndagjaaGreat
