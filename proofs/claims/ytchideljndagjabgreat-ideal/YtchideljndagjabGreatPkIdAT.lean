/- Contracts of the program's server: the members of a set, rising; the item of an Id. -/
import Derived.Test.YtchideljndagjabGreatPkIdAS
import Derived.Test.YtchideljndagjabGreatPkIdAB
import Derived.Test.YtchideljndagjabGreatPkIdAC
namespace Go.Proofs.YtchideljndagjabGreat
open Go.ChangeShapes Go.WideShapes Go.ChangeAt Go.RowKit
set_option linter.unusedVariables false
theorem infoIn : (Tryz.prog.info? 3).map (fun i => (i.zero, i.size, i.bytes)) = some (some (.int .i64 0), 1, 8) := by kernel_rfl
def natsV (l : List Nat) : List Value := l.map fun u : Nat => .int .i64 (u : Int)
set_option maxHeartbeats 1000000 in
set_option maxRecDepth 100000 in
theorem listed_calls (f : Nat → Bool) (w : World) :
    Calls Tryz.prog 248 #[memV f] w fun e w' => ∃ v, e = .returned v ∧ w'.ownsRow w.heap.size 3 1 v (Srv.lst f).length (natsV (Srv.lst f)) ∧ Below w.heap.size w w' := by
  obtain ⟨i0, hi, hz0, hz1, hz2⟩ := info_parts infoIn
  unfold memV
  have BB := hideG (show Below w.heap.size w (w.alloc (.cells (bl13 f).toArray 101)) from (Below.refl _ _).alloc (Nat.le_refl _) _)
  have HRG := hideG (bools_new w 101 f).range
  have HIX := hideG (ix_mem f)
  have LX := hideG (bl13_length f)
  obtain ⟨W, hW⟩ : ∃ W, W = w.alloc (.cells (bl13 f).toArray 101) := ⟨_, rfl⟩
  rw [← hW] at BB HRG
  have HW := hideG hW
  clear hW
  obtain ⟨X, hX⟩ : ∃ X, X = bl13 f := ⟨_, rfl⟩
  rw [← hX] at HW HRG HIX LX ⊢
  clear hX
  go_enter Tryz.func248, Tryz.ntmps248
  go_upto_region 2 with fail
  rw [← HW.out]
  go_wp2_with (refine wpList_load_mid rfl 101 _ rfl w.heap.size 0 rfl X _ HRG.out Tryz.underlying101 rfl ?z ?_)
  case z => rw [size_mem, LX.out]
  go_wp2_with fail
  go_loopw [3, 7] (fun u i wr => ∃ k : Nat, k ≤ 13 ∧ i = .int .i64 (k : Int) ∧ wr.ownsRow w.heap.size 3 1 u (Srv.lstN f k).length (natsV (Srv.lstN f k)) ∧ Below w.heap.size w wr) (fun _ i _ => 13 - (intOf i).toNat)
  case atStart => exact ⟨0, by omega, rfl, World.ownsRow_nil _ _ _ _, BB.out⟩
  case round =>
    obtain ⟨k, hk, rfl, hown, hbel⟩ := hrel
    have HO := hideG hown
    have HB := hideG hbel
    have hsz := hbel.size
    obtain ⟨a3, c3, hv3⟩ := owns_form hown
    subst hv3
    clear hown hbel
    have hle := Srv.lstN_le f k
    have HS := hideG (Srv.lstN_succ f k)
    by_cases hlt : k < 13
    · have hlt' : (k : Int) < 13 := by omega
      have hix := HIX.out k hlt
      cases q : f k
      · rw [q] at hix
        have HS2 := hideG (show Srv.lstN f (k + 1) = Srv.lstN f k by rw [HS.out, q]; simp)
        clear q
        go_wp2_with fail
        go_roundw
        case rel => exact ⟨k + 1, by omega, by go_num, by rw [HS2.out]; exact HO.out, HB.out⟩
        case measure => simp [intOf]; omega
      · rw [q] at hix
        have HS2 := hideG (show Srv.lstN f (k + 1) = Srv.lstN f k ++ [k] by rw [HS.out, q]; simp)
        clear q
        go_wp2_with (at_builtin; refine wpList_append_own _ rfl _ _ 33 rfl w.heap.size 3 i0 (.int .i64 0) 1 8 Tryz.underlying33 hi hz0 hz1 hz2 rfl (by decide) _ _ _ rfl (HO.out.alloc _) ⟨wr.heap.size, 0, none⟩ 1 1 [.int .i64 (k : Int)] rfl rfl ?c1 ?c2 ?c3 ?c4 ?c5 ?_)
        case c1 => exact cell_one_new _ _ _
        case c2 => intro u hu; simp at hu; subst hu; rfl
        case c3 => unfold maxLen; omega
        case c4 => omega
        case c5 => simp; omega
        intro v' w2 hown' hgrow' _
        have hbk := fun x (h : Value.ownBlock _ = some x) => HO.out.lt x h
        have hb2 := (HB.out.alloc hsz _).grown hgrow' (by simp; omega) (fun x h => (hbk x h).1)
        have HB2 := hideG hb2
        have ho2 : w2.ownsRow w.heap.size 3 1 v' (Srv.lstN f (k + 1)).length (natsV (Srv.lstN f (k + 1))) := by
          rw [HS2.out, List.length_append]; unfold natsV at hown' ⊢; rw [List.map_append]; exact hown'
        have HO2 := hideG ho2
        clear hown' hgrow' hbk hb2 ho2
        go_wp2_with fail
        go_roundw
        case rel => exact ⟨k + 1, by omega, by go_num, HO2.out, HB2.out⟩
        case measure => simp [intOf]; omega
    · have ek : k = 13 := by omega
      subst ek
      go_wp2_with fail
      go_ret
      exact ⟨_, rfl, HO.out, HB.out⟩
theorem itemOf_at (l : List Frm.It) (u : Int) : ∀ j, (∀ i, i < j → (Frm.it l i).1 ≠ u) → j < l.length → (Frm.it l j).1 = u → Cli.itemOf l u = Frm.it l j := fun j hj hlt e => by
  unfold Cli.itemOf
  have hs : l = l.take j ++ (l[j] :: l.drop (j + 1)) := by rw [List.getElem_cons_drop, List.take_append_drop]
  have hnone : (l.take j).find? (fun x => decide (x.1 = u)) = none := by
    rw [List.find?_eq_none]
    intro x hx
    obtain ⟨i, hi, rfl⟩ := List.getElem_of_mem hx
    rw [List.length_take] at hi
    rw [List.getElem_take]
    have := hj i (by omega)
    rw [Cli.it_get l i (by omega)] at this
    simpa using this
  rw [Cli.it_get l j hlt] at e
  rw [Cli.it_get l j hlt]
  conv => lhs; rw [hs]
  rw [List.find?_append, hnone, List.find?_cons, decide_eq_true e]
  rfl
theorem itemOf_no (l : List Frm.It) (u : Int) (h : ∀ i, i < l.length → (Frm.it l i).1 ≠ u) : Cli.itemOf l u = (0, 0, 0, 0) := Cli.itemOf_none (Cli.hasI_off.2 fun x hx => by
  obtain ⟨i, hi, rfl⟩ := List.getElem_of_mem hx
  have := h i hi
  rwa [Cli.it_get l i hi] at this)
def itmV (x : Frm.It) : Value := .agg #[.int .i64 x.1, .int .i64 x.2.1, .int .i64 x.2.2.1, .int .i64 x.2.2.2]
set_option maxHeartbeats 2000000 in
set_option maxRecDepth 100000 in
theorem sItemOf_calls (v : Value) (l : List Frm.It) (u : Int) (w : World) (hl : ItemsAt w v l) :
    Calls Tryz.prog 289 #[v, .int .i64 u] w fun e w' => e = .returned (itmV (Cli.itemOf l u)) ∧ Below w.heap.size w w' := by
  obtain ⟨a, cap, rfl, l2, l3, _, hcl⟩ := items_view hl
  have HC := hideG hcl
  have HF := hideG (itemOf_at l u)
  have HN := hideG (itemOf_no l u)
  clear hl hcl
  unfold itmV
  generalize l.length = n at *
  have HROW0 := hideG (heap_alloc_new w (.cells #[.int .i64 0, .int .i64 0, .int .i64 0, .int .i64 0] 147))
  have B0 := hideG (show Below w.heap.size w (w.alloc (.cells #[.int .i64 0, .int .i64 0, .int .i64 0, .int .i64 0] 147)) from (Below.refl _ _).alloc (Nat.le_refl _) _)
  go_enter Tryz.func289, Tryz.ntmps289
  go_wp2_with fail
  go_loopw [9] (fun i wr => ∃ j : Nat, j ≤ n ∧ i = .int .i64 j ∧ (∀ i', i' < j → (Frm.it l i').1 ≠ u) ∧ wr.heap[w.heap.size]? = some (.cells #[.int .i64 0, .int .i64 0, .int .i64 0, .int .i64 0] 147 (0, 0)) ∧ Below w.heap.size w wr) (fun i _ => n - (intOf i).toNat)
  case atStart => exact ⟨0, Nat.zero_le _, rfl, fun i h => by omega, HROW0.out, B0.out⟩
  case round =>
    obtain ⟨j, hj, rfl, hall, hrow, hbel⟩ := hrel
    have HA := hideG hall
    have HR := hideG hrow
    have HB := hideG hbel
    have hsz : w.heap.size < wr.heap.size := by
      apply Decidable.byContradiction
      intro c
      rw [Array.getElem?_eq_none (by omega)] at hrow
      cases hrow
    clear hall hrow hbel
    by_cases hlt : j < n
    · obtain ⟨b', off, rfl, hb, hit⟩ := HC.out j hlt
      obtain ⟨d0, d1, d2, d3⟩ := hit.below hb HB.out
      clear hit
      have HFJ := hideG (HF.out j HA.out hlt)
      obtain ⟨z0, z1, z2, z3, hz⟩ : ∃ z0 z1 z2 z3, Frm.it l j = (z0, z1, z2, z3) := ⟨_, _, _, _, rfl⟩
      rw [hz] at d0 d1 d2 d3 HFJ
      have HZ := hideG hz
      clear hz
      obtain ⟨W1, hW1⟩ : ∃ W1, W1 = wr.alloc (.cells #[.int .i64 z0, .int .i64 z1, .int .i64 z2, .int .i64 z3] 147) := ⟨_, rfl⟩
      have x0 : W1.cell? ⟨wr.heap.size, 0, none⟩ = some (.int .i64 z0) := by rw [hW1]; simp
      have x1 : W1.cell? ⟨wr.heap.size, 1, none⟩ = some (.int .i64 z1) := by rw [hW1]; simp
      have x2 : W1.cell? ⟨wr.heap.size, 2, none⟩ = some (.int .i64 z2) := by rw [hW1]; simp
      have x3 : W1.cell? ⟨wr.heap.size, 3, none⟩ = some (.int .i64 z3) := by rw [hW1]; simp
      have HR1 := hideG (show W1.heap[w.heap.size]? = some (.cells #[.int .i64 0, .int .i64 0, .int .i64 0, .int .i64 0] 147 (0, 0)) by
        rw [hW1, ((Below.refl wr.heap.size wr).alloc (Nat.le_refl _) _).block _ hsz]; exact HR.out)
      have HB1 := hideG (show Below w.heap.size w W1 by rw [hW1]; exact HB.out.alloc (by omega) _)
      have y0 : W1.cell? ⟨w.heap.size, 0, none⟩ = some (.int .i64 0) := by rw [cell_of_row W1 w.heap.size 0 _ _ (0, 0) HR1.out]; rfl
      have y1 : W1.cell? ⟨w.heap.size, 1, none⟩ = some (.int .i64 0) := by rw [cell_of_row W1 w.heap.size 1 _ _ (0, 0) HR1.out]; rfl
      have y2 : W1.cell? ⟨w.heap.size, 2, none⟩ = some (.int .i64 0) := by rw [cell_of_row W1 w.heap.size 2 _ _ (0, 0) HR1.out]; rfl
      have y3 : W1.cell? ⟨w.heap.size, 3, none⟩ = some (.int .i64 0) := by rw [cell_of_row W1 w.heap.size 3 _ _ (0, 0) HR1.out]; rfl
      have yf := fun i => frozen_of_row W1 w.heap.size i _ _ HR1.out
      have HW1 := hideG hW1
      clear hW1
      go_upto_region 4 with fail
      all_goals (try rw [← HW1.out])
      by_cases q : z0 = u
      · have q' : (z0 == u) = true := by simpa using q
        have HI := hideG (HFJ.out q)
        have HQ := hideG q
        clear q
        have E1 := hideG (show (((((W1.setCell ⟨w.heap.size, 0, none⟩ (.int .i64 z0)).setCell ⟨w.heap.size, 1, none⟩ (.int .i64 z1)).setCell ⟨w.heap.size, 2, none⟩ (.int .i64 z2)).setCell ⟨w.heap.size, 3, none⟩ (.int .i64 z3)).heap[w.heap.size]? = some (.cells #[.int .i64 z0, .int .i64 z1, .int .i64 z2, .int .i64 z3] 147 (0, 0))) from
          heap_setCell_same _ _ 3 #[.int .i64 z0, .int .i64 z1, .int .i64 z2, .int .i64 0] _ _ (heap_setCell_same _ _ 2 #[.int .i64 z0, .int .i64 z1, .int .i64 0, .int .i64 0] _ _ (heap_setCell_same _ _ 1 #[.int .i64 z0, .int .i64 0, .int .i64 0, .int .i64 0] _ _ (heap_setCell_same _ _ 0 _ _ _ HR1.out))))
        have E2 := hideG (show Below w.heap.size w ((((W1.setCell ⟨w.heap.size, 0, none⟩ (.int .i64 z0)).setCell ⟨w.heap.size, 1, none⟩ (.int .i64 z1)).setCell ⟨w.heap.size, 2, none⟩ (.int .i64 z2)).setCell ⟨w.heap.size, 3, none⟩ (.int .i64 z3)) from
          (((HB1.out.setCell (p := ⟨w.heap.size, 0, none⟩) (Nat.le_refl _) _).setCell (p := ⟨w.heap.size, 1, none⟩) (Nat.le_refl _) _).setCell (p := ⟨w.heap.size, 2, none⟩) (Nat.le_refl _) _).setCell (p := ⟨w.heap.size, 3, none⟩) (Nat.le_refl _) _)
        go_wp2_with fail
        refine bodyPost_ret (results_cell_row rfl _ _ w.heap.size 147 #[.int .i64 z0, .int .i64 z1, .int .i64 z2, .int .i64 z3] (0, 0) _ rfl E1.out Tryz.underlying147 rfl size_itm) rfl ?_
        exact ⟨by rw [HI.out], E2.out⟩
      · have q' : (z0 == u) = false := by simpa using q
        have HQ := hideG q
        clear q
        go_wp2_with fail
        go_roundw
        case rel =>
          refine ⟨j + 1, by omega, by go_num, fun i hi => ?_, HR1.out, HB1.out⟩
          by_cases e : i = j
          · subst e; rw [HZ.out]; exact HQ.out
          · exact HA.out i (by omega)
        case measure => simp [intOf]; omega
    · have ej : j = n := by omega
      subst ej
      have HNN := hideG (HN.out HA.out)
      have y0 : wr.cell? ⟨w.heap.size, 0, none⟩ = some (.int .i64 0) := by rw [cell_of_row wr w.heap.size 0 _ _ (0, 0) HR.out]; rfl
      have y1 : wr.cell? ⟨w.heap.size, 1, none⟩ = some (.int .i64 0) := by rw [cell_of_row wr w.heap.size 1 _ _ (0, 0) HR.out]; rfl
      have y2 : wr.cell? ⟨w.heap.size, 2, none⟩ = some (.int .i64 0) := by rw [cell_of_row wr w.heap.size 2 _ _ (0, 0) HR.out]; rfl
      have y3 : wr.cell? ⟨w.heap.size, 3, none⟩ = some (.int .i64 0) := by rw [cell_of_row wr w.heap.size 3 _ _ (0, 0) HR.out]; rfl
      have yf := fun i => frozen_of_row wr w.heap.size i _ _ HR.out
      have E1 := hideG (show (((((wr.setCell ⟨w.heap.size, 0, none⟩ (.int .i64 0)).setCell ⟨w.heap.size, 1, none⟩ (.int .i64 0)).setCell ⟨w.heap.size, 2, none⟩ (.int .i64 0)).setCell ⟨w.heap.size, 3, none⟩ (.int .i64 0)).heap[w.heap.size]? = some (.cells #[.int .i64 0, .int .i64 0, .int .i64 0, .int .i64 0] 147 (0, 0))) from
          heap_setCell_same _ _ 3 #[.int .i64 0, .int .i64 0, .int .i64 0, .int .i64 0] _ _ (heap_setCell_same _ _ 2 #[.int .i64 0, .int .i64 0, .int .i64 0, .int .i64 0] _ _ (heap_setCell_same _ _ 1 #[.int .i64 0, .int .i64 0, .int .i64 0, .int .i64 0] _ _ (heap_setCell_same _ _ 0 _ _ _ HR.out))))
      have E2 := hideG (show Below w.heap.size w ((((wr.setCell ⟨w.heap.size, 0, none⟩ (.int .i64 0)).setCell ⟨w.heap.size, 1, none⟩ (.int .i64 0)).setCell ⟨w.heap.size, 2, none⟩ (.int .i64 0)).setCell ⟨w.heap.size, 3, none⟩ (.int .i64 0)) from
          (((HB.out.setCell (p := ⟨w.heap.size, 0, none⟩) (Nat.le_refl _) _).setCell (p := ⟨w.heap.size, 1, none⟩) (Nat.le_refl _) _).setCell (p := ⟨w.heap.size, 2, none⟩) (Nat.le_refl _) _).setCell (p := ⟨w.heap.size, 3, none⟩) (Nat.le_refl _) _)
      go_wp2_with fail
      refine bodyPost_ret (results_cell_row rfl _ _ w.heap.size 147 #[.int .i64 0, .int .i64 0, .int .i64 0, .int .i64 0] (0, 0) _ rfl E1.out Tryz.underlying147 rfl size_itm) rfl ?_
      exact ⟨by rw [HNN.out], E2.out⟩
end Go.Proofs.YtchideljndagjabGreat
namespace Go.Proofs.YtchideljndagjabGreat
open Go.ChangeShapes Go.WideShapes Go.ChangeAt Go.RowKit
set_option linter.unusedVariables false
theorem all_first {l : List Frm.It} {p : Frm.It → Bool} : (∀ j, j < l.length → p (Frm.it l j) = true) → l.all p = true := fun h => List.all_eq_true.2 fun x hx => by
  obtain ⟨i, hi, rfl⟩ := List.getElem_of_mem hx
  rw [← Cli.it_get l i hi]; exact h i hi
theorem all_fails {l : List Frm.It} {p : Frm.It → Bool} (j : Nat) (hj : j < l.length) (h : p (Frm.it l j) = false) : l.all p = false := List.all_eq_false.2 ⟨Frm.it l j, by rw [Cli.it_get l j hj]; exact List.getElem_mem hj, by rw [h]; exact Bool.false_ne_true⟩
set_option maxHeartbeats 1000000 in
set_option maxRecDepth 100000 in
theorem haveIds_calls (v : Value) (l : List Frm.It) (f : Nat → Bool) (w : World) (hl : ItemsAt w v l) (hr : Frm.riseB l = true) :
    Calls Tryz.prog 290 #[v, memV f] w fun e w' => e = .returned (.bool (Srv.haveIds l f)) ∧ Below w.heap.size w w' := by
  obtain ⟨a, cap, rfl, l2, l3, _, hcl⟩ := items_view hl
  have HC := hideG hcl
  have HI := hideG (fun j (hj : j < l.length) => (Cli.rise_pair hr).2 (Frm.it l j) (by rw [Cli.it_get l j hj]; exact List.getElem_mem hj))
  have HSZ := hideG (sizeOf_calls f)
  have HY := hideG (fun h => all_first (l := l) (p := fun x => Num.clB x.1 && f x.1.toNat) h)
  have HNO := hideG (fun j hj h => all_fails (l := l) (p := fun x => Num.clB x.1 && f x.1.toNat) j hj h)
  clear hl hr hcl
  unfold memV at HSZ ⊢
  have LX := hideG (bl13_length f)
  have HB0 := hideG (bools_new w 101 f)
  have BB := hideG (show Below w.heap.size w (w.alloc (.cells (bl13 f).toArray 101)) from (Below.refl _ _).alloc (Nat.le_refl _) _)
  have HRG := hideG (fun (W : World) (h : BoolsAt W w.heap.size 101 f) => h.range)
  unfold Srv.haveIds
  obtain ⟨n, hn⟩ : ∃ n, n = l.length := ⟨_, rfl⟩
  rw [← hn] at l2 HC HI HY HNO ⊢
  obtain ⟨m, hm⟩ : ∃ m, m = (Srv.lst f).length := ⟨_, rfl⟩
  rw [← hm] at HSZ ⊢
  have hm13 : m ≤ 13 := by rw [hm]; exact Srv.lstN_le f 13
  clear hn hm
  obtain ⟨X, hX⟩ : ∃ X, X = bl13 f := ⟨_, rfl⟩
  rw [← hX] at HB0 BB HSZ HRG LX ⊢
  clear hX
  go_enter Tryz.func290, Tryz.ntmps290
  go_wp2_with fail
  go_loopw [9] (fun i wr => ∃ j : Nat, j ≤ n ∧ i = .int .i64 j ∧ (∀ k, k < j → (Num.clB (Frm.it l k).1 && f (Frm.it l k).1.toNat) = true) ∧ BoolsAt wr w.heap.size 101 f ∧ Below w.heap.size w wr) (fun i _ => n - (intOf i).toNat)
  case atStart => exact ⟨0, Nat.zero_le _, rfl, fun i h => absurd h (by omega), HB0.out, BB.out⟩
  case round =>
    obtain ⟨j, hj, rfl, hall, hbo, hbel⟩ := hrel
    have HA := hideG hall
    have HBO := hideG hbo
    have HB := hideG hbel
    have hsz := hbo.lt
    clear hall hbo hbel
    by_cases hlt : j < n
    · obtain ⟨b', off, rfl, hb, hit⟩ := HC.out j hlt
      obtain ⟨d0, d1, d2, d3⟩ := hit.below hb HB.out
      clear hit
      have hub := HI.out j hlt
      have HNJ := hideG (HNO.out j hlt)
      obtain ⟨u, hu⟩ : ∃ u : Nat, (Frm.it l j).1 = (u : Int) := ⟨(Frm.it l j).1.toNat, by omega⟩
      rw [hu] at hub d0
      obtain ⟨ub1, ub2⟩ := hub
      have u13 : u < 13 := by omega
      have u13' : (u : Int) < 13 := by omega
      have HCL := hideG (Num.clB_yes ub1 ub2)
      have HPJ := hideG (show (Num.clB (Frm.it l j).1 && f (Frm.it l j).1.toNat) = f u by rw [hu, Num.clB_yes ub1 ub2, Int.toNat_natCast]; rfl)
      clear hu
      generalize (Frm.it l j).2.1 = xa at *
      generalize (Frm.it l j).2.2.1 = xb at *
      generalize (Frm.it l j).2.2.2 = xc at *
      obtain ⟨W1, hW1⟩ : ∃ W1, W1 = wr.alloc (.cells #[.int .i64 (u : Int), .int .i64 xa, .int .i64 xb, .int .i64 xc] 147) := ⟨_, rfl⟩
      have x0 : W1.cell? ⟨wr.heap.size, 0, none⟩ = some (.int .i64 (u : Int)) := by rw [hW1]; simp
      have HBO1 := hideG (show BoolsAt W1 w.heap.size 101 f by rw [hW1]; exact HBO.out.below ((Below.refl wr.heap.size wr).alloc (Nat.le_refl _) _) hsz)
      have HB1 := hideG (show Below w.heap.size w W1 by rw [hW1]; exact HB.out.alloc (by omega) _)
      have HW1 := hideG hW1
      clear hW1
      go_upto_region 4 with fail
      rw [← HW1.out]
      have z0 := HBO1.out.cell u u13
      cases q : f u
      · rw [q] at z0 HPJ
        clear q
        go_wp2_with fail
        refine (client_calls _ _).mono ?_
        rintro e W2 ⟨rfl, rfl⟩
        rw [HCL.out]
        go_wp2_with fail
        go_ret
        exact ⟨ret_bool (by rw [HNJ.out HPJ.out]; rfl), HB1.out⟩
      · rw [q] at z0 HPJ
        clear q
        go_wp2_with fail
        refine (client_calls _ _).mono ?_
        rintro e W2 ⟨rfl, rfl⟩
        rw [HCL.out]
        go_wp2_with fail
        go_roundw
        case rel =>
          refine ⟨j + 1, by omega, by go_num, fun k hk => ?_, HBO1.out, HB1.out⟩
          by_cases e : k = j
          · subst e; exact HPJ.out
          · exact HA.out k (by omega)
        case measure => simp [intOf]; omega
    · have ej : j = n := by omega
      subst ej
      have HYY := hideG (HY.out HA.out)
      have RG := hideG (HRG.out wr HBO.out)
      go_wp2_with (refine wpList_load_mid rfl 101 _ rfl w.heap.size 0 rfl X _ RG.out Tryz.underlying101 rfl ?z ?_)
      case z => rw [size_mem, LX.out]
      go_wp2_with fail
      refine (HSZ.out wr).mono ?_
      rintro e W2 ⟨rfl, hb2⟩
      have B2 := hideG (HB.out.trans (hb2.mono HB.out.size))
      clear hb2
      go_wp2_with fail
      go_ret
      exact ⟨ret_bool (by
        rw [HYY.out, Bool.true_and]
        by_cases e : j = m
        · subst e; simp
        · rw [decide_eq_false e]; simp; omega), B2.out⟩
set_option maxHeartbeats 1000000 in
set_option maxRecDepth 100000 in
theorem tellOf_calls (v : Value) (l : List Frm.It) (f : Nat → Bool) (w : World) (hl : ItemsAt w v l) (hr : Frm.riseB l = true) :
    Calls Tryz.prog 291 #[v, memV f] w fun e w' => e = .returned (.bool (Srv.tellOf l f)) ∧ Below w.heap.size w w' := by
  obtain ⟨a, cap, rfl, l2, l3, _, hcl⟩ := items_view hl
  have HC := hideG hcl
  have HI := hideG (fun j (hj : j < l.length) => (Cli.rise_pair hr).2 (Frm.it l j) (by rw [Cli.it_get l j hj]; exact List.getElem_mem hj))
  have HY := hideG (fun h => all_first (l := l) (p := fun x => Num.clB x.1 && (f x.1.toNat == decide (x.2.1 = 1))) h)
  have HNO := hideG (fun j hj h => all_fails (l := l) (p := fun x => Num.clB x.1 && (f x.1.toNat == decide (x.2.1 = 1))) j hj h)
  clear hl hr hcl
  unfold memV
  have HB0 := hideG (bools_new w 101 f)
  have BB := hideG (show Below w.heap.size w (w.alloc (.cells (bl13 f).toArray 101)) from (Below.refl _ _).alloc (Nat.le_refl _) _)
  unfold Srv.tellOf
  obtain ⟨n, hn⟩ : ∃ n, n = l.length := ⟨_, rfl⟩
  rw [← hn] at l2 HC HI HY HNO ⊢
  clear hn
  obtain ⟨X, hX⟩ : ∃ X, X = bl13 f := ⟨_, rfl⟩
  rw [← hX] at HB0 BB ⊢
  clear hX
  go_enter Tryz.func291, Tryz.ntmps291
  go_wp2_with fail
  go_loopw [9] (fun i wr => ∃ j : Nat, j ≤ n ∧ i = .int .i64 j ∧ (∀ k, k < j → (Num.clB (Frm.it l k).1 && (f (Frm.it l k).1.toNat == decide ((Frm.it l k).2.1 = 1))) = true) ∧ BoolsAt wr w.heap.size 101 f ∧ Below w.heap.size w wr) (fun i _ => n - (intOf i).toNat)
  case atStart => exact ⟨0, Nat.zero_le _, rfl, fun i h => absurd h (by omega), HB0.out, BB.out⟩
  case round =>
    obtain ⟨j, hj, rfl, hall, hbo, hbel⟩ := hrel
    have HA := hideG hall
    have HBO := hideG hbo
    have HB := hideG hbel
    have hsz := hbo.lt
    clear hall hbo hbel
    by_cases hlt : j < n
    · obtain ⟨b', off, rfl, hb, hit⟩ := HC.out j hlt
      obtain ⟨d0, d1, d2, d3⟩ := hit.below hb HB.out
      clear hit
      have hub := HI.out j hlt
      have HNJ := hideG (HNO.out j hlt)
      obtain ⟨u, hu⟩ : ∃ u : Nat, (Frm.it l j).1 = (u : Int) := ⟨(Frm.it l j).1.toNat, by omega⟩
      rw [hu] at hub d0
      obtain ⟨ub1, ub2⟩ := hub
      have u13 : u < 13 := by omega
      have u13' : (u : Int) < 13 := by omega
      have HCL := hideG (Num.clB_yes ub1 ub2)
      have HPJ := hideG (show (Num.clB (Frm.it l j).1 && (f (Frm.it l j).1.toNat == decide ((Frm.it l j).2.1 = 1))) = (f u == decide ((Frm.it l j).2.1 = 1)) by rw [hu, Num.clB_yes ub1 ub2, Int.toNat_natCast]; rfl)
      clear hu
      obtain ⟨xa, hxa⟩ : ∃ xa, (Frm.it l j).2.1 = xa := ⟨_, rfl⟩
      rw [hxa] at d1
      have HXA := hideG hxa
      clear hxa
      generalize (Frm.it l j).2.2.1 = xb at *
      generalize (Frm.it l j).2.2.2 = xc at *
      obtain ⟨W1, hW1⟩ : ∃ W1, W1 = wr.alloc (.cells #[.int .i64 (u : Int), .int .i64 xa, .int .i64 xb, .int .i64 xc] 147) := ⟨_, rfl⟩
      have x0 : W1.cell? ⟨wr.heap.size, 0, none⟩ = some (.int .i64 (u : Int)) := by rw [hW1]; simp
      have x1 : W1.cell? ⟨wr.heap.size, 1, none⟩ = some (.int .i64 xa) := by rw [hW1]; simp
      have HBO1 := hideG (show BoolsAt W1 w.heap.size 101 f by rw [hW1]; exact HBO.out.below ((Below.refl wr.heap.size wr).alloc (Nat.le_refl _) _) hsz)
      have HB1 := hideG (show Below w.heap.size w W1 by rw [hW1]; exact HB.out.alloc (by omega) _)
      have sW : w.heap.size < W1.heap.size := HBO1.out.lt
      have SW := hideG sW
      clear sW
      have HW1 := hideG hW1
      clear hW1
      go_upto_region 4 with fail
      rw [← HW1.out]
      have z0 := HBO1.out.cell u u13
      have HQC := hideG (show ∀ W : World, Calls Tryz.prog 201 #[.int .i64 (u : Int)] W fun e w' => e = .returned (.bool true) ∧ w' = W from fun W => by rw [← HCL.out]; exact client_calls _ _)
      have HD := hideG (fun m => HB1.out.trans ((below_drewN W1 m).mono HB1.out.size))
      have HDB := hideG (fun m => HBO1.out.below (below_drewN W1 m) SW.out)
      by_cases c : xa = 1
      · have c' : (xa == 1) = true := by simpa using c
        have HPK := hideG (show (Num.clB (Frm.it l j).1 && (f (Frm.it l j).1.toNat == decide ((Frm.it l j).2.1 = 1))) = f u by rw [HPJ.out, HXA.out, decide_eq_true c]; cases f u <;> rfl)
        have HCC := hideG c
        clear c
        cases q : f u
        · rw [q] at z0 HPK
          clear q
          go_quiet ((go_at_call 201; exact Calls.quiet_of_same (HQC.out _)))
          go_wp2_with fail
          go_ret
          exact ⟨ret_bool (by rw [HNJ.out HPK.out]), HD.out _⟩
        · rw [q] at z0 HPK
          clear q
          go_quiet ((go_at_call 201; exact Calls.quiet_of_same (HQC.out _)))
          go_wp2_with fail
          go_roundw
          case rel =>
            refine ⟨j + 1, by omega, by go_num, fun k hk => ?_, HDB.out _, HD.out _⟩
            by_cases e : k = j
            · subst e; exact HPK.out
            · exact HA.out k (by omega)
          case measure => simp [intOf]; omega
      · have c' : (xa == 1) = false := by simpa using c
        have HPK := hideG (show (Num.clB (Frm.it l j).1 && (f (Frm.it l j).1.toNat == decide ((Frm.it l j).2.1 = 1))) = !f u by rw [HPJ.out, HXA.out, decide_eq_false c]; cases f u <;> rfl)
        have HCC := hideG c
        clear c
        cases q : f u
        · rw [q] at z0 HPK
          clear q
          go_quiet ((go_at_call 201; exact Calls.quiet_of_same (HQC.out _)))
          go_wp2_with fail
          go_roundw
          case rel =>
            refine ⟨j + 1, by omega, by go_num, fun k hk => ?_, HDB.out _, HD.out _⟩
            by_cases e : k = j
            · subst e; exact HPK.out
            · exact HA.out k (by omega)
          case measure => simp [intOf]; omega
        · rw [q] at z0 HPK
          clear q
          go_quiet ((go_at_call 201; exact Calls.quiet_of_same (HQC.out _)))
          go_wp2_with fail
          go_ret
          exact ⟨ret_bool (by rw [HNJ.out HPK.out]), HD.out _⟩
    · have ej : j = n := by omega
      subst ej
      have HYY := hideG (HY.out HA.out)
      go_wp2_with fail
      go_ret
      exact ⟨ret_bool (by rw [HYY.out]), HB.out⟩
end Go.Proofs.YtchideljndagjabGreat
namespace Go.Proofs.YtchideljndagjabGreat
open Go.ChangeShapes Go.WideShapes Go.ChangeAt Go.RowKit
set_option linter.unusedVariables false
theorem isPending_calls (b : Nat) (S : SS) (w : World) (h : SSAt w b S) :
    Calls Tryz.prog 194 #[.pointer (some ⟨b, 0, none⟩)] w fun e w' => e = .returned (.bool (decide (S.st = 0))) ∧ w' = w := by
  have c := h.st
  clear h
  generalize S.st = st at *
  by_cases q : st = 0
  · have HD := hideG (decide_eq_true q)
    subst q
    go_enter Tryz.func194, Tryz.ntmps194
    go_wp2_with fail
    go_ret
    exact ⟨ret_bool (by simp), rfl⟩
  · have HD := hideG (decide_eq_false q)
    have q' : (st == 0) = false := by simpa using q
    go_enter Tryz.func194, Tryz.ntmps194
    go_wp2_with fail
    go_ret
    exact ⟨ret_bool (by rw [HD.out]), rfl⟩
theorem wantedKind_calls (rd : Nat) (hr : rd < 4) (w : World) :
    Calls Tryz.prog 256 #[.int .i64 (rd : Int)] w fun e w' => e = .returned (.int .i64 (2 * (rd : Int) + 1)) ∧ w' = w := by
  have hd : rd = 0 ∨ rd = 1 ∨ rd = 2 ∨ rd = 3 := by omega
  rcases hd with rfl | rfl | rfl | rfl
  · go_enter Tryz.func256, Tryz.ntmps256
    go_wp2_with fail
    go_ret
    exact ⟨rfl, rfl⟩
  · go_enter Tryz.func256, Tryz.ntmps256
    go_wp2_with fail
    go_ret
    exact ⟨rfl, rfl⟩
  · go_enter Tryz.func256, Tryz.ntmps256
    go_wp2_with fail
    go_ret
    exact ⟨rfl, rfl⟩
  · go_enter Tryz.func256, Tryz.ntmps256
    go_wp2_with fail
    go_ret
    exact ⟨rfl, rfl⟩
def fitB (S : SS) (u : Nat) (l : List Frm.It) : Bool :=
  if S.rd = 1 then Srv.haveIds l (updB S.sn u false) else if S.rd = 2 then decide ((l.length : Int) = S.m) else if S.rd = 3 then Srv.haveIds l S.sh && Srv.tellOf l S.sn else true
theorem SSAt.allsn {w : World} {b : Nat} {S : SS} (h : SSAt w b S) : w.rangeAt b 6 (bl13 S.sn) := h.rsn.range
theorem SSAt.allct {w : World} {b : Nat} {S : SS} (h : SSAt w b S) : w.rangeAt b 19 (bl13 S.ct) := h.rct.range
theorem SSAt.allsh {w : World} {b : Nat} {S : SS} (h : SSAt w b S) : w.rangeAt b 58 (bl13 S.sh) := h.rsh.range
set_option maxHeartbeats 2000000 in
set_option maxRecDepth 100000 in
theorem itemsFit_calls (b : Nat) (S : SS) (k : Int) (u : Nat) (v : Value) (l : List Frm.It) (w : World) (h : SSAt w b S) (hl : ItemsAt w v l) (hr : Frm.riseB l = true) (hu : u < 13) (rd : Nat) (hrd : S.rd = (rd : Int)) (hr4 : rd < 4) :
    Calls Tryz.prog 257 #[.pointer (some ⟨b, 0, none⟩), .agg #[.int .i64 k, .int .i64 (u : Int), v]] w fun e w' => e = .returned (.bool (fitB S u l)) ∧ Below w.heap.size w w' := by
  obtain ⟨W, hW⟩ : ∃ W, W = w.alloc (.cells #[.int .i64 k, .int .i64 (u : Int), v] 65) := ⟨_, rfl⟩
  have B0 := hideG (show Below w.heap.size w W by rw [hW]; exact (Below.refl _ _).alloc (Nat.le_refl _) _)
  have x1 : W.cell? ⟨w.heap.size, 1, none⟩ = some (.int .i64 (u : Int)) := by rw [hW]; simp
  have x2 : W.cell? ⟨w.heap.size, 2, none⟩ = some v := by rw [hW]; simp
  have HS := hideG (h.below B0.out)
  have HL := hideG (hl.below B0.out)
  have hsz : w.heap.size < W.heap.size := by rw [hW]; simp
  have hlt := h.lt
  have c5 : W.cell? ⟨b, 5, none⟩ = some (.int .i64 (rd : Int)) := by rw [← hrd]; exact HS.out.rd
  have hu' : (u : Int) < 13 := by omega
  have HW := hideG hW
  clear hW h hl
  have hd : rd = 1 ∨ rd = 2 ∨ rd = 3 ∨ rd = 0 := by omega
  rcases hd with rfl | rfl | rfl | rfl
  · have HF := hideG (show fitB S u l = Srv.haveIds l (updB S.sn u false) by unfold fitB; rw [if_pos (by omega)])
    have RG := hideG HS.out.allsn
    have LX := hideG (bl13_length S.sn)
    have HON := hideG (all_oneCell_toArray (bl13_one S.sn))
    have HH := hideG (fun (W' : World) (hb : Below W.heap.size W W') => haveIds_calls v l (updB S.sn u false) W' (HL.out.below hb) hr)
    obtain ⟨W1, hW1⟩ : ∃ W1, W1 = W.alloc (.cells #[.bool false, .bool false, .bool false, .bool false, .bool false, .bool false, .bool false, .bool false, .bool false, .bool false, .bool false, .bool false, .bool false] 101) := ⟨_, rfl⟩
    have B1 := hideG (show Below W.heap.size W W1 by rw [hW1]; exact (Below.refl _ _).alloc (Nat.le_refl _) _)
    have BO1 := hideG (show BoolsAt W1 W.heap.size 101 (fun _ => false) by rw [hW1]; exact bools_new W _ (fun _ => false))
    have HTH := hideG (show W1.there W.heap.size 0 (bl13 S.sn).toArray.size from fun i hi => by
      rw [List.size_toArray, bl13_length] at hi
      exact ⟨by rw [Nat.zero_add, BO1.out.cell i hi]; rfl, by rw [Nat.zero_add]; exact BO1.out.froz i⟩)
    have BO2 := hideG (show BoolsAt (W1.setCells W.heap.size 0 (bl13 S.sn)) W.heap.size 101 S.sn by
      have := heap_setCells W.heap.size 101 (bl13 S.sn) [] (bl13 fun _ => false) [] W1 rfl (by rw [List.append_nil]; exact BO1.out)
      rw [List.append_nil] at this
      exact this)
    have B2 := hideG (show Below W.heap.size W (W1.setCells W.heap.size 0 (bl13 S.sn)) from below_setCells (Nat.le_refl _) _ _ _ B1.out)
    have HW1 := hideG hW1
    clear hW1
    have sn := S.sn
    obtain ⟨CS, hCS⟩ : ∃ CS, CS = bl13 S.sn := ⟨_, rfl⟩
    rw [← hCS] at RG LX HON HTH BO2 B2
    clear hCS
    have HSL := hideG (show (Tryz.prog.info? 101).map (·.size) = some CS.length by rw [size_mem, LX.out])
    have HSZ := hideG (show (Tryz.prog.info? 101).map (·.size) = some CS.toArray.size by rw [size_mem, List.size_toArray, LX.out])
    obtain ⟨W2, hW2⟩ : ∃ W2, W2 = W1.setCells W.heap.size 0 CS := ⟨_, rfl⟩
    rw [← hW2] at BO2 B2
    have HW2 := hideG hW2
    clear hW2
    have y1 : W2.cell? ⟨w.heap.size, 1, none⟩ = some (.int .i64 (u : Int)) := (B2.out.cell (p := ⟨w.heap.size, 1, none⟩) hsz).trans x1
    have y2 : W2.cell? ⟨w.heap.size, 2, none⟩ = some v := (B2.out.cell (p := ⟨w.heap.size, 2, none⟩) hsz).trans x2
    have z0 := BO2.out.cell u hu
    have zf := BO2.out.froz u
    have BO3 := hideG (BO2.out.set u hu false)
    have B3 := hideG (B2.out.setCell (p := ⟨W.heap.size, u, none⟩) (Nat.le_refl _) (.bool false))
    have RG3 := hideG BO3.out.range
    have L3 := hideG (bl13_length (updB S.sn u false))
    have y2' : (W2.setCell ⟨W.heap.size, u, none⟩ (.bool false)).cell? ⟨w.heap.size, 2, none⟩ = some v := (B3.out.cell (p := ⟨w.heap.size, 2, none⟩) hsz).trans x2
    unfold memV at HH
    obtain ⟨CU, hCU⟩ : ∃ CU, CU = bl13 (updB S.sn u false) := ⟨_, rfl⟩
    rw [← hCU] at RG3 L3 HH
    clear hCU
    have HSU := hideG (show (Tryz.prog.info? 101).map (·.size) = some CU.length by rw [size_mem, L3.out])
    go_enter Tryz.func257, Tryz.ntmps257
    go_upto_region 1 with fail
    rw [← HW.out]
    go_upto_region 4 with (first | refine wpList_load_mid rfl 101 _ rfl b 6 rfl CS _ RG.out Tryz.underlying101 rfl HSL.out ?_ | (rw [← HW1.out]; refine wpList_store_mid rfl 101 _ _ rfl W.heap.size 0 CS.toArray rfl rfl HTH.out HSZ.out HON.out ?_))
    rw [← HW2.out]
    obtain ⟨W3, hW3⟩ : ∃ W3, W3 = W2.setCell ⟨W.heap.size, u, none⟩ (.bool false) := ⟨_, rfl⟩
    rw [← hW3] at B3 RG3 y2'
    have HW3 := hideG hW3
    clear hW3
    go_upto_region 5 with fail
    rw [← HW3.out]
    go_wp2_with (refine wpList_load_mid rfl 101 _ rfl W.heap.size 0 rfl CU _ RG3.out Tryz.underlying101 rfl HSU.out ?_)
    refine (HH.out W3 B3.out).mono ?_
    rintro e W4 ⟨rfl, hb4⟩
    have B4 := hideG ((B0.out.trans (B3.out.mono B0.out.size)).trans (hb4.mono (by have := B0.out.size; have := B3.out.size; omega)))
    clear hb4
    go_wp2_with fail
    go_ret
    exact ⟨ret_bool HF.out.symm, B4.out⟩
  · have HF := hideG (show fitB S u l = decide ((l.length : Int) = S.m) by unfold fitB; rw [if_neg (by omega), if_pos (by omega)])
    have c2 := HS.out.m
    obtain ⟨a, cap, rfl, l2, l3, _, _⟩ := items_view HL.out
    generalize S.m = M at *
    generalize l.length = n at *
    have HD := hideG (fun m => B0.out.trans ((below_drewN W m).mono B0.out.size))
    by_cases q : (n : Int) = M
    · have q' : ((n : Int) == M) = true := by simpa using q
      have HF2 := hideG (show fitB S u l = true by rw [HF.out, decide_eq_true q])
      clear q
      go_enter Tryz.func257, Tryz.ntmps257
      go_upto_region 1 with fail
      rw [← HW.out]
      go_wp2_with fail
      go_quiet (fail)
      go_wp2_with fail
      go_ret
      exact ⟨ret_bool (by rw [HF2.out]), HD.out _⟩
    · have q' : ((n : Int) == M) = false := by simpa using q
      have HF2 := hideG (show fitB S u l = false by rw [HF.out, decide_eq_false q])
      clear q
      go_enter Tryz.func257, Tryz.ntmps257
      go_upto_region 1 with fail
      rw [← HW.out]
      go_wp2_with fail
      go_quiet (fail)
      go_wp2_with fail
      go_ret
      exact ⟨ret_bool (by rw [HF2.out]), HD.out _⟩
  · have HF := hideG (show fitB S u l = (Srv.haveIds l S.sh && Srv.tellOf l S.sn) by unfold fitB; rw [if_neg (by omega), if_neg (by omega), if_pos (by omega)])
    have H1 := hideG (fun (W' : World) (hb : Below W.heap.size W W') => haveIds_calls v l S.sh W' (HL.out.below hb) hr)
    have H2 := hideG (fun (W' : World) (hb : Below W.heap.size W W') => tellOf_calls v l S.sn W' (HL.out.below hb) hr)
    unfold memV at H1 H2
    have s0 := HS.out.csh 0 (by omega)
    have s1 := HS.out.csh 1 (by omega)
    have s2 := HS.out.csh 2 (by omega)
    have s3 := HS.out.csh 3 (by omega)
    have s4 := HS.out.csh 4 (by omega)
    have s5 := HS.out.csh 5 (by omega)
    have s6 := HS.out.csh 6 (by omega)
    have s7 := HS.out.csh 7 (by omega)
    have s8 := HS.out.csh 8 (by omega)
    have s9 := HS.out.csh 9 (by omega)
    have s10 := HS.out.csh 10 (by omega)
    have s11 := HS.out.csh 11 (by omega)
    have s12 := HS.out.csh 12 (by omega)
    have e0 := HS.out.csn 0 (by omega)
    have e1 := HS.out.csn 1 (by omega)
    have e2 := HS.out.csn 2 (by omega)
    have e3 := HS.out.csn 3 (by omega)
    have e4 := HS.out.csn 4 (by omega)
    have e5 := HS.out.csn 5 (by omega)
    have e6 := HS.out.csn 6 (by omega)
    have e7 := HS.out.csn 7 (by omega)
    have e8 := HS.out.csn 8 (by omega)
    have e9 := HS.out.csn 9 (by omega)
    have e10 := HS.out.csn 10 (by omega)
    have e11 := HS.out.csn 11 (by omega)
    have e12 := HS.out.csn 12 (by omega)
    have hbW : b < W.heap.size := by omega
    obtain ⟨p, hp⟩ : ∃ p, p = Srv.haveIds l S.sh := ⟨_, rfl⟩
    obtain ⟨p', hp'⟩ : ∃ p', p' = Srv.tellOf l S.sn := ⟨_, rfl⟩
    rw [← hp] at HF H1
    rw [← hp'] at HF H2
    clear hp hp'
    cases p
    · go_enter Tryz.func257, Tryz.ntmps257
      go_upto_region 1 with fail
      rw [← HW.out]
      go_upto_region 9 with fail
      refine wp_region_grow (by kernel_rfl) (by kernel_rfl) ?_
      intro I GG hI hG hGc hGn
      repeat (go_big_quiet_step (first | (go_at_call 290; exact call_grow hG hGn (H1.out _ (hG.out _))) | (go_at_call 291; exact call_grow hG hGn (H2.out _ (hG.out _)))))
      refine wpQuiet_nil ?_
      intro w5 hw'
      obtain ⟨i, hw''⟩ := hw'
      have hb5 := hG.out i
      rw [← hw''] at hb5
      have B5 := hideG (B0.out.trans (hb5.mono B0.out.size))
      clear hw'' hGc hGn hG i hI GG I e0 e1 e2 e3 e4 e5 e6 e7 e8 e9 e10 e11 e12 s0 s1 s2 s3 s4 s5 s6 s7 s8 s9 s10 s11 s12
      go_wp2_with fail
      go_ret
      exact ⟨ret_bool (by rw [HF.out]; rfl), B5.out⟩
    · go_enter Tryz.func257, Tryz.ntmps257
      go_upto_region 1 with fail
      rw [← HW.out]
      go_upto_region 9 with fail
      refine wp_region_grow (by kernel_rfl) (by kernel_rfl) ?_
      intro I GG hI hG hGc hGn
      repeat (go_big_quiet_step (first | (go_at_call 290; exact call_grow hG hGn (H1.out _ (hG.out _))) | (go_at_call 291; exact call_grow hG hGn (H2.out _ (hG.out _)))))
      refine wpQuiet_nil ?_
      intro w5 hw'
      obtain ⟨i, hw''⟩ := hw'
      have hb5 := hG.out i
      rw [← hw''] at hb5
      have B5 := hideG (B0.out.trans (hb5.mono B0.out.size))
      clear hw'' hGc hGn hG i hI GG I e0 e1 e2 e3 e4 e5 e6 e7 e8 e9 e10 e11 e12 s0 s1 s2 s3 s4 s5 s6 s7 s8 s9 s10 s11 s12
      go_wp2_with fail
      go_ret
      exact ⟨ret_bool (by rw [HF.out]; rfl), B5.out⟩
  · have HF := hideG (show fitB S u l = true by unfold fitB; rw [if_neg (by omega), if_neg (by omega), if_neg (by omega)])
    go_enter Tryz.func257, Tryz.ntmps257
    go_upto_region 1 with fail
    rw [← HW.out]
    go_wp2_with fail
    go_ret
    exact ⟨ret_bool (by rw [HF.out]), B0.out⟩
end Go.Proofs.YtchideljndagjabGreat
namespace Go.Proofs.YtchideljndagjabGreat
open Go.ChangeShapes Go.WideShapes Go.ChangeAt Go.RowKit
set_option linter.unusedVariables false
def cntB (S : SS) (rd : Nat) (k : Int) (u : Nat) (l : List Frm.It) : Bool := decide (S.st = 0) && (decide (k = 2 * (rd : Int) + 1) && (S.sn u && (!S.ct u && fitB S u l)))
set_option maxHeartbeats 2000000 in
set_option maxRecDepth 100000 in
theorem counts_calls (b : Nat) (S : SS) (k : Int) (u : Nat) (v : Value) (l : List Frm.It) (w : World) (h : SSAt w b S) (hl : ItemsAt w v l) (hok : Frm.okF k (u : Int) l = true) (rd : Nat) (hrd : S.rd = (rd : Int)) (hr4 : rd < 4) :
    Calls Tryz.prog 205 #[.pointer (some ⟨b, 0, none⟩), .agg #[.int .i64 k, .int .i64 (u : Int), v]] w fun e w' => e = .returned (.bool (cntB S rd k u l)) ∧ Below w.heap.size w w' := by
  have hr := (Frm.okF_parts hok).2.2.1
  have hu : u < 13 := by have := (Frm.okF_bounds hok).2.2.2.2.1; omega
  have hu' : (u : Int) < 13 := by omega
  have HCL := hideG (fun (e : k = 2 * (rd : Int) + 1) => (show Num.clB (u : Int) = true by
    have := (Frm.okF_parts hok).2.1
    unfold Frm.fromB at this
    rwa [if_pos (by omega)] at this))
  obtain ⟨W, hW⟩ : ∃ W, W = w.alloc (.cells #[.int .i64 k, .int .i64 (u : Int), v] 65) := ⟨_, rfl⟩
  have B0 := hideG (show Below w.heap.size w W by rw [hW]; exact (Below.refl _ _).alloc (Nat.le_refl _) _)
  have x0 : W.cell? ⟨w.heap.size, 0, none⟩ = some (.int .i64 k) := by rw [hW]; simp
  have x1 : W.cell? ⟨w.heap.size, 1, none⟩ = some (.int .i64 (u : Int)) := by rw [hW]; simp
  have x2 : W.cell? ⟨w.heap.size, 2, none⟩ = some v := by rw [hW]; simp
  have HS := hideG (h.below B0.out)
  have HL := hideG (hl.below B0.out)
  have hsz : w.heap.size < W.heap.size := by rw [hW]; simp
  have hlt := h.lt
  have c5 : W.cell? ⟨b, 5, none⟩ = some (.int .i64 (rd : Int)) := by rw [← hrd]; exact HS.out.rd
  have HW := hideG hW
  clear hW h hl hok
  have H1 := hideG (fun (m : Nat) => isPending_calls b S (W.drewN m) (HS.out.below (below_drewN W m)))
  have H2 := hideG (fun (m : Nat) => wantedKind_calls rd hr4 (W.drewN m))
  have H3 := hideG (fun (m : Nat) => client_calls (u : Int) (W.drewN m))
  have H4 := hideG (fun (W' : World) (hb : Below W.heap.size W W') => itemsFit_calls b S k u v l W' (HS.out.below hb) (HL.out.below hb) hr hu rd hrd hr4)
  have HD := hideG (fun m => B0.out.trans ((below_drewN W m).mono B0.out.size))
  unfold cntB
  by_cases q1 : S.st = 0
  rotate_left
  · rw [decide_eq_false q1] at H1 ⊢
    clear q1
    go_enter Tryz.func205, Tryz.ntmps205
    go_upto_region 1 with fail
    rw [← HW.out]
    go_quiet (first | (go_at_call 194; exact Calls.quiet_of_same (H1.out _)) | (go_at_call 256; exact Calls.quiet_of_same (H2.out _)) | (go_at_call 201; exact Calls.quiet_of_same (H3.out _)))
    go_wp2_with fail
    go_ret
    exact ⟨rfl, HD.out _⟩
  rw [decide_eq_true q1] at H1 ⊢
  clear q1
  rw [Bool.true_and]
  by_cases q2 : k = 2 * (rd : Int) + 1
  rotate_left
  · have q2' : (k != 2 * (rd : Int) + 1) = true := by simpa using q2
    rw [decide_eq_false q2]
    clear q2
    go_enter Tryz.func205, Tryz.ntmps205
    go_upto_region 1 with fail
    rw [← HW.out]
    go_quiet (first | (go_at_call 194; exact Calls.quiet_of_same (H1.out _)) | (go_at_call 256; exact Calls.quiet_of_same (H2.out _)) | (go_at_call 201; exact Calls.quiet_of_same (H3.out _)))
    go_wp2_with fail
    go_ret
    exact ⟨rfl, HD.out _⟩
  have HCC := hideG (HCL.out q2)
  rw [HCC.out] at H3
  have q2' : (k != 2 * (rd : Int) + 1) = false := by simpa using q2
  rw [decide_eq_true q2, Bool.true_and]
  have Q2 := hideG q2
  clear q2 HCL
  have n1 := HS.out.csn u hu
  have n2 := HS.out.cct u hu
  have HD2 := hideG (fun m m' => (HD.out m).trans ((below_drewN (W.drewN m) m').mono (HD.out m).size))
  cases q3 : S.sn u
  · rw [q3] at n1
    clear q3
    go_enter Tryz.func205, Tryz.ntmps205
    go_upto_region 1 with fail
    rw [← HW.out]
    go_quiet (first | (go_at_call 194; exact Calls.quiet_of_same (H1.out _)) | (go_at_call 256; exact Calls.quiet_of_same (H2.out _)) | (go_at_call 201; exact Calls.quiet_of_same (H3.out _)))
    go_wp2_with fail
    go_quiet (fail)
    go_wp2_with fail
    go_ret
    exact ⟨rfl, HD2.out _ _⟩
  rw [q3] at n1
  clear q3
  rw [Bool.true_and]
  cases q4 : S.ct u
  rotate_left
  · rw [q4] at n2
    clear q4
    go_enter Tryz.func205, Tryz.ntmps205
    go_upto_region 1 with fail
    rw [← HW.out]
    go_quiet (first | (go_at_call 194; exact Calls.quiet_of_same (H1.out _)) | (go_at_call 256; exact Calls.quiet_of_same (H2.out _)) | (go_at_call 201; exact Calls.quiet_of_same (H3.out _)))
    go_wp2_with fail
    go_quiet (fail)
    go_wp2_with fail
    go_ret
    exact ⟨rfl, HD2.out _ _⟩
  rw [q4] at n2
  clear q4
  go_enter Tryz.func205, Tryz.ntmps205
  go_upto_region 1 with fail
  rw [← HW.out]
  go_quiet (first | (go_at_call 194; exact Calls.quiet_of_same (H1.out _)) | (go_at_call 256; exact Calls.quiet_of_same (H2.out _)) | (go_at_call 201; exact Calls.quiet_of_same (H3.out _)))
  go_wp2_with fail
  go_quiet (fail)
  go_wp2_with fail
  refine (H4.out _ (below_drewN W _)).mono ?_
  rintro e W4 ⟨rfl, hb4⟩
  have B4 := hideG ((HD.out _).trans (hb4.mono (HD.out _).size))
  clear hb4
  go_wp2_with fail
  go_ret
  exact ⟨rfl, B4.out⟩
end Go.Proofs.YtchideljndagjabGreat
