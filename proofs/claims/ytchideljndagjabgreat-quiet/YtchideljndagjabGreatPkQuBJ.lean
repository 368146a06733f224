/- Contracts of package veilkeep: lists, parcels and outcomes that are the same. -/
import Derived.Test.YtchideljndagjabGreatPkQuAW
import Derived.Test.YtchideljndagjabGreatPkQuAY
import Derived.Test.YtchideljndagjabGreatPkQuAC
import Derived.BigQuiet
import Derived.Test.YtchideljndagjabGreatPkQuBF
import Derived.Test.YtchideljndagjabGreatPkQuBI
import Derived.Deep.DeepCutAuto
namespace Go.Proofs.YtchideljndagjabGreat
open Go.ChangeShapes Go.WideShapes Go.ChangeAt Go.RowKit
set_option linter.unusedVariables false

/-- A parcel, read. -/
theorem Packs.viewK {w : World} {B : Nat} {v : Value} {vs : List Value} {ps : List Pk} (h : Packs w B v vs ps) : ∃ a c, v = .slice a ps.length c ∧ ps.length ≤ c ∧ c ≤ 9223372036854775807 ∧ ∀ j p, ps[j]? = some p → ∃ g y, a = some ⟨g, 0, none⟩ ∧ g < w.heap.size ∧ vs[j]? = some y ∧ w.cell? ⟨g, j * 3, none⟩ = some (.int .i64 p.1) ∧ w.cell? ⟨g, j * 3 + 1, none⟩ = some (.int .i64 p.2.1) ∧ w.cell? ⟨g, j * 3 + 2, none⟩ = some y ∧ w.ownsRow B 5 1 y p.2.2.length (bytesV p.2.2) := by
  have h0 := h.row
  rcases h0.2 with ⟨rfl, hn⟩ | ⟨g, cap, cur, rfl, _, hb, hnc, hcm, _⟩
  · refine ⟨none, 0, by rw [hn], by omega, by omega, fun j p hp => ?_⟩
    have := (List.getElem?_eq_some_iff.1 hp).1
    omega
  · refine ⟨_, cap, rfl, hnc, by unfold maxLen at hcm; omega, fun j p hp => ?_⟩
    have hj := (List.getElem?_eq_some_iff.1 hp).1
    have hjv : j < vs.length := by rw [h.len]; exact hj
    obtain ⟨q0, q1, q2⟩ := packV_get ps vs j p _ hp (List.getElem?_eq_getElem hjv)
    exact ⟨g, vs[j], rfl, (h0.lt g rfl).2, List.getElem?_eq_getElem hjv, (h0.cellAt (j * 3) (by omega)).trans q0, (h0.cellAt (j * 3 + 1) (by omega)).trans q1, (h0.cellAt (j * 3 + 2) (by omega)).trans q2, h.each j _ p (List.getElem?_eq_getElem hjv) hp⟩

set_option maxHeartbeats 1000000 in
theorem ksameInts_same (va vb : Value) (zs : List Int) (w : World) (ha : ListAt w va zs) (hb : ListAt w vb zs) :
    Calls Tryz.prog 39 #[va, vb] w fun e w' => e = .returned (.bool true) ∧ ∃ nq, w' = w.drewN nq := by
  obtain ⟨a, ca, rfl, a2, a3, a4, a5⟩ := ha
  obtain ⟨b, cb, rfl, b2, b3, b4, b5⟩ := hb
  unfold maxLen at a3 b3
  have hA : Hid (zs = [] ∨ ∃ g off, a = some ⟨g, off, none⟩ ∧ ∀ i, i < zs.length → w.cell? ⟨g, off + i, none⟩ = some (.int .i64 (zs.getD i 0))) := by
    rcases a5 with h | ⟨g, off, h1, _, h2⟩
    · exact .inl h
    · exact .inr ⟨g, off, h1, h2⟩
  have hB : Hid (zs = [] ∨ ∃ g off, b = some ⟨g, off, none⟩ ∧ ∀ i, i < zs.length → w.cell? ⟨g, off + i, none⟩ = some (.int .i64 (zs.getD i 0))) := by
    rcases b5 with h | ⟨g, off, h1, _, h2⟩
    · exact .inl h
    · exact .inr ⟨g, off, h1, h2⟩
  clear a4 a5 b4 b5
  have el : ((zs.length : Int) != (zs.length : Int)) = false := by simp
  generalize hn : zs.length = n at *
  have HN := hideG hn
  clear hn
  go_enter Tryz.func39, Tryz.ntmps39
  go_wp2_with fail
  go_loopw [5] (fun i wr => ∃ k nq : Nat, k ≤ n ∧ i = .int .i64 k ∧ wr = w.drewN nq) (fun i _ => n - (intOf i).toNat)
  case atStart => exact ⟨0, 0, by omega, rfl, rfl⟩
  case round =>
    obtain ⟨k, nq, hk, rfl, rfl⟩ := hrel
    by_cases hlt : k < n
    · obtain ⟨g1, o1, rfl, q1⟩ : ∃ g off, a = some ⟨g, off, none⟩ ∧ w.cell? ⟨g, off + k, none⟩ = some (.int .i64 (zs.getD k 0)) := by
        rcases hA.out with h | ⟨g, off, h1, h2⟩
        · have := HN.out; rw [h] at this; simp at this; omega
        · exact ⟨g, off, h1, h2 k hlt⟩
      obtain ⟨g2, o2, rfl, q2⟩ : ∃ g off, b = some ⟨g, off, none⟩ ∧ w.cell? ⟨g, off + k, none⟩ = some (.int .i64 (zs.getD k 0)) := by
        rcases hB.out with h | ⟨g, off, h1, h2⟩
        · have := HN.out; rw [h] at this; simp at this; omega
        · exact ⟨g, off, h1, h2 k hlt⟩
      generalize zs.getD k 0 = z at *
      have ez : (z != z) = false := by simp
      go_wp2_with fail
      go_quiet (fail)
      go_wp2_with fail
      go_roundw
      case rel => exact ⟨k + 1, _, by omega, by go_num, rfl⟩
      case measure => simp [intOf]; omega
    · go_wp2_with fail
      go_ret
      exact ⟨rfl, nq, rfl⟩

set_option maxHeartbeats 4000000 in
set_option maxRecDepth 100000 in
theorem ksameParcels_same (va vb : Value) (xs ys : List Value) (ps : List Pk) (B B' : Nat) (w : World) (ha : Packs w B va xs ps) (hb : Packs w B' vb ys ps) (hB : ∀ p ∈ ps, Frm.isB p.2.2) :
    Calls Tryz.prog 45 #[va, vb] w fun e w' => e = .returned (.bool true) ∧ Below w.heap.size w w' := by
  have HPA := hideG (fun (W : World) (hW : Below w.heap.size w W) => ha.below hW)
  have HPB := hideG (fun (W : World) (hW : Below w.heap.size w W) => hb.below hW)
  have HBB := hideG hB
  obtain ⟨a, ca, rfl, a1, a2, hA⟩ := ha.viewK
  obtain ⟨b, cb, rfl, b1, b2, hBv⟩ := hb.viewK
  have HG := hideG (fun j (hj : j < ps.length) => (show ∃ p, ps[j]? = some p from ⟨_, List.getElem?_eq_getElem hj⟩))
  have HVA := hideG (fun (W : World) (hW : Below w.heap.size w W) => (show ∀ j p, ps[j]? = some p → ∃ g y, a = some ⟨g, 0, none⟩ ∧ g < w.heap.size ∧ W.cell? ⟨g, j * 3, none⟩ = some (.int .i64 p.1) ∧ W.cell? ⟨g, j * 3 + 1, none⟩ = some (.int .i64 p.2.1) ∧ W.cell? ⟨g, j * 3 + 2, none⟩ = some y ∧ W.ownsRow B 5 1 y p.2.2.length (bytesV p.2.2) from fun j p hp => by
    obtain ⟨g, y, e1, e2, e3, e4, e5, e6, e7⟩ := hA j p hp
    exact ⟨g, y, e1, e2, (hW.cell (p := ⟨g, j * 3, none⟩) e2).trans e4, (hW.cell (p := ⟨g, j * 3 + 1, none⟩) e2).trans e5, (hW.cell (p := ⟨g, j * 3 + 2, none⟩) e2).trans e6, (ha.below hW).each j y p e3 hp⟩))
  have HVB := hideG (fun (W : World) (hW : Below w.heap.size w W) => (show ∀ j p, ps[j]? = some p → ∃ g y, b = some ⟨g, 0, none⟩ ∧ g < w.heap.size ∧ W.cell? ⟨g, j * 3, none⟩ = some (.int .i64 p.1) ∧ W.cell? ⟨g, j * 3 + 1, none⟩ = some (.int .i64 p.2.1) ∧ W.cell? ⟨g, j * 3 + 2, none⟩ = some y ∧ W.ownsRow B' 5 1 y p.2.2.length (bytesV p.2.2) from fun j p hp => by
    obtain ⟨g, y, e1, e2, e3, e4, e5, e6, e7⟩ := hBv j p hp
    exact ⟨g, y, e1, e2, (hW.cell (p := ⟨g, j * 3, none⟩) e2).trans e4, (hW.cell (p := ⟨g, j * 3 + 1, none⟩) e2).trans e5, (hW.cell (p := ⟨g, j * 3 + 2, none⟩) e2).trans e6, (hb.below hW).each j y p e3 hp⟩))
  clear ha hb hB hA hBv
  obtain ⟨n, hn⟩ : ∃ n, n = ps.length := ⟨_, rfl⟩
  rw [← hn] at HG a1 b1 ⊢
  clear hn
  have nn : ((n : Int) != (n : Int)) = false := by simp
  go_enter Tryz.func45, Tryz.ntmps45
  go_wp2_with fail
  go_loopw [5] (fun i wr => ∃ j : Nat, j ≤ n ∧ i = .int .i64 (j : Int) ∧ Below w.heap.size w wr) (fun i _ => n - (intOf i).toNat)
  case atStart => exact ⟨0, Nat.zero_le _, rfl, Below.refl _ _⟩
  case round =>
    obtain ⟨j, hj, rfl, hbel⟩ := hrel
    have HB := hideG hbel
    have hsz := hbel.size
    clear hbel
    by_cases hlt : j < n
    · obtain ⟨p, hp⟩ := HG.out j hlt
      obtain ⟨g, y, rfl, gl, c0, c1, c2, co⟩ := HVA.out wr HB.out j p hp
      obtain ⟨g', y', rfl, gl', d0, d1, d2, do_⟩ := HVB.out wr HB.out j p hp
      have hIB := HBB.out p (List.mem_of_getElem? hp)
      obtain ⟨f0, f1, E⟩ := p
      dsimp only at c0 c1 d0 d1 co do_ hIB
      obtain ⟨av, cv, hy⟩ := owns_form co
      obtain ⟨av', cv', hy'⟩ := owns_form do_
      have hq1 : ∀ k, (convert 47 9 (.slice av E.length cv)).run Tryz.prog (wr.drewN k) = .ok (.string (strOfNums E)) (wr.drewN k) := fun k => by rw [← hy]; exact conv_str ((bytesAt_of_owns co hIB).below (below_drewN wr k))
      have hq2 : ∀ k, (convert 47 9 (.slice av' E.length cv')).run Tryz.prog (wr.drewN k) = .ok (.string (strOfNums E)) (wr.drewN k) := fun k => by rw [← hy']; exact conv_str ((bytesAt_of_owns do_ hIB).below (below_drewN wr k))
      subst hy
      subst hy'
      clear co do_ hIB hp
      generalize strOfNums E = sE at *
      generalize E.length = nE at *
      have ne0 : (f0 != f0) = false := by simp
      have ne1 : (f1 != f1) = false := by simp
      have hgw : g < wr.heap.size := by omega
      have hgw' : g' < wr.heap.size := by omega
      have jn : (j : Int) < (n : Int) := by omega
      have j0 : (0 : Int) ≤ (j : Int) := by omega
      go_upto_region 6 with fail
      go_quiet (fail)
      have BN := hideG (HB.out.trans ((below_drewN wr nq).mono hsz))
      go_wp2_with fail
      go_roundw
      case rel => exact ⟨j + 1, by omega, by go_num, BN.out⟩
      case measure => simp [intOf]; omega
    · have ej : j = n := by omega
      subst ej
      go_wp2_with fail
      go_ret
      exact ⟨rfl, HB.out⟩

theorem klist_form {w : World} {v : Value} {zs : List Int} (h : ListAt w v zs) : ∃ a c, v = .slice a zs.length c := by obtain ⟨a, c, e, _⟩ := h; exact ⟨a, c, e⟩

set_option maxHeartbeats 1000000 in
set_option maxRecDepth 100000 in
theorem ksameOutcome_same (st ro : Int) (va vb ua ub : Value) (zs us : List Int) (w : World) (h1 : ListAt w va zs) (h2 : ListAt w vb us) (h3 : ListAt w ua zs) (h4 : ListAt w ub us) :
    Calls Tryz.prog 16 #[.agg #[.int .i64 st, .int .i64 ro, va, vb], .agg #[.int .i64 st, .int .i64 ro, ua, ub]] w fun e w' => e = .returned (.bool true) ∧ Below w.heap.size w w' := by
  have H1 := hideG (fun (W : World) (hb : Below w.heap.size w W) => ksameInts_same va ua zs W (h1.below hb) (h3.below hb))
  have H2 := hideG (fun (W : World) (hb : Below w.heap.size w W) => ksameInts_same vb ub us W (h2.below hb) (h4.below hb))
  obtain ⟨a1, c1, rfl⟩ := klist_form h1
  obtain ⟨a2, c2, rfl⟩ := klist_form h2
  obtain ⟨a3, c3, rfl⟩ := klist_form h3
  obtain ⟨a4, c4, rfl⟩ := klist_form h4
  clear h1 h2 h3 h4
  generalize zs.length = nz at *
  generalize us.length = nu at *
  obtain ⟨W0, hW0⟩ : ∃ W0, W0 = (w.alloc (.cells #[.int .i64 st, .int .i64 ro, .slice a1 nz c1, .slice a2 nu c2] 35)).alloc (.cells #[.int .i64 st, .int .i64 ro, .slice a3 nz c3, .slice a4 nu c4] 35) := ⟨_, rfl⟩
  have B0 := hideG (show Below w.heap.size w W0 by rw [hW0]; exact ((Below.refl _ _).alloc (Nat.le_refl _) _).alloc (by simp) _)
  have z0 : W0.heap.size = w.heap.size + 2 := by rw [hW0]; simp
  have X := hideG (fun (W : World) (hb : Below W0.heap.size W0 W) => (show (W.cell? ⟨w.heap.size, 0, none⟩ = some (.int .i64 st) ∧ W.cell? ⟨w.heap.size, 1, none⟩ = some (.int .i64 ro) ∧ W.cell? ⟨w.heap.size, 2, none⟩ = some (.slice a1 nz c1) ∧ W.cell? ⟨w.heap.size, 3, none⟩ = some (.slice a2 nu c2)) ∧ (W.cell? ⟨w.heap.size + 1, 0, none⟩ = some (.int .i64 st) ∧ W.cell? ⟨w.heap.size + 1, 1, none⟩ = some (.int .i64 ro) ∧ W.cell? ⟨w.heap.size + 1, 2, none⟩ = some (.slice a3 nz c3) ∧ W.cell? ⟨w.heap.size + 1, 3, none⟩ = some (.slice a4 nu c4)) from by
    have k1 : ∀ o, W.cell? ⟨w.heap.size, o, none⟩ = W0.cell? ⟨w.heap.size, o, none⟩ := fun o => hb.cell (p := ⟨w.heap.size, o, none⟩) (by show w.heap.size < _; omega)
    have k2 : ∀ o, W.cell? ⟨w.heap.size + 1, o, none⟩ = W0.cell? ⟨w.heap.size + 1, o, none⟩ := fun o => hb.cell (p := ⟨w.heap.size + 1, o, none⟩) (by show w.heap.size + 1 < _; omega)
    simp only [k1, k2]
    rw [hW0]
    refine ⟨⟨?_, ?_, ?_, ?_⟩, ?_, ?_, ?_, ?_⟩ <;> simp))
  have HW0 := hideG hW0
  clear hW0
  obtain ⟨⟨x0, x1, x2, x3⟩, y0, y1, y2, y3⟩ := X.out W0 (Below.refl _ _)
  have es : (st == st) = true := by simp
  have er : (ro == ro) = true := by simp
  go_enter Tryz.func16, Tryz.ntmps16
  go_upto_region 1 with fail
  rw [← HW0.out]
  go_wp2_with fail
  refine (H1.out W0 B0.out).mono ?_
  rintro e w1 ⟨rfl, n1, hw1⟩
  have hb1 : Below W0.heap.size W0 w1 := by rw [hw1]; exact below_drewN W0 n1
  have B1 := hideG (B0.out.trans (hb1.mono B0.out.size))
  have s1 := hb1.size
  clear x0 x1 x2 x3 y0 y1 y2 y3
  obtain ⟨⟨x0, x1, x2, x3⟩, y0, y1, y2, y3⟩ := X.out w1 hb1
  have HB1 := hideG hb1
  clear hb1 hw1
  go_wp2_with fail
  refine (H2.out w1 B1.out).mono ?_
  rintro e w2 ⟨rfl, n2, hw2⟩
  have hb2 : Below w1.heap.size w1 w2 := by rw [hw2]; exact below_drewN w1 n2
  have B2 := hideG (B1.out.trans (hb2.mono B1.out.size))
  have s2 := hb2.size
  clear x0 x1 x2 x3 y0 y1 y2 y3
  obtain ⟨⟨x0, x1, x2, x3⟩, y0, y1, y2, y3⟩ := X.out w2 (HB1.out.trans (hb2.mono s1))
  clear hb2 hw2
  go_wp2_with fail
  go_ret
  exact ⟨rfl, B2.out⟩

end Go.Proofs.YtchideljndagjabGreat

namespace Go.Proofs.YtchideljndagjabGreat
open Go.ChangeShapes Go.WideShapes Go.ChangeAt Go.RowKit
set_option linter.unusedVariables false

set_option maxHeartbeats 2000000 in
set_option maxRecDepth 100000 in
theorem kmayBegin_calls (N T M D : Int) (a : Option Addr) (n c : Nat) (vi vm vs : Nat → Value) (Dd : Nat → DD) (w : World) (hD : DrawsAt w a n c vi vm vs Dd) :
    Calls Tryz.prog 29 #[.agg #[.int .i64 N, .int .i64 T, .int .i64 M, .int .i64 D], .slice a n c] w fun e w' => e = .returned (.int .i64 (begE N T M D n Dd)) ∧ Below w.heap.size w w' := by
  have HCF := hideG (fun (W : World) => kwellConfig_calls N T M D W)
  have HDR := hideG (fun (W : World) (hb : Below w.heap.size w W) (t1 : 1 ≤ T) (t2 : T ≤ 12) (j : Nat) (hj : j < n) => kwellDraw_calls N T M D (vi j) (vm j) (vs j) (Dd j).inp (Dd j).sm (Dd j).ss (Dd j).ch (Dd j).ms (Dd j).sd W ((hD.its j hj).1.below hb) ((hD.its j hj).2.1.below hb) ((hD.its j hj).2.2.1.below hb) t1 t2 (hD.its j hj).2.2.2.1 (hD.its j hj).2.2.2.2.1 (hD.its j hj).2.2.2.2.2)
  have HDD := hideG (fun (W : World) (hb : Below w.heap.size w W) => hD.below hb)
  have hle := hD.le
  have hmx := hD.mx
  clear hD
  obtain ⟨W0, hW0⟩ : ∃ W0, W0 = w.alloc (.cells #[.int .i64 N, .int .i64 T, .int .i64 M, .int .i64 D] 26) := ⟨_, rfl⟩
  have BB := hideG (show Below w.heap.size w W0 by rw [hW0]; exact (Below.refl _ _).alloc (Nat.le_refl _) _)
  have z0 : w.heap.size < W0.heap.size := by rw [hW0]; simp
  have HN := hideG (show W0.heap[w.heap.size]? = some (.cells #[.int .i64 N, .int .i64 T, .int .i64 M, .int .i64 D] 26 (0, 0)) by rw [hW0]; exact heap_alloc_new w _)
  have HW0 := hideG hW0
  clear hW0
  cases hcf : Cli.cfgB N T M D
  · have HEE := hideG (show begE N T M D n Dd = 5 by unfold begE; rw [if_pos hcf])
    rw [hcf] at HCF
    clear hcf
    go_enter Tryz.func29, Tryz.ntmps29
    go_wp2_with fail
    rw [← HW0.out]
    refine (HCF.out W0).mono ?_
    rintro e w1 ⟨rfl, hb1⟩
    have HB := hideG (BB.out.trans (hb1.mono (by omega)))
    clear hb1
    go_wp2_with fail
    go_ret
    exact ⟨ret_i64 HEE.out.symm, HB.out⟩
  obtain ⟨g1, g2, g3, g4⟩ : 1 ≤ N ∧ N ≤ 12 ∧ 1 ≤ T ∧ T ≤ 12 := by
    unfold Cli.cfgB at hcf; simp only [Bool.and_eq_true, decide_eq_true_iff] at hcf; omega
  rw [hcf] at HCF
  by_cases hn : (n : Int) = N
  rotate_left
  · have HEE := hideG (show begE N T M D n Dd = 6 by unfold begE; rw [if_neg (by rw [hcf]; simp), if_pos hn])
    have hnn : ((n : Int) != N) = true := by simpa using hn
    clear hcf
    go_enter Tryz.func29, Tryz.ntmps29
    go_wp2_with fail
    rw [← HW0.out]
    refine (HCF.out W0).mono ?_
    rintro e w1 ⟨rfl, hb1⟩
    have HB := hideG (BB.out.trans (hb1.mono (by omega)))
    obtain ⟨⟨x0, x1, x2, x3⟩, -⟩ := cells_four ((hb1.block w.heap.size z0).trans HN.out)
    have z1 := hb1.size
    clear hb1
    go_wp2_with fail
    go_ret
    exact ⟨ret_i64 HEE.out.symm, HB.out⟩
  have HEE := hideG (show begE N T M D n Dd = if ((List.range n).all fun j => Cli.drawB T M (Dd j).inp (Dd j).ch (Dd j).ms (Dd j).sd (Dd j).sm (Dd j).ss) = true then 0 else 6 by unfold begE; rw [if_neg (by rw [hcf]; simp), if_neg (by omega)])
  have hnn : ((n : Int) != N) = false := by simpa using hn
  have HBN := hideG hn
  clear hcf hn
  go_enter Tryz.func29, Tryz.ntmps29
  go_wp2_with fail
  rw [← HW0.out]
  refine (HCF.out W0).mono ?_
  rintro e w1 ⟨rfl, hb1⟩
  have HB := hideG (BB.out.trans (hb1.mono (by omega)))
  have z1 := hb1.size
  have HN1 := hideG ((hb1.block w.heap.size z0).trans HN.out)
  obtain ⟨⟨x0, x1, x2, x3⟩, -⟩ := cells_four HN1.out
  clear hb1
  go_wp2_with fail
  clear x0 x1 x2 x3
  go_loopw [5, 6] (fun q i wr => ∃ (j : Nat) (qb : Bool), q = .bool qb ∧ j ≤ n ∧ i = .int .i64 j ∧ Below w.heap.size w wr ∧ w.heap.size < wr.heap.size ∧ wr.heap[w.heap.size]? = some (.cells #[.int .i64 N, .int .i64 T, .int .i64 M, .int .i64 D] 26 (0, 0)) ∧ ∀ k, k < j → Cli.drawB T M (Dd k).inp (Dd k).ch (Dd k).ms (Dd k).sd (Dd k).sm (Dd k).ss = true) (fun _ i _ => n - (intOf i).toNat)
  case atStart => exact ⟨0, _, rfl, Nat.zero_le _, rfl, HB.out, by omega, HN1.out, fun k hk => absurd hk (Nat.not_lt_zero _)⟩
  case round =>
    obtain ⟨j, qb, rfl, hj, rfl, hbel, hzr, hcf, hall⟩ := hrel
    have HBL := hideG hbel
    have HAL := hideG hall
    have HCR := hideG hcf
    clear hbel hall
    by_cases hlt : j < n
    · obtain ⟨db, off, rfl, hdl, d0, d1, d2, d3, d4, d5⟩ := (HDD.out wr HBL.out).cells j hlt
      obtain ⟨l1, l2, l3, -⟩ := (HDD.out wr HBL.out).its j hlt
      obtain ⟨a1, k1, e1, -⟩ := l1
      obtain ⟨a2, k2, e2, -⟩ := l2
      obtain ⟨a3, k3, e3, -⟩ := l3
      have HK := hideG (fun (W : World) (hb : Below wr.heap.size wr W) => HDR.out W (HBL.out.trans (hb.mono HBL.out.size)) g3 g4 j hlt)
      rw [e1] at d0 HK
      rw [e2] at d4 HK
      rw [e3] at d5 HK
      obtain ⟨⟨x0, x1, x2, x3⟩, -⟩ := cells_four HCR.out
      have HST := hideG (fun (q : Cli.drawB T M (Dd j).inp (Dd j).ch (Dd j).ms (Dd j).sd (Dd j).sm (Dd j).ss = true) => (show ∀ k, k < j + 1 → Cli.drawB T M (Dd k).inp (Dd k).ch (Dd k).ms (Dd k).sd (Dd k).sm (Dd k).ss = true from fun k hk => by
        by_cases e : k = j
        · rw [e]; exact q
        · exact HAL.out k (by omega)))
      have HSF := hideG (fun (q : Cli.drawB T M (Dd j).inp (Dd j).ch (Dd j).ms (Dd j).sd (Dd j).sm (Dd j).ss = false) => (show ((List.range n).all fun j => Cli.drawB T M (Dd j).inp (Dd j).ch (Dd j).ms (Dd j).sd (Dd j).sm (Dd j).ss) = false from Bool.eq_false_iff.2 fun k => by
        have := List.all_eq_true.1 k j (List.mem_range.2 hlt)
        rw [q] at this; cases this))
      clear e1 e2 e3 hcf
      obtain ⟨bb, hbb⟩ : ∃ b, Cli.drawB T M (Dd j).inp (Dd j).ch (Dd j).ms (Dd j).sd (Dd j).sm (Dd j).ss = b := ⟨_, rfl⟩
      rw [hbb] at HK HST HSF
      clear hbb
      generalize (Dd j).inp.length = m1 at *
      generalize (Dd j).sm.length = m2 at *
      generalize (Dd j).ss.length = m3 at *
      generalize (Dd j).ch = ch at *
      generalize (Dd j).ms = ms at *
      generalize (Dd j).sd = sd at *
      have hjN : (j : Int) < N := by have := HBN.out; omega
      go_upto_region 9 with fail
      go_cut [5] (fun q wc => q = .bool bb ∧ Below wr.heap.size wr wc)
      case first =>
        go_region_with (go_at_call 63; refine (HK.out _ (Below.refl wr.heap.size wr).drew).mono ?_; rintro e w2 ⟨rfl, hb2⟩; have HFIN := hideG (show Below wr.heap.size wr w2 from (Below.refl wr.heap.size wr).drew.trans hb2); clear hb2)
        all_goals (go_wp2_with fail; go_meet; exact ⟨rfl, HFIN.out⟩)
      case rest =>
        obtain ⟨hq, hb2⟩ := hcut
        subst hq
        have z2 := hb2.size
        have B2 := hideG (HBL.out.trans (hb2.mono HBL.out.size))
        have HC2 := hideG ((hb2.block w.heap.size hzr).trans HCR.out)
        clear hb2 x0 x1 x2 x3 d0 d1 d2 d3 d4 d5
        cases bb
        · go_wp2_with fail
          go_ret
          refine ⟨?_, B2.out⟩
          rw [HEE.out, HSF.out (by simp)]; rfl
        · go_wp2_with fail
          go_roundw
          case rel => exact ⟨j + 1, true, rfl, by omega, by go_num, B2.out, by omega, HC2.out, HST.out (by simp)⟩
          case measure => simp [intOf]; omega
    · have ej : j = n := by omega
      subst ej
      go_wp2_with fail
      go_ret
      refine ⟨?_, HBL.out⟩
      rw [HEE.out, if_pos (List.all_eq_true.2 fun k hk => HAL.out k (List.mem_range.1 hk))]; rfl

/-- Who takes part in a session that may begin. -/
theorem cast_of {N T M D : Int} {n : Nat} {Dd : Nat → DD} (h : begE N T M D n Dd = 0) : Cast ⟨N, T, M, D⟩ (clD N T M Dd) n := by
  unfold begE at h
  by_cases c1 : Cli.cfgB N T M D = false
  · rw [if_pos c1] at h; exact absurd h (by decide)
  rw [if_neg c1] at h
  by_cases c2 : (n : Int) ≠ N
  · rw [if_pos c2] at h; exact absurd h (by decide)
  rw [if_neg c2] at h
  have hn : (n : Int) = N := Decidable.byContradiction c2
  have c1' : Cli.cfgB N T M D = true := by cases q : Cli.cfgB N T M D with | true => rfl | false => exact absurd q c1
  by_cases c3 : ((List.range n).all fun j => Cli.drawB T M (Dd j).inp (Dd j).ch (Dd j).ms (Dd j).sd (Dd j).sm (Dd j).ss) = true
  · exact ⟨Srv.goodC_of c1', hn.symm, fun i hi => Cli.good_of c1' ⟨by omega, by omega⟩ (List.all_eq_true.1 c3 i (List.mem_range.2 hi)), fun _ _ => rfl, fun _ _ => rfl, fun _ _ => rfl, fun _ _ => rfl⟩
  · rw [if_neg c3] at h; exact absurd h (by decide)

set_option maxHeartbeats 2000000 in
set_option maxRecDepth 100000 in
theorem kbegun_no (N T M D : Int) (a : Option Addr) (n c : Nat) (vi vm vs : Nat → Value) (Dd : Nat → DD) (w : World) (hD : DrawsAt w a n c vi vm vs Dd) (hE : begE N T M D n Dd ≠ 0) :
    Calls Tryz.prog 11 #[.agg #[.int .i64 N, .int .i64 T, .int .i64 M, .int .i64 D], .slice a n c] w fun e w' => e = .returned (.tuple #[.pointer none, .bool true]) ∧ Below w.heap.size w w' := by
  have HN := hideG (fun (W : World) (hb : Below w.heap.size w W) => veilNewSes (N := N) (T := T) (M := M) (D := D) (hD.below hb))
  have HM := hideG (fun (W : World) (hb : Below w.heap.size w W) => kmayBegin_calls N T M D a n c vi vm vs Dd W (hD.below hb))
  obtain ⟨E, hEE⟩ : ∃ E, E = begE N T M D n Dd := ⟨_, rfl⟩
  rw [← hEE] at HN HM hE
  have e1 : (E != E) = false := by simp
  have e2 : (E != 0) = true := by simpa using hE
  have HNE := hideG hE
  clear hD hEE hE
  obtain ⟨W0, hW0⟩ : ∃ W0, W0 = w.alloc (.cells #[.int .i64 N, .int .i64 T, .int .i64 M, .int .i64 D] 26) := ⟨_, rfl⟩
  have BB := hideG (show Below w.heap.size w W0 by rw [hW0]; exact (Below.refl _ _).alloc (Nat.le_refl _) _)
  have z0 : w.heap.size < W0.heap.size := by rw [hW0]; simp
  have HR := hideG (show W0.heap[w.heap.size]? = some (.cells #[.int .i64 N, .int .i64 T, .int .i64 M, .int .i64 D] 26 (0, 0)) by rw [hW0]; exact heap_alloc_new w _)
  have HW0 := hideG hW0
  clear hW0
  obtain ⟨⟨x0, x1, x2, x3⟩, -⟩ := cells_four HR.out
  go_enter Tryz.func11, Tryz.ntmps11
  go_upto_region 1 with fail
  rw [← HW0.out]
  go_wp2_with fail
  refine (HN.out W0 BB.out).mono ?_
  rintro e w1 ⟨hb1, ⟨_, rfl⟩ | ⟨q, _⟩⟩
  rotate_left
  · exact absurd q HNE.out
  have B1 := hideG (BB.out.trans (hb1.mono (by omega)))
  have z1 := hb1.size
  clear x0 x1 x2 x3
  obtain ⟨⟨x0, x1, x2, x3⟩, -⟩ := cells_four ((hb1.block w.heap.size z0).trans HR.out)
  clear hb1
  go_wp2_with fail
  refine (HM.out w1 B1.out).mono ?_
  rintro e w2 ⟨rfl, hb2⟩
  have B2 := hideG (B1.out.trans (hb2.mono B1.out.size))
  clear hb2 x0 x1 x2 x3
  go_wp2_with fail
  go_ret2
  exact ⟨rfl, B2.out⟩

set_option maxHeartbeats 4000000 in
set_option maxRecDepth 100000 in
theorem kbegun_go (N T M D : Int) (a : Option Addr) (n c : Nat) (vi vm vs : Nat → Value) (Dd : Nat → DD) (w : World) (hD : DrawsAt w a n c vi vm vs Dd) (hE : begE N T M D n Dd = 0) :
    Calls Tryz.prog 11 #[.agg #[.int .i64 N, .int .i64 T, .int .i64 M, .int .i64 D], .slice a n c] w fun e w' => ∃ b, e = .returned (.tuple #[.pointer (some ⟨b, 0, none⟩), .bool true]) ∧ Below w.heap.size w w' ∧ ∃ m, SesAt w' b n ⟨N, T, M, D⟩ (clD N T M Dd) (beg (clD N T M Dd) n) m ∧ ∀ x, SesFoot b n m x → w.heap.size ≤ x := by
  have hC := cast_of hE
  have HN := hideG (fun (W : World) (hb : Below w.heap.size w W) => veilNewSes (N := N) (T := T) (M := M) (D := D) (hD.below hb))
  have HM := hideG (fun (W : World) (hb : Below w.heap.size w W) => kmayBegin_calls N T M D a n c vi vm vs Dd W (hD.below hb))
  rw [hE] at HN HM
  have hnN : ((n : Int) != N) = false := by have : N = (n : Int) := hC.num; rw [this]; simp
  have hn12 := hC.le.2
  obtain ⟨cl, hcl⟩ : ∃ cl, cl = clD N T M Dd := ⟨_, rfl⟩
  rw [← hcl] at HN hC ⊢
  have HOK := hideG (beg_ok hC)
  have HFB := hideG (beg_flB hC)
  have HGR := hideG (fun (i : Nat) (hi : i < n) (va : Value) (W : World) (hb : BytesAt W va (Frm.encF 1 (cl i).id (helloL (cl i)))) => kgreets_yes (cl i).id va (helloL (cl i)) W (helloL_ok (hC.good i hi)) hb)
  have HID := hideG hC.id
  clear hcl hD hE hC
  obtain ⟨W0, hW0⟩ : ∃ W0, W0 = w.alloc (.cells #[.int .i64 N, .int .i64 T, .int .i64 M, .int .i64 D] 26) := ⟨_, rfl⟩
  have BB := hideG (show Below w.heap.size w W0 by rw [hW0]; exact (Below.refl _ _).alloc (Nat.le_refl _) _)
  have z0 : w.heap.size < W0.heap.size := by rw [hW0]; simp
  have HR := hideG (show W0.heap[w.heap.size]? = some (.cells #[.int .i64 N, .int .i64 T, .int .i64 M, .int .i64 D] 26 (0, 0)) by rw [hW0]; exact heap_alloc_new w _)
  have HW0 := hideG hW0
  clear hW0
  obtain ⟨⟨x0, x1, x2, x3⟩, -⟩ := cells_four HR.out
  go_enter Tryz.func11, Tryz.ntmps11
  go_upto_region 1 with fail
  rw [← HW0.out]
  go_wp2_with fail
  refine (HN.out W0 BB.out).mono ?_
  rintro e w1 ⟨hb1, ⟨q, _⟩ | ⟨_, b, rfl, m, hses, hnew⟩⟩
  · exact absurd rfl q
  have B1 := hideG (BB.out.trans (hb1.mono (by omega)))
  have z1 := hb1.size
  clear x0 x1 x2 x3
  have HR1 := hideG ((hb1.block w.heap.size z0).trans HR.out)
  have HS1 := hideG hses
  have HNW := hideG (fun x (hx : SesFoot b n m x) => Nat.le_trans (Nat.le_of_lt z0) (hnew x hx))
  obtain ⟨⟨x0, x1, x2, x3⟩, -⟩ := cells_four HR1.out
  clear hb1 hses hnew
  go_wp2_with fail
  refine (HM.out w1 B1.out).mono ?_
  rintro e w2 ⟨rfl, hb2⟩
  have B2 := hideG (B1.out.trans (hb2.mono B1.out.size))
  have z2 := hb2.size
  have HS2 := hideG (HS1.out.below hb2)
  have HR2 := hideG ((hb2.block w.heap.size (by omega)).trans HR1.out)
  have HFL := hideG (vFlight HS2.out (by have := HOK.out.fl; omega) HOK.out.flb)
  clear hb2 x0 x1 x2 x3
  go_wp2_with fail
  refine HFL.out.mono ?_
  rintro e w3 ⟨v, ys, rfl, hpk, hb3⟩
  have B3 := hideG (B2.out.trans (hb3.mono B2.out.size))
  have z3 := hb3.size
  have HS3 := hideG (HS2.out.below hb3)
  have HR3 := hideG ((hb3.block w.heap.size (by omega)).trans HR2.out)
  obtain ⟨av, cv, rfl, hlc, hcm, hview⟩ := hpk.viewK
  have elen : (beg cl n).fl.length = n := hellosP_length cl n
  rw [elen] at hlc ⊢
  have HV := hideG (fun (W : World) (hW : Below w3.heap.size w3 W) (j : Nat) (hj : j < n) => (show ∃ g y, av = some ⟨g, 0, none⟩ ∧ g < W.heap.size ∧ W.cell? ⟨g, j * 3, none⟩ = some (.int .i64 ((j : Int) + 1)) ∧ W.cell? ⟨g, j * 3 + 1, none⟩ = some (.int .i64 0) ∧ W.cell? ⟨g, j * 3 + 2, none⟩ = some y ∧ BytesAt W y (Frm.encF 1 (cl j).id (helloL (cl j))) from by
    have hg := hellosP_get cl n j hj
    obtain ⟨g, y, f1, f2, f3, f4, f5, f6, f7⟩ := hview j _ hg
    exact ⟨g, y, f1, Nat.lt_of_lt_of_le f2 hW.size, (hW.cell (p := ⟨g, j * 3, none⟩) f2).trans f4, (hW.cell (p := ⟨g, j * 3 + 1, none⟩) f2).trans f5, (hW.cell (p := ⟨g, j * 3 + 2, none⟩) f2).trans f6, (bytesAt_of_owns f7 (HFB.out _ (List.mem_of_getElem? hg))).below hW⟩))
  obtain ⟨⟨x0, x1, x2, x3⟩, -⟩ := cells_four HR3.out
  clear hpk hview hb3 elen
  go_wp2_with fail
  clear x0 x1 x2 x3
  go_loopw [10] (fun i wr => ∃ j : Nat, j ≤ n ∧ i = .int .i64 j ∧ Below w3.heap.size w3 wr) (fun i _ => n - (intOf i).toNat)
  case atStart => exact ⟨0, Nat.zero_le _, rfl, Below.refl _ _⟩
  case round =>
    obtain ⟨j, hj, rfl, hbel⟩ := hrel
    have HBL := hideG hbel
    have zr := hbel.size
    clear hbel
    by_cases hlt : j < n
    · obtain ⟨g, y, rfl, gl, c0, c1, c2, hby⟩ := HV.out wr HBL.out j hlt
      have HG := hideG (HGR.out j hlt y wr hby)
      rw [HID.out j hlt] at HG
      obtain ⟨ay, cy, hy, -⟩ := bytes_view hby
      rw [hy] at c2 HG
      have HVW := hideG (fun (W : World) (hW : Below wr.heap.size wr W) => (show W.cell? ⟨g, j * 3, none⟩ = some (.int .i64 ((j : Int) + 1)) ∧ W.cell? ⟨g, j * 3 + 1, none⟩ = some (.int .i64 0) from ⟨(hW.cell (p := ⟨g, j * 3, none⟩) gl).trans c0, (hW.cell (p := ⟨g, j * 3 + 1, none⟩) gl).trans c1⟩))
      generalize (Frm.encF 1 (cl j).id (helloL (cl j))).length = le at *
      have jn : (j : Int) < (n : Int) := by omega
      have j0 : (0 : Int) ≤ (j : Int) := by omega
      have jj : ((j : Int) + 1 != (j : Int) + 1) = false := by simp
      clear hby hy c0 c1
      go_wp2_with fail
      refine HG.out.mono ?_
      rintro e w4 ⟨rfl, hb4⟩
      have B4 := hideG (HBL.out.trans (hb4.mono zr))
      have z4 := hb4.size
      obtain ⟨c0, c1⟩ := HVW.out w4 hb4
      have gl4 : g < w4.heap.size := by omega
      clear hb4 c2
      go_wp2_with fail
      go_roundw
      case rel => exact ⟨j + 1, by omega, by go_num, B4.out⟩
      case measure => simp [intOf]; omega
    · have ej : j = n := by omega
      subst ej
      go_wp2_with fail
      go_ret2
      exact ⟨b, rfl, B3.out.trans (HBL.out.mono B3.out.size), m, HS3.out.below HBL.out, HNW.out⟩
end Go.Proofs.YtchideljndagjabGreat
