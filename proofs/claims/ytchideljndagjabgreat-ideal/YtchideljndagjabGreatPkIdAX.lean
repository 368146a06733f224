/- Contracts of the program's server: stop, beginNext. -/
import Derived.Test.YtchideljndagjabGreatPkIdAV
import Derived.Test.YtchideljndagjabGreatPkIdAW
import Derived.RegionTactic
import Derived.BigRegion
import Derived.Test.YtchideljndagjabGreatPkIdAH
import Derived.Test.YtchideljndagjabGreatPkIdAG
namespace Go.Proofs.YtchideljndagjabGreat
open Go.ChangeShapes Go.WideShapes Go.ChangeAt Go.RowKit
set_option linter.unusedVariables false
def overS (st ro : Int) (set sum : Value) : SS := ⟨0, 0, 0, 0, 0, 0, fun _ => false, fun _ => false, fun _ => .slice none 0 0, fun _ => 0, fun _ => false, .slice none 0 0, st, ro, set, sum⟩
theorem size_srv : (Tryz.prog.info? 106).map (·.size) = some 76 := by kernel_rfl
theorem ssCells_one (s : SS) (h1 : ∀ v, v < 13 → (s.it v).oneCell' = true) (h2 : s.ml.oneCell' = true) (h3 : s.set.oneCell' = true) (h4 : s.sum.oneCell' = true) : ∀ v ∈ ssCells s, v.oneCell' = true := by
  intro v hv
  unfold ssCells ssHead ssTail at hv
  rcases List.mem_append.1 hv with hv | hv
  · simp only [List.mem_cons, List.not_mem_nil, or_false] at hv
    rcases hv with rfl | rfl | rfl | rfl | rfl | rfl <;> rfl
  rcases List.mem_append.1 hv with hv | hv
  · exact v13_all (P := fun v => v.oneCell' = true) (fun u hu => rfl) v hv
  rcases List.mem_append.1 hv with hv | hv
  · exact v13_all (P := fun v => v.oneCell' = true) (fun u hu => rfl) v hv
  rcases List.mem_append.1 hv with hv | hv
  · exact v13_all (P := fun v => v.oneCell' = true) h1 v hv
  rcases List.mem_append.1 hv with hv | hv
  · exact v13_all (P := fun v => v.oneCell' = true) (fun u hu => rfl) v hv
  rcases List.mem_append.1 hv with hv | hv
  · exact v13_all (P := fun v => v.oneCell' = true) (fun u hu => rfl) v hv
  · simp only [List.mem_cons, List.not_mem_nil, or_false] at hv
    rcases hv with rfl | rfl | rfl | rfl | rfl <;> first | rfl | assumption
theorem SSAt.there {w : World} {b : Nat} {s : SS} (h : SSAt w b s) (o n : Nat) (hn : o + n ≤ 76) : w.there b o n := by
  have := RecAt.there h o n (by rw [ssCells_length]; exact hn)
  rwa [Nat.zero_add] at this
theorem stcl (P : Program) (b o : Nat) (vs : List Value) (w : World) (ht : w.there b o vs.length) (h1 : ∀ v ∈ vs, v.oneCell' = true) : (storeCells ⟨b, o, none⟩ vs).run P w = .ok () (w.setCells b o vs) :=
  run_storeCells_cells b o vs 0 w (fun j hj => (ht j hj).1) (fun j hj => (ht j hj).2) h1
structure Turn (w w' : World) (b : Nat) : Prop where
  chg : Chg (fun x => x = b) w w'
  rest : ∀ i, 76 ≤ i → w'.cell? ⟨b, i, none⟩ = w.cell? ⟨b, i, none⟩ ∧ w'.frozen? ⟨b, i, none⟩ = w.frozen? ⟨b, i, none⟩
theorem Turn.refl (w : World) (b : Nat) : Turn w w b := ⟨Chg.refl _ _, fun _ _ => ⟨rfl, rfl⟩⟩
theorem Turn.trans {w w1 w2 : World} {b : Nat} (h : Turn w w1 b) (k : Turn w1 w2 b) : Turn w w2 b := ⟨h.chg.also k.chg, fun i hi => ⟨(k.rest i hi).1.trans (h.rest i hi).1, (k.rest i hi).2.trans (h.rest i hi).2⟩⟩
theorem Turn.grow {w w' : World} {b : Nat} (hb : Below w.heap.size w w') (hl : b < w.heap.size) : Turn w w' b := ⟨Chg.of_below hb, fun i _ => ⟨hb.cell (p := ⟨b, i, none⟩) hl, hb.frozen (p := ⟨b, i, none⟩) hl⟩⟩
theorem Turn.cells (w : World) (b o : Nat) (vs : List Value) (h : o + vs.length ≤ 76) : Turn w (w.setCells b o vs) b :=
  ⟨chg_setCells b vs o w, fun i hi => ⟨World.cell?_setCells_out b vs o w ⟨b, i, none⟩ (fun _ _ => .inr (by show o + vs.length ≤ i; omega)), World.frozen?_setCells b vs o w ⟨b, i, none⟩⟩⟩
theorem Turn.cell (w : World) (b j : Nat) (v : Value) (h : j < 76) : Turn w (w.setCell ⟨b, j, none⟩ v) b :=
  ⟨Chg.setCell w ⟨b, j, none⟩ v, fun i hi => ⟨World.cell?_setCell_other _ _ _ _ (by intro q; injection q with q1 q2 q3; omega), World.frozen?_setCell ..⟩⟩
theorem Turn.drew (w : World) (b : Nat) : Turn w w.drew b := ⟨Chg.drew _ _, fun _ _ => ⟨rfl, rfl⟩⟩
set_option maxHeartbeats 1000000 in
set_option maxRecDepth 100000 in
theorem stop_calls (b : Nat) (S : SS) (w : World) (h : SSAt w b S) :
    Calls Tryz.prog 196 #[.pointer (some ⟨b, 0, none⟩)] w fun e w' => e = .returned (.tuple #[]) ∧ w' = w.setCells b 0 (ssCells (overS 2 S.rd (.slice none 0 0) (.slice none 0 0))) := by
  have c5 := h.rd
  have hst := stcl Tryz.prog b 0 (ssCells (overS 2 S.rd (.slice none 0 0) (.slice none 0 0))) w (h.there 0 76 (by omega)) (ssCells_one _ (fun _ _ => rfl) rfl rfl rfl)
  have hst2 : (storeCells ⟨b, 0, none⟩ ((((Tryz.zeroCells106.toList.set 72 (Value.int IntKind.i64 2)).set 73 (Value.int IntKind.i64 S.rd)).set 74 (Value.slice none 0 0)).set 75 (Value.slice none 0 0)) 0).run Tryz.prog w = .ok () (w.setCells b 0 (ssCells (overS 2 S.rd (.slice none 0 0) (.slice none 0 0)))) := hst
  clear hst
  generalize ssCells (overS 2 S.rd (.slice none 0 0) (.slice none 0 0)) = cs at *
  generalize S.rd = rd at *
  go_enter Tryz.func196, Tryz.ntmps196
  go_wp2_with fail
  go_end0
  exact ⟨rfl, rfl⟩
def nextS (S : SS) (pb : Nat → Int) (sh : Nat → Bool) (ml : Value) : SS := { S with rd := S.rd + 1, sn := S.ct, ct := fun _ => false, it := fun _ => .slice none 0 0, pb := pb, sh := sh, ml := ml }
theorem next_tail {w : World} {b : Nat} {S : SS} (h : SSAt w b S) (r : Int) (hr : S.rd = r) :
    (w.cell? ⟨b, 5, none⟩ = some (.int .i64 r) ∧ w.frozen? ⟨b, 5, none⟩ = false) ∧
    ((w.setCell ⟨b, 5, none⟩ (.int .i64 (r + 1))).rangeAt b 19 (bl13 S.ct) ∧ (w.setCell ⟨b, 5, none⟩ (.int .i64 (r + 1))).there b 6 (bl13 S.ct).toArray.size) ∧
    ((w.setCell ⟨b, 5, none⟩ (.int .i64 (r + 1))).setCells b 6 (bl13 S.ct)).there b 19 (bl13 fun _ => false).toArray.size ∧
    (((w.setCell ⟨b, 5, none⟩ (.int .i64 (r + 1))).setCells b 6 (bl13 S.ct)).setCells b 19 (bl13 fun _ => false)).there b 32 (v13 fun _ => .slice none 0 0).toArray.size ∧
    SSAt ((((w.setCell ⟨b, 5, none⟩ (.int .i64 (r + 1))).setCells b 6 (bl13 S.ct)).setCells b 19 (bl13 fun _ => false)).setCells b 32 (v13 fun _ => .slice none 0 0)) b (nextS S S.pb S.sh S.ml) ∧
    Turn w ((((w.setCell ⟨b, 5, none⟩ (.int .i64 (r + 1))).setCells b 6 (bl13 S.ct)).setCells b 19 (bl13 fun _ => false)).setCells b 32 (v13 fun _ => .slice none 0 0)) b := by
  subst hr
  have h2 := h.setRd (S.rd + 1)
  have h3 := h2.allSn S.ct
  have h4 := h3.allCt fun _ => false
  have h5 := h4.allIt fun _ => .slice none 0 0
  exact ⟨⟨h.rd, h.froz 5 (by omega)⟩, ⟨h2.allct, h2.there 6 13 (by omega)⟩, h3.there 19 13 (by omega), h4.there 32 13 (by omega), h5,
    (((Turn.cell w b 5 _ (by omega)).trans (Turn.cells _ b 6 (bl13 S.ct) (by rw [bl13_length]; omega))).trans (Turn.cells _ b 19 (bl13 fun _ => false) (by rw [bl13_length]; omega))).trans (Turn.cells _ b 32 (v13 fun _ => .slice none 0 0) (by rw [v13_length]; omega))⟩
theorem size_memF : (Tryz.prog.info? 101).map (·.size) = some (bl13 fun _ => false).toArray.size := size_mem
theorem size_listN : (Tryz.prog.info? 103).map (·.size) = some (v13 fun _ => .slice none 0 0).toArray.size := size_lists
theorem one_memF : (bl13 fun _ => false).toArray.all (·.oneCell') = true := all_oneCell_toArray (bl13_one fun _ => false)
theorem one_listN : (v13 fun _ => .slice none 0 0).toArray.all (·.oneCell') = true := all_oneCell_toArray (v13_all (P := fun v => v.oneCell' = true) (fun _ _ => rfl))
set_option maxHeartbeats 2000000 in
set_option maxRecDepth 100000 in
theorem beginNext_one (b : Nat) (S : SS) (w : World) (h : SSAt w b S) (hrd : S.rd = 1) :
    Calls Tryz.prog 199 #[.pointer (some ⟨b, 0, none⟩)] w fun e w' => e = .returned (.tuple #[]) ∧ SSAt w' b (nextS S S.pb S.ct S.ml) ∧ Turn w w' b := by
  have c5 := h.rd
  rw [hrd] at c5
  have hbl := h.lt
  have R0 := hideG h.allct
  have T0 := hideG (show w.there b 58 (bl13 S.ct).toArray.size from h.there 58 13 (by omega))
  obtain ⟨W1, hW1⟩ : ∃ W1, W1 = w.setCells b 58 (bl13 S.ct) := ⟨_, rfl⟩
  have H1 := hideG (show SSAt W1 b { S with sh := S.ct } by rw [hW1]; exact h.allSh S.ct)
  have H1r := hideG (show ({ S with sh := S.ct } : SS).rd = 1 from hrd)
  have HT1 := hideG (show Turn w W1 b by rw [hW1]; exact Turn.cells w b 58 (bl13 S.ct) (by rw [bl13_length]; omega))
  have HW1 := hideG hW1
  clear hW1
  obtain ⟨⟨d5, f5⟩, ⟨r2, t2⟩, t3, t4, h5, tn⟩ := next_tail H1.out 1 H1r.out
  have R2 := hideG r2
  have T2 := hideG t2
  have T3 := hideG t3
  have T4 := hideG t4
  have HE := hideG (show SSAt _ b (nextS S S.pb S.ct S.ml) ∧ Turn w _ b from ⟨h5, HT1.out.trans tn⟩)
  clear r2 t2 t3 t4 h5 tn
  obtain ⟨CT, hCT⟩ : ∃ CT, CT = bl13 S.ct := ⟨_, rfl⟩
  change Hid (World.rangeAt (W1.setCell ⟨b, 5, none⟩ (.int .i64 (1 + 1))) b 19 (bl13 S.ct)) at R2
  rw [show (bl13 ({ S with sh := S.ct } : SS).ct) = bl13 S.ct from rfl] at T2 T3 T4 HE
  rw [← hCT] at R0 T0 HW1 R2 T2 T3 T4 HE
  have LX := hideG (show CT.length = 13 by rw [hCT]; rfl)
  have HON := hideG (show CT.toArray.all (·.oneCell') = true by rw [hCT]; exact all_oneCell_toArray (bl13_one S.ct))
  clear hCT
  have HSL := hideG (show (Tryz.prog.info? 101).map (·.size) = some CT.length by rw [size_mem, LX.out])
  have HSZ := hideG (show (Tryz.prog.info? 101).map (·.size) = some CT.toArray.size by rw [size_mem, List.size_toArray, LX.out])
  go_enter Tryz.func199, Tryz.ntmps199
  go_upto_region 7 with (first | refine wpList_load_mid rfl 101 _ rfl b 19 rfl CT _ R0.out Tryz.underlying101 rfl HSL.out ?_ | refine wpList_store_mid rfl 101 _ _ rfl b 58 CT.toArray rfl rfl T0.out HSZ.out HON.out ?_)
  rw [← HW1.out]
  go_upto_region 8 with fail
  go_upto_region 9 with (first | refine wpList_load_mid rfl 101 _ rfl b 19 rfl CT _ R2.out Tryz.underlying101 rfl HSL.out ?_ | refine wpList_store_mid rfl 101 _ _ rfl b 6 CT.toArray rfl rfl T2.out HSZ.out HON.out ?_)
  go_upto_region 10 with (refine wpList_store_mid rfl 101 _ _ rfl b 19 (bl13 fun _ => false).toArray rfl rfl T3.out size_memF one_memF ?_)
  go_wp2_with (refine wpList_store_mid rfl 103 _ _ rfl b 32 (v13 fun _ => .slice none 0 0).toArray rfl rfl T4.out size_listN one_listN ?_)
  go_end0
  exact ⟨rfl, HE.out.1, HE.out.2⟩
set_option maxHeartbeats 2000000 in
set_option maxRecDepth 100000 in
theorem beginNext_zero (b : Nat) (S : SS) (L : Nat → List Frm.It) (w : World) (h : SSAt w b S) (hL : ∀ v, v < 13 → ItemsAt w (S.it v) (L v)) (hrd : S.rd = 0) :
    Calls Tryz.prog 199 #[.pointer (some ⟨b, 0, none⟩)] w fun e w' => e = .returned (.tuple #[]) ∧ SSAt w' b (nextS S (fun u : Nat => (Cli.itemOf (L u) u).2.2.1) S.sh S.ml) ∧ Turn w w' b := by
  have c5 := h.rd
  rw [hrd] at c5
  have hbl := h.lt
  have MP := hideG (maskPublics_calls b S L w h hL)
  have HS := hideG h
  clear h hL
  go_enter Tryz.func199, Tryz.ntmps199
  go_wp2_with fail
  refine MP.out.mono ?_
  rintro e w0 ⟨rfl, hb0⟩
  have h0 := HS.out.below hb0
  have T0 := hideG (show w0.there b 45 (v13 fun u : Nat => .int .i64 (Cli.itemOf (L u) u).2.2.1).toArray.size from h0.there 45 13 (by omega))
  obtain ⟨W1, hW1⟩ : ∃ W1, W1 = w0.setCells b 45 (v13 fun u : Nat => .int .i64 (Cli.itemOf (L u) u).2.2.1) := ⟨_, rfl⟩
  have H1 := hideG (show SSAt W1 b { S with pb := fun u : Nat => (Cli.itemOf (L u) u).2.2.1 } by rw [hW1]; exact h0.allPb _)
  have H1r := hideG (show ({ S with pb := fun u : Nat => (Cli.itemOf (L u) u).2.2.1 } : SS).rd = 0 from hrd)
  have HT1 := hideG (show Turn w W1 b by rw [hW1]; exact (Turn.grow hb0 hbl).trans (Turn.cells w0 b 45 _ (by rw [v13_length]; omega)))
  have HW1 := hideG hW1
  have HO1 := hideG (all_oneCell_toArray (itemsV_one (fun u : Nat => (Cli.itemOf (L u) u).2.2.1)))
  have HS1 := hideG (show (Tryz.prog.info? 104).map (·.size) = some (v13 fun u : Nat => .int .i64 (Cli.itemOf (L u) u).2.2.1).toArray.size by rw [size_nums, List.size_toArray, v13_length])
  clear hW1 hb0 h0
  obtain ⟨⟨d5, f5⟩, ⟨r2, t2⟩, t3, t4, h5, tn⟩ := next_tail H1.out 0 H1r.out
  have R2 := hideG r2
  have T2 := hideG t2
  have T3 := hideG t3
  have T4 := hideG t4
  have HE := hideG (show SSAt _ b (nextS S (fun u : Nat => (Cli.itemOf (L u) u).2.2.1) S.sh S.ml) ∧ Turn w _ b from ⟨h5, HT1.out.trans tn⟩)
  clear r2 t2 t3 t4 h5 tn
  obtain ⟨CT, hCT⟩ : ∃ CT, CT = bl13 S.ct := ⟨_, rfl⟩
  change Hid (World.rangeAt (W1.setCell ⟨b, 5, none⟩ (.int .i64 (0 + 1))) b 19 (bl13 S.ct)) at R2
  rw [show (bl13 ({ S with pb := fun u : Nat => (Cli.itemOf (L u) u).2.2.1 } : SS).ct) = bl13 S.ct from rfl] at T2 T3 T4 HE
  rw [← hCT] at R2 T2 T3 T4 HE
  have LX := hideG (show CT.length = 13 by rw [hCT]; rfl)
  have HON := hideG (show CT.toArray.all (·.oneCell') = true by rw [hCT]; exact all_oneCell_toArray (bl13_one S.ct))
  clear hCT
  have HSL := hideG (show (Tryz.prog.info? 101).map (·.size) = some CT.length by rw [size_mem, LX.out])
  have HSZ := hideG (show (Tryz.prog.info? 101).map (·.size) = some CT.toArray.size by rw [size_mem, List.size_toArray, LX.out])
  obtain ⟨PB, hPB⟩ : ∃ PB, PB = v13 fun u : Nat => .int .i64 (Cli.itemOf (L u) u).2.2.1 := ⟨_, rfl⟩
  rw [← hPB] at T0 HW1 HO1 HS1 ⊢
  clear hPB
  go_upto_region 7 with (refine wpList_store_mid rfl 104 _ _ rfl b 45 PB.toArray rfl rfl T0.out HS1.out HO1.out ?_)
  rw [← HW1.out]
  go_upto_region 8 with fail
  go_upto_region 9 with (first | refine wpList_load_mid rfl 101 _ rfl b 19 rfl CT _ R2.out Tryz.underlying101 rfl HSL.out ?_ | refine wpList_store_mid rfl 101 _ _ rfl b 6 CT.toArray rfl rfl T2.out HSZ.out HON.out ?_)
  go_upto_region 10 with (refine wpList_store_mid rfl 101 _ _ rfl b 19 (bl13 fun _ => false).toArray rfl rfl T3.out size_memF one_memF ?_)
  go_wp2_with (refine wpList_store_mid rfl 103 _ _ rfl b 32 (v13 fun _ => .slice none 0 0).toArray rfl rfl T4.out size_listN one_listN ?_)
  go_end0
  exact ⟨rfl, HE.out.1, HE.out.2⟩
set_option maxHeartbeats 2000000 in
set_option maxRecDepth 100000 in
theorem beginNext_two (b : Nat) (S : SS) (L : Nat → List Frm.It) (M : Nat) (w : World) (h : SSAt w b S) (hL : ∀ v, v < 13 → ItemsAt w (S.it v) (L v)) (hm : S.m = (M : Int)) (hM : M ≤ 12) (hw : ∀ (v : Nat) (x : Int), 0 ≤ (Cli.itemOf (L v) x).2.1 ∧ (Cli.itemOf (L v) x).2.1 < 4294967296) (hrd : S.rd = 2) :
    Calls Tryz.prog 199 #[.pointer (some ⟨b, 0, none⟩)] w fun e w' => e = .returned (.tuple #[]) ∧ ∃ va, w'.ownsRow w.heap.size 3 1 va M ((sumsG L M).map (Value.int .i64)) ∧ SSAt w' b (nextS S S.pb S.sh va) ∧ Turn w w' b := by
  have c5 := h.rd
  rw [hrd] at c5
  have hbl := h.lt
  have MP := hideG (maskedSum_calls b S L M w h hL hm hM hw)
  have HS := hideG h
  clear h hL hm hw
  go_enter Tryz.func199, Tryz.ntmps199
  go_wp2_with fail
  refine MP.out.mono ?_
  rintro e w0 ⟨va, rfl, hown, hb0⟩
  have h0 := HS.out.below hb0
  obtain ⟨a3, c3, hv3⟩ := owns_form hown
  subst hv3
  obtain ⟨W1, hW1⟩ : ∃ W1, W1 = w0.setCell ⟨b, 71, none⟩ (.slice a3 M c3) := ⟨_, rfl⟩
  have H1 := hideG (show SSAt W1 b { S with ml := .slice a3 M c3 } by rw [hW1]; exact h0.setMk _)
  have H1r := hideG (show ({ S with ml := .slice a3 M c3 } : SS).rd = 2 from hrd)
  have HT1 := hideG (show Turn w W1 b by rw [hW1]; exact (Turn.grow hb0 hbl).trans (Turn.cell w0 b 71 _ (by omega)))
  have HTT := hideG (show Turn w0 W1 b by rw [hW1]; exact Turn.cell w0 b 71 _ (by omega))
  have c71 := h0.ml
  have f71 := h0.froz 71 (by omega)
  have HW1 := hideG hW1
  have HOW := hideG hown
  have s0 := hb0.size
  clear hW1 hb0 h0 hown
  have TL := hideG (next_tail H1.out 2 H1r.out).2.2.2.2.2
  obtain ⟨⟨d5, f5⟩, ⟨r2, t2⟩, t3, t4, h5, tn⟩ := next_tail H1.out 2 H1r.out
  have R2 := hideG r2
  have T2 := hideG t2
  have T3 := hideG t3
  have T4 := hideG t4
  have HE := hideG (show SSAt _ b (nextS S S.pb S.sh (.slice a3 M c3)) ∧ Turn w _ b from ⟨h5, HT1.out.trans tn⟩)
  clear r2 t2 t3 t4 h5 tn
  obtain ⟨CT, hCT⟩ : ∃ CT, CT = bl13 S.ct := ⟨_, rfl⟩
  change Hid (World.rangeAt (W1.setCell ⟨b, 5, none⟩ (.int .i64 (2 + 1))) b 19 (bl13 S.ct)) at R2
  rw [show (bl13 ({ S with ml := .slice a3 M c3 } : SS).ct) = bl13 S.ct from rfl] at T2 T3 T4 HE
  rw [show (bl13 ({ S with ml := .slice a3 M c3 } : SS).ct) = bl13 S.ct from rfl] at TL
  rw [← hCT] at TL R2 T2 T3 T4 HE
  have LX := hideG (show CT.length = 13 by rw [hCT]; rfl)
  have HON := hideG (show CT.toArray.all (·.oneCell') = true by rw [hCT]; exact all_oneCell_toArray (bl13_one S.ct))
  clear hCT
  have HSL := hideG (show (Tryz.prog.info? 101).map (·.size) = some CT.length by rw [size_mem, LX.out])
  have HSZ := hideG (show (Tryz.prog.info? 101).map (·.size) = some CT.toArray.size by rw [size_mem, List.size_toArray, LX.out])
  go_upto_region 7 with fail
  rw [← HW1.out]
  go_upto_region 8 with fail
  go_upto_region 9 with (first | refine wpList_load_mid rfl 101 _ rfl b 19 rfl CT _ R2.out Tryz.underlying101 rfl HSL.out ?_ | refine wpList_store_mid rfl 101 _ _ rfl b 6 CT.toArray rfl rfl T2.out HSZ.out HON.out ?_)
  go_upto_region 10 with (refine wpList_store_mid rfl 101 _ _ rfl b 19 (bl13 fun _ => false).toArray rfl rfl T3.out size_memF one_memF ?_)
  go_wp2_with (refine wpList_store_mid rfl 103 _ _ rfl b 32 (v13 fun _ => .slice none 0 0).toArray rfl rfl T4.out size_listN one_listN ?_)
  go_end0
  refine ⟨rfl, _, ?_, HE.out.1, HE.out.2⟩
  exact ownsRow_chg HOW.out (HTT.out.trans TL.out).chg (fun x hx e => by have := (HOW.out.lt x hx).1; omega)
end Go.Proofs.YtchideljndagjabGreat
namespace Go.Proofs.YtchideljndagjabGreat
open Go.ChangeShapes Go.WideShapes Go.ChangeAt Go.RowKit
set_option linter.unusedVariables false
def allG (sn sh : Nat → Bool) (pb : Nat → Int) (sec : Nat → Int) (n : Nat) : List (Int × Bool) := ((Srv.lstN sh n).map fun v => withG sn pb v (sec v)).flatten
theorem allG_succ (sn sh : Nat → Bool) (pb : Nat → Int) (sec : Nat → Int) (n : Nat) : allG sn sh pb sec (n + 1) = allG sn sh pb sec n ++ (if sh n = true then withG sn pb n (sec n) else []) := by
  unfold allG; rw [Srv.lstN_succ, List.map_append, List.flatten_append]; split <;> simp
theorem withG_len (sn : Nat → Bool) (pb : Nat → Int) (v : Nat) (sec : Int) : (withG sn pb v sec).length ≤ 13 := by
  unfold withG; split
  · simp
  · exact mwG_len _ _ _ _ _
theorem withG_pos (sn : Nat → Bool) (pb : Nat → Int) (v : Nat) (sec : Int) (h : Srv.lst sn ≠ []) : 0 < (withG sn pb v sec).length := by
  unfold withG; split
  · simp
  · unfold mwG; rw [List.length_map]; exact List.length_pos_iff.2 h
theorem allG_len (sn sh : Nat → Bool) (pb : Nat → Int) (sec : Nat → Int) : ∀ n, (allG sn sh pb sec n).length ≤ n * 13
  | 0 => by simp [allG, Srv.lstN]
  | n + 1 => by
    have h1 := allG_len sn sh pb sec n
    have h2 := withG_len sn pb n (sec n)
    rw [allG_succ, List.length_append]
    split
    · omega
    · simp; omega
theorem mkV_one (l : List (Int × Bool)) : ∀ v ∈ flatV (l.map mkV), v.oneCell' = true := by
  intro v hv
  unfold flatV at hv
  obtain ⟨x, hx, hv⟩ := List.mem_flatten.1 hv
  obtain ⟨p, hp, rfl⟩ := List.mem_map.1 hx
  obtain ⟨q, hq, rfl⟩ := List.mem_map.1 hp
  simp only [List.mem_cons, List.not_mem_nil, or_false] at hv
  rcases hv with rfl | rfl <;> rfl
theorem addr_zero (g j : Nat) : (⟨g, 0, none⟩ : Addr).add j = ⟨g, j, none⟩ := by
  cases j with
  | zero => simp [Addr.add]
  | succ j => simp [Addr.add]
set_option maxHeartbeats 2000000 in
set_option maxRecDepth 100000 in
theorem smasks_calls (b : Nat) (S : SS) (L : Nat → List Frm.It) (w : World) (h : SSAt w b S) (hL : ∀ v, v < 13 → ItemsAt w (S.it v) (L v)) (hp : ∀ v, v < 13 → S.sh v = true → ptsB (tellG S.ct L v 13) = true) (hne : Srv.lst S.sn ≠ []) (hpb : ∀ u, u < 13 → 0 ≤ S.pb u ∧ S.pb u < 2305843009213693951) :
    Calls Tryz.prog 284 #[.pointer (some ⟨b, 0, none⟩)] w fun e w' => ∃ va, e = .returned va ∧ w'.ownsRow w.heap.size 292 2 va (allG S.sn S.sh S.pb (fun v => Lag.joinN (tellG S.ct L v 13)) 13).length (flatV ((allG S.sn S.sh S.pb (fun v => Lag.joinN (tellG S.ct L v 13)) 13).map mkV)) ∧ Below w.heap.size w w' := by
  obtain ⟨i1, hi1, hy0, hy1, hy2⟩ := info_parts infoMs
  have hbl := h.lt
  have HRG := hideG h.allsh
  have LX := hideG (bl13_length S.sh)
  have HIX := hideG (ix_mem S.sh)
  have HSE := hideG (fun (w1 : World) (k : Nat) (hk : k < 13) (hq : S.sh k = true) (hb : Below w.heap.size w w1) => secretOf_calls b S L k w1 (h.below hb) (fun v hv => (hL v hv).below hb) (hp k hk hq))
  have HMW := hideG (fun (w1 : World) (k : Nat) (hk : k < 13) (hb : Below w.heap.size w w1) => masksWith_calls b S k (Lag.joinN (tellG S.ct L k 13)) w1 (h.below hb) hk (Lag.joinN_lo _) (Lag.joinN_hi _) hpb)
  have HPO := hideG (fun (k : Nat) => withG_pos S.sn S.pb k (Lag.joinN (tellG S.ct L k 13)) hne)
  clear h hL hp hne hpb
  obtain ⟨sec, hsec⟩ : ∃ sec : Nat → Int, sec = fun v => Lag.joinN (tellG S.ct L v 13) := ⟨_, rfl⟩
  have e1 : ∀ k, Lag.joinN (tellG S.ct L k 13) = sec k := fun k => by rw [hsec]
  simp only [e1] at HSE HMW HPO ⊢
  clear hsec e1
  generalize S.sn = sn at *
  generalize S.pb = pb at *
  generalize S.sh = p at *
  obtain ⟨CS, hCS⟩ : ∃ CS, CS = bl13 p := ⟨_, rfl⟩
  rw [← hCS] at HRG LX HIX
  clear hCS
  go_enter Tryz.func284, Tryz.ntmps284
  go_wp2_with (refine wpList_load_mid rfl 101 _ rfl b 58 rfl CS _ HRG.out Tryz.underlying101 rfl ?z ?_)
  case z => rw [size_mem, LX.out]
  go_wp2_with fail
  go_loopw [3, 12] (fun ro i wr => ∃ k : Nat, k ≤ 13 ∧ i = .int .i64 k ∧ wr.ownsRow w.heap.size 292 2 ro (allG sn p pb sec k).length (flatV ((allG sn p pb sec k).map mkV)) ∧ Below w.heap.size w wr) (fun _ i _ => 13 - (intOf i).toNat)
  case atStart => exact ⟨0, by omega, rfl, World.ownsRow_nil _ _ _ _, Below.refl _ _⟩
  case round =>
    obtain ⟨k, hk, rfl, hown, hbel⟩ := hrel
    have HO := hideG hown
    have HB := hideG hbel
    have hsz := hbel.size
    obtain ⟨a3, c3, hv3⟩ := owns_form hown
    subst hv3
    clear hown hbel
    have hl13 : (allG sn p pb sec k).length ≤ 169 := by have := allG_len sn p pb sec k; omega
    have HSU := hideG (allG_succ sn p pb sec k)
    by_cases hlt : k < 13
    · have hlt' : (k : Int) < 13 := by omega
      have hix := HIX.out k hlt
      cases q : p k
      · rw [q] at hix
        have HS2 := hideG (show allG sn p pb sec (k + 1) = allG sn p pb sec k by rw [HSU.out, q]; simp)
        clear q
        go_wp2_with fail
        go_roundw
        case rel => exact ⟨k + 1, by omega, by go_num, by rw [HS2.out]; exact HO.out, HB.out⟩
        case measure => simp [intOf]; omega
      · rw [q] at hix
        have HS2 := hideG (show allG sn p pb sec (k + 1) = allG sn p pb sec k ++ withG sn pb k (sec k) by rw [HSU.out, q]; simp)
        have SE := hideG (HSE.out wr k hlt q HB.out)
        clear q
        go_wp2_with fail
        refine SE.out.mono ?_
        rintro e w1 ⟨rfl, hb1⟩
        have B1 := hideG (HB.out.trans (hb1.mono HB.out.size))
        have O1 := hideG (ownsRow_chg (S := fun _ => False) HO.out (Chg.of_below hb1) (fun _ _ h => h))
        clear hb1
        have MW := hideG (HMW.out w1 k hlt B1.out)
        go_wp2_with fail
        refine MW.out.mono ?_
        rintro e w2 ⟨va, rfl, hva, hb2⟩
        have s2 := hb2.size
        have B2 := hideG (B1.out.trans (hb2.mono B1.out.size))
        have O2 := hideG (ownsRow_chg (S := fun _ => False) O1.out (Chg.of_below hb2) (fun _ _ h => h))
        have wl := withG_len sn pb k (sec k)
        obtain ⟨g, cap, hvv, _, hgl, hc1, hc2, hcc⟩ := owns_cells hva (HPO.out k)
        subst hvv
        have HCC := hideG hcc
        have HL2 := hideG (show (flatV ((withG sn pb k (sec k)).map mkV)).length = (withG sn pb k (sec k)).length * 2 by rw [flatV_length, List.length_map])
        have HO2 := hideG (mkV_one (withG sn pb k (sec k)))
        clear hb2 hva hcc
        have sB := B2.out.size
        generalize withG sn pb k (sec k) = lf at *
        go_wp2_with (at_builtin; refine wpList_append_own _ rfl _ _ 285 rfl w.heap.size 292 i1 (.agg #[.int .i64 0, .bool false]) 2 16 Tryz.underlying285 hi1 hy0 hy1 hy2 rfl (by decide) _ _ _ rfl O2.out ⟨g, 0, none⟩ lf.length cap (flatV (lf.map mkV)) rfl HL2.out ?c1 HO2.out ?c3 ?c4 ?c5 ?_)
        case c1 => intro j u hu; rw [addr_zero]; exact HCC.out j u hu
        case c3 => unfold maxLen; omega
        case c4 => omega
        case c5 => omega
        intro v' w4 hown' hgrow' _
        have hb4 := B2.out.grown hgrow' sB (fun y hy => (O2.out.lt y hy).1)
        have B4 := hideG hb4
        have O4 := hideG (show w4.ownsRow w.heap.size 292 2 v' (allG sn p pb sec (k + 1)).length (flatV ((allG sn p pb sec (k + 1)).map mkV)) by
          rw [HS2.out, List.map_append, flatV_append, List.length_append]; exact hown')
        clear hown' hgrow' hb4
        go_wp2_with fail
        go_roundw
        case rel => exact ⟨k + 1, by omega, by go_num, O4.out, B4.out⟩
        case measure => simp [intOf]; omega
    · have ek : k = 13 := by omega
      subst ek
      go_wp2_with fail
      go_ret
      exact ⟨_, rfl, HO.out, HB.out⟩
def MsAt (w : World) (v : Value) (ms : List (Int × Bool)) : Prop :=
  ∃ (a : Option Addr) (cap : Nat), v = .slice a ms.length cap ∧ ms.length ≤ cap ∧ cap ≤ 9223372036854775807 ∧
    ∀ i, i < ms.length → ∃ b off, a = some ⟨b, off, none⟩ ∧ b < w.heap.size ∧ w.cell? ⟨b, off + i * 2, none⟩ = some (.int .i64 (ms.getD i (0, false)).1) ∧ w.cell? ⟨b, off + i * 2 + 1, none⟩ = some (.bool (ms.getD i (0, false)).2)
theorem MsAt.below {w w' : World} {v : Value} {ms : List (Int × Bool)} (h : MsAt w v ms) (hb : Below w.heap.size w w') : MsAt w' v ms := by
  obtain ⟨a, cap, h1, h2, h3, h4⟩ := h
  refine ⟨a, cap, h1, h2, h3, fun i hi => ?_⟩
  obtain ⟨b, off, e1, e2, e3, e4⟩ := h4 i hi
  exact ⟨b, off, e1, Nat.lt_of_lt_of_le e2 hb.size, (hb.cell (p := ⟨b, off + i * 2, none⟩) e2).trans e3, (hb.cell (p := ⟨b, off + i * 2 + 1, none⟩) e2).trans e4⟩
theorem msAt_owns {w : World} {B : Nat} {v : Value} {ms : List (Int × Bool)} (h : w.ownsRow B 292 2 v ms.length (flatV (ms.map mkV))) : MsAt w v ms := by
  by_cases hn : 0 < ms.length
  · obtain ⟨g, cap, hv, hb, hl, h3, h4, hc⟩ := owns_cells h hn
    refine ⟨_, _, hv, h3, by unfold maxLen at h4; omega, fun i hi => ⟨g, 0, rfl, hl, ?_⟩⟩
    have e : (ms.map mkV)[i]? = some (mkV ms[i]) := by rw [List.getElem?_map, List.getElem?_eq_getElem hi]; rfl
    have eg : ms.getD i (0, false) = ms[i] := by rw [List.getD_eq_getElem?_getD, List.getElem?_eq_getElem hi]; rfl
    obtain ⟨e1, e2⟩ := flatV_get _ i _ e
    rw [eg, Nat.zero_add]
    exact ⟨hc _ _ e1, hc _ _ e2⟩
  · obtain ⟨a, cap, e⟩ := owns_form h
    obtain ⟨_, h2⟩ := h
    rcases h2 with ⟨h2, h3⟩ | ⟨g, cap', cur, hv, _, _, h3, h4, _⟩
    · exact ⟨none, 0, by rw [h2, h3], by omega, by omega, fun i hi => by omega⟩
    · exact ⟨_, cap', hv, h3, by unfold maxLen at h4; omega, fun i hi => by omega⟩
theorem offN_take (ms : List (Int × Bool)) (i k : Nat) (hk : k < ms.length) : Srv.offN (ms.take (k + 1)) i = Srv.offN (ms.take k) i + Srv.offI i (ms.getD k (0, false)) := by
  have e : ms.take (k + 1) = ms.take k ++ [ms.getD k (0, false)] := by rw [List.take_succ_eq_append_getElem hk, List.getD_eq_getElem?_getD, List.getElem?_eq_getElem hk]; rfl
  rw [e, Srv.offN_app]; simp [Srv.offN]
set_option maxHeartbeats 1000000 in
set_option maxRecDepth 100000 in
theorem takenOff_calls (v : Value) (ms : List (Int × Bool)) (i : Nat) (w : World) (h : MsAt w v ms) (hl : ms.length ≤ 169) (hi : i ≤ 12) (hel : ∀ k, k < ms.length → 0 ≤ (ms.getD k (0, false)).1 ∧ (ms.getD k (0, false)).1 < 2305843009213693951) :
    Calls Tryz.prog 285 #[v, .int .i64 ((i : Int) + 1)] w fun e w' => e = .returned (.int .i64 (Srv.offN ms i)) ∧ Below w.heap.size w w' := by
  obtain ⟨a, cap, rfl, h2, h3, hc⟩ := h
  have HC := hideG hc
  have HEL := hideG hel
  have HTK := hideG (offN_take ms i)
  have HBD := hideG (fun k => Srv.offN_bd i (ms.take k))
  have HTL := hideG (show ms.take ms.length = ms from List.take_length)
  have HLT := hideG (fun k => (show (ms.take k).length ≤ 169 by rw [List.length_take]; omega))
  clear hc hel
  generalize ms.length = n at *
  go_enter Tryz.func285, Tryz.ntmps285
  go_wp2_with fail
  go_loopw [5, 10] (fun x j wr => ∃ k : Nat, k ≤ n ∧ j = .int .i64 (k : Int) ∧ x = .int .i64 (Srv.offN (ms.take k) i) ∧ Below w.heap.size w wr) (fun _ j _ => n - (intOf j).toNat)
  case atStart => exact ⟨0, Nat.zero_le _, rfl, rfl, Below.refl _ _⟩
  case round =>
    obtain ⟨k, hk, rfl, rfl, hbel⟩ := hrel
    have HB := hideG hbel
    have hsz := hbel.size
    clear hbel
    have bd := HBD.out k
    have lt := HLT.out k
    by_cases hlt : k < n
    · obtain ⟨b', off, rfl, hb, d0, d1⟩ := HC.out k hlt
      have d0' := (HB.out.cell (p := ⟨b', off + k * 2, none⟩) hb).trans d0
      have d1' := (HB.out.cell (p := ⟨b', off + k * 2 + 1, none⟩) hb).trans d1
      clear d0 d1
      obtain ⟨el1, el2⟩ := HEL.out k hlt
      have HT := hideG (HTK.out k hlt)
      obtain ⟨t, ht⟩ : ∃ t, t = Srv.offN (ms.take k) i := ⟨_, rfl⟩
      have tb : 0 ≤ t ∧ t ≤ 725849473024 := by rw [ht]; omega
      rw [← ht] at HT ⊢
      clear ht bd lt
      obtain ⟨tb1, tb2⟩ := tb
      obtain ⟨sd, ad, hm⟩ : ∃ sd ad, ms.getD k (0, false) = (sd, ad) := ⟨_, _, rfl⟩
      rw [hm] at d0' d1' el1 el2 HT
      clear hm
      have MN := hideG (fun (w1 : World) => maskNumber_calls sd i w1 el1 el2 hi)
      obtain ⟨sr1, sr2⟩ := Cli.strAt_range sd i
      have HT2 := hideG (show Srv.offI i (sd, ad) = if ad = true then 4294967296 - Num.strAt sd i else Num.strAt sd i from rfl)
      obtain ⟨m, hmm⟩ : ∃ m, m = Num.strAt sd i := ⟨_, rfl⟩
      rw [← hmm] at MN sr1 sr2 HT2
      clear hmm
      have B1 := hideG (HB.out.alloc (by omega) (.cells #[.int .i64 sd, .bool ad] 292))
      cases ad
      · have HT3 := hideG (show Srv.offN (ms.take (k + 1)) i = t + m by rw [HT.out, HT2.out]; simp)
        go_wp2_with fail
        refine (MN.out _).mono ?_
        rintro e w2 ⟨rfl, rfl⟩
        go_wp2_with fail
        go_roundw
        case rel => exact ⟨k + 1, by omega, by go_num, by rw [HT3.out], B1.out⟩
        case measure => simp [intOf]; omega
      · have HT3 := hideG (show Srv.offN (ms.take (k + 1)) i = t + 4294967296 - m by rw [HT.out, HT2.out]; simp; omega)
        go_wp2_with fail
        refine (MN.out _).mono ?_
        rintro e w2 ⟨rfl, rfl⟩
        go_wp2_with fail
        go_roundw
        case rel => exact ⟨k + 1, by omega, by go_num, by rw [HT3.out], B1.out⟩
        case measure => simp [intOf]; omega
    · have ek : k = n := by omega
      subst ek
      go_wp2_with fail
      go_ret
      exact ⟨ret_i64 (by rw [HTL.out]), HB.out⟩
end Go.Proofs.YtchideljndagjabGreat
namespace Go.Proofs.YtchideljndagjabGreat
open Go.ChangeShapes Go.WideShapes Go.ChangeAt Go.RowKit
set_option linter.unusedVariables false
def unG (zs : List Int) (ms : List (Int × Bool)) (n : Nat) : List Int := (List.range n).map fun i => (zs.getD i 0 + Srv.offN ms i) % 4294967296
theorem unG_succ (zs : List Int) (ms : List (Int × Bool)) (n : Nat) : unG zs ms (n + 1) = unG zs ms n ++ [(zs.getD n 0 + Srv.offN ms n) % 4294967296] := by unfold unG; rw [List.range_succ, List.map_append]; rfl
theorem withG_el (sn : Nat → Bool) (pb : Nat → Int) (v : Nat) (sec : Int) (h : 0 ≤ sec ∧ sec < 2305843009213693951) : ∀ m ∈ withG sn pb v sec, 0 ≤ m.1 ∧ m.1 < 2305843009213693951 := by
  intro m hm
  unfold withG at hm
  split at hm
  · simp at hm; subst hm; exact h
  · unfold mwG at hm
    obtain ⟨u, _, rfl⟩ := List.mem_map.1 hm
    exact ⟨Num.powP_lo _ _, Num.powP_hi _ _⟩
theorem allG_el (sn sh : Nat → Bool) (pb : Nat → Int) (sec : Nat → Int) (h : ∀ v, 0 ≤ sec v ∧ sec v < 2305843009213693951) (n : Nat) : ∀ k, k < (allG sn sh pb sec n).length → 0 ≤ ((allG sn sh pb sec n).getD k (0, false)).1 ∧ ((allG sn sh pb sec n).getD k (0, false)).1 < 2305843009213693951 := by
  intro k hk
  rw [List.getD_eq_getElem?_getD, List.getElem?_eq_getElem hk]
  have hm : (allG sn sh pb sec n)[k] ∈ allG sn sh pb sec n := List.getElem_mem hk
  unfold allG at hm
  obtain ⟨l, hl, hm⟩ := List.mem_flatten.1 hm
  obtain ⟨v, _, rfl⟩ := List.mem_map.1 hl
  exact withG_el sn pb v (sec v) (h v) _ hm
set_option maxHeartbeats 2000000 in
set_option maxRecDepth 100000 in
theorem unmasked_calls (b : Nat) (S : SS) (L : Nat → List Frm.It) (zs : List Int) (w : World) (h : SSAt w b S) (hL : ∀ v, v < 13 → ItemsAt w (S.it v) (L v)) (hp : ∀ v, v < 13 → S.sh v = true → ptsB (tellG S.ct L v 13) = true) (hne : Srv.lst S.sn ≠ []) (hpb : ∀ u, u < 13 → 0 ≤ S.pb u ∧ S.pb u < 2305843009213693951)
    (hml : ListAt w S.ml zs) (hz : ∀ z ∈ zs, 0 ≤ z ∧ z < 4294967296) (hn : zs.length ≤ 12) :
    Calls Tryz.prog 249 #[.pointer (some ⟨b, 0, none⟩)] w fun e w' => ∃ va, e = .returned va ∧ w'.ownsRow w.heap.size 3 1 va zs.length ((unG zs (allG S.sn S.sh S.pb (fun v => Lag.joinN (tellG S.ct L v 13)) 13) zs.length).map (Value.int .i64)) ∧ Below w.heap.size w w' := by
  obtain ⟨i0, hi, hz0, hz1, hz2⟩ := info_parts infoIn
  have hbl := h.lt
  have MC := hideG (smasks_calls b S L w h hL hp hne hpb)
  have HEL := hideG (allG_el S.sn S.sh S.pb (fun v => Lag.joinN (tellG S.ct L v 13)) (fun v => ⟨Lag.joinN_lo _, Lag.joinN_hi _⟩) 13)
  have HAL := hideG (show (allG S.sn S.sh S.pb (fun v => Lag.joinN (tellG S.ct L v 13)) 13).length ≤ 169 from allG_len _ _ _ _ 13)
  obtain ⟨a1, c1, hv1, l1, l2, hcl⟩ := list_view hml
  have HC7 := hideG (fun (w1 : World) (hb : Below w.heap.size w w1) => (show w1.cell? ⟨b, 71, none⟩ = some (.slice a1 zs.length c1) by rw [← hv1]; exact (h.below hb).ml))
  have HC := hideG hcl
  have HZ := hideG (fun k (hk : k < zs.length) => hz (zs.getD k 0) (by rw [List.getD_eq_getElem?_getD, List.getElem?_eq_getElem hk]; exact List.getElem_mem hk))
  clear h hL hp hne hpb hml hz hv1 hcl
  generalize allG S.sn S.sh S.pb (fun v => Lag.joinN (tellG S.ct L v 13)) 13 = ms at *
  have HSU := hideG (unG_succ zs ms)
  generalize zs.length = n at *
  go_enter Tryz.func249, Tryz.ntmps249
  go_wp2_with fail
  refine MC.out.mono ?_
  rintro e w0 ⟨vm, rfl, hvm, hb0⟩
  have s0 := hb0.size
  obtain ⟨am, cm, hmv⟩ := owns_form hvm
  have HMS := hideG (msAt_owns hvm)
  subst hmv
  have c71 := HC7.out w0 hb0
  have B0 := hideG hb0
  clear hvm hb0
  have HTO := hideG (fun (w1 : World) (k : Nat) (hk : k ≤ 12) (hb : Below w0.heap.size w0 w1) => takenOff_calls _ ms k w1 (HMS.out.below hb) HAL.out hk HEL.out)
  have HBD := hideG (fun k => Srv.offN_bd k ms)
  have HML := hideG HAL.out
  go_wp2_with fail
  go_loopw [4, 15] (fun ro j wr => ∃ k : Nat, k ≤ n ∧ j = .int .i64 (k : Int) ∧ wr.ownsRow w0.heap.size 3 1 ro k ((unG zs ms k).map (Value.int .i64)) ∧ Below w0.heap.size w0 wr ∧ Below w.heap.size w wr) (fun _ j _ => n - (intOf j).toNat)
  case atStart => exact ⟨0, Nat.zero_le _, rfl, World.ownsRow_nil _ _ _ _, Below.refl _ _, B0.out⟩
  case round =>
    obtain ⟨k, hk, rfl, hown, hbel, hbw⟩ := hrel
    have HO := hideG hown
    have HB := hideG hbel
    have HBW := hideG hbw
    have hsz := hbel.size
    have hszw := hbw.size
    obtain ⟨a3, c3, hv3⟩ := owns_form hown
    subst hv3
    clear hown hbel hbw
    by_cases hlt : k < n
    · obtain ⟨b', off, hbe, d0⟩ := HC.out k hlt
      subst hbe
      have hb : b' < w.heap.size := World.block_lt_of_cell? w ⟨b', off + k, none⟩ d0
      have d0' := (HBW.out.cell (p := ⟨b', off + k, none⟩) hb).trans d0
      clear d0
      obtain ⟨z1, z2⟩ := HZ.out k hlt
      have HS2 := hideG (HSU.out k)
      have TO := hideG (HTO.out wr k (by omega) HB.out)
      obtain ⟨q1, q2⟩ := HBD.out k
      have q3 : Srv.offN ms k ≤ 725849473024 := by have := HML.out; omega
      obtain ⟨t, ht⟩ : ∃ t, t = Srv.offN ms k := ⟨_, rfl⟩
      rw [← ht] at TO q1 q3 HS2
      clear ht q2
      obtain ⟨z, hzz⟩ : ∃ z, z = zs.getD k 0 := ⟨_, rfl⟩
      rw [← hzz] at d0' z1 z2 HS2
      clear hzz
      go_wp2_with fail
      refine TO.out.mono ?_
      rintro e w1 ⟨rfl, hb1⟩
      have s1 := hb1.size
      have B1 := hideG (HB.out.trans (hb1.mono HB.out.size))
      have BW1 := hideG (HBW.out.trans (hb1.mono HBW.out.size))
      have O1 := hideG (ownsRow_chg (S := fun _ => False) HO.out (Chg.of_below hb1) (fun _ _ h => h))
      clear hb1
      obtain ⟨R, hR⟩ : ∃ R, R = (z + t) % 4294967296 := ⟨_, rfl⟩
      have hR' : (z + t) % 4294967296 = R := hR.symm
      have HRR := hideG hR'
      clear hR
      go_wp2_with (at_builtin; refine wpList_append_own _ rfl _ _ 33 rfl w0.heap.size 3 i0 (.int .i64 0) 1 8 Tryz.underlying33 hi hz0 hz1 hz2 rfl (by decide) _ _ _ rfl (O1.out.alloc _) ⟨w1.heap.size, 0, none⟩ 1 1 [.int .i64 R] rfl rfl ?c1 ?c2 ?c3 ?c4 ?c5 ?_)
      case c1 => exact cell_one_new _ _ _
      case c2 => intro u hu; simp at hu; subst hu; rfl
      case c3 => unfold maxLen; omega
      case c4 => omega
      case c5 => simp; omega
      intro v' w2 hown' hgrow' _
      have hb2 := (BW1.out.alloc (by omega) _).grown hgrow' (by simp; omega) (fun x h => Nat.le_trans s0 (O1.out.lt x h).1)
      have hb3 : Below w0.heap.size w0 w2 := (B1.out.alloc (by omega) _).grown hgrow' (by simp; omega) (fun x h => (O1.out.lt x h).1)
      have BW2 := hideG hb2
      have B2 := hideG hb3
      have O2 := hideG (show w2.ownsRow w0.heap.size 3 1 v' (k + 1) ((unG zs ms (k + 1)).map (Value.int .i64)) by
        rw [HS2.out, List.map_append, HRR.out]; exact hown')
      clear hown' hgrow' hb2 hb3
      go_wp2_with fail
      go_roundw
      case rel => exact ⟨k + 1, by omega, by go_num, O2.out, B2.out, BW2.out⟩
      case measure => simp [intOf]; omega
    · have ek : k = n := by omega
      subst ek
      go_wp2_with fail
      go_ret
      exact ⟨_, rfl, ownsRow_base HO.out s0, HBW.out⟩
end Go.Proofs.YtchideljndagjabGreat
