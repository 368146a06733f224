/- Contracts of the program's server: the public mask keys; the sum of the masked lists. -/
import Derived.Test.YtchideljndagjabGreatPkIdAU
import Derived.Test.YtchideljndagjabGreatPkIdAB
import Derived.Test.YtchideljndagjabGreatPkIdAR
import Derived.WalkSpells
import Derived.Laws.Rows
namespace Go.Proofs.YtchideljndagjabGreat
open Go.ChangeShapes Go.WideShapes Go.ChangeAt Go.RowKit
set_option linter.unusedVariables false
def V13At (w : World) (b : Nat) (T : TypeId) (f : Nat → Value) : Prop := w.heap[b]? = some (.cells (v13 f).toArray T (0, 0))
section
variable {w w' : World} {b : Nat} {T : TypeId} {f g : Nat → Value}
theorem V13At.lt (h : V13At w b T f) : b < w.heap.size := by
  by_cases hb : b < w.heap.size
  · exact hb
  · unfold V13At at h; rw [Array.getElem?_eq_none (by omega)] at h; cases h
theorem V13At.cell (h : V13At w b T f) (v : Nat) (hv : v < 13) : w.cell? ⟨b, v, none⟩ = some (f v) := by
  rw [cell_of_row w b v _ T (0, 0) h]; simp only [List.getElem?_toArray]; exact v13_get f v hv
theorem V13At.froz (h : V13At w b T f) (v : Nat) : w.frozen? ⟨b, v, none⟩ = false := frozen_of_row w b v _ T h
theorem V13At.set (h : V13At w b T f) (v : Nat) (hv : v < 13) (x : Value) : V13At (w.setCell ⟨b, v, none⟩ x) b T (updV f v x) := by
  have := heap_setCell_same w b v _ T x h
  rw [List.setIfInBounds_toArray, v13_set f v hv x] at this
  exact this
theorem V13At.block (h : V13At w b T f) (e : w'.heap[b]? = w.heap[b]?) : V13At w' b T f := e.trans h
theorem V13At.below {B : Nat} (h : V13At w b T f) (hb : Below B w w') (hB : b < B) : V13At w' b T f := h.block (hb.block b hB)
theorem V13At.ext (h : V13At w b T f) (e : ∀ v, v < 13 → f v = g v) : V13At w b T g := by unfold V13At at h ⊢; rw [← v13_ext e]; exact h
theorem V13At.range (h : V13At w b T f) : w.rangeAt b 0 (v13 f) := by
  intro j v hv
  rw [Nat.zero_add, cell_of_row w b j _ _ (0, 0) h]
  simpa using hv
end
theorem ix_lists0 (f : Nat → Value) (w : World) : (Instr.index 103 (.agg (v13 f).toArray) (.int .i64 ((0 : Nat) : Int))).run Tryz.prog w = .ok (f 0) w := by kernel_rfl
theorem ix_lists1 (f : Nat → Value) (w : World) : (Instr.index 103 (.agg (v13 f).toArray) (.int .i64 ((1 : Nat) : Int))).run Tryz.prog w = .ok (f 1) w := by kernel_rfl
theorem ix_lists2 (f : Nat → Value) (w : World) : (Instr.index 103 (.agg (v13 f).toArray) (.int .i64 ((2 : Nat) : Int))).run Tryz.prog w = .ok (f 2) w := by kernel_rfl
theorem ix_lists3 (f : Nat → Value) (w : World) : (Instr.index 103 (.agg (v13 f).toArray) (.int .i64 ((3 : Nat) : Int))).run Tryz.prog w = .ok (f 3) w := by kernel_rfl
theorem ix_lists4 (f : Nat → Value) (w : World) : (Instr.index 103 (.agg (v13 f).toArray) (.int .i64 ((4 : Nat) : Int))).run Tryz.prog w = .ok (f 4) w := by kernel_rfl
theorem ix_lists5 (f : Nat → Value) (w : World) : (Instr.index 103 (.agg (v13 f).toArray) (.int .i64 ((5 : Nat) : Int))).run Tryz.prog w = .ok (f 5) w := by kernel_rfl
theorem ix_lists6 (f : Nat → Value) (w : World) : (Instr.index 103 (.agg (v13 f).toArray) (.int .i64 ((6 : Nat) : Int))).run Tryz.prog w = .ok (f 6) w := by kernel_rfl
theorem ix_lists7 (f : Nat → Value) (w : World) : (Instr.index 103 (.agg (v13 f).toArray) (.int .i64 ((7 : Nat) : Int))).run Tryz.prog w = .ok (f 7) w := by kernel_rfl
theorem ix_lists8 (f : Nat → Value) (w : World) : (Instr.index 103 (.agg (v13 f).toArray) (.int .i64 ((8 : Nat) : Int))).run Tryz.prog w = .ok (f 8) w := by kernel_rfl
theorem ix_lists9 (f : Nat → Value) (w : World) : (Instr.index 103 (.agg (v13 f).toArray) (.int .i64 ((9 : Nat) : Int))).run Tryz.prog w = .ok (f 9) w := by kernel_rfl
theorem ix_lists10 (f : Nat → Value) (w : World) : (Instr.index 103 (.agg (v13 f).toArray) (.int .i64 ((10 : Nat) : Int))).run Tryz.prog w = .ok (f 10) w := by kernel_rfl
theorem ix_lists11 (f : Nat → Value) (w : World) : (Instr.index 103 (.agg (v13 f).toArray) (.int .i64 ((11 : Nat) : Int))).run Tryz.prog w = .ok (f 11) w := by kernel_rfl
theorem ix_lists12 (f : Nat → Value) (w : World) : (Instr.index 103 (.agg (v13 f).toArray) (.int .i64 ((12 : Nat) : Int))).run Tryz.prog w = .ok (f 12) w := by kernel_rfl
theorem ix_lists (f : Nat → Value) (k : Nat) (hk : k < 13) (w : World) : (Instr.index 103 (.agg (v13 f).toArray) (.int .i64 (k : Int))).run Tryz.prog w = .ok (f k) w := by
  rcases thirteen hk with rfl | rfl | rfl | rfl | rfl | rfl | rfl | rfl | rfl | rfl | rfl | rfl | rfl
  · exact ix_lists0 f w
  · exact ix_lists1 f w
  · exact ix_lists2 f w
  · exact ix_lists3 f w
  · exact ix_lists4 f w
  · exact ix_lists5 f w
  · exact ix_lists6 f w
  · exact ix_lists7 f w
  · exact ix_lists8 f w
  · exact ix_lists9 f w
  · exact ix_lists10 f w
  · exact ix_lists11 f w
  · exact ix_lists12 f w
theorem field_A (y0 y1 y2 y3 : Value) (w : World) : (Instr.field 147 (.agg #[y0, y1, y2, y3]) 1).run Tryz.prog w = .ok y1 w := by kernel_rfl
theorem field_B (y0 y1 y2 y3 : Value) (w : World) : (Instr.field 147 (.agg #[y0, y1, y2, y3]) 2).run Tryz.prog w = .ok y2 w := by kernel_rfl
theorem SSAt.allit {w : World} {b : Nat} {S : SS} (h : SSAt w b S) : w.rangeAt b 32 (v13 S.it) := h.rit.range
theorem itemsV_one (f : Nat → Int) : ∀ v ∈ v13 (fun u => .int .i64 (f u)), v.oneCell' = true := v13_all (P := fun v => v.oneCell' = true) (fun v _ => rfl)
set_option maxHeartbeats 2000000 in
set_option maxRecDepth 100000 in
theorem maskPublics_calls (b : Nat) (S : SS) (L : Nat → List Frm.It) (w : World) (h : SSAt w b S) (hL : ∀ v, v < 13 → ItemsAt w (S.it v) (L v)) :
    Calls Tryz.prog 251 #[.pointer (some ⟨b, 0, none⟩)] w fun e w' => e = .returned (.agg (v13 fun u : Nat => .int .i64 (Cli.itemOf (L u) u).2.2.1).toArray) ∧ Below w.heap.size w w' := by
  have hbl := h.lt
  have BW : Below w.heap.size w ((w.alloc (.cells (v13 fun _ => .int .i64 0).toArray 104)).alloc (.cells (v13 fun _ => .int .i64 0).toArray 104)) := ((Below.refl _ _).alloc (Nat.le_refl _) _).alloc (by simp) _
  have HRG := hideG (h.below BW).allit
  have BB := hideG BW
  have HA := hideG (heap_alloc2_old w (.cells (v13 fun _ => .int .i64 0).toArray 104) (.cells (v13 fun _ => .int .i64 0).toArray 104))
  have HBn := hideG (heap_alloc2_new w (.cells (v13 fun _ => .int .i64 0).toArray 104) (.cells (v13 fun _ => .int .i64 0).toArray 104))
  have LX := hideG (v13_length S.it)
  have HIX := hideG (ix_lists S.it)
  have HFO := hideG (fun (k : Nat) (hk : k < 13) => items_form (hL k hk))
  have HCI := hideG (fun (w1 : World) (k : Nat) (hk : k < 13) (hb : Below w.heap.size w w1) => sItemOf_calls (S.it k) (L k) (k : Int) w1 ((hL k hk).below hb))
  clear h hL BW
  generalize S.it = it at *
  obtain ⟨CS, hCS⟩ : ∃ CS, CS = v13 it := ⟨_, rfl⟩
  rw [← hCS] at HRG LX HIX
  clear hCS
  have HSL := hideG (show (Tryz.prog.info? 103).map (·.size) = some CS.length by rw [size_lists, LX.out])
  obtain ⟨W, hW⟩ : ∃ W, W = (w.alloc (.cells #[.int .i64 0, .int .i64 0, .int .i64 0, .int .i64 0, .int .i64 0, .int .i64 0, .int .i64 0, .int .i64 0, .int .i64 0, .int .i64 0, .int .i64 0, .int .i64 0, .int .i64 0] 104)).alloc (.cells #[.int .i64 0, .int .i64 0, .int .i64 0, .int .i64 0, .int .i64 0, .int .i64 0, .int .i64 0, .int .i64 0, .int .i64 0, .int .i64 0, .int .i64 0, .int .i64 0, .int .i64 0] 104) := ⟨_, rfl⟩
  change Hid (World.rangeAt ((w.alloc (.cells #[.int .i64 0, .int .i64 0, .int .i64 0, .int .i64 0, .int .i64 0, .int .i64 0, .int .i64 0, .int .i64 0, .int .i64 0, .int .i64 0, .int .i64 0, .int .i64 0, .int .i64 0] 104)).alloc (.cells #[.int .i64 0, .int .i64 0, .int .i64 0, .int .i64 0, .int .i64 0, .int .i64 0, .int .i64 0, .int .i64 0, .int .i64 0, .int .i64 0, .int .i64 0, .int .i64 0, .int .i64 0] 104)) b 32 CS) at HRG
  have BB2 := hideG (show Below w.heap.size w W by rw [hW]; exact BB.out)
  have VA := hideG (show V13At W w.heap.size 104 (fun _ => .int .i64 0) by rw [hW]; exact HA.out)
  have VB := hideG (show V13At W (w.heap.size + 1) 104 (fun _ => .int .i64 0) by rw [hW]; exact HBn.out)
  rw [← hW] at HRG
  have HW := hideG hW
  clear hW BB HA HBn
  go_enter Tryz.func251, Tryz.ntmps251
  go_upto_region 2 with fail
  rw [← HW.out]
  go_wp2_with (refine wpList_load_mid rfl 103 _ rfl b 32 rfl CS _ HRG.out Tryz.underlying103 rfl HSL.out ?_)
  go_loopw [10] (fun i wr => ∃ k : Nat, k ≤ 13 ∧ i = .int .i64 k ∧ V13At wr (w.heap.size + 1) 104 (fun u : Nat => if u < k then .int .i64 (Cli.itemOf (L u) u).2.2.1 else .int .i64 0) ∧ V13At wr w.heap.size 104 (fun _ => .int .i64 0) ∧ Below w.heap.size w wr) (fun i _ => 13 - (intOf i).toNat)
  case atStart => exact ⟨0, by omega, rfl, VB.out.ext (fun v _ => by simp), VA.out, BB2.out⟩
  case round =>
    obtain ⟨k, hk, rfl, hvb, hva, hbel⟩ := hrel
    have HVB := hideG hvb
    have HVA := hideG hva
    have HB := hideG hbel
    have hs1 := hvb.lt
    clear hvb hva hbel
    by_cases hlt : k < 13
    · have hlt' : (k : Int) < 13 := by omega
      have hix := HIX.out k hlt
      have CI := hideG (HCI.out wr k hlt HB.out)
      obtain ⟨fa, fn, fc, hf⟩ := HFO.out k hlt
      rw [hf] at hix CI
      clear hf
      unfold itmV at CI
      obtain ⟨y0, y1, y2, y3, hy⟩ : ∃ y0 y1 y2 y3, Cli.itemOf (L k) (k : Int) = (y0, y1, y2, y3) := ⟨_, _, _, _, rfl⟩
      rw [hy] at CI
      have HY := hideG (show (Cli.itemOf (L k) (k : Int)).2.2.1 = y2 by rw [hy])
      clear hy
      go_wp2_with fail
      refine CI.out.mono ?_
      rintro e w1 ⟨rfl, hb1⟩
      have s1 := hb1.size
      have z0 := (HVB.out.below hb1 hs1).cell k hlt
      have zf := (HVB.out.below hb1 hs1).froz k
      have HV2 := hideG (show V13At (w1.setCell ⟨w.heap.size + 1, k, none⟩ (.int .i64 y2)) (w.heap.size + 1) 104 (fun u : Nat => if u < k + 1 then .int .i64 (Cli.itemOf (L u) u).2.2.1 else .int .i64 0) from
        ((HVB.out.below hb1 hs1).set k hlt (.int .i64 y2)).ext (fun v hv => by
          unfold updV
          by_cases e : v = k
          · subst e; rw [if_pos rfl, if_pos (by omega), HY.out]
          · rw [if_neg e]
            by_cases c : v < k
            · show (if v < k then _ else _) = _
              rw [if_pos c, if_pos (by omega)]
            · show (if v < k then _ else _) = _
              rw [if_neg c, if_neg (by omega)]))
      have HA2 := hideG (show V13At (w1.setCell ⟨w.heap.size + 1, k, none⟩ (.int .i64 y2)) w.heap.size 104 (fun _ => .int .i64 0) from (HVA.out.below hb1 (by omega)).block (Below.heap_setCell _ _ _ _ (by simp)))
      have HB2 := hideG ((HB.out.trans (hb1.mono HB.out.size)).setCell (p := ⟨w.heap.size + 1, k, none⟩) (by show w.heap.size ≤ w.heap.size + 1; omega) (.int .i64 y2))
      clear hb1
      have hfl := field_B (.int .i64 y0) (.int .i64 y1) (.int .i64 y2) (.int .i64 y3) w1
      go_wp2_with fail
      go_roundw
      case rel => exact ⟨k + 1, by omega, by go_num, HV2.out, HA2.out, HB2.out⟩
      case measure => simp [intOf]; omega
    · have ek : k = 13 := by omega
      subst ek
      have HST := hideG (show V13At wr (w.heap.size + 1) 104 (fun u : Nat => .int .i64 (Cli.itemOf (L u) u).2.2.1) from HVB.out.ext (fun v hv => by rw [if_pos hv]))
      have RG := hideG HST.out.range
      have LY := hideG (v13_length (fun u : Nat => .int .i64 (Cli.itemOf (L u) u).2.2.1))
      have HON := hideG (all_oneCell_toArray (itemsV_one (fun u : Nat => (Cli.itemOf (L u) u).2.2.1)))
      have HTH := hideG (show wr.there w.heap.size 0 (v13 (fun u : Nat => .int .i64 (Cli.itemOf (L u) u).2.2.1)).toArray.size from fun i hi => by
        rw [List.size_toArray, v13_length] at hi
        exact ⟨by rw [Nat.zero_add, HVA.out.cell i hi]; rfl, by rw [Nat.zero_add]; exact HVA.out.froz i⟩)
      have HROW := hideG (show (wr.setCells w.heap.size 0 (v13 (fun u : Nat => .int .i64 (Cli.itemOf (L u) u).2.2.1))).heap[w.heap.size]? = some (.cells (v13 (fun u : Nat => .int .i64 (Cli.itemOf (L u) u).2.2.1)).toArray 104 (0, 0)) by
        have := heap_setCells w.heap.size 104 (v13 (fun u : Nat => .int .i64 (Cli.itemOf (L u) u).2.2.1)) [] (v13 fun _ => .int .i64 0) [] wr rfl (by rw [List.append_nil]; exact HVA.out)
        rw [List.append_nil] at this
        exact this)
      have BF := hideG (show Below w.heap.size w (wr.setCells w.heap.size 0 (v13 (fun u : Nat => .int .i64 (Cli.itemOf (L u) u).2.2.1))) from below_setCells (Nat.le_refl _) _ _ _ HB.out)
      obtain ⟨CU, hCU⟩ : ∃ CU, CU = v13 (fun u : Nat => .int .i64 (Cli.itemOf (L u) u).2.2.1) := ⟨_, rfl⟩
      rw [← hCU] at RG LY HON HTH HROW BF
      have HCU := hideG hCU
      clear hCU
      have HSZ := hideG (show (Tryz.prog.info? 104).map (·.size) = some CU.toArray.size by rw [size_nums, List.size_toArray, LY.out])
      have HSU := hideG (show (Tryz.prog.info? 104).map (·.size) = some CU.length by rw [size_nums, LY.out])
      go_wp2_with (first | refine wpList_load_mid rfl 104 _ rfl (w.heap.size + 1) 0 rfl CU _ RG.out Tryz.underlying104 rfl HSU.out ?_ | refine wpList_store_mid rfl 104 _ _ rfl w.heap.size 0 CU.toArray rfl rfl HTH.out HSZ.out HON.out ?_)
      refine bodyPost_ret (results_cell_row rfl _ _ w.heap.size 104 CU.toArray (0, 0) _ rfl HROW.out Tryz.underlying104 rfl HSZ.out) rfl ?_
      exact ⟨by rw [HCU.out], BF.out⟩
def addG (L : Nat → List Frm.It) (i n : Nat) : Int := ((List.range n).map fun v => (Cli.itemOf (L v) ((i : Int) + 1)).2.1).sum
theorem addG_succ (L : Nat → List Frm.It) (i n : Nat) : addG L i (n + 1) = addG L i n + (Cli.itemOf (L n) ((i : Int) + 1)).2.1 := by
  unfold addG; rw [List.range_succ, List.map_append, Srv.sum_app]; simp
theorem addG_bd (L : Nat → List Frm.It) (hw : ∀ (v : Nat) (x : Int), 0 ≤ (Cli.itemOf (L v) x).2.1 ∧ (Cli.itemOf (L v) x).2.1 < 4294967296) (i : Nat) : ∀ n, 0 ≤ addG L i n ∧ addG L i n ≤ 4294967296 * n
  | 0 => by simp [addG]
  | n + 1 => by
    have h1 := addG_bd L hw i n
    have h2 := hw n ((i : Int) + 1)
    rw [addG_succ]
    omega
def sumsG (L : Nat → List Frm.It) (n : Nat) : List Int := (List.range n).map fun i => addG L i 13 % 4294967296
theorem sumsG_succ (L : Nat → List Frm.It) (n : Nat) : sumsG L (n + 1) = sumsG L n ++ [addG L n 13 % 4294967296] := by unfold sumsG; rw [List.range_succ, List.map_append]; rfl
set_option maxHeartbeats 2000000 in
set_option maxRecDepth 100000 in
theorem maskedSum_calls (b : Nat) (S : SS) (L : Nat → List Frm.It) (M : Nat) (w : World) (h : SSAt w b S) (hL : ∀ v, v < 13 → ItemsAt w (S.it v) (L v)) (hm : S.m = (M : Int)) (hM : M ≤ 12) (hw : ∀ (v : Nat) (x : Int), 0 ≤ (Cli.itemOf (L v) x).2.1 ∧ (Cli.itemOf (L v) x).2.1 < 4294967296) :
    Calls Tryz.prog 252 #[.pointer (some ⟨b, 0, none⟩)] w fun e w' => ∃ va, e = .returned va ∧ w'.ownsRow w.heap.size 3 1 va M ((sumsG L M).map (Value.int .i64)) ∧ Below w.heap.size w w' := by
  obtain ⟨i0, hi, hz0, hz1, hz2⟩ := info_parts infoIn
  have hbl := h.lt
  have HC2 := hideG (fun (w1 : World) (hb : Below w.heap.size w w1) => (show w1.cell? ⟨b, 2, none⟩ = some (.int .i64 (M : Int)) by rw [← hm]; exact (h.below hb).m))
  have HRG := hideG (fun (w1 : World) (hb : Below w.heap.size w w1) => (h.below hb).allit)
  have LX := hideG (v13_length S.it)
  have HIX := hideG (ix_lists S.it)
  have HFO := hideG (fun (k : Nat) (hk : k < 13) => items_form (hL k hk))
  have HCI := hideG (fun (w1 : World) (k : Nat) (x : Int) (hk : k < 13) (hb : Below w.heap.size w w1) => sItemOf_calls (S.it k) (L k) x w1 ((hL k hk).below hb))
  have HWD := hideG hw
  have HBD := hideG (addG_bd L hw)
  clear h hL hw hm
  generalize S.it = it at *
  obtain ⟨CS, hCS⟩ : ∃ CS, CS = v13 it := ⟨_, rfl⟩
  rw [← hCS] at HRG LX HIX
  clear hCS
  have HSL := hideG (show (Tryz.prog.info? 103).map (·.size) = some CS.length by rw [size_lists, LX.out])
  go_enter Tryz.func252, Tryz.ntmps252
  go_wp2_with fail
  go_loopw [3, 4] (fun ro i wr => ∃ k : Nat, k ≤ M ∧ i = .int .i64 ((k : Int) + 1) ∧ wr.ownsRow w.heap.size 3 1 ro k ((sumsG L k).map (Value.int .i64)) ∧ Below w.heap.size w wr) (fun _ i _ => M + 1 - (intOf i).toNat)
  case atStart => exact ⟨0, by omega, rfl, World.ownsRow_nil _ _ _ _, Below.refl _ _⟩
  case round =>
    obtain ⟨k, hk, rfl, hown, hbel⟩ := hrel
    have HO := hideG hown
    have HB := hideG hbel
    have hsz := hbel.size
    obtain ⟨a3, c3, hv3⟩ := owns_form hown
    subst hv3
    have c2 := HC2.out wr hbel
    have RG := hideG (HRG.out wr hbel)
    clear hown hbel
    by_cases hlt : k < M
    · have hle : (k : Int) + 1 ≤ (M : Int) := by omega
      go_wp2_with (refine wpList_load_mid rfl 103 _ rfl b 32 rfl CS _ RG.out Tryz.underlying103 rfl HSL.out ?_)
      go_loopw [5, 21] (fun x j wq => ∃ m : Nat, m ≤ 13 ∧ j = .int .i64 (m : Int) ∧ x = .int .i64 (addG L k m) ∧ wq.ownsRow w.heap.size 3 1 (.slice a3 k c3) k ((sumsG L k).map (Value.int .i64)) ∧ Below w.heap.size w wq) (fun _ j _ => 13 - (intOf j).toNat)
      case atStart => exact ⟨0, by omega, rfl, rfl, HO.out, HB.out⟩
      case round =>
        obtain ⟨m, hm, rfl, rfl, hown, hbel⟩ := hrel
        have HO1 := hideG hown
        have HB1 := hideG hbel
        have hsz1 := hbel.size
        clear hown hbel
        obtain ⟨bd1, bd2⟩ := HBD.out k m
        have HSU := hideG (addG_succ L k m)
        by_cases hlt2 : m < 13
        · have hlt2' : (m : Int) < 13 := by omega
          have hix := HIX.out m hlt2
          have CI := hideG (HCI.out _ m ((k : Int) + 1) hlt2 HB1.out)
          obtain ⟨fa, fn, fc, hf⟩ := HFO.out m hlt2
          rw [hf] at hix CI
          clear hf
          unfold itmV at CI
          obtain ⟨wd1, wd2⟩ := HWD.out m ((k : Int) + 1)
          obtain ⟨y0, y1, y2, y3, hy⟩ : ∃ y0 y1 y2 y3, Cli.itemOf (L m) ((k : Int) + 1) = (y0, y1, y2, y3) := ⟨_, _, _, _, rfl⟩
          rw [hy] at CI wd1 wd2 HSU
          clear hy
          obtain ⟨t, ht⟩ : ∃ t, t = addG L k m := ⟨_, rfl⟩
          rw [← ht] at bd1 bd2 HSU ⊢
          clear ht
          have wd1' : 0 ≤ y1 := wd1
          have wd2' : y1 < 4294967296 := wd2
          clear wd1 wd2
          have hmm : (m : Int) ≤ 13 := by omega
          go_wp2_with fail
          refine CI.out.mono ?_
          rintro e w1 ⟨rfl, hb1⟩
          have B2 := hideG (HB1.out.trans (hb1.mono HB1.out.size))
          have O2 := hideG (ownsRow_chg (S := fun _ => False) HO1.out (Chg.of_below hb1) (fun _ _ h => h))
          clear hb1
          have hfl := field_A (.int .i64 y0) (.int .i64 y1) (.int .i64 y2) (.int .i64 y3) w1
          go_wp2_with fail
          go_roundw
          case rel => exact ⟨m + 1, by omega, by go_num, by rw [HSU.out], O2.out, B2.out⟩
          case measure => simp [intOf]; omega
        · have em : m = 13 := by omega
          subst em
          have HSS := hideG (sumsG_succ L k)
          obtain ⟨t, ht⟩ : ∃ t, t = addG L k 13 := ⟨_, rfl⟩
          rw [← ht] at bd1 bd2 HSS ⊢
          clear ht HSU
          have bd3 : t ≤ 55834574848 := by omega
          clear bd2
          obtain ⟨R, hR⟩ : ∃ R, R = t % 4294967296 := ⟨_, rfl⟩
          have hR' : t % 4294967296 = R := hR.symm
          have HRR := hideG hR'
          clear hR
          go_wp2_with (at_builtin; refine wpList_append_own _ rfl _ _ 33 rfl w.heap.size 3 i0 (.int .i64 0) 1 8 Tryz.underlying33 hi hz0 hz1 hz2 rfl (by decide) _ _ _ rfl (HO1.out.alloc _) ⟨wr.heap.size, 0, none⟩ 1 1 [.int .i64 R] rfl rfl ?c1 ?c2 ?c3 ?c4 ?c5 ?_)
          case c1 => exact cell_one_new _ _ _
          case c2 => intro u hu; simp at hu; subst hu; rfl
          case c3 => unfold maxLen; omega
          case c4 => omega
          case c5 => simp; omega
          intro v' w2 hown' hgrow' _
          have hb2 := (HB1.out.alloc hsz1 _).grown hgrow' (by simp; omega) (fun x h => (HO1.out.lt x h).1)
          have B2 := hideG hb2
          have O2 := hideG (show w2.ownsRow w.heap.size 3 1 v' (k + 1) ((sumsG L (k + 1)).map (Value.int .i64)) by
            rw [HSS.out, List.map_append, HRR.out]; exact hown')
          clear hown' hgrow' hb2
          go_wp2_with fail
          go_roundw
          case rel => exact ⟨k + 1, by omega, by go_num, O2.out, B2.out⟩
          case measure => simp [intOf]; omega
    · have ek : k = M := by omega
      subst ek
      go_wp2_with fail
      go_ret
      exact ⟨_, rfl, HO.out, HB.out⟩
end Go.Proofs.YtchideljndagjabGreat
namespace Go.Proofs.YtchideljndagjabGreat
open Go.ChangeShapes Go.WideShapes Go.ChangeAt Go.RowKit
set_option linter.unusedVariables false
def PtsAt (w : World) (v : Value) (ps : List (Int × Int)) : Prop :=
  ∃ (a : Option Addr) (cap : Nat), v = .slice a ps.length cap ∧ ps.length ≤ cap ∧ cap ≤ maxLen ∧ (∀ p ∈ ps, inI p.1 ∧ inI p.2) ∧
    (ps = [] ∨ ∃ b off, a = some ⟨b, off, none⟩ ∧ b < w.heap.size ∧ ∀ i, i < ps.length → w.cell? ⟨b, off + i * 2, none⟩ = some (.int .i64 (ps.getD i (0, 0)).1) ∧ w.cell? ⟨b, off + i * 2 + 1, none⟩ = some (.int .i64 (ps.getD i (0, 0)).2))
theorem PtsAt.below {w w' : World} {v : Value} {ps : List (Int × Int)} (h : PtsAt w v ps) (hb : Below w.heap.size w w') : PtsAt w' v ps := by
  obtain ⟨a, cap, h1, h2, h3, h4, h5⟩ := h
  refine ⟨a, cap, h1, h2, h3, h4, ?_⟩
  rcases h5 with h5 | ⟨b, off, e1, e2, e3⟩
  · exact .inl h5
  · exact .inr ⟨b, off, e1, Nat.lt_of_lt_of_le e2 hb.size, fun i hi => by
      rw [hb.cell (p := ⟨b, off + i * 2, none⟩) e2, hb.cell (p := ⟨b, off + i * 2 + 1, none⟩) e2]; exact e3 i hi⟩
theorem pts_view {w : World} {v : Value} {ps : List (Int × Int)} (h : PtsAt w v ps) : ∃ (a : Option Addr) (cap : Nat), v = .slice a ps.length cap ∧ ps.length ≤ cap ∧ cap ≤ 9223372036854775807 ∧
    ∀ k, k < ps.length → ∃ b off, a = some ⟨b, off, none⟩ ∧ b < w.heap.size ∧ w.cell? ⟨b, off + k * 2, none⟩ = some (.int .i64 (ps.getD k (0, 0)).1) ∧ w.cell? ⟨b, off + k * 2 + 1, none⟩ = some (.int .i64 (ps.getD k (0, 0)).2) := by
  obtain ⟨a, cap, h1, h2, h3, h4, h5⟩ := h
  refine ⟨a, cap, h1, h2, by unfold maxLen at h3; omega, fun k hk => ?_⟩
  rcases h5 with h5 | ⟨b, off, e, hb, hc⟩
  · rw [h5] at hk; simp at hk
  · exact ⟨b, off, e, hb, hc k hk⟩
theorem pget (ps : List (Int × Int)) (k : Nat) (hk : k < ps.length) : ps.take (k + 1) = ps.take k ++ [ps.getD k (0, 0)] := by
  rw [List.take_succ_eq_append_getElem hk, List.getD_eq_getElem?_getD, List.getElem?_eq_getElem hk]; rfl
def okP (p : Int × Int) : Bool := Num.clB p.1 && Num.elB p.2
def ptsB (ps : List (Int × Int)) : Bool := decide (1 ≤ ps.length ∧ ps.length ≤ 12) && (ps.all okP && decide (Lag.xs ps).Nodup)
theorem ptsB_good {ps : List (Int × Int)} (h : ptsB ps = true) : Lag.good ps ∧ 1 ≤ ps.length ∧ ps.length ≤ 12 ∧ ∀ p ∈ ps, 0 ≤ p.2 ∧ p.2 < 2305843009213693951 := by
  unfold ptsB at h
  simp only [Bool.and_eq_true, decide_eq_true_iff, List.all_eq_true] at h
  obtain ⟨⟨h1, h2⟩, h3, h4⟩ := h
  refine ⟨⟨fun k hk => ?_, h4⟩, h1, h2, fun p hp => ?_⟩
  · obtain ⟨p, hp, rfl⟩ := List.mem_map.1 hk
    have := h3 p hp
    unfold okP at this
    rw [Bool.and_eq_true, Num.clB_iff] at this
    exact this.1
  · have := h3 p hp
    unfold okP at this
    rw [Bool.and_eq_true, Num.elB_iff] at this
    exact this.2
theorem ptsB_bad1 (ps : List (Int × Int)) (k : Nat) (hk : k < ps.length) (h : okP (ps.getD k (0, 0)) = false) : ptsB ps = false := by
  have : ps.all okP = false := by
    rw [List.all_eq_false]
    refine ⟨ps[k], List.getElem_mem hk, ?_⟩
    rw [List.getD_eq_getElem?_getD, List.getElem?_eq_getElem hk] at h
    simp only [Option.getD_some] at h
    rw [h]; exact Bool.false_ne_true
  unfold ptsB; rw [this]; simp
theorem ptsB_bad2 (ps : List (Int × Int)) (k : Nat) (hk : k < ps.length) (h : (ps.getD k (0, 0)).1 ∈ Lag.xs (ps.take k)) : ptsB ps = false := by
  have : ¬ (Lag.xs ps).Nodup := by
    intro hn
    have e : ps = ps.take k ++ (ps.getD k (0, 0) :: ps.drop (k + 1)) := by
      rw [List.getD_eq_getElem?_getD, List.getElem?_eq_getElem hk, Option.getD_some, ← List.drop_eq_getElem_cons hk, List.take_append_drop]
    rw [e, Lag.xs_append] at hn
    exact (List.nodup_append.1 hn).2.2 _ h _ (by simp [Lag.xs]) rfl
  unfold ptsB; rw [decide_eq_false this]; simp
theorem ptsB_done (ps : List (Int × Int)) (h1 : 1 ≤ ps.length) (h2 : ps.length ≤ 12) (h3 : ps.all okP = true) (h4 : (Lag.xs ps).Nodup) : ptsB ps = true := by
  unfold ptsB; rw [decide_eq_true ⟨h1, h2⟩, h3, decide_eq_true h4]; rfl
def SeenIs (w : World) (g : Nat) (T : TypeId) (xs : List Int) : Prop :=
  ∃ sb : Array Value, w.heap[g]? = some (.cells sb T (0, 0)) ∧ sb.size = 13 ∧ ∀ x : Int, 0 ≤ x → x ≤ 12 → sb[x.toNat]? = some (.bool (decide (x ∈ xs)))
theorem SeenIs.cell {w : World} {g : Nat} {T : TypeId} {xs : List Int} (h : SeenIs w g T xs) (x : Int) (h0 : 0 ≤ x) (h1 : x ≤ 12) : w.cell? ⟨g, x.toNat, none⟩ = some (.bool (decide (x ∈ xs))) ∧ w.frozen? ⟨g, x.toNat, none⟩ = false := by
  obtain ⟨sb, e, _, hs⟩ := h
  refine ⟨?_, by simp [World.frozen?, e]⟩
  simp only [World.cell?, e]
  exact hs x h0 h1
theorem SeenIs.set {w : World} {g : Nat} {T : TypeId} {xs : List Int} (h : SeenIs w g T xs) (x : Int) (h0 : 0 ≤ x) (h1 : x ≤ 12) : SeenIs (w.setCell ⟨g, x.toNat, none⟩ (.bool true)) g T (xs ++ [x]) := by
  obtain ⟨sb, e, hz, hs⟩ := h
  refine ⟨sb.setIfInBounds x.toNat (.bool true), heap_setCell_same w g x.toNat sb T _ e, by simp [hz], fun y y0 y1 => ?_⟩
  rw [Array.getElem?_setIfInBounds]
  by_cases e2 : x.toNat = y.toNat
  · have : x = y := by omega
    subst this
    rw [if_pos rfl, if_pos (by omega)]; simp
  · rw [if_neg e2, hs y y0 y1]
    have : y ≠ x := by omega
    simp [this]
theorem SeenIs.alloc {w : World} {g : Nat} {T : TypeId} {xs : List Int} (h : SeenIs w g T xs) (hg : g < w.heap.size) (o : Obj) : SeenIs (w.alloc o) g T xs := by
  obtain ⟨sb, e, hz, hs⟩ := h
  exact ⟨sb, by rw [Below.heap_alloc _ _ _ hg]; exact e, hz, hs⟩
set_option maxHeartbeats 1000000 in
set_option maxRecDepth 100000 in
theorem arePoints_calls (v : Value) (ps : List (Int × Int)) (w : World) (h : PtsAt w v ps) :
    Calls Tryz.prog 266 #[v] w fun e w' => e = .returned (.bool (ptsB ps)) ∧ Below w.heap.size w w' := by
  obtain ⟨a, cap, rfl, l2, l3, hc⟩ := pts_view h
  have HC := hideG hc
  clear hc h
  by_cases t1 : (ps.length : Int) < 1
  · have H := hideG (show ptsB ps = false by unfold ptsB; rw [decide_eq_false (by omega)]; rfl)
    go_enter Tryz.func266, Tryz.ntmps266
    go_wp2_with fail
    go_ret
    exact ⟨congrArg (fun x => Ending.returned (.bool x)) H.out.symm, Below.refl _ _⟩
  · by_cases t2 : 12 < (ps.length : Int)
    · have H := hideG (show ptsB ps = false by unfold ptsB; rw [decide_eq_false (by omega)]; rfl)
      go_enter Tryz.func266, Tryz.ntmps266
      go_wp2_with fail
      go_ret
      exact ⟨congrArg (fun x => Ending.returned (.bool x)) H.out.symm, Below.refl _ _⟩
    · generalize hn : ps.length = n at *
      have HN := hideG hn
      clear hn
      go_enter Tryz.func266, Tryz.ntmps266
      go_wp2_with fail
      go_loopw [16] (fun i wr => ∃ k : Nat, k ≤ n ∧ i = .int .i64 k ∧ SeenIs wr w.heap.size 36 (Lag.xs (ps.take k)) ∧ (ps.take k).all okP = true ∧ (Lag.xs (ps.take k)).Nodup ∧ Below w.heap.size w wr ∧ w.heap.size < wr.heap.size) (fun i _ => n - (intOf i).toNat)
      case atStart =>
        refine ⟨0, by omega, rfl, ⟨_, heap_alloc_new w _, rfl, fun x h0 h1 => ?_⟩, rfl, List.nodup_nil, (Below.refl _ _).alloc (Nat.le_refl _) _, by simp⟩
        have hx : x.toNat ≤ 12 := by omega
        rw [show decide (x ∈ Lag.xs (ps.take 0)) = false from decide_eq_false (by simp [Lag.xs])]
        match x.toNat, hx with
        | 0, _ => rfl
        | 1, _ => rfl
        | 2, _ => rfl
        | 3, _ => rfl
        | 4, _ => rfl
        | 5, _ => rfl
        | 6, _ => rfl
        | 7, _ => rfl
        | 8, _ => rfl
        | 9, _ => rfl
        | 10, _ => rfl
        | 11, _ => rfl
        | 12, _ => rfl
        | n + 13, h => exact absurd h (by omega)
      case round =>
        obtain ⟨k, hk, rfl, hseen, hall, hnd, hbel, hsz⟩ := hrel
        have HS := hideG hseen
        have HA := hideG hall
        have HD := hideG hnd
        have HB := hideG hbel
        clear hall hnd
        by_cases hlt : k < n
        · obtain ⟨b, off, rfl, hb, c0, c1⟩ := HC.out k hlt
          rw [← hbel.cell (p := ⟨b, off + k * 2, none⟩) hb] at c0
          rw [← hbel.cell (p := ⟨b, off + k * 2 + 1, none⟩) hb] at c1
          obtain ⟨x, hx⟩ : ∃ x, x = (ps.getD k (0, 0)).1 := ⟨_, rfl⟩
          obtain ⟨y, hy⟩ : ∃ y, y = (ps.getD k (0, 0)).2 := ⟨_, rfl⟩
          rw [← hx] at c0
          rw [← hy] at c1
          have HP := hideG (show ps.getD k (0, 0) = (x, y) by rw [hx, hy])
          clear hx hy hbel
          cases q1 : Num.clB x
          · clear hseen
            have H := hideG (ptsB_bad1 ps k (by rw [HN.out]; exact hlt) (by rw [HP.out]; show (Num.clB x && Num.elB y) = false; rw [q1]; rfl))
            go_wp2_with fail
            refine (client_calls _ _).mono ?_
            rintro e w' ⟨rfl, rfl⟩
            go_wp2_with fail
            go_ret
            exact ⟨congrArg (fun x => Ending.returned (.bool x)) H.out.symm, HB.out.alloc (by omega) _⟩
          · cases q2 : Num.elB y
            · clear hseen
              have H := hideG (ptsB_bad1 ps k (by rw [HN.out]; exact hlt) (by rw [HP.out]; show (Num.clB x && Num.elB y) = false; rw [q1, q2]; rfl))
              go_wp2_with fail
              refine (client_calls _ _).mono ?_
              rintro e w' ⟨rfl, rfl⟩
              go_wp2_with fail
              refine (element_calls _ _).mono ?_
              rintro e w' ⟨rfl, rfl⟩
              go_wp2_with fail
              go_ret
              exact ⟨congrArg (fun x => Ending.returned (.bool x)) H.out.symm, HB.out.alloc (by omega) _⟩
            · obtain ⟨x1, x2⟩ := Num.clB_iff.1 q1
              obtain ⟨s1, s2⟩ := hseen.cell x (by omega) x2
              have hok : okP (ps.getD k (0, 0)) = true := by rw [HP.out]; show (Num.clB x && Num.elB y) = true; rw [q1, q2]; rfl
              have HK := hideG hok
              clear hseen hok
              cases q3 : decide (x ∈ Lag.xs (ps.take k))
              · rw [q3] at s1
                have HX := hideG (of_decide_eq_false q3)
                clear q3
                go_wp2_with fail
                refine (client_calls _ _).mono ?_
                rintro e w' ⟨rfl, rfl⟩
                go_wp2_with fail
                refine (element_calls _ _).mono ?_
                rintro e w' ⟨rfl, rfl⟩
                go_wp2_with fail
                go_roundw
                case rel =>
                  have e := pget ps k (by rw [HN.out]; exact hlt)
                  have ex : Lag.xs (ps.take (k + 1)) = Lag.xs (ps.take k) ++ [x] := by rw [e, Lag.xs_append, HP.out]; rfl
                  refine ⟨k + 1, by omega, by go_num, ?_, ?_, ?_, (HB.out.setCell (p := ⟨w.heap.size, x.toNat, none⟩) (Nat.le_refl _) _).alloc (by simp [World.setCell]; omega) _, by simp [World.setCell]; omega⟩
                  · rw [ex]; exact (HS.out.set x (by omega) x2).alloc (by simp [World.setCell]; omega) _
                  · rw [e, List.all_append, HA.out, Bool.true_and, List.all_cons, List.all_nil, Bool.and_true]; exact HK.out
                  · rw [ex, List.nodup_append]
                    refine ⟨HD.out, by simp, fun u hu z hz e => ?_⟩
                    simp at hz; subst hz; subst e; exact HX.out hu
                case measure => simp [intOf]; omega
              · rw [q3] at s1
                have H := hideG (ptsB_bad2 ps k (by rw [HN.out]; exact hlt) (by rw [HP.out]; exact of_decide_eq_true q3))
                clear q3
                go_wp2_with fail
                refine (client_calls _ _).mono ?_
                rintro e w' ⟨rfl, rfl⟩
                go_wp2_with fail
                refine (element_calls _ _).mono ?_
                rintro e w' ⟨rfl, rfl⟩
                go_wp2_with fail
                go_ret
                exact ⟨congrArg (fun x => Ending.returned (.bool x)) H.out.symm, HB.out.alloc (by omega) _⟩
        · have ek : k = n := by omega
          subst ek
          clear hseen hbel
          have et : ps.take k = ps := List.take_of_length_le (by rw [HN.out]; exact Nat.le_refl _)
          have H := hideG (ptsB_done ps (by rw [HN.out]; omega) (by rw [HN.out]; omega) (by have := HA.out; rw [et] at this; exact this) (by have := HD.out; rw [et] at this; exact this))
          clear et
          go_wp2_with fail
          go_ret
          exact ⟨congrArg (fun x => Ending.returned (.bool x)) H.out.symm, HB.out⟩
end Go.Proofs.YtchideljndagjabGreat
namespace Go.Proofs.YtchideljndagjabGreat
open Go.ChangeShapes Go.WideShapes Go.ChangeAt Go.RowKit
set_option linter.unusedVariables false
theorem ab_step (X : List Int) (k : Nat) (x c : Int) : (if c = x then Lag.ab X x % 2305843009213693951 else Num.mulP (Lag.ab X x % 2305843009213693951) c) = Lag.ab (X ++ [c]) x % 2305843009213693951 := by
  rw [Lag.ab_snoc]
  by_cases e : c = x
  · rw [if_pos e, if_pos e, Int.mul_one]
  · rw [if_neg e, if_neg e]; unfold Num.mulP; rw [Int.mul_emod, Int.emod_emod, ← Int.mul_emod]
theorem be_step (X : List Int) (k : Nat) (x c : Int) : (if c = x then Lag.be X x % 2305843009213693951 else Num.mulP (Lag.be X x % 2305843009213693951) (Num.subP c x)) = Lag.be (X ++ [c]) x % 2305843009213693951 := by
  rw [Lag.be_snoc]
  by_cases e : c = x
  · rw [if_pos e, if_pos e, Int.mul_one]
  · rw [if_neg e, if_neg e]; unfold Num.mulP Num.subP
    rw [Int.mul_emod, Int.emod_emod, show (c - x + 2305843009213693951) % 2305843009213693951 = (c - x) % 2305843009213693951 by omega, Int.emod_emod, ← Int.mul_emod]
theorem inverse_calls (a : Int) (w : World) (ha : 0 ≤ a) (ha' : a < 2305843009213693951) :
    Calls Tryz.prog 295 #[.int .i64 a] w fun e w' => e = .returned (.int .i64 (Pol.inv a)) ∧ w' = w := by
  go_enter Tryz.func295, Tryz.ntmps295
  go_wp2_with fail
  refine (power_calls _ _ _ ha ha' (by omega)).mono ?_
  rintro e w' ⟨rfl, rfl⟩
  go_wp2_with fail
  go_ret
  exact ⟨rfl, rfl⟩
set_option maxHeartbeats 1000000 in
set_option maxRecDepth 100000 in
theorem weight_calls (v : Value) (ps : List (Int × Int)) (x : Int) (w : World) (h : PtsAt w v ps) (hg : ∀ k ∈ Lag.xs ps, Lag.small k) (hx : Lag.small x) :
    Calls Tryz.prog 267 #[v, .int .i64 x] w fun e w' => e = .returned (.int .i64 (Lag.wt (Lag.xs ps) x)) ∧ Below w.heap.size w w' := by
  obtain ⟨a, cap, rfl, l2, l3, hc⟩ := pts_view h
  have HC := hideG hc
  have HG := hideG hg
  obtain ⟨x1, x2⟩ := hx
  clear hc h hg
  generalize hn : ps.length = n at *
  have HN := hideG hn
  clear hn
  go_enter Tryz.func267, Tryz.ntmps267
  go_wp2_with fail
  go_loopw [5, 6, 12] (fun u d i wr => ∃ k : Nat, k ≤ n ∧ i = .int .i64 k ∧ u = .int .i64 (Lag.ab (Lag.xs (ps.take k)) x % 2305843009213693951) ∧ d = .int .i64 (Lag.be (Lag.xs (ps.take k)) x % 2305843009213693951) ∧ Below w.heap.size w wr) (fun _ _ i _ => n - (intOf i).toNat)
  case atStart => exact ⟨0, by omega, rfl, rfl, rfl, Below.refl _ _⟩
  case round =>
    obtain ⟨k, hk, rfl, rfl, rfl, hbel⟩ := hrel
    have HB := hideG hbel
    have hsz := hbel.size
    have A1 : 0 ≤ Lag.ab (Lag.xs (ps.take k)) x % 2305843009213693951 := by omega
    have A2 : Lag.ab (Lag.xs (ps.take k)) x % 2305843009213693951 < 2305843009213693951 := by omega
    have D1 : 0 ≤ Lag.be (Lag.xs (ps.take k)) x % 2305843009213693951 := by omega
    have D2 : Lag.be (Lag.xs (ps.take k)) x % 2305843009213693951 < 2305843009213693951 := by omega
    by_cases hlt : k < n
    · obtain ⟨b, off, rfl, hb, c0, c1⟩ := HC.out k hlt
      rw [← hbel.cell (p := ⟨b, off + k * 2, none⟩) hb] at c0
      rw [← hbel.cell (p := ⟨b, off + k * 2 + 1, none⟩) hb] at c1
      obtain ⟨c, hcx⟩ : ∃ c, c = (ps.getD k (0, 0)).1 := ⟨_, rfl⟩
      obtain ⟨y, hy⟩ : ∃ y, y = (ps.getD k (0, 0)).2 := ⟨_, rfl⟩
      have hcs : Lag.small c := HG.out c (by rw [hcx, List.getD_eq_getElem?_getD, List.getElem?_eq_getElem (by rw [HN.out]; exact hlt)]; exact List.mem_map.2 ⟨_, List.getElem_mem _, rfl⟩)
      obtain ⟨s1, s2⟩ := hcs
      have ex : Lag.xs (ps.take (k + 1)) = Lag.xs (ps.take k) ++ [c] := by rw [pget ps k (by rw [HN.out]; exact hlt), Lag.xs_append, hcx]; rfl
      have EA := hideG (ab_step (Lag.xs (ps.take k)) k x c)
      have EB := hideG (be_step (Lag.xs (ps.take k)) k x c)
      have EX := hideG ex
      rw [← hcx] at c0
      rw [← hy] at c1
      clear hcx hy hbel ex
      generalize Lag.ab (Lag.xs (ps.take k)) x % 2305843009213693951 = A at *
      generalize Lag.be (Lag.xs (ps.take k)) x % 2305843009213693951 = D at *
      by_cases e : c = x
      · have et : (c != x) = false := by simp [e]
        have H1 := hideG (show A = Lag.ab (Lag.xs (ps.take (k + 1))) x % 2305843009213693951 by rw [EX.out, ← EA.out, if_pos e])
        have H2 := hideG (show D = Lag.be (Lag.xs (ps.take (k + 1))) x % 2305843009213693951 by rw [EX.out, ← EB.out, if_pos e])
        clear e
        go_wp2_with fail
        go_roundw
        case rel => exact ⟨k + 1, by omega, by go_num, by rw [← H1.out], by rw [← H2.out], HB.out.alloc hsz _⟩
        case measure => simp [intOf]; omega
      · have et : (c != x) = true := by simp [e]
        have H1 := hideG (show Num.mulP A c = Lag.ab (Lag.xs (ps.take (k + 1))) x % 2305843009213693951 by rw [EX.out, ← EA.out, if_neg e])
        have H2 := hideG (show Num.mulP D (Num.subP c x) = Lag.be (Lag.xs (ps.take (k + 1))) x % 2305843009213693951 by rw [EX.out, ← EB.out, if_neg e])
        clear e
        go_wp2_with fail
        refine (minus_calls _ _ _ (by omega) (by omega) (by omega) (by omega)).mono ?_
        rintro e w' ⟨rfl, rfl⟩
        go_wp2_with fail
        refine (times_calls _ _ _ A1 A2 (by omega) (by omega)).mono ?_
        rintro e w' ⟨rfl, rfl⟩
        go_wp2_with fail
        refine (times_calls _ _ _ D1 D2 (Num.subP_lo _ _) (Num.subP_hi _ _)).mono ?_
        rintro e w' ⟨rfl, rfl⟩
        go_wp2_with fail
        go_roundw
        case rel => exact ⟨k + 1, by omega, by go_num, by rw [← H1.out], by rw [← H2.out], HB.out.alloc hsz _⟩
        case measure => simp [intOf]; omega
    · have ek : k = n := by omega
      subst ek
      have et : ps.take k = ps := List.take_of_length_le (by rw [HN.out]; exact Nat.le_refl _)
      have H := hideG (show Num.mulP (Lag.ab (Lag.xs (ps.take k)) x % 2305843009213693951) (Pol.inv (Lag.be (Lag.xs (ps.take k)) x % 2305843009213693951)) = Lag.wt (Lag.xs ps) x by rw [et]; rfl)
      clear et hbel
      generalize Lag.ab (Lag.xs (ps.take k)) x % 2305843009213693951 = A at *
      generalize Lag.be (Lag.xs (ps.take k)) x % 2305843009213693951 = D at *
      go_wp2_with fail
      refine (inverse_calls _ _ D1 D2).mono ?_
      rintro e w' ⟨rfl, rfl⟩
      go_wp2_with fail
      refine (times_calls _ _ _ A1 A2 (Pol.inv_lo _) (Pol.inv_hi _)).mono ?_
      rintro e w' ⟨rfl, rfl⟩
      go_wp2_with fail
      go_ret
      exact ⟨congrArg (fun x => Ending.returned (.int .i64 x)) H.out, HB.out⟩
theorem sum_step (f : Int → Int) (l : List (Int × Int)) (p : Int × Int) : Num.addP (Lag.sm f l % 2305843009213693951) (Num.mulP p.2 (f p.1)) = Lag.sm f (l ++ [p]) % 2305843009213693951 := by
  rw [Lag.sm_append]
  show _ = (Lag.sm f l + (p.2 * f p.1 + 0)) % _
  unfold Num.addP Num.mulP
  omega
set_option maxHeartbeats 1000000 in
set_option maxRecDepth 100000 in
theorem join_yes (v : Value) (ps : List (Int × Int)) (w : World) (h : PtsAt w v ps) (hb : ptsB ps = true) :
    Calls Tryz.prog 213 #[v] w fun e w' => e = .returned (.tuple #[.int .i64 (Lag.joinN ps), .int .i64 0]) ∧ Below w.heap.size w w' := by
  have HP := hideG h
  obtain ⟨hgood, n1, n2, hel⟩ := ptsB_good hb
  obtain ⟨a, cap, hv, l2, l3, hc⟩ := pts_view h
  rw [hv] at HP ⊢
  have HC := hideG hc
  have HG := hideG hgood
  have HE := hideG hel
  have HBB := hideG hb
  clear hc h hgood hel hb hv
  generalize hn : ps.length = n at *
  have HN := hideG hn
  clear hn
  go_enter Tryz.func213, Tryz.ntmps213
  go_wp2_with fail
  refine (arePoints_calls _ ps _ HP.out).mono ?_
  rintro e w1 ⟨rfl, hb1⟩
  rw [HBB.out]
  have B1 := hideG hb1
  have z1 := hb1.size
  clear hb1
  go_wp2_with fail
  go_loopw [4, 13] (fun u i wr => ∃ k : Nat, k ≤ n ∧ i = .int .i64 k ∧ u = .int .i64 (Lag.sm (Lag.wt (Lag.xs ps)) (ps.take k) % 2305843009213693951) ∧ Below w.heap.size w wr) (fun _ i _ => n - (intOf i).toNat)
  case atStart => exact ⟨0, by omega, rfl, rfl, B1.out⟩
  case round =>
    obtain ⟨k, hk, rfl, rfl, hbel⟩ := hrel
    have HB := hideG hbel
    have hsz := hbel.size
    have A1 : 0 ≤ Lag.sm (Lag.wt (Lag.xs ps)) (ps.take k) % 2305843009213693951 := by omega
    have A2 : Lag.sm (Lag.wt (Lag.xs ps)) (ps.take k) % 2305843009213693951 < 2305843009213693951 := by omega
    by_cases hlt : k < n
    · obtain ⟨b, off, rfl, hb, c0, c1⟩ := HC.out k hlt
      rw [← hbel.cell (p := ⟨b, off + k * 2, none⟩) hb] at c0
      rw [← hbel.cell (p := ⟨b, off + k * 2 + 1, none⟩) hb] at c1
      obtain ⟨c, hcx⟩ : ∃ c, c = (ps.getD k (0, 0)).1 := ⟨_, rfl⟩
      obtain ⟨y, hy⟩ : ∃ y, y = (ps.getD k (0, 0)).2 := ⟨_, rfl⟩
      have hmem : ps.getD k (0, 0) ∈ ps := by rw [List.getD_eq_getElem?_getD, List.getElem?_eq_getElem (by rw [HN.out]; exact hlt)]; exact List.getElem_mem _
      have hcs : Lag.small c := HG.out.1 c (by rw [hcx]; exact List.mem_map.2 ⟨_, hmem, rfl⟩)
      have hye := HE.out _ hmem
      rw [← hy] at hye
      obtain ⟨y1, y2⟩ := hye
      have HS := hideG hcs
      have ES := hideG (show Num.addP (Lag.sm (Lag.wt (Lag.xs ps)) (ps.take k) % 2305843009213693951) (Num.mulP y (Lag.wt (Lag.xs ps) c)) = Lag.sm (Lag.wt (Lag.xs ps)) (ps.take (k + 1)) % 2305843009213693951 by
        rw [pget ps k (by rw [HN.out]; exact hlt), ← sum_step, hcx, hy])
      rw [← hcx] at c0
      rw [← hy] at c1
      clear hcx hy hbel hmem hcs
      generalize Lag.sm (Lag.wt (Lag.xs ps)) (ps.take k) % 2305843009213693951 = A at *
      have t1 := Lag.wt_lo (Lag.xs ps) c
      have t2 := Lag.wt_hi (Lag.xs ps) c
      go_wp2_with fail
      refine wp_region_grow (by kernel_rfl) (by kernel_rfl) ?_
      intro I G hI hG hGc hGn
      repeat (go_big_quiet_step (first | (go_at_call 267; exact call_grow hG hGn (weight_calls _ ps c _ ((HP.out.below HB.out).below (((Below.refl _ _).alloc (Nat.le_refl _) _).trans ((hG.out _).mono (by simp)))) HG.out.1 HS.out)) | (go_at_call 144; exact call_same (times_calls _ _ _ y1 y2 t1 t2))))
      refine wpQuiet_nil ?_
      intro wn hw'
      obtain ⟨u, hw''⟩ := hw'
      have hwn := hG.out u
      rw [← hw''] at hwn
      clear hw'' hGc hGn hG u hI G I
      have HW := hideG hwn
      clear hwn
      go_wp2_with fail
      refine (plus_calls _ _ _ A1 A2 (Num.mulP_lo _ _) (Num.mulP_hi _ _)).mono ?_
      rintro e wn ⟨rfl, rfl⟩
      go_wp2_with fail
      go_roundw
      case rel => exact ⟨k + 1, by omega, by go_num, by rw [ES.out], (HB.out.alloc hsz _).trans (HW.out.mono (by simp; omega))⟩
      case measure => simp [intOf]; omega
    · have ek : k = n := by omega
      subst ek
      have et : ps.take k = ps := List.take_of_length_le (by rw [HN.out]; exact Nat.le_refl _)
      have H := hideG (show Lag.sm (Lag.wt (Lag.xs ps)) (ps.take k) % 2305843009213693951 = Lag.joinN ps by rw [et]; rfl)
      clear et hbel
      generalize Lag.sm (Lag.wt (Lag.xs ps)) (ps.take k) % 2305843009213693951 = A at *
      go_wp2_with fail
      go_ret2
      exact ⟨congrArg (fun x => Ending.returned (.tuple #[.int .i64 x, .int .i64 0])) H.out, HB.out⟩
end Go.Proofs.YtchideljndagjabGreat
