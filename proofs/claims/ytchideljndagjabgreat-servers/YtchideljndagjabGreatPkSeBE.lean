/- Contract of veilref's server: ends where all is done. -/
import Derived.Test.YtchideljndagjabGreatPkSeBD
import Derived.Deep.RegionHeld3
namespace Go.Proofs.YtchideljndagjabGreat
open Go.ChangeShapes Go.WideShapes Go.ChangeAt Go.RowKit
set_option linter.unusedVariables false

theorem sumL_in {C : Srv.Cf} {G : Srv.Tab} (z : Int) (hz : z ∈ Srv.sumL C G) : inI z := by
  unfold Srv.sumL at hz
  obtain ⟨i, _, rfl⟩ := List.mem_map.1 hz
  unfold Srv.totP inI
  omega
theorem setL_in {G : Srv.Tab} (z : Int) (hz : z ∈ Srv.setL G) : inI z := by
  unfold Srv.setL at hz
  obtain ⟨i, hi, rfl⟩ := List.mem_map.1 hz
  have := (Srv.mem_lst.1 hi).1
  unfold inI
  omega

set_option maxHeartbeats 4000000 in
set_option maxRecDepth 100000 in
theorem rends_done (b : Nat) (C : Srv.Cf) (hc : Srv.GoodC C) (s : RV) (L : Srv.Log) (X : List Value) (w : World) (h : EndsIn b C s L X w) (hg : Srv.GoodT C (Srv.tab C L)) (hf : C.T ≤ (Srv.sizeR (Srv.tab C L 3) : Int)) :
    Calls Tryz.prog 181 #[.pointer (some ⟨b, 0, none⟩), .int .i64 3] w fun e w' => e = .returned (.slice none 0 0) ∧ ∃ va vb, RVAt w' b C { s with st := 1, ro := 0, set := va, sum := vb } ∧ ListAt w' va (Srv.setL (Srv.tab C L)) ∧ ListAt w' vb (Srv.sumL C (Srv.tab C L)) ∧ (∀ x, va.ownBlock = some x ∨ vb.ownBlock = some x → w.heap.size ≤ x ∧ x < w'.heap.size) ∧ Chg (fun x => x = b) w w' := by
  have hbl := h.at_.lt
  have HC := hideG (h.counted hc)
  have HAT := hideG h.at_
  have hz : ∀ r, Srv.tab C L r 0 = none := fun r => Srv.mem_off (hg.zero r)
  have HZ := hideG hz
  have HGC := hideG hc
  have HG := hideG hg
  have gt := hc.t
  clear h hz hc hg
  obtain ⟨G, hG⟩ : ∃ G, G = Srv.tab C L := ⟨_, rfl⟩
  rw [← hG] at HC HZ hf HG
  rw [← hG]
  clear hG
  have HN3 := hideG (show 1 ≤ Srv.sizeR (G 3) by omega)
  unfold Srv.sizeR at hf
  go_enter Tryz.func181, Tryz.ntmps181
  go_wp2_with fail
  refine HC.out.mono ?_
  rintro e w1 ⟨H, rfl, hH, hb1⟩
  obtain ⟨f1, f2, f3⟩ := tab_made w1 H
  have ONE := hideG (show (tabL H).toArray.all (·.oneCell') = true from all_oneCell_toArray hH.one)
  have LT := hideG (tab_len H)
  have s1 := hb1.size
  have LS := hideG (fun W => rlist_size (W := W) hH HZ.out (show 3 < 4 by omega))
  have LS2 := hideG (fun W => rlist_size (W := W) hH HZ.out (show 2 < 4 by omega))
  have RG := hideG (tab_range f1 3 (by omega))
  have LR := hideG (round_len (rowR H 3))
  have LR2 := hideG (round_len (rowR H 2))
  have B2 := hideG (hb1.trans (f3.mono s1))
  have HTT := hideG (fun (W : World) (hb : Below w.heap.size w W) => rtotal_calls b C HGC.out H G W ((HAT.out.below hb).cell 2) (Nat.lt_of_lt_of_le hbl hb.size) (hH.below hb) HG.out HN3.out)
  have F2 := hideG f1
  have s2 := f3.size
  have z2 := f1.lt
  have HT := hideG f2
  have HR2 := hideG (fun (W : World) (h : FRow W w1.heap.size 238 156 (cellF H)) => tab_range h 2 (by omega))
  have HRA := hideG (fun (W : World) (h : FRow W w1.heap.size 238 156 (cellF H)) => (show W.rangeAt w1.heap.size 0 (tabL H) by have := h.range 0 156 (by omega); simp only [Nat.zero_add] at this; exact this))
  clear f1 f2 f3 hH hb1
  obtain ⟨CR, hCR⟩ : ∃ CR, CR = roundL (rowR H 3) := ⟨_, rfl⟩
  rw [← hCR] at RG LS LR
  clear hCR
  obtain ⟨CR2, hCR2⟩ : ∃ CR2, CR2 = roundL (rowR H 2) := ⟨_, rfl⟩
  rw [← hCR2] at HR2 LS2 LR2
  clear hCR2
  obtain ⟨CS, hCS⟩ : ∃ CS, CS = tabL H := ⟨_, rfl⟩
  rw [← hCS] at ONE LT RG B2 s2 z2 F2 HRA HTT ⊢
  clear hCS
  have HSZ := hideG (show (Tryz.prog.info? 238).map (·.size) = some CS.toArray.size by rw [size_tab4, List.size_toArray, LT.out])
  have HSL := hideG (show (Tryz.prog.info? 238).map (·.size) = some CS.length by rw [size_tab4, LT.out])
  have HTH := hideG (show (w1.alloc (.cells Tryz.zeroCells238 238)).there w1.heap.size 0 CS.toArray.size by rw [show CS.toArray.size = 156 by rw [List.size_toArray]; exact LT.out]; exact HT.out)
  have SL := hideG (show (Tryz.prog.info? 237).map (·.size) = some CR.length by rw [size_rnd, LR.out])
  have SL2 := hideG (show (Tryz.prog.info? 237).map (·.size) = some CR2.length by rw [size_rnd, LR2.out])
  obtain ⟨W2, hW2⟩ : ∃ W2, W2 = (w1.alloc (.cells Tryz.zeroCells238 238)).setCells w1.heap.size 0 CS := ⟨_, rfl⟩
  rw [← hW2] at RG B2 s2 z2 F2
  have HW2 := hideG hW2
  clear hW2 HT
  go_upto_region 2 with (refine wpList_store_mid rfl 238 _ _ rfl w1.heap.size 0 CS.toArray rfl rfl HTH.out HSZ.out ONE.out ?_)
  rw [← HW2.out]
  go_wp2_with (refine wpList_load_mid rfl 237 _ rfl w1.heap.size 117 rfl CR _ RG.out Tryz.underlying237 rfl SL.out ?_)
  refine (LS.out _).mono ?_
  rintro e w3 ⟨v, rfl, hown, hb3⟩
  obtain ⟨a3, c3, hv3⟩ := owns_form hown
  subst hv3
  have B3 := hideG (B2.out.trans (hb3.mono B2.out.size))
  have AT3 := hideG (HAT.out.below B3.out)
  have F3 := hideG (F2.out.block (hb3.block _ z2))
  have s3 := hb3.size
  clear hown hb3 RG LS
  obtain ⟨n, hn⟩ : ∃ n, n = (Srv.lst (Srv.mem (G 3))).length := ⟨_, rfl⟩
  rw [← hn] at hf ⊢
  clear hn
  have hf' : ¬ (n : Int) < C.T := by omega
  have c1 := AT3.out.cell 1
  change w3.cell? _ = some (.int .i64 C.T) at c1
  have RA := hideG (HRA.out w3 F3.out)
  have TT := hideG (HTT.out w3 B3.out)
  go_wp2_with (refine wpList_load_mid rfl 238 _ rfl w1.heap.size 0 rfl CS _ RA.out Tryz.underlying238 rfl HSL.out ?_)
  refine TT.out.mono ?_
  rintro e w4 ⟨vb, rfl, hob, hb4⟩
  obtain ⟨a4, k4, hv4⟩ := owns_form hob
  subst hv4
  have s4 := hb4.size
  have B4 := hideG (B3.out.trans (hb4.mono B3.out.size))
  have F4 := hideG (F3.out.block (hb4.block _ F3.out.lt))
  have OB := hideG hob
  clear hob hb4 RA TT c1 F3
  have RG2 := hideG (HR2.out w4 F4.out)
  have L2 := hideG (LS2.out w4)
  obtain ⟨m, hm⟩ : ∃ m, m = (Srv.sumL C G).length := ⟨_, rfl⟩
  rw [← hm] at OB ⊢
  clear hm
  go_wp2_with (refine wpList_load_mid rfl 237 _ rfl w1.heap.size 78 rfl CR2 _ RG2.out Tryz.underlying237 rfl SL2.out ?_)
  refine L2.out.mono ?_
  rintro e w5 ⟨va, rfl, hoa, hb5⟩
  obtain ⟨a5, k5, hv5⟩ := owns_form hoa
  subst hv5
  have s5 := hb5.size
  have B5 := hideG (B4.out.trans (hb5.mono B4.out.size))
  have OB5 := hideG (ownsRow_chg (S := fun _ => False) OB.out (Chg.of_below hb5) (fun _ _ h => h))
  have OA := hideG (show w5.ownsRow w4.heap.size 3 1 _ (Srv.lst (Srv.mem (G 2))).length ((Srv.setL G).map (Value.int .i64)) by unfold Srv.setL; rw [List.map_map]; exact hoa)
  have AT5 := hideG (HAT.out.below B5.out)
  clear hoa hb5 RG2 L2 OB
  obtain ⟨q, hq⟩ : ∃ q, q = (Srv.lst (Srv.mem (G 2))).length := ⟨_, rfl⟩
  rw [← hq] at OA ⊢
  clear hq
  have c6 := AT5.out.cell 6
  have c7 := AT5.out.cell 7
  have c8 := AT5.out.cell 8
  have c9 := AT5.out.cell 9
  change w5.cell? _ = some (.int .i64 s.st) at c6
  change w5.cell? _ = some (.int .i64 s.ro) at c7
  change w5.cell? _ = some s.set at c8
  change w5.cell? _ = some s.sum at c9
  have cf := AT5.out.froz
  have FIN := hideG (AT5.out.setOut 1 0 (.slice a5 q k5) (.slice a4 m k4))
  have hc5 := chg_out w5 b (.int .i64 1) (.int .i64 0) (.slice a5 q k5) (.slice a4 m k4)
  have FIC := hideG ((Chg.of_below (S := fun x => x = b) B5.out).also hc5)
  have z5 := hc5.size
  have bls := AT5.out.lt
  have w1s := B2.out.size
  have w3s := B3.out.size
  have w4s := B4.out.size
  have LA := hideG (listAt_of_owns (ownsRow_chg OA.out hc5 (fun x hx e => by have := (OA.out.lt x hx).1; omega)) setL_in)
  have LB := hideG (listAt_of_owns (ownsRow_chg OB5.out hc5 (fun x hx e => by have := (OB5.out.lt x hx).1; omega)) sumL_in)
  have LO := hideG (show ∀ x, (Value.slice a5 q k5).ownBlock = some x ∨ (Value.slice a4 m k4).ownBlock = some x → w.heap.size ≤ x ∧ x < ((((w5.setCell ⟨b, 6, none⟩ (.int .i64 1)).setCell ⟨b, 7, none⟩ (.int .i64 0)).setCell ⟨b, 8, none⟩ (.slice a5 q k5)).setCell ⟨b, 9, none⟩ (.slice a4 m k4)).heap.size from fun x hx => by
    rcases hx with hx | hx
    · have := OA.out.lt x hx; omega
    · have := OB5.out.lt x hx; omega)
  clear hc5
  go_wp2_with fail
  go_ret
  exact ⟨rfl, _, _, FIN.out, LA.out, LB.out, LO.out, FIC.out⟩

end Go.Proofs.YtchideljndagjabGreat

namespace Go.Proofs.YtchideljndagjabGreat
open Go.ChangeShapes Go.WideShapes Go.ChangeAt Go.RowKit
set_option linter.unusedVariables false
set_option linter.unusedSimpArgs false

def pkR (G : Srv.Tab) (r k : Nat) : List Pk := ((Srv.lst (Srv.mem (G r))).take k).map fun u : Nat => ((0 : Int), (u : Int), Frm.encF (2 * (r : Int) + 2) 0 (Srv.sendsL G r u))
theorem pkR_succ (G : Srv.Tab) (r k : Nat) (hk : k < (Srv.lst (Srv.mem (G r))).length) : pkR G r (k + 1) = pkR G r k ++ [((0 : Int), (((Srv.lst (Srv.mem (G r))).getD k 0 : Nat) : Int), Frm.encF (2 * (r : Int) + 2) 0 (Srv.sendsL G r ((Srv.lst (Srv.mem (G r))).getD k 0)))] := by
  unfold pkR
  rw [List.take_succ_eq_append_getElem hk, List.map_append, List.getD_eq_getElem?_getD, List.getElem?_eq_getElem hk]; rfl
theorem pkR_len (G : Srv.Tab) (r k : Nat) (hk : k ≤ (Srv.lst (Srv.mem (G r))).length) : (pkR G r k).length = k := by
  unfold pkR; rw [List.length_map, List.length_take]; omega

/-- A frame that came back, in a variable made behind the call, or ahead of it. -/
def FrEnd (W0 W : World) (kd : Int) (l : List Frm.It) (p : Value) : Prop := ∃ g va, p = .pointer (some ⟨g, 0, none⟩) ∧ W.heap[g]? = some (.cells #[.int .i64 kd, .int .i64 0, va] 65 (0, 0)) ∧ ItemsAt W va l ∧ Below W0.heap.size W0 W
theorem fr_end_a (W0 w1 : World) (kd : Int) (va : Value) (l : List Frm.It) (h : Below W0.heap.size W0 w1) (hi : ItemsAt w1 va l) : FrEnd W0 (w1.alloc (.cells #[.int .i64 kd, .int .i64 0, va] 65)) kd l (.pointer (some ⟨w1.heap.size, 0, none⟩)) :=
  ⟨_, va, rfl, heap_alloc_new _ _, hi.below ((Below.refl _ _).alloc (Nat.le_refl _) _), h.alloc h.size _⟩
theorem fr_end_b (W0 w1 : World) (n : Nat) (kd : Int) (va : Value) (l : List Frm.It) (hr : w1.heap[n]? = some (.cells #[.int .i64 0, .int .i64 0, .slice none 0 0] 65 (0, 0))) (h : Below W0.heap.size W0 w1) (hn : W0.heap.size ≤ n) (hi : ItemsAt w1 va l) (hne : ∀ x, va.ownBlock = some x → x ≠ n) :
    FrEnd W0 (((w1.setCell ⟨n, 0, none⟩ (.int .i64 kd)).setCell ⟨n, 1, none⟩ (.int .i64 0)).setCell ⟨n, 2, none⟩ va) kd l (.pointer (some ⟨n, 0, none⟩)) :=
  ⟨_, va, rfl, row_three hr _ _ _, hi.chg (((Chg.setCell w1 ⟨n, 0, none⟩ _).also (Chg.setCell _ ⟨n, 1, none⟩ _)).also (Chg.setCell _ ⟨n, 2, none⟩ _)) hne, below_three h hn _ _ _⟩

set_option maxHeartbeats 4000000 in
set_option maxRecDepth 100000 in
theorem rends_more (b : Nat) (C : Srv.Cf) (hc : Srv.GoodC C) (s : RV) (L : Srv.Log) (X : List Value) (w : World) (h : EndsIn b C s L X w) (hg : Srv.GoodT C (Srv.tab C L)) (r : Nat) (hr : r < 3) (hf : C.T ≤ (Srv.sizeR (Srv.tab C L r) : Int)) :
    Calls Tryz.prog 181 #[.pointer (some ⟨b, 0, none⟩), .int .i64 (r : Int)] w fun e w' => ∃ v vs, e = .returned v ∧ Packs w' w.heap.size v vs (pkR (Srv.tab C L) r (Srv.lst (Srv.mem (Srv.tab C L r))).length) ∧ Below w.heap.size w w' := by
  obtain ⟨i1, hi1, hy0, hy1, hy2⟩ := info_parts infoPk
  have hbl := h.at_.lt
  have HC := hideG (h.counted hc)
  have HAT := hideG h.at_
  have hz : ∀ r, Srv.tab C L r 0 = none := fun r => Srv.mem_off (hg.zero r)
  have HZ := hideG hz
  have HG := hideG hg
  have gt := hc.t
  clear h hz hc hg
  obtain ⟨G, hG⟩ : ∃ G, G = Srv.tab C L := ⟨_, rfl⟩
  rw [← hG] at HC HZ hf HG
  rw [← hG]
  clear hG
  have HOK := hideG (fun u => Srv.sends_ok HG.out r u hr (by omega))
  have HPS := hideG (fun k hk => pkR_succ G r k hk)
  have HPL := hideG (fun k hk => pkR_len G r k hk)
  have HP0 := hideG (show pkR G r 0 = [] from rfl)
  have HGL := hideG (fun k (hk : k < (Srv.lst (Srv.mem (G r))).length) => getD_lst hk)
  unfold Srv.sizeR at hf
  have hr' : (r : Int) < 4 := by omega
  have hr3 : ((r : Int) == 3) = false := by simp; omega
  have n13 : (Srv.lst (Srv.mem (G r))).length ≤ 13 := Srv.lstN_le _ 13
  go_enter Tryz.func181, Tryz.ntmps181
  go_wp2_with fail
  refine HC.out.mono ?_
  rintro e w1 ⟨H, rfl, hH, hb1⟩
  obtain ⟨f1, f2, f3⟩ := tab_made w1 H
  have hone : ∀ v ∈ tabL H, v.oneCell' = true := hH.one
  have ONE := hideG (show (tabL H).toArray.all (·.oneCell') = true from all_oneCell_toArray hH.one)
  have hlt := tab_len H
  have s1 := hb1.size
  have LS := hideG (fun W => rlist_size (W := W) hH HZ.out (show r < 4 by omega))
  have RG := hideG (tab_range f1 r (by omega))
  have LR := hideG (round_len (rowR H r))
  have B2 := hideG (hb1.trans (f3.mono s1))
  have HSN := hideG (fun (W : World) (u : Nat) (hb : Below w.heap.size w W) => rsends_calls C H G r u W hr (hH.below hb) HG.out)
  have F2 := hideG f1
  have s2 := f3.size
  have z2 := f1.lt
  have HT := hideG f2
  have HRA := hideG (fun (W : World) (h : FRow W w1.heap.size 238 156 (cellF H)) => (show W.rangeAt w1.heap.size 0 (tabL H) by have := h.range 0 156 (by omega); simp only [Nat.zero_add] at this; exact this))
  clear f1 f2 f3 hH hb1
  obtain ⟨CR, hCR⟩ : ∃ CR, CR = roundL (rowR H r) := ⟨_, rfl⟩
  rw [← hCR] at RG LS LR
  clear hCR
  obtain ⟨CS, hCS⟩ : ∃ CS, CS = tabL H := ⟨_, rfl⟩
  rw [← hCS] at ONE hlt hone RG B2 s2 z2 F2 HRA HSN ⊢
  clear hCS
  have HONE := hideG hone
  have HLT := hideG hlt
  clear hone hlt
  have HSZ := hideG (show (Tryz.prog.info? 238).map (·.size) = some CS.toArray.size by rw [size_tab4, List.size_toArray, HLT.out])
  have HSL := hideG (show (Tryz.prog.info? 238).map (·.size) = some CS.length by rw [size_tab4, HLT.out])
  have HTH := hideG (show (w1.alloc (.cells Tryz.zeroCells238 238)).there w1.heap.size 0 CS.toArray.size by rw [show CS.toArray.size = 156 by rw [List.size_toArray]; exact HLT.out]; exact HT.out)
  have SL := hideG (show (Tryz.prog.info? 237).map (·.size) = some CR.length by rw [size_rnd, LR.out])
  obtain ⟨W2, hW2⟩ : ∃ W2, W2 = (w1.alloc (.cells Tryz.zeroCells238 238)).setCells w1.heap.size 0 CS := ⟨_, rfl⟩
  rw [← hW2] at RG B2 s2 z2 F2
  have HW2 := hideG hW2
  clear hW2 HT
  go_upto_region 2 with (refine wpList_store_mid rfl 238 _ _ rfl w1.heap.size 0 CS.toArray rfl rfl HTH.out HSZ.out ONE.out ?_)
  rw [← HW2.out]
  go_wp2_with (refine wpList_load_mid rfl 237 _ rfl w1.heap.size (r * 39) rfl CR _ RG.out Tryz.underlying237 rfl SL.out ?_)
  refine (LS.out _).mono ?_
  rintro e w3 ⟨v, rfl, hown, hb3⟩
  obtain ⟨a3, c3, hv3, l3a, l3b, hcl⟩ := row_lst hown
  subst hv3
  have B3 := hideG (B2.out.trans (hb3.mono B2.out.size))
  have AT3 := hideG (HAT.out.below B3.out)
  have F3 := hideG (F2.out.block (hb3.block _ z2))
  have s3 := hb3.size
  have HCL := hideG hcl
  clear hown hb3 RG LS hcl
  obtain ⟨n, hn⟩ : ∃ n, n = (Srv.lst (Srv.mem (G r))).length := ⟨_, rfl⟩
  rw [← hn] at hf HPS HPL HGL n13 HCL l3a ⊢
  have HNE := hideG hn
  clear hn
  have hf' : ¬ (n : Int) < C.T := by omega
  have c1 := AT3.out.cell 1
  change w3.cell? _ = some (.int .i64 C.T) at c1
  have w1s : w1.heap.size < w3.heap.size := by omega
  go_wp2_with fail
  go_loopw [9, 10] (fun ro i wr => ∃ (k : Nat) (vs : List Value), k ≤ n ∧ i = .int .i64 (k : Int) ∧ Packs wr w3.heap.size ro vs (pkR G r k) ∧ Below w3.heap.size w3 wr) (fun _ i _ => n - (intOf i).toNat)
  case atStart => exact ⟨0, [], by omega, rfl, by rw [HP0.out]; exact packs_nil _ _, Below.refl _ _⟩
  case round =>
    obtain ⟨k, vs, hk, rfl, hpk, hbel⟩ := hrel
    have HO := hideG hpk
    have HB := hideG hbel
    have hsz := hbel.size
    have BW := hideG (B3.out.trans (hbel.mono B3.out.size))
    have FW := hideG (F3.out.block (hbel.block _ w1s))
    obtain ⟨a4, c4, hv4⟩ := owns_form hpk.row
    rw [HPL.out k hk] at hv4
    subst hv4
    clear hpk hbel c1
    by_cases hlt : k < n
    · obtain ⟨gl, ea, gl1, gl2, gc⟩ := HCL.out k hlt
      subst ea
      have o1 := (HB.out.cell (p := ⟨gl, k, none⟩) gl2).trans gc
      have PS := hideG (HPS.out k hlt)
      obtain ⟨u, hu⟩ : ∃ u, u = (Srv.lst (Srv.mem (G r))).getD k 0 := ⟨_, rfl⟩
      rw [← hu] at o1 PS
      clear hu gc
      have OK := hideG (HOK.out u)
      have SN := hideG (fun (W : World) (hb : Below wr.heap.size wr W) => HSN.out W u (BW.out.trans (hb.mono BW.out.size)))
      have KP := hideG (fun (W : World) (hb : Below wr.heap.size wr W) => (show W.rangeAt w1.heap.size 0 CS ∧ W.cell? ⟨gl, k, none⟩ = some (.int .i64 (u : Int)) from
        ⟨HRA.out W (FW.out.block (hb.block _ (by omega))), (hb.cell (p := ⟨gl, k, none⟩) (by show gl < wr.heap.size; omega)).trans o1⟩))
      obtain ⟨kd, hkd⟩ : ∃ kd : Int, kd = 2 * (r : Int) + 2 := ⟨_, rfl⟩
      obtain ⟨Q, hQ⟩ : ∃ Q, Q = Srv.sendsL G r u := ⟨_, rfl⟩
      rw [← hkd, ← hQ] at OK PS SN
      clear hkd hQ
      have IN := hideG (okF_in OK.out)
      have hgl : gl < wr.heap.size := by omega
      have hw1l : w1.heap.size < wr.heap.size := by omega
      obtain ⟨nq, hnq⟩ : ∃ nq, nq = Q.length := ⟨_, rfl⟩
      rw [← hnq] at SN
      have HNQ := hideG hnq
      clear hnq
      go_upto_region 15 with fail
      go_cut [11] from 53 to 59 (fun p wc => FrEnd wr wc kd Q p)
      case first =>
        have hk0 : (0 : Int) ≤ (k : Int) := by omega
        have hkn : (k : Int) < (n : Int) := by omega
        refine wp_region_held_drew (S := fun W => Below wr.heap.size wr W) (by kernel_rfl) (Below.refl _ _).drew (fun hHeld => ?_)
        refine' wpAnyH_take (i := 0) (oi := _) (v := _) rfl (by kernel_rfl) (by kernel_rfl) (by kernel_rfl) (fun _ _ _ h => h) (yieldsIf_load_mid (by rfl) 238 _ rfl w1.heap.size 0 rfl CS _ (fun W hW => (KP.out W hW).1) Tryz.underlying238 rfl HSL.out) hHeld ?_
        simp only [Act.put, List.setIfInBounds_toArray, List.set_cons_zero, List.set_cons_succ]
        refine wpAnyH_take (i := 1) (oi := _) (v := ?_) rfl (by kernel_rfl) (by kernel_rfl) (by kernel_rfl) (fun _ _ _ h => h) (Or.inl ⟨by rfl, ?_⟩) hHeld ?_
        rotate_left
        · intro W hW; go_simp; rfl
        simp only [Act.put, List.setIfInBounds_toArray, List.set_cons_zero, List.set_cons_succ]
        refine wpAnyH_take (i := 2) (oi := _) (v := ?_) rfl (by kernel_rfl) (by kernel_rfl) (by kernel_rfl) (fun _ _ _ h => h) (Or.inl ⟨by rfl, ?_⟩) hHeld ?_
        rotate_left
        · intro W hW; go_simp; rfl
        simp only [Act.put, List.setIfInBounds_toArray, List.set_cons_zero, List.set_cons_succ]
        refine wpAnyH_take (i := 3) (oi := _) (v := ?_) rfl (by kernel_rfl) (by kernel_rfl) (by kernel_rfl) (fun _ _ _ h => h) (Or.inl ⟨by rfl, ?_⟩) hHeld ?_
        rotate_left
        · intro W hW; go_simp; rfl
        simp only [Act.put, List.setIfInBounds_toArray, List.set_cons_zero, List.set_cons_succ]
        refine wpAnyH_take (i := 4) (oi := _) (v := .pointer (some ⟨gl, k, none⟩)) rfl (by kernel_rfl) (by kernel_rfl) (by kernel_rfl) (fun _ _ _ h => h) (Or.inl ⟨by rfl, ?_⟩) hHeld ?_
        · intro W hW; go_simp
        simp only [Act.put, List.setIfInBounds_toArray, List.set_cons_zero, List.set_cons_succ]
        refine wpAnyH_take (i := 5) (oi := _) (v := .int .i64 (u : Int)) rfl (by kernel_rfl) (by kernel_rfl) (by kernel_rfl) (fun _ _ _ h => h) (Or.inl ⟨by rfl, ?_⟩) hHeld ?_
        · intro W hW; have := (KP.out W hW).2; go_simp
        simp only [Act.put, List.setIfInBounds_toArray, List.set_cons_zero, List.set_cons_succ]
        refine wpAnyH_ready (rs := [6, 7]) (by kernel_rfl) (by simp) ?_
        refine AllReadyH.cons (o := _) rfl (fun K hK => ?_) (AllReadyH.cons (o := _) rfl (fun K hK => ?_) AllReadyH.nil)
        · go_simp
          refine (SN.out _ hHeld).mono ?_
          rintro e w5 ⟨va, rfl, ho5, hb5⟩
          obtain ⟨a5, c5, hv5⟩ := owns_form ho5
          subst hv5
          have HB5 := hideG (show Below wr.heap.size wr w5 from hHeld.trans (hb5.mono hHeld.size))
          have HFIN := hideG (fr_end_a wr w5 kd _ Q HB5.out (itemsAt_of_owns (by rw [← HNQ.out]; exact ho5) IN.out))
          clear ho5 hb5
          dsimp only
          refine hK.out _ _ HB5.out (fun hHeld => ?_)
          clear hK K
          try simp only [Act.put, List.setIfInBounds_toArray, List.set_cons_zero, List.set_cons_succ]
          refine wpAnyH_ready (rs := [7]) (by kernel_rfl) (by simp) ?_
          refine AllReadyH.cons (o := _) rfl (fun K hK => ?_) AllReadyH.nil
          go_simp
          refine hK.out _ _ (HB5.out.alloc HB5.out.size _) (fun hHeld => ?_)
          clear hK K
          try simp only [Act.put, List.setIfInBounds_toArray, List.set_cons_zero, List.set_cons_succ]
          refine wpAnyH_ready (rs := [8]) (by kernel_rfl) (by simp) ?_
          refine AllReadyH.cons (o := _) rfl (fun K hK => ?_) AllReadyH.nil
          go_simp
          refine hK.out _ _ (HB5.out.alloc HB5.out.size _) (fun hHeld => ?_)
          clear hK K
          try simp only [Act.put, List.setIfInBounds_toArray, List.set_cons_zero, List.set_cons_succ]
          refine wpAnyH_done (by kernel_rfl) ?_ _
          go_wp2_with fail
          go_meet
          exact HFIN.out
        · go_simp
          refine hK.out _ _ (hHeld.alloc hHeld.size _) (fun hHeld => ?_)
          clear hK K
          try simp only [Act.put, List.setIfInBounds_toArray, List.set_cons_zero, List.set_cons_succ]
          refine wpAnyH_ready (rs := [6]) (by kernel_rfl) (by simp) ?_
          refine AllReadyH.cons (o := _) rfl (fun K hK => ?_) AllReadyH.nil
          go_simp
          refine (SN.out _ ((Below.refl wr.heap.size wr).alloc (Nat.le_refl _) _).drew).mono ?_
          rintro e w5 ⟨va, rfl, ho5, hb5⟩
          obtain ⟨a5, c5, hv5⟩ := owns_form ho5
          subst hv5
          have HB5 := hideG (show Below wr.heap.size wr w5 from ((Below.refl wr.heap.size wr).alloc (Nat.le_refl _) _).drew.trans (hb5.mono (by simp)))
          have hrow1 := (hb5.block wr.heap.size (Nat.lt_of_lt_of_eq (Nat.lt_succ_self _) (World.size_alloc _ _).symm)).trans (heap_alloc_new wr _)
          have r0 := cell_of_row w5 wr.heap.size 0 _ _ (0, 0) hrow1
          have r1 := cell_of_row w5 wr.heap.size 1 _ _ (0, 0) hrow1
          have r2 := cell_of_row w5 wr.heap.size 2 _ _ (0, 0) hrow1
          simp only [List.getElem?_toArray, List.getElem?_cons_zero, List.getElem?_cons_succ] at r0 r1 r2
          have rf := fun i => frozen_of_row w5 wr.heap.size i _ _ hrow1
          have HFIN := hideG (fr_end_b wr w5 wr.heap.size kd _ Q hrow1 HB5.out (Nat.le_refl _) (itemsAt_of_owns (by rw [← HNQ.out]; exact ho5) IN.out) (fun x hx e => by have h1 := (ho5.lt x hx).1; have h2 : wr.heap.size + 1 ≤ x := (by simpa using h1); omega))
          clear ho5 hb5 hrow1
          dsimp only
          refine hK.out _ _ HB5.out (fun hHeld => ?_)
          clear hK K
          try simp only [Act.put, List.setIfInBounds_toArray, List.set_cons_zero, List.set_cons_succ]
          refine wpAnyH_ready (rs := [8]) (by kernel_rfl) (by simp) ?_
          refine AllReadyH.cons (o := _) rfl (fun K hK => ?_) AllReadyH.nil
          go_simp
          refine hK.out _ _ (below_three HB5.out (Nat.le_refl _) _ _ _) (fun hHeld => ?_)
          clear hK K
          try simp only [Act.put, List.setIfInBounds_toArray, List.set_cons_zero, List.set_cons_succ]
          refine wpAnyH_done (by kernel_rfl) ?_ _
          go_wp2_with fail
          go_meet
          exact HFIN.out
      case rest =>
        obtain ⟨g, va, rfl, hrow, hit, hbc⟩ := hcut
        have sc := hbc.size
        have hg : g < wc.heap.size := by
          by_cases hb : g < wc.heap.size
          · exact hb
          · rw [Array.getElem?_eq_none (by omega)] at hrow; cases hrow
        obtain ⟨af, nf, cf, hvf⟩ := items_formR hit
        subst hvf
        have x0 := cell_of_row wc g 0 _ _ (0, 0) hrow
        have x1 := cell_of_row wc g 1 _ _ (0, 0) hrow
        have x2 := cell_of_row wc g 2 _ _ (0, 0) hrow
        simp only [List.getElem?_toArray, List.getElem?_cons_zero, List.getElem?_cons_succ] at x0 x1 x2
        have EN := hideG (rencode_yes kd 0 _ Q wc hit OK.out)
        have BC := hideG (HB.out.trans (hbc.mono HB.out.size))
        have OC := hideG (HO.out.below hbc)
        have sW' : w3.heap.size ≤ wc.heap.size := BC.out.size
        have KC := hideG (KP.out wc hbc)
        clear hrow hit hbc o1
        go_wp2_with fail
        refine EN.out.mono ?_
        rintro e w6 ⟨vb, rfl, hob, hb6⟩
        have s6 := hb6.size
        obtain ⟨a5, c5, hv5⟩ := owns_form hob
        subst hv5
        have o1 := (hb6.cell (p := ⟨gl, k, none⟩) (by show gl < wc.heap.size; omega)).trans KC.out.2
        have B6 := hideG (BC.out.trans (hb6.mono BC.out.size))
        have O6 := hideG (OC.out.below hb6)
        have NEW := hideG (fun x (hx : (Value.slice a5 (Frm.encF kd 0 Q).length c5).ownBlock = some x) y (hy : y ∈ vs) (e : y.ownBlock = some x) => (show False by
          have q1 := (hob.lt x hx).1
          have q2 := (OC.out.low x (.inr ⟨y, hy, e⟩)).2
          omega))
        have BAS := hideG (ownsRow_base hob sW')
        clear hb6 hob x0 x1 x2
        generalize Frm.encF kd 0 Q = bs at *
        have hgl6 : gl < w6.heap.size := by omega
        have hpl := HPL.out k hk
        have O6R := hideG (show w6.ownsRow w3.heap.size 49 3 (.slice a4 k c4) k (packV (pkR G r k) vs) by have := O6.out.row; rwa [hpl] at this)
        go_wp2_with (at_builtin; refine wpList_append_own _ rfl _ _ 41 rfl w3.heap.size 49 i1 (.agg #[.int .i64 0, .int .i64 0, .slice none 0 0]) 3 40 Tryz.underlying41 hi1 hy0 hy1 hy2 rfl (by decide) _ _ _ rfl (O6R.out.alloc _) ⟨w6.heap.size, 0, none⟩ 1 1 [.int .i64 0, .int .i64 u, .slice a5 bs.length c5] rfl rfl ?c1 ?c2 ?c3 ?c4 ?c5 ?_)
        case c1 => exact cell_three_new _ _ _ _ _
        case c2 => intro u hu; simp at hu; rcases hu with rfl | rfl | rfl <;> rfl
        case c3 => unfold maxLen; omega
        case c4 => omega
        case c5 => simp; omega
        intro v' w7 hown' hgrow' _
        have hb7 := (B6.out.alloc (by omega) _).grown hgrow' (by simp; omega) (fun y hy => (O6R.out.lt y hy).1)
        have B7 := hideG hb7
        have hal : Below w6.heap.size w6 (w6.alloc (.cells #[.int .i64 0, .int .i64 u, .slice a5 bs.length c5] 49)) := (Below.refl _ _).alloc (Nat.le_refl _) _
        have O7 := hideG (show Packs w7 w3.heap.size v' (vs ++ [.slice a5 bs.length c5]) (pkR G r (k + 1)) by
          rw [PS.out]
          exact (O6.out.below hal).snoc (p := ((0 : Int), (u : Int), bs)) (ownsRow_chg (S := fun _ => False) BAS.out (Chg.of_below hal) (fun _ _ h => h)) (fun x hx y hy e => NEW.out x hx y hy e) (by rw [hpl]; exact hown') (Chg.grown hgrow'))
        clear hown' hgrow' hb7 hal
        go_wp2_with fail
        go_roundw
        case rel => exact ⟨k + 1, _, by omega, by go_num, O7.out, B7.out⟩
        case measure => simp [intOf]; omega
    · have ek : k = n := by omega
      subst ek
      have OF := hideG (show Packs wr w.heap.size (.slice a4 k c4) vs (pkR G r (Srv.lst (Srv.mem (G r))).length) by rw [← HNE.out]; exact HO.out.base (B' := w.heap.size) B3.out.size)
      go_wp2_with fail
      go_ret
      exact ⟨_, vs, rfl, OF.out, BW.out⟩

end Go.Proofs.YtchideljndagjabGreat
