/- Contract of veilref's server: total. -/
import Derived.Test.YtchideljndagjabGreatPkSeBC
import Derived.Test.YtchideljndagjabGreatPkSeAJ
import Derived.Test.YtchideljndagjabGreatPkSeAW
import Derived.BigRegion
namespace Go.Proofs.YtchideljndagjabGreat
open Go.ChangeShapes Go.WideShapes Go.ChangeAt Go.RowKit
set_option linter.unusedVariables false

def sA (G : Srv.Tab) (a i : Nat) : Int := (((Srv.lst (Srv.mem (G 1))).take a).map (Srv.addV G i)).sum
def sB (G : Srv.Tab) (v b i : Nat) : Int := (((Srv.lst (Srv.mem (G 2))).take b).map (Srv.offV G v i)).sum
theorem take_sum (l : List Nat) (f : Nat → Int) (a : Nat) (h : a < l.length) : ((l.take (a + 1)).map f).sum = ((l.take a).map f).sum + f (l.getD a 0) := by
  rw [List.take_succ_eq_append_getElem h, List.map_append, Srv.sum_app, List.getD_eq_getElem?_getD, List.getElem?_eq_getElem h]; simp
theorem sA_succ (G : Srv.Tab) (a i : Nat) (h : a < (Srv.lst (Srv.mem (G 1))).length) : sA G (a + 1) i = sA G a i + Srv.addV G i ((Srv.lst (Srv.mem (G 1))).getD a 0) := take_sum _ _ a h
theorem sB_succ (G : Srv.Tab) (v b i : Nat) (h : b < (Srv.lst (Srv.mem (G 2))).length) : sB G v (b + 1) i = sB G v b i + Srv.offV G v i ((Srv.lst (Srv.mem (G 2))).getD b 0) := take_sum _ _ b h
theorem sB_bd (G : Srv.Tab) (v b i : Nat) : - 55834574848 ≤ sB G v b i ∧ sB G v b i ≤ 55834574848 := by
  have h := Srv.sum_bd (Srv.offV G v i) 4294967296 ((Srv.lst (Srv.mem (G 2))).take b) (fun u _ => Srv.offV_bd G v i u)
  have h2 : ((Srv.lst (Srv.mem (G 2))).take b).length ≤ 13 := by rw [List.length_take]; have := Srv.lstN_le (Srv.mem (G 2)) 13; unfold Srv.lst; omega
  unfold sB; omega
theorem addV_bd {C : Srv.Cf} {G : Srv.Tab} (hg : Srv.GoodT C G) {i : Nat} (hi : (i : Int) < C.M) (v : Nat) : - 55834574848 ≤ Srv.addV G i v ∧ Srv.addV G i v ≤ 55834574848 := by
  unfold Srv.addV
  split
  · rename_i hm
    have h1 := (Srv.masked_item hg hm hi).2
    have h2 := Cli.strAt_range (Srv.secret G v) i
    omega
  · have := sB_bd G v 13 i
    unfold sB at this
    rwa [List.take_of_length_le (show (Srv.lst (Srv.mem (G 2))).length ≤ 13 from Srv.lstN_le _ 13)] at this
theorem sA_bd {C : Srv.Cf} {G : Srv.Tab} (hg : Srv.GoodT C G) {i : Nat} (hi : (i : Int) < C.M) (a : Nat) : - 725849473024 ≤ sA G a i ∧ sA G a i ≤ 725849473024 := by
  have h := Srv.sum_bd (Srv.addV G i) 55834574848 ((Srv.lst (Srv.mem (G 1))).take a) (fun u _ => addV_bd hg hi u)
  have h2 : ((Srv.lst (Srv.mem (G 1))).take a).length ≤ 13 := by rw [List.length_take]; have := Srv.lstN_le (Srv.mem (G 1)) 13; unfold Srv.lst; omega
  unfold sA; omega
theorem sA_all (G : Srv.Tab) (i : Nat) : sA G (Srv.lst (Srv.mem (G 1))).length i = Srv.rtot G i := by unfold sA Srv.rtot; rw [List.take_length]
theorem sB_all (G : Srv.Tab) (v i : Nat) (h : Srv.mem (G 2) v = false) : sB G v (Srv.lst (Srv.mem (G 2))).length i = Srv.addV G i v := by
  unfold sB Srv.addV; rw [List.take_length, if_neg (by rw [h]; exact Bool.false_ne_true)]
theorem HTab.below {w w' : World} {H : Nat → RF} {G : Srv.Tab} (h : HTab w H G) (hb : Below w.heap.size w w') : HTab w' H G := fun r u hr hu => ⟨(h r u hr hu).1, fun l e => by
  obtain ⟨x, e1, e2⟩ := (h r u hr hu).2 l e
  exact ⟨x, e1, e2.below hb⟩⟩
/-- A row of clients, read. -/
theorem row_lst {w : World} {B : Nat} {v : Value} {p : Nat → Bool} (h : w.ownsRow B 3 1 v (Srv.lst p).length ((Srv.lst p).map fun u : Nat => .int .i64 (u : Int))) : ∃ a c, v = .slice a (Srv.lst p).length c ∧ (Srv.lst p).length ≤ c ∧ c ≤ 9223372036854775807 ∧ ∀ k, k < (Srv.lst p).length → ∃ g, a = some ⟨g, 0, none⟩ ∧ B ≤ g ∧ g < w.heap.size ∧ w.cell? ⟨g, k, none⟩ = some (.int .i64 (((Srv.lst p).getD k 0 : Nat) : Int)) := by
  by_cases hn : 0 < (Srv.lst p).length
  · obtain ⟨g, cap, hv, hb, hl, h3, h4, hc⟩ := owns_cells h hn
    refine ⟨_, _, hv, h3, by unfold maxLen at h4; omega, fun k hk => ⟨g, rfl, hb, hl, hc k _ ?_⟩⟩
    rw [List.getElem?_map, List.getElem?_eq_getElem hk, List.getD_eq_getElem?_getD, List.getElem?_eq_getElem hk]; rfl
  · obtain ⟨_, h2⟩ := h
    rcases h2 with ⟨h2, h3⟩ | ⟨g, cap, cur, hv, _, _, h3, h4, _⟩
    · exact ⟨none, 0, by rw [h2, h3], by omega, by omega, fun i hi => by omega⟩
    · exact ⟨_, cap, hv, h3, by unfold maxLen at h4; omega, fun i hi => by omega⟩
theorem getD_lst {p : Nat → Bool} {k : Nat} (hk : k < (Srv.lst p).length) : (Srv.lst p).getD k 0 < 13 ∧ p ((Srv.lst p).getD k 0) = true := by
  have : (Srv.lst p).getD k 0 ∈ Srv.lst p := by rw [List.getD_eq_getElem?_getD, List.getElem?_eq_getElem hk]; exact List.getElem_mem hk
  exact Srv.mem_lst.1 this

set_option maxHeartbeats 8000000 in
set_option maxRecDepth 100000 in
theorem rtotal_calls (b : Nat) (C : Srv.Cf) (hc : Srv.GoodC C) (H : Nat → RF) (G : Srv.Tab) (w : World) (hm : w.cell? ⟨b, 2, none⟩ = some (.int .i64 C.M)) (hbl : b < w.heap.size) (hH : HTab w H G) (hg : Srv.GoodT C G) (h3 : 1 ≤ Srv.sizeR (G 3)) :
    Calls Tryz.prog 242 #[.pointer (some ⟨b, 0, none⟩), .agg (tabL H).toArray] w fun e w' => ∃ va, e = .returned va ∧ w'.ownsRow w.heap.size 3 1 va (Srv.sumL C G).length ((Srv.sumL C G).map (Value.int .i64)) ∧ Below w.heap.size w w' := by
  obtain ⟨i0, hi, hz0, hz1, hz2⟩ := info_parts infoRi
  have hz : ∀ r, G r 0 = none := fun r => Srv.mem_off (hg.zero r)
  have gm := hc.m
  obtain ⟨n, hn⟩ : ∃ n : Nat, C.M = (n : Int) := ⟨C.M.toNat, by omega⟩
  rw [hn] at gm
  have n1 : 1 ≤ n := by omega
  have n12 : n ≤ 12 := by omega
  have e1 : Srv.lst (hasK (rowR H 1)) = Srv.lst (Srv.mem (G 1)) := Srv.lst_ext (hH.has hz (by omega))
  have e2 : Srv.lst (hasK (rowR H 2)) = Srv.lst (Srv.mem (G 2)) := Srv.lst_ext (hH.has hz (by omega))
  have HL1 := hideG (fun (W : World) => rlist_calls (rowR H 1) W)
  have HL2 := hideG (fun (W : World) => rlist_calls (rowR H 2) W)
  rw [e1] at HL1
  rw [e2] at HL2
  have HSE := hideG (fun (W : World) (hb : Below w.heap.size w W) (v : Nat) => rsecret_calls H G v W (hH.below hb) hz (tell_ok hg h3 v))
  have HV2 := hideG (fun (v : Nat) (hv : v < 13) => hH.view (r := 2) (by omega) (u := v) hv)
  have HV0 := hideG (fun (v : Nat) (hv : v < 13) => hH.view (r := 0) (by omega) (u := v) hv)
  have HUP := hideG (fun u (hu : Srv.mem (G 2) u = true) => hg.up 0 u (hg.up 1 u hu))
  have HIM := hideG (fun (W : World) (u : Nat) (x : Value) (hb : Below w.heap.size w W) (hx : ItemsAt w x (Srv.its (G 0) u)) => ritem_calls 1 (u : Int) x (Srv.its (G 0) u) (u : Int) W (hx.below hb))
  have HPB := hideG (fun u => Srv.pub_el hg u)
  have HST := hideG (fun (W : World) (sd : Int) (h1 : 0 ≤ sd) (h2 : sd < 2305843009213693951) => rstretch_yes sd n W h1 h2 n12)
  have HA2 := hideG (fun (v i : Nat) (hv : Srv.mem (G 2) v = true) (hi : i < n) => (show Srv.addV G i v = (Frm.it (Srv.its (G 2) v) i).2.1 - Num.strAt (Srv.secret G v) i ∧ 0 ≤ (Frm.it (Srv.its (G 2) v) i).2.1 ∧ (Frm.it (Srv.its (G 2) v) i).2.1 < 4294967296 ∧ (Srv.its (G 2) v).length = n from by
    refine ⟨by unfold Srv.addV; rw [if_pos hv], (Srv.masked_item hg hv (by rw [hn]; omega)).2.1, (Srv.masked_item hg hv (by rw [hn]; omega)).2.2, ?_⟩
    obtain ⟨l, el⟩ := Srv.mem_some hv
    have := hg.two v l el
    rw [Srv.its_some el]; omega))
  have HSA := hideG (fun a i ha => sA_succ G a i ha)
  have HSB := hideG (fun v x i hx => sB_succ G v x i hx)
  have HBA := hideG (fun i (hi : i < n) a => sA_bd hg (show (i : Int) < C.M by rw [hn]; omega) a)
  have HBB := hideG (fun v x i => sB_bd G v x i)
  have HAA := hideG (sA_all G)
  have HBL := hideG (fun v i h => sB_all G v i h)
  have HFN := hideG (show Srv.sumL C G = (List.range n).map fun i => Srv.rtot G i % 4294967296 by
    unfold Srv.sumL
    rw [hn]
    show (List.range n).map (Srv.totP G) = _
    apply List.map_congr_left
    intro i hi
    exact Srv.tot_eq hg (by rw [hn]; have := List.mem_range.1 hi; omega))
  have HM := hideG (fun (W : World) (hb : Below w.heap.size w W) => (show W.cell? ⟨b, 2, none⟩ = some (.int .i64 (n : Int)) by rw [← hn]; exact (hb.cell (p := ⟨b, 2, none⟩) hbl).trans hm))
  have HOFF := hideG (fun v i u => (show Srv.offV G v i u = if u < v then - Num.strAt (Num.powP (Srv.pub G u) (Srv.secret G v)) i else Num.strAt (Num.powP (Srv.pub G u) (Srv.secret G v)) i from rfl))
  have HPE := hideG (fun u => (show Srv.pub G u = (Cli.itemOf (Srv.its (G 0) u) (u : Int)).2.2.1 from rfl))
  have HSL := hideG (fun v => And.intro (Srv.secret_lo G v) (Srv.secret_hi G v))
  clear hH hg h3 hm hz e1 e2 hn
  have HF := hideG (tab_new w H)
  have BB := hideG (show Below w.heap.size w (w.alloc (.cells (tabL H).toArray 238)) from (Below.refl _ _).alloc (Nat.le_refl _) _)
  have LT := hideG (tab_len H)
  have HFR := hideG (fun (W : World) (h : FRow W w.heap.size 238 156 (cellF H)) => (show W.rangeAt w.heap.size 0 (tabL H) by have := h.range 0 156 (by omega); simp only [Nat.zero_add] at this; exact this))
  obtain ⟨X, hX⟩ : ∃ X, X = tabL H := ⟨_, rfl⟩
  rw [← hX] at HF BB LT HFR HSE ⊢
  clear hX
  have STX := hideG (show (Tryz.prog.info? 238).map (·.size) = some X.length by rw [size_tab4, LT.out])
  obtain ⟨W0, hW0⟩ : ∃ W0, W0 = w.alloc (.cells X.toArray 238) := ⟨_, rfl⟩
  rw [← hW0] at HF BB
  have sz0 : W0.heap.size = w.heap.size + 1 := by rw [hW0]; simp
  have SZ0 := hideG sz0
  have HW0 := hideG hW0
  clear hW0 sz0
  have y2 := HM.out W0 BB.out
  go_enter Tryz.func242, Tryz.ntmps242
  go_upto_region 1 with fail
  rw [← HW0.out]
  go_upto_region 2 with (at_make; refine wpList_make_full _ rfl _ _ 33 rfl W0.heap.size 3 i0 (.int .i64 0) 1 Tryz.underlying33 hi hz0 hz1 _ _ _ _ n rfl rfl (by omega) (by omega) ?m1 ?m2 ?m3 ?_)
  case m1 => rw [hz2]; omega
  case m2 => unfold maxLen; omega
  case m3 => exact Nat.le_refl _
  intro w1 hown1 hgrow1
  have hr := rrow_of_full hown1
  have hb1 : Below W0.heap.size W0 w1 := (Below.refl _ _).grown hgrow1 (Nat.le_refl _) (by simp)
  rw [toList_madeCells_one, rep_range] at hr
  have R1 := hideG (show IntsRow w1 W0.heap.size n (fun _ => 0) from hr)
  have g1 := R1.out.lt
  have B1 := hideG hb1
  have F1 := hideG (HF.out.block (hb1.block _ HF.out.lt))
  have BW1 := hideG (BB.out.trans (hb1.mono BB.out.size))
  clear hr hb1 hown1 hgrow1 y2
  have RG1 := hideG (tab_range F1.out 1 (by omega))
  have L1 := hideG (HL1.out w1)
  have LR1 := hideG (round_len (rowR H 1))
  have LR2 := hideG (round_len (rowR H 2))
  have HL2' := hideG (fun (W : World) (h : FRow W w.heap.size 238 156 (cellF H)) => tab_range h 2 (by omega))
  obtain ⟨X1, hX1⟩ : ∃ X1, X1 = roundL (rowR H 1) := ⟨_, rfl⟩
  obtain ⟨X2, hX2⟩ : ∃ X2, X2 = roundL (rowR H 2) := ⟨_, rfl⟩
  rw [← hX1] at RG1 L1 LR1
  rw [← hX2] at HL2 LR2 HL2'
  clear hX1 hX2
  have SR1 := hideG (show (Tryz.prog.info? 237).map (·.size) = some X1.length by rw [size_rnd, LR1.out])
  have SR2 := hideG (show (Tryz.prog.info? 237).map (·.size) = some X2.length by rw [size_rnd, LR2.out])
  go_wp2_with (refine wpList_load_mid rfl 237 _ rfl w.heap.size 39 rfl X1 _ RG1.out Tryz.underlying237 rfl SR1.out ?_)
  refine L1.out.mono ?_
  rintro e w2 ⟨v1, rfl, ho1, hb2⟩
  obtain ⟨a1, c1, hv1, l1a, l1b, hc1⟩ := row_lst ho1
  subst hv1
  have s2 := hb2.size
  have R2 := hideG (R1.out.block (hb2.block _ g1))
  have F2 := hideG (F1.out.block (hb2.block _ F1.out.lt))
  have BW2 := hideG (BW1.out.trans (hb2.mono BW1.out.size))
  have HC1 := hideG hc1
  clear ho1 hb2 hc1 L1 RG1
  have RG2 := hideG (HL2'.out w2 F2.out)
  have L2 := hideG (HL2.out w2)
  go_wp2_with (refine wpList_load_mid rfl 237 _ rfl w.heap.size 78 rfl X2 _ RG2.out Tryz.underlying237 rfl SR2.out ?_)
  refine L2.out.mono ?_
  rintro e w3 ⟨v2, rfl, ho2, hb3⟩
  obtain ⟨a2, c2, hv2, l2a, l2b, hc2⟩ := row_lst ho2
  subst hv2
  have s3 := hb3.size
  have R3 := hideG (R2.out.block (hb3.block _ (by omega)))
  have F3 := hideG (F2.out.block (hb3.block _ F2.out.lt))
  have BW3 := hideG (BW2.out.trans (hb3.mono BW2.out.size))
  have HC1' := hideG (show ∀ k, k < (Srv.lst (Srv.mem (G 1))).length → ∃ g, a1 = some ⟨g, 0, none⟩ ∧ g ≠ W0.heap.size ∧ g < w3.heap.size ∧ w3.cell? ⟨g, k, none⟩ = some (.int .i64 (((Srv.lst (Srv.mem (G 1))).getD k 0 : Nat) : Int)) from fun k hk => by
    obtain ⟨g, e1, e2, e3, e4⟩ := HC1.out k hk
    exact ⟨g, e1, by omega, by omega, (hb3.cell (p := ⟨g, k, none⟩) e3).trans e4⟩)
  have HC2 := hideG (show ∀ k, k < (Srv.lst (Srv.mem (G 2))).length → ∃ g, a2 = some ⟨g, 0, none⟩ ∧ g ≠ W0.heap.size ∧ g < w3.heap.size ∧ w3.cell? ⟨g, k, none⟩ = some (.int .i64 (((Srv.lst (Srv.mem (G 2))).getD k 0 : Nat) : Int)) from fun k hk => by
    obtain ⟨g, e1, e2, e3, e4⟩ := hc2 k hk
    exact ⟨g, e1, by omega, e3, e4⟩)
  clear ho2 hb3 hc2 L2 RG2 HC1
  have G1M := hideG (fun k (hk : k < (Srv.lst (Srv.mem (G 1))).length) => getD_lst hk)
  have G2M := hideG (fun k (hk : k < (Srv.lst (Srv.mem (G 2))).length) => getD_lst hk)
  obtain ⟨m1, hm1⟩ : ∃ m1, m1 = (Srv.lst (Srv.mem (G 1))).length := ⟨_, rfl⟩
  obtain ⟨m2, hm2⟩ : ∃ m2, m2 = (Srv.lst (Srv.mem (G 2))).length := ⟨_, rfl⟩
  have m13 : m1 ≤ 13 := by rw [hm1]; exact Srv.lstN_le _ 13
  have m23 : m2 ≤ 13 := by rw [hm2]; exact Srv.lstN_le _ 13
  rw [← hm1] at HC1' G1M HSA HAA l1a ⊢
  rw [← hm2] at HC2 G2M HSB HBL l2a ⊢
  clear hm1 hm2
  have KB := hideG (fun (W : World) (hch : Chg (fun x => x = W0.heap.size) w3 W) => (show Below w.heap.size w W ∧ FRow W w.heap.size 238 156 (cellF H) from by
    have := SZ0.out
    have hl := F3.out.lt
    exact ⟨BW3.out.trans (hch.below (B := w.heap.size) (by omega) (fun x e => by omega)), F3.out.block (hch.block _ hl (by omega))⟩))
  have S0 : IntsRow w3 W0.heap.size n (sA G 0) := R3.out.ext (fun t ht => by unfold sA; simp)
  have HS0 := hideG S0
  clear S0
  go_wp2_with fail
  go_loopw [8] (fun i wr => ∃ a : Nat, a ≤ m1 ∧ i = .int .i64 (a : Int) ∧ IntsRow wr W0.heap.size n (sA G a) ∧ Chg (fun x => x = W0.heap.size) w3 wr) (fun i _ => m1 - (intOf i).toNat)
  case atStart => exact ⟨0, Nat.zero_le _, rfl, HS0.out, Chg.refl _ _⟩
  case round =>
    obtain ⟨a, ha, rfl, hrow, hchg⟩ := hrel
    have HR := hideG hrow
    have HCH := hideG hchg
    have hsz := hchg.size
    have hgl := hrow.lt
    obtain ⟨hbw, hft⟩ := KB.out wr hchg
    have HB := hideG hbw
    have HFT := hideG hft
    clear hrow hchg hbw hft
    by_cases hlt : a < m1
    · obtain ⟨gg, ea, gn, gl, gc⟩ := HC1'.out a hlt
      subst ea
      have o1 := (World.cell?_of_block (w := w3) (a := ⟨gg, a, none⟩) (HCH.out.block gg gl gn)).trans gc
      obtain ⟨v13, vm⟩ := G1M.out a hlt
      have SA := hideG (fun i => HSA.out a i hlt)
      obtain ⟨v, hv⟩ : ∃ v, v = (Srv.lst (Srv.mem (G 1))).getD a 0 := ⟨_, rfl⟩
      rw [← hv] at o1 v13 vm SA
      clear hv gc
      have v13' : (v : Int) < 13 := by omega
      have RX := hideG (HFR.out wr HFT.out)
      have SE := hideG (HSE.out wr HB.out v)
      obtain ⟨k1, k2⟩ := HSL.out v
      have OF := hideG (HOFF.out v)
      have A2 := hideG (HA2.out v)
      obtain ⟨kk, hkk⟩ : ∃ kk, kk = Srv.secret G v := ⟨_, rfl⟩
      rw [← hkk] at SE k1 k2 OF A2
      clear hkk
      have hgg : gg < wr.heap.size := by omega
      go_wp2_with (refine wpList_load_mid rfl 238 _ rfl w.heap.size 0 rfl X _ RX.out Tryz.underlying238 rfl STX.out ?_)
      refine SE.out.mono ?_
      rintro e w4 ⟨rfl, hb4⟩
      have s4 := hb4.size
      have CH4 := hideG (HCH.out.grow hb4)
      have R4 := hideG (HR.out.block (hb4.block _ hgl))
      have F4 := hideG (HFT.out.block (hb4.block _ HFT.out.lt))
      have BW4 := hideG (HB.out.trans (hb4.mono HB.out.size))
      clear hb4 o1 RX SE
      obtain ⟨cc0, cc1, cc2⟩ := cells_frame F4.out (2 * 13 + v) (78 + v * 3) (by omega) (by omega)
      have y2 := HM.out w4 BW4.out
      rcases HV2.out v v13 with ⟨hm, hh⟩ | ⟨hm, fa, fn, fc, hh, hit⟩
      · -- v fell out: the masks with those who stayed
        rw [hh] at cc0
        change w4.cell? _ = some (.int .i64 0) at cc0
        have BL := hideG (fun i => HBL.out v i hm)
        clear cc1 cc2 hh
        have HS4 := hideG (show IntsRow w4 W0.heap.size n (fun i => sA G a i + sB G v 0 i) from R4.out.ext (fun t _ => by unfold sB; simp))
        go_wp2_with fail
        go_loopw [14] (fun i wq => ∃ c : Nat, c ≤ m2 ∧ i = .int .i64 (c : Int) ∧ IntsRow wq W0.heap.size n (fun i => sA G a i + sB G v c i) ∧ Chg (fun x => x = W0.heap.size) w3 wq) (fun i _ => m2 - (intOf i).toNat)
        case atStart => exact ⟨0, Nat.zero_le _, rfl, HS4.out, CH4.out⟩
        case round =>
          obtain ⟨c, hcl, rfl, hrow, hchg⟩ := hrel
          clear HR HCH HB HFT CH4 R4 F4 BW4 y2 cc0 HS4
          have HR := hideG hrow
          have HCH := hideG hchg
          have hszq := hchg.size
          have hglq := hrow.lt
          obtain ⟨hbw, hft⟩ := KB.out _ hchg
          have HB := hideG hbw
          have HFT := hideG hft
          clear hrow hchg hbw hft
          by_cases hltc : c < m2
          · obtain ⟨g2, ea2, gn2, gl2, gc2⟩ := HC2.out c hltc
            subst ea2
            have o2 := (World.cell?_of_block (w := w3) (a := ⟨g2, c, none⟩) (HCH.out.block g2 gl2 gn2)).trans gc2
            obtain ⟨u13, um⟩ := G2M.out c hltc
            have SB := hideG (fun i => HSB.out v c i hltc)
            obtain ⟨u, hu⟩ : ∃ u, u = (Srv.lst (Srv.mem (G 2))).getD c 0 := ⟨_, rfl⟩
            rw [← hu] at o2 u13 um SB
            clear hu gc2
            have u13' : (u : Int) < 13 := by omega
            obtain ⟨dd0, dd1, dd2⟩ := cells_frame HFT.out (0 * 13 + u) (u * 3) (by omega) (by omega)
            obtain ⟨pb1, pb2⟩ := HPB.out u
            have PE := hideG (HPE.out u)
            have OFU := hideG (fun i => OF.out i u)
            rcases HV0.out u u13 with ⟨hm0, _⟩ | ⟨_, fa, fn, fc, hh0, hit0⟩
            · exact absurd (HUP.out u um) (by rw [hm0]; exact Bool.false_ne_true)
            rw [hh0] at dd0 dd1 dd2
            change World.cell? _ _ = some (.int .i64 1) at dd0
            change World.cell? _ _ = some (.int .i64 (u : Int)) at dd1
            change World.cell? _ _ = some (.slice fa fn fc) at dd2
            have IM := hideG (HIM.out _ u _ HB.out hit0)
            obtain ⟨q0, q1, q2, q3, hy⟩ : ∃ q0 q1 q2 q3, Cli.itemOf (Srv.its (G 0) u) (u : Int) = (q0, q1, q2, q3) := ⟨_, _, _, _, rfl⟩
            rw [hy] at IM
            have hq2 : Srv.pub G u = q2 := by rw [PE.out, hy]
            rw [hq2] at pb1 pb2 OFU
            clear hy hq2 hh0 hit0 PE
            have hg2 : g2 < wr.heap.size := by omega
            go_wp2_with fail
            refine IM.out.mono ?_
            rintro e w5 ⟨rfl, hb5⟩
            have s5 := hb5.size
            obtain ⟨W6, hW6⟩ : ∃ W6, W6 = w5.alloc (.cells #[.int .i64 q0, .int .i64 q1, .int .i64 q2, .int .i64 q3] 147) := ⟨_, rfl⟩
            have b56 : Below w5.heap.size w5 W6 := by rw [hW6]; exact (Below.refl _ _).alloc (Nat.le_refl _) _
            have x2 : W6.cell? ⟨w5.heap.size, 2, none⟩ = some (.int .i64 q2) := by rw [hW6]; simp
            have bq6 := hb5.trans (b56.mono hb5.size)
            have s6 := bq6.size
            have CH6 := hideG (HCH.out.grow bq6)
            have R6 := hideG (HR.out.block (bq6.block _ hglq))
            have BW6 := hideG (HB.out.trans (bq6.mono HB.out.size))
            have HW6 := hideG hW6
            clear hb5 b56 bq6 hW6 dd0 dd1 dd2 o2
            have y2 := HM.out W6 BW6.out
            go_upto_region 20 with fail
            rw [← HW6.out]
            go_wp2_with fail
            refine (raised_calls q2 pb1 pb2 kk.toNat kk _ (Nat.le_refl _) (by omega)).mono ?_
            rintro e w7 ⟨rfl, hw7⟩
            rw [hw7]
            clear hw7 w7
            have st1 := Num.powP_lo q2 kk
            have st2 := Num.powP_hi q2 kk
            obtain ⟨K, hK⟩ : ∃ K, K = Num.powP q2 kk := ⟨_, rfl⟩
            rw [← hK] at st1 st2 OFU ⊢
            clear hK
            go_wp2_with fail
            refine (HST.out W6 K st1 st2).mono ?_
            rintro e w8 ⟨va, rfl, hoa, hb8⟩
            obtain ⟨gs, cs, rfl, hgs, hgs2, cs1, cs2, hsc⟩ := str_view hoa n1
            have s8 := hb8.size
            have CH8 := hideG (CH6.out.grow hb8)
            have R8 := hideG (R6.out.block (hb8.block _ (by omega)))
            have HSC := hideG hsc
            have hne8 : gs ≠ W0.heap.size := by omega
            clear hoa hb8 hsc y2 x2
            have HS8 := hideG (show IntsRow w8 W0.heap.size n (fun x => if x < 0 then sA G a x + sB G v (c + 1) x else sA G a x + sB G v c x) from R8.out.ext (fun x _ => (if_neg (Nat.not_lt_zero _)).symm))
            go_wp2_with fail
            go_loopw [20] (fun i wp => ∃ t : Nat, t ≤ n ∧ i = .int .i64 (t : Int) ∧ IntsRow wp W0.heap.size n (fun x => if x < t then sA G a x + sB G v (c + 1) x else sA G a x + sB G v c x) ∧ Chg (fun x => x = W0.heap.size) w8 wp) (fun i _ => n - (intOf i).toNat)
            case atStart => exact ⟨0, Nat.zero_le _, rfl, HS8.out, Chg.refl _ _⟩
            case round =>
              obtain ⟨t, ht, rfl, hrow, hchg⟩ := hrel
              clear HR HCH HB HFT R6 CH6 BW6 R8 HS8
              have HR := hideG hrow
              have HCP := hideG hchg
              have HCH := hideG (CH8.out.also hchg)
              have hszp := hchg.size
              have hglp := hrow.lt
              have HB := hideG (KB.out _ HCH.out).1
              clear hrow hchg
              have y2 := HM.out _ HB.out
              by_cases hlu : t < n
              · have o0 := (World.cell?_of_block (w := w8) (a := ⟨gs, t, none⟩) (HCP.out.block gs hgs2 hne8)).trans (HSC.out t hlu)
                obtain ⟨z1, z2⟩ := Cli.strAt_range K t
                have SU := hideG (SB.out t)
                have TV := hideG (OFU.out t)
                obtain ⟨p1, p2⟩ := HBA.out t hlu a
                obtain ⟨p3, p4⟩ := HBB.out v c t
                have c0 := HR.out.cell t hlu
                have c1 := HR.out.froz t
                rw [if_neg (Nat.lt_irrefl t)] at c0
                have HST2 := hideG (show ∀ (W : World), W = wr → ∀ z, sA G a t + sB G v (c + 1) t = z → IntsRow (W.setCell ⟨W0.heap.size, t, none⟩ (.int .i64 z)).drew W0.heap.size n (fun x => if x < t + 1 then sA G a x + sB G v (c + 1) x else sA G a x + sB G v c x) from fun W hW z hz => by
                  subst hW
                  exact (HR.out.set t hlu z (by show (if t < t + 1 then sA G a t + sB G v (c + 1) t else sA G a t + sB G v c t) = _; rw [if_pos (Nat.lt_succ_self t), hz]) (fun x hx hne => by
                    show (if x < t + 1 then sA G a x + sB G v (c + 1) x else sA G a x + sB G v c x) = (if x < t then sA G a x + sB G v (c + 1) x else sA G a x + sB G v c x)
                    by_cases e : x < t
                    · rw [if_pos e, if_pos (by omega)]
                    · rw [if_neg e, if_neg (by omega)])).drew)
                obtain ⟨Y, hY⟩ : ∃ Y, Y = Num.strAt K t := ⟨_, rfl⟩
                obtain ⟨A, hA⟩ : ∃ A, A = sA G a t + sB G v c t := ⟨_, rfl⟩
                have pA : -781684047872 ≤ A ∧ A ≤ 781684047872 := by omega
                rw [← hY] at o0 z1 z2 TV
                rw [← hA] at c0
                have HA := hideG hA
                clear hY hA p1 p2 p3 p4
                obtain ⟨p1, p2⟩ := pA
                have hgs3 : gs < wr.heap.size := by omega
                by_cases qv : u < v
                · have qv' : (u : Int) < (v : Int) := by omega
                  have hwr : IntKind.i64.wrap (A - Y) = A - Y := by rw [IntWalk.i64_left, IntWalk.wrap64_in _ (by omega)]
                  have FIN := hideG (HST2.out _ rfl (A - Y) (by rw [SU.out, TV.out, if_pos qv, HA.out]; omega))
                  have FIC := hideG (show Chg (fun x => x = W0.heap.size) w8 (wr.setCell ⟨W0.heap.size, t, none⟩ (.int .i64 (A - Y))).drew from chg_drew (HCP.out.also (Chg.setCell wr ⟨W0.heap.size, t, none⟩ _)))
                  go_wp2_with fail
                  go_region
                  go_wp2_with fail
                  go_roundw
                  case rel => exact ⟨t + 1, by omega, by go_num, FIN.out, FIC.out⟩
                  case measure => simp [intOf]; omega
                · have qv' : ¬ (u : Int) < (v : Int) := by omega
                  have hwr : IntKind.i64.wrap (A + Y) = A + Y := by rw [IntWalk.i64_left, IntWalk.wrap64_in _ (by omega)]
                  have FIN := hideG (HST2.out _ rfl (A + Y) (by rw [SU.out, TV.out, if_neg qv, HA.out]; omega))
                  have FIC := hideG (show Chg (fun x => x = W0.heap.size) w8 (wr.setCell ⟨W0.heap.size, t, none⟩ (.int .i64 (A + Y))).drew from chg_drew (HCP.out.also (Chg.setCell wr ⟨W0.heap.size, t, none⟩ _)))
                  go_wp2_with fail
                  go_region
                  go_wp2_with fail
                  go_roundw
                  case rel => exact ⟨t + 1, by omega, by go_num, FIN.out, FIC.out⟩
                  case measure => simp [intOf]; omega
              · have eu : t = n := by omega
                subst eu
                have R9 := hideG (show IntsRow wr W0.heap.size t (fun i => sA G a i + sB G v (c + 1) i) from HR.out.ext (fun x hx => by
                  show (if x < t then sA G a x + sB G v (c + 1) x else sA G a x + sB G v c x) = _
                  rw [if_pos hx]))
                go_wp2_with fail
                go_roundw
                case rel => exact ⟨c + 1, by omega, by go_num, R9.out, HCH.out⟩
                case measure => simp [intOf]; omega
          · have ec : c = m2 := by omega
            subst ec
            have R9 := hideG (show IntsRow wr W0.heap.size n (sA G (a + 1)) from HR.out.ext (fun x _ => by rw [SA.out x, ← BL.out x]))
            go_wp2_with fail
            go_roundw
            case rel => exact ⟨a + 1, by omega, by go_num, R9.out, HCH.out⟩
            case measure => simp [intOf]; omega
      · -- v stayed: its sums less its own mask
        have HH2 := hideG hh
        rw [hh] at cc0 cc2
        change w4.cell? _ = some (.int .i64 5) at cc0
        change w4.cell? _ = some (.slice fa fn fc) at cc2
        obtain ⟨xa, xc, xe, xl, xm, _, hcl⟩ := items_view hit
        injection xe with xe1 xe2 xe3
        subst xe1
        subst xe3
        obtain ⟨_, _, _, xe4⟩ := A2.out 0 hm (by omega)
        rw [xe4] at xe2 xl
        have xe5 := xe2.symm
        subst xe5
        have HCL := hideG (fun k (hk : k < n) => hcl k (by rw [xe4]; exact hk))
        have AV := hideG (fun i hi => A2.out i hm hi)
        clear cc1 hh hit hcl xe4 OF
        go_wp2_with fail
        refine (HST.out w4 kk k1 k2).mono ?_
        rintro e w8 ⟨va, rfl, hoa, hb8⟩
        obtain ⟨gs, cs, rfl, hgs, hgs2, cs1, cs2, hsc⟩ := str_view hoa n1
        have s8 := hb8.size
        have CH8 := hideG (CH4.out.grow hb8)
        have R8 := hideG (R4.out.block (hb8.block _ (by omega)))
        have HSC := hideG hsc
        have hne8 : gs ≠ W0.heap.size := by omega
        clear hoa hb8 hsc y2 cc0 cc2
        have HS8 := hideG (show IntsRow w8 W0.heap.size n (fun x => if x < 0 then sA G (a + 1) x else sA G a x) from R8.out.ext (fun x _ => (if_neg (Nat.not_lt_zero _)).symm))
        go_wp2_with fail
        go_loopw [13] (fun i wp => ∃ t : Nat, t ≤ n ∧ i = .int .i64 (t : Int) ∧ IntsRow wp W0.heap.size n (fun x => if x < t then sA G (a + 1) x else sA G a x) ∧ Chg (fun x => x = W0.heap.size) w8 wp) (fun i _ => n - (intOf i).toNat)
        case atStart => exact ⟨0, Nat.zero_le _, rfl, HS8.out, Chg.refl _ _⟩
        case round =>
          obtain ⟨t, ht, rfl, hrow, hchg⟩ := hrel
          clear HR HCH HB HFT R4 CH4 BW4 F4 R8 HS8
          have HR := hideG hrow
          have HCP := hideG hchg
          have HCH := hideG (CH8.out.also hchg)
          have hszp := hchg.size
          have hglp := hrow.lt
          obtain ⟨hbw, hft⟩ := KB.out _ HCH.out
          have HB := hideG hbw
          have HFT := hideG hft
          clear hrow hchg hbw hft
          have y2 := HM.out _ HB.out
          by_cases hlu : t < n
          · have o0 := (World.cell?_of_block (w := w8) (a := ⟨gs, t, none⟩) (HCP.out.block gs hgs2 hne8)).trans (HSC.out t hlu)
            obtain ⟨_, _, cc2⟩ := cells_frame HFT.out (2 * 13 + v) (78 + v * 3) (by omega) (by omega)
            obtain ⟨hh2⟩ : Nonempty (H (2 * 13 + v) = (5, (v : Int), Value.slice fa n fc)) := ⟨HH2.out⟩
            rw [hh2] at cc2
            change World.cell? _ _ = some (.slice fa n fc) at cc2
            clear hh2
            obtain ⟨gi, oi, ei, gil, gi0, gi1, gi2, gi3⟩ := HCL.out t hlu
            subst ei
            have i1 := (HB.out.cell (p := ⟨gi, oi + t * 4 + 1, none⟩) gil).trans gi1
            obtain ⟨az1, az2, az3, _⟩ := AV.out t hlu
            clear gi0 gi1 gi2 gi3
            obtain ⟨z1, z2⟩ := Cli.strAt_range kk t
            have SU := hideG (SA.out t)
            obtain ⟨p1, p2⟩ := HBA.out t hlu a
            have c0 := HR.out.cell t hlu
            have c1 := HR.out.froz t
            rw [if_neg (Nat.lt_irrefl t)] at c0
            have HST2 := hideG (show ∀ (W : World), W = wr → ∀ z, sA G (a + 1) t = z → IntsRow (W.setCell ⟨W0.heap.size, t, none⟩ (.int .i64 z)).drew W0.heap.size n (fun x => if x < t + 1 then sA G (a + 1) x else sA G a x) from fun W hW z hz => by
              subst hW
              exact (HR.out.set t hlu z (by show (if t < t + 1 then sA G (a + 1) t else sA G a t) = _; rw [if_pos (Nat.lt_succ_self t), hz]) (fun x hx hne => by
                show (if x < t + 1 then sA G (a + 1) x else sA G a x) = (if x < t then sA G (a + 1) x else sA G a x)
                by_cases e : x < t
                · rw [if_pos e, if_pos (by omega)]
                · rw [if_neg e, if_neg (by omega)])).drew)
            obtain ⟨Y, hY⟩ : ∃ Y, Y = Num.strAt kk t := ⟨_, rfl⟩
            obtain ⟨Z, hZ⟩ : ∃ Z, Z = (Frm.it (Srv.its (G 2) v) t).2.1 := ⟨_, rfl⟩
            rw [← hY, ← hZ] at az1
            rw [← hZ] at az2 az3 i1
            rw [← hY] at o0 z1 z2
            rw [az1] at SU
            clear hY hZ az1
            obtain ⟨A, hA⟩ : ∃ A, A = sA G a t := ⟨_, rfl⟩
            rw [← hA] at c0 p1 p2 SU
            clear hA
            have hgs3 : gs < wr.heap.size := by omega
            have hgi3 : gi < wr.heap.size := Nat.lt_of_lt_of_le gil HB.out.size
            have hwr0 : IntKind.i64.wrap (A + Z) = A + Z := by rw [IntWalk.i64_left, IntWalk.wrap64_in _ (by omega)]
            have hwr : IntKind.i64.wrap (A + Z - Y) = A + Z - Y := by rw [IntWalk.i64_left, IntWalk.wrap64_in _ (by omega)]
            have FIN := hideG (HST2.out _ rfl (A + Z - Y) (by rw [SU.out]; omega))
            have FIC := hideG (show Chg (fun x => x = W0.heap.size) w8 (wr.setCell ⟨W0.heap.size, t, none⟩ (.int .i64 (A + Z - Y))).drew from chg_drew (HCP.out.also (Chg.setCell wr ⟨W0.heap.size, t, none⟩ _)))
            go_wp2_with fail
            go_region
            go_wp2_with fail
            go_roundw
            case rel => exact ⟨t + 1, by omega, by go_num, FIN.out, FIC.out⟩
            case measure => simp [intOf]; omega
          · have eu : t = n := by omega
            subst eu
            have R9 := hideG (show IntsRow wr W0.heap.size t (sA G (a + 1)) from HR.out.ext (fun x hx => by
              show (if x < t then sA G (a + 1) x else sA G a x) = _
              rw [if_pos hx]))
            go_wp2_with fail
            go_roundw
            case rel => exact ⟨a + 1, by omega, by go_num, R9.out, HCH.out⟩
            case measure => simp [intOf]; omega
    · have ea : a = m1 := by omega
      subst ea
      have HSF := hideG (show IntsRow wr W0.heap.size n (fun x => if x < 0 then sA G a x % 4294967296 else sA G a x) from HR.out.ext (fun x _ => (if_neg (Nat.not_lt_zero _)).symm))
      go_wp2_with fail
      go_loopw [21] (fun i wp => ∃ t : Nat, t ≤ n ∧ i = .int .i64 (t : Int) ∧ IntsRow wp W0.heap.size n (fun x => if x < t then sA G a x % 4294967296 else sA G a x) ∧ Chg (fun x => x = W0.heap.size) w3 wp) (fun i _ => n - (intOf i).toNat)
      case atStart => exact ⟨0, Nat.zero_le _, rfl, HSF.out, HCH.out⟩
      case round =>
        obtain ⟨t, ht, rfl, hrow, hchg⟩ := hrel
        clear HR HCH HB HFT HSF
        have HR := hideG hrow
        have HCH := hideG hchg
        have hszp := hchg.size
        have hglp := hrow.lt
        have HB := hideG (KB.out _ HCH.out).1
        clear hrow hchg
        have y2 := HM.out _ HB.out
        by_cases hlu : t < n
        · obtain ⟨p1, p2⟩ := HBA.out t hlu a
          have c0 := HR.out.cell t hlu
          have c1 := HR.out.froz t
          rw [if_neg (Nat.lt_irrefl t)] at c0
          have FIN := hideG (show IntsRow (wr.setCell ⟨W0.heap.size, t, none⟩ (.int .i64 (sA G a t % 4294967296))) W0.heap.size n (fun x => if x < t + 1 then sA G a x % 4294967296 else sA G a x) from
            (HR.out.set t hlu _ (by show (if t < t + 1 then sA G a t % 4294967296 else sA G a t) = _; rw [if_pos (Nat.lt_succ_self t)]) (fun x hx hne => by
              show (if x < t + 1 then sA G a x % 4294967296 else sA G a x) = (if x < t then sA G a x % 4294967296 else sA G a x)
              by_cases e : x < t
              · rw [if_pos e, if_pos (by omega)]
              · rw [if_neg e, if_neg (by omega)])))
          have FIC := hideG (show Chg (fun x => x = W0.heap.size) w3 (wr.setCell ⟨W0.heap.size, t, none⟩ (.int .i64 (sA G a t % 4294967296))) from HCH.out.also (Chg.setCell wr ⟨W0.heap.size, t, none⟩ _))
          obtain ⟨A, hA⟩ : ∃ A, A = sA G a t := ⟨_, rfl⟩
          rw [← hA] at c0 p1 p2 FIN FIC
          clear hA
          obtain ⟨wq, hwq⟩ : ∃ wq, wq = wr := ⟨_, rfl⟩
          rw [← hwq] at FIN FIC
          have HWQ := hideG hwq
          clear hwq
          go_wp2_with fail
          refine (rmodulo_calls A _ (by omega) (by omega)).mono ?_
          rintro e w7 ⟨rfl, hw7⟩
          rw [hw7]
          clear hw7 w7
          have FIN2 := hideG (show IntsRow (wr.setCell ⟨W0.heap.size, t, none⟩ (.int .i64 (A % 4294967296))) W0.heap.size n (fun x => if x < t + 1 then sA G a x % 4294967296 else sA G a x) by rw [← HWQ.out]; exact FIN.out)
          have FIC2 := hideG (show Chg (fun x => x = W0.heap.size) w3 (wr.setCell ⟨W0.heap.size, t, none⟩ (.int .i64 (A % 4294967296))) by rw [← HWQ.out]; exact FIC.out)
          go_wp2_with fail
          go_roundw
          case rel => exact ⟨t + 1, by omega, by go_num, FIN2.out, FIC2.out⟩
          case measure => simp [intOf]; omega
        · have eu : t = n := by omega
          subst eu
          have R9 := hideG (show IntsRow wr W0.heap.size t (fun x => Srv.rtot G x % 4294967296) from HR.out.ext (fun x hx => by
            show (if x < t then sA G a x % 4294967296 else sA G a x) = _
            rw [if_pos hx, HAA.out]))
          have OA := hideG (show wr.ownsRow w.heap.size 3 1 (.slice (some ⟨W0.heap.size, 0, none⟩) t t) (Srv.sumL C G).length ((Srv.sumL C G).map (Value.int .i64)) from by
            rw [HFN.out, List.length_map, List.length_range]
            have := SZ0.out
            refine ⟨by simp, .inr ⟨W0.heap.size, t, _, rfl, by omega, R9.out, Nat.le_refl _, by unfold maxLen; omega, by simp, ?_⟩⟩
            rw [List.take_of_length_le (by simp), List.map_map]
            rfl)
          go_wp2_with fail
          go_ret
          exact ⟨_, rfl, OA.out, HB.out⟩

end Go.Proofs.YtchideljndagjabGreat

namespace Go.Proofs.YtchideljndagjabGreat
open Go.ChangeShapes Go.WideShapes Go.ChangeAt Go.RowKit
set_option linter.unusedVariables false

structure RV where
  tm : Int
  lv : Value
  st : Int
  ro : Int
  set : Value
  sum : Value
def rvL (C : Srv.Cf) (s : RV) : List Value := [.int .i64 C.N, .int .i64 C.T, .int .i64 C.M, .int .i64 C.D, .int .i64 s.tm, s.lv, .int .i64 s.st, .int .i64 s.ro, s.set, s.sum]
def RVAt (w : World) (b : Nat) (C : Srv.Cf) (s : RV) : Prop := w.heap[b]? = some (.cells (rvL C s).toArray 134 (0, 0))
section
variable {w w' : World} {b : Nat} {C : Srv.Cf} {s : RV}
theorem RVAt.lt (h : RVAt w b C s) : b < w.heap.size := by
  by_cases hb : b < w.heap.size
  · exact hb
  · unfold RVAt at h; rw [Array.getElem?_eq_none (by omega)] at h; cases h
theorem RVAt.cell (h : RVAt w b C s) (i : Nat) : w.cell? ⟨b, i, none⟩ = (rvL C s)[i]? := by
  rw [cell_of_row w b i _ _ (0, 0) h]; simp
theorem RVAt.froz (h : RVAt w b C s) (i : Nat) : w.frozen? ⟨b, i, none⟩ = false := frozen_of_row w b i _ _ h
theorem RVAt.block (h : RVAt w b C s) (e : w'.heap[b]? = w.heap[b]?) : RVAt w' b C s := e.trans h
theorem RVAt.below (h : RVAt w b C s) (hb : Below w.heap.size w w') : RVAt w' b C s := h.block (hb.block b h.lt)
theorem RVAt.put (h : RVAt w b C s) (j : Nat) (x : Value) {s' : RV} (e : (rvL C s).set j x = rvL C s') : RVAt (w.setCell ⟨b, j, none⟩ x) b C s' := by
  have := heap_setCell_same w b j _ _ x h
  rw [List.setIfInBounds_toArray, e] at this
  exact this
theorem RVAt.setTm (h : RVAt w b C s) (x : Int) : RVAt (w.setCell ⟨b, 4, none⟩ (.int .i64 x)) b C { s with tm := x } := h.put 4 _ rfl
theorem RVAt.setLv (h : RVAt w b C s) (x : Value) : RVAt (w.setCell ⟨b, 5, none⟩ x) b C { s with lv := x } := h.put 5 _ rfl
theorem RVAt.setOut (h : RVAt w b C s) (x y : Int) (u v : Value) : RVAt ((((w.setCell ⟨b, 6, none⟩ (.int .i64 x)).setCell ⟨b, 7, none⟩ (.int .i64 y)).setCell ⟨b, 8, none⟩ u).setCell ⟨b, 9, none⟩ v) b C { s with st := x, ro := y, set := u, sum := v } :=
  RVAt.put (s := { s with st := x, ro := y, set := u }) (RVAt.put (s := { s with st := x, ro := y }) (RVAt.put (s := { s with st := x }) (RVAt.put h 6 (.int .i64 x) rfl) 7 (.int .i64 y) rfl) 8 u rfl) 9 v rfl
end
theorem chg_out (w : World) (b : Nat) (x y : Value) (u v : Value) : Chg (fun z => z = b) w ((((w.setCell ⟨b, 6, none⟩ x).setCell ⟨b, 7, none⟩ y).setCell ⟨b, 8, none⟩ u).setCell ⟨b, 9, none⟩ v) :=
  (((Chg.setCell w ⟨b, 6, none⟩ x).also (Chg.setCell _ ⟨b, 7, none⟩ y)).also (Chg.setCell _ ⟨b, 8, none⟩ u)).also (Chg.setCell _ ⟨b, 9, none⟩ v)

theorem HTab.one {w : World} {H : Nat → RF} {G : Srv.Tab} (h : HTab w H G) (v : Value) (hv : v ∈ tabL H) : v.oneCell' = true := by
  unfold tabL at hv
  obtain ⟨t, ht, rfl⟩ := List.mem_map.1 hv
  have ht := List.mem_range.1 ht
  unfold cellF
  have e : t / 3 = (t / 39) * 13 + (t / 3) % 13 := by omega
  rcases h.view (r := t / 39) (by omega) (u := t / 3 % 13) (by omega) with ⟨_, hh⟩ | ⟨_, a, n, c, hh, _⟩
  all_goals
    rw [← e] at hh
    rw [hh]
    rcases (show t % 3 = 0 ∨ t % 3 = 1 ∨ t % 3 = 2 by omega) with q | q | q <;> rw [q] <;> rfl
/-- What counts, laid into a variable. -/
theorem tab_made (w : World) (H : Nat → RF) : FRow ((w.alloc (.cells Tryz.zeroCells238 238)).setCells w.heap.size 0 (tabL H)) w.heap.size 238 156 (cellF H) ∧ (w.alloc (.cells Tryz.zeroCells238 238)).there w.heap.size 0 156 ∧ Below w.heap.size w ((w.alloc (.cells Tryz.zeroCells238 238)).setCells w.heap.size 0 (tabL H)) := by
  have h0 : FRow (w.alloc (.cells Tryz.zeroCells238 238)) w.heap.size 238 156 (cellF fun _ => RF.z) := by rw [zero_tab]; exact tab_new w _
  exact ⟨h0.setAll (cellF H), h0.there 0 156 (by omega), below_setCells (Nat.le_refl _) _ _ _ ((Below.refl _ _).alloc (Nat.le_refl _) _)⟩

theorem rsends_calls (C : Srv.Cf) (H : Nat → RF) (G : Srv.Tab) (r u : Nat) (w : World) (hr : r < 3) (hH : HTab w H G) (hg : Srv.GoodT C G) :
    Calls Tryz.prog 243 #[.agg (tabL H).toArray, .int .i64 (r : Int), .int .i64 (u : Int)] w fun e w' => ∃ va, e = .returned (.agg #[.int .i64 (2 * (r : Int) + 2), .int .i64 0, va]) ∧ w'.ownsRow w.heap.size 147 4 va (Srv.sendsL G r u).length (flat4 (Srv.sendsL G r u)) ∧ Below w.heap.size w w' := by
  have hz : ∀ r, G r 0 = none := fun r => Srv.mem_off (hg.zero r)
  rcases (show r = 0 ∨ r = 1 ∨ r = 2 by omega) with rfl | rfl | rfl
  · exact rsends_0 H G u w hH hz (fun v hv => (Srv.hello_item hg hv).2.2.2)
  · exact rsends_1 H G u w hH hz
  · exact rsends_2 H G u w hH hz

/-- Counted, and the round's list, as 'ends' begins. -/
structure EndsIn (b : Nat) (C : Srv.Cf) (s : RV) (L : Srv.Log) (X : List Value) (w : World) : Prop where
  at_ : RVAt w b C s
  log : LgAt w s.lv L X
  ok : ∀ e ∈ L, Frm.okF e.2.1 e.2.2.1 e.2.2.2 = true
  time : ∀ e ∈ L, 0 ≤ e.1 ∧ e.1 ≤ 200
theorem EndsIn.counted {b : Nat} {C : Srv.Cf} {s : RV} {L : Srv.Log} {X : List Value} {w : World} (h : EndsIn b C s L X w) (hc : Srv.GoodC C) :
    Calls Tryz.prog 179 #[.pointer (some ⟨b, 0, none⟩)] w fun e w' => ∃ H, e = .returned (.agg (tabL H).toArray) ∧ HTab w H (Srv.tab C L) ∧ Below w.heap.size w w' :=
  rcounted_calls b C hc L X s.lv w (h.at_.cell 0) (h.at_.cell 2) (h.at_.cell 3) (h.at_.cell 5) h.at_.lt h.log h.ok h.time
/-- The list of a round, read. -/
theorem rlist_size {w W : World} {H : Nat → RF} {G : Srv.Tab} (h : HTab w H G) (hz : ∀ r, G r 0 = none) {r : Nat} (hr : r < 4) :
    Calls Tryz.prog 241 #[.agg (roundL (rowR H r)).toArray] W fun e w' => ∃ v, e = .returned v ∧ w'.ownsRow W.heap.size 3 1 v (Srv.lst (Srv.mem (G r))).length ((Srv.lst (Srv.mem (G r))).map fun u : Nat => .int .i64 (u : Int)) ∧ Below W.heap.size W w' := by
  have := rlist_calls (rowR H r) W
  rwa [Srv.lst_ext (h.has hz hr)] at this

set_option maxHeartbeats 4000000 in
set_option maxRecDepth 100000 in
theorem rends_few (b : Nat) (C : Srv.Cf) (hc : Srv.GoodC C) (s : RV) (L : Srv.Log) (X : List Value) (w : World) (h : EndsIn b C s L X w) (r : Nat) (hr : r < 4) (hz : ∀ r, Srv.tab C L r 0 = none) (hf : (Srv.sizeR (Srv.tab C L r) : Int) < C.T) :
    Calls Tryz.prog 181 #[.pointer (some ⟨b, 0, none⟩), .int .i64 (r : Int)] w fun e w' => e = .returned (.slice none 0 0) ∧ RVAt w' b C { s with st := 2, ro := (r : Int), set := .slice none 0 0, sum := .slice none 0 0 } ∧ Chg (fun x => x = b) w w' := by
  have hbl := h.at_.lt
  have HC := hideG (h.counted hc)
  have HAT := hideG h.at_
  have HZ := hideG hz
  clear h hz hc
  have hr' : (r : Int) < 4 := by omega
  obtain ⟨G, hG⟩ : ∃ G, G = Srv.tab C L := ⟨_, rfl⟩
  rw [← hG] at HC HZ hf
  clear hG
  unfold Srv.sizeR at hf
  go_enter Tryz.func181, Tryz.ntmps181
  go_wp2_with fail
  refine HC.out.mono ?_
  rintro e w1 ⟨H, rfl, hH, hb1⟩
  obtain ⟨f1, f2, f3⟩ := tab_made w1 H
  have ONE := hideG (show (tabL H).toArray.all (·.oneCell') = true from all_oneCell_toArray hH.one)
  have LT := hideG (tab_len H)
  have s1 := hb1.size
  have LS := hideG (fun W => rlist_size (W := W) hH HZ.out hr)
  have RG := hideG (tab_range f1 r hr)
  have LR := hideG (round_len (rowR H r))
  have B2 := hideG (hb1.trans (f3.mono s1))
  have s2 := f3.size
  have z2 := f1.lt
  have HT := hideG f2
  clear f1 f2 f3 hH hb1
  obtain ⟨CR, hCR⟩ : ∃ CR, CR = roundL (rowR H r) := ⟨_, rfl⟩
  rw [← hCR] at RG LS LR
  clear hCR
  obtain ⟨CS, hCS⟩ : ∃ CS, CS = tabL H := ⟨_, rfl⟩
  rw [← hCS] at ONE LT RG B2 s2 z2 ⊢
  clear hCS
  have HSZ := hideG (show (Tryz.prog.info? 238).map (·.size) = some CS.toArray.size by rw [size_tab4, List.size_toArray, LT.out])
  have HTH := hideG (show (w1.alloc (.cells Tryz.zeroCells238 238)).there w1.heap.size 0 CS.toArray.size by rw [show CS.toArray.size = 156 by rw [List.size_toArray]; exact LT.out]; exact HT.out)
  have SL := hideG (show (Tryz.prog.info? 237).map (·.size) = some CR.length by rw [size_rnd, LR.out])
  obtain ⟨W2, hW2⟩ : ∃ W2, W2 = (w1.alloc (.cells Tryz.zeroCells238 238)).setCells w1.heap.size 0 CS := ⟨_, rfl⟩
  rw [← hW2] at RG B2 s2 z2
  have HW2 := hideG hW2
  clear hW2 HT
  go_upto_region 2 with (refine wpList_store_mid rfl 238 _ _ rfl w1.heap.size 0 CS.toArray rfl rfl HTH.out HSZ.out ONE.out ?_)
  rw [← HW2.out]
  go_wp2_with (refine wpList_load_mid rfl 237 _ rfl w1.heap.size (r * 39) rfl CR _ RG.out Tryz.underlying237 rfl SL.out ?_)
  refine (LS.out _).mono ?_
  rintro e w3 ⟨v, rfl, hown, hb3⟩
  obtain ⟨a3, c3, hv3⟩ := owns_form hown
  subst hv3
  have B3 := hideG (B2.out.trans (hb3.mono B2.out.size))
  have AT3 := hideG (HAT.out.below B3.out)
  clear hown hb3 RG LS
  obtain ⟨n, hn⟩ : ∃ n, n = (Srv.lst (Srv.mem (G r))).length := ⟨_, rfl⟩
  rw [← hn] at hf ⊢
  clear hn
  have c1 := AT3.out.cell 1
  have c6 := AT3.out.cell 6
  have c7 := AT3.out.cell 7
  have c8 := AT3.out.cell 8
  have c9 := AT3.out.cell 9
  change w3.cell? _ = some (.int .i64 C.T) at c1
  change w3.cell? _ = some (.int .i64 s.st) at c6
  change w3.cell? _ = some (.int .i64 s.ro) at c7
  change w3.cell? _ = some s.set at c8
  change w3.cell? _ = some s.sum at c9
  have cf := AT3.out.froz
  have FIN := hideG (AT3.out.setOut 2 (r : Int) (.slice none 0 0) (.slice none 0 0))
  have FIC := hideG ((Chg.of_below (S := fun x => x = b) B3.out).also (chg_out w3 b (.int .i64 2) (.int .i64 (r : Int)) (.slice none 0 0) (.slice none 0 0)))
  go_wp2_with fail
  go_ret
  exact ⟨rfl, FIN.out, FIC.out⟩

end Go.Proofs.YtchideljndagjabGreat
