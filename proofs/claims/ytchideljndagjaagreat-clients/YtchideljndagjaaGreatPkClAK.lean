/- Contract of veilref's client: the answer to Keys. -/
import Derived.Test.YtchideljndagjaaGreatPkClAH
import Derived.Test.YtchideljndagjaaGreatPkClAI
import Derived.Test.YtchideljndagjaaGreatPkClAJ
namespace Go.Proofs.YtchideljndagjaaGreat
open Go.ChangeShapes Go.WideShapes Go.ChangeAt Go.RowKit
set_option linter.unusedVariables false

def shR (c : Cli.Cl) (k : List Frm.It) (j : Nat) : List Frm.It := ((k.take j).filter fun x => decide (x.1 ≠ c.id)).map fun x => Cli.sealI c k x.1
theorem shR_all (c : Cli.Cl) (k : List Frm.It) : shR c k k.length = Cli.sharing c k := by unfold shR Cli.sharing; rw [List.take_length]; rfl
theorem shR_same (c : Cli.Cl) (k : List Frm.It) (j : Nat) (hj : j < k.length) (h : (Frm.it k j).1 = c.id) : shR c k (j + 1) = shR c k j := by
  unfold shR
  rw [List.take_succ_eq_append_getElem hj, List.filter_append, List.map_append, ← Cli.it_get k j hj, List.filter_cons, if_neg (by simpa using h)]
  simp
theorem shR_more (c : Cli.Cl) (k : List Frm.It) (j : Nat) (hj : j < k.length) (h : (Frm.it k j).1 ≠ c.id) : shR c k (j + 1) = shR c k j ++ [Cli.sealI c k (Frm.it k j).1] := by
  unfold shR
  rw [List.take_succ_eq_append_getElem hj, List.filter_append, List.map_append, ← Cli.it_get k j hj, List.filter_cons, if_pos (by simpa using h)]
  simp
theorem shR_len (c : Cli.Cl) (k : List Frm.It) (j : Nat) : (shR c k j).length ≤ j := by
  unfold shR
  rw [List.length_map]
  exact Nat.le_trans (List.length_filter_le _ _) (by rw [List.length_take]; omega)

theorem row3 {w : World} {g : Nat} {x y z : Value} {T : TypeId} (h : w.heap[g]? = some (.cells #[x, y, z] T (0, 0))) : w.cell? ⟨g, 0, none⟩ = some x ∧ w.cell? ⟨g, 1, none⟩ = some y ∧ w.cell? ⟨g, 2, none⟩ = some z ∧ w.frozen? ⟨g, 2, none⟩ = false := by
  refine ⟨?_, ?_, ?_, frozen_of_row w g 2 _ _ h⟩
  · have := cell_of_row w g 0 _ _ (0, 0) h; simpa using this
  · have := cell_of_row w g 1 _ _ (0, 0) h; simpa using this
  · have := cell_of_row w g 2 _ _ (0, 0) h; simpa using this

set_option maxHeartbeats 2000000 in
set_option maxRecDepth 100000 in
theorem rsharing_calls (b : Nat) (s : RS) (k1 f1 : Int) (v1 : Value) (lk : List Frm.It) (w : World) (h : RAt w b s) (hk : ItemsAt w v1 lk) (hm : ListAt w s.vm s.c.sm) (hs : ListAt w s.vs s.c.ss) (hc : Cli.Good s.c) (rk : Frm.riseB lk = true)
    (hkk : ∀ x ∈ lk, 0 ≤ x.2.1 ∧ x.2.1 < 2305843009213693951 ∧ 0 ≤ x.2.2.1 ∧ x.2.2.1 < 2305843009213693951) :
    Calls Tryz.prog 172 #[.pointer (some ⟨b, 0, none⟩), .agg #[.int .i64 k1, .int .i64 f1, v1]] w fun e w' =>
      ∃ va, e = .returned va ∧ w'.ownsRow w.heap.size 5 1 va (Frm.encF 3 s.c.id (Cli.sharing s.c lk)).length ((Frm.encF 3 s.c.id (Cli.sharing s.c lk)).map (Value.int .u8)) ∧ Below w.heap.size w w' := by
  obtain ⟨i1, hi1, hy0, hy1, hy2⟩ := info_parts infoIt
  have hbl := h.lt
  obtain ⟨Wk, hWk⟩ : ∃ Wk, Wk = w.alloc (.cells #[.int .i64 k1, .int .i64 f1, v1] 40) := ⟨_, rfl⟩
  have hbk : Below w.heap.size w Wk := by rw [hWk]; exact (Below.refl _ _).alloc (Nat.le_refl _) _
  have zk : Wk.heap.size = w.heap.size + 1 := by rw [hWk]; simp
  have F1 := hideG (show ∀ W, Below Wk.heap.size Wk W → FrAt W w.heap.size k1 f1 v1 from fun W hb => (show FrAt Wk w.heap.size k1 f1 v1 by rw [hWk]; refine ⟨?_, ?_, ?_⟩ <;> simp).below hb (by omega))
  obtain ⟨W1, hW1⟩ : ∃ W1, W1 = Wk.alloc (.cells #[.int .i64 3, .int .i64 s.c.id, .slice none 0 0] 40) := ⟨_, rfl⟩
  have B1 := hideG (show Below Wk.heap.size Wk W1 by rw [hW1]; exact (Below.refl _ _).alloc (Nat.le_refl _) _)
  have R1 := hideG (show W1.heap[w.heap.size + 1]? = some (.cells #[.int .i64 3, .int .i64 s.c.id, .slice none 0 0] 40 (0, 0)) by rw [hW1, ← zk]; exact heap_alloc_new Wk _)
  have HN := hideG (fun (W : World) (hb : Below Wk.heap.size Wk W) => ((h.below hbk).below hb).nums)
  have HV := hideG (fun (W : World) (hb : Below Wk.heap.size Wk W) => ((h.below hbk).below hb).vals)
  have gi := hc.i
  have gn := hc.n
  have gt := hc.t
  obtain ⟨m1, m2⟩ := hc.ms
  obtain ⟨d1, d2⟩ := hc.sd
  have l1 := hc.sml
  have l2 := hc.ssl
  obtain ⟨c1, c2⟩ := hc.ch
  have HV1 := hideG (fun (W : World) (hb : Below Wk.heap.size Wk W) (z : Int) (z1 : 1 ≤ z) (z2 : z ≤ 12) => rvalue_calls s.c.ms s.vm s.c.sm z W ((hm.below hbk).below hb) hc.sm m1 m2 (by omega) (by omega) (by omega))
  have HV2 := hideG (fun (W : World) (hb : Below Wk.heap.size Wk W) (z : Int) (z1 : 1 ≤ z) (z2 : z ≤ 12) => rvalue_calls s.c.sd s.vs s.c.ss z W ((hs.below hbk).below hb) hc.ss d1 d2 (by omega) (by omega) (by omega))
  have HCH := hideG (fun (W : World) (hb : Below Wk.heap.size Wk W) (j : Nat) (hj : j < lk.length) => (show Calls Tryz.prog 229 #[.pointer (some ⟨b, 0, none⟩), .agg #[.int .i64 k1, .int .i64 f1, v1], .int .i64 (Frm.it lk j).1] W fun e w' => e = .returned (.int .i64 (Cli.chKey s.c lk (Frm.it lk j).1)) ∧ Below W.heap.size W w' from
    rchannel_calls b s k1 f1 v1 lk _ W ((h.below hbk).below hb) ((hk.below hbk).below hb) c1 c2 (hkk _ (itemOf_mem (Cli.hasI_it hj))).1 (hkk _ (itemOf_mem (Cli.hasI_it hj))).2.1))
  have HID := hideG (fun j (hj : j < lk.length) => (Cli.rise_pair rk).2 (Frm.it lk j) (by rw [Cli.it_get lk j hj]; exact List.getElem_mem hj))
  have HSAME := hideG (fun j hj h => shR_same s.c lk j hj h)
  have HMORE := hideG (fun j hj h => shR_more s.c lk j hj h)
  have HLEN := hideG (fun j => shR_len s.c lk j)
  have HALL := hideG (shR_all s.c lk)
  have HOK := hideG (Cli.sharing_ok hc rk)
  have HEN := hideG (fun (W : World) (vv : Value) (hv : ItemsAt W vv (Cli.sharing s.c lk)) => rencode_yes 3 s.c.id vv (Cli.sharing s.c lk) W hv (Cli.sharing_ok hc rk))
  have n12 : lk.length ≤ 12 := by obtain ⟨p1, p2⟩ := Cli.rise_pair rk; exact Cli.pair_len p1 p2
  have HKB := hideG (fun (z : Int) => (show 0 ≤ Cli.chKey s.c lk z ∧ Cli.chKey s.c lk z < 2305843009213693951 from ⟨Num.powP_lo _ _, Num.powP_hi _ _⟩))
  obtain ⟨a, cap, hv, q2, q3, _, hcl⟩ := items_view (hk.below hbk)
  have HC := hideG hcl
  have HV1' := hideG hv
  have HWk := hideG hWk
  have HW1 := hideG hW1
  have HBK := hideG hbk
  obtain ⟨n, hn⟩ : ∃ n, n = lk.length := ⟨_, rfl⟩
  rw [← hn] at HC HV1' HCH HID HSAME HMORE HALL n12 q2
  obtain ⟨id, hid⟩ : ∃ id, id = s.c.id := ⟨_, rfl⟩
  have HSI := hideG (show ∀ z, Cli.sealI s.c lk z = (z, Num.addP (Pol.polyP s.c.ms s.c.sm z) (Num.padN (Cli.chKey s.c lk z) (64 * id + 4 * z)), Num.addP (Pol.polyP s.c.sd s.c.ss z) (Num.padN (Cli.chKey s.c lk z) (64 * id + 4 * z + 1)),
            Num.tagN (Cli.chKey s.c lk z) (64 * id + 4 * z) (Num.addP (Pol.polyP s.c.ms s.c.sm z) (Num.padN (Cli.chKey s.c lk z) (64 * id + 4 * z))) (Num.addP (Pol.polyP s.c.sd s.c.ss z) (Num.padN (Cli.chKey s.c lk z) (64 * id + 4 * z + 1)))) from fun z => by rw [hid]; rfl)
  rw [← hid] at R1 HW1 HN gi HSAME HMORE HOK HEN ⊢
  clear hn hv hcl h hk hm hs hc rk hkk hWk hW1 hbk m1 m2 d1 d2 l1 l2 c1 c2 gt hid
  generalize s.c.sd = sd at *
  generalize s.c.ms = ms at *
  generalize s.c.ch = ch at *
  generalize s.vm = vm at *
  generalize s.vs = vs at *
  go_enter Tryz.func172, Tryz.ntmps172
  go_upto_region 1 with fail
  rw [← HWk.out]
  obtain ⟨_, _, _, y4, _, _, _⟩ := HN.out Wk (Below.refl _ _)
  have hblk : b < Wk.heap.size := by omega
  go_upto_region 2 with fail
  rw [← HW1.out]
  clear y4
  go_wp2_with fail
  go_loopw [6] (fun i wr => ∃ j : Nat, j ≤ n ∧ i = .int .i64 j ∧ (∃ vv, wr.heap[w.heap.size + 1]? = some (.cells #[.int .i64 3, .int .i64 id, vv] 40 (0, 0)) ∧ wr.ownsRow (w.heap.size + 2) 142 4 vv (shR s.c lk j).length (flat4 (shR s.c lk j))) ∧ Below Wk.heap.size Wk wr) (fun i _ => n - (intOf i).toNat)
  case atStart => exact ⟨0, Nat.zero_le _, rfl, ⟨_, R1.out, World.ownsRow_nil _ _ _ _⟩, B1.out⟩
  case round =>
    obtain ⟨j, hj, rfl, ⟨vv, hrow, hown⟩, hbel⟩ := hrel
    have HR := hideG hrow
    have HO := hideG hown
    have HB := hideG hbel
    have hsz := hbel.size
    have hgl : w.heap.size + 1 < wr.heap.size := by
      by_cases hb : w.heap.size + 1 < wr.heap.size
      · exact hb
      · rw [Array.getElem?_eq_none (by omega)] at hrow; cases hrow
    obtain ⟨av, cv, hvv⟩ := owns_form hown
    subst hvv
    clear hrow hown hbel
    obtain ⟨x0, x1, x2⟩ := F1.out wr HB.out
    by_cases hlt : j < n
    · obtain ⟨b', off, ha, hb', hit⟩ := HC.out j hlt
      obtain ⟨e0, _, _, _⟩ := hit.below hb' HB.out
      obtain ⟨_, _, _, y4, _, _, _⟩ := HN.out wr HB.out
      have x2' := x2
      rw [HV1'.out, ha] at x2'
      have CHJ := hideG (HCH.out wr HB.out j hlt)
      have IDJ := HID.out j hlt
      have SAJ := hideG (HSAME.out j hlt)
      have MOJ := hideG (HMORE.out j hlt)
      obtain ⟨z, hz⟩ : ∃ z, z = (Frm.it lk j).1 := ⟨_, rfl⟩
      rw [← hz] at e0 CHJ IDJ SAJ MOJ
      have X2 := hideG x2
      clear hz hit x2
      obtain ⟨z1, z2⟩ := IDJ
      have hb'' : b' < wr.heap.size := by omega
      have hbw : b < wr.heap.size := by omega
      have hwk' : w.heap.size < wr.heap.size := by omega
      by_cases q : z = id
      · have q' : (z != id) = false := by simpa using q
        have HS2 := hideG (SAJ.out q)
        clear q
        go_wp2_with fail
        go_roundw
        case rel => exact ⟨j + 1, by omega, by go_num, ⟨_, HR.out, by rw [HS2.out]; exact HO.out⟩, HB.out⟩
        case measure => simp [intOf]; omega
      · have q' : (z != id) = true := by simpa using q
        have HS2 := hideG (MOJ.out q)
        have HZQ := hideG q
        clear q
        go_upto_region 7 with fail
        clear x2'
        have x2 := X2.out
        go_wp2_with fail
        refine CHJ.out.mono ?_
        rintro e w2 ⟨rfl, hb2⟩
        have s2 := hb2.size
        have B2 := hideG (HB.out.trans (hb2.mono (by omega)))
        have B2R := hideG hb2
        obtain ⟨k3, k4⟩ := HKB.out z
        have HSI2 := hideG (HSI.out z)
        have p1 : 0 ≤ Pol.polyP ms s.c.sm z ∧ Pol.polyP ms s.c.sm z < 2305843009213693951 := Num.elB_iff.1 (Cli.el_polyP _ _ _)
        have p2 : 0 ≤ Pol.polyP sd s.c.ss z ∧ Pol.polyP sd s.c.ss z < 2305843009213693951 := Num.elB_iff.1 (Cli.el_polyP _ _ _)
        obtain ⟨p1, p1'⟩ := p1
        obtain ⟨p2, p2'⟩ := p2
        have VM := hideG (fun (W : World) (hb : Below Wk.heap.size Wk W) => HV1.out W hb z z1 z2)
        have VS := hideG (fun (W : World) (hb : Below Wk.heap.size Wk W) => HV2.out W hb z z1 z2)
        generalize Pol.polyP ms s.c.sm z = M at *
        generalize Pol.polyP sd s.c.ss z = E at *
        generalize Cli.chKey s.c lk z = K at *
        clear hb2 x0 x1 x2 e0 y4
        have hbw2 : b < w2.heap.size := by omega
        obtain ⟨_, _, _, y4, y6, y7, y8⟩ := HN.out w2 B2.out
        obtain ⟨_, y9, y10, _, _⟩ := HV.out w2 B2.out
        go_upto_region 8 with fail
        go_quiet ((go_at_call 139; refine Calls.quiet_of_same (VM.out _ (B2.out.trans ((below_drewN _ _).mono (by omega))))))
        have HBN := hideG (below_drewN w2 nq)
        obtain ⟨W3, hW3⟩ : ∃ W3, W3 = w2.drewN nq := ⟨_, rfl⟩
        rw [← hW3] at HBN ⊢
        have s3 := HBN.out.size
        have B3 := hideG (B2.out.trans (HBN.out.mono (by omega)))
        have B3R := hideG (B2R.out.trans (HBN.out.mono (by omega)))
        clear hW3 y4 y6 y7 y8 y9 y10
        have hbw3 : b < W3.heap.size := by omega
        obtain ⟨_, _, _, y4, y6, y7, y8⟩ := HN.out W3 B3.out
        obtain ⟨_, y9, y10, _, _⟩ := HV.out W3 B3.out
        go_upto_region 9 with fail
        go_quiet ((go_at_call 139; refine Calls.quiet_of_same (VS.out _ (B3.out.trans ((below_drewN _ _).mono (by omega))))))
        have HBN2 := hideG (below_drewN W3 nq)
        obtain ⟨W4, hW4⟩ : ∃ W4, W4 = W3.drewN nq := ⟨_, rfl⟩
        rw [← hW4] at HBN2 ⊢
        have s4 := HBN2.out.size
        have B4 := hideG (B3.out.trans (HBN2.out.mono (by omega)))
        have B4R := hideG (B3R.out.trans (HBN2.out.mono (by omega)))
        clear hW4 y4 y6 y7 y8 y9 y10
        have hbw4 : b < W4.heap.size := by omega
        obtain ⟨_, _, _, y4, _, _, _⟩ := HN.out W4 B4.out
        go_wp2_with fail
        refine (rSeal_yes K id z M E W4 k3 k4 (by omega) (by omega) (by omega) (by omega) p1 p1' p2 p2').mono ?_
        rintro e w5 ⟨rfl, hb5⟩
        have s5 := hb5.size
        have B5 := hideG (B4.out.trans (hb5.mono (by omega)))
        have B5R := hideG (B4R.out.trans (hb5.mono (by omega)))
        obtain ⟨A1, hA1⟩ : ∃ A, A = Num.addP M (Num.padN K (64 * id + 4 * z)) := ⟨_, rfl⟩
        obtain ⟨A2, hA2⟩ : ∃ A, A = Num.addP E (Num.padN K (64 * id + 4 * z + 1)) := ⟨_, rfl⟩
        rw [← hA1, ← hA2] at HSI2 ⊢
        obtain ⟨A3, hA3⟩ : ∃ A, A = Num.tagN K (64 * id + 4 * z) A1 A2 := ⟨_, rfl⟩
        rw [← hA3] at HSI2 ⊢
        clear hA1 hA2 hA3 hb5 y4
        have O5 := hideG (ownsRow_chg (S := fun _ => False) HO.out (Chg.of_below B5R.out) (fun _ _ h => h))
        have R5 := hideG ((B5R.out.block (w.heap.size + 1) hgl).trans HR.out)
        obtain ⟨r0, r1, r2, r3⟩ := row3 R5.out
        have hl12 := HLEN.out j
        have hgl5 : w.heap.size + 1 < w5.heap.size := by omega
        have al : ∀ (ob : Obj) (o : Nat), (w5.alloc ob).cell? ⟨w.heap.size + 1, o, none⟩ = w5.cell? ⟨w.heap.size + 1, o, none⟩ := fun ob o => ((Below.refl w5.heap.size w5).alloc (Nat.le_refl _) ob).cell (p := ⟨w.heap.size + 1, o, none⟩) hgl5
        go_wp2_with (at_builtin; refine wpList_append_own _ rfl _ _ 38 rfl (w.heap.size + 2) 142 i1 (.agg #[.int .i64 0, .int .i64 0, .int .i64 0, .int .i64 0]) 4 32 Tryz.underlying38 hi1 hy0 hy1 hy2 rfl (by decide) _ _ _ rfl (O5.out.alloc _) ⟨w5.heap.size, 0, none⟩ 1 1 [.int .i64 z, .int .i64 A1, .int .i64 A2, .int .i64 A3] rfl rfl ?c1 ?c2 ?c3 ?c4 ?c5 ?_)
        case c1 => exact cell_four_new _ _ _ _ _ _
        case c2 => intro u hu; simp at hu; rcases hu with rfl | rfl | rfl | rfl <;> rfl
        case c3 => unfold maxLen; omega
        case c4 => omega
        case c5 => simp; omega
        intro v' w6 hown' hgrow' _
        obtain ⟨a6, c6, hv6⟩ := owns_form hown'
        subst hv6
        have hb6 := ((Below.refl (w.heap.size + 2) w5).alloc (by omega) (.cells #[.int .i64 z, .int .i64 A1, .int .i64 A2, .int .i64 A3] 142)).grown hgrow' (by simp; omega) (fun y hy => (O5.out.lt y hy).1)
        have s6 := hb6.size
        have R6 := hideG ((hb6.block (w.heap.size + 1) (by omega)).trans R5.out)
        obtain ⟨t0, t1, t2, t3⟩ := row3 R6.out
        have R7 := hideG (heap_setCell_same w6 (w.heap.size + 1) 2 _ _ (.slice a6 ((shR s.c lk j).length + 1) c6) R6.out)
        obtain ⟨W7, hW7⟩ : ∃ W7, W7 = w6.setCell ⟨w.heap.size + 1, 2, none⟩ (.slice a6 ((shR s.c lk j).length + 1) c6) := ⟨_, rfl⟩
        have hc7 : Chg (fun x => x = w.heap.size + 1) w6 W7 := by rw [hW7]; exact Chg.setCell w6 ⟨w.heap.size + 1, 2, none⟩ _
        rw [← hW7] at R7
        have O7 := hideG (ownsRow_chg hown' hc7 (fun y hy => by have := hown'.lt y hy; omega))
        have B7 := hideG (show Below Wk.heap.size Wk W7 by rw [hW7]; exact (B5.out.trans (hb6.mono (by omega))).setCell (p := ⟨w.heap.size + 1, 2, none⟩) (by show Wk.heap.size ≤ w.heap.size + 1; omega) _)
        have HW7 := hideG hW7
        clear hown' hgrow' hb6 hc7 hW7 r0 r1 r2 r3
        go_wp2_with fail
        rw [← HW7.out]
        go_roundw
        case rel => exact ⟨j + 1, by omega, by go_num, ⟨_, R7.out, by rw [HS2.out, flat4_append, HSI2.out, List.length_append]; exact O7.out⟩, B7.out⟩
        case measure => simp [intOf]; omega
    · have ej : j = n := by omega
      subst ej
      have x2' := x2
      rw [HV1'.out] at x2'
      obtain ⟨r0, r1, r2, r3⟩ := row3 HR.out
      have ITS := hideG (show ItemsAt wr (.slice av (shR s.c lk j).length cv) (Cli.sharing s.c lk) from itemsAt_of_owns (by rw [← HALL.out]; exact HO.out) (okF_in HOK.out))
      clear x2
      go_wp2_with fail
      refine (HEN.out wr _ ITS.out).mono ?_
      rintro e w3 ⟨va, rfl, hoa, hb3⟩
      obtain ⟨a3, c3, hva⟩ := owns_form hoa
      have OA := hideG (ownsRow_base hoa (show w.heap.size ≤ wr.heap.size by omega))
      have BF := hideG ((HBK.out.trans (HB.out.mono (by omega))).trans (hb3.mono (by omega)))
      subst hva
      clear hoa hb3
      go_wp2_with fail
      go_ret
      exact ⟨_, rfl, OA.out, BF.out⟩

end Go.Proofs.YtchideljndagjaaGreat

namespace Go.Proofs.YtchideljndagjaaGreat
open Go.ChangeShapes Go.WideShapes Go.ChangeAt Go.RowKit
set_option linter.unusedVariables false

theorem rtold_len (c : Cli.Cl) (k b a : List Frm.It) (n : Nat) : (Cli.toldN c k b a n).length ≤ n := by
  unfold Cli.toldN
  rw [List.length_map]
  exact Nat.le_trans (List.length_filter_le _ _) (by simp)
theorem rtold_one {c : Cli.Cl} (hc : Cli.Good c) {b : List Frm.It} (hb : Frm.riseB b = true) (k a : List Frm.It) : Cli.toldN c k b a 1 = [] := by
  have h1 : Cli.hasI b ((0 : Nat) : Int) = false := Cli.hasI_off.2 fun x hx => by have := (Cli.rise_pair hb).2 x hx; omega
  have h2 := hc.i.1
  have := Cli.toldN_succ c k b a 0
  rw [h1, decide_eq_false (show ¬ (((0 : Nat) : Int)) = c.id by omega)] at this
  rw [this]; rfl

set_option maxHeartbeats 2000000 in
set_option maxRecDepth 100000 in
theorem rtells_calls (b : Nat) (s : RS) (k1 f1 k2 f2 k3 f3 : Int) (v1 v2 v3 : Value) (lk lb la : List Frm.It) (w : World) (h : RAt w b s) (hk : ItemsAt w v1 lk) (hb : ItemsAt w v2 lb) (ha : ItemsAt w v3 la)
    (hm : ListAt w s.vm s.c.sm) (hs : ListAt w s.vs s.c.ss) (hc : Cli.Good s.c) (rb : Frm.riseB lb = true) (ra : Frm.riseB la = true)
    (hkk : ∀ x ∈ lk, 0 ≤ x.2.1 ∧ x.2.1 < 2305843009213693951 ∧ 0 ≤ x.2.2.1 ∧ x.2.2.1 < 2305843009213693951)
    (hbb : ∀ x ∈ lb, (0 ≤ x.2.1 ∧ x.2.1 < 2305843009213693951) ∧ (0 ≤ x.2.2.1 ∧ x.2.2.1 < 2305843009213693951) ∧ (0 ≤ x.2.2.2 ∧ x.2.2.2 < 2305843009213693951)) (hag : Cli.boxAgree s.c lk lb = true) :
    Calls Tryz.prog 234 #[.pointer (some ⟨b, 0, none⟩), .agg #[.int .i64 k1, .int .i64 f1, v1], .agg #[.int .i64 k2, .int .i64 f2, v2], .agg #[.int .i64 k3, .int .i64 f3, v3]] w fun e w' =>
      ∃ va, e = .returned va ∧ w'.ownsRow w.heap.size 142 4 va (Cli.tells s.c lk lb la).length (flat4 (Cli.tells s.c lk lb la)) ∧ Below w.heap.size w w' := by
  obtain ⟨i1, hi1, hy0, hy1, hy2⟩ := info_parts infoIt
  have hbl := h.lt
  obtain ⟨W0, hW0⟩ : ∃ W0, W0 = ((w.alloc (.cells #[.int .i64 k1, .int .i64 f1, v1] 40)).alloc (.cells #[.int .i64 k2, .int .i64 f2, v2] 40)).alloc (.cells #[.int .i64 k3, .int .i64 f3, v3] 40) := ⟨_, rfl⟩
  have hb0 : Below w.heap.size w W0 := by rw [hW0]; exact (((Below.refl _ _).alloc (Nat.le_refl _) _).alloc (by simp) _).alloc (by simp; omega) _
  have z0 : w.heap.size + 2 < W0.heap.size := by rw [hW0]; simp
  obtain ⟨F1, F2, F3⟩ := frames3 w k1 f1 k2 f2 k3 f3 v1 v2 v3
  rw [← hW0] at F1 F2 F3
  have FF := hideG (show ∀ W, Below W0.heap.size W0 W → FrAt W w.heap.size k1 f1 v1 ∧ FrAt W (w.heap.size + 1) k2 f2 v2 ∧ FrAt W (w.heap.size + 2) k3 f3 v3 from fun W hb' =>
    ⟨F1.below hb' (by omega), F2.below hb' (by omega), F3.below hb' (by omega)⟩)
  clear F1 F2 F3
  obtain ⟨U, hU⟩ : ∃ U : Nat, s.c.id = (U : Int) := ⟨s.c.id.toNat, by have := hc.i; omega⟩
  have U1 : 1 ≤ U := by have := hc.i; omega
  have U13 : U < 13 := by have := hc.i; have := hc.n; omega
  have U13' : (U : Int) < 13 := by omega
  obtain ⟨F, hF⟩ : ∃ F : Nat → Bool, F = fun u : Nat => Cli.hasI lb u := ⟨_, rfl⟩
  obtain ⟨G, hG⟩ : ∃ G : Nat → Bool, G = fun u : Nat => Cli.hasI la u := ⟨_, rfl⟩
  obtain ⟨S, hS⟩ : ∃ S : Nat → Bool, S = updB F U true := ⟨_, rfl⟩
  obtain ⟨CF, hCF⟩ : ∃ CF, CF = bl13 F := ⟨_, rfl⟩
  obtain ⟨CG, hCG⟩ : ∃ CG, CG = bl13 G := ⟨_, rfl⟩
  have HI1 := hideG (show ∀ W, Below W0.heap.size W0 W → Calls Tryz.prog 230 #[.agg #[.int .i64 k2, .int .i64 f2, v2]] W fun e w' => e = .returned (.agg CF.toArray) ∧ Below W.heap.size W w' from fun W hb' => by
    rw [hCF, hF]; exact rids_calls k2 f2 v2 lb W ((hb.below hb0).below hb') rb)
  have HI2 := hideG (show ∀ W, Below W0.heap.size W0 W → Calls Tryz.prog 230 #[.agg #[.int .i64 k3, .int .i64 f3, v3]] W fun e w' => e = .returned (.agg CG.toArray) ∧ Below W.heap.size W w' from fun W hb' => by
    rw [hCG, hG]; exact rids_calls k3 f3 v3 la W ((ha.below hb0).below hb') ra)
  obtain ⟨ofF, szF⟩ := ids_facts F CF hCF
  obtain ⟨ofG, szG⟩ := ids_facts G CG hCG
  have OF := hideG ofF
  have SF := hideG szF
  have OG := hideG ofG
  have SG := hideG szG
  have HCF := hideG hCF
  have HCG := hideG hCG
  have HSS := hideG hS
  have hsv : ∀ v : Nat, S v = (Cli.hasI lb v || decide ((v : Int) = s.c.id)) := fun v => by
    rw [hS, hF, hU]
    unfold updB
    by_cases e : v = U
    · subst e; simp
    · rw [if_neg e, decide_eq_false (by omega), Bool.or_false]
  unfold Cli.boxAgree at hag
  rw [Bool.and_eq_true, Bool.and_eq_true, Bool.not_eq_true'] at hag
  obtain ⟨ag1, _, ag3⟩ := hag
  have HSH := hideG (show ∀ (W : World), Below W0.heap.size W0 W → ∀ j : Nat, 1 ≤ j → j ≤ 12 → S j = true → Calls Tryz.prog 231 #[.pointer (some ⟨b, 0, none⟩), .agg #[.int .i64 k1, .int .i64 f1, v1], .agg #[.int .i64 k2, .int .i64 f2, v2], .int .i64 (j : Int)] W fun e w' =>
      ∃ ok, e = .returned (.tuple #[.int .i64 (Cli.mShare s.c lk lb j), .int .i64 (Cli.sShare s.c lk lb j), .bool ok]) ∧ Below W.heap.size W w' from fun W hb' j q1 q2 hSj => by
    by_cases e : (j : Int) = s.c.id
    · have e1 : Cli.mShare s.c lk lb j = Pol.polyP s.c.ms s.c.sm s.c.id := if_pos e
      have e2 : Cli.sShare s.c lk lb j = Pol.polyP s.c.sd s.c.ss s.c.id := if_pos e
      rw [e1, e2]
      refine (rshares_own b s k1 f1 k2 f2 v1 v2 j W ((h.below hb0).below hb') hc ((hm.below hb0).below hb') ((hs.below hb0).below hb') e).mono ?_
      rintro e w' ⟨rfl, hw⟩
      exact ⟨true, rfl, hw⟩
    · rw [hsv j, decide_eq_false e, Bool.or_false] at hSj
      obtain ⟨x, hx, hxe⟩ := Cli.hasI_iff.1 hSj
      have hx2 := List.all_eq_true.1 ag3 x hx
      rw [hxe, Bool.and_eq_true] at hx2
      have m1 := hkk _ (itemOf_mem hx2.1)
      obtain ⟨m2, m3, m4⟩ := hbb _ (itemOf_mem hSj)
      refine (rshares_box b s k1 f1 k2 f2 v1 v2 lk lb j W ((h.below hb0).below hb') ((hk.below hb0).below hb') ((hb.below hb0).below hb') hc e (by omega) (by omega) m1.1 m1.2.1 m2.1 m2.2 m3.1 m3.2 m4.1 m4.2).mono ?_
      rintro e w' ⟨m, q, rfl, hmq, e2⟩
      obtain ⟨rfl, rfl⟩ := hmq hx2.2
      exact ⟨_, rfl, e2⟩)
  have HN := hideG (show ∀ (W : World), Below W0.heap.size W0 W → W.cell? ⟨b, 4, none⟩ = some (.int .i64 (U : Int)) from fun W hb' => by
    obtain ⟨_, y1, _, y4, _, _, _⟩ := ((h.below hb0).below hb').nums
    rw [hU] at y4
    exact y4)
  have HT1 := hideG (rtold_one hc rb lk la)
  have HTA := hideG (Cli.told_all hc rb lk la)
  have HTS := hideG (show ∀ j : Nat, Cli.toldN s.c lk lb la (j + 1) = Cli.toldN s.c lk lb la j ++ (if S j = true then [((j : Int), if G j = true then 1 else 2, if G j = true then Cli.sShare s.c lk lb j else Cli.mShare s.c lk lb j, 0)] else []) from fun j => by
    rw [Cli.toldN_succ, hsv j, hG]; rfl)
  have HTL := hideG (fun j => rtold_len s.c lk lb la j)
  have HB0 := hideG hb0
  have HW0 := hideG hW0
  clear h hk hb ha hm hs hc rb ra hkk hbb hF hG hS hCF hCG hU hW0 hb0 ofF szF ofG szG hsv ag1 ag3
  go_enter Tryz.func234, Tryz.ntmps234
  go_upto_region 1 with fail
  rw [← HW0.out]
  obtain ⟨_, ⟨x0, x1, x2⟩, _⟩ := FF.out W0 (Below.refl _ _)
  go_wp2_with fail
  refine (HI1.out W0 (Below.refl _ _)).mono ?_
  rintro e w1 ⟨rfl, hb1⟩
  have s1 := hb1.size
  obtain ⟨t1, hb2, bo2⟩ := ids_box w1 F CF HCF.out
  have T1 := hideG t1
  obtain ⟨w2, hw2⟩ : ∃ w2, w2 = (w1.alloc (.cells #[.bool false, .bool false, .bool false, .bool false, .bool false, .bool false, .bool false, .bool false, .bool false, .bool false, .bool false, .bool false, .bool false] 127)).setCells w1.heap.size 0 CF := ⟨_, rfl⟩
  rw [← hw2] at hb2 bo2
  have s2 := hb2.size
  have l2' := bo2.lt
  have HB2 := hideG (hb1.trans (hb2.mono s1))
  have HW2 := hideG hw2
  have g0 := bo2.cell U U13
  have g1 := bo2.froz U
  obtain ⟨w2', hw2'⟩ : ∃ w2', w2' = w2.setCell ⟨w1.heap.size, U, none⟩ (.bool true) := ⟨_, rfl⟩
  have BO2 := hideG (show BoolsAt w2' w1.heap.size 127 S by rw [hw2', HSS.out]; exact bo2.set U U13 true)
  have HB2' := hideG (show Below W0.heap.size W0 w2' by rw [hw2']; exact HB2.out.setCell (p := ⟨w1.heap.size, U, none⟩) (by show W0.heap.size ≤ w1.heap.size; omega) _)
  have l2'' := BO2.out.lt
  have s2' : w2'.heap.size = w2.heap.size := by rw [hw2']; simp [World.setCell]
  have HW2' := hideG hw2'
  clear t1 hw2 hb1 hb2 bo2 x0 x1 x2 hw2'
  go_upto_region 2 with (refine wpList_store_mid rfl 127 _ _ rfl w1.heap.size 0 CF.toArray rfl rfl T1.out SF.out OF.out ?_)
  rw [← HW2.out]
  have y4 := HN.out w2 HB2.out
  have hbl2 : b < w2.heap.size := by have := HB0.out.size; omega
  go_upto_region 3 with fail
  rw [← HW2'.out]
  clear g0 g1 y4
  obtain ⟨_, _, ⟨x0, x1, x2⟩⟩ := FF.out w2' HB2'.out
  go_wp2_with fail
  refine (HI2.out w2' HB2'.out).mono ?_
  rintro e w3 ⟨rfl, hb3⟩
  have s3 := hb3.size
  obtain ⟨t3, hb4, bo4⟩ := ids_box w3 G CG HCG.out
  have T3 := hideG t3
  obtain ⟨w4, hw4⟩ : ∃ w4, w4 = (w3.alloc (.cells #[.bool false, .bool false, .bool false, .bool false, .bool false, .bool false, .bool false, .bool false, .bool false, .bool false, .bool false, .bool false, .bool false] 127)).setCells w3.heap.size 0 CG := ⟨_, rfl⟩
  rw [← hw4] at hb4 bo4
  have s4 := hb4.size
  have BG := hideG bo4
  have l4' := bo4.lt
  have BS := hideG ((BO2.out.below hb3 l2'').below hb4 (by omega))
  have HB4 := hideG ((HB2'.out.trans (hb3.mono (by omega))).trans (hb4.mono (by omega)))
  have HW4 := hideG hw4
  clear t3 hw4 hb3 hb4 bo4 x0 x1 x2
  go_upto_region 4 with (refine wpList_store_mid rfl 127 _ _ rfl w3.heap.size 0 CG.toArray rfl rfl T3.out SG.out OG.out ?_)
  rw [← HW4.out]
  simp only [Act.put]
  go_wp2_with fail
  go_loopw [11, 12] (fun u i wr => ∃ j : Nat, 1 ≤ j ∧ j ≤ 13 ∧ i = .int .i64 j ∧ wr.ownsRow w4.heap.size 142 4 u (Cli.toldN s.c lk lb la j).length (flat4 (Cli.toldN s.c lk lb la j)) ∧ Below w4.heap.size w4 wr) (fun _ i _ => 13 - (intOf i).toNat)
  case atStart => exact ⟨1, Nat.le_refl _, by omega, rfl, by rw [HT1.out]; exact World.ownsRow_nil _ _ _ _, Below.refl _ _⟩
  case round =>
    obtain ⟨j, j1, j2, rfl, hown, hbel⟩ := hrel
    have HO := hideG hown
    have HB := hideG hbel
    have hsz := hbel.size
    obtain ⟨a3, c3, hv3⟩ := owns_form hown
    subst hv3
    clear hown hbel
    have HBW := hideG (HB4.out.trans (HB.out.mono (by omega)))
    by_cases hlt : j ≤ 12
    · have j13 : j < 13 := by omega
      have j13' : (j : Int) < 13 := by omega
      have jp : (0 : Int) ≤ (j : Int) := by omega
      have gF := (BS.out.below HB.out (by omega)).cell j j13
      have HTJ := hideG (HTS.out j)
      have HTL' := HTL.out j
      by_cases qG : S j = true
      · have HC := hideG (HSH.out wr HBW.out j j1 hlt qG)
        rw [qG] at gF HTJ
        clear qG
        obtain ⟨⟨x0, x1, x2⟩, ⟨y0, y1, y2⟩, _⟩ := FF.out wr HBW.out
        obtain ⟨M, hM⟩ : ∃ M, M = Cli.mShare s.c lk lb j := ⟨_, rfl⟩
        obtain ⟨E, hE⟩ : ∃ E, E = Cli.sShare s.c lk lb j := ⟨_, rfl⟩
        rw [← hM, ← hE] at HC HTJ
        clear hM hE
        go_wp2_with fail
        refine HC.out.mono ?_
        rintro e w6 ⟨ok, rfl, hb6⟩
        have s6 := hb6.size
        have B6 := hideG (HB.out.trans (hb6.mono (by omega)))
        have O6 := hideG (ownsRow_chg (S := fun _ => False) HO.out (Chg.of_below hb6) (fun _ _ h => h))
        clear hb6 x0 x1 x2 y0 y1 y2 gF
        have gG := (BG.out.below B6.out (by omega)).cell j j13
        by_cases qT : G j = true
        · rw [qT] at gG
          have HT2 := hideG (show Cli.toldN s.c lk lb la (j + 1) = Cli.toldN s.c lk lb la j ++ [((j : Int), 1, E, 0)] by rw [HTJ.out]; simp [qT])
          clear qT
          go_wp2_with (at_builtin; refine wpList_append_own _ rfl _ _ 38 rfl w4.heap.size 142 i1 (.agg #[.int .i64 0, .int .i64 0, .int .i64 0, .int .i64 0]) 4 32 Tryz.underlying38 hi1 hy0 hy1 hy2 rfl (by decide) _ _ _ rfl (O6.out.alloc _) ⟨w6.heap.size, 0, none⟩ 1 1 [.int .i64 j, .int .i64 1, .int .i64 E, .int .i64 0] rfl rfl ?c1 ?c2 ?c3 ?c4 ?c5 ?_)
          case c1 => exact cell_four_new _ _ _ _ _ _
          case c2 => intro u hu; simp at hu; rcases hu with rfl | rfl | rfl | rfl <;> rfl
          case c3 => unfold maxLen; omega
          case c4 => omega
          case c5 => simp; omega
          intro v' w7 hown' hgrow' _
          have hb7 := (B6.out.alloc (by omega) (.cells #[.int .i64 j, .int .i64 1, .int .i64 E, .int .i64 0] 142)).grown hgrow' (by simp; omega) (fun y hy => (O6.out.lt y hy).1)
          have B7 := hideG hb7
          have O7 := hideG (show w7.ownsRow w4.heap.size 142 4 v' (Cli.toldN s.c lk lb la (j + 1)).length (flat4 (Cli.toldN s.c lk lb la (j + 1))) by rw [HT2.out, flat4_append, List.length_append]; exact hown')
          clear hown' hgrow' hb7
          go_wp2_with fail
          go_roundw
          case rel => exact ⟨j + 1, by omega, by omega, by go_num, O7.out, B7.out⟩
          case measure => simp [intOf]; omega
        · have qT' : G j = false := by simpa using qT
          rw [qT'] at gG
          have HT2 := hideG (show Cli.toldN s.c lk lb la (j + 1) = Cli.toldN s.c lk lb la j ++ [((j : Int), 2, M, 0)] by rw [HTJ.out]; simp [qT'])
          clear qT qT'
          go_wp2_with (at_builtin; refine wpList_append_own _ rfl _ _ 38 rfl w4.heap.size 142 i1 (.agg #[.int .i64 0, .int .i64 0, .int .i64 0, .int .i64 0]) 4 32 Tryz.underlying38 hi1 hy0 hy1 hy2 rfl (by decide) _ _ _ rfl (O6.out.alloc _) ⟨w6.heap.size, 0, none⟩ 1 1 [.int .i64 j, .int .i64 2, .int .i64 M, .int .i64 0] rfl rfl ?d1 ?d2 ?d3 ?d4 ?d5 ?_)
          case d1 => exact cell_four_new _ _ _ _ _ _
          case d2 => intro u hu; simp at hu; rcases hu with rfl | rfl | rfl | rfl <;> rfl
          case d3 => unfold maxLen; omega
          case d4 => omega
          case d5 => simp; omega
          intro v' w7 hown' hgrow' _
          have hb7 := (B6.out.alloc (by omega) (.cells #[.int .i64 j, .int .i64 2, .int .i64 M, .int .i64 0] 142)).grown hgrow' (by simp; omega) (fun y hy => (O6.out.lt y hy).1)
          have B7 := hideG hb7
          have O7 := hideG (show w7.ownsRow w4.heap.size 142 4 v' (Cli.toldN s.c lk lb la (j + 1)).length (flat4 (Cli.toldN s.c lk lb la (j + 1))) by rw [HT2.out, flat4_append, List.length_append]; exact hown')
          clear hown' hgrow' hb7
          go_wp2_with fail
          go_roundw
          case rel => exact ⟨j + 1, by omega, by omega, by go_num, O7.out, B7.out⟩
          case measure => simp [intOf]; omega
      · have qG' : S j = false := by simpa using qG
        rw [qG'] at gF
        have HT2 := hideG (show Cli.toldN s.c lk lb la (j + 1) = Cli.toldN s.c lk lb la j by rw [HTJ.out, qG']; simp)
        clear qG qG'
        go_wp2_with fail
        go_roundw
        case rel => exact ⟨j + 1, by omega, by omega, by go_num, by rw [HT2.out]; exact HO.out, HB.out⟩
        case measure => simp [intOf]; omega
    · have ej : j = 13 := by omega
      subst ej
      have BF := hideG (HB0.out.trans (HBW.out.mono (by omega)))
      have OA := hideG (ownsRow_base HO.out (show w.heap.size ≤ w4.heap.size by have := HB0.out.size; omega))
      rw [HTA.out] at OA ⊢
      go_wp2_with fail
      go_ret
      exact ⟨_, rfl, OA.out, BF.out⟩

set_option maxHeartbeats 1000000 in
set_option maxRecDepth 100000 in
theorem rtelling_calls (b : Nat) (s : RS) (k1 f1 k2 f2 k3 f3 : Int) (v1 v2 v3 : Value) (lk lb la : List Frm.It) (w : World) (h : RAt w b s) (hk : ItemsAt w v1 lk) (hb : ItemsAt w v2 lb) (ha : ItemsAt w v3 la)
    (hm : ListAt w s.vm s.c.sm) (hs : ListAt w s.vs s.c.ss) (hc : Cli.Good s.c) (rb : Frm.riseB lb = true) (ra : Frm.riseB la = true)
    (hkk : ∀ x ∈ lk, 0 ≤ x.2.1 ∧ x.2.1 < 2305843009213693951 ∧ 0 ≤ x.2.2.1 ∧ x.2.2.1 < 2305843009213693951)
    (hbb : ∀ x ∈ lb, (0 ≤ x.2.1 ∧ x.2.1 < 2305843009213693951) ∧ (0 ≤ x.2.2.1 ∧ x.2.2.1 < 2305843009213693951) ∧ (0 ≤ x.2.2.2 ∧ x.2.2.2 < 2305843009213693951)) (hag : Cli.boxAgree s.c lk lb = true) :
    Calls Tryz.prog 176 #[.pointer (some ⟨b, 0, none⟩), .agg #[.int .i64 k1, .int .i64 f1, v1], .agg #[.int .i64 k2, .int .i64 f2, v2], .agg #[.int .i64 k3, .int .i64 f3, v3]] w fun e w' =>
      ∃ va, e = .returned va ∧ w'.ownsRow w.heap.size 5 1 va (Frm.encF 7 s.c.id (Cli.tells s.c lk lb la)).length ((Frm.encF 7 s.c.id (Cli.tells s.c lk lb la)).map (Value.int .u8)) ∧ Below w.heap.size w w' := by
  have hbl := h.lt
  obtain ⟨W0, hW0⟩ : ∃ W0, W0 = ((w.alloc (.cells #[.int .i64 k1, .int .i64 f1, v1] 40)).alloc (.cells #[.int .i64 k2, .int .i64 f2, v2] 40)).alloc (.cells #[.int .i64 k3, .int .i64 f3, v3] 40) := ⟨_, rfl⟩
  have hb0 : Below w.heap.size w W0 := by rw [hW0]; exact (((Below.refl _ _).alloc (Nat.le_refl _) _).alloc (by simp) _).alloc (by simp; omega) _
  have z0 : w.heap.size + 2 < W0.heap.size := by rw [hW0]; simp
  obtain ⟨F1, F2, F3⟩ := frames3 w k1 f1 k2 f2 k3 f3 v1 v2 v3
  rw [← hW0] at F1 F2 F3
  obtain ⟨x0, x1, x2⟩ := F1
  obtain ⟨y0, y1, y2⟩ := F2
  obtain ⟨z0', z1, z2⟩ := F3
  have HT := hideG (rtells_calls b s k1 f1 k2 f2 k3 f3 v1 v2 v3 lk lb la W0 (h.below hb0) (hk.below hb0) (hb.below hb0) (ha.below hb0) (hm.below hb0) (hs.below hb0) hc rb ra hkk hbb hag)
  have HN := hideG (fun (W : World) (hb' : Below W0.heap.size W0 W) => ((h.below hb0).below hb').nums)
  have HOK := hideG (Cli.tells_ok hc lk lb la)
  have HEN := hideG (fun (W : World) (vv : Value) (hv : ItemsAt W vv (Cli.tells s.c lk lb la)) => rencode_yes 7 s.c.id vv (Cli.tells s.c lk lb la) W hv (Cli.tells_ok hc lk lb la))
  have HB0 := hideG hb0
  have HW0 := hideG hW0
  clear h hk hb ha hm hs hc rb ra hkk hbb hag hW0 hb0
  generalize Cli.tells s.c lk lb la = L at *
  obtain ⟨id, hid⟩ : ∃ id, id = s.c.id := ⟨_, rfl⟩
  rw [← hid] at HN HOK HEN ⊢
  clear hid
  go_enter Tryz.func176, Tryz.ntmps176
  go_upto_region 1 with fail
  rw [← HW0.out]
  go_wp2_with fail
  refine HT.out.mono ?_
  rintro e w1 ⟨va, rfl, hoa, hb1⟩
  have s1 := hb1.size
  have IT := hideG (itemsAt_of_owns hoa (okF_in HOK.out))
  obtain ⟨a3, c3, hva⟩ := owns_form hoa
  subst hva
  have B1 := hideG (HB0.out.trans (hb1.mono HB0.out.size))
  obtain ⟨_, _, _, u4, _, _, _⟩ := HN.out w1 hb1
  clear hoa hb1 x0 x1 x2 y0 y1 y2 z0' z1 z2
  have hbl1 : b < w1.heap.size := by have := HB0.out.size; omega
  go_wp2_with fail
  refine (HEN.out w1 _ IT.out).mono ?_
  rintro e w3 ⟨vb, rfl, hob, hb3⟩
  obtain ⟨a4, c4, hvb⟩ := owns_form hob
  have OA := hideG (ownsRow_base hob (show w.heap.size ≤ w1.heap.size by have := B1.out.size; omega))
  have BF := hideG (B1.out.trans (hb3.mono B1.out.size))
  subst hvb
  clear hob hb3
  go_wp2_with fail
  go_ret
  exact ⟨_, rfl, OA.out, BF.out⟩

end Go.Proofs.YtchideljndagjaaGreat
