/- Contract of veilref's client: the answer to Box, walked. -/
import Derived.Test.YtchideljndagjaaGreatPkClAL
import Derived.Test.YtchideljndagjaaGreatPkClAH
import Derived.Test.YtchideljndagjaaGreatPkClAK
namespace Go.Proofs.YtchideljndagjaaGreat
open Go.ChangeShapes Go.WideShapes Go.ChangeAt Go.RowKit
set_option linter.unusedVariables false

theorem rrow_of_full {w : World} {B g n : Nat} {e : TypeId} {xs : List Value} (h : w.ownsRow B e 1 (.slice (some ⟨g, 0, none⟩) n n) n xs) : w.heap[g]? = some (.cells xs.toArray e (0, 0)) := by
  have hl := h.1
  rcases h.2 with ⟨e0, _⟩ | ⟨g', cap, cur, e0, _, hg, _, _, hcs, htake⟩
  · cases e0
  · cases e0
    rw [hg]
    congr 2
    have : cur.toList.take (n * 1) = cur.toList := List.take_of_length_le (by simp; omega)
    rw [this] at htake
    rw [← htake]
theorem rep_range (n : Nat) (x : Value) : List.replicate n x = (List.range n).map fun _ => x := by rw [List.map_const', List.length_range]
theorem chg_drew {S : Nat → Prop} {a b : World} (h : Chg S a b) : Chg S a b.drew := h.trans (S' := fun _ => False) ⟨rfl, rfl, rfl, Nat.le_refl _, fun _ _ _ => rfl⟩ (fun _ e _ => e.elim)
theorem IntsRow.drew {w : World} {g n : Nat} {r : Nat → Int} (h : IntsRow w g n r) : IntsRow w.drew g n r := h

set_option maxHeartbeats 8000000 in
set_option maxRecDepth 100000 in
theorem rmasking_calls (b : Nat) (s : RS) (k1 f1 k2 f2 : Int) (v1 v2 : Value) (lk lb : List Frm.It) (w : World) (h : RAt w b s) (hk : ItemsAt w v1 lk) (hb : ItemsAt w v2 lb) (hin : ListAt w s.vi s.c.inp) (hc : Cli.Good s.c) (rb : Frm.riseB lb = true)
    (hkk : ∀ x ∈ lk, 0 ≤ x.2.1 ∧ x.2.1 < 2305843009213693951 ∧ 0 ≤ x.2.2.1 ∧ x.2.2.1 < 2305843009213693951) :
    Calls Tryz.prog 174 #[.pointer (some ⟨b, 0, none⟩), .agg #[.int .i64 k1, .int .i64 f1, v1], .agg #[.int .i64 k2, .int .i64 f2, v2]] w fun e w' =>
      ∃ va, e = .returned va ∧ w'.ownsRow w.heap.size 5 1 va (Frm.encF 5 s.c.id (Cli.masking s.c lk lb)).length ((Frm.encF 5 s.c.id (Cli.masking s.c lk lb)).map (Value.int .u8)) ∧ Below w.heap.size w w' := by
  obtain ⟨i1, hi1, hy0, hy1, hy2⟩ := info_parts infoIt
  obtain ⟨i0, hi, hz0, hz1, hz2⟩ := info_parts infoInt
  have hbl := h.lt
  obtain ⟨W0, hW0⟩ : ∃ W0, W0 = (w.alloc (.cells #[.int .i64 k1, .int .i64 f1, v1] 40)).alloc (.cells #[.int .i64 k2, .int .i64 f2, v2] 40) := ⟨_, rfl⟩
  have hb0 : Below w.heap.size w W0 := by rw [hW0]; exact ((Below.refl _ _).alloc (Nat.le_refl _) _).alloc (by simp) _
  have z0 : w.heap.size + 1 < W0.heap.size := by rw [hW0]; simp
  have F1 : FrAt W0 w.heap.size k1 f1 v1 := by rw [hW0]; refine ⟨?_, ?_, ?_⟩ <;> simp
  have F2 : FrAt W0 (w.heap.size + 1) k2 f2 v2 := by rw [hW0]; refine ⟨?_, ?_, ?_⟩ <;> simp
  have FF := hideG (show ∀ W, Below W0.heap.size W0 W → FrAt W w.heap.size k1 f1 v1 ∧ FrAt W (w.heap.size + 1) k2 f2 v2 from fun W hb' => ⟨F1.below hb' (by omega), F2.below hb' (by omega)⟩)
  clear F1 F2
  have gm := hc.m
  obtain ⟨n, hn⟩ : ∃ n : Nat, s.c.M = (n : Int) := ⟨s.c.M.toNat, by omega⟩
  rw [hn] at gm
  have n1 : 1 ≤ n := by omega
  have n12 : n ≤ 12 := by omega
  obtain ⟨id, hid⟩ : ∃ id, id = s.c.id := ⟨_, rfl⟩
  obtain ⟨sd, hsd⟩ : ∃ sd, sd = s.c.sd := ⟨_, rfl⟩
  have HN := hideG (show ∀ W, Below W0.heap.size W0 W → W.cell? ⟨b, 2, none⟩ = some (.int .i64 (n : Int)) ∧ W.cell? ⟨b, 4, none⟩ = some (.int .i64 id) ∧ W.cell? ⟨b, 8, none⟩ = some (.int .i64 sd) from fun W hb' => by
    obtain ⟨_, _, y2, y4, _, _, y8⟩ := ((h.below hb0).below hb').nums
    rw [hn] at y2
    rw [← hid] at y4
    rw [← hsd] at y8
    exact ⟨y2, y4, y8⟩)
  obtain ⟨ai, ci, hvi, il2, il3, hcl⟩ := list_view hin
  have hil : s.c.inp.length = n := by have := hc.len; rw [hn] at this; omega
  rw [hil] at hvi il2 hcl
  have HIN := hideG (show ∀ W, Below W0.heap.size W0 W → W.cell? ⟨b, 5, none⟩ = some (.slice ai n ci) ∧ ∀ t, t < n → ∃ b' off, ai = some ⟨b', off, none⟩ ∧ b' < w.heap.size ∧ W.cell? ⟨b', off + t, none⟩ = some (.int .i64 (s.c.inp.getD t 0)) from fun W hb' => by
    obtain ⟨y5, _⟩ := ((h.below hb0).below hb').vals
    rw [hvi] at y5
    refine ⟨y5, fun t ht => ?_⟩
    obtain ⟨b', off, e1, e2⟩ := hcl t ht
    have hbl' : b' < w.heap.size := cell_in e2
    exact ⟨b', off, e1, hbl', ((hb'.cell (p := ⟨b', off + t, none⟩) (by show b' < _; have := hb0.size; omega)).trans (hb0.cell (p := ⟨b', off + t, none⟩) hbl')).trans e2⟩)
  have HIB := hideG (show ∀ t, t < n → 0 ≤ s.c.inp.getD t 0 ∧ s.c.inp.getD t 0 < 4294967296 from fun t ht => hc.inp _ (by rw [List.getD_eq_getElem?_getD, List.getElem?_eq_getElem (show t < s.c.inp.length by omega)]; exact List.getElem_mem _))
  have HM0 := hideG (show ∀ t, msk0 s.c t = s.c.inp.getD t 0 + Num.strAt sd t from fun t => by rw [hsd]; rfl)
  have HST := hideG (show ∀ W, Calls Tryz.prog 31 #[.int .i64 sd, .int .i64 (n : Int)] W fun e w' => ∃ v, e = .returned (.tuple #[v, .int .i64 0]) ∧ w'.ownsRow W.heap.size 3 1 v n ((Num.strL sd n).map (Value.int .i64)) ∧ Below W.heap.size W w' from fun W => by
    rw [hsd]; exact rstretch_yes s.c.sd n W hc.sd.1 hc.sd.2 n12)
  have HKB : ∀ v : Int, 0 ≤ Cli.mkKey s.c lk v ∧ Cli.mkKey s.c lk v < 2305843009213693951 := fun v => ⟨Num.powP_lo _ _, Num.powP_hi _ _⟩
  have HS2 := hideG (fun (W : World) (v : Int) => rstretch_yes (Cli.mkKey s.c lk v) n W (HKB v).1 (HKB v).2 n12)
  have hko : ∀ u : Int, 0 ≤ (Cli.itemOf lk u).2.2.1 ∧ (Cli.itemOf lk u).2.2.1 < 2305843009213693951 := fun u => by
    cases e : Cli.hasI lk u
    · rw [Cli.itemOf_none e]; exact ⟨by decide, by decide⟩
    · have := hkk _ (itemOf_mem e); omega
  have HMK := hideG (fun (W : World) (hb' : Below W0.heap.size W0 W) (u : Int) => rmask_calls b s k1 f1 v1 lk u W ((h.below hb0).below hb') ((hk.below hb0).below hb') hc.ms.1 hc.ms.2 (hko u).1 (hko u).2)
  have HSU := hideG (fun j t hj => mskP_succ s.c lk lb j t hj)
  have HTT := hideG (show ∀ v t, mskT s.c lk v t = if id < v then Num.strAt (Cli.mkKey s.c lk v) t else - Num.strAt (Cli.mkKey s.c lk v) t from fun v t => by rw [hid]; rfl)
  have HP0 := hideG (fun t => mskP_zero s.c lk lb t)
  have HPA := hideG (fun t => mskP_all s.c lk lb t)
  have HBD := hideG (show ∀ t, t < n → ∀ j, j ≤ lb.length → -4294967296 * (j : Int) ≤ mskP s.c lk lb j t ∧ mskP s.c lk lb j t ≤ 8589934592 + 4294967296 * (j : Int) from fun t ht j hj => mskP_bd hc lk lb t (by rw [hn]; omega) j hj)
  have HMS := hideG (show ∀ t, t < n → (Cli.masking s.c lk lb).take (t + 1) = (Cli.masking s.c lk lb).take t ++ [((t : Int) + 1, Cli.maskSum s.c lk lb t % 4294967296, 0, 0)] from fun t ht => mk_succ s.c lk lb t (by rw [hn]; omega))
  have hml : (Cli.masking s.c lk lb).length = n := by rw [Cli.masking_length, hn]; rfl
  have HML := hideG (show ∀ t, t ≤ n → ((Cli.masking s.c lk lb).take t).length = t from fun t ht => by rw [List.length_take, hml]; omega)
  have HMA := hideG (show (Cli.masking s.c lk lb).take n = Cli.masking s.c lk lb by rw [← hml, List.take_length])
  have HOK := hideG (Cli.masking_ok hc lk lb)
  have HEN := hideG (fun (W : World) (vv : Value) (hv : ItemsAt W vv (Cli.masking s.c lk lb)) => rencode_yes 5 s.c.id vv (Cli.masking s.c lk lb) W hv (Cli.masking_ok hc lk lb))
  obtain ⟨a2, c2, hv2, l2, l3, _, hcl2⟩ := items_view (hb.below hb0)
  have m12 : lb.length ≤ 12 := by obtain ⟨p1, p2⟩ := Cli.rise_pair rb; exact Cli.pair_len p1 p2
  have HC2 := hideG hcl2
  have HV2 := hideG hv2
  obtain ⟨m, hm⟩ : ∃ m, m = lb.length := ⟨_, rfl⟩
  rw [← hm] at HC2 HV2 m12 l2 HSU HPA HBD
  have HB0 := hideG hb0
  have HW0 := hideG hW0
  rw [← hid] at HOK HEN ⊢
  generalize Cli.masking s.c lk lb = ML at *
  clear hn hid hsd hvi hcl hil h hk hb hin hc rb hkk HKB hko hml hv2 hcl2 hm hW0 hb0
  go_enter Tryz.func174, Tryz.ntmps174
  go_upto_region 1 with fail
  rw [← HW0.out]
  obtain ⟨y2, y4, y8⟩ := HN.out W0 (Below.refl _ _)
  have hblw : b < W0.heap.size := by omega
  go_upto_region 2 with (at_make; refine wpList_make_full _ rfl _ _ 35 rfl W0.heap.size 3 i0 (.int .i64 0) 1 Tryz.underlying35 hi hz0 hz1 _ _ _ _ n rfl rfl (by omega) (by omega) ?m1 ?m2 ?m3 ?_)
  case m1 => rw [hz2]; omega
  case m2 => unfold maxLen; omega
  case m3 => exact Nat.le_refl _
  intro w2 hown2 hgrow2
  have hr := rrow_of_full hown2
  have hb2 : Below W0.heap.size W0 w2 := (Below.refl _ _).grown hgrow2 (Nat.le_refl _) (by simp)
  rw [toList_madeCells_one, rep_range] at hr
  have R2 := hideG (show IntsRow w2 W0.heap.size n (fun _ => 0) from hr)
  have g2 := R2.out.lt
  have HB2 := hideG hb2
  clear hr hb2 hown2 hgrow2 y2 y4 y8
  obtain ⟨y2, y4, y8⟩ := HN.out w2 HB2.out
  have hblw2 : b < w2.heap.size := by omega
  go_upto_region 2 with fail
  go_cut [8, 9] from 28 to 41 (fun p q wc => (∃ va, p = va ∧ wc.ownsRow w2.heap.size 3 1 va n ((Num.strL sd n).map (Value.int .i64))) ∧ Below w2.heap.size w2 wc)
  case first =>
    go_region_with (go_at_call 31; refine (HST.out _).mono ?_; rintro e w1 ⟨va, rfl, hoa, hb1⟩; have HFIN := hideG (And.intro (show ∃ va', va = va' ∧ w1.ownsRow w2.heap.size 3 1 va' n ((Num.strL sd n).map (Value.int .i64)) from ⟨va, rfl, hoa⟩) (show Below w2.heap.size w2 w1 from (Below.refl w2.heap.size w2).drew.trans hb1)); clear hoa hb1)
    all_goals (go_wp2_with fail; go_meet; exact HFIN.out)
  case rest =>
    obtain ⟨⟨va, rfl, hoa⟩, hbc⟩ := hcut
    obtain ⟨go, co, rfl, hgo, hgo2, co1, co2, hoc⟩ := str_view hoa n1
    have sc := hbc.size
    have RC := hideG (R2.out.block (hbc.block W0.heap.size g2))
    have HBC := hideG (HB2.out.trans (hbc.mono (by omega)))
    have HOC := hideG hoc
    have hne : go ≠ W0.heap.size := by omega
    clear hoa hbc hoc y2 y4 y8
    go_wp2_with fail
    go_loopw [10] (fun i wr => ∃ t : Nat, t ≤ n ∧ i = .int .i64 t ∧ IntsRow wr W0.heap.size n (fun u => if u < t then msk0 s.c u else 0) ∧ Chg (fun x => x = W0.heap.size) wc wr) (fun i _ => n - (intOf i).toNat)
    case atStart => exact ⟨0, Nat.zero_le _, rfl, RC.out.ext (fun t ht => (if_neg (Nat.not_lt_zero _)).symm), Chg.refl _ _⟩
    case round =>
      obtain ⟨t, ht, rfl, hrow, hchg⟩ := hrel
      have HR := hideG hrow
      have HCH := hideG hchg
      have hsz := hchg.size
      have HB := hideG (HBC.out.trans (hchg.below (B := W0.heap.size) (by omega) (fun x e => by omega)))
      clear hrow hchg
      obtain ⟨y2, y4, y8⟩ := HN.out wr HB.out
      have hblr : b < wr.heap.size := by omega
      by_cases hlt : t < n
      · obtain ⟨y5, hin5⟩ := HIN.out wr HB.out
        obtain ⟨b', off, rfl, hb', d0⟩ := hin5 t hlt
        have HI5 := hideG hin5
        have o0 := (World.cell?_of_block (w := wc) (a := ⟨go, t, none⟩) (HCH.out.block go hgo2 hne)).trans (HOC.out t hlt)
        obtain ⟨x1, x2⟩ := HIB.out t hlt
        obtain ⟨q1, q2⟩ := Cli.strAt_range sd t
        have HMT := hideG (HM0.out t)
        obtain ⟨X, hX⟩ : ∃ X, X = s.c.inp.getD t 0 := ⟨_, rfl⟩
        obtain ⟨Y, hY⟩ : ∃ Y, Y = Num.strAt sd t := ⟨_, rfl⟩
        rw [← hX] at d0 x1 x2 HMT
        rw [← hY] at o0 q1 q2 HMT
        have c0 := HR.out.cell t hlt
        have c1 := HR.out.froz t
        have hwr : IntKind.i64.wrap (X + Y) = X + Y := by rw [IntWalk.i64_left, IntWalk.wrap64_in _ (by omega)]
        have hb'' : b' < wr.heap.size := by omega
        have hgl : W0.heap.size < wr.heap.size := by omega
        have hgo3 : go < wr.heap.size := by omega
        have FIN := hideG (show IntsRow (wr.setCell ⟨W0.heap.size, t, none⟩ (.int .i64 (X + Y))).drew W0.heap.size n (fun u => if u < t + 1 then msk0 s.c u else 0) from
          (HR.out.set t hlt (X + Y) (by show (if t < t + 1 then msk0 s.c t else 0) = _; rw [if_pos (Nat.lt_succ_self t), HMT.out]) (fun u hu hne => by
            show (if u < t + 1 then msk0 s.c u else 0) = (if u < t then msk0 s.c u else 0)
            by_cases e : u < t
            · rw [if_pos e, if_pos (by omega)]
            · rw [if_neg e, if_neg (by omega)])).drew)
        have FIC := hideG (show Chg (fun x => x = W0.heap.size) wc (wr.setCell ⟨W0.heap.size, t, none⟩ (.int .i64 (X + Y))).drew from chg_drew (HCH.out.also (Chg.setCell wr ⟨W0.heap.size, t, none⟩ _)))
        clear hX hY hin5
        go_wp2_with fail
        go_region
        go_wp2_with fail
        go_roundw
        case rel => exact ⟨t + 1, by omega, by go_num, FIN.out, FIC.out⟩
        case measure => simp [intOf]; omega
      · have et : t = n := by omega
        subst et
        have R3 := hideG (show IntsRow wr W0.heap.size t (mskP s.c lk lb 0) from HR.out.ext (fun u hu => by
          show (if u < t then msk0 s.c u else 0) = _
          rw [if_pos hu, HP0.out u]))
        go_wp2_with fail
        clear HCH HR HOC
        go_loopw [11] (fun i wr => ∃ j : Nat, j ≤ m ∧ i = .int .i64 j ∧ IntsRow wr W0.heap.size t (mskP s.c lk lb j) ∧ Below W0.heap.size W0 wr) (fun i _ => m - (intOf i).toNat)
        case atStart => exact ⟨0, Nat.zero_le _, rfl, R3.out, HB.out⟩
        case round =>
          clear R3 HB y2 y4 y8
          obtain ⟨j, hj, rfl, hrow, hbel⟩ := hrel
          have HR := hideG hrow
          have HB := hideG hbel
          have hsz := hbel.size
          have hgl := hrow.lt
          clear hrow hbel
          obtain ⟨⟨x0, x1, x2⟩, ⟨z0', z1, z2⟩⟩ := FF.out wr HB.out
          rw [HV2.out] at z2
          obtain ⟨y2, y4, y8⟩ := HN.out wr HB.out
          have hblr : b < wr.heap.size := by omega
          have hwl : w.heap.size < wr.heap.size := by omega
          have hwl1 : w.heap.size + 1 < wr.heap.size := by omega
          by_cases hlt : j < m
          · obtain ⟨b', off, ha2, hb', hit⟩ := HC2.out j hlt
            obtain ⟨e0, _, _, _⟩ := hit.below hb' HB.out
            rw [ha2] at z2
            have SUJ := hideG (fun t => HSU.out j t hlt)
            obtain ⟨v, hv⟩ : ∃ v, v = (Frm.it lb j).1 := ⟨_, rfl⟩
            rw [← hv] at e0 SUJ
            clear hv hit
            have hb'' : b' < wr.heap.size := by omega
            go_wp2_with fail
            refine (HMK.out wr HB.out v).mono ?_
            rintro e w4 ⟨rfl, hb4⟩
            have s4 := hb4.size
            have B4 := hideG (HB.out.trans (hb4.mono (by omega)))
            have R4 := hideG (HR.out.block (hb4.block W0.heap.size hgl))
            have HSV := hideG (fun W => HS2.out W v)
            have HTV := hideG (fun t => HTT.out v t)
            clear hb4 x0 x1 x2 z0' z1 z2 y2 y4 y8 e0
            obtain ⟨K, hK⟩ : ∃ K, K = Cli.mkKey s.c lk v := ⟨_, rfl⟩
            rw [← hK] at HSV HTV ⊢
            clear hK
            obtain ⟨y2, y4, y8⟩ := HN.out w4 B4.out
            have hbl4 : b < w4.heap.size := by omega
            go_wp2_with fail
            refine (HSV.out w4).mono ?_
            rintro e w5 ⟨va, rfl, hoa, hb5⟩
            obtain ⟨gs, cs, rfl, hgs, hgs2, cs1, cs2, hsc⟩ := str_view hoa n1
            have s5 := hb5.size
            have B5 := hideG (B4.out.trans (hb5.mono (by omega)))
            have R5 := hideG (R4.out.block (hb5.block W0.heap.size (by omega)))
            have HSC := hideG hsc
            have hne5 : gs ≠ W0.heap.size := by omega
            clear hoa hb5 hsc y2 y4 y8
            go_wp2_with fail
            go_loopw [16] (fun i wr => ∃ u : Nat, u ≤ t ∧ i = .int .i64 u ∧ IntsRow wr W0.heap.size t (fun x => if x < u then mskP s.c lk lb (j + 1) x else mskP s.c lk lb j x) ∧ Chg (fun x => x = W0.heap.size) w5 wr) (fun i _ => t - (intOf i).toNat)
            case atStart => exact ⟨0, Nat.zero_le _, rfl, R5.out.ext (fun x hx => (if_neg (Nat.not_lt_zero _)).symm), Chg.refl _ _⟩
            case round =>
              clear R4 R5 HR HB B4
              obtain ⟨u, hu, rfl, hrow, hchg⟩ := hrel
              have HR := hideG hrow
              have HCH := hideG hchg
              have hsz' := hchg.size
              have HB := hideG (B5.out.trans (hchg.below (B := W0.heap.size) (by omega) (fun x e => by omega)))
              clear hrow hchg
              obtain ⟨y2, y4, y8⟩ := HN.out wr HB.out
              have hblr' : b < wr.heap.size := by omega
              by_cases hlu : u < t
              · have o0 := (World.cell?_of_block (w := w5) (a := ⟨gs, u, none⟩) (HCH.out.block gs hgs2 hne5)).trans (HSC.out u hlu)
                obtain ⟨q1, q2⟩ := Cli.strAt_range K u
                have SU := hideG (SUJ.out u)
                have TV := hideG (HTV.out u)
                obtain ⟨p1, p2⟩ := HBD.out u hlu j (by omega)
                have c0 := HR.out.cell u hlu
                have c1 := HR.out.froz u
                rw [if_neg (Nat.lt_irrefl u)] at c0
                have HST2 := hideG (show ∀ z, mskP s.c lk lb (j + 1) u = z → IntsRow (wr.setCell ⟨W0.heap.size, u, none⟩ (.int .i64 z)).drew W0.heap.size t (fun x => if x < u + 1 then mskP s.c lk lb (j + 1) x else mskP s.c lk lb j x) from fun z hz =>
                  (HR.out.set u hlu z (by show (if u < u + 1 then mskP s.c lk lb (j + 1) u else mskP s.c lk lb j u) = _; rw [if_pos (Nat.lt_succ_self u), hz]) (fun x hx hne => by
                    show (if x < u + 1 then mskP s.c lk lb (j + 1) x else mskP s.c lk lb j x) = (if x < u then mskP s.c lk lb (j + 1) x else mskP s.c lk lb j x)
                    by_cases e : x < u
                    · rw [if_pos e, if_pos (by omega)]
                    · rw [if_neg e, if_neg (by omega)])).drew)
                obtain ⟨Y, hY⟩ : ∃ Y, Y = Num.strAt K u := ⟨_, rfl⟩
                obtain ⟨A, hA⟩ : ∃ A, A = mskP s.c lk lb j u := ⟨_, rfl⟩
                rw [← hY] at o0 q1 q2 TV
                rw [← hA] at p1 p2 c0 SU
                clear hY hA
                have hm12 : (j : Int) ≤ 12 := by omega
                have hgl' : W0.heap.size < wr.heap.size := by omega
                have hgs3 : gs < wr.heap.size := by omega
                by_cases qv : id < v
                · have hwr : IntKind.i64.wrap (A + Y) = A + Y := by rw [IntWalk.i64_left, IntWalk.wrap64_in _ (by omega)]
                  have FIN := hideG (HST2.out (A + Y) (by rw [SU.out, TV.out, if_pos qv]))
                  have FIC := hideG (show Chg (fun x => x = W0.heap.size) w5 (wr.setCell ⟨W0.heap.size, u, none⟩ (.int .i64 (A + Y))).drew from chg_drew (HCH.out.also (Chg.setCell wr ⟨W0.heap.size, u, none⟩ _)))
                  go_wp2_with fail
                  go_region
                  go_wp2_with fail
                  go_roundw
                  case rel => exact ⟨u + 1, by omega, by go_num, FIN.out, FIC.out⟩
                  case measure => simp [intOf]; omega
                · have hwr : IntKind.i64.wrap (A - Y) = A - Y := by rw [IntWalk.i64_left, IntWalk.wrap64_in _ (by omega)]
                  have FIN := hideG (HST2.out (A - Y) (by rw [SU.out, TV.out, if_neg qv]; omega))
                  have FIC := hideG (show Chg (fun x => x = W0.heap.size) w5 (wr.setCell ⟨W0.heap.size, u, none⟩ (.int .i64 (A - Y))).drew from chg_drew (HCH.out.also (Chg.setCell wr ⟨W0.heap.size, u, none⟩ _)))
                  go_wp2_with fail
                  go_region
                  go_wp2_with fail
                  go_roundw
                  case rel => exact ⟨u + 1, by omega, by go_num, FIN.out, FIC.out⟩
                  case measure => simp [intOf]; omega
              · have eu : u = t := by omega
                subst eu
                have R6 := hideG (show IntsRow wr W0.heap.size u (mskP s.c lk lb (j + 1)) from HR.out.ext (fun x hx => by
                  show (if x < u then mskP s.c lk lb (j + 1) x else mskP s.c lk lb j x) = _
                  rw [if_pos hx]))
                go_wp2_with fail
                go_roundw
                case rel => exact ⟨j + 1, by omega, by go_num, R6.out, HB.out⟩
                case measure => simp [intOf]; omega
          · have ej : j = m := by omega
            subst ej
            have R6 := hideG (show IntsRow wr W0.heap.size t (Cli.maskSum s.c lk lb) from HR.out.ext (fun x hx => HPA.out x))
            have HB6 := hideG (HB0.out.trans (HB.out.mono (by omega)))
            have HBD2 := hideG (show ∀ x, x < t → -4294967296 * (j : Int) ≤ Cli.maskSum s.c lk lb x ∧ Cli.maskSum s.c lk lb x ≤ 8589934592 + 4294967296 * (j : Int) from fun x hx => by rw [← HPA.out x]; exact HBD.out x hx j (Nat.le_refl _))
            obtain ⟨w7, hw7⟩ : ∃ w7, w7 = wr := ⟨_, rfl⟩
            obtain ⟨W8, hW8⟩ : ∃ W8, W8 = wr.alloc (.cells #[.int .i64 5, .int .i64 id, .slice none 0 0] 40) := ⟨_, rfl⟩
            have B8 := hideG (show Below wr.heap.size wr W8 by rw [hW8]; exact (Below.refl _ _).alloc (Nat.le_refl _) _)
            have R8 := hideG (show W8.heap[wr.heap.size]? = some (.cells #[.int .i64 5, .int .i64 id, .slice none 0 0] 40 (0, 0)) by rw [hW8]; exact heap_alloc_new wr _)
            have HW8 := hideG hW8
            go_upto_region 20 with fail
            rw [← HW8.out]
            clear x0 x1 x2 z0' z1 z2 y2 y4 y8 hW8
            rw [← hw7] at B8 R8 R6 HB6 HB hgl hsz ⊢
            clear hw7 HW8 HR
            go_wp2_with fail
            go_loopw [18] (fun i wr => ∃ u : Nat, u ≤ t ∧ i = .int .i64 u ∧ (∃ vv, wr.heap[w7.heap.size]? = some (.cells #[.int .i64 5, .int .i64 id, vv] 40 (0, 0)) ∧ wr.ownsRow (w7.heap.size + 1) 142 4 vv u (flat4 (ML.take u))) ∧ Below w7.heap.size w7 wr) (fun i _ => t - (intOf i).toNat)
            case atStart => exact ⟨0, Nat.zero_le _, rfl, ⟨_, R8.out, World.ownsRow_nil _ _ _ _⟩, B8.out⟩
            case round =>
              clear R8 B8
              obtain ⟨u, hu, rfl, ⟨vv, hrow, hown⟩, hbel⟩ := hrel
              have HR := hideG hrow
              have HO := hideG hown
              have HBW := hideG hbel
              have hsz' := hbel.size
              have hgf : w7.heap.size < wr.heap.size := by
                by_cases hb : w7.heap.size < wr.heap.size
                · exact hb
                · rw [Array.getElem?_eq_none (by omega)] at hrow; cases hrow
              obtain ⟨av, cv, hvv⟩ := owns_form hown
              subst hvv
              clear hrow hown hbel
              have HBR := hideG (HB.out.trans (HBW.out.mono (by omega)))
              obtain ⟨y2, y4, y8⟩ := HN.out wr HBR.out
              have hblr' : b < wr.heap.size := by omega
              by_cases hlu : u < t
              · have RR := R6.out.block (HBW.out.block W0.heap.size hgl)
                have c0 := RR.cell u hlu
                obtain ⟨p1, p2⟩ := HBD2.out u hlu
                have MSU := hideG (HMS.out u hlu)
                have hgl' : W0.heap.size < wr.heap.size := by omega
                clear RR
                obtain ⟨A, hA⟩ : ∃ A, A = Cli.maskSum s.c lk lb u := ⟨_, rfl⟩
                rw [← hA] at c0 p1 p2 MSU
                clear hA
                go_wp2_with fail
                refine (rmodulo_calls A wr (by omega) (by omega)).mono ?_
                rintro e w9 ⟨rfl, hw9⟩
                rw [hw9]
                clear hw9
                obtain ⟨Z, hZ⟩ : ∃ Z, Z = A % 4294967296 := ⟨_, rfl⟩
                rw [← hZ] at MSU ⊢
                clear hZ
                obtain ⟨r0, r1, r2, r3⟩ := row3 HR.out
                have al : ∀ (ob : Obj) (o : Nat), (wr.alloc ob).cell? ⟨w7.heap.size, o, none⟩ = wr.cell? ⟨w7.heap.size, o, none⟩ := fun ob o => ((Below.refl wr.heap.size wr).alloc (Nat.le_refl _) ob).cell (p := ⟨w7.heap.size, o, none⟩) hgf
                go_wp2_with (at_builtin; refine wpList_append_own _ rfl _ _ 38 rfl (w7.heap.size + 1) 142 i1 (.agg #[.int .i64 0, .int .i64 0, .int .i64 0, .int .i64 0]) 4 32 Tryz.underlying38 hi1 hy0 hy1 hy2 rfl (by decide) _ _ _ rfl (HO.out.alloc _) ⟨wr.heap.size, 0, none⟩ 1 1 [.int .i64 ((u : Int) + 1), .int .i64 Z, .int .i64 0, .int .i64 0] rfl rfl ?c1 ?c2 ?c3 ?c4 ?c5 ?_)
                case c1 => exact cell_four_new _ _ _ _ _ _
                case c2 => intro u hu; simp at hu; rcases hu with rfl | rfl | rfl | rfl <;> rfl
                case c3 => unfold maxLen; omega
                case c4 => omega
                case c5 => simp; omega
                intro v' w6 hown' hgrow' _
                obtain ⟨a6, c6, hv6⟩ := owns_form hown'
                subst hv6
                have hb6 := ((Below.refl (w7.heap.size + 1) wr).alloc (by omega) (.cells #[.int .i64 ((u : Int) + 1), .int .i64 Z, .int .i64 0, .int .i64 0] 142)).grown hgrow' (by simp; omega) (fun y hy => (HO.out.lt y hy).1)
                have s6 := hb6.size
                have RW6 := hideG ((hb6.block w7.heap.size (by omega)).trans HR.out)
                obtain ⟨t0, t1, t2, t3⟩ := row3 RW6.out
                have R7 := hideG (heap_setCell_same w6 w7.heap.size 2 _ _ (.slice a6 (u + 1) c6) RW6.out)
                obtain ⟨W9, hW9⟩ : ∃ W9, W9 = w6.setCell ⟨w7.heap.size, 2, none⟩ (.slice a6 (u + 1) c6) := ⟨_, rfl⟩
                have hc9 : Chg (fun x => x = w7.heap.size) w6 W9 := by rw [hW9]; exact Chg.setCell w6 ⟨w7.heap.size, 2, none⟩ _
                rw [← hW9] at R7
                have O7 := hideG (ownsRow_chg hown' hc9 (fun y hy => by have := hown'.lt y hy; omega))
                have B7 := hideG (show Below w7.heap.size w7 W9 by rw [hW9]; exact (HBW.out.trans (hb6.mono (by omega))).setCell (p := ⟨w7.heap.size, 2, none⟩) (Nat.le_refl _) _)
                have HW9 := hideG hW9
                clear hown' hgrow' hb6 hc9 hW9 r0 r1 r2 r3
                go_wp2_with fail
                rw [← HW9.out]
                go_roundw
                case rel => exact ⟨u + 1, by omega, by go_num, ⟨_, R7.out, by rw [MSU.out, flat4_append]; exact O7.out⟩, B7.out⟩
                case measure => simp [intOf]; omega
              · have eu : u = t := by omega
                subst eu
                obtain ⟨r0, r1, r2, r3⟩ := row3 HR.out
                have hMA := HMA.out
                have hLn := HML.out u (Nat.le_refl _)
                rw [hMA] at hLn
                have ITS := hideG (show ItemsAt wr (.slice av u cv) ML from itemsAt_of_owns (B := w7.heap.size + 1) (by rw [hLn]; have := HO.out; rw [hMA] at this; exact this) (okF_in HOK.out))
                go_wp2_with fail
                refine (HEN.out wr _ ITS.out).mono ?_
                rintro e w9 ⟨va, rfl, hoa, hb9⟩
                obtain ⟨a3, c3, hva⟩ := owns_form hoa
                have s67 := HB6.out.size
                have OA := hideG (ownsRow_base hoa (show w.heap.size ≤ wr.heap.size by omega))
                have BF := hideG ((HB6.out.trans (HBW.out.mono (by omega))).trans (hb9.mono (by omega)))
                subst hva
                clear hoa hb9
                go_wp2_with fail
                go_ret
                exact ⟨_, rfl, OA.out, BF.out⟩

end Go.Proofs.YtchideljndagjaaGreat

namespace Go.Proofs.YtchideljndagjaaGreat
open Go.ChangeShapes Go.WideShapes Go.ChangeAt Go.RowKit
set_option linter.unusedVariables false

/-- Nothing, or the bytes of a frame in a new block. -/
def RAns (w w' : World) (va : Value) : Option Cli.Fr → Prop
  | none => va = .slice none 0 0
  | some f => w'.ownsRow w.heap.size 5 1 va (Frm.encF f.1 f.2.1 f.2.2).length ((Frm.encF f.1 f.2.1 f.2.2).map (Value.int .u8))

theorem afterK_kind {kd : Int} {h : List Cli.Fr} {f : Cli.Fr} {t : List Cli.Fr} (e : Cli.afterK kd h = some (f, t)) : f.1 = kd := by
  induction h with
  | nil => cases e
  | cons g h ih =>
    unfold Cli.afterK at e
    by_cases q : g.1 = kd
    · rw [if_pos q] at e; cases e; exact q
    · rw [if_neg q] at e; exact ih e

section
variable {c : Cli.Cl} {h t t2 t3 : List Cli.Fr} {k b a : Cli.Fr}
theorem lk_none (e : Cli.afterK 2 h = none) : Cli.lk c h = (1, [], [], []) := by unfold Cli.lk; rw [e]
theorem lk_no (e : Cli.afterK 2 h = some (k, t)) (q : Cli.keysAgree c k.2.2 = false) : Cli.lk c h = (0, k.2.2, [], []) := by unfold Cli.lk; rw [e]; simp [q]
theorem lk_yes (e : Cli.afterK 2 h = some (k, t)) (q : Cli.keysAgree c k.2.2 = true) : Cli.lk c h = Cli.lk2 c k.2.2 t := by unfold Cli.lk; rw [e]; simp [q]
theorem lk2_none (kk : List Frm.It) (e : Cli.afterK 4 t = none) : Cli.lk2 c kk t = (2, kk, [], []) := by unfold Cli.lk2; rw [e]
theorem lk2_no (kk : List Frm.It) (e : Cli.afterK 4 t = some (b, t2)) (q : Cli.boxAgree c kk b.2.2 = false) : Cli.lk2 c kk t = (0, kk, b.2.2, []) := by unfold Cli.lk2; rw [e]; simp [q]
theorem lk2_yes (kk : List Frm.It) (e : Cli.afterK 4 t = some (b, t2)) (q : Cli.boxAgree c kk b.2.2 = true) : Cli.lk2 c kk t = Cli.lk3 c kk b.2.2 t2 := by unfold Cli.lk2; rw [e]; simp [q]
theorem lk3_none (kk bb : List Frm.It) (e : Cli.afterK 6 t = none) : Cli.lk3 c kk bb t = (3, kk, bb, []) := by unfold Cli.lk3; rw [e]
theorem lk3_no (kk bb : List Frm.It) (e : Cli.afterK 6 t = some (a, t3)) (q : Cli.askAgree c bb a.2.2 = false) : Cli.lk3 c kk bb t = (0, kk, bb, a.2.2) := by unfold Cli.lk3; rw [e]; simp [q]
theorem lk3_yes (kk bb : List Frm.It) (e : Cli.afterK 6 t = some (a, t3)) (q : Cli.askAgree c bb a.2.2 = true) : Cli.lk3 c kk bb t = (4, kk, bb, a.2.2) := by unfold Cli.lk3; rw [e]; simp [q]
end

theorem ret_phase {p q : Int} (v : Value) (h : q = p) : Ending.returned (.tuple #[.int .i64 p, v]) = .returned (.tuple #[.int .i64 q, v]) := by rw [h]

theorem rfirst_next (b : Nat) (s : RS) (h : List Cli.Fr) (kd : Int) (i : Nat) (w : World) (hr : RAt w b s) (hf : FramesAt w s.hv h) (hfm : i < h.length) :
    Calls Tryz.prog 170 #[.pointer (some ⟨b, 0, none⟩), .int .i64 kd, .int .i64 ((i : Int) + 1)] w fun e w' =>
      ((e = .returned (.int .i64 (-1)) ∧ Cli.afterK kd (h.drop (i + 1)) = none) ∨ ∃ j : Nat, e = .returned (.int .i64 j) ∧ j < h.length ∧ Cli.afterK kd (h.drop (i + 1)) = some (frH h j, h.drop (j + 1))) ∧ w' = w := by
  have := rfirst_calls b s h kd (i + 1) w hr hf hfm
  rw [show (((i + 1 : Nat)) : Int) = (i : Int) + 1 by omega] at this
  refine this.mono ?_
  rintro e w' ⟨h1 | ⟨j, h1, _, h2, h3⟩, h4⟩
  · exact ⟨.inl h1, h4⟩
  · exact ⟨.inr ⟨j, h1, h2, h3⟩, h4⟩

set_option maxHeartbeats 2000000 in
set_option maxRecDepth 100000 in
theorem rlook_calls (b : Nat) (s : RS) (hh : List Cli.Fr) (w : World) (h : RAt w b s) (hf : FramesAt w s.hv hh) (hi : ListAt w s.vi s.c.inp) (hm : ListAt w s.vm s.c.sm) (hs : ListAt w s.vs s.c.ss) (hc : Cli.Good s.c)
    (hok : ∀ f ∈ hh, Frm.okF f.1 f.2.1 f.2.2 = true) :
    Calls Tryz.prog 112 #[.pointer (some ⟨b, 0, none⟩)] w fun e w' => ∃ va, e = .returned (.tuple #[.int .i64 (Cli.lk s.c hh).1, va]) ∧ RAns w w' va (Cli.answer s.c (Cli.lk s.c hh)) ∧ Below w.heap.size w w' := by
  have hbl := h.lt
  have HOK := hideG (show ∀ j kd, j < hh.length → (frH hh j).1 = kd → Frm.okF kd (frH hh j).2.1 (frH hh j).2.2 = true from fun j kd hj e => by rw [← e]; exact hok _ (by rw [frH_get hh j hj]; exact List.getElem_mem hj))
  have HR := hideG (fun (W : World) (hb : Below w.heap.size w W) => h.below hb)
  have HF0 := hideG (rfirst_calls b s hh 2 0 w h hf (Nat.zero_le _))
  have HFN := hideG (fun (W : World) (hb : Below w.heap.size w W) (kd : Int) (i : Nat) (hi : i < hh.length) => rfirst_next b s hh kd i W (h.below hb) (hf.below hb) hi)
  have HLI := hideG (fun (W : World) (hb : Below w.heap.size w W) => (show ListAt W s.vi s.c.inp ∧ ListAt W s.vm s.c.sm ∧ ListAt W s.vs s.c.ss from ⟨hi.below hb, hm.below hb, hs.below hb⟩))
  obtain ⟨a, cap, hv, c2, c3, hcl⟩ := hf
  have HV := hideG (show ∀ (W : World), Below w.heap.size w W → W.cell? ⟨b, 11, none⟩ = some (.slice a hh.length cap) from fun W hb => by
    obtain ⟨_, _, _, x, _⟩ := (h.below hb).vals
    rw [hv] at x; exact x)
  have HC := hideG (show ∀ j, j < hh.length → ∃ b' off vj, a = some ⟨b', off, none⟩ ∧ b' < w.heap.size ∧ ∀ W, Below w.heap.size w W → W.cell? ⟨b', off + j * 3, none⟩ = some (.int .i64 (frH hh j).1) ∧ W.cell? ⟨b', off + j * 3 + 1, none⟩ = some (.int .i64 (frH hh j).2.1) ∧ W.cell? ⟨b', off + j * 3 + 2, none⟩ = some vj ∧ ItemsAt W vj (frH hh j).2.2 from fun j hj => by
    obtain ⟨b', off, vj, e1, e2, e3, e4, e5, e6⟩ := hcl j hj
    exact ⟨b', off, vj, e1, e2, fun W hb => ⟨(hb.cell (p := ⟨b', off + j * 3, none⟩) e2).trans e3, (hb.cell (p := ⟨b', off + j * 3 + 1, none⟩) e2).trans e4, (hb.cell (p := ⟨b', off + j * 3 + 2, none⟩) e2).trans e5, e6.below hb⟩⟩)
  have HGC := hideG hc
  obtain ⟨L, hL⟩ : ∃ L, L = Cli.lk s.c hh := ⟨_, rfl⟩
  have HL := hideG hL
  rw [← hL]
  obtain ⟨n, hn⟩ : ∃ n, n = hh.length := ⟨_, rfl⟩
  rw [← hn] at HOK HF0 HFN HV HC c2
  clear hL hn hv hcl h hi hm hs hc hok
  rw [List.drop_zero] at HF0
  go_enter Tryz.func112, Tryz.ntmps112
  go_wp2_with fail
  refine HF0.out.mono ?_
  rintro e w1 ⟨hcase, rfl⟩
  rcases hcase with ⟨rfl, hno⟩ | ⟨i, rfl, _, hi, hsome⟩
  · have HX := hideG (show L = (1, [], [], []) by rw [HL.out]; exact lk_none hno)
    clear hno
    go_wp2_with fail
    go_ret2
    exact ⟨_, ret_phase _ (by rw [HX.out]), by rw [HX.out]; rfl, Below.refl _ _⟩
  obtain ⟨b', off, vk, rfl, hb', hcc⟩ := HC.out i hi
  obtain ⟨d0, d1, d2, dI⟩ := hcc w1 (Below.refl _ _)
  obtain ⟨ak, ck, hvk, _⟩ := items_view dI
  obtain ⟨nk, hnk⟩ : ∃ x, x = (frH hh i).2.2.length := ⟨_, rfl⟩
  rw [← hnk] at hvk
  subst hvk
  clear hnk
  have HKI := hideG (fun (W : World) (hb : Below w1.heap.size w1 W) => dI.below hb)
  have hkd := afterK_kind hsome
  have OK1 := hideG (HOK.out i 2 hi hkd)
  have y11 := HV.out w1 (Below.refl _ _)
  rw [hkd] at d0
  have HSO := hideG hsome
  obtain ⟨fk, hfk⟩ : ∃ x, x = (frH hh i).2.1 := ⟨_, rfl⟩
  obtain ⟨lk, hlk⟩ : ∃ x, x = (frH hh i).2.2 := ⟨_, rfl⟩
  rw [← hfk] at d1 OK1
  rw [← hlk] at HKI OK1
  have HLK := hideG hlk
  clear hcc dI hkd hsome hfk hlk
  obtain ⟨W1, hW1⟩ : ∃ W1, W1 = w1.alloc (.cells #[.int .i64 2, .int .i64 fk, (.slice ak nk ck)] 40) := ⟨_, rfl⟩
  have BW1 := hideG (show Below w1.heap.size w1 W1 by rw [hW1]; exact (Below.refl _ _).alloc (Nat.le_refl _) _)
  have FK := hideG (show ∀ W, Below W1.heap.size W1 W → FrAt W w1.heap.size 2 fk (.slice ak nk ck) from fun W hb => (show FrAt W1 w1.heap.size 2 fk (.slice ak nk ck) by rw [hW1]; exact FrAt.new w1 2 fk (.slice ak nk ck)).below hb (by rw [hW1]; simp))
  have sW1 : W1.heap.size = w1.heap.size + 1 := by rw [hW1]; simp
  have HW1 := hideG hW1
  clear hW1
  go_upto_region 5 with fail
  rw [← HW1.out]
  clear d0 d1 d2 y11
  obtain ⟨x0, x1, x2⟩ := FK.out W1 (Below.refl _ _)
  have HKA := hideG (rkeysAgree_calls b s 2 fk (.slice ak nk ck) lk W1 (HR.out W1 BW1.out) (HKI.out W1 BW1.out) HGC.out)
  obtain ⟨ka, hka⟩ : ∃ x, x = Cli.keysAgree s.c lk := ⟨_, rfl⟩
  rw [← hka] at HKA
  have HKK := hideG hka
  clear hka
  go_wp2_with fail
  refine HKA.out.mono ?_
  rintro e w2 ⟨rfl, hb2⟩
  have s2 := hb2.size
  have BW2 := hideG (BW1.out.trans (hb2.mono (by omega)))
  have B12 := hideG hb2
  clear hb2 x0 x1 x2 HKA
  cases ka
  · have HX := hideG (show L = (0, lk, [], []) by rw [HL.out, HLK.out]; exact lk_no HSO.out (by rw [← HLK.out, ← HKK.out]))
    go_wp2_with fail
    go_ret2
    exact ⟨_, ret_phase _ (by rw [HX.out]), by rw [HX.out]; rfl, BW2.out⟩
  have HL2 := hideG (show L = Cli.lk2 s.c lk (hh.drop (i + 1)) by rw [HL.out, HLK.out]; exact lk_yes HSO.out (by rw [← HLK.out, ← HKK.out]))
  have FN4 := hideG (HFN.out w2 BW2.out 4 i hi)
  go_wp2_with fail
  refine FN4.out.mono ?_
  rintro e w3 ⟨hcase, rfl⟩
  rcases hcase with ⟨rfl, hno⟩ | ⟨j, rfl, hj, hsome⟩
  · have HX := hideG (show L = (2, lk, [], []) by rw [HL2.out]; exact lk2_none lk hno)
    clear hno
    obtain ⟨x0, x1, x2⟩ := FK.out w3 B12.out
    obtain ⟨_, lm, ls⟩ := HLI.out w3 BW2.out
    have HSH := hideG (rsharing_calls b s 2 fk (.slice ak nk ck) lk w3 (HR.out w3 BW2.out) (HKI.out w3 BW2.out) lm ls HGC.out (Frm.okF_parts OK1.out).2.2.1 (okF_keys OK1.out))
    clear lm ls
    go_wp2_with fail
    refine HSH.out.mono ?_
    rintro e w4 ⟨va, rfl, hoa, hb4⟩
    obtain ⟨a3, c3', hva⟩ := owns_form hoa
    have OA := hideG (ownsRow_base hoa (show w1.heap.size ≤ w3.heap.size by omega))
    have BF := hideG (BW2.out.trans (hb4.mono (by omega)))
    subst hva
    clear hoa hb4
    go_wp2_with fail
    go_ret2
    exact ⟨_, ret_phase _ (by rw [HX.out]), by rw [HX.out]; exact OA.out, BF.out⟩
  obtain ⟨b2, off2, vb, ha2, hb2', hcc⟩ := HC.out j hj
  obtain ⟨e0, e1, e2, eI⟩ := hcc w3 BW2.out
  obtain ⟨ab, cb, hvb, _⟩ := items_view eI
  obtain ⟨nb, hnb⟩ : ∃ x, x = (frH hh j).2.2.length := ⟨_, rfl⟩
  rw [← hnb] at hvb
  subst hvb
  clear hnb
  have HBI := hideG (fun (W : World) (hb : Below w1.heap.size w1 W) => (hcc W hb).2.2.2)
  have hkd := afterK_kind hsome
  have OK2 := hideG (HOK.out j 4 hj hkd)
  have y11 := HV.out w3 BW2.out
  rw [hkd] at e0
  have HSO2 := hideG hsome
  obtain ⟨fb, hfb⟩ : ∃ x, x = (frH hh j).2.1 := ⟨_, rfl⟩
  obtain ⟨lb, hlb⟩ : ∃ x, x = (frH hh j).2.2 := ⟨_, rfl⟩
  rw [← hfb] at e1 OK2
  rw [← hlb] at HBI OK2
  have HLB := hideG hlb
  cases ha2
  clear hcc eI hkd hsome hfb hlb
  obtain ⟨W3, hW3⟩ : ∃ W3, W3 = w3.alloc (.cells #[.int .i64 4, .int .i64 fb, (.slice ab nb cb)] 40) := ⟨_, rfl⟩
  have hb33 : Below w3.heap.size w3 W3 := by rw [hW3]; exact (Below.refl _ _).alloc (Nat.le_refl _) _
  have BW3 := hideG (BW2.out.trans (hb33.mono (by omega)))
  have B13 := hideG (B12.out.trans (hb33.mono (by omega)))
  have FB := hideG (show ∀ W, Below W3.heap.size W3 W → FrAt W w3.heap.size 4 fb (.slice ab nb cb) from fun W hb => (show FrAt W3 w3.heap.size 4 fb (.slice ab nb cb) by rw [hW3]; exact FrAt.new w3 4 fb (.slice ab nb cb)).below hb (by rw [hW3]; simp))
  have sW3 : W3.heap.size = w3.heap.size + 1 := by rw [hW3]; simp
  have HW3 := hideG hW3
  clear hW3 hb33
  go_upto_region 12 with fail
  rw [← HW3.out]
  clear e0 e1 e2 y11
  obtain ⟨x0, x1, x2⟩ := FK.out W3 B13.out
  obtain ⟨z0, z1, z2⟩ := FB.out W3 (Below.refl _ _)
  have HBA := hideG (rboxAgrees_calls b s 2 fk 4 fb (.slice ak nk ck) (.slice ab nb cb) lk lb W3 (HR.out W3 BW3.out) (HKI.out W3 BW3.out) (HBI.out W3 BW3.out) HGC.out (Frm.okF_parts OK1.out).2.2.1 (Frm.okF_parts OK2.out).2.2.1 (okF_keys OK1.out) (okF_box OK2.out))
  obtain ⟨ba, hba⟩ : ∃ x, x = Cli.boxAgree s.c lk lb := ⟨_, rfl⟩
  rw [← hba] at HBA
  have HBB := hideG hba
  clear hba
  go_wp2_with fail
  refine HBA.out.mono ?_
  rintro e w4 ⟨rfl, hb4⟩
  have s4 := hb4.size
  have BW4 := hideG (BW3.out.trans (hb4.mono (by omega)))
  have B14 := hideG (B13.out.trans (hb4.mono (by omega)))
  have B34 := hideG hb4
  clear hb4 x0 x1 x2 z0 z1 z2 HBA
  cases ba
  · have HX := hideG (show L = (0, lk, lb, []) by rw [HL2.out, HLB.out]; exact lk2_no lk HSO2.out (by rw [← HLB.out, ← HBB.out]))
    go_wp2_with fail
    go_ret2
    exact ⟨_, ret_phase _ (by rw [HX.out]), by rw [HX.out]; rfl, BW4.out⟩
  have HL3 := hideG (show L = Cli.lk3 s.c lk lb (hh.drop (j + 1)) by rw [HL2.out, HLB.out]; exact lk2_yes lk HSO2.out (by rw [← HLB.out, ← HBB.out]))
  have FN6 := hideG (HFN.out w4 BW4.out 6 j hj)
  go_wp2_with fail
  refine FN6.out.mono ?_
  rintro e w5 ⟨hcase, rfl⟩
  rcases hcase with ⟨rfl, hno⟩ | ⟨l, rfl, hl, hsome⟩
  · have HX := hideG (show L = (3, lk, lb, []) by rw [HL3.out]; exact lk3_none lk lb hno)
    clear hno
    obtain ⟨x0, x1, x2⟩ := FK.out w5 B14.out
    obtain ⟨z0, z1, z2⟩ := FB.out w5 B34.out
    obtain ⟨li, _, _⟩ := HLI.out w5 BW4.out
    have HMA := hideG (rmasking_calls b s 2 fk 4 fb (.slice ak nk ck) (.slice ab nb cb) lk lb w5 (HR.out w5 BW4.out) (HKI.out w5 BW4.out) (HBI.out w5 BW4.out) li HGC.out (Frm.okF_parts OK2.out).2.2.1 (okF_keys OK1.out))
    clear li
    go_wp2_with fail
    refine HMA.out.mono ?_
    rintro e w6 ⟨va, rfl, hoa, hb6⟩
    obtain ⟨a3, c3', hva⟩ := owns_form hoa
    have OA := hideG (ownsRow_base hoa (show w1.heap.size ≤ w5.heap.size by omega))
    have BF := hideG (BW4.out.trans (hb6.mono (by omega)))
    subst hva
    clear hoa hb6
    go_wp2_with fail
    go_ret2
    exact ⟨_, ret_phase _ (by rw [HX.out]), by rw [HX.out]; exact OA.out, BF.out⟩
  obtain ⟨b3, off3, vq, ha3, hb3', hcc⟩ := HC.out l hl
  obtain ⟨e0, e1, e2, eI⟩ := hcc w5 BW4.out
  obtain ⟨aq, cq, hvq, _⟩ := items_view eI
  obtain ⟨nqq, hnq⟩ : ∃ x, x = (frH hh l).2.2.length := ⟨_, rfl⟩
  rw [← hnq] at hvq
  subst hvq
  clear hnq
  have HAI := hideG (fun (W : World) (hb : Below w1.heap.size w1 W) => (hcc W hb).2.2.2)
  have hkd := afterK_kind hsome
  have OK3 := hideG (HOK.out l 6 hl hkd)
  have y11 := HV.out w5 BW4.out
  rw [hkd] at e0
  have HSO3 := hideG hsome
  obtain ⟨fa, hfa⟩ : ∃ x, x = (frH hh l).2.1 := ⟨_, rfl⟩
  obtain ⟨la, hla⟩ : ∃ x, x = (frH hh l).2.2 := ⟨_, rfl⟩
  rw [← hfa] at e1 OK3
  rw [← hla] at HAI OK3
  have HLA := hideG hla
  cases ha3
  clear hcc eI hkd hsome hfa hla
  obtain ⟨W5, hW5⟩ : ∃ W5, W5 = w5.alloc (.cells #[.int .i64 6, .int .i64 fa, (.slice aq nqq cq)] 40) := ⟨_, rfl⟩
  have hb55 : Below w5.heap.size w5 W5 := by rw [hW5]; exact (Below.refl _ _).alloc (Nat.le_refl _) _
  have BW5 := hideG (BW4.out.trans (hb55.mono (by omega)))
  have B15 := hideG (B14.out.trans (hb55.mono (by omega)))
  have B35 := hideG (B34.out.trans (hb55.mono (by omega)))
  have FA := hideG (show ∀ W, Below W5.heap.size W5 W → FrAt W w5.heap.size 6 fa (.slice aq nqq cq) from fun W hb => (show FrAt W5 w5.heap.size 6 fa (.slice aq nqq cq) by rw [hW5]; exact FrAt.new w5 6 fa (.slice aq nqq cq)).below hb (by rw [hW5]; simp))
  have sW5 : W5.heap.size = w5.heap.size + 1 := by rw [hW5]; simp
  have HW5 := hideG hW5
  clear hW5 hb55
  go_upto_region 19 with fail
  rw [← HW5.out]
  clear e0 e1 e2 y11
  obtain ⟨z0, z1, z2⟩ := FB.out W5 B35.out
  obtain ⟨u0, u1, u2⟩ := FA.out W5 (Below.refl _ _)
  have HAA := hideG (raskAgrees_calls b s 4 fb 6 fa (.slice ab nb cb) (.slice aq nqq cq) lb la W5 (HR.out W5 BW5.out) (HBI.out W5 BW5.out) (HAI.out W5 BW5.out) HGC.out (Frm.okF_parts OK2.out).2.2.1 (Frm.okF_parts OK3.out).2.2.1)
  obtain ⟨aa, haa⟩ : ∃ x, x = Cli.askAgree s.c lb la := ⟨_, rfl⟩
  rw [← haa] at HAA
  have HAB := hideG haa
  clear haa
  go_wp2_with fail
  refine HAA.out.mono ?_
  rintro e w6 ⟨rfl, hb6⟩
  have s6 := hb6.size
  have BW6 := hideG (BW5.out.trans (hb6.mono (by omega)))
  have B16 := hideG (B15.out.trans (hb6.mono (by omega)))
  have B36 := hideG (B35.out.trans (hb6.mono (by omega)))
  have B56 := hideG hb6
  clear hb6 z0 z1 z2 u0 u1 u2 HAA
  cases aa
  · have HX := hideG (show L = (0, lk, lb, la) by rw [HL3.out, HLA.out]; exact lk3_no lk lb HSO3.out (by rw [← HLA.out, ← HAB.out]))
    go_wp2_with fail
    go_ret2
    exact ⟨_, ret_phase _ (by rw [HX.out]), by rw [HX.out]; rfl, BW6.out⟩
  have HX := hideG (show L = (4, lk, lb, la) by rw [HL3.out, HLA.out]; exact lk3_yes lk lb HSO3.out (by rw [← HLA.out, ← HAB.out]))
  obtain ⟨x0, x1, x2⟩ := FK.out w6 B16.out
  obtain ⟨z0, z1, z2⟩ := FB.out w6 B36.out
  obtain ⟨u0, u1, u2⟩ := FA.out w6 B56.out
  obtain ⟨_, lm, ls⟩ := HLI.out w6 BW6.out
  have HTE := hideG (rtelling_calls b s 2 fk 4 fb 6 fa (.slice ak nk ck) (.slice ab nb cb) (.slice aq nqq cq) lk lb la w6 (HR.out w6 BW6.out) (HKI.out w6 BW6.out) (HBI.out w6 BW6.out) (HAI.out w6 BW6.out) lm ls HGC.out (Frm.okF_parts OK2.out).2.2.1 (Frm.okF_parts OK3.out).2.2.1 (okF_keys OK1.out) (okF_box OK2.out) HBB.out.symm)
  clear lm ls
  go_wp2_with fail
  refine HTE.out.mono ?_
  rintro e w7 ⟨va, rfl, hoa, hb7⟩
  obtain ⟨a3, c3', hva⟩ := owns_form hoa
  have OA := hideG (ownsRow_base hoa (show w1.heap.size ≤ w6.heap.size by omega))
  have BF := hideG (BW6.out.trans (hb7.mono (by omega)))
  subst hva
  clear hoa hb7
  go_wp2_with fail
  go_ret2
  exact ⟨_, ret_phase _ (by rw [HX.out]), by rw [HX.out]; exact OA.out, BF.out⟩

end Go.Proofs.YtchideljndagjaaGreat
