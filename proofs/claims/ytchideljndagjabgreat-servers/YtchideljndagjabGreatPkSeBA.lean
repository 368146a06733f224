/- Contract of veilref's server: counted. -/
import Derived.Test.YtchideljndagjabGreatPkSeAZ
namespace Go.Proofs.YtchideljndagjabGreat
open Go.ChangeShapes Go.WideShapes Go.ChangeAt Go.RowKit
set_option linter.unusedVariables false

theorem items_formR {w : World} {v : Value} {l : List Frm.It} (h : ItemsAt w v l) : ∃ a n c, v = .slice a n c := by
  obtain ⟨a, cap, e, _⟩ := h; exact ⟨a, _, cap, e⟩
/-- What the walk keeps of the world. -/
structure CInv (w wr : World) (H : Nat → RF) : Prop where
  res : FRow wr w.heap.size 238 156 (cellF fun _ => RF.z)
  tab : FRow wr (w.heap.size + 1) 238 156 (cellF H)
  bel : Below w.heap.size w wr
theorem CInv.grow {w wr wr' : World} {H : Nat → RF} (h : CInv w wr H) (hb : Below wr.heap.size wr wr') : CInv w wr' H :=
  ⟨h.res.block (hb.block _ h.res.lt), h.tab.block (hb.block _ h.tab.lt), h.bel.trans (hb.mono h.bel.size)⟩

theorem FRow.set3H {w : World} {g : Nat} {T : TypeId} {H : Nat → RF} (h : FRow w g T 156 (cellF H)) (t o : Nat) (ho : o = t * 3) (ht : t < 52) (x : RF) : FRow (((w.setCell ⟨g, o, none⟩ (.int .i64 x.1)).setCell ⟨g, o + 1, none⟩ (.int .i64 x.2.1)).setCell ⟨g, o + 2, none⟩ x.2.2) g T 156 (cellF (updH H t x)) := by
  subst ho
  refine FRow.ext (((h.set (t * 3) (by omega) _).set (t * 3 + 1) (by omega) _).set (t * 3 + 2) (by omega) _) (fun j hj => ?_)
  rw [cellF_upd]
  by_cases e : j / 3 = t
  · rw [if_pos e]
    have hm : j % 3 = 0 ∨ j % 3 = 1 ∨ j % 3 = 2 := by omega
    rcases hm with hm | hm | hm
    · rw [if_neg (by omega), if_neg (by omega), if_pos (by omega), hm]; rfl
    · rw [if_neg (by omega), if_pos (by omega), hm]; rfl
    · rw [if_pos (by omega), hm]; rfl
  · rw [if_neg e, if_neg (by omega), if_neg (by omega), if_neg (by omega)]
theorem CInv.range {w wr : World} {H : Nat → RF} (h : CInv w wr H) (r o : Nat) (ho : o = r * 39) (hr : r < 4) : wr.rangeAt (w.heap.size + 1) o (roundL (rowR H r)) := by
  subst ho
  have := h.tab.range (r * 39) 39 (by omega)
  rwa [row_round] at this
theorem CInv.kind {w wr : World} {H : Nat → RF} (h : CInv w wr H) (r u : Nat) (hr : r < 4) (hu : u < 13) : wr.cell? ⟨w.heap.size + 1, r * 39 + u * 3, none⟩ = some (.int .i64 (H (r * 13 + u)).1) := by
  rw [h.tab.cell _ (by omega), show r * 39 + u * 3 = (r * 13 + u) * 3 by omega, cellF_0]

theorem tab_one {w : World} {H : Nat → RF} {G : Srv.Tab} (h : HTab w H G) : ∀ v ∈ tabL H, v.oneCell' = true := by
  intro v hv
  unfold tabL at hv
  obtain ⟨t, ht, rfl⟩ := List.mem_map.1 hv
  have ht' := List.mem_range.1 ht
  have hx : ((H (t / 3)).2.2).oneCell' = true := by
    have e : t / 3 = t / 3 / 13 * 13 + t / 3 % 13 := by omega
    have := h (t / 3 / 13) (t / 3 % 13) (by omega) (by omega)
    rw [← e] at this
    cases q : G (t / 3 / 13) (t / 3 % 13) with
    | none => rw [this.1 q]; rfl
    | some l =>
      obtain ⟨x, e1, e2⟩ := this.2 l q
      obtain ⟨a, n, c, e3⟩ := items_formR e2
      rw [e1, e3]; rfl
  unfold cellF pick3
  split
  · rfl
  · rfl
  · exact hx

set_option maxHeartbeats 8000000 in
set_option maxRecDepth 100000 in
theorem rcounted_calls (b : Nat) (C : Srv.Cf) (hc : Srv.GoodC C) (L : Srv.Log) (X : List Value) (vl : Value) (w : World) (h0 : w.cell? ⟨b, 0, none⟩ = some (.int .i64 C.N)) (h2 : w.cell? ⟨b, 2, none⟩ = some (.int .i64 C.M)) (h3 : w.cell? ⟨b, 3, none⟩ = some (.int .i64 C.D)) (h5 : w.cell? ⟨b, 5, none⟩ = some vl) (hbl : b < w.heap.size)
    (hL : LgAt w vl L X) (hok : ∀ e ∈ L, Frm.okF e.2.1 e.2.2.1 e.2.2.2 = true) (hat : ∀ e ∈ L, 0 ≤ e.1 ∧ e.1 ≤ 200) :
    Calls Tryz.prog 179 #[.pointer (some ⟨b, 0, none⟩)] w fun e w' => ∃ H, e = .returned (.agg (tabL H).toArray) ∧ HTab w H (Srv.tab C L) ∧ Below w.heap.size w w' := by
  obtain ⟨va, vc, rfl, hl2, hl3, hcl⟩ := hL
  have HC := hideG hcl
  have HKO := hideG hok
  have HAT := hideG hat
  have HZ := hideG (fun r hr j => stageN_z (C := C) hok r hr j)
  have HSS := hideG (fun r j hj => stageN_succ C L r j hj)
  have HSE := hideG (stageN_end C L)
  have HCB := hideG (fun (W : World) (hb : Below w.heap.size w W) => (show (W.cell? ⟨b, 0, none⟩ = some (.int .i64 C.N) ∧ W.cell? ⟨b, 2, none⟩ = some (.int .i64 C.M) ∧ W.cell? ⟨b, 3, none⟩ = some (.int .i64 C.D)) ∧ W.cell? ⟨b, 5, none⟩ = some (.slice va L.length vc) from
    ⟨⟨(hb.cell (p := ⟨b, 0, none⟩) hbl).trans h0, (hb.cell (p := ⟨b, 2, none⟩) hbl).trans h2, (hb.cell (p := ⟨b, 3, none⟩) hbl).trans h3⟩, (hb.cell (p := ⟨b, 5, none⟩) hbl).trans h5⟩))
  have hn := hc.n
  have hd := hc.d
  clear h0 h2 h3 h5 hcl hok hat
  obtain ⟨n, hnl⟩ : ∃ n, n = L.length := ⟨_, rfl⟩
  rw [← hnl] at HC HSS HSE HCB hl2
  have HN := hideG hnl
  clear hnl
  obtain ⟨W0, hW0⟩ : ∃ W0, W0 = (w.alloc (.cells Tryz.zeroCells238 238)).alloc (.cells Tryz.zeroCells238 238) := ⟨_, rfl⟩
  have I0 := hideG (show CInv w W0 (fun _ => RF.z) by
    rw [hW0, zero_tab]
    exact ⟨heap_alloc2_old w _ _, heap_alloc2_new w _ _, ((Below.refl _ _).alloc (Nat.le_refl _) _).alloc (by simp) _⟩)
  have HW0 := hideG hW0
  clear hW0
  go_enter Tryz.func179, Tryz.ntmps179
  go_wp2_with fail
  rw [← HW0.out]
  go_loopw [4] (fun i wr => ∃ (r : Nat) (H : Nat → RF), r ≤ 4 ∧ i = .int .i64 (r : Int) ∧ HTab w H (Srv.tabN C L r) ∧ CInv w wr H) (fun i _ => 4 - (intOf i).toNat)
  case atStart => exact ⟨0, _, by omega, rfl, htab_zero w, I0.out⟩
  case round =>
    obtain ⟨r, H0, hr, rfl, hht, hci⟩ := hrel
    have HHT := hideG hht
    have HCI := hideG hci
    clear hht hci
    by_cases hr4 : r < 4
    · have hr4' : (r : Int) < 4 := by omega
      have m1 : 0 ≤ (r : Int) * C.D := Int.mul_nonneg (by omega) (by omega)
      have m2 : (r : Int) * C.D ≤ 200 := by
        have : (r : Int) * C.D ≤ 4 * 50 := Int.mul_le_mul (by omega) (by omega) (by omega) (by omega)
        omega
      have m3 : 0 ≤ ((r : Int) + 1) * C.D := Int.mul_nonneg (by omega) (by omega)
      have m4 : ((r : Int) + 1) * C.D ≤ 200 := by
        have : ((r : Int) + 1) * C.D ≤ 4 * 50 := Int.mul_le_mul (by omega) (by omega) (by omega) (by omega)
        omega
      go_wp2_with fail
      go_loopw [5] (fun i wr => ∃ (j : Nat) (H : Nat → RF), j ≤ n ∧ i = .int .i64 (j : Int) ∧ HTab w H (stageN C L r j) ∧ CInv w wr H) (fun i _ => n - (intOf i).toNat)
      case atStart => exact ⟨0, H0, Nat.zero_le _, rfl, HHT.out, HCI.out⟩
      case round =>
        obtain ⟨j, H, hj, rfl, hht, hci⟩ := hrel
        have HHT := hideG hht
        have HCI := hideG hci
        obtain ⟨⟨c0, c2, c3⟩, c5⟩ := HCB.out _ hci.bel
        have hsz := hci.tab.lt
        clear hht hci
        by_cases hlt : j < n
        · have HST := hideG (HSS.out r j hlt)
          obtain ⟨b', off, hbe, hb', ⟨d0, d1, d2, d3⟩, hit⟩ := HC.out j hlt
          subst hbe
          have hme := lgE_mem (L := L) (i := j) (by rw [← HN.out]; exact hlt)
          have OK := hideG (HKO.out _ hme)
          have at0 := HAT.out _ hme
          clear hme
          have IT := hideG hit
          obtain ⟨ia, im, ic, hform⟩ := items_formR hit
          clear hit
          obtain ⟨at_, k, fr, l, he⟩ : ∃ at_ k fr l, lgE L j = (at_, (k, fr, l)) := ⟨_, _, _, _, rfl⟩
          rw [he] at d0 d1 d2 OK at0 IT HST
          rw [hform] at d3 IT
          clear he hform
          have ok : Frm.okF k fr l = true := OK.out
          obtain ⟨at1, at2⟩ := at0
          change 0 ≤ at_ at at1
          change at_ ≤ 200 at at2
          change w.cell? _ = some (.int .i64 at_) at d0
          change w.cell? _ = some (.int .i64 k) at d1
          change w.cell? _ = some (.int .i64 fr) at d2
          obtain ⟨u, hu⟩ : ∃ u : Nat, fr = (u : Int) := ⟨fr.toNat, by have := (Frm.okF_bounds ok).2.2.2.1; omega⟩
          subst hu
          have u13 : u < 13 := by have := (Frm.okF_bounds ok).2.2.2.2.1; omega
          have u13' : (u : Int) < 13 := by omega
          have HEN := hideG (fun (W : World) (hb : Below w.heap.size w W) => (show W.cell? ⟨b', off + j * 4, none⟩ = some (.int .i64 at_) ∧ W.cell? ⟨b', off + j * 4 + 1, none⟩ = some (.int .i64 k) ∧ W.cell? ⟨b', off + j * 4 + 2, none⟩ = some (.int .i64 (u : Int)) ∧ W.cell? ⟨b', off + j * 4 + 3, none⟩ = some (.slice ia im ic) from
            ⟨(hb.cell (p := ⟨b', off + j * 4, none⟩) hb').trans d0, (hb.cell (p := ⟨b', off + j * 4 + 1, none⟩) hb').trans d1, (hb.cell (p := ⟨b', off + j * 4 + 2, none⟩) hb').trans d2, (hb.cell (p := ⟨b', off + j * 4 + 3, none⟩) hb').trans d3⟩))
          clear d0 d1 d2 d3 OK
          have OK := hideG ok
          have IT' : Hid (ItemsAt w (.slice ia im ic) l) := IT
          have HST' : Hid (stageN C L r (j + 1) = Srv.addE C r (stageN C L r j) (at_, (k, (u : Int), l))) := HST
          clear ok IT HST
          obtain ⟨e0, e1, e2, e3⟩ := HEN.out _ HCI.out.bel
          obtain ⟨W1, hW1⟩ : ∃ W1, W1 = wr.alloc (.cells #[.int .i64 k, .int .i64 (u : Int), .slice ia im ic] 65) := ⟨_, rfl⟩
          have I1 := hideG (show CInv w W1 H by rw [hW1]; exact HCI.out.grow ((Below.refl _ _).alloc (Nat.le_refl _) _))
          have x0 : W1.cell? ⟨wr.heap.size, 0, none⟩ = some (.int .i64 k) := by rw [hW1]; simp
          have x1 : W1.cell? ⟨wr.heap.size, 1, none⟩ = some (.int .i64 (u : Int)) := by rw [hW1]; simp
          have x2 : W1.cell? ⟨wr.heap.size, 2, none⟩ = some (.slice ia im ic) := by rw [hW1]; simp
          have szW : wr.heap.size < W1.heap.size := by rw [hW1]; simp
          have HW1 := hideG hW1
          clear hW1
          go_upto_region 9 with fail
          rw [← HW1.out]
          clear c0 c2 c3 c5 e0 e1 e2 e3
          obtain ⟨⟨c0, c2, c3⟩, c5⟩ := HCB.out _ I1.out.bel
          obtain ⟨e0, e1, e2, e3⟩ := HEN.out _ I1.out.bel
          have hjn : (j : Int) < (n : Int) := by omega
          have ID := hideG (fun m => I1.out.grow (below_drewN W1 m))
          have E1 := hideG (fun (q : Srv.now C r at_ = false) => (show stageN C L r (j + 1) = stageN C L r j by rw [HST'.out]; unfold Srv.addE; rw [if_neg (by rw [q]; exact Bool.false_ne_true)]))
          have WC := hideG (fun (W : World) => rwants_calls r hr4 W)
          by_cases g1 : (r : Int) * C.D ≤ at_
          rotate_left
          · have g1' : decide ((r : Int) * C.D ≤ at_) = false := decide_eq_false g1
            have EQ := hideG (E1.out (by unfold Srv.now; exact decide_eq_false (fun q => g1 q.1)))
            go_quiet (fail)
            go_wp2_with fail
            refine (WC.out _).mono ?_
            rintro e w2 ⟨rfl, hw2⟩
            rw [hw2]
            clear hw2
            go_wp2_with fail
            go_quiet (fail)
            go_wp2_with fail
            go_roundw
            case rel => exact ⟨j + 1, H, by omega, by go_num, by rw [EQ.out]; exact HHT.out, ID.out _⟩
            case measure => simp [intOf]; omega
          have g1' : decide ((r : Int) * C.D ≤ at_) = true := decide_eq_true g1
          by_cases g2 : at_ < ((r : Int) + 1) * C.D
          rotate_left
          · have g2' : decide (at_ < ((r : Int) + 1) * C.D) = false := decide_eq_false g2
            have EQ := hideG (E1.out (by unfold Srv.now; exact decide_eq_false (fun q => g2 q.2)))
            go_quiet (fail)
            go_wp2_with fail
            refine (WC.out _).mono ?_
            rintro e w2 ⟨rfl, hw2⟩
            rw [hw2]
            clear hw2
            go_wp2_with fail
            go_quiet (fail)
            go_wp2_with fail
            go_roundw
            case rel => exact ⟨j + 1, H, by omega, by go_num, by rw [EQ.out]; exact HHT.out, ID.out _⟩
            case measure => simp [intOf]; omega
          have g2' : decide (at_ < ((r : Int) + 1) * C.D) = true := decide_eq_true g2
          have E2 := hideG (show stageN C L r (j + 1) = Srv.addF C r (stageN C L r j) (k, (u : Int), l) by rw [HST'.out]; unfold Srv.addE; rw [if_pos (by unfold Srv.now; exact decide_eq_true ⟨g1, g2⟩)])
          have E3 := hideG (fun (q : Srv.fits C (stageN C L r j) r (k, (u : Int), l) = false) => (show stageN C L r (j + 1) = stageN C L r j by rw [E2.out]; unfold Srv.addF; rw [if_neg (by rw [q]; exact Bool.false_ne_true)]))
          have FT := hideG (show Srv.fits C (stageN C L r j) r (k, (u : Int), l) = (decide (k = 2 * (r : Int) + 1) && (decide ((u : Int) ≤ C.N) && (!Srv.mem (stageN C L r j r) u && ((decide (r = 0) || Srv.mem (stageN C L r j (r - 1)) u) && Srv.shape C (stageN C L r j) r u l)))) by
            unfold Srv.fits
            show (decide (k = 2 * (r : Int) + 1) && (decide ((u : Int) ≤ C.N) && (!Srv.mem (stageN C L r j r) (u : Int).toNat && ((decide (r = 0) || Srv.mem (stageN C L r j (r - 1)) (u : Int).toNat) && Srv.shape C (stageN C L r j) r (u : Int).toNat l)))) = _
            rw [Int.toNat_natCast])
          have HE2 := hideG g1
          have HE3 := hideG g2
          clear g1 g2
          by_cases q1 : k = 2 * (r : Int) + 1
          rotate_left
          · have q1' : (k != 2 * (r : Int) + 1) = true := by simpa using q1
            have EQ := hideG (E3.out (by rw [FT.out, decide_eq_false q1]; rfl))
            clear q1
            go_quiet (fail)
            go_wp2_with fail
            refine (WC.out _).mono ?_
            rintro e w2 ⟨rfl, hw2⟩
            rw [hw2]
            clear hw2
            go_wp2_with fail
            go_quiet (fail)
            go_wp2_with fail
            go_roundw
            case rel => exact ⟨j + 1, H, by omega, by go_num, by rw [EQ.out]; exact HHT.out, ID.out _⟩
            case measure => simp [intOf]; omega
          have q1' : (k != 2 * (r : Int) + 1) = false := by simpa using q1
          have Q1 := hideG q1
          clear q1
          by_cases q2 : (u : Int) ≤ C.N
          rotate_left
          · have q2' : decide (C.N < (u : Int)) = true := decide_eq_true (by omega)
            have EQ := hideG (E3.out (by rw [FT.out, decide_eq_true Q1.out, decide_eq_false q2]; rfl))
            go_quiet (fail)
            go_wp2_with fail
            refine (WC.out _).mono ?_
            rintro e w2 ⟨rfl, hw2⟩
            rw [hw2]
            clear hw2
            go_wp2_with fail
            go_quiet (fail)
            go_wp2_with fail
            go_roundw
            case rel => exact ⟨j + 1, H, by omega, by go_num, by rw [EQ.out]; exact HHT.out, ID.out _⟩
            case measure => simp [intOf]; omega
          have q2' : decide (C.N < (u : Int)) = false := decide_eq_false (by omega)
          have kg := I1.out.kind r u hr4 u13
          have KM := hideG (HHT.out.kind hr4 u13)
          obtain ⟨x, hx⟩ : ∃ x, x = (H (r * 13 + u)).1 := ⟨_, rfl⟩
          rw [← hx] at kg KM
          clear hx
          by_cases q3 : x = 0
          rotate_left
          · have q3' : (x != 0) = true := by simpa using q3
            have EQ := hideG (E3.out (by
              have hm : Srv.mem (stageN C L r j r) u = true := by
                cases e : Srv.mem (stageN C L r j r) u
                · exact absurd (KM.out.2 e) q3
                · rfl
              rw [FT.out, decide_eq_true Q1.out, decide_eq_true q2, hm]; rfl))
            clear q3
            go_quiet (fail)
            go_wp2_with fail
            refine (WC.out _).mono ?_
            rintro e w2 ⟨rfl, hw2⟩
            rw [hw2]
            clear hw2
            go_wp2_with fail
            go_quiet (fail)
            go_wp2_with fail
            go_roundw
            case rel => exact ⟨j + 1, H, by omega, by go_num, by rw [EQ.out]; exact HHT.out, ID.out _⟩
            case measure => simp [intOf]; omega
          have q3' : (x != 0) = false := by simpa using q3
          have MF := hideG (KM.out.1 q3)
          have Q3 := hideG q3
          clear q3
          have HIF := hideG (fun (m : Nat) => (show Calls Tryz.prog 240 #[.pointer (some ⟨b, 0, none⟩), .agg #[.int .i64 k, .int .i64 (u : Int), .slice ia im ic], .int .i64 (r : Int), .agg (roundL (rowR H 0)).toArray, .agg (roundL (rowR H 1)).toArray, .agg (roundL (rowR H 2)).toArray] (W1.drewN m) fun e w' => e = .returned (.bool (Srv.shape C (stageN C L r j) r u l)) ∧ Below (W1.drewN m).heap.size (W1.drewN m) w' by
            have hI := ID.out m
            have hz := HZ.out r hr4 j
            have hrise := (Frm.okF_parts OK.out).2.2.1
            rw [← shapeR_eq (C := C) (p0 := hasK (rowR H 0)) (p1 := hasK (rowR H 1)) (p2 := hasK (rowR H 2)) hrise (fun _ => HHT.out.has hz (by omega)) (fun _ => HHT.out.has hz (by omega)) (fun _ => HHT.out.has hz (by omega))]
            exact rshape_calls b C.M k u r _ l _ _ _ _ (HCB.out _ hI.bel).1.2.1 (Nat.lt_of_lt_of_le hbl hI.bel.size) (IT'.out.below hI.bel) hrise u13 hr4))
          have LR0 := hideG (round_len (rowR H 0))
          have LR1 := hideG (round_len (rowR H 1))
          have LR2 := hideG (round_len (rowR H 2))
          have RR0 := hideG (fun (m : Nat) => (ID.out m).range 0 0 (by omega) (by omega))
          have RR1 := hideG (fun (m : Nat) => (ID.out m).range 1 39 (by omega) (by omega))
          have RR2 := hideG (fun (m : Nat) => (ID.out m).range 2 78 (by omega) (by omega))
          obtain ⟨X0, hX0⟩ : ∃ X, X = roundL (rowR H 0) := ⟨_, rfl⟩
          obtain ⟨X1, hX1⟩ : ∃ X, X = roundL (rowR H 1) := ⟨_, rfl⟩
          obtain ⟨X2, hX2⟩ : ∃ X, X = roundL (rowR H 2) := ⟨_, rfl⟩
          rw [← hX0] at HIF LR0 RR0
          rw [← hX1] at HIF LR1 RR1
          rw [← hX2] at HIF LR2 RR2
          clear hX0 hX1 hX2
          have SR0 := hideG (show (Tryz.prog.info? 237).map (·.size) = some X0.length by rw [size_rnd, LR0.out])
          have SR1 := hideG (show (Tryz.prog.info? 237).map (·.size) = some X1.length by rw [size_rnd, LR1.out])
          have SR2 := hideG (show (Tryz.prog.info? 237).map (·.size) = some X2.length by rw [size_rnd, LR2.out])
          have XD := hideG (fun (m : Nat) (W : World) (hb : Below (W1.drewN m).heap.size (W1.drewN m) W) => (show W.cell? ⟨wr.heap.size, 0, none⟩ = some (.int .i64 k) ∧ W.cell? ⟨wr.heap.size, 1, none⟩ = some (.int .i64 (u : Int)) ∧ W.cell? ⟨wr.heap.size, 2, none⟩ = some (.slice ia im ic) from by
            have hb' := (below_drewN W1 m).trans (hb.mono (below_drewN W1 m).size)
            exact ⟨(hb'.cell (p := ⟨wr.heap.size, 0, none⟩) szW).trans x0, (hb'.cell (p := ⟨wr.heap.size, 1, none⟩) szW).trans x1, (hb'.cell (p := ⟨wr.heap.size, 2, none⟩) szW).trans x2⟩))
          obtain ⟨sh, hsh⟩ : ∃ sh, sh = Srv.shape C (stageN C L r j) r u l := ⟨_, rfl⟩
          rw [← hsh] at HIF FT
          clear hsh
          go_quiet (fail)
          go_wp2_with fail
          refine (WC.out _).mono ?_
          rintro e w2 ⟨rfl, hw2⟩
          rw [hw2]
          clear hw2
          go_wp2_with fail
          go_quiet (fail)
          go_upto_region 12 with fail
          rcases Nat.eq_zero_or_pos r with hr0 | hr0
          · have gt0 : decide ((0 : Int) < (r : Int)) = false := decide_eq_false (by omega)
            have gt1 : decide (0 < r) = false := decide_eq_false (by omega)
            have PV := hideG (show (decide (r = 0) || Srv.mem (stageN C L r j (r - 1)) u) = true by rw [decide_eq_true hr0]; rfl)
            have HR0 := hideG hr0
            clear hr0
            go_quiet (fail)
            go_upto_region 13 with fail
            simp only [World.drewN_drewN]
            go_wp2_with (first | refine wpList_load_mid rfl 237 _ rfl (w.heap.size + 1) 0 rfl X0 _ (RR0.out _) Tryz.underlying237 rfl SR0.out ?_ | refine wpList_load_mid rfl 237 _ rfl (w.heap.size + 1) 39 rfl X1 _ (RR1.out _) Tryz.underlying237 rfl SR1.out ?_ | refine wpList_load_mid rfl 237 _ rfl (w.heap.size + 1) 78 rfl X2 _ (RR2.out _) Tryz.underlying237 rfl SR2.out ?_)
            refine (HIF.out _).mono ?_
            rintro e w3 ⟨rfl, hb3⟩
            have I3 := hideG ((ID.out _).grow hb3)
            obtain ⟨y0, y1, y2⟩ := XD.out _ w3 hb3
            clear hb3
            cases sh
            · have EQ := hideG (E3.out (by rw [FT.out, decide_eq_true Q1.out, decide_eq_true q2, MF.out, PV.out]; rfl))
              go_wp2_with fail
              go_roundw
              case rel => exact ⟨j + 1, H, by omega, by go_num, by rw [EQ.out]; exact HHT.out, I3.out⟩
              case measure => simp [intOf]; omega
            · have EQ := hideG (show stageN C L r (j + 1) = Srv.updT (stageN C L r j) r u l by
                rw [E2.out]
                unfold Srv.addF
                rw [if_pos (by rw [FT.out, decide_eq_true Q1.out, decide_eq_true q2, MF.out, PV.out]; rfl)]
                show Srv.updT (stageN C L r j) r (u : Int).toNat l = _
                rw [Int.toNat_natCast])
              have tl : r * 39 + u * 3 + 2 < 156 := by omega
              have o0 : (w3.cell? ⟨w.heap.size + 1, r * 39 + u * 3, none⟩).isSome = true := by rw [I3.out.tab.cell _ (by omega)]; rfl
              have o1 : (w3.cell? ⟨w.heap.size + 1, r * 39 + u * 3 + 1, none⟩).isSome = true := by rw [I3.out.tab.cell _ (by omega)]; rfl
              have o2 : (w3.cell? ⟨w.heap.size + 1, r * 39 + u * 3 + 2, none⟩).isSome = true := by rw [I3.out.tab.cell _ (by omega)]; rfl
              obtain ⟨p0, hp0⟩ := Option.isSome_iff_exists.1 o0
              obtain ⟨p1, hp1⟩ := Option.isSome_iff_exists.1 o1
              obtain ⟨p2, hp2⟩ := Option.isSome_iff_exists.1 o2
              clear o0 o1 o2
              have of := I3.out.tab.froz
              have hne : w.heap.size + 1 ≠ wr.heap.size := by omega
              have hne' : wr.heap.size ≠ w.heap.size + 1 := by omega
              have FIN := hideG (show CInv w ((((w3.setCell ⟨w.heap.size + 1, r * 39 + u * 3, none⟩ (.int .i64 k)).setCell ⟨w.heap.size + 1, r * 39 + u * 3 + 1, none⟩ (.int .i64 (u : Int))).setCell ⟨w.heap.size + 1, r * 39 + u * 3 + 2, none⟩ (.slice ia im ic)).drew) (updH H (r * 13 + u) (k, (u : Int), .slice ia im ic)) by
                have ht := FRow.set3H I3.out.tab (r * 13 + u) (r * 39 + u * 3) (by omega) (by omega) (k, (u : Int), .slice ia im ic)
                refine ⟨?_, ht, ?_⟩
                · exact I3.out.res.block (((Below.heap_setCell _ _ _ _ (by simp)).trans (Below.heap_setCell _ _ _ _ (by simp))).trans (Below.heap_setCell _ _ _ _ (by simp)))
                · exact (((I3.out.bel.setCell (p := ⟨w.heap.size + 1, r * 39 + u * 3, none⟩) (by show w.heap.size ≤ w.heap.size + 1; omega) _).setCell (p := ⟨w.heap.size + 1, r * 39 + u * 3 + 1, none⟩) (by show w.heap.size ≤ w.heap.size + 1; omega) _).setCell (p := ⟨w.heap.size + 1, r * 39 + u * 3 + 2, none⟩) (by show w.heap.size ≤ w.heap.size + 1; omega) _).drew)
              have HF2 := hideG (show HTab w (updH H (r * 13 + u) (k, (u : Int), .slice ia im ic)) (stageN C L r (j + 1)) by
                rw [EQ.out, Q1.out]; exact HHT.out.upd hr4 u13 IT'.out)
              go_upto_region 15 with fail
              go_region
              go_wp2_with fail
              go_roundw
              case rel => exact ⟨j + 1, _, by omega, by go_num, HF2.out, FIN.out⟩
              case measure => simp [intOf]; omega
          · have gt0 : decide ((0 : Int) < (r : Int)) = true := decide_eq_true (by omega)
            have gt1 : decide (0 < r) = true := decide_eq_true (by omega)
            obtain ⟨r', hr'⟩ : ∃ r', r' = r - 1 := ⟨_, rfl⟩
            have rr : (r : Int) - 1 = (r' : Int) := by omega
            have r4' : r' < 4 := by omega
            have r4i : (r' : Int) < 4 := by omega
            have kp := I1.out.kind r' u r4' u13
            have KP := hideG (HHT.out.kind r4' u13)
            rw [hr'] at KP
            have HR0 := hideG hr0
            have HR' := hideG hr'
            obtain ⟨y, hy⟩ : ∃ y, y = (H (r' * 13 + u)).1 := ⟨_, rfl⟩
            rw [← hr', ← hy] at KP
            rw [← hy] at kp
            clear hr0 hr' hy
            by_cases q4 : y = 0
            · have q4' : (y == 0) = true := by simpa using q4
              have EQ := hideG (E3.out (by
                have hm : Srv.mem (stageN C L r j (r - 1)) u = false := by rw [← HR'.out]; exact KP.out.1 q4
                rw [FT.out, decide_eq_true Q1.out, decide_eq_true q2, MF.out, hm, decide_eq_false (show ¬ r = 0 by have := HR0.out; omega)]; rfl))
              clear q4
              go_quiet (fail)
              go_wp2_with fail
              go_roundw
              case rel => exact ⟨j + 1, H, by omega, by go_num, by rw [EQ.out]; exact HHT.out, ID.out _⟩
              case measure => simp [intOf]; omega
            · have q4' : (y == 0) = false := by simpa using q4
              have PV := hideG (show (decide (r = 0) || Srv.mem (stageN C L r j (r - 1)) u) = true by
                cases e : Srv.mem (stageN C L r j (r - 1)) u
                · exact absurd (KP.out.2 (by rw [HR'.out]; exact e)) q4
                · rw [Bool.or_true])
              clear q4
              go_quiet (fail)
              go_upto_region 13 with fail
              simp only [World.drewN_drewN]
              go_wp2_with (first | refine wpList_load_mid rfl 237 _ rfl (w.heap.size + 1) 0 rfl X0 _ (RR0.out _) Tryz.underlying237 rfl SR0.out ?_ | refine wpList_load_mid rfl 237 _ rfl (w.heap.size + 1) 39 rfl X1 _ (RR1.out _) Tryz.underlying237 rfl SR1.out ?_ | refine wpList_load_mid rfl 237 _ rfl (w.heap.size + 1) 78 rfl X2 _ (RR2.out _) Tryz.underlying237 rfl SR2.out ?_)
              refine (HIF.out _).mono ?_
              rintro e w3 ⟨rfl, hb3⟩
              have I3 := hideG ((ID.out _).grow hb3)
              obtain ⟨y0, y1, y2⟩ := XD.out _ w3 hb3
              clear hb3
              cases sh
              · have EQ := hideG (E3.out (by rw [FT.out, decide_eq_true Q1.out, decide_eq_true q2, MF.out, PV.out]; rfl))
                go_wp2_with fail
                go_roundw
                case rel => exact ⟨j + 1, H, by omega, by go_num, by rw [EQ.out]; exact HHT.out, I3.out⟩
                case measure => simp [intOf]; omega
              · have EQ := hideG (show stageN C L r (j + 1) = Srv.updT (stageN C L r j) r u l by
                  rw [E2.out]
                  unfold Srv.addF
                  rw [if_pos (by rw [FT.out, decide_eq_true Q1.out, decide_eq_true q2, MF.out, PV.out]; rfl)]
                  show Srv.updT (stageN C L r j) r (u : Int).toNat l = _
                  rw [Int.toNat_natCast])
                have tl : r * 39 + u * 3 + 2 < 156 := by omega
                have o0 : (w3.cell? ⟨w.heap.size + 1, r * 39 + u * 3, none⟩).isSome = true := by rw [I3.out.tab.cell _ (by omega)]; rfl
                have o1 : (w3.cell? ⟨w.heap.size + 1, r * 39 + u * 3 + 1, none⟩).isSome = true := by rw [I3.out.tab.cell _ (by omega)]; rfl
                have o2 : (w3.cell? ⟨w.heap.size + 1, r * 39 + u * 3 + 2, none⟩).isSome = true := by rw [I3.out.tab.cell _ (by omega)]; rfl
                obtain ⟨p0, hp0⟩ := Option.isSome_iff_exists.1 o0
                obtain ⟨p1, hp1⟩ := Option.isSome_iff_exists.1 o1
                obtain ⟨p2, hp2⟩ := Option.isSome_iff_exists.1 o2
                clear o0 o1 o2
                have of := I3.out.tab.froz
                have hne : w.heap.size + 1 ≠ wr.heap.size := by omega
                have hne' : wr.heap.size ≠ w.heap.size + 1 := by omega
                have FIN := hideG (show CInv w ((((w3.setCell ⟨w.heap.size + 1, r * 39 + u * 3, none⟩ (.int .i64 k)).setCell ⟨w.heap.size + 1, r * 39 + u * 3 + 1, none⟩ (.int .i64 (u : Int))).setCell ⟨w.heap.size + 1, r * 39 + u * 3 + 2, none⟩ (.slice ia im ic)).drew) (updH H (r * 13 + u) (k, (u : Int), .slice ia im ic)) by
                  have ht := FRow.set3H I3.out.tab (r * 13 + u) (r * 39 + u * 3) (by omega) (by omega) (k, (u : Int), .slice ia im ic)
                  refine ⟨?_, ht, ?_⟩
                  · exact I3.out.res.block (((Below.heap_setCell _ _ _ _ (by simp)).trans (Below.heap_setCell _ _ _ _ (by simp))).trans (Below.heap_setCell _ _ _ _ (by simp)))
                  · exact (((I3.out.bel.setCell (p := ⟨w.heap.size + 1, r * 39 + u * 3, none⟩) (by show w.heap.size ≤ w.heap.size + 1; omega) _).setCell (p := ⟨w.heap.size + 1, r * 39 + u * 3 + 1, none⟩) (by show w.heap.size ≤ w.heap.size + 1; omega) _).setCell (p := ⟨w.heap.size + 1, r * 39 + u * 3 + 2, none⟩) (by show w.heap.size ≤ w.heap.size + 1; omega) _).drew)
                have HF2 := hideG (show HTab w (updH H (r * 13 + u) (k, (u : Int), .slice ia im ic)) (stageN C L r (j + 1)) by
                  rw [EQ.out, Q1.out]; exact HHT.out.upd hr4 u13 IT'.out)
                go_upto_region 15 with fail
                go_region
                go_wp2_with fail
                go_roundw
                case rel => exact ⟨j + 1, _, by omega, by go_num, HF2.out, FIN.out⟩
                case measure => simp [intOf]; omega
        · have ej : j = n := by omega
          subst ej
          go_wp2_with fail
          go_roundw
          case rel => exact ⟨r + 1, H, by omega, by go_num, by rw [← HSE.out r]; exact HHT.out, HCI.out⟩
          case measure => simp [intOf]; omega
    · have er : r = 4 := by omega
      subst er
      have RG := hideG (show wr.rangeAt (w.heap.size + 1) 0 (tabL H0) by have := HCI.out.tab.range 0 156 (by omega); simp only [Nat.zero_add] at this; exact this)
      have LT := hideG (tab_len H0)
      have HTH := hideG (show wr.there w.heap.size 0 (tabL H0).toArray.size by rw [show (tabL H0).toArray.size = 156 by rw [List.size_toArray]; exact tab_len H0]; exact HCI.out.res.there 0 156 (by omega))
      have HROW := hideG (show (wr.setCells w.heap.size 0 (tabL H0)).heap[w.heap.size]? = some (.cells (tabL H0).toArray 238 (0, 0)) from HCI.out.res.setAll (cellF H0))
      have BF := hideG (show Below w.heap.size w (wr.setCells w.heap.size 0 (tabL H0)) from below_setCells (Nat.le_refl _) _ _ _ HCI.out.bel)
      have HON := hideG (show (tabL H0).toArray.all (·.oneCell') = true from all_oneCell_toArray (tab_one HHT.out))
      have HTA := hideG (show HTab w H0 (Srv.tab C L) from HHT.out)
      obtain ⟨CS, hCS⟩ : ∃ CS, CS = tabL H0 := ⟨_, rfl⟩
      rw [← hCS] at RG LT HTH HROW BF HON
      have HCS := hideG hCS
      clear hCS
      have HSZ := hideG (show (Tryz.prog.info? 238).map (·.size) = some CS.toArray.size by rw [size_tab4, List.size_toArray, LT.out])
      have HSL := hideG (show (Tryz.prog.info? 238).map (·.size) = some CS.length by rw [size_tab4, LT.out])
      go_wp2_with (first | refine wpList_load_mid rfl 238 _ rfl (w.heap.size + 1) 0 rfl CS _ RG.out Tryz.underlying238 rfl HSL.out ?_ | refine wpList_store_mid rfl 238 _ _ rfl w.heap.size 0 CS.toArray rfl rfl HTH.out HSZ.out HON.out ?_)
      refine bodyPost_ret (results_cell_row rfl _ _ w.heap.size 238 CS.toArray (0, 0) _ rfl HROW.out Tryz.underlying238 rfl HSZ.out) rfl ?_
      exact ⟨H0, by rw [HCS.out], HTA.out, BF.out⟩

end Go.Proofs.YtchideljndagjabGreat

namespace Go.Proofs.YtchideljndagjabGreat
open Go.ChangeShapes Go.WideShapes Go.ChangeAt Go.RowKit
set_option linter.unusedVariables false

def manyH (H : Nat → RF) : Nat → Nat
  | 0 => 0
  | r + 1 => manyH H r + (Srv.lst (hasK (rowR H r))).length
theorem manyH_le (H : Nat → RF) : ∀ r, manyH H r ≤ r * 13
  | 0 => Nat.le_refl _
  | r + 1 => by
    have := manyH_le H r
    have h2 := Srv.lstN_le (hasK (rowR H r)) 13
    show manyH H r + (Srv.lstN (hasK (rowR H r)) 13).length ≤ _
    omega
theorem manyH_eq {w : World} {H : Nat → RF} {G : Srv.Tab} (h : HTab w H G) (hz : ∀ r, G r 0 = none) : manyH H 4 = Srv.many G := by
  have e : ∀ r, r < 4 → (Srv.lst (hasK (rowR H r))).length = Srv.sizeR (G r) := fun r hr => by unfold Srv.sizeR; rw [Srv.lst_ext (h.has hz hr)]
  show 0 + (Srv.lst (hasK (rowR H 0))).length + (Srv.lst (hasK (rowR H 1))).length + (Srv.lst (hasK (rowR H 2))).length + (Srv.lst (hasK (rowR H 3))).length = _
  rw [e 0 (by omega), e 1 (by omega), e 2 (by omega), e 3 (by omega)]
  unfold Srv.many; omega
theorem tab_new (w : World) (H : Nat → RF) : FRow (w.alloc (.cells (tabL H).toArray 238)) w.heap.size 238 156 (cellF H) := heap_alloc_new w _
theorem tab_range {w : World} {b : Nat} {T : TypeId} {H : Nat → RF} (h : FRow w b T 156 (cellF H)) (r : Nat) (hr : r < 4) : w.rangeAt b (r * 39) (roundL (rowR H r)) := by
  have := h.range (r * 39) 39 (by omega)
  rwa [row_round] at this

set_option maxHeartbeats 2000000 in
set_option maxRecDepth 100000 in
theorem rmany_calls (H : Nat → RF) (w : World) :
    Calls Tryz.prog 180 #[.agg (tabL H).toArray] w fun e w' => e = .returned (.int .i64 (manyH H 4 : Int)) ∧ Below w.heap.size w w' := by
  have HF := hideG (tab_new w H)
  have BB := hideG (show Below w.heap.size w (w.alloc (.cells (tabL H).toArray 238)) from (Below.refl _ _).alloc (Nat.le_refl _) _)
  obtain ⟨X, hX⟩ : ∃ X, X = tabL H := ⟨_, rfl⟩
  rw [← hX] at HF BB ⊢
  clear hX
  obtain ⟨W, hW⟩ : ∃ W, W = w.alloc (.cells X.toArray 238) := ⟨_, rfl⟩
  rw [← hW] at HF BB
  have hsz := HF.out.lt
  have HW := hideG hW
  clear hW
  go_enter Tryz.func180, Tryz.ntmps180
  go_wp2_with fail
  rw [← HW.out]
  go_loopw [3, 4] (fun x i wr => ∃ r : Nat, r ≤ 4 ∧ i = .int .i64 (r : Int) ∧ x = .int .i64 (manyH H r : Int) ∧ Below W.heap.size W wr) (fun _ i _ => 4 - (intOf i).toNat)
  case atStart => exact ⟨0, by omega, rfl, rfl, Below.refl _ _⟩
  case round =>
    obtain ⟨r, hr, rfl, rfl, hbel⟩ := hrel
    have HB := hideG hbel
    have HBW := hideG (BB.out.trans (hbel.mono BB.out.size))
    have hml := manyH_le H r
    have hmb : manyH H r ≤ 52 := by omega
    have HMS := hideG (show manyH H (r + 1) = manyH H r + (Srv.lst (hasK (rowR H r))).length from rfl)
    by_cases hlt : r < 4
    · have hlt' : (r : Int) < 4 := by omega
      have RG := hideG (tab_range (HF.out.block (hbel.block _ hsz)) r hlt)
      have LS := hideG (rlist_calls (rowR H r) wr)
      have LX := hideG (round_len (rowR H r))
      have hl13 : (Srv.lst (hasK (rowR H r))).length ≤ 13 := Srv.lstN_le _ 13
      obtain ⟨CR, hCR⟩ : ∃ CR, CR = roundL (rowR H r) := ⟨_, rfl⟩
      rw [← hCR] at RG LS LX
      clear hCR hbel hml
      obtain ⟨n, hn⟩ : ∃ n, n = (Srv.lst (hasK (rowR H r))).length := ⟨_, rfl⟩
      rw [← hn] at LS HMS hl13
      clear hn
      obtain ⟨m, hm⟩ : ∃ m, m = manyH H r := ⟨_, rfl⟩
      rw [← hm] at HMS hmb ⊢
      clear hm
      have SL := hideG (show (Tryz.prog.info? 237).map (·.size) = some CR.length by rw [size_rnd, LX.out])
      go_wp2_with (refine wpList_load_mid rfl 237 _ rfl w.heap.size (r * 39) rfl CR _ RG.out Tryz.underlying237 rfl SL.out ?_)
      refine LS.out.mono ?_
      rintro e w1 ⟨v, rfl, hown, hb1⟩
      obtain ⟨a3, c3, hv3⟩ := owns_form hown
      subst hv3
      have B1 := hideG (HB.out.trans (hb1.mono HB.out.size))
      clear hown hb1
      go_wp2_with fail
      go_roundw
      case rel => exact ⟨r + 1, by omega, by go_num, by rw [HMS.out]; go_num, B1.out⟩
      case measure => simp [intOf]; omega
    · have er : r = 4 := by omega
      subst er
      clear hbel
      go_wp2_with fail
      go_ret
      exact ⟨rfl, HBW.out⟩

end Go.Proofs.YtchideljndagjabGreat
