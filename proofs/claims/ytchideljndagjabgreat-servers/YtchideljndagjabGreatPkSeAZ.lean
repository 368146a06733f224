/- Contract of veilref's server: shape. -/
import Derived.Test.YtchideljndagjabGreatPkSeAY
namespace Go.Proofs.YtchideljndagjabGreat
open Go.ChangeShapes Go.WideShapes Go.ChangeAt Go.RowKit
set_option linter.unusedVariables false

set_option maxHeartbeats 4000000 in
set_option maxRecDepth 100000 in
theorem rshape_calls (b : Nat) (M k : Int) (u r : Nat) (v : Value) (l : List Frm.It) (R0 R1 R2 : Nat → RF) (w : World) (hm : w.cell? ⟨b, 2, none⟩ = some (.int .i64 M)) (hbl : b < w.heap.size) (hl : ItemsAt w v l) (hr : Frm.riseB l = true) (hu : u < 13) (hr4 : r < 4) :
    Calls Tryz.prog 240 #[.pointer (some ⟨b, 0, none⟩), .agg #[.int .i64 k, .int .i64 (u : Int), v], .int .i64 (r : Int), .agg (roundL R0).toArray, .agg (roundL R1).toArray, .agg (roundL R2).toArray] w fun e w' => e = .returned (.bool (shapeR M r u l (hasK R0) (hasK R1) (hasK R2))) ∧ Below w.heap.size w w' := by
  obtain ⟨va, vc, rfl, hl2, hl3, _, hcl⟩ := items_view hl
  have HC := hideG hcl
  clear hcl
  have HFA := hideG (fun (W : World) hb => shW_facts w k (u : Int) (.slice va l.length vc) R0 R1 R2 (W := W) hb)
  have HIT := hideG (fun (W : World) (hb : Below w.heap.size w W) => hl.below hb)
  have HM := hideG (fun (W : World) (hb : Below w.heap.size w W) => (hb.cell (p := ⟨b, 2, none⟩) hbl).trans hm)
  have HID := hideG (fun (W : World) (hb : Below w.heap.size w W) => rids_calls k (u : Int) (.slice va l.length vc) l W (hl.below hb) hr)
  have HS0 := hideG (fun (W : World) => rset_calls R0 W)
  have HS1 := hideG (fun (W : World) => rset_calls R1 W)
  have HS2 := hideG (fun (W : World) => rset_calls R2 W)
  have HAK := hideG (fun (f g : Nat → Bool) (W : World) => ralike_calls f g W)
  have HI := hideG (fun j (hj : j < l.length) => (Cli.rise_pair hr).2 (Frm.it l j) (by rw [Cli.it_get l j hj]; exact List.getElem_mem hj))
  have LR0 := hideG (round_len R0)
  have LR1 := hideG (round_len R1)
  have LR2 := hideG (round_len R2)
  have HD := hideG (show shW w k (u : Int) (.slice va l.length vc) R0 R1 R2 = (((w.alloc (.cells #[.int .i64 k, .int .i64 (u : Int), .slice va l.length vc] 65)).alloc (.cells (roundL R0).toArray 237)).alloc (.cells (roundL R1).toArray 237)).alloc (.cells (roundL R2).toArray 237) from rfl)
  obtain ⟨W, hW⟩ : ∃ W, W = shW w k (u : Int) (.slice va l.length vc) R0 R1 R2 := ⟨_, rfl⟩
  rw [← hW] at HFA HD
  clear hW hm
  obtain ⟨q0, hq0⟩ : ∃ q0, q0 = hasK R0 := ⟨_, rfl⟩
  obtain ⟨q1, hq1⟩ : ∃ q1, q1 = hasK R1 := ⟨_, rfl⟩
  obtain ⟨q2, hq2⟩ : ∃ q2, q2 = hasK R2 := ⟨_, rfl⟩
  rw [← hq0] at HS0 ⊢
  rw [← hq1] at HS1 ⊢
  rw [← hq2] at HS2 ⊢
  clear hq0 hq1 hq2
  obtain ⟨X0, hX0⟩ : ∃ X, X = roundL R0 := ⟨_, rfl⟩
  obtain ⟨X1, hX1⟩ : ∃ X, X = roundL R1 := ⟨_, rfl⟩
  obtain ⟨X2, hX2⟩ : ∃ X, X = roundL R2 := ⟨_, rfl⟩
  rw [← hX0] at HFA HS0 LR0 HD ⊢
  rw [← hX1] at HFA HS1 LR1 HD ⊢
  rw [← hX2] at HFA HS2 LR2 HD ⊢
  clear hX0 hX1 hX2
  have SR0 := hideG (show (Tryz.prog.info? 237).map (·.size) = some X0.length by rw [size_rnd, LR0.out])
  have SR1 := hideG (show (Tryz.prog.info? 237).map (·.size) = some X1.length by rw [size_rnd, LR1.out])
  have SR2 := hideG (show (Tryz.prog.info? 237).map (·.size) = some X2.length by rw [size_rnd, LR2.out])
  obtain ⟨⟨x0, x1, x2⟩, -, -, -, b0, s0⟩ := HFA.out W (Below.refl _ _)
  have B0 := hideG b0
  have ID := hideG (HID.out W b0)
  clear b0
  unfold rsetV at ID HS0 HS1 HS2 HAK
  have hu' : (u : Int) < 13 := by omega
  obtain ⟨fi, hfi⟩ : ∃ fi : Nat → Bool, fi = fun x : Nat => Cli.hasI l x := ⟨_, rfl⟩
  rw [← hfi] at ID
  have HFI := hideG hfi
  clear hfi
  have HP := hideG (fun (W1 : World) => bools_put W1 fi)
  have HON := hideG (all_oneCell_toArray (bl13_one fi))
  have LCI := hideG (bl13_length fi)
  clear hl
  go_enter Tryz.func240, Tryz.ntmps240
  go_upto_region 1 with fail
  rw [← HD.out]
  go_wp2_with fail
  refine ID.out.mono ?_
  rintro e w1 ⟨rfl, hb1⟩
  have s1 := hb1.size
  have B1 := hideG hb1
  clear hb1 x0 x1 x2
  obtain ⟨pt, pb, pbl⟩ := HP.out w1
  have PT := hideG pt
  have PB := hideG pb
  have PBL := hideG pbl
  clear pt pb pbl
  obtain ⟨CI, hCI⟩ : ∃ CI, CI = bl13 fi := ⟨_, rfl⟩
  rw [← hCI] at PT PB PBL HON LCI ⊢
  have HCI := hideG hCI
  clear hCI
  have SI := hideG (show (Tryz.prog.info? 36).map (·.size) = some CI.toArray.size by rw [size_b13, List.size_toArray, LCI.out])
  have SIL := hideG (show (Tryz.prog.info? 36).map (·.size) = some CI.length by rw [size_b13, LCI.out])
  obtain ⟨W1, hW1⟩ : ∃ W1, W1 = w1.alloc (.cells #[.bool false, .bool false, .bool false, .bool false, .bool false, .bool false, .bool false, .bool false, .bool false, .bool false, .bool false, .bool false, .bool false] 36) := ⟨_, rfl⟩
  obtain ⟨W2, hW2⟩ : ∃ W2, W2 = W1.setCells w1.heap.size 0 CI := ⟨_, rfl⟩
  rw [← hW1] at PT PB PBL
  rw [← hW2] at PB PBL
  have HW1 := hideG hW1
  have HW2 := hideG hW2
  clear hW1 hW2
  go_upto_region 2 with (rw [← HW1.out]; refine wpList_store_mid rfl 36 _ _ rfl w1.heap.size 0 CI.toArray rfl rfl PT.out SI.out HON.out ?_)
  rw [← HW2.out]
  have B2 := hideG (B1.out.trans (PBL.out.mono B1.out.size))
  have s2 : w1.heap.size < W2.heap.size := PB.out.lt
  have KI := hideG (fun (W' : World) (hb : Below W2.heap.size W2 W') => (show BoolsAt W' w1.heap.size 36 fi ∧ W'.rangeAt w1.heap.size 0 CI from by
    have h := PB.out.below hb s2
    exact ⟨h, by rw [HCI.out]; exact h.range⟩))
  have KW := hideG (fun (W' : World) (hb : Below W2.heap.size W2 W') => HFA.out W' (B2.out.trans (hb.mono B2.out.size)))
  clear PT PB PBL
  have hd : r = 1 ∨ r = 2 ∨ r = 3 ∨ r = 0 := by omega
  rcases hd with rfl | rfl | rfl | rfl
  · -- the Ids are those of the round before, but for its own
    have HF := hideG (show shapeR M 1 u l q0 q1 q2 = Srv.sameS fi (updB q0 u false) by unfold shapeR; rw [if_pos rfl, HFI.out])
    obtain ⟨-, r0, -, -, bw, -⟩ := KW.out W2 (Below.refl _ _)
    have R0' := hideG r0
    clear r0 bw
    go_wp2_with (refine wpList_load_mid rfl 237 _ rfl (w.heap.size + 1) 0 rfl X0 _ R0'.out Tryz.underlying237 rfl SR0.out ?_)
    refine (HS0.out W2).mono ?_
    rintro e w3 ⟨rfl, hb3⟩
    have s3 := hb3.size
    have B3 := hideG hb3
    clear hb3
    obtain ⟨pt, pb, pbl⟩ := bools_put w3 q0
    have PT := hideG pt
    have PB := hideG pb
    have PBL := hideG pbl
    have HON2 := hideG (all_oneCell_toArray (bl13_one q0))
    have LC2 := hideG (bl13_length q0)
    clear pt pb pbl
    obtain ⟨CQ, hCQ⟩ : ∃ CQ, CQ = bl13 q0 := ⟨_, rfl⟩
    rw [← hCQ] at PT PB PBL HON2 LC2 ⊢
    clear hCQ
    have SQ := hideG (show (Tryz.prog.info? 36).map (·.size) = some CQ.toArray.size by rw [size_b13, List.size_toArray, LC2.out])
    obtain ⟨W4, hW4⟩ : ∃ W4, W4 = w3.alloc (.cells #[.bool false, .bool false, .bool false, .bool false, .bool false, .bool false, .bool false, .bool false, .bool false, .bool false, .bool false, .bool false, .bool false] 36) := ⟨_, rfl⟩
    obtain ⟨W5, hW5⟩ : ∃ W5, W5 = W4.setCells w3.heap.size 0 CQ := ⟨_, rfl⟩
    rw [← hW4] at PT PB PBL
    rw [← hW5] at PB PBL
    have HW4 := hideG hW4
    have HW5 := hideG hW5
    clear hW4 hW5
    go_upto_region 5 with (rw [← HW4.out]; refine wpList_store_mid rfl 36 _ _ rfl w3.heap.size 0 CQ.toArray rfl rfl PT.out SQ.out HON2.out ?_)
    rw [← HW5.out]
    have B5 := hideG (B3.out.trans (PBL.out.mono B3.out.size))
    have s5 : w3.heap.size < W5.heap.size := PB.out.lt
    obtain ⟨⟨-, x1, x2⟩, -, -, -, -, s5'⟩ := KW.out W5 B5.out
    have z0 := PB.out.cell u hu
    have zf := PB.out.froz u
    obtain ⟨W6, hW6⟩ : ∃ W6, W6 = W5.setCell ⟨w3.heap.size, u, none⟩ (.bool false) := ⟨_, rfl⟩
    have P6 := hideG (show BoolsAt W6 w3.heap.size 36 (updB q0 u false) by rw [hW6]; exact PB.out.set u hu false)
    have bb6 : Below w3.heap.size w3 W6 := by rw [hW6]; exact PBL.out.setCell (p := ⟨w3.heap.size, u, none⟩) (Nat.le_refl _) _
    have B6 := hideG (B3.out.trans (bb6.mono B3.out.size))
    have HW6 := hideG hW6
    clear hW6 bb6 PT PB PBL
    go_upto_region 6 with fail
    rw [← HW6.out]
    clear x1 x2 z0 zf
    have RA := hideG (KI.out W6 B6.out).2
    have RB := hideG P6.out.range
    have LU := hideG (bl13_length (updB q0 u false))
    have AK := hideG (HAK.out fi (updB q0 u false) W6)
    rw [← HCI.out] at AK
    obtain ⟨CU, hCU⟩ : ∃ CU, CU = bl13 (updB q0 u false) := ⟨_, rfl⟩
    rw [← hCU] at RB LU AK
    clear hCU
    have SU := hideG (show (Tryz.prog.info? 36).map (·.size) = some CU.length by rw [size_b13, LU.out])
    have FB := hideG (B0.out.trans ((B2.out.trans (B6.out.mono B2.out.size)).mono B0.out.size))
    go_wp2_with (first | refine wpList_load_mid rfl 36 _ rfl w1.heap.size 0 rfl CI _ RA.out Tryz.underlying36 rfl SIL.out ?_ | refine wpList_load_mid rfl 36 _ rfl w3.heap.size 0 rfl CU _ RB.out Tryz.underlying36 rfl SU.out ?_)
    refine AK.out.mono ?_
    rintro e w7 ⟨rfl, hb7⟩
    have B7 := hideG (FB.out.trans (hb7.mono FB.out.size))
    clear hb7
    go_wp2_with fail
    go_ret
    exact ⟨ret_bool HF.out.symm, B7.out⟩
  · have HF := hideG (show shapeR M 2 u l q0 q1 q2 = decide ((l.length : Int) = M) by unfold shapeR; rw [if_neg (by decide), if_pos rfl])
    obtain ⟨⟨-, -, x2⟩, -, -, -, bw, -⟩ := KW.out W2 (Below.refl _ _)
    have c2 := HM.out W2 bw
    have HDD := hideG (fun m => bw.trans ((below_drewN W2 m).mono bw.size))
    clear bw
    have hb2 : b < W2.heap.size := by omega
    generalize l.length = n at *
    by_cases q : (n : Int) = M
    · have q' : ((n : Int) == M) = true := by simpa using q
      have HF2 := hideG (show shapeR M 2 u l q0 q1 q2 = true by rw [HF.out, decide_eq_true q])
      clear q
      go_wp2_with fail
      go_quiet (fail)
      go_wp2_with fail
      go_ret
      exact ⟨ret_bool HF2.out.symm, HDD.out _⟩
    · have q' : ((n : Int) == M) = false := by simpa using q
      have HF2 := hideG (show shapeR M 2 u l q0 q1 q2 = false by rw [HF.out, decide_eq_false q])
      clear q
      go_wp2_with fail
      go_quiet (fail)
      go_wp2_with fail
      go_ret
      exact ⟨ret_bool HF2.out.symm, HDD.out _⟩
  · have HF := hideG (show shapeR M 3 u l q0 q1 q2 = ((l.all fun x => decide (x.2.1 = 1) == q2 x.1.toNat) && Srv.sameS fi q1) by unfold shapeR; rw [if_neg (by decide), if_neg (by decide), if_pos rfl, HFI.out])
    obtain ⟨-, -, r1, -, bw, -⟩ := KW.out W2 (Below.refl _ _)
    have R1' := hideG r1
    clear r1 bw
    go_wp2_with (refine wpList_load_mid rfl 237 _ rfl (w.heap.size + 2) 0 rfl X1 _ R1'.out Tryz.underlying237 rfl SR1.out ?_)
    refine (HS1.out W2).mono ?_
    rintro e w3 ⟨rfl, hb3⟩
    have s3 := hb3.size
    have B3 := hideG hb3
    clear hb3
    obtain ⟨pt, pb, pbl⟩ := bools_put w3 q1
    have PT := hideG pt
    have PB := hideG pb
    have PBL := hideG pbl
    have HON2 := hideG (all_oneCell_toArray (bl13_one q1))
    have LC2 := hideG (bl13_length q1)
    clear pt pb pbl
    obtain ⟨CQ, hCQ⟩ : ∃ CQ, CQ = bl13 q1 := ⟨_, rfl⟩
    rw [← hCQ] at PT PB PBL HON2 LC2 ⊢
    have HCQ := hideG hCQ
    clear hCQ
    have SQ := hideG (show (Tryz.prog.info? 36).map (·.size) = some CQ.toArray.size by rw [size_b13, List.size_toArray, LC2.out])
    have SQL := hideG (show (Tryz.prog.info? 36).map (·.size) = some CQ.length by rw [size_b13, LC2.out])
    obtain ⟨W4, hW4⟩ : ∃ W4, W4 = w3.alloc (.cells #[.bool false, .bool false, .bool false, .bool false, .bool false, .bool false, .bool false, .bool false, .bool false, .bool false, .bool false, .bool false, .bool false] 36) := ⟨_, rfl⟩
    obtain ⟨W5, hW5⟩ : ∃ W5, W5 = W4.setCells w3.heap.size 0 CQ := ⟨_, rfl⟩
    rw [← hW4] at PT PB PBL
    rw [← hW5] at PB PBL
    have HW4 := hideG hW4
    have HW5 := hideG hW5
    clear hW4 hW5
    go_upto_region 11 with (rw [← HW4.out]; refine wpList_store_mid rfl 36 _ _ rfl w3.heap.size 0 CQ.toArray rfl rfl PT.out SQ.out HON2.out ?_)
    rw [← HW5.out]
    have B5 := hideG (B3.out.trans (PBL.out.mono B3.out.size))
    have s5 : w3.heap.size < W5.heap.size := PB.out.lt
    have KQ := hideG (fun (W' : World) (hb : Below W5.heap.size W5 W') => (show W'.rangeAt w3.heap.size 0 CQ from by rw [HCQ.out]; exact (PB.out.below hb s5).range))
    obtain ⟨-, -, -, r2, -, -⟩ := KW.out W5 B5.out
    have R2' := hideG r2
    clear r2 PT PB PBL
    go_wp2_with (refine wpList_load_mid rfl 237 _ rfl (w.heap.size + 3) 0 rfl X2 _ R2'.out Tryz.underlying237 rfl SR2.out ?_)
    refine (HS2.out W5).mono ?_
    rintro e w6 ⟨rfl, hb6⟩
    have s6 := hb6.size
    have B6 := hideG hb6
    clear hb6
    obtain ⟨pt, pb, pbl⟩ := bools_put w6 q2
    have PT := hideG pt
    have PB := hideG pb
    have PBL := hideG pbl
    have HON3 := hideG (all_oneCell_toArray (bl13_one q2))
    have LC3 := hideG (bl13_length q2)
    clear pt pb pbl
    obtain ⟨CT, hCT⟩ : ∃ CT, CT = bl13 q2 := ⟨_, rfl⟩
    rw [← hCT] at PT PB PBL HON3 LC3 ⊢
    clear hCT
    have ST := hideG (show (Tryz.prog.info? 36).map (·.size) = some CT.toArray.size by rw [size_b13, List.size_toArray, LC3.out])
    obtain ⟨W7, hW7⟩ : ∃ W7, W7 = w6.alloc (.cells #[.bool false, .bool false, .bool false, .bool false, .bool false, .bool false, .bool false, .bool false, .bool false, .bool false, .bool false, .bool false, .bool false] 36) := ⟨_, rfl⟩
    obtain ⟨W8, hW8⟩ : ∃ W8, W8 = W7.setCells w6.heap.size 0 CT := ⟨_, rfl⟩
    rw [← hW7] at PT PB PBL
    rw [← hW8] at PB PBL
    have HW7 := hideG hW7
    have HW8 := hideG hW8
    clear hW7 hW8
    go_upto_region 12 with (rw [← HW7.out]; refine wpList_store_mid rfl 36 _ _ rfl w6.heap.size 0 CT.toArray rfl rfl PT.out ST.out HON3.out ?_)
    rw [← HW8.out]
    have B8 := hideG (B6.out.trans (PBL.out.mono B6.out.size))
    have s8 : w6.heap.size < W8.heap.size := PB.out.lt
    have PB8 := hideG PB.out
    have BT8 := hideG (B5.out.trans (B8.out.mono B5.out.size))
    clear PT PB PBL
    obtain ⟨n, hn⟩ : ∃ n, n = l.length := ⟨_, rfl⟩
    rw [← hn] at HC HI hl2
    have HN := hideG hn
    clear hn
    have K2 := hideG (fun (W' : World) (hb : Below W8.heap.size W8 W') => (show W'.cell? ⟨w.heap.size, 2, none⟩ = some (.slice va n vc) from by
      have := (KW.out W' (BT8.out.trans (hb.mono BT8.out.size))).1.2.2
      rwa [← HN.out] at this))
    have BW8 := hideG (KW.out W8 BT8.out).2.2.2.2.1
    go_wp2_with fail
    go_loopw [17] (fun i wr => ∃ j : Nat, j ≤ n ∧ i = .int .i64 (j : Int) ∧ (∀ i', i' < j → (decide ((Frm.it l i').2.1 = 1) == q2 (Frm.it l i').1.toNat) = true) ∧ Below W8.heap.size W8 wr) (fun i _ => n - (intOf i).toNat)
    case atStart => exact ⟨0, Nat.zero_le _, rfl, fun i h => absurd h (by omega), Below.refl _ _⟩
    case round =>
      obtain ⟨j, hj, rfl, hall, hbel⟩ := hrel
      have HAL := hideG hall
      have HB := hideG hbel
      have hsz := hbel.size
      have x2 := K2.out _ hbel
      have HBW := hideG (BW8.out.trans (hbel.mono BW8.out.size))
      clear hall hbel
      by_cases hlt : j < n
      · obtain ⟨b', off, hbe, hb, hit⟩ := HC.out j hlt
        subst hbe
        obtain ⟨d0, d1, -, -⟩ := hit.below hb HBW.out
        clear hit
        have hub := HI.out j hlt
        obtain ⟨y, hy⟩ : ∃ y : Nat, (Frm.it l j).1 = (y : Int) := ⟨(Frm.it l j).1.toNat, by omega⟩
        rw [hy] at hub d0
        obtain ⟨ub1, ub2⟩ := hub
        have y13 : y < 13 := by omega
        have y13' : (y : Int) < 13 := by omega
        have z0 := (PB8.out.below HB.out s8).cell y y13
        have HPJ := hideG (show (decide ((Frm.it l j).2.1 = 1) == q2 (Frm.it l j).1.toNat) = (decide ((Frm.it l j).2.1 = 1) == q2 y) by rw [hy, Int.toNat_natCast])
        have HNJ := hideG (fun (e : (decide ((Frm.it l j).2.1 = 1) == q2 (Frm.it l j).1.toNat) = false) => (show (l.all fun x => decide (x.2.1 = 1) == q2 x.1.toNat) = false from List.all_eq_false.2 ⟨Frm.it l j, by rw [Cli.it_get l j (by rw [← HN.out]; exact hlt)]; exact List.getElem_mem _, by rw [e]; exact Bool.false_ne_true⟩))
        obtain ⟨xa, hxa⟩ : ∃ xa, (Frm.it l j).2.1 = xa := ⟨_, rfl⟩
        rw [hxa] at d1
        have HXA := hideG hxa
        clear hy hxa
        have HD8 := hideG (fun m => HB.out.trans ((below_drewN wr m).mono HB.out.size))
        have HDW := hideG (fun m => HBW.out.trans ((below_drewN wr m).mono HBW.out.size))
        have NXT := hideG (fun (e : (decide ((Frm.it l j).2.1 = 1) == q2 (Frm.it l j).1.toNat) = true) i' (hi' : i' < j + 1) => (show (decide ((Frm.it l i').2.1 = 1) == q2 (Frm.it l i').1.toNat) = true from if q : i' = j then q ▸ e else HAL.out i' (by omega)))
        by_cases c : xa = 1
        · have c' : (xa == 1) = true := by simpa using c
          have HPK := hideG (show (decide ((Frm.it l j).2.1 = 1) == q2 (Frm.it l j).1.toNat) = q2 y by rw [HPJ.out, HXA.out, decide_eq_true c]; cases q2 y <;> rfl)
          have HCC := hideG c
          clear c
          cases q : q2 y
          · rw [q] at z0 HPK
            clear q
            go_wp2_with fail
            go_quiet (fail)
            go_wp2_with fail
            go_ret
            exact ⟨ret_bool (by rw [HF.out, HNJ.out HPK.out]; rfl), HDW.out _⟩
          · rw [q] at z0 HPK
            clear q
            go_wp2_with fail
            go_quiet (fail)
            go_wp2_with fail
            go_roundw
            case rel => exact ⟨j + 1, by omega, by go_num, NXT.out HPK.out, HD8.out _⟩
            case measure => simp [intOf]; omega
        · have c' : (xa == 1) = false := by simpa using c
          have HPK := hideG (show (decide ((Frm.it l j).2.1 = 1) == q2 (Frm.it l j).1.toNat) = !q2 y by rw [HPJ.out, HXA.out, decide_eq_false c]; cases q2 y <;> rfl)
          have HCC := hideG c
          clear c
          cases q : q2 y
          · rw [q] at z0 HPK
            clear q
            go_wp2_with fail
            go_quiet (fail)
            go_wp2_with fail
            go_roundw
            case rel => exact ⟨j + 1, by omega, by go_num, NXT.out HPK.out, HD8.out _⟩
            case measure => simp [intOf]; omega
          · rw [q] at z0 HPK
            clear q
            go_wp2_with fail
            go_quiet (fail)
            go_wp2_with fail
            go_ret
            exact ⟨ret_bool (by rw [HF.out, HNJ.out HPK.out]; rfl), HDW.out _⟩
      · have ej : j = n := by omega
        subst ej
        have YY := hideG (show (l.all fun x => decide (x.2.1 = 1) == q2 x.1.toNat) = true from List.all_eq_true.2 fun x hx => by
          obtain ⟨i, hi, rfl⟩ := List.getElem_of_mem hx
          rw [← Cli.it_get l i hi]; exact HAL.out i (by rw [HN.out]; exact hi))
        have RA := hideG (KI.out wr (BT8.out.trans (HB.out.mono BT8.out.size))).2
        have RB := hideG (KQ.out wr (B8.out.trans (HB.out.mono B8.out.size)))
        have AK := hideG (HAK.out fi q1 wr)
        rw [← HCI.out, ← HCQ.out] at AK
        go_wp2_with (first | refine wpList_load_mid rfl 36 _ rfl w1.heap.size 0 rfl CI _ RA.out Tryz.underlying36 rfl SIL.out ?_ | refine wpList_load_mid rfl 36 _ rfl w3.heap.size 0 rfl CQ _ RB.out Tryz.underlying36 rfl SQL.out ?_)
        refine AK.out.mono ?_
        rintro e w9 ⟨rfl, hb9⟩
        have B9 := hideG (HBW.out.trans (hb9.mono HBW.out.size))
        clear hb9
        go_wp2_with fail
        go_ret
        exact ⟨ret_bool (by rw [HF.out, YY.out]; rfl), B9.out⟩
  · have HF := hideG (show shapeR M 0 u l q0 q1 q2 = true by unfold shapeR; rw [if_neg (by decide), if_neg (by decide), if_neg (by decide)])
    have bw := (KW.out W2 (Below.refl _ _)).2.2.2.2.1
    have BW := hideG bw
    clear bw
    go_wp2_with fail
    go_ret
    exact ⟨ret_bool HF.out.symm, BW.out⟩

end Go.Proofs.YtchideljndagjabGreat

namespace Go.Proofs.YtchideljndagjabGreat
open Go.RowKit
set_option linter.unusedVariables false

def lgE (L : Srv.Log) (i : Nat) : Int × Cli.Fr := L.getD i (0, (0, 0, []))
theorem lgE_get (L : Srv.Log) (i : Nat) (hi : i < L.length) : lgE L i = L[i] := by unfold lgE; rw [List.getD_eq_getElem?_getD, List.getElem?_eq_getElem hi]; rfl
theorem lgE_mem {L : Srv.Log} {i : Nat} (hi : i < L.length) : lgE L i ∈ L := by rw [lgE_get L i hi]; exact List.getElem_mem hi
/-- All that was taken, as it lies: when, Kind, From, the items. -/
def LgAt (w : World) (v : Value) (L : Srv.Log) (X : List Value) : Prop :=
  ∃ (a : Option Addr) (cap : Nat), v = .slice a L.length cap ∧ L.length ≤ cap ∧ cap ≤ 9223372036854775807 ∧
    ∀ i, i < L.length → ∃ b off, a = some ⟨b, off, none⟩ ∧ b < w.heap.size ∧ (w.cell? ⟨b, off + i * 4, none⟩ = some (.int .i64 (lgE L i).1) ∧ w.cell? ⟨b, off + i * 4 + 1, none⟩ = some (.int .i64 (lgE L i).2.1) ∧ w.cell? ⟨b, off + i * 4 + 2, none⟩ = some (.int .i64 (lgE L i).2.2.1) ∧ w.cell? ⟨b, off + i * 4 + 3, none⟩ = some (X.getD i (.slice none 0 0))) ∧ ItemsAt w (X.getD i (.slice none 0 0)) (lgE L i).2.2.2

/-- What counts, as it lies. -/
def HTab (w : World) (H : Nat → RF) (G : Srv.Tab) : Prop := ∀ r u, r < 4 → u < 13 → (G r u = none → H (r * 13 + u) = RF.z) ∧ ∀ l, G r u = some l → ∃ x, H (r * 13 + u) = (2 * (r : Int) + 1, (u : Int), x) ∧ ItemsAt w x l
theorem htab_zero (w : World) : HTab w (fun _ => RF.z) Srv.none4 := fun r u _ _ => ⟨fun _ => rfl, fun l e => by cases e⟩
theorem HTab.kind {w : World} {H : Nat → RF} {G : Srv.Tab} (h : HTab w H G) {r u : Nat} (hr : r < 4) (hu : u < 13) : ((H (r * 13 + u)).1 = 0 ↔ Srv.mem (G r) u = false) := by
  cases e : G r u with
  | none => rw [(h r u hr hu).1 e]; unfold Srv.mem; rw [e]; exact ⟨fun _ => rfl, fun _ => rfl⟩
  | some l =>
    obtain ⟨x, e1, _⟩ := (h r u hr hu).2 l e
    rw [e1]; unfold Srv.mem; rw [e]
    constructor
    · intro q; have : 2 * (r : Int) + 1 = 0 := q; omega
    · intro q; cases q
theorem HTab.has {w : World} {H : Nat → RF} {G : Srv.Tab} (h : HTab w H G) (hz : ∀ r, G r 0 = none) {r : Nat} (hr : r < 4) : ∀ u, u < 13 → hasK (rowR H r) u = Srv.mem (G r) u := fun u hu => by
  unfold hasK rowR
  by_cases e : u = 0
  · subst e; unfold Srv.mem; rw [hz r]; rfl
  · rw [decide_eq_true (show 1 ≤ u by omega), Bool.true_and]
    cases q : Srv.mem (G r) u
    · exact decide_eq_false (fun c => c ((h.kind hr hu).2 q))
    · exact decide_eq_true (fun c => by rw [(h.kind hr hu).1 c] at q; cases q)
def updH (H : Nat → RF) (t : Nat) (x : RF) : Nat → RF := fun i => if i = t then x else H i
theorem HTab.upd {w : World} {H : Nat → RF} {G : Srv.Tab} (h : HTab w H G) {r u : Nat} (hr : r < 4) (hu : u < 13) {x : Value} {l : List Frm.It} (hx : ItemsAt w x l) : HTab w (updH H (r * 13 + u) (2 * (r : Int) + 1, (u : Int), x)) (Srv.updT G r u l) := fun r' u' hr' hu' => by
  unfold updH Srv.updT
  by_cases e : r' = r ∧ u' = u
  · obtain ⟨rfl, rfl⟩ := e
    rw [if_pos rfl, if_pos ⟨rfl, rfl⟩]
    exact ⟨fun q => (by cases q), fun l' q => ⟨x, rfl, (by rw [← Option.some.inj q]; exact hx)⟩⟩
  · rw [if_neg e, if_neg (by omega)]
    exact h r' u' hr' hu'
theorem cellF_upd (H : Nat → RF) (t : Nat) (x : RF) (j : Nat) : cellF (updH H t x) j = if j / 3 = t then pick3 x (j % 3) else cellF H j := by
  unfold cellF updH; split <;> rfl

theorem size_tab4 : (Tryz.prog.info? 238).map (·.size) = some 156 := by kernel_rfl
theorem zero_tab : Tryz.zeroCells238 = (tabL fun _ => RF.z).toArray := by kernel_rfl

/-- One entry more of a round's loop. -/
def stageN (C : Srv.Cf) (L : Srv.Log) (r j : Nat) : Srv.Tab := (L.take j).foldl (Srv.addE C r) (Srv.tabN C L r)
theorem stageN_succ (C : Srv.Cf) (L : Srv.Log) (r j : Nat) (hj : j < L.length) : stageN C L r (j + 1) = Srv.addE C r (stageN C L r j) (lgE L j) := by
  unfold stageN
  rw [List.take_succ_eq_append_getElem hj, List.foldl_append, lgE_get L j hj]; rfl
theorem stageN_end (C : Srv.Cf) (L : Srv.Log) (r : Nat) : stageN C L r L.length = Srv.tabN C L (r + 1) := by unfold stageN; rw [List.take_length]; rfl
/-- Nobody has the number 0. -/
theorem addE_zero {C : Srv.Cf} {r : Nat} (hr : r < 4) {G : Srv.Tab} (hz : ∀ r, G r 0 = none) {e : Int × Cli.Fr} (hok : Frm.okF e.2.1 e.2.2.1 e.2.2.2 = true) : ∀ r', Srv.addE C r G e r' 0 = none := by
  intro r'
  unfold Srv.addE Srv.addF
  split
  · split
    · rename_i hf
      have hk := (Srv.fits_new hf).1
      have h1 := (Frm.okF_parts hok).2.1
      unfold Frm.fromB at h1
      rw [if_pos (by omega), Num.clB_iff] at h1
      unfold Srv.updT
      rw [if_neg (by omega)]; exact hz r'
    · exact hz r'
  · exact hz r'
theorem stageN_none {C : Srv.Cf} {L : Srv.Log} (hok : ∀ e ∈ L, Frm.okF e.2.1 e.2.2.1 e.2.2.2 = true) : ∀ (r : Nat), r ≤ 4 → ∀ r', Srv.tabN C L r r' 0 = none
  | 0, _, r' => rfl
  | r + 1, h, r' => by
    have ih := stageN_none (C := C) hok r (by omega)
    have : ∀ (M : Srv.Log) (G : Srv.Tab), (∀ e ∈ M, Frm.okF e.2.1 e.2.2.1 e.2.2.2 = true) → (∀ r, G r 0 = none) → ∀ r', M.foldl (Srv.addE C r) G r' 0 = none := by
      intro M
      induction M with
      | nil => intro G _ hz; exact hz
      | cons e M ihM => intro G hM hz; exact ihM _ (fun x hx => hM x (List.mem_cons_of_mem _ hx)) (addE_zero (by omega) hz (hM e List.mem_cons_self))
    exact this L _ hok ih r'
theorem stageN_z {C : Srv.Cf} {L : Srv.Log} (hok : ∀ e ∈ L, Frm.okF e.2.1 e.2.2.1 e.2.2.2 = true) (r : Nat) (hr : r < 4) (j : Nat) : ∀ r', stageN C L r j r' 0 = none := by
  have : ∀ (M : Srv.Log) (G : Srv.Tab), (∀ e ∈ M, Frm.okF e.2.1 e.2.2.1 e.2.2.2 = true) → (∀ r, G r 0 = none) → ∀ r', M.foldl (Srv.addE C r) G r' 0 = none := by
    intro M
    induction M with
    | nil => intro G _ hz; exact hz
    | cons e M ihM => intro G hM hz; exact ihM _ (fun x hx => hM x (List.mem_cons_of_mem _ hx)) (addE_zero hr hz (hM e List.mem_cons_self))
  exact this _ _ (fun e he => hok e (List.mem_of_mem_take he)) (stageN_none hok r (by omega))

end Go.Proofs.YtchideljndagjabGreat
