/- Contracts of the steps of a script on clients: a client more, walked. -/
import Derived.Test.YtchideljndagjaaGreatPkClBD
import Derived.Deep.CutRange
namespace Go.Proofs.YtchideljndagjaaGreat
open Go.ChangeShapes Go.WideShapes Go.ChangeAt Go.RowKit
set_option linter.unusedVariables false

theorem len_own {ls : Nat → List Ow} {os : List Ow} {o : Ow} {m : Nat} (h : ∀ c, (ls c).length ≤ m) (ho : os.length = 3 * 1) : ∀ c, ((updL (updL ls 0 (ls 0 ++ os)) 4 (ls 4 ++ [o])) c).length ≤ m + 4 := by
  intro c
  have h0 := h 0
  have h4 := h 4
  have hc := h c
  unfold updL
  by_cases e4 : c = 4
  · rw [if_pos e4, List.length_append]; simp; omega
  · rw [if_neg e4]
    by_cases e0 : c = 0
    · rw [if_pos e0, List.length_append]; omega
    · rw [if_neg e0]; omega

set_option maxHeartbeats 8000000 in
set_option maxRecDepth 100000 in
theorem clients_new (pw m : Nat) (K : List Pair) (x y z : Int) (r : Nat → Value) (k : Nat) (N T M Dd : Int) (aD : Option Addr) (nD cD : Nat) (vi vm vs : Nat → Value) (D : Nat → DD) (w : World) (h : KI w pw m K) (e5 : r 5 = .int .i64 N) (e6 : r 6 = .int .i64 T) (e7 : r 7 = .int .i64 M) (e8 : r 8 = .int .i64 Dd) (e9 : r 9 = .slice aD nD cD)
    (hD : DrawsAt w aD nD cD vi vm vs D) (hDl : ∀ i k, i < nD → k < 3 → (dl (D i) k).length * 8 ≤ 140737488351232) (hlw : ∀ i x, i < nD → (((D i).inp ≠ [] ∧ (vi i).ownBlock = some x) ∨ ((D i).sm ≠ [] ∧ (vm i).ownBlock = some x) ∨ ((D i).ss ≠ [] ∧ (vs i).ownBlock = some x)) → x < pw)
    (hhk : ∀ q ∈ K, q.hh.length ≤ k) (hm : (m + 4) * 24 ≤ 140737488355328) (hKl : K.length ≤ k) (hk : (k + 1) * 40 ≤ 140737488355328) :
    Calls Tryz.prog 15 #[.pointer (some ⟨pw, 0, none⟩), .agg #[.int .i64 10, .int .i64 x, .int .i64 y, .int .i64 z, r 0, r 1, r 2, r 3, r 4, r 5, r 6, r 7, r 8, r 9]] w fun e w' => e = .returned (.bool true) ∧ ∃ K', KI w' pw (m + 4) K' ∧ K'.length ≤ K.length + 1 ∧ (∀ q ∈ K', q.hh.length ≤ k) ∧ Below pw w w' := by
  obtain ⟨d0, ui, um, us, hd0⟩ : ∃ d0 ui um us, (nD = 0 ∧ d0 = zDD ∧ ui = .slice none 0 0 ∧ um = .slice none 0 0 ∧ us = .slice none 0 0) ∨ (1 ≤ nD ∧ d0 = D 0 ∧ ui = vi 0 ∧ um = vm 0 ∧ us = vs 0) := by
    by_cases e : nD = 0
    · exact ⟨zDD, _, _, _, .inl ⟨e, rfl, rfl, rfl, rfl⟩⟩
    · exact ⟨D 0, _, _, _, .inr ⟨by omega, rfl, rfl, rfl, rfl⟩⟩
  have hdl0 : ∀ k, k < 3 → (dl d0 k).length * 8 ≤ 140737488351232 := fun k hk => by
    rcases hd0 with ⟨_, rfl, _⟩ | ⟨h1, rfl, _⟩
    · rcases (show k = 0 ∨ k = 1 ∨ k = 2 by omega) with rfl | rfl | rfl <;> exact Nat.zero_le _
    · exact hDl 0 k (by omega) hk
  have hlow0 : ∀ x, ((d0.inp ≠ [] ∧ ui.ownBlock = some x) ∨ (d0.sm ≠ [] ∧ um.ownBlock = some x) ∨ (d0.ss ≠ [] ∧ us.ownBlock = some x)) → x < pw := fun x hx => by
    rcases hd0 with ⟨_, rfl, rfl, rfl, rfl⟩ | ⟨h1, rfl, rfl, rfl, rfl⟩
    · rcases hx with ⟨e, _⟩ | ⟨e, _⟩ | ⟨e, _⟩ <;> exact absurd rfl e
    · exact hlw 0 x (by omega) hx
  obtain ⟨W0, hW0⟩ : ∃ W0, W0 = w.alloc (opObj 10 x y z r) := ⟨_, rfl⟩
  have hb0 : Below w.heap.size w W0 := by rw [hW0]; exact (Below.refl _ _).alloc (Nat.le_refl _) _
  have z0 : w.heap.size < W0.heap.size := by rw [hW0]; simp
  have HOP := hideG (fun (W : World) (hb : Below W0.heap.size W0 W) => op_cells (W := W) (by rw [← hW0]; exact hb) z0)
  have K0 := hideG (h.below hb0)
  have hpw : pw < w.heap.size := by obtain ⟨_, _, _, h1, _⟩ := h; exact h1.pw_lt
  have HB0 := hideG (hb0.mono (Nat.le_of_lt hpw))
  have HD0 := hideG (hD.below hb0)
  have HR := hideG (And.intro e5 (And.intro e6 (And.intro e7 (And.intro e8 e9))))
  have HDC := hideG hd0
  have HDL := hideG hdl0
  have HLW := hideG hlow0
  have HHK := hideG hhk
  unfold opObj at hW0
  have HW0 := hideG hW0
  obtain ⟨q0, q1, q5, _, q13⟩ := HOP.out W0 (Below.refl _ _)
  rw [e9] at q13
  have lD := hD.le
  have lM := hD.mx
  clear h hb0 hW0 hD hDl hlw hd0 hdl0 hlow0 hhk e5 e6 e7 e8 e9
  go_enter Tryz.func15, Tryz.ntmps15
  go_upto_region 1 with fail
  rw [← HW0.out]
  go_upto_if 25 with fail
  go_cut [5] from 26 to 30 (fun v wc => ∃ ad capd, v = .slice ad 1 capd ∧ DrawsAt wc ad 1 capd (fun _ => ui) (fun _ => um) (fun _ => us) (fun _ => d0) ∧ Below W0.heap.size W0 wc)
  case first =>
    by_cases hn : nD = 0
    · subst hn
      have FIN := hideG (show ∃ ad capd, Value.slice (some ⟨W0.heap.size, 0, none⟩) 1 1 = .slice ad 1 capd ∧ DrawsAt (W0.alloc (.cells #[.slice none 0 0, .int .i64 0, .int .i64 0, .int .i64 0, .slice none 0 0, .slice none 0 0] 74)) ad 1 capd (fun _ => ui) (fun _ => um) (fun _ => us) (fun _ => d0) ∧ Below W0.heap.size W0 (W0.alloc (.cells #[.slice none 0 0, .int .i64 0, .int .i64 0, .int .i64 0, .slice none 0 0, .slice none 0 0] 74)) from by
        rcases HDC.out with ⟨_, rfl, rfl, rfl, rfl⟩ | ⟨h1, _⟩
        · exact ⟨_, _, rfl, draws_zero W0, (Below.refl _ _).alloc (Nat.le_refl _) _⟩
        · omega)
      go_wp2_with fail
      go_meet
      exact FIN.out
    · have hn1 : (0 : Int) < (nD : Int) := by omega
      have FIN := hideG (show ∃ ad capd, Value.slice aD 1 cD = .slice ad 1 capd ∧ DrawsAt W0 ad 1 capd (fun _ => ui) (fun _ => um) (fun _ => us) (fun _ => d0) ∧ Below W0.heap.size W0 W0 from by
        rcases HDC.out with ⟨e, _⟩ | ⟨h1, rfl, rfl, rfl, rfl⟩
        · omega
        · exact ⟨aD, cD, rfl, draws_one HD0.out h1, Below.refl _ _⟩)
      go_wp2_with fail
      go_meet
      exact FIN.out
  case rest =>
    obtain ⟨ad, capd, rfl, hdr, hb1⟩ := hcut
    obtain ⟨w1, hw1⟩ : ∃ w1, w1 = wc := ⟨_, rfl⟩
    rw [← hw1] at hdr hb1 ⊢
    clear hw1
    obtain ⟨b', off, rfl, hb', _⟩ := hdr.cells 0 (by omega)
    have s1 := hb1.size
    have HGV := hideG (giveDraws_calls (some ⟨b', off, none⟩) 1 capd _ _ _ _ w1 hdr (by decide) (fun i k hi hk => HDL.out k hk))
    have HDR := hideG (fun (W : World) (hb : Below w1.heap.size w1 W) => hdr.below hb)
    have B1 := hideG hb1
    have HIN := hideG (draw_inI (hdr.its 0 (by omega)))
    clear hdr hb1 q0 q1 q5 q13
    go_wp2_with fail
    refine HGV.out.mono ?_
    rintro e w2 ⟨g, rfl, hg0, G, hfr, hgv, hb2⟩
    have s2 := hb2.size
    have hgl := hfr.lt
    have B2 := hideG (B1.out.trans (hb2.mono s1))
    have B12 := hideG hb2
    have HFR := hideG hfr
    have HGN := hideG hgv
    have c0 : w2.cell? ⟨g, 0, none⟩ = some (gsl (G 0 0) d0.inp) := (hfr.cell 0 (by omega)).trans rfl
    have c1 : w2.cell? ⟨g, 1, none⟩ = some (.int .i64 d0.ch) := (hfr.cell 1 (by omega)).trans rfl
    have c2 : w2.cell? ⟨g, 2, none⟩ = some (.int .i64 d0.ms) := (hfr.cell 2 (by omega)).trans rfl
    have c3 : w2.cell? ⟨g, 3, none⟩ = some (.int .i64 d0.sd) := (hfr.cell 3 (by omega)).trans rfl
    have c4 : w2.cell? ⟨g, 4, none⟩ = some (gsl (G 0 1) d0.sm) := (hfr.cell 4 (by omega)).trans rfl
    have c5 : w2.cell? ⟨g, 5, none⟩ = some (gsl (G 0 2) d0.ss) := (hfr.cell 5 (by omega)).trans rfl
    obtain ⟨gl0, gl1, gl2⟩ := given_draw hgv HIN.out HDL.out
    have HNX := hideG (fun (W : World) (hb : Below w2.heap.size w2 W) => newX_calls N T M Dd x _ _ _ d0 W (gl0.below hb) (gl1.below hb) (gl2.below hb))
    have HNY := hideG (fun (W : World) (hb : Below w1.heap.size w1 W) (hp : pw < W.heap.size) => newY_calls pw N T M Dd x ui um us d0 W ((HDR.out W hb).its 0 (by omega)) hp HLW.out)
    obtain ⟨q0, q1, q5, ⟨q9, q10, q11, q12⟩, q13⟩ := HOP.out w2 B2.out
    rw [HR.out.1] at q9
    rw [HR.out.2.1] at q10
    rw [HR.out.2.2.1] at q11
    rw [HR.out.2.2.2.1] at q12
    obtain ⟨E, hE⟩ : ∃ E, E = newE N T M Dd x d0.inp d0.ch d0.ms d0.sd d0.sm d0.ss := ⟨_, rfl⟩
    obtain ⟨cc, hcc⟩ : ∃ cc : Cli.Cl, cc = ⟨N, T, M, x, d0.inp, d0.ch, d0.ms, d0.sd, d0.sm, d0.ss⟩ := ⟨_, rfl⟩
    rw [← hE, ← hcc] at HNX HNY
    clear hfr hgv hb2 gl0 gl1 gl2 hE hcc q0 q5 q13
    generalize gsl (G 0 0) d0.inp = y0 at *
    generalize gsl (G 0 1) d0.sm = y1 at *
    generalize gsl (G 0 2) d0.ss = y2 at *
    have hwl2 : w.heap.size < w2.heap.size := by omega
    go_upto_region 7 with fail
    go_cut [7, 8] from 33 to 43 (fun q1 q2 wc => NewX w2 wc E cc q1 q2)
    case first =>
      go_region_with (go_at_call 47; refine (HNX.out _ (Below.refl w2.heap.size w2).drew).mono ?_; rintro e w3 ⟨p1, p2, rfl, hnx⟩; have HFIN := hideG (show NewX w2 w3 E cc p1 p2 from ⟨hnx.1, (Below.refl w2.heap.size w2).drew.trans hnx.2.1, hnx.2.2⟩); clear hnx)
      all_goals (go_wp2_with fail; go_meet; exact HFIN.out)
    case rest =>
      obtain ⟨hq2, hb3, hcx⟩ := hcut
      obtain ⟨w3, hw3⟩ : ∃ w3, w3 = wc := ⟨_, rfl⟩
      rw [← hw3] at hb3 hcx ⊢
      clear hw3
      subst hq2
      have s3 := hb3.size
      have B3 := hideG (B2.out.trans (hb3.mono (by omega)))
      have B13 := hideG (B12.out.trans (hb3.mono (by omega)))
      have B23 := hideG hb3
      have HCX := hideG hcx
      clear hcx hb3 c0 c1 c2 c3 c4 c5 q1 q9 q10 q11 q12
      obtain ⟨q0, q1, q5, ⟨q9, q10, q11, q12⟩, q13⟩ := HOP.out w3 B3.out
      rw [HR.out.1] at q9
      rw [HR.out.2.1] at q10
      rw [HR.out.2.2.1] at q11
      rw [HR.out.2.2.2.1] at q12
      have hd3 := HDR.out w3 B13.out
      obtain ⟨b2', off2, hbo, hb2', c0, c1, c2, c3, c4, c5⟩ := hd3.cells 0 (by omega)
      cases hbo
      rw [Nat.zero_mul, Nat.add_zero] at c0 c1 c2 c3 c4 c5
      have hwl3 : w.heap.size < w3.heap.size := by omega
      have hpw3 : pw < w3.heap.size := by omega
      clear q0 q5 q13 hd3
      go_upto_region 8 with fail
      go_cut [9, 10] from 44 to 54 (fun q1 q2 wc => NewY pw w3 wc E cc q1 q2)
      case first =>
        go_region_with (go_at_call 48; refine (HNY.out _ (B13.out.drew) hpw3).mono ?_; rintro e w4 ⟨p1, p2, rfl, hny⟩; have HFIN := hideG (show NewY pw w3 w4 E cc p1 p2 from ⟨hny.1, (Below.refl w3.heap.size w3).drew.trans hny.2.1, hny.2.2⟩); clear hny)
        all_goals (go_wp2_with fail; go_meet; exact HFIN.out)
      case rest =>
        obtain ⟨hq2, hb4, hcy⟩ := hcut
        obtain ⟨w4, hw4⟩ : ∃ w4, w4 = wc := ⟨_, rfl⟩
        rw [← hw4] at hb4 hcy ⊢
        clear hw4
        subst hq2
        have s4 := hb4.size
        have B4 := hideG (B3.out.trans (hb4.mono (by omega)))
        have B14 := hideG (B13.out.trans (hb4.mono (by omega)))
        have B24 := hideG (B23.out.trans (hb4.mono (by omega)))
        have B34 := hideG hb4
        have HCY := hideG hcy
        have HSD := hideG (show Calls Tryz.prog 49 #[.slice (some ⟨g, 0, none⟩) 1 4, .slice (some ⟨b', off, none⟩) 1 capd] w4 fun e w' => e = .returned (.bool true) ∧ Below w4.heap.size w4 w' from
          stillDraws_calls (some ⟨b', off, none⟩) 1 capd _ _ _ _ w4 w1.heap.size g G (HDR.out w4 B14.out) (by decide) (fun i k hi hk => HDL.out k hk) (HFR.out.block (B24.out.block g hgl)) (HGN.out.below B24.out))
        clear hcy hb4 q1 q9 q10 q11 q12 c0 c1 c2 c3 c4 c5
        go_wp2_with fail
        refine HSD.out.mono ?_
        rintro e w5 ⟨rfl, hb5⟩
        have s5 := hb5.size
        have B5 := hideG (B4.out.trans (hb5.mono (by omega)))
        have B25 := hideG (B24.out.trans (hb5.mono (by omega)))
        have B45 := hideG hb5
        clear hb5
        obtain ⟨F, nx, ls, i1, i2, i3, i4, i5, i6⟩ := K0.out
        have hnx3 : nx + 3 * ((1 : Nat) : Int) ≤ 1000000000000000000 := by omega
        have g1 : ∀ q, q < 3 * 1 → w1.heap.size ≤ gq G q ∧ gq G q < w2.heap.size := fun q hq => ⟨(HGN.out.lo (q / 3) (q % 3) (by omega) (by omega)).1, HGN.out.lt (q / 3) (q % 3) (by omega) (by omega)⟩
        have hfl : ∀ b, Foot F ls b → b < W0.heap.size := fun b hb => (i1.foot_lt hb).2
        have HOW := hideG (show Calls Tryz.prog 50 #[.pointer (some ⟨pw, 0, none⟩), .slice (some ⟨g, 0, none⟩) 1 4] w5 fun e w' => e = .returned (.tuple #[]) ∧ ∃ F' os o, InvW w' pw F' (nx + 3 * ((1 : Nat) : Int) + 1) (updL (updL ls 0 (ls 0 ++ os)) 4 (ls 4 ++ [o])) ∧ os.length = 3 * 1 ∧
            (∀ j, j < 3 → F' j = F j) ∧ Chg (fun b => b = pw ∨ b = g ∨ (∃ q, q < 3 * 1 ∧ b = gq G q) ∨ Foot F ls b) w5 w' ∧ ∀ b, b < w5.heap.size → b ≠ g → (∀ q, q < 3 * 1 → b ≠ gq G q) → ¬ Foot F ls b → ¬ Foot F' (updL (updL ls 0 (ls 0 ++ os)) 4 (ls 4 ++ [o])) b from
          ownDraws_calls pw F nx ls g 1 G (fun _ => d0) w5 (i1.below B5.out) i4 hnx3 (len24c (i6 0) hm) (len24d (i6 4) hm) (by decide) (fun q hq => HDL.out (q % 3) (Nat.mod_lt _ (by decide))) (HFR.out.block (B25.out.block g hgl)) ((HGN.out.below B25.out).base (by omega)) (by omega) (fun hf => by have := hfl g hf; omega) (fun q hq hf => by have := hfl _ hf; have := g1 q hq; omega))
        have HIK := hideG (And.intro i1 (And.intro i2 (And.intro i3 (And.intro i4 (And.intro i5 i6)))))
        have HG1 := hideG g1
        clear i1 i2 i3 i4 i5 i6 g1 hfl hnx3
        go_wp2_with fail
        refine HOW.out.mono ?_
        rintro e w6 ⟨rfl, F', os, o, j1, j2, j3, j4, j5⟩
        have s6 := j4.size
        have QQ := hideG (show QS pw W0 F ls w6 F' (updL (updL ls 0 (ls 0 ++ os)) 4 (ls 4 ++ [o])) from ⟨(Chg.of_below (S := fun b => b = pw ∨ Foot F ls b) B5.out).trans j4 (fun b e hb => by
            rcases e with e | e | ⟨q, hq, e⟩ | e
            · exact .inl e
            · omega
            · have := HG1.out q hq; omega
            · exact .inr e), j3, fun b hb hf => j5 b (by omega) (by omega) (fun q hq e => by have := HG1.out q hq; omega) hf⟩)
        have FK := hideG (show KI w6 pw (m + 4) K from ⟨F', _, _, j1, HIK.out.2.1.quiet HIK.out.1 QQ.out, HIK.out.2.2.1, by have := HIK.out.2.2.2.1; omega, by have := HIK.out.2.2.2.2.1; omega, len_own HIK.out.2.2.2.2.2 j2⟩)
        have BF := hideG (HB0.out.trans (QQ.out.belowpw HIK.out.1))
        have FM := hideG (show (∀ o' ∈ (updL (updL ls 0 (ls 0 ++ os)) 4 (ls 4 ++ [o])) 1, 0 ≤ o'.2.2 ∧ o'.2.2 ≤ 255) ∧ 0 ≤ nx + 3 * ((1 : Nat) : Int) + 1 ∧ nx + 3 * ((1 : Nat) : Int) + 1 ≤ ((m + 4 : Nat) : Int) ∧ ∀ c, ((updL (updL ls 0 (ls 0 ++ os)) 4 (ls 4 ++ [o])) c).length ≤ m + 4 from ⟨HIK.out.2.2.1, by have := HIK.out.2.2.2.1; omega, by have := HIK.out.2.2.2.2.1; omega, len_own HIK.out.2.2.2.2.2 j2⟩)
        have HGG := hideG (show W0.heap.size ≤ g ∧ g < w2.heap.size from ⟨by omega, hgl⟩)
        have HG2 := hideG (show ∀ q, q < 3 * 1 → W0.heap.size ≤ gq G q ∧ gq G q < w2.heap.size from fun q hq => by have := HG1.out q hq; omega)
        have HZ := hideG (show W0.heap.size ≤ w2.heap.size ∧ w2.heap.size ≤ w3.heap.size from ⟨by omega, s3⟩)
        have J1 := hideG j1
        have J4 := hideG j4
        have J5 := hideG j5
        have ee : (E != E) = false := by simp
        clear j1 j2 j3 j4 j5
        rcases HCX.out with ⟨hE, hq⟩ | ⟨hE, bx, S, hq, k1, k2⟩
        · subst hq
          rcases HCY.out with ⟨_, hq⟩ | ⟨hE', _⟩
          · subst hq
            have HEE := hideG hE
            clear hE
            go_wp2_with fail
            refine (num_calls _ _).mono ?_
            rintro e w7 ⟨rfl, hw7⟩
            rw [hw7]
            clear hw7
            go_wp2_with fail
            refine (num_calls _ _).mono ?_
            rintro e w7 ⟨rfl, hw7⟩
            rw [hw7]
            clear hw7
            go_wp2_with fail
            go_ret
            exact ⟨rfl, K, FK.out, by omega, HHK.out, BF.out⟩
          · exact absurd hE' hE
        · subst hq
          rcases HCY.out with ⟨hE', _⟩ | ⟨_, yb, R, hq, hRc, r4, k4⟩
          · exact absurd hE hE'
          · subst hq
            have HFN := hideG (fun (w9 w10 : World) (g9 cap9 : Nat) (B : Obj) hr9 hgr hat hw10 => new_fin (w9 := w9) (w10 := w10) (g9 := g9) (cap9 := cap9) (B := B) (k := k) (m := m + 4) HIK.out.1 HIK.out.2.1 FM.out.1 FM.out.2.1 FM.out.2.2.1 FM.out.2.2.2 J1.out QQ.out J4.out J5.out HGG.out HG2.out HZ.out.1 HZ.out.2 B34.out B45.out k1 k2 r4 k4 hRc hr9 hgr hat hw10 HHK.out)
            have c0 := (cell_f J1.out.blk 0 (by omega)).1
            have IR := hideG (HIK.out.2.1.quiet HIK.out.1 QQ.out).row
            have hpl6 := J1.out.pw_lt
            obtain ⟨i0, hi0, hz0, hz1, hz2⟩ := info_parts infoCl
            have hE0 := hE
            subst hE0
            clear hE k1 k2 r4 k4 hRc
            have k8 : (K.length + 1) * 8 ≤ 140737488355328 := by omega
            have k63 : K.length + 1 ≤ maxLen := by unfold maxLen; omega
            have HPB := hideG (show ∀ (w9 : World) (A B : Obj), ((w6.alloc A).alloc B).grownBy w9 (F' 0).ownBlock → w9.cell? ⟨pw, 0, none⟩ = some (F' 0) ∧ w9.frozen? ⟨pw, 0, none⟩ = false from fun w9 A B hgr => by
              have hbk : w9.heap[pw]? = w6.heap[pw]? := by
                rw [hgr.block pw (by simp; omega) (fun e => by have := IR.out.lt pw e.symm; omega), Below.heap_alloc _ _ _ (by simp; omega), Below.heap_alloc _ _ _ hpl6]
              have hb9 := hbk.trans J1.out.blk
              exact cell_f hb9 0 (by omega))
            go_wp2_with fail
            refine (num_calls _ _).mono ?_
            rintro e w7 ⟨rfl, hw7⟩
            rw [hw7]
            clear hw7
            go_wp2_with fail
            refine (num_calls _ _).mono ?_
            rintro e w7 ⟨rfl, hw7⟩
            rw [hw7]
            clear hw7
            go_wp2_with (at_builtin; refine wpList_append_one _ rfl _ _ 26 rfl (pw + 1) 51 i0 (.pointer none) 8 Tryz.underlying26 hi0 hz0 hz1 hz2 rfl (F' 0) K.length _ rfl ((IR.out.alloc _).alloc _) ⟨w6.heap.size + 1, 0, none⟩ 1 (.pointer (some ⟨w6.heap.size, 0, none⟩)) rfl (by simp [go_sem]) rfl k63 k8 (by simp; omega) ?_)
            intro g9 cap9 w9 hr9 hgr hat
            obtain ⟨d0', d0f⟩ := HPB.out w9 _ _ hgr
            obtain ⟨w10, hw10⟩ : ∃ w10, w10 = w9.setCell ⟨pw, 0, none⟩ (.slice (some ⟨g9, 0, none⟩) (K.length + 1) cap9) := ⟨_, rfl⟩
            have FIN := hideG (HFN.out w9 w10 g9 cap9 _ hr9 hgr (by simpa using hat) hw10)
            have HW10 := hideG hw10
            clear hr9 hgr hat hw10 c0
            go_wp2_with fail
            rw [← HW10.out]
            go_ret
            obtain ⟨K', f1, f2, f3, f4⟩ := FIN.out
            exact ⟨rfl, K', f1, f2, f3, HB0.out.trans f4⟩

end Go.Proofs.YtchideljndagjaaGreat
