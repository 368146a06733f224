/- Contract of veilref's guess: the only frame whose bytes these can be. -/
import Derived.Test.YtchideljndagjaaGreatPkClAI
import Derived.Test.YtchideljndagjaaGreatPkClAT
import Derived.Test.YtchideljndagjaaGreatPkClAJ
namespace Go.Proofs.YtchideljndagjaaGreat
open Go.ChangeShapes Go.WideShapes Go.ChangeAt Go.RowKit
set_option linter.unusedVariables false

theorem gL_length (k : Int) (b : List Int) (m : Nat) : (Frm.gL k b m).length = m := by simp [Frm.gL]
theorem gL_succ (k : Int) (b : List Int) (m : Nat) : Frm.gL k b (m + 1) = Frm.gL k b m ++ [Frm.gI k b (3 + m * Frm.size k)] := by
  unfold Frm.gL; rw [List.range_succ, List.map_append]; rfl

theorem gN_in {b : List Int} (hb : Frm.isB b) (a : Nat) : inI (Frm.gN b a) := by
  have h0 := loN_bd hb a 8
  rw [loN_num] at h0
  have h1 : Frm.numAt b a < 18446744073709551616 := h0.2
  unfold inI Frm.gN
  split <;> omega

theorem gI_in {b : List Int} (hb : Frm.isB b) (k : Int) (a : Nat) : inIt (Frm.gI k b a) := by
  have z : inI 0 := by unfold inI; omega
  have h0 := Frm.isB_at hb a
  refine ⟨?_, ?_, ?_, ?_⟩
  · show inI (Frm.bAt b a); unfold inI; omega
  · show inI (if 1 ≤ Frm.wid k then Frm.gN b (a + 1) else 0); split; exact gN_in hb _; exact z
  · show inI (if 2 ≤ Frm.wid k then Frm.gN b (a + 9) else 0); split; exact gN_in hb _; exact z
  · show inI (if 3 ≤ Frm.wid k then Frm.gN b (a + 17) else 0); split; exact gN_in hb _; exact z

theorem gL_in {b : List Int} (hb : Frm.isB b) (k : Int) (m : Nat) : ∀ x ∈ Frm.gL k b m, inIt x := by
  intro x hx
  unfold Frm.gL at hx
  obtain ⟨i, _, rfl⟩ := List.mem_map.1 hx
  exact gI_in hb k _

set_option maxHeartbeats 4000000 in
set_option maxRecDepth 100000 in
theorem guess_calls (v : Value) (zs : List Int) (w : World) (h : BytesAt w v zs) (h3 : 3 ≤ zs.length) :
    Calls Tryz.prog 102 #[v] w fun e w' => ∃ va, e = .returned (.agg #[.int .i64 (Frm.bAt zs 0), .int .i64 (Frm.bAt zs 1), va]) ∧ ∃ m, Frm.GM zs m ∧ w'.ownsRow w.heap.size 142 4 va m (flat4 (Frm.gL (Frm.bAt zs 0) zs m)) ∧ Below w.heap.size w w' := by
  obtain ⟨i1, hi1, hy0, hy1, hy2⟩ := info_parts infoIt
  have HM := hideG (fun (w1 : World) (hb : Below w.heap.size w w1) => h.below hb)
  obtain ⟨a, cap, rfl, l2, l3, hb, hc⟩ := bytes_view h
  have HB := hideG hb
  have HC := hideG hc
  clear h hb hc
  obtain ⟨L, hL⟩ : ∃ L, L = zs.length := ⟨_, rfl⟩
  rw [← hL] at l2 HM HC h3 ⊢
  have HL := hideG hL
  clear hL
  obtain ⟨b, off, rfl, hlt, c0⟩ := HC.out 0 (by omega)
  obtain ⟨b', off', ea, _, c1⟩ := HC.out 1 (by omega)
  simp only [Option.some.injEq, Addr.mk.injEq, and_true] at ea
  obtain ⟨rfl, rfl⟩ := ea
  obtain ⟨b', off', ea, _, c2⟩ := HC.out 2 (by omega)
  simp only [Option.some.injEq, Addr.mk.injEq, and_true] at ea
  obtain ⟨rfl, rfl⟩ := ea
  rw [Nat.add_zero] at c0
  have gne : b ≠ w.heap.size := by omega
  have B0 := Frm.isB_at HB.out 0
  have B1 := Frm.isB_at HB.out 1
  have B2 := Frm.isB_at HB.out 2
  have HGM := hideG (fun m (h1 : m ≤ (Frm.bAt zs 2).toNat) (h2 : m = (Frm.bAt zs 2).toNat ∨ zs.length ≤ 3 + m * Frm.size (Frm.bAt zs 0)) => (show Frm.GM zs m from ⟨h1, h2⟩))
  obtain ⟨k, hk⟩ : ∃ k, k = Frm.bAt zs 0 := ⟨_, rfl⟩
  obtain ⟨fr, hfr⟩ : ∃ fr, fr = Frm.bAt zs 1 := ⟨_, rfl⟩
  obtain ⟨n, hn⟩ : ∃ n : Nat, n = (Frm.bAt zs 2).toNat := ⟨_, rfl⟩
  have hn' : Frm.bAt zs 2 = (n : Int) := by omega
  rw [← hk] at c0 B0 HGM ⊢
  rw [← hfr] at c1 B1 ⊢
  rw [← hn, ← HL.out] at HGM
  rw [hn'] at c2 B2
  clear hk hfr hn hn'
  have hs := Frm.wid_le k
  have HRS := hideG (fun m => gL_succ k zs m)
  have HGI := hideG (fun q => (show Frm.gI k zs q = (Frm.bAt zs q, if 1 ≤ Frm.wid k then Frm.gN zs (q + 1) else 0, if 2 ≤ Frm.wid k then Frm.gN zs (q + 9) else 0, if 3 ≤ Frm.wid k then Frm.gN zs (q + 17) else 0) from rfl))
  obtain ⟨W, hWW⟩ : ∃ W, W = Frm.wid k := ⟨_, rfl⟩
  obtain ⟨S, hSS⟩ : ∃ S, S = Frm.size k := ⟨_, rfl⟩
  have hS : S = 1 + 8 * W := by rw [hSS, hWW]; rfl
  rw [← hSS] at HGM HRS
  rw [← hWW] at HGI hs
  have HWW := hideG hWW
  have s25 : S ≤ 25 := by omega
  have HSE := hideG hS
  clear hSS hWW hS
  go_enter Tryz.func102, Tryz.ntmps102
  go_wp2_with fail
  go_cut [3] from 8 to 16 (fun s wc => s = .pointer (some ⟨w.heap.size + 1, 0, none⟩) ∧ wc.heap[w.heap.size]? = some (.cells #[.int .i64 0, .int .i64 0, .slice none 0 0] 40 (0, 0)) ∧
    wc.heap[w.heap.size + 1]? = some (.cells #[.int .i64 k, .int .i64 fr, .slice none 0 0] 40 (0, 0)) ∧ Below w.heap.size w wc ∧ w.heap.size + 2 ≤ wc.heap.size)
  case first =>
    go_region
    all_goals (go_wp2_with fail; go_meet; exact ⟨rfl, heap_alloc2_old w _ _, heap_alloc2_new w _ _, by go_grown, by simp⟩)
  case rest =>
    obtain ⟨rfl, hg8, hg9, hbel, hsz⟩ := hcut
    have d0 : wc.cell? ⟨w.heap.size + 1, 0, none⟩ = some (.int .i64 k) := by simp only [World.cell?, hg9]; rfl
    have G8 := hideG hg8
    have G9 := hideG hg9
    have BL := hideG hbel
    clear hg8 hg9 hbel c0 c1
    go_wp2_with fail
    refine (written_calls _ (0, 0, 0, 0) _).mono ?_
    rintro e w1 ⟨aN, rfl, _, hb1⟩
    rw [← HWW.out]
    have s1 := hb1.size
    have K8 := hideG ((hb1.block w.heap.size (by omega)).trans G8.out)
    have K9 := hideG ((hb1.block (w.heap.size + 1) (by omega)).trans G9.out)
    have L1 := hideG (BL.out.trans (hb1.mono (by omega)))
    clear hb1 d0
    go_wp2_with fail
    go_loopw [5, 6] (fun q i wr => ∃ (m M : Nat) (va : Value), M = m * S ∧ m ≤ n ∧ q = .int .i64 (3 + (M : Int)) ∧ i = .int .i64 (m : Int) ∧ wr.heap[w.heap.size]? = some (.cells #[.int .i64 0, .int .i64 0, .slice none 0 0] 40 (0, 0)) ∧
      wr.heap[w.heap.size + 1]? = some (.cells #[.int .i64 k, .int .i64 fr, va] 40 (0, 0)) ∧ wr.ownsRow (w.heap.size + 2) 142 4 va m (flat4 (Frm.gL k zs m)) ∧ Below w.heap.size w wr ∧ w.heap.size + 2 ≤ wr.heap.size) (fun _ i _ => n - (intOf i).toNat)
    case atStart => exact ⟨0, 0, .slice none 0 0, by omega, by omega, rfl, rfl, K8.out, K9.out, World.ownsRow_nil _ _ _ _, L1.out, by omega⟩
    case round =>
      clear K8 K9 L1 s1 G8 G9 BL hsz
      obtain ⟨m, M, va, hM, hmn, rfl, rfl, hg8, hg9, hown, hbel, hsz⟩ := hrel
      obtain ⟨a', c', hv'⟩ := owns_form hown
      subst hv'
      have HMM := hideG hM
      have hM2 : M ≤ 255 * 25 := by rw [hM]; exact Nat.mul_le_mul (by omega) s25
      have G8 := hideG hg8
      have G9 := hideG hg9
      have OW := hideG hown
      have BL := hideG hbel
      have BA := hideG (HM.out _ hbel)
      have e2 := hbel.cell (p := ⟨b, off + 2, none⟩) hlt
      rw [c2] at e2
      have hb2 : b < wr.heap.size := by omega
      have gne2 : b ≠ wr.heap.size := by omega
      by_cases t1 : m < n
      · have t1' : (m : Int) < (n : Int) := by omega
        by_cases t2 : 3 + M < L
        · have t2' : (3 : Int) + (M : Int) < (L : Int) := by omega
          obtain ⟨b', off', ea, _, cq⟩ := HC.out (3 + M) t2
          simp only [Option.some.injEq, Addr.mk.injEq, and_true] at ea
          obtain ⟨rfl, rfl⟩ := ea
          have e3 := hbel.cell (p := ⟨b, off + (3 + M), none⟩) hlt
          rw [cq] at e3
          have BQ := Frm.isB_at HB.out (3 + M)
          obtain ⟨xi, hxi⟩ : ∃ xi, xi = Frm.bAt zs (3 + M) := ⟨_, rfl⟩
          have HNX := hideG (show Frm.gL k zs (m + 1) = Frm.gL k zs m ++ [Frm.gI k zs (3 + M)] by rw [HRS.out, HMM.out])
          have HIT := hideG (HGI.out (3 + M))
          rw [← hxi] at e3 BQ HIT
          clear hg8 hg9 hown hbel hM cq hxi
          have etn : ((3 : Int) + (M : Int)).toNat = 3 + M := by omega
          rcases (show W = 0 ∨ W = 1 ∨ W = 2 ∨ W = 3 by omega) with rfl | rfl | rfl | rfl
          · have HITW := hideG (show Frm.gI k zs (3 + M) = (xi, 0, 0, 0) from HIT.out)
            have d2 : wr.cell? ⟨w.heap.size + 1, 2, none⟩ = some (.slice a' m c') := by simp only [World.cell?, G9.out]; rfl
            have A2 : ∀ ob, (wr.alloc ob).cell? ⟨w.heap.size + 1, 2, none⟩ = some (.slice a' m c') := fun ob => by
              rw [((Below.refl wr.heap.size wr).alloc (Nat.le_refl _) ob).cell (p := ⟨w.heap.size + 1, 2, none⟩) (by simp; omega)]; exact d2
            go_wp2_with (at_builtin; refine wpList_append_own _ rfl _ _ 38 rfl (w.heap.size + 2) 142 i1 (.agg #[.int .i64 0, .int .i64 0, .int .i64 0, .int .i64 0]) 4 32 Tryz.underlying38 hi1 hy0 hy1 hy2 rfl (by decide) _ _ _ rfl ((OW.out.alloc _).alloc _) ⟨wr.heap.size + 1, 0, none⟩ 1 1 [.int .i64 xi, .int .i64 0, .int .i64 0, .int .i64 0] rfl rfl ?c1 ?c2 ?c3 ?c4 ?c5 ?_)
            case c1 =>
              have := cell_four_new (wr.alloc (.cells #[.int .i64 xi, .int .i64 0, .int .i64 0, .int .i64 0] 142)) (.int .i64 xi) (.int .i64 0) (.int .i64 0) (.int .i64 0) 142
              simpa using this
            case c2 => intro y hy; simp at hy; rcases hy with rfl | rfl <;> rfl
            case c3 => unfold maxLen; omega
            case c4 => omega
            case c5 => simp; omega
            intro v' w2 hown' hgrow' _
            obtain ⟨a2, c2', hv2⟩ := owns_form hown'
            subst hv2
            have z2 := hgrow'.size
            simp at z2
            have rne : ∀ g, g < w.heap.size + 2 → (Value.slice a' m c').ownBlock ≠ some g := fun g hg e => by have := (OW.out.lt g e).1; omega
            have hg9 : w2.heap[w.heap.size + 1]? = some (.cells #[.int .i64 k, .int .i64 fr, .slice a' m c'] 40 (0, 0)) := by
              rw [hgrow'.block _ (by simp; omega) (fun e => rne _ (by omega) e.symm), Below.heap_alloc _ _ _ (by simp; omega), Below.heap_alloc _ _ _ (by omega)]; exact G9.out
            have hg8 : w2.heap[w.heap.size]? = some (.cells #[.int .i64 0, .int .i64 0, .slice none 0 0] 40 (0, 0)) := by
              rw [hgrow'.block _ (by simp; omega) (fun e => rne _ (by omega) e.symm), Below.heap_alloc _ _ _ (by simp; omega), Below.heap_alloc _ _ _ (by omega)]; exact G8.out
            have hb2' : Below w.heap.size w w2 := (((BL.out.alloc (by omega) _).alloc (by simp; omega) _).grown hgrow' (by simp; omega) (fun y hy => by have := (OW.out.lt y hy).1; omega))
            have O2 := hideG (show w2.ownsRow (w.heap.size + 2) 142 4 (.slice a2 (m + 1) c2') (m + 1) (flat4 (Frm.gL k zs (m + 1))) by rw [HNX.out, HITW.out, flat4_append]; exact hown')
            have J8 := hideG hg8
            have J9 := hideG hg9
            have L2 := hideG hb2'
            have y2 : w2.cell? ⟨w.heap.size + 1, 2, none⟩ = some (.slice a' m c') := by simp only [World.cell?, hg9]; rfl
            have f2 : w2.frozen? ⟨w.heap.size + 1, 2, none⟩ = false := by simp [World.frozen?, hg9]
            clear hown' hgrow' hg8 hg9 hb2' rne d2 A2
            go_wp2_with fail
            go_roundw
            case rel =>
              refine ⟨m + 1, M + 1, .slice a2 (m + 1) c2', ?_, by omega, ?_, by go_num, ?_, ?_, ?_, ?_, ?_⟩
              · (rw [Nat.add_mul, ← HMM.out, HSE.out]) <;> omega
              · (congr 1) <;> omega
              · rw [Below.heap_setCell _ _ _ _ (by simp)]; exact J8.out
              · exact heap_setCell_same w2 (w.heap.size + 1) 2 #[.int .i64 k, .int .i64 fr, .slice a' m c'] 40 _ J9.out
              · exact ownsRow_chg (S := fun x => x = w.heap.size + 1) O2.out (Chg.setCell w2 ⟨w.heap.size + 1, 2, none⟩ _) (fun x hx e => by have := (O2.out.lt x hx).1; omega)
              · exact L2.out.setCell (p := ⟨w.heap.size + 1, 2, none⟩) (by simp) _
              · simp [World.setCell]; omega
            case measure => simp [intOf]; omega
          · have HITW := hideG (show Frm.gI k zs (3 + M) = (xi, Frm.gN zs (3 + M + 1), 0, 0) from HIT.out)
            obtain ⟨ga, hga⟩ : ∃ x, x = Frm.gN zs (3 + M + 1) := ⟨_, rfl⟩
            rw [← hga] at HITW
            have Hga := hideG hga
            clear hga
            go_wp2_with fail
            refine (rnumber_calls _ zs _ (3 + M + 1) _ (BA.out.below (by go_grown)) (by omega) (by omega)).mono ?_
            rintro e w' ⟨rfl, rfl⟩
            rw [← Hga.out]
            have d2 : wr.cell? ⟨w.heap.size + 1, 2, none⟩ = some (.slice a' m c') := by simp only [World.cell?, G9.out]; rfl
            have A2 : ∀ ob, (wr.alloc ob).cell? ⟨w.heap.size + 1, 2, none⟩ = some (.slice a' m c') := fun ob => by
              rw [((Below.refl wr.heap.size wr).alloc (Nat.le_refl _) ob).cell (p := ⟨w.heap.size + 1, 2, none⟩) (by simp; omega)]; exact d2
            go_wp2_with (at_builtin; refine wpList_append_own _ rfl _ _ 38 rfl (w.heap.size + 2) 142 i1 (.agg #[.int .i64 0, .int .i64 0, .int .i64 0, .int .i64 0]) 4 32 Tryz.underlying38 hi1 hy0 hy1 hy2 rfl (by decide) _ _ _ rfl ((OW.out.alloc _).alloc _) ⟨wr.heap.size + 1, 0, none⟩ 1 1 [.int .i64 xi, .int .i64 ga, .int .i64 0, .int .i64 0] rfl rfl ?c1 ?c2 ?c3 ?c4 ?c5 ?_)
            case c1 =>
              have := cell_four_new (wr.alloc (.cells #[.int .i64 xi, .int .i64 ga, .int .i64 0, .int .i64 0] 142)) (.int .i64 xi) (.int .i64 ga) (.int .i64 0) (.int .i64 0) 142
              simpa using this
            case c2 => intro y hy; simp at hy; rcases hy with rfl | rfl | rfl <;> rfl
            case c3 => unfold maxLen; omega
            case c4 => omega
            case c5 => simp; omega
            intro v' w2 hown' hgrow' _
            obtain ⟨a2, c2', hv2⟩ := owns_form hown'
            subst hv2
            have z2 := hgrow'.size
            simp at z2
            have rne : ∀ g, g < w.heap.size + 2 → (Value.slice a' m c').ownBlock ≠ some g := fun g hg e => by have := (OW.out.lt g e).1; omega
            have hg9 : w2.heap[w.heap.size + 1]? = some (.cells #[.int .i64 k, .int .i64 fr, .slice a' m c'] 40 (0, 0)) := by
              rw [hgrow'.block _ (by simp; omega) (fun e => rne _ (by omega) e.symm), Below.heap_alloc _ _ _ (by simp; omega), Below.heap_alloc _ _ _ (by omega)]; exact G9.out
            have hg8 : w2.heap[w.heap.size]? = some (.cells #[.int .i64 0, .int .i64 0, .slice none 0 0] 40 (0, 0)) := by
              rw [hgrow'.block _ (by simp; omega) (fun e => rne _ (by omega) e.symm), Below.heap_alloc _ _ _ (by simp; omega), Below.heap_alloc _ _ _ (by omega)]; exact G8.out
            have hb2' : Below w.heap.size w w2 := (((BL.out.alloc (by omega) _).alloc (by simp; omega) _).grown hgrow' (by simp; omega) (fun y hy => by have := (OW.out.lt y hy).1; omega))
            have O2 := hideG (show w2.ownsRow (w.heap.size + 2) 142 4 (.slice a2 (m + 1) c2') (m + 1) (flat4 (Frm.gL k zs (m + 1))) by rw [HNX.out, HITW.out, flat4_append]; exact hown')
            have J8 := hideG hg8
            have J9 := hideG hg9
            have L2 := hideG hb2'
            have y2 : w2.cell? ⟨w.heap.size + 1, 2, none⟩ = some (.slice a' m c') := by simp only [World.cell?, hg9]; rfl
            have f2 : w2.frozen? ⟨w.heap.size + 1, 2, none⟩ = false := by simp [World.frozen?, hg9]
            clear hown' hgrow' hg8 hg9 hb2' rne d2 A2
            go_wp2_with fail
            go_roundw
            case rel =>
              refine ⟨m + 1, M + 9, .slice a2 (m + 1) c2', ?_, by omega, ?_, by go_num, ?_, ?_, ?_, ?_, ?_⟩
              · (rw [Nat.add_mul, ← HMM.out, HSE.out]) <;> omega
              · (congr 1) <;> omega
              · rw [Below.heap_setCell _ _ _ _ (by simp)]; exact J8.out
              · exact heap_setCell_same w2 (w.heap.size + 1) 2 #[.int .i64 k, .int .i64 fr, .slice a' m c'] 40 _ J9.out
              · exact ownsRow_chg (S := fun x => x = w.heap.size + 1) O2.out (Chg.setCell w2 ⟨w.heap.size + 1, 2, none⟩ _) (fun x hx e => by have := (O2.out.lt x hx).1; omega)
              · exact L2.out.setCell (p := ⟨w.heap.size + 1, 2, none⟩) (by simp) _
              · simp [World.setCell]; omega
            case measure => simp [intOf]; omega
          · have HITW := hideG (show Frm.gI k zs (3 + M) = (xi, Frm.gN zs (3 + M + 1), Frm.gN zs (3 + M + 9), 0) from HIT.out)
            obtain ⟨ga, hga⟩ : ∃ x, x = Frm.gN zs (3 + M + 1) := ⟨_, rfl⟩
            obtain ⟨gb, hgb⟩ : ∃ x, x = Frm.gN zs (3 + M + 9) := ⟨_, rfl⟩
            rw [← hga, ← hgb] at HITW
            have Hga := hideG hga
            clear hga
            have Hgb := hideG hgb
            clear hgb
            go_wp2_with fail
            refine (rnumber_calls _ zs _ (3 + M + 1) _ (BA.out.below (by go_grown)) (by omega) (by omega)).mono ?_
            rintro e w' ⟨rfl, rfl⟩
            rw [← Hga.out]
            go_wp2_with fail
            refine (rnumber_calls _ zs _ (3 + M + 9) _ (BA.out.below (by go_grown)) (by omega) (by omega)).mono ?_
            rintro e w' ⟨rfl, rfl⟩
            rw [← Hgb.out]
            have d2 : wr.cell? ⟨w.heap.size + 1, 2, none⟩ = some (.slice a' m c') := by simp only [World.cell?, G9.out]; rfl
            have A2 : ∀ ob, (wr.alloc ob).cell? ⟨w.heap.size + 1, 2, none⟩ = some (.slice a' m c') := fun ob => by
              rw [((Below.refl wr.heap.size wr).alloc (Nat.le_refl _) ob).cell (p := ⟨w.heap.size + 1, 2, none⟩) (by simp; omega)]; exact d2
            go_wp2_with (at_builtin; refine wpList_append_own _ rfl _ _ 38 rfl (w.heap.size + 2) 142 i1 (.agg #[.int .i64 0, .int .i64 0, .int .i64 0, .int .i64 0]) 4 32 Tryz.underlying38 hi1 hy0 hy1 hy2 rfl (by decide) _ _ _ rfl ((OW.out.alloc _).alloc _) ⟨wr.heap.size + 1, 0, none⟩ 1 1 [.int .i64 xi, .int .i64 ga, .int .i64 gb, .int .i64 0] rfl rfl ?c1 ?c2 ?c3 ?c4 ?c5 ?_)
            case c1 =>
              have := cell_four_new (wr.alloc (.cells #[.int .i64 xi, .int .i64 ga, .int .i64 gb, .int .i64 0] 142)) (.int .i64 xi) (.int .i64 ga) (.int .i64 gb) (.int .i64 0) 142
              simpa using this
            case c2 => intro y hy; simp at hy; rcases hy with rfl | rfl | rfl | rfl <;> rfl
            case c3 => unfold maxLen; omega
            case c4 => omega
            case c5 => simp; omega
            intro v' w2 hown' hgrow' _
            obtain ⟨a2, c2', hv2⟩ := owns_form hown'
            subst hv2
            have z2 := hgrow'.size
            simp at z2
            have rne : ∀ g, g < w.heap.size + 2 → (Value.slice a' m c').ownBlock ≠ some g := fun g hg e => by have := (OW.out.lt g e).1; omega
            have hg9 : w2.heap[w.heap.size + 1]? = some (.cells #[.int .i64 k, .int .i64 fr, .slice a' m c'] 40 (0, 0)) := by
              rw [hgrow'.block _ (by simp; omega) (fun e => rne _ (by omega) e.symm), Below.heap_alloc _ _ _ (by simp; omega), Below.heap_alloc _ _ _ (by omega)]; exact G9.out
            have hg8 : w2.heap[w.heap.size]? = some (.cells #[.int .i64 0, .int .i64 0, .slice none 0 0] 40 (0, 0)) := by
              rw [hgrow'.block _ (by simp; omega) (fun e => rne _ (by omega) e.symm), Below.heap_alloc _ _ _ (by simp; omega), Below.heap_alloc _ _ _ (by omega)]; exact G8.out
            have hb2' : Below w.heap.size w w2 := (((BL.out.alloc (by omega) _).alloc (by simp; omega) _).grown hgrow' (by simp; omega) (fun y hy => by have := (OW.out.lt y hy).1; omega))
            have O2 := hideG (show w2.ownsRow (w.heap.size + 2) 142 4 (.slice a2 (m + 1) c2') (m + 1) (flat4 (Frm.gL k zs (m + 1))) by rw [HNX.out, HITW.out, flat4_append]; exact hown')
            have J8 := hideG hg8
            have J9 := hideG hg9
            have L2 := hideG hb2'
            have y2 : w2.cell? ⟨w.heap.size + 1, 2, none⟩ = some (.slice a' m c') := by simp only [World.cell?, hg9]; rfl
            have f2 : w2.frozen? ⟨w.heap.size + 1, 2, none⟩ = false := by simp [World.frozen?, hg9]
            clear hown' hgrow' hg8 hg9 hb2' rne d2 A2
            go_wp2_with fail
            go_roundw
            case rel =>
              refine ⟨m + 1, M + 17, .slice a2 (m + 1) c2', ?_, by omega, ?_, by go_num, ?_, ?_, ?_, ?_, ?_⟩
              · (rw [Nat.add_mul, ← HMM.out, HSE.out]) <;> omega
              · (congr 1) <;> omega
              · rw [Below.heap_setCell _ _ _ _ (by simp)]; exact J8.out
              · exact heap_setCell_same w2 (w.heap.size + 1) 2 #[.int .i64 k, .int .i64 fr, .slice a' m c'] 40 _ J9.out
              · exact ownsRow_chg (S := fun x => x = w.heap.size + 1) O2.out (Chg.setCell w2 ⟨w.heap.size + 1, 2, none⟩ _) (fun x hx e => by have := (O2.out.lt x hx).1; omega)
              · exact L2.out.setCell (p := ⟨w.heap.size + 1, 2, none⟩) (by simp) _
              · simp [World.setCell]; omega
            case measure => simp [intOf]; omega
          · have HITW := hideG (show Frm.gI k zs (3 + M) = (xi, Frm.gN zs (3 + M + 1), Frm.gN zs (3 + M + 9), Frm.gN zs (3 + M + 17)) from HIT.out)
            obtain ⟨ga, hga⟩ : ∃ x, x = Frm.gN zs (3 + M + 1) := ⟨_, rfl⟩
            obtain ⟨gb, hgb⟩ : ∃ x, x = Frm.gN zs (3 + M + 9) := ⟨_, rfl⟩
            obtain ⟨gc, hgc⟩ : ∃ x, x = Frm.gN zs (3 + M + 17) := ⟨_, rfl⟩
            rw [← hga, ← hgb, ← hgc] at HITW
            have Hga := hideG hga
            clear hga
            have Hgb := hideG hgb
            clear hgb
            have Hgc := hideG hgc
            clear hgc
            go_wp2_with fail
            refine (rnumber_calls _ zs _ (3 + M + 1) _ (BA.out.below (by go_grown)) (by omega) (by omega)).mono ?_
            rintro e w' ⟨rfl, rfl⟩
            rw [← Hga.out]
            go_wp2_with fail
            refine (rnumber_calls _ zs _ (3 + M + 9) _ (BA.out.below (by go_grown)) (by omega) (by omega)).mono ?_
            rintro e w' ⟨rfl, rfl⟩
            rw [← Hgb.out]
            go_wp2_with fail
            refine (rnumber_calls _ zs _ (3 + M + 17) _ (BA.out.below (by go_grown)) (by omega) (by omega)).mono ?_
            rintro e w' ⟨rfl, rfl⟩
            rw [← Hgc.out]
            have d2 : wr.cell? ⟨w.heap.size + 1, 2, none⟩ = some (.slice a' m c') := by simp only [World.cell?, G9.out]; rfl
            have A2 : ∀ ob, (wr.alloc ob).cell? ⟨w.heap.size + 1, 2, none⟩ = some (.slice a' m c') := fun ob => by
              rw [((Below.refl wr.heap.size wr).alloc (Nat.le_refl _) ob).cell (p := ⟨w.heap.size + 1, 2, none⟩) (by simp; omega)]; exact d2
            go_wp2_with (at_builtin; refine wpList_append_own _ rfl _ _ 38 rfl (w.heap.size + 2) 142 i1 (.agg #[.int .i64 0, .int .i64 0, .int .i64 0, .int .i64 0]) 4 32 Tryz.underlying38 hi1 hy0 hy1 hy2 rfl (by decide) _ _ _ rfl ((OW.out.alloc _).alloc _) ⟨wr.heap.size + 1, 0, none⟩ 1 1 [.int .i64 xi, .int .i64 ga, .int .i64 gb, .int .i64 gc] rfl rfl ?c1 ?c2 ?c3 ?c4 ?c5 ?_)
            case c1 =>
              have := cell_four_new (wr.alloc (.cells #[.int .i64 xi, .int .i64 ga, .int .i64 gb, .int .i64 gc] 142)) (.int .i64 xi) (.int .i64 ga) (.int .i64 gb) (.int .i64 gc) 142
              simpa using this
            case c2 => intro y hy; simp at hy; rcases hy with rfl | rfl | rfl | rfl <;> rfl
            case c3 => unfold maxLen; omega
            case c4 => omega
            case c5 => simp; omega
            intro v' w2 hown' hgrow' _
            obtain ⟨a2, c2', hv2⟩ := owns_form hown'
            subst hv2
            have z2 := hgrow'.size
            simp at z2
            have rne : ∀ g, g < w.heap.size + 2 → (Value.slice a' m c').ownBlock ≠ some g := fun g hg e => by have := (OW.out.lt g e).1; omega
            have hg9 : w2.heap[w.heap.size + 1]? = some (.cells #[.int .i64 k, .int .i64 fr, .slice a' m c'] 40 (0, 0)) := by
              rw [hgrow'.block _ (by simp; omega) (fun e => rne _ (by omega) e.symm), Below.heap_alloc _ _ _ (by simp; omega), Below.heap_alloc _ _ _ (by omega)]; exact G9.out
            have hg8 : w2.heap[w.heap.size]? = some (.cells #[.int .i64 0, .int .i64 0, .slice none 0 0] 40 (0, 0)) := by
              rw [hgrow'.block _ (by simp; omega) (fun e => rne _ (by omega) e.symm), Below.heap_alloc _ _ _ (by simp; omega), Below.heap_alloc _ _ _ (by omega)]; exact G8.out
            have hb2' : Below w.heap.size w w2 := (((BL.out.alloc (by omega) _).alloc (by simp; omega) _).grown hgrow' (by simp; omega) (fun y hy => by have := (OW.out.lt y hy).1; omega))
            have O2 := hideG (show w2.ownsRow (w.heap.size + 2) 142 4 (.slice a2 (m + 1) c2') (m + 1) (flat4 (Frm.gL k zs (m + 1))) by rw [HNX.out, HITW.out, flat4_append]; exact hown')
            have J8 := hideG hg8
            have J9 := hideG hg9
            have L2 := hideG hb2'
            have y2 : w2.cell? ⟨w.heap.size + 1, 2, none⟩ = some (.slice a' m c') := by simp only [World.cell?, hg9]; rfl
            have f2 : w2.frozen? ⟨w.heap.size + 1, 2, none⟩ = false := by simp [World.frozen?, hg9]
            clear hown' hgrow' hg8 hg9 hb2' rne d2 A2
            go_wp2_with fail
            go_roundw
            case rel =>
              refine ⟨m + 1, M + 25, .slice a2 (m + 1) c2', ?_, by omega, ?_, by go_num, ?_, ?_, ?_, ?_, ?_⟩
              · (rw [Nat.add_mul, ← HMM.out, HSE.out]) <;> omega
              · (congr 1) <;> omega
              · rw [Below.heap_setCell _ _ _ _ (by simp)]; exact J8.out
              · exact heap_setCell_same w2 (w.heap.size + 1) 2 #[.int .i64 k, .int .i64 fr, .slice a' m c'] 40 _ J9.out
              · exact ownsRow_chg (S := fun x => x = w.heap.size + 1) O2.out (Chg.setCell w2 ⟨w.heap.size + 1, 2, none⟩ _) (fun x hx e => by have := (O2.out.lt x hx).1; omega)
              · exact L2.out.setCell (p := ⟨w.heap.size + 1, 2, none⟩) (by simp) _
              · simp [World.setCell]; omega
            case measure => simp [intOf]; omega
        · have t2' : ¬ (3 : Int) + (M : Int) < (L : Int) := by omega
          have HG := hideG (HGM.out m (by omega) (.inr (by rw [← HMM.out]; omega)))
          have q0 : wr.cell? ⟨w.heap.size, 0, none⟩ = some (.int .i64 0) ∧ wr.frozen? ⟨w.heap.size, 0, none⟩ = false := ⟨by simp only [World.cell?, hg8]; rfl, by simp [World.frozen?, hg8]⟩
          have q1 : wr.cell? ⟨w.heap.size, 1, none⟩ = some (.int .i64 0) ∧ wr.frozen? ⟨w.heap.size, 1, none⟩ = false := ⟨by simp only [World.cell?, hg8]; rfl, by simp [World.frozen?, hg8]⟩
          have q2 : wr.cell? ⟨w.heap.size, 2, none⟩ = some (.slice none 0 0) ∧ wr.frozen? ⟨w.heap.size, 2, none⟩ = false := ⟨by simp only [World.cell?, hg8]; rfl, by simp [World.frozen?, hg8]⟩
          obtain ⟨q0, q0f⟩ := q0
          obtain ⟨q1, q1f⟩ := q1
          obtain ⟨q2, q2f⟩ := q2
          have p0 : wr.cell? ⟨w.heap.size + 1, 0, none⟩ = some (.int .i64 k) := by simp only [World.cell?, hg9]; rfl
          have p1 : wr.cell? ⟨w.heap.size + 1, 1, none⟩ = some (.int .i64 fr) := by simp only [World.cell?, hg9]; rfl
          have p2 : wr.cell? ⟨w.heap.size + 1, 2, none⟩ = some (.slice a' m c') := by simp only [World.cell?, hg9]; rfl
          have gne3 : w.heap.size + 1 ≠ w.heap.size := by omega
          clear hg8 hg9 hown hbel hM
          go_wp2_with fail
          (try simp only [Exit.inBlock, Exit.then])
          refine bodyPost_ret (results_cell_row rfl _ _ w.heap.size 40 #[.int .i64 k, .int .i64 fr, .slice a' m c'] (0, 0) _ rfl (frame_row _ _ _ G8.out) Tryz.underlying40 rfl sizeFr) rfl ?_
          refine ⟨.slice a' m c', rfl, m, HG.out, ?_, ?_⟩
          · refine ownsRow_base (ownsRow_chg (S := fun x => x = w.heap.size) OW.out ?_ (fun x hx e => by have := (OW.out.lt x hx).1; omega)) (by omega)
            exact chg3 _ _ _ _ _
          · have := BL.out
            go_grown
      · have t1' : ¬ (m : Int) < (n : Int) := by omega
        have HG := hideG (HGM.out m (by omega) (.inl (by omega)))
        have q0 : wr.cell? ⟨w.heap.size, 0, none⟩ = some (.int .i64 0) ∧ wr.frozen? ⟨w.heap.size, 0, none⟩ = false := ⟨by simp only [World.cell?, hg8]; rfl, by simp [World.frozen?, hg8]⟩
        have q1 : wr.cell? ⟨w.heap.size, 1, none⟩ = some (.int .i64 0) ∧ wr.frozen? ⟨w.heap.size, 1, none⟩ = false := ⟨by simp only [World.cell?, hg8]; rfl, by simp [World.frozen?, hg8]⟩
        have q2 : wr.cell? ⟨w.heap.size, 2, none⟩ = some (.slice none 0 0) ∧ wr.frozen? ⟨w.heap.size, 2, none⟩ = false := ⟨by simp only [World.cell?, hg8]; rfl, by simp [World.frozen?, hg8]⟩
        obtain ⟨q0, q0f⟩ := q0
        obtain ⟨q1, q1f⟩ := q1
        obtain ⟨q2, q2f⟩ := q2
        have p0 : wr.cell? ⟨w.heap.size + 1, 0, none⟩ = some (.int .i64 k) := by simp only [World.cell?, hg9]; rfl
        have p1 : wr.cell? ⟨w.heap.size + 1, 1, none⟩ = some (.int .i64 fr) := by simp only [World.cell?, hg9]; rfl
        have p2 : wr.cell? ⟨w.heap.size + 1, 2, none⟩ = some (.slice a' m c') := by simp only [World.cell?, hg9]; rfl
        have gne3 : w.heap.size + 1 ≠ w.heap.size := by omega
        clear hg8 hg9 hown hbel hM
        go_wp2_with fail
        (try simp only [Exit.inBlock, Exit.then])
        refine bodyPost_ret (results_cell_row rfl _ _ w.heap.size 40 #[.int .i64 k, .int .i64 fr, .slice a' m c'] (0, 0) _ rfl (frame_row _ _ _ G8.out) Tryz.underlying40 rfl sizeFr) rfl ?_
        refine ⟨.slice a' m c', rfl, m, HG.out, ?_, ?_⟩
        · refine ownsRow_base (ownsRow_chg (S := fun x => x = w.heap.size) OW.out ?_ (fun x hx e => by have := (OW.out.lt x hx).1; omega)) (by omega)
          exact chg3 _ _ _ _ _
        · have := BL.out
          go_grown

end Go.Proofs.YtchideljndagjaaGreat

namespace Go.Proofs.YtchideljndagjaaGreat
open Go.ChangeShapes Go.WideShapes Go.ChangeAt Go.RowKit
set_option linter.unusedVariables false

set_option maxHeartbeats 2000000 in
set_option maxRecDepth 100000 in
theorem rdecode_calls (v : Value) (zs : List Int) (w : World) (h : BytesAt w v zs) :
    Calls Tryz.prog 43 #[v] w fun e w' => ∃ va, e = .returned (.tuple #[.agg #[.int .i64 (dK zs), .int .i64 (dF zs), va], .int .i64 (dE zs)]) ∧ w'.ownsRow w.heap.size 142 4 va (dL zs).length (flat4 (dL zs)) ∧ Below w.heap.size w w' := by
  have HM := hideG (fun (w1 : World) (hb : Below w.heap.size w w1) => h.below hb)
  have HISB := hideG (show Frm.isB zs by obtain ⟨_, _, _, _, _, h4, _⟩ := h; exact h4)
  have HLT := hideG (fun (h3 : zs.length < 3) => d_none (show Frm.decF zs = none by unfold Frm.decF; rw [if_pos h3]))
  have HG := hideG (fun w1 (hb : Below w.heap.size w w1) (h3 : 3 ≤ zs.length) => guess_calls v zs w1 (h.below hb) h3)
  obtain ⟨a, cap, rfl, l2, l3, hb, hc⟩ := bytes_view h
  clear h hb hc
  obtain ⟨L, hL⟩ : ∃ L, L = zs.length := ⟨_, rfl⟩
  rw [← hL] at l2 HM HLT HG ⊢
  clear hL
  by_cases t3 : L < 3
  · have H := hideG (HLT.out t3)
    have t3' : (L : Int) < 3 := by omega
    go_enter Tryz.func43, Tryz.ntmps43
    go_wp2_with fail
    go_returns
    refine ⟨_, ret_dec H.out.1 H.out.2.1 rfl H.out.2.2.2, ?_, by go_grown⟩
    rw [H.out.2.2.1]; exact World.ownsRow_nil _ _ _ _
  have t3' : ¬ (L : Int) < 3 := by omega
  obtain ⟨bx, hbx⟩ : ∃ bx, bx = w.alloc (.cells #[.int .i64 0, .int .i64 0, .slice none 0 0] 40) := ⟨_, rfl⟩
  have sbx : bx.heap.size = w.heap.size + 1 := by rw [hbx]; simp
  have BX := hideG (show Below w.heap.size w bx by rw [hbx]; exact (Below.refl _ _).alloc (Nat.le_refl _) _)
  have CBX := hideG (show ∀ w1, Below bx.heap.size bx w1 → w1.heap[w.heap.size]? = some (.cells #[.int .i64 0, .int .i64 0, .slice none 0 0] 40 (0, 0)) from fun w1 hb => by
    rw [hb.block w.heap.size (by omega), hbx]; exact heap_alloc_new w _)
  have GC := hideG (HG.out bx BX.out (by omega))
  go_enter Tryz.func43, Tryz.ntmps43
  go_wp2_with fail
  rw [← hbx]
  clear hbx
  refine GC.out.mono ?_
  rintro e w1 ⟨va, rfl, m, hgm, hown, hb1⟩
  obtain ⟨k, hk⟩ : ∃ k, k = Frm.bAt zs 0 := ⟨_, rfl⟩
  obtain ⟨fr, hfr⟩ : ∃ fr, fr = Frm.bAt zs 1 := ⟨_, rfl⟩
  obtain ⟨gl, hgl⟩ : ∃ gl, gl = Frm.gL (Frm.bAt zs 0) zs m := ⟨_, rfl⟩
  have HGY := hideG (fun (h1 : Frm.okF k fr gl = true) (h2 : Frm.encF k fr gl = zs) => (show Frm.decF zs = some (k, fr, gl) by rw [hk, hfr, hgl]; rw [hk, hfr, hgl] at h1 h2; exact Frm.guess_yes HISB.out hgm h1 h2))
  have HGN := hideG (fun (h1 : ¬ (Frm.okF k fr gl = true ∧ Frm.encF k fr gl = zs)) => (show Frm.decF zs = none by rw [hk, hfr, hgl] at h1; exact Frm.guess_no HISB.out hgm h1))
  have hlen : gl.length = m := by rw [hgl]; exact gL_length _ _ _
  have HIN := hideG (show ∀ x ∈ gl, inIt x by rw [hgl]; exact gL_in HISB.out _ _)
  rw [← hgl] at hown
  rw [← hk, ← hfr]
  clear hk hfr hgl hgm
  subst hlen
  obtain ⟨a', c', hv'⟩ := owns_form hown
  subst hv'
  have s1 := hb1.size
  have B1 := hideG hb1
  obtain ⟨wf, hwf⟩ : ∃ wf, wf = w1.alloc (.cells #[.int .i64 k, .int .i64 fr, .slice a' gl.length c'] 40) := ⟨_, rfl⟩
  have zf : wf.heap.size = w1.heap.size + 1 := by rw [hwf]; simp
  have hbf : Below w1.heap.size w1 wf := by rw [hwf]; exact (Below.refl _ _).alloc (Nat.le_refl _) _
  have BF := hideG (B1.out.trans (hbf.mono (by omega)))
  have CF := hideG (show ∀ W, Below wf.heap.size wf W → W.cell? ⟨w1.heap.size, 0, none⟩ = some (.int .i64 k) ∧ W.cell? ⟨w1.heap.size, 1, none⟩ = some (.int .i64 fr) ∧ W.cell? ⟨w1.heap.size, 2, none⟩ = some (.slice a' gl.length c') from fun W hb => by
    have hlt : w1.heap.size < wf.heap.size := by omega
    rw [hb.cell (p := ⟨w1.heap.size, 0, none⟩) hlt, hb.cell (p := ⟨w1.heap.size, 1, none⟩) hlt, hb.cell (p := ⟨w1.heap.size, 2, none⟩) hlt, hwf]
    refine ⟨?_, ?_, ?_⟩ <;> simp [go_sem])
  have OWF := hideG (ownsRow_chg (S := fun _ => False) hown (Chg.of_below hbf) (fun _ _ h => h))
  have ITF := hideG ((itemsAt_of_owns hown HIN.out).below hbf)
  have BAF := hideG (HM.out wf (BX.out.trans (BF.out.mono (by omega))))
  clear hown hb1 hbf
  go_wp2_with fail
  rw [← hwf]
  clear hwf
  cases hok : Frm.okF k fr gl
  · have H := hideG (d_none (HGN.out (fun e => by rw [hok] at e; exact Bool.false_ne_true e.1)))
    refine (rencode_no k fr _ gl _ ITF.out hok).mono ?_
    rintro e w3 ⟨rfl, hb3⟩
    have hBB : Below bx.heap.size bx w3 := BF.out.trans (hb3.mono (by omega))
    have hrow := CBX.out w3 hBB
    have BW3 := hideG (BX.out.trans (hBB.mono (by omega)))
    have q0 : w3.cell? ⟨w.heap.size, 0, none⟩ = some (.int .i64 0) ∧ w3.frozen? ⟨w.heap.size, 0, none⟩ = false := ⟨by simp only [World.cell?, hrow]; rfl, by simp [World.frozen?, hrow]⟩
    have q1 : w3.cell? ⟨w.heap.size, 1, none⟩ = some (.int .i64 0) ∧ w3.frozen? ⟨w.heap.size, 1, none⟩ = false := ⟨by simp only [World.cell?, hrow]; rfl, by simp [World.frozen?, hrow]⟩
    have q2 : w3.cell? ⟨w.heap.size, 2, none⟩ = some (.slice none 0 0) ∧ w3.frozen? ⟨w.heap.size, 2, none⟩ = false := ⟨by simp only [World.cell?, hrow]; rfl, by simp [World.frozen?, hrow]⟩
    obtain ⟨q0, q0f⟩ := q0
    obtain ⟨q1, q1f⟩ := q1
    obtain ⟨q2, q2f⟩ := q2
    have HROW := hideG hrow
    clear hrow hBB hb3 hok
    go_wp2_with fail
    (try simp only [Exit.inBlock, Exit.then])
    refine bodyPost_ret (results_row_tmp rfl _ _ w.heap.size 40 #[.int .i64 0, .int .i64 0, .slice none 0 0] (0, 0) _ rfl (frame_row _ _ _ HROW.out) Tryz.underlying40 rfl sizeFr) rfl ?_
    refine ⟨_, ret_dec H.out.1 H.out.2.1 rfl H.out.2.2.2, ?_, ?_⟩
    · rw [H.out.2.2.1]; exact World.ownsRow_nil _ _ _ _
    · have := BW3.out
      go_grown
  · refine (rencode_yes k fr _ gl _ ITF.out hok).mono ?_
    rintro e w3 ⟨vb, rfl, hown3, hb3⟩
    obtain ⟨a3, c3, hv3⟩ := owns_form hown3
    have hEB := encF_isB hok
    have hcs1 := conv_str (bytesAt_of_owns hown3 hEB)
    have hcs2 := conv_str (BAF.out.below hb3)
    subst hv3
    have hBB : Below bx.heap.size bx w3 := BF.out.trans (hb3.mono (by omega))
    have hrow := CBX.out w3 hBB
    have BW3 := hideG (BX.out.trans (hBB.mono (by omega)))
    obtain ⟨p0, p1, p2⟩ := CF.out w3 hb3
    have O3 := hideG (ownsRow_chg (S := fun _ => False) OWF.out (Chg.of_below hb3) (fun _ _ h => h))
    have q0 : w3.cell? ⟨w.heap.size, 0, none⟩ = some (.int .i64 0) ∧ w3.frozen? ⟨w.heap.size, 0, none⟩ = false := ⟨by simp only [World.cell?, hrow]; rfl, by simp [World.frozen?, hrow]⟩
    have q1 : w3.cell? ⟨w.heap.size, 1, none⟩ = some (.int .i64 0) ∧ w3.frozen? ⟨w.heap.size, 1, none⟩ = false := ⟨by simp only [World.cell?, hrow]; rfl, by simp [World.frozen?, hrow]⟩
    have q2 : w3.cell? ⟨w.heap.size, 2, none⟩ = some (.slice none 0 0) ∧ w3.frozen? ⟨w.heap.size, 2, none⟩ = false := ⟨by simp only [World.cell?, hrow]; rfl, by simp [World.frozen?, hrow]⟩
    obtain ⟨q0, q0f⟩ := q0
    obtain ⟨q1, q1f⟩ := q1
    obtain ⟨q2, q2f⟩ := q2
    have HROW := hideG hrow
    have z3 := hb3.size
    have gne : w1.heap.size ≠ w.heap.size := by omega
    have HOK := hideG hok
    clear hrow hBB hb3 hok hown3
    by_cases heq : Frm.encF k fr gl = zs
    · have H := hideG (d_some (HGY.out HOK.out heq))
      rw [heq] at hcs1 ⊢
      clear heq
      go_wp2_with fail
      (try simp only [Exit.inBlock, Exit.then])
      refine bodyPost_ret (results_row_tmp rfl _ _ w.heap.size 40 #[.int .i64 k, .int .i64 fr, .slice a' gl.length c'] (0, 0) _ rfl (frame_row _ _ _ HROW.out) Tryz.underlying40 rfl sizeFr) rfl ?_
      refine ⟨_, ret_dec H.out.1 H.out.2.1 rfl H.out.2.2.2, ?_, ?_⟩
      · rw [H.out.2.2.1]
        refine ownsRow_base (ownsRow_chg (S := fun x => x = w.heap.size) O3.out ?_ (fun x hx e => by have := (O3.out.lt x hx).1; omega)) (by omega)
        exact chg3 _ _ _ _ _
      · have := BW3.out
        go_grown
    · have H := hideG (d_none (HGN.out (fun e => heq e.2)))
      have hne : ¬ strOfNums (Frm.encF k fr gl) = strOfNums zs := fun e => heq ((str_eq hEB HISB.out).1 e)
      have hne3 : ((strOfNums (Frm.encF k fr gl)).toList == (strOfNums zs).toList) = false := by
        rw [beq_eq_false_iff_ne]
        intro e
        rw [ByteArray.toList_eq, ByteArray.toList_eq] at e
        exact hne (ByteArray.ext (Array.ext' e))
      generalize strOfNums (Frm.encF k fr gl) = sA at *
      generalize strOfNums zs = sB at *
      clear heq
      go_wp2_with fail
      (try simp only [Exit.inBlock, Exit.then])
      refine bodyPost_ret (results_row_tmp rfl _ _ w.heap.size 40 #[.int .i64 0, .int .i64 0, .slice none 0 0] (0, 0) _ rfl (frame_row _ _ _ HROW.out) Tryz.underlying40 rfl sizeFr) rfl ?_
      refine ⟨_, ret_dec H.out.1 H.out.2.1 rfl H.out.2.2.2, ?_, ?_⟩
      · rw [H.out.2.2.1]; exact World.ownsRow_nil _ _ _ _
      · have := BW3.out
        go_grown

end Go.Proofs.YtchideljndagjaaGreat
