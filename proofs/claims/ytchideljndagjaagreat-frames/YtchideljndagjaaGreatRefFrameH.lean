/- Contract of veilref's Decode; the program's and the document's answer alike. -/
import Derived.Test.YtchideljndagjaaGreatRefFrameE
import Derived.Test.YtchideljndagjaaGreatRefFrameG
import Derived.Test.YtchideljndagjaaGreatWireStr
namespace Go.Proofs.YtchideljndagjaaGreat
open Go.ChangeShapes Go.WideShapes Go.ChangeAt Go.RowKit
set_option linter.unusedVariables false

set_option maxHeartbeats 2000000 in
set_option maxRecDepth 100000 in
theorem rdecode_calls (v : Value) (zs : List Int) (w : World) (h : BytesAt w v zs) :
    Calls Tryz.prog 43 #[v] w fun e w' => ∃ va, e = .returned (.tuple #[.agg #[.int .i64 (dK zs), .int .i64 (dF zs), va], .int .i64 (dE zs)]) ∧ w'.ownsRow w.heap.size 142 4 va (dL zs).length (flat4 (dL zs)) ∧ Below w.heap.size w w' := by
  have HM := hideG (fun (w1 : World) (hb : Below w.heap.size w w1) => h.below hb)
  have HISB := hideG (show Frm.isB zs by obtain ⟨_, _, _, _, _, h4, _⟩ := h; exact h4)
  have HLT := hideG (fun (h3 : zs.length < 3) => d_none (show Frm.decF zs = none by unfold Frm.decF; rw [if_pos h3]))
  have HG := hideG (fun w1 (hb : Below w.heap.size w w1) (h3 : 3 ≤ zs.length) => guess_calls v zs w1 (h.below hb) h3)
  obtain ⟨a, cap, rfl, l2, l3, hb, hc⟩ := bytes_view h
  clear h hb hc
  obtain ⟨L, hL⟩ : ∃ L, L = zs.length := ⟨_, rfl⟩
  rw [← hL] at l2 HM HLT HG ⊢
  clear hL
  by_cases t3 : L < 3
  · have H := hideG (HLT.out t3)
    have t3' : (L : Int) < 3 := by omega
    go_enter Tryz.func43, Tryz.ntmps43
    go_wp2_with fail
    go_returns
    refine ⟨_, ret_dec H.out.1 H.out.2.1 rfl H.out.2.2.2, ?_, by go_grown⟩
    rw [H.out.2.2.1]; exact World.ownsRow_nil _ _ _ _
  have t3' : ¬ (L : Int) < 3 := by omega
  obtain ⟨bx, hbx⟩ : ∃ bx, bx = w.alloc (.cells #[.int .i64 0, .int .i64 0, .slice none 0 0] 40) := ⟨_, rfl⟩
  have sbx : bx.heap.size = w.heap.size + 1 := by rw [hbx]; simp
  have BX := hideG (show Below w.heap.size w bx by rw [hbx]; exact (Below.refl _ _).alloc (Nat.le_refl _) _)
  have CBX := hideG (show ∀ w1, Below bx.heap.size bx w1 → w1.heap[w.heap.size]? = some (.cells #[.int .i64 0, .int .i64 0, .slice none 0 0] 40 (0, 0)) from fun w1 hb => by
    rw [hb.block w.heap.size (by omega), hbx]; exact heap_alloc_new w _)
  have GC := hideG (HG.out bx BX.out (by omega))
  go_enter Tryz.func43, Tryz.ntmps43
  go_wp2_with fail
  rw [← hbx]
  clear hbx
  refine GC.out.mono ?_
  rintro e w1 ⟨va, rfl, m, hgm, hown, hb1⟩
  obtain ⟨k, hk⟩ : ∃ k, k = Frm.bAt zs 0 := ⟨_, rfl⟩
  obtain ⟨fr, hfr⟩ : ∃ fr, fr = Frm.bAt zs 1 := ⟨_, rfl⟩
  obtain ⟨gl, hgl⟩ : ∃ gl, gl = Frm.gL (Frm.bAt zs 0) zs m := ⟨_, rfl⟩
  have HGY := hideG (fun (h1 : Frm.okF k fr gl = true) (h2 : Frm.encF k fr gl = zs) => (show Frm.decF zs = some (k, fr, gl) by rw [hk, hfr, hgl]; rw [hk, hfr, hgl] at h1 h2; exact Frm.guess_yes HISB.out hgm h1 h2))
  have HGN := hideG (fun (h1 : ¬ (Frm.okF k fr gl = true ∧ Frm.encF k fr gl = zs)) => (show Frm.decF zs = none by rw [hk, hfr, hgl] at h1; exact Frm.guess_no HISB.out hgm h1))
  have hlen : gl.length = m := by rw [hgl]; exact gL_length _ _ _
  have HIN := hideG (show ∀ x ∈ gl, inIt x by rw [hgl]; exact gL_in HISB.out _ _)
  rw [← hgl] at hown
  rw [← hk, ← hfr]
  clear hk hfr hgl hgm
  subst hlen
  obtain ⟨a', c', hv'⟩ := owns_form hown
  subst hv'
  have s1 := hb1.size
  have B1 := hideG hb1
  obtain ⟨wf, hwf⟩ : ∃ wf, wf = w1.alloc (.cells #[.int .i64 k, .int .i64 fr, .slice a' gl.length c'] 40) := ⟨_, rfl⟩
  have zf : wf.heap.size = w1.heap.size + 1 := by rw [hwf]; simp
  have hbf : Below w1.heap.size w1 wf := by rw [hwf]; exact (Below.refl _ _).alloc (Nat.le_refl _) _
  have BF := hideG (B1.out.trans (hbf.mono (by omega)))
  have CF := hideG (show ∀ W, Below wf.heap.size wf W → W.cell? ⟨w1.heap.size, 0, none⟩ = some (.int .i64 k) ∧ W.cell? ⟨w1.heap.size, 1, none⟩ = some (.int .i64 fr) ∧ W.cell? ⟨w1.heap.size, 2, none⟩ = some (.slice a' gl.length c') from fun W hb => by
    have hlt : w1.heap.size < wf.heap.size := by omega
    rw [hb.cell (p := ⟨w1.heap.size, 0, none⟩) hlt, hb.cell (p := ⟨w1.heap.size, 1, none⟩) hlt, hb.cell (p := ⟨w1.heap.size, 2, none⟩) hlt, hwf]
    refine ⟨?_, ?_, ?_⟩ <;> simp [go_sem])
  have OWF := hideG (ownsRow_chg (S := fun _ => False) hown (Chg.of_below hbf) (fun _ _ h => h))
  have ITF := hideG ((itemsAt_of_owns hown HIN.out).below hbf)
  have BAF := hideG (HM.out wf (BX.out.trans (BF.out.mono (by omega))))
  clear hown hb1 hbf
  go_wp2_with fail
  rw [← hwf]
  clear hwf
  cases hok : Frm.okF k fr gl
  · have H := hideG (d_none (HGN.out (fun e => by rw [hok] at e; exact Bool.false_ne_true e.1)))
    refine (rencode_no k fr _ gl _ ITF.out hok).mono ?_
    rintro e w3 ⟨rfl, hb3⟩
    have hBB : Below bx.heap.size bx w3 := BF.out.trans (hb3.mono (by omega))
    have hrow := CBX.out w3 hBB
    have BW3 := hideG (BX.out.trans (hBB.mono (by omega)))
    have q0 : w3.cell? ⟨w.heap.size, 0, none⟩ = some (.int .i64 0) ∧ w3.frozen? ⟨w.heap.size, 0, none⟩ = false := ⟨by simp only [World.cell?, hrow]; rfl, by simp [World.frozen?, hrow]⟩
    have q1 : w3.cell? ⟨w.heap.size, 1, none⟩ = some (.int .i64 0) ∧ w3.frozen? ⟨w.heap.size, 1, none⟩ = false := ⟨by simp only [World.cell?, hrow]; rfl, by simp [World.frozen?, hrow]⟩
    have q2 : w3.cell? ⟨w.heap.size, 2, none⟩ = some (.slice none 0 0) ∧ w3.frozen? ⟨w.heap.size, 2, none⟩ = false := ⟨by simp only [World.cell?, hrow]; rfl, by simp [World.frozen?, hrow]⟩
    obtain ⟨q0, q0f⟩ := q0
    obtain ⟨q1, q1f⟩ := q1
    obtain ⟨q2, q2f⟩ := q2
    have HROW := hideG hrow
    clear hrow hBB hb3 hok
    go_wp2_with fail
    (try simp only [Exit.inBlock, Exit.then])
    refine bodyPost_ret (results_row_tmp rfl _ _ w.heap.size 40 #[.int .i64 0, .int .i64 0, .slice none 0 0] (0, 0) _ rfl (frame_row _ _ _ HROW.out) Tryz.underlying40 rfl sizeFr) rfl ?_
    refine ⟨_, ret_dec H.out.1 H.out.2.1 rfl H.out.2.2.2, ?_, ?_⟩
    · rw [H.out.2.2.1]; exact World.ownsRow_nil _ _ _ _
    · have := BW3.out
      go_grown
  · refine (rencode_yes k fr _ gl _ ITF.out hok).mono ?_
    rintro e w3 ⟨vb, rfl, hown3, hb3⟩
    obtain ⟨a3, c3, hv3⟩ := owns_form hown3
    have hEB := encF_isB hok
    have hcs1 := conv_str (bytesAt_of_owns hown3 hEB)
    have hcs2 := conv_str (BAF.out.below hb3)
    subst hv3
    have hBB : Below bx.heap.size bx w3 := BF.out.trans (hb3.mono (by omega))
    have hrow := CBX.out w3 hBB
    have BW3 := hideG (BX.out.trans (hBB.mono (by omega)))
    obtain ⟨p0, p1, p2⟩ := CF.out w3 hb3
    have O3 := hideG (ownsRow_chg (S := fun _ => False) OWF.out (Chg.of_below hb3) (fun _ _ h => h))
    have q0 : w3.cell? ⟨w.heap.size, 0, none⟩ = some (.int .i64 0) ∧ w3.frozen? ⟨w.heap.size, 0, none⟩ = false := ⟨by simp only [World.cell?, hrow]; rfl, by simp [World.frozen?, hrow]⟩
    have q1 : w3.cell? ⟨w.heap.size, 1, none⟩ = some (.int .i64 0) ∧ w3.frozen? ⟨w.heap.size, 1, none⟩ = false := ⟨by simp only [World.cell?, hrow]; rfl, by simp [World.frozen?, hrow]⟩
    have q2 : w3.cell? ⟨w.heap.size, 2, none⟩ = some (.slice none 0 0) ∧ w3.frozen? ⟨w.heap.size, 2, none⟩ = false := ⟨by simp only [World.cell?, hrow]; rfl, by simp [World.frozen?, hrow]⟩
    obtain ⟨q0, q0f⟩ := q0
    obtain ⟨q1, q1f⟩ := q1
    obtain ⟨q2, q2f⟩ := q2
    have HROW := hideG hrow
    have z3 := hb3.size
    have gne : w1.heap.size ≠ w.heap.size := by omega
    have HOK := hideG hok
    clear hrow hBB hb3 hok hown3
    by_cases heq : Frm.encF k fr gl = zs
    · have H := hideG (d_some (HGY.out HOK.out heq))
      rw [heq] at hcs1 ⊢
      clear heq
      go_wp2_with fail
      (try simp only [Exit.inBlock, Exit.then])
      refine bodyPost_ret (results_row_tmp rfl _ _ w.heap.size 40 #[.int .i64 k, .int .i64 fr, .slice a' gl.length c'] (0, 0) _ rfl (frame_row _ _ _ HROW.out) Tryz.underlying40 rfl sizeFr) rfl ?_
      refine ⟨_, ret_dec H.out.1 H.out.2.1 rfl H.out.2.2.2, ?_, ?_⟩
      · rw [H.out.2.2.1]
        refine ownsRow_base (ownsRow_chg (S := fun x => x = w.heap.size) O3.out ?_ (fun x hx e => by have := (O3.out.lt x hx).1; omega)) (by omega)
        exact chg3 _ _ _ _ _
      · have := BW3.out
        go_grown
    · have H := hideG (d_none (HGN.out (fun e => heq e.2)))
      have hne : ¬ strOfNums (Frm.encF k fr gl) = strOfNums zs := fun e => heq ((str_eq hEB HISB.out).1 e)
      have hne3 : ((strOfNums (Frm.encF k fr gl)).toList == (strOfNums zs).toList) = false := by
        rw [beq_eq_false_iff_ne]
        intro e
        rw [ByteArray.toList_eq, ByteArray.toList_eq] at e
        exact hne (ByteArray.ext (Array.ext' e))
      generalize strOfNums (Frm.encF k fr gl) = sA at *
      generalize strOfNums zs = sB at *
      clear heq
      go_wp2_with fail
      (try simp only [Exit.inBlock, Exit.then])
      refine bodyPost_ret (results_row_tmp rfl _ _ w.heap.size 40 #[.int .i64 0, .int .i64 0, .slice none 0 0] (0, 0) _ rfl (frame_row _ _ _ HROW.out) Tryz.underlying40 rfl sizeFr) rfl ?_
      refine ⟨_, ret_dec H.out.1 H.out.2.1 rfl H.out.2.2.2, ?_, ?_⟩
      · rw [H.out.2.2.1]; exact World.ownsRow_nil _ _ _ _
      · have := BW3.out
        go_grown

end Go.Proofs.YtchideljndagjaaGreat
