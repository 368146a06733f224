/- Contract of veilref's Decode; the program's and the document's answer alike. -/
import Derived.Test.YtchideljndagjabGreatPkSeAJ
import Derived.Test.YtchideljndagjabGreatPkSeAK
import Derived.Test.YtchideljndagjabGreatPkSeAG
import Derived.Deep.AppendLies
import Derived.Deep.RegionLaw
import Derived.Test.YtchideljndagjabGreatPkSeAC
import Derived.Lib.BufferWrite
namespace Go.Proofs.YtchideljndagjabGreat
open Go.ChangeShapes Go.WideShapes Go.ChangeAt Go.RowKit
set_option linter.unusedVariables false

set_option maxHeartbeats 2000000 in
set_option maxRecDepth 100000 in
theorem rdecode_calls (v : Value) (zs : List Int) (w : World) (h : BytesAt w v zs) :
    Calls Tryz.prog 97 #[v] w fun e w' => ∃ va, e = .returned (.tuple #[.agg #[.int .i64 (dK zs), .int .i64 (dF zs), va], .int .i64 (dE zs)]) ∧ w'.ownsRow w.heap.size 147 4 va (dL zs).length (flat4 (dL zs)) ∧ Below w.heap.size w w' := by
  have HM := hideG (fun (w1 : World) (hb : Below w.heap.size w w1) => h.below hb)
  have HISB := hideG (show Frm.isB zs by obtain ⟨_, _, _, _, _, h4, _⟩ := h; exact h4)
  have HLT := hideG (fun (h3 : zs.length < 3) => d_none (show Frm.decF zs = none by unfold Frm.decF; rw [if_pos h3]))
  have HG := hideG (fun w1 (hb : Below w.heap.size w w1) (h3 : 3 ≤ zs.length) => guess_calls v zs w1 (h.below hb) h3)
  obtain ⟨a, cap, rfl, l2, l3, hb, hc⟩ := bytes_view h
  clear h hb hc
  obtain ⟨L, hL⟩ : ∃ L, L = zs.length := ⟨_, rfl⟩
  rw [← hL] at l2 HM HLT HG ⊢
  clear hL
  by_cases t3 : L < 3
  · have H := hideG (HLT.out t3)
    have t3' : (L : Int) < 3 := by omega
    go_enter Tryz.func97, Tryz.ntmps97
    go_wp2_with fail
    go_returns
    refine ⟨_, ret_dec H.out.1 H.out.2.1 rfl H.out.2.2.2, ?_, by go_grown⟩
    rw [H.out.2.2.1]; exact World.ownsRow_nil _ _ _ _
  have t3' : ¬ (L : Int) < 3 := by omega
  obtain ⟨bx, hbx⟩ : ∃ bx, bx = w.alloc (.cells #[.int .i64 0, .int .i64 0, .slice none 0 0] 65) := ⟨_, rfl⟩
  have sbx : bx.heap.size = w.heap.size + 1 := by rw [hbx]; simp
  have BX := hideG (show Below w.heap.size w bx by rw [hbx]; exact (Below.refl _ _).alloc (Nat.le_refl _) _)
  have CBX := hideG (show ∀ w1, Below bx.heap.size bx w1 → w1.heap[w.heap.size]? = some (.cells #[.int .i64 0, .int .i64 0, .slice none 0 0] 65 (0, 0)) from fun w1 hb => by
    rw [hb.block w.heap.size (by omega), hbx]; exact heap_alloc_new w _)
  have GC := hideG (HG.out bx BX.out (by omega))
  go_enter Tryz.func97, Tryz.ntmps97
  go_wp2_with fail
  rw [← hbx]
  clear hbx
  refine GC.out.mono ?_
  rintro e w1 ⟨va, rfl, m, hgm, hown, hb1⟩
  obtain ⟨k, hk⟩ : ∃ k, k = Frm.bAt zs 0 := ⟨_, rfl⟩
  obtain ⟨fr, hfr⟩ : ∃ fr, fr = Frm.bAt zs 1 := ⟨_, rfl⟩
  obtain ⟨gl, hgl⟩ : ∃ gl, gl = Frm.gL (Frm.bAt zs 0) zs m := ⟨_, rfl⟩
  have HGY := hideG (fun (h1 : Frm.okF k fr gl = true) (h2 : Frm.encF k fr gl = zs) => (show Frm.decF zs = some (k, fr, gl) by rw [hk, hfr, hgl]; rw [hk, hfr, hgl] at h1 h2; exact Frm.guess_yes HISB.out hgm h1 h2))
  have HGN := hideG (fun (h1 : ¬ (Frm.okF k fr gl = true ∧ Frm.encF k fr gl = zs)) => (show Frm.decF zs = none by rw [hk, hfr, hgl] at h1; exact Frm.guess_no HISB.out hgm h1))
  have hlen : gl.length = m := by rw [hgl]; exact gL_length _ _ _
  have HIN := hideG (show ∀ x ∈ gl, inIt x by rw [hgl]; exact gL_in HISB.out _ _)
  rw [← hgl] at hown
  rw [← hk, ← hfr]
  clear hk hfr hgl hgm
  subst hlen
  obtain ⟨a', c', hv'⟩ := owns_form hown
  subst hv'
  have s1 := hb1.size
  have B1 := hideG hb1
  obtain ⟨wf, hwf⟩ : ∃ wf, wf = w1.alloc (.cells #[.int .i64 k, .int .i64 fr, .slice a' gl.length c'] 65) := ⟨_, rfl⟩
  have zf : wf.heap.size = w1.heap.size + 1 := by rw [hwf]; simp
  have hbf : Below w1.heap.size w1 wf := by rw [hwf]; exact (Below.refl _ _).alloc (Nat.le_refl _) _
  have BF := hideG (B1.out.trans (hbf.mono (by omega)))
  have CF := hideG (show ∀ W, Below wf.heap.size wf W → W.cell? ⟨w1.heap.size, 0, none⟩ = some (.int .i64 k) ∧ W.cell? ⟨w1.heap.size, 1, none⟩ = some (.int .i64 fr) ∧ W.cell? ⟨w1.heap.size, 2, none⟩ = some (.slice a' gl.length c') from fun W hb => by
    have hlt : w1.heap.size < wf.heap.size := by omega
    rw [hb.cell (p := ⟨w1.heap.size, 0, none⟩) hlt, hb.cell (p := ⟨w1.heap.size, 1, none⟩) hlt, hb.cell (p := ⟨w1.heap.size, 2, none⟩) hlt, hwf]
    refine ⟨?_, ?_, ?_⟩ <;> simp [go_sem])
  have OWF := hideG (ownsRow_chg (S := fun _ => False) hown (Chg.of_below hbf) (fun _ _ h => h))
  have ITF := hideG ((itemsAt_of_owns hown HIN.out).below hbf)
  have BAF := hideG (HM.out wf (BX.out.trans (BF.out.mono (by omega))))
  clear hown hb1 hbf
  go_wp2_with fail
  rw [← hwf]
  clear hwf
  cases hok : Frm.okF k fr gl
  · have H := hideG (d_none (HGN.out (fun e => by rw [hok] at e; exact Bool.false_ne_true e.1)))
    refine (rencode_no k fr _ gl _ ITF.out hok).mono ?_
    rintro e w3 ⟨rfl, hb3⟩
    have hBB : Below bx.heap.size bx w3 := BF.out.trans (hb3.mono (by omega))
    have hrow := CBX.out w3 hBB
    have BW3 := hideG (BX.out.trans (hBB.mono (by omega)))
    have q0 : w3.cell? ⟨w.heap.size, 0, none⟩ = some (.int .i64 0) ∧ w3.frozen? ⟨w.heap.size, 0, none⟩ = false := ⟨by simp only [World.cell?, hrow]; rfl, by simp [World.frozen?, hrow]⟩
    have q1 : w3.cell? ⟨w.heap.size, 1, none⟩ = some (.int .i64 0) ∧ w3.frozen? ⟨w.heap.size, 1, none⟩ = false := ⟨by simp only [World.cell?, hrow]; rfl, by simp [World.frozen?, hrow]⟩
    have q2 : w3.cell? ⟨w.heap.size, 2, none⟩ = some (.slice none 0 0) ∧ w3.frozen? ⟨w.heap.size, 2, none⟩ = false := ⟨by simp only [World.cell?, hrow]; rfl, by simp [World.frozen?, hrow]⟩
    obtain ⟨q0, q0f⟩ := q0
    obtain ⟨q1, q1f⟩ := q1
    obtain ⟨q2, q2f⟩ := q2
    have HROW := hideG hrow
    clear hrow hBB hb3 hok
    go_wp2_with fail
    (try simp only [Exit.inBlock, Exit.then])
    refine bodyPost_ret (results_row_tmp rfl _ _ w.heap.size 65 #[.int .i64 0, .int .i64 0, .slice none 0 0] (0, 0) _ rfl (frame_row _ _ _ HROW.out) Tryz.underlying65 rfl sizeFr) rfl ?_
    refine ⟨_, ret_dec H.out.1 H.out.2.1 rfl H.out.2.2.2, ?_, ?_⟩
    · rw [H.out.2.2.1]; exact World.ownsRow_nil _ _ _ _
    · have := BW3.out
      go_grown
  · refine (rencode_yes k fr _ gl _ ITF.out hok).mono ?_
    rintro e w3 ⟨vb, rfl, hown3, hb3⟩
    obtain ⟨a3, c3, hv3⟩ := owns_form hown3
    have hEB := encF_isB hok
    have hcs1 := conv_str (bytesAt_of_owns hown3 hEB)
    have hcs2 := conv_str (BAF.out.below hb3)
    subst hv3
    have hBB : Below bx.heap.size bx w3 := BF.out.trans (hb3.mono (by omega))
    have hrow := CBX.out w3 hBB
    have BW3 := hideG (BX.out.trans (hBB.mono (by omega)))
    obtain ⟨p0, p1, p2⟩ := CF.out w3 hb3
    have O3 := hideG (ownsRow_chg (S := fun _ => False) OWF.out (Chg.of_below hb3) (fun _ _ h => h))
    have q0 : w3.cell? ⟨w.heap.size, 0, none⟩ = some (.int .i64 0) ∧ w3.frozen? ⟨w.heap.size, 0, none⟩ = false := ⟨by simp only [World.cell?, hrow]; rfl, by simp [World.frozen?, hrow]⟩
    have q1 : w3.cell? ⟨w.heap.size, 1, none⟩ = some (.int .i64 0) ∧ w3.frozen? ⟨w.heap.size, 1, none⟩ = false := ⟨by simp only [World.cell?, hrow]; rfl, by simp [World.frozen?, hrow]⟩
    have q2 : w3.cell? ⟨w.heap.size, 2, none⟩ = some (.slice none 0 0) ∧ w3.frozen? ⟨w.heap.size, 2, none⟩ = false := ⟨by simp only [World.cell?, hrow]; rfl, by simp [World.frozen?, hrow]⟩
    obtain ⟨q0, q0f⟩ := q0
    obtain ⟨q1, q1f⟩ := q1
    obtain ⟨q2, q2f⟩ := q2
    have HROW := hideG hrow
    have z3 := hb3.size
    have gne : w1.heap.size ≠ w.heap.size := by omega
    have HOK := hideG hok
    clear hrow hBB hb3 hok hown3
    by_cases heq : Frm.encF k fr gl = zs
    · have H := hideG (d_some (HGY.out HOK.out heq))
      rw [heq] at hcs1 ⊢
      clear heq
      go_wp2_with fail
      (try simp only [Exit.inBlock, Exit.then])
      refine bodyPost_ret (results_row_tmp rfl _ _ w.heap.size 65 #[.int .i64 k, .int .i64 fr, .slice a' gl.length c'] (0, 0) _ rfl (frame_row _ _ _ HROW.out) Tryz.underlying65 rfl sizeFr) rfl ?_
      refine ⟨_, ret_dec H.out.1 H.out.2.1 rfl H.out.2.2.2, ?_, ?_⟩
      · rw [H.out.2.2.1]
        refine ownsRow_base (ownsRow_chg (S := fun x => x = w.heap.size) O3.out ?_ (fun x hx e => by have := (O3.out.lt x hx).1; omega)) (by omega)
        exact chg3 _ _ _ _ _
      · have := BW3.out
        go_grown
    · have H := hideG (d_none (HGN.out (fun e => heq e.2)))
      have hne : ¬ strOfNums (Frm.encF k fr gl) = strOfNums zs := fun e => heq ((str_eq hEB HISB.out).1 e)
      have hne3 : ((strOfNums (Frm.encF k fr gl)).toList == (strOfNums zs).toList) = false := by
        rw [beq_eq_false_iff_ne]
        intro e
        rw [ByteArray.toList_eq, ByteArray.toList_eq] at e
        exact hne (ByteArray.ext (Array.ext' e))
      generalize strOfNums (Frm.encF k fr gl) = sA at *
      generalize strOfNums zs = sB at *
      clear heq
      go_wp2_with fail
      (try simp only [Exit.inBlock, Exit.then])
      refine bodyPost_ret (results_row_tmp rfl _ _ w.heap.size 65 #[.int .i64 0, .int .i64 0, .slice none 0 0] (0, 0) _ rfl (frame_row _ _ _ HROW.out) Tryz.underlying65 rfl sizeFr) rfl ?_
      refine ⟨_, ret_dec H.out.1 H.out.2.1 rfl H.out.2.2.2, ?_, ?_⟩
      · rw [H.out.2.2.1]; exact World.ownsRow_nil _ _ _ _
      · have := BW3.out
        go_grown

end Go.Proofs.YtchideljndagjabGreat

namespace Go.Proofs.YtchideljndagjabGreat
open Go.ChangeShapes Go.WideShapes Go.ChangeAt Go.RowKit
set_option linter.unusedVariables false

theorem RAns.base {w w1 w' : World} {va : Value} {o : Option Cli.Fr} (h : RAns w1 w' va o) (hb : w.heap.size ≤ w1.heap.size) : RAns w w' va o := by
  cases o with
  | none => exact h
  | some f => exact ownsRow_base h hb
theorem RAns.chg {w w' w'' : World} {P : Nat → Prop} {va : Value} {o : Option Cli.Fr} (h : RAns w w' va o) (hc : Chg P w' w'') (hn : ∀ x, w.heap.size ≤ x → ¬ P x) : RAns w w'' va o := by
  cases o with
  | none => exact h
  | some f => exact ownsRow_chg h hc (fun x hx => hn x (World.ownsRow.lt h x hx).1)
end Go.Proofs.YtchideljndagjabGreat

namespace Go.Proofs.YtchideljndagjabGreat
open Go.ChangeShapes Go.WideShapes Go.ChangeAt Go.RowKit
set_option linter.unusedVariables false

end Go.Proofs.YtchideljndagjabGreat

namespace Go.Proofs.YtchideljndagjabGreat
open Go.RowKit
set_option linter.unusedVariables false

theorem infoGb : (Tryz.prog.info? 5).map (fun i => (i.zero, i.size, i.bytes)) = some (some (.int .u8 0), 1, 1) := by kernel_rfl
theorem sizeGb : (Tryz.prog.info? 5).map (·.size) = some 1 := by kernel_rfl

theorem wpList_copy_str {P : Program} {w : World} {ops : Array Oper} {rest : List Oper} {o : Oper} {a : Act} {Q : Exit → Act → World → Prop} (hgd : o.guard = none) (d s : Operand) (dT sT : TypeId)
    (ho : o.op = .call { callee := .builtin .copy, args := #[d, s], argTypes := #[dT, sT] }) (elem : TypeId) (hu : P.underlying dT = some (.slice elem)) (hsz : (P.info? elem).map (·.size) = some 1)
    (g dLen dCap : Nat) (str : ByteArray) (hd : a.eval d = .slice (some ⟨g, 0, none⟩) dLen dCap) (hs : a.eval s = .string str)
    (cur : List Value) (t : TypeId) (hg : w.heap[g]? = some (.cells cur.toArray t (0, 0))) (hle : str.size ≤ dLen) (hfit : str.size ≤ cur.length) (B : Nat) (w0 : World) (hb : Below B w0 w) (hBg : B ≤ g)
    (h : ∀ w', Hid (w'.heap[g]? = some (.cells ((bl str).map (Value.int .u8) ++ cur.drop str.size).toArray t (0, 0))) → Below B w0 w' → wpList P ops Q rest (a.put o.dst (goInt str.size)) w') :
    wpList P ops Q (o :: rest) a w := by
  refine wpList_plain hgd fun K hK => ?_
  have hrun := Lib.run_copy_row_string (P := P) w dT sT o.type elem g 0 dLen dCap str cur.toArray t hu hsz hg hle (by simpa using hfit)
  unfold Oper.wp
  simp only [execOp, ho, resolve, invoke, builtin]
  simp [hd, hs, hrun, Result.andThen]
  refine hK _ _ (h _ ?_ (below_setRow hb hBg _))
  show _ = _
  rw [setRow_heap w g _ _ t _ hg]
  have e : Lib.byteCells str.data.toList = (bl str).map (Value.int .u8) := by
    unfold bl; rw [List.map_map]; rfl
  simp [e]

/-- The bytes, and behind them k marks and what is left of three noughts. -/
def bgiven (zs : List Int) (k : Nat) : List Value := zs.map (Value.int .u8) ++ (List.replicate k (.int .u8 77) ++ List.replicate (3 - k) (.int .u8 0))

theorem bgiven_length (zs : List Int) (k : Nat) (hk : k ≤ 3) : (bgiven zs k).length = zs.length + 3 := by simp [bgiven]; omega

theorem bgiven_set (zs : List Int) (k : Nat) (hk : k < 3) : (bgiven zs k).set (zs.length + k) (.int .u8 77) = bgiven zs (k + 1) := by
  unfold bgiven
  rw [List.set_append_right _ _ (by simp)]
  simp only [List.length_map, Nat.add_sub_cancel_left]
  rcases (show k = 0 ∨ k = 1 ∨ k = 2 by omega) with rfl | rfl | rfl <;> rfl

set_option maxHeartbeats 1000000 in
set_option maxRecDepth 100000 in
theorem giveBytes_calls (s : ByteArray) (w : World) (hb : s.size ≤ 140737488351232) :
    Calls Tryz.prog 96 #[.string s] w fun e w' => ∃ g, w.heap.size ≤ g ∧ e = .returned (.slice (some ⟨g, 0, none⟩) s.size (s.size + 3)) ∧
      w'.heap[g]? = some (.cells (bgiven (bl s) 3).toArray 5 (0, 0)) ∧ Below w.heap.size w w' := by
  obtain ⟨i0, hi, hz0, hz1, hz2⟩ := info_parts infoGb
  have HN := hideG (bl_length s)
  obtain ⟨n, hn⟩ : ∃ n, n = s.size := ⟨_, rfl⟩
  have hn' : s.size = n := hn.symm
  rw [hn'] at HN
  rw [hn'] at hb
  rw [hn']
  clear hn
  have en : ((n : Int) + 3).toNat = n + 3 := by omega
  go_enter Tryz.func96, Tryz.ntmps96
  go_wp2_with (at_make; refine wpList_make_full _ rfl _ _ 47 rfl w.heap.size 5 i0 (.int .u8 0) 1 Tryz.underlying47 hi hz0 hz1 _ _ _ _ (n + 3) rfl rfl (by omega) (by omega) ?m1 ?m2 ?m3 ?_)
  case m1 => rw [hz2]; omega
  case m2 => unfold maxLen; omega
  case m3 => exact Nat.le_refl _
  intro w2 hown2 hgrow2
  have hr := row_of_full hown2
  have hb2 : Below w.heap.size w w2 := (Below.refl _ _).grown hgrow2 (Nat.le_refl _) (by simp)
  rw [toList_madeCells_one] at hr
  have HR := hideG hr
  have HB := hideG hb2
  clear hr hb2 hown2 hgrow2
  generalize hg : w.heap.size = B at *
  have HG := hideG hg
  go_wp2_with (refine wpList_copy_str rfl _ _ 47 9 rfl 5 Tryz.underlying47 sizeGb B _ _ s rfl rfl _ 5 HR.out ?c1 ?c2 B w HB.out (Nat.le_refl _) ?_)
  case c1 => omega
  case c2 => simp; omega
  intro w3 HR3 hb3
  have HB3 := hideG hb3
  clear hb3
  have hr3 : w3.heap[B]? = some (.cells (bgiven (bl s) 0).toArray 5 (0, 0)) := HR3.out
  have HR3' := hideG hr3
  clear hr3 HR3
  go_wp2_with fail
  go_loopw [4] (fun i wr => ∃ j : Nat, n ≤ j ∧ j ≤ n + 3 ∧ i = .int .i64 j ∧ wr.heap[B]? = some (.cells (bgiven (bl s) (j - n)).toArray 5 (0, 0)) ∧ Below B w wr) (fun i _ => n + 3 - (intOf i).toNat)
  case atStart => exact ⟨n, Nat.le_refl _, by omega, rfl, by rw [Nat.sub_self]; exact HR3'.out, HB3.out⟩
  case round =>
    obtain ⟨j, hj1, hj2, rfl, hr, hbel⟩ := hrel
    have HR4 := hideG hr
    have HB4 := hideG hbel
    by_cases hlt : j < n + 3
    · obtain ⟨c1, c2⟩ := row_cell hr j (by rw [bgiven_length _ _ (by omega), HN.out]; exact hlt)
      obtain ⟨u, hu⟩ : ∃ u, (bgiven (bl s) (j - n))[j]? = some u := ⟨_, List.getElem?_eq_getElem (by rw [bgiven_length _ _ (by omega), HN.out]; exact hlt)⟩
      rw [hu] at c1
      clear hr hbel hu
      go_wp2_with fail
      go_roundw
      case rel =>
        have R := row_set HR4.out j (.int .u8 77)
        have e := bgiven_set (bl s) (j - n) (by omega)
        rw [HN.out, show n + (j - n) = j by omega, show j - n + 1 = j + 1 - n by omega] at e
        rw [e] at R
        exact ⟨j + 1, by omega, by omega, by go_num, R, HB4.out.setCell (p := ⟨B, j, none⟩) (Nat.le_refl _) _⟩
      case measure => simp [intOf]; omega
    · have ej : j = n + 3 := by omega
      subst ej
      clear hr hbel
      go_wp2_with fail
      go_ret
      have R := HR4.out
      rw [Nat.add_sub_cancel_left] at R
      exact ⟨B, by rw [HG.out]; exact Nat.le_refl _, rfl, R, by rw [HG.out]; exact HB4.out⟩

theorem bgiven_bytes {w : World} {g : Nat} {s : ByteArray} (hg : w.heap[g]? = some (.cells (bgiven (bl s) 3).toArray 5 (0, 0))) (hb : s.size ≤ 140737488351232) :
    BytesAt w (.slice (some ⟨g, 0, none⟩) s.size (s.size + 3)) (bl s) := by
  refine ⟨_, _, by rw [bl_length], by rw [bl_length]; omega, by unfold maxLen; omega, bl_isB s, .inr ⟨g, 0, rfl, ?_, fun i hi => ?_⟩⟩
  · by_cases h : g < w.heap.size
    · exact h
    · rw [Array.getElem?_eq_none (by omega)] at hg; cases hg
  · rw [Nat.zero_add, (row_cell hg i (by rw [bgiven_length _ _ (Nat.le_refl _)]; omega)).1]
    unfold bgiven Frm.bAt
    rw [List.getElem?_append_left (by simpa using hi), List.getElem?_map, List.getElem?_eq_getElem hi, List.getD_eq_getElem?_getD, List.getElem?_eq_getElem hi]; rfl

theorem index_str (s : ByteArray) (k : Nat) (hk : k < s.size) (w : World) : (Instr.index 9 (.string s) (.int .i64 (k : Int))).run Tryz.prog w = .ok (.int .u8 (Frm.bAt (bl s) k)) w := by
  have hi : 0 ≤ (k : Int) ∧ (k : Int) < s.size := ⟨by omega, by omega⟩
  rw [run_index_string w 9 s .i64 (k : Int) Tryz.underlying9, dif_pos hi]
  have hk' : k < s.data.size := hk
  congr 2
  unfold Frm.bAt bl
  rw [List.getD_eq_getElem?_getD, List.getElem?_map, Array.getElem?_toList, Array.getElem?_eq_getElem hk']
  rfl

set_option maxHeartbeats 1000000 in
set_option maxRecDepth 100000 in
/-- Bytes that were handed in are as they were. -/
theorem stillBytes_calls (s : ByteArray) (w : World) (g : Nat) (hb : s.size ≤ 140737488351232) (hg : w.heap[g]? = some (.cells (bgiven (bl s) 3).toArray 5 (0, 0))) :
    Calls Tryz.prog 99 #[.slice (some ⟨g, 0, none⟩) s.size (s.size + 3), .string s] w fun e w' => e = .returned (.bool true) ∧ ∃ nq, w' = w.drewN nq := by
  have hcell : ∀ i, i < s.size + 3 → w.cell? ⟨g, i, none⟩ = some (.int .u8 (if i < s.size then Frm.bAt (bl s) i else 77)) := by
    intro i hi
    have hl := bl_length s
    rw [(row_cell hg i (by rw [bgiven_length _ _ (Nat.le_refl _)]; omega)).1]
    unfold bgiven Frm.bAt
    by_cases h1 : i < s.size
    · rw [if_pos h1, List.getElem?_append_left (by simp; omega), List.getElem?_map, List.getElem?_eq_getElem (by omega), List.getD_eq_getElem?_getD, List.getElem?_eq_getElem (by omega)]; rfl
    · rw [if_neg h1, List.getElem?_append_right (by simp; omega)]
      rw [List.getElem?_append_left (by simp; omega), List.getElem?_replicate, if_pos (by simp; omega)]
  have HC := hideG hcell
  have HIX := hideG (fun k hk W => index_str s k hk W)
  clear hcell hg
  obtain ⟨n, hn⟩ : ∃ n, n = s.size := ⟨_, rfl⟩
  have hn' : s.size = n := hn.symm
  rw [hn'] at hb HC HIX
  rw [hn']
  clear hn
  have en : ((n : Int) + 3).toNat = n + 3 := by omega
  go_enter Tryz.func99, Tryz.ntmps99
  go_wp2_with fail
  go_loopw [6] (fun i wr => ∃ k nq : Nat, k ≤ n + 3 ∧ i = .int .i64 k ∧ wr = w.drewN nq) (fun i _ => n + 3 - (intOf i).toNat)
  case atStart => exact ⟨0, 0, by omega, rfl, rfl⟩
  case round =>
    obtain ⟨k, nq, hk, rfl, rfl⟩ := hrel
    by_cases hlt : k < n + 3
    · have c1 := HC.out k hlt
      by_cases hlt2 : k < n
      · rw [if_pos hlt2] at c1
        have hix := HIX.out k hlt2
        generalize Frm.bAt (bl s) k = z at *
        have ez : (z != z) = false := by simp
        have hk0 : (0 : Int) ≤ (k : Int) := by omega
        have hk1 : (k : Int) < (n : Int) := by omega
        have hk2 : (k : Int) < (n : Int) + 3 := by omega
        have hd : decide (n ≤ k) = false := by simp; omega
        go_wp2_with fail
        go_quiet (fail)
        go_wp2_with fail
        go_roundw
        case rel => exact ⟨k + 1, _, by omega, by go_num, rfl⟩
        case measure => simp [intOf]; omega
      · rw [if_neg hlt2] at c1
        have hk0 : (0 : Int) ≤ (k : Int) := by omega
        have hk1 : ¬ ((k : Int) < (n : Int)) := by omega
        have hk2 : (k : Int) < (n : Int) + 3 := by omega
        have hk3 : (n : Int) ≤ (k : Int) := by omega
        have hd : decide (n ≤ k) = true := by simp; omega
        have hd2 : decide (k < n) = false := by simp; omega
        go_wp2_with fail
        go_quiet (fail)
        go_wp2_with fail
        go_roundw
        case rel => exact ⟨k + 1, _, by omega, by go_num, rfl⟩
        case measure => simp [intOf]; omega
    · go_wp2_with fail
      go_ret
      exact ⟨rfl, nq, rfl⟩

end Go.Proofs.YtchideljndagjabGreat
