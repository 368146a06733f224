/- Contract of veilref's client: Take. -/
import Derived.Test.YtchideljndagjaaGreatPkClAT
import Derived.Test.YtchideljndagjaaGreatPkClAU
import Derived.Deep.AppendLies
import Derived.Deep.RegionLaw
namespace Go.Proofs.YtchideljndagjaaGreat
open Go.ChangeShapes Go.WideShapes Go.ChangeAt Go.RowKit
set_option linter.unusedVariables false

theorem infoFr : (Tryz.prog.info? 40).map (fun i => (i.zero, i.size, i.bytes)) = some (some (.agg #[.int .i64 0, .int .i64 0, .slice none 0 0]), 3, 40) := by kernel_rfl

/-- The row of what was heard has grown by a frame; the client's block points to it. -/
theorem heard_more {w w1 W2 w3 : World} {pw b : Nat} {s : RS} {hh : List Cli.Fr} {vs : List Value} (h : RefW w pw b s hh vs) {k fr : Int} {l : List Frm.It} {a : Option Addr} {cap : Nat} (hb1 : Below w.heap.size w w1)
    (hown : w1.ownsRow w.heap.size 142 4 (.slice a l.length cap) l.length (flat4 l)) (hin : ∀ x ∈ l, inIt x) (hok : Frm.okF k fr l = true) (hW2 : Below w1.heap.size w1 W2) {g cap' : Nat}
    (ho3 : w3.ownsRow (pw + 1) 40 3 (.slice (some ⟨g, 0, none⟩) (hh.length + 1) cap') (hh.length + 1) (flat3 hh vs ++ [.int .i64 k, .int .i64 fr, .slice a l.length cap])) (hg3 : W2.grownBy w3 s.hv.ownBlock) (hat : s.hv.ownBlock = some g ∨ g = W2.heap.size) (hgl : g < w3.heap.size)
    (p : Int) (t : Value) {w4 : World} (hp : p = (Cli.lk s.c (hh ++ [(k, fr, l)])).1) (hr4 : RAt w4 b (moreS s (.slice (some ⟨g, 0, none⟩) (hh.length + 1) cap') p t)) (hc4 : Chg (fun x => x = b) w3 w4) (hti : ItemsAt w4 t (relL s.c (Cli.lk s.c (hh ++ [(k, fr, l)]))))
    (htf : ∀ x, t.ownBlock = some x → (s.told.ownBlock = some x ∨ w3.heap.size ≤ x) ∧ x < w4.heap.size) :
    RTook w w4 pw b s (moreS s (.slice (some ⟨g, 0, none⟩) (hh.length + 1) cap') p t) hh (hh ++ [(k, fr, l)]) vs (vs ++ [.slice a l.length cap]) := by
  have z1 := hb1.size
  have z2 := hW2.size
  have z3 := hg3.size
  have z4 := hc4.size
  have hbf := h.foot b (.inl (.inl rfl))
  have c3 : Chg (fun x => s.hv.ownBlock = some x) W2 w3 := Chg.grown hg3
  have c13 : Chg (fun x => s.hv.ownBlock = some x) w w3 := ((Chg.of_below (S := fun x => s.hv.ownBlock = some x) hb1).grow hW2).also c3
  have c14 : Chg (fun x => x = b ∨ s.hv.ownBlock = some x) w w4 := (c13.mono (S' := fun x => x = b ∨ s.hv.ownBlock = some x) (fun x e _ => .inr e)).trans hc4 (fun x e _ => .inl e)
  -- blocks that stay
  have hst : ∀ x, RStat s vs x → w4.heap[x]? = w.heap[x]? := fun x hx => by
    have hf := h.foot x (.inr hx)
    have ha := h.apart x hx
    exact c14.block x hf.2 (fun e => by rcases e with e | e; exact ha.1 e; exact ha.2 e)
  have hlow : ∀ x, x < pw → w4.heap[x]? = w.heap[x]? := fun x hx => c14.block x (by omega) (fun e => by
    rcases e with e | e
    · omega
    · have := h.foot x (.inl (.inr e)); omega)
  -- the new items
  have hnb : ∀ x, (Value.slice a l.length cap).ownBlock = some x → w.heap.size ≤ x ∧ x < w1.heap.size := fun x hx => hown.lt x hx
  have hgb : g ≠ b := by
    rcases hat with e | e
    · intro e2; subst e2; exact h.apartb e
    · omega
  have hgx : ∀ x, (Value.slice a l.length cap).ownBlock = some x → g ≠ x := fun x hx e2 => by
    have := hnb x hx
    subst e2
    rcases hat with e | e
    · have := h.foot g (.inl (.inr e)); omega
    · omega
  have hnew4 : ∀ x, (Value.slice a l.length cap).ownBlock = some x → w4.heap[x]? = w1.heap[x]? := fun x hx => by
    have h1 := hnb x hx
    rw [hc4.block x (by omega) (by omega), c3.block x (by omega) (fun e => by have := h.foot x (.inl (.inr e)); omega), hW2.block x h1.2]
  have hitn : ItemsAt w4 (.slice a l.length cap) l := (itemsAt_of_owns hown hin).keep (by omega) hnew4
  have hg4 : w4.heap[g]? = w3.heap[g]? := hc4.block g hgl hgb
  have stat : ∀ x, RStat (moreS s (.slice (some ⟨g, 0, none⟩) (hh.length + 1) cap') p t) (vs ++ [.slice a l.length cap]) x → RStat s vs x ∨ ((Value.slice a l.length cap).ownBlock = some x) ∨ (w3.heap.size ≤ x ∧ x < w4.heap.size) := by
    intro x hx
    rcases hx with hx | hx | ⟨u, hu, hx⟩
    · exact .inl (.inl hx)
    · rcases htf x hx with ⟨e | e, e2⟩
      · exact .inl (.inr (.inl e))
      · exact .inr (.inr ⟨e, e2⟩)
    · rcases List.mem_append.1 hu with hu | hu
      · exact .inl (.inr (.inr ⟨u, hu, hx⟩))
      · simp at hu; subst hu; exact .inr (.inl hx)
  have gown : ∀ x, (Value.slice (some ⟨g, 0, none⟩) (hh.length + 1) cap').ownBlock = some x → x = g := fun x hx => by simpa [Value.ownBlock] using hx.symm
  refine ⟨⟨hr4, h.good, h.vi.keep2 (by omega) (fun x hx => hlow x (h.low x (.inl hx))), h.vm.keep2 (by omega) (fun x hx => hlow x (h.low x (.inr (.inl hx)))), h.vz.keep2 (by omega) (fun x hx => hlow x (h.low x (.inr (.inr hx)))), h.low,
    h.hi.keep (by omega) (fun x hx => hst x (.inl hx)), ⟨?_, ?_, ?_⟩, hti, hp, ?_, ?_, ?_, ?_⟩, rfl, c14, ?_, by simp⟩
  · simp [h.heard.len]
  · have : w4.ownsRow (pw + 1) 40 3 (.slice (some ⟨g, 0, none⟩) (hh.length + 1) cap') (hh.length + 1) (flat3 hh vs ++ [.int .i64 k, .int .i64 fr, .slice a l.length cap]) := ownsRow_keep ho3 (fun x hx => by rw [gown x hx]; exact hg4)
    rw [flat3_app hh vs h.heard.len, List.length_append]
    exact this
  · intro j u hu
    by_cases hj : j < vs.length
    · rw [List.getElem?_append_left hj] at hu
      have hjh : j < hh.length := by rw [h.heard.len]; exact hj
      have : frH (hh ++ [(k, fr, l)]) j = frH hh j := by rw [frH_get _ j (by simp; omega), frH_get _ j hjh, List.getElem_append_left hjh]
      rw [this]
      exact (h.heard.its j u hu).keep (by omega) (fun x hx => hst x (.inr (.inr ⟨u, List.mem_of_getElem? hu, hx⟩)))
    · rw [List.getElem?_append_right (by omega)] at hu
      have hj0 : j - vs.length = 0 := by
        rcases Nat.eq_zero_or_pos (j - vs.length) with e | e
        · exact e
        · rw [List.getElem?_eq_none (by simp; omega)] at hu; cases hu
      rw [hj0] at hu
      simp at hu
      subst hu
      have ej : j = hh.length := by rw [h.heard.len]; omega
      subst ej
      have : frH (hh ++ [(k, fr, l)]) hh.length = (k, fr, l) := by rw [frH_get _ _ (by simp)]; simp
      rw [this]; exact hitn
  · intro f hf
    rcases List.mem_append.1 hf with hf | hf
    · exact h.ok f hf
    · simp at hf; subst hf; exact hok
  · intro x hx
    rcases hx with (hx | hx) | hx
    · subst hx; exact ⟨hbf.1, by omega⟩
    · rw [gown x hx]
      refine ⟨?_, by omega⟩
      rcases hat with e | e
      · exact (h.foot g (.inl (.inr e))).1
      · omega
    · rcases stat x hx with e | e | e
      · have := h.foot x (.inr e); omega
      · have := hnb x e; omega
      · omega
  · intro x hx
    have hng : ∀ y, (Value.slice (some ⟨g, 0, none⟩) (hh.length + 1) cap').ownBlock = some y → y = g := gown
    rcases stat x hx with e | e | e
    · have ha := h.apart x e
      refine ⟨ha.1, fun e2 => ?_⟩
      have := gown x e2
      subst this
      rcases hat with e3 | e3
      · exact ha.2 e3
      · have := h.foot x (.inr e); omega
    · have h1 := hnb x e
      refine ⟨by omega, fun e2 => hgx x e (gown x e2).symm⟩
    · refine ⟨by omega, fun e2 => ?_⟩
      have := gown x e2
      omega
  · intro e; exact hgb (gown b e).symm
  · intro x hx
    rcases hx with (hx | hx) | hx
    · exact .inl (.inl (.inl hx))
    · rw [gown x hx]
      rcases hat with e | e
      · exact .inl (.inl (.inr e))
      · exact .inr (by omega)
    · rcases stat x hx with e | e | e
      · exact .inl (.inr e)
      · have := hnb x e; exact .inr (by omega)
      · exact .inr (by omega)


theorem heard_next {w w1 W2 w3 : World} {pw b : Nat} {s : RS} {hh : List Cli.Fr} {vs : List Value} (h : RefW w pw b s hh vs) {k fr : Int} {l : List Frm.It} {a : Option Addr} {cap : Nat} (hb1 : Below w.heap.size w w1)
    (hown : w1.ownsRow w.heap.size 142 4 (.slice a l.length cap) l.length (flat4 l)) (hin : ∀ x ∈ l, inIt x) (hok : Frm.okF k fr l = true) (hW2 : Below w1.heap.size w1 W2) {g cap' : Nat}
    (ho3 : w3.ownsRow (pw + 1) 40 3 (.slice (some ⟨g, 0, none⟩) (hh.length + 1) cap') (hh.length + 1) (flat3 hh vs ++ [.int .i64 k, .int .i64 fr, .slice a l.length cap])) (hg3 : W2.grownBy w3 s.hv.ownBlock) (hat : s.hv.ownBlock = some g ∨ g = W2.heap.size) (hgl : g < w3.heap.size)
    {w4 : World} (hc4 : Chg (fun x => x = b) w3 w4) : FramesAt w4 (.slice (some ⟨g, 0, none⟩) (hh.length + 1) cap') (hh ++ [(k, fr, l)]) ∧ ListAt w4 s.vi s.c.inp ∧ ListAt w4 s.vm s.c.sm ∧ ListAt w4 s.vs s.c.ss := by
  have z1 := hb1.size
  have z2 := hW2.size
  have z3 := hg3.size
  have z4 := hc4.size
  have hbf := h.foot b (.inl (.inl rfl))
  have c3 : Chg (fun x => s.hv.ownBlock = some x) W2 w3 := Chg.grown hg3
  have c13 : Chg (fun x => s.hv.ownBlock = some x) w w3 := ((Chg.of_below (S := fun x => s.hv.ownBlock = some x) hb1).grow hW2).also c3
  have c14 : Chg (fun x => x = b ∨ s.hv.ownBlock = some x) w w4 := (c13.mono (S' := fun x => x = b ∨ s.hv.ownBlock = some x) (fun x e _ => .inr e)).trans hc4 (fun x e _ => .inl e)
  have hst : ∀ x, RStat s vs x → w4.heap[x]? = w.heap[x]? := fun x hx => by
    have hf := h.foot x (.inr hx)
    have ha := h.apart x hx
    exact c14.block x hf.2 (fun e => by rcases e with e | e; exact ha.1 e; exact ha.2 e)
  have hlow : ∀ x, x < pw → w4.heap[x]? = w.heap[x]? := fun x hx => c14.block x (by omega) (fun e => by
    rcases e with e | e
    · omega
    · have := h.foot x (.inl (.inr e)); omega)
  have hnb : ∀ x, (Value.slice a l.length cap).ownBlock = some x → w.heap.size ≤ x ∧ x < w1.heap.size := fun x hx => hown.lt x hx
  have hgb : g ≠ b := by
    rcases hat with e | e
    · intro e2; subst e2; exact h.apartb e
    · omega
  have hnew4 : ∀ x, (Value.slice a l.length cap).ownBlock = some x → w4.heap[x]? = w1.heap[x]? := fun x hx => by
    have h1 := hnb x hx
    rw [hc4.block x (by omega) (by omega), c3.block x (by omega) (fun e => by have := h.foot x (.inl (.inr e)); omega), hW2.block x h1.2]
  have hitn : ItemsAt w4 (.slice a l.length cap) l := (itemsAt_of_owns hown hin).keep (by omega) hnew4
  have hg4 : w4.heap[g]? = w3.heap[g]? := hc4.block g hgl hgb
  have gown : ∀ x, (Value.slice (some ⟨g, 0, none⟩) (hh.length + 1) cap').ownBlock = some x → x = g := fun x hx => by simpa [Value.ownBlock] using hx.symm
  have hh4 : HeardAt w4 (pw + 1) (.slice (some ⟨g, 0, none⟩) (hh.length + 1) cap') (hh ++ [(k, fr, l)]) (vs ++ [.slice a l.length cap]) := by
    refine ⟨by simp [h.heard.len], ?_, ?_⟩
    · have : w4.ownsRow (pw + 1) 40 3 (.slice (some ⟨g, 0, none⟩) (hh.length + 1) cap') (hh.length + 1) (flat3 hh vs ++ [.int .i64 k, .int .i64 fr, .slice a l.length cap]) := ownsRow_keep ho3 (fun x hx => by rw [gown x hx]; exact hg4)
      rw [flat3_app hh vs h.heard.len, List.length_append]
      exact this
    · intro j u hu
      by_cases hj : j < vs.length
      · rw [List.getElem?_append_left hj] at hu
        have hjh : j < hh.length := by rw [h.heard.len]; exact hj
        have : frH (hh ++ [(k, fr, l)]) j = frH hh j := by rw [frH_get _ j (by simp; omega), frH_get _ j hjh, List.getElem_append_left hjh]
        rw [this]
        exact (h.heard.its j u hu).keep (by omega) (fun x hx => hst x (.inr (.inr ⟨u, List.mem_of_getElem? hu, hx⟩)))
      · rw [List.getElem?_append_right (by omega)] at hu
        have hj0 : j - vs.length = 0 := by
          rcases Nat.eq_zero_or_pos (j - vs.length) with e | e
          · exact e
          · rw [List.getElem?_eq_none (by simp; omega)] at hu; cases hu
        rw [hj0] at hu
        simp at hu
        subst hu
        have ej : j = hh.length := by rw [h.heard.len]; omega
        subst ej
        have : frH (hh ++ [(k, fr, l)]) hh.length = (k, fr, l) := by rw [frH_get _ _ (by simp)]; simp
        rw [this]; exact hitn
  exact ⟨hh4.frames, h.vi.keep2 (by omega) (fun x hx => hlow x (h.low x (.inl hx))), h.vm.keep2 (by omega) (fun x hx => hlow x (h.low x (.inr (.inl hx)))), h.vz.keep2 (by omega) (fun x hx => hlow x (h.low x (.inr (.inr hx))))⟩

theorem RAt.setHv {w : World} {b : Nat} {s : RS} (h : RAt w b s) (v : Value) : RAt (w.setCell ⟨b, 11, none⟩ v) b (moreS s v s.ph s.told) := by
  have := heap_setCell_same w b 11 _ _ v h
  rw [List.setIfInBounds_toArray] at this
  exact this
theorem RAt.setPh {w : World} {b : Nat} {s : RS} (h : RAt w b s) (p : Int) : RAt (w.setCell ⟨b, 13, none⟩ (.int .i64 p)) b (moreS s s.hv p s.told) := by
  have := heap_setCell_same w b 13 _ _ (.int .i64 p) h
  rw [List.setIfInBounds_toArray] at this
  exact this
theorem RAt.setTold {w : World} {b : Nat} {s : RS} (h : RAt w b s) (v : Value) : RAt (w.setCell ⟨b, 14, none⟩ v) b (moreS s s.hv s.ph v) := by
  have := heap_setCell_same w b 14 _ _ v h
  rw [List.setIfInBounds_toArray] at this
  exact this
theorem RAns.form {w w' : World} {va : Value} {o : Option Cli.Fr} (h : RAns w w' va o) : ∃ a n c, va = .slice a n c := by
  cases o with
  | none => exact ⟨none, 0, 0, h⟩
  | some f => obtain ⟨a, c, e⟩ := owns_form h; exact ⟨a, _, c, e⟩
theorem RAns.base {w w1 w' : World} {va : Value} {o : Option Cli.Fr} (h : RAns w1 w' va o) (hb : w.heap.size ≤ w1.heap.size) : RAns w w' va o := by
  cases o with
  | none => exact h
  | some f => exact ownsRow_base h hb
theorem RAns.chg {w w' w'' : World} {P : Nat → Prop} {va : Value} {o : Option Cli.Fr} (h : RAns w w' va o) (hc : Chg P w' w'') (hn : ∀ x, w.heap.size ≤ x → ¬ P x) : RAns w w'' va o := by
  cases o with
  | none => exact h
  | some f => exact ownsRow_chg h hc (fun x hx => hn x (World.ownsRow.lt h x hx).1)
theorem told_keep {w w' : World} {pw b : Nat} {s : RS} {hh : List Cli.Fr} {vs : List Value} (h : RefW w pw b s hh vs) (hc : Chg (fun x => x = b ∨ s.hv.ownBlock = some x) w w') : ItemsAt w' s.told (relL s.c (Cli.lk s.c hh)) :=
  h.told.keep hc.size (fun x hx => hc.block x (h.foot x (.inr (.inr (.inl hx)))).2 (fun e => by
    have ha := h.apart x (.inr (.inl hx))
    rcases e with e | e; exact ha.1 e; exact ha.2 e))

end Go.Proofs.YtchideljndagjaaGreat

namespace Go.Proofs.YtchideljndagjaaGreat
open Go.ChangeShapes Go.WideShapes Go.ChangeAt Go.RowKit
set_option linter.unusedVariables false

theorem took_none {w w' : World} {pw b : Nat} {s : RS} {hh : List Cli.Fr} {vs : List Value} (h : RefW w pw b s hh vs) (hb : Below w.heap.size w w') : RTook w w' pw b s s hh hh vs vs :=
  ⟨h.below hb, rfl, Chg.of_below hb, fun _ hx => .inl hx, by omega⟩

set_option maxHeartbeats 4000000 in
set_option maxRecDepth 100000 in
theorem rTake_calls (pw b : Nat) (s : RS) (hh : List Cli.Fr) (vs : List Value) (v : Value) (zs : List Int) (w : World) (h : RefW w pw b s hh vs) (hv : BytesAt w v zs) (hlen : (hh.length + 1) * 40 ≤ 140737488355328) :
    Calls Tryz.prog 56 #[.pointer (some ⟨b, 0, none⟩), v] w fun e w' => ∃ va, e = .returned va ∧ ∃ s' hh' vs', RTook w w' pw b s s' hh hh' vs vs' ∧ Cli.lk s.c hh' = stepD s.c (Cli.lk s.c hh) zs ∧ RAns w w' va (ansD s.c (Cli.lk s.c hh) zs) := by
  obtain ⟨i0, hi0, hz0, hz1, hz2⟩ := info_parts infoFr
  have hbf := h.foot b (.inl (.inl rfl))
  have hbl := hbf.2
  have HD := hideG (rdecode_calls v zs w hv)
  obtain ⟨az, cz, rfl, -, -, hB, -⟩ := bytes_view hv
  have HW := hideG h
  clear hv
  cases hd : Frm.decF zs with
  | none =>
    obtain ⟨x1, x2, x3, x4⟩ := d_none hd
    rw [x1, x2, x3, x4] at HD
    obtain ⟨y1, y2⟩ := stepD_none (c := s.c) (s := Cli.lk s.c hh) hd
    rw [y1, y2]
    clear x1 x2 x3 x4 y1 y2 hd hB h
    go_enter Tryz.func56, Tryz.ntmps56
    go_wp2_with fail
    refine HD.out.mono ?_
    rintro e w1 ⟨va, rfl, hown, hb⟩
    obtain ⟨a', c', hv'⟩ := owns_form hown
    subst hv'
    have HB := hideG hb
    clear hown hb
    go_wp2_with fail
    go_ret
    exact ⟨_, rfl, s, hh, vs, took_none HW.out (HB.out.alloc HB.out.size _), rfl, rfl⟩
  | some f =>
    obtain ⟨k, fr, l⟩ := f
    obtain ⟨x1, x2, x3, x4⟩ := d_some hd
    rw [x1, x2, x3, x4] at HD
    obtain ⟨y1, y2, y3⟩ := Frm.enc_dec hB hd
    have HOK := hideG y1
    have HIN := hideG (okF_in y1)
    obtain ⟨ss1, ss2⟩ := stepD_some (c := s.c) (s := Cli.lk s.c hh) hd
    obtain ⟨L', hL'⟩ : ∃ L', L' = Cli.lk s.c (hh ++ [(k, fr, l)]) := ⟨_, rfl⟩
    have hstep : L' = Cli.stepS s.c (Cli.lk s.c hh) (k, fr, l) := by rw [hL']; exact Cli.lk_app _ _ _
    rw [← hstep] at ss1 ss2
    have HL := hideG hL'
    have HSD := hideG ss1
    have HAD := hideG ss2
    have HST := hideG hstep
    have HSP := hideG (fun (e : L'.1 = (Cli.lk s.c hh).1) => (show L' = Cli.lk s.c hh by rw [hstep] at e ⊢; exact Cli.step_phase _ _ _ e))
    have HPH := hideG h.ph
    have hfrom : L'.1 ≠ (Cli.lk s.c hh).1 → (Cli.lk s.c hh).1 ≠ 4 := fun e => by
      rw [hstep] at e
      have := step_from e
      omega
    have HFR := hideG hfrom
    obtain ⟨ah, ch, hhv⟩ := owns_form h.heard.own
    have HHV := hideG hhv
    have HRA := hideG (fun (W : World) (hb : Below w.heap.size w W) => h.at_.below hb)
    have HOWN := hideG h.heard.own
    rw [hhv] at HOWN
    have HAB := hideG h.apartb
    rw [hhv] at HAB
    have HN := hideG (h.heard.len)
    obtain ⟨n, hn⟩ : ∃ n, n = hh.length := ⟨_, rfl⟩
    rw [← hn] at hlen HOWN HAB HHV
    have HNN := hideG hn
    clear x1 x2 x3 x4 y1 y2 y3 hd hB h hL' hstep ss1 ss2 hfrom hhv hn
    go_enter Tryz.func56, Tryz.ntmps56
    go_wp2_with fail
    refine HD.out.mono ?_
    rintro e w1 ⟨va, rfl, hown, hb⟩
    obtain ⟨a', c', hv'⟩ := owns_form hown
    subst hv'
    have s1 := hb.size
    have O1 := hideG hown
    have B1 := hideG hb
    clear hown hb
    obtain ⟨m, hm⟩ : ∃ m, m = l.length := ⟨_, rfl⟩
    rw [← hm] at O1 ⊢
    have HMM := hideG hm
    clear hm
    obtain ⟨W1, hW1⟩ : ∃ W1, W1 = w1.alloc (.cells #[.int .i64 k, .int .i64 fr, .slice a' m c'] 40) := ⟨_, rfl⟩
    have hb11 : Below w1.heap.size w1 W1 := by rw [hW1]; exact (Below.refl _ _).alloc (Nat.le_refl _) _
    have sW1 : W1.heap.size = w1.heap.size + 1 := by rw [hW1]; simp
    have BW1 := hideG (B1.out.trans (hb11.mono s1))
    obtain ⟨x0, x1, x2⟩ : FrAt W1 w1.heap.size k fr (.slice a' m c') := by rw [hW1]; exact FrAt.new w1 k fr _
    have hra := HRA.out W1 BW1.out
    obtain ⟨_, _, _, y11, _⟩ := hra.vals
    rw [HHV.out] at y11
    have yf := hra.froz 11
    have HW1 := hideG hW1
    have B11 := hideG hb11
    have OW1 := hideG (ownsRow_keep HOWN.out (w' := W1) (fun x hx => BW1.out.block x (World.ownsRow.lt HOWN.out x hx).2))
    have RA1 := hideG hra
    have nb : some b ≠ (Value.slice ah n ch).ownBlock := fun e => HAB.out e.symm
    have hblW : b < W1.heap.size := by omega
    have h63 : n + 1 ≤ maxLen := by unfold maxLen; omega
    have al : ∀ (ob : Obj) (c o : Nat), c < W1.heap.size → (W1.alloc ob).cell? ⟨c, o, none⟩ = W1.cell? ⟨c, o, none⟩ := fun ob c o hc => ((Below.refl W1.heap.size W1).alloc (Nat.le_refl _) ob).cell (p := ⟨c, o, none⟩) hc
    have al2 : ∀ (ob : Obj) (c o : Nat), c < W1.heap.size → (W1.alloc ob).frozen? ⟨c, o, none⟩ = W1.frozen? ⟨c, o, none⟩ := fun ob c o hc => ((Below.refl W1.heap.size W1).alloc (Nat.le_refl _) ob).frozen (p := ⟨c, o, none⟩) hc
    have hw1l : w1.heap.size < W1.heap.size := by omega
    have hpwl : pw + 1 ≤ W1.heap.size := by omega
    have HQ := hideG (show ∀ w3 : World, (W1.alloc (.cells #[.int .i64 k, .int .i64 fr, .slice a' m c'] 40)).drew.grownBy w3 (Value.slice ah n ch).ownBlock → w3.cell? ⟨b, 11, none⟩ = some (.slice ah n ch) ∧ w3.frozen? ⟨b, 11, none⟩ = false from fun w3 hg =>
      ⟨(hg.cell_far ⟨b, 11, none⟩ (by show b < (W1.alloc (.cells #[.int .i64 k, .int .i64 fr, .slice a' m c'] 40)).heap.size; simp; omega) nb).trans ((al _ b 11 hblW).trans y11), (hg.frozen_far ⟨b, 11, none⟩ (by show b < (W1.alloc (.cells #[.int .i64 k, .int .i64 fr, .slice a' m c'] 40)).heap.size; simp; omega) nb).trans ((al2 _ b 11 hblW).trans yf)⟩)
    have SW1 := hideG sW1
    clear hW1 hb11 hra sW1
    go_upto_region 4 with fail
    rw [← HW1.out]
    go_cut [6] from 18 to 27 (fun p wc => p = .int .i64 0 ∧ ∃ gg cap' w3, wc = w3.setCell ⟨b, 11, none⟩ (.slice (some ⟨gg, 0, none⟩) (n + 1) cap') ∧ w3.ownsRow (pw + 1) 40 3 (.slice (some ⟨gg, 0, none⟩) (n + 1) cap') (n + 1) (flat3 hh vs ++ [.int .i64 k, .int .i64 fr, .slice a' m c']) ∧
      (W1.alloc (.cells #[.int .i64 k, .int .i64 fr, .slice a' m c'] 40)).drew.grownBy w3 (Value.slice ah n ch).ownBlock ∧ ((Value.slice ah n ch).ownBlock = some gg ∨ gg = W1.heap.size + 1) ∧ gg < w3.heap.size)
    case first =>
      go_region_law (refine step_append_lies _ (by rfl) _ _ _ (by rfl) (pw + 1) 40 i0 _ 3 40 Tryz.underlying106 hi0 hz0 hz1 hz2 rfl (by omega) (.slice ah n ch) n (flat3 hh vs) (by rfl) ((OW1.out.alloc _).drew) ⟨W1.heap.size, 0, none⟩ 1 1 [.int .i64 k, .int .i64 fr, .slice a' m c'] (by rfl) (by rfl) (World.news_of_block (cs := #[.int .i64 k, .int .i64 fr, .slice a' m c']) (t := 40) (fr := (0, 0)) (heap_alloc_new W1 _)) (by simp [Value.oneCell']) (by omega) h63 hlen (by simp; omega) (W1.heap.size + 1) (by simp) ?_; intro gg cap' w3 hown3 hgrow hat hlt'; obtain ⟨q11, qf⟩ := HQ.out w3 hgrow)
      all_goals (go_wp2_with fail; go_meet; exact ⟨rfl, gg, cap', w3, rfl, hown3, hgrow, hat, hlt'⟩)
    case rest =>
      obtain ⟨rfl, gg, cap', w3, hwc, hown3, hgrow, hat, hlt'⟩ := hcut
      have hn := HNN.out
      have hm := HMM.out
      have sW2 : (W1.alloc (.cells #[.int .i64 k, .int .i64 fr, .slice a' m c'] 40)).drew.heap.size = W1.heap.size + 1 := by show (W1.alloc (.cells #[.int .i64 k, .int .i64 fr, .slice a' m c'] 40)).heap.size = _; simp
      obtain ⟨W2, hW2⟩ : ∃ W2, W2 = (W1.alloc (.cells #[.int .i64 k, .int .i64 fr, .slice a' m c'] 40)).drew := ⟨_, rfl⟩
      have hbW2 : Below w1.heap.size w1 W2 := by rw [hW2]; exact (B11.out.alloc (by omega) _).drew
      rw [← hW2] at hgrow sW2
      have hat' : s.hv.ownBlock = some gg ∨ gg = W2.heap.size := by rw [sW2, HHV.out]; exact hat
      have hgr' : W2.grownBy w3 s.hv.ownBlock := by rw [HHV.out]; exact hgrow
      have z3 := hgrow.size
      have rb3 : RAt w3 b s := (RA1.out.block (w' := w3) (by
        rw [hgrow.block b (by omega) nb, hW2]
        exact ((Below.refl W1.heap.size W1).alloc (Nat.le_refl _) (.cells #[.int .i64 k, .int .i64 fr, .slice a' m c'] 40)).drew.block b hblW))
      have hc3 : Chg (fun x => x = b) w3 wc := by rw [hwc]; exact Chg.setCell w3 ⟨b, 11, none⟩ _
      have rb4 : RAt wc b (moreS s (.slice (some ⟨gg, 0, none⟩) (hh.length + 1) cap') s.ph s.told) := by rw [hwc, ← hn]; exact rb3.setHv _
      have ho1 : w1.ownsRow w.heap.size 142 4 (.slice a' l.length c') l.length (flat4 l) := by have := O1.out; rw [hm] at this; exact this
      have ho3 : w3.ownsRow (pw + 1) 40 3 (.slice (some ⟨gg, 0, none⟩) (hh.length + 1) cap') (hh.length + 1) (flat3 hh vs ++ [.int .i64 k, .int .i64 fr, .slice a' l.length c']) := by rw [← hn, ← hm]; exact hown3
      obtain ⟨fa4, li4, lm4, ls4⟩ := heard_next HW.out B1.out ho1 HIN.out HOK.out hbW2 ho3 hgr' hat' hlt' hc3
      have HMORE := hideG (fun (p : Int) (t : Value) (w4 : World) (hp : p = L'.1) (hr4 : RAt w4 b (moreS s (.slice (some ⟨gg, 0, none⟩) (hh.length + 1) cap') p t)) (hc4 : Chg (fun x => x = b) w3 w4) (hti : ItemsAt w4 t (relL s.c L')) (htf : ∀ x, t.ownBlock = some x → (s.told.ownBlock = some x ∨ w3.heap.size ≤ x) ∧ x < w4.heap.size) =>
        (show RTook w w4 pw b s (moreS s (.slice (some ⟨gg, 0, none⟩) (hh.length + 1) cap') p t) hh (hh ++ [(k, fr, l)]) vs (vs ++ [.slice a' l.length c']) from
          heard_more HW.out B1.out ho1 HIN.out HOK.out hbW2 ho3 hgr' hat' hlt' p t (by rw [hp, HL.out]) hr4 hc4 (by rw [← HL.out]; exact hti) htf))
      have hokk : ∀ f ∈ hh ++ [(k, fr, l)], Frm.okF f.1 f.2.1 f.2.2 = true := fun f hf => by
        rcases List.mem_append.1 hf with hf | hf
        · exact HW.out.ok f hf
        · simp at hf; subst hf; exact HOK.out
      have HLK := hideG (show Calls Tryz.prog 112 #[.pointer (some ⟨b, 0, none⟩)] wc fun e w' => ∃ va, e = .returned (.tuple #[.int .i64 L'.1, va]) ∧ RAns wc w' va (Cli.answer s.c L') ∧ Below wc.heap.size wc w' by
        rw [HL.out]
        exact rlook_calls b (moreS s (.slice (some ⟨gg, 0, none⟩) (hh.length + 1) cap') s.ph s.told) (hh ++ [(k, fr, l)]) wc rb4 fa4 li4 lm4 ls4 HW.out.good hokk)
      have RB4 := hideG rb4
      have HC3 := hideG hc3
      have CW := hideG (show Chg (fun x => x = b ∨ s.hv.ownBlock = some x) w wc from
        (((((Chg.of_below (S := fun x => x = b ∨ s.hv.ownBlock = some x) B1.out).grow hbW2)).trans (Chg.grown hgr') (fun x e _ => .inr e))).trans hc3 (fun x e _ => .inl e))
      have z4 := hc3.size
      have zw : w.heap.size ≤ wc.heap.size := CW.out.size
      have hblc : b < wc.heap.size := by omega
      clear hwc hown3 hgrow hat hlt' hW2 hbW2 hat' hgr' rb3 hc3 rb4 ho1 ho3 fa4 li4 lm4 ls4 hokk hn hm x0 x1 x2 y11 yf al al2
      go_wp2_with fail
      refine HLK.out.mono ?_
      rintro e w5 ⟨va, rfl, hans, hb5⟩
      have s5 := hb5.size
      obtain ⟨av, nv, cv, hva⟩ := hans.form
      subst hva
      have HANS := hideG hans
      have B5 := hideG hb5
      have RB5 := hideG (RB4.out.below hb5)
      have C35 := hideG (HC3.out.grow hb5)
      have CW5 := hideG (CW.out.grow hb5)
      have hbl5 : b < w5.heap.size := by omega
      have y13 := RB5.out.vals.2.2.2.2
      change w5.cell? ⟨b, 13, none⟩ = some (.int .i64 s.ph) at y13
      have f13 := RB5.out.froz 13
      rw [HPH.out] at y13
      obtain ⟨ph, hph⟩ : ∃ ph, ph = (Cli.lk s.c hh).1 := ⟨_, rfl⟩
      rw [← hph] at y13 HSP HFR
      have HP0 := hideG hph
      obtain ⟨p, hp⟩ : ∃ p, p = L'.1 := ⟨_, rfl⟩
      rw [← hp] at HSP HFR ⊢
      have HP1 := hideG hp
      clear hans hb5 hph hp
      by_cases q : p = ph
      · have q' : (p == ph) = true := by simpa using q
        have HX := hideG (HSP.out q)
        have HQ1 := hideG q
        clear q
        go_wp2_with fail
        go_ret
        refine ⟨_, rfl, _, _, _, HMORE.out s.ph s.told w5 (by rw [HPH.out, HX.out]) RB5.out C35.out (by rw [HX.out]; exact told_keep HW.out CW5.out) (fun x hx => ⟨.inl hx, by have := (HW.out.foot x (.inr (.inr (.inl hx)))).2; have := CW5.out.size; omega⟩), ?_, ?_⟩
        · rw [← HL.out]; exact HSD.out.symm
        · rw [HAD.out, if_pos (by rw [← HP1.out, ← HP0.out]; exact HQ1.out)]; rfl
      · have q' : (p == ph) = false := by simpa using q
        have HN4 := hideG (HFR.out q)
        have HQ1 := hideG q
        clear q
        obtain ⟨W6, hW6⟩ : ∃ W6, W6 = w5.setCell ⟨b, 13, none⟩ (.int .i64 p) := ⟨_, rfl⟩
        have hc6 : Chg (fun x => x = b) w5 W6 := by rw [hW6]; exact Chg.setCell w5 ⟨b, 13, none⟩ _
        have RB6 := hideG (show RAt W6 b (moreS s (.slice (some ⟨gg, 0, none⟩) (hh.length + 1) cap') p s.told) by rw [hW6]; exact RB5.out.setPh p)
        have z6 := hc6.size
        have C36 := hideG (C35.out.also hc6)
        have CW6 := hideG (show Chg (fun x => x = b ∨ s.hv.ownBlock = some x) w W6 from CW5.out.trans hc6 (fun x e _ => .inl e))
        have AN6 := hideG (HANS.out.chg hc6 (fun x hx e => by omega))
        have HW6 := hideG hW6
        have TK6 := hideG (told_keep HW.out CW6.out)
        have HRL := hideG (show relL s.c (Cli.lk s.c hh) = [] by unfold relL; rw [if_neg (by rw [← HP0.out]; exact HN4.out)])
        clear hc6 hW6
        by_cases q4 : p = 4
        · have q4' : (p == 4) = true := by simpa using q4
          have HQ4 := hideG q4
          have hl4 : L'.1 = 4 := by rw [← HP1.out]; exact q4
          have hok7 := Cli.tells_ok HW.out.good L'.2.1 L'.2.2.1 L'.2.2.2
          have hrl : relL s.c L' = Cli.tells s.c L'.2.1 L'.2.2.1 L'.2.2.2 := by unfold relL; rw [if_pos hl4]
          have han : Cli.answer s.c L' = some (7, s.c.id, Cli.tells s.c L'.2.1 L'.2.2.1 L'.2.2.2) := by
            unfold Cli.answer; rw [if_neg (by omega), if_neg (by omega), if_pos hl4]
          rw [← hrl] at hok7 han
          have hba : BytesAt W6 (.slice av nv cv) (Frm.encF 7 s.c.id (relL s.c L')) := by
            have h6 := AN6.out
            rw [han] at h6
            exact bytesAt_of_owns h6 (encF_isB hok7)
          have hde := rdecode_calls _ _ W6 hba
          obtain ⟨k1, k2, k3, k4⟩ := d_some (Frm.dec_enc hok7)
          rw [k1, k2, k3, k4] at hde
          have HDE := hideG hde
          have HIT := hideG (okF_in hok7)
          obtain ⟨id, hid⟩ : ∃ id, id = s.c.id := ⟨_, rfl⟩
          obtain ⟨TT, hTT⟩ : ∃ TT, TT = relL s.c L' := ⟨_, rfl⟩
          rw [← hid, ← hTT] at HDE
          rw [← hTT] at HIT
          have HTT := hideG hTT
          obtain ⟨nt, hnt⟩ : ∃ nt, nt = TT.length := ⟨_, rfl⟩
          rw [← hnt] at HDE
          have HNT := hideG hnt
          have hbl6 : b < W6.heap.size := by omega
          have y14 := RB6.out.cell 14
          change W6.cell? ⟨b, 14, none⟩ = some s.told at y14
          have f14 := RB6.out.froz 14
          clear q4 hl4 hok7 hrl han hba hde k1 k2 k3 k4 hid hTT hnt
          go_upto_region 9 with fail
          rw [← HW6.out]
          go_wp2_with fail
          refine HDE.out.mono ?_
          rintro e w7 ⟨vt, rfl, hot, hb7⟩
          obtain ⟨at7, ct7, hvt⟩ := owns_form hot
          subst hvt
          have s7 := hb7.size
          obtain ⟨W7, hW7⟩ : ∃ W7, W7 = w7.alloc (.cells #[.int .i64 7, .int .i64 id, .slice at7 nt ct7] 40) := ⟨_, rfl⟩
          have hb77 : Below w7.heap.size w7 W7 := by rw [hW7]; exact (Below.refl _ _).alloc (Nat.le_refl _) _
          have sW7 : W7.heap.size = w7.heap.size + 1 := by rw [hW7]; simp
          obtain ⟨x0, x1, x2⟩ : FrAt W7 w7.heap.size 7 id (.slice at7 nt ct7) := by rw [hW7]; exact FrAt.new w7 7 id _
          have hb67 := hb7.trans (hb77.mono s7)
          have RB7 := hideG (RB6.out.below hb67)
          have OT7 := hideG (ownsRow_chg (S := fun _ => False) hot (Chg.of_below hb77) (fun _ _ h => h))
          have B67 := hideG hb67
          have HW7 := hideG hW7
          clear y14 f14 hot hb7 hW7 hb77 hb67 y13 f13
          have y14 := RB7.out.cell 14
          change W7.cell? ⟨b, 14, none⟩ = some s.told at y14
          have f14 := RB7.out.froz 14
          obtain ⟨W8, hW8⟩ : ∃ W8, W8 = W7.setCell ⟨b, 14, none⟩ (.slice at7 nt ct7) := ⟨_, rfl⟩
          have hc8 : Chg (fun x => x = b) W7 W8 := by rw [hW8]; exact Chg.setCell W7 ⟨b, 14, none⟩ _
          have RB8 := hideG (show RAt W8 b (moreS s (.slice (some ⟨gg, 0, none⟩) (hh.length + 1) cap') p (.slice at7 nt ct7)) by rw [hW8]; exact RB7.out.setTold _)
          have z8 := hc8.size
          have C68 := hideG (show Chg (fun x => x = b) W6 W8 from (Chg.of_below (S := fun x => x = b) B67.out).also hc8)
          have OT8 := hideG (ownsRow_chg OT7.out hc8 (fun x hx e => by have := OT7.out.lt x hx; omega))
          have HW8 := hideG hW8
          clear hc8 hW8
          have hbl7 : b < W7.heap.size := by omega
          have hlw7 : w7.heap.size < W7.heap.size := by omega
          go_upto_region 11 with fail
          rw [← HW7.out]
          go_wp2_with fail
          rw [← HW8.out]
          go_ret
          have hIT8 : ItemsAt W8 (.slice at7 nt ct7) TT := itemsAt_of_owns (B := W6.heap.size) (by rw [← HNT.out]; exact OT8.out) HIT.out
          have z36 := C36.out.size
          refine ⟨_, rfl, _, _, _, HMORE.out p (.slice at7 nt ct7) W8 HP1.out RB8.out (C36.out.also C68.out) (by rw [← HTT.out]; exact hIT8) (fun x hx => by have := OT8.out.lt x hx; exact ⟨.inr (by omega), by omega⟩), ?_, ?_⟩
          · rw [← HL.out]; exact HSD.out.symm
          · rw [HAD.out, if_neg (by rw [← HP1.out, ← HP0.out]; exact HQ1.out)]
            exact (AN6.out.chg C68.out (fun x hx e => by omega)).base zw
        · have q4' : (p == 4) = false := by simpa using q4
          have HX := hideG (show relL s.c L' = [] by unfold relL; rw [if_neg (by rw [← HP1.out]; exact q4)])
          clear q4
          go_wp2_with fail
          rw [← HW6.out]
          go_ret
          refine ⟨_, rfl, _, _, _, HMORE.out p s.told W6 HP1.out RB6.out C36.out (by rw [HX.out, ← HRL.out]; exact TK6.out) (fun x hx => ⟨.inl hx, by have := (HW.out.foot x (.inr (.inr (.inl hx)))).2; have := CW6.out.size; omega⟩), ?_, ?_⟩
          · rw [← HL.out]; exact HSD.out.symm
          · rw [HAD.out, if_neg (by rw [← HP1.out, ← HP0.out]; exact HQ1.out)]; exact AN6.out.base zw

end Go.Proofs.YtchideljndagjaaGreat
