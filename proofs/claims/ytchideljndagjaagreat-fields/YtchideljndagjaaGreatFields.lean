/- PROVED: veillaw.Fields answers true at every script, and the script reads afterwards as it read before. No condition. -/
import Derived.Test.YtchideljndagjaaGreatOpenScr
import Derived.ShutString
import Derived.Below
import Derived.SizedLaws
namespace Go.Proofs.YtchideljndagjaaGreat.fields
open Go.ChangeShapes Go.WideShapes Go.ChangeAt Go.RowKit
set_option linter.unusedVariables false

theorem own : ownKnob Tryz.prog.godebug = none := by kernel_rfl
theorem laidOut : laidOutB Tryz.prog = true := by kernel_rfl

/-- What holds behind each step: the World stands with nothing in it, nothing old has turned. -/
def J (w : World) (k : Nat) (wr : World) : Prop := Below w.heap.size w wr ∧ w.heap.size < wr.heap.size ∧ NilW wr w.heap.size

theorem nilW_new (w : World) (t : TypeId) : NilW (w.alloc (.cells #[.slice none 0 0, .slice none 0 0, .slice none 0 0, .slice none 0 0, .slice none 0 0, .slice none 0 0, .slice none 0 0, .slice none 0 0, .slice none 0 0, .slice none 0 0, .slice none 0 0, .slice none 0 0, .slice none 0 0, .slice none 0 0, .slice none 0 0, .int .i64 0] t)) w.heap.size := by
  refine ⟨fun j hj => ?_, by simp [go_sem]⟩
  match j, hj with
  | 0, _ => simp [go_sem]
  | 1, _ => simp [go_sem]
  | 2, _ => simp [go_sem]
  | 3, _ => simp [go_sem]
  | 4, _ => simp [go_sem]
  | 5, _ => simp [go_sem]
  | 6, _ => simp [go_sem]
  | 7, _ => simp [go_sem]
  | 8, _ => simp [go_sem]
  | 9, _ => simp [go_sem]
  | 10, _ => simp [go_sem]
  | 11, _ => simp [go_sem]
  | 12, _ => simp [go_sem]
  | 13, _ => simp [go_sem]
  | 14, _ => simp [go_sem]

theorem nilW_below {w w' : World} {b : Nat} (h : NilW w b) (hb : b < w.heap.size) (hB : Below w.heap.size w w') : NilW w' b :=
  ⟨fun j hj => by rw [hB.cell (p := ⟨b, j, none⟩) hb]; exact h.1 j hj, by rw [hB.cell (p := ⟨b, 15, none⟩) hb]; exact h.2⟩

theorem j_next {w wr w' : World} {k : Nat} (h : J w k wr) (hB : Below wr.heap.size wr w') : J w (k + 1) w' := by
  obtain ⟨h1, h2, h3⟩ := h
  have hs := hB.size
  exact ⟨h1.trans (hB.mono (by omega)), by omega, nilW_below h3 h2 hB⟩

set_option maxRecDepth 100000 in
theorem walk (a : Option Addr) (len cap : Nat) (w : World) (hs : Scr w a len) :
    Calls Tryz.prog 3 #[.slice a len cap] w fun e w' => e = .returned (.bool true) ∧ Below w.heap.size w w' := by
  have HS := hideH hs
  clear hs
  go_enter Tryz.func3, Tryz.ntmps3
  go_wp2_with fail
  refine (plays_any 1 2 a len cap w HS.out (J w) ?_ ?_ ?_ ?_ ?_ ?_).mono ?_
  · exact ⟨(Below.refl _ _).alloc (Nat.le_refl _) _, by simp, nilW_new w _⟩
  · exact fun k wr h => h.1
  · exact fun k wr h => h
  · intro k wr kd x y z r hk hj h1 h2 ho
    refine (step_num _ kd x y z _ _ _ _ _ _ _ _ _ _ wr (fun _ w' => J w (k + 1) w') h1 (by omega) (fun w1 hB1 => ?_)).mono (fun e w' h => h)
    have hd : kd = 1 ∨ kd = 2 := by omega
    have hj1 := j_next hj hB1
    rcases hd with rfl | rfl
    · exact (numbers_times _ x y z _ _ _ _ _ _ _ _ _ _ w1 ho.2.1 ho.2.2.1).mono fun e w' h => ⟨h.1, j_next (k := k) hj1 h.2⟩
    · exact (numbers_power _ x y z _ _ _ _ _ _ _ _ _ _ w1 ho.2.1 ho.2.2.1).mono fun e w' h => ⟨h.1, j_next (k := k) hj1 h.2⟩
  · intro wr hj
    exact (ends_nil _ wr hj.2.2).mono fun e w' h => ⟨h.1, by rw [h.2]; exact hj⟩
  · intro wr hj
    exact (looks_nil _ wr hj.2.2).mono fun e w' h => ⟨h.1, by rw [h.2]; exact hj.1⟩
  · rintro e w' ⟨rfl, hb⟩
    have HB := hideH hb
    clear hb
    go_wp2_with fail
    go_ret
    exact ⟨rfl, HB.out⟩

/-! ### The row's step -/
set_option maxRecDepth 100000 in
theorem lifted (os : Os) (started : os.Started) (H : Type) (enc : TypeId × Value → H) :
    ReturnsInHanded {} Tryz.checked os 3 .any (Rows.fieldsSpec.pre6 enc Tryz.prog Tryz.f3 Rows.fieldsRow.domain false) (Rows.fieldsSpec.post enc Tryz.prog Tryz.f3 false true false false) := by
  refine returnsInHanded_of_change_sized (C := Tryz.checked) own started (by kernel_rfl) Tryz.func3
    (ChangeSpec.witness6 (enc := enc) (C := Tryz.checked) false ⟨#[], #[.slice none 0 0], []⟩ 8 (by kernel_rfl) (by kernel_rfl) (by kernel_rfl) (by kernel_rfl)) ?_
  intro W base args ds gs before hval0 hW hcnd hsz0 _
  have hsz : (DataW.weightsEach Tryz.prog (Tryz.f3.params.toList ++ Rows.fieldsSpec.plain.varTypes Tryz.prog) (ds ++ gs)).all (· ≤ reachBytes) = true := hsz0
  clear hsz0
  have hval : ∀ (j : Nat) t v, Tryz.f3.params[j]? = some t → args[j]? = some v → Value.okWide Tryz.prog W .any base t v := hval0
  have hW' := hW
  obtain ⟨p, q, hA0, hV, rfl, hfz, hnd⟩ := hW
  have hA : DataW.TrodAll enc Tryz.prog W 0 (fun _ => true) true Tryz.f3.params.toList args.toList ds p := hA0
  rw [Tryz.params3] at hA hval hsz
  obtain ⟨v0, vs0, d0, ds0, p0, q0, hargs, rfl, rfl, h0, r0⟩ := trodAll_cons hA
  obtain ⟨rfl, rfl, rfl⟩ := trodAll_nil r0
  obtain rfl : args = #[v0] := by cases args; simp_all
  obtain ⟨rfl, rfl⟩ := trodVars_none hV
  obtain ⟨a0, len0, cap0, rfl⟩ := okWide_slice Tryz.underlying22 (hval 0 22 v0 rfl rfl)
  have k0 := h0
  have lt0 : ∀ x ∈ p0, x.block < W.heap.size := by obtain ⟨m, hm⟩ := k0; exact DataW.trod_lt m _ _ _ hm
  have w0 : Scr W a0 len0 := by
    obtain ⟨fuel, hf⟩ := h0
    exact scr_of hf (fun n hn => by
      have := List.all_eq_true.1 hsz _ (DataW.weights_mem_each (j := 0) (t := 22) rfl rfl n hn)
      simpa using this)
  clear hA0 hval0
  refine (walk a0 len0 cap0 W w0).mono fun e W' ⟨he, bel⟩ => ?_
  subst he
  exact ⟨_, rfl, _, _, _, [], _, [], hW', trodAll_mk1 (shut_bool Tryz.underlying4 _), (trodAll_cons_mk (Below.trod laidOut (by kernel_rfl) (of_decide_eq_true (by kernel_rfl)) k0 bel lt0) trodAll_mk0), rfl, bel.frame _, fun h => by cases h⟩

theorem over : Rows.fieldsRow.holds Tryz.pinned (OpenSpec.ofChange Rows.fieldsSpec) :=
  OpenClaim.holds_of_wide 3 Tryz.f3 rfl rfl rfl rfl rfl rfl rfl ⟨rfl, rfl, rfl, rfl, rfl⟩ rfl rfl rfl rfl rfl (by kernel_rfl) Tryz.func3 (by kernel_rfl)
    (of_decide_eq_true (by kernel_rfl)) (by unfold Func.isWrapper; first | (rw [if_pos (by decide +kernel)]; kernel_rfl) | (rw [if_neg (by decide +kernel)]; exact ⟨rfl, rfl⟩))
    (fun os started H enc _ => lifted os started H enc)

end Go.Proofs.YtchideljndagjaaGreat.fields
namespace Go.Proofs.YtchideljndagjaaGreat

/-- The statement. -/
theorem fields_holds : Rows.FieldsSaid := fields.over
#print axioms fields_holds
end Go.Proofs.YtchideljndagjaaGreat
