/- PROVED: veillaw.Frames answers true at every script, and the script reads afterwards as it read before. No condition. -/
import Derived.Test.YtchideljndagjaaGreatOpenScr2
import Derived.Test.YtchideljndagjaaGreatFrameLaw
import Derived.Test.YtchideljndagjaaGreatLookFrm
import Derived.ShutString
import Derived.Below
import Derived.SizedLaws
namespace Go.Proofs.YtchideljndagjaaGreat.frames
open Go.ChangeShapes Go.WideShapes Go.ChangeAt Go.RowKit
set_option linter.unusedVariables false

theorem own : ownKnob Tryz.prog.godebug = none := by kernel_rfl
theorem laidOut : laidOutB Tryz.prog = true := by kernel_rfl

theorem step_enc (pw : Value) (x y z k fr : Int) (l s f2 g0 g1 g2 g3 d : Value) (w : World) (Q : World → Prop)
    (hc : ∀ w1, Below w.heap.size w w1 → Calls Tryz.prog 13 #[pw, .agg #[.int .i64 k, .int .i64 fr, f2]] w1 fun e w' => e = .returned (.bool true) ∧ Q w') :
    Calls Tryz.prog 9 #[pw, .agg #[.int .i64 8, .int .i64 x, .int .i64 y, .int .i64 z, l, s, .int .i64 k, .int .i64 fr, f2, g0, g1, g2, g3, d]] w fun e w' => e = .returned (.bool true) ∧ Q w' := by
  have HC := hideG hc
  clear hc
  go_enter Tryz.func9, Tryz.ntmps9
  go_wp2_with fail
  refine (HC.out _ ((Below.refl _ _).alloc (Nat.le_refl _) _)).mono ?_
  rintro e w' ⟨rfl, hq⟩
  have HQ := hideG hq
  clear hq
  go_wp2_with fail
  go_ret
  exact ⟨rfl, HQ.out⟩

theorem step_dec (pw : Value) (x y z : Int) (st : ByteArray) (l f0 f1 f2 g0 g1 g2 g3 d : Value) (w : World) (Q : World → Prop)
    (hc : ∀ w1, Below w.heap.size w w1 → Calls Tryz.prog 14 #[pw, .string st] w1 fun e w' => e = .returned (.bool true) ∧ Q w') :
    Calls Tryz.prog 9 #[pw, .agg #[.int .i64 9, .int .i64 x, .int .i64 y, .int .i64 z, l, .string st, f0, f1, f2, g0, g1, g2, g3, d]] w fun e w' => e = .returned (.bool true) ∧ Q w' := by
  have HC := hideG hc
  clear hc
  go_enter Tryz.func9, Tryz.ntmps9
  go_wp2_with fail
  refine (HC.out _ ((Below.refl _ _).alloc (Nat.le_refl _) _)).mono ?_
  rintro e w' ⟨rfl, hq⟩
  have HQ := hideG hq
  clear hq
  go_wp2_with fail
  go_ret
  exact ⟨rfl, HQ.out⟩

/-- What holds behind each step: the World owns bytes and items alone; its counts; nothing old has turned. -/
def J (w : World) (k : Nat) (wr : World) : Prop :=
  Below w.heap.size w wr ∧ ∃ F nx ls, InvW wr w.heap.size F nx ls ∧ (∀ j, j < 3 → F j = .slice none 0 0) ∧ (∀ c, c ≠ 1 → c ≠ 2 → ls c = []) ∧ (∀ o ∈ ls 1, 0 ≤ o.2.2 ∧ o.2.2 ≤ 255) ∧ 0 ≤ nx ∧ nx ≤ 2 * (k : Int) ∧ (ls 1).length ≤ k ∧ (ls 2).length ≤ k

theorem inv_new (w : World) : InvW (w.alloc (.cells #[.slice none 0 0, .slice none 0 0, .slice none 0 0, .slice none 0 0, .slice none 0 0, .slice none 0 0, .slice none 0 0, .slice none 0 0, .slice none 0 0, .slice none 0 0, .slice none 0 0, .slice none 0 0, .slice none 0 0, .slice none 0 0, .slice none 0 0, .int .i64 0] 37)) w.heap.size (fun j => if j = 15 then .int .i64 0 else .slice none 0 0) 0 (fun _ => []) := by
  refine ⟨?_, rfl, fun c hc => ?_, ⟨fun _ => (0, 0, 0), fun c hc b hb => ?_, fun c hc b hb => ?_, fun c hc i o b hi hb => by simp at hi⟩⟩
  · rw [heap_alloc_new]; rfl
  · have a := cat_fi c; have b := cat_fm c
    rw [if_neg (show ¬ (cat c).fi = 15 by omega), if_neg (show ¬ (cat c).fm = 15 by omega)]
    exact ⟨World.ownsRow_nil _ _ _ _, World.ownsRow_nil _ _ _ _, fun o ho => by cases ho⟩
  · have a := cat_fi c
    rw [if_neg (by omega)] at hb; cases hb
  · have a := cat_fm c
    rw [if_neg (by omega)] at hb; cases hb

theorem j_below {w wr w' : World} {k : Nat} (h : J w k wr) (hB : Below wr.heap.size wr w') : J w k w' := by
  obtain ⟨h1, F, nx, ls, h2, h3⟩ := h
  exact ⟨h1.trans (hB.mono h1.size), F, nx, ls, h2.below hB, h3⟩

theorem j_skip {w wr : World} {k : Nat} (h : J w k wr) : J w (k + 1) wr := by
  obtain ⟨h1, F, nx, ls, h2, h3, h4, hm, h5, h6, h7, h8⟩ := h
  exact ⟨h1, F, nx, ls, h2, h3, h4, hm, h5, by omega, by omega, by omega⟩

theorem j_enc {w wr w' : World} {k : Nat} {F F' : Nat → Value} {nx : Int} {ls : Nat → List Ow} {o o' : Ow} (h1 : Below w.heap.size w wr) (h3 : ∀ j, j < 3 → F j = .slice none 0 0) (h4 : ∀ c, c ≠ 1 → c ≠ 2 → ls c = []) (hm : ∀ o ∈ ls 1, 0 ≤ o.2.2 ∧ o.2.2 ≤ 255) (h5 : 0 ≤ nx) (h6 : nx ≤ 2 * (k : Int)) (h7 : (ls 1).length ≤ k) (h8 : (ls 2).length ≤ k)
    (i1 : InvW w' w.heap.size F' (nx + 1 + 1) (updL (updL ls 2 (ls 2 ++ [o])) 1 (ls 1 ++ [o']))) (i2 : ∀ j, j < 3 → F' j = F j) (i3 : Below w.heap.size wr w') (i4 : 0 ≤ o'.2.2 ∧ o'.2.2 ≤ 255) : J w (k + 1) w' := by
  refine ⟨h1.trans i3, F', nx + 1 + 1, _, i1, fun j hj => by rw [i2 j hj]; exact h3 j hj, fun c hc1 hc2 => ?_, fun p hp => ?_, by omega, by omega, ?_, ?_⟩
  · simp [updL, hc1, hc2, h4 c hc1 hc2]
  · have hp' : p ∈ ls 1 ++ [o'] := by simpa [updL] using hp
    rcases List.mem_append.1 hp' with hp' | hp'
    · exact hm p hp'
    · simp at hp'; subst hp'; exact i4
  · simp [updL]; omega
  · simp [updL]; omega

theorem j_dec {w wr w' : World} {k : Nat} {F F' : Nat → Value} {nx : Int} {ls : Nat → List Ow} {o o' : Ow} (h1 : Below w.heap.size w wr) (h3 : ∀ j, j < 3 → F j = .slice none 0 0) (h4 : ∀ c, c ≠ 1 → c ≠ 2 → ls c = []) (hm : ∀ o ∈ ls 1, 0 ≤ o.2.2 ∧ o.2.2 ≤ 255) (h5 : 0 ≤ nx) (h6 : nx ≤ 2 * (k : Int)) (h7 : (ls 1).length ≤ k) (h8 : (ls 2).length ≤ k)
    (i1 : InvW w' w.heap.size F' (nx + 1 + 1) (updL (updL ls 1 (ls 1 ++ [o])) 2 (ls 2 ++ [o']))) (i2 : ∀ j, j < 3 → F' j = F j) (i3 : Below w.heap.size wr w') (i4 : 0 ≤ o.2.2 ∧ o.2.2 ≤ 255) : J w (k + 1) w' := by
  refine ⟨h1.trans i3, F', nx + 1 + 1, _, i1, fun j hj => by rw [i2 j hj]; exact h3 j hj, fun c hc1 hc2 => ?_, fun p hp => ?_, by omega, by omega, ?_, ?_⟩
  · simp [updL, hc1, hc2, h4 c hc1 hc2]
  · have hp' : p ∈ ls 1 ++ [o] := by simpa [updL] using hp
    rcases List.mem_append.1 hp' with hp' | hp'
    · exact hm p hp'
    · simp at hp'; subst hp'; exact i4
  · simp [updL]; omega
  · simp [updL]; omega

set_option maxRecDepth 100000 in
theorem walk (a : Option Addr) (len cap : Nat) (w : World) (hs : Scr2 w a len) :
    Calls Tryz.prog 6 #[.slice a len cap] w fun e w' => e = .returned (.bool true) ∧ Below w.heap.size w w' := by
  have HS := hideG hs
  have hr := hs.1
  clear hs
  go_enter Tryz.func6, Tryz.ntmps6
  go_wp2_with fail
  refine (plays_any2 8 9 a len cap w HS.out (J w) ?_ ?_ ?_ ?_ ?_ ?_).mono ?_
  · exact ⟨(Below.refl _ _).alloc (Nat.le_refl _) _, _, 0, _, inv_new w, fun j hj => if_neg (by omega), fun _ _ _ => rfl, fun o ho => (by cases ho), by omega, by omega, by simp, by simp⟩
  · exact fun k wr h => h.1
  · exact fun k wr h => j_skip h
  · intro k wr kd x y z r hk hj h1 h2 ho
    obtain ⟨_, ⟨st, hst, hsz⟩, ⟨fk, ff, h6, h7⟩, ⟨il, hil, hib⟩⟩ := ho
    by_cases h3 : kd = 8
    · subst h3
      rw [h6, h7]
      refine step_enc _ x y z fk ff _ _ _ _ _ _ _ _ wr (fun w' => J w (k + 1) w') (fun w1 hB1 => ?_)
      obtain ⟨b1, F, nx, ls, b2, b3, b4, bm, b5, b6, b7, b8⟩ := j_below hj hB1
      refine (encoded_step w.heap.size F nx ls fk ff _ il w1 b2 b5 (by omega) (by omega) (by omega) (hil.below b1) (by omega)).mono ?_
      rintro e w' ⟨rfl, F', o, o', i1, i2, i3, i4⟩
      exact ⟨rfl, j_enc b1 b3 b4 bm b5 b6 b7 b8 i1 i2 i3 i4⟩
    · obtain rfl : kd = 9 := by omega
      rw [hst]
      refine step_dec _ x y z st _ _ _ _ _ _ _ _ _ wr (fun w' => J w (k + 1) w') (fun w1 hB1 => ?_)
      obtain ⟨b1, F, nx, ls, b2, b3, b4, bm, b5, b6, b7, b8⟩ := j_below hj hB1
      refine (decoded_step w.heap.size F nx ls st w1 b2 b5 (by omega) (by omega) (by omega) hsz).mono ?_
      rintro e w' ⟨rfl, F', o, o', i1, i2, i3, i4⟩
      exact ⟨rfl, j_dec b1 b3 b4 bm b5 b6 b7 b8 i1 i2 i3 i4⟩
  · intro wr hj
    obtain ⟨b1, F, nx, ls, b2, b3, b4⟩ := hj
    have c0 := (cell_f b2.blk 0 (by omega)).1
    have c1 := (cell_f b2.blk 1 (by omega)).1
    have c2 := (cell_f b2.blk 2 (by omega)).1
    rw [b3 0 (by omega)] at c0
    rw [b3 1 (by omega)] at c1
    rw [b3 2 (by omega)] at c2
    exact (ends_none _ wr c0 c1 c2).mono fun e w' h => ⟨h.1, by rw [h.2]; exact ⟨b1, F, nx, ls, b2, b3, b4⟩⟩
  · intro wr hj
    obtain ⟨b1, F, nx, ls, b2, b3, b4, bm, _⟩ := hj
    refine (looks_frm _ F nx ls wr b2 bm (b4 0 (by omega) (by omega)) (b4 3 (by omega) (by omega)) (b4 4 (by omega) (by omega)) (b4 5 (by omega) (by omega))).mono ?_
    rintro e w' ⟨rfl, hb⟩
    exact ⟨rfl, b1.trans (hb.mono b1.size)⟩
  · rintro e w' ⟨rfl, hb⟩
    have HB := hideG hb
    clear hb
    go_wp2_with fail
    go_ret
    exact ⟨rfl, HB.out⟩

/-! ### The row's step -/
set_option maxRecDepth 100000 in
theorem lifted (os : Os) (started : os.Started) (H : Type) (enc : TypeId × Value → H) :
    ReturnsInHanded {} Tryz.checked os 6 .any (Rows.framesSpec.pre6 enc Tryz.prog Tryz.f6 Rows.framesRow.domain false) (Rows.framesSpec.post enc Tryz.prog Tryz.f6 false true false false) := by
  refine returnsInHanded_of_change_sized (C := Tryz.checked) own started (by kernel_rfl) Tryz.func6
    (ChangeSpec.witness6 (enc := enc) (C := Tryz.checked) false ⟨#[], #[.slice none 0 0], []⟩ 8 (by kernel_rfl) (by kernel_rfl) (by kernel_rfl) (by kernel_rfl)) ?_
  intro W base args ds gs before hval0 hW hcnd hsz0 _
  have hsz : (DataW.weightsEach Tryz.prog (Tryz.f6.params.toList ++ Rows.framesSpec.plain.varTypes Tryz.prog) (ds ++ gs)).all (· ≤ reachBytes) = true := hsz0
  clear hsz0
  have hval : ∀ (j : Nat) t v, Tryz.f6.params[j]? = some t → args[j]? = some v → Value.okWide Tryz.prog W .any base t v := hval0
  have hW' := hW
  obtain ⟨p, q, hA0, hV, rfl, hfz, hnd⟩ := hW
  have hA : DataW.TrodAll enc Tryz.prog W 0 (fun _ => true) true Tryz.f6.params.toList args.toList ds p := hA0
  rw [Tryz.params6] at hA hval hsz
  obtain ⟨v0, vs0, d0, ds0, p0, q0, hargs, rfl, rfl, h0, r0⟩ := trodAll_cons hA
  obtain ⟨rfl, rfl, rfl⟩ := trodAll_nil r0
  obtain rfl : args = #[v0] := by cases args; simp_all
  obtain ⟨rfl, rfl⟩ := trodVars_none hV
  obtain ⟨a0, len0, cap0, rfl⟩ := okWide_slice Tryz.underlying22 (hval 0 22 v0 rfl rfl)
  have k0 := h0
  have lt0 : ∀ x ∈ p0, x.block < W.heap.size := by obtain ⟨m, hm⟩ := k0; exact DataW.trod_lt m _ _ _ hm
  have w0 : Scr2 W a0 len0 := by
    obtain ⟨fuel, hf⟩ := h0
    exact scr_of2 hf (fun n hn => by
      have := List.all_eq_true.1 hsz _ (DataW.weights_mem_each (j := 0) (t := 22) rfl rfl n hn)
      simpa using this)
  clear hA0 hval0
  refine (walk a0 len0 cap0 W w0).mono fun e W' ⟨he, bel⟩ => ?_
  subst he
  exact ⟨_, rfl, _, _, _, [], _, [], hW', trodAll_mk1 (shut_bool Tryz.underlying4 _), (trodAll_cons_mk (Below.trod laidOut (by kernel_rfl) (of_decide_eq_true (by kernel_rfl)) k0 bel lt0) trodAll_mk0), rfl, bel.frame _, fun h => by cases h⟩

theorem over : Rows.framesRow.holds Tryz.pinned (OpenSpec.ofChange Rows.framesSpec) :=
  OpenClaim.holds_of_wide 6 Tryz.f6 rfl rfl rfl rfl rfl rfl rfl ⟨rfl, rfl, rfl, rfl, rfl⟩ rfl rfl rfl rfl rfl (by kernel_rfl) Tryz.func6 (by kernel_rfl)
    (of_decide_eq_true (by kernel_rfl)) (by unfold Func.isWrapper; first | (rw [if_pos (by decide +kernel)]; kernel_rfl) | (rw [if_neg (by decide +kernel)]; exact ⟨rfl, rfl⟩))
    (fun os started H enc _ => lifted os started H enc)

end Go.Proofs.YtchideljndagjaaGreat.frames
namespace Go.Proofs.YtchideljndagjaaGreat

/-- The statement. -/
theorem frames_holds : Rows.FramesSaid := frames.over
#print axioms frames_holds
end Go.Proofs.YtchideljndagjaaGreat
