/- PROVED: veillaw.Splits answers true at every script, and the script reads afterwards as it read before. No condition. -/
import Derived.Test.YtchideljndagjaaGreatOpenScr
import Derived.Test.YtchideljndagjaaGreatSplitLaw
import Derived.Test.YtchideljndagjaaGreatJoinLaw
import Derived.Test.YtchideljndagjaaGreatLookPts
import Derived.ShutString
import Derived.Below
import Derived.SizedLaws
namespace Go.Proofs.YtchideljndagjaaGreat.splits
open Go.ChangeShapes Go.WideShapes Go.ChangeAt Go.RowKit
set_option linter.unusedVariables false

theorem own : ownKnob Tryz.prog.godebug = none := by kernel_rfl
theorem laidOut : laidOutB Tryz.prog = true := by kernel_rfl

/-- What holds behind each step: the World owns lists of integers and of points alone; its counts; nothing old has turned. -/
def J (w : World) (k : Nat) (wr : World) : Prop :=
  Below w.heap.size w wr ∧ ∃ F nx ls, InvW wr w.heap.size F nx ls ∧ (∀ j, j < 3 → F j = .slice none 0 0) ∧ (∀ c, 0 < c → c ≠ 5 → ls c = []) ∧ 0 ≤ nx ∧ nx ≤ 2 * (k : Int) ∧ (ls 0).length ≤ 2 * k ∧ (ls 5).length ≤ 2 * k

theorem inv_new (w : World) : InvW (w.alloc (.cells #[.slice none 0 0, .slice none 0 0, .slice none 0 0, .slice none 0 0, .slice none 0 0, .slice none 0 0, .slice none 0 0, .slice none 0 0, .slice none 0 0, .slice none 0 0, .slice none 0 0, .slice none 0 0, .slice none 0 0, .slice none 0 0, .slice none 0 0, .int .i64 0] 37)) w.heap.size (fun j => if j = 15 then .int .i64 0 else .slice none 0 0) 0 (fun _ => []) := by
  refine ⟨?_, rfl, fun c hc => ?_, ⟨fun _ => (0, 0, 0), fun c hc b hb => ?_, fun c hc b hb => ?_, fun c hc i o b hi hb => by simp at hi⟩⟩
  · rw [heap_alloc_new]; rfl
  · have a := cat_fi c; have b := cat_fm c
    rw [if_neg (show ¬ (cat c).fi = 15 by omega), if_neg (show ¬ (cat c).fm = 15 by omega)]
    exact ⟨World.ownsRow_nil _ _ _ _, World.ownsRow_nil _ _ _ _, fun o ho => by cases ho⟩
  · have a := cat_fi c
    rw [if_neg (by omega)] at hb; cases hb
  · have a := cat_fm c
    rw [if_neg (by omega)] at hb; cases hb

theorem j_below {w wr w' : World} {k : Nat} (h : J w k wr) (hB : Below wr.heap.size wr w') : J w k w' := by
  obtain ⟨h1, F, nx, ls, h2, h3⟩ := h
  exact ⟨h1.trans (hB.mono h1.size), F, nx, ls, h2.below hB, h3⟩

theorem j_skip {w wr : World} {k : Nat} (h : J w k wr) : J w (k + 1) wr := by
  obtain ⟨h1, F, nx, ls, h2, h3, h4, h5, h6, h7, h8⟩ := h
  exact ⟨h1, F, nx, ls, h2, h3, h4, h5, by omega, by omega, by omega⟩

theorem j_split {w wr w' : World} {k : Nat} {F F' : Nat → Value} {nx : Int} {ls : Nat → List Ow} {o o' : Ow} (h1 : Below w.heap.size w wr) (h3 : ∀ j, j < 3 → F j = .slice none 0 0) (h4 : ∀ c, 0 < c → c ≠ 5 → ls c = []) (h5 : 0 ≤ nx) (h6 : nx ≤ 2 * (k : Int)) (h7 : (ls 0).length ≤ 2 * k) (h8 : (ls 5).length ≤ 2 * k)
    (i1 : InvW w' w.heap.size F' (nx + 1 + 1) (updL ls 0 (ls 0 ++ [o] ++ [o']))) (i2 : ∀ j, j < 3 → F' j = F j) (i3 : Below w.heap.size wr w') : J w (k + 1) w' := by
  refine ⟨h1.trans i3, F', nx + 1 + 1, _, i1, fun j hj => by rw [i2 j hj]; exact h3 j hj, fun c hc hc5 => ?_, by omega, by omega, ?_, ?_⟩
  · have hne : c ≠ 0 := by omega
    simp [updL, hne, h4 c hc hc5]
  · simp [updL]; omega
  · simp [updL]; omega

theorem j_join {w wr w' : World} {k : Nat} {F F' : Nat → Value} {nx : Int} {ls : Nat → List Ow} {o : Ow} (h1 : Below w.heap.size w wr) (h3 : ∀ j, j < 3 → F j = .slice none 0 0) (h4 : ∀ c, 0 < c → c ≠ 5 → ls c = []) (h5 : 0 ≤ nx) (h6 : nx ≤ 2 * (k : Int)) (h7 : (ls 0).length ≤ 2 * k) (h8 : (ls 5).length ≤ 2 * k)
    (i1 : InvW w' w.heap.size F' (nx + 1) (updL ls 5 (ls 5 ++ [o]))) (i2 : ∀ j, j < 3 → F' j = F j) (i3 : Below w.heap.size wr w') : J w (k + 1) w' := by
  refine ⟨h1.trans i3, F', nx + 1, _, i1, fun j hj => by rw [i2 j hj]; exact h3 j hj, fun c hc hc5 => ?_, by omega, by omega, ?_, ?_⟩
  · simp [updL, hc5, h4 c hc hc5]
  · simp [updL]; omega
  · simp [updL]; omega

set_option maxRecDepth 100000 in
theorem walk (a : Option Addr) (len cap : Nat) (w : World) (hs : Scr w a len) :
    Calls Tryz.prog 4 #[.slice a len cap] w fun e w' => e = .returned (.bool true) ∧ Below w.heap.size w w' := by
  have HS := hideG hs
  have hr := hs.1
  clear hs
  go_enter Tryz.func4, Tryz.ntmps4
  go_wp2_with fail
  refine (plays_any 3 4 a len cap w HS.out (J w) ?_ ?_ ?_ ?_ ?_ ?_).mono ?_
  · exact ⟨(Below.refl _ _).alloc (Nat.le_refl _) _, _, 0, _, inv_new w, fun j hj => if_neg (by omega), fun _ _ _ => rfl, by omega, by omega, by simp, by simp⟩
  · exact fun k wr h => h.1
  · exact fun k wr h => j_skip h
  · intro k wr kd x y z r hk hj h1 h2 ho
    refine (step_num _ kd x y z _ _ _ _ _ _ _ _ _ _ wr (fun _ w' => J w (k + 1) w') (by omega) (by omega) (fun w1 hB1 => ?_)).mono (fun e w' h => h)
    have hj1 := j_below hj hB1
    obtain ⟨b1, F, nx, ls, b2, b3, b4, b5, b6, b7, b8⟩ := hj1
    have hl : ListIs w1 (r 0) := by
      obtain ⟨zs, q1, q2⟩ := ho.2.2.2.2
      exact ⟨zs, q1.below b1, q2⟩
    by_cases h3 : kd = 3
    · subst h3
      refine (numbers_split w.heap.size F nx ls x y z _ _ _ _ _ _ _ _ _ _ w1 b2 b5 (by omega) (by omega) hl).mono ?_
      rintro e w' ⟨rfl, F', o, o', i1, i2, i3⟩
      exact ⟨rfl, j_split b1 b3 b4 b5 b6 b7 b8 i1 i2 i3⟩
    · obtain rfl : kd = 4 := by omega
      refine (numbers_join w.heap.size F nx ls x y z _ _ _ _ _ _ _ _ _ _ w1 b2 b5 (by omega) (by omega) hl).mono ?_
      rintro e w' ⟨rfl, F', o, i1, i2, i3⟩
      exact ⟨rfl, j_join b1 b3 b4 b5 b6 b7 b8 i1 i2 i3⟩
  · intro wr hj
    obtain ⟨b1, F, nx, ls, b2, b3, b4⟩ := hj
    have c0 := (cell_f b2.blk 0 (by omega)).1
    have c1 := (cell_f b2.blk 1 (by omega)).1
    have c2 := (cell_f b2.blk 2 (by omega)).1
    rw [b3 0 (by omega)] at c0
    rw [b3 1 (by omega)] at c1
    rw [b3 2 (by omega)] at c2
    exact (ends_none _ wr c0 c1 c2).mono fun e w' h => ⟨h.1, by rw [h.2]; exact ⟨b1, F, nx, ls, b2, b3, b4⟩⟩
  · intro wr hj
    obtain ⟨b1, F, nx, ls, b2, b3, b4, _⟩ := hj
    refine (looks_pts _ F nx ls wr b2 (b4 1 (by omega) (by omega)) (b4 2 (by omega) (by omega)) (b4 3 (by omega) (by omega)) (b4 4 (by omega) (by omega))).mono ?_
    rintro e w' ⟨rfl, hb⟩
    exact ⟨rfl, b1.trans (hb.mono b1.size)⟩
  · rintro e w' ⟨rfl, hb⟩
    have HB := hideG hb
    clear hb
    go_wp2_with fail
    go_ret
    exact ⟨rfl, HB.out⟩

/-! ### The row's step -/
set_option maxRecDepth 100000 in
theorem lifted (os : Os) (started : os.Started) (H : Type) (enc : TypeId × Value → H) :
    ReturnsInHanded {} Tryz.checked os 4 .any (Rows.splitsSpec.pre6 enc Tryz.prog Tryz.f4 Rows.splitsRow.domain false) (Rows.splitsSpec.post enc Tryz.prog Tryz.f4 false true false false) := by
  refine returnsInHanded_of_change_sized (C := Tryz.checked) own started (by kernel_rfl) Tryz.func4
    (ChangeSpec.witness6 (enc := enc) (C := Tryz.checked) false ⟨#[], #[.slice none 0 0], []⟩ 8 (by kernel_rfl) (by kernel_rfl) (by kernel_rfl) (by kernel_rfl)) ?_
  intro W base args ds gs before hval0 hW hcnd hsz0 _
  have hsz : (DataW.weightsEach Tryz.prog (Tryz.f4.params.toList ++ Rows.splitsSpec.plain.varTypes Tryz.prog) (ds ++ gs)).all (· ≤ reachBytes) = true := hsz0
  clear hsz0
  have hval : ∀ (j : Nat) t v, Tryz.f4.params[j]? = some t → args[j]? = some v → Value.okWide Tryz.prog W .any base t v := hval0
  have hW' := hW
  obtain ⟨p, q, hA0, hV, rfl, hfz, hnd⟩ := hW
  have hA : DataW.TrodAll enc Tryz.prog W 0 (fun _ => true) true Tryz.f4.params.toList args.toList ds p := hA0
  rw [Tryz.params4] at hA hval hsz
  obtain ⟨v0, vs0, d0, ds0, p0, q0, hargs, rfl, rfl, h0, r0⟩ := trodAll_cons hA
  obtain ⟨rfl, rfl, rfl⟩ := trodAll_nil r0
  obtain rfl : args = #[v0] := by cases args; simp_all
  obtain ⟨rfl, rfl⟩ := trodVars_none hV
  obtain ⟨a0, len0, cap0, rfl⟩ := okWide_slice Tryz.underlying22 (hval 0 22 v0 rfl rfl)
  have k0 := h0
  have lt0 : ∀ x ∈ p0, x.block < W.heap.size := by obtain ⟨m, hm⟩ := k0; exact DataW.trod_lt m _ _ _ hm
  have w0 : Scr W a0 len0 := by
    obtain ⟨fuel, hf⟩ := h0
    exact scr_of hf (fun n hn => by
      have := List.all_eq_true.1 hsz _ (DataW.weights_mem_each (j := 0) (t := 22) rfl rfl n hn)
      simpa using this)
  clear hA0 hval0
  refine (walk a0 len0 cap0 W w0).mono fun e W' ⟨he, bel⟩ => ?_
  subst he
  exact ⟨_, rfl, _, _, _, [], _, [], hW', trodAll_mk1 (shut_bool Tryz.underlying4 _), (trodAll_cons_mk (Below.trod laidOut (by kernel_rfl) (of_decide_eq_true (by kernel_rfl)) k0 bel lt0) trodAll_mk0), rfl, bel.frame _, fun h => by cases h⟩

theorem over : Rows.splitsRow.holds Tryz.pinned (OpenSpec.ofChange Rows.splitsSpec) :=
  OpenClaim.holds_of_wide 4 Tryz.f4 rfl rfl rfl rfl rfl rfl rfl ⟨rfl, rfl, rfl, rfl, rfl⟩ rfl rfl rfl rfl rfl (by kernel_rfl) Tryz.func4 (by kernel_rfl)
    (of_decide_eq_true (by kernel_rfl)) (by unfold Func.isWrapper; first | (rw [if_pos (by decide +kernel)]; kernel_rfl) | (rw [if_neg (by decide +kernel)]; exact ⟨rfl, rfl⟩))
    (fun os started H enc _ => lifted os started H enc)

end Go.Proofs.YtchideljndagjaaGreat.splits
namespace Go.Proofs.YtchideljndagjaaGreat

/-- The statement. -/
theorem splits_holds : Rows.SplitsSaid := splits.over
#print axioms splits_holds
end Go.Proofs.YtchideljndagjaaGreat
