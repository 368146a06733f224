/- Contract of veilkeep's frame: what it makes is one. -/
import Derived.Test.YtchideljndagjaaKItem
namespace Go.Proofs.Ytchideljndagjaa
open Go.ChangeShapes Go.WideShapes Go.ChangeAt Go.RowKit
set_option linter.unusedVariables false

def AllIn (l : List Frm.It) : Prop := ∀ x ∈ l, inIt x

/-- The items made of the Ids below u. -/
structure MadeUp (k fr p u : Int) (l : List Frm.It) : Prop where
  len : (l.length : Int) < u
  rise : ∀ i, i < l.length → Frm.riseAt l i = true
  below : ∀ i, i < l.length → 1 ≤ (Frm.it l i).1 ∧ (Frm.it l i).1 < u
  nums : ∀ i, i < l.length → Frm.okI k (Frm.it l i) = true
  ints : ∀ x ∈ l, inIt x
  one : k = 1 → (fr < u → l.length = 1 ∧ (Frm.it l 0).1 = fr) ∧ (u ≤ fr → l.length = 0)
  cnt : k = 5 → (l.length : Int) = min (u - 1) (1 + p) ∧ ∀ i, i < l.length → (Frm.it l i).1 = (i : Int) + 1
  not : k = 3 → ∀ i, i < l.length → (Frm.it l i).1 ≠ fr
  any : (k = 2 ∨ k = 6 ∨ k = 7) → 1 + p < u → 1 ≤ l.length

theorem it_app (l : List Frm.It) (x : Frm.It) (i : Nat) (hi : i < l.length) : Frm.it (l ++ [x]) i = Frm.it l i := by
  unfold Frm.it; rw [List.getD_eq_getElem?_getD, List.getElem?_append_left hi, ← List.getD_eq_getElem?_getD]
theorem it_end (l : List Frm.It) (x : Frm.It) : Frm.it (l ++ [x]) l.length = x := by
  unfold Frm.it; rw [List.getD_eq_getElem?_getD, List.getElem?_append_right (Nat.le_refl _)]; simp

theorem madeUp_nil (k fr p : Int) (hfr : k = 1 → 1 ≤ fr) (hp : 0 ≤ p) : MadeUp k fr p 1 [] := by
  refine ⟨by simp, fun i hi => absurd hi (by simp), fun i hi => absurd hi (by simp), fun i hi => absurd hi (by simp), fun x hx => (by cases hx), fun e => ⟨fun h => ?_, fun _ => rfl⟩, fun _ => ⟨?_, fun i hi => absurd hi (by simp)⟩, fun _ i hi => absurd hi (by simp), fun _ h => ?_⟩
  · have := hfr e; omega
  · simp; omega
  · omega

theorem madeUp_skip {k fr p u : Int} {l : List Frm.It} (h : MadeUp k fr p u l) (hu : 1 ≤ u) (m : MemOK k fr p u false) : MadeUp k fr p (u + 1) l := by
  obtain ⟨m1, m5, m3, m2⟩ := m
  refine ⟨by have := h.len; omega, h.rise, fun i hi => ⟨(h.below i hi).1, by have := (h.below i hi).2; omega⟩, h.nums, h.ints, fun e => ?_, fun e => ?_, h.not, fun e hp => ?_⟩
  · have h1 := m1 e
    have hne : u ≠ fr := by simpa using h1.symm
    obtain ⟨o1, o2⟩ := h.one e
    exact ⟨fun hf => o1 (by omega), fun hf => o2 (by omega)⟩
  · have h5 := m5 e
    have hgt : ¬ u ≤ 1 + p := by simpa using h5.symm
    obtain ⟨c1, c2⟩ := h.cnt e
    exact ⟨by rw [c1]; omega, c2⟩
  · have hne : u ≠ 1 + p := fun e2 => by have := m2 e e2; cases this
    exact h.any e (by omega)

theorem madeUp_more {k fr p u : Int} {l : List Frm.It} (h : MadeUp k fr p u l) (hu : 1 ≤ u) (hu2 : u ≤ 12) (m : MemOK k fr p u true) (A B C : Int) (ho : Frm.okI k (u, A, B, C) = true) (hi : inIt (u, A, B, C)) : MadeUp k fr p (u + 1) (l ++ [(u, A, B, C)]) := by
  obtain ⟨m1, m5, m3, m2⟩ := m
  have split : ∀ i, i < (l ++ [(u, A, B, C)]).length → i < l.length ∨ i = l.length := fun i hi => by simp at hi; omega
  refine ⟨by have := h.len; simp; omega, fun i hi => ?_, fun i hi => ?_, fun i hi => ?_, fun x hx => ?_, fun e => ?_, fun e => ?_, fun e i hi => ?_, fun _ _ => by simp⟩
  · rcases split i hi with h1 | rfl
    · have := h.rise i h1
      unfold Frm.riseAt at this ⊢
      rw [it_app _ _ _ h1, it_app _ _ _ (by omega)]; exact this
    · unfold Frm.riseAt
      rw [it_end]
      by_cases h0 : l.length = 0
      · rw [Num.clB_yes hu hu2, decide_eq_true h0]; rfl
      · rw [it_app _ _ _ (by omega), Num.clB_yes hu hu2, decide_eq_true (h.below (l.length - 1) (by omega)).2]; simp
  · rcases split i hi with h1 | rfl
    · rw [it_app _ _ _ h1]; exact ⟨(h.below i h1).1, by have := (h.below i h1).2; omega⟩
    · rw [it_end]; exact ⟨hu, by show u < u + 1; omega⟩
  · rcases split i hi with h1 | rfl
    · rw [it_app _ _ _ h1]; exact h.nums i h1
    · rw [it_end]; exact ho
  · rcases List.mem_append.1 hx with hx | hx
    · exact h.ints x hx
    · simp at hx; subst hx; exact hi
  · have h1 := m1 e
    have heq : u = fr := by simpa using h1.symm
    obtain ⟨o1, o2⟩ := h.one e
    have hl0 := o2 (by omega)
    have hl : l = [] := List.eq_nil_of_length_eq_zero hl0
    subst hl
    exact ⟨fun _ => ⟨rfl, heq⟩, fun hf => by omega⟩
  · have h5 := m5 e
    have hle : u ≤ 1 + p := by simpa using h5.symm
    obtain ⟨c1, c2⟩ := h.cnt e
    have hl : (l.length : Int) = u - 1 := by rw [c1]; omega
    refine ⟨by simp; omega, fun i hi => ?_⟩
    rcases split i hi with h1 | rfl
    · rw [it_app _ _ _ h1]; exact c2 i h1
    · rw [it_end]; show u = _; omega
  · rcases split i hi with h1 | rfl
    · rw [it_app _ _ _ h1]; exact h.not e i h1
    · rw [it_end]; exact m3 e rfl

theorem madeUp_ok {k fr p : Int} {l : List Frm.It} (h : MadeUp k fr p 13 l) (hk1 : 1 ≤ k) (hk7 : k ≤ 7) (hp : 0 ≤ p) (hp2 : p < 12) (hf : Frm.fromB k fr = true) (hfr : k = 1 → fr ≤ 12) : Frm.okF k fr l = true := by
  unfold Frm.okF
  have h1 : decide (l.length ≤ 12) = true := decide_eq_true (by have := h.len; omega)
  have h2 : Frm.riseB l = true := Frm.allB_yes h.rise
  have h3 : Frm.numsB k l = true := Frm.allB_yes h.nums
  have h4 : Frm.idsB k fr l = true := by
    unfold Frm.idsB
    by_cases k1 : k = 1
    · rw [if_pos k1]
      obtain ⟨o1, _⟩ := h.one k1
      obtain ⟨l1, l2⟩ := o1 (by have := hfr k1; omega)
      rw [decide_eq_true l1, Bool.true_and]
      have : Frm.noneB l fr = false := Frm.allB_no 0 (by omega) (by rw [l2]; simp)
      rw [this]; rfl
    · rw [if_neg k1]
      by_cases k2 : k = 2 ∨ k = 6 ∨ k = 7
      · rw [if_pos k2]; exact decide_eq_true (h.any k2 (by omega))
      · rw [if_neg k2]
        by_cases k3 : k = 3
        · rw [if_pos k3]; exact Frm.allB_yes fun i hi => decide_eq_true (h.not k3 i hi)
        · rw [if_neg k3]
          by_cases k4 : k = 4
          · rw [if_pos k4]
          · rw [if_neg k4, if_pos (by omega)]
            obtain ⟨c1, c2⟩ := h.cnt (by omega)
            have : Frm.countB l = true := Frm.allB_yes fun i hi => decide_eq_true (c2 i hi)
            rw [this, decide_eq_true (by omega)]; rfl
  rw [h1, h2, h3, h4, hf]; rfl

set_option maxHeartbeats 2000000 in
set_option maxRecDepth 100000 in
theorem kframe_calls (kd fr0 who : Int) (v : Value) (zs : List Int) (w : World) (h : ListAt w v zs) (hkd : inI kd) (hfr : inI fr0) (hwho : inI who) :
    Calls Try.prog 26 #[.int .i64 kd, .int .i64 fr0, .int .i64 who, v] w fun e w' => ∃ k fr va, e = .returned (.agg #[.int .i64 k, .int .i64 fr, va]) ∧ ∃ l, Frm.okF k fr l = true ∧ AllIn l ∧
      w'.ownsRow w.heap.size 91 4 va l.length (flat4 l) ∧ Below w.heap.size w w' := by
  obtain ⟨i1, hi1, hy0, hy1, hy2⟩ := info_parts infoIt
  have HM := hideG (fun (w1 : World) (hb : Below w.heap.size w w1) => h.below hb)
  unfold inI at hkd hfr
  clear h
  go_enter Try.func26, Try.ntmps26
  go_wp2_with fail
  refine (pick_calls _ _ _ hkd.1 hkd.2 (by omega) (by omega)).mono ?_
  rintro e w' ⟨rfl, rfl⟩
  have k0 := Num.pickN_lo kd 7 (by omega)
  have k1 := Num.pickN_hi kd 7 (by omega)
  obtain ⟨kp, hkp⟩ : ∃ kp, kp = Num.pickN kd 7 := ⟨_, rfl⟩
  rw [← hkp] at k0 k1 ⊢
  clear hkp
  obtain ⟨k, hk⟩ : ∃ k, 1 + kp = k := ⟨_, rfl⟩
  have hk1 : 1 ≤ k := by omega
  have hk7 : k ≤ 7 := by omega
  go_upto_region 2 with fail
  go_cut [34] from 17 to 33 (fun s wc => wc = (w.alloc (.cells #[.int .i64 0, .int .i64 0, .slice none 0 0] 52)).alloc (.cells #[.int .i64 k, .int .i64 0, .slice none 0 0] 52) ∧ s = .bool (decide (k = 1 ∨ k = 3 ∨ k = 5 ∨ k = 7)))
  case first =>
    rcases (show k = 1 ∨ k = 2 ∨ k = 3 ∨ k = 4 ∨ k = 5 ∨ k = 6 ∨ k = 7 by omega) with e | e | e | e | e | e | e <;> (subst e; go_wp2_with fail; go_meet; exact ⟨rfl, rfl⟩)
  case rest =>
    obtain ⟨rfl, rfl⟩ := hcut
    clear hk k0 k1
    by_cases q : k = 1 ∨ k = 3 ∨ k = 5 ∨ k = 7
    · have HFB0 := hideG (fun fr (h1 : 1 ≤ fr) (h2 : fr ≤ 12) => (show Frm.fromB k fr = true by unfold Frm.fromB; rw [if_pos q]; exact Num.clB_yes h1 h2))
      rw [decide_eq_true q]
      clear q
      go_wp2_with fail
      refine (pick_calls _ _ _ hfr.1 hfr.2 (by omega) (by omega)).mono ?_
      rintro e w' ⟨rfl, rfl⟩
      have f0 := Num.pickN_lo fr0 12 (by omega)
      have f1 := Num.pickN_hi fr0 12 (by omega)
      obtain ⟨fp, hfp⟩ : ∃ fp, fp = Num.pickN fr0 12 := ⟨_, rfl⟩
      rw [← hfp] at f0 f1 ⊢
      clear hfp
      obtain ⟨fr, hfr'⟩ : ∃ fr, 1 + fp = fr := ⟨_, rfl⟩
      have HFR := hideG (show k = 1 → 1 ≤ fr from fun _ => by omega)
      have HF12 := hideG (show k = 1 → fr ≤ 12 from fun _ => by omega)
      have HFB := hideG (HFB0.out fr (by omega) (by omega))
      go_wp2_with fail
      clear hfr' f0 f1
      have p0 := Num.pickN_lo who 12 (by omega)
      have p1 := Num.pickN_hi who 12 (by omega)
      obtain ⟨p, hp⟩ : ∃ p, p = Num.pickN who 12 := ⟨_, rfl⟩
      rw [← hp] at p0 p1
      have HP := hideG hp
      clear hp
      go_loopw [10] (fun i wr => ∃ (u : Int) (va : Value) (l : List Frm.It), 1 ≤ u ∧ u ≤ 13 ∧ i = .int .i64 u ∧ MadeUp k fr p u l ∧ wr.heap[w.heap.size]? = some (.cells #[.int .i64 0, .int .i64 0, .slice none 0 0] 52 (0, 0)) ∧
        wr.heap[w.heap.size + 1]? = some (.cells #[.int .i64 k, .int .i64 fr, va] 52 (0, 0)) ∧ wr.ownsRow (w.heap.size + 2) 91 4 va l.length (flat4 l) ∧ Below w.heap.size w wr ∧ w.heap.size + 2 ≤ wr.heap.size) (fun i _ => (13 - intOf i).toNat)
      case atStart => exact ⟨1, .slice none 0 0, [], by omega, by omega, rfl, madeUp_nil k fr p HFR.out p0, heap_alloc2_old w _ _, heap_alloc2_new w _ _, World.ownsRow_nil _ _ _ _, by go_grown, by simp⟩
      case round =>
        obtain ⟨u, va, l, hu1, hu2, rfl, hmade, hg8, hg9, hown, hbel, hsz⟩ := hrel
        obtain ⟨a', c', hv'⟩ := owns_form hown
        subst hv'
        obtain ⟨n, hn⟩ : ∃ n, n = l.length := ⟨_, rfl⟩
        rw [← hn] at hown hg9
        have hlen := hmade.len
        rw [← hn] at hlen
        have HN := hideG hn
        have MD := hideG hmade
        have G8 := hideG hg8
        have G9 := hideG hg9
        have OW := hideG hown
        have BL := hideG hbel
        have c0 : wr.cell? ⟨w.heap.size + 1, 0, none⟩ = some (.int .i64 k) := by simp only [World.cell?, hg9]; rfl
        have c1 : wr.cell? ⟨w.heap.size + 1, 1, none⟩ = some (.int .i64 fr) := by simp only [World.cell?, hg9]; rfl
        have c2 : wr.cell? ⟨w.heap.size + 1, 2, none⟩ = some (.slice a' n c') := by simp only [World.cell?, hg9]; rfl
        by_cases hlt : u ≤ 12
        · clear hmade hg8 hg9 hown hbel hn
          go_wp2_with fail
          refine (kmember_calls _ _ _ _ _ hk1 hk7 hwho hu1 hlt).mono ?_
          rintro e w' ⟨m, rfl, rfl, hmem⟩
          rw [← HP.out] at hmem
          have HMEM := hideG hmem
          clear hmem
          cases m
          · go_wp2_with fail
            go_roundw
            case rel => exact ⟨u + 1, .slice a' n c', l, by omega, by omega, by go_num, madeUp_skip MD.out hu1 HMEM.out, G8.out, G9.out, by rw [← HN.out]; exact OW.out, BL.out, hsz⟩
            case measure => simp [intOf]; omega
          · go_wp2_with fail
            refine (kitem_calls _ _ _ _ zs _ (HM.out _ BL.out) hk1 hk7 hu1 hlt (by omega) (by omega)).mono ?_
            rintro e w1 ⟨A, B, C, rfl, hok, hint, hb1⟩
            have s1 := hb1.size
            have HOK := hideG hok
            have HINT := hideG hint
            have O1 := hideG (ownsRow_chg (S := fun _ => False) OW.out (Chg.of_below hb1) (fun _ _ h => h))
            have L1 := hideG (BL.out.trans (hb1.mono (by omega)))
            have hg9 : w1.heap[w.heap.size + 1]? = some (.cells #[.int .i64 k, .int .i64 fr, .slice a' n c'] 52 (0, 0)) := by rw [hb1.block _ (by omega)]; exact G9.out
            have hg8 : w1.heap[w.heap.size]? = some (.cells #[.int .i64 0, .int .i64 0, .slice none 0 0] 52 (0, 0)) := by rw [hb1.block _ (by omega)]; exact G8.out
            have K8 := hideG hg8
            have K9 := hideG hg9
            have d2 : w1.cell? ⟨w.heap.size + 1, 2, none⟩ = some (.slice a' n c') := by simp only [World.cell?, hg9]; rfl
            have A2 : ∀ ob, (w1.alloc ob).cell? ⟨w.heap.size + 1, 2, none⟩ = some (.slice a' n c') := fun ob => by
              rw [((Below.refl w1.heap.size w1).alloc (Nat.le_refl _) ob).cell (p := ⟨w.heap.size + 1, 2, none⟩) (by simp; omega)]; exact d2
            clear hok hint hb1 hg8 hg9 c0 c1 c2
            go_wp2_with (at_builtin; refine wpList_append_own _ rfl _ _ 50 rfl (w.heap.size + 2) 91 i1 (.agg #[.int .i64 0, .int .i64 0, .int .i64 0, .int .i64 0]) 4 32 Try.underlying50 hi1 hy0 hy1 hy2 rfl (by decide) _ _ _ rfl ((O1.out.alloc _).alloc _) ⟨w1.heap.size + 1, 0, none⟩ 1 1 [.int .i64 u, .int .i64 A, .int .i64 B, .int .i64 C] rfl rfl ?c1 ?c2 ?c3 ?c4 ?c5 ?_)
            case c1 =>
              have := cell_four_new (w1.alloc (.cells #[.int .i64 u, .int .i64 A, .int .i64 B, .int .i64 C] 91)) (.int .i64 u) (.int .i64 A) (.int .i64 B) (.int .i64 C) 91
              simpa using this
            case c2 => intro y hy; simp at hy; rcases hy with rfl | rfl | rfl | rfl <;> rfl
            case c3 => unfold maxLen; omega
            case c4 => omega
            case c5 => simp; omega
            intro v' w2 hown' hgrow' _
            obtain ⟨a2, c2', hv2⟩ := owns_form hown'
            subst hv2
            have z2 := hgrow'.size
            simp at z2
            have rne : ∀ g, g < w.heap.size + 2 → (Value.slice a' n c').ownBlock ≠ some g := fun g hg e => by have := (O1.out.lt g e).1; omega
            have hg9 : w2.heap[w.heap.size + 1]? = some (.cells #[.int .i64 k, .int .i64 fr, .slice a' n c'] 52 (0, 0)) := by
              rw [hgrow'.block _ (by simp; omega) (fun e => rne _ (by omega) e.symm), Below.heap_alloc _ _ _ (by simp; omega), Below.heap_alloc _ _ _ (by omega)]; exact K9.out
            have hg8 : w2.heap[w.heap.size]? = some (.cells #[.int .i64 0, .int .i64 0, .slice none 0 0] 52 (0, 0)) := by
              rw [hgrow'.block _ (by simp; omega) (fun e => rne _ (by omega) e.symm), Below.heap_alloc _ _ _ (by simp; omega), Below.heap_alloc _ _ _ (by omega)]; exact K8.out
            have hb2 : Below w.heap.size w w2 := (((L1.out.alloc (by omega) _).alloc (by simp; omega) _).grown hgrow' (by simp; omega) (fun y hy => by have := (O1.out.lt y hy).1; omega))
            have O2 := hideG (show w2.ownsRow (w.heap.size + 2) 91 4 (.slice a2 (n + 1) c2') (n + 1) (flat4 (l ++ [(u, A, B, C)])) by rw [flat4_append]; exact hown')
            have J8 := hideG hg8
            have J9 := hideG hg9
            have L2 := hideG hb2
            have e2 : w2.cell? ⟨w.heap.size + 1, 2, none⟩ = some (.slice a' n c') := by simp only [World.cell?, hg9]; rfl
            have f2 : w2.frozen? ⟨w.heap.size + 1, 2, none⟩ = false := by simp [World.frozen?, hg9]
            clear hown' hgrow' hg8 hg9 hb2 rne d2
            go_wp2_with fail
            go_roundw
            case rel =>
              refine ⟨u + 1, .slice a2 (n + 1) c2', l ++ [(u, A, B, C)], by omega, by omega, by go_num, madeUp_more MD.out hu1 hlt HMEM.out A B C HOK.out HINT.out, ?_, ?_, ?_, ?_, ?_⟩
              · rw [Below.heap_setCell _ _ _ _ (by simp)]; exact J8.out
              · exact heap_setCell_same w2 (w.heap.size + 1) 2 #[.int .i64 k, .int .i64 fr, .slice a' n c'] 52 _ J9.out
              · rw [List.length_append, ← HN.out]
                exact ownsRow_chg (S := fun x => x = w.heap.size + 1) O2.out (Chg.setCell w2 ⟨w.heap.size + 1, 2, none⟩ _) (fun x hx e => by have := (O2.out.lt x hx).1; omega)
              · exact L2.out.setCell (p := ⟨w.heap.size + 1, 2, none⟩) (by simp) _
              · simp [World.setCell]; omega
            case measure => simp [intOf]; omega
        · have eu : u = 13 := by omega
          have q0 : wr.cell? ⟨w.heap.size, 0, none⟩ = some (.int .i64 0) ∧ wr.frozen? ⟨w.heap.size, 0, none⟩ = false := ⟨by simp only [World.cell?, hg8]; rfl, by simp [World.frozen?, hg8]⟩
          have q1 : wr.cell? ⟨w.heap.size, 1, none⟩ = some (.int .i64 0) ∧ wr.frozen? ⟨w.heap.size, 1, none⟩ = false := ⟨by simp only [World.cell?, hg8]; rfl, by simp [World.frozen?, hg8]⟩
          have q2 : wr.cell? ⟨w.heap.size, 2, none⟩ = some (.slice none 0 0) ∧ wr.frozen? ⟨w.heap.size, 2, none⟩ = false := ⟨by simp only [World.cell?, hg8]; rfl, by simp [World.frozen?, hg8]⟩
          obtain ⟨q0, q0f⟩ := q0
          obtain ⟨q1, q1f⟩ := q1
          obtain ⟨q2, q2f⟩ := q2
          have HO := hideG (show Frm.okF k fr l = true from madeUp_ok (by rw [← eu]; exact hmade) hk1 hk7 p0 p1 HFB.out HF12.out)
          have HINTS := hideG (show AllIn l from hmade.ints)
          have gne : w.heap.size + 1 ≠ w.heap.size := by omega
          clear hmade hg8 hg9 hown hbel hn eu
          go_wp2_with fail
          (try simp only [Exit.inBlock, Exit.then])
          refine bodyPost_ret (results_cell_row rfl _ _ w.heap.size 52 #[.int .i64 k, .int .i64 fr, .slice a' n c'] (0, 0) _ rfl (frame_row _ _ _ G8.out) Try.underlying52 rfl sizeFr) rfl ?_
          refine ⟨k, fr, .slice a' n c', rfl, l, HO.out, HINTS.out, ?_, ?_⟩
          · rw [← HN.out]
            refine ownsRow_base (ownsRow_chg (S := fun x => x = w.heap.size) OW.out ?_ (fun x hx e => by have := (OW.out.lt x hx).1; omega)) (by omega)
            exact chg3 _ _ _ _ _
          · have := BL.out
            go_grown
    · have HFB := hideG (show Frm.fromB k 0 = true by unfold Frm.fromB; rw [if_neg q, if_pos (by omega)]; rfl)
      have HFR := hideG (show k = 1 → 1 ≤ (0 : Int) from fun e => by omega)
      have HF12 := hideG (show k = 1 → (0 : Int) ≤ 12 from fun e => by omega)
      rw [decide_eq_false q]
      clear q
      go_wp2_with fail
      have p0 := Num.pickN_lo who 12 (by omega)
      have p1 := Num.pickN_hi who 12 (by omega)
      obtain ⟨p, hp⟩ : ∃ p, p = Num.pickN who 12 := ⟨_, rfl⟩
      rw [← hp] at p0 p1
      have HP := hideG hp
      clear hp
      go_loopw [10] (fun i wr => ∃ (u : Int) (va : Value) (l : List Frm.It), 1 ≤ u ∧ u ≤ 13 ∧ i = .int .i64 u ∧ MadeUp k 0 p u l ∧ wr.heap[w.heap.size]? = some (.cells #[.int .i64 0, .int .i64 0, .slice none 0 0] 52 (0, 0)) ∧
        wr.heap[w.heap.size + 1]? = some (.cells #[.int .i64 k, .int .i64 0, va] 52 (0, 0)) ∧ wr.ownsRow (w.heap.size + 2) 91 4 va l.length (flat4 l) ∧ Below w.heap.size w wr ∧ w.heap.size + 2 ≤ wr.heap.size) (fun i _ => (13 - intOf i).toNat)
      case atStart => exact ⟨1, .slice none 0 0, [], by omega, by omega, rfl, madeUp_nil k 0 p HFR.out p0, heap_alloc2_old w _ _, heap_alloc2_new w _ _, World.ownsRow_nil _ _ _ _, by go_grown, by simp⟩
      case round =>
        obtain ⟨u, va, l, hu1, hu2, rfl, hmade, hg8, hg9, hown, hbel, hsz⟩ := hrel
        obtain ⟨a', c', hv'⟩ := owns_form hown
        subst hv'
        obtain ⟨n, hn⟩ : ∃ n, n = l.length := ⟨_, rfl⟩
        rw [← hn] at hown hg9
        have hlen := hmade.len
        rw [← hn] at hlen
        have HN := hideG hn
        have MD := hideG hmade
        have G8 := hideG hg8
        have G9 := hideG hg9
        have OW := hideG hown
        have BL := hideG hbel
        have c0 : wr.cell? ⟨w.heap.size + 1, 0, none⟩ = some (.int .i64 k) := by simp only [World.cell?, hg9]; rfl
        have c1 : wr.cell? ⟨w.heap.size + 1, 1, none⟩ = some (.int .i64 0) := by simp only [World.cell?, hg9]; rfl
        have c2 : wr.cell? ⟨w.heap.size + 1, 2, none⟩ = some (.slice a' n c') := by simp only [World.cell?, hg9]; rfl
        by_cases hlt : u ≤ 12
        · clear hmade hg8 hg9 hown hbel hn
          go_wp2_with fail
          refine (kmember_calls _ _ _ _ _ hk1 hk7 hwho hu1 hlt).mono ?_
          rintro e w' ⟨m, rfl, rfl, hmem⟩
          rw [← HP.out] at hmem
          have HMEM := hideG hmem
          clear hmem
          cases m
          · go_wp2_with fail
            go_roundw
            case rel => exact ⟨u + 1, .slice a' n c', l, by omega, by omega, by go_num, madeUp_skip MD.out hu1 HMEM.out, G8.out, G9.out, by rw [← HN.out]; exact OW.out, BL.out, hsz⟩
            case measure => simp [intOf]; omega
          · go_wp2_with fail
            refine (kitem_calls _ _ _ _ zs _ (HM.out _ BL.out) hk1 hk7 hu1 hlt (by omega) (by omega)).mono ?_
            rintro e w1 ⟨A, B, C, rfl, hok, hint, hb1⟩
            have s1 := hb1.size
            have HOK := hideG hok
            have HINT := hideG hint
            have O1 := hideG (ownsRow_chg (S := fun _ => False) OW.out (Chg.of_below hb1) (fun _ _ h => h))
            have L1 := hideG (BL.out.trans (hb1.mono (by omega)))
            have hg9 : w1.heap[w.heap.size + 1]? = some (.cells #[.int .i64 k, .int .i64 0, .slice a' n c'] 52 (0, 0)) := by rw [hb1.block _ (by omega)]; exact G9.out
            have hg8 : w1.heap[w.heap.size]? = some (.cells #[.int .i64 0, .int .i64 0, .slice none 0 0] 52 (0, 0)) := by rw [hb1.block _ (by omega)]; exact G8.out
            have K8 := hideG hg8
            have K9 := hideG hg9
            have d2 : w1.cell? ⟨w.heap.size + 1, 2, none⟩ = some (.slice a' n c') := by simp only [World.cell?, hg9]; rfl
            have A2 : ∀ ob, (w1.alloc ob).cell? ⟨w.heap.size + 1, 2, none⟩ = some (.slice a' n c') := fun ob => by
              rw [((Below.refl w1.heap.size w1).alloc (Nat.le_refl _) ob).cell (p := ⟨w.heap.size + 1, 2, none⟩) (by simp; omega)]; exact d2
            clear hok hint hb1 hg8 hg9 c0 c1 c2
            go_wp2_with (at_builtin; refine wpList_append_own _ rfl _ _ 50 rfl (w.heap.size + 2) 91 i1 (.agg #[.int .i64 0, .int .i64 0, .int .i64 0, .int .i64 0]) 4 32 Try.underlying50 hi1 hy0 hy1 hy2 rfl (by decide) _ _ _ rfl ((O1.out.alloc _).alloc _) ⟨w1.heap.size + 1, 0, none⟩ 1 1 [.int .i64 u, .int .i64 A, .int .i64 B, .int .i64 C] rfl rfl ?c1 ?c2 ?c3 ?c4 ?c5 ?_)
            case c1 =>
              have := cell_four_new (w1.alloc (.cells #[.int .i64 u, .int .i64 A, .int .i64 B, .int .i64 C] 91)) (.int .i64 u) (.int .i64 A) (.int .i64 B) (.int .i64 C) 91
              simpa using this
            case c2 => intro y hy; simp at hy; rcases hy with rfl | rfl | rfl | rfl <;> rfl
            case c3 => unfold maxLen; omega
            case c4 => omega
            case c5 => simp; omega
            intro v' w2 hown' hgrow' _
            obtain ⟨a2, c2', hv2⟩ := owns_form hown'
            subst hv2
            have z2 := hgrow'.size
            simp at z2
            have rne : ∀ g, g < w.heap.size + 2 → (Value.slice a' n c').ownBlock ≠ some g := fun g hg e => by have := (O1.out.lt g e).1; omega
            have hg9 : w2.heap[w.heap.size + 1]? = some (.cells #[.int .i64 k, .int .i64 0, .slice a' n c'] 52 (0, 0)) := by
              rw [hgrow'.block _ (by simp; omega) (fun e => rne _ (by omega) e.symm), Below.heap_alloc _ _ _ (by simp; omega), Below.heap_alloc _ _ _ (by omega)]; exact K9.out
            have hg8 : w2.heap[w.heap.size]? = some (.cells #[.int .i64 0, .int .i64 0, .slice none 0 0] 52 (0, 0)) := by
              rw [hgrow'.block _ (by simp; omega) (fun e => rne _ (by omega) e.symm), Below.heap_alloc _ _ _ (by simp; omega), Below.heap_alloc _ _ _ (by omega)]; exact K8.out
            have hb2 : Below w.heap.size w w2 := (((L1.out.alloc (by omega) _).alloc (by simp; omega) _).grown hgrow' (by simp; omega) (fun y hy => by have := (O1.out.lt y hy).1; omega))
            have O2 := hideG (show w2.ownsRow (w.heap.size + 2) 91 4 (.slice a2 (n + 1) c2') (n + 1) (flat4 (l ++ [(u, A, B, C)])) by rw [flat4_append]; exact hown')
            have J8 := hideG hg8
            have J9 := hideG hg9
            have L2 := hideG hb2
            have e2 : w2.cell? ⟨w.heap.size + 1, 2, none⟩ = some (.slice a' n c') := by simp only [World.cell?, hg9]; rfl
            have f2 : w2.frozen? ⟨w.heap.size + 1, 2, none⟩ = false := by simp [World.frozen?, hg9]
            clear hown' hgrow' hg8 hg9 hb2 rne d2
            go_wp2_with fail
            go_roundw
            case rel =>
              refine ⟨u + 1, .slice a2 (n + 1) c2', l ++ [(u, A, B, C)], by omega, by omega, by go_num, madeUp_more MD.out hu1 hlt HMEM.out A B C HOK.out HINT.out, ?_, ?_, ?_, ?_, ?_⟩
              · rw [Below.heap_setCell _ _ _ _ (by simp)]; exact J8.out
              · exact heap_setCell_same w2 (w.heap.size + 1) 2 #[.int .i64 k, .int .i64 0, .slice a' n c'] 52 _ J9.out
              · rw [List.length_append, ← HN.out]
                exact ownsRow_chg (S := fun x => x = w.heap.size + 1) O2.out (Chg.setCell w2 ⟨w.heap.size + 1, 2, none⟩ _) (fun x hx e => by have := (O2.out.lt x hx).1; omega)
              · exact L2.out.setCell (p := ⟨w.heap.size + 1, 2, none⟩) (by simp) _
              · simp [World.setCell]; omega
            case measure => simp [intOf]; omega
        · have eu : u = 13 := by omega
          have q0 : wr.cell? ⟨w.heap.size, 0, none⟩ = some (.int .i64 0) ∧ wr.frozen? ⟨w.heap.size, 0, none⟩ = false := ⟨by simp only [World.cell?, hg8]; rfl, by simp [World.frozen?, hg8]⟩
          have q1 : wr.cell? ⟨w.heap.size, 1, none⟩ = some (.int .i64 0) ∧ wr.frozen? ⟨w.heap.size, 1, none⟩ = false := ⟨by simp only [World.cell?, hg8]; rfl, by simp [World.frozen?, hg8]⟩
          have q2 : wr.cell? ⟨w.heap.size, 2, none⟩ = some (.slice none 0 0) ∧ wr.frozen? ⟨w.heap.size, 2, none⟩ = false := ⟨by simp only [World.cell?, hg8]; rfl, by simp [World.frozen?, hg8]⟩
          obtain ⟨q0, q0f⟩ := q0
          obtain ⟨q1, q1f⟩ := q1
          obtain ⟨q2, q2f⟩ := q2
          have HO := hideG (show Frm.okF k 0 l = true from madeUp_ok (by rw [← eu]; exact hmade) hk1 hk7 p0 p1 HFB.out HF12.out)
          have HINTS := hideG (show AllIn l from hmade.ints)
          have gne : w.heap.size + 1 ≠ w.heap.size := by omega
          clear hmade hg8 hg9 hown hbel hn eu
          go_wp2_with fail
          (try simp only [Exit.inBlock, Exit.then])
          refine bodyPost_ret (results_cell_row rfl _ _ w.heap.size 52 #[.int .i64 k, .int .i64 0, .slice a' n c'] (0, 0) _ rfl (frame_row _ _ _ G8.out) Try.underlying52 rfl sizeFr) rfl ?_
          refine ⟨k, 0, .slice a' n c', rfl, l, HO.out, HINTS.out, ?_, ?_⟩
          · rw [← HN.out]
            refine ownsRow_base (ownsRow_chg (S := fun x => x = w.heap.size) OW.out ?_ (fun x hx e => by have := (OW.out.lt x hx).1; omega)) (by omega)
            exact chg3 _ _ _ _ _
          · have := BL.out
            go_grown

end Go.Proofs.Ytchideljndagjaa
