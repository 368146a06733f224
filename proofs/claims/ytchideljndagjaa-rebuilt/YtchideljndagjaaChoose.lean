/- Contracts of the choosing of some clients, package veilkeep. -/
import Derived.Test.YtchideljndagjaaKeep
import Derived.Test.YtchideljndagjaaMemAll
import Derived.WalkSpells
namespace Go.Proofs.Ytchideljndagjaa
open Go.ChangeShapes Go.WideShapes Go.ChangeAt Go.RowKit
set_option linter.unusedVariables false

theorem infoBool : (Try.prog.info? 4).map (fun i => (i.zero, i.size, i.bytes)) = some (some (.bool false), 1, 1) := by kernel_rfl

/-- A row of bools that the call has made. -/
def BRow (w : World) (B : Nat) (g n : Nat) (bs : List Bool) : Prop :=
  bs.length = n ∧ w.ownsRow B 4 1 (.slice (some ⟨g, 0, none⟩) n n) n (bs.map Value.bool)

theorem BRow.cell {w : World} {B g n : Nat} {bs : List Bool} (h : BRow w B g n bs) (j : Nat) (hj : j < n) : w.cell? ⟨g, j, none⟩ = some (.bool (bs.getD j false)) ∧ w.frozen? ⟨g, j, none⟩ = false := by
  refine ⟨?_, h.2.frozenAt j⟩
  rw [h.2.cellAt j (by omega), List.getElem?_map, List.getD_eq_getElem?_getD, List.getElem?_eq_getElem (by rw [h.1]; exact hj)]; rfl

theorem BRow.set {w : World} {B g n : Nat} {bs : List Bool} (h : BRow w B g n bs) (j : Nat) : BRow (w.setCell ⟨g, j, none⟩ (.bool true)) B g n (bs.set j true) := by
  refine ⟨by rw [List.length_set]; exact h.1, ?_⟩
  have := (h.2.stored j (.bool true)).1
  rw [← List.map_set] at this
  exact this

theorem BRow.below {w w' : World} {B g n : Nat} {bs : List Bool} (h : BRow w B g n bs) (hb : Below w.heap.size w w') : BRow w' B g n bs := by
  refine ⟨h.1, ?_⟩
  obtain ⟨h1, h2⟩ := h.2
  refine ⟨h1, ?_⟩
  rcases h2 with ⟨h2, _⟩ | ⟨g', cap, cur, e, h3, h4, h5⟩
  · cases h2
  · refine .inr ⟨g', cap, cur, e, h3, ?_, h5⟩
    rw [hb.block g' ?_]; exact h4
    by_cases hx : g' < w.heap.size
    · exact hx
    · rw [Array.getElem?_eq_none (by omega)] at h4; cases h4

theorem BRow.lt {w : World} {B g n : Nat} {bs : List Bool} (h : BRow w B g n bs) : B ≤ g ∧ g < w.heap.size := h.2.lt g rfl

theorem count_on (bs : List Bool) (j : Nat) (hj : j < bs.length) (h : bs.getD j false = false) : (bs.set j true).count true = bs.count true + 1 := by
  rw [List.getD_eq_getElem?_getD, List.getElem?_eq_getElem hj, Option.getD_some] at h
  rw [List.count_set hj, h]
  simp

theorem get_set (bs : List Bool) (i j : Nat) (hi : i < bs.length) : (bs.set i true).getD j false = if i = j then true else bs.getD j false := by
  rw [List.getD_eq_getElem?_getD, List.getD_eq_getElem?_getD, List.getElem?_set]
  by_cases e : i = j
  · subst e; simp [hi]
  · simp [e]

/-- All but the first: then there are as many as they are. -/
theorem count_all (bs : List Bool) (h0 : bs.getD 0 false = false) (h : ∀ j, 1 ≤ j → j < bs.length → bs.getD j false = true) (hl : 0 < bs.length) : bs.count true = bs.length - 1 := by
  cases bs with
  | nil => simp at hl
  | cons b bs =>
    have hb : b = false := h0
    subst hb
    have : ∀ x ∈ bs, true = x := by
      intro x hx
      obtain ⟨i, hi, e⟩ := List.getElem_of_mem hx
      have := h (i + 1) (by omega) (by simp; omega)
      rw [List.getD_eq_getElem?_getD, List.getElem?_cons_succ, List.getElem?_eq_getElem hi, e] at this
      exact this.symm
    rw [List.count_cons, List.count_eq_length.2 this]; simp

set_option maxHeartbeats 1000000 in
set_option maxRecDepth 100000 in
theorem exactly_calls (n : Nat) (who : Int) (want : Nat) (w : World) (hn : n ≤ 12) (hw : want ≤ n) (hb : -9223372036854775808 ≤ who) (hb' : who ≤ 9223372036854775807) :
    Calls Try.prog 21 #[.int .i64 (n : Int), .int .i64 who, .int .i64 (want : Int)] w fun e w' => ∃ g, e = .returned (.slice (some ⟨g, 0, none⟩) (n + 1) (n + 1)) ∧ ∃ bs, BRow w' w.heap.size g (n + 1) bs ∧ bs.getD 0 false = false ∧
      bs.count true = want ∧ Below w.heap.size w w' := by
  obtain ⟨i0, hi, hz0, hz1, hz2⟩ := info_parts infoBool
  go_enter Try.func21, Try.ntmps21
  go_wp2_with (at_make; refine wpList_make_full _ rfl _ _ 34 rfl w.heap.size 4 i0 (.bool false) 1 Try.underlying34 hi hz0 hz1 _ _ _ _ (n + 1) rfl rfl (by omega) (by omega) ?m1 ?m2 ?m3 ?_)
  case m1 => rw [hz2]; omega
  case m2 => unfold maxLen; omega
  case m3 => exact Nat.le_refl _
  intro w1 hown1 hgrow1
  have hb1 := (Below.refl w.heap.size w).grown hgrow1 (Nat.le_refl _) (by simp)
  have hr1 : BRow w1 w.heap.size w.heap.size (n + 1) (List.replicate (n + 1) false) := by
    refine ⟨by simp, ?_⟩
    rw [List.map_replicate, ← toList_madeCells_one]
    exact hown1
  have HB1 := hideG hb1
  have HR1 := hideG hr1
  clear hb1 hown1 hgrow1 hr1
  go_wp2_with fail
  go_loopw [8, 9] (fun c u wr => ∃ (bs : List Bool) (cc : Nat) (uu : Int), 1 ≤ uu ∧ uu ≤ (n : Int) + 1 ∧ cc ≤ want ∧ c = .int .i64 cc ∧ u = .int .i64 uu ∧ BRow wr w.heap.size w.heap.size (n + 1) bs ∧ bs.getD 0 false = false ∧
    bs.count true = cc ∧ (∀ j, uu.toNat ≤ j → bs.getD j false = false) ∧ Below w.heap.size w wr) (fun _ u _ => ((n : Int) + 1 - intOf u).toNat)
  case atStart => exact ⟨List.replicate (n + 1) false, 0, 1, by omega, by omega, by omega, rfl, rfl, HR1.out, by simp, by simp [List.count_replicate], fun j _ => by simp [List.getD_eq_getElem?_getD, List.getElem?_replicate]; split <;> rfl, HB1.out⟩
  case round =>
    obtain ⟨bs, cc, uu, u1, u2, c1, rfl, rfl, hr, hz, hcnt, hoff, hbl⟩ := hrel
    have HR := hideG hr
    have HZ := hideG hz
    have HC := hideG hcnt
    have HF := hideG hoff
    have HB := hideG hbl
    clear hz hcnt hoff hbl
    by_cases hu : uu ≤ (n : Int)
    · by_cases hc : cc < want
      · obtain ⟨x1, x2⟩ := hr.cell uu.toNat (by omega)
        have hci : (cc : Int) < (want : Int) := by omega
        clear hr
        go_wp2_with fail
        · go_roundw
          case rel =>
            have l1 := HR.out.1
            have hlt := HR.out.lt
            have hu0 : uu.toNat ≠ 0 := by omega
            refine ⟨bs.set uu.toNat true, cc + 1, uu + 1, by omega, by omega, by omega, by go_num, rfl, HR.out.set uu.toNat, ?_, ?_, fun j hj => ?_, HB.out.setCell (by simp) _⟩
            · rw [get_set _ _ _ (by omega), if_neg hu0]; exact HZ.out
            · rw [count_on _ _ (by omega) (HF.out _ (Nat.le_refl _)), HC.out]
            · rw [get_set _ _ _ (by omega), if_neg (by omega)]; exact HF.out j (by omega)
          case measure => simp [intOf]; omega
        · go_roundw
          case rel => exact ⟨bs, cc, uu + 1, by omega, by omega, by omega, rfl, rfl, HR.out, HZ.out, HC.out, fun j hj => HF.out j (by omega), HB.out⟩
          case measure => simp [intOf]; omega
      · have hci : ¬ ((cc : Int) < (want : Int)) := by omega
        clear hr
        go_wp2_with fail
        go_loopw [8, 10] (fun c u wr => ∃ (bs : List Bool) (cc : Nat) (uu : Int), 1 ≤ uu ∧ uu ≤ (n : Int) + 1 ∧ cc ≤ want ∧ c = .int .i64 cc ∧ u = .int .i64 uu ∧ BRow wr w.heap.size w.heap.size (n + 1) bs ∧ bs.getD 0 false = false ∧ bs.count true = cc ∧ (∀ j, 1 ≤ j → j < uu.toNat → bs.getD j false = true) ∧ Below w.heap.size w wr) (fun _ u _ => ((n : Int) + 1 - intOf u).toNat)
        case atStart => exact ⟨bs, cc, 1, by omega, by omega, by omega, rfl, rfl, HR.out, HZ.out, HC.out, fun j h1 h2 => by omega, HB.out⟩
        case round =>
          clear HR HZ HC HF HB
          obtain ⟨bs, cc, uu, u1, u2, c1, rfl, rfl, hr, hz, hcnt, hon, hbl⟩ := hrel
          have HR := hideG hr
          have HZ := hideG hz
          have HC := hideG hcnt
          have HF := hideG hon
          have HB := hideG hbl
          clear hz hcnt hon hbl
          by_cases hu : uu ≤ (n : Int)
          · by_cases hc : cc < want
            · obtain ⟨x1, x2⟩ := hr.cell uu.toNat (by omega)
              have hci : (cc : Int) < (want : Int) := by omega
              clear hr
              cases hv : bs.getD uu.toNat false
              · rw [hv] at x1
                have HV := hideG hv
                clear hv
                go_wp2_with fail
                go_roundw
                case rel =>
                  have l1 := HR.out.1
                  have hu0 : uu.toNat ≠ 0 := by omega
                  refine ⟨bs.set uu.toNat true, cc + 1, uu + 1, by omega, by omega, by omega, by go_num, rfl, HR.out.set uu.toNat, ?_, ?_, fun j h1 h2 => ?_, HB.out.setCell (by simp) _⟩
                  · rw [get_set _ _ _ (by omega), if_neg hu0]; exact HZ.out
                  · rw [count_on _ _ (by omega) HV.out, HC.out]
                  · rw [get_set _ _ _ (by omega)]
                    by_cases e : uu.toNat = j
                    · rw [if_pos e]
                    · rw [if_neg e]; exact HF.out j h1 (by omega)
                case measure => simp [intOf]; omega
              · rw [hv] at x1
                have HV := hideG hv
                clear hv
                go_wp2_with fail
                go_roundw
                case rel =>
                  refine ⟨bs, cc, uu + 1, by omega, by omega, by omega, rfl, rfl, HR.out, HZ.out, HC.out, fun j h1 h2 => ?_, HB.out⟩
                  by_cases e : uu.toNat = j
                  · rw [← e]; exact HV.out
                  · exact HF.out j h1 (by omega)
                case measure => simp [intOf]; omega
            · have hci : ¬ ((cc : Int) < (want : Int)) := by omega
              clear hr
              go_wp2_with fail
              go_ret
              exact ⟨_, rfl, bs, HR.out, HZ.out, by rw [HC.out]; omega, HB.out⟩
          · have ku : uu = (n : Int) + 1 := by omega
            subst ku
            clear hr
            go_wp2_with fail
            go_ret
            refine ⟨_, rfl, bs, HR.out, HZ.out, ?_, HB.out⟩
            have l1 := HR.out.1
            have := count_all bs HZ.out (fun j h1 h2 => HF.out j h1 (by omega)) (by omega)
            have := HC.out
            omega
    · have ku : uu = (n : Int) + 1 := by omega
      subst ku
      clear hr
      go_wp2_with fail
      go_loopw [8, 10] (fun c u wr => ∃ (bs : List Bool) (cc : Nat) (uu : Int), 1 ≤ uu ∧ uu ≤ (n : Int) + 1 ∧ cc ≤ want ∧ c = .int .i64 cc ∧ u = .int .i64 uu ∧ BRow wr w.heap.size w.heap.size (n + 1) bs ∧ bs.getD 0 false = false ∧ bs.count true = cc ∧ (∀ j, 1 ≤ j → j < uu.toNat → bs.getD j false = true) ∧ Below w.heap.size w wr) (fun _ u _ => ((n : Int) + 1 - intOf u).toNat)
      case atStart => exact ⟨bs, cc, 1, by omega, by omega, by omega, rfl, rfl, HR.out, HZ.out, HC.out, fun j h1 h2 => by omega, HB.out⟩
      case round =>
        clear HR HZ HC HF HB
        obtain ⟨bs, cc, uu, u1, u2, c1, rfl, rfl, hr, hz, hcnt, hon, hbl⟩ := hrel
        have HR := hideG hr
        have HZ := hideG hz
        have HC := hideG hcnt
        have HF := hideG hon
        have HB := hideG hbl
        clear hz hcnt hon hbl
        by_cases hu : uu ≤ (n : Int)
        · by_cases hc : cc < want
          · obtain ⟨x1, x2⟩ := hr.cell uu.toNat (by omega)
            have hci : (cc : Int) < (want : Int) := by omega
            clear hr
            cases hv : bs.getD uu.toNat false
            · rw [hv] at x1
              have HV := hideG hv
              clear hv
              go_wp2_with fail
              go_roundw
              case rel =>
                have l1 := HR.out.1
                have hu0 : uu.toNat ≠ 0 := by omega
                refine ⟨bs.set uu.toNat true, cc + 1, uu + 1, by omega, by omega, by omega, by go_num, rfl, HR.out.set uu.toNat, ?_, ?_, fun j h1 h2 => ?_, HB.out.setCell (by simp) _⟩
                · rw [get_set _ _ _ (by omega), if_neg hu0]; exact HZ.out
                · rw [count_on _ _ (by omega) HV.out, HC.out]
                · rw [get_set _ _ _ (by omega)]
                  by_cases e : uu.toNat = j
                  · rw [if_pos e]
                  · rw [if_neg e]; exact HF.out j h1 (by omega)
              case measure => simp [intOf]; omega
            · rw [hv] at x1
              have HV := hideG hv
              clear hv
              go_wp2_with fail
              go_roundw
              case rel =>
                refine ⟨bs, cc, uu + 1, by omega, by omega, by omega, rfl, rfl, HR.out, HZ.out, HC.out, fun j h1 h2 => ?_, HB.out⟩
                by_cases e : uu.toNat = j
                · rw [← e]; exact HV.out
                · exact HF.out j h1 (by omega)
              case measure => simp [intOf]; omega
          · have hci : ¬ ((cc : Int) < (want : Int)) := by omega
            clear hr
            go_wp2_with fail
            go_ret
            exact ⟨_, rfl, bs, HR.out, HZ.out, by rw [HC.out]; omega, HB.out⟩
        · have ku : uu = (n : Int) + 1 := by omega
          subst ku
          clear hr
          go_wp2_with fail
          go_ret
          refine ⟨_, rfl, bs, HR.out, HZ.out, ?_, HB.out⟩
          have l1 := HR.out.1
          have := count_all bs HZ.out (fun j h1 h2 => HF.out j h1 (by omega)) (by omega)
          have := HC.out
          omega

end Go.Proofs.Ytchideljndagjaa
