/- Contracts of the choosing of points, package veilkeep. -/
import Derived.Test.YtchideljndagjaaChoose
import Derived.Test.YtchideljndagjaaPts
namespace Go.Proofs.Ytchideljndagjaa
open Go.ChangeShapes Go.WideShapes Go.ChangeAt Go.RowKit
set_option linter.unusedVariables false

theorem BRow.setv {w : World} {B g n : Nat} {bs : List Bool} (h : BRow w B g n bs) (j : Nat) (b : Bool) : BRow (w.setCell ⟨g, j, none⟩ (.bool b)) B g n (bs.set j b) := by
  refine ⟨by rw [List.length_set]; exact h.1, ?_⟩
  have := (h.2.stored j (.bool b)).1
  rw [← List.map_set] at this
  exact this

theorem get_setv (bs : List Bool) (i j : Nat) (b : Bool) (hi : i < bs.length) : (bs.set i b).getD j false = if i = j then b else bs.getD j false := by
  rw [List.getD_eq_getElem?_getD, List.getD_eq_getElem?_getD, List.getElem?_set]
  by_cases e : i = j
  · subst e; simp [hi]
  · simp [e]

theorem count_le_n (bs : List Bool) (n : Nat) (hl : bs.length = n + 1) (h0 : bs.getD 0 false = false) : bs.count true ≤ n := by
  cases bs with
  | nil => simp at hl
  | cons b bs =>
    have : b = false := h0
    subst this
    have := List.count_le_length (a := true) (l := bs)
    simp at hl
    rw [List.count_cons]; simp; omega

theorem set_off (bs : List Bool) (j : Nat) (h : bs.getD j false = false) (hj : j < bs.length) : bs.set j false = bs := by
  apply List.ext_getElem?
  intro i
  rw [List.getElem?_set]
  by_cases e : j = i
  · subst e
    rw [if_pos rfl, if_pos hj]
    rw [List.getD_eq_getElem?_getD, List.getElem?_eq_getElem hj, Option.getD_some] at h
    rw [List.getElem?_eq_getElem hj, h]
  · rw [if_neg e]

set_option maxHeartbeats 1000000 in
set_option maxRecDepth 100000 in
theorem some_calls (n : Nat) (who : Int) (want : Nat) (w : World) (hn : n ≤ 12) (hw : want ≤ n) (hb : -9223372036854775808 ≤ who) (hb' : who ≤ 9223372036854775807) :
    Calls Try.prog 17 #[.int .i64 (n : Int), .int .i64 who, .int .i64 (want : Int)] w fun e w' => ∃ g, e = .returned (.slice (some ⟨g, 0, none⟩) (n + 1) (n + 1)) ∧ ∃ bs, BRow w' w.heap.size g (n + 1) bs ∧ bs.getD 0 false = false ∧
      want ≤ bs.count true ∧ Below w.heap.size w w' := by
  obtain ⟨i0, hi, hz0, hz1, hz2⟩ := info_parts infoBool
  go_enter Try.func17, Try.ntmps17
  go_wp2_with (at_make; refine wpList_make_full _ rfl _ _ 34 rfl w.heap.size 4 i0 (.bool false) 1 Try.underlying34 hi hz0 hz1 _ _ _ _ (n + 1) rfl rfl (by omega) (by omega) ?m1 ?m2 ?m3 ?_)
  case m1 => rw [hz2]; omega
  case m2 => unfold maxLen; omega
  case m3 => exact Nat.le_refl _
  intro w1 hown1 hgrow1
  have hb1 := (Below.refl w.heap.size w).grown hgrow1 (Nat.le_refl _) (by simp)
  have hr1 : BRow w1 w.heap.size w.heap.size (n + 1) (List.replicate (n + 1) false) := by
    refine ⟨by simp, ?_⟩
    rw [List.map_replicate, ← toList_madeCells_one]
    exact hown1
  have HB1 := hideG hb1
  have HR1 := hideG hr1
  clear hb1 hown1 hgrow1 hr1
  go_wp2_with fail
  go_loopw [8, 9] (fun c u wr => ∃ (bs : List Bool) (cc : Nat) (uu : Int), 1 ≤ uu ∧ uu ≤ (n : Int) + 1 ∧ cc ≤ n ∧ c = .int .i64 cc ∧ u = .int .i64 uu ∧ BRow wr w.heap.size w.heap.size (n + 1) bs ∧ bs.getD 0 false = false ∧
    bs.count true = cc ∧ (∀ j, uu.toNat ≤ j → bs.getD j false = false) ∧ Below w.heap.size w wr) (fun _ u _ => ((n : Int) + 1 - intOf u).toNat)
  case atStart => exact ⟨List.replicate (n + 1) false, 0, 1, by omega, by omega, by omega, rfl, rfl, HR1.out, by simp, by simp [List.count_replicate], fun j _ => by simp [List.getD_eq_getElem?_getD, List.getElem?_replicate]; split <;> rfl, HB1.out⟩
  case round =>
    obtain ⟨bs, cc, uu, u1, u2, c1, rfl, rfl, hr, hz, hcnt, hoff, hbl⟩ := hrel
    have HR := hideG hr
    have HZ := hideG hz
    have HC := hideG hcnt
    have HF := hideG hoff
    have HB := hideG hbl
    clear hz hcnt hoff hbl
    by_cases hu : uu ≤ (n : Int)
    · obtain ⟨x1, x2⟩ := hr.cell uu.toNat (by omega)
      clear hr
      go_wp2_with fail
      · go_roundw
        case rel =>
          have l1 := HR.out.1
          have hu0 : uu.toNat ≠ 0 := by omega
          have lc := count_le_n (bs.set uu.toNat true) n (by rw [List.length_set]; exact l1) (by rw [get_set _ _ _ (by omega), if_neg hu0]; exact HZ.out)
          rw [count_on _ _ (by omega) (HF.out _ (Nat.le_refl _)), HC.out] at lc
          refine ⟨bs.set uu.toNat true, cc + 1, uu + 1, by omega, by omega, by omega, by go_num, rfl, HR.out.set uu.toNat, ?_, ?_, fun j hj => ?_, HB.out.setCell (by simp) _⟩
          · rw [get_set _ _ _ (by omega), if_neg hu0]; exact HZ.out
          · rw [count_on _ _ (by omega) (HF.out _ (Nat.le_refl _)), HC.out]
          · rw [get_set _ _ _ (by omega), if_neg (by omega)]; exact HF.out j (by omega)
        case measure => simp [intOf]; omega
      · go_roundw
        case rel =>
          have l1 := HR.out.1
          have S := HR.out.setv uu.toNat false
          rw [set_off _ _ (HF.out _ (Nat.le_refl _)) (by omega)] at S
          exact ⟨bs, cc, uu + 1, by omega, by omega, by omega, rfl, rfl, S, HZ.out, HC.out, fun j hj => HF.out j (by omega), HB.out.setCell (by simp) _⟩
        case measure => simp [intOf]; omega
    · have ku : uu = (n : Int) + 1 := by omega
      subst ku
      clear hr
      go_wp2_with fail
      go_loopw [8, 10] (fun c u wr => ∃ (bs : List Bool) (cc : Nat) (uu : Int), 1 ≤ uu ∧ uu ≤ (n : Int) + 1 ∧ cc ≤ n ∧ c = .int .i64 cc ∧ u = .int .i64 uu ∧ BRow wr w.heap.size w.heap.size (n + 1) bs ∧ bs.getD 0 false = false ∧ bs.count true = cc ∧ (∀ j, 1 ≤ j → j < uu.toNat → bs.getD j false = true) ∧ Below w.heap.size w wr) (fun _ u _ => ((n : Int) + 1 - intOf u).toNat)
      case atStart => exact ⟨bs, cc, 1, by omega, by omega, by omega, rfl, rfl, HR.out, HZ.out, HC.out, fun j h1 h2 => by omega, HB.out⟩
      case round =>
        clear HR HZ HC HF HB
        obtain ⟨bs, cc, uu, u1, u2, c1, rfl, rfl, hr, hz, hcnt, hon, hbl⟩ := hrel
        have HR := hideG hr
        have HZ := hideG hz
        have HC := hideG hcnt
        have HF := hideG hon
        have HB := hideG hbl
        clear hz hcnt hon hbl
        by_cases hu : uu ≤ (n : Int)
        · by_cases hc : cc < want
          · obtain ⟨x1, x2⟩ := hr.cell uu.toNat (by omega)
            have hci : (cc : Int) < (want : Int) := by omega
            clear hr
            cases hv : bs.getD uu.toNat false
            · rw [hv] at x1
              have HV := hideG hv
              clear hv
              go_wp2_with fail
              go_roundw
              case rel =>
                have l1 := HR.out.1
                have hu0 : uu.toNat ≠ 0 := by omega
                have lc := count_le_n (bs.set uu.toNat true) n (by rw [List.length_set]; exact l1) (by rw [get_set _ _ _ (by omega), if_neg hu0]; exact HZ.out)
                rw [count_on _ _ (by omega) HV.out, HC.out] at lc
                refine ⟨bs.set uu.toNat true, cc + 1, uu + 1, by omega, by omega, by omega, by go_num, rfl, HR.out.set uu.toNat, ?_, ?_, fun j h1 h2 => ?_, HB.out.setCell (by simp) _⟩
                · rw [get_set _ _ _ (by omega), if_neg hu0]; exact HZ.out
                · rw [count_on _ _ (by omega) HV.out, HC.out]
                · rw [get_set _ _ _ (by omega)]
                  by_cases e : uu.toNat = j
                  · rw [if_pos e]
                  · rw [if_neg e]; exact HF.out j h1 (by omega)
              case measure => simp [intOf]; omega
            · rw [hv] at x1
              have HV := hideG hv
              clear hv
              go_wp2_with fail
              go_roundw
              case rel =>
                refine ⟨bs, cc, uu + 1, by omega, by omega, by omega, rfl, rfl, HR.out, HZ.out, HC.out, fun j h1 h2 => ?_, HB.out⟩
                by_cases e : uu.toNat = j
                · rw [← e]; exact HV.out
                · exact HF.out j h1 (by omega)
              case measure => simp [intOf]; omega
          · have hci : ¬ ((cc : Int) < (want : Int)) := by omega
            clear hr
            go_wp2_with fail
            go_ret
            exact ⟨_, rfl, bs, HR.out, HZ.out, by rw [HC.out]; omega, HB.out⟩
        · have ku : uu = (n : Int) + 1 := by omega
          subst ku
          clear hr
          go_wp2_with fail
          go_ret
          refine ⟨_, rfl, bs, HR.out, HZ.out, ?_, HB.out⟩
          have l1 := HR.out.1
          have := count_all bs HZ.out (fun j h1 h2 => HF.out j h1 (by omega)) (by omega)
          have := HC.out
          omega

/-- Those who are asked, in their order: beginning behind f. -/
def rot (n f : Nat) : List Nat := ((List.range n).map (· + 1)).drop f ++ ((List.range n).map (· + 1)).take f

theorem rot_length (n f : Nat) : (rot n f).length = n := by
  unfold rot; rw [List.length_append, List.length_drop, List.length_take]; simp; omega

theorem rot_get (n f i : Nat) (hf : f < n) (hi : i < n) : (rot n f)[i]? = some ((f + i) % n + 1) := by
  unfold rot
  have hl : (((List.range n).map (· + 1)).drop f).length = n - f := by simp
  by_cases h : i < n - f
  · rw [List.getElem?_append_left (by omega), List.getElem?_drop, List.getElem?_map, List.getElem?_range (by omega), Nat.mod_eq_of_lt (by omega)]; rfl
  · rw [List.getElem?_append_right (by omega), hl, List.getElem?_take_of_lt (by omega), List.getElem?_map, List.getElem?_range (by omega)]
    show some (i - (n - f) + 1) = _
    rw [show f + i = n + (i - (n - f)) by omega, Nat.add_mod_left, Nat.mod_eq_of_lt (by omega)]

theorem rot_perm (n f : Nat) : (rot n f).Perm ((List.range n).map (· + 1)) := by
  unfold rot
  refine List.perm_append_comm.trans ?_
  rw [List.take_append_drop]

theorem rot_nodup (n f : Nat) : (rot n f).Nodup := by
  rw [(rot_perm n f).nodup_iff]
  exact List.pairwise_map.2 (List.nodup_range.imp fun h e => h (by omega))

theorem rot_mem (n f u : Nat) (h : u ∈ rot n f) : 1 ≤ u ∧ u ≤ n := by
  have := (rot_perm n f).mem_iff.1 h
  simp at this
  omega

theorem range_count (bs : List Bool) : ((List.range bs.length).filter fun u => bs.getD u false).length = bs.count true := by
  induction bs with
  | nil => rfl
  | cons b bs ih =>
    rw [List.length_cons, List.range_succ_eq_map, List.filter_cons]
    have e : ((List.map Nat.succ (List.range bs.length)).filter fun u => (b :: bs).getD u false).length = bs.count true := by
      rw [List.filter_map, List.length_map, ← ih]; rfl
    cases b
    · show ((List.map Nat.succ (List.range bs.length)).filter fun u => (false :: bs).getD u false).length = _
      rw [e, List.count_cons]; simp
    · show (0 :: ((List.map Nat.succ (List.range bs.length)).filter fun u => (true :: bs).getD u false)).length = _
      rw [List.length_cons, e, List.count_cons]; simp

theorem rot_count (n f : Nat) (bs : List Bool) (hl : bs.length = n + 1) (h0 : bs.getD 0 false = false) : ((rot n f).filter fun u => bs.getD u false).length = bs.count true := by
  rw [((rot_perm n f).filter _).length_eq, ← range_count bs, hl, List.range_succ_eq_map, List.filter_cons, h0]
  rfl

/-- The X of those who are chosen. -/
def chX (n f : Nat) (bs : List Bool) : List Int := ((rot n f).filter fun u => bs.getD u false).map fun u : Nat => (u : Int)

theorem chX_good (n f : Nat) (bs : List Bool) (hn : n ≤ 12) : Lag.goodX (chX n f bs) := by
  refine ⟨fun k hk => ?_, ?_⟩
  · obtain ⟨u, hu, rfl⟩ := List.mem_map.1 hk
    have := rot_mem n f u (List.mem_filter.1 hu).1
    unfold Lag.small; omega
  · unfold chX
    have h1 : ((rot n f).filter fun u => bs.getD u false).Nodup := List.Pairwise.filter _ (rot_nodup n f)
    exact List.pairwise_map.2 (h1.imp fun h e => h (by omega))

end Go.Proofs.Ytchideljndagjaa
