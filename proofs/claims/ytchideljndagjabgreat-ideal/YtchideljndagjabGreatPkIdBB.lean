/- Contracts of the program's session: remove, Drop, Deliver. -/
import Derived.Test.YtchideljndagjabGreatPkIdBA
import Derived.Laws.AppendOwnNone
import Derived.Deep.RegionLaw
namespace Go.Proofs.YtchideljndagjabGreat
open Go.ChangeShapes Go.WideShapes Go.ChangeAt Go.RowKit
set_option linter.unusedVariables false
def er {α : Type} (l : List α) (i j : Nat) : List α := (l.take j).eraseIdx i
theorem er_zero {α : Type} (l : List α) (i : Nat) : er l i 0 = [] := by unfold er; simp
theorem er_skip {α : Type} (l : List α) (i : Nat) (hi : i < l.length) : er l i (i + 1) = er l i i := by
  unfold er
  rw [List.take_succ_eq_append_getElem hi, List.eraseIdx_append_of_length_le (by rw [List.length_take]; omega), List.length_take, Nat.min_eq_left (by omega), Nat.sub_self]
  rw [List.eraseIdx_of_length_le (l := List.take i l) (by rw [List.length_take]; omega)]
  simp
theorem er_next {α : Type} (l : List α) (i j : Nat) (hj : j < l.length) (h : j ≠ i) : er l i (j + 1) = er l i j ++ [l[j]] := by
  unfold er
  rw [List.take_succ_eq_append_getElem hj]
  by_cases q : i < j
  · rw [List.eraseIdx_append_of_lt_length (by rw [List.length_take]; omega)]
  · rw [List.eraseIdx_of_length_le (by rw [List.length_append, List.length_take]; simp; omega), List.eraseIdx_of_length_le (by rw [List.length_take]; omega)]
theorem er_end {α : Type} (l : List α) (i : Nat) : er l i l.length = l.eraseIdx i := by unfold er; rw [List.take_length]
theorem er_le {α : Type} (l : List α) (i j : Nat) : (er l i j).length ≤ l.length := by
  unfold er
  have h1 := List.length_eraseIdx_le (l.take j) i
  have h2 := List.length_take_le' j l
  omega
theorem er_len {α β : Type} (l : List α) (k : List β) (i j : Nat) (h : l.length = k.length) : (er l i j).length = (er k i j).length := by
  unfold er; rw [List.length_eraseIdx, List.length_eraseIdx, List.length_take, List.length_take, h]
theorem erase_mem {α : Type} {l : List α} {i : Nat} {x : α} (h : x ∈ l.eraseIdx i) : x ∈ l := List.mem_of_mem_eraseIdx h
theorem FlAt.erase {w w' : World} {v v' : Value} {vs : List Value} {ps : List Pk} (h : FlAt w v vs ps) (i : Nat) (hb : Below w.heap.size w w') (hr : w'.ownsRow w.heap.size 49 3 v' (ps.eraseIdx i).length (packV (ps.eraseIdx i) (vs.eraseIdx i))) : FlAt w' v' (vs.eraseIdx i) (ps.eraseIdx i) := by
  refine ⟨by rw [List.length_eraseIdx, List.length_eraseIdx, h.len], ownsRow_base hr (Nat.zero_le _), fun j x p hx hp => ?_, fun x hx g hg => Nat.lt_of_lt_of_le (h.low x (erase_mem hx) g hg) hb.size, fun x hx g hg e => ?_⟩
  · rw [List.getElem?_eraseIdx] at hx hp
    have hm : ∃ k : Nat, vs[k]? = some x ∧ ps[k]? = some p := by
      split at hx
      · rename_i q
        rw [if_pos q] at hp
        exact ⟨j, hx, hp⟩
      · rename_i q
        rw [if_neg q] at hp
        exact ⟨j + 1, hx, hp⟩
    obtain ⟨k, k1, k2⟩ := hm
    exact (h.each k x p k1 k2).keepS hb.size (fun g hg => hb.block g (h.low x (List.mem_of_getElem? k1) g hg))
  · have a := h.low x (erase_mem hx) g hg
    have c := (hr.lt g e).1
    omega
theorem SesAt.removed {w wr w' : World} {b n : Nat} {C : Srv.Cf} {cl : Nat → Cli.Cl} {s : Sn} {m : SM} (h : SesAt w b n C cl s m) (i : Nat) {v' : Value} (hb : Below w.heap.size w wr) (hr : wr.ownsRow w.heap.size 49 3 v' (s.fl.eraseIdx i).length (packV (s.fl.eraseIdx i) (m.vs.eraseIdx i))) (hw' : w' = wr.setCell ⟨b, 77, none⟩ v') :
    ∃ m', SesTook w w' b n C cl { s with fl := s.fl.eraseIdx i } m m' := by
  have hf := h.fl.erase i hb hr
  have R := h.turnF (Chg.of_below hb) hf hw' (fun x hx => .inr (hr.lt x hx).1) (fun y hy x hx => ⟨fun e => h.ap x (.inr (.inr ⟨y, erase_mem hy, hx⟩)) (.inl e), fun e => h.ap x (.inr (.inr ⟨y, erase_mem hy, hx⟩)) (.inr (.inl e))⟩)
  obtain ⟨r1, r2, r3, r4⟩ := R
  refine ⟨_, r1, r2, r3, fun x hx => ?_⟩
  rcases r4 x hx with k | k | ⟨y, hy, k⟩
  · exact .inl k
  · exact .inr k
  · exact .inl (.inr (.inr (.inr ⟨y, erase_mem hy, k⟩)))
set_option maxHeartbeats 2000000 in
set_option maxRecDepth 100000 in
theorem remove_calls (b n i : Nat) (C : Srv.Cf) (cl : Nat → Cli.Cl) (s : Sn) (m : SM) (w : World) (h : SesAt w b n C cl s m) (hi : i < s.fl.length) (hlen : s.fl.length ≤ 2000) :
    Calls Tryz.prog 131 #[.pointer (some ⟨b, 0, none⟩), .int .i64 (i : Int)] w fun e w' => e = .returned (.tuple #[]) ∧ ∃ m', SesTook w w' b n C cl { s with fl := s.fl.eraseIdx i } m m' := by
  have c77 := h.c77
  have f77 := h.f77
  have hb := h.blt
  obtain ⟨a, c, hv, hkc, hcm, hel⟩ := h.fl.view
  rw [hv] at c77
  have HEL := hideG hel
  have HR := hideG (fun (wr w' : World) (v' : Value) hb hr hw' => h.removed (wr := wr) (w' := w') (v' := v') i hb hr hw')
  have HLEN := hideG h.fl.len
  obtain ⟨i1, hi1, hy0, hy1, hy2⟩ := info_parts infoPk
  obtain ⟨ps, hps⟩ : ∃ ps, ps = s.fl := ⟨_, rfl⟩
  obtain ⟨vs, hvs⟩ : ∃ vs, vs = m.vs := ⟨_, rfl⟩
  rw [← hps, ← hvs] at HR HEL HLEN
  rw [← hps] at c77 hkc hi hlen ⊢
  clear h hv hel hps hvs
  have HEND := hideG (And.intro (er_end ps i) (show er vs i ps.length = vs.eraseIdx i by rw [← HLEN.out]; exact er_end vs i))
  have HZ := hideG (And.intro (er_zero ps i) (er_zero vs i))
  have HSK := hideG (And.intro (er_skip ps i hi) (er_skip vs i (by rw [HLEN.out]; exact hi)))
  have HNX := hideG (fun j (hj : j < ps.length) (hne : j ≠ i) => And.intro (er_next ps i j hj hne) (er_next vs i j (by rw [HLEN.out]; exact hj) hne))
  have HEQ := hideG (fun j => er_len vs ps i j HLEN.out)
  have HLE := hideG (fun j => (show (er ps i j).length ≤ 2000 from Nat.le_trans (er_le ps i j) hlen))
  obtain ⟨k, hk⟩ : ∃ k, k = ps.length := ⟨_, rfl⟩
  rw [← hk] at c77 hkc hi hlen HEND
  have HK := hideG hk
  clear hk
  go_enter Tryz.func131, Tryz.ntmps131
  go_wp2_with fail
  go_loopw [4, 12] (fun r x wr => ∃ j : Nat, j ≤ k ∧ x = .int .i64 j ∧ wr.ownsRow w.heap.size 49 3 r (er ps i j).length (packV (er ps i j) (er vs i j)) ∧ Below w.heap.size w wr) (fun _ x _ => k - (intOf x).toNat)
  case atStart => exact ⟨0, Nat.zero_le _, rfl, by rw [HZ.out.1, HZ.out.2]; exact World.ownsRow_nil _ _ _ _, Below.refl _ _⟩
  case round =>
    obtain ⟨j, hj, rfl, hown, hbw⟩ := hrel
    have HO := hideG hown
    have HB := hideG hbw
    have sw := hbw.size
    obtain ⟨ar, cr, hvr⟩ := owns_form hown
    subst hvr
    clear hown hbw
    by_cases hlt : j < k
    · have hjp : j < ps.length := by rw [← HK.out]; exact hlt
      obtain ⟨g, y, hag, hgl, hyv, x0, x1, x2, hyb⟩ := HEL.out j _ (List.getElem?_eq_getElem hjp)
      subst hag
      obtain ⟨ay, cy, hyy, -⟩ := bytes_view hyb
      obtain ⟨nb, hnb⟩ : ∃ nb, nb = ps[j].2.2.length := ⟨_, rfl⟩
      rw [← hnb] at hyy
      have d0 := (HB.out.cell (p := ⟨g, j * 3, none⟩) hgl).trans x0
      have d1 := (HB.out.cell (p := ⟨g, j * 3 + 1, none⟩) hgl).trans x1
      have d2 := (HB.out.cell (p := ⟨g, j * 3 + 2, none⟩) hgl).trans x2
      have hgr : g < wr.heap.size := by omega
      have HYV := hideG hyv
      have HPJ := hideG (show ps[j]? = some ps[j] from List.getElem?_eq_getElem hjp)
      obtain ⟨p, hp⟩ : ∃ p, p = ps[j] := ⟨_, rfl⟩
      rw [← hp] at d0 d1 HPJ
      rw [hyy] at d2 HYV
      have HPE := hideG hp
      clear x0 x1 x2 hyv hyb hp hyy hnb
      have hj0 : (0 : Int) ≤ (j : Int) := by omega
      have hjk : (j : Int) < (k : Int) := by omega
      by_cases hji : j = i
      · have hne : ((j : Int) != (i : Int)) = false := by rw [hji]; simp
        have FIN := hideG (show ∀ ob, (wr.alloc ob).ownsRow w.heap.size 49 3 (.slice ar (er ps i j).length cr) (er ps i (j + 1)).length (packV (er ps i (j + 1)) (er vs i (j + 1))) ∧ Below w.heap.size w (wr.alloc ob) from fun ob => by
          have s1 : er ps i (j + 1) = er ps i j := by rw [hji]; exact HSK.out.1
          have s2 : er vs i (j + 1) = er vs i j := by rw [hji]; exact HSK.out.2
          rw [s1, s2]
          exact ⟨HO.out.alloc _, HB.out.alloc sw _⟩)
        clear hji
        go_wp2_with fail
        go_roundw
        case rel => exact ⟨j + 1, by omega, by go_num, (FIN.out _).1, (FIN.out _).2⟩
        case measure => simp [intOf]; omega
      · have hne : ((j : Int) != (i : Int)) = true := by simp; omega
        have hl1 := HLE.out j
        have NX := hideG (HNX.out j hjp hji)
        obtain ⟨nr, hnr⟩ : ∃ nr, nr = (er ps i j).length := ⟨_, rfl⟩
        rw [← hnr] at HO hl1 ⊢
        have HNR := hideG hnr
        clear hji hnr
        go_wp2_with (at_builtin; refine wpList_append_own _ rfl _ _ 41 rfl w.heap.size 49 i1 (.agg #[.int .i64 0, .int .i64 0, .slice none 0 0]) 3 40 Tryz.underlying41 hi1 hy0 hy1 hy2 rfl (by decide) _ _ _ rfl ((HO.out.alloc _).alloc _) ⟨wr.heap.size + 1, 0, none⟩ 1 1 [.int .i64 p.1, .int .i64 p.2.1, .slice ay nb cy] rfl rfl ?c1 ?c2 ?c3 ?c4 ?c5 ?_)
        case c1 => have := cell_three_new (wr.alloc (.cells #[.int .i64 p.1, .int .i64 p.2.1, .slice ay nb cy] 49)) (.int .i64 p.1) (.int .i64 p.2.1) (.slice ay nb cy) 49; simpa using this
        case c2 => intro u hu; simp at hu; rcases hu with rfl | rfl | rfl <;> rfl
        case c3 => unfold maxLen; omega
        case c4 => omega
        case c5 => simp; omega
        intro v' w4 hown' hgrow' _
        have hb4 := (((HB.out.alloc sw _).alloc (by simp; omega) _).grown hgrow' (by simp; omega) (fun y hy => (HO.out.lt y hy).1))
        have B4 := hideG hb4
        have O4 := hideG (show w4.ownsRow w.heap.size 49 3 v' (er ps i (j + 1)).length (packV (er ps i (j + 1)) (er vs i (j + 1))) by
          have e1 : vs[j]'(by rw [HLEN.out]; exact hjp) = .slice ay nb cy := by
            have := HYV.out
            rw [List.getElem?_eq_getElem (by rw [HLEN.out]; exact hjp)] at this
            exact Option.some.inj this
          rw [NX.out.1, NX.out.2, e1, ← HPE.out, packV_snoc _ _ _ _ (HEQ.out j), List.length_append, ← HNR.out]
          exact hown')
        obtain ⟨a5, c5, hv5⟩ := owns_form hown'
        subst hv5
        clear hown' hgrow' hb4
        go_wp2_with fail
        go_roundw
        case rel => exact ⟨j + 1, by omega, by go_num, O4.out, B4.out⟩
        case measure => simp [intOf]; omega
    · have ej : j = k := by omega
      subst ej
      have d77 : wr.cell? ⟨b, 77, none⟩ = some (.slice a j c) := (HB.out.cell (p := ⟨b, 77, none⟩) hb).trans c77
      have e77 : wr.frozen? ⟨b, 77, none⟩ = false := (HB.out.frozen (p := ⟨b, 77, none⟩) hb).trans f77
      have hb2 : b < wr.heap.size := by omega
      obtain ⟨w3, hw3⟩ : ∃ w3, w3 = wr.setCell ⟨b, 77, none⟩ (.slice ar (er ps i j).length cr) := ⟨_, rfl⟩
      have FIN := hideG (HR.out wr w3 _ HB.out (by have := HO.out; rw [HEND.out.1, HEND.out.2] at this; exact this) (by rw [hw3, HEND.out.1]))
      have HW3 := hideG hw3
      clear hw3
      go_wp2_with fail
      rw [← HW3.out]
      go_end0
      exact ⟨rfl, FIN.out⟩
end Go.Proofs.YtchideljndagjabGreat
namespace Go.Proofs.YtchideljndagjabGreat
open Go.ChangeShapes Go.WideShapes Go.ChangeAt Go.RowKit
set_option linter.unusedVariables false
set_option maxHeartbeats 1000000 in
set_option maxRecDepth 100000 in
theorem drop_yes (b n i : Nat) (C : Srv.Cf) (cl : Nat → Cli.Cl) (s : Sn) (m : SM) (w : World) (h : SesAt w b n C cl s m) (hi : i < s.fl.length) (hlen : s.fl.length ≤ 2000) :
    Calls Tryz.prog 66 #[.pointer (some ⟨b, 0, none⟩), .int .i64 (i : Int)] w fun e w' => e = .returned (.int .i64 0) ∧ ∃ m', SesTook w w' b n C cl { s with fl := s.fl.eraseIdx i } m m' := by
  have HC := hideG (isInFlight_calls b n C cl s m (i : Int) w h)
  rw [decide_eq_true (show (0 : Int) ≤ (i : Int) ∧ (i : Int) < (s.fl.length : Int) by omega)] at HC
  have HR := hideG (remove_calls b n i C cl s m w h hi hlen)
  clear h hi hlen
  go_enter Tryz.func66, Tryz.ntmps66
  go_wp2_with fail
  refine HC.out.mono ?_
  rintro e w1 ⟨rfl, hw1⟩
  rw [hw1]
  clear hw1
  go_wp2_with fail
  refine HR.out.mono ?_
  rintro e w2 ⟨rfl, hq⟩
  have FIN := hideG hq
  clear hq
  go_wp2_with fail
  go_ret
  exact ⟨rfl, FIN.out⟩
theorem drop_no (b n : Nat) (C : Srv.Cf) (cl : Nat → Cli.Cl) (s : Sn) (m : SM) (u : Int) (w : World) (h : SesAt w b n C cl s m) (hu : ¬ (0 ≤ u ∧ u < (s.fl.length : Int))) :
    Calls Tryz.prog 66 #[.pointer (some ⟨b, 0, none⟩), .int .i64 u] w fun e w' => e = .returned (.int .i64 7) ∧ w' = w := by
  have HC := hideG (isInFlight_calls b n C cl s m u w h)
  rw [decide_eq_false hu] at HC
  clear h hu
  go_enter Tryz.func66, Tryz.ntmps66
  go_wp2_with fail
  refine HC.out.mono ?_
  rintro e w1 ⟨rfl, hw1⟩
  rw [hw1]
  clear hw1
  go_wp2_with fail
  go_ret
  exact ⟨rfl, rfl⟩
theorem deliver_no (b n : Nat) (C : Srv.Cf) (cl : Nat → Cli.Cl) (s : Sn) (m : SM) (u : Int) (w : World) (h : SesAt w b n C cl s m) (hu : ¬ (0 ≤ u ∧ u < (s.fl.length : Int))) :
    Calls Tryz.prog 65 #[.pointer (some ⟨b, 0, none⟩), .int .i64 u] w fun e w' => e = .returned (.int .i64 7) ∧ w' = w := by
  have HC := hideG (isInFlight_calls b n C cl s m u w h)
  rw [decide_eq_false hu] at HC
  clear h hu
  go_enter Tryz.func65, Tryz.ntmps65
  go_wp2_with fail
  refine HC.out.mono ?_
  rintro e w1 ⟨rfl, hw1⟩
  rw [hw1]
  clear hw1
  go_wp2_with fail
  go_ret
  exact ⟨rfl, rfl⟩
theorem SnOk.less {C : Srv.Cf} {cl : Nat → Cli.Cl} {n : Nat} {s : Sn} (h : SnOk C cl n s) (i : Nat) : SnOk C cl n { s with fl := s.fl.eraseIdx i } :=
  { h with fl := by have h1 := List.length_eraseIdx_le s.fl i; have h2 := h.fl; show (s.fl.eraseIdx i).length + (remA s.cs n + remS s.q) ≤ 300; omega
           flb := fun p hp => h.flb p (erase_mem hp) }
set_option maxHeartbeats 1000000 in
set_option maxRecDepth 100000 in
theorem deliver_yes (b n i : Nat) (C : Srv.Cf) (cl : Nat → Cli.Cl) (s : Sn) (m : SM) (p : Pk) (w : World) (h : SesAt w b n C cl s m) (ok : SnOk C cl n s) (hp : s.fl[i]? = some p) :
    Calls Tryz.prog 65 #[.pointer (some ⟨b, 0, none⟩), .int .i64 (i : Int)] w fun e w' => e = .returned (.int .i64 0) ∧ ∃ m', SesTook w w' b n C cl (rcv C cl n { s with fl := s.fl.eraseIdx i } p.2.1 p.2.2) m m' := by
  have hi : i < s.fl.length := (List.getElem?_eq_some_iff.1 hp).1
  have HC := hideG (isInFlight_calls b n C cl s m (i : Int) w h)
  rw [decide_eq_true (show (0 : Int) ≤ (i : Int) ∧ (i : Int) < (s.fl.length : Int) by omega)] at HC
  have c77 := h.c77
  have hb := h.blt
  obtain ⟨a, c, hv, hkc, hcm, hel⟩ := h.fl.view
  rw [hv] at c77
  obtain ⟨g, y, rfl, hgl, hyv, x0, x1, x2, hyb⟩ := hel i p hp
  have hym := List.mem_of_getElem? hyv
  obtain ⟨ay, cy, hyy, -⟩ := bytes_view hyb
  obtain ⟨W1, hW1⟩ : ∃ W1, W1 = w.alloc (.cells #[.int .i64 p.1, .int .i64 p.2.1, y] 49) := ⟨_, rfl⟩
  have b1 : Below w.heap.size w W1 := by rw [hW1]; exact (Below.refl _ _).alloc (Nat.le_refl _) _
  have z1 : w.heap.size < W1.heap.size := by rw [hW1]; simp
  have r1 : W1.heap[w.heap.size]? = some (.cells #[.int .i64 p.1, .int .i64 p.2.1, y] 49 (0, 0)) := by rw [hW1]; exact heap_alloc_new w _
  have h1 := h.below b1
  have HR := hideG (remove_calls b n i C cl s m W1 h1 hi (by have := ok.fl; omega))
  have HRC := hideG (fun (w2 : World) (m1 : SM) (t : SesTook W1 w2 b n C cl { s with fl := s.fl.eraseIdx i } m m1) => (show (w2.cell? ⟨w.heap.size, 1, none⟩ = some (.int .i64 p.2.1) ∧ w2.cell? ⟨w.heap.size, 2, none⟩ = some y) ∧ Calls Tryz.prog 76 #[.pointer (some ⟨b, 0, none⟩), .int .i64 p.2.1, y] w2 fun e w' => e = .returned (.tuple #[]) ∧ ∃ m', SesTook w w' b n C cl (rcv C cl n { s with fl := s.fl.eraseIdx i } p.2.1 p.2.2) m m' from by
    have e2 : w2.heap[w.heap.size]? = some (.cells #[.int .i64 p.1, .int .i64 p.2.1, y] 49 (0, 0)) := by
      rw [t.chg.block w.heap.size z1 (fun e => by have := h.low (.inl e : SesFoot b n m _); omega)]; exact r1
    refine ⟨⟨(cell_of_row w2 w.heap.size 1 _ _ (0, 0) e2).trans rfl, (cell_of_row w2 w.heap.size 2 _ _ (0, 0) e2).trans rfl⟩, ?_⟩
    have hb2 : BytesAt w2 y p.2.2 := (hyb.below b1).keepS t.chg.size (fun x hx => t.chg.block x (by have := h.fl.low y hym x hx; omega) (fun e => h.ap x (.inr (.inr ⟨y, hym, hx⟩)) e))
    refine (receive_calls b n C cl _ m1 p.2.1 y p.2.2 w2 t.ses (ok.less i) hb2).mono ?_
    rintro e w' ⟨rfl, m', t'⟩
    exact ⟨rfl, m', (t.trans t').after b1⟩))
  rw [hyy] at x2 hW1 HRC
  have HW1 := hideG hW1
  have hbW : b < W1.heap.size := by omega
  have hi0 : (0 : Int) ≤ (i : Int) := by omega
  have hik : (i : Int) < (s.fl.length : Int) := by omega
  clear h ok hp hel hyv hyb hym hyy hv h1 r1 b1 hW1
  generalize s.fl.length = k at *
  generalize p.2.2.length = nb at *
  go_enter Tryz.func65, Tryz.ntmps65
  go_wp2_with fail
  refine HC.out.mono ?_
  rintro e w1 ⟨rfl, hw1⟩
  rw [hw1]
  clear hw1
  go_upto_region 4 with fail
  rw [← HW1.out]
  go_wp2_with fail
  refine HR.out.mono ?_
  rintro e w2 ⟨rfl, m1, t⟩
  obtain ⟨⟨q1, q2⟩, hcall⟩ := HRC.out w2 m1 t
  have HCA := hideG hcall
  have hz : w.heap.size < w2.heap.size := by have := t.chg.size; omega
  clear t hcall c77 x0 x1 x2
  go_wp2_with fail
  refine HCA.out.mono ?_
  rintro e w3 ⟨rfl, hq⟩
  have FIN := hideG hq
  clear hq
  go_wp2_with fail
  go_ret
  exact ⟨rfl, FIN.out⟩
set_option maxHeartbeats 2000000 in
set_option maxRecDepth 100000 in
theorem soutc_calls (b : Nat) (S : SS) (ls us : List Int) (w : World) (h : SSAt w b S) (hs : ListAt w S.set ls) (hu : ListAt w S.sum us) (l1 : ls.length ≤ 12) (l2 : us.length ≤ 12) :
    Calls Tryz.prog 38 #[.pointer (some ⟨b, 0, none⟩)] w fun e w' => ∃ va vb, e = .returned (.agg #[.int .i64 S.st, .int .i64 S.ro, va, vb]) ∧ Told w w' va vb ls us := by
  obtain ⟨W0, hW0⟩ : ∃ W0, W0 = w.alloc (.cells #[.int .i64 0, .int .i64 0, .slice none 0 0, .slice none 0 0] 35) := ⟨_, rfl⟩
  have b0 : Below w.heap.size w W0 := by rw [hW0]; exact (Below.refl _ _).alloc (Nat.le_refl _) _
  have R0 := hideG (show W0.heap[w.heap.size]? = some (.cells #[.int .i64 0, .int .i64 0, .slice none 0 0, .slice none 0 0] 35 (0, 0)) by rw [hW0]; exact heap_alloc_new w _)
  have z0 : w.heap.size < W0.heap.size := by rw [hW0]; simp
  have H := hideG (sOutcome_calls b S ls us W0 (h.below b0) (hs.below b0) (hu.below b0) l1 l2)
  have B0 := hideG b0
  have HW0 := hideG hW0
  clear h hs hu l1 l2 b0 hW0
  generalize S.st = st at *
  generalize S.ro = ro at *
  go_enter Tryz.func38, Tryz.ntmps38
  go_upto_region 1 with fail
  rw [← HW0.out]
  go_wp2_with fail
  refine H.out.mono ?_
  rintro e w1 ⟨va, vb, rfl, ht⟩
  obtain ⟨t1, t2, t3, t4⟩ := ht
  obtain ⟨a3, k3, hv3⟩ := owns_form t1
  obtain ⟨a4, k4, hv4⟩ := owns_form t2
  have R1 := hideG ((t4.block _ z0).trans R0.out)
  obtain ⟨⟨x0, x1, x2, x3⟩, xf⟩ := cells_four R1.out
  have R6 := hideG (row_four R1.out (.int .i64 st) (.int .i64 ro) va vb)
  have B1 := B0.out.trans (t4.mono B0.out.size)
  have c6 := chg_four w1 w.heap.size (.int .i64 st) (.int .i64 ro) va vb
  have FIN := hideG (show Told w ((((w1.setCell ⟨w.heap.size, 0, none⟩ (.int .i64 st)).setCell ⟨w.heap.size, 1, none⟩ (.int .i64 ro)).setCell ⟨w.heap.size, 2, none⟩ va).setCell ⟨w.heap.size, 3, none⟩ vb) va vb ls us from
    ⟨ownsRow_base (ownsRow_chg t1 c6 (fun x hx e => by have := (t1.lt x hx).1; omega)) (by omega),
     ownsRow_base (ownsRow_chg t2 c6 (fun x hx e => by have := (t2.lt x hx).1; omega)) (by omega), t3,
     (((B1.setCell (p := ⟨w.heap.size, 0, none⟩) (Nat.le_refl _) _).setCell (p := ⟨w.heap.size, 1, none⟩) (Nat.le_refl _) _).setCell (p := ⟨w.heap.size, 2, none⟩) (Nat.le_refl _) _).setCell (p := ⟨w.heap.size, 3, none⟩) (Nat.le_refl _) _⟩)
  clear t1 t2 t3 t4 B1 c6
  rw [hv3, hv4] at R6 FIN ⊢
  clear hv3 hv4
  go_wp2_with fail
  refine bodyPost_ret (results_cell_row rfl _ _ w.heap.size 35 #[.int .i64 st, .int .i64 ro, _, _] (0, 0) _ rfl R6.out Tryz.underlying35 rfl size_out4) rfl ?_
  exact ⟨_, _, rfl, FIN.out⟩
theorem soutcome_calls (b n : Nat) (C : Srv.Cf) (cl : Nat → Cli.Cl) (s : Sn) (m : SM) (w : World) (h : SesAt w b n C cl s m) (ok : SnOk C cl n s) :
    Calls Tryz.prog 38 #[.pointer (some ⟨b, 0, none⟩)] w fun e w' => ∃ va vb, e = .returned (.agg #[.int .i64 s.q.out.1, .int .i64 s.q.out.2.1, va, vb]) ∧ Told w w' va vb s.q.out.2.2.1 s.q.out.2.2.2 := by
  have := soutc_calls b m.S _ _ w h.srv.srv.at_ h.srv.srv.set h.srv.srv.sum ok.bd.1 ok.bd.2
  rw [h.srv.srv.st, h.srv.srv.ro] at this
  exact this
end Go.Proofs.YtchideljndagjabGreat
namespace Go.Proofs.YtchideljndagjabGreat
open Go.ChangeShapes Go.WideShapes Go.ChangeAt Go.RowKit
set_option linter.unusedVariables false
theorem packV_app : ∀ (ps : List Pk) (vs : List Value) (qs : List Pk) (ys : List Value), vs.length = ps.length → packV (ps ++ qs) (vs ++ ys) = packV ps vs ++ packV qs ys
  | [], [], qs, ys, _ => rfl
  | p :: ps, v :: vs, qs, ys, h => by
    show _ :: _ :: _ :: packV (ps ++ qs) (vs ++ ys) = _
    rw [packV_app ps vs qs ys (by simpa using h)]; rfl
  | [], v :: vs, qs, ys, h => by simp at h
  | p :: ps, [], qs, ys, h => by simp at h
theorem packV_one : ∀ (ps : List Pk) (vs : List Value), (∀ v ∈ vs, v.oneCell' = true) → ∀ u ∈ packV ps vs, u.oneCell' = true
  | [], vs, _, u, hu => by cases vs <;> cases hu
  | p :: ps, [], _, u, hu => by cases hu
  | p :: ps, v :: vs, h, u, hu => by
    have hu' : u ∈ (Value.int .i64 p.1 :: Value.int .i64 p.2.1 :: v :: packV ps vs) := hu
    simp only [List.mem_cons] at hu'
    rcases hu' with rfl | rfl | rfl | hu'
    · rfl
    · rfl
    · exact h u List.mem_cons_self
    · exact packV_one ps vs (fun x hx => h x (List.mem_cons_of_mem _ hx)) u hu'
theorem run_append_zero {P : Program} {w : World} (base : Nat) (t ty e : TypeId) (i : TypeInfo) (size : Nat) (ht : P.underlying t = some (.slice e)) (hi : P.info? e = some i) (v : Value) (n : Nat) (xs : List Value) (hown : w.ownsRow base e size v n xs) (ad : Addr) (c : Nat) :
    (Builtin.append_ #[t, t] ty #[v, .slice (some ad) 0 c]).run P w = .ok v w := by
  rcases hown.2 with ⟨rfl, rfl⟩ | ⟨g, cap, cur, rfl, _, _, hnc, _⟩
  · simp [Builtin.append_, run_underlying ht, sizeOf, typeInfo, hi, Builtin.lenOf, Builtin.firstCells, loadCells, loadCellsFrom]
  · simp [Builtin.append_, run_underlying ht, sizeOf, typeInfo, hi, Builtin.lenOf, Builtin.firstCells, loadCells, loadCellsFrom, hnc, storeCells]
theorem wpList_append_zero {P : Program} {w : World} {ops : Array Oper} {rest : List Oper} {o : Oper} {a : Act} {Q : Exit → Act → World → Prop} (hgd : o.guard = none) (s x : Operand) (t : TypeId)
    (ho : o.op = .call { callee := .builtin .append, args := #[s, x], argTypes := #[t, t] })
    (base : Nat) (e : TypeId) (i : TypeInfo) (size : Nat) (ht : P.underlying t = some (.slice e)) (hi : P.info? e = some i)
    (v : Value) (n : Nat) (xs : List Value) (hs : a.eval s = v) (hown : w.ownsRow base e size v n xs) (d : Option Addr) (c : Nat) (hd : d = none → c = 0) (hx : a.eval x = .slice d 0 c)
    (h : wpList P ops Q rest (a.put o.dst v) w) : wpList P ops Q (o :: rest) a w := by
  refine wpList_plain hgd fun K hK => ?_
  have hrun : (Builtin.append_ #[t, t] o.type #[v, .slice d 0 c]).run P w = .ok v w := by
    cases d with
    | none => rw [hd rfl]; exact run_append_owned_none (P := P) (w := w) base t o.type e i size ht hi v n xs hown
    | some ad => exact run_append_zero base t o.type e i size ht hi v n xs hown ad c
  unfold Oper.wp
  simp [execOp, ho, resolve, invoke, builtin, hs, hx, hrun, Result.andThen]
  exact hK _ _ h
theorem FlAt.app {w w' : World} {v v' : Value} {vs ys : List Value} {ps qs : List Pk} (h : FlAt w v vs ps) (hl : ys.length = qs.length) (hy : ∀ (i : Nat) (x : Value) (p : Pk), ys[i]? = some x → qs[i]? = some p → BytesAt w x p.2.2) (hlow : ∀ y ∈ ys, ∀ g, y.ownBlock = some g → g < w.heap.size ∧ v.ownBlock ≠ some g)
    (hr : w'.ownsRow 0 49 3 v' (ps.length + qs.length) (packV ps vs ++ packV qs ys)) (hc : Chg (fun x => v.ownBlock = some x) w w') (hv : ∀ x, v'.ownBlock = some x → v.ownBlock = some x ∨ w.heap.size ≤ x) : FlAt w' v' (vs ++ ys) (ps ++ qs) := by
  have z := hc.size
  have ap : ∀ u ∈ vs ++ ys, ∀ g, u.ownBlock = some g → g < w.heap.size ∧ v.ownBlock ≠ some g := fun u hu g hg => by
    rcases List.mem_append.1 hu with hu | hu
    · exact ⟨h.low u hu g hg, h.apart u hu g hg⟩
    · exact hlow u hu g hg
  have each0 : ∀ (i : Nat) (x : Value) (q : Pk), (vs ++ ys)[i]? = some x → (ps ++ qs)[i]? = some q → BytesAt w x q.2.2 := fun i x q hx hq => by
    by_cases hi : i < ps.length
    · rw [List.getElem?_append_left (by rw [h.len]; exact hi)] at hx
      rw [List.getElem?_append_left hi] at hq
      exact h.each i x q hx hq
    · rw [List.getElem?_append_right (by rw [h.len]; omega), h.len] at hx
      rw [List.getElem?_append_right (by omega)] at hq
      exact hy _ x q hx hq
  refine ⟨by rw [List.length_append, List.length_append, h.len, hl], ?_, fun i x q hx hq => ?_, fun u hu g hg => Nat.lt_of_lt_of_le (ap u hu g hg).1 z, fun u hu g hg e => ?_⟩
  · rw [packV_app ps vs qs ys h.len, List.length_append]; exact hr
  · exact (each0 i x q hx hq).keepS z (fun g hg => hc.block g (ap x (List.mem_of_getElem? hx) g hg).1 (ap x (List.mem_of_getElem? hx) g hg).2)
  · have a := ap u hu g hg
    rcases hv g e with k | k
    · exact a.2 k
    · omega
theorem SesAt.ticked {w w1 w2 w3 : World} {b n : Nat} {C : Srv.Cf} {cl : Nat → Cli.Cl} {s : Sn} {m : SM} (h : SesAt w b n C cl s m) (hq : ∀ p ∈ tickK C s.q, Frm.isB p.2.2) {S' : SS} (t : STook w w1 b C (Srv.tickS C s.q) m.S S') {v fv' : Value} {ys : List Value} (hp : Packs w1 w.heap.size v ys (tickK C s.q))
    (hr : w2.ownsRow 0 49 3 fv' (s.fl.length + (tickK C s.q).length) (packV s.fl m.vs ++ packV (tickK C s.q) ys)) (hc : Chg (fun x => m.fv.ownBlock = some x) w1 w2) (hv : ∀ x, fv'.ownBlock = some x → m.fv.ownBlock = some x ∨ w1.heap.size ≤ x) (hw3 : w3 = w2.setCell ⟨b, 77, none⟩ fv') :
    ∃ m', SesTook w w3 b n C cl (tickN C s) m m' := by
  have T := h.turnS t
  have z1 := t.chg.size
  have pl := hp.low
  have ylow : ∀ y ∈ ys, ∀ g, y.ownBlock = some g → w.heap.size ≤ g ∧ g < w1.heap.size := fun y hy g hg => pl g (.inr ⟨y, hy, hg⟩)
  have ownlt : ∀ x, SesOwn b m x → x < w.heap.size := fun x hx => h.low (.inl hx)
  have hf := T.ses.fl.app hp.len (fun i x p hx hp' => bytesAt_of_owns (hp.each i x p hx hp') (hq p (List.mem_of_getElem? hp'))) (fun y hy g hg => ⟨(ylow y hy g hg).2, fun e => by
    have a := ylow y hy g hg
    have c := ownlt g (.inr (.inr e))
    omega⟩) hr hc hv
  have R := T.ses.turnF (w' := w3) hc hf hw3 hv (fun y hy x hx => ?_)
  · obtain ⟨r1, r2, r3, r4⟩ := R
    refine ⟨_, r1, T.chg.trans r2 (fun x e hx => (T.own x e).elim id (fun q => by omega)), fun x hx => ?_, fun x hx => ?_⟩
    · rcases r3 x hx with k | k
      · exact T.own x k
      · exact .inr (by omega)
    · rcases r4 x hx with k | k | ⟨y, hy, k⟩
      · exact T.foot x k
      · exact .inr (by omega)
      · rcases List.mem_append.1 hy with hy | hy
        · exact .inl (.inr (.inr (.inr ⟨y, hy, k⟩)))
        · exact .inr (ylow y hy x k).1
  · rcases List.mem_append.1 hy with hy | hy
    · exact ⟨fun e => h.ap x (.inr (.inr ⟨y, hy, hx⟩)) (.inl e), fun e => h.ap x (.inr (.inr ⟨y, hy, hx⟩)) (.inr (.inl e))⟩
    · have a := ylow y hy x hx
      have c1 := ownlt b (.inl rfl)
      have c2 := ownlt m.cb (.inr (.inl rfl))
      exact ⟨by omega, fun e => by have e' : x = m.cb := e; omega⟩
theorem tick_isB' {C : Srv.Cf} {q : Srv.Sv} (hc : Srv.GoodC C) (hs : q.out.1 = 0 → Srv.SOk C q) : ∀ p ∈ tickK C q, Frm.isB p.2.2 := by
  intro p hp
  unfold tickK Srv.tickP at hp
  by_cases h : (Srv.pend q && (Srv.due C q && (!Srv.few C q && decide (q.rd ≠ 3)))) = true
  · rw [if_pos h] at hp
    rw [Bool.and_eq_true, Bool.and_eq_true, Bool.and_eq_true] at h
    obtain ⟨h1, h2, h3, h4⟩ := h
    have ok := hs (Srv.pend_iff.1 h1)
    have hr : q.rd ≠ 3 := of_decide_eq_true h4
    have hf : ¬ ((Srv.sizeR (q.G q.rd) : Int) < C.T) := by
      unfold Srv.few at h3; simpa using h3
    have ht := hc.t
    have hrd := ok.rd
    obtain ⟨x, hx, rfl⟩ := List.mem_map.1 hp
    obtain ⟨u, hu, rfl⟩ := List.mem_map.1 hx
    exact encF_isB (Srv.sends_ok ok.good q.rd u (by omega) (by omega))
  · rw [if_neg h] at hp; cases hp
theorem tick_len' {C : Srv.Cf} {q : Srv.Sv} : (tickK C q).length ≤ 13 := by
  unfold tickK Srv.tickP
  rw [List.length_map]
  split
  · rw [List.length_map]; exact Srv.lstN_le _ _
  · exact Nat.zero_le _
set_option maxHeartbeats 2000000 in
set_option maxRecDepth 100000 in
theorem stick_calls (b n : Nat) (C : Srv.Cf) (cl : Nat → Cli.Cl) (s : Sn) (m : SM) (w : World) (h : SesAt w b n C cl s m) (ok : SnOk C cl n s) :
    Calls Tryz.prog 68 #[.pointer (some ⟨b, 0, none⟩)] w fun e w' => e = .returned (.tuple #[]) ∧ ∃ m', SesTook w w' b n C cl (tickN C s) m m' := by
  have HT := hideG (sTick_calls b C s.q m.S w ok.gc h.srv ok.sok)
  have HB := hideG (tick_isB' (C := C) (q := s.q) ok.gc ok.sok)
  have HS := hideG (fun (w1 w2 w3 : World) (S' : SS) (v fv' : Value) (ys : List Value) t hp hr hc hv hw3 => h.ticked (w1 := w1) (w2 := w2) (w3 := w3) (S' := S') (v := v) (fv' := fv') (ys := ys) HB.out t hp hr hc hv hw3)
  have HTS := hideG (fun (w1 : World) (S' : SS) (t : STook w w1 b C (Srv.tickS C s.q) m.S S') => (h.turnS t).ses)
  have hb := h.blt
  have hl := ok.fl
  have hk := tick_len' (C := C) (q := s.q)
  have FVA := hideG (And.intro h.own.2.1 (fun x (hx : m.fv.ownBlock = some x) => h.low (.inl (.inr (.inr hx)) : SesFoot b n m x)))
  obtain ⟨i1, hi1, hy0, hy1, hy2⟩ := info_parts infoPk
  obtain ⟨a, c, hv, -⟩ := h.fl.view
  clear h ok
  obtain ⟨qs, hqs⟩ : ∃ qs, qs = tickK C s.q := ⟨_, rfl⟩
  have e0 : ∀ w1 v, Ticked w w1 b C s.q m.S v → ∃ S' ys, STook w w1 b C (Srv.tickS C s.q) m.S S' ∧ Packs w1 w.heap.size v ys qs := fun w1 v ⟨S', ys, t, p, _⟩ => ⟨S', ys, t, by rw [hqs]; exact p⟩
  have HE0 := hideG e0
  rw [← hqs] at HS hk
  clear hqs e0
  go_enter Tryz.func68, Tryz.ntmps68
  go_wp2_with fail
  refine HT.out.mono ?_
  rintro e w1 ⟨v, rfl, htk⟩
  obtain ⟨S', ys, t, hp⟩ := HE0.out w1 v htk
  have z1 := t.chg.size
  have SE := hideG (HTS.out w1 S' t)
  have c77 := SE.out.c77
  have f77 := SE.out.f77
  have ROW := hideG SE.out.fl.row
  change w1.cell? _ = some m.fv at c77
  rw [hv] at c77
  have HP := hideG hp
  have HTT := hideG t
  have hbl1 : b < w1.heap.size := by omega
  obtain ⟨va, vc, hvv⟩ := owns_form hp.row
  have hrow := hp.row
  have hcells : ∀ (g : Nat), va = some ⟨g, 0, none⟩ → ∀ j u, (packV qs ys)[j]? = some u → w1.cell? ((⟨g, 0, none⟩ : Addr).add j) = some u := fun g hg j u hu => by
    have hr := hrow
    rw [hvv, hg] at hr
    have hl' : (packV qs ys).length = qs.length * 3 := packV_length qs ys hp.len
    have hj : j < qs.length * 3 := by rw [← hl']; exact (List.getElem?_eq_some_iff.1 hu).1
    have hadd : (⟨g, 0, none⟩ : Addr).add j = ⟨g, j, none⟩ := by unfold Addr.add; split <;> simp_all
    rw [hadd, hr.cellAt j hj]; exact hu
  have hones : ∀ u ∈ packV qs ys, u.oneCell' = true := packV_one qs ys (fun y hy => by
    obtain ⟨i, hi, e⟩ := List.getElem_of_mem hy
    obtain ⟨a', c', e'⟩ := owns_form (hp.each i y (qs[i]'(by rw [← hp.len]; exact hi)) (by rw [List.getElem?_eq_getElem hi, e]) (List.getElem?_eq_getElem _))
    rw [e']; rfl)
  have hpl : (packV qs ys).length = qs.length * 3 := packV_length qs ys hp.len
  have hvn : qs.length = 0 → va = none → vc = 0 := fun e1 e2 => by
    rcases hrow.2 with ⟨e3, _⟩ | ⟨g, cap, cur, e3, _⟩
    · rw [hvv] at e3; injection e3 with _ _ q
    · rw [hvv, e2] at e3; injection e3 with q; cases q
  have hvg : 0 < qs.length → ∃ g, va = some ⟨g, 0, none⟩ := fun e1 => by
    rcases hrow.2 with ⟨e3, hn⟩ | ⟨g, cap, cur, e3, _⟩
    · omega
    · rw [hvv] at e3; injection e3 with q; exact ⟨g, q⟩
  have HCE := hideG hcells
  have HON := hideG hones
  have HPL := hideG hpl
  have HVN := hideG hvn
  have HVG := hideG hvg
  have HVV := hideG hvv
  have HV := hideG hv
  rw [hvv]
  obtain ⟨k, hkk⟩ : ∃ k, k = s.fl.length := ⟨_, rfl⟩
  obtain ⟨nq, hnq⟩ : ∃ nq, nq = qs.length := ⟨_, rfl⟩
  have HNQ := hideG hnq
  have HKK := hideG hkk
  rw [← hkk] at c77 hl
  rw [← hnq] at hk ⊢
  clear htk t hp hrow hcells hones hpl hvn hvg hvv hv hnq hkk
  by_cases hq0 : nq = 0
  · subst hq0
    have FIN := hideG (fun (w3 : World) (hw3 : w3 = w1.setCell ⟨b, 77, none⟩ m.fv) => HS.out w1 w1 w3 S' v m.fv ys HTT.out HP.out (by
      have e : qs = [] := List.eq_nil_of_length_eq_zero HNQ.out.symm
      have e2 : ys = [] := List.eq_nil_of_length_eq_zero (by rw [HP.out.len, e]; rfl)
      rw [e, e2]
      show w1.ownsRow 0 49 3 m.fv (s.fl.length + 0) (packV s.fl m.vs ++ [])
      rw [List.append_nil]; exact ROW.out) (Chg.refl _ _) (fun x hx => .inl hx) hw3)
    have R2 := hideG (show w1.ownsRow 0 49 3 (.slice a k c) k (packV s.fl m.vs) by
      have := ROW.out
      change w1.ownsRow 0 49 3 m.fv s.fl.length (packV s.fl m.vs) at this
      rw [HV.out, ← HKK.out] at this; exact this)
    rw [HV.out, ← HKK.out] at FIN
    go_wp2_with (at_builtin; refine wpList_append_zero rfl _ _ 41 rfl 0 49 i1 3 Tryz.underlying41 hi1 (.slice a k c) k _ rfl R2.out va vc (HVN.out HNQ.out.symm) rfl ?_)
    go_wp2_with fail
    go_end0
    exact ⟨rfl, FIN.out _ rfl⟩
  · obtain ⟨g, hg⟩ := HVG.out (by have := HNQ.out; omega)
    subst hg
    have hq1 : 0 < nq := by omega
    have R2 := hideG (show w1.ownsRow 0 49 3 (.slice a k c) k (packV s.fl m.vs) by
      have := ROW.out
      change w1.ownsRow 0 49 3 m.fv s.fl.length (packV s.fl m.vs) at this
      rw [HV.out, ← HKK.out] at this; exact this)
    have hNB : (Value.slice a k c).ownBlock ≠ some b := by have := FVA.out.1; rw [HV.out, ← HKK.out] at this; exact this
    have NB := hideG hNB
    clear hNB
    go_wp2_with (at_builtin; refine wpList_append_lies _ rfl _ _ 41 rfl 0 49 i1 (.agg #[.int .i64 0, .int .i64 0, .slice none 0 0]) 3 40 Tryz.underlying41 hi1 hy0 hy1 hy2 rfl (by decide) (.slice a k c) k (packV s.fl m.vs) rfl R2.out ⟨g, 0, none⟩ nq vc (packV qs ys) rfl (by rw [HPL.out, ← HNQ.out]) (HCE.out g rfl) HON.out hq1 (by unfold maxLen; omega) (by omega) (Nat.zero_le _) _ rfl ?_)
    intro g2 cap w2 hr hgr hat hlt
    have d77 : w2.cell? ⟨b, 77, none⟩ = some (.slice a k c) := by rw [hgr.cell_far ⟨b, 77, none⟩ hbl1 (fun e => NB.out e.symm)]; exact c77
    have e77 : w2.frozen? ⟨b, 77, none⟩ = false := by rw [hgr.frozen_far ⟨b, 77, none⟩ hbl1 (fun e => NB.out e.symm)]; exact f77
    have hb2 : b < w2.heap.size := by have := hgr.size; omega
    have FIN := hideG (fun (w3 : World) (hw3 : w3 = w2.setCell ⟨b, 77, none⟩ (.slice (some ⟨g2, 0, none⟩) (k + nq) cap)) => HS.out w1 w2 w3 S' v (.slice (some ⟨g2, 0, none⟩) (k + nq) cap) ys HTT.out HP.out (by rw [← HKK.out, ← HNQ.out]; exact hr) (by rw [HV.out, ← HKK.out]; exact Chg.grown hgr) (fun x hx => by
      have e : x = g2 := by simpa [Value.ownBlock] using hx.symm
      subst e
      rw [HV.out, ← HKK.out]
      rcases hat with q | q
      · exact .inl q
      · exact .inr (by omega)) hw3)
    clear hr hgr hat hlt c77 f77
    go_wp2_with fail
    go_end0
    exact ⟨rfl, FIN.out _ rfl⟩
end Go.Proofs.YtchideljndagjabGreat
namespace Go.Proofs.YtchideljndagjabGreat
open Go.ChangeShapes Go.WideShapes Go.ChangeAt Go.RowKit
set_option linter.unusedVariables false
theorem double_no (b n : Nat) (C : Srv.Cf) (cl : Nat → Cli.Cl) (s : Sn) (m : SM) (u : Int) (w : World) (h : SesAt w b n C cl s m) (hu : ¬ (0 ≤ u ∧ u < (s.fl.length : Int))) :
    Calls Tryz.prog 67 #[.pointer (some ⟨b, 0, none⟩), .int .i64 u] w fun e w' => e = .returned (.int .i64 7) ∧ w' = w := by
  have HC := hideG (isInFlight_calls b n C cl s m u w h)
  rw [decide_eq_false hu] at HC
  clear h hu
  go_enter Tryz.func67, Tryz.ntmps67
  go_wp2_with fail
  refine HC.out.mono ?_
  rintro e w1 ⟨rfl, hw1⟩
  rw [hw1]
  clear hw1
  go_wp2_with fail
  go_ret
  exact ⟨rfl, rfl⟩
theorem double_full (b n i : Nat) (C : Srv.Cf) (cl : Nat → Cli.Cl) (s : Sn) (m : SM) (w : World) (h : SesAt w b n C cl s m) (hi : i < s.fl.length) (hf : 200 ≤ s.fl.length) :
    Calls Tryz.prog 67 #[.pointer (some ⟨b, 0, none⟩), .int .i64 (i : Int)] w fun e w' => e = .returned (.int .i64 8) ∧ w' = w := by
  have HC := hideG (isInFlight_calls b n C cl s m (i : Int) w h)
  rw [decide_eq_true (show (0 : Int) ≤ (i : Int) ∧ (i : Int) < (s.fl.length : Int) by omega)] at HC
  have c77 := h.c77
  have hb := h.blt
  obtain ⟨a, c, hv, -⟩ := h.fl.view
  rw [hv] at c77
  clear h hv
  generalize s.fl.length = k at *
  have hk : (200 : Int) ≤ (k : Int) := by omega
  go_enter Tryz.func67, Tryz.ntmps67
  go_wp2_with fail
  refine HC.out.mono ?_
  rintro e w1 ⟨rfl, hw1⟩
  rw [hw1]
  clear hw1
  go_wp2_with fail
  go_ret
  exact ⟨rfl, rfl⟩
set_option maxHeartbeats 2000000 in
set_option maxRecDepth 100000 in
theorem double_yes (b n i : Nat) (C : Srv.Cf) (cl : Nat → Cli.Cl) (s : Sn) (m : SM) (p : Pk) (w : World) (h : SesAt w b n C cl s m) (hp : s.fl[i]? = some p) (hf : s.fl.length < 200) :
    Calls Tryz.prog 67 #[.pointer (some ⟨b, 0, none⟩), .int .i64 (i : Int)] w fun e w' => e = .returned (.int .i64 0) ∧ ∃ m', SesTook w w' b n C cl { s with fl := s.fl ++ [p] } m m' := by
  have hi : i < s.fl.length := (List.getElem?_eq_some_iff.1 hp).1
  have HC := hideG (isInFlight_calls b n C cl s m (i : Int) w h)
  rw [decide_eq_true (show (0 : Int) ≤ (i : Int) ∧ (i : Int) < (s.fl.length : Int) by omega)] at HC
  have c77 := h.c77
  have f77 := h.f77
  have hb := h.blt
  obtain ⟨a, c, hv, hkc, hcm, hel⟩ := h.fl.view
  obtain ⟨g, y, rfl, hgl, hyv, x0, x1, x2, hyb⟩ := hel i p hp
  have hym := List.mem_of_getElem? hyv
  obtain ⟨ay, cy, hyy, -⟩ := bytes_view hyb
  have hlow : ∀ x, y.ownBlock = some x → x < w.heap.size ∧ ¬ SesOwn b m x := fun x hx => ⟨h.fl.low y hym x hx, h.ap x (.inr (.inr ⟨y, hym, hx⟩))⟩
  have HS := hideG (fun (W w2 w3 : World) (g cap : Nat) hW hr hgr hat hw3 => (show ∃ m', SesTook w w3 b n C cl { s with fl := s.fl ++ [p] } m m' from by
    obtain ⟨m', k⟩ := h.sent (p := p) (W := W) (w2 := w2) (w3 := w3) (g := g) (cap := cap) hyb hlow hW hr hgr hat hw3
    exact ⟨m', k.ses, k.chg, k.own, fun x hx => by
      rcases k.foot x hx with q | q | q
      · exact .inl q
      · exact .inr q
      · exact .inl (.inr (.inr (.inr ⟨y, hym, q⟩)))⟩))
  have ROW := hideG h.fl.row
  have NB := hideG h.own.2.1
  obtain ⟨i1, hi1, hy0, hy1, hy2⟩ := info_parts infoPk
  rw [hv] at c77 ROW HS NB
  rw [hyy] at x2 HS
  have hi0 : (0 : Int) ≤ (i : Int) := by omega
  have hik : (i : Int) < (s.fl.length : Int) := by omega
  clear h hp hel hyv hyb hym hyy hv hlow
  obtain ⟨k, hk⟩ : ∃ k, k = s.fl.length := ⟨_, rfl⟩
  obtain ⟨nb, hnb⟩ : ∃ nb, nb = p.2.2.length := ⟨_, rfl⟩
  rw [← hk] at c77 ROW HS NB hf hkc hik hi
  rw [← hnb] at x2 HS
  obtain ⟨p1, hp1⟩ : ∃ p1, p1 = p.1 := ⟨_, rfl⟩
  obtain ⟨p2, hp2⟩ : ∃ p2, p2 = p.2.1 := ⟨_, rfl⟩
  rw [← hp1] at x0 HS
  rw [← hp2] at x1 HS
  clear hk hnb hp1 hp2
  have hk200 : ¬ ((200 : Int) ≤ (k : Int)) := by omega
  have hk2 : (k : Int) < 200 := by omega
  have HQ := hideG (show ∀ w3 : World, (w.alloc (.cells #[.int .i64 p1, .int .i64 p2, .slice ay nb cy] 49)).drew.grownBy w3 (Value.slice (some ⟨g, 0, none⟩) k c).ownBlock → w3.cell? ⟨b, 77, none⟩ = some (.slice (some ⟨g, 0, none⟩) k c) ∧ w3.frozen? ⟨b, 77, none⟩ = false from fun w3 hg => by
    have hal : Below w.heap.size w (w.alloc (.cells #[.int .i64 p1, .int .i64 p2, .slice ay nb cy] 49)).drew := ((Below.refl _ _).alloc (Nat.le_refl _) _).drew
    have hbl : b < (w.alloc (.cells #[.int .i64 p1, .int .i64 p2, .slice ay nb cy] 49)).drew.heap.size := by show b < (w.alloc _).heap.size; simp; omega
    exact ⟨(hg.cell_far ⟨b, 77, none⟩ hbl (fun e => NB.out e.symm)).trans ((hal.cell (p := ⟨b, 77, none⟩) hb).trans c77), (hg.frozen_far ⟨b, 77, none⟩ hbl (fun e => NB.out e.symm)).trans ((hal.frozen (p := ⟨b, 77, none⟩) hb).trans f77)⟩)
  have hsz : (w.alloc (.cells #[.int .i64 p1, .int .i64 p2, .slice ay nb cy] 49)).drew.heap.size = w.heap.size + 1 := by show (w.alloc _).heap.size = _; simp
  have SZ := hideG hsz
  clear hsz
  have h63 : k + 1 ≤ maxLen := by unfold maxLen; omega
  have hlen : (k + 1) * 40 ≤ 140737488355328 := by omega
  go_enter Tryz.func67, Tryz.ntmps67
  go_wp2_with fail
  refine HC.out.mono ?_
  rintro e w1 ⟨rfl, hw1⟩
  rw [hw1]
  clear hw1
  go_upto_region 5 with fail
  go_region_law (refine step_append_lies _ (by rfl) _ _ _ (by rfl) 0 49 i1 _ 3 40 Tryz.underlying41 hi1 hy0 hy1 hy2 rfl (by omega) (.slice (some ⟨g, 0, none⟩) k c) k (packV s.fl m.vs) (by rfl) ((ROW.out.alloc _).drew) ⟨w.heap.size, 0, none⟩ 1 1 [.int .i64 p1, .int .i64 p2, .slice ay nb cy] (by rfl) (by rfl) (World.news_of_block (cs := #[.int .i64 p1, .int .i64 p2, .slice ay nb cy]) (t := 49) (fr := (0, 0)) (heap_alloc_new w _)) (by simp [Value.oneCell']) (by omega) h63 hlen (Nat.zero_le _) (w.heap.size + 1) (by simp) ?_; intro gg cap' w3 hown3 hgrow hat hlt'; obtain ⟨q11, qf⟩ := HQ.out w3 hgrow)
  all_goals (have FIN := hideG (HS.out _ w3 _ gg cap' (((Below.refl w.heap.size w).alloc (Nat.le_refl _) _).drew) hown3 hgrow (by rw [SZ.out]; exact hat) rfl); go_wp2_with fail; go_ret; exact ⟨rfl, FIN.out⟩)
end Go.Proofs.YtchideljndagjabGreat
