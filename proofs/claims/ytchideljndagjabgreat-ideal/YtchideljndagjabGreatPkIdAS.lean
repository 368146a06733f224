/- A server, plainly: the sum, as the program adds it up and as the document does. -/
import Derived.Test.YtchideljndagjabGreatPkIdAR
import Derived.Test.YtchideljndagjabGreatPkIdAN
import Derived.Test.YtchideljndagjabGreatPkIdAC
import Derived.Test.YtchideljndagjabGreatPkIdAG
import Derived.WalkSpells
namespace Go.Proofs.YtchideljndagjabGreat.Srv
open Frm Cli
set_option linter.unusedVariables false
def pub (G : Tab) (u : Nat) : Int := (itemOf (its (G 0) u) u).2.2.1
def tellN (G : Tab) (v n : Nat) : List (Int × Int) := (lstN (mem (G 3)) n).map fun w : Nat => ((w : Int), (itemOf (its (G 3) w) v).2.2.1)
def tellPts (G : Tab) (v : Nat) : List (Int × Int) := tellN G v 13
def secret (G : Tab) (v : Nat) : Int := Lag.joinN (tellPts G v)
theorem sum_app (l m : List Int) : (l ++ m).sum = l.sum + m.sum := List.sum_append
theorem sum_cons (a : Int) (l : List Int) : (a :: l).sum = a + l.sum := List.sum_cons
theorem sum_filter (p : Nat → Bool) (f : Nat → Int) : ∀ l : List Nat, ((l.filter p).map f).sum = (l.map fun u => if p u = true then f u else 0).sum
  | [] => rfl
  | a :: l => by
    rw [List.map_cons, sum_cons, ← sum_filter p f l, List.filter_cons]
    by_cases h : p a = true
    · rw [if_pos h, if_pos h, List.map_cons, sum_cons]
    · rw [if_neg h, if_neg h]; omega
def mskN (G : Tab) (i n : Nat) : Int := ((List.range n).map fun v => (itemOf (its (G 2) v) ((i : Int) + 1)).2.1).sum
def msk (G : Tab) (i : Nat) : Int := mskN G i 13
def masksOf (G : Tab) (v : Nat) : List (Int × Bool) := if mem (G 2) v = true then [(secret G v, true)] else (lst (mem (G 2))).map fun u : Nat => (Num.powP (pub G u) (secret G v), decide (u < v))
def masksN (G : Tab) (n : Nat) : List (Int × Bool) := ((lstN (mem (G 1)) n).map (masksOf G)).flatten
def masksL (G : Tab) : List (Int × Bool) := masksN G 13
def offI (i : Nat) (m : Int × Bool) : Int := if m.2 = true then 4294967296 - Num.strAt m.1 i else Num.strAt m.1 i
def offN (ms : List (Int × Bool)) (i : Nat) : Int := (ms.map (offI i)).sum
theorem offI_bd (i : Nat) (m : Int × Bool) : 0 ≤ offI i m ∧ offI i m ≤ 4294967296 := by
  have := strAt_range m.1 i
  unfold offI; split <;> omega
theorem offN_bd (i : Nat) : ∀ ms : List (Int × Bool), 0 ≤ offN ms i ∧ offN ms i ≤ 4294967296 * ms.length
  | [] => by simp [offN]
  | m :: ms => by
    have h1 := offN_bd i ms
    have h2 := offI_bd i m
    unfold offN at h1 ⊢
    rw [List.map_cons, sum_cons, List.length_cons]
    omega
def totP (G : Tab) (i : Nat) : Int := (msk G i % 4294967296 + offN (masksL G) i) % 4294967296
def offV (G : Tab) (v i : Nat) (u : Nat) : Int := if u < v then - Num.strAt (Num.powP (pub G u) (secret G v)) i else Num.strAt (Num.powP (pub G u) (secret G v)) i
def addV (G : Tab) (i v : Nat) : Int := if mem (G 2) v = true then (it (its (G 2) v) i).2.1 - Num.strAt (secret G v) i else ((lst (mem (G 2))).map (offV G v i)).sum
def rtot (G : Tab) (i : Nat) : Int := ((lst (mem (G 1))).map (addV G i)).sum
theorem off_mod (G : Tab) (v i : Nat) (h : mem (G 2) v = false) : ∃ t : Int, offN (masksOf G v) i = ((lst (mem (G 2))).map (offV G v i)).sum + 4294967296 * t := by
  unfold masksOf
  rw [if_neg (by rw [h]; exact Bool.false_ne_true)]
  unfold offN
  rw [List.map_map]
  generalize lst (mem (G 2)) = l
  induction l with
  | nil => exact ⟨0, by simp⟩
  | cons u l ih =>
    obtain ⟨t, ih⟩ := ih
    rw [List.map_cons, sum_cons, ih, List.map_cons, sum_cons]
    by_cases c : u < v
    · refine ⟨t + 1, ?_⟩
      have e1 : (offI i ∘ fun u : Nat => (Num.powP (pub G u) (secret G v), decide (u < v))) u = 4294967296 - Num.strAt (Num.powP (pub G u) (secret G v)) i := by
        show (if decide (u < v) = true then _ else _) = _; rw [if_pos (decide_eq_true c)]
      have e2 : offV G v i u = - Num.strAt (Num.powP (pub G u) (secret G v)) i := by unfold offV; rw [if_pos c]
      rw [e1, e2]; omega
    · refine ⟨t, ?_⟩
      have e1 : (offI i ∘ fun u : Nat => (Num.powP (pub G u) (secret G v), decide (u < v))) u = Num.strAt (Num.powP (pub G u) (secret G v)) i := by
        show (if decide (u < v) = true then _ else _) = _; rw [if_neg (by simpa using c)]
      have e2 : offV G v i u = Num.strAt (Num.powP (pub G u) (secret G v)) i := by unfold offV; rw [if_neg c]
      rw [e1, e2]; omega
theorem offN_app (l m : List (Int × Bool)) (i : Nat) : offN (l ++ m) i = offN l i + offN m i := by unfold offN; rw [List.map_append, sum_app]
theorem masked_item {C : Cf} {G : Tab} (h : GoodT C G) {v i : Nat} (hm : mem (G 2) v = true) (hi : (i : Int) < C.M) : itemOf (its (G 2) v) ((i : Int) + 1) = it (its (G 2) v) i ∧ 0 ≤ (it (its (G 2) v) i).2.1 ∧ (it (its (G 2) v) i).2.1 < 4294967296 := by
  obtain ⟨l, e⟩ := mem_some hm
  obtain ⟨_, _, _, _, hok⟩ := h.ok 2 v l e
  rw [its_some e]
  have hl : i < l.length := by have := h.two v l e; omega
  obtain ⟨h1, h2, h3, h4, h5⟩ := okF_parts hok
  have h4' : (decide (1 ≤ l.length) && countB l) = true := h4
  rw [Bool.and_eq_true] at h4'
  have hid : (it l i).1 = (i : Int) + 1 := by simpa using allB_iff.1 h4'.2 i hl
  refine ⟨?_, ?_⟩
  · rw [← hid]; exact itemOf_it h3 hl
  · have h6 : (wdB (it l i).2.1 && (zB (it l i).2.2.1 && zB (it l i).2.2.2)) = true := h5 i hl
    rw [Bool.and_eq_true, wdB_iff] at h6
    exact h6.1
theorem msk_sum {C : Cf} {G : Tab} (h : GoodT C G) {i : Nat} (hi : (i : Int) < C.M) : msk G i = ((lst (mem (G 1))).map fun v => if mem (G 2) v = true then (it (its (G 2) v) i).2.1 else 0).sum := by
  unfold msk mskN lst lstN
  rw [sum_filter]
  congr 1
  apply List.map_congr_left
  intro v hv
  by_cases m2 : mem (G 2) v = true
  · rw [if_pos (h.up 1 v m2), if_pos m2, (masked_item h m2 hi).1]
  · rw [if_neg m2, its_none (Bool.eq_false_iff.2 m2)]
    split <;> rfl
theorem tot_aux {C : Cf} {G : Tab} (h : GoodT C G) {i : Nat} (hi : (i : Int) < C.M) (l : List Nat) : ∃ t : Int, (l.map fun v => if mem (G 2) v = true then (it (its (G 2) v) i).2.1 else 0).sum + offN ((l.map (masksOf G)).flatten) i = (l.map (addV G i)).sum + 4294967296 * t := by
  induction l with
  | nil => exact ⟨0, by simp [offN]⟩
  | cons v l ih =>
    obtain ⟨t, ih⟩ := ih
    rw [List.map_cons, sum_cons, List.map_cons, List.flatten_cons, offN_app, List.map_cons, sum_cons]
    by_cases m2 : mem (G 2) v = true
    · refine ⟨t + 1, ?_⟩
      have e1 : addV G i v = (it (its (G 2) v) i).2.1 - Num.strAt (secret G v) i := by unfold addV; rw [if_pos m2]
      have e2 : offN (masksOf G v) i = 4294967296 - Num.strAt (secret G v) i := by unfold masksOf; rw [if_pos m2]; simp [offN, offI]
      rw [if_pos m2, e1, e2]; omega
    · obtain ⟨t', e2⟩ := off_mod G v i (Bool.eq_false_iff.2 m2)
      refine ⟨t + t', ?_⟩
      have e1 : addV G i v = ((lst (mem (G 2))).map (offV G v i)).sum := by unfold addV; rw [if_neg m2]
      rw [if_neg m2, e1, e2]; omega
theorem tot_eq {C : Cf} {G : Tab} (h : GoodT C G) {i : Nat} (hi : (i : Int) < C.M) : totP G i = rtot G i % 4294967296 := by
  obtain ⟨t, e⟩ := tot_aux h hi (lst (mem (G 1)))
  rw [← msk_sum h hi] at e
  have e' : msk G i + offN (masksL G) i = rtot G i + 4294967296 * t := e
  unfold totP
  omega
def sumL (C : Cf) (G : Tab) : List Int := (List.range C.M.toNat).map (totP G)
theorem item_word {C : Cf} {G : Tab} (h : GoodT C G) (v : Nat) (x : Int) : 0 ≤ (itemOf (its (G 2) v) x).2.1 ∧ (itemOf (its (G 2) v) x).2.1 < 4294967296 := by
  rcases in_itemOf (l := its (G 2) v) (v := x) with hx | hx
  · have hm : mem (G 2) v = true := by
      cases e : G 2 v with
      | none => unfold its at hx; rw [e] at hx; cases hx
      | some l => unfold mem; rw [e]; rfl
    obtain ⟨_, _, _, _, hok⟩ := h.mem hm
    have hi : (wdB (itemOf (its (G 2) v) x).2.1 && (zB (itemOf (its (G 2) v) x).2.2.1 && zB (itemOf (its (G 2) v) x).2.2.2)) = true := okF_mem hok hx
    rw [Bool.and_eq_true, wdB_iff] at hi
    exact hi.1
  · rw [hx]; decide
theorem tell_el {C : Cf} {G : Tab} (h : GoodT C G) (w : Nat) (v : Int) : 0 ≤ (itemOf (its (G 3) w) v).2.2.1 ∧ (itemOf (its (G 3) w) v).2.2.1 < 2305843009213693951 := by
  rcases in_itemOf (l := its (G 3) w) (v := v) with hx | hx
  · have hm : mem (G 3) w = true := by
      cases e : G 3 w with
      | none => unfold its at hx; rw [e] at hx; cases hx
      | some l => unfold mem; rw [e]; rfl
    obtain ⟨_, _, _, _, hok⟩ := h.mem hm
    have hi : (tB (itemOf (its (G 3) w) v).2.1 && (Num.elB (itemOf (its (G 3) w) v).2.2.1 && zB (itemOf (its (G 3) w) v).2.2.2)) = true := okF_mem hok hx
    rw [Bool.and_eq_true, Bool.and_eq_true, Num.elB_iff] at hi
    exact hi.2.1
  · rw [hx]; decide
theorem pub_el {C : Cf} {G : Tab} (h : GoodT C G) (u : Nat) : 0 ≤ pub G u ∧ pub G u < 2305843009213693951 := by
  unfold pub
  by_cases hm : mem (G 0) u = true
  · obtain ⟨_, _, h2, _⟩ := hello_item h hm
    rw [keyB_iff] at h2; omega
  · rw [its_none (Bool.eq_false_iff.2 hm), itemOf_none (by rfl)]; exact ⟨by decide, by decide⟩
end Go.Proofs.YtchideljndagjabGreat.Srv
namespace Go.Proofs.YtchideljndagjabGreat.Srv
open Frm Cli
set_option linter.unusedVariables false
structure Sv where
  tm : Int
  rd : Nat
  G : Tab
  out : Int × Int × List Int × List Int
def start : Sv := ⟨0, 0, none4, (0, 0, [], [])⟩
def pend (s : Sv) : Bool := decide (s.out.1 = 0)
theorem pend_iff {s : Sv} : pend s = true ↔ s.out.1 = 0 := by simp [pend]
def counts (C : Cf) (s : Sv) (f : Fr) : Bool := pend s && fits C s.G s.rd f
def takeS (C : Cf) (s : Sv) (f : Fr) : Sv := if counts C s f = true then { s with G := updT s.G s.rd f.2.1.toNat f.2.2 } else s
def due (C : Cf) (s : Sv) : Bool := decide (s.tm + 1 = C.D * ((s.rd : Int) + 1))
def few (C : Cf) (s : Sv) : Bool := decide ((sizeR (s.G s.rd) : Int) < C.T)
def setL (G : Tab) : List Int := (lst (mem (G 2))).map fun u : Nat => (u : Int)
def tickS (C : Cf) (s : Sv) : Sv :=
  if pend s = true then
    if due C s = true then
      if few C s = true then { s with tm := s.tm + 1, out := (2, (s.rd : Int), [], []) }
      else if s.rd = 3 then { s with tm := s.tm + 1, out := (1, 0, setL s.G, sumL C s.G) }
      else { s with tm := s.tm + 1, rd := s.rd + 1 }
    else { s with tm := s.tm + 1 }
  else s
def tickP (C : Cf) (s : Sv) : List (Int × List Int) :=
  if (pend s && (due C s && (!few C s && decide (s.rd ≠ 3)))) = true then (lst (mem (s.G s.rd))).map fun u : Nat => ((u : Int), encF (2 * (s.rd : Int) + 2) 0 (sendsL s.G s.rd u)) else []
structure GoodC (C : Cf) : Prop where
  n : 1 ≤ C.N ∧ C.N ≤ 12
  t : 1 ≤ C.T ∧ C.T ≤ C.N
  m : 1 ≤ C.M ∧ C.M ≤ 12
  d : 1 ≤ C.D ∧ C.D ≤ 50
theorem goodC_of {N T M D : Int} (h : cfgB N T M D = true) : GoodC ⟨N, T, M, D⟩ := by
  unfold cfgB at h
  simp only [Bool.and_eq_true, decide_eq_true_iff] at h
  exact ⟨h.1, h.2.1, h.2.2.1, h.2.2.2⟩
structure SOk (C : Cf) (s : Sv) : Prop where
  rd : s.rd < 4
  now : Srv.now C s.rd s.tm = true
  good : GoodT C s.G
  late : ∀ r, s.rd < r → s.G r = fun _ => none
theorem now_bd {C : Cf} (hc : GoodC C) {r : Nat} (hr : r < 4) {t : Int} (h : now C r t = true) : 0 ≤ t ∧ t < 200 := by
  obtain ⟨h1, h2⟩ := now_iff.1 h
  have := hc.d
  have h3 : 0 ≤ (r : Int) * C.D := Int.mul_nonneg (by omega) (by omega)
  have h4 : ((r : Int) + 1) * C.D ≤ 4 * 50 := Int.mul_le_mul (by omega) (by omega) (by omega) (by omega)
  omega
theorem sok_start {C : Cf} (hc : GoodC C) : SOk C start := by
  have := hc.d
  refine ⟨by decide, now_iff.2 ⟨?_, ?_⟩, goodT_none C, fun _ _ => rfl⟩
  · show ((0 : Nat) : Int) * C.D ≤ 0; simp
  · show 0 < (((0 : Nat) : Int) + 1) * C.D; simp; omega
theorem SOk.take {C : Cf} {s : Sv} (h : SOk C s) {f : Fr} (hf : okF f.1 f.2.1 f.2.2 = true) : SOk C (takeS C s f) := by
  unfold takeS
  by_cases c : counts C s f = true
  · rw [if_pos c]
    unfold counts at c
    rw [Bool.and_eq_true] at c
    exact ⟨h.rd, h.now, h.good.add h.rd h.late hf c.2, fun r hr => by
      have hr' : s.rd < r := hr
      show updT _ _ _ _ r = _
      rw [updT_row _ _ _ _ (by omega)]; exact h.late r hr'⟩
  · rw [if_neg c]; exact h
theorem take_tm (C : Cf) (s : Sv) (f : Fr) : (takeS C s f).tm = s.tm := by unfold takeS; split <;> rfl
theorem SOk.tick {C : Cf} (hc : GoodC C) {s : Sv} (h : SOk C s) (hp : (tickS C s).out.1 = 0) : SOk C (tickS C s) := by
  have hd := hc.d
  obtain ⟨h1, h2⟩ := now_iff.1 h.now
  have hr := h.rd
  unfold tickS at hp ⊢
  by_cases p : pend s = true
  · rw [if_pos p] at hp ⊢
    by_cases d : due C s = true
    · rw [if_pos d] at hp ⊢
      by_cases fw : few C s = true
      · rw [if_pos fw] at hp; simp at hp
      · rw [if_neg fw] at hp ⊢
        by_cases r3 : s.rd = 3
        · rw [if_pos r3] at hp; simp at hp
        · rw [if_neg r3]
          have e : s.tm + 1 = C.D * ((s.rd : Int) + 1) := by unfold due at d; simpa using d
          rw [Int.mul_comm] at e
          refine ⟨by show s.rd + 1 < 4; omega, now_iff.2 ⟨?_, ?_⟩, h.good, fun r hr => h.late r (by have : s.rd + 1 < r := hr; omega)⟩
          · show ((s.rd + 1 : Nat) : Int) * C.D ≤ s.tm + 1
            rw [e, Int.natCast_add]; exact Int.le_refl _
          · show s.tm + 1 < (((s.rd + 1 : Nat) : Int) + 1) * C.D
            have h4 : (((s.rd + 1 : Nat) : Int) + 1) * C.D = ((s.rd : Int) + 1) * C.D + C.D := by rw [Int.natCast_add, Int.add_mul ((s.rd : Int) + ((1 : Nat) : Int)), Int.one_mul]; rfl
            rw [h4]; omega
    · rw [if_neg d]
      have e : ¬ s.tm + 1 = ((s.rd : Int) + 1) * C.D := by unfold due at d; rw [Int.mul_comm]; simpa using d
      exact ⟨h.rd, now_iff.2 ⟨by show (s.rd : Int) * C.D ≤ s.tm + 1; omega, by show s.tm + 1 < ((s.rd : Int) + 1) * C.D; omega⟩, h.good, h.late⟩
  · rw [if_neg p]; exact h
structure LOk (C : Cf) (s : Sv) (L : Log) : Prop where
  tab : Srv.tab C L = s.G
  at_ : ∀ e ∈ L, e.1 ≤ s.tm
  ok : ∀ e ∈ L, okF e.2.1 e.2.2.1 e.2.2.2 = true
theorem LOk.take {C : Cf} (hc : GoodC C) {s : Sv} {L : Log} (hs : SOk C s) (hp : pend s = true) (h : LOk C s L) {f : Fr} (hf : okF f.1 f.2.1 f.2.2 = true) : LOk C (takeS C s f) (L ++ [(s.tm, f)]) := by
  have hd := hc.d
  refine ⟨?_, ?_, ?_⟩
  · rw [tab_app (by omega) hs.rd hs.now h.at_ f, h.tab]
    unfold addF takeS counts
    rw [hp, Bool.true_and]
    split <;> rfl
  · intro e he
    rw [take_tm]
    rcases List.mem_append.1 he with g | g
    · exact h.at_ e g
    · rw [List.mem_singleton.1 g]; exact Int.le_refl _
  · intro e he
    rcases List.mem_append.1 he with g | g
    · exact h.ok e g
    · rw [List.mem_singleton.1 g]; exact hf
theorem LOk.more {C : Cf} (hc : GoodC C) {s : Sv} {L : Log} (hs : SOk C s) (hp : pend s = true) (h : LOk C s L) {f : Fr} (hf : okF f.1 f.2.1 f.2.2 = true) : decide (many (Srv.tab C L) < many (Srv.tab C (L ++ [(s.tm, f)]))) = counts C s f := by
  have hd := hc.d
  rw [tab_app (by omega) hs.rd hs.now h.at_ f, h.tab]
  unfold counts
  rw [hp, Bool.true_and]
  exact many_more hs.rd (okF_bounds hf).2.2.2.2.1
theorem tick_G (C : Cf) (s : Sv) : (tickS C s).G = s.G := by unfold tickS; (repeat' split) <;> rfl
theorem tick_tm (C : Cf) (s : Sv) (hp : pend s = true) : (tickS C s).tm = s.tm + 1 := by unfold tickS; rw [if_pos hp]; (repeat' split) <;> rfl
theorem LOk.tick {C : Cf} {s : Sv} {L : Log} (hp : pend s = true) (h : LOk C s L) : LOk C (tickS C s) L := by
  refine ⟨by rw [tick_G]; exact h.tab, fun e he => ?_, h.ok⟩
  rw [tick_tm C s hp]
  have := h.at_ e he
  omega
end Go.Proofs.YtchideljndagjabGreat.Srv
namespace Go.Proofs.YtchideljndagjabGreat
open Go.RowKit
set_option linter.unusedVariables false
structure SS where
  n : Int
  t : Int
  m : Int
  d : Int
  tm : Int
  rd : Int
  sn : Nat → Bool
  ct : Nat → Bool
  it : Nat → Value
  pb : Nat → Int
  sh : Nat → Bool
  ml : Value
  st : Int
  ro : Int
  set : Value
  sum : Value
def b13 (f : Nat → Bool) : List Value := v13 fun u => .bool (f u)
def i13 (f : Nat → Int) : List Value := v13 fun u => .int .i64 (f u)
def ssHead (s : SS) : List Value := [.int .i64 s.n, .int .i64 s.t, .int .i64 s.m, .int .i64 s.d, .int .i64 s.tm, .int .i64 s.rd]
def ssTail (s : SS) : List Value := [s.ml, .int .i64 s.st, .int .i64 s.ro, s.set, s.sum]
def ssCells (s : SS) : List Value := ssHead s ++ (b13 s.sn ++ (b13 s.ct ++ (v13 s.it ++ (i13 s.pb ++ (b13 s.sh ++ ssTail s)))))
theorem ssCells_length (s : SS) : (ssCells s).length = 76 := rfl
def SSAt (w : World) (b : Nat) (s : SS) : Prop := RecAt w b 0 (ssCells s)
section
variable {w w' : World} {b : Nat} {s : SS}
theorem SSAt.lt (h : SSAt w b s) : b < w.heap.size := RecAt.lt h (by rw [ssCells_length]; omega)
theorem SSAt.at_ (h : SSAt w b s) (j : Nat) {v : Value} (e : (ssCells s)[j]? = some v) : w.cell? ⟨b, j, none⟩ = some v := by
  have := RecAt.cell h j e
  rwa [Nat.zero_add] at this
theorem SSAt.froz (h : SSAt w b s) (j : Nat) (hj : j < 76) : w.frozen? ⟨b, j, none⟩ = false := by
  have := RecAt.froz h j (by rw [ssCells_length]; exact hj)
  rwa [Nat.zero_add] at this
theorem SSAt.n (h : SSAt w b s) : w.cell? ⟨b, 0, none⟩ = some (.int .i64 s.n) := h.at_ 0 rfl
theorem SSAt.t (h : SSAt w b s) : w.cell? ⟨b, 1, none⟩ = some (.int .i64 s.t) := h.at_ 1 rfl
theorem SSAt.m (h : SSAt w b s) : w.cell? ⟨b, 2, none⟩ = some (.int .i64 s.m) := h.at_ 2 rfl
theorem SSAt.d (h : SSAt w b s) : w.cell? ⟨b, 3, none⟩ = some (.int .i64 s.d) := h.at_ 3 rfl
theorem SSAt.tm (h : SSAt w b s) : w.cell? ⟨b, 4, none⟩ = some (.int .i64 s.tm) := h.at_ 4 rfl
theorem SSAt.rd (h : SSAt w b s) : w.cell? ⟨b, 5, none⟩ = some (.int .i64 s.rd) := h.at_ 5 rfl
theorem SSAt.ml (h : SSAt w b s) : w.cell? ⟨b, 71, none⟩ = some s.ml := h.at_ 71 rfl
theorem SSAt.st (h : SSAt w b s) : w.cell? ⟨b, 72, none⟩ = some (.int .i64 s.st) := h.at_ 72 rfl
theorem SSAt.ro (h : SSAt w b s) : w.cell? ⟨b, 73, none⟩ = some (.int .i64 s.ro) := h.at_ 73 rfl
theorem SSAt.set (h : SSAt w b s) : w.cell? ⟨b, 74, none⟩ = some s.set := h.at_ 74 rfl
theorem SSAt.sum (h : SSAt w b s) : w.cell? ⟨b, 75, none⟩ = some s.sum := h.at_ 75 rfl
theorem SSAt.rsn (h : SSAt w b s) : RecAt w b 6 (b13 s.sn) := by
  have := RecAt.part (pre := ssHead s) h; simpa [ssHead] using this
theorem SSAt.rct (h : SSAt w b s) : RecAt w b 19 (b13 s.ct) := by
  have h' : RecAt w b 0 ((ssHead s ++ b13 s.sn) ++ (b13 s.ct ++ (v13 s.it ++ (i13 s.pb ++ (b13 s.sh ++ ssTail s))))) := by rw [List.append_assoc]; exact h
  exact RecAt.part h'
theorem SSAt.rit (h : SSAt w b s) : RecAt w b 32 (v13 s.it) := by
  have h' : RecAt w b 0 ((ssHead s ++ b13 s.sn ++ b13 s.ct) ++ (v13 s.it ++ (i13 s.pb ++ (b13 s.sh ++ ssTail s)))) := by rw [List.append_assoc, List.append_assoc]; exact h
  exact RecAt.part h'
theorem SSAt.rpb (h : SSAt w b s) : RecAt w b 45 (i13 s.pb) := by
  have h' : RecAt w b 0 ((ssHead s ++ b13 s.sn ++ b13 s.ct ++ v13 s.it) ++ (i13 s.pb ++ (b13 s.sh ++ ssTail s))) := by rw [List.append_assoc, List.append_assoc, List.append_assoc]; exact h
  exact RecAt.part h'
theorem SSAt.rsh (h : SSAt w b s) : RecAt w b 58 (b13 s.sh) := by
  have h' : RecAt w b 0 ((ssHead s ++ b13 s.sn ++ b13 s.ct ++ v13 s.it ++ i13 s.pb) ++ (b13 s.sh ++ ssTail s)) := by rw [List.append_assoc, List.append_assoc, List.append_assoc, List.append_assoc]; exact h
  exact RecAt.part h'
theorem SSAt.csn (h : SSAt w b s) (v : Nat) (hv : v < 13) : w.cell? ⟨b, 6 + v, none⟩ = some (.bool (s.sn v)) := h.rsn.cell v (v13_get _ v hv)
theorem SSAt.cct (h : SSAt w b s) (v : Nat) (hv : v < 13) : w.cell? ⟨b, 19 + v, none⟩ = some (.bool (s.ct v)) := h.rct.cell v (v13_get _ v hv)
theorem SSAt.cit (h : SSAt w b s) (v : Nat) (hv : v < 13) : w.cell? ⟨b, 32 + v, none⟩ = some (s.it v) := h.rit.cell v (v13_get _ v hv)
theorem SSAt.cpb (h : SSAt w b s) (v : Nat) (hv : v < 13) : w.cell? ⟨b, 45 + v, none⟩ = some (.int .i64 (s.pb v)) := h.rpb.cell v (v13_get _ v hv)
theorem SSAt.csh (h : SSAt w b s) (v : Nat) (hv : v < 13) : w.cell? ⟨b, 58 + v, none⟩ = some (.bool (s.sh v)) := h.rsh.cell v (v13_get _ v hv)
theorem SSAt.block (h : SSAt w b s) (e : w'.heap[b]? = w.heap[b]?) : SSAt w' b s := RecAt.block h e
theorem SSAt.below (h : SSAt w b s) (hb : Below w.heap.size w w') : SSAt w' b s := h.block (hb.block b h.lt)
theorem SSAt.put (h : SSAt w b s) (j : Nat) (hj : j < 76) (x : Value) {s' : SS} (e : (ssCells s).set j x = ssCells s') : SSAt (w.setCell ⟨b, j, none⟩ x) b s' := by
  have := RecAt.setAt h j (by rw [ssCells_length]; exact hj) x e
  rwa [Nat.zero_add] at this
theorem SSAt.setTm (h : SSAt w b s) (x : Int) : SSAt (w.setCell ⟨b, 4, none⟩ (.int .i64 x)) b { s with tm := x } := h.put 4 (by decide) _ rfl
theorem SSAt.setRd (h : SSAt w b s) (x : Int) : SSAt (w.setCell ⟨b, 5, none⟩ (.int .i64 x)) b { s with rd := x } := h.put 5 (by decide) _ rfl
theorem SSAt.setMk (h : SSAt w b s) (x : Value) : SSAt (w.setCell ⟨b, 71, none⟩ x) b { s with ml := x } := h.put 71 (by decide) _ rfl
theorem SSAt.setCt (h : SSAt w b s) (v : Nat) (hv : v < 13) (p : Bool) : SSAt (w.setCell ⟨b, 19 + v, none⟩ (.bool p)) b { s with ct := fun u => if u = v then p else s.ct u } := by
  refine h.put (19 + v) (by omega) _ ?_
  rcases thirteen hv with rfl | rfl | rfl | rfl | rfl | rfl | rfl | rfl | rfl | rfl | rfl | rfl | rfl <;> rfl
theorem SSAt.setIt (h : SSAt w b s) (v : Nat) (hv : v < 13) (x : Value) : SSAt (w.setCell ⟨b, 32 + v, none⟩ x) b { s with it := updV s.it v x } := by
  refine h.put (32 + v) (by omega) _ ?_
  rcases thirteen hv with rfl | rfl | rfl | rfl | rfl | rfl | rfl | rfl | rfl | rfl | rfl | rfl | rfl <;> rfl
theorem SSAt.setAll (h : SSAt w b s) (s' : SS) : SSAt (w.setCells b 0 (ssCells s')) b s' := RecAt.setAll h (ssCells s') (by rw [ssCells_length, ssCells_length])
theorem SSAt.allSn (h : SSAt w b s) (f : Nat → Bool) : SSAt (w.setCells b 6 (b13 f)) b { s with sn := f } := RecAt.setMid (pre := ssHead s) h (b13 f) rfl
theorem SSAt.allCt (h : SSAt w b s) (f : Nat → Bool) : SSAt (w.setCells b 19 (b13 f)) b { s with ct := f } := by
  have h' : RecAt w b 0 ((ssHead s ++ b13 s.sn) ++ (b13 s.ct ++ (v13 s.it ++ (i13 s.pb ++ (b13 s.sh ++ ssTail s))))) := by rw [List.append_assoc]; exact h
  have := RecAt.setMid h' (b13 f) rfl
  rw [List.append_assoc] at this; exact this
theorem SSAt.allIt (h : SSAt w b s) (f : Nat → Value) : SSAt (w.setCells b 32 (v13 f)) b { s with it := f } := by
  have h' : RecAt w b 0 ((ssHead s ++ b13 s.sn ++ b13 s.ct) ++ (v13 s.it ++ (i13 s.pb ++ (b13 s.sh ++ ssTail s)))) := by rw [List.append_assoc, List.append_assoc]; exact h
  have := RecAt.setMid h' (v13 f) rfl
  rw [List.append_assoc, List.append_assoc] at this; exact this
theorem SSAt.allPb (h : SSAt w b s) (f : Nat → Int) : SSAt (w.setCells b 45 (i13 f)) b { s with pb := f } := by
  have h' : RecAt w b 0 ((ssHead s ++ b13 s.sn ++ b13 s.ct ++ v13 s.it) ++ (i13 s.pb ++ (b13 s.sh ++ ssTail s))) := by rw [List.append_assoc, List.append_assoc, List.append_assoc]; exact h
  have := RecAt.setMid h' (i13 f) rfl
  rw [List.append_assoc, List.append_assoc, List.append_assoc] at this; exact this
theorem SSAt.allSh (h : SSAt w b s) (f : Nat → Bool) : SSAt (w.setCells b 58 (b13 f)) b { s with sh := f } := by
  have h' : RecAt w b 0 ((ssHead s ++ b13 s.sn ++ b13 s.ct ++ v13 s.it ++ i13 s.pb) ++ (b13 s.sh ++ ssTail s)) := by rw [List.append_assoc, List.append_assoc, List.append_assoc, List.append_assoc]; exact h
  have := RecAt.setMid h' (b13 f) rfl
  rw [List.append_assoc, List.append_assoc, List.append_assoc, List.append_assoc] at this; exact this
end
def SFoot (b : Nat) (S : SS) (x : Nat) : Prop := x = b ∨ (∃ v, v < 13 ∧ (S.it v).ownBlock = some x) ∨ S.ml.ownBlock = some x ∨ S.set.ownBlock = some x ∨ S.sum.ownBlock = some x
structure SrvAt (w : World) (b : Nat) (C : Srv.Cf) (s : Srv.Sv) (S : SS) : Prop where
  at_ : SSAt w b S
  st : S.st = s.out.1
  ro : S.ro = s.out.2.1
  set : ListAt w S.set s.out.2.2.1
  sum : ListAt w S.sum s.out.2.2.2
  apart : ∀ v, v < 13 → (S.it v).ownBlock ≠ some b
  apart2 : S.ml.ownBlock ≠ some b ∧ S.set.ownBlock ≠ some b ∧ S.sum.ownBlock ≠ some b
  zero : s.out.1 = 0 → s.out = (0, 0, [], []) ∧ S.set = .slice none 0 0 ∧ S.sum = .slice none 0 0
  rdz : s.out.1 ≠ 0 → S.rd = 0
  cfg : s.out.1 = 0 → S.n = C.N ∧ S.t = C.T ∧ S.m = C.M ∧ S.d = C.D
  now : s.out.1 = 0 → S.tm = s.tm ∧ S.rd = (s.rd : Int)
  sn : s.out.1 = 0 → ∀ v, v < 13 → S.sn v = if s.rd = 0 then decide (1 ≤ v ∧ (v : Int) ≤ C.N) else Srv.mem (s.G (s.rd - 1)) v
  ct : s.out.1 = 0 → ∀ v, v < 13 → S.ct v = Srv.mem (s.G s.rd) v
  it : s.out.1 = 0 → ∀ v, v < 13 → ItemsAt w (S.it v) (Srv.its (s.G s.rd) v)
  pb : s.out.1 = 0 → 1 ≤ s.rd → ∀ v, v < 13 → S.pb v = Srv.pub s.G v
  sh : s.out.1 = 0 → 2 ≤ s.rd → ∀ v, v < 13 → S.sh v = Srv.mem (s.G 1) v
  ml : s.out.1 = 0 → s.rd = 3 → ListAt w S.ml ((List.range C.M.toNat).map fun i => Srv.msk s.G i % 4294967296)
theorem SrvAt.keep {w w' : World} {b : Nat} {C : Srv.Cf} {s : Srv.Sv} {S : SS} (h : SrvAt w b C s S) (hs : w.heap.size ≤ w'.heap.size) (ha : SSAt w' b S) (hb : ∀ x, x ≠ b → SFoot b S x → w'.heap[x]? = w.heap[x]?) : SrvAt w' b C s S where
  at_ := ha
  st := h.st
  ro := h.ro
  set := h.set.keep hs fun x hx => hb x (fun e => h.apart2.2.1 (e ▸ hx)) (.inr (.inr (.inr (.inl hx))))
  sum := h.sum.keep hs fun x hx => hb x (fun e => h.apart2.2.2 (e ▸ hx)) (.inr (.inr (.inr (.inr hx))))
  apart := h.apart
  apart2 := h.apart2
  zero := h.zero
  rdz := h.rdz
  cfg := h.cfg
  now := h.now
  sn := h.sn
  ct := h.ct
  it := fun p v hv => (h.it p v hv).keep hs fun x hx => hb x (fun e => h.apart v hv (e ▸ hx)) (.inr (.inl ⟨v, hv, hx⟩))
  pb := h.pb
  sh := h.sh
  ml := fun p r => (h.ml p r).keep hs fun x hx => hb x (fun e => h.apart2.1 (e ▸ hx)) (.inr (.inr (.inl hx)))
structure SrvW (w : World) (b : Nat) (C : Srv.Cf) (s : Srv.Sv) (S : SS) : Prop where
  srv : SrvAt w b C s S
  low : ∀ x, SFoot b S x → x < w.heap.size
theorem SrvW.keep {w w' : World} {b : Nat} {C : Srv.Cf} {s : Srv.Sv} {S : SS} (h : SrvW w b C s S) (hs : w.heap.size ≤ w'.heap.size) (hb : ∀ x, SFoot b S x → w'.heap[x]? = w.heap[x]?) : SrvW w' b C s S :=
  ⟨h.srv.keep hs (h.srv.at_.block (hb b (.inl rfl))) (fun x _ hx => hb x hx), fun x hx => Nat.lt_of_lt_of_le (h.low x hx) hs⟩
theorem SrvW.below {w w' : World} {b : Nat} {C : Srv.Cf} {s : Srv.Sv} {S : SS} (h : SrvW w b C s S) (hb : Below w.heap.size w w') : SrvW w' b C s S := h.keep hb.size (fun x hx => hb.block x (h.low x hx))
theorem SrvW.chg {P : Nat → Prop} {w w' : World} {b : Nat} {C : Srv.Cf} {s : Srv.Sv} {S : SS} (h : SrvW w b C s S) (hc : Chg P w w') (hn : ∀ x, SFoot b S x → ¬ P x) : SrvW w' b C s S := h.keep hc.size (fun x hx => hc.block x (h.low x hx) (hn x hx))
end Go.Proofs.YtchideljndagjabGreat
namespace Go.Proofs.YtchideljndagjabGreat
open Go.ChangeShapes Go.WideShapes Go.ChangeAt Go.RowKit
set_option linter.unusedVariables false
def memV (f : Nat → Bool) : Value := .agg (bl13 f).toArray
theorem size_mem : (Tryz.prog.info? 101).map (·.size) = some 13 := by kernel_rfl
theorem size_nums : (Tryz.prog.info? 104).map (·.size) = some 13 := by kernel_rfl
theorem size_lists : (Tryz.prog.info? 103).map (·.size) = some 13 := by kernel_rfl
theorem size_itm : (Tryz.prog.info? 147).map (·.size) = some 4 := by kernel_rfl
theorem ix_mem0 (f : Nat → Bool) (w : World) : (Instr.index 101 (.agg (bl13 f).toArray) (.int .i64 ((0 : Nat) : Int))).run Tryz.prog w = .ok (.bool (f 0)) w := by kernel_rfl
theorem ix_mem1 (f : Nat → Bool) (w : World) : (Instr.index 101 (.agg (bl13 f).toArray) (.int .i64 ((1 : Nat) : Int))).run Tryz.prog w = .ok (.bool (f 1)) w := by kernel_rfl
theorem ix_mem2 (f : Nat → Bool) (w : World) : (Instr.index 101 (.agg (bl13 f).toArray) (.int .i64 ((2 : Nat) : Int))).run Tryz.prog w = .ok (.bool (f 2)) w := by kernel_rfl
theorem ix_mem3 (f : Nat → Bool) (w : World) : (Instr.index 101 (.agg (bl13 f).toArray) (.int .i64 ((3 : Nat) : Int))).run Tryz.prog w = .ok (.bool (f 3)) w := by kernel_rfl
theorem ix_mem4 (f : Nat → Bool) (w : World) : (Instr.index 101 (.agg (bl13 f).toArray) (.int .i64 ((4 : Nat) : Int))).run Tryz.prog w = .ok (.bool (f 4)) w := by kernel_rfl
theorem ix_mem5 (f : Nat → Bool) (w : World) : (Instr.index 101 (.agg (bl13 f).toArray) (.int .i64 ((5 : Nat) : Int))).run Tryz.prog w = .ok (.bool (f 5)) w := by kernel_rfl
theorem ix_mem6 (f : Nat → Bool) (w : World) : (Instr.index 101 (.agg (bl13 f).toArray) (.int .i64 ((6 : Nat) : Int))).run Tryz.prog w = .ok (.bool (f 6)) w := by kernel_rfl
theorem ix_mem7 (f : Nat → Bool) (w : World) : (Instr.index 101 (.agg (bl13 f).toArray) (.int .i64 ((7 : Nat) : Int))).run Tryz.prog w = .ok (.bool (f 7)) w := by kernel_rfl
theorem ix_mem8 (f : Nat → Bool) (w : World) : (Instr.index 101 (.agg (bl13 f).toArray) (.int .i64 ((8 : Nat) : Int))).run Tryz.prog w = .ok (.bool (f 8)) w := by kernel_rfl
theorem ix_mem9 (f : Nat → Bool) (w : World) : (Instr.index 101 (.agg (bl13 f).toArray) (.int .i64 ((9 : Nat) : Int))).run Tryz.prog w = .ok (.bool (f 9)) w := by kernel_rfl
theorem ix_mem10 (f : Nat → Bool) (w : World) : (Instr.index 101 (.agg (bl13 f).toArray) (.int .i64 ((10 : Nat) : Int))).run Tryz.prog w = .ok (.bool (f 10)) w := by kernel_rfl
theorem ix_mem11 (f : Nat → Bool) (w : World) : (Instr.index 101 (.agg (bl13 f).toArray) (.int .i64 ((11 : Nat) : Int))).run Tryz.prog w = .ok (.bool (f 11)) w := by kernel_rfl
theorem ix_mem12 (f : Nat → Bool) (w : World) : (Instr.index 101 (.agg (bl13 f).toArray) (.int .i64 ((12 : Nat) : Int))).run Tryz.prog w = .ok (.bool (f 12)) w := by kernel_rfl
theorem ix_mem (f : Nat → Bool) (k : Nat) (hk : k < 13) (w : World) : (Instr.index 101 (.agg (bl13 f).toArray) (.int .i64 (k : Int))).run Tryz.prog w = .ok (.bool (f k)) w := by
  rcases thirteen hk with rfl | rfl | rfl | rfl | rfl | rfl | rfl | rfl | rfl | rfl | rfl | rfl | rfl
  · exact ix_mem0 f w
  · exact ix_mem1 f w
  · exact ix_mem2 f w
  · exact ix_mem3 f w
  · exact ix_mem4 f w
  · exact ix_mem5 f w
  · exact ix_mem6 f w
  · exact ix_mem7 f w
  · exact ix_mem8 f w
  · exact ix_mem9 f w
  · exact ix_mem10 f w
  · exact ix_mem11 f w
  · exact ix_mem12 f w
theorem bools_new (w : World) (T : TypeId) (f : Nat → Bool) : BoolsAt (w.alloc (.cells (bl13 f).toArray T)) w.heap.size T f := heap_alloc_new w _
set_option maxHeartbeats 1000000 in
set_option maxRecDepth 100000 in
theorem firstMembers_calls (n : Int) (w : World) :
    Calls Tryz.prog 190 #[.int .i64 n] w fun e w' => e = .returned (memV fun u => decide (1 ≤ u ∧ (u : Int) ≤ n)) ∧ Below w.heap.size w w' := by
  have HA := hideG (heap_alloc2_old w (.cells (bl13 fun _ => false).toArray 101) (.cells (bl13 fun _ => false).toArray 101))
  have HBn := hideG (heap_alloc2_new w (.cells (bl13 fun _ => false).toArray 101) (.cells (bl13 fun _ => false).toArray 101))
  unfold memV
  go_enter Tryz.func190, Tryz.ntmps190
  go_wp2_with fail
  go_loopw [5] (fun i wr => ∃ k : Nat, k ≤ 13 ∧ i = .int .i64 k ∧ BoolsAt wr (w.heap.size + 1) 101 (fun u => decide (u < k) && decide (1 ≤ u ∧ (u : Int) ≤ n)) ∧ BoolsAt wr w.heap.size 101 (fun _ => false) ∧ Below w.heap.size w wr) (fun i _ => 13 - (intOf i).toNat)
  case atStart =>
    refine ⟨0, by omega, rfl, ?_, ?_, ((Below.refl _ _).alloc (Nat.le_refl _) _).alloc (by simp) _⟩
    · exact HBn.out
    · exact HA.out
  case round =>
    obtain ⟨k, hk, rfl, hbo, hze, hbel⟩ := hrel
    have HBO := hideG hbo
    have HZE := hideG hze
    have HB := hideG hbel
    have hsz := hbel.size
    have hs1 := hbo.lt
    clear hbo hbel hze
    by_cases hlt : k < 13
    · have hlt' : (k : Int) < 13 := by omega
      have z0 := HBO.out.cell k hlt
      have zf := HBO.out.froz k
      have HUP := hideG (fun (p : Bool) (hp : p = decide (1 ≤ k ∧ (k : Int) ≤ n)) => (show BoolsAt (wr.setCell ⟨w.heap.size + 1, k, none⟩ (.bool p)) (w.heap.size + 1) 101 (fun u => decide (u < k + 1) && decide (1 ≤ u ∧ (u : Int) ≤ n)) from
        (HBO.out.set k hlt p).ext (fun v hv => by
          unfold updB
          by_cases e : v = k
          · subst e; rw [if_pos rfl, decide_eq_true (show v < v + 1 by omega), hp]; rfl
          · rw [if_neg e]
            show (decide (v < k) && decide (1 ≤ v ∧ (v : Int) ≤ n)) = (decide (v < k + 1) && decide (1 ≤ v ∧ (v : Int) ≤ n))
            by_cases c : v < k
            · rw [decide_eq_true c, decide_eq_true (show v < k + 1 by omega)]
            · rw [decide_eq_false c, decide_eq_false (show ¬ v < k + 1 by omega)])))
      by_cases c1 : 1 ≤ k
      · have c1' : (1 : Int) ≤ (k : Int) := by omega
        by_cases c2 : (k : Int) ≤ n
        · have HP := hideG (HUP.out true (decide_eq_true ⟨c1, c2⟩).symm)
          go_wp2_with fail
          go_roundw
          case rel => exact ⟨k + 1, by omega, by go_num, HP.out, HZE.out.block (Below.heap_setCell _ _ _ _ (by simp)), HB.out.setCell (p := ⟨w.heap.size + 1, k, none⟩) (by show w.heap.size ≤ w.heap.size + 1; omega) _⟩
          case measure => simp [intOf]; omega
        · have HP := hideG (HUP.out false (decide_eq_false (by omega)).symm)
          go_wp2_with fail
          go_roundw
          case rel => exact ⟨k + 1, by omega, by go_num, HP.out, HZE.out.block (Below.heap_setCell _ _ _ _ (by simp)), HB.out.setCell (p := ⟨w.heap.size + 1, k, none⟩) (by show w.heap.size ≤ w.heap.size + 1; omega) _⟩
          case measure => simp [intOf]; omega
      · have c1' : ¬ (1 : Int) ≤ (k : Int) := by omega
        have HP := hideG (HUP.out false (decide_eq_false (by omega)).symm)
        go_wp2_with fail
        go_roundw
        case rel => exact ⟨k + 1, by omega, by go_num, HP.out, HZE.out.block (Below.heap_setCell _ _ _ _ (by simp)), HB.out.setCell (p := ⟨w.heap.size + 1, k, none⟩) (by show w.heap.size ≤ w.heap.size + 1; omega) _⟩
        case measure => simp [intOf]; omega
    · have ek : k = 13 := by omega
      subst ek
      have HST := hideG (show BoolsAt wr (w.heap.size + 1) 101 (fun u => decide (1 ≤ u ∧ (u : Int) ≤ n)) from HBO.out.ext (fun v hv => by rw [decide_eq_true hv]; rfl))
      have RG := hideG HST.out.range
      have LX := hideG (bl13_length (fun u => decide (1 ≤ u ∧ (u : Int) ≤ n)))
      have HON := hideG (all_oneCell_toArray (bl13_one (fun u => decide (1 ≤ u ∧ (u : Int) ≤ n))))
      have HTH := hideG (show wr.there w.heap.size 0 (bl13 (fun u => decide (1 ≤ u ∧ (u : Int) ≤ n))).toArray.size from fun i hi => by
        rw [List.size_toArray, bl13_length] at hi
        exact ⟨by rw [Nat.zero_add, HZE.out.cell i hi]; rfl, by rw [Nat.zero_add]; exact HZE.out.froz i⟩)
      have HROW := hideG (show (wr.setCells w.heap.size 0 (bl13 (fun u => decide (1 ≤ u ∧ (u : Int) ≤ n)))).heap[w.heap.size]? = some (.cells (bl13 (fun u => decide (1 ≤ u ∧ (u : Int) ≤ n))).toArray 101 (0, 0)) by
        have := heap_setCells w.heap.size 101 (bl13 (fun u => decide (1 ≤ u ∧ (u : Int) ≤ n))) [] (bl13 fun _ => false) [] wr rfl (by rw [List.append_nil]; exact HZE.out)
        rw [List.append_nil] at this
        exact this)
      have BF := hideG (show Below w.heap.size w (wr.setCells w.heap.size 0 (bl13 (fun u => decide (1 ≤ u ∧ (u : Int) ≤ n)))) from below_setCells (Nat.le_refl _) _ _ _ HB.out)
      obtain ⟨CS, hCS⟩ : ∃ CS, CS = bl13 (fun u => decide (1 ≤ u ∧ (u : Int) ≤ n)) := ⟨_, rfl⟩
      rw [← hCS] at RG LX HON HTH HROW BF
      have HCS := hideG hCS
      clear hCS
      have HSZ := hideG (show (Tryz.prog.info? 101).map (·.size) = some CS.toArray.size by rw [size_mem, List.size_toArray, LX.out])
      have HSL := hideG (show (Tryz.prog.info? 101).map (·.size) = some CS.length by rw [size_mem, LX.out])
      go_wp2_with (first | refine wpList_load_mid rfl 101 _ rfl (w.heap.size + 1) 0 rfl CS _ RG.out Tryz.underlying101 rfl HSL.out ?_ | refine wpList_store_mid rfl 101 _ _ rfl w.heap.size 0 CS.toArray rfl rfl HTH.out HSZ.out HON.out ?_)
      refine bodyPost_ret (results_cell_row rfl _ _ w.heap.size 101 CS.toArray (0, 0) _ rfl HROW.out Tryz.underlying101 rfl HSZ.out) rfl ?_
      exact ⟨by rw [HCS.out], BF.out⟩
set_option maxHeartbeats 1000000 in
set_option maxRecDepth 100000 in
theorem sizeOf_calls (f : Nat → Bool) (w : World) :
    Calls Tryz.prog 195 #[memV f] w fun e w' => e = .returned (.int .i64 ((Srv.lst f).length : Int)) ∧ Below w.heap.size w w' := by
  unfold memV
  have HB := hideG (bools_new w 101 f)
  have BB := hideG (show Below w.heap.size w (w.alloc (.cells (bl13 f).toArray 101)) from (Below.refl _ _).alloc (Nat.le_refl _) _)
  have HRG := hideG (bools_new w 101 f).range
  have HIX := hideG (ix_mem f)
  have LX := hideG (bl13_length f)
  obtain ⟨W, hW⟩ : ∃ W, W = w.alloc (.cells (bl13 f).toArray 101) := ⟨_, rfl⟩
  rw [← hW] at HB BB HRG
  have HW := hideG hW
  clear hW
  obtain ⟨X, hX⟩ : ∃ X, X = bl13 f := ⟨_, rfl⟩
  rw [← hX] at HW HRG HIX LX ⊢
  clear hX
  go_enter Tryz.func195, Tryz.ntmps195
  go_upto_region 2 with fail
  rw [← HW.out]
  go_wp2_with (refine wpList_load_mid rfl 101 _ rfl w.heap.size 0 rfl X _ HRG.out Tryz.underlying101 rfl ?z ?_)
  case z => rw [size_mem, LX.out]
  go_wp2_with fail
  go_loop [3, 7] (fun n u => ∃ k : Nat, k ≤ 13 ∧ u = .int .i64 (k : Int) ∧ n = .int .i64 ((Srv.lstN f k).length : Int)) (fun _ u => 13 - (intOf u).toNat)
  case atStart => exact ⟨0, by omega, rfl, rfl⟩
  case round =>
    obtain ⟨k, hk, rfl, rfl⟩ := hrel
    have hle := Srv.lstN_le f k
    have HS := hideG (Srv.lstN_succ f k)
    obtain ⟨m, hm⟩ : ∃ m, m = (Srv.lstN f k).length := ⟨_, rfl⟩
    rw [← hm] at hle ⊢
    have HM := hideG hm
    clear hm
    by_cases hlt : k < 13
    · have hlt' : (k : Int) < 13 := by omega
      have hix := HIX.out k hlt
      cases q : f k
      · rw [q] at hix
        have HS2 := hideG (show (Srv.lstN f (k + 1)).length = m by rw [HS.out, q, HM.out]; simp)
        clear q
        go_wp2_with fail
        go_round
        case rel => exact ⟨k + 1, by omega, by go_num, by rw [HS2.out]⟩
        case measure => simp [intOf]; omega
      · rw [q] at hix
        have HS2 := hideG (show (Srv.lstN f (k + 1)).length = m + 1 by rw [HS.out, q, HM.out]; simp)
        clear q
        go_wp2_with fail
        go_round
        case rel => exact ⟨k + 1, by omega, by go_num, by rw [HS2.out]; go_num⟩
        case measure => simp [intOf]; omega
    · have ek : k = 13 := by omega
      subst ek
      go_wp2_with fail
      go_ret
      exact ⟨by rw [HM.out]; rfl, BB.out⟩
end Go.Proofs.YtchideljndagjabGreat
