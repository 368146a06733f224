/- Contracts of the program's client: NewClient, Hello, Released. -/
import Derived.Test.YtchideljndagjabGreatPkIdAI
import Derived.Test.YtchideljndagjabGreatPkIdAM
import Derived.Test.YtchideljndagjabGreatPkIdAA
import Derived.Test.YtchideljndagjabGreatPkIdAB
import Derived.Deep.MidRow
import Derived.Deep.WholeRow
import Derived.Test.YtchideljndagjabGreatPkIdAC
import Derived.Test.YtchideljndagjabGreatPkIdAJ
namespace Go.Proofs.YtchideljndagjabGreat
open Go.ChangeShapes Go.WideShapes Go.ChangeAt Go.RowKit
set_option linter.unusedVariables false
set_option maxHeartbeats 1000000 in
set_option maxRecDepth 100000 in
theorem hello_calls (b : Nat) (T : TypeId) (S : PS) (w : World) (h : PSAt w b T S) (ho : Frm.okF 1 S.id [(S.id, S.cp, S.mp, 0)] = true) :
    Calls Tryz.prog 127 #[.pointer (some ⟨b, 0, none⟩)] w fun e w' => ∃ va, e = .returned va ∧ w'.ownsRow w.heap.size 5 1 va (Frm.encF 1 S.id [(S.id, S.cp, S.mp, 0)]).length ((Frm.encF 1 S.id [(S.id, S.cp, S.mp, 0)]).map (Value.int .u8)) ∧ Below w.heap.size w w' := by
  have hbl := h.lt
  have c0 := h.c0
  have c2 := h.c2
  have c3 := h.c3
  have HIN := hideG (okF_in ho)
  have HW := hideG (fun (W : World) (v : Value) (hb : Below w.heap.size w W) (hl : ItemsAt W v [(S.id, S.cp, S.mp, 0)]) => written_calls_c b T S 1 v [(S.id, S.cp, S.mp, 0)] W (h.below hb) hl ho)
  clear h ho
  have al : ∀ (ob : Obj) (o : Nat), (w.alloc ob).cell? ⟨b, o, none⟩ = w.cell? ⟨b, o, none⟩ := fun ob o => ((Below.refl w.heap.size w).alloc (Nat.le_refl _) ob).cell (p := ⟨b, o, none⟩) hbl
  generalize S.id = x0 at *
  generalize S.cp = x1 at *
  generalize S.mp = x2 at *
  go_enter Tryz.func127, Tryz.ntmps127
  go_wp2_with fail
  go_region
  go_wp2_with fail
  obtain ⟨W, hW⟩ : ∃ W, W = ((w.alloc (.cells #[.int .i64 x0, .int .i64 x1, .int .i64 x2, .int .i64 0] 147)).alloc (.cells #[.int .i64 x0, .int .i64 x1, .int .i64 x2, .int .i64 0] 147)).drew := ⟨_, rfl⟩
  rw [← hW]
  have HB := hideG (show Below w.heap.size w W by rw [hW]; exact (((Below.refl _ _).alloc (Nat.le_refl _) _).alloc (by simp) _).drew)
  have HI := hideG (show ItemsAt W (.slice (some ⟨w.heap.size + 1, 0, none⟩) 1 1) [(x0, x1, x2, 0)] by
    refine ⟨_, _, rfl, by simp, by unfold maxLen; omega, HIN.out, .inr ⟨w.heap.size + 1, 0, rfl, by rw [hW]; simp, fun i hi => ?_⟩⟩
    obtain rfl : i = 0 := by simpa using hi
    rw [hW]
    refine ⟨?_, ?_, ?_, ?_⟩ <;> simp [Frm.it])
  clear hW
  refine (HW.out W _ HB.out HI.out).mono ?_
  rintro e w1 ⟨va, rfl, hown, hb1⟩
  have s1 := HB.out.size
  have O1 := hideG (ownsRow_base hown s1)
  have B1 := hideG (HB.out.trans (hb1.mono s1))
  obtain ⟨a3, c3', hv3⟩ := owns_form hown
  subst hv3
  clear hown hb1
  go_wp2_with fail
  go_ret
  exact ⟨_, rfl, O1.out, B1.out⟩
theorem pow37 (n : Nat) : (37 : Int) ^ n % 2305843009213693951 ≠ 0 := by
  induction n with
  | zero => rw [Int.pow_zero]; decide
  | succ n ih =>
    rw [Int.pow_succ]
    intro h
    rcases Prm.mul_zero _ _ h with e | e
    · exact ih e
    · exact absurd e (by decide)
theorem pow37_key (k : Int) : Frm.keyB (Num.powP 37 k) = true := by
  rw [Frm.keyB_iff]
  have h1 := Num.powP_lo 37 k
  have h2 := Num.powP_hi 37 k
  have h3 : Num.powP 37 k ≠ 0 := pow37 k.toNat
  omega
def helloL (c : Cli.Cl) : List Frm.It := [(c.id, Cli.pubA c, Cli.pubB c, 0)]
theorem helloL_ok {c : Cli.Cl} (hc : Cli.Good c) : Frm.okF 1 c.id (helloL c) = true := by
  have gi := hc.i
  have gn := hc.n
  have e1 : Num.clB c.id = true := Num.clB_yes gi.1 (by omega)
  have e2 : Frm.keyB (Cli.pubA c) = true := pow37_key _
  have e3 : Frm.keyB (Cli.pubB c) = true := pow37_key _
  have a1 : decide ((helloL c).length ≤ 12) = true := rfl
  have a2 : Frm.fromB 1 c.id = true := e1
  have a3 : Frm.riseB (helloL c) = true := Frm.allB_yes fun i hi => by
    obtain rfl : i = 0 := by simpa [helloL] using hi
    show (Num.clB c.id && (decide (0 = 0) || _)) = true
    rw [e1]; rfl
  have a4 : Frm.idsB 1 c.id (helloL c) = true := by
    show (decide ((helloL c).length = 1) && !Frm.noneB (helloL c) c.id) = true
    have : Frm.noneB (helloL c) c.id = false := Frm.allB_no 0 (by simp [helloL]) (by show decide (c.id ≠ c.id) = false; simp)
    rw [this]; rfl
  have a5 : Frm.numsB 1 (helloL c) = true := Frm.allB_yes fun i hi => by
    obtain rfl : i = 0 := by simpa [helloL] using hi
    show (Frm.keyB (Cli.pubA c) && (Frm.keyB (Cli.pubB c) && Frm.zB 0)) = true
    rw [e2, e3]; rfl
  unfold Frm.okF
  rw [a1, a2, a3, a4, a5]; rfl
def relL (c : Cli.Cl) (s : Cli.St) : List Frm.It := if s.1 = 4 then Cli.tells c s.2.1 s.2.2.1 s.2.2.2 else []
theorem relL_items {w : World} {b : Nat} {c : Cli.Cl} {s : Cli.St} {S : PS} (h : CliAt w b c s S) : ItemsAt w S.told (relL c s) := by
  unfold relL
  by_cases e : s.1 = 4
  · rw [if_pos e]; exact h.four e
  · rw [if_neg e, h.nil e]; exact ⟨none, 0, rfl, by simp, Nat.zero_le _, (fun x hx => by cases hx), .inl rfl⟩
end Go.Proofs.YtchideljndagjabGreat
namespace Go.Proofs.YtchideljndagjabGreat
open Go.RowKit
set_option linter.unusedVariables false
def RecAt (w : World) (b o : Nat) (vs : List Value) : Prop := ∀ j v, vs[j]? = some v → w.cell? ⟨b, o + j, none⟩ = some v ∧ w.frozen? ⟨b, o + j, none⟩ = false
section
variable {w w' : World} {b o : Nat} {vs : List Value}
theorem RecAt.cell (h : RecAt w b o vs) (j : Nat) {v : Value} (e : vs[j]? = some v) : w.cell? ⟨b, o + j, none⟩ = some v := (h j v e).1
theorem RecAt.froz (h : RecAt w b o vs) (j : Nat) (hj : j < vs.length) : w.frozen? ⟨b, o + j, none⟩ = false := (h j vs[j] (List.getElem?_eq_getElem hj)).2
theorem RecAt.range (h : RecAt w b o vs) : w.rangeAt b o vs := fun j v e => (h j v e).1
theorem RecAt.there (h : RecAt w b o vs) (k n : Nat) (hn : k + n ≤ vs.length) : w.there b (o + k) n := fun j hj => by
  have e := List.getElem?_eq_getElem (show k + j < vs.length by omega)
  have := h (k + j) _ e
  rw [← Nat.add_assoc] at this
  exact ⟨by rw [this.1]; rfl, this.2⟩
theorem RecAt.part {pre mid post : List Value} (h : RecAt w b o (pre ++ (mid ++ post))) : RecAt w b (o + pre.length) mid := fun j v e => by
  have := h (pre.length + j) v (by
    rw [List.getElem?_append_right (by omega), Nat.add_sub_cancel_left, List.getElem?_append_left (List.getElem?_eq_some_iff.1 e).1]; exact e)
  rw [← Nat.add_assoc] at this
  exact this
theorem RecAt.keep (h : RecAt w b o vs) (hc : ∀ j, j < vs.length → w'.cell? ⟨b, o + j, none⟩ = w.cell? ⟨b, o + j, none⟩) (hf : ∀ j, j < vs.length → w'.frozen? ⟨b, o + j, none⟩ = w.frozen? ⟨b, o + j, none⟩) : RecAt w' b o vs := fun j v e => by
  have hj := (List.getElem?_eq_some_iff.1 e).1
  rw [hc j hj, hf j hj]; exact h j v e
theorem frozen_block (e : w'.heap[b]? = w.heap[b]?) (i : Nat) : w'.frozen? ⟨b, i, none⟩ = w.frozen? ⟨b, i, none⟩ := by
  unfold World.frozen?; simp only [e]
theorem RecAt.block (h : RecAt w b o vs) (e : w'.heap[b]? = w.heap[b]?) : RecAt w' b o vs := h.keep (fun j _ => World.cell?_of_block (w := w) e) (fun j _ => frozen_block e _)
theorem RecAt.lt (h : RecAt w b o vs) (hn : 0 < vs.length) : b < w.heap.size := by
  by_cases hb : b < w.heap.size
  · exact hb
  · have := (h 0 vs[0] (List.getElem?_eq_getElem hn)).1
    unfold World.cell? at this
    rw [Array.getElem?_eq_none (by show w.heap.size ≤ b; omega)] at this
    cases this
theorem RecAt.set (h : RecAt w b o vs) (j : Nat) (hj : j < vs.length) (x : Value) : RecAt (w.setCell ⟨b, o + j, none⟩ x) b o (vs.set j x) := fun i v e => by
  rw [World.frozen?_setCell]
  rw [List.getElem?_set] at e
  by_cases ij : j = i
  · subst ij
    rw [if_pos rfl, if_pos hj] at e
    have e' := Option.some.inj e
    subst e'
    have := h j vs[j] (List.getElem?_eq_getElem hj)
    exact ⟨World.cell?_setCell_same _ _ _ this.1, this.2⟩
  · rw [if_neg ij] at e
    have := h i v e
    refine ⟨?_, this.2⟩
    rw [World.cell?_setCell_other (h := by intro q; injection q with q1 q2 q3; omega)]
    exact this.1
theorem RecAt.setAt (h : RecAt w b o vs) (j : Nat) (hj : j < vs.length) (x : Value) {vs' : List Value} (e : vs.set j x = vs') : RecAt (w.setCell ⟨b, o + j, none⟩ x) b o vs' := e ▸ h.set j hj x
theorem RecAt.setMid {pre mid post : List Value} (h : RecAt w b o (pre ++ (mid ++ post))) (ms : List Value) (hl : ms.length = mid.length) : RecAt (w.setCells b (o + pre.length) ms) b o (pre ++ (ms ++ post)) := fun i v e => by
  rw [World.frozen?_setCells]
  have hi := (List.getElem?_eq_some_iff.1 e).1
  simp only [List.length_append] at hi
  have hlen : i < (pre ++ (mid ++ post)).length := by simp only [List.length_append]; omega
  have hold := h i _ (List.getElem?_eq_getElem hlen)
  refine ⟨?_, hold.2⟩
  by_cases h1 : i < pre.length
  · rw [World.cell?_setCells_out b ms _ w _ (fun _ _ => .inl (by show o + i < o + pre.length; omega))]
    rw [List.getElem?_append_left h1] at e
    exact (h i v (by rw [List.getElem?_append_left h1]; exact e)).1
  · by_cases h2 : i < pre.length + ms.length
    · have hh := World.cell?_setCells_in b ms (o + pre.length) w (fun j hj => by
        have hm : pre.length + j < (pre ++ (mid ++ post)).length := by simp only [List.length_append]; omega
        have := (h (pre.length + j) _ (List.getElem?_eq_getElem hm)).1
        rw [← Nat.add_assoc] at this
        rw [this]; rfl) (i - pre.length) (by omega)
      rw [show o + pre.length + (i - pre.length) = o + i by omega] at hh
      rw [hh]
      rw [List.getElem?_append_right (by omega), List.getElem?_append_left (by omega)] at e
      rw [← e]
      exact (List.getElem?_eq_getElem _).symm
    · rw [World.cell?_setCells_out b ms _ w _ (fun _ _ => .inr (by show o + pre.length + ms.length ≤ o + i; omega))]
      refine (h i v ?_).1
      rw [List.getElem?_append_right (by omega), List.getElem?_append_right (by omega)] at e ⊢
      rw [hl] at e; exact e
theorem RecAt.setAll (h : RecAt w b o vs) (ms : List Value) (hl : ms.length = vs.length) : RecAt (w.setCells b o ms) b o ms := by
  have := RecAt.setMid (pre := []) (mid := vs) (post := []) (by rw [List.append_nil]; exact h) ms hl
  rw [List.append_nil] at this
  exact this
theorem RecAt.app {us : List Value} (h : RecAt w b o vs) (k : RecAt w b (o + vs.length) us) : RecAt w b o (vs ++ us) := fun j v e => by
  by_cases hj : j < vs.length
  · rw [List.getElem?_append_left hj] at e; exact h j v e
  · rw [List.getElem?_append_right (by omega)] at e
    have := k (j - vs.length) v e
    rw [show o + vs.length + (j - vs.length) = o + j by omega] at this
    exact this
end
def v13 (f : Nat → Value) : List Value := [f 0, f 1, f 2, f 3, f 4, f 5, f 6, f 7, f 8, f 9, f 10, f 11, f 12]
def updV (f : Nat → Value) (v : Nat) (x : Value) : Nat → Value := fun u => if u = v then x else f u
theorem thirteen {v : Nat} (hv : v < 13) : v = 0 ∨ v = 1 ∨ v = 2 ∨ v = 3 ∨ v = 4 ∨ v = 5 ∨ v = 6 ∨ v = 7 ∨ v = 8 ∨ v = 9 ∨ v = 10 ∨ v = 11 ∨ v = 12 := by omega
theorem v13_get (f : Nat → Value) (v : Nat) (hv : v < 13) : (v13 f)[v]? = some (f v) := by
  rcases thirteen hv with rfl | rfl | rfl | rfl | rfl | rfl | rfl | rfl | rfl | rfl | rfl | rfl | rfl <;> rfl
theorem v13_set (f : Nat → Value) (v : Nat) (hv : v < 13) (x : Value) : (v13 f).set v x = v13 (updV f v x) := by
  rcases thirteen hv with rfl | rfl | rfl | rfl | rfl | rfl | rfl | rfl | rfl | rfl | rfl | rfl | rfl <;> rfl
theorem v13_ext {f g : Nat → Value} (h : ∀ v, v < 13 → f v = g v) : v13 f = v13 g := by
  unfold v13
  rw [h 0 (by omega), h 1 (by omega), h 2 (by omega), h 3 (by omega), h 4 (by omega), h 5 (by omega), h 6 (by omega), h 7 (by omega), h 8 (by omega), h 9 (by omega), h 10 (by omega), h 11 (by omega), h 12 (by omega)]
theorem v13_length (f : Nat → Value) : (v13 f).length = 13 := rfl
theorem v13_all {P : Value → Prop} {f : Nat → Value} (h : ∀ v, v < 13 → P (f v)) : ∀ x ∈ v13 f, P x := fun x hx => by
  simp only [v13, List.mem_cons, List.not_mem_nil, or_false] at hx
  rcases hx with rfl | rfl | rfl | rfl | rfl | rfl | rfl | rfl | rfl | rfl | rfl | rfl | rfl <;> exact h _ (by omega)
end Go.Proofs.YtchideljndagjabGreat
namespace Go.Proofs.YtchideljndagjabGreat.Co
open Go.RowKit
set_option linter.unusedVariables false
def PSAt (w : World) (b o : Nat) (s : PS) : Prop := RecAt w b o (psCells s)
section
variable {w w' : World} {b o : Nat} {s : PS}
theorem PSAt.lt (h : PSAt w b o s) : b < w.heap.size := RecAt.lt h (by rw [psCells_length]; decide)
theorem PSAt.froz (h : PSAt w b o s) (i : Nat) (hi : i < 78) : w.frozen? ⟨b, o + i, none⟩ = false := RecAt.froz h i (by rw [psCells_length]; exact hi)
theorem PSAt.c0 (h : PSAt w b o s) : w.cell? ⟨b, o, none⟩ = some (.int .i64 s.id) := (h 0 _ rfl).1
theorem PSAt.c1 (h : PSAt w b o s) : w.cell? ⟨b, o + 1, none⟩ = some (.int .i64 s.ph) := (h 1 _ rfl).1
theorem PSAt.c2 (h : PSAt w b o s) : w.cell? ⟨b, o + 2, none⟩ = some (.int .i64 s.cp) := (h 2 _ rfl).1
theorem PSAt.c3 (h : PSAt w b o s) : w.cell? ⟨b, o + 3, none⟩ = some (.int .i64 s.mp) := (h 3 _ rfl).1
theorem PSAt.c4 (h : PSAt w b o s) : w.cell? ⟨b, o + 4, none⟩ = some (.int .i64 s.n) := (h 4 _ rfl).1
theorem PSAt.c5 (h : PSAt w b o s) : w.cell? ⟨b, o + 5, none⟩ = some (.int .i64 s.t) := (h 5 _ rfl).1
theorem PSAt.c6 (h : PSAt w b o s) : w.cell? ⟨b, o + 6, none⟩ = some s.inp := (h 6 _ rfl).1
theorem PSAt.c7 (h : PSAt w b o s) : w.cell? ⟨b, o + 7, none⟩ = some (.int .i64 s.ch) := (h 7 _ rfl).1
theorem PSAt.c8 (h : PSAt w b o s) : w.cell? ⟨b, o + 8, none⟩ = some (.int .i64 s.ms) := (h 8 _ rfl).1
theorem PSAt.c9 (h : PSAt w b o s) : w.cell? ⟨b, o + 9, none⟩ = some (.int .i64 s.sd) := (h 9 _ rfl).1
theorem PSAt.c10 (h : PSAt w b o s) : w.cell? ⟨b, o + 10, none⟩ = some s.sm := (h 10 _ rfl).1
theorem PSAt.c11 (h : PSAt w b o s) : w.cell? ⟨b, o + 11, none⟩ = some s.ss := (h 11 _ rfl).1
theorem psCells_told (s : PS) : (psCells s)[77]? = some s.told := by
  have e : (psHead s).length = 12 := rfl
  unfold psCells
  rw [List.getElem?_append_right (by rw [e]; decide), e, List.getElem?_append_right (by rw [circ_length]; decide), circ_length]
  rfl
theorem PSAt.c77 (h : PSAt w b o s) : w.cell? ⟨b, o + 77, none⟩ = some s.told := (h 77 _ (psCells_told s)).1
theorem PSAt.crc (h : PSAt w b o s) : RecAt w b (o + 12) (circ s.f) := RecAt.part (pre := psHead s) h
theorem PSAt.range (h : PSAt w b o s) : w.rangeAt b (o + 12) (circ s.f) := RecAt.range (PSAt.crc h)
theorem PSAt.there (h : PSAt w b o s) (k n : Nat) (hn : k + n ≤ 78) : w.there b (o + k) n := RecAt.there h k n (by rw [psCells_length]; exact hn)
end
section
variable {w w' : World} {b o : Nat} {s : PS}
theorem PSAt.peer (h : PSAt w b o s) (v : Nat) (hv : v < 13) : PrAt w b (o + 12 + v * 5) (s.f v) := prAt_of_range (PSAt.range h) v hv
theorem PSAt.setPh (h : PSAt w b o s) (x : Int) : PSAt (w.setCell ⟨b, o + 1, none⟩ (.int .i64 x)) b o { s with ph := x } := RecAt.setAt h 1 (by rw [psCells_length]; decide) _ rfl
theorem PSAt.setCp (h : PSAt w b o s) (x : Int) : PSAt (w.setCell ⟨b, o + 2, none⟩ (.int .i64 x)) b o { s with cp := x } := RecAt.setAt h 2 (by rw [psCells_length]; decide) _ rfl
theorem PSAt.setMp (h : PSAt w b o s) (x : Int) : PSAt (w.setCell ⟨b, o + 3, none⟩ (.int .i64 x)) b o { s with mp := x } := RecAt.setAt h 3 (by rw [psCells_length]; decide) _ rfl
theorem PSAt.setTold (h : PSAt w b o s) (x : Value) : PSAt (w.setCell ⟨b, o + 77, none⟩ x) b o { s with told := x } := by
  have e : (psCells s).set 77 x = psCells { s with told := x } := by
    unfold psCells
    rw [List.set_append_right _ _ (by show 12 ≤ 77; omega)]
    show psHead s ++ (circ s.f ++ [s.told]).set 65 x = psHead s ++ (circ s.f ++ [x])
    rw [List.set_append_right _ _ (by rw [circ_length]; exact Nat.le_refl _), circ_length]
    rfl
  exact RecAt.setAt h 77 (by rw [psCells_length]; decide) _ e
theorem PSAt.setF (h : PSAt w b o s) (g : Nat → Cli.Pr) : PSAt (w.setCells b (o + 12) (circ g)) b o { s with f := g } :=
  RecAt.setMid (pre := psHead s) (post := [s.told]) h (circ g) (by rw [circ_length, circ_length])
theorem PSAt.setDraw (h : PSAt w b o s) (v0 : Value) (a1 a2 a3 : Int) (v4 v5 : Value) :
    PSAt (w.setCells b (o + 6) [v0, .int .i64 a1, .int .i64 a2, .int .i64 a3, v4, v5]) b o { s with inp := v0, ch := a1, ms := a2, sd := a3, sm := v4, ss := v5 } :=
  RecAt.setMid (pre := [.int .i64 s.id, .int .i64 s.ph, .int .i64 s.cp, .int .i64 s.mp, .int .i64 s.n, .int .i64 s.t]) (mid := [s.inp, .int .i64 s.ch, .int .i64 s.ms, .int .i64 s.sd, s.sm, s.ss]) (post := circ s.f ++ [s.told]) h [v0, .int .i64 a1, .int .i64 a2, .int .i64 a3, v4, v5] rfl
theorem PSAt.setAll (h : PSAt w b o s) (s' : PS) : PSAt (w.setCells b o (psCells s')) b o s' := RecAt.setAll h _ (by rw [psCells_length, psCells_length])
theorem PSAt.block (h : PSAt w b o s) (e : w'.heap[b]? = w.heap[b]?) : PSAt w' b o s := RecAt.block h e
theorem PSAt.below (h : PSAt w b o s) (hb : Below w.heap.size w w') : PSAt w' b o s := PSAt.block h (hb.block b (PSAt.lt h))
end
structure ChgC (b o : Nat) (w w' : World) : Prop where
  chg : Chg (fun x => x = b) w w'
  rest : ∀ i, i < o ∨ o + 78 ≤ i → w'.cell? ⟨b, i, none⟩ = w.cell? ⟨b, i, none⟩ ∧ w'.frozen? ⟨b, i, none⟩ = w.frozen? ⟨b, i, none⟩
section
variable {w w' w'' : World} {b o : Nat}
theorem ChgC.size (h : ChgC b o w w') : w.heap.size ≤ w'.heap.size := h.chg.size
theorem ChgC.block (h : ChgC b o w w') (x : Nat) (hx : x < w.heap.size) (hn : x ≠ b) : w'.heap[x]? = w.heap[x]? := h.chg.block x hx hn
theorem ChgC.refl (b o : Nat) (w : World) : ChgC b o w w := ⟨Chg.refl _ _, fun _ _ => ⟨rfl, rfl⟩⟩
theorem ChgC.also (h : ChgC b o w w') (k : ChgC b o w' w'') : ChgC b o w w'' := ⟨h.chg.trans k.chg (fun _ e _ => e), fun i hi => ⟨(k.rest i hi).1.trans (h.rest i hi).1, (k.rest i hi).2.trans (h.rest i hi).2⟩⟩
theorem ChgC.of_below (hb : Below w.heap.size w w') (hl : b < w.heap.size) : ChgC b o w w' := ⟨Chg.of_below hb, fun i _ => ⟨hb.cell (p := ⟨b, i, none⟩) hl, hb.frozen (p := ⟨b, i, none⟩) hl⟩⟩
theorem ChgC.drew (b o : Nat) (w : World) : ChgC b o w w.drew := ⟨⟨rfl, rfl, rfl, Nat.le_refl _, fun _ _ _ => rfl⟩, fun _ _ => ⟨rfl, rfl⟩⟩
theorem ChgC.cells (w : World) (vs : List Value) (k : Nat) (hk : k + vs.length ≤ 78) : ChgC b o w (w.setCells b (o + k) vs) :=
  ⟨chg_setCells b vs _ w, fun i hi => ⟨World.cell?_setCells_out b vs _ w _ (fun _ _ => by show i < o + k ∨ o + k + vs.length ≤ i; omega), World.frozen?_setCells ..⟩⟩
theorem ChgC.cell (w : World) (v : Value) (k : Nat) (hk : k < 78) : ChgC b o w (w.setCell ⟨b, o + k, none⟩ v) :=
  ⟨Chg.setCell w ⟨b, o + k, none⟩ v, fun i hi => ⟨World.cell?_setCell_other _ _ _ _ (by intro q; injection q with q1 q2 q3; omega), World.frozen?_setCell ..⟩⟩
end
structure CliAt (w : World) (b o : Nat) (c : Cli.Cl) (s : Cli.St) (S : PS) : Prop where
  at_ : PSAt w b o S
  ph : 0 ≤ s.1 ∧ s.1 ≤ 4
  eid : S.id = c.id
  eph : S.ph = s.1
  ecp : S.cp = Cli.pubA c
  emp : S.mp = Cli.pubB c
  one : s.1 = 1 → S.n = c.N ∧ S.ch = c.ch ∧ S.ms = c.ms ∧ ListAt w S.sm c.sm ∧ ListAt w S.ss c.ss
  mid : 1 ≤ s.1 → s.1 ≤ 2 → ListAt w S.inp c.inp ∧ S.sd = c.sd
  et : 1 ≤ s.1 → s.1 ≤ 3 → S.t = c.T
  two : s.1 = 2 → (∀ v, v < 13 → S.f v = Cli.firstP c s.2.1 v) ∧ Frm.riseB s.2.1 = true ∧ Cli.keysAgree c s.2.1 = true ∧ (∀ x ∈ s.2.1, 0 ≤ x.2.1 ∧ x.2.1 < 2305843009213693951 ∧ 0 ≤ x.2.2.1 ∧ x.2.2.1 < 2305843009213693951)
  three : s.1 = 3 → (∀ v, v < 13 → S.f v = Cli.secondP c s.2.1 s.2.2.1 v) ∧ Frm.riseB s.2.2.1 = true ∧ Cli.boxAgree c s.2.1 s.2.2.1 = true
  nil : s.1 ≠ 4 → S.told = .slice none 0 0
  four : s.1 = 4 → ItemsAt w S.told (Cli.tells c s.2.1 s.2.2.1 s.2.2.2)
  apart : S.inp.ownBlock ≠ some b ∧ S.sm.ownBlock ≠ some b ∧ S.ss.ownBlock ≠ some b ∧ S.told.ownBlock ≠ some b
theorem CliAt.keepAt {w w' : World} {b o : Nat} {c : Cli.Cl} {s : Cli.St} {S : PS} (h : CliAt w b o c s S) (hs : w.heap.size ≤ w'.heap.size) (ha : PSAt w' b o S) (hb : ∀ x, x ≠ b → CFoot b S x → w'.heap[x]? = w.heap[x]?) : CliAt w' b o c s S where
  at_ := ha
  ph := h.ph
  eid := h.eid
  eph := h.eph
  ecp := h.ecp
  emp := h.emp
  one := fun e => by
    obtain ⟨a1, a2, a3, a4, a5⟩ := h.one e
    exact ⟨a1, a2, a3, a4.keep hs (fun x hx => hb x (fun e => h.apart.2.1 (e ▸ hx)) (.inr (.inr (.inl hx)))), a5.keep hs (fun x hx => hb x (fun e => h.apart.2.2.1 (e ▸ hx)) (.inr (.inr (.inr (.inl hx)))))⟩
  mid := fun e e' => by
    obtain ⟨a1, a2⟩ := h.mid e e'
    exact ⟨a1.keep hs (fun x hx => hb x (fun e => h.apart.1 (e ▸ hx)) (.inr (.inl hx))), a2⟩
  et := h.et
  two := h.two
  three := h.three
  nil := h.nil
  four := fun e => (h.four e).keep hs (fun x hx => hb x (fun e => h.apart.2.2.2 (e ▸ hx)) (.inr (.inr (.inr (.inr hx)))))
  apart := h.apart
theorem CliAt.keep {w w' : World} {b o : Nat} {c : Cli.Cl} {s : Cli.St} {S : PS} (h : CliAt w b o c s S) (hs : w.heap.size ≤ w'.heap.size) (hb : ∀ x, CFoot b S x → w'.heap[x]? = w.heap[x]?) : CliAt w' b o c s S := h.keepAt hs (h.at_.block (hb b (.inl rfl))) (fun x _ hx => hb x hx)
end Go.Proofs.YtchideljndagjabGreat.Co
namespace Go.Proofs.YtchideljndagjabGreat.Co
open Go.ChangeShapes Go.WideShapes Go.ChangeAt Go.RowKit
set_option linter.unusedVariables false
set_option maxHeartbeats 1000000 in
set_option maxRecDepth 100000 in
theorem halt_calls (b oo : Nat) (S : PS) (w : World) (h : PSAt w b oo S) :
    Calls Tryz.prog 200 #[.pointer (some ⟨b, oo, none⟩)] w fun e w' => e = .returned (.tuple #[]) ∧ PSAt w' b oo (haltS S) ∧ ChgC b oo w w' := by
  have c0 := h.c0
  have c2 := h.c2
  have c3 := h.c3
  have hst1 := run_storeCells_cells (P := Tryz.prog) b oo (psCells (haltS S)) 0 w.drew (fun j hj => ((World.there_drew w b oo 78).2 (h.there 0 78 (by omega)) j (by rw [psCells_length] at hj; exact hj)).1) (fun j hj => ((World.there_drew w b oo 78).2 (h.there 0 78 (by omega)) j (by rw [psCells_length] at hj; exact hj)).2) (fun v hv => (Array.all_eq_true_iff_forall_mem.1 (psCells_one (haltS S) rfl rfl rfl rfl)) v (by simpa using hv))
  have hst2 : (storeCells ⟨b, oo, none⟩ ((((Tryz.zeroCells205.toList.set 0 (Value.int IntKind.i64 S.id)).set 1 (Value.int IntKind.i64 0)).set 2 (Value.int IntKind.i64 S.cp)).set 3 (Value.int IntKind.i64 S.mp)) 0).run Tryz.prog w.drew = .ok () (w.drew.setCells b oo (psCells (haltS S))) := hst1
  have HR := hideG (show PSAt (w.drew.setCells b oo (psCells (haltS S))) b oo (haltS S) ∧ ChgC b oo w (w.drew.setCells b oo (psCells (haltS S))) from
    ⟨PSAt.setAll (w := w.drew) h _, (ChgC.drew b oo w).also (ChgC.cells (b := b) (o := oo) w.drew (psCells (haltS S)) 0 (by rw [psCells_length]; decide))⟩)
  clear h hst1
  generalize psCells (haltS S) = cs at *
  generalize S.id = a at *
  generalize S.cp = p at *
  generalize S.mp = q at *
  go_enter Tryz.func200, Tryz.ntmps200
  go_wp2_with fail
  go_region
  all_goals (go_wp2_with fail; go_end0; exact ⟨rfl, HR.out⟩)
end Go.Proofs.YtchideljndagjabGreat.Co
namespace Go.Proofs.YtchideljndagjabGreat.Co
open Go.ChangeShapes Go.WideShapes Go.ChangeAt Go.RowKit
set_option linter.unusedVariables false
structure CliW (w : World) (b oo : Nat) (c : Cli.Cl) (s : Cli.St) (S : PS) : Prop where
  cli : CliAt w b oo c s S
  low : ∀ x, CFoot b S x → x < w.heap.size
theorem CliW.keep {w w' : World} {b oo : Nat} {c : Cli.Cl} {s : Cli.St} {S : PS} (h : CliW w b oo c s S) (hs : w.heap.size ≤ w'.heap.size) (hb : ∀ x, CFoot b S x → w'.heap[x]? = w.heap[x]?) : CliW w' b oo c s S :=
  ⟨h.cli.keep hs hb, fun x hx => Nat.lt_of_lt_of_le (h.low x hx) hs⟩
theorem CliW.below {w w' : World} {b oo : Nat} {c : Cli.Cl} {s : Cli.St} {S : PS} (h : CliW w b oo c s S) (hb : Below w.heap.size w w') : CliW w' b oo c s S := h.keep hb.size (fun x hx => hb.block x (h.low x hx))
theorem CliW.chg {P : Nat → Prop} {w w' : World} {b oo : Nat} {c : Cli.Cl} {s : Cli.St} {S : PS} (h : CliW w b oo c s S) (hc : Chg P w w') (hn : ∀ x, CFoot b S x → ¬ P x) : CliW w' b oo c s S := h.keep hc.size (fun x hx => hc.block x (h.low x hx) (hn x hx))
structure Took (w w' : World) (b oo : Nat) (c : Cli.Cl) (s' : Cli.St) (S S' : PS) : Prop where
  cli : CliW w' b oo c s' S'
  chg : ChgC b oo w w'
  foot : ∀ x, CFoot b S' x → CFoot b S x ∨ w.heap.size ≤ x
theorem cliAt_halt {w' : World} {b oo : Nat} {c : Cli.Cl} {s' : Cli.St} {S : PS} (hs : s'.1 = 0) (hp : PSAt w' b oo (haltS S)) (e1 : S.id = c.id) (e2 : S.cp = Cli.pubA c) (e3 : S.mp = Cli.pubB c) : CliAt w' b oo c s' (haltS S) where
  at_ := hp
  ph := by omega
  eid := e1
  eph := hs.symm
  ecp := e2
  emp := e3
  one := fun e => by omega
  mid := fun e _ => by omega
  et := fun e _ => by omega
  two := fun e => by omega
  three := fun e => by omega
  nil := fun _ => rfl
  four := fun e => by omega
  apart := ⟨by rw [show (haltS S).inp = .slice none 0 0 from rfl, nil_own]; simp, by rw [show (haltS S).sm = .slice none 0 0 from rfl, nil_own]; simp, by rw [show (haltS S).ss = .slice none 0 0 from rfl, nil_own]; simp, by rw [show (haltS S).told = .slice none 0 0 from rfl, nil_own]; simp⟩
theorem took_halt {w w1 w' : World} {b oo : Nat} {c : Cli.Cl} {s' : Cli.St} {S : PS} (hs : s'.1 = 0) (hp : PSAt w' b oo (haltS S)) (e1 : S.id = c.id) (e2 : S.cp = Cli.pubA c) (e3 : S.mp = Cli.pubB c)
    (h1 : ChgC b oo w w1) (h2 : ChgC b oo w1 w') : Took w w' b oo c s' S (haltS S) :=
  ⟨⟨cliAt_halt hs hp e1 e2 e3, fun x hx => by rw [foot_halt x hx]; exact hp.lt⟩, h1.also h2, fun x hx => .inl (.inl (foot_halt x hx))⟩
theorem ChgC.grow {b o : Nat} {w w' w'' : World} (h : ChgC b o w w') (k : Below w'.heap.size w' w'') (hl : b < w'.heap.size) : ChgC b o w w'' := h.also (ChgC.of_below k hl)
end Go.Proofs.YtchideljndagjabGreat.Co
namespace Go.Proofs.YtchideljndagjabGreat.Co
open Go.ChangeShapes Go.WideShapes Go.ChangeAt Go.RowKit
set_option linter.unusedVariables false
set_option maxHeartbeats 2000000 in
set_option maxRecDepth 100000 in
theorem keysAgree_calls (b oo : Nat) (S : PS) (v : Value) (l : List Frm.It) (w : World) (h : PSAt w b oo S) (hl : ItemsAt w v l) (hr : Frm.riseB l = true) (hlen : l.length ≤ 12) (ht : 1 ≤ S.t ∧ S.t ≤ 12) :
    Calls Tryz.prog 258 #[.pointer (some ⟨b, oo, none⟩), v] w fun e w' =>
      e = .returned (.bool ((l.all fun x => decide (x.1 ≤ S.n)) && (decide (S.t ≤ (l.length : Int)) && l.any (ownIt S.id S.cp S.mp)))) ∧ Below w.heap.size w w' := by
  have hbl := h.lt
  have HP := hideG (fun (w1 : World) (hb : Below w.heap.size w w1) => (show w1.cell? ⟨b, oo, none⟩ = some (.int .i64 S.id) ∧ w1.cell? ⟨b, oo + 2, none⟩ = some (.int .i64 S.cp) ∧ w1.cell? ⟨b, oo + 3, none⟩ = some (.int .i64 S.mp) ∧ w1.cell? ⟨b, oo + 4, none⟩ = some (.int .i64 S.n) from
    ⟨(h.below hb).c0, (h.below hb).c2, (h.below hb).c3, (h.below hb).c4⟩))
  have c5 := h.c5
  obtain ⟨a, cap, rfl, l2, l3, _, hc⟩ := items_view hl
  have HC := hideG hc
  have HR := hideG hr
  clear h hl hr hc
  generalize S.id = id at *
  generalize S.cp = cp at *
  generalize S.mp = mp at *
  generalize S.n = N at *
  generalize S.t = t at *
  obtain ⟨n, hn⟩ : ∃ n, n = l.length := ⟨_, rfl⟩
  rw [← hn] at l2 HC hlen ⊢
  have HN := hideG hn
  clear hn
  by_cases t0 : (n : Int) < t
  · have H := hideG (decide_eq_false (show ¬ t ≤ (n : Int) by omega))
    go_enter Tryz.func258, Tryz.ntmps258
    go_wp2_with fail
    go_ret
    exact ⟨ret_bool (by rw [H.out, Bool.false_and, Bool.and_false]), Below.refl _ _⟩
  have HT := hideG (decide_eq_true (show t ≤ (n : Int) by omega))
  go_enter Tryz.func258, Tryz.ntmps258
  go_wp2_with fail
  go_loopw [5, 17] (fun o i wr => ∃ k : Nat, k ≤ n ∧ i = .int .i64 k ∧ o = .bool ((l.take k).any (ownIt id cp mp)) ∧ (∀ j, j < k → (Frm.it l j).1 ≤ N) ∧ Below w.heap.size w wr) (fun _ i _ => n - (intOf i).toNat)
  case atStart => exact ⟨0, Nat.zero_le _, rfl, by simp, fun j hj => absurd hj (by omega), Below.refl _ _⟩
  case round =>
    obtain ⟨k, hk, rfl, rfl, hall, hbel⟩ := hrel
    have HA := hideG hall
    have HB := hideG hbel
    have hsz := hbel.size
    clear hall hbel
    by_cases hlt : k < n
    · obtain ⟨b', off, rfl, hb, hit⟩ := HC.out k hlt
      obtain ⟨d0, d1, d2, d3⟩ := hit.below hb HB.out
      obtain ⟨c0, c2, c3, c4⟩ := HP.out _ HB.out
      clear hit
      have al : ∀ (ob : Obj) (o : Nat), (wr.alloc ob).cell? ⟨b, o, none⟩ = wr.cell? ⟨b, o, none⟩ := fun ob o => ((Below.refl wr.heap.size wr).alloc (Nat.le_refl _) ob).cell (p := ⟨b, o, none⟩) (by show b < _; omega)
      have HS := hideG (any_take_succ l k (by rw [← HN.out]; exact hlt) (ownIt id cp mp))
      obtain ⟨x, hx⟩ : ∃ x, x = (Frm.it l k).1 := ⟨_, rfl⟩
      obtain ⟨xa, hxa⟩ : ∃ x, x = (Frm.it l k).2.1 := ⟨_, rfl⟩
      obtain ⟨xb, hxb⟩ : ∃ x, x = (Frm.it l k).2.2.1 := ⟨_, rfl⟩
      have HX := hideG hx
      have HW := hideG (show ownIt id cp mp (Frm.it l k) = (decide (x = id) && (decide (xa = cp) && decide (xb = mp))) by rw [hx, hxa, hxb]; rfl)
      have HO := hideG (fun (e : x = id) => own_none HR.out (show k < l.length by rw [← HN.out]; exact hlt) (a := cp) (b := mp) (show (Frm.it l k).1 = id by rw [← hx]; exact e))
      rw [← hx] at d0
      rw [← hxa] at d1
      rw [← hxb] at d2
      clear hx hxa hxb
      generalize (Frm.it l k).2.2.2 = xc at *
      obtain ⟨o, ho⟩ : ∃ o, o = (l.take k).any (ownIt id cp mp) := ⟨_, rfl⟩
      rw [← ho]
      have HOO := hideG ho
      clear ho
      by_cases q1 : N < x
      · have H := hideG (show (l.all fun x => decide (x.1 ≤ N)) = false from List.all_eq_false.2 ⟨Frm.it l k, by rw [Cli.it_get l k (by rw [← HN.out]; exact hlt)]; exact List.getElem_mem _, by rw [← HX.out, decide_eq_false (by omega)]; exact Bool.false_ne_true⟩)
        go_wp2_with fail
        go_quiet (fail)
        go_wp2_with fail
        go_ret
        exact ⟨ret_bool (by rw [H.out, Bool.false_and]), (HB.out.alloc (by omega) _).trans ((below_drewN _ _).mono (by simp; omega))⟩
      · by_cases q2 : x = id
        · have q2' : (x == id) = true := by simpa using q2
          have HO2 := hideG (HO.out q2)
          by_cases q3 : xa = cp
          · have q3' : (xa == cp) = true := by simpa using q3
            have HF := hideG (show (l.take (k + 1)).any (ownIt id cp mp) = (xb == mp) by rw [HS.out, HW.out, HO2.out, decide_eq_true q2, decide_eq_true q3]; by_cases q : xb = mp <;> simp [q])
            have HID := hideG q2
            have HID3 := hideG q3
            clear q2 q3
            go_wp2_with fail
            go_quiet (fail)
            go_wp2_with fail
            go_quiet (fail)
            go_wp2_with fail
            go_quiet (fail)
            go_wp2_with fail
            go_roundw
            case rel =>
              refine ⟨k + 1, by omega, by go_num, by rw [HF.out], fun j hj => ?_, (HB.out.alloc (by omega) _).trans ((below_drewN _ _).mono (by simp; omega))⟩
              by_cases e : j = k
              · subst e; rw [← HX.out]; omega
              · exact HA.out j (by omega)
            case measure => simp [intOf]; omega
          · have q3' : (xa == cp) = false := by simpa using q3
            have HF := hideG (show (l.take (k + 1)).any (ownIt id cp mp) = false by rw [HS.out, HW.out, HO2.out, decide_eq_true q2, decide_eq_false q3]; rfl)
            have HID := hideG q2
            have HID3 := hideG q3
            clear q2 q3
            go_wp2_with fail
            go_quiet (fail)
            go_wp2_with fail
            go_quiet (fail)
            go_wp2_with fail
            go_quiet (fail)
            go_wp2_with fail
            go_roundw
            case rel =>
              refine ⟨k + 1, by omega, by go_num, by rw [HF.out], fun j hj => ?_, (HB.out.alloc (by omega) _).trans ((below_drewN _ _).mono (by simp; omega))⟩
              by_cases e : j = k
              · subst e; rw [← HX.out]; omega
              · exact HA.out j (by omega)
            case measure => simp [intOf]; omega
        · have q2' : (x == id) = false := by simpa using q2
          have HF := hideG (show (l.take (k + 1)).any (ownIt id cp mp) = o by rw [HS.out, HW.out, decide_eq_false q2, Bool.false_and, Bool.or_false, HOO.out])
          have HID := hideG q2
          clear q2
          go_wp2_with fail
          go_quiet (fail)
          go_wp2_with fail
          go_quiet (fail)
          go_wp2_with fail
          go_roundw
          case rel =>
            refine ⟨k + 1, by omega, by go_num, by rw [HF.out], fun j hj => ?_, (HB.out.alloc (by omega) _).trans ((below_drewN _ _).mono (by simp; omega))⟩
            by_cases e : j = k
            · subst e; rw [← HX.out]; omega
            · exact HA.out j (by omega)
          case measure => simp [intOf]; omega
    · have ek : k = n := by omega
      subst ek
      have H1 := hideG (show (l.all fun x => decide (x.1 ≤ N)) = true from List.all_eq_true.2 fun x hx => by
        obtain ⟨i, hi, rfl⟩ := List.getElem_of_mem hx
        have := HA.out i (by rw [HN.out]; exact hi)
        rw [Cli.it_get l i hi] at this
        exact decide_eq_true this)
      have H2 := hideG (show (l.take k).any (ownIt id cp mp) = l.any (ownIt id cp mp) by rw [HN.out, List.take_length])
      go_wp2_with fail
      go_ret
      exact ⟨ret_bool (by rw [H1.out, HT.out, H2.out]; rfl), HB.out⟩
end Go.Proofs.YtchideljndagjabGreat.Co
namespace Go.Proofs.YtchideljndagjabGreat.Co
open Go.ChangeShapes Go.WideShapes Go.ChangeAt Go.RowKit
set_option linter.unusedVariables false
set_option maxHeartbeats 1000000 in
set_option maxRecDepth 100000 in
theorem maskShareFor_calls (b oo : Nat) (S : PS) (zs : List Int) (v : Int) (w : World) (h : PSAt w b oo S) (hl : ListAt w S.sm zs) (hall : zs.all Num.elB = true) (h0 : 0 ≤ S.ms) (h1 : S.ms < 2305843009213693951) (v0 : 0 ≤ v) (v1 : v < 2305843009213693951) :
    Calls Tryz.prog 293 #[.pointer (some ⟨b, oo, none⟩), .int .i64 v] w fun e w' => e = .returned (.int .i64 (Pol.polyP S.ms zs v)) ∧ Below w.heap.size w w' := by
  have c8 := h.c8
  have c10 := h.c10
  have HL := hideG hl
  have HA := hideG hall
  have HC := hideG (fun (nq : Nat) => valueAt_calls S.ms S.sm zs v (w.drewN nq) (hl.below (below_drewN w nq)) hall h0 h1 v0 v1)
  clear h hl hall
  generalize S.ms = m at *
  generalize S.sm = u at *
  go_enter Tryz.func293, Tryz.ntmps293
  go_wp2_with fail
  go_quiet ((go_at_call 265; refine Calls.quiet_of_same (HC.out _)))
  go_wp2_with fail
  go_ret
  exact ⟨rfl, below_drewN _ _⟩
set_option maxHeartbeats 1000000 in
set_option maxRecDepth 100000 in
theorem seedShareFor_calls (b oo : Nat) (S : PS) (zs : List Int) (v : Int) (w : World) (h : PSAt w b oo S) (hl : ListAt w S.ss zs) (hall : zs.all Num.elB = true) (h0 : 0 ≤ S.sd) (h1 : S.sd < 2305843009213693951) (v0 : 0 ≤ v) (v1 : v < 2305843009213693951) :
    Calls Tryz.prog 292 #[.pointer (some ⟨b, oo, none⟩), .int .i64 v] w fun e w' => e = .returned (.int .i64 (Pol.polyP S.sd zs v)) ∧ Below w.heap.size w w' := by
  have c8 := h.c9
  have c10 := h.c11
  have HL := hideG hl
  have HA := hideG hall
  have HC := hideG (fun (nq : Nat) => valueAt_calls S.sd S.ss zs v (w.drewN nq) (hl.below (below_drewN w nq)) hall h0 h1 v0 v1)
  clear h hl hall
  generalize S.sd = m at *
  generalize S.ss = u at *
  go_enter Tryz.func292, Tryz.ntmps292
  go_wp2_with fail
  go_quiet ((go_at_call 265; refine Calls.quiet_of_same (HC.out _)))
  go_wp2_with fail
  go_ret
  exact ⟨rfl, below_drewN _ _⟩
set_option maxHeartbeats 1000000 in
set_option maxRecDepth 100000 in
theorem written_calls_c (b oo : Nat) (S : PS) (k : Int) (v : Value) (l : List Frm.It) (w : World) (h : PSAt w b oo S) (hl : ItemsAt w v l) (ho : Frm.okF k S.id l = true) :
    Calls Tryz.prog 193 #[.pointer (some ⟨b, oo, none⟩), .int .i64 k, v] w fun e w' => ∃ va, e = .returned va ∧ w'.ownsRow w.heap.size 5 1 va (Frm.encF k S.id l).length ((Frm.encF k S.id l).map (Value.int .u8)) ∧ Below w.heap.size w w' := by
  have c0 := h.c0
  have HC := hideG (encode_yes k S.id v l w hl ho)
  obtain ⟨a, cap, rfl, -⟩ := items_view hl
  clear h hl ho
  go_enter Tryz.func193, Tryz.ntmps193
  go_wp2_with fail
  refine HC.out.mono ?_
  rintro e w' ⟨va, rfl, ho, hb⟩
  have HO := hideG ho
  have HB := hideG hb
  clear ho hb
  go_wp2_with fail
  go_ret
  exact ⟨_, rfl, HO.out, HB.out⟩
end Go.Proofs.YtchideljndagjabGreat.Co
