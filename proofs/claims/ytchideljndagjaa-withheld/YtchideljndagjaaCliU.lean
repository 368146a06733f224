/- What a client's Take leaves behind; lists that lie in blocks that nobody turned. -/
import Derived.Test.YtchideljndagjaaCliH
import Derived.Test.YtchideljndagjaaWireStr
namespace Go.Proofs.Ytchideljndagjaa
open Go.RowKit
set_option linter.unusedVariables false

theorem ListAt.chg {P : Nat → Prop} {w w' : World} {v : Value} {zs : List Int} (h : ListAt w v zs) (hc : Chg P w w') (hn : ∀ x, v.ownBlock = some x → ¬ P x) : ListAt w' v zs := by
  obtain ⟨a, cap, h1, h2, h3, h4, h5⟩ := h
  refine ⟨a, cap, h1, h2, h3, h4, ?_⟩
  rcases h5 with h5 | ⟨b, off, e1, e2, e3⟩
  · exact .inl h5
  · refine .inr ⟨b, off, e1, Nat.lt_of_lt_of_le e2 hc.size, fun i hi => ?_⟩
    rw [← e3 i hi]
    exact World.cell?_of_block (w := w) (hc.block b e2 (hn b (by rw [h1, e1]; rfl)))
theorem BytesAt.chg {P : Nat → Prop} {w w' : World} {v : Value} {zs : List Int} (h : BytesAt w v zs) (hc : Chg P w w') (hn : ∀ x, v.ownBlock = some x → ¬ P x) : BytesAt w' v zs := by
  obtain ⟨a, cap, h1, h2, h3, h4, h5⟩ := h
  refine ⟨a, cap, h1, h2, h3, h4, ?_⟩
  rcases h5 with h5 | ⟨b, off, e1, e2, e3⟩
  · exact .inl h5
  · refine .inr ⟨b, off, e1, Nat.lt_of_lt_of_le e2 hc.size, fun i hi => ?_⟩
    rw [← e3 i hi]
    exact World.cell?_of_block (w := w) (hc.block b e2 (hn b (by rw [h1, e1]; rfl)))
theorem ItemsAt.chg {P : Nat → Prop} {w w' : World} {v : Value} {l : List Frm.It} (h : ItemsAt w v l) (hc : Chg P w w') (hn : ∀ x, v.ownBlock = some x → ¬ P x) : ItemsAt w' v l := by
  obtain ⟨a, cap, h1, h2, h3, h4, h5⟩ := h
  refine ⟨a, cap, h1, h2, h3, h4, ?_⟩
  rcases h5 with h5 | ⟨b, off, e1, e2, e3⟩
  · exact .inl h5
  · refine .inr ⟨b, off, e1, Nat.lt_of_lt_of_le e2 hc.size, fun i hi => ?_⟩
    have hcl : ∀ o, w'.cell? ⟨b, o, none⟩ = w.cell? ⟨b, o, none⟩ := fun o => World.cell?_of_block (w := w) (hc.block b e2 (hn b (by rw [h1, e1]; rfl)))
    obtain ⟨i0, i1, i2, i3⟩ := e3 i hi
    exact ⟨(hcl _).trans i0, (hcl _).trans i1, (hcl _).trans i2, (hcl _).trans i3⟩
theorem Chg.drew (S : Nat → Prop) (w : World) : Chg S w w.drew := ⟨rfl, rfl, rfl, Nat.le_refl _, fun _ _ _ => rfl⟩
theorem Chg.also {S : Nat → Prop} {a b c : World} (h : Chg S a b) (k : Chg S b c) : Chg S a c := h.trans k (fun _ e _ => e)
theorem Chg.grow {S : Nat → Prop} {a b c : World} (h : Chg S a b) (k : Below b.heap.size b c) : Chg S a c := h.trans (Chg.of_below (S := S) k) (fun _ e _ => e)

/-- The items of a frame fit. -/
theorem okF_in {k fr : Int} {l : List Frm.It} (h : Frm.okF k fr l = true) : ∀ x ∈ l, inIt x := fun x hx => by
  obtain ⟨i, hi, rfl⟩ := List.getElem_of_mem hx
  have hok := (Frm.okF_parts h).2.2.2.2 i hi
  have hid := (Frm.okF_bounds h).2.2.2.2.2 i hi
  obtain ⟨n1, n2, n3⟩ := Frm.okI_named hok
  rw [Cli.it_get l i hi] at hid n1 n2 n3
  refine ⟨?_, ?_, ?_, ?_⟩ <;> unfold inI <;> omega
theorem okF_keys {fr : Int} {l : List Frm.It} (h : Frm.okF 2 fr l = true) : ∀ x ∈ l, 0 ≤ x.2.1 ∧ x.2.1 < 2305843009213693951 ∧ 0 ≤ x.2.2.1 ∧ x.2.2.1 < 2305843009213693951 := fun x hx => by
  obtain ⟨i, hi, rfl⟩ := List.getElem_of_mem hx
  have hok := (Frm.okF_parts h).2.2.2.2 i hi
  rw [Cli.it_get l i hi] at hok
  have e : (Frm.keyB (l[i]).2.1 && (Frm.keyB (l[i]).2.2.1 && Frm.zB (l[i]).2.2.2)) = true := hok
  rw [Bool.and_eq_true, Bool.and_eq_true, Frm.keyB_iff, Frm.keyB_iff] at e
  omega
theorem okF_box {fr : Int} {l : List Frm.It} (h : Frm.okF 4 fr l = true) : ∀ x ∈ l, (0 ≤ x.2.1 ∧ x.2.1 < 2305843009213693951) ∧ (0 ≤ x.2.2.1 ∧ x.2.2.1 < 2305843009213693951) ∧ (0 ≤ x.2.2.2 ∧ x.2.2.2 < 2305843009213693951) := fun x hx => by
  obtain ⟨i, hi, rfl⟩ := List.getElem_of_mem hx
  have hok := (Frm.okF_parts h).2.2.2.2 i hi
  rw [Cli.it_get l i hi] at hok
  have e : (Num.elB (l[i]).2.1 && (Num.elB (l[i]).2.2.1 && Num.elB (l[i]).2.2.2)) = true := hok
  rw [Bool.and_eq_true, Bool.and_eq_true, Num.elB_iff, Num.elB_iff, Num.elB_iff] at e
  exact e

/-- A client in memory, its blocks all there. -/
structure CliW (w : World) (b : Nat) (c : Cli.Cl) (s : Cli.St) (S : PS) : Prop where
  cli : CliAt w b c s S
  low : ∀ x, CFoot b S x → x < w.heap.size
theorem CliW.keep {w w' : World} {b : Nat} {c : Cli.Cl} {s : Cli.St} {S : PS} (h : CliW w b c s S) (hs : w.heap.size ≤ w'.heap.size) (hb : ∀ x, CFoot b S x → w'.heap[x]? = w.heap[x]?) : CliW w' b c s S :=
  ⟨h.cli.keep hs hb, fun x hx => Nat.lt_of_lt_of_le (h.low x hx) hs⟩
theorem CliW.below {w w' : World} {b : Nat} {c : Cli.Cl} {s : Cli.St} {S : PS} (h : CliW w b c s S) (hb : Below w.heap.size w w') : CliW w' b c s S := h.keep hb.size (fun x hx => hb.block x (h.low x hx))
theorem CliW.chg {P : Nat → Prop} {w w' : World} {b : Nat} {c : Cli.Cl} {s : Cli.St} {S : PS} (h : CliW w b c s S) (hc : Chg P w w') (hn : ∀ x, CFoot b S x → ¬ P x) : CliW w' b c s S := h.keep hc.size (fun x hx => hc.block x (h.low x hx) (hn x hx))

/-- What a client's Take leaves: the client, in its own block; nothing else has turned; its lists are as they were, or new. -/
structure Took (w w' : World) (b : Nat) (c : Cli.Cl) (s' : Cli.St) (S S' : PS) : Prop where
  cli : CliW w' b c s' S'
  chg : Chg (fun x => x = b) w w'
  foot : ∀ x, CFoot b S' x → CFoot b S x ∨ w.heap.size ≤ x
/-- The answer: nothing, or the bytes of a frame, in a block that is new and not the client's. -/
def Ans (w w' : World) (b : Nat) (S' : PS) (va : Value) : Option Cli.Fr → Prop
  | none => va = .slice none 0 0
  | some f => w'.ownsRow w.heap.size 5 1 va (Frm.encF f.1 f.2.1 f.2.2).length ((Frm.encF f.1 f.2.1 f.2.2).map (Value.int .u8)) ∧ ∀ x, va.ownBlock = some x → ¬ CFoot b S' x

theorem nil_own : (Value.slice none 0 0).ownBlock = none := rfl
theorem cliAt_halt {w' : World} {b : Nat} {c : Cli.Cl} {s' : Cli.St} {S : PS} (hs : s'.1 = 0) (hp : PSAt w' b 102 (haltS S)) (e1 : S.id = c.id) (e2 : S.cp = Cli.pubA c) (e3 : S.mp = Cli.pubB c) : CliAt w' b c s' (haltS S) where
  at_ := hp
  ph := by omega
  eid := e1
  eph := hs.symm
  ecp := e2
  emp := e3
  one := fun e => by omega
  mid := fun e _ => by omega
  et := fun e _ => by omega
  two := fun e => by omega
  three := fun e => by omega
  nil := fun _ => rfl
  four := fun e => by omega
  apart := ⟨by rw [show (haltS S).inp = .slice none 0 0 from rfl, nil_own]; simp, by rw [show (haltS S).sm = .slice none 0 0 from rfl, nil_own]; simp, by rw [show (haltS S).ss = .slice none 0 0 from rfl, nil_own]; simp, by rw [show (haltS S).told = .slice none 0 0 from rfl, nil_own]; simp⟩
theorem foot_halt {b : Nat} {S : PS} : ∀ x, CFoot b (haltS S) x → x = b := by
  intro x h
  rcases h with h | h | h | h | h
  · exact h
  all_goals (unfold haltS at h; simp [nil_own] at h)
/-- Halted: whatever was there before. -/
theorem took_halt {w w1 w' : World} {b : Nat} {c : Cli.Cl} {s' : Cli.St} {S : PS} (hs : s'.1 = 0) (hp : PSAt w' b 102 (haltS S)) (e1 : S.id = c.id) (e2 : S.cp = Cli.pubA c) (e3 : S.mp = Cli.pubB c)
    (h1 : Chg (fun x => x = b) w w1) (h2 : Chg (fun x => x = b) w1 w') : Took w w' b c s' S (haltS S) :=
  ⟨⟨cliAt_halt hs hp e1 e2 e3, fun x hx => by rw [foot_halt x hx]; exact hp.lt⟩, h1.also h2, fun x hx => .inl (.inl (foot_halt x hx))⟩

end Go.Proofs.Ytchideljndagjaa
