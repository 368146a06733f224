/- Contract of the program's client: halt. -/
import Derived.Test.YtchideljndagjaaGreatPkClAC
import Derived.Test.YtchideljndagjaaGreatPkClAB
import Derived.WalkSpells
import Derived.RegionTactic
import Derived.BigRegion
import Derived.Test.YtchideljndagjaaGreatRows
import Derived.Laws.Concat
import Derived.Test.YtchideljndagjaaGreatPkClAE
import Derived.Test.YtchideljndagjaaGreatPkClAF
import Derived.Test.YtchideljndagjaaGreatPkClAG
import Derived.BigQuiet
namespace Go.Proofs.YtchideljndagjaaGreat
open Go.ChangeShapes Go.WideShapes Go.ChangeAt Go.RowKit
set_option linter.unusedVariables false

/-- What is left of a client that has halted. -/
def haltS (S : PS) : PS := ⟨S.id, 0, S.cp, S.mp, 0, 0, .slice none 0 0, 0, 0, 0, .slice none 0 0, .slice none 0 0, fun _ => Cli.Pr.z, .slice none 0 0⟩

theorem size98 : (Tryz.prog.info? 164).map (·.size) = some 78 := by kernel_rfl
theorem psCells_one (s : PS) (h1 : s.inp.oneCell' = true) (h2 : s.sm.oneCell' = true) (h3 : s.ss.oneCell' = true) (h4 : s.told.oneCell' = true) : (psCells s).toArray.all (·.oneCell') = true := by
  refine all_oneCell_toArray fun v hv => ?_
  unfold psCells psHead at hv
  rcases List.mem_append.1 hv with hv | hv
  · simp only [List.mem_cons, List.not_mem_nil, or_false] at hv
    rcases hv with rfl | rfl | rfl | rfl | rfl | rfl | rfl | rfl | rfl | rfl | rfl | rfl <;> first | rfl | assumption
  · rcases List.mem_append.1 hv with hv | hv
    · exact circ_one _ v hv
    · simp at hv; subst hv; exact h4

set_option maxHeartbeats 1000000 in
set_option maxRecDepth 100000 in
theorem halt_calls (b : Nat) (T : TypeId) (S : PS) (w : World) (h : PSAt w b T S) :
    Calls Tryz.prog 221 #[.pointer (some ⟨b, 0, none⟩)] w fun e w' => e = .returned (.tuple #[]) ∧ PSAt w' b T (haltS S) ∧ Chg (fun x => x = b) w w' := by
  have c0 := h.c0
  have c2 := h.c2
  have c3 := h.c3
  have hst0 := run_storeAt_mid (P := Tryz.prog) w.drew b 0 164 (psCells (haltS S)).toArray (by rw [World.there_drew, List.size_toArray, psCells_length]; exact h.there 0 78 (by omega)) (by rw [size98, List.size_toArray, psCells_length]) (psCells_one _ rfl rfl rfl rfl)
  have hst1 := run_storeCells_cells (P := Tryz.prog) b 0 (psCells (haltS S)) 0 w.drew (fun j hj => ((World.there_drew w b 0 78).2 (h.there 0 78 (by omega)) j (by rw [psCells_length] at hj; exact hj)).1) (fun j hj => ((World.there_drew w b 0 78).2 (h.there 0 78 (by omega)) j (by rw [psCells_length] at hj; exact hj)).2) (fun v hv => (Array.all_eq_true_iff_forall_mem.1 (psCells_one (haltS S) rfl rfl rfl rfl)) v (by simpa using hv))
  have hst2 : (storeCells ⟨b, 0, none⟩ ((((Tryz.zeroCells164.toList.set 0 (Value.int IntKind.i64 S.id)).set 1 (Value.int IntKind.i64 0)).set 2 (Value.int IntKind.i64 S.cp)).set 3 (Value.int IntKind.i64 S.mp)) 0).run Tryz.prog w.drew = .ok () (w.drew.setCells b 0 (psCells (haltS S))) := hst1
  have HR := hideG (show PSAt (w.drew.setCells b 0 (psCells (haltS S))) b T (haltS S) ∧ Chg (fun x => x = b) w (w.drew.setCells b 0 (psCells (haltS S))) from
    ⟨PSAt.setAll (w := w.drew) h _, (Chg.of_below (S := fun x => x = b) (w := w) (w' := w.drew) (Below.refl _ _).drew).trans (chg_setCells b _ 0 w.drew) (fun x e _ => e)⟩)
  clear h hst0 hst1
  generalize psCells (haltS S) = cs at *
  generalize S.id = a at *
  generalize S.cp = p at *
  generalize S.mp = q at *
  go_enter Tryz.func221, Tryz.ntmps221
  go_wp2_with fail
  go_region
  all_goals (go_wp2_with fail; go_end0; exact ⟨rfl, HR.out⟩)

end Go.Proofs.YtchideljndagjaaGreat

namespace Go.Proofs.YtchideljndagjaaGreat
open Go.RowKit
set_option linter.unusedVariables false

theorem conv_str {w : World} {v : Value} {zs : List Int} (h : BytesAt w v zs) : (convert 67 9 v).run Tryz.prog w = .ok (.string (strOfNums zs)) w := by
  obtain ⟨a, cap, rfl, h2, h3, h4, h5⟩ := h
  rcases h5 with rfl | ⟨b, off, rfl, _, hc⟩
  · cases a with
    | none => exact run_convert_bytes_nil w 67 5 Tryz.underlying67 Tryz.underlying5 0 cap 9 Tryz.underlying9
    | some x =>
      rw [List.length_nil, run_convert_bytes_string w 67 9 5 (some x) 0 cap Tryz.underlying67 Tryz.underlying5 Tryz.underlying9,
        run_bytesToString w x 0 cap [] (by simpa using run_loadCells_list (P := Tryz.prog) w x [] (by simp))]
      rfl
  · exact run_convert_bytes_arg w 67 5 Tryz.underlying67 Tryz.underlying5 b off zs.length cap zs rfl (fun i hi => hc i hi) 9 Tryz.underlying9

/-- The new block of '[]byte(s)'. -/
def strBlk (w : World) (s : ByteArray) : Obj := .cells (bytesRow s (grownCap w s.size 0 5)) 5 ((bytesRow s (grownCap w s.size 0 5)).size, (bytesRow s (grownCap w s.size 0 5)).size + 1)

theorem conv_bytes (w : World) (s : ByteArray) : (convert 9 67 (.string s)).run Tryz.prog w = .ok (.slice (some ⟨w.heap.size, 0, none⟩) s.size (grownCap w s.size 0 5)) (w.drew.alloc (strBlk w s)) :=
  run_bytes_of_string w 9 67 5 s Tryz.underlying9 Tryz.underlying67 Tryz.underlying5

theorem bytesAt_new (w : World) (s : ByteArray) (hs : s.size ≤ maxLen) : BytesAt (w.drew.alloc (strBlk w s)) (.slice (some ⟨w.heap.size, 0, none⟩) s.size (grownCap w s.size 0 5)) (bl s) := by
  refine ⟨_, _, by rw [bl_length], by rw [bl_length]; exact grownCap_ge _ _ _ _, grownCap_le_maxLen _ _ _ _ hs, bl_isB s, .inr ⟨w.heap.size, 0, rfl, (by show w.heap.size < (w.drew.heap.push _).size; rw [Array.size_push]; exact Nat.lt_succ_self _), fun i hi => ?_⟩⟩
  rw [bl_length] at hi
  have hi' : i < s.data.size := hi
  have := World.cell?_alloc_mark w.drew (bytesRow s (grownCap w s.size 0 5)) 5 ((bytesRow s (grownCap w s.size 0 5)).size, (bytesRow s (grownCap w s.size 0 5)).size + 1) i
  rw [Nat.zero_add]
  refine this.trans ?_
  rw [bytesRow_at s _ i hi']
  unfold Frm.bAt bl
  rw [List.getD_eq_getElem?_getD, List.getElem?_map, Array.getElem?_toList, Array.getElem?_eq_getElem hi']
  rfl

theorem below_bytes (w : World) (s : ByteArray) : Below w.heap.size w (w.drew.alloc (strBlk w s)) := ((Below.refl _ _).drew).alloc (Nat.le_refl _) _

theorem conv_ex (w : World) (s : ByteArray) (hs : s.size ≤ maxLen) : ∃ v w', (convert 9 67 (.string s)).run Tryz.prog w = .ok v w' ∧ BytesAt w' v (bl s) ∧ Below w.heap.size w w' :=
  ⟨_, _, conv_bytes w s, bytesAt_new w s hs, below_bytes w s⟩

theorem bytesN_isB (v : Int) : Frm.isB (Frm.bytesN v) := by
  intro x hx
  unfold Frm.bytesN at hx
  simp only [List.mem_cons, List.not_mem_nil, or_false] at hx
  omega

theorem encF_isB {k fr : Int} {l : List Frm.It} (h : Frm.okF k fr l = true) : Frm.isB (Frm.encF k fr l) := by
  obtain ⟨o1, o2, o3, o4, o5, o6⟩ := Frm.okF_bounds h
  intro x hx
  unfold Frm.encF at hx
  simp only [List.mem_cons] at hx
  rcases hx with rfl | rfl | rfl | hx
  · omega
  · omega
  · omega
  · obtain ⟨y, hy, hx⟩ := List.mem_flatten.1 hx
    obtain ⟨t, ht, rfl⟩ := List.mem_map.1 hy
    obtain ⟨i, hi, rfl⟩ := List.getElem_of_mem ht
    have hid := o6 i hi
    have e : Frm.it l i = l[i] := by unfold Frm.it; rw [List.getD_eq_getElem?_getD, List.getElem?_eq_getElem hi]; rfl
    rw [e] at hid
    unfold Frm.encI at hx
    rcases List.mem_cons.1 hx with rfl | hx
    · omega
    · obtain ⟨z, hz, hx⟩ := List.mem_flatten.1 hx
      obtain ⟨q, _, rfl⟩ := List.mem_map.1 hz
      exact bytesN_isB q x hx

end Go.Proofs.YtchideljndagjaaGreat

namespace Go.Proofs.YtchideljndagjaaGreat
open Go.RowKit
set_option linter.unusedVariables false

theorem ListAt.chg {P : Nat → Prop} {w w' : World} {v : Value} {zs : List Int} (h : ListAt w v zs) (hc : Chg P w w') (hn : ∀ x, v.ownBlock = some x → ¬ P x) : ListAt w' v zs := by
  obtain ⟨a, cap, h1, h2, h3, h4, h5⟩ := h
  refine ⟨a, cap, h1, h2, h3, h4, ?_⟩
  rcases h5 with h5 | ⟨b, off, e1, e2, e3⟩
  · exact .inl h5
  · refine .inr ⟨b, off, e1, Nat.lt_of_lt_of_le e2 hc.size, fun i hi => ?_⟩
    rw [← e3 i hi]
    exact World.cell?_of_block (w := w) (hc.block b e2 (hn b (by rw [h1, e1]; rfl)))
theorem BytesAt.chg {P : Nat → Prop} {w w' : World} {v : Value} {zs : List Int} (h : BytesAt w v zs) (hc : Chg P w w') (hn : ∀ x, v.ownBlock = some x → ¬ P x) : BytesAt w' v zs := by
  obtain ⟨a, cap, h1, h2, h3, h4, h5⟩ := h
  refine ⟨a, cap, h1, h2, h3, h4, ?_⟩
  rcases h5 with h5 | ⟨b, off, e1, e2, e3⟩
  · exact .inl h5
  · refine .inr ⟨b, off, e1, Nat.lt_of_lt_of_le e2 hc.size, fun i hi => ?_⟩
    rw [← e3 i hi]
    exact World.cell?_of_block (w := w) (hc.block b e2 (hn b (by rw [h1, e1]; rfl)))
theorem ItemsAt.chg {P : Nat → Prop} {w w' : World} {v : Value} {l : List Frm.It} (h : ItemsAt w v l) (hc : Chg P w w') (hn : ∀ x, v.ownBlock = some x → ¬ P x) : ItemsAt w' v l := by
  obtain ⟨a, cap, h1, h2, h3, h4, h5⟩ := h
  refine ⟨a, cap, h1, h2, h3, h4, ?_⟩
  rcases h5 with h5 | ⟨b, off, e1, e2, e3⟩
  · exact .inl h5
  · refine .inr ⟨b, off, e1, Nat.lt_of_lt_of_le e2 hc.size, fun i hi => ?_⟩
    have hcl : ∀ o, w'.cell? ⟨b, o, none⟩ = w.cell? ⟨b, o, none⟩ := fun o => World.cell?_of_block (w := w) (hc.block b e2 (hn b (by rw [h1, e1]; rfl)))
    obtain ⟨i0, i1, i2, i3⟩ := e3 i hi
    exact ⟨(hcl _).trans i0, (hcl _).trans i1, (hcl _).trans i2, (hcl _).trans i3⟩
theorem Chg.drew (S : Nat → Prop) (w : World) : Chg S w w.drew := ⟨rfl, rfl, rfl, Nat.le_refl _, fun _ _ _ => rfl⟩
theorem Chg.also {S : Nat → Prop} {a b c : World} (h : Chg S a b) (k : Chg S b c) : Chg S a c := h.trans k (fun _ e _ => e)
theorem Chg.grow {S : Nat → Prop} {a b c : World} (h : Chg S a b) (k : Below b.heap.size b c) : Chg S a c := h.trans (Chg.of_below (S := S) k) (fun _ e _ => e)

/-- The items of a frame fit. -/
theorem okF_in {k fr : Int} {l : List Frm.It} (h : Frm.okF k fr l = true) : ∀ x ∈ l, inIt x := fun x hx => by
  obtain ⟨i, hi, rfl⟩ := List.getElem_of_mem hx
  have hok := (Frm.okF_parts h).2.2.2.2 i hi
  have hid := (Frm.okF_bounds h).2.2.2.2.2 i hi
  obtain ⟨n1, n2, n3⟩ := Frm.okI_named hok
  rw [Cli.it_get l i hi] at hid n1 n2 n3
  refine ⟨?_, ?_, ?_, ?_⟩ <;> unfold inI <;> omega
theorem okF_keys {fr : Int} {l : List Frm.It} (h : Frm.okF 2 fr l = true) : ∀ x ∈ l, 0 ≤ x.2.1 ∧ x.2.1 < 2305843009213693951 ∧ 0 ≤ x.2.2.1 ∧ x.2.2.1 < 2305843009213693951 := fun x hx => by
  obtain ⟨i, hi, rfl⟩ := List.getElem_of_mem hx
  have hok := (Frm.okF_parts h).2.2.2.2 i hi
  rw [Cli.it_get l i hi] at hok
  have e : (Frm.keyB (l[i]).2.1 && (Frm.keyB (l[i]).2.2.1 && Frm.zB (l[i]).2.2.2)) = true := hok
  rw [Bool.and_eq_true, Bool.and_eq_true, Frm.keyB_iff, Frm.keyB_iff] at e
  omega
theorem okF_box {fr : Int} {l : List Frm.It} (h : Frm.okF 4 fr l = true) : ∀ x ∈ l, (0 ≤ x.2.1 ∧ x.2.1 < 2305843009213693951) ∧ (0 ≤ x.2.2.1 ∧ x.2.2.1 < 2305843009213693951) ∧ (0 ≤ x.2.2.2 ∧ x.2.2.2 < 2305843009213693951) := fun x hx => by
  obtain ⟨i, hi, rfl⟩ := List.getElem_of_mem hx
  have hok := (Frm.okF_parts h).2.2.2.2 i hi
  rw [Cli.it_get l i hi] at hok
  have e : (Num.elB (l[i]).2.1 && (Num.elB (l[i]).2.2.1 && Num.elB (l[i]).2.2.2)) = true := hok
  rw [Bool.and_eq_true, Bool.and_eq_true, Num.elB_iff, Num.elB_iff, Num.elB_iff] at e
  exact e

/-- A client in memory, its blocks all there. -/
structure CliW (w : World) (b : Nat) (c : Cli.Cl) (s : Cli.St) (S : PS) : Prop where
  cli : CliAt w b c s S
  low : ∀ x, CFoot b S x → x < w.heap.size
theorem CliW.keep {w w' : World} {b : Nat} {c : Cli.Cl} {s : Cli.St} {S : PS} (h : CliW w b c s S) (hs : w.heap.size ≤ w'.heap.size) (hb : ∀ x, CFoot b S x → w'.heap[x]? = w.heap[x]?) : CliW w' b c s S :=
  ⟨h.cli.keep hs hb, fun x hx => Nat.lt_of_lt_of_le (h.low x hx) hs⟩
theorem CliW.below {w w' : World} {b : Nat} {c : Cli.Cl} {s : Cli.St} {S : PS} (h : CliW w b c s S) (hb : Below w.heap.size w w') : CliW w' b c s S := h.keep hb.size (fun x hx => hb.block x (h.low x hx))
theorem CliW.chg {P : Nat → Prop} {w w' : World} {b : Nat} {c : Cli.Cl} {s : Cli.St} {S : PS} (h : CliW w b c s S) (hc : Chg P w w') (hn : ∀ x, CFoot b S x → ¬ P x) : CliW w' b c s S := h.keep hc.size (fun x hx => hc.block x (h.low x hx) (hn x hx))

/-- What a client's Take leaves: the client, in its own block; nothing else has turned; its lists are as they were, or new. -/
structure Took (w w' : World) (b : Nat) (c : Cli.Cl) (s' : Cli.St) (S S' : PS) : Prop where
  cli : CliW w' b c s' S'
  chg : Chg (fun x => x = b) w w'
  foot : ∀ x, CFoot b S' x → CFoot b S x ∨ w.heap.size ≤ x
/-- The answer: nothing, or the bytes of a frame, in a block that is new and not the client's. -/
def Ans (w w' : World) (b : Nat) (S' : PS) (va : Value) : Option Cli.Fr → Prop
  | none => va = .slice none 0 0
  | some f => w'.ownsRow w.heap.size 5 1 va (Frm.encF f.1 f.2.1 f.2.2).length ((Frm.encF f.1 f.2.1 f.2.2).map (Value.int .u8)) ∧ ∀ x, va.ownBlock = some x → ¬ CFoot b S' x

theorem nil_own : (Value.slice none 0 0).ownBlock = none := rfl
theorem cliAt_halt {w' : World} {b : Nat} {c : Cli.Cl} {s' : Cli.St} {S : PS} (hs : s'.1 = 0) (hp : PSAt w' b 168 (haltS S)) (e1 : S.id = c.id) (e2 : S.cp = Cli.pubA c) (e3 : S.mp = Cli.pubB c) : CliAt w' b c s' (haltS S) where
  at_ := hp
  ph := by omega
  eid := e1
  eph := hs.symm
  ecp := e2
  emp := e3
  one := fun e => by omega
  mid := fun e _ => by omega
  et := fun e _ => by omega
  two := fun e => by omega
  three := fun e => by omega
  nil := fun _ => rfl
  four := fun e => by omega
  apart := ⟨by rw [show (haltS S).inp = .slice none 0 0 from rfl, nil_own]; simp, by rw [show (haltS S).sm = .slice none 0 0 from rfl, nil_own]; simp, by rw [show (haltS S).ss = .slice none 0 0 from rfl, nil_own]; simp, by rw [show (haltS S).told = .slice none 0 0 from rfl, nil_own]; simp⟩
theorem foot_halt {b : Nat} {S : PS} : ∀ x, CFoot b (haltS S) x → x = b := by
  intro x h
  rcases h with h | h | h | h | h
  · exact h
  all_goals (unfold haltS at h; simp [nil_own] at h)
/-- Halted: whatever was there before. -/
theorem took_halt {w w1 w' : World} {b : Nat} {c : Cli.Cl} {s' : Cli.St} {S : PS} (hs : s'.1 = 0) (hp : PSAt w' b 168 (haltS S)) (e1 : S.id = c.id) (e2 : S.cp = Cli.pubA c) (e3 : S.mp = Cli.pubB c)
    (h1 : Chg (fun x => x = b) w w1) (h2 : Chg (fun x => x = b) w1 w') : Took w w' b c s' S (haltS S) :=
  ⟨⟨cliAt_halt hs hp e1 e2 e3, fun x hx => by rw [foot_halt x hx]; exact hp.lt⟩, h1.also h2, fun x hx => .inl (.inl (foot_halt x hx))⟩

end Go.Proofs.YtchideljndagjaaGreat

namespace Go.Proofs.YtchideljndagjaaGreat
open Go.ChangeShapes Go.WideShapes Go.ChangeAt Go.RowKit
set_option linter.unusedVariables false

/-- The numbers of an item that stand in the bytes, in a list of the call's own. -/
theorem written_calls (k : Int) (x : Frm.It) (w : World) :
    Calls Tryz.prog 99 #[.int .i64 k, .agg #[.int .i64 x.1, .int .i64 x.2.1, .int .i64 x.2.2.1, .int .i64 x.2.2.2]] w fun e w' => ∃ a, e = .returned (.slice a (Frm.wid k) (Frm.wid k)) ∧
      (0 < Frm.wid k → ∃ g, a = some ⟨g, 0, none⟩ ∧ w.heap.size ≤ g ∧ g < w'.heap.size ∧ ∀ i, i < Frm.wid k → w'.cell? ⟨g, i, none⟩ = some (.int .i64 ((Frm.nums k x).getD i 0))) ∧ Below w.heap.size w w' := by
  by_cases k1 : k = 1
  · subst k1
    have HW := hideG (show Frm.wid 1 = 2 from rfl)
    have HN := hideG (show Frm.nums 1 x = [x.2.1, x.2.2.1] from rfl)
    go_enter Tryz.func99, Tryz.ntmps99
    go_wp2_with fail
    go_ret
    rw [HN.out, HW.out]
    refine ⟨_, rfl, fun _ => ⟨_, rfl, by simp, by simp, fun i hi => ?_⟩, ((Below.refl _ _).alloc (Nat.le_refl _) _).alloc (by simp) _⟩
    rcases (show i = 0 ∨ i = 1 by omega) with rfl | rfl <;> simp
  by_cases k2 : k = 2
  · subst k2
    have HW := hideG (show Frm.wid 2 = 2 from rfl)
    have HN := hideG (show Frm.nums 2 x = [x.2.1, x.2.2.1] from rfl)
    go_enter Tryz.func99, Tryz.ntmps99
    go_wp2_with fail
    go_ret
    rw [HN.out, HW.out]
    refine ⟨_, rfl, fun _ => ⟨_, rfl, by simp, by simp, fun i hi => ?_⟩, ((Below.refl _ _).alloc (Nat.le_refl _) _).alloc (by simp) _⟩
    rcases (show i = 0 ∨ i = 1 by omega) with rfl | rfl <;> simp
  by_cases k7 : k = 7
  · subst k7
    have HW := hideG (show Frm.wid 7 = 2 from rfl)
    have HN := hideG (show Frm.nums 7 x = [x.2.1, x.2.2.1] from rfl)
    go_enter Tryz.func99, Tryz.ntmps99
    go_wp2_with fail
    go_ret
    rw [HN.out, HW.out]
    refine ⟨_, rfl, fun _ => ⟨_, rfl, by simp, by simp, fun i hi => ?_⟩, ((Below.refl _ _).alloc (Nat.le_refl _) _).alloc (by simp) _⟩
    rcases (show i = 0 ∨ i = 1 by omega) with rfl | rfl <;> simp
  by_cases k3 : k = 3
  · subst k3
    have HW := hideG (show Frm.wid 3 = 3 from rfl)
    have HN := hideG (show Frm.nums 3 x = [x.2.1, x.2.2.1, x.2.2.2] from rfl)
    go_enter Tryz.func99, Tryz.ntmps99
    go_wp2_with fail
    go_ret
    rw [HN.out, HW.out]
    refine ⟨_, rfl, fun _ => ⟨_, rfl, by simp, by simp, fun i hi => ?_⟩, ((Below.refl _ _).alloc (Nat.le_refl _) _).alloc (by simp) _⟩
    rcases (show i = 0 ∨ i = 1 ∨ i = 2 by omega) with rfl | rfl | rfl <;> simp
  by_cases k4 : k = 4
  · subst k4
    have HW := hideG (show Frm.wid 4 = 3 from rfl)
    have HN := hideG (show Frm.nums 4 x = [x.2.1, x.2.2.1, x.2.2.2] from rfl)
    go_enter Tryz.func99, Tryz.ntmps99
    go_wp2_with fail
    go_ret
    rw [HN.out, HW.out]
    refine ⟨_, rfl, fun _ => ⟨_, rfl, by simp, by simp, fun i hi => ?_⟩, ((Below.refl _ _).alloc (Nat.le_refl _) _).alloc (by simp) _⟩
    rcases (show i = 0 ∨ i = 1 ∨ i = 2 by omega) with rfl | rfl | rfl <;> simp
  by_cases k5 : k = 5
  · subst k5
    have HW := hideG (show Frm.wid 5 = 1 from rfl)
    have HN := hideG (show Frm.nums 5 x = [x.2.1] from rfl)
    go_enter Tryz.func99, Tryz.ntmps99
    go_wp2_with fail
    go_ret
    rw [HN.out, HW.out]
    refine ⟨_, rfl, fun _ => ⟨_, rfl, by simp, by simp, fun i hi => ?_⟩, ((Below.refl _ _).alloc (Nat.le_refl _) _).alloc (by simp) _⟩
    obtain rfl : i = 0 := by omega
    simp
  have HW := hideG (show Frm.wid k = 0 by unfold Frm.wid; rw [if_neg (by omega), if_neg (by omega), if_neg (by omega)])
  go_enter Tryz.func99, Tryz.ntmps99
  go_wp2_with fail
  go_ret
  rw [HW.out]
  exact ⟨none, rfl, fun h => absurd h (by omega), (Below.refl _ _).alloc (Nat.le_refl _) _⟩

set_option maxHeartbeats 1000000 in
set_option maxRecDepth 100000 in
theorem rising_calls (v : Value) (l : List Frm.It) (w : World) (h : ItemsAt w v l) :
    Calls Tryz.prog 154 #[v] w fun e w' => e = .returned (.bool (decide (l.length ≤ 12) && Frm.riseB l)) ∧ Below w.heap.size w w' := by
  obtain ⟨a, cap, rfl, l2, l3, _, hc⟩ := items_view h
  have HC := hideG hc
  clear hc h
  have HN := hideG (show Frm.riseB l = Frm.allB l.length (Frm.riseAt l) from rfl)
  have HRA := hideG (fun k => (show Frm.riseAt l k = (Num.clB (Frm.it l k).1 && (decide (k = 0) || decide ((Frm.it l (k - 1)).1 < (Frm.it l k).1))) from rfl))
  generalize hn : l.length = n at *
  clear hn
  by_cases t : 12 < (n : Int)
  · have H := hideG (decide_eq_false (show ¬ n ≤ 12 by omega))
    go_enter Tryz.func154, Tryz.ntmps154
    go_wp2_with fail
    go_ret
    exact ⟨ret_bool (by rw [H.out]; rfl), Below.refl _ _⟩
  have HT := hideG (decide_eq_true (show n ≤ 12 by omega))
  go_enter Tryz.func154, Tryz.ntmps154
  go_wp2_with fail
  go_loopw [3] (fun i wr => ∃ k : Nat, k ≤ n ∧ i = .int .i64 k ∧ (∀ j, j < k → Frm.riseAt l j = true) ∧ Below w.heap.size w wr) (fun i _ => n - (intOf i).toNat)
  case atStart => exact ⟨0, Nat.zero_le _, rfl, fun j hj => absurd hj (by omega), Below.refl _ _⟩
  case round =>
    obtain ⟨k, hk, rfl, hall, hbel⟩ := hrel
    have HA := hideG hall
    have HB := hideG hbel
    have hsz := hbel.size
    clear hall hbel
    by_cases hlt : k < n
    · obtain ⟨b, off, rfl, hb, hit⟩ := HC.out k hlt
      obtain ⟨c0, c1, c2, c3⟩ := hit.below hb HB.out
      clear hit
      have HR := HRA.out k
      obtain ⟨x, hx⟩ : ∃ x, x = (Frm.it l k).1 := ⟨_, rfl⟩
      rw [← hx] at c0 HR
      clear hx c1 c2 c3
      have HRK := hideG HR
      clear HR
      cases q : Num.clB x
      · have H := hideG (show Frm.riseB l = false by rw [HN.out]; exact Frm.allB_no k hlt (by rw [HRK.out, q]; rfl))
        go_wp2_with fail
        refine (rparty_calls _ _).mono ?_
        rintro e w1 ⟨rfl, hw1⟩
        rw [hw1, q]
        clear hw1
        go_wp2_with fail
        go_quiet (fail)
        go_wp2_with fail
        go_ret
        exact ⟨ret_bool (by rw [H.out, Bool.and_false]), HB.out.trans ((below_drewN _ _).mono hsz)⟩
      · by_cases hk0 : k = 0
        · have HRT := hideG (show Frm.riseAt l k = true by rw [HRK.out, q, decide_eq_true hk0]; rfl)
          have hk1 : ¬ (0 : Int) < (k : Int) := by omega
          have hk2 : decide ((0 : Int) < (k : Int)) = false := decide_eq_false hk1
          have hk3 : decide (0 < k) = false := decide_eq_false (by omega)
          have HK0 := hideG hk0
          clear hk0
          go_wp2_with fail
          refine (rparty_calls _ _).mono ?_
          rintro e w1 ⟨rfl, hw1⟩
          rw [hw1, q]
          clear hw1
          go_wp2_with fail
          go_quiet (fail)
          go_wp2_with fail
          go_roundw
          case rel =>
            refine ⟨k + 1, by omega, by go_num, fun j hj => ?_, HB.out.trans ((below_drewN _ _).mono hsz)⟩
            by_cases e : j = k
            · subst e; exact HRT.out
            · exact HA.out j (by omega)
          case measure => simp [intOf]; omega
        · obtain ⟨b', off', ea, hb', hit'⟩ := HC.out (k - 1) (by omega)
          obtain ⟨d0, _, _, _⟩ := hit'.below hb' HB.out
          clear hit'
          simp only [Option.some.injEq, Addr.mk.injEq, and_true] at ea
          obtain ⟨rfl, rfl⟩ := ea
          obtain ⟨y, hy⟩ : ∃ y, y = (Frm.it l (k - 1)).1 := ⟨_, rfl⟩
          rw [← hy] at d0 HRK
          clear hy
          obtain ⟨j, hj⟩ : ∃ j, j = k - 1 := ⟨_, rfl⟩
          rw [← hj] at d0
          have hkj : (k : Int) - 1 = (j : Int) := by omega
          have hjn : (j : Int) < (n : Int) := by omega
          have hk1 : (0 : Int) < (k : Int) := by omega
          have hk2 : decide ((0 : Int) < (k : Int)) = true := decide_eq_true hk1
          have hk3 : decide (0 < k) = true := decide_eq_true (by omega)
          have hwr : IntKind.i64.wrap ((k : Int) - 1) = (j : Int) := by rw [hkj, IntWalk.i64_left, IntWalk.wrap64_in _ (by omega)]
          have HK0 := hideG hk0
          clear hj hk0
          by_cases hle : x ≤ y
          · have H := hideG (show Frm.riseB l = false by
              rw [HN.out]
              refine Frm.allB_no k hlt ?_
              rw [HRK.out, q, decide_eq_false HK0.out, decide_eq_false (show ¬ y < x by omega)]; rfl)
            have hle2 : decide (x ≤ y) = true := decide_eq_true hle
            go_wp2_with fail
            refine (rparty_calls _ _).mono ?_
            rintro e w1 ⟨rfl, hw1⟩
            rw [hw1, q]
            clear hw1
            go_wp2_with fail
            go_quiet (fail)
            go_wp2_with fail
            go_ret
            exact ⟨ret_bool (by rw [H.out, Bool.and_false]), HB.out.trans ((below_drewN _ _).mono hsz)⟩
          · have HRT := hideG (show Frm.riseAt l k = true by rw [HRK.out, q, decide_eq_true (show y < x by omega)]; simp)
            have hle2 : decide (x ≤ y) = false := decide_eq_false hle
            go_wp2_with fail
            refine (rparty_calls _ _).mono ?_
            rintro e w1 ⟨rfl, hw1⟩
            rw [hw1, q]
            clear hw1
            go_wp2_with fail
            go_quiet (fail)
            go_wp2_with fail
            go_roundw
            case rel =>
              refine ⟨k + 1, by omega, by go_num, fun j hj => ?_, HB.out.trans ((below_drewN _ _).mono hsz)⟩
              by_cases e : j = k
              · subst e; exact HRT.out
              · exact HA.out j (by omega)
            case measure => simp [intOf]; omega
    · have ek : k = n := by omega
      subst ek
      go_wp2_with fail
      go_ret
      exact ⟨ret_bool (by rw [HN.out, Frm.allB_yes HA.out, HT.out]; rfl), HB.out⟩

end Go.Proofs.YtchideljndagjaaGreat

namespace Go.Proofs.YtchideljndagjaaGreat
open Go.ChangeShapes Go.WideShapes Go.ChangeAt Go.RowKit
set_option linter.unusedVariables false

set_option maxHeartbeats 1000000 in
set_option maxRecDepth 100000 in
theorem publics_calls (v : Value) (l : List Frm.It) (w : World) (h : ItemsAt w v l) :
    Calls Tryz.prog 155 #[v] w fun e w' => e = .returned (.bool (Frm.pubB l)) ∧ Below w.heap.size w w' := by
  obtain ⟨a, cap, rfl, l2, l3, _, hc⟩ := items_view h
  have HC := hideG hc
  clear hc h
  have HN := hideG (show Frm.pubB l = Frm.allB l.length fun i => Frm.keyB (Frm.it l i).2.1 && (Frm.keyB (Frm.it l i).2.2.1 && Frm.zB (Frm.it l i).2.2.2) from rfl)
  generalize hn : l.length = n at *
  clear hn
  go_enter Tryz.func155, Tryz.ntmps155
  go_wp2_with fail
  go_loopw [3] (fun i wr => ∃ k : Nat, k ≤ n ∧ i = .int .i64 k ∧ (∀ j, j < k → (Frm.keyB (Frm.it l j).2.1 && (Frm.keyB (Frm.it l j).2.2.1 && Frm.zB (Frm.it l j).2.2.2)) = true) ∧ Below w.heap.size w wr) (fun i _ => n - (intOf i).toNat)
  case atStart => exact ⟨0, Nat.zero_le _, rfl, fun j hj => absurd hj (by omega), Below.refl _ _⟩
  case round =>
    obtain ⟨k, hk, rfl, hall, hbel⟩ := hrel
    have HA := hideG hall
    have HB := hideG hbel
    have hsz := hbel.size
    by_cases hlt : k < n
    · obtain ⟨b, off, rfl, hb, hit⟩ := HC.out k hlt
      have hit := hit.below hb hbel
      have hb2 : b < wr.heap.size := by omega
      obtain ⟨c0, c1, c2, c3⟩ := hit
      obtain ⟨x, hx⟩ : ∃ x, x = Frm.it l k := ⟨_, rfl⟩
      rw [← hx] at c0 c1 c2 c3
      have HX := hideG hx
      clear hx hall hbel
      obtain ⟨xi, xa, xb, xc⟩ := x
      simp only at c0 c1 c2 c3
      have HF := hideG (show (Frm.keyB (xi, xa, xb, xc).2.1 && (Frm.keyB (xi, xa, xb, xc).2.2.1 && Frm.zB (xi, xa, xb, xc).2.2.2)) = false → Frm.pubB l = false from fun e => by rw [HN.out]; exact Frm.allB_no k hlt (by rw [← HX.out]; exact e))
      have HK := hideG (show (Frm.keyB (xi, xa, xb, xc).2.1 && (Frm.keyB (xi, xa, xb, xc).2.2.1 && Frm.zB (xi, xa, xb, xc).2.2.2)) = true → ∀ j, j < k + 1 → (Frm.keyB (Frm.it l j).2.1 && (Frm.keyB (Frm.it l j).2.2.1 && Frm.zB (Frm.it l j).2.2.2)) = true from fun e j hj => by
        by_cases ej : j = k
        · subst ej; rw [← HX.out]; exact e
        · exact HA.out j (by omega))
      by_cases a1 : xa < 1
      · have H := hideG (HF.out (by show (Frm.keyB xa && (Frm.keyB xb && Frm.zB xc)) = false; rw [(show Frm.keyB xa = false from decide_eq_false (by omega))]; rfl))
        go_wp2_with fail
        go_ret
        exact ⟨ret_bool H.out.symm, HB.out.alloc (by omega) _⟩
      by_cases a2 : 2305843009213693951 ≤ xa
      · have H := hideG (HF.out (by show (Frm.keyB xa && (Frm.keyB xb && Frm.zB xc)) = false; rw [(show Frm.keyB xa = false from decide_eq_false (by omega))]; rfl))
        go_wp2_with fail
        go_ret
        exact ⟨ret_bool H.out.symm, HB.out.alloc (by omega) _⟩
      by_cases b1 : xb < 1
      · have H := hideG (HF.out (by show (Frm.keyB xa && (Frm.keyB xb && Frm.zB xc)) = false; rw [(show Frm.keyB xb = false from decide_eq_false (by omega)), Bool.false_and, Bool.and_false]))
        go_wp2_with fail
        go_ret
        exact ⟨ret_bool H.out.symm, HB.out.alloc (by omega) _⟩
      by_cases b2 : 2305843009213693951 ≤ xb
      · have H := hideG (HF.out (by show (Frm.keyB xa && (Frm.keyB xb && Frm.zB xc)) = false; rw [(show Frm.keyB xb = false from decide_eq_false (by omega)), Bool.false_and, Bool.and_false]))
        go_wp2_with fail
        go_ret
        exact ⟨ret_bool H.out.symm, HB.out.alloc (by omega) _⟩
      by_cases z : ¬ xc = 0
      · have H := hideG (HF.out (by show (Frm.keyB xa && (Frm.keyB xb && Frm.zB xc)) = false; rw [(show Frm.zB xc = false from decide_eq_false z), Bool.and_false, Bool.and_false]))
        have zz : (xc != 0) = true := by simpa using z
        go_wp2_with fail
        go_ret
        exact ⟨ret_bool H.out.symm, HB.out.alloc (by omega) _⟩
      have z : xc = 0 := Classical.byContradiction z
      have H := hideG (HK.out (by show (Frm.keyB xa && (Frm.keyB xb && Frm.zB xc)) = true; rw [Bool.and_eq_true, Bool.and_eq_true, Frm.keyB_iff, Frm.keyB_iff, Frm.zB_iff]; omega))
      go_wp2_with fail
      go_roundw
      case rel => exact ⟨k + 1, by omega, by go_num, H.out, HB.out.alloc (by omega) _⟩
      case measure => simp [intOf]; omega
    · have ek : k = n := by omega
      subst ek
      clear hall hbel
      go_wp2_with fail
      go_ret
      exact ⟨ret_bool (by rw [HN.out, Frm.allB_yes HA.out]), HB.out⟩

set_option maxHeartbeats 1000000 in
set_option maxRecDepth 100000 in
theorem told_calls (v : Value) (l : List Frm.It) (w : World) (h : ItemsAt w v l) :
    Calls Tryz.prog 159 #[v] w fun e w' => e = .returned (.bool (Frm.toldB l)) ∧ Below w.heap.size w w' := by
  obtain ⟨a, cap, rfl, l2, l3, _, hc⟩ := items_view h
  have HC := hideG hc
  clear hc h
  have HN := hideG (show Frm.toldB l = Frm.allB l.length fun i => Frm.tB (Frm.it l i).2.1 && (Num.elB (Frm.it l i).2.2.1 && Frm.zB (Frm.it l i).2.2.2) from rfl)
  generalize hn : l.length = n at *
  clear hn
  go_enter Tryz.func159, Tryz.ntmps159
  go_wp2_with fail
  go_loopw [3] (fun i wr => ∃ k : Nat, k ≤ n ∧ i = .int .i64 k ∧ (∀ j, j < k → (Frm.tB (Frm.it l j).2.1 && (Num.elB (Frm.it l j).2.2.1 && Frm.zB (Frm.it l j).2.2.2)) = true) ∧ Below w.heap.size w wr) (fun i _ => n - (intOf i).toNat)
  case atStart => exact ⟨0, Nat.zero_le _, rfl, fun j hj => absurd hj (by omega), Below.refl _ _⟩
  case round =>
    obtain ⟨k, hk, rfl, hall, hbel⟩ := hrel
    have HA := hideG hall
    have HB := hideG hbel
    have hsz := hbel.size
    by_cases hlt : k < n
    · obtain ⟨b, off, rfl, hb, hit⟩ := HC.out k hlt
      have hit := hit.below hb hbel
      have hb2 : b < wr.heap.size := by omega
      obtain ⟨c0, c1, c2, c3⟩ := hit
      obtain ⟨x, hx⟩ : ∃ x, x = Frm.it l k := ⟨_, rfl⟩
      rw [← hx] at c0 c1 c2 c3
      have HX := hideG hx
      clear hx hall hbel
      obtain ⟨xi, xa, xb, xc⟩ := x
      simp only at c0 c1 c2 c3
      have HF := hideG (show (Frm.tB (xi, xa, xb, xc).2.1 && (Num.elB (xi, xa, xb, xc).2.2.1 && Frm.zB (xi, xa, xb, xc).2.2.2)) = false → Frm.toldB l = false from fun e => by rw [HN.out]; exact Frm.allB_no k hlt (by rw [← HX.out]; exact e))
      have HK := hideG (show (Frm.tB (xi, xa, xb, xc).2.1 && (Num.elB (xi, xa, xb, xc).2.2.1 && Frm.zB (xi, xa, xb, xc).2.2.2)) = true → ∀ j, j < k + 1 → (Frm.tB (Frm.it l j).2.1 && (Num.elB (Frm.it l j).2.2.1 && Frm.zB (Frm.it l j).2.2.2)) = true from fun e j hj => by
        by_cases ej : j = k
        · subst ej; rw [← HX.out]; exact e
        · exact HA.out j (by omega))
      cases q : Num.elB xb
      · have H := hideG (HF.out (by show (Frm.tB xa && (Num.elB xb && Frm.zB xc)) = false; rw [q, Bool.false_and, Bool.and_false]))
        go_wp2_with fail
        refine (relement_calls _ _).mono ?_
        rintro e w' ⟨rfl, rfl⟩
        rw [q]
        go_wp2_with fail
        go_ret
        exact ⟨ret_bool H.out.symm, HB.out.alloc (by omega) _⟩
      by_cases a1 : xa < 1
      · have H := hideG (HF.out (by show (Frm.tB xa && (Num.elB xb && Frm.zB xc)) = false; rw [(show Frm.tB xa = false from decide_eq_false (by omega))]; rfl))
        go_wp2_with fail
        refine (relement_calls _ _).mono ?_
        rintro e w' ⟨rfl, rfl⟩
        rw [q]
        go_wp2_with fail
        go_ret
        exact ⟨ret_bool H.out.symm, HB.out.alloc (by omega) _⟩
      by_cases a2 : 2 < xa
      · have H := hideG (HF.out (by show (Frm.tB xa && (Num.elB xb && Frm.zB xc)) = false; rw [(show Frm.tB xa = false from decide_eq_false (by omega))]; rfl))
        go_wp2_with fail
        refine (relement_calls _ _).mono ?_
        rintro e w' ⟨rfl, rfl⟩
        rw [q]
        go_wp2_with fail
        go_ret
        exact ⟨ret_bool H.out.symm, HB.out.alloc (by omega) _⟩
      by_cases z : ¬ xc = 0
      · have H := hideG (HF.out (by show (Frm.tB xa && (Num.elB xb && Frm.zB xc)) = false; rw [(show Frm.zB xc = false from decide_eq_false z), Bool.and_false, Bool.and_false]))
        have zz : (xc != 0) = true := by simpa using z
        go_wp2_with fail
        refine (relement_calls _ _).mono ?_
        rintro e w' ⟨rfl, rfl⟩
        rw [q]
        go_wp2_with fail
        go_ret
        exact ⟨ret_bool H.out.symm, HB.out.alloc (by omega) _⟩
      have z : xc = 0 := Classical.byContradiction z
      have H := hideG (HK.out (by show (Frm.tB xa && (Num.elB xb && Frm.zB xc)) = true; rw [Bool.and_eq_true, Bool.and_eq_true, Frm.tB_iff, Num.elB_iff, Frm.zB_iff]; have := Num.elB_iff.1 q; omega))
      go_wp2_with fail
      refine (relement_calls _ _).mono ?_
      rintro e w' ⟨rfl, rfl⟩
      rw [q]
      go_wp2_with fail
      go_roundw
      case rel => exact ⟨k + 1, by omega, by go_num, H.out, HB.out.alloc (by omega) _⟩
      case measure => simp [intOf]; omega
    · have ek : k = n := by omega
      subst ek
      clear hall hbel
      go_wp2_with fail
      go_ret
      exact ⟨ret_bool (by rw [HN.out, Frm.allB_yes HA.out]), HB.out⟩

set_option maxHeartbeats 1000000 in
set_option maxRecDepth 100000 in
theorem places_calls (v : Value) (l : List Frm.It) (w : World) (h : ItemsAt w v l) :
    Calls Tryz.prog 157 #[v] w fun e w' => e = .returned (.bool (Frm.placeB l)) ∧ Below w.heap.size w w' := by
  obtain ⟨a, cap, rfl, l2, l3, _, hc⟩ := items_view h
  have HC := hideG hc
  clear hc h
  have HN := hideG (show Frm.placeB l = Frm.allB l.length fun i => decide ((Frm.it l i).1 = (i : Int) + 1) && (Frm.wdB (Frm.it l i).2.1 && (Frm.zB (Frm.it l i).2.2.1 && Frm.zB (Frm.it l i).2.2.2)) from rfl)
  generalize hn : l.length = n at *
  clear hn
  go_enter Tryz.func157, Tryz.ntmps157
  go_wp2_with fail
  go_loopw [3] (fun i wr => ∃ k : Nat, k ≤ n ∧ i = .int .i64 k ∧ (∀ j, j < k → (decide ((Frm.it l j).1 = (j : Int) + 1) && (Frm.wdB (Frm.it l j).2.1 && (Frm.zB (Frm.it l j).2.2.1 && Frm.zB (Frm.it l j).2.2.2))) = true) ∧ Below w.heap.size w wr) (fun i _ => n - (intOf i).toNat)
  case atStart => exact ⟨0, Nat.zero_le _, rfl, fun j hj => absurd hj (by omega), Below.refl _ _⟩
  case round =>
    obtain ⟨k, hk, rfl, hall, hbel⟩ := hrel
    have HA := hideG hall
    have HB := hideG hbel
    have hsz := hbel.size
    by_cases hlt : k < n
    · obtain ⟨b, off, rfl, hb, hit⟩ := HC.out k hlt
      have hit := hit.below hb hbel
      have hb2 : b < wr.heap.size := by omega
      obtain ⟨c0, c1, c2, c3⟩ := hit
      obtain ⟨x, hx⟩ : ∃ x, x = Frm.it l k := ⟨_, rfl⟩
      rw [← hx] at c0 c1 c2 c3
      have HX := hideG hx
      clear hx hall hbel
      obtain ⟨xi, xa, xb, xc⟩ := x
      simp only at c0 c1 c2 c3
      have HF := hideG (show (decide ((xi, xa, xb, xc).1 = (k : Int) + 1) && (Frm.wdB (xi, xa, xb, xc).2.1 && (Frm.zB (xi, xa, xb, xc).2.2.1 && Frm.zB (xi, xa, xb, xc).2.2.2))) = false → Frm.placeB l = false from fun e => by rw [HN.out]; exact Frm.allB_no k hlt (by rw [← HX.out]; exact e))
      have HK := hideG (show (decide ((xi, xa, xb, xc).1 = (k : Int) + 1) && (Frm.wdB (xi, xa, xb, xc).2.1 && (Frm.zB (xi, xa, xb, xc).2.2.1 && Frm.zB (xi, xa, xb, xc).2.2.2))) = true → ∀ j, j < k + 1 → (decide ((Frm.it l j).1 = (j : Int) + 1) && (Frm.wdB (Frm.it l j).2.1 && (Frm.zB (Frm.it l j).2.2.1 && Frm.zB (Frm.it l j).2.2.2))) = true from fun e j hj => by
        by_cases ej : j = k
        · subst ej; rw [← HX.out]; exact e
        · exact HA.out j (by omega))
      by_cases i1 : ¬ xi = (k : Int) + 1
      · have H := hideG (HF.out (by show (decide (xi = (k : Int) + 1) && (Frm.wdB xa && (Frm.zB xb && Frm.zB xc))) = false; rw [decide_eq_false i1]; rfl))
        have zz : (xi != (k : Int) + 1) = true := by simpa using i1
        go_wp2_with fail
        go_ret
        exact ⟨ret_bool H.out.symm, HB.out.alloc (by omega) _⟩
      have i1 : xi = (k : Int) + 1 := Classical.byContradiction i1
      have yy : (xi != (k : Int) + 1) = false := by rw [i1]; simp
      have HI1 := hideG i1
      clear i1
      by_cases a1 : xa < 0
      · have H := hideG (HF.out (by show (decide (xi = (k : Int) + 1) && (Frm.wdB xa && (Frm.zB xb && Frm.zB xc))) = false; rw [(show Frm.wdB xa = false from decide_eq_false (by omega)), Bool.false_and, Bool.and_false]))
        go_wp2_with fail
        go_ret
        exact ⟨ret_bool H.out.symm, HB.out.alloc (by omega) _⟩
      by_cases a2 : 4294967296 ≤ xa
      · have H := hideG (HF.out (by show (decide (xi = (k : Int) + 1) && (Frm.wdB xa && (Frm.zB xb && Frm.zB xc))) = false; rw [(show Frm.wdB xa = false from decide_eq_false (by omega)), Bool.false_and, Bool.and_false]))
        go_wp2_with fail
        go_ret
        exact ⟨ret_bool H.out.symm, HB.out.alloc (by omega) _⟩
      by_cases zb : ¬ xb = 0
      · have H := hideG (HF.out (by show (decide (xi = (k : Int) + 1) && (Frm.wdB xa && (Frm.zB xb && Frm.zB xc))) = false; rw [(show Frm.zB xb = false from decide_eq_false zb), Bool.false_and, Bool.and_false, Bool.and_false]))
        have zz : (xb != 0) = true := by simpa using zb
        go_wp2_with fail
        go_ret
        exact ⟨ret_bool H.out.symm, HB.out.alloc (by omega) _⟩
      have zb : xb = 0 := Classical.byContradiction zb
      by_cases zc : ¬ xc = 0
      · have H := hideG (HF.out (by show (decide (xi = (k : Int) + 1) && (Frm.wdB xa && (Frm.zB xb && Frm.zB xc))) = false; rw [(show Frm.zB xc = false from decide_eq_false zc), Bool.and_false, Bool.and_false, Bool.and_false]))
        have zz : (xc != 0) = true := by simpa using zc
        go_wp2_with fail
        go_ret
        exact ⟨ret_bool H.out.symm, HB.out.alloc (by omega) _⟩
      have zc : xc = 0 := Classical.byContradiction zc
      have H := hideG (HK.out (by show (decide (xi = (k : Int) + 1) && (Frm.wdB xa && (Frm.zB xb && Frm.zB xc))) = true; rw [Bool.and_eq_true, Bool.and_eq_true, Bool.and_eq_true, decide_eq_true_iff, Frm.wdB_iff, Frm.zB_iff, Frm.zB_iff]; exact ⟨HI1.out, by omega, by omega, by omega⟩))
      go_wp2_with fail
      go_roundw
      case rel => exact ⟨k + 1, by omega, by go_num, H.out, HB.out.alloc (by omega) _⟩
      case measure => simp [intOf]; omega
    · have ek : k = n := by omega
      subst ek
      clear hall hbel
      go_wp2_with fail
      go_ret
      exact ⟨ret_bool (by rw [HN.out, Frm.allB_yes HA.out]), HB.out⟩

set_option maxHeartbeats 1000000 in
set_option maxRecDepth 100000 in
theorem asked_calls (v : Value) (l : List Frm.It) (w : World) (h : ItemsAt w v l) :
    Calls Tryz.prog 158 #[v] w fun e w' => e = .returned (.bool (Frm.askB l)) ∧ Below w.heap.size w w' := by
  obtain ⟨a, cap, rfl, l2, l3, _, hc⟩ := items_view h
  have HC := hideG hc
  clear hc h
  have HN := hideG (show Frm.askB l = Frm.allB l.length fun i => Frm.zB (Frm.it l i).2.1 && (Frm.zB (Frm.it l i).2.2.1 && Frm.zB (Frm.it l i).2.2.2) from rfl)
  generalize hn : l.length = n at *
  clear hn
  go_enter Tryz.func158, Tryz.ntmps158
  go_wp2_with fail
  go_loopw [3] (fun i wr => ∃ k : Nat, k ≤ n ∧ i = .int .i64 k ∧ (∀ j, j < k → (Frm.zB (Frm.it l j).2.1 && (Frm.zB (Frm.it l j).2.2.1 && Frm.zB (Frm.it l j).2.2.2)) = true) ∧ Below w.heap.size w wr) (fun i _ => n - (intOf i).toNat)
  case atStart => exact ⟨0, Nat.zero_le _, rfl, fun j hj => absurd hj (by omega), Below.refl _ _⟩
  case round =>
    obtain ⟨k, hk, rfl, hall, hbel⟩ := hrel
    have HA := hideG hall
    have HB := hideG hbel
    have hsz := hbel.size
    by_cases hlt : k < n
    · obtain ⟨b, off, rfl, hb, hit⟩ := HC.out k hlt
      have hit := hit.below hb hbel
      have hb2 : b < wr.heap.size := by omega
      obtain ⟨c0, c1, c2, c3⟩ := hit
      obtain ⟨x, hx⟩ : ∃ x, x = Frm.it l k := ⟨_, rfl⟩
      rw [← hx] at c0 c1 c2 c3
      have HX := hideG hx
      clear hx hall hbel
      obtain ⟨xi, xa, xb, xc⟩ := x
      simp only at c0 c1 c2 c3
      have HF := hideG (show (Frm.zB (xi, xa, xb, xc).2.1 && (Frm.zB (xi, xa, xb, xc).2.2.1 && Frm.zB (xi, xa, xb, xc).2.2.2)) = false → Frm.askB l = false from fun e => by rw [HN.out]; exact Frm.allB_no k hlt (by rw [← HX.out]; exact e))
      have HK := hideG (show (Frm.zB (xi, xa, xb, xc).2.1 && (Frm.zB (xi, xa, xb, xc).2.2.1 && Frm.zB (xi, xa, xb, xc).2.2.2)) = true → ∀ j, j < k + 1 → (Frm.zB (Frm.it l j).2.1 && (Frm.zB (Frm.it l j).2.2.1 && Frm.zB (Frm.it l j).2.2.2)) = true from fun e j hj => by
        by_cases ej : j = k
        · subst ej; rw [← HX.out]; exact e
        · exact HA.out j (by omega))
      by_cases za : ¬ xa = 0
      · have H := hideG (HF.out (by show (Frm.zB xa && (Frm.zB xb && Frm.zB xc)) = false; rw [(show Frm.zB xa = false from decide_eq_false za)]; rfl))
        have zz : (xa != 0) = true := by simpa using za
        go_wp2_with fail
        go_ret
        exact ⟨ret_bool H.out.symm, HB.out⟩
      have za : xa = 0 := Classical.byContradiction za
      by_cases zb : ¬ xb = 0
      · have H := hideG (HF.out (by show (Frm.zB xa && (Frm.zB xb && Frm.zB xc)) = false; rw [(show Frm.zB xb = false from decide_eq_false zb)]; rw [Bool.false_and, Bool.and_false]))
        have zz : (xb != 0) = true := by simpa using zb
        go_wp2_with fail
        go_ret
        exact ⟨ret_bool H.out.symm, HB.out⟩
      have zb : xb = 0 := Classical.byContradiction zb
      by_cases zc : ¬ xc = 0
      · have H := hideG (HF.out (by show (Frm.zB xa && (Frm.zB xb && Frm.zB xc)) = false; rw [(show Frm.zB xc = false from decide_eq_false zc)]; rw [Bool.and_false, Bool.and_false]))
        have zz : (xc != 0) = true := by simpa using zc
        go_wp2_with fail
        go_ret
        exact ⟨ret_bool H.out.symm, HB.out⟩
      have zc : xc = 0 := Classical.byContradiction zc
      have H := hideG (HK.out (by show (Frm.zB xa && (Frm.zB xb && Frm.zB xc)) = true; rw [Bool.and_eq_true, Bool.and_eq_true, Frm.zB_iff, Frm.zB_iff, Frm.zB_iff]; omega))
      go_wp2_with fail
      go_roundw
      case rel => exact ⟨k + 1, by omega, by go_num, H.out, HB.out⟩
      case measure => simp [intOf]; omega
    · have ek : k = n := by omega
      subst ek
      clear hall hbel
      go_wp2_with fail
      go_ret
      exact ⟨ret_bool (by rw [HN.out, Frm.allB_yes HA.out]), HB.out⟩

end Go.Proofs.YtchideljndagjaaGreat
