/- The program's server in memory. -/
import Derived.Test.YtchideljndagjabGreatPkQuAN
import Derived.Test.YtchideljndagjabGreatPkQuAC
import Derived.Test.YtchideljndagjabGreatPkQuAR
import Derived.Test.YtchideljndagjabGreatPkQuAG
import Derived.WalkSpells
namespace Go.Proofs.YtchideljndagjabGreat
open Go.RowKit
set_option linter.unusedVariables false

structure SS where
  n : Int
  t : Int
  m : Int
  d : Int
  tm : Int
  rd : Int
  sn : Nat → Bool
  ct : Nat → Bool
  it : Nat → Value
  pb : Nat → Int
  sh : Nat → Bool
  ml : Value
  st : Int
  ro : Int
  set : Value
  sum : Value

def b13 (f : Nat → Bool) : List Value := v13 fun u => .bool (f u)
def i13 (f : Nat → Int) : List Value := v13 fun u => .int .i64 (f u)
def ssHead (s : SS) : List Value := [.int .i64 s.n, .int .i64 s.t, .int .i64 s.m, .int .i64 s.d, .int .i64 s.tm, .int .i64 s.rd]
def ssTail (s : SS) : List Value := [s.ml, .int .i64 s.st, .int .i64 s.ro, s.set, s.sum]
def ssCells (s : SS) : List Value := ssHead s ++ (b13 s.sn ++ (b13 s.ct ++ (v13 s.it ++ (i13 s.pb ++ (b13 s.sh ++ ssTail s)))))
theorem ssCells_length (s : SS) : (ssCells s).length = 76 := rfl

/-- The server's cells are the first of the block. -/
def SSAt (w : World) (b : Nat) (s : SS) : Prop := RecAt w b 0 (ssCells s)
section
variable {w w' : World} {b : Nat} {s : SS}
theorem SSAt.lt (h : SSAt w b s) : b < w.heap.size := RecAt.lt h (by rw [ssCells_length]; omega)
theorem SSAt.at_ (h : SSAt w b s) (j : Nat) {v : Value} (e : (ssCells s)[j]? = some v) : w.cell? ⟨b, j, none⟩ = some v := by
  have := RecAt.cell h j e
  rwa [Nat.zero_add] at this
theorem SSAt.froz (h : SSAt w b s) (j : Nat) (hj : j < 76) : w.frozen? ⟨b, j, none⟩ = false := by
  have := RecAt.froz h j (by rw [ssCells_length]; exact hj)
  rwa [Nat.zero_add] at this
theorem SSAt.n (h : SSAt w b s) : w.cell? ⟨b, 0, none⟩ = some (.int .i64 s.n) := h.at_ 0 rfl
theorem SSAt.t (h : SSAt w b s) : w.cell? ⟨b, 1, none⟩ = some (.int .i64 s.t) := h.at_ 1 rfl
theorem SSAt.m (h : SSAt w b s) : w.cell? ⟨b, 2, none⟩ = some (.int .i64 s.m) := h.at_ 2 rfl
theorem SSAt.d (h : SSAt w b s) : w.cell? ⟨b, 3, none⟩ = some (.int .i64 s.d) := h.at_ 3 rfl
theorem SSAt.tm (h : SSAt w b s) : w.cell? ⟨b, 4, none⟩ = some (.int .i64 s.tm) := h.at_ 4 rfl
theorem SSAt.rd (h : SSAt w b s) : w.cell? ⟨b, 5, none⟩ = some (.int .i64 s.rd) := h.at_ 5 rfl
theorem SSAt.ml (h : SSAt w b s) : w.cell? ⟨b, 71, none⟩ = some s.ml := h.at_ 71 rfl
theorem SSAt.st (h : SSAt w b s) : w.cell? ⟨b, 72, none⟩ = some (.int .i64 s.st) := h.at_ 72 rfl
theorem SSAt.ro (h : SSAt w b s) : w.cell? ⟨b, 73, none⟩ = some (.int .i64 s.ro) := h.at_ 73 rfl
theorem SSAt.set (h : SSAt w b s) : w.cell? ⟨b, 74, none⟩ = some s.set := h.at_ 74 rfl
theorem SSAt.sum (h : SSAt w b s) : w.cell? ⟨b, 75, none⟩ = some s.sum := h.at_ 75 rfl
theorem SSAt.rsn (h : SSAt w b s) : RecAt w b 6 (b13 s.sn) := by
  have := RecAt.part (pre := ssHead s) h; simpa [ssHead] using this
theorem SSAt.rct (h : SSAt w b s) : RecAt w b 19 (b13 s.ct) := by
  have h' : RecAt w b 0 ((ssHead s ++ b13 s.sn) ++ (b13 s.ct ++ (v13 s.it ++ (i13 s.pb ++ (b13 s.sh ++ ssTail s))))) := by rw [List.append_assoc]; exact h
  exact RecAt.part h'
theorem SSAt.rit (h : SSAt w b s) : RecAt w b 32 (v13 s.it) := by
  have h' : RecAt w b 0 ((ssHead s ++ b13 s.sn ++ b13 s.ct) ++ (v13 s.it ++ (i13 s.pb ++ (b13 s.sh ++ ssTail s)))) := by rw [List.append_assoc, List.append_assoc]; exact h
  exact RecAt.part h'
theorem SSAt.rpb (h : SSAt w b s) : RecAt w b 45 (i13 s.pb) := by
  have h' : RecAt w b 0 ((ssHead s ++ b13 s.sn ++ b13 s.ct ++ v13 s.it) ++ (i13 s.pb ++ (b13 s.sh ++ ssTail s))) := by rw [List.append_assoc, List.append_assoc, List.append_assoc]; exact h
  exact RecAt.part h'
theorem SSAt.rsh (h : SSAt w b s) : RecAt w b 58 (b13 s.sh) := by
  have h' : RecAt w b 0 ((ssHead s ++ b13 s.sn ++ b13 s.ct ++ v13 s.it ++ i13 s.pb) ++ (b13 s.sh ++ ssTail s)) := by rw [List.append_assoc, List.append_assoc, List.append_assoc, List.append_assoc]; exact h
  exact RecAt.part h'
theorem SSAt.csn (h : SSAt w b s) (v : Nat) (hv : v < 13) : w.cell? ⟨b, 6 + v, none⟩ = some (.bool (s.sn v)) := h.rsn.cell v (v13_get _ v hv)
theorem SSAt.cct (h : SSAt w b s) (v : Nat) (hv : v < 13) : w.cell? ⟨b, 19 + v, none⟩ = some (.bool (s.ct v)) := h.rct.cell v (v13_get _ v hv)
theorem SSAt.cit (h : SSAt w b s) (v : Nat) (hv : v < 13) : w.cell? ⟨b, 32 + v, none⟩ = some (s.it v) := h.rit.cell v (v13_get _ v hv)
theorem SSAt.cpb (h : SSAt w b s) (v : Nat) (hv : v < 13) : w.cell? ⟨b, 45 + v, none⟩ = some (.int .i64 (s.pb v)) := h.rpb.cell v (v13_get _ v hv)
theorem SSAt.csh (h : SSAt w b s) (v : Nat) (hv : v < 13) : w.cell? ⟨b, 58 + v, none⟩ = some (.bool (s.sh v)) := h.rsh.cell v (v13_get _ v hv)
theorem SSAt.block (h : SSAt w b s) (e : w'.heap[b]? = w.heap[b]?) : SSAt w' b s := RecAt.block h e
theorem SSAt.below (h : SSAt w b s) (hb : Below w.heap.size w w') : SSAt w' b s := h.block (hb.block b h.lt)
theorem SSAt.put (h : SSAt w b s) (j : Nat) (hj : j < 76) (x : Value) {s' : SS} (e : (ssCells s).set j x = ssCells s') : SSAt (w.setCell ⟨b, j, none⟩ x) b s' := by
  have := RecAt.setAt h j (by rw [ssCells_length]; exact hj) x e
  rwa [Nat.zero_add] at this
theorem SSAt.setTm (h : SSAt w b s) (x : Int) : SSAt (w.setCell ⟨b, 4, none⟩ (.int .i64 x)) b { s with tm := x } := h.put 4 (by decide) _ rfl
theorem SSAt.setRd (h : SSAt w b s) (x : Int) : SSAt (w.setCell ⟨b, 5, none⟩ (.int .i64 x)) b { s with rd := x } := h.put 5 (by decide) _ rfl
theorem SSAt.setMk (h : SSAt w b s) (x : Value) : SSAt (w.setCell ⟨b, 71, none⟩ x) b { s with ml := x } := h.put 71 (by decide) _ rfl
theorem SSAt.setCt (h : SSAt w b s) (v : Nat) (hv : v < 13) (p : Bool) : SSAt (w.setCell ⟨b, 19 + v, none⟩ (.bool p)) b { s with ct := fun u => if u = v then p else s.ct u } := by
  refine h.put (19 + v) (by omega) _ ?_
  rcases thirteen hv with rfl | rfl | rfl | rfl | rfl | rfl | rfl | rfl | rfl | rfl | rfl | rfl | rfl <;> rfl
theorem SSAt.setIt (h : SSAt w b s) (v : Nat) (hv : v < 13) (x : Value) : SSAt (w.setCell ⟨b, 32 + v, none⟩ x) b { s with it := updV s.it v x } := by
  refine h.put (32 + v) (by omega) _ ?_
  rcases thirteen hv with rfl | rfl | rfl | rfl | rfl | rfl | rfl | rfl | rfl | rfl | rfl | rfl | rfl <;> rfl
theorem SSAt.setAll (h : SSAt w b s) (s' : SS) : SSAt (w.setCells b 0 (ssCells s')) b s' := RecAt.setAll h (ssCells s') (by rw [ssCells_length, ssCells_length])
theorem SSAt.allSn (h : SSAt w b s) (f : Nat → Bool) : SSAt (w.setCells b 6 (b13 f)) b { s with sn := f } := RecAt.setMid (pre := ssHead s) h (b13 f) rfl
theorem SSAt.allCt (h : SSAt w b s) (f : Nat → Bool) : SSAt (w.setCells b 19 (b13 f)) b { s with ct := f } := by
  have h' : RecAt w b 0 ((ssHead s ++ b13 s.sn) ++ (b13 s.ct ++ (v13 s.it ++ (i13 s.pb ++ (b13 s.sh ++ ssTail s))))) := by rw [List.append_assoc]; exact h
  have := RecAt.setMid h' (b13 f) rfl
  rw [List.append_assoc] at this; exact this
theorem SSAt.allIt (h : SSAt w b s) (f : Nat → Value) : SSAt (w.setCells b 32 (v13 f)) b { s with it := f } := by
  have h' : RecAt w b 0 ((ssHead s ++ b13 s.sn ++ b13 s.ct) ++ (v13 s.it ++ (i13 s.pb ++ (b13 s.sh ++ ssTail s)))) := by rw [List.append_assoc, List.append_assoc]; exact h
  have := RecAt.setMid h' (v13 f) rfl
  rw [List.append_assoc, List.append_assoc] at this; exact this
theorem SSAt.allPb (h : SSAt w b s) (f : Nat → Int) : SSAt (w.setCells b 45 (i13 f)) b { s with pb := f } := by
  have h' : RecAt w b 0 ((ssHead s ++ b13 s.sn ++ b13 s.ct ++ v13 s.it) ++ (i13 s.pb ++ (b13 s.sh ++ ssTail s))) := by rw [List.append_assoc, List.append_assoc, List.append_assoc]; exact h
  have := RecAt.setMid h' (i13 f) rfl
  rw [List.append_assoc, List.append_assoc, List.append_assoc] at this; exact this
theorem SSAt.allSh (h : SSAt w b s) (f : Nat → Bool) : SSAt (w.setCells b 58 (b13 f)) b { s with sh := f } := by
  have h' : RecAt w b 0 ((ssHead s ++ b13 s.sn ++ b13 s.ct ++ v13 s.it ++ i13 s.pb) ++ (b13 s.sh ++ ssTail s)) := by rw [List.append_assoc, List.append_assoc, List.append_assoc, List.append_assoc]; exact h
  have := RecAt.setMid h' (b13 f) rfl
  rw [List.append_assoc, List.append_assoc, List.append_assoc, List.append_assoc] at this; exact this
end

/-- The blocks of a server. -/
def SFoot (b : Nat) (S : SS) (x : Nat) : Prop := x = b ∨ (∃ v, v < 13 ∧ (S.it v).ownBlock = some x) ∨ S.ml.ownBlock = some x ∨ S.set.ownBlock = some x ∨ S.sum.ownBlock = some x

/-- A server in memory. While the outcome is pending all is there that later rounds need; then the outcome alone. -/
structure SrvAt (w : World) (b : Nat) (C : Srv.Cf) (s : Srv.Sv) (S : SS) : Prop where
  at_ : SSAt w b S
  st : S.st = s.out.1
  ro : S.ro = s.out.2.1
  set : ListAt w S.set s.out.2.2.1
  sum : ListAt w S.sum s.out.2.2.2
  apart : ∀ v, v < 13 → (S.it v).ownBlock ≠ some b
  apart2 : S.ml.ownBlock ≠ some b ∧ S.set.ownBlock ≠ some b ∧ S.sum.ownBlock ≠ some b
  zero : s.out.1 = 0 → s.out = (0, 0, [], []) ∧ S.set = .slice none 0 0 ∧ S.sum = .slice none 0 0
  rdz : s.out.1 ≠ 0 → S.rd = 0
  cfg : s.out.1 = 0 → S.n = C.N ∧ S.t = C.T ∧ S.m = C.M ∧ S.d = C.D
  now : s.out.1 = 0 → S.tm = s.tm ∧ S.rd = (s.rd : Int)
  sn : s.out.1 = 0 → ∀ v, v < 13 → S.sn v = if s.rd = 0 then decide (1 ≤ v ∧ (v : Int) ≤ C.N) else Srv.mem (s.G (s.rd - 1)) v
  ct : s.out.1 = 0 → ∀ v, v < 13 → S.ct v = Srv.mem (s.G s.rd) v
  it : s.out.1 = 0 → ∀ v, v < 13 → ItemsAt w (S.it v) (Srv.its (s.G s.rd) v)
  pb : s.out.1 = 0 → 1 ≤ s.rd → ∀ v, v < 13 → S.pb v = Srv.pub s.G v
  sh : s.out.1 = 0 → 2 ≤ s.rd → ∀ v, v < 13 → S.sh v = Srv.mem (s.G 1) v
  ml : s.out.1 = 0 → s.rd = 3 → ListAt w S.ml ((List.range C.M.toNat).map fun i => Srv.msk s.G i % 4294967296)

theorem SrvAt.keep {w w' : World} {b : Nat} {C : Srv.Cf} {s : Srv.Sv} {S : SS} (h : SrvAt w b C s S) (hs : w.heap.size ≤ w'.heap.size) (ha : SSAt w' b S) (hb : ∀ x, x ≠ b → SFoot b S x → w'.heap[x]? = w.heap[x]?) : SrvAt w' b C s S where
  at_ := ha
  st := h.st
  ro := h.ro
  set := h.set.keep hs fun x hx => hb x (fun e => h.apart2.2.1 (e ▸ hx)) (.inr (.inr (.inr (.inl hx))))
  sum := h.sum.keep hs fun x hx => hb x (fun e => h.apart2.2.2 (e ▸ hx)) (.inr (.inr (.inr (.inr hx))))
  apart := h.apart
  apart2 := h.apart2
  zero := h.zero
  rdz := h.rdz
  cfg := h.cfg
  now := h.now
  sn := h.sn
  ct := h.ct
  it := fun p v hv => (h.it p v hv).keep hs fun x hx => hb x (fun e => h.apart v hv (e ▸ hx)) (.inr (.inl ⟨v, hv, hx⟩))
  pb := h.pb
  sh := h.sh
  ml := fun p r => (h.ml p r).keep hs fun x hx => hb x (fun e => h.apart2.1 (e ▸ hx)) (.inr (.inr (.inl hx)))

/-- A server in memory, its blocks all there. -/
structure SrvW (w : World) (b : Nat) (C : Srv.Cf) (s : Srv.Sv) (S : SS) : Prop where
  srv : SrvAt w b C s S
  low : ∀ x, SFoot b S x → x < w.heap.size
theorem SrvW.keep {w w' : World} {b : Nat} {C : Srv.Cf} {s : Srv.Sv} {S : SS} (h : SrvW w b C s S) (hs : w.heap.size ≤ w'.heap.size) (hb : ∀ x, SFoot b S x → w'.heap[x]? = w.heap[x]?) : SrvW w' b C s S :=
  ⟨h.srv.keep hs (h.srv.at_.block (hb b (.inl rfl))) (fun x _ hx => hb x hx), fun x hx => Nat.lt_of_lt_of_le (h.low x hx) hs⟩
theorem SrvW.below {w w' : World} {b : Nat} {C : Srv.Cf} {s : Srv.Sv} {S : SS} (h : SrvW w b C s S) (hb : Below w.heap.size w w') : SrvW w' b C s S := h.keep hb.size (fun x hx => hb.block x (h.low x hx))
theorem SrvW.chg {P : Nat → Prop} {w w' : World} {b : Nat} {C : Srv.Cf} {s : Srv.Sv} {S : SS} (h : SrvW w b C s S) (hc : Chg P w w') (hn : ∀ x, SFoot b S x → ¬ P x) : SrvW w' b C s S := h.keep hc.size (fun x hx => hc.block x (h.low x hx) (hn x hx))

end Go.Proofs.YtchideljndagjabGreat

namespace Go.Proofs.YtchideljndagjabGreat
open Go.ChangeShapes Go.WideShapes Go.ChangeAt Go.RowKit
set_option linter.unusedVariables false

def memV (f : Nat → Bool) : Value := .agg (bl13 f).toArray
theorem size_mem : (Tryz.prog.info? 101).map (·.size) = some 13 := by kernel_rfl
theorem size_nums : (Tryz.prog.info? 104).map (·.size) = some 13 := by kernel_rfl
theorem size_lists : (Tryz.prog.info? 103).map (·.size) = some 13 := by kernel_rfl
theorem size_itm : (Tryz.prog.info? 147).map (·.size) = some 4 := by kernel_rfl

theorem ix_mem0 (f : Nat → Bool) (w : World) : (Instr.index 101 (.agg (bl13 f).toArray) (.int .i64 ((0 : Nat) : Int))).run Tryz.prog w = .ok (.bool (f 0)) w := by kernel_rfl
theorem ix_mem1 (f : Nat → Bool) (w : World) : (Instr.index 101 (.agg (bl13 f).toArray) (.int .i64 ((1 : Nat) : Int))).run Tryz.prog w = .ok (.bool (f 1)) w := by kernel_rfl
theorem ix_mem2 (f : Nat → Bool) (w : World) : (Instr.index 101 (.agg (bl13 f).toArray) (.int .i64 ((2 : Nat) : Int))).run Tryz.prog w = .ok (.bool (f 2)) w := by kernel_rfl
theorem ix_mem3 (f : Nat → Bool) (w : World) : (Instr.index 101 (.agg (bl13 f).toArray) (.int .i64 ((3 : Nat) : Int))).run Tryz.prog w = .ok (.bool (f 3)) w := by kernel_rfl
theorem ix_mem4 (f : Nat → Bool) (w : World) : (Instr.index 101 (.agg (bl13 f).toArray) (.int .i64 ((4 : Nat) : Int))).run Tryz.prog w = .ok (.bool (f 4)) w := by kernel_rfl
theorem ix_mem5 (f : Nat → Bool) (w : World) : (Instr.index 101 (.agg (bl13 f).toArray) (.int .i64 ((5 : Nat) : Int))).run Tryz.prog w = .ok (.bool (f 5)) w := by kernel_rfl
theorem ix_mem6 (f : Nat → Bool) (w : World) : (Instr.index 101 (.agg (bl13 f).toArray) (.int .i64 ((6 : Nat) : Int))).run Tryz.prog w = .ok (.bool (f 6)) w := by kernel_rfl
theorem ix_mem7 (f : Nat → Bool) (w : World) : (Instr.index 101 (.agg (bl13 f).toArray) (.int .i64 ((7 : Nat) : Int))).run Tryz.prog w = .ok (.bool (f 7)) w := by kernel_rfl
theorem ix_mem8 (f : Nat → Bool) (w : World) : (Instr.index 101 (.agg (bl13 f).toArray) (.int .i64 ((8 : Nat) : Int))).run Tryz.prog w = .ok (.bool (f 8)) w := by kernel_rfl
theorem ix_mem9 (f : Nat → Bool) (w : World) : (Instr.index 101 (.agg (bl13 f).toArray) (.int .i64 ((9 : Nat) : Int))).run Tryz.prog w = .ok (.bool (f 9)) w := by kernel_rfl
theorem ix_mem10 (f : Nat → Bool) (w : World) : (Instr.index 101 (.agg (bl13 f).toArray) (.int .i64 ((10 : Nat) : Int))).run Tryz.prog w = .ok (.bool (f 10)) w := by kernel_rfl
theorem ix_mem11 (f : Nat → Bool) (w : World) : (Instr.index 101 (.agg (bl13 f).toArray) (.int .i64 ((11 : Nat) : Int))).run Tryz.prog w = .ok (.bool (f 11)) w := by kernel_rfl
theorem ix_mem12 (f : Nat → Bool) (w : World) : (Instr.index 101 (.agg (bl13 f).toArray) (.int .i64 ((12 : Nat) : Int))).run Tryz.prog w = .ok (.bool (f 12)) w := by kernel_rfl
theorem ix_mem (f : Nat → Bool) (k : Nat) (hk : k < 13) (w : World) : (Instr.index 101 (.agg (bl13 f).toArray) (.int .i64 (k : Int))).run Tryz.prog w = .ok (.bool (f k)) w := by
  rcases thirteen hk with rfl | rfl | rfl | rfl | rfl | rfl | rfl | rfl | rfl | rfl | rfl | rfl | rfl
  · exact ix_mem0 f w
  · exact ix_mem1 f w
  · exact ix_mem2 f w
  · exact ix_mem3 f w
  · exact ix_mem4 f w
  · exact ix_mem5 f w
  · exact ix_mem6 f w
  · exact ix_mem7 f w
  · exact ix_mem8 f w
  · exact ix_mem9 f w
  · exact ix_mem10 f w
  · exact ix_mem11 f w
  · exact ix_mem12 f w

theorem bools_new (w : World) (T : TypeId) (f : Nat → Bool) : BoolsAt (w.alloc (.cells (bl13 f).toArray T)) w.heap.size T f := heap_alloc_new w _

set_option maxHeartbeats 1000000 in
set_option maxRecDepth 100000 in
theorem firstMembers_calls (n : Int) (w : World) :
    Calls Tryz.prog 190 #[.int .i64 n] w fun e w' => e = .returned (memV fun u => decide (1 ≤ u ∧ (u : Int) ≤ n)) ∧ Below w.heap.size w w' := by
  have HA := hideG (heap_alloc2_old w (.cells (bl13 fun _ => false).toArray 101) (.cells (bl13 fun _ => false).toArray 101))
  have HBn := hideG (heap_alloc2_new w (.cells (bl13 fun _ => false).toArray 101) (.cells (bl13 fun _ => false).toArray 101))
  unfold memV
  go_enter Tryz.func190, Tryz.ntmps190
  go_wp2_with fail
  go_loopw [5] (fun i wr => ∃ k : Nat, k ≤ 13 ∧ i = .int .i64 k ∧ BoolsAt wr (w.heap.size + 1) 101 (fun u => decide (u < k) && decide (1 ≤ u ∧ (u : Int) ≤ n)) ∧ BoolsAt wr w.heap.size 101 (fun _ => false) ∧ Below w.heap.size w wr) (fun i _ => 13 - (intOf i).toNat)
  case atStart =>
    refine ⟨0, by omega, rfl, ?_, ?_, ((Below.refl _ _).alloc (Nat.le_refl _) _).alloc (by simp) _⟩
    · exact HBn.out
    · exact HA.out
  case round =>
    obtain ⟨k, hk, rfl, hbo, hze, hbel⟩ := hrel
    have HBO := hideG hbo
    have HZE := hideG hze
    have HB := hideG hbel
    have hsz := hbel.size
    have hs1 := hbo.lt
    clear hbo hbel hze
    by_cases hlt : k < 13
    · have hlt' : (k : Int) < 13 := by omega
      have z0 := HBO.out.cell k hlt
      have zf := HBO.out.froz k
      have HUP := hideG (fun (p : Bool) (hp : p = decide (1 ≤ k ∧ (k : Int) ≤ n)) => (show BoolsAt (wr.setCell ⟨w.heap.size + 1, k, none⟩ (.bool p)) (w.heap.size + 1) 101 (fun u => decide (u < k + 1) && decide (1 ≤ u ∧ (u : Int) ≤ n)) from
        (HBO.out.set k hlt p).ext (fun v hv => by
          unfold updB
          by_cases e : v = k
          · subst e; rw [if_pos rfl, decide_eq_true (show v < v + 1 by omega), hp]; rfl
          · rw [if_neg e]
            show (decide (v < k) && decide (1 ≤ v ∧ (v : Int) ≤ n)) = (decide (v < k + 1) && decide (1 ≤ v ∧ (v : Int) ≤ n))
            by_cases c : v < k
            · rw [decide_eq_true c, decide_eq_true (show v < k + 1 by omega)]
            · rw [decide_eq_false c, decide_eq_false (show ¬ v < k + 1 by omega)])))
      by_cases c1 : 1 ≤ k
      · have c1' : (1 : Int) ≤ (k : Int) := by omega
        by_cases c2 : (k : Int) ≤ n
        · have HP := hideG (HUP.out true (decide_eq_true ⟨c1, c2⟩).symm)
          go_wp2_with fail
          go_roundw
          case rel => exact ⟨k + 1, by omega, by go_num, HP.out, HZE.out.block (Below.heap_setCell _ _ _ _ (by simp)), HB.out.setCell (p := ⟨w.heap.size + 1, k, none⟩) (by show w.heap.size ≤ w.heap.size + 1; omega) _⟩
          case measure => simp [intOf]; omega
        · have HP := hideG (HUP.out false (decide_eq_false (by omega)).symm)
          go_wp2_with fail
          go_roundw
          case rel => exact ⟨k + 1, by omega, by go_num, HP.out, HZE.out.block (Below.heap_setCell _ _ _ _ (by simp)), HB.out.setCell (p := ⟨w.heap.size + 1, k, none⟩) (by show w.heap.size ≤ w.heap.size + 1; omega) _⟩
          case measure => simp [intOf]; omega
      · have c1' : ¬ (1 : Int) ≤ (k : Int) := by omega
        have HP := hideG (HUP.out false (decide_eq_false (by omega)).symm)
        go_wp2_with fail
        go_roundw
        case rel => exact ⟨k + 1, by omega, by go_num, HP.out, HZE.out.block (Below.heap_setCell _ _ _ _ (by simp)), HB.out.setCell (p := ⟨w.heap.size + 1, k, none⟩) (by show w.heap.size ≤ w.heap.size + 1; omega) _⟩
        case measure => simp [intOf]; omega
    · have ek : k = 13 := by omega
      subst ek
      have HST := hideG (show BoolsAt wr (w.heap.size + 1) 101 (fun u => decide (1 ≤ u ∧ (u : Int) ≤ n)) from HBO.out.ext (fun v hv => by rw [decide_eq_true hv]; rfl))
      have RG := hideG HST.out.range
      have LX := hideG (bl13_length (fun u => decide (1 ≤ u ∧ (u : Int) ≤ n)))
      have HON := hideG (all_oneCell_toArray (bl13_one (fun u => decide (1 ≤ u ∧ (u : Int) ≤ n))))
      have HTH := hideG (show wr.there w.heap.size 0 (bl13 (fun u => decide (1 ≤ u ∧ (u : Int) ≤ n))).toArray.size from fun i hi => by
        rw [List.size_toArray, bl13_length] at hi
        exact ⟨by rw [Nat.zero_add, HZE.out.cell i hi]; rfl, by rw [Nat.zero_add]; exact HZE.out.froz i⟩)
      have HROW := hideG (show (wr.setCells w.heap.size 0 (bl13 (fun u => decide (1 ≤ u ∧ (u : Int) ≤ n)))).heap[w.heap.size]? = some (.cells (bl13 (fun u => decide (1 ≤ u ∧ (u : Int) ≤ n))).toArray 101 (0, 0)) by
        have := heap_setCells w.heap.size 101 (bl13 (fun u => decide (1 ≤ u ∧ (u : Int) ≤ n))) [] (bl13 fun _ => false) [] wr rfl (by rw [List.append_nil]; exact HZE.out)
        rw [List.append_nil] at this
        exact this)
      have BF := hideG (show Below w.heap.size w (wr.setCells w.heap.size 0 (bl13 (fun u => decide (1 ≤ u ∧ (u : Int) ≤ n)))) from below_setCells (Nat.le_refl _) _ _ _ HB.out)
      obtain ⟨CS, hCS⟩ : ∃ CS, CS = bl13 (fun u => decide (1 ≤ u ∧ (u : Int) ≤ n)) := ⟨_, rfl⟩
      rw [← hCS] at RG LX HON HTH HROW BF
      have HCS := hideG hCS
      clear hCS
      have HSZ := hideG (show (Tryz.prog.info? 101).map (·.size) = some CS.toArray.size by rw [size_mem, List.size_toArray, LX.out])
      have HSL := hideG (show (Tryz.prog.info? 101).map (·.size) = some CS.length by rw [size_mem, LX.out])
      go_wp2_with (first | refine wpList_load_mid rfl 101 _ rfl (w.heap.size + 1) 0 rfl CS _ RG.out Tryz.underlying101 rfl HSL.out ?_ | refine wpList_store_mid rfl 101 _ _ rfl w.heap.size 0 CS.toArray rfl rfl HTH.out HSZ.out HON.out ?_)
      refine bodyPost_ret (results_cell_row rfl _ _ w.heap.size 101 CS.toArray (0, 0) _ rfl HROW.out Tryz.underlying101 rfl HSZ.out) rfl ?_
      exact ⟨by rw [HCS.out], BF.out⟩

set_option maxHeartbeats 1000000 in
set_option maxRecDepth 100000 in
theorem sizeOf_calls (f : Nat → Bool) (w : World) :
    Calls Tryz.prog 195 #[memV f] w fun e w' => e = .returned (.int .i64 ((Srv.lst f).length : Int)) ∧ Below w.heap.size w w' := by
  unfold memV
  have HB := hideG (bools_new w 101 f)
  have BB := hideG (show Below w.heap.size w (w.alloc (.cells (bl13 f).toArray 101)) from (Below.refl _ _).alloc (Nat.le_refl _) _)
  have HRG := hideG (bools_new w 101 f).range
  have HIX := hideG (ix_mem f)
  have LX := hideG (bl13_length f)
  obtain ⟨W, hW⟩ : ∃ W, W = w.alloc (.cells (bl13 f).toArray 101) := ⟨_, rfl⟩
  rw [← hW] at HB BB HRG
  have HW := hideG hW
  clear hW
  obtain ⟨X, hX⟩ : ∃ X, X = bl13 f := ⟨_, rfl⟩
  rw [← hX] at HW HRG HIX LX ⊢
  clear hX
  go_enter Tryz.func195, Tryz.ntmps195
  go_upto_region 2 with fail
  rw [← HW.out]
  go_wp2_with (refine wpList_load_mid rfl 101 _ rfl w.heap.size 0 rfl X _ HRG.out Tryz.underlying101 rfl ?z ?_)
  case z => rw [size_mem, LX.out]
  go_wp2_with fail
  go_loop [3, 7] (fun n u => ∃ k : Nat, k ≤ 13 ∧ u = .int .i64 (k : Int) ∧ n = .int .i64 ((Srv.lstN f k).length : Int)) (fun _ u => 13 - (intOf u).toNat)
  case atStart => exact ⟨0, by omega, rfl, rfl⟩
  case round =>
    obtain ⟨k, hk, rfl, rfl⟩ := hrel
    have hle := Srv.lstN_le f k
    have HS := hideG (Srv.lstN_succ f k)
    obtain ⟨m, hm⟩ : ∃ m, m = (Srv.lstN f k).length := ⟨_, rfl⟩
    rw [← hm] at hle ⊢
    have HM := hideG hm
    clear hm
    by_cases hlt : k < 13
    · have hlt' : (k : Int) < 13 := by omega
      have hix := HIX.out k hlt
      cases q : f k
      · rw [q] at hix
        have HS2 := hideG (show (Srv.lstN f (k + 1)).length = m by rw [HS.out, q, HM.out]; simp)
        clear q
        go_wp2_with fail
        go_round
        case rel => exact ⟨k + 1, by omega, by go_num, by rw [HS2.out]⟩
        case measure => simp [intOf]; omega
      · rw [q] at hix
        have HS2 := hideG (show (Srv.lstN f (k + 1)).length = m + 1 by rw [HS.out, q, HM.out]; simp)
        clear q
        go_wp2_with fail
        go_round
        case rel => exact ⟨k + 1, by omega, by go_num, by rw [HS2.out]; go_num⟩
        case measure => simp [intOf]; omega
    · have ek : k = 13 := by omega
      subst ek
      go_wp2_with fail
      go_ret
      exact ⟨by rw [HM.out]; rfl, BB.out⟩

end Go.Proofs.YtchideljndagjabGreat

namespace Go.Proofs.YtchideljndagjabGreat
open Go.ChangeShapes Go.WideShapes Go.ChangeAt Go.RowKit
set_option linter.unusedVariables false

theorem infoIn : (Tryz.prog.info? 3).map (fun i => (i.zero, i.size, i.bytes)) = some (some (.int .i64 0), 1, 8) := by kernel_rfl
def natsV (l : List Nat) : List Value := l.map fun u : Nat => .int .i64 (u : Int)

set_option maxHeartbeats 1000000 in
set_option maxRecDepth 100000 in
theorem listed_calls (f : Nat → Bool) (w : World) :
    Calls Tryz.prog 248 #[memV f] w fun e w' => ∃ v, e = .returned v ∧ w'.ownsRow w.heap.size 3 1 v (Srv.lst f).length (natsV (Srv.lst f)) ∧ Below w.heap.size w w' := by
  obtain ⟨i0, hi, hz0, hz1, hz2⟩ := info_parts infoIn
  unfold memV
  have BB := hideG (show Below w.heap.size w (w.alloc (.cells (bl13 f).toArray 101)) from (Below.refl _ _).alloc (Nat.le_refl _) _)
  have HRG := hideG (bools_new w 101 f).range
  have HIX := hideG (ix_mem f)
  have LX := hideG (bl13_length f)
  obtain ⟨W, hW⟩ : ∃ W, W = w.alloc (.cells (bl13 f).toArray 101) := ⟨_, rfl⟩
  rw [← hW] at BB HRG
  have HW := hideG hW
  clear hW
  obtain ⟨X, hX⟩ : ∃ X, X = bl13 f := ⟨_, rfl⟩
  rw [← hX] at HW HRG HIX LX ⊢
  clear hX
  go_enter Tryz.func248, Tryz.ntmps248
  go_upto_region 2 with fail
  rw [← HW.out]
  go_wp2_with (refine wpList_load_mid rfl 101 _ rfl w.heap.size 0 rfl X _ HRG.out Tryz.underlying101 rfl ?z ?_)
  case z => rw [size_mem, LX.out]
  go_wp2_with fail
  go_loopw [3, 7] (fun u i wr => ∃ k : Nat, k ≤ 13 ∧ i = .int .i64 (k : Int) ∧ wr.ownsRow w.heap.size 3 1 u (Srv.lstN f k).length (natsV (Srv.lstN f k)) ∧ Below w.heap.size w wr) (fun _ i _ => 13 - (intOf i).toNat)
  case atStart => exact ⟨0, by omega, rfl, World.ownsRow_nil _ _ _ _, BB.out⟩
  case round =>
    obtain ⟨k, hk, rfl, hown, hbel⟩ := hrel
    have HO := hideG hown
    have HB := hideG hbel
    have hsz := hbel.size
    obtain ⟨a3, c3, hv3⟩ := owns_form hown
    subst hv3
    clear hown hbel
    have hle := Srv.lstN_le f k
    have HS := hideG (Srv.lstN_succ f k)
    by_cases hlt : k < 13
    · have hlt' : (k : Int) < 13 := by omega
      have hix := HIX.out k hlt
      cases q : f k
      · rw [q] at hix
        have HS2 := hideG (show Srv.lstN f (k + 1) = Srv.lstN f k by rw [HS.out, q]; simp)
        clear q
        go_wp2_with fail
        go_roundw
        case rel => exact ⟨k + 1, by omega, by go_num, by rw [HS2.out]; exact HO.out, HB.out⟩
        case measure => simp [intOf]; omega
      · rw [q] at hix
        have HS2 := hideG (show Srv.lstN f (k + 1) = Srv.lstN f k ++ [k] by rw [HS.out, q]; simp)
        clear q
        go_wp2_with (at_builtin; refine wpList_append_own _ rfl _ _ 33 rfl w.heap.size 3 i0 (.int .i64 0) 1 8 Tryz.underlying33 hi hz0 hz1 hz2 rfl (by decide) _ _ _ rfl (HO.out.alloc _) ⟨wr.heap.size, 0, none⟩ 1 1 [.int .i64 (k : Int)] rfl rfl ?c1 ?c2 ?c3 ?c4 ?c5 ?_)
        case c1 => exact cell_one_new _ _ _
        case c2 => intro u hu; simp at hu; subst hu; rfl
        case c3 => unfold maxLen; omega
        case c4 => omega
        case c5 => simp; omega
        intro v' w2 hown' hgrow' _
        have hbk := fun x (h : Value.ownBlock _ = some x) => HO.out.lt x h
        have hb2 := (HB.out.alloc hsz _).grown hgrow' (by simp; omega) (fun x h => (hbk x h).1)
        have HB2 := hideG hb2
        have ho2 : w2.ownsRow w.heap.size 3 1 v' (Srv.lstN f (k + 1)).length (natsV (Srv.lstN f (k + 1))) := by
          rw [HS2.out, List.length_append]; unfold natsV at hown' ⊢; rw [List.map_append]; exact hown'
        have HO2 := hideG ho2
        clear hown' hgrow' hbk hb2 ho2
        go_wp2_with fail
        go_roundw
        case rel => exact ⟨k + 1, by omega, by go_num, HO2.out, HB2.out⟩
        case measure => simp [intOf]; omega
    · have ek : k = 13 := by omega
      subst ek
      go_wp2_with fail
      go_ret
      exact ⟨_, rfl, HO.out, HB.out⟩

theorem itemOf_at (l : List Frm.It) (u : Int) : ∀ j, (∀ i, i < j → (Frm.it l i).1 ≠ u) → j < l.length → (Frm.it l j).1 = u → Cli.itemOf l u = Frm.it l j := fun j hj hlt e => by
  unfold Cli.itemOf
  have hs : l = l.take j ++ (l[j] :: l.drop (j + 1)) := by rw [List.getElem_cons_drop, List.take_append_drop]
  have hnone : (l.take j).find? (fun x => decide (x.1 = u)) = none := by
    rw [List.find?_eq_none]
    intro x hx
    obtain ⟨i, hi, rfl⟩ := List.getElem_of_mem hx
    rw [List.length_take] at hi
    rw [List.getElem_take]
    have := hj i (by omega)
    rw [Cli.it_get l i (by omega)] at this
    simpa using this
  rw [Cli.it_get l j hlt] at e
  rw [Cli.it_get l j hlt]
  conv => lhs; rw [hs]
  rw [List.find?_append, hnone, List.find?_cons, decide_eq_true e]
  rfl
theorem itemOf_no (l : List Frm.It) (u : Int) (h : ∀ i, i < l.length → (Frm.it l i).1 ≠ u) : Cli.itemOf l u = (0, 0, 0, 0) := Cli.itemOf_none (Cli.hasI_off.2 fun x hx => by
  obtain ⟨i, hi, rfl⟩ := List.getElem_of_mem hx
  have := h i hi
  rwa [Cli.it_get l i hi] at this)
def itmV (x : Frm.It) : Value := .agg #[.int .i64 x.1, .int .i64 x.2.1, .int .i64 x.2.2.1, .int .i64 x.2.2.2]

set_option maxHeartbeats 2000000 in
set_option maxRecDepth 100000 in
theorem sItemOf_calls (v : Value) (l : List Frm.It) (u : Int) (w : World) (hl : ItemsAt w v l) :
    Calls Tryz.prog 289 #[v, .int .i64 u] w fun e w' => e = .returned (itmV (Cli.itemOf l u)) ∧ Below w.heap.size w w' := by
  obtain ⟨a, cap, rfl, l2, l3, _, hcl⟩ := items_view hl
  have HC := hideG hcl
  have HF := hideG (itemOf_at l u)
  have HN := hideG (itemOf_no l u)
  clear hl hcl
  unfold itmV
  generalize l.length = n at *
  have HROW0 := hideG (heap_alloc_new w (.cells #[.int .i64 0, .int .i64 0, .int .i64 0, .int .i64 0] 147))
  have B0 := hideG (show Below w.heap.size w (w.alloc (.cells #[.int .i64 0, .int .i64 0, .int .i64 0, .int .i64 0] 147)) from (Below.refl _ _).alloc (Nat.le_refl _) _)
  go_enter Tryz.func289, Tryz.ntmps289
  go_wp2_with fail
  go_loopw [9] (fun i wr => ∃ j : Nat, j ≤ n ∧ i = .int .i64 j ∧ (∀ i', i' < j → (Frm.it l i').1 ≠ u) ∧ wr.heap[w.heap.size]? = some (.cells #[.int .i64 0, .int .i64 0, .int .i64 0, .int .i64 0] 147 (0, 0)) ∧ Below w.heap.size w wr) (fun i _ => n - (intOf i).toNat)
  case atStart => exact ⟨0, Nat.zero_le _, rfl, fun i h => by omega, HROW0.out, B0.out⟩
  case round =>
    obtain ⟨j, hj, rfl, hall, hrow, hbel⟩ := hrel
    have HA := hideG hall
    have HR := hideG hrow
    have HB := hideG hbel
    have hsz : w.heap.size < wr.heap.size := by
      apply Decidable.byContradiction
      intro c
      rw [Array.getElem?_eq_none (by omega)] at hrow
      cases hrow
    clear hall hrow hbel
    by_cases hlt : j < n
    · obtain ⟨b', off, rfl, hb, hit⟩ := HC.out j hlt
      obtain ⟨d0, d1, d2, d3⟩ := hit.below hb HB.out
      clear hit
      have HFJ := hideG (HF.out j HA.out hlt)
      obtain ⟨z0, z1, z2, z3, hz⟩ : ∃ z0 z1 z2 z3, Frm.it l j = (z0, z1, z2, z3) := ⟨_, _, _, _, rfl⟩
      rw [hz] at d0 d1 d2 d3 HFJ
      have HZ := hideG hz
      clear hz
      obtain ⟨W1, hW1⟩ : ∃ W1, W1 = wr.alloc (.cells #[.int .i64 z0, .int .i64 z1, .int .i64 z2, .int .i64 z3] 147) := ⟨_, rfl⟩
      have x0 : W1.cell? ⟨wr.heap.size, 0, none⟩ = some (.int .i64 z0) := by rw [hW1]; simp
      have x1 : W1.cell? ⟨wr.heap.size, 1, none⟩ = some (.int .i64 z1) := by rw [hW1]; simp
      have x2 : W1.cell? ⟨wr.heap.size, 2, none⟩ = some (.int .i64 z2) := by rw [hW1]; simp
      have x3 : W1.cell? ⟨wr.heap.size, 3, none⟩ = some (.int .i64 z3) := by rw [hW1]; simp
      have HR1 := hideG (show W1.heap[w.heap.size]? = some (.cells #[.int .i64 0, .int .i64 0, .int .i64 0, .int .i64 0] 147 (0, 0)) by
        rw [hW1, ((Below.refl wr.heap.size wr).alloc (Nat.le_refl _) _).block _ hsz]; exact HR.out)
      have HB1 := hideG (show Below w.heap.size w W1 by rw [hW1]; exact HB.out.alloc (by omega) _)
      have y0 : W1.cell? ⟨w.heap.size, 0, none⟩ = some (.int .i64 0) := by rw [cell_of_row W1 w.heap.size 0 _ _ (0, 0) HR1.out]; rfl
      have y1 : W1.cell? ⟨w.heap.size, 1, none⟩ = some (.int .i64 0) := by rw [cell_of_row W1 w.heap.size 1 _ _ (0, 0) HR1.out]; rfl
      have y2 : W1.cell? ⟨w.heap.size, 2, none⟩ = some (.int .i64 0) := by rw [cell_of_row W1 w.heap.size 2 _ _ (0, 0) HR1.out]; rfl
      have y3 : W1.cell? ⟨w.heap.size, 3, none⟩ = some (.int .i64 0) := by rw [cell_of_row W1 w.heap.size 3 _ _ (0, 0) HR1.out]; rfl
      have yf := fun i => frozen_of_row W1 w.heap.size i _ _ HR1.out
      have HW1 := hideG hW1
      clear hW1
      go_upto_region 4 with fail
      all_goals (try rw [← HW1.out])
      by_cases q : z0 = u
      · have q' : (z0 == u) = true := by simpa using q
        have HI := hideG (HFJ.out q)
        have HQ := hideG q
        clear q
        have E1 := hideG (show (((((W1.setCell ⟨w.heap.size, 0, none⟩ (.int .i64 z0)).setCell ⟨w.heap.size, 1, none⟩ (.int .i64 z1)).setCell ⟨w.heap.size, 2, none⟩ (.int .i64 z2)).setCell ⟨w.heap.size, 3, none⟩ (.int .i64 z3)).heap[w.heap.size]? = some (.cells #[.int .i64 z0, .int .i64 z1, .int .i64 z2, .int .i64 z3] 147 (0, 0))) from
          heap_setCell_same _ _ 3 #[.int .i64 z0, .int .i64 z1, .int .i64 z2, .int .i64 0] _ _ (heap_setCell_same _ _ 2 #[.int .i64 z0, .int .i64 z1, .int .i64 0, .int .i64 0] _ _ (heap_setCell_same _ _ 1 #[.int .i64 z0, .int .i64 0, .int .i64 0, .int .i64 0] _ _ (heap_setCell_same _ _ 0 _ _ _ HR1.out))))
        have E2 := hideG (show Below w.heap.size w ((((W1.setCell ⟨w.heap.size, 0, none⟩ (.int .i64 z0)).setCell ⟨w.heap.size, 1, none⟩ (.int .i64 z1)).setCell ⟨w.heap.size, 2, none⟩ (.int .i64 z2)).setCell ⟨w.heap.size, 3, none⟩ (.int .i64 z3)) from
          (((HB1.out.setCell (p := ⟨w.heap.size, 0, none⟩) (Nat.le_refl _) _).setCell (p := ⟨w.heap.size, 1, none⟩) (Nat.le_refl _) _).setCell (p := ⟨w.heap.size, 2, none⟩) (Nat.le_refl _) _).setCell (p := ⟨w.heap.size, 3, none⟩) (Nat.le_refl _) _)
        go_wp2_with fail
        refine bodyPost_ret (results_cell_row rfl _ _ w.heap.size 147 #[.int .i64 z0, .int .i64 z1, .int .i64 z2, .int .i64 z3] (0, 0) _ rfl E1.out Tryz.underlying147 rfl size_itm) rfl ?_
        exact ⟨by rw [HI.out], E2.out⟩
      · have q' : (z0 == u) = false := by simpa using q
        have HQ := hideG q
        clear q
        go_wp2_with fail
        go_roundw
        case rel =>
          refine ⟨j + 1, by omega, by go_num, fun i hi => ?_, HR1.out, HB1.out⟩
          by_cases e : i = j
          · subst e; rw [HZ.out]; exact HQ.out
          · exact HA.out i (by omega)
        case measure => simp [intOf]; omega
    · have ej : j = n := by omega
      subst ej
      have HNN := hideG (HN.out HA.out)
      have y0 : wr.cell? ⟨w.heap.size, 0, none⟩ = some (.int .i64 0) := by rw [cell_of_row wr w.heap.size 0 _ _ (0, 0) HR.out]; rfl
      have y1 : wr.cell? ⟨w.heap.size, 1, none⟩ = some (.int .i64 0) := by rw [cell_of_row wr w.heap.size 1 _ _ (0, 0) HR.out]; rfl
      have y2 : wr.cell? ⟨w.heap.size, 2, none⟩ = some (.int .i64 0) := by rw [cell_of_row wr w.heap.size 2 _ _ (0, 0) HR.out]; rfl
      have y3 : wr.cell? ⟨w.heap.size, 3, none⟩ = some (.int .i64 0) := by rw [cell_of_row wr w.heap.size 3 _ _ (0, 0) HR.out]; rfl
      have yf := fun i => frozen_of_row wr w.heap.size i _ _ HR.out
      have E1 := hideG (show (((((wr.setCell ⟨w.heap.size, 0, none⟩ (.int .i64 0)).setCell ⟨w.heap.size, 1, none⟩ (.int .i64 0)).setCell ⟨w.heap.size, 2, none⟩ (.int .i64 0)).setCell ⟨w.heap.size, 3, none⟩ (.int .i64 0)).heap[w.heap.size]? = some (.cells #[.int .i64 0, .int .i64 0, .int .i64 0, .int .i64 0] 147 (0, 0))) from
          heap_setCell_same _ _ 3 #[.int .i64 0, .int .i64 0, .int .i64 0, .int .i64 0] _ _ (heap_setCell_same _ _ 2 #[.int .i64 0, .int .i64 0, .int .i64 0, .int .i64 0] _ _ (heap_setCell_same _ _ 1 #[.int .i64 0, .int .i64 0, .int .i64 0, .int .i64 0] _ _ (heap_setCell_same _ _ 0 _ _ _ HR.out))))
      have E2 := hideG (show Below w.heap.size w ((((wr.setCell ⟨w.heap.size, 0, none⟩ (.int .i64 0)).setCell ⟨w.heap.size, 1, none⟩ (.int .i64 0)).setCell ⟨w.heap.size, 2, none⟩ (.int .i64 0)).setCell ⟨w.heap.size, 3, none⟩ (.int .i64 0)) from
          (((HB.out.setCell (p := ⟨w.heap.size, 0, none⟩) (Nat.le_refl _) _).setCell (p := ⟨w.heap.size, 1, none⟩) (Nat.le_refl _) _).setCell (p := ⟨w.heap.size, 2, none⟩) (Nat.le_refl _) _).setCell (p := ⟨w.heap.size, 3, none⟩) (Nat.le_refl _) _)
      go_wp2_with fail
      refine bodyPost_ret (results_cell_row rfl _ _ w.heap.size 147 #[.int .i64 0, .int .i64 0, .int .i64 0, .int .i64 0] (0, 0) _ rfl E1.out Tryz.underlying147 rfl size_itm) rfl ?_
      exact ⟨by rw [HNN.out], E2.out⟩

end Go.Proofs.YtchideljndagjabGreat
