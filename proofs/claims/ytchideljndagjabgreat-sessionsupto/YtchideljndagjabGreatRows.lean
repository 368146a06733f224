/-
  No cell of these rows narrows 'for every input' (looked for: loops, veiled, ifaces, maps, wideKeys, modest, calm, conditions, laid).
  DERIVED. THE GIVEN ROWS OF THIS SEAT. 7 by the template 'for every input the law returns true; each argument reads behind the call as it read before'; 0 by the template 'total and deterministic' (their statements: YtchideljndagjabGreatTotals.lean).
  GIVEN WITH THE SEED: the statements are not yours to turn. If you find one false, say at which input.
  Laid BY PROGRAM, IN A SANDBOX (cutbox-rows.mjs): the forced cells as the released guide's own fill.sh prints them over the translation 6cb3ac3bd7cff93a… (all of the seat's roots in one cut). By AI agents, Wed Nov 11 2026. No macro, syntax, notation, axiom, sorry.
-/
import Derived.Test.YtchideljndagjabGreatChecked
import GoSem.Claim
import GoSem.ClaimJoined
import GoSem.ClaimMapViews
import Derived.JoinedTies
import Derived.KernelRfl
namespace Go.Proofs.YtchideljndagjabGreat
/- THE CELL 'sum', in the pinned program and in every row, IS THE sha256 OF THE DUMP (.gsa) THAT YtchideljndagjabGreatProg.lean LOADS. Nothing in Lean hashes anything: it is a label: what it is worth is what the hold of that sum in a sandbox is worth. -/
noncomputable def Tryz.pinned : Pinned := { name := "ytchideljndagjabgreat", sum := "6cb3ac3bd7cff93a0adc2332928cd8206a96a588b591a09780bc35ef7b96b92f", checked := Tryz.checked }
namespace Rows
def none {H : Type} : Left H := { results := [], args := [] }

/-- 'veillaw.Servers': WHATEVER THE INPUT: true; the input reads as it did. -/
def serversSpec : ChangeSpec := { name := "servers", fn := fun _ => fun
  | [d] => { results := [.lit (.bool true)], args := [d] }
  | _ => none }
def serversRow : OpenClaim := { program := "ytchideljndagjabgreat", sum := "6cb3ac3bd7cff93a0adc2332928cd8206a96a588b591a09780bc35ef7b96b92f", func := "veil/veillaw.Servers", spec := "servers", recurses := true, apart := false }
def ServersSaid : Prop := serversRow.holds Tryz.pinned (OpenSpec.ofChange serversSpec)

/-- ITS FALSE NEIGHBOUR: 'it returns false'. Refute it at one input. -/
def serversWrong : ChangeSpec := { name := "servers", fn := fun _ => fun
  | [d] => { results := [.lit (.bool false)], args := [d] }
  | _ => none }
def ServersWrongFalsely : Prop := serversRow.holds Tryz.pinned (OpenSpec.ofChange serversWrong)

/-- 'veillaw.Sessions': WHATEVER THE INPUT: true; the input reads as it did. -/
def sessionsSpec : ChangeSpec := { name := "sessions", fn := fun _ => fun
  | [d] => { results := [.lit (.bool true)], args := [d] }
  | _ => none }
def sessionsRow : OpenClaim := { program := "ytchideljndagjabgreat", sum := "6cb3ac3bd7cff93a0adc2332928cd8206a96a588b591a09780bc35ef7b96b92f", func := "veil/veillaw.Sessions", spec := "sessions", recurses := true, apart := false }
def SessionsSaid : Prop := sessionsRow.holds Tryz.pinned (OpenSpec.ofChange sessionsSpec)

/-- ITS FALSE NEIGHBOUR: 'it returns false'. Refute it at one input. -/
def sessionsWrong : ChangeSpec := { name := "sessions", fn := fun _ => fun
  | [d] => { results := [.lit (.bool false)], args := [d] }
  | _ => none }
def SessionsWrongFalsely : Prop := sessionsRow.holds Tryz.pinned (OpenSpec.ofChange sessionsWrong)

/-- 'veilkeep.Ideal': WHATEVER THE INPUT: true; the input reads as it did. -/
def idealSpec : ChangeSpec := { name := "ideal", fn := fun _ => fun
  | [d1, d2, d3] => { results := [.lit (.bool true)], args := [d1, d2, d3] }
  | _ => none }
def idealRow : OpenClaim := { program := "ytchideljndagjabgreat", sum := "6cb3ac3bd7cff93a0adc2332928cd8206a96a588b591a09780bc35ef7b96b92f", func := "veil/veilkeep.Ideal", spec := "ideal", apart := false }
def IdealSaid : Prop := idealRow.holds Tryz.pinned (OpenSpec.ofChange idealSpec)

/-- ITS FALSE NEIGHBOUR: 'it returns false'. Refute it at one input. -/
def idealWrong : ChangeSpec := { name := "ideal", fn := fun _ => fun
  | [d1, d2, d3] => { results := [.lit (.bool false)], args := [d1, d2, d3] }
  | _ => none }
def IdealWrongFalsely : Prop := idealRow.holds Tryz.pinned (OpenSpec.ofChange idealWrong)

/-- 'veilkeep.Lively': WHATEVER THE INPUT: true; the input reads as it did. -/
def livelySpec : ChangeSpec := { name := "lively", fn := fun _ => fun
  | [d1, d2, d3, d4] => { results := [.lit (.bool true)], args := [d1, d2, d3, d4] }
  | _ => none }
def livelyRow : OpenClaim := { program := "ytchideljndagjabgreat", sum := "6cb3ac3bd7cff93a0adc2332928cd8206a96a588b591a09780bc35ef7b96b92f", func := "veil/veilkeep.Lively", spec := "lively", apart := false }
def LivelySaid : Prop := livelyRow.holds Tryz.pinned (OpenSpec.ofChange livelySpec)

/-- ITS FALSE NEIGHBOUR: 'it returns false'. Refute it at one input. -/
def livelyWrong : ChangeSpec := { name := "lively", fn := fun _ => fun
  | [d1, d2, d3, d4] => { results := [.lit (.bool false)], args := [d1, d2, d3, d4] }
  | _ => none }
def LivelyWrongFalsely : Prop := livelyRow.holds Tryz.pinned (OpenSpec.ofChange livelyWrong)

/-- 'veilkeep.Quiet': WHATEVER THE INPUT: true; the input reads as it did. -/
def quietSpec : ChangeSpec := { name := "quiet", fn := fun _ => fun
  | [d1, d2, d3, d4] => { results := [.lit (.bool true)], args := [d1, d2, d3, d4] }
  | _ => none }
def quietRow : OpenClaim := { program := "ytchideljndagjabgreat", sum := "6cb3ac3bd7cff93a0adc2332928cd8206a96a588b591a09780bc35ef7b96b92f", func := "veil/veilkeep.Quiet", spec := "quiet", apart := false }
def QuietSaid : Prop := quietRow.holds Tryz.pinned (OpenSpec.ofChange quietSpec)

/-- ITS FALSE NEIGHBOUR: 'it returns false'. Refute it at one input. -/
def quietWrong : ChangeSpec := { name := "quiet", fn := fun _ => fun
  | [d1, d2, d3, d4] => { results := [.lit (.bool false)], args := [d1, d2, d3, d4] }
  | _ => none }
def QuietWrongFalsely : Prop := quietRow.holds Tryz.pinned (OpenSpec.ofChange quietWrong)

/-- 'veilkeep.Bounded': WHATEVER THE INPUT: true; the input reads as it did. -/
def boundedSpec : ChangeSpec := { name := "bounded", fn := fun _ => fun
  | [d1, d2, d3] => { results := [.lit (.bool true)], args := [d1, d2, d3] }
  | _ => none }
def boundedRow : OpenClaim := { program := "ytchideljndagjabgreat", sum := "6cb3ac3bd7cff93a0adc2332928cd8206a96a588b591a09780bc35ef7b96b92f", func := "veil/veilkeep.Bounded", spec := "bounded", apart := false }
def BoundedSaid : Prop := boundedRow.holds Tryz.pinned (OpenSpec.ofChange boundedSpec)

/-- ITS FALSE NEIGHBOUR: 'it returns false'. Refute it at one input. -/
def boundedWrong : ChangeSpec := { name := "bounded", fn := fun _ => fun
  | [d1, d2, d3] => { results := [.lit (.bool false)], args := [d1, d2, d3] }
  | _ => none }
def BoundedWrongFalsely : Prop := boundedRow.holds Tryz.pinned (OpenSpec.ofChange boundedWrong)

/-- 'veillaw.All': WHATEVER THE INPUT: true; the input reads as it did. -/
def allSpec : ChangeSpec := { name := "all", fn := fun _ => fun
  | [d] => { results := [.lit (.bool true)], args := [d] }
  | _ => none }
def allRow : OpenClaim := { program := "ytchideljndagjabgreat", sum := "6cb3ac3bd7cff93a0adc2332928cd8206a96a588b591a09780bc35ef7b96b92f", func := "veil/veillaw.All", spec := "all", recurses := true, apart := false }
def AllSaid : Prop := allRow.holds Tryz.pinned (OpenSpec.ofChange allSpec)

/-- ITS FALSE NEIGHBOUR: 'it returns false'. Refute it at one input. -/
def allWrong : ChangeSpec := { name := "all", fn := fun _ => fun
  | [d] => { results := [.lit (.bool false)], args := [d] }
  | _ => none }
def AllWrongFalsely : Prop := allRow.holds Tryz.pinned (OpenSpec.ofChange allWrong)

/- THE SECOND FORM. 'bulk': how many values and letters a reading holds, each counted each time it is reached (what is shared counts as often as it is met; a slice's spare places count too). A statement '..UptoSaid' is the law's where the arguments, and the package variables that the reading takes, are together of bulk at most 1048576: NARROWER than '..Said'. Prove '..Said' where nothing that the law and all that it calls make is longer than what came in: it says more and counts as full. Else prove '..UptoSaid'. A law counts once. -/
mutual
def uptoBulk {H : Type} : DataW H → Nat
  | .lit (.string bytes) => bytes.length + 1
  | .lit _ => 1
  | .nil => 1
  | .ptr d => uptoBulk d + 1
  | .slice elems spare => uptoBulkAll elems + uptoBulkAll spare + 1
  | .agg parts => uptoBulkAll parts + 1
  | .iface _ d => uptoBulk d + 1
  | .map entries => uptoBulkEntries entries + 1
  | .held _ => 1
def uptoBulkAll {H : Type} : List (DataW H) → Nat
  | [] => 0
  | d :: r => uptoBulk d + uptoBulkAll r
def uptoBulkEntries {H : Type} : List (Lit × DataW H) → Nat
  | [] => 0
  | x :: r => uptoBulkEntry x + uptoBulkEntries r
def uptoBulkEntry {H : Type} : Lit × DataW H → Nat
  | (.string bytes, d) => bytes.length + uptoBulk d + 1
  | (_, d) => uptoBulk d + 1
 end
def uptoSmall : (H : Type) → List (DataW H) → Bool := fun _ ds => decide (uptoBulkAll ds ≤ 1048576)
def OpenSpec.upto (s : _root_.Go.ChangeSpec) : _root_.Go.OpenSpec := { _root_.Go.OpenSpec.ofChange s with cond := some uptoSmall }

/-- 'veillaw.Servers', WHERE WHAT IT READS IS OF BULK AT MOST 1048576: true; the input reads as it did. -/
def serversUptoRow : OpenClaim := { program := "ytchideljndagjabgreat", sum := "6cb3ac3bd7cff93a0adc2332928cd8206a96a588b591a09780bc35ef7b96b92f", func := "veil/veillaw.Servers", spec := "servers", recurses := true, apart := false, narrowed := true }
def ServersUptoSaid : Prop := serversUptoRow.holds Tryz.pinned (OpenSpec.upto serversSpec)

/-- 'veillaw.Sessions', WHERE WHAT IT READS IS OF BULK AT MOST 1048576: true; the input reads as it did. -/
def sessionsUptoRow : OpenClaim := { program := "ytchideljndagjabgreat", sum := "6cb3ac3bd7cff93a0adc2332928cd8206a96a588b591a09780bc35ef7b96b92f", func := "veil/veillaw.Sessions", spec := "sessions", recurses := true, apart := false, narrowed := true }
def SessionsUptoSaid : Prop := sessionsUptoRow.holds Tryz.pinned (OpenSpec.upto sessionsSpec)

/-- 'veilkeep.Ideal', WHERE WHAT IT READS IS OF BULK AT MOST 1048576: true; the input reads as it did. -/
def idealUptoRow : OpenClaim := { program := "ytchideljndagjabgreat", sum := "6cb3ac3bd7cff93a0adc2332928cd8206a96a588b591a09780bc35ef7b96b92f", func := "veil/veilkeep.Ideal", spec := "ideal", apart := false, narrowed := true }
def IdealUptoSaid : Prop := idealUptoRow.holds Tryz.pinned (OpenSpec.upto idealSpec)

/-- 'veilkeep.Lively', WHERE WHAT IT READS IS OF BULK AT MOST 1048576: true; the input reads as it did. -/
def livelyUptoRow : OpenClaim := { program := "ytchideljndagjabgreat", sum := "6cb3ac3bd7cff93a0adc2332928cd8206a96a588b591a09780bc35ef7b96b92f", func := "veil/veilkeep.Lively", spec := "lively", apart := false, narrowed := true }
def LivelyUptoSaid : Prop := livelyUptoRow.holds Tryz.pinned (OpenSpec.upto livelySpec)

/-- 'veilkeep.Quiet', WHERE WHAT IT READS IS OF BULK AT MOST 1048576: true; the input reads as it did. -/
def quietUptoRow : OpenClaim := { program := "ytchideljndagjabgreat", sum := "6cb3ac3bd7cff93a0adc2332928cd8206a96a588b591a09780bc35ef7b96b92f", func := "veil/veilkeep.Quiet", spec := "quiet", apart := false, narrowed := true }
def QuietUptoSaid : Prop := quietUptoRow.holds Tryz.pinned (OpenSpec.upto quietSpec)

/-- 'veilkeep.Bounded', WHERE WHAT IT READS IS OF BULK AT MOST 1048576: true; the input reads as it did. -/
def boundedUptoRow : OpenClaim := { program := "ytchideljndagjabgreat", sum := "6cb3ac3bd7cff93a0adc2332928cd8206a96a588b591a09780bc35ef7b96b92f", func := "veil/veilkeep.Bounded", spec := "bounded", apart := false, narrowed := true }
def BoundedUptoSaid : Prop := boundedUptoRow.holds Tryz.pinned (OpenSpec.upto boundedSpec)

/-- 'veillaw.All', WHERE WHAT IT READS IS OF BULK AT MOST 1048576: true; the input reads as it did. -/
def allUptoRow : OpenClaim := { program := "ytchideljndagjabgreat", sum := "6cb3ac3bd7cff93a0adc2332928cd8206a96a588b591a09780bc35ef7b96b92f", func := "veil/veillaw.All", spec := "all", recurses := true, apart := false, narrowed := true }
def AllUptoSaid : Prop := allUptoRow.holds Tryz.pinned (OpenSpec.upto allSpec)

end Rows
end Go.Proofs.YtchideljndagjabGreat
