/-
  No cell of these rows narrows 'for every input' (looked for: loops, veiled, ifaces, maps, wideKeys, modest, calm, conditions, laid).
  DERIVED. THE GIVEN ROWS OF THIS SEAT. 7 by the template 'for every input the law returns true; each argument reads behind the call as it read before'; 0 by the template 'total and deterministic' (their statements: YtchideljndagjaaTotals.lean).
  GIVEN WITH THE SEED: the statements are not yours to turn. If you find one false, say at which input.
  Laid BY PROGRAM, IN A SANDBOX (cutbox-rows.mjs): the forced cells as the released guide's own fill.sh prints them over the translation 5c57aedae42baeef… (all of the seat's roots in one cut). By AI agents, Wed Nov 11 2026. No macro, syntax, notation, axiom, sorry.
-/
import Derived.Test.YtchideljndagjaaChecked
import GoSem.Claim
import GoSem.ClaimJoined
import GoSem.ClaimMapViews
import Derived.JoinedTies
import Derived.KernelRfl
namespace Go.Proofs.Ytchideljndagjaa
/- THE CELL 'sum', in the pinned program and in every row, IS THE sha256 OF THE DUMP (.gsa) THAT YtchideljndagjaaProg.lean LOADS. Nothing in Lean hashes anything: it is a label: what it is worth is what the hold of that sum in a sandbox is worth. -/
noncomputable def Try.pinned : Pinned := { name := "ytchideljndagjaa", sum := "5c57aedae42baeef2aeb654e054ca8d294bc5da3edd3f0d339bbb76b2b5d2c81", checked := Try.checked }
namespace Rows
def none {H : Type} : Left H := { results := [], args := [] }

/-- 'veilkeep.Ring': WHATEVER THE INPUT: true; the input reads as it did. -/
def ringSpec : ChangeSpec := { name := "ring", fn := fun _ => fun
  | [d1, d2, d3, d4, d5] => { results := [.lit (.bool true)], args := [d1, d2, d3, d4, d5] }
  | _ => none }
def ringRow : OpenClaim := { program := "ytchideljndagjaa", sum := "5c57aedae42baeef2aeb654e054ca8d294bc5da3edd3f0d339bbb76b2b5d2c81", func := "veil/veilkeep.Ring", spec := "ring", apart := false }
def RingSaid : Prop := ringRow.holds Try.pinned (OpenSpec.ofChange ringSpec)

/-- ITS FALSE NEIGHBOUR: 'it returns false'. Refute it at one input. -/
def ringWrong : ChangeSpec := { name := "ring", fn := fun _ => fun
  | [d1, d2, d3, d4, d5] => { results := [.lit (.bool false)], args := [d1, d2, d3, d4, d5] }
  | _ => none }
def RingWrongFalsely : Prop := ringRow.holds Try.pinned (OpenSpec.ofChange ringWrong)

/-- 'veilkeep.Rebuilt': WHATEVER THE INPUT: true; the input reads as it did. -/
def rebuiltSpec : ChangeSpec := { name := "rebuilt", fn := fun _ => fun
  | [d1, d2, d3, d4, d5] => { results := [.lit (.bool true)], args := [d1, d2, d3, d4, d5] }
  | _ => none }
def rebuiltRow : OpenClaim := { program := "ytchideljndagjaa", sum := "5c57aedae42baeef2aeb654e054ca8d294bc5da3edd3f0d339bbb76b2b5d2c81", func := "veil/veilkeep.Rebuilt", spec := "rebuilt", apart := false }
def RebuiltSaid : Prop := rebuiltRow.holds Try.pinned (OpenSpec.ofChange rebuiltSpec)

/-- ITS FALSE NEIGHBOUR: 'it returns false'. Refute it at one input. -/
def rebuiltWrong : ChangeSpec := { name := "rebuilt", fn := fun _ => fun
  | [d1, d2, d3, d4, d5] => { results := [.lit (.bool false)], args := [d1, d2, d3, d4, d5] }
  | _ => none }
def RebuiltWrongFalsely : Prop := rebuiltRow.holds Try.pinned (OpenSpec.ofChange rebuiltWrong)

/-- 'veilkeep.Hidden': WHATEVER THE INPUT: true; the input reads as it did. -/
def hiddenSpec : ChangeSpec := { name := "hidden", fn := fun _ => fun
  | [d1, d2, d3, d4, d5] => { results := [.lit (.bool true)], args := [d1, d2, d3, d4, d5] }
  | _ => none }
def hiddenRow : OpenClaim := { program := "ytchideljndagjaa", sum := "5c57aedae42baeef2aeb654e054ca8d294bc5da3edd3f0d339bbb76b2b5d2c81", func := "veil/veilkeep.Hidden", spec := "hidden", apart := false }
def HiddenSaid : Prop := hiddenRow.holds Try.pinned (OpenSpec.ofChange hiddenSpec)

/-- ITS FALSE NEIGHBOUR: 'it returns false'. Refute it at one input. -/
def hiddenWrong : ChangeSpec := { name := "hidden", fn := fun _ => fun
  | [d1, d2, d3, d4, d5] => { results := [.lit (.bool false)], args := [d1, d2, d3, d4, d5] }
  | _ => none }
def HiddenWrongFalsely : Prop := hiddenRow.holds Try.pinned (OpenSpec.ofChange hiddenWrong)

/-- 'veilkeep.Opened': WHATEVER THE INPUT: true; the input reads as it did. -/
def openedSpec : ChangeSpec := { name := "opened", fn := fun _ => fun
  | [d1, d2, d3, d4, d5, d6] => { results := [.lit (.bool true)], args := [d1, d2, d3, d4, d5, d6] }
  | _ => none }
def openedRow : OpenClaim := { program := "ytchideljndagjaa", sum := "5c57aedae42baeef2aeb654e054ca8d294bc5da3edd3f0d339bbb76b2b5d2c81", func := "veil/veilkeep.Opened", spec := "opened", apart := false }
def OpenedSaid : Prop := openedRow.holds Try.pinned (OpenSpec.ofChange openedSpec)

/-- ITS FALSE NEIGHBOUR: 'it returns false'. Refute it at one input. -/
def openedWrong : ChangeSpec := { name := "opened", fn := fun _ => fun
  | [d1, d2, d3, d4, d5, d6] => { results := [.lit (.bool false)], args := [d1, d2, d3, d4, d5, d6] }
  | _ => none }
def OpenedWrongFalsely : Prop := openedRow.holds Try.pinned (OpenSpec.ofChange openedWrong)

/-- 'veilkeep.Wired': WHATEVER THE INPUT: true; the input reads as it did. -/
def wiredSpec : ChangeSpec := { name := "wired", fn := fun _ => fun
  | [d1, d2, d3, d4, d5, d6] => { results := [.lit (.bool true)], args := [d1, d2, d3, d4, d5, d6] }
  | _ => none }
def wiredRow : OpenClaim := { program := "ytchideljndagjaa", sum := "5c57aedae42baeef2aeb654e054ca8d294bc5da3edd3f0d339bbb76b2b5d2c81", func := "veil/veilkeep.Wired", spec := "wired", apart := false }
def WiredSaid : Prop := wiredRow.holds Try.pinned (OpenSpec.ofChange wiredSpec)

/-- ITS FALSE NEIGHBOUR: 'it returns false'. Refute it at one input. -/
def wiredWrong : ChangeSpec := { name := "wired", fn := fun _ => fun
  | [d1, d2, d3, d4, d5, d6] => { results := [.lit (.bool false)], args := [d1, d2, d3, d4, d5, d6] }
  | _ => none }
def WiredWrongFalsely : Prop := wiredRow.holds Try.pinned (OpenSpec.ofChange wiredWrong)

/-- 'veilkeep.Withheld': WHATEVER THE INPUT: true; the input reads as it did. -/
def withheldSpec : ChangeSpec := { name := "withheld", fn := fun _ => fun
  | [d1, d2, d3, d4] => { results := [.lit (.bool true)], args := [d1, d2, d3, d4] }
  | _ => none }
def withheldRow : OpenClaim := { program := "ytchideljndagjaa", sum := "5c57aedae42baeef2aeb654e054ca8d294bc5da3edd3f0d339bbb76b2b5d2c81", func := "veil/veilkeep.Withheld", spec := "withheld", apart := false }
def WithheldSaid : Prop := withheldRow.holds Try.pinned (OpenSpec.ofChange withheldSpec)

/-- ITS FALSE NEIGHBOUR: 'it returns false'. Refute it at one input. -/
def withheldWrong : ChangeSpec := { name := "withheld", fn := fun _ => fun
  | [d1, d2, d3, d4] => { results := [.lit (.bool false)], args := [d1, d2, d3, d4] }
  | _ => none }
def WithheldWrongFalsely : Prop := withheldRow.holds Try.pinned (OpenSpec.ofChange withheldWrong)

/-- 'veilkeep.Veiled': WHATEVER THE INPUT: true; the input reads as it did. -/
def veiledSpec : ChangeSpec := { name := "veiled", fn := fun _ => fun
  | [d1, d2, d3, d4, d5] => { results := [.lit (.bool true)], args := [d1, d2, d3, d4, d5] }
  | _ => none }
def veiledRow : OpenClaim := { program := "ytchideljndagjaa", sum := "5c57aedae42baeef2aeb654e054ca8d294bc5da3edd3f0d339bbb76b2b5d2c81", func := "veil/veilkeep.Veiled", spec := "veiled", apart := false }
def VeiledSaid : Prop := veiledRow.holds Try.pinned (OpenSpec.ofChange veiledSpec)

/-- ITS FALSE NEIGHBOUR: 'it returns false'. Refute it at one input. -/
def veiledWrong : ChangeSpec := { name := "veiled", fn := fun _ => fun
  | [d1, d2, d3, d4, d5] => { results := [.lit (.bool false)], args := [d1, d2, d3, d4, d5] }
  | _ => none }
def VeiledWrongFalsely : Prop := veiledRow.holds Try.pinned (OpenSpec.ofChange veiledWrong)

/- THE SECOND FORM. 'bulk': how many values and letters a reading holds, each counted each time it is reached (what is shared counts as often as it is met; a slice's spare places count too). A statement '..UptoSaid' is the law's where the arguments, and the package variables that the reading takes, are together of bulk at most 1048576: NARROWER than '..Said'. Prove '..Said' where nothing that the law and all that it calls make is longer than what came in: it says more and counts as full. Else prove '..UptoSaid'. A law counts once. -/
mutual
def uptoBulk {H : Type} : DataW H → Nat
  | .lit (.string bytes) => bytes.length + 1
  | .lit _ => 1
  | .nil => 1
  | .ptr d => uptoBulk d + 1
  | .slice elems spare => uptoBulkAll elems + uptoBulkAll spare + 1
  | .agg parts => uptoBulkAll parts + 1
  | .iface _ d => uptoBulk d + 1
  | .map entries => uptoBulkEntries entries + 1
  | .held _ => 1
def uptoBulkAll {H : Type} : List (DataW H) → Nat
  | [] => 0
  | d :: r => uptoBulk d + uptoBulkAll r
def uptoBulkEntries {H : Type} : List (Lit × DataW H) → Nat
  | [] => 0
  | x :: r => uptoBulkEntry x + uptoBulkEntries r
def uptoBulkEntry {H : Type} : Lit × DataW H → Nat
  | (.string bytes, d) => bytes.length + uptoBulk d + 1
  | (_, d) => uptoBulk d + 1
 end
def uptoSmall : (H : Type) → List (DataW H) → Bool := fun _ ds => decide (uptoBulkAll ds ≤ 1048576)
def OpenSpec.upto (s : _root_.Go.ChangeSpec) : _root_.Go.OpenSpec := { _root_.Go.OpenSpec.ofChange s with cond := some uptoSmall }

/-- 'veilkeep.Ring', WHERE WHAT IT READS IS OF BULK AT MOST 1048576: true; the input reads as it did. -/
def ringUptoRow : OpenClaim := { program := "ytchideljndagjaa", sum := "5c57aedae42baeef2aeb654e054ca8d294bc5da3edd3f0d339bbb76b2b5d2c81", func := "veil/veilkeep.Ring", spec := "ring", apart := false, narrowed := true }
def RingUptoSaid : Prop := ringUptoRow.holds Try.pinned (OpenSpec.upto ringSpec)

/-- 'veilkeep.Rebuilt', WHERE WHAT IT READS IS OF BULK AT MOST 1048576: true; the input reads as it did. -/
def rebuiltUptoRow : OpenClaim := { program := "ytchideljndagjaa", sum := "5c57aedae42baeef2aeb654e054ca8d294bc5da3edd3f0d339bbb76b2b5d2c81", func := "veil/veilkeep.Rebuilt", spec := "rebuilt", apart := false, narrowed := true }
def RebuiltUptoSaid : Prop := rebuiltUptoRow.holds Try.pinned (OpenSpec.upto rebuiltSpec)

/-- 'veilkeep.Hidden', WHERE WHAT IT READS IS OF BULK AT MOST 1048576: true; the input reads as it did. -/
def hiddenUptoRow : OpenClaim := { program := "ytchideljndagjaa", sum := "5c57aedae42baeef2aeb654e054ca8d294bc5da3edd3f0d339bbb76b2b5d2c81", func := "veil/veilkeep.Hidden", spec := "hidden", apart := false, narrowed := true }
def HiddenUptoSaid : Prop := hiddenUptoRow.holds Try.pinned (OpenSpec.upto hiddenSpec)

/-- 'veilkeep.Opened', WHERE WHAT IT READS IS OF BULK AT MOST 1048576: true; the input reads as it did. -/
def openedUptoRow : OpenClaim := { program := "ytchideljndagjaa", sum := "5c57aedae42baeef2aeb654e054ca8d294bc5da3edd3f0d339bbb76b2b5d2c81", func := "veil/veilkeep.Opened", spec := "opened", apart := false, narrowed := true }
def OpenedUptoSaid : Prop := openedUptoRow.holds Try.pinned (OpenSpec.upto openedSpec)

/-- 'veilkeep.Wired', WHERE WHAT IT READS IS OF BULK AT MOST 1048576: true; the input reads as it did. -/
def wiredUptoRow : OpenClaim := { program := "ytchideljndagjaa", sum := "5c57aedae42baeef2aeb654e054ca8d294bc5da3edd3f0d339bbb76b2b5d2c81", func := "veil/veilkeep.Wired", spec := "wired", apart := false, narrowed := true }
def WiredUptoSaid : Prop := wiredUptoRow.holds Try.pinned (OpenSpec.upto wiredSpec)

/-- 'veilkeep.Withheld', WHERE WHAT IT READS IS OF BULK AT MOST 1048576: true; the input reads as it did. -/
def withheldUptoRow : OpenClaim := { program := "ytchideljndagjaa", sum := "5c57aedae42baeef2aeb654e054ca8d294bc5da3edd3f0d339bbb76b2b5d2c81", func := "veil/veilkeep.Withheld", spec := "withheld", apart := false, narrowed := true }
def WithheldUptoSaid : Prop := withheldUptoRow.holds Try.pinned (OpenSpec.upto withheldSpec)

/-- 'veilkeep.Veiled', WHERE WHAT IT READS IS OF BULK AT MOST 1048576: true; the input reads as it did. -/
def veiledUptoRow : OpenClaim := { program := "ytchideljndagjaa", sum := "5c57aedae42baeef2aeb654e054ca8d294bc5da3edd3f0d339bbb76b2b5d2c81", func := "veil/veilkeep.Veiled", spec := "veiled", apart := false, narrowed := true }
def VeiledUptoSaid : Prop := veiledUptoRow.holds Try.pinned (OpenSpec.upto veiledSpec)

end Rows
end Go.Proofs.Ytchideljndagjaa
