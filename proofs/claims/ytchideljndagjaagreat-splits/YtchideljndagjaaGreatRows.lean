/-
  No cell of these rows narrows 'for every input' (looked for: loops, veiled, ifaces, maps, wideKeys, modest, calm, conditions, laid).
  DERIVED. THE GIVEN ROWS OF THIS SEAT. 5 by the template 'for every input the law returns true; each argument reads behind the call as it read before'; 0 by the template 'total and deterministic' (their statements: YtchideljndagjaaGreatTotals.lean).
  GIVEN WITH THE SEED: the statements are not yours to turn. If you find one false, say at which input.
  Laid BY PROGRAM, IN A SANDBOX (cutbox-rows.mjs): the forced cells as the released guide's own fill.sh prints them over the translation ad4d9c1cb6d4101e… (all of the seat's roots in one cut). By AI agents, Wed Nov 11 2026. No macro, syntax, notation, axiom, sorry.
-/
import Derived.Test.YtchideljndagjaaGreatChecked
import GoSem.Claim
import GoSem.ClaimJoined
import GoSem.ClaimMapViews
import Derived.JoinedTies
import Derived.KernelRfl
namespace Go.Proofs.YtchideljndagjaaGreat
/- THE CELL 'sum', in the pinned program and in every row, IS THE sha256 OF THE DUMP (.gsa) THAT YtchideljndagjaaGreatProg.lean LOADS. Nothing in Lean hashes anything: it is a label: what it is worth is what the hold of that sum in a sandbox is worth. -/
noncomputable def Tryz.pinned : Pinned := { name := "ytchideljndagjaagreat", sum := "ad4d9c1cb6d4101e826206cad021e3684654acd39fc69cf26eb979518a656b69", checked := Tryz.checked }
namespace Rows
def none {H : Type} : Left H := { results := [], args := [] }

/-- 'veillaw.Fields': WHATEVER THE INPUT: true; the input reads as it did. -/
def fieldsSpec : ChangeSpec := { name := "fields", fn := fun _ => fun
  | [d] => { results := [.lit (.bool true)], args := [d] }
  | _ => none }
def fieldsRow : OpenClaim := { program := "ytchideljndagjaagreat", sum := "ad4d9c1cb6d4101e826206cad021e3684654acd39fc69cf26eb979518a656b69", func := "veil/veillaw.Fields", spec := "fields", recurses := true, apart := false }
def FieldsSaid : Prop := fieldsRow.holds Tryz.pinned (OpenSpec.ofChange fieldsSpec)

/-- ITS FALSE NEIGHBOUR: 'it returns false'. Refute it at one input. -/
def fieldsWrong : ChangeSpec := { name := "fields", fn := fun _ => fun
  | [d] => { results := [.lit (.bool false)], args := [d] }
  | _ => none }
def FieldsWrongFalsely : Prop := fieldsRow.holds Tryz.pinned (OpenSpec.ofChange fieldsWrong)

/-- 'veillaw.Splits': WHATEVER THE INPUT: true; the input reads as it did. -/
def splitsSpec : ChangeSpec := { name := "splits", fn := fun _ => fun
  | [d] => { results := [.lit (.bool true)], args := [d] }
  | _ => none }
def splitsRow : OpenClaim := { program := "ytchideljndagjaagreat", sum := "ad4d9c1cb6d4101e826206cad021e3684654acd39fc69cf26eb979518a656b69", func := "veil/veillaw.Splits", spec := "splits", recurses := true, apart := false }
def SplitsSaid : Prop := splitsRow.holds Tryz.pinned (OpenSpec.ofChange splitsSpec)

/-- ITS FALSE NEIGHBOUR: 'it returns false'. Refute it at one input. -/
def splitsWrong : ChangeSpec := { name := "splits", fn := fun _ => fun
  | [d] => { results := [.lit (.bool false)], args := [d] }
  | _ => none }
def SplitsWrongFalsely : Prop := splitsRow.holds Tryz.pinned (OpenSpec.ofChange splitsWrong)

/-- 'veillaw.Seals': WHATEVER THE INPUT: true; the input reads as it did. -/
def sealsSpec : ChangeSpec := { name := "seals", fn := fun _ => fun
  | [d] => { results := [.lit (.bool true)], args := [d] }
  | _ => none }
def sealsRow : OpenClaim := { program := "ytchideljndagjaagreat", sum := "ad4d9c1cb6d4101e826206cad021e3684654acd39fc69cf26eb979518a656b69", func := "veil/veillaw.Seals", spec := "seals", recurses := true, apart := false }
def SealsSaid : Prop := sealsRow.holds Tryz.pinned (OpenSpec.ofChange sealsSpec)

/-- ITS FALSE NEIGHBOUR: 'it returns false'. Refute it at one input. -/
def sealsWrong : ChangeSpec := { name := "seals", fn := fun _ => fun
  | [d] => { results := [.lit (.bool false)], args := [d] }
  | _ => none }
def SealsWrongFalsely : Prop := sealsRow.holds Tryz.pinned (OpenSpec.ofChange sealsWrong)

/-- 'veillaw.Frames': WHATEVER THE INPUT: true; the input reads as it did. -/
def framesSpec : ChangeSpec := { name := "frames", fn := fun _ => fun
  | [d] => { results := [.lit (.bool true)], args := [d] }
  | _ => none }
def framesRow : OpenClaim := { program := "ytchideljndagjaagreat", sum := "ad4d9c1cb6d4101e826206cad021e3684654acd39fc69cf26eb979518a656b69", func := "veil/veillaw.Frames", spec := "frames", recurses := true, apart := false }
def FramesSaid : Prop := framesRow.holds Tryz.pinned (OpenSpec.ofChange framesSpec)

/-- ITS FALSE NEIGHBOUR: 'it returns false'. Refute it at one input. -/
def framesWrong : ChangeSpec := { name := "frames", fn := fun _ => fun
  | [d] => { results := [.lit (.bool false)], args := [d] }
  | _ => none }
def FramesWrongFalsely : Prop := framesRow.holds Tryz.pinned (OpenSpec.ofChange framesWrong)

/-- 'veillaw.Clients': WHATEVER THE INPUT: true; the input reads as it did. -/
def clientsSpec : ChangeSpec := { name := "clients", fn := fun _ => fun
  | [d] => { results := [.lit (.bool true)], args := [d] }
  | _ => none }
def clientsRow : OpenClaim := { program := "ytchideljndagjaagreat", sum := "ad4d9c1cb6d4101e826206cad021e3684654acd39fc69cf26eb979518a656b69", func := "veil/veillaw.Clients", spec := "clients", recurses := true, apart := false }
def ClientsSaid : Prop := clientsRow.holds Tryz.pinned (OpenSpec.ofChange clientsSpec)

/-- ITS FALSE NEIGHBOUR: 'it returns false'. Refute it at one input. -/
def clientsWrong : ChangeSpec := { name := "clients", fn := fun _ => fun
  | [d] => { results := [.lit (.bool false)], args := [d] }
  | _ => none }
def ClientsWrongFalsely : Prop := clientsRow.holds Tryz.pinned (OpenSpec.ofChange clientsWrong)

/- THE SECOND FORM. 'bulk': how many values and letters a reading holds, each counted each time it is reached (what is shared counts as often as it is met; a slice's spare places count too). A statement '..UptoSaid' is the law's where the arguments, and the package variables that the reading takes, are together of bulk at most 1048576: NARROWER than '..Said'. Prove '..Said' where nothing that the law and all that it calls make is longer than what came in: it says more and counts as full. Else prove '..UptoSaid'. A law counts once. -/
mutual
def uptoBulk {H : Type} : DataW H → Nat
  | .lit (.string bytes) => bytes.length + 1
  | .lit _ => 1
  | .nil => 1
  | .ptr d => uptoBulk d + 1
  | .slice elems spare => uptoBulkAll elems + uptoBulkAll spare + 1
  | .agg parts => uptoBulkAll parts + 1
  | .iface _ d => uptoBulk d + 1
  | .map entries => uptoBulkEntries entries + 1
  | .held _ => 1
def uptoBulkAll {H : Type} : List (DataW H) → Nat
  | [] => 0
  | d :: r => uptoBulk d + uptoBulkAll r
def uptoBulkEntries {H : Type} : List (Lit × DataW H) → Nat
  | [] => 0
  | x :: r => uptoBulkEntry x + uptoBulkEntries r
def uptoBulkEntry {H : Type} : Lit × DataW H → Nat
  | (.string bytes, d) => bytes.length + uptoBulk d + 1
  | (_, d) => uptoBulk d + 1
 end
def uptoSmall : (H : Type) → List (DataW H) → Bool := fun _ ds => decide (uptoBulkAll ds ≤ 1048576)
def OpenSpec.upto (s : _root_.Go.ChangeSpec) : _root_.Go.OpenSpec := { _root_.Go.OpenSpec.ofChange s with cond := some uptoSmall }

/-- 'veillaw.Fields', WHERE WHAT IT READS IS OF BULK AT MOST 1048576: true; the input reads as it did. -/
def fieldsUptoRow : OpenClaim := { program := "ytchideljndagjaagreat", sum := "ad4d9c1cb6d4101e826206cad021e3684654acd39fc69cf26eb979518a656b69", func := "veil/veillaw.Fields", spec := "fields", recurses := true, apart := false, narrowed := true }
def FieldsUptoSaid : Prop := fieldsUptoRow.holds Tryz.pinned (OpenSpec.upto fieldsSpec)

/-- 'veillaw.Splits', WHERE WHAT IT READS IS OF BULK AT MOST 1048576: true; the input reads as it did. -/
def splitsUptoRow : OpenClaim := { program := "ytchideljndagjaagreat", sum := "ad4d9c1cb6d4101e826206cad021e3684654acd39fc69cf26eb979518a656b69", func := "veil/veillaw.Splits", spec := "splits", recurses := true, apart := false, narrowed := true }
def SplitsUptoSaid : Prop := splitsUptoRow.holds Tryz.pinned (OpenSpec.upto splitsSpec)

/-- 'veillaw.Seals', WHERE WHAT IT READS IS OF BULK AT MOST 1048576: true; the input reads as it did. -/
def sealsUptoRow : OpenClaim := { program := "ytchideljndagjaagreat", sum := "ad4d9c1cb6d4101e826206cad021e3684654acd39fc69cf26eb979518a656b69", func := "veil/veillaw.Seals", spec := "seals", recurses := true, apart := false, narrowed := true }
def SealsUptoSaid : Prop := sealsUptoRow.holds Tryz.pinned (OpenSpec.upto sealsSpec)

/-- 'veillaw.Frames', WHERE WHAT IT READS IS OF BULK AT MOST 1048576: true; the input reads as it did. -/
def framesUptoRow : OpenClaim := { program := "ytchideljndagjaagreat", sum := "ad4d9c1cb6d4101e826206cad021e3684654acd39fc69cf26eb979518a656b69", func := "veil/veillaw.Frames", spec := "frames", recurses := true, apart := false, narrowed := true }
def FramesUptoSaid : Prop := framesUptoRow.holds Tryz.pinned (OpenSpec.upto framesSpec)

/-- 'veillaw.Clients', WHERE WHAT IT READS IS OF BULK AT MOST 1048576: true; the input reads as it did. -/
def clientsUptoRow : OpenClaim := { program := "ytchideljndagjaagreat", sum := "ad4d9c1cb6d4101e826206cad021e3684654acd39fc69cf26eb979518a656b69", func := "veil/veillaw.Clients", spec := "clients", recurses := true, apart := false, narrowed := true }
def ClientsUptoSaid : Prop := clientsUptoRow.holds Tryz.pinned (OpenSpec.upto clientsSpec)

end Rows
end Go.Proofs.YtchideljndagjaaGreat
