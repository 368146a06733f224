/- A region that draws its order, whose operations only read and whose callees make new memory at most: one walk in the order of the text serves every order. -/
import Derived.WalkKit
import Derived.ProofKit
import Derived.OpenShut
import Derived.Below
import Derived.Deep.QuietTactic
import Derived.BigQuiet
import Derived.Deep.RegionWith
namespace Go.Proofs.YtgfkgekaodibhaaGreat
open Go.RowKit

theorem hideG {p : Prop} (h : p) : Hid p := h

theorem wp_region_grow {P : Program} {id : Nat} {Q : Exit → Act → World → Prop} {a : Act} {w : World} {l : List Oper} (hm : P.follows .mixedOrders = true) (hB : Region.lexB .any l.toArray = true)
    (h : ∀ (I : Type) (G : I → World), Nonempty I → Hid (∀ u, Below w.heap.size w (G u)) → (∀ u b o, b < w.heap.size → (G u).cell? ⟨b, o, none⟩ = w.cell? ⟨b, o, none⟩) →
      Hid (∀ u w', Below w.heap.size (G u) w' → ∃ v, w' = G v) →
      wpQuiet P l.toArray (fun w' => ∃ u, w' = G u) (fun a' => ∀ w', (∃ u, w' = G u) → Q .normal a' w') l a) : (Code.region id l.toArray true).wp P Q a w := by
  have h1 := h { w' : World // Below w.heap.size w w' } Subtype.val ⟨⟨w, Below.refl _ _⟩⟩ (hideG fun u => u.2) (fun u b o hb => u.2.cell (p := ⟨b, o, none⟩) hb)
    (hideG fun u w' hw => ⟨⟨w', u.2.trans hw⟩, rfl⟩)
  exact wp_region_quiet (C := fun w' => ∃ u : { w' : World // Below w.heap.size w w' }, w' = u.1) hm hB ⟨⟨w.drew, (Below.refl _ _).drew⟩, rfl⟩ (by simpa using h1)

/-- A callee that makes new memory at most, met inside such a region. -/
theorem call_grow {P : Program} {f : FuncId} {args : Array Value} {W : World} {I : Type} {G : I → World} {v : Value} (hw : Hid (∀ u, Below W.heap.size W (G u))) (hn : Hid (∀ u w', Below W.heap.size (G u) w' → ∃ v, w' = G v))
    {u : I} (h : Calls P f args (G u) fun e w' => e = .returned v ∧ Below (G u).heap.size (G u) w') : Calls P f args (G u) fun e w' => e = .returned v ∧ ∃ m, w' = G m :=
  h.mono fun _ w' ⟨he, hb⟩ => ⟨he, hn.out u w' (hb.mono (hw.out u).size)⟩

theorem call_same {P : Program} {f : FuncId} {args : Array Value} {I : Type} {G : I → World} {v : Value}
    {u : I} (h : Calls P f args (G u) fun e w' => e = .returned v ∧ w' = G u) : Calls P f args (G u) fun e w' => e = .returned v ∧ ∃ m, w' = G m :=
  h.mono fun _ _ ⟨he, hb⟩ => ⟨he, u, hb⟩

theorem bcell {W w1 : World} (hb : Below W.heap.size W w1) : (∀ b o, b < W.heap.size → w1.cell? ⟨b, o, none⟩ = W.cell? ⟨b, o, none⟩) ∧ (∀ b o, b < W.heap.size → w1.frozen? ⟨b, o, none⟩ = W.frozen? ⟨b, o, none⟩) :=
  ⟨fun b o h => hb.cell (p := ⟨b, o, none⟩) h, fun b o h => hb.frozen (p := ⟨b, o, none⟩) h⟩

end Go.Proofs.YtgfkgekaodibhaaGreat
