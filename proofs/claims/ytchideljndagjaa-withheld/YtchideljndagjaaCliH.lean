/- Contract of the program's client: halt. -/
import Derived.Test.YtchideljndagjaaCliMemAll
import Derived.Test.YtchideljndagjaaField
import Derived.WalkSpells
import Derived.RegionTactic
import Derived.BigRegion
namespace Go.Proofs.Ytchideljndagjaa
open Go.ChangeShapes Go.WideShapes Go.ChangeAt Go.RowKit
set_option linter.unusedVariables false

/-- What is left of a client that has halted. -/
def haltS (S : PS) : PS := ⟨S.id, 0, S.cp, S.mp, 0, 0, .slice none 0 0, 0, 0, 0, .slice none 0 0, .slice none 0 0, fun _ => Cli.Pr.z, .slice none 0 0⟩

theorem size98 : (Try.prog.info? 98).map (·.size) = some 78 := by kernel_rfl
theorem psCells_one (s : PS) (h1 : s.inp.oneCell' = true) (h2 : s.sm.oneCell' = true) (h3 : s.ss.oneCell' = true) (h4 : s.told.oneCell' = true) : (psCells s).toArray.all (·.oneCell') = true := by
  refine all_oneCell_toArray fun v hv => ?_
  unfold psCells psHead at hv
  rcases List.mem_append.1 hv with hv | hv
  · simp only [List.mem_cons, List.not_mem_nil, or_false] at hv
    rcases hv with rfl | rfl | rfl | rfl | rfl | rfl | rfl | rfl | rfl | rfl | rfl | rfl <;> first | rfl | assumption
  · rcases List.mem_append.1 hv with hv | hv
    · exact circ_one _ v hv
    · simp at hv; subst hv; exact h4

set_option maxHeartbeats 1000000 in
set_option maxRecDepth 100000 in
theorem halt_calls (b : Nat) (T : TypeId) (S : PS) (w : World) (h : PSAt w b T S) :
    Calls Try.prog 104 #[.pointer (some ⟨b, 0, none⟩)] w fun e w' => e = .returned (.tuple #[]) ∧ PSAt w' b T (haltS S) ∧ Chg (fun x => x = b) w w' := by
  have c0 := h.c0
  have c2 := h.c2
  have c3 := h.c3
  have hst0 := run_storeAt_mid (P := Try.prog) w.drew b 0 98 (psCells (haltS S)).toArray (by rw [World.there_drew, List.size_toArray, psCells_length]; exact h.there 0 78 (by omega)) (by rw [size98, List.size_toArray, psCells_length]) (psCells_one _ rfl rfl rfl rfl)
  have hst1 := run_storeCells_cells (P := Try.prog) b 0 (psCells (haltS S)) 0 w.drew (fun j hj => ((World.there_drew w b 0 78).2 (h.there 0 78 (by omega)) j (by rw [psCells_length] at hj; exact hj)).1) (fun j hj => ((World.there_drew w b 0 78).2 (h.there 0 78 (by omega)) j (by rw [psCells_length] at hj; exact hj)).2) (fun v hv => (Array.all_eq_true_iff_forall_mem.1 (psCells_one (haltS S) rfl rfl rfl rfl)) v (by simpa using hv))
  have hst2 : (storeCells ⟨b, 0, none⟩ ((((Try.zeroCells98.toList.set 0 (Value.int IntKind.i64 S.id)).set 1 (Value.int IntKind.i64 0)).set 2 (Value.int IntKind.i64 S.cp)).set 3 (Value.int IntKind.i64 S.mp)) 0).run Try.prog w.drew = .ok () (w.drew.setCells b 0 (psCells (haltS S))) := hst1
  have HR := hideG (show PSAt (w.drew.setCells b 0 (psCells (haltS S))) b T (haltS S) ∧ Chg (fun x => x = b) w (w.drew.setCells b 0 (psCells (haltS S))) from
    ⟨PSAt.setAll (w := w.drew) h _, (Chg.of_below (S := fun x => x = b) (w := w) (w' := w.drew) (Below.refl _ _).drew).trans (chg_setCells b _ 0 w.drew) (fun x e _ => e)⟩)
  clear h hst0 hst1
  generalize psCells (haltS S) = cs at *
  generalize S.id = a at *
  generalize S.cp = p at *
  generalize S.mp = q at *
  go_enter Try.func104, Try.ntmps104
  go_wp2_with fail
  go_region
  all_goals (go_wp2_with fail; go_end0; exact ⟨rfl, HR.out⟩)

end Go.Proofs.Ytchideljndagjaa
