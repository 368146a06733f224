/- Contract of the program's client: the peers of SECOND. -/
import Derived.Test.YtchideljndagjaaCliMemAll
import Derived.Test.YtchideljndagjaaFrameG
import Derived.Test.YtchideljndagjaaPadAll
import Derived.WalkSpells
import Derived.RegionTactic
import Derived.BigRegion
namespace Go.Proofs.Ytchideljndagjaa
open Go.ChangeShapes Go.WideShapes Go.ChangeAt Go.RowKit
set_option linter.unusedVariables false

theorem zero_size : (Try.prog.info? 96).map (·.size) = some Try.zeroCells96.size := by kernel_rfl
theorem zero_one : Try.zeroCells96.all (·.oneCell') = true := by rw [zero_circ]; exact all_oneCell_toArray (circ_one _)
theorem zero_list : Try.zeroCells96.toList = circ fun _ => Cli.Pr.z := by rw [zero_circ]

theorem stc (P : Program) (b o : Nat) (vs : List Value) (w : World) (ht : w.there b o vs.length) (h1 : ∀ v ∈ vs, v.oneCell' = true) : (storeCells ⟨b, o, none⟩ vs).run P w = .ok () (w.setCells b o vs) :=
  run_storeCells_cells (P := P) b o vs 0 w (fun j hj => (ht j hj).1) (fun j hj => (ht j hj).2) h1

/-- Nothing of it agrees where one item does not. -/
theorem box_bad {c : Cli.Cl} {k l : List Frm.It} {j : Nat} (hj : j < l.length) (h : (Frm.it l j).1 = c.id ∨ Cli.hasI k (Frm.it l j).1 = false ∨ Cli.opensB c k l (Frm.it l j).1 = false) : Cli.boxAgree c k l = false := by
  unfold Cli.boxAgree
  have hm : Frm.it l j ∈ l := by rw [Cli.it_get l j hj]; exact List.getElem_mem hj
  rcases h with h | h | h
  · rw [Cli.hasI_iff.2 ⟨_, hm, h⟩]; rfl
  · rw [show (l.all fun x => Cli.hasI k x.1 && Cli.opensB c k l x.1) = false from List.all_eq_false.2 ⟨_, hm, by rw [h]; exact Bool.false_ne_true⟩, Bool.and_false, Bool.and_false]
  · rw [show (l.all fun x => Cli.hasI k x.1 && Cli.opensB c k l x.1) = false from List.all_eq_false.2 ⟨_, hm, by rw [h, Bool.and_false]; exact Bool.false_ne_true⟩, Bool.and_false, Bool.and_false]
theorem box_good {c : Cli.Cl} {k l : List Frm.It} (ht : c.T ≤ (l.length : Int) + 1) (h : ∀ j, j < l.length → (Frm.it l j).1 ≠ c.id ∧ Cli.hasI k (Frm.it l j).1 = true ∧ Cli.opensB c k l (Frm.it l j).1 = true) : Cli.boxAgree c k l = true := by
  unfold Cli.boxAgree
  have g : ∀ x ∈ l, x.1 ≠ c.id ∧ Cli.hasI k x.1 = true ∧ Cli.opensB c k l x.1 = true := fun x hx => by
    obtain ⟨i, hi, rfl⟩ := List.getElem_of_mem hx
    have := h i hi
    rwa [Cli.it_get l i hi] at this
  rw [Cli.hasI_off.2 (fun x hx => (g x hx).1), decide_eq_true ht, List.all_eq_true.2 (fun x hx => by rw [(g x hx).2.1, (g x hx).2.2]; rfl)]
  rfl


set_option maxHeartbeats 400000 in
set_option maxRecDepth 100000 in
theorem second_short (b : Nat) (T : TypeId) (S : PS) (v : Value) (l : List Frm.It) (w : World) (h : PSAt w b T S) (hl : ItemsAt w v l) (hlen : l.length ≤ 12) (ht : (l.length : Int) + 1 < S.t) :
    Calls Try.prog 107 #[.pointer (some ⟨b, 0, none⟩), v] w fun e w' =>
      e = .returned (.tuple #[.agg (circ fun _ => Cli.Pr.z).toArray, .bool false]) ∧ Below w.heap.size w w' := by
  have hbl := h.lt
  have c5 := h.c5
  obtain ⟨a, cap, rfl, l2, l3, _, hcl⟩ := items_view hl
  have HZ := hideG zero_circ
  have HZL := hideG zero_list
  clear h hl hcl
  have HC0 := hideG (show CircAt (w.alloc (.cells Try.zeroCells96 96)) w.heap.size (fun _ => Cli.Pr.z) by unfold CircAt; rw [← HZ.out]; exact heap_alloc_new w _)
  have al : (w.alloc (.cells Try.zeroCells96 96)).cell? ⟨b, 5, none⟩ = some (.int .i64 S.t) := by rw [((Below.refl w.heap.size w).alloc (Nat.le_refl _) _).cell (p := ⟨b, 5, none⟩) (by exact hbl)]; exact c5
  generalize S.t = t at *
  generalize l.length = n at *
  have HT0 := hideG (show (w.alloc (.cells Try.zeroCells96 96)).there w.heap.size 0 Try.zeroCells96.toList.length by
    rw [HZL.out, circ_length]; exact HC0.out.there 0 65 (by omega))
  have hst := stc Try.prog w.heap.size 0 Try.zeroCells96.toList _ HT0.out (by rw [HZL.out]; exact circ_one _)
  have HROW := hideG (show ((w.alloc (.cells Try.zeroCells96 96)).setCells w.heap.size 0 Try.zeroCells96.toList).heap[w.heap.size]? = some (.cells (circ fun _ => Cli.Pr.z).toArray 96 (0, 0)) by rw [HZL.out]; exact HC0.out.all _)
  have HSZ := hideG (show (Try.prog.info? 96).map (·.size) = some (circ fun _ => Cli.Pr.z).toArray.size by rw [size_circ, List.size_toArray, circ_length])
  obtain ⟨CZ, hCZ⟩ : ∃ CZ, CZ = (circ fun _ => Cli.Pr.z).toArray := ⟨_, rfl⟩
  rw [← hCZ] at HROW HSZ ⊢
  have HBW := hideG (show Below w.heap.size w ((w.alloc (.cells Try.zeroCells96 96)).setCells w.heap.size 0 Try.zeroCells96.toList) from below_setCells (Nat.le_refl _) _ _ _ ((Below.refl w.heap.size w).alloc (Nat.le_refl _) _))
  obtain ⟨W2, hW2⟩ : ∃ W2, W2 = (w.alloc (.cells Try.zeroCells96 96)).setCells w.heap.size 0 Try.zeroCells96.toList := ⟨_, rfl⟩
  rw [← hW2] at hst HROW HBW
  clear hW2
  clear hCZ
  go_enter Try.func107, Try.ntmps107
  go_wp2_with fail
  trace "1"
  refine bodyPost_ret (results_row_tmp rfl _ _ w.heap.size 96 CZ (0, 0) _ rfl HROW.out Try.underlying96 rfl HSZ.out) rfl ?_
  trace "2"
  exact ⟨rfl, HBW.out⟩

end Go.Proofs.Ytchideljndagjaa
