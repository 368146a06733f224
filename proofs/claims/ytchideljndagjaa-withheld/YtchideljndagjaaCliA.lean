/- Contracts of the program's client: the small ones. -/
import Derived.Test.YtchideljndagjaaCliMemAll
import Derived.Test.YtchideljndagjaaSplit
import Derived.Test.YtchideljndagjaaFrameF
import Derived.Deep.RegionHeld3
namespace Go.Proofs.Ytchideljndagjaa
open Go.ChangeShapes Go.WideShapes Go.ChangeAt Go.RowKit
set_option linter.unusedVariables false

set_option maxHeartbeats 1000000 in
set_option maxRecDepth 100000 in
theorem maskShareFor_calls (b : Nat) (T : TypeId) (S : PS) (zs : List Int) (v : Int) (w : World) (h : PSAt w b T S) (hl : ListAt w S.sm zs) (hall : zs.all Num.elB = true) (h0 : 0 ≤ S.ms) (h1 : S.ms < 2305843009213693951) (v0 : 0 ≤ v) (v1 : v < 2305843009213693951) :
    Calls Try.prog 116 #[.pointer (some ⟨b, 0, none⟩), .int .i64 v] w fun e w' => e = .returned (.int .i64 (Pol.polyP S.ms zs v)) ∧ Below w.heap.size w w' := by
  have c8 := h.c8
  have c10 := h.c10
  have HL := hideG hl
  have HA := hideG hall
  have HC := hideG (fun (nq : Nat) => valueAt_calls S.ms S.sm zs v (w.drewN nq) (hl.below (below_drewN w nq)) hall h0 h1 v0 v1)
  clear h hl hall
  generalize S.ms = m at *
  generalize S.sm = u at *
  go_enter Try.func116, Try.ntmps116
  go_wp2_with fail
  go_quiet ((go_at_call 68; refine Calls.quiet_of_same (HC.out _)))
  go_wp2_with fail
  go_ret
  exact ⟨rfl, below_drewN _ _⟩

set_option maxHeartbeats 1000000 in
set_option maxRecDepth 100000 in
theorem seedShareFor_calls (b : Nat) (T : TypeId) (S : PS) (zs : List Int) (v : Int) (w : World) (h : PSAt w b T S) (hl : ListAt w S.ss zs) (hall : zs.all Num.elB = true) (h0 : 0 ≤ S.sd) (h1 : S.sd < 2305843009213693951) (v0 : 0 ≤ v) (v1 : v < 2305843009213693951) :
    Calls Try.prog 115 #[.pointer (some ⟨b, 0, none⟩), .int .i64 v] w fun e w' => e = .returned (.int .i64 (Pol.polyP S.sd zs v)) ∧ Below w.heap.size w w' := by
  have c8 := h.c9
  have c10 := h.c11
  have HL := hideG hl
  have HA := hideG hall
  have HC := hideG (fun (nq : Nat) => valueAt_calls S.sd S.ss zs v (w.drewN nq) (hl.below (below_drewN w nq)) hall h0 h1 v0 v1)
  clear h hl hall
  generalize S.sd = m at *
  generalize S.ss = u at *
  go_enter Try.func115, Try.ntmps115
  go_wp2_with fail
  go_quiet ((go_at_call 68; refine Calls.quiet_of_same (HC.out _)))
  go_wp2_with fail
  go_ret
  exact ⟨rfl, below_drewN _ _⟩


set_option maxHeartbeats 1000000 in
set_option maxRecDepth 100000 in
theorem written_calls_c (b : Nat) (T : TypeId) (S : PS) (k : Int) (v : Value) (l : List Frm.It) (w : World) (h : PSAt w b T S) (hl : ItemsAt w v l) (ho : Frm.okF k S.id l = true) :
    Calls Try.prog 86 #[.pointer (some ⟨b, 0, none⟩), .int .i64 k, v] w fun e w' => ∃ va, e = .returned va ∧ w'.ownsRow w.heap.size 5 1 va (Frm.encF k S.id l).length ((Frm.encF k S.id l).map (Value.int .u8)) ∧ Below w.heap.size w w' := by
  have c0 := h.c0
  have HC := hideG (encode_yes k S.id v l w hl ho)
  obtain ⟨a, cap, rfl, -⟩ := items_view hl
  clear h hl ho
  go_enter Try.func86, Try.ntmps86
  go_wp2_with fail
  refine HC.out.mono ?_
  rintro e w' ⟨va, rfl, ho, hb⟩
  have HO := hideG ho
  have HB := hideG hb
  clear ho hb
  go_wp2_with fail
  go_ret
  exact ⟨_, rfl, HO.out, HB.out⟩

theorem phase_calls (b : Nat) (T : TypeId) (S : PS) (w : World) (h : PSAt w b T S) :
    Calls Try.prog 63 #[.pointer (some ⟨b, 0, none⟩)] w fun e w' => e = .returned (.int .i64 S.ph) ∧ w' = w := by
  have c1 := h.c1
  clear h
  go_enter Try.func63, Try.ntmps63
  go_wp2_with fail
  go_ret
  exact ⟨rfl, rfl⟩

theorem veilPhase_calls (b : Nat) (T : TypeId) (S : PS) (w : World) (h : PSAt w b T S) :
    Calls Try.prog 42 #[.pointer (some ⟨b, 0, none⟩)] w fun e w' => e = .returned (.int .i64 S.ph) ∧ w' = w := by
  have HC := hideG (phase_calls b T S w h)
  clear h
  go_enter Try.func42, Try.ntmps42
  go_wp2_with fail
  refine HC.out.mono ?_
  rintro e w' ⟨rfl, rfl⟩
  go_wp2_with fail
  go_ret
  exact ⟨rfl, rfl⟩

end Go.Proofs.Ytchideljndagjaa
