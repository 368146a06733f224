/- Contracts of package veilkeep: widths, items compared, what is refused, what is written back. -/
import Derived.Test.YtchideljndagjaaFrameG
import Derived.Test.YtchideljndagjaaWireStr
import Derived.BigQuiet
namespace Go.Proofs.Ytchideljndagjaa
open Go.ChangeShapes Go.WideShapes Go.ChangeAt Go.RowKit
set_option linter.unusedVariables false

theorem kwidth_calls (k : Int) (w : World) :
    Calls Try.prog 28 #[.int .i64 k] w fun e w' => e = .returned (.int .i64 (Frm.wid k : Int)) ∧ w' = w := by
  have main : ∀ (n : Int) (P : Prop), Hid ((Frm.wid k : Int) = n) → (∀ w, Calls Try.prog 28 #[.int .i64 k] w fun e w' => e = .returned (.int .i64 n) ∧ w' = w) → Calls Try.prog 28 #[.int .i64 k] w fun e w' => e = .returned (.int .i64 (Frm.wid k : Int)) ∧ w' = w :=
    fun n _ h hc => by rw [h.out]; exact hc w
  by_cases h5 : k = 5
  · subst h5
    refine main 1 True rfl (fun w => ?_)
    go_enter Try.func28, Try.ntmps28
    go_wp2
    go_ret
    exact ⟨rfl, rfl⟩
  by_cases h1 : k = 1
  · subst h1
    refine main 2 True rfl (fun w => ?_)
    go_enter Try.func28, Try.ntmps28
    go_wp2
    go_ret
    exact ⟨rfl, rfl⟩
  by_cases h2 : k = 2
  · subst h2
    refine main 2 True rfl (fun w => ?_)
    go_enter Try.func28, Try.ntmps28
    go_wp2
    go_ret
    exact ⟨rfl, rfl⟩
  by_cases h7 : k = 7
  · subst h7
    refine main 2 True rfl (fun w => ?_)
    go_enter Try.func28, Try.ntmps28
    go_wp2
    go_ret
    exact ⟨rfl, rfl⟩
  by_cases h3 : k = 3
  · subst h3
    refine main 3 True rfl (fun w => ?_)
    go_enter Try.func28, Try.ntmps28
    go_wp2
    go_ret
    exact ⟨rfl, rfl⟩
  by_cases h4 : k = 4
  · subst h4
    refine main 3 True rfl (fun w => ?_)
    go_enter Try.func28, Try.ntmps28
    go_wp2
    go_ret
    exact ⟨rfl, rfl⟩
  refine main 0 True (show ((Frm.wid k : Nat) : Int) = 0 by unfold Frm.wid; rw [if_neg h5, if_neg (by omega), if_neg (by omega)]; rfl) (fun w => ?_)
  go_enter Try.func28, Try.ntmps28
  go_wp2
  go_ret
  exact ⟨rfl, rfl⟩

set_option maxHeartbeats 1000000 in
set_option maxRecDepth 100000 in
theorem ksameItems_same (va vb : Value) (l : List Frm.It) (w : World) (ha : ItemsAt w va l) (hb : ItemsAt w vb l) :
    Calls Try.prog 30 #[va, vb] w fun e w' => e = .returned (.bool true) ∧ ∃ nq, w' = w.drewN nq := by
  obtain ⟨a, ca, rfl, a2, a3, _, hA⟩ := items_view ha
  obtain ⟨b, cb, rfl, b2, b3, _, hB⟩ := items_view hb
  have HA := hideG hA
  have HB := hideG hB
  clear hA hB ha hb
  have el : ((l.length : Int) != (l.length : Int)) = false := by simp
  generalize hn : l.length = n at *
  clear hn
  go_enter Try.func30, Try.ntmps30
  go_wp2_with fail
  go_loopw [5] (fun i wr => ∃ k nq : Nat, k ≤ n ∧ i = .int .i64 k ∧ wr = w.drewN nq) (fun i _ => n - (intOf i).toNat)
  case atStart => exact ⟨0, 0, by omega, rfl, rfl⟩
  case round =>
    obtain ⟨k, nq, hk, rfl, rfl⟩ := hrel
    by_cases hlt : k < n
    · obtain ⟨g1, o1, rfl, _, p0, p1, p2, p3⟩ := HA.out k hlt
      obtain ⟨g2, o2, rfl, _, q0, q1, q2, q3⟩ := HB.out k hlt
      generalize (Frm.it l k).1 = z0 at *
      generalize (Frm.it l k).2.1 = z1 at *
      generalize (Frm.it l k).2.2.1 = z2 at *
      generalize (Frm.it l k).2.2.2 = z3 at *
      have e0 : (z0 != z0) = false := by simp
      have e1 : (z1 != z1) = false := by simp
      have e2 : (z2 != z2) = false := by simp
      have e3 : (z3 != z3) = false := by simp
      go_wp2_with fail
      go_quiet (fail)
      go_wp2_with fail
      go_roundw
      case rel => exact ⟨k + 1, _, by omega, by go_num, rfl⟩
      case measure => simp [intOf]; omega
    · go_wp2_with fail
      go_ret
      exact ⟨rfl, nq, rfl⟩

set_option maxHeartbeats 400000 in
theorem krefused_calls (v : Value) (zs : List Int) (w : World) (h : BytesAt w v zs) (hd : Frm.decF zs = none) :
    Calls Try.prog 31 #[v] w fun e w' => e = .returned (.bool true) ∧ Below w.heap.size w w' := by
  obtain ⟨x1, x2, x3, x4⟩ := d_none hd
  have HV := hideG (veilDecode v zs w h)
  rw [x1, x2, x3, x4] at HV
  clear x1 x2 x3 x4 h hd
  go_enter Try.func31, Try.ntmps31
  go_wp2_with fail
  refine HV.out.mono ?_
  rintro e w1 ⟨va, rfl, hown, hb⟩
  obtain ⟨a', c', hv'⟩ := owns_form hown
  subst hv'
  have HB := hideG hb
  clear hown hb
  go_wp2_with fail
  go_ret
  exact ⟨rfl, (HB.out.alloc HB.out.size _)⟩

set_option maxHeartbeats 1000000 in
theorem kback_calls (s : ByteArray) (w : World) (hs : s.size ≤ maxLen) :
    Calls Try.prog 32 #[.string s] w fun e w' => e = .returned (.bool true) ∧ Below w.heap.size w w' := by
  have HCX := hideG (fun W => conv_ex W s hs)
  obtain ⟨v0, w0, hcv, hba, hb0⟩ := conv_ex w s hs
  have BA0 := hideG hba
  have B0 := hideG hb0
  have z0 := hb0.size
  clear hba hb0
  cases hd : Frm.decF (bl s) with
  | none =>
    obtain ⟨x1, x2, x3, x4⟩ := d_none hd
    have HD := hideG hd
    have HV := hideG (veilDecode v0 (bl s) w0 BA0.out)
    rw [x1, x2, x3, x4] at HV
    clear x1 x2 x3 x4 hd
    go_enter Try.func32, Try.ntmps32
    go_wp2_with fail
    refine HV.out.mono ?_
    rintro e w1 ⟨va, rfl, hown, hb⟩
    obtain ⟨a', c', hv'⟩ := owns_form hown
    subst hv'
    have hz := hb.size
    have HB := hideG (B0.out.trans (hb.mono z0))
    clear hown hb hcv
    obtain ⟨v2, w2, hcv2, hba2, hb2⟩ := HCX.out (w1.alloc (.cells #[.int .i64 0, .int .i64 0, .slice a' 0 c'] 52))
    have B2 := hideG ((HB.out.alloc (by omega) _).trans (hb2.mono (by simp; omega)))
    have BA2 := hideG hba2
    have z2 := B2.out.size
    clear hba2 hb2
    go_wp2_with fail
    refine (krefused_calls _ (bl s) _ BA2.out HD.out).mono ?_
    rintro e w3 ⟨rfl, hb3⟩
    have B3 := hideG hb3
    clear hb3
    go_wp2_with fail
    go_ret
    exact ⟨rfl, B2.out.trans (B3.out.mono z2)⟩
  | some f =>
    obtain ⟨k, fr, l⟩ := f
    obtain ⟨x1, x2, x3, x4⟩ := d_some hd
    obtain ⟨y1, y2, y3⟩ := Frm.enc_dec (bl_isB s) hd
    have HY1 := hideG y1
    have HY2 := hideG y2
    have HIN := hideG (show ∀ x ∈ l, inIt x from fun x hx => by
      obtain ⟨i, hi, rfl⟩ := List.getElem_of_mem hx
      have hok := (Frm.okF_parts y1).2.2.2.2 i hi
      have hid := (Frm.okF_bounds y1).2.2.2.2.2 i hi
      obtain ⟨n1, n2, n3⟩ := Frm.okI_named hok
      have e : Frm.it l i = l[i] := by unfold Frm.it; rw [List.getD_eq_getElem?_getD, List.getElem?_eq_getElem hi]; rfl
      rw [e] at hid n1 n2 n3
      refine ⟨?_, ?_, ?_, ?_⟩ <;> unfold inI <;> omega)
    have HV := hideG (veilDecode v0 (bl s) w0 BA0.out)
    rw [x1, x2, x3, x4] at HV
    clear x1 x2 x3 x4 hd y1 y2 y3
    go_enter Try.func32, Try.ntmps32
    go_wp2_with fail
    refine HV.out.mono ?_
    rintro e w1 ⟨va, rfl, hown, hb⟩
    obtain ⟨a', c', hv'⟩ := owns_form hown
    subst hv'
    have hz := hb.size
    have HB := hideG (B0.out.trans (hb.mono z0))
    have IT := hideG (itemsAt_of_owns hown HIN.out)
    clear hown hb hcv
    go_wp2_with fail
    refine (veilEncode_yes _ _ _ l _ (IT.out.below (by go_grown)) HY1.out).mono ?_
    rintro e w2 ⟨vb, rfl, hown2, hb2⟩
    obtain ⟨a2, c2, hv2⟩ := owns_form hown2
    have hcs := conv_str (bytesAt_of_owns hown2 (encF_isB HY1.out))
    rw [HY2.out, str_bl] at hcs
    have B2 := hideG ((HB.out.alloc (by omega) _).trans (hb2.mono (by simp; omega)))
    subst hv2
    clear hown2 hb2
    go_wp2_with fail
    go_ret
    exact ⟨rfl, B2.out⟩

end Go.Proofs.Ytchideljndagjaa
