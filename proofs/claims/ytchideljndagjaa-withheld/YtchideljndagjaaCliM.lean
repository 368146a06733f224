/- Contracts of the program's client: what is added to a number of the list, the items of the Masked frame. -/
import Derived.Test.YtchideljndagjaaCliS
import Derived.Test.YtchideljndagjaaPadAll
namespace Go.Proofs.Ytchideljndagjaa
open Go.ChangeShapes Go.WideShapes Go.ChangeAt Go.RowKit
set_option linter.unusedVariables false

theorem msum_succ (c : Cli.Cl) (l m : List Frm.It) (i n : Nat) : Cli.msum c l m i (n + 1) = Cli.msum c l m i n + (if Cli.hasI m n = true then (if c.id < (n : Int) then Num.strAt (Cli.mkKey c l n) i else 4294967296 - Num.strAt (Cli.mkKey c l n) i) else 0) := rfl

set_option maxHeartbeats 2000000 in
set_option maxRecDepth 100000 in
theorem masks_calls (b : Nat) (T : TypeId) (S : PS) (c : Cli.Cl) (l m : List Frm.It) (i : Nat) (w : World) (h : PSAt w b T S) (hi : i ≤ 12)
    (hc : Cli.Good c) (eid : S.id = c.id) (esd : S.sd = c.sd) (hf : ∀ v, v < 13 → S.f v = Cli.secondP c l m v) (hno : Cli.hasI m c.id = false) :
    Calls Try.prog 117 #[.pointer (some ⟨b, 0, none⟩), .int .i64 ((i : Int) + 1)] w fun e w' => e = .returned (.int .i64 (Cli.msum c l m i 13)) ∧ Below w.heap.size w w' := by
  have hbl := h.lt
  obtain ⟨g5, g6⟩ := hc.sd
  have gi := hc.i
  have gn := hc.n
  have HRG := hideG h.range
  have HRL := hideG (circ_length S.f)
  have HIX := hideG (run_index_circ S.f)
  have c9 := h.c9
  rw [esd] at c9
  have HP := hideG (fun (w1 : World) (hb : Below w.heap.size w w1) => (show w1.cell? ⟨b, 0, none⟩ = some (.int .i64 c.id) by rw [← eid]; exact (h.below hb).c0))
  have HF := hideG hf
  have HNO := hideG hno
  have HMB := hideG (Cli.msum_bd c l m i)
  have HM0 := hideG (show Cli.msum c l m i 0 = Num.strAt c.sd i from rfl)
  clear h hf hno eid esd
  generalize S.f = f at *
  obtain ⟨CS, hCS⟩ : ∃ CS, CS = circ f := ⟨_, rfl⟩
  rw [← hCS] at HRG HRL HIX
  clear hCS
  go_enter Try.func117, Try.ntmps117
  go_wp2_with fail
  refine (maskNumber_calls _ _ _ g5 g6 hi).mono ?_
  rintro e w0 ⟨rfl, hw0⟩
  rw [hw0, ← HM0.out]
  clear hw0
  go_wp2_with (refine wpList_load_mid rfl 96 _ rfl b 12 rfl CS _ HRG.out Try.underlying96 rfl ?z ?_)
  case z => rw [size_circ, HRL.out]
  go_wp2_with fail
  go_loopw [5, 19] (fun u i' wr => ∃ k : Nat, k ≤ 13 ∧ i' = .int .i64 k ∧ u = .int .i64 (Cli.msum c l m i k) ∧ Below w.heap.size w wr) (fun _ i' _ => 13 - (intOf i').toNat)
  case atStart => exact ⟨0, by omega, rfl, rfl, Below.refl _ _⟩
  case round =>
    obtain ⟨k, hk, rfl, rfl, hbel⟩ := hrel
    have HB := hideG hbel
    have hsz := hbel.size
    clear hbel
    by_cases hlt : k < 13
    · have hlt' : (k : Int) < 13 := by omega
      have hix := HIX.out k hlt
      have hfk := HF.out k hlt
      have c0 := HP.out _ HB.out
      have al : ∀ (ob : Obj) (o : Nat), (wr.alloc ob).cell? ⟨b, o, none⟩ = wr.cell? ⟨b, o, none⟩ := fun ob o => ((Below.refl wr.heap.size wr).alloc (Nat.le_refl _) ob).cell (p := ⟨b, o, none⟩) (by show b < _; omega)
      have hbd := HMB.out k
      have HSU := hideG (msum_succ c l m i k)
      obtain ⟨M, hM⟩ : ∃ M, M = Cli.msum c l m i k := ⟨_, rfl⟩
      rw [← hM] at hbd HSU ⊢
      clear hM c9
      obtain ⟨bd1, bd2⟩ := hbd
      have bd3 : M ≤ 60129542144 := by omega
      clear bd2
      cases q : Cli.hasI m k
      · rw [q] at HSU
        have HS2 := hideG (show Cli.msum c l m i (k + 1) = M by rw [HSU.out, if_neg (by simp)]; omega)
        by_cases q2 : (k : Int) = c.id
        · have hme : (f k).mem = true := by rw [hfk]; unfold Cli.secondP; rw [q, if_neg (by simp), if_pos q2]; rfl
          rw [hme] at hix
          have n1 : ¬ c.id < (k : Int) := by omega
          have n2 : ¬ (k : Int) < c.id := by omega
          have HQ := hideG q2
          clear q q2 hme hfk
          generalize (f k).ck = y1 at *
          generalize (f k).mq = y2 at *
          generalize (f k).ms = y3 at *
          generalize (f k).ss = y4 at *
          go_wp2_with fail
          go_roundw
          case rel => exact ⟨k + 1, by omega, by go_num, by rw [HS2.out], HB.out.alloc (by omega) _⟩
          case measure => simp [intOf]; omega
        · have hme : (f k).mem = false := by rw [hfk]; unfold Cli.secondP; rw [q, if_neg (by simp), if_neg q2]; rfl
          rw [hme] at hix
          clear q q2 hme hfk
          generalize (f k).ck = y1 at *
          generalize (f k).mq = y2 at *
          generalize (f k).ms = y3 at *
          generalize (f k).ss = y4 at *
          go_wp2_with fail
          go_roundw
          case rel => exact ⟨k + 1, by omega, by go_num, by rw [HS2.out], HB.out.alloc (by omega) _⟩
          case measure => simp [intOf]; omega
      · rw [q] at HSU
        have hpr : f k = Cli.pr2 c l m k := by rw [hfk]; unfold Cli.secondP; rw [if_pos q]
        have hme : (f k).mem = true := by rw [hpr]; rfl
        have hmq : (f k).mq = Cli.mkKey c l k := by rw [hpr]; rfl
        have k1 : 0 ≤ Cli.mkKey c l k := Num.powP_lo _ _
        have k2 : Cli.mkKey c l k < 2305843009213693951 := Num.powP_hi _ _
        rw [hme, hmq] at hix
        have hne : (k : Int) ≠ c.id := fun e => by rw [e, HNO.out] at q; cases q
        have st := Cli.strAt_range (Cli.mkKey c l k) i
        obtain ⟨K, hK⟩ : ∃ K, K = Cli.mkKey c l k := ⟨_, rfl⟩
        rw [← hK] at hix HSU k1 k2 st
        obtain ⟨st1, st2⟩ := st
        clear hme hmq hpr hfk q hK
        generalize (f k).ck = y1 at *
        generalize (f k).ms = y3 at *
        generalize (f k).ss = y4 at *
        by_cases q2 : c.id < (k : Int)
        · have n2 : ¬ (k : Int) < c.id := by omega
          have HS2 := hideG (show Cli.msum c l m i (k + 1) = M + Num.strAt K i by rw [HSU.out, if_pos rfl, if_pos q2])
          clear hne
          go_wp2_with fail
          refine (maskNumber_calls _ _ _ k1 k2 hi).mono ?_
          rintro e w1 ⟨rfl, hw1⟩
          rw [hw1]
          clear hw1
          obtain ⟨E, hE⟩ : ∃ E, E = Num.strAt K i := ⟨_, rfl⟩
          rw [← hE] at HS2 st1 st2 ⊢
          clear hE
          go_wp2_with fail
          go_roundw
          case rel => exact ⟨k + 1, by omega, by go_num, by rw [HS2.out], HB.out.alloc (by omega) _⟩
          case measure => simp [intOf]; omega
        · have n2 : (k : Int) < c.id := by omega
          have HS2 := hideG (show Cli.msum c l m i (k + 1) = M + 4294967296 - Num.strAt K i by rw [HSU.out, if_pos rfl, if_neg q2]; omega)
          clear hne
          go_wp2_with fail
          refine (maskNumber_calls _ _ _ k1 k2 hi).mono ?_
          rintro e w1 ⟨rfl, hw1⟩
          rw [hw1]
          clear hw1
          obtain ⟨E, hE⟩ : ∃ E, E = Num.strAt K i := ⟨_, rfl⟩
          rw [← hE] at HS2 st1 st2 ⊢
          clear hE
          go_wp2_with fail
          go_roundw
          case rel => exact ⟨k + 1, by omega, by go_num, by rw [HS2.out], HB.out.alloc (by omega) _⟩
          case measure => simp [intOf]; omega
    · have ek : k = 13 := by omega
      subst ek
      go_wp2_with fail
      go_ret
      exact ⟨rfl, HB.out⟩

theorem masking_succ (c : Cli.Cl) (l m : List Frm.It) (k : Nat) (hk : k < c.M.toNat) : (Cli.masking c l m).take (k + 1) = (Cli.masking c l m).take k ++ [((k : Int) + 1, Cli.maskSum c l m k % 4294967296, 0, 0)] := by
  have hl : k < (Cli.masking c l m).length := by rw [Cli.masking_length]; exact hk
  rw [List.take_succ_eq_append_getElem hl, ← Cli.it_get _ k hl, Cli.masking_it c l m k hk]

set_option maxHeartbeats 2000000 in
set_option maxRecDepth 100000 in
theorem maskedList_calls (b : Nat) (T : TypeId) (S : PS) (c : Cli.Cl) (l m : List Frm.It) (w : World) (h : PSAt w b T S) (hin : ListAt w S.inp c.inp) (hm : Frm.riseB m = true)
    (hc : Cli.Good c) (eid : S.id = c.id) (esd : S.sd = c.sd) (hf : ∀ v, v < 13 → S.f v = Cli.secondP c l m v) (hno : Cli.hasI m c.id = false) :
    Calls Try.prog 108 #[.pointer (some ⟨b, 0, none⟩)] w fun e w' =>
      ∃ va, e = .returned va ∧ w'.ownsRow w.heap.size 91 4 va (Cli.masking c l m).length (flat4 (Cli.masking c l m)) ∧ Below w.heap.size w w' := by
  obtain ⟨i1, hi1, hy0, hy1, hy2⟩ := info_parts infoIt
  have hbl := h.lt
  have gm := hc.m
  have c6 := h.c6
  have HM := hideG (fun (w1 : World) (k : Nat) (hk : k ≤ 12) (hb : Below w.heap.size w w1) => masks_calls b T S c l m k w1 (h.below hb) hk hc eid esd hf hno)
  have HALL := hideG (fun k => Cli.msum_all c l hm k)
  have HBD := hideG (fun k => Cli.msum_bd c l m k 13)
  have HSU := hideG (masking_succ c l m)
  have hlen := hc.len
  have HW := hideG hc.inp
  obtain ⟨a, cap, hv, l2, l3, _, hcl⟩ := hin
  have hcl' : ∀ k, k < c.inp.length → ∃ b' off, a = some ⟨b', off, none⟩ ∧ b' < w.heap.size ∧ w.cell? ⟨b', off + k, none⟩ = some (.int .i64 (c.inp.getD k 0)) := by
    intro k hk
    rcases hcl with hcl | ⟨b', off, e, hb, hcc⟩
    · rw [hcl] at hk; simp at hk
    · exact ⟨b', off, e, hb, hcc k hk⟩
  have HC := hideG hcl'
  have HEND := hideG (show (Cli.masking c l m).take c.inp.length = Cli.masking c l m from List.take_of_length_le (by rw [Cli.masking_length]; omega))
  have HML := hideG (show (Cli.masking c l m).length = c.inp.length by rw [Cli.masking_length]; omega)
  rw [hv] at c6
  clear h hf hno eid esd hcl hcl' hv hm
  unfold maxLen at l3
  obtain ⟨n, hn⟩ : ∃ n, n = c.inp.length := ⟨_, rfl⟩
  rw [← hn] at c6 hlen l2 HC HEND HML
  have n12 : n ≤ 12 := by omega
  have HN := hideG hn
  have HMN := hideG (show n = c.M.toNat by omega)
  clear hn hlen
  go_enter Try.func108, Try.ntmps108
  go_wp2_with fail
  go_loopw [3, 13] (fun u i wr => ∃ k : Nat, k ≤ n ∧ i = .int .i64 k ∧ wr.ownsRow w.heap.size 91 4 u k (flat4 ((Cli.masking c l m).take k)) ∧ Below w.heap.size w wr) (fun _ i _ => n - (intOf i).toNat)
  case atStart => exact ⟨0, by omega, rfl, World.ownsRow_nil _ _ _ _, Below.refl _ _⟩
  case round =>
    obtain ⟨k, hk, rfl, hown, hbel⟩ := hrel
    have HO := hideG hown
    have HB := hideG hbel
    have hsz := hbel.size
    obtain ⟨a3, c3, hv3⟩ := owns_form hown
    subst hv3
    clear hown hbel c6
    by_cases hlt : k < n
    · obtain ⟨b', off, rfl, hb', hit⟩ := HC.out k hlt
      have d0 := (HB.out.cell (p := ⟨b', off + k, none⟩) hb').trans hit
      have hz := HW.out (c.inp.getD k 0) (by rw [List.getD_eq_getElem?_getD, List.getElem?_eq_getElem (by rw [← HN.out]; exact hlt)]; exact List.getElem_mem _)
      have HAL := hideG (HALL.out k)
      obtain ⟨z, hzz⟩ : ∃ z, z = c.inp.getD k 0 := ⟨_, rfl⟩
      rw [← hzz] at d0 hz HAL
      obtain ⟨z1, z2⟩ := hz
      clear hit hzz
      go_wp2_with fail
      refine (HM.out _ k (by omega) HB.out).mono ?_
      rintro e w1 ⟨rfl, hb1⟩
      have bd := HBD.out k
      obtain ⟨M, hM⟩ : ∃ M, M = Cli.msum c l m k 13 := ⟨_, rfl⟩
      rw [← hM] at bd HAL ⊢
      obtain ⟨bd1, bd2⟩ := bd
      have bd3 : M ≤ 60129542144 := by omega
      have s1 := hb1.size
      have B1 := hideG (HB.out.trans (hb1.mono hsz))
      have O1 := hideG (ownsRow_chg (S := fun _ => False) HO.out (Chg.of_below hb1) (fun _ _ h => h))
      clear hb1 hM bd2
      have HS2 := hideG (HSU.out k (by rw [← HMN.out]; exact hlt))
      obtain ⟨R, hR⟩ : ∃ R, R = (z + M) % 4294967296 := ⟨_, rfl⟩
      have hR' : (z + M) % 4294967296 = R := hR.symm
      have HRR := hideG (show Cli.maskSum c l m k % 4294967296 = R by rw [← HAL.out]; exact hR')
      clear hR
      go_wp2_with (at_builtin; refine wpList_append_own _ rfl _ _ 50 rfl w.heap.size 91 i1 (.agg #[.int .i64 0, .int .i64 0, .int .i64 0, .int .i64 0]) 4 32 Try.underlying50 hi1 hy0 hy1 hy2 rfl (by decide) _ _ _ rfl (O1.out.alloc _) ⟨w1.heap.size, 0, none⟩ 1 1 [.int .i64 ((k : Int) + 1), .int .i64 R, .int .i64 0, .int .i64 0] rfl rfl ?c1 ?c2 ?c3 ?c4 ?c5 ?_)
      case c1 => exact cell_four_new _ _ _ _ _ _
      case c2 => intro u hu; simp at hu; rcases hu with rfl | rfl | rfl <;> rfl
      case c3 => unfold maxLen; omega
      case c4 => omega
      case c5 => simp; omega
      intro v' w4 hown' hgrow' _
      have hb4 := (B1.out.alloc (by omega) _).grown hgrow' (by simp; omega) (fun y hy => (O1.out.lt y hy).1)
      have B4 := hideG hb4
      have O4 := hideG (show w4.ownsRow w.heap.size 91 4 v' (k + 1) (flat4 ((Cli.masking c l m).take (k + 1))) by
        rw [HS2.out, flat4_append, HRR.out]; exact hown')
      clear hown' hgrow' hb4
      go_wp2_with fail
      go_roundw
      case rel => exact ⟨k + 1, by omega, by go_num, O4.out, B4.out⟩
      case measure => simp [intOf]; omega
    · have ek : k = n := by omega
      subst ek
      go_wp2_with fail
      go_ret
      exact ⟨_, rfl, by rw [HML.out, ← HEND.out]; exact HO.out, HB.out⟩

end Go.Proofs.Ytchideljndagjaa
