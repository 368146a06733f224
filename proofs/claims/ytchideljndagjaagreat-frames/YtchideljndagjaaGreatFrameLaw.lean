/- Contracts of the steps of a script: Encode and Decode, and the owning of what was handed in and of what came out. -/
import Derived.Test.YtchideljndagjaaGreatRefFrameH
import Derived.Test.YtchideljndagjaaGreatGiveItems
import Derived.Test.YtchideljndagjaaGreatGiveBytes
import Derived.Test.YtchideljndagjaaGreatOwnFrm
import Derived.Test.YtchideljndagjaaGreatLaw
namespace Go.Proofs.YtchideljndagjaaGreat
open Go.ChangeShapes Go.WideShapes Go.ChangeAt Go.RowKit
set_option linter.unusedVariables false

theorem okF_in {k fr : Int} {l : List Frm.It} (h : Frm.okF k fr l = true) : ∀ x ∈ l, inIt x := fun x hx => by
  obtain ⟨i, hi, rfl⟩ := List.getElem_of_mem hx
  have hok := (Frm.okF_parts h).2.2.2.2 i hi
  have hid := (Frm.okF_bounds h).2.2.2.2.2 i hi
  obtain ⟨n1, n2, n3⟩ := Frm.okI_named hok
  have e : Frm.it l i = l[i] := by unfold Frm.it; rw [List.getD_eq_getElem?_getD, List.getElem?_eq_getElem hi]; rfl
  rw [e] at hid n1 n2 n3
  refine ⟨?_, ?_, ?_, ?_⟩ <;> unfold inI <;> omega

/-- Both answer alike. -/
theorem both_encode (k fr : Int) (l : List Frm.It) : ∃ (E : List Int) (c : Int), Frm.isB E ∧ (∀ w v, ItemsAt w v l → Calls Tryz.prog 36 #[.agg #[.int .i64 k, .int .i64 fr, v]] w fun e w' => ∃ va, e = .returned (.tuple #[va, .int .i64 c]) ∧ w'.ownsRow w.heap.size 5 1 va E.length (E.map (Value.int .u8)) ∧ Below w.heap.size w w') ∧
    (∀ w v, ItemsAt w v l → Calls Tryz.prog 37 #[.agg #[.int .i64 k, .int .i64 fr, v]] w fun e w' => ∃ va, e = .returned (.tuple #[va, .int .i64 c]) ∧ w'.ownsRow w.heap.size 5 1 va E.length (E.map (Value.int .u8)) ∧ Below w.heap.size w w') := by
  cases ho : Frm.okF k fr l with
  | false =>
    refine ⟨[], 4, fun x hx => (by cases hx), fun w v hv => (veilEncode_no k fr v l w hv ho).mono ?_, fun w v hv => (rencode_no k fr v l w hv ho).mono ?_⟩
    · rintro e w' ⟨rfl, hb⟩
      exact ⟨_, rfl, World.ownsRow_nil _ _ _ _, hb⟩
    · rintro e w' ⟨rfl, hb⟩
      exact ⟨_, rfl, World.ownsRow_nil _ _ _ _, hb⟩
  | true => exact ⟨Frm.encF k fr l, 0, encF_isB ho, fun w v hv => veilEncode_yes k fr v l w hv ho, fun w v hv => rencode_yes k fr v l w hv ho⟩

theorem igiven_items {w : World} {g : Nat} {ps : List Frm.It} (hg : w.heap[g]? = some (.cells (flat4 (igiven ps 3)).toArray 142 (0, 0))) (hz : ∀ p ∈ ps, inIt p) (hb : ps.length * 32 ≤ 140737488355328) :
    ItemsAt w (.slice (some ⟨g, 0, none⟩) ps.length (ps.length + 3)) ps := by
  refine ⟨_, _, rfl, by omega, by unfold maxLen; omega, hz, .inr ⟨g, 0, rfl, ?_, fun i hi => ?_⟩⟩
  · by_cases h : g < w.heap.size
    · exact h
    · rw [Array.getElem?_eq_none (by omega)] at hg; cases hg
  · have hpl := igiven_length ps 3 (Nat.le_refl _)
    obtain ⟨f0, f1, f2, f3⟩ := flat4_get (igiven ps 3) i (by rw [hpl]; omega)
    rw [igiven_get ps i (by omega), if_pos hi] at f0 f1 f2 f3
    rw [Nat.zero_add]
    exact ⟨(row_cell hg (i * 4) (by rw [flat4_length, hpl]; omega)).1.trans f0, (row_cell hg (i * 4 + 1) (by rw [flat4_length, hpl]; omega)).1.trans f1,
      (row_cell hg (i * 4 + 2) (by rw [flat4_length, hpl]; omega)).1.trans f2, (row_cell hg (i * 4 + 3) (by rw [flat4_length, hpl]; omega)).1.trans f3⟩

set_option maxHeartbeats 4000000 in
set_option maxRecDepth 100000 in
theorem encoded_step (pw : Nat) (F : Nat → Value) (nx : Int) (ls : Nat → List Ow) (k fr : Int) (v : Value) (l : List Frm.It) (w : World) (h : InvW w pw F nx ls) (h0 : 0 ≤ nx) (h1 : nx + 1 ≤ 1000000000000000000)
    (hlen2 : ((ls 2).length + 1) * 24 ≤ 140737488355328) (hlen1 : ((ls 1).length + 1) * 24 ≤ 140737488355328) (hl : ItemsAt w v l) (hb : l.length * 32 ≤ 140737488355328) :
    Calls Tryz.prog 13 #[.pointer (some ⟨pw, 0, none⟩), .agg #[.int .i64 k, .int .i64 fr, v]] w fun e w' => e = .returned (.bool true) ∧ ∃ F' o o', InvW w' pw F' (nx + 1 + 1) (updL (updL ls 2 (ls 2 ++ [o])) 1 (ls 1 ++ [o'])) ∧
      (∀ j, j < 3 → F' j = F j) ∧ Below pw w w' ∧ 0 ≤ o'.2.2 ∧ o'.2.2 ≤ 255 := by
  obtain ⟨E, c, hE, hs1, hs2⟩ := both_encode k fr l
  have HS1 := hideG hs1
  have HS2 := hideG hs2
  have HE := hideG hE
  have HIN := hideG (show ∀ x ∈ l, inIt x by obtain ⟨_, _, _, _, _, h4, _⟩ := hl; exact h4)
  have HM := hideG (fun (w1 : World) (hb : Below w.heap.size w w1) => hl.below hb)
  obtain ⟨a, cap, rfl, l2, l3, _, _⟩ := items_view hl
  have HI := hideG h
  have hpl := h.pw_lt
  have ec : (c == c) = true := by simp
  clear hs1 hs2 hE h hl
  obtain ⟨bx, hbx⟩ : ∃ bx, bx = w.alloc (.cells #[.int .i64 k, .int .i64 fr, .slice a l.length cap] 40) := ⟨_, rfl⟩
  have sbx : bx.heap.size = w.heap.size + 1 := by rw [hbx]; simp
  have CB := hideG (show ∀ w1, Below bx.heap.size bx w1 → w1.cell? ⟨w.heap.size, 0, none⟩ = some (.int .i64 k) ∧ w1.cell? ⟨w.heap.size, 1, none⟩ = some (.int .i64 fr) ∧ w1.cell? ⟨w.heap.size, 2, none⟩ = some (.slice a l.length cap) from fun w1 hb => by
    have hlt : w.heap.size < bx.heap.size := by omega
    rw [hb.cell (p := ⟨w.heap.size, 0, none⟩) hlt, hb.cell (p := ⟨w.heap.size, 1, none⟩) hlt, hb.cell (p := ⟨w.heap.size, 2, none⟩) hlt, hbx]
    refine ⟨?_, ?_, ?_⟩ <;> simp [go_sem])
  have BX := hideG (show Below w.heap.size w bx by rw [hbx]; exact (Below.refl _ _).alloc (Nat.le_refl _) _)
  obtain ⟨e0, e1, e2⟩ := CB.out bx (Below.refl _ _)
  have GI := hideG (giveItems_calls _ l bx (HM.out _ BX.out) hb)
  go_enter Tryz.func13, Tryz.ntmps13
  go_wp2_with fail
  rw [← hbx]
  clear hbx
  refine GI.out.mono ?_
  rintro e w1 ⟨g, hg0, rfl, hg1, hb1⟩
  have G1 := hideG hg1
  have z1 := hb1.size
  have gl : g < w1.heap.size := by
    by_cases h : g < w1.heap.size
    · exact h
    · rw [Array.getElem?_eq_none (by omega)] at hg1; cases hg1
  have B1 := hideG hb1
  obtain ⟨f0, f1, f2⟩ := CB.out w1 hb1
  clear hg1 hb1 e0 e1 e2
  go_wp2_with fail
  refine (HS1.out _ _ (igiven_items G1.out HIN.out hb)).mono ?_
  rintro e w2 ⟨va, rfl, hoa, hb2⟩
  obtain ⟨aa, ca, hva⟩ := owns_form hoa
  have z2 := hb2.size
  have OA2 := hideG hoa
  have G2 := hideG ((hb2.block g gl).trans G1.out)
  have B2 := hideG (B1.out.trans (hb2.mono (by omega)))
  clear hb2 hoa f0 f1 f2
  obtain ⟨f0, f1, f2⟩ := CB.out w2 B2.out
  have RE := hideG (HS2.out w2 _ (HM.out _ (BX.out.trans (B2.out.mono (by omega)))))
  subst hva
  go_wp2_with fail
  refine RE.out.mono ?_
  rintro e w3 ⟨vb, rfl, hob, hb3⟩
  obtain ⟨ab, cb, hvb⟩ := owns_form hob
  have z3 := hb3.size
  have OA3 := hideG (ownsRow_chg (S := fun _ => False) OA2.out (Chg.of_below hb3) (fun _ _ h => h))
  have hcs1 := conv_str (bytesAt_of_owns OA3.out HE.out)
  have hcs2 := conv_str (bytesAt_of_owns hob HE.out)
  have G3 := hideG ((hb3.block g (by omega)).trans G2.out)
  have B3 := hideG (B2.out.trans (hb3.mono (by omega)))
  subst hvb
  clear hb3 hob f0 f1 f2 RE
  obtain ⟨f0, f1, f2⟩ := CB.out w3 B3.out
  have BW3 := hideG (BX.out.trans (B3.out.mono (by omega)))
  have ST := hideG (stillItems_calls _ l w3 g (HM.out _ BW3.out) hb G3.out)
  generalize strOfNums E = sE at *
  go_wp2_with fail
  refine ST.out.mono ?_
  rintro e w4 ⟨rfl, hb4⟩
  have z4 := hb4.size
  have G4 := hideG ((hb4.block g (by omega)).trans G3.out)
  have BW4 := hideG (BW3.out.trans (hb4.mono (by omega)))
  have OA4 := hideG (ownsRow_chg (S := fun _ => False) OA3.out (Chg.of_below hb4) (fun _ _ h => h))
  clear hb4 hcs1 hcs2 f0 f1 f2 ST
  have HI4 := hideG (HI.out.below BW4.out)
  go_wp2_with fail
  refine (ownItems_calls pw F nx ls g l.length (l.length + 3) _ _ HI4.out h0 (by omega) hlen2 G4.out (by simp [flat4_length, igiven_length _ _ (Nat.le_refl 3)]) (by omega) (by unfold maxLen; omega) (by omega) (fun hf => by have := (HI.out.foot_lt hf).2; omega)).mono ?_
  rintro e w5 ⟨rfl, F1, i1, i2, i3, i4⟩
  have hoa5 := ownsRow_chg OA4.out i4 (fun b hb hS => by
    have hl1 := OA4.out.lt b hb
    rcases hS with hS | hS | hS
    · omega
    · omega
    · have hl2 := (HI.out.foot_lt hS).2
      omega)
  have OA5 := hideG hoa5
  have FT := hideG (fun b (hb : (Value.slice aa E.length ca).ownBlock = some b) => (show ¬ Foot F1 (updL ls 2 (ls 2 ++ [(some g, l.length + 3, mkN nx)])) b from by
    have hl1 := OA4.out.lt b hb
    exact i2 b hl1.2 (by omega) (fun hf => by have hl2 := (HI.out.foot_lt hf).2; omega)))
  have I1 := hideG i1
  have I3 := hideG i3
  have I4 := hideG (i4.below (B := pw) (by omega) (fun b hb => by
    rcases hb with hb | hb | hb
    · omega
    · omega
    · have h1 := HI4.out.foot_lt hb; omega))
  have z5 := i4.size
  clear i1 i2 i3 i4 hoa5
  go_wp2_with fail
  refine (own_bytes pw F1 (nx + 1) _ _ _ _ _ _ I1.out (by omega) (by omega) (by simpa [updL] using hlen1) OA5.out (by omega) FT.out).mono ?_
  rintro e w6 ⟨rfl, F2, o, i1, i2, i3, i4, hmk⟩
  have MK := hideG hmk
  clear hmk
  have J1 := hideG i1
  have J3 := hideG i3
  have J4 := hideG (i4.below (B := pw) (by omega) (fun b hb => by
    rcases hb with hb | hb | hb
    · omega
    · have h2 := OA5.out.lt b hb; omega
    · have h1 := I1.out.foot_lt hb; omega))
  clear i1 i2 i3 i4
  go_wp2_with fail
  refine (num_calls _ _).mono ?_
  rintro e w7 ⟨rfl, rfl⟩
  go_wp2_with fail
  refine (num_calls _ _).mono ?_
  rintro e w7 ⟨rfl, rfl⟩
  go_wp2_with fail
  go_ret
  refine ⟨rfl, F2, (some g, l.length + 3, mkN nx), o, ?_, fun j hj => by rw [J3.out j hj]; exact I3.out j hj, ((BW4.out.mono (by omega)).trans I4.out).trans J4.out, MK.out.1, MK.out.2⟩
  have := J1.out
  rw [show updL ls 2 (ls 2 ++ [(some g, l.length + 3, mkN nx)]) 1 = ls 1 from rfl] at this
  exact this

set_option maxHeartbeats 4000000 in
set_option maxRecDepth 100000 in
theorem decoded_step (pw : Nat) (F : Nat → Value) (nx : Int) (ls : Nat → List Ow) (s : ByteArray) (w : World) (h : InvW w pw F nx ls) (h0 : 0 ≤ nx) (h1 : nx + 1 ≤ 1000000000000000000)
    (hlen2 : ((ls 2).length + 1) * 24 ≤ 140737488355328) (hlen1 : ((ls 1).length + 1) * 24 ≤ 140737488355328) (hb : s.size ≤ 140737488351232) :
    Calls Tryz.prog 14 #[.pointer (some ⟨pw, 0, none⟩), .string s] w fun e w' => e = .returned (.bool true) ∧ ∃ F' o o', InvW w' pw F' (nx + 1 + 1) (updL (updL ls 1 (ls 1 ++ [o])) 2 (ls 2 ++ [o'])) ∧
      (∀ j, j < 3 → F' j = F j) ∧ Below pw w w' ∧ 0 ≤ o.2.2 ∧ o.2.2 ≤ 255 := by
  have MK := hideG (show 0 ≤ mkN nx ∧ mkN nx ≤ 255 from ⟨by have := mkN_lo nx; omega, by have := mkN_hi nx; omega⟩)
  have HI := hideG h
  have hpl := h.pw_lt
  have HIN := hideG (show ∀ x ∈ dL (bl s), inIt x from fun x hx => by
    unfold dL at hx
    cases hd : Frm.decF (bl s) with
    | none => rw [hd] at hx; cases hx
    | some f =>
      obtain ⟨k, fr, l⟩ := f
      rw [hd] at hx
      obtain ⟨y1, y2, y3⟩ := Frm.enc_dec (bl_isB s) hd
      exact okF_in y1 x hx)
  have HCX := hideG (fun W => conv_ex W s (by unfold maxLen; omega))
  clear h
  obtain ⟨kD, hkD⟩ : ∃ x, x = dK (bl s) := ⟨_, rfl⟩
  obtain ⟨fD, hfD⟩ : ∃ x, x = dF (bl s) := ⟨_, rfl⟩
  obtain ⟨eD, heD⟩ : ∃ x, x = dE (bl s) := ⟨_, rfl⟩
  obtain ⟨lD, hlD⟩ : ∃ x, x = dL (bl s) := ⟨_, rfl⟩
  have HV := hideG (fun W v (hv : BytesAt W v (bl s)) => veilDecode v (bl s) W hv)
  have HR := hideG (fun W v (hv : BytesAt W v (bl s)) => rdecode_calls v (bl s) W hv)
  rw [← hkD, ← hfD, ← heD, ← hlD] at HV HR
  rw [← hlD] at HIN
  clear hkD hfD heD hlD
  have ek : (kD == kD) = true := by simp
  have ef : (fD == fD) = true := by simp
  have ee : (eD == eD) = true := by simp
  go_enter Tryz.func14, Tryz.ntmps14
  go_wp2_with fail
  refine (giveBytes_calls s w hb).mono ?_
  rintro e w1 ⟨g, hg0, rfl, hg1, hb1⟩
  have G1 := hideG hg1
  have z1 := hb1.size
  have gl : g < w1.heap.size := by
    by_cases h : g < w1.heap.size
    · exact h
    · rw [Array.getElem?_eq_none (by omega)] at hg1; cases hg1
  have B1 := hideG hb1
  clear hg1 hb1
  go_wp2_with fail
  refine (HV.out _ _ (bgiven_bytes G1.out hb)).mono ?_
  rintro e w2 ⟨va, rfl, hoa, hb2⟩
  obtain ⟨aa, ca, hva⟩ := owns_form hoa
  have z2 := hb2.size
  have OA2 := hideG hoa
  have G2 := hideG ((hb2.block g gl).trans G1.out)
  have B2 := hideG (B1.out.trans (hb2.mono (by omega)))
  subst hva
  clear hb2 hoa
  obtain ⟨wf, hwf⟩ : ∃ wf, wf = w2.alloc (.cells #[.int .i64 kD, .int .i64 fD, .slice aa lD.length ca] 40) := ⟨_, rfl⟩
  have zf : wf.heap.size = w2.heap.size + 1 := by rw [hwf]; simp
  have hbf : Below w2.heap.size w2 wf := by rw [hwf]; exact (Below.refl _ _).alloc (Nat.le_refl _) _
  have CF := hideG (show ∀ W, Below wf.heap.size wf W → W.cell? ⟨w2.heap.size, 0, none⟩ = some (.int .i64 kD) ∧ W.cell? ⟨w2.heap.size, 1, none⟩ = some (.int .i64 fD) ∧ W.cell? ⟨w2.heap.size, 2, none⟩ = some (.slice aa lD.length ca) from fun W hb => by
    have hlt : w2.heap.size < wf.heap.size := by omega
    rw [hb.cell (p := ⟨w2.heap.size, 0, none⟩) hlt, hb.cell (p := ⟨w2.heap.size, 1, none⟩) hlt, hb.cell (p := ⟨w2.heap.size, 2, none⟩) hlt, hwf]
    refine ⟨?_, ?_, ?_⟩ <;> simp [go_sem])
  have OAF := hideG (ownsRow_chg (S := fun _ => False) OA2.out (Chg.of_below hbf) (fun _ _ h => h))
  have GF := hideG ((hbf.block g (by omega)).trans G2.out)
  have BF := hideG (B2.out.trans (hbf.mono (by omega)))
  clear hbf
  obtain ⟨v3, w3, hcv, hba3, hb3⟩ := HCX.out wf
  have z3 := hb3.size
  have BA3 := hideG hba3
  have BF3 := hideG hb3
  clear hba3 hb3
  go_upto_region 3 with fail
  rw [← hwf]
  clear hwf
  go_wp2_with fail
  refine (HR.out _ _ BA3.out).mono ?_
  rintro e w4 ⟨vb, rfl, hob, hb4⟩
  obtain ⟨ab, cb, hvb⟩ := owns_form hob
  have z4 := hb4.size
  have BF4 := hideG (BF3.out.trans (hb4.mono (by omega)))
  have IB4 := hideG (itemsAt_of_owns hob HIN.out)
  subst hvb
  clear hob hb4 hcv
  obtain ⟨wg, hwg⟩ : ∃ wg, wg = w4.alloc (.cells #[.int .i64 kD, .int .i64 fD, .slice ab lD.length cb] 40) := ⟨_, rfl⟩
  have zg : wg.heap.size = w4.heap.size + 1 := by rw [hwg]; simp
  have hbg : Below w4.heap.size w4 wg := by rw [hwg]; exact (Below.refl _ _).alloc (Nat.le_refl _) _
  have CG := hideG (show ∀ W, Below wg.heap.size wg W → W.cell? ⟨w4.heap.size, 0, none⟩ = some (.int .i64 kD) ∧ W.cell? ⟨w4.heap.size, 1, none⟩ = some (.int .i64 fD) ∧ W.cell? ⟨w4.heap.size, 2, none⟩ = some (.slice ab lD.length cb) from fun W hb => by
    have hlt : w4.heap.size < wg.heap.size := by omega
    rw [hb.cell (p := ⟨w4.heap.size, 0, none⟩) hlt, hb.cell (p := ⟨w4.heap.size, 1, none⟩) hlt, hb.cell (p := ⟨w4.heap.size, 2, none⟩) hlt, hwg]
    refine ⟨?_, ?_, ?_⟩ <;> simp [go_sem])
  have BFG := hideG (BF4.out.trans (hbg.mono (by omega)))
  have OAG := hideG (ownsRow_chg (S := fun _ => False) OAF.out (Chg.of_below BFG.out) (fun _ _ h => h))
  have GG := hideG ((BFG.out.block g (by omega)).trans GF.out)
  have BG := hideG (BF.out.trans (BFG.out.mono (by omega)))
  have SI := hideG (sameItems_same _ _ lD wg (itemsAt_of_owns OAG.out HIN.out) (IB4.out.below hbg))
  clear hbg
  obtain ⟨p0, p1, p2⟩ := CF.out wg BFG.out
  obtain ⟨q0, q1, q2⟩ := CG.out wg (Below.refl _ _)
  go_upto_region 4 with fail
  rw [← hwg]
  clear hwg
  go_wp2_with fail
  refine SI.out.mono ?_
  rintro e w5 ⟨rfl, hb5⟩
  have z5 := hb5.size
  have G5 := hideG ((hb5.block g (by omega)).trans GG.out)
  have B5 := hideG (BG.out.trans (hb5.mono (by omega)))
  have OA5 := hideG (ownsRow_chg (S := fun _ => False) OAG.out (Chg.of_below hb5) (fun _ _ h => h))
  have BF5 := hideG (BFG.out.trans (hb5.mono (by omega)))
  have BG5 := hideG hb5
  clear hb5 p0 p1 p2 q0 q1 q2
  go_wp2_with fail
  refine (stillBytes_calls s _ g hb G5.out).mono ?_
  rintro e w6 ⟨rfl, nq, hw6⟩
  have hb6 : Below w5.heap.size w5 w6 := by rw [hw6]; exact below_drewN _ _
  have z6 := hb6.size
  have G6 := hideG ((hb6.block g (by omega)).trans G5.out)
  have B6 := hideG (B5.out.trans (hb6.mono (by omega)))
  have OA6 := hideG (ownsRow_chg (S := fun _ => False) OA5.out (Chg.of_below hb6) (fun _ _ h => h))
  have BF6 := hideG (BF5.out.trans (hb6.mono (by omega)))
  have BG6 := hideG (BG5.out.trans (hb6.mono (by omega)))
  clear hb6 hw6
  have HI6 := hideG (HI.out.below B6.out)
  go_wp2_with fail
  refine (ownBytes_calls pw F nx ls g s.size (s.size + 3) _ _ HI6.out h0 (by omega) hlen1 G6.out (by simp [bgiven_length _ _ (Nat.le_refl 3), bl_length]) (by omega) (by unfold maxLen; omega) (by omega) (fun hf => by have := (HI.out.foot_lt hf).2; omega)).mono ?_
  rintro e w7 ⟨rfl, F1, i1, i2, i3, i4⟩
  have hc7 : ∀ b o, w.heap.size ≤ b → b < w6.heap.size → g ≠ b → w7.cell? ⟨b, o, none⟩ = w6.cell? ⟨b, o, none⟩ := fun b o hb1 hb2 hne => cell_of_block (i4.block b hb2 (fun hS => by
    rcases hS with hS | hS | hS
    · omega
    · exact hne hS
    · have := (HI.out.foot_lt hS).2; omega)) o
  obtain ⟨p0, p1, p2⟩ := CF.out w6 BF6.out
  obtain ⟨q0, q1, q2⟩ := CG.out w6 BG6.out
  rw [← hc7 _ _ (by omega) (by omega) (by omega)] at p0 p1 p2 q0 q1 q2
  have hoa7 := ownsRow_chg OA6.out i4 (fun b hb hS => by
    have hl1 := OA6.out.lt b hb
    rcases hS with hS | hS | hS
    · omega
    · omega
    · have hl2 := (HI.out.foot_lt hS).2
      omega)
  have OA7 := hideG hoa7
  have FT := hideG (fun b (hb : (Value.slice aa lD.length ca).ownBlock = some b) => (show ¬ Foot F1 (updL ls 1 (ls 1 ++ [(some g, s.size + 3, mkN nx)])) b from by
    have hl1 := OA6.out.lt b hb
    exact i2 b hl1.2 (by omega) (fun hf => by have hl2 := (HI.out.foot_lt hf).2; omega)))
  have FG := hideG (fun b (hb1 : w.heap.size ≤ b) (hb2 : b < w6.heap.size) (hne : g ≠ b) => (show ¬ Foot F1 (updL ls 1 (ls 1 ++ [(some g, s.size + 3, mkN nx)])) b from
    i2 b hb2 hne (fun hf => by have hl2 := (HI.out.foot_lt hf).2; omega)))
  have I1 := hideG i1
  have I3 := hideG i3
  have I4 := hideG (i4.below (B := pw) (by omega) (fun b hb => by
    rcases hb with hb | hb | hb
    · omega
    · omega
    · have h1 := HI6.out.foot_lt hb; omega))
  have z7 := i4.size
  clear i1 i2 i3 i4 hoa7 hc7
  go_wp2_with fail
  refine (own_items pw F1 (nx + 1) _ _ _ _ _ _ I1.out (by omega) (by omega) (by simpa [updL] using hlen2) OA7.out (by omega) FT.out).mono ?_
  rintro e w8 ⟨rfl, F2, o, i1, i2, i3, i4⟩
  have hc8 : ∀ b o, w.heap.size ≤ b → b < w6.heap.size → g ≠ b → (Value.slice aa lD.length ca).ownBlock ≠ some b → w8.cell? ⟨b, o, none⟩ = w7.cell? ⟨b, o, none⟩ := fun b o hb1 hb2 hne hne2 => cell_of_block (i4.block b (by omega) (fun hS => by
    rcases hS with hS | hS | hS
    · omega
    · exact hne2 hS
    · exact FG.out b hb1 hb2 hne hS)) o
  have ne1 : (Value.slice aa lD.length ca).ownBlock ≠ some w2.heap.size := fun e => by have := (OA2.out.lt _ e).2; omega
  have ne2 : (Value.slice aa lD.length ca).ownBlock ≠ some w4.heap.size := fun e => by have := (OA2.out.lt _ e).2; omega
  rw [← hc8 _ _ (by omega) (by omega) (by omega) ne1] at p0 p1 p2
  rw [← hc8 _ _ (by omega) (by omega) (by omega) ne2] at q0 q1 q2
  have J1 := hideG i1
  have J3 := hideG i3
  have J4 := hideG (i4.below (B := pw) (by omega) (fun b hb => by
    rcases hb with hb | hb | hb
    · omega
    · have h2 := OA7.out.lt b hb; omega
    · have h1 := I1.out.foot_lt hb; omega))
  clear i1 i2 i3 i4 hc8 ne1 ne2
  go_wp2_with fail
  refine (num_calls _ _).mono ?_
  rintro e w9 ⟨rfl, rfl⟩
  go_wp2_with fail
  refine (num_calls _ _).mono ?_
  rintro e w9 ⟨rfl, rfl⟩
  go_wp2_with fail
  go_ret
  refine ⟨rfl, F2, (some g, s.size + 3, mkN nx), o, ?_, fun j hj => by rw [J3.out j hj]; exact I3.out j hj, ((B6.out.mono (by omega)).trans I4.out).trans J4.out, MK.out.1, MK.out.2⟩
  have := J1.out
  rw [show updL ls 1 (ls 1 ++ [(some g, s.size + 3, mkN nx)]) 2 = ls 2 from rfl] at this
  exact this

end Go.Proofs.YtchideljndagjaaGreat
