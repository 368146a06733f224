/- PROVED: veilkeep.Wired answers true at every input, and the list reads afterwards as it read before. No condition. -/
import Derived.Test.YtchideljndagjaaKFrame
import Derived.Test.YtchideljndagjaaWiredA
import Derived.Test.YtchideljndagjaaMemAll
import Derived.ShutString
import Derived.Below
import Derived.ChangeMaps5
import Derived.SizedLaws
namespace Go.Proofs.Ytchideljndagjaa.wired
open Go.ChangeShapes Go.WideShapes Go.ChangeAt Go.RowKit
open Go.ChangeMaps (open_string shut_string)
set_option linter.unusedVariables false

theorem own : ownKnob Try.prog.godebug = none := by kernel_rfl
theorem laidOut : laidOutB Try.prog = true := by kernel_rfl

theorem bytesAt_one (w : World) (x : Int) (h0 : 0 ≤ x) (h1 : x ≤ 255) : BytesAt (w.alloc (.cells #[.int .u8 x] 5)) (.slice (some ⟨w.heap.size, 0, none⟩) 1 1) [x] := by
  refine ⟨_, _, rfl, by simp, by unfold maxLen; omega, fun y hy => by simp at hy; subst hy; exact ⟨h0, h1⟩, .inr ⟨w.heap.size, 0, rfl, by simp, fun i hi => ?_⟩⟩
  obtain rfl : i = 0 := by simpa using hi
  simp [Frm.bAt]

set_option maxHeartbeats 4000000 in
set_option maxRecDepth 100000 in
theorem walk (kd fr0 who : Int) (v : Value) (zs : List Int) (s : ByteArray) (more : Int) (w : World) (h : ListAt w v zs) (hkd : inI kd) (hfr : inI fr0) (hwho : inI who) (hs : s.size ≤ maxLen) (hmore : inI more) :
    Calls Try.prog 7 #[.int .i64 kd, .int .i64 fr0, .int .i64 who, v, .string s, .int .i64 more] w fun e w' => e = .returned (.bool true) ∧ Below w.heap.size w w' := by
  unfold inI at hmore
  have HF := hideG (kframe_calls kd fr0 who v zs w h hkd hfr hwho)
  have HBK := hideG (fun W => kback_calls s W hs)
  have HS := hideG hs
  clear h hkd hfr hwho hs
  go_enter Try.func7, Try.ntmps7
  go_wp2_with fail
  refine HF.out.mono ?_
  rintro e w1 ⟨k, fr, va, rfl, L, hok, hin, hown, hb1⟩
  obtain ⟨a', c', hv'⟩ := owns_form hown
  subst hv'
  have HIT := hideG (itemsAt_of_owns hown hin)
  have HOK := hideG hok
  have z1 := hb1.size
  have B1 := hideG hb1
  obtain ⟨o1, o2, o3, o4, o5, _⟩ := Frm.okF_bounds hok
  obtain ⟨x1, x2, x3, x4⟩ := d_some (Frm.dec_enc hok)
  have HLEN := hideG (Frm.encF_length k fr L)
  have HISB := hideG (encF_isB hok)
  have hE0 : Frm.bAt (Frm.encF k fr L) 0 = k := rfl
  have hE1 : Frm.bAt (Frm.encF k fr L) 1 = fr := rfl
  have hE2 : Frm.bAt (Frm.encF k fr L) 2 = (L.length : Int) := rfl
  have HLO := hideG (fun x => dec_long (k := k) (fr := fr) (l := L) x)
  have HSH := hideG (dec_short (k := k) (fr := fr) (l := L))
  have HIN := hideG hin
  have HEN := hideG (fun W (hi : ItemsAt W (.slice a' L.length c') L) => veilEncode_yes k fr (.slice a' L.length c') L W hi hok)
  clear hown hb1 hok hin
  obtain ⟨n, hn⟩ : ∃ n, n = L.length := ⟨_, rfl⟩
  rw [← hn] at HIT HLEN hE2 HEN o1 ⊢
  obtain ⟨E, hE⟩ : ∃ E, E = Frm.encF k fr L := ⟨_, rfl⟩
  rw [← hE] at x1 x2 x3 x4 HLEN HISB hE0 hE1 hE2 HLO HSH HEN
  have hs := Frm.wid_le k
  obtain ⟨S, hSS⟩ : ∃ S, S = Frm.size k := ⟨_, rfl⟩
  have hS : 1 + 8 * (Frm.wid k : Int) = (S : Int) := by rw [hSS]; unfold Frm.size; omega
  rw [← hSS] at HLEN
  have s25 : S ≤ 25 := by omega
  obtain ⟨M, hM⟩ : ∃ M, M = n * S := ⟨_, rfl⟩
  have hM2 : M ≤ 300 := by rw [hM]; exact Nat.mul_le_mul o1 s25
  have eM : (n : Int) * (S : Int) = (M : Int) := by rw [hM, Int.natCast_mul]
  rw [← hM] at HLEN
  have HX := hideG (And.intro x1 (And.intro x2 (And.intro x3 x4)))
  have HE := hideG (And.intro hE0 (And.intro hE1 hE2))
  have HN := hideG hn
  clear hn hE hSS hM x1 x2 x3 x4 hE0 hE1 hE2
  obtain ⟨wf, hwf⟩ : ∃ wf, wf = w1.alloc (.cells #[.int .i64 k, .int .i64 fr, .slice a' n c'] 52) := ⟨_, rfl⟩
  have zf : wf.heap.size = w1.heap.size + 1 := by rw [hwf]; simp
  have CF := hideG (show ∀ W, Below wf.heap.size wf W → W.cell? ⟨w1.heap.size, 0, none⟩ = some (.int .i64 k) ∧ W.cell? ⟨w1.heap.size, 1, none⟩ = some (.int .i64 fr) ∧ W.cell? ⟨w1.heap.size, 2, none⟩ = some (.slice a' n c') from fun W hb => by
    have hlt : w1.heap.size < wf.heap.size := by omega
    rw [hb.cell (p := ⟨w1.heap.size, 0, none⟩) hlt, hb.cell (p := ⟨w1.heap.size, 1, none⟩) hlt, hb.cell (p := ⟨w1.heap.size, 2, none⟩) hlt, hwf]
    refine ⟨?_, ?_, ?_⟩ <;> simp [go_sem])
  have BF := hideG (show Below w.heap.size w wf by rw [hwf]; exact B1.out.alloc z1 _)
  have ITF := hideG (show ItemsAt wf (.slice a' n c') L by rw [hwf]; exact HIT.out.below ((Below.refl _ _).alloc (Nat.le_refl _) _))
  go_wp2_with fail
  rw [← hwf]
  clear hwf
  refine (HEN.out _ ITF.out).mono ?_
  rintro e w2 ⟨vb, rfl, hown2, hb2⟩
  obtain ⟨f0, f1, f2⟩ := CF.out w2 hb2
  obtain ⟨ab, cb, hvb⟩ := owns_form hown2
  subst hvb
  have BA2 := hideG (bytesAt_of_owns hown2 HISB.out)
  have IT2 := hideG (ITF.out.below hb2)
  have B2 := hideG hb2
  have z2 := hb2.size
  obtain ⟨b, off, hab, hbl, g0⟩ : ∃ b off, ab = some ⟨b, off, none⟩ ∧ b < w2.heap.size ∧ ∀ i, i < E.length → w2.cell? ⟨b, off + i, none⟩ = some (.int .u8 (Frm.bAt E i)) := by
    obtain ⟨a, cap, e1, _, _, _, e5⟩ := BA2.out
    cases e1
    rcases e5 with e5 | e5
    · exfalso; have := HLEN.out; rw [e5] at this; simp at this; omega
    · exact e5
  subst hab
  have g1 := g0 1 (by rw [HLEN.out]; omega)
  have g2 := g0 2 (by rw [HLEN.out]; omega)
  have g0 := g0 0 (by rw [HLEN.out]; omega)
  rw [HE.out.1, Nat.add_zero] at g0
  rw [HE.out.2.1] at g1
  rw [HE.out.2.2] at g2
  rw [HLEN.out] at BA2 ⊢
  clear hown2 hb2
  have ek : (k != k) = false := by simp
  have efr : (fr != fr) = false := by simp
  have en : ((n : Int) != (n : Int)) = false := by simp
  have eL : ((3 : Int) + (M : Int) != 3 + (M : Int)) = false := by simp
  go_wp2_with fail
  refine (kwidth_calls _ _).mono ?_
  rintro e w3 ⟨rfl, hw3⟩
  rw [hw3]
  clear hw3
  go_wp2_with fail
  go_quiet (fail)
  have hb4 := below_drewN w2 nq
  generalize w2.drewN nq = w4 at *
  have z4 := hb4.size
  have B4 := hideG (B2.out.trans (hb4.mono z2))
  have BA4 := hideG (BA2.out.below hb4)
  have IT4 := hideG (IT2.out.below hb4)
  clear hb4 f0 f1 f2 g0 g1 g2
  have HV := hideG (veilDecode _ E w4 BA4.out)
  rw [HX.out.1, HX.out.2.1, HX.out.2.2.1, HX.out.2.2.2] at HV
  go_wp2_with fail
  refine HV.out.mono ?_
  rintro e w5 ⟨va, rfl, hown5, hb5⟩
  obtain ⟨a5, c5, hv5⟩ := owns_form hown5
  have IT5 := hideG (itemsAt_of_owns hown5 HIN.out)
  rw [hv5, ← HN.out] at IT5
  rw [hv5, ← HN.out]
  have z5 := hb5.size
  have B5 := hideG (B4.out.trans (hb5.mono (by omega)))
  have BA5 := hideG (BA4.out.below hb5)
  have ITF5 := hideG (IT4.out.below hb5)
  clear hown5 hb5 hv5 HV
  obtain ⟨wg, hwg⟩ : ∃ wg, wg = w5.alloc (.cells #[.int .i64 k, .int .i64 fr, .slice a5 n c5] 52) := ⟨_, rfl⟩
  have zg : wg.heap.size = w5.heap.size + 1 := by rw [hwg]; simp
  have hbg : Below w5.heap.size w5 wg := by rw [hwg]; exact (Below.refl _ _).alloc (Nat.le_refl _) _
  have BG := hideG (B5.out.trans (hbg.mono (by omega)))
  have CG := hideG (show ∀ W, Below wg.heap.size wg W → W.cell? ⟨w5.heap.size, 0, none⟩ = some (.int .i64 k) ∧ W.cell? ⟨w5.heap.size, 1, none⟩ = some (.int .i64 fr) ∧ W.cell? ⟨w5.heap.size, 2, none⟩ = some (.slice a5 n c5) from fun W hb => by
    have hlt : w5.heap.size < wg.heap.size := by omega
    rw [hb.cell (p := ⟨w5.heap.size, 0, none⟩) hlt, hb.cell (p := ⟨w5.heap.size, 1, none⟩) hlt, hb.cell (p := ⟨w5.heap.size, 2, none⟩) hlt, hwg]
    refine ⟨?_, ?_, ?_⟩ <;> simp [go_sem])
  have BAG := hideG (BA5.out.below hbg)
  have ITG1 := hideG (IT5.out.below hbg)
  have ITG2 := hideG (ITF5.out.below hbg)
  obtain ⟨p0, p1, p2⟩ := CG.out wg (Below.refl _ _)
  obtain ⟨q0, q1, q2⟩ := CF.out wg BG.out
  clear hbg
  go_upto_region 8 with fail
  rw [← hwg]
  clear hwg
  go_wp2_with fail
  refine (ksameItems_same _ _ L _ ITG1.out ITG2.out).mono ?_
  rintro e w6 ⟨rfl, nq2, hw6⟩
  have hb6 : Below wg.heap.size wg w6 := by rw [hw6]; exact below_drewN _ _
  have z6 := hb6.size
  have B6 := hideG (BG.out.trans (hb6.mono (by omega)))
  have BA6 := hideG (BAG.out.below hb6)
  clear p0 p1 p2 q0 q1 q2 hw6
  obtain ⟨p0, p1, p2⟩ := CG.out w6 hb6
  obtain ⟨q0, q1, q2⟩ := CF.out w6 B6.out
  clear hb6
  have zz6 : w.heap.size ≤ w6.heap.size := by omega
  have BW6 := hideG (BF.out.trans (B6.out.mono (by omega)))
  obtain ⟨x, hx⟩ : ∃ x, x = more % 256 := ⟨_, rfl⟩
  have hx' : more % 256 = x := hx.symm
  have x0 : 0 ≤ x := by omega
  have x1 : x ≤ 255 := by omega
  clear hx
  have hcs1 := conv_str BA6.out
  have hcs2 := conv_str (bytesAt_one w6 x x0 x1)
  have hsz1 : (strOfNums E).size = 3 + M := by rw [strOfNums_size, HLEN.out]
  have hsz2 : (strOfNums [x]).size = 1 := strOfNums_size _
  obtain ⟨LG, hLG⟩ : ∃ LG, LG = strOfNums (E ++ [x]) := ⟨_, rfl⟩
  have happ : strOfNums E ++ strOfNums [x] = LG := by rw [hLG]; exact str_app _ _
  have hszL : LG.size = 3 + M + 1 := by rw [hLG, strOfNums_size, List.length_append, HLEN.out]; rfl
  have HBL := hideG (show bl LG = E ++ [x] by
    rw [hLG]; refine bl_str (fun y hy => ?_)
    rcases List.mem_append.1 hy with hy | hy
    · exact HISB.out y hy
    · simp at hy; subst hy; exact ⟨x0, x1⟩)
  have HEX := hideG (show LG.extract 0 (2 + M) = strOfNums (E.take (2 + M)) by
    rw [hLG, str_take _ _ (by rw [List.length_append, HLEN.out]; simp; omega), List.take_append_of_le_length (by rw [HLEN.out]; omega)])
  clear hLG
  obtain ⟨w7, hw7⟩ : ∃ w7, w7 = w6.alloc (.cells #[.int .u8 x] 5) := ⟨_, rfl⟩
  have z7 : w7.heap.size = w6.heap.size + 1 := by rw [hw7]; simp
  have B7 := hideG (show Below w.heap.size w w7 by rw [hw7]; exact BW6.out.alloc zz6 _)
  rw [← hw7] at hcs2
  obtain ⟨v8, w8, hcv, hba8, hb8⟩ := conv_ex w7 LG (by rw [hszL]; unfold maxLen; omega)
  rw [HBL.out] at hba8
  have z8 := hb8.size
  have BA8 := hideG hba8
  have B8 := hideG (B7.out.trans (hb8.mono (by omega)))
  clear hba8 hb8
  have hw7' := hw7.symm
  clear hw7
  go_wp2_with fail
  refine (krefused_calls _ (E ++ [x]) _ BA8.out (HLO.out x)).mono ?_
  rintro e w9 ⟨rfl, hb9⟩
  have z9 := hb9.size
  have B9 := hideG (B8.out.trans (hb9.mono (by omega)))
  clear hb9 hcv hcs1 hcs2 hw7' p0 p1 p2 q0 q1 q2
  obtain ⟨va2, wa2, hcv2, hbaa, hba⟩ := conv_ex w9 (LG.extract 0 (2 + M)) (by rw [HEX.out, strOfNums_size, List.length_take]; unfold maxLen; omega)
  have HBL2 := hideG (show bl (LG.extract 0 (2 + M)) = E.take (E.length - 1) by
    rw [HEX.out, bl_str (fun y hy => HISB.out y (List.mem_of_mem_take hy)), HLEN.out, show 3 + M - 1 = 2 + M by omega])
  rw [HBL2.out] at hbaa
  have za := hba.size
  have BAa := hideG hbaa
  have Ba := hideG (B9.out.trans (hba.mono (by omega)))
  clear hbaa hba
  go_wp2_with fail
  refine (krefused_calls _ _ _ BAa.out HSH.out).mono ?_
  rintro e wb ⟨rfl, hbb⟩
  have zb := hbb.size
  have Bb := hideG (Ba.out.trans (hbb.mono (by omega)))
  clear hbb hcv2
  go_wp2_with fail
  refine (HBK.out _).mono ?_
  rintro e wc ⟨rfl, hbc⟩
  have Bc := hideG (Bb.out.trans (hbc.mono (by omega)))
  clear hbc
  go_wp2_with fail
  go_ret
  exact ⟨rfl, Bc.out⟩

/-! ### The row's step -/
set_option maxRecDepth 100000 in
theorem lifted (os : Os) (started : os.Started) (H : Type) (enc : TypeId × Value → H) :
    ReturnsInHanded {} Try.checked os 7 .any (Rows.wiredSpec.pre6 enc Try.prog Try.f7 Rows.wiredRow.domain false) (Rows.wiredSpec.post enc Try.prog Try.f7 false true false false) := by
  refine returnsInHanded_of_change (C := Try.checked) own started (by kernel_rfl) Try.func7
    (ChangeSpec.witness6 (enc := enc) (C := Try.checked) false ⟨#[], #[.int .i64 0, .int .i64 0, .int .i64 0, .slice none 0 0, .string ByteArray.empty, .int .i64 0], []⟩ 8 (by kernel_rfl) (by kernel_rfl) (by kernel_rfl) (by kernel_rfl)) ?_
  intro W base args ds gs before hval0 hW hcnd _
  have hval : ∀ (j : Nat) t v, Try.f7.params[j]? = some t → args[j]? = some v → Value.okWide Try.prog W .any base t v := hval0
  have hW' := hW
  obtain ⟨p, q, hA0, hV, rfl, hfz, hnd⟩ := hW
  have hA : DataW.TrodAll enc Try.prog W 0 (fun _ => true) true Try.f7.params.toList args.toList ds p := hA0
  rw [Try.params7] at hA hval
  obtain ⟨v0, vs0, d0, ds0, p0, q0, hargs, rfl, rfl, h0, r0⟩ := trodAll_cons hA
  obtain ⟨v1, vs1, d1, ds1, p1, q1, rfl, rfl, rfl, h1, r1⟩ := trodAll_cons r0
  obtain ⟨v2, vs2, d2, ds2, p2, q2, rfl, rfl, rfl, h2, r2⟩ := trodAll_cons r1
  obtain ⟨v3, vs3, d3, ds3, p3, q3, rfl, rfl, rfl, h3, r3⟩ := trodAll_cons r2
  obtain ⟨v4, vs4, d4, ds4, p4, q4, rfl, rfl, rfl, h4, r4⟩ := trodAll_cons r3
  obtain ⟨v5, vs5, d5, ds5, p5, q5, rfl, rfl, rfl, h5, r5⟩ := trodAll_cons r4
  obtain ⟨rfl, rfl, rfl⟩ := trodAll_nil r5
  obtain rfl : args = #[v0, v1, v2, v3, v4, v5] := by cases args; simp_all
  obtain ⟨rfl, rfl⟩ := trodVars_none hV
  obtain ⟨a0, rfl, rfl, rfl, w0⟩ := open_int Try.underlying3 (hval 0 3 v0 rfl rfl) h0
  obtain ⟨a1, rfl, rfl, rfl, w1⟩ := open_int Try.underlying3 (hval 1 3 v1 rfl rfl) h1
  obtain ⟨a2, rfl, rfl, rfl, w2⟩ := open_int Try.underlying3 (hval 2 3 v2 rfl rfl) h2
  obtain ⟨a3, len3, cap3, rfl⟩ := okWide_slice Try.underlying28 (hval 3 28 v3 rfl rfl)
  have k3 := h3
  have lt3 : ∀ x ∈ p3, x.block < W.heap.size := by obtain ⟨m, hm⟩ := k3; exact DataW.trod_lt m _ _ _ hm
  obtain ⟨z3, w3⟩ : ∃ zs, ListAt W (.slice a3 len3 cap3) zs := by
    obtain ⟨fuel, hf⟩ := h3
    rcases open_ints Try.underlying28 Try.underlying3 (by kernel_rfl) hf with ⟨hcs, _⟩ | ⟨x, l, c, zs, hcs, _, hl, hm, hz, _, hcell, hwz⟩
    · simp [Value.cells] at hcs
      obtain ⟨rfl, rfl, rfl⟩ := hcs
      exact ⟨_, (rowed (zs := []) (.inl ⟨rfl, rfl, rfl, rfl⟩)).1⟩
    · simp [Value.cells] at hcs
      obtain ⟨rfl, rfl, rfl⟩ := hcs
      exact ⟨_, (rowed (zs := zs) (.inr ⟨_, rfl, hl, hm, by simpa using hz, hcell, hwz⟩)).1⟩
  obtain ⟨a4, rfl, rfl, rfl, w4⟩ := open_string Try.underlying9 (hval 4 9 v4 rfl rfl) h4
  obtain ⟨a5, rfl, rfl, rfl, w5⟩ := open_int Try.underlying3 (hval 5 3 v5 rfl rfl) h5
  clear hA0 hval0
  refine (walk a0 a1 a2 _ z3 a4 a5 W w3 (bounds_i64 w0) (bounds_i64 w1) (bounds_i64 w2) w4 (bounds_i64 w5)).mono fun e W' ⟨he, bel⟩ => ?_
  subst he
  exact ⟨_, rfl, _, _, _, [], _, [], hW', trodAll_mk1 (shut_bool Try.underlying4 _), (trodAll_cons_mk (shut_int Try.underlying3 w0) (trodAll_cons_mk (shut_int Try.underlying3 w1) (trodAll_cons_mk (shut_int Try.underlying3 w2) (trodAll_cons_mk (Below.trod laidOut (by kernel_rfl) (of_decide_eq_true (by kernel_rfl)) k3 bel lt3) (trodAll_cons_mk (shut_string Try.underlying9 w4) (trodAll_cons_mk (shut_int Try.underlying3 w5) trodAll_mk0)))))), rfl, bel.frame _, fun h => by cases h⟩

theorem over : Rows.wiredRow.holds Try.pinned (OpenSpec.ofChange Rows.wiredSpec) :=
  OpenClaim.holds_of_wide 7 Try.f7 rfl rfl rfl rfl rfl rfl rfl ⟨rfl, rfl, rfl, rfl, rfl⟩ rfl rfl rfl rfl rfl (by kernel_rfl) Try.func7 (by kernel_rfl)
    (of_decide_eq_true (by kernel_rfl)) (by unfold Func.isWrapper; first | (rw [if_pos (by decide +kernel)]; kernel_rfl) | (rw [if_neg (by decide +kernel)]; exact ⟨rfl, rfl⟩))
    (fun os started H enc _ => lifted os started H enc)

end Go.Proofs.Ytchideljndagjaa.wired
namespace Go.Proofs.Ytchideljndagjaa

/-- The statement. -/
theorem wired_holds : Rows.WiredSaid := wired.over
#print axioms wired_holds
end Go.Proofs.Ytchideljndagjaa
