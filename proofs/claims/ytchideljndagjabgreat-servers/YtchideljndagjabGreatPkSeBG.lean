/- Contract of veilref's server: Take. -/
import Derived.Test.YtchideljndagjabGreatPkSeBF
import Derived.Test.YtchideljndagjabGreatPkSeAL
import Derived.Test.YtchideljndagjabGreatPkSeAS
import Derived.Deep.RegionLaw
import Derived.Test.YtchideljndagjabGreatPkSeAM
import Derived.Test.YtchideljndagjabGreatPkSeAX
import Derived.Test.YtchideljndagjabGreatPkSeAY
namespace Go.Proofs.YtchideljndagjabGreat
open Go.ChangeShapes Go.WideShapes Go.ChangeAt Go.RowKit
set_option linter.unusedVariables false

theorem infoHd : (Tryz.prog.info? 242).map (fun i => (i.zero, i.size, i.bytes)) = some (some (.agg #[.int .i64 0, .int .i64 0, .int .i64 0, .slice none 0 0]), 4, 48) := by kernel_rfl

/-- One frame more was taken: in the block, and in the row. -/
theorem log_more {w w1 W2 w3 w4 : World} {pw b : Nat} {C : Srv.Cf} (hC : Srv.GoodC C) {q : Srv.Sv} {s : RV} {L : Srv.Log} {X : List Value} (h : RVW w pw b C q s L X) (hp : Srv.pend q = true) {k fr : Int} {l : List Frm.It} {a : Option Addr} {cap : Nat} (hb1 : Below w.heap.size w w1)
    (hown : w1.ownsRow w.heap.size 147 4 (.slice a l.length cap) l.length (flat4 l)) (hin : ∀ x ∈ l, inIt x) (hok : Frm.okF k fr l = true) (hW2 : Below w1.heap.size w1 W2) {g cap' : Nat}
    (ho3 : w3.ownsRow (pw + 1) 242 4 (.slice (some ⟨g, 0, none⟩) (L.length + 1) cap') (L.length + 1) (flatL L X ++ [.int .i64 q.tm, .int .i64 k, .int .i64 fr, .slice a l.length cap])) (hg3 : W2.grownBy w3 s.lv.ownBlock) (hat : s.lv.ownBlock = some g ∨ g = W2.heap.size) (hgl : g < w3.heap.size)
    (hr4 : RVAt w4 b C { s with lv := .slice (some ⟨g, 0, none⟩) (L.length + 1) cap' }) (hc4 : Chg (fun x => x = b) w3 w4) :
    VTook w w4 pw b C (Srv.takeS C q (k, fr, l)) s { s with lv := .slice (some ⟨g, 0, none⟩) (L.length + 1) cap' } L (L ++ [(q.tm, (k, fr, l))]) X (X ++ [.slice a l.length cap]) := by
  have z1 := hb1.size
  have z2 := hW2.size
  have z3 := hg3.size
  have z4 := hc4.size
  have hbf := h.foot b (.inl (.inl rfl))
  have c3 : Chg (fun x => s.lv.ownBlock = some x) W2 w3 := Chg.grown hg3
  have c13 : Chg (fun x => s.lv.ownBlock = some x) w w3 := ((Chg.of_below (S := fun x => s.lv.ownBlock = some x) hb1).grow hW2).also c3
  have c14 : Chg (fun x => x = b ∨ s.lv.ownBlock = some x) w w4 := (c13.mono (S' := fun x => x = b ∨ s.lv.ownBlock = some x) (fun x e _ => .inr e)).trans hc4 (fun x e _ => .inl e)
  have hst : ∀ x, VStat s X x → w4.heap[x]? = w.heap[x]? := fun x hx => by
    have hf := h.foot x (.inr hx)
    have ha := h.apart x hx
    exact c14.block x hf.2 (fun e => by rcases e with e | e; exact ha.1 e; exact ha.2 e)
  have hnb : ∀ x, (Value.slice a l.length cap).ownBlock = some x → w.heap.size ≤ x ∧ x < w1.heap.size := fun x hx => hown.lt x hx
  have hgb : g ≠ b := by
    rcases hat with e | e
    · intro e2; subst e2; exact h.apartb e
    · omega
  have hgx : ∀ x, (Value.slice a l.length cap).ownBlock = some x → g ≠ x := fun x hx e2 => by
    have := hnb x hx
    subst e2
    rcases hat with e | e
    · have := h.foot g (.inl (.inr e)); omega
    · omega
  have hnew4 : ∀ x, (Value.slice a l.length cap).ownBlock = some x → w4.heap[x]? = w1.heap[x]? := fun x hx => by
    have h1 := hnb x hx
    rw [hc4.block x (by omega) (by omega), c3.block x (by omega) (fun e => by have := h.foot x (.inl (.inr e)); omega), hW2.block x h1.2]
  have hitn : ItemsAt w4 (.slice a l.length cap) l := (itemsAt_of_owns hown hin).keep (by omega) hnew4
  have hg4 : w4.heap[g]? = w3.heap[g]? := hc4.block g hgl hgb
  have stat : ∀ x, VStat { s with lv := .slice (some ⟨g, 0, none⟩) (L.length + 1) cap' } (X ++ [.slice a l.length cap]) x → VStat s X x ∨ (Value.slice a l.length cap).ownBlock = some x := by
    intro x hx
    rcases hx with hx | hx | ⟨u, hu, hx⟩
    · exact .inl (.inl hx)
    · exact .inl (.inr (.inl hx))
    · rcases List.mem_append.1 hu with hu | hu
      · exact .inl (.inr (.inr ⟨u, hu, hx⟩))
      · simp at hu; subst hu; exact .inr hx
  have gown : ∀ x, (Value.slice (some ⟨g, 0, none⟩) (L.length + 1) cap').ownBlock = some x → x = g := fun x hx => by simpa [Value.ownBlock] using hx.symm
  have hs := h.sok (Srv.pend_iff.1 hp)
  refine ⟨⟨hr4, by rw [Srv.take_tm]; exact h.tm, by rw [Srv.take_out]; exact h.st, by rw [Srv.take_out]; exact h.ro, ?_, ?_, ⟨?_, ?_, ?_⟩, h.lok.take hC hs hp hok, ?_, by rw [Srv.take_tm]; exact h.tmb, fun _ => hs.take hok, ?_, ?_, ?_⟩, c14, ?_, by simp⟩
  · rw [Srv.take_out]; exact h.set.keep (by omega) (fun x hx => hst x (.inl hx))
  · rw [Srv.take_out]; exact h.sum.keep (by omega) (fun x hx => hst x (.inr (.inl hx)))
  · simp [h.log.len]
  · have : w4.ownsRow (pw + 1) 242 4 (.slice (some ⟨g, 0, none⟩) (L.length + 1) cap') (L.length + 1) (flatL L X ++ [.int .i64 q.tm, .int .i64 k, .int .i64 fr, .slice a l.length cap]) := ownsRow_keep ho3 (fun x hx => by rw [gown x hx]; exact hg4)
    rw [flatL_app L X h.log.len, List.length_append]
    exact this
  · intro j u hu
    by_cases hj : j < X.length
    · rw [List.getElem?_append_left hj] at hu
      have hjh : j < L.length := by rw [h.log.len]; exact hj
      have : lgE (L ++ [(q.tm, (k, fr, l))]) j = lgE L j := by rw [lgE_get _ j (by simp; omega), lgE_get _ j hjh, List.getElem_append_left hjh]
      rw [this]
      exact (h.log.its j u hu).keep (by omega) (fun x hx => hst x (.inr (.inr ⟨u, List.mem_of_getElem? hu, hx⟩)))
    · rw [List.getElem?_append_right (by omega)] at hu
      have hj0 : j - X.length = 0 := by
        rcases Nat.eq_zero_or_pos (j - X.length) with e | e
        · exact e
        · rw [List.getElem?_eq_none (by simp; omega)] at hu; cases hu
      rw [hj0] at hu
      simp at hu
      subst hu
      have ej : j = L.length := by rw [h.log.len]; omega
      subst ej
      have : lgE (L ++ [(q.tm, (k, fr, l))]) L.length = (q.tm, (k, fr, l)) := by rw [lgE_get _ _ (by simp)]; simp
      rw [this]; exact hitn
  · intro e he
    rcases List.mem_append.1 he with he | he
    · exact h.low e he
    · simp at he; subst he; exact h.tmb.1
  · intro x hx
    rcases hx with (hx | hx) | hx
    · subst hx; exact ⟨hbf.1, by omega⟩
    · rw [gown x hx]
      refine ⟨?_, by omega⟩
      rcases hat with e | e
      · exact (h.foot g (.inl (.inr e))).1
      · omega
    · rcases stat x hx with e | e
      · have := h.foot x (.inr e); omega
      · have := hnb x e; omega
  · intro x hx
    rcases stat x hx with e | e
    · have ha := h.apart x e
      refine ⟨ha.1, fun e2 => ?_⟩
      have := gown x e2
      subst this
      rcases hat with e3 | e3
      · exact ha.2 e3
      · have := h.foot x (.inr e); omega
    · have h1 := hnb x e
      refine ⟨by omega, fun e2 => hgx x e (gown x e2).symm⟩
  · intro e; exact hgb (gown b e).symm
  · intro x hx
    rcases hx with (hx | hx) | hx
    · exact .inl (.inl (.inl hx))
    · rw [gown x hx]
      rcases hat with e | e
      · exact .inl (.inl (.inr e))
      · exact .inr (by omega)
    · rcases stat x hx with e | e
      · exact .inl (.inr e)
      · have := hnb x e; exact .inr (by omega)

theorem log_foot {b : Nat} {s : RV} {X : List Value} {u : Value} {g n cap' : Nat} : ∀ x, VFoot b { s with lv := .slice (some ⟨g, 0, none⟩) n cap' } (X ++ [u]) x → VFoot b s X x ∨ u.ownBlock = some x ∨ x = g := by
  intro x hx
  rcases hx with (hx | hx) | hx | hx | ⟨y, hy, hx⟩
  · exact .inl (.inl (.inl hx))
  · exact .inr (.inr (by simpa [Value.ownBlock] using hx.symm))
  · exact .inl (.inr (.inl hx))
  · exact .inl (.inr (.inr (.inl hx)))
  · rcases List.mem_append.1 hy with hy | hy
    · exact .inl (.inr (.inr (.inr ⟨y, hy, hx⟩)))
    · simp at hy; subst hy; exact .inr (.inl hx)
theorem sD_none {C : Srv.Cf} {q : Srv.Sv} {zs : List Int} (h : Frm.decF zs = none) : sstepD C q zs = q ∧ scntD C q zs = false := by unfold sstepD scntD; rw [h]; exact ⟨rfl, rfl⟩
theorem sD_some {C : Srv.Cf} {q : Srv.Sv} {zs : List Int} {f : Cli.Fr} (h : Frm.decF zs = some f) : sstepD C q zs = Srv.takeS C q f ∧ scntD C q zs = Srv.counts C q f := by unfold sstepD scntD; rw [h]; exact ⟨rfl, rfl⟩

/-- How many count, as the program asks. -/
theorem counted_many {b : Nat} {C : Srv.Cf} (hc : Srv.GoodC C) {s : RV} {L : Srv.Log} {X : List Value} {w : World} (h : EndsIn b C s L X w) (hz : ∀ r, Srv.tab C L r 0 = none) :
    Calls Tryz.prog 179 #[.pointer (some ⟨b, 0, none⟩)] w fun e w' => ∃ H, e = .returned (.agg (tabL H).toArray) ∧ Below w.heap.size w w' ∧ (∀ v ∈ tabL H, v.oneCell' = true) ∧ manyH H 4 = Srv.many (Srv.tab C L) :=
  (h.counted hc).mono fun e w' ⟨H, he, hH, hb⟩ => ⟨H, he, hb, hH.one, manyH_eq hH hz⟩

set_option maxHeartbeats 4000000 in
set_option maxRecDepth 100000 in
theorem rvTake_no (pw b : Nat) (C : Srv.Cf) (q : Srv.Sv) (s : RV) (L : Srv.Log) (X : List Value) (v : Value) (zs : List Int) (w : World) (h : RVW w pw b C q s L X) (hv : BytesAt w v zs) (hno : Frm.decF zs = none ∨ Srv.pend q = false) :
    Calls Tryz.prog 114 #[.pointer (some ⟨b, 0, none⟩), v] w fun e w' => e = .returned (.bool (scntD C q zs)) ∧ VTook w w' pw b C (sstepD C q zs) s s L L X X := by
  have hbl := h.at_.lt
  have HD := hideG (rdecode_calls v zs w hv)
  obtain ⟨az, cz, rfl, -, -, hB, -⟩ := bytes_view hv
  have HW := hideG h
  have c6 := h.at_.cell 6
  change w.cell? _ = some (.int .i64 s.st) at c6
  rw [h.st] at c6
  clear hv
  cases hd : Frm.decF zs with
  | none =>
    obtain ⟨x1, x2, x3, x4⟩ := d_none hd
    rw [x1, x2, x3, x4] at HD
    obtain ⟨y1, y2⟩ := sD_none (C := C) (q := q) hd
    rw [y1, y2]
    clear x1 x2 x3 x4 y1 y2 hd hB h hno c6
    go_enter Tryz.func114, Tryz.ntmps114
    go_wp2_with fail
    refine HD.out.mono ?_
    rintro e w1 ⟨va, rfl, hown, hb⟩
    obtain ⟨a', c', hv'⟩ := owns_form hown
    subst hv'
    have HB := hideG hb
    clear hown hb
    go_wp2_with fail
    go_ret
    exact ⟨rfl, vtook_same HW.out (HB.out.alloc HB.out.size _)⟩
  | some f =>
    have hp : Srv.pend q = false := by
      rcases hno with e | e
      · rw [hd] at e; cases e
      · exact e
    have hq : q.out.1 ≠ 0 := fun e => by rw [Srv.pend_iff.2 e] at hp; cases hp
    obtain ⟨k, fr, l⟩ := f
    obtain ⟨x1, x2, x3, x4⟩ := d_some hd
    rw [x1, x2, x3, x4] at HD
    obtain ⟨y1, y2⟩ := sD_some (C := C) (q := q) hd
    have e1 : Srv.counts C q (k, fr, l) = false := by unfold Srv.counts; rw [hp]; rfl
    have e2 : Srv.takeS C q (k, fr, l) = q := by unfold Srv.takeS; rw [if_neg (by rw [e1]; exact Bool.false_ne_true)]
    rw [y1, y2, e1, e2]
    have hq' : (q.out.1 != 0) = true := by simpa using hq
    have C6 := hideG c6
    clear x1 x2 x3 x4 y1 y2 hd hB h hno e1 e2 hp hq c6
    obtain ⟨st, hst⟩ : ∃ st, st = q.out.1 := ⟨_, rfl⟩
    rw [← hst] at C6 hq'
    clear hst
    go_enter Tryz.func114, Tryz.ntmps114
    go_wp2_with fail
    refine HD.out.mono ?_
    rintro e w1 ⟨va, rfl, hown, hb⟩
    obtain ⟨a', c', hv'⟩ := owns_form hown
    subst hv'
    have s1 := hb.size
    have HB := hideG hb
    have c6 := (hb.cell (p := ⟨b, 6, none⟩) hbl).trans C6.out
    have hbl1 : b < w1.heap.size := by omega
    clear hown hb
    generalize l.length = m
    go_wp2_with fail
    go_ret
    exact ⟨rfl, vtook_same HW.out (HB.out.alloc HB.out.size _)⟩

set_option maxHeartbeats 8000000 in
set_option maxRecDepth 100000 in
theorem rvTake_yes (pw b : Nat) (C : Srv.Cf) (hc : Srv.GoodC C) (q : Srv.Sv) (s : RV) (L : Srv.Log) (X : List Value) (v : Value) (zs : List Int) (w : World) (h : RVW w pw b C q s L X) (hv : BytesAt w v zs) (hlen : (L.length + 1) * 48 ≤ 140737488355328) (k fr : Int) (l : List Frm.It) (hd : Frm.decF zs = some (k, fr, l)) (hp : Srv.pend q = true) :
    Calls Tryz.prog 114 #[.pointer (some ⟨b, 0, none⟩), v] w fun e w' => e = .returned (.bool (scntD C q zs)) ∧ ∃ s' L' X', VTook w w' pw b C (sstepD C q zs) s s' L L' X X' := by
  obtain ⟨i0, hi0, hz0, hz1, hz2⟩ := info_parts infoHd
  have hbf := h.foot b (.inl (.inl rfl))
  have hbl := h.at_.lt
  have hpw : pw + 1 ≤ w.heap.size := by omega
  have HD := hideG (rdecode_calls v zs w hv)
  obtain ⟨az, cz, rfl, -, -, hB, -⟩ := bytes_view hv
  have HW := hideG h
  obtain ⟨x1, x2, x3, x4⟩ := d_some hd
  rw [x1, x2, x3, x4] at HD
  obtain ⟨y1, y2, y3⟩ := Frm.enc_dec hB hd
  have HOK := hideG y1
  have HIN := hideG (okF_in y1)
  obtain ⟨ss1, ss2⟩ := sD_some (C := C) (q := q) hd
  rw [ss1, ss2]
  have hs := h.sok (Srv.pend_iff.1 hp)
  have HMORE := hideG (h.lok.more hc hs hp (f := (k, fr, l)) y1)
  have HPE := hideG hp
  have HGC := hideG hc
  have HSO := hideG hs
  have hz : ∀ r, Srv.tab C L r 0 = none := fun r => by rw [h.lok.tab]; exact Srv.mem_off (hs.good.zero r)
  have hz' : ∀ r, Srv.tab C (L ++ [(q.tm, (k, fr, l))]) r 0 = none := fun r => by rw [(h.lok.take hc hs hp (f := (k, fr, l)) y1).tab]; exact Srv.mem_off ((hs.take (f := (k, fr, l)) y1).good.zero r)
  have HZ' := hideG hz'
  have HCM := hideG (fun (W : World) (hb : Below w.heap.size w W) => counted_many hc (w := W) ⟨h.at_.below hb, (h.log.keep hb.size (fun x hx => hb.block x (h.foot x (.inl (.inr hx))).2) (fun u hu x hx => hb.block x (h.foot x (.inr (.inr (.inr ⟨u, hu, hx⟩)))).2)).lg, h.lok.ok, fun e he => ⟨h.low e he, by have := h.lok.at_ e he; have := h.tmb; omega⟩⟩ hz)
  have HAT := hideG (fun (W : World) (hb : Below w.heap.size w W) => h.at_.below hb)
  obtain ⟨al, cl, hlv⟩ := owns_form h.log.own
  have HLV := hideG hlv
  have HOWN := hideG (fun (W : World) (hb : Below w.heap.size w W) => (show W.ownsRow (pw + 1) 242 4 (.slice al L.length cl) L.length (flatL L X) by rw [← hlv]; exact ownsRow_keep h.log.own (fun x hx => hb.block x (h.foot x (.inl (.inr hx))).2)))
  have HAB := hideG h.apartb
  rw [hlv] at HAB
  have HTM := hideG h.tm
  have c6 := h.at_.cell 6
  change w.cell? _ = some (.int .i64 s.st) at c6
  rw [h.st, Srv.pend_iff.1 hp] at c6
  have C6 := hideG c6
  obtain ⟨n, hn⟩ : ∃ n, n = L.length := ⟨_, rfl⟩
  rw [← hn] at hlen HOWN HAB HLV
  have HNN := hideG hn
  clear x1 x2 x3 x4 y1 y2 y3 hd hB h hv ss1 ss2 hs hc hp hz hz' hlv c6 hn hbf
  go_enter Tryz.func114, Tryz.ntmps114
  go_wp2_with fail
  refine HD.out.mono ?_
  rintro e w1 ⟨va, rfl, hown, hb⟩
  obtain ⟨a', c', hv'⟩ := owns_form hown
  subst hv'
  have s1 := hb.size
  have O1 := hideG hown
  have B1 := hideG hb
  clear hown hb
  obtain ⟨m, hm⟩ : ∃ m, m = l.length := ⟨_, rfl⟩
  rw [← hm] at O1 ⊢
  have HMM := hideG hm
  clear hm
  obtain ⟨W1, hW1⟩ : ∃ W1, W1 = w1.alloc (.cells #[.int .i64 k, .int .i64 fr, .slice a' m c'] 65) := ⟨_, rfl⟩
  have hb11 : Below w1.heap.size w1 W1 := by rw [hW1]; exact (Below.refl _ _).alloc (Nat.le_refl _) _
  have sW1 : W1.heap.size = w1.heap.size + 1 := by rw [hW1]; simp
  have BW1 := hideG (B1.out.trans (hb11.mono s1))
  have XF := hideG (show FrAt W1 w1.heap.size k fr (.slice a' m c') by rw [hW1]; exact FrAt.new w1 k fr _)
  have c6 := (BW1.out.cell (p := ⟨b, 6, none⟩) hbl).trans C6.out
  have hblW : b < W1.heap.size := by omega
  have HW1 := hideG hW1
  have B11 := hideG hb11
  have CM1 := hideG (HCM.out W1 BW1.out)
  have w1l : w1.heap.size < W1.heap.size := by omega
  clear hW1 hb11 sW1
  go_upto_region 2 with fail
  rw [← HW1.out]
  go_wp2_with fail
  refine CM1.out.mono ?_
  rintro e w2 ⟨H, rfl, hb2, hone, hmany⟩
  obtain ⟨f1, f2, f3⟩ := tab_made w2 H
  have ONE := hideG (show (tabL H).toArray.all (·.oneCell') = true from all_oneCell_toArray hone)
  have LT := hideG (tab_len H)
  have s2 := hb2.size
  have BA := hideG (hb2.trans (f3.mono s2))
  have F2 := hideG f1
  have z2 := f1.lt
  have HT := hideG f2
  have RA := hideG (show ((w2.alloc (.cells Tryz.zeroCells238 238)).setCells w2.heap.size 0 (tabL H)).rangeAt w2.heap.size 0 (tabL H) by have := f1.range 0 156 (by omega); simp only [Nat.zero_add] at this; exact this)
  have MC := hideG (fun W => rmany_calls H W)
  rw [hmany] at MC
  clear f1 f2 f3 hb2 hone hmany c6 CM1
  obtain ⟨CS, hCS⟩ : ∃ CS, CS = tabL H := ⟨_, rfl⟩
  rw [← hCS] at ONE LT BA z2 F2 RA MC ⊢
  clear hCS
  have HSZ := hideG (show (Tryz.prog.info? 238).map (·.size) = some CS.toArray.size by rw [size_tab4, List.size_toArray, LT.out])
  have HSL := hideG (show (Tryz.prog.info? 238).map (·.size) = some CS.length by rw [size_tab4, LT.out])
  have HTH := hideG (show (w2.alloc (.cells Tryz.zeroCells238 238)).there w2.heap.size 0 CS.toArray.size by rw [show CS.toArray.size = 156 by rw [List.size_toArray]; exact LT.out]; exact HT.out)
  obtain ⟨W2, hW2⟩ : ∃ W2, W2 = (w2.alloc (.cells Tryz.zeroCells238 238)).setCells w2.heap.size 0 CS := ⟨_, rfl⟩
  rw [← hW2] at BA z2 F2 RA
  have HW2 := hideG hW2
  clear hW2 HT
  obtain ⟨before, hbf⟩ : ∃ before, before = Srv.many (Srv.tab C L) := ⟨_, rfl⟩
  rw [← hbf] at MC HMORE
  clear hbf
  go_upto_region 5 with (refine wpList_store_mid rfl 238 _ _ rfl w2.heap.size 0 CS.toArray rfl rfl HTH.out HSZ.out ONE.out ?_)
  rw [← HW2.out]
  go_wp2_with (refine wpList_load_mid rfl 238 _ rfl w2.heap.size 0 rfl CS _ RA.out Tryz.underlying238 rfl HSL.out ?_)
  refine (MC.out W2).mono ?_
  rintro e w3 ⟨rfl, hb3⟩
  have s3 := hb3.size
  have B13 := hideG (BA.out.trans (hb3.mono BA.out.size))
  have BW3 := hideG (BW1.out.trans (B13.out.mono BW1.out.size))
  have F3 := hideG (F2.out.block (hb3.block _ z2))
  obtain ⟨x0, x1, x2⟩ := XF.out.below B13.out w1l
  have hat3 := HAT.out w3 BW3.out
  have y4 := hat3.cell 4
  have y5 := hat3.cell 5
  change w3.cell? _ = some (.int .i64 s.tm) at y4
  change w3.cell? _ = some s.lv at y5
  rw [HTM.out] at y4
  rw [HLV.out] at y5
  have yf := hat3.froz 5
  have AT3 := hideG hat3
  have OW3 := hideG (HOWN.out w3 BW3.out)
  have nb : some b ≠ (Value.slice al n cl).ownBlock := fun e => HAB.out e.symm
  have hbl3 : b < w3.heap.size := by omega
  have w1l3 : w1.heap.size < w3.heap.size := by omega
  have h63 : n + 1 ≤ maxLen := by unfold maxLen; omega
  have al1 : ∀ (ob : Obj) (c o : Nat), c < w3.heap.size → (w3.alloc ob).cell? ⟨c, o, none⟩ = w3.cell? ⟨c, o, none⟩ := fun ob c o hc => ((Below.refl w3.heap.size w3).alloc (Nat.le_refl _) ob).cell (p := ⟨c, o, none⟩) hc
  have al2 : ∀ (ob : Obj) (c o : Nat), c < w3.heap.size → (w3.alloc ob).frozen? ⟨c, o, none⟩ = w3.frozen? ⟨c, o, none⟩ := fun ob c o hc => ((Below.refl w3.heap.size w3).alloc (Nat.le_refl _) ob).frozen (p := ⟨c, o, none⟩) hc
  have hpwl : pw + 1 ≤ w3.heap.size := by omega
  clear hb3 hat3 RA
  obtain ⟨tm, htm⟩ : ∃ tm, tm = q.tm := ⟨_, rfl⟩
  rw [← htm] at y4
  have HTQ := hideG htm
  clear htm
  have HQ := hideG (show ∀ w4 : World, (w3.alloc (.cells #[.int .i64 tm, .int .i64 k, .int .i64 fr, .slice a' m c'] 242)).drew.grownBy w4 (Value.slice al n cl).ownBlock → w4.cell? ⟨b, 5, none⟩ = some (.slice al n cl) ∧ w4.frozen? ⟨b, 5, none⟩ = false from fun w4 hg =>
    ⟨(hg.cell_far ⟨b, 5, none⟩ (by show b < (w3.alloc (.cells #[.int .i64 tm, .int .i64 k, .int .i64 fr, .slice a' m c'] 242)).heap.size; simp; omega) nb).trans ((al1 _ b 5 hbl3).trans y5), (hg.frozen_far ⟨b, 5, none⟩ (by show b < (w3.alloc (.cells #[.int .i64 tm, .int .i64 k, .int .i64 fr, .slice a' m c'] 242)).heap.size; simp; omega) nb).trans ((al2 _ b 5 hbl3).trans yf)⟩)
  go_upto_region 6 with fail
  go_cut [4] from 29 to 43 (fun p wc => p = .bool false ∧ ∃ gg cap' w4, wc = w4.setCell ⟨b, 5, none⟩ (.slice (some ⟨gg, 0, none⟩) (n + 1) cap') ∧ w4.ownsRow (pw + 1) 242 4 (.slice (some ⟨gg, 0, none⟩) (n + 1) cap') (n + 1) (flatL L X ++ [.int .i64 tm, .int .i64 k, .int .i64 fr, .slice a' m c']) ∧
    (w3.alloc (.cells #[.int .i64 tm, .int .i64 k, .int .i64 fr, .slice a' m c'] 242)).drew.grownBy w4 (Value.slice al n cl).ownBlock ∧ ((Value.slice al n cl).ownBlock = some gg ∨ gg = w3.heap.size + 1) ∧ gg < w4.heap.size)
  case first =>
    go_region_law (refine step_append_lies _ (by rfl) _ _ _ (by rfl) (pw + 1) 242 i0 _ 4 48 Tryz.underlying132 hi0 hz0 hz1 hz2 rfl (by omega) (.slice al n cl) n (flatL L X) (by rfl) ((OW3.out.alloc _).drew) ⟨w3.heap.size, 0, none⟩ 1 1 [.int .i64 tm, .int .i64 k, .int .i64 fr, .slice a' m c'] (by rfl) (by rfl) (World.news_of_block (cs := #[.int .i64 tm, .int .i64 k, .int .i64 fr, .slice a' m c']) (t := 242) (fr := (0, 0)) (heap_alloc_new w3 _)) (by simp [Value.oneCell']) (by omega) h63 hlen (by simp; omega) (w3.heap.size + 1) (by simp) ?_; intro gg cap' w4 hown3 hgrow hat hlt'; obtain ⟨q11, qf⟩ := HQ.out w4 hgrow)
    all_goals (go_wp2_with fail; go_meet; exact ⟨rfl, gg, cap', w4, rfl, hown3, hgrow, hat, hlt'⟩)
  case rest =>
    obtain ⟨rfl, gg, cap', w4, hwc, hown4, hgrow, hat, hlt'⟩ := hcut
    have hn := HNN.out
    have hm := HMM.out
    have sW3 : (w3.alloc (.cells #[.int .i64 tm, .int .i64 k, .int .i64 fr, .slice a' m c'] 242)).drew.heap.size = w3.heap.size + 1 := by show (w3.alloc (.cells #[.int .i64 tm, .int .i64 k, .int .i64 fr, .slice a' m c'] 242)).heap.size = _; simp
    obtain ⟨W3, hW3⟩ : ∃ W3, W3 = (w3.alloc (.cells #[.int .i64 tm, .int .i64 k, .int .i64 fr, .slice a' m c'] 242)).drew := ⟨_, rfl⟩
    have hb33 : Below w3.heap.size w3 W3 := by rw [hW3]; exact ((Below.refl _ _).alloc (Nat.le_refl _) _).drew
    rw [← hW3] at hgrow sW3
    have hbW3 : Below w1.heap.size w1 W3 := (B11.out.trans (B13.out.mono B11.out.size)).trans (hb33.mono (by have := B11.out.size; omega))
    have hat' : s.lv.ownBlock = some gg ∨ gg = W3.heap.size := by rw [sW3, HLV.out]; exact hat
    have hgr' : W3.grownBy w4 s.lv.ownBlock := by rw [HLV.out]; exact hgrow
    have z4 := hgrow.size
    have rb4 : RVAt w4 b C s := AT3.out.block (w' := w4) (by rw [hgrow.block b (by omega) nb]; exact hb33.block b hbl3)
    have hc4 : Chg (fun x => x = b) w4 wc := by rw [hwc]; exact Chg.setCell w4 ⟨b, 5, none⟩ _
    have rb5 : RVAt wc b C { s with lv := .slice (some ⟨gg, 0, none⟩) (L.length + 1) cap' } := by rw [hwc, ← hn]; exact rb4.setLv _
    have ho1 : w1.ownsRow w.heap.size 147 4 (.slice a' l.length c') l.length (flat4 l) := by have := O1.out; rw [hm] at this; exact this
    have ho4 : w4.ownsRow (pw + 1) 242 4 (.slice (some ⟨gg, 0, none⟩) (L.length + 1) cap') (L.length + 1) (flatL L X ++ [.int .i64 q.tm, .int .i64 k, .int .i64 fr, .slice a' l.length c']) := by rw [← hn, ← hm, ← HTQ.out]; exact hown4
    have TK := hideG (log_more HGC.out HW.out HPE.out B1.out ho1 HIN.out HOK.out hbW3 ho4 hgr' hat' hlt' rb5 hc4)
    have CM2 := hideG (counted_many HGC.out (w := wc) ⟨TK.out.srv.at_, TK.out.srv.log.lg, TK.out.srv.lok.ok, fun e he => ⟨TK.out.srv.low e he, by have h1 := TK.out.srv.lok.at_ e he; have h2 := TK.out.srv.tmb; omega⟩⟩ HZ'.out)
    have zc := hc4.size
    have GG := hideG (show gg < w.heap.size ∨ w3.heap.size < gg by
      rcases hat with e | e
      · exact .inl (HW.out.foot gg (.inl (.inr (by rw [HLV.out]; exact e)))).2
      · exact .inr (by omega))
    have Fc := hideG (show FRow wc w2.heap.size 238 156 (cellF H) from F3.out.block (by
      have hl := F3.out.lt
      have e1 : w2.heap.size ≠ b := by have := BW1.out.size; omega
      rw [hc4.block _ (by omega) e1, hgrow.block _ (by omega) (fun e => by have := (OW3.out.lt _ e.symm).2; have h2 := (HW.out.foot w2.heap.size (.inl (.inr (by rw [HLV.out]; exact e.symm)))).2; have := BW1.out.size; omega)]
      exact hb33.block _ hl))
    clear hwc hown4 hgrow hat hlt' hW3 hb33 hbW3 hat' hgr' rb4 rb5 ho1 ho4 x0 x1 x2 y4 y5 yf al1 al2 hc4 hn hm sW3
    go_wp2_with fail
    refine CM2.out.mono ?_
    rintro e w5 ⟨H2, rfl, hb5, hone, hmany⟩
    have s5 := hb5.size
    have F5 := hideG (Fc.out.block (hb5.block _ Fc.out.lt))
    have f5 := F5.out.setAll (cellF H2)
    have RA2 := hideG (show (w5.setCells w2.heap.size 0 (tabL H2)).rangeAt w2.heap.size 0 (tabL H2) by have := f5.range 0 156 (by omega); simp only [Nat.zero_add] at this; exact this)
    have ONE2 := hideG (show (tabL H2).toArray.all (·.oneCell') = true from all_oneCell_toArray hone)
    have LT2 := hideG (tab_len H2)
    have MC2 := hideG (fun W => rmany_calls H2 W)
    rw [hmany] at MC2
    have HT2 := hideG (F5.out.there 0 156 (by omega))
    have w2l := F5.out.lt
    have hcS := chg_setCells w2.heap.size (tabL H2) 0 w5
    have CS5 := hideG hcS
    have B5 := hideG hb5
    clear hone hmany f5 hcS hb5
    obtain ⟨C2, hC2⟩ : ∃ C2, C2 = tabL H2 := ⟨_, rfl⟩
    rw [← hC2] at ONE2 LT2 RA2 MC2 CS5 ⊢
    clear hC2
    have HSZ2 := hideG (show (Tryz.prog.info? 238).map (·.size) = some C2.toArray.size by rw [size_tab4, List.size_toArray, LT2.out])
    have HSL2 := hideG (show (Tryz.prog.info? 238).map (·.size) = some C2.length by rw [size_tab4, LT2.out])
    have HTH2 := hideG (show w5.there w2.heap.size 0 C2.toArray.size by rw [show C2.toArray.size = 156 by rw [List.size_toArray]; exact LT2.out]; exact HT2.out)
    obtain ⟨W5, hW5⟩ : ∃ W5, W5 = w5.setCells w2.heap.size 0 C2 := ⟨_, rfl⟩
    rw [← hW5] at RA2 CS5
    have HW5 := hideG hW5
    clear hW5
    obtain ⟨after, haf⟩ : ∃ after, after = Srv.many (Srv.tab C (L ++ [(q.tm, (k, fr, l))])) := ⟨_, rfl⟩
    rw [← haf] at MC2 HMORE
    clear haf
    go_upto_region 8 with (refine wpList_store_mid rfl 238 _ _ rfl w2.heap.size 0 C2.toArray rfl rfl HTH2.out HSZ2.out ONE2.out ?_)
    rw [← HW5.out]
    go_wp2_with (refine wpList_load_mid rfl 238 _ rfl w2.heap.size 0 rfl C2 _ RA2.out Tryz.underlying238 rfl HSL2.out ?_)
    refine (MC2.out W5).mono ?_
    rintro e w6 ⟨rfl, hb6⟩
    have w2w : w.heap.size ≤ w2.heap.size := by have := BW1.out.size; omega
    have FIN := hideG (show ∃ s' L' X', VTook w w6 pw b C (Srv.takeS C q (k, fr, l)) s s' L L' X X' from by
      have tk := TK.out
      have hch : Chg (fun x => x = w2.heap.size) wc w6 := ((Chg.of_below (S := fun x => x = w2.heap.size) B5.out).also CS5.out).grow hb6
      refine ⟨_, _, _, ⟨tk.srv.keep hch.size (fun x hx => hch.block x (tk.srv.foot x hx).2 (fun e => ?_)), ?_, tk.foot, tk.more⟩⟩
      · have hl2 := F2.out.lt
        rcases log_foot x hx with h1 | h1 | h1
        · have := (HW.out.foot x h1).2; omega
        · have h2 : (Value.slice a' m c').ownBlock = some x := by rw [HMM.out]; exact h1
          have := (O1.out.lt x h2).2; omega
        · rcases GG.out with h2 | h2 <;> omega
      · exact tk.chg.trans hch (fun x e hx => absurd e (by omega)))
    have EQ := hideG (show decide ((before : Int) < (after : Int)) = Srv.counts C q (k, fr, l) by rw [← HMORE.out]; by_cases e : before < after <;> simp [e])
    clear hb6
    by_cases e : (before : Int) < (after : Int)
    · have HE := hideG (show Srv.counts C q (k, fr, l) = true by rw [← EQ.out]; exact decide_eq_true e)
      go_wp2_with fail
      go_ret
      exact ⟨ret_bool HE.out.symm, FIN.out⟩
    · have HE := hideG (show Srv.counts C q (k, fr, l) = false by rw [← EQ.out]; exact decide_eq_false e)
      go_wp2_with fail
      go_ret
      exact ⟨ret_bool HMORE.out, FIN.out⟩

end Go.Proofs.YtchideljndagjabGreat

namespace Go.Proofs.YtchideljndagjabGreat
open Go.ChangeShapes Go.WideShapes Go.ChangeAt Go.RowKit
set_option linter.unusedVariables false

theorem rvTake_calls (pw b : Nat) (C : Srv.Cf) (hc : Srv.GoodC C) (q : Srv.Sv) (s : RV) (L : Srv.Log) (X : List Value) (v : Value) (zs : List Int) (w : World) (h : RVW w pw b C q s L X) (hv : BytesAt w v zs) (hlen : (L.length + 1) * 48 ≤ 140737488355328) :
    Calls Tryz.prog 114 #[.pointer (some ⟨b, 0, none⟩), v] w fun e w' => e = .returned (.bool (scntD C q zs)) ∧ ∃ s' L' X', VTook w w' pw b C (sstepD C q zs) s s' L L' X X' := by
  cases hd : Frm.decF zs with
  | none => exact (rvTake_no pw b C q s L X v zs w h hv (.inl hd)).mono fun e w' ⟨h1, h2⟩ => ⟨h1, s, L, X, h2⟩
  | some f =>
    cases hp : Srv.pend q with
    | false => exact (rvTake_no pw b C q s L X v zs w h hv (.inr hp)).mono fun e w' ⟨h1, h2⟩ => ⟨h1, s, L, X, h2⟩
    | true =>
      obtain ⟨k, fr, l⟩ := f
      exact rvTake_yes pw b C hc q s L X v zs w h hv hlen k fr l hd hp

def rv0 : RV := ⟨0, .slice none 0 0, 0, 0, .slice none 0 0, .slice none 0 0⟩
theorem rvw_new {w : World} {pw b : Nat} {C : Srv.Cf} (hc : Srv.GoodC C) (h : RVAt w b C rv0) (hb : pw < b) : RVW w pw b C Srv.start rv0 [] [] where
  at_ := h
  tm := rfl
  st := rfl
  ro := rfl
  set := list_nil _
  sum := list_nil _
  log := ⟨rfl, World.ownsRow_nil _ _ _ _, fun j u hu => by simp at hu⟩
  lok := Srv.lok_start C
  low := fun e he => by cases he
  tmb := ⟨by decide, by decide⟩
  sok := fun _ => Srv.sok_start hc
  foot := fun x hx => by
    rcases hx with (hx | hx) | hx | hx | ⟨u, hu, _⟩
    · subst hx; exact ⟨hb, h.lt⟩
    · cases hx
    · cases hx
    · cases hx
    · cases hu
  apart := fun x hx => by
    rcases hx with hx | hx | ⟨u, hu, _⟩
    · cases hx
    · cases hx
    · cases hu
  apartb := fun e => by cases e

set_option maxHeartbeats 2000000 in
set_option maxRecDepth 100000 in
theorem rvNew_no (N T M D : Int) (w : World) (h : Cli.cfgB N T M D = false) :
    Calls Tryz.prog 112 #[.agg #[.int .i64 N, .int .i64 T, .int .i64 M, .int .i64 D]] w fun e w' => e = .returned (.tuple #[.pointer none, .int .i64 5]) ∧ Below w.heap.size w w' := by
  have HC := hideG (fun W => rconfig_calls N T M D W)
  rw [h] at HC
  clear h
  have B0 := hideG (show Below w.heap.size w (w.alloc (.cells #[.int .i64 N, .int .i64 T, .int .i64 M, .int .i64 D] 26)) from (Below.refl _ _).alloc (Nat.le_refl _) _)
  go_enter Tryz.func112, Tryz.ntmps112
  go_wp2_with fail
  refine (HC.out _).mono ?_
  rintro e w1 ⟨rfl, hb1⟩
  have B1 := hideG (B0.out.trans (hb1.mono B0.out.size))
  clear hb1
  go_wp2_with fail
  go_ret2
  exact ⟨rfl, B1.out⟩

set_option maxHeartbeats 2000000 in
set_option maxRecDepth 100000 in
theorem rvNew_ok (pw : Nat) (N T M D : Int) (w : World) (h : Cli.cfgB N T M D = true) (hpw : pw < w.heap.size) :
    Calls Tryz.prog 112 #[.agg #[.int .i64 N, .int .i64 T, .int .i64 M, .int .i64 D]] w fun e w' => ∃ b, e = .returned (.tuple #[.pointer (some ⟨b, 0, none⟩), .int .i64 0]) ∧ RVW w' pw b ⟨N, T, M, D⟩ Srv.start rv0 [] [] ∧ Below w.heap.size w w' ∧ w.heap.size ≤ b := by
  have HC := hideG (fun W => rconfig_calls N T M D W)
  rw [h] at HC
  have HG := hideG (Srv.goodC_of h)
  clear h
  obtain ⟨W0, hW0⟩ : ∃ W0, W0 = w.alloc (.cells #[.int .i64 N, .int .i64 T, .int .i64 M, .int .i64 D] 26) := ⟨_, rfl⟩
  have B0 := hideG (show Below w.heap.size w W0 by rw [hW0]; exact (Below.refl _ _).alloc (Nat.le_refl _) _)
  have z0 : W0.heap.size = w.heap.size + 1 := by rw [hW0]; simp
  have x0 : W0.cell? ⟨w.heap.size, 0, none⟩ = some (.int .i64 N) := by rw [hW0]; simp
  have x1 : W0.cell? ⟨w.heap.size, 1, none⟩ = some (.int .i64 T) := by rw [hW0]; simp
  have x2 : W0.cell? ⟨w.heap.size, 2, none⟩ = some (.int .i64 M) := by rw [hW0]; simp
  have x3 : W0.cell? ⟨w.heap.size, 3, none⟩ = some (.int .i64 D) := by rw [hW0]; simp
  have X := hideG (fun (W : World) (hb : Below W0.heap.size W0 W) => And.intro ((hb.cell (p := ⟨w.heap.size, 0, none⟩) (by show w.heap.size < _; omega)).trans x0) (And.intro ((hb.cell (p := ⟨w.heap.size, 1, none⟩) (by show w.heap.size < _; omega)).trans x1) (And.intro ((hb.cell (p := ⟨w.heap.size, 2, none⟩) (by show w.heap.size < _; omega)).trans x2) ((hb.cell (p := ⟨w.heap.size, 3, none⟩) (by show w.heap.size < _; omega)).trans x3))))
  have HW0 := hideG hW0
  clear hW0
  go_enter Tryz.func112, Tryz.ntmps112
  go_upto_region 1 with fail
  rw [← HW0.out]
  go_wp2_with fail
  refine (HC.out _).mono ?_
  rintro e w1 ⟨rfl, hb1⟩
  have s1 := hb1.size
  have B1 := hideG (B0.out.trans (hb1.mono B0.out.size))
  clear x0 x1 x2 x3
  obtain ⟨x0, x1, x2, x3⟩ := X.out w1 hb1
  clear hb1
  have FIN := hideG (fun (b : Nat) (hb : b = w1.heap.size) => (show RVW (w1.alloc (.cells #[.int .i64 N, .int .i64 T, .int .i64 M, .int .i64 D, .int .i64 0, .slice none 0 0, .int .i64 0, .int .i64 0, .slice none 0 0, .slice none 0 0] 134)) pw b ⟨N, T, M, D⟩ Srv.start rv0 [] [] by
    subst hb
    exact rvw_new HG.out (heap_alloc_new w1 _) (by omega)))
  have FIB := hideG (show Below w.heap.size w (w1.alloc (.cells #[.int .i64 N, .int .i64 T, .int .i64 M, .int .i64 D, .int .i64 0, .slice none 0 0, .int .i64 0, .int .i64 0, .slice none 0 0, .slice none 0 0] 134)) from B1.out.alloc B1.out.size _)
  go_wp2_with fail
  go_ret2
  exact ⟨w1.heap.size, rfl, FIN.out _ rfl, FIB.out, by omega⟩

end Go.Proofs.YtchideljndagjabGreat

namespace Go.Proofs.YtchideljndagjabGreat
open Go.RowKit
set_option linter.unusedVariables false

structure SP where
  pc : Nat
  bx : Nat
  yb : Nat
  C : Srv.Cf
  q : Srv.Sv
  S : SS
  R : RV
  L : Srv.Log
  X : List Value

def SPFoot (p : SP) (x : Nat) : Prop := x = p.pc ∨ SFoot p.bx p.S x ∨ VFoot p.yb p.R p.X x
structure SPAt (w : World) (pw : Nat) (p : SP) : Prop where
  row : w.heap[p.pc]? = some (.cells #[.pointer (some ⟨p.bx, 0, none⟩), .pointer (some ⟨p.yb, 0, none⟩)] 130 (0, 0))
  srv : SrvW w p.bx p.C p.q p.S
  ref : RVW w pw p.yb p.C p.q p.R p.L p.X
  gc : Srv.GoodC p.C
  bd : p.q.out.2.2.1.length ≤ 12 ∧ p.q.out.2.2.2.length ≤ 12
  lo : ∀ x, SPFoot p x → pw < x
  ap1 : ∀ x, SFoot p.bx p.S x → ¬ VFoot p.yb p.R p.X x
  ap2 : ¬ SFoot p.bx p.S p.pc ∧ ¬ VFoot p.yb p.R p.X p.pc
section
variable {w w' : World} {pw : Nat} {p : SP}
theorem SPAt.lt (h : SPAt w pw p) {x : Nat} (hx : SPFoot p x) : x < w.heap.size := by
  rcases hx with hx | hx | hx
  · have := h.row
    subst hx
    by_cases hb : p.pc < w.heap.size
    · exact hb
    · rw [Array.getElem?_eq_none (by omega)] at this; cases this
  · exact h.srv.low x hx
  · exact (h.ref.foot x hx).2
theorem SPAt.keep (h : SPAt w pw p) (hs : w.heap.size ≤ w'.heap.size) (hb : ∀ x, SPFoot p x → w'.heap[x]? = w.heap[x]?) : SPAt w' pw p :=
  { h with
    row := (hb p.pc (.inl rfl)).trans h.row
    srv := h.srv.keep hs (fun x hx => hb x (.inr (.inl hx)))
    ref := h.ref.keep hs (fun x hx => hb x (.inr (.inr hx))) }
theorem SPAt.below (h : SPAt w pw p) (hb : Below w.heap.size w w') : SPAt w' pw p := h.keep hb.size (fun x hx => hb.block x (h.lt hx))
theorem SPAt.cells (h : SPAt w pw p) : w.cell? ⟨p.pc, 0, none⟩ = some (.pointer (some ⟨p.bx, 0, none⟩)) ∧ w.cell? ⟨p.pc, 1, none⟩ = some (.pointer (some ⟨p.yb, 0, none⟩)) :=
  ⟨(cell_of_row w p.pc 0 _ _ (0, 0) h.row).trans rfl, (cell_of_row w p.pc 1 _ _ (0, 0) h.row).trans rfl⟩
end
def sTh (pw : Nat) (p : SP) : Th := ⟨p.pc, SPFoot p, fun w => SPAt w pw p⟩
theorem sth_ok (pw : Nat) (p : SP) : ThOk pw (sTh pw p) where
  lt := fun w x h hx => SPAt.lt h hx
  lo := fun w x h hx => SPAt.lo h x hx
  keep := fun w w' h hs hb _ => SPAt.keep h hs hb

/-- The World with its things; how many lists of each kind, at most, and marks. -/
def AI (w : World) (pw m : Nat) (len : Nat → Nat) (T : Nat → List Th) : Prop :=
  ∃ F nx ls, InvW w pw F nx ls ∧ InvA w pw F ls T ∧ MarksOk (ls 1) ∧ 0 ≤ nx ∧ nx ≤ (m : Int) ∧ ∀ c, (ls c).length ≤ len c
def upn (len : Nat → Nat) (c n : Nat) : Nat → Nat := fun d => if d = c then len c + n else len d
section
variable {w w' : World} {pw m : Nat} {len : Nat → Nat} {T : Nat → List Th}
theorem AI.pw_lt (h : AI w pw m len T) : pw < w.heap.size := by obtain ⟨_, _, _, h1, _⟩ := h; exact h1.pw_lt
theorem AI.below (h : AI w pw m len T) (hb : Below w.heap.size w w') : AI w' pw m len T := by
  obtain ⟨F, nx, ls, h1, h2, h3⟩ := h
  exact ⟨F, nx, ls, h1.below hb, h2.below h1 hb, h3⟩
theorem AI.mono {m' : Nat} {len' : Nat → Nat} (h : AI w pw m len T) (hm : m ≤ m') (hl : ∀ c, len c ≤ len' c) : AI w pw m' len' T := by
  obtain ⟨F, nx, ls, h1, h2, h3, h4, h5, h6⟩ := h
  exact ⟨F, nx, ls, h1, h2, h3, h4, by omega, fun c => Nat.le_trans (h6 c) (hl c)⟩
theorem AI.thing (h : AI w pw m len T) {j i : Nat} (hj : j < 3) {t : Th} (ht : (T j)[i]? = some t) : t.at_ w := by
  obtain ⟨F, nx, ls, h1, h2, _⟩ := h
  exact (h2.ok j hj t (List.mem_of_getElem? ht)).2
theorem AI.list (h : AI w pw m len T) {j : Nat} (hj : j < 3) : ∃ a cap, w.cell? ⟨pw, j, none⟩ = some (.slice a (T j).length cap) ∧ w.frozen? ⟨pw, j, none⟩ = false ∧ (T j).length ≤ cap ∧ cap ≤ 9223372036854775807 ∧
    ∀ i t, (T j)[i]? = some t → ∃ g, a = some ⟨g, 0, none⟩ ∧ g < w.heap.size ∧ w.cell? ⟨g, i, none⟩ = some (.pointer (some ⟨t.pc, 0, none⟩)) := by
  obtain ⟨F, nx, ls, h1, h2, _⟩ := h
  obtain ⟨a, cap, k1, k2, _, k3, k4, k5⟩ := h2.list h1 hj
  exact ⟨a, cap, k1, k2, k3, k4, k5⟩
end

theorem lst_le12 {p : Nat → Bool} (h : p 0 = false) : (Srv.lst p).length ≤ 12 := by
  unfold Srv.lst Srv.lstN
  rw [show (13 : Nat) = 12 + 1 from rfl, List.range_succ_eq_map, List.filter_cons_of_neg (by rw [h]; exact Bool.false_ne_true)]
  have := List.length_filter_le p (List.map Nat.succ (List.range 12))
  simpa using this
theorem tick_bd {C : Srv.Cf} (hc : Srv.GoodC C) {q : Srv.Sv} (hs : q.out.1 = 0 → Srv.SOk C q) (h : q.out.2.2.1.length ≤ 12 ∧ q.out.2.2.2.length ≤ 12) : (Srv.tickS C q).out.2.2.1.length ≤ 12 ∧ (Srv.tickS C q).out.2.2.2.length ≤ 12 := by
  unfold Srv.tickS
  by_cases p : Srv.pend q = true
  · rw [if_pos p]
    have ok := hs (Srv.pend_iff.1 p)
    split
    · split
      · exact ⟨Nat.zero_le _, Nat.zero_le _⟩
      · split
        · have := hc.m
          refine ⟨?_, ?_⟩
          · show (Srv.setL q.G).length ≤ 12
            unfold Srv.setL; rw [List.length_map]; exact lst_le12 (ok.good.zero 2)
          · show (Srv.sumL C q.G).length ≤ 12
            unfold Srv.sumL; rw [List.length_map, List.length_range]; omega
        · exact h
    · exact h
  · rw [if_neg p]; exact h

/-- The World wrote into what it owns and into new lists: the things are as they were. -/
theorem AI.quietq {w w' : World} {pw m m' : Nat} {len len' : Nat → Nat} {T : Nat → List Th} {F F' : Nat → Value} {nx nx' : Int} {ls ls' : Nat → List Ow} (h1 : InvW w pw F nx ls) (h2 : InvA w pw F ls T) (q : QS pw w F ls w' F' ls') (h1' : InvW w' pw F' nx' ls') (hm : MarksOk (ls' 1)) (hn : 0 ≤ nx' ∧ nx' ≤ (m' : Int)) (hl : ∀ c, (ls' c).length ≤ len' c) : AI w' pw m' len' T ∧ Below pw w w' :=
  ⟨⟨F', nx', ls', h1', h2.quiet h1 q, hm, hn.1, hn.2, hl⟩, q.belowpw h1⟩

end Go.Proofs.YtchideljndagjabGreat
