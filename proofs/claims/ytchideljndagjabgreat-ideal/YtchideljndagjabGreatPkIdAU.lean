/- Contract of the program's server: Take. -/
import Derived.Test.YtchideljndagjabGreatPkIdAT
namespace Go.Proofs.YtchideljndagjabGreat
open Go.ChangeShapes Go.WideShapes Go.ChangeAt Go.RowKit
set_option linter.unusedVariables false
def sstepD (C : Srv.Cf) (s : Srv.Sv) (zs : List Int) : Srv.Sv := match Frm.decF zs with
  | none => s
  | some f => Srv.takeS C s f
def scntD (C : Srv.Cf) (s : Srv.Sv) (zs : List Int) : Bool := match Frm.decF zs with
  | none => false
  | some f => Srv.counts C s f
structure STook (w w' : World) (b : Nat) (C : Srv.Cf) (s' : Srv.Sv) (S S' : SS) : Prop where
  srv : SrvW w' b C s' S'
  chg : Chg (fun x => x = b) w w'
  foot : ∀ x, SFoot b S' x → SFoot b S x ∨ w.heap.size ≤ x
  rest : ∀ i, 76 ≤ i → w'.cell? ⟨b, i, none⟩ = w.cell? ⟨b, i, none⟩ ∧ w'.frozen? ⟨b, i, none⟩ = w.frozen? ⟨b, i, none⟩
theorem stook_same {w w' : World} {b : Nat} {C : Srv.Cf} {s : Srv.Sv} {S : SS} (h : SrvW w b C s S) (hb : Below w.heap.size w w') : STook w w' b C s S S :=
  ⟨h.below hb, Chg.of_below hb, fun _ hx => .inl hx, fun i _ => ⟨hb.cell (p := ⟨b, i, none⟩) h.srv.at_.lt, hb.frozen (p := ⟨b, i, none⟩) h.srv.at_.lt⟩⟩
theorem STook.after {w w1 w' : World} {b : Nat} {C : Srv.Cf} {s' : Srv.Sv} {S S' : SS} (h : STook w1 w' b C s' S S') (hb : Below w.heap.size w w1) (hl : b < w.heap.size) : STook w w' b C s' S S' :=
  ⟨h.srv, (Chg.of_below hb).also h.chg, fun x hx => (h.foot x hx).imp id (fun e => Nat.le_trans hb.size e), fun i hi => by
    obtain ⟨e1, e2⟩ := h.rest i hi
    exact ⟨e1.trans (hb.cell (p := ⟨b, i, none⟩) hl), e2.trans (hb.frozen (p := ⟨b, i, none⟩) hl)⟩⟩
theorem STook.then {w w1 w' : World} {b : Nat} {C : Srv.Cf} {s' : Srv.Sv} {S S' : SS} (h : STook w w1 b C s' S S') (hb : Below w1.heap.size w1 w') : STook w w' b C s' S S' :=
  ⟨h.srv.below hb, h.chg.grow hb, h.foot, fun i hi => by
    obtain ⟨e1, e2⟩ := h.rest i hi
    have hl := h.srv.srv.at_.lt
    exact ⟨(hb.cell (p := ⟨b, i, none⟩) hl).trans e1, (hb.frozen (p := ⟨b, i, none⟩) hl).trans e2⟩⟩
theorem fit_eq {w : World} {b : Nat} {C : Srv.Cf} {s : Srv.Sv} {S : SS} (h : SrvAt w b C s S) (hp : s.out.1 = 0) {u : Nat} {l : List Frm.It} (hr : Frm.riseB l = true) : fitB S u l = Srv.shape C s.G s.rd u l := by
  obtain ⟨_, e2⟩ := h.now hp
  unfold fitB Srv.shape
  rw [e2]
  by_cases r1 : s.rd = 1
  · rw [if_pos (by omega), if_pos r1, Srv.haveIds_same hr]
    rw [Bool.eq_iff_iff, Srv.sameS_iff, Srv.sameS_iff]
    have e : ∀ v, v < 13 → updB S.sn u false v = Srv.without (Srv.mem (s.G 0)) u v := fun v hv => by
      unfold updB Srv.without
      have e0 := h.sn hp v hv
      rw [r1, if_neg (by decide)] at e0
      by_cases c : v = u
      · rw [if_pos c, decide_eq_false (by simpa using c), Bool.and_false]
      · rw [if_neg c, decide_eq_true c, Bool.and_true, e0]
    exact ⟨fun a v hv => (a v hv).trans (e v hv), fun a v hv => (a v hv).trans (e v hv).symm⟩
  · rw [if_neg (by omega), if_neg r1]
    by_cases r2 : s.rd = 2
    · rw [if_pos (by omega), if_pos r2, (h.cfg hp).2.2.1]
    · rw [if_neg (by omega), if_neg r2]
      by_cases r3 : s.rd = 3
      · rw [if_pos (by omega), if_pos r3, Srv.haveIds_same hr, Srv.tellOf_same hr, Bool.and_comm]
        congr 1
        · rw [Bool.eq_iff_iff, List.all_eq_true, List.all_eq_true]
          have e : ∀ x ∈ l, S.sn x.1.toNat = Srv.mem (s.G 2) x.1.toNat := fun x hx => by
            have e0 := h.sn hp _ (Srv.has_cast hr x hx).1
            rwa [r3, if_neg (by decide)] at e0
          exact ⟨fun a x hx => by rw [← e x hx]; exact a x hx, fun a x hx => by rw [e x hx]; exact a x hx⟩
        · rw [Bool.eq_iff_iff, Srv.sameS_iff, Srv.sameS_iff]
          have e := h.sh hp (by omega)
          exact ⟨fun a v hv => (a v hv).trans (e v hv), fun a v hv => (a v hv).trans (e v hv).symm⟩
      · rw [if_neg (by omega), if_neg r3]
theorem cnt_eq {w : World} {b : Nat} {C : Srv.Cf} {s : Srv.Sv} {S : SS} (h : SrvAt w b C s S) (hs : s.out.1 = 0 → Srv.SOk C s) {k : Int} {u : Nat} {l : List Frm.It} (hok : Frm.okF k (u : Int) l = true) (rd : Nat) (hrd : S.rd = (rd : Int)) : cntB S rd k u l = Srv.counts C s (k, (u : Int), l) := by
  have hr := (Frm.okF_parts hok).2.2.1
  have hu : u < 13 := by have := (Frm.okF_bounds hok).2.2.2.2.1; omega
  unfold cntB Srv.counts Srv.pend
  rw [h.st]
  by_cases hp : s.out.1 = 0
  rotate_left
  · rw [decide_eq_false hp]; rfl
  rw [decide_eq_true hp, Bool.true_and, Bool.true_and]
  have hg := (hs hp).good
  have e : rd = s.rd := by have := (h.now hp).2; omega
  subst e
  unfold Srv.fits
  show _ = (decide (k = 2 * (s.rd : Int) + 1) && (decide ((u : Int) ≤ C.N) && (!Srv.mem (s.G s.rd) (u : Int).toNat && ((decide (s.rd = 0) || Srv.mem (s.G (s.rd - 1)) (u : Int).toNat) && Srv.shape C s.G s.rd (u : Int).toNat l))))
  rw [Int.toNat_natCast, fit_eq h hp hr, h.ct hp u hu, h.sn hp u hu]
  by_cases q2 : k = 2 * (s.rd : Int) + 1
  rotate_left
  · rw [decide_eq_false q2]; rfl
  rw [decide_eq_true q2, Bool.true_and, Bool.true_and]
  have hcl : 1 ≤ u := by
    have := (Frm.okF_parts hok).2.1
    unfold Frm.fromB at this
    rw [if_pos (by have := (hs hp).rd; omega), Num.clB_iff] at this
    omega
  by_cases r0 : s.rd = 0
  · rw [if_pos r0, decide_eq_true r0, Bool.true_or, Bool.true_and]
    congr 1
    exact decide_eq_decide.2 ⟨fun a => a.2, fun a => ⟨hcl, a⟩⟩
  · rw [if_neg r0, decide_eq_false r0, Bool.false_or]
    cases hm : Srv.mem (s.G (s.rd - 1)) u
    · rw [Bool.false_and, Bool.false_and, Bool.and_false, Bool.and_false]
    · rw [decide_eq_true (hg.mem hm).2.2.1]; rfl
theorem srvAt_more {w w' : World} {b : Nat} {C : Srv.Cf} {s : Srv.Sv} {S : SS} (h : SrvAt w b C s S) (hp : s.out.1 = 0) {u : Nat} (hu : u < 13) {l : List Frm.It} {x : Value} (hw : SSAt w' b { S with ct := fun v => if v = u then true else S.ct v, it := updV S.it u x }) (hx : ItemsAt w' x l) (hxb : x.ownBlock ≠ some b) (hs : w.heap.size ≤ w'.heap.size) (hb : ∀ y, y ≠ b → SFoot b S y → w'.heap[y]? = w.heap[y]?) :
    SrvAt w' b C { s with G := Srv.updT s.G s.rd u l } { S with ct := fun v => if v = u then true else S.ct v, it := updV S.it u x } where
  at_ := hw
  st := h.st
  ro := h.ro
  set := h.set.keep hs fun y hy => hb y (fun e => h.apart2.2.1 (e ▸ hy)) (.inr (.inr (.inr (.inl hy))))
  sum := h.sum.keep hs fun y hy => hb y (fun e => h.apart2.2.2 (e ▸ hy)) (.inr (.inr (.inr (.inr hy))))
  apart := fun v hv => by
    show (updV S.it u x v).ownBlock ≠ some b
    unfold updV; split
    · exact hxb
    · exact h.apart v hv
  apart2 := h.apart2
  zero := h.zero
  rdz := h.rdz
  cfg := h.cfg
  now := h.now
  sn := fun p v hv => by
    show S.sn v = if s.rd = 0 then _ else Srv.mem (Srv.updT s.G s.rd u l (s.rd - 1)) v
    rw [h.sn p v hv]
    by_cases r : s.rd = 0
    · rw [if_pos r, if_pos r]
    · rw [if_neg r, if_neg r, Srv.updT_row s.G s.rd u l (by omega)]
  ct := fun p v hv => by
    show (if v = u then true else S.ct v) = Srv.mem (Srv.updT s.G s.rd u l s.rd) v
    by_cases e : v = u
    · subst e; rw [if_pos rfl]; unfold Srv.mem; rw [Srv.updT_same]; rfl
    · rw [if_neg e, h.ct p v hv]; unfold Srv.mem; rw [Srv.updT_other s.G s.rd u l s.rd e]
  it := fun p v hv => by
    show ItemsAt w' (updV S.it u x v) (Srv.its (Srv.updT s.G s.rd u l s.rd) v)
    by_cases e : v = u
    · subst e
      unfold updV; rw [if_pos rfl, Srv.its_some (Srv.updT_same s.G s.rd v l)]; exact hx
    · unfold updV; rw [if_neg e]
      have e2 : Srv.its (Srv.updT s.G s.rd u l s.rd) v = Srv.its (s.G s.rd) v := by unfold Srv.its; rw [Srv.updT_other s.G s.rd u l s.rd e]
      rw [e2]
      exact (h.it p v hv).keep hs fun y hy => hb y (fun e => h.apart v hv (e ▸ hy)) (.inr (.inl ⟨v, hv, hy⟩))
  pb := fun p r v hv => by
    show S.pb v = Srv.pub (Srv.updT s.G s.rd u l) v
    rw [h.pb p r v hv]; unfold Srv.pub
    rw [Srv.updT_row s.G s.rd u l (by have : 1 ≤ s.rd := r; omega)]
  sh := fun p r v hv => by
    show S.sh v = Srv.mem (Srv.updT s.G s.rd u l 1) v
    rw [h.sh p r v hv, Srv.updT_row s.G s.rd u l (by have : 2 ≤ s.rd := r; omega)]
  ml := fun p r => by
    have e : (fun i => Srv.msk (Srv.updT s.G s.rd u l) i % 4294967296) = fun i => Srv.msk s.G i % 4294967296 := by
      funext i; unfold Srv.msk Srv.mskN; rw [Srv.updT_row s.G s.rd u l (by have : s.rd = 3 := r; omega)]
    show ListAt w' S.ml ((List.range C.M.toNat).map fun i => Srv.msk (Srv.updT s.G s.rd u l) i % 4294967296)
    rw [e]
    exact (h.ml p r).keep hs fun y hy => hb y (fun e => h.apart2.1 (e ▸ hy)) (.inr (.inr (.inl hy)))
end Go.Proofs.YtchideljndagjabGreat
namespace Go.Proofs.YtchideljndagjabGreat
open Go.ChangeShapes Go.WideShapes Go.ChangeAt Go.RowKit
set_option linter.unusedVariables false
def keyG (p : Nat → Bool) (L : Nat → List Frm.It) (n : Nat) : List Frm.It := (Srv.lstN p n).map fun v : Nat => ((v : Int), (Cli.itemOf (L v) v).2.1, (Cli.itemOf (L v) v).2.2.1, (0 : Int))
def boxG (p : Nat → Bool) (L : Nat → List Frm.It) (u : Nat) (n : Nat) : List Frm.It := (Srv.lstN (Srv.without p u) n).map fun v : Nat => ((v : Int), (Cli.itemOf (L v) u).2.1, (Cli.itemOf (L v) u).2.2.1, (Cli.itemOf (L v) u).2.2.2)
def askG (p : Nat → Bool) (n : Nat) : List Frm.It := (Srv.lstN p n).map fun v : Nat => ((v : Int), (0 : Int), (0 : Int), (0 : Int))
theorem keyG_succ (p : Nat → Bool) (L : Nat → List Frm.It) (n : Nat) : keyG p L (n + 1) = keyG p L n ++ (if p n = true then [((n : Int), (Cli.itemOf (L n) n).2.1, (Cli.itemOf (L n) n).2.2.1, (0 : Int))] else []) := by
  unfold keyG; rw [Srv.lstN_succ, List.map_append]; split <;> rfl
theorem boxG_succ (p : Nat → Bool) (L : Nat → List Frm.It) (u n : Nat) : boxG p L u (n + 1) = boxG p L u n ++ (if Srv.without p u n = true then [((n : Int), (Cli.itemOf (L n) u).2.1, (Cli.itemOf (L n) u).2.2.1, (Cli.itemOf (L n) u).2.2.2)] else []) := by
  unfold boxG; rw [Srv.lstN_succ, List.map_append]; split <;> rfl
theorem askG_succ (p : Nat → Bool) (n : Nat) : askG p (n + 1) = askG p n ++ (if p n = true then [((n : Int), (0 : Int), (0 : Int), (0 : Int))] else []) := by
  unfold askG; rw [Srv.lstN_succ, List.map_append]; split <;> rfl
theorem keyG_len (p : Nat → Bool) (L : Nat → List Frm.It) (n : Nat) : (keyG p L n).length ≤ n := by unfold keyG; rw [List.length_map]; exact Srv.lstN_le _ _
theorem boxG_len (p : Nat → Bool) (L : Nat → List Frm.It) (u n : Nat) : (boxG p L u n).length ≤ n := by unfold boxG; rw [List.length_map]; exact Srv.lstN_le _ _
theorem askG_len (p : Nat → Bool) (n : Nat) : (askG p n).length ≤ n := by unfold askG; rw [List.length_map]; exact Srv.lstN_le _ _
theorem items_form {w : World} {v : Value} {l : List Frm.It} (h : ItemsAt w v l) : ∃ a n c, v = .slice a n c := by
  obtain ⟨a, cap, e, _⟩ := h; exact ⟨a, _, cap, e⟩
set_option maxHeartbeats 2000000 in
set_option maxRecDepth 100000 in
theorem keys_calls (b : Nat) (S : SS) (L : Nat → List Frm.It) (w : World) (h : SSAt w b S) (hL : ∀ v, v < 13 → ItemsAt w (S.it v) (L v)) :
    Calls Tryz.prog 286 #[.pointer (some ⟨b, 0, none⟩)] w fun e w' => ∃ va, e = .returned va ∧ w'.ownsRow w.heap.size 147 4 va (keyG S.ct L 13).length (flat4 (keyG S.ct L 13)) ∧ Below w.heap.size w w' := by
  obtain ⟨i1, hi1, hy0, hy1, hy2⟩ := info_parts infoIt
  have hbl := h.lt
  have HRG := hideG h.allct
  have LX := hideG (bl13_length S.ct)
  have HIX := hideG (ix_mem S.ct)
  have HIT := hideG (fun (w1 : World) (k : Nat) (hk : k < 13) (hb : Below w.heap.size w w1) => (h.below hb).cit k hk)
  have HFO := hideG (fun (k : Nat) (hk : k < 13) => items_form (hL k hk))
  have HCI := hideG (fun (w1 : World) (k : Nat) (hk : k < 13) (hb : Below w.heap.size w w1) => sItemOf_calls (S.it k) (L k) (k : Int) w1 ((hL k hk).below hb))
  clear h hL
  generalize S.ct = p at *
  generalize S.it = it at *
  obtain ⟨CS, hCS⟩ : ∃ CS, CS = bl13 p := ⟨_, rfl⟩
  rw [← hCS] at HRG LX HIX
  clear hCS
  go_enter Tryz.func286, Tryz.ntmps286
  go_wp2_with (refine wpList_load_mid rfl 101 _ rfl b 19 rfl CS _ HRG.out Tryz.underlying101 rfl ?z ?_)
  case z => rw [size_mem, LX.out]
  go_wp2_with fail
  go_loopw [3, 11] (fun ro i wr => ∃ k : Nat, k ≤ 13 ∧ i = .int .i64 k ∧ wr.ownsRow w.heap.size 147 4 ro (keyG p L k).length (flat4 (keyG p L k)) ∧ Below w.heap.size w wr) (fun _ i _ => 13 - (intOf i).toNat)
  case atStart => exact ⟨0, by omega, rfl, World.ownsRow_nil _ _ _ _, Below.refl _ _⟩
  case round =>
    obtain ⟨k, hk, rfl, hown, hbel⟩ := hrel
    have HO := hideG hown
    have HB := hideG hbel
    have hsz := hbel.size
    obtain ⟨a3, c3, hv3⟩ := owns_form hown
    subst hv3
    clear hown hbel
    have hl13 := keyG_len p L k
    have HSU := hideG (keyG_succ p L k)
    by_cases hlt : k < 13
    · have hlt' : (k : Int) < 13 := by omega
      have hix := HIX.out k hlt
      cases q : p k
      · rw [q] at hix
        have HS2 := hideG (show keyG p L (k + 1) = keyG p L k by rw [HSU.out, q]; simp)
        clear q
        go_wp2_with fail
        go_roundw
        case rel => exact ⟨k + 1, by omega, by go_num, by rw [HS2.out]; exact HO.out, HB.out⟩
        case measure => simp [intOf]; omega
      · rw [q] at hix
        have HS2 := hideG (show keyG p L (k + 1) = keyG p L k ++ [((k : Int), (Cli.itemOf (L k) (k : Int)).2.1, (Cli.itemOf (L k) (k : Int)).2.2.1, (0 : Int))] by rw [HSU.out, q]; simp)
        clear q
        have ci := HIT.out wr k hlt HB.out
        have CI := hideG (HCI.out wr k hlt HB.out)
        obtain ⟨fa, fn, fc, hf⟩ := HFO.out k hlt
        rw [hf] at ci CI
        clear hf
        unfold itmV at CI
        obtain ⟨y0, y1, y2, y3, hy⟩ : ∃ y0 y1 y2 y3, Cli.itemOf (L k) (k : Int) = (y0, y1, y2, y3) := ⟨_, _, _, _, rfl⟩
        rw [hy] at CI HS2
        clear hy
        go_wp2_with fail
        refine CI.out.mono ?_
        rintro e w1 ⟨rfl, hb1⟩
        have s1 := hb1.size
        have B1 := hideG (HB.out.trans (hb1.mono HB.out.size))
        have O1 := hideG (ownsRow_chg (S := fun _ => False) HO.out (Chg.of_below hb1) (fun _ _ h => h))
        clear hb1
        go_wp2_with (at_builtin; refine wpList_append_own _ rfl _ _ 63 rfl w.heap.size 147 i1 (.agg #[.int .i64 0, .int .i64 0, .int .i64 0, .int .i64 0]) 4 32 Tryz.underlying63 hi1 hy0 hy1 hy2 rfl (by decide) _ _ _ rfl ((O1.out.alloc _).alloc _) ⟨w1.heap.size + 1, 0, none⟩ 1 1 [.int .i64 k, .int .i64 y1, .int .i64 y2, .int .i64 0] rfl rfl ?c1 ?c2 ?c3 ?c4 ?c5 ?_)
        case c1 => have := cell_four_new (w1.alloc (.cells #[.int .i64 y0, .int .i64 y1, .int .i64 y2, .int .i64 y3] 147)) (.int .i64 k) (.int .i64 y1) (.int .i64 y2) (.int .i64 0) 147; simpa using this
        case c2 => intro u hu; simp at hu; rcases hu with rfl | rfl | rfl | rfl <;> rfl
        case c3 => unfold maxLen; omega
        case c4 => omega
        case c5 => simp; omega
        intro v' w4 hown' hgrow' _
        have hb4 := ((B1.out.alloc (by omega) _).alloc (by simp; omega) _).grown hgrow' (by simp; omega) (fun y hy => (O1.out.lt y hy).1)
        have B4 := hideG hb4
        have O4 := hideG (show w4.ownsRow w.heap.size 147 4 v' (keyG p L (k + 1)).length (flat4 (keyG p L (k + 1))) by
          rw [HS2.out, flat4_append, List.length_append]; exact hown')
        clear hown' hgrow' hb4
        go_wp2_with fail
        go_roundw
        case rel => exact ⟨k + 1, by omega, by go_num, O4.out, B4.out⟩
        case measure => simp [intOf]; omega
    · have ek : k = 13 := by omega
      subst ek
      go_wp2_with fail
      go_ret
      exact ⟨_, rfl, HO.out, HB.out⟩
set_option maxHeartbeats 2000000 in
set_option maxRecDepth 100000 in
theorem boxFor_calls (b : Nat) (S : SS) (L : Nat → List Frm.It) (u : Nat) (w : World) (h : SSAt w b S) (hL : ∀ v, v < 13 → ItemsAt w (S.it v) (L v)) :
    Calls Tryz.prog 287 #[.pointer (some ⟨b, 0, none⟩), .int .i64 (u : Int)] w fun e w' => ∃ va, e = .returned va ∧ w'.ownsRow w.heap.size 147 4 va (boxG S.ct L u 13).length (flat4 (boxG S.ct L u 13)) ∧ Below w.heap.size w w' := by
  obtain ⟨i1, hi1, hy0, hy1, hy2⟩ := info_parts infoIt
  have hbl := h.lt
  have HRG := hideG h.allct
  have LX := hideG (bl13_length S.ct)
  have HIX := hideG (ix_mem S.ct)
  have HIT := hideG (fun (w1 : World) (k : Nat) (hk : k < 13) (hb : Below w.heap.size w w1) => (h.below hb).cit k hk)
  have HFO := hideG (fun (k : Nat) (hk : k < 13) => items_form (hL k hk))
  have HCI := hideG (fun (w1 : World) (k : Nat) (hk : k < 13) (hb : Below w.heap.size w w1) => sItemOf_calls (S.it k) (L k) (u : Int) w1 ((hL k hk).below hb))
  clear h hL
  generalize S.ct = p at *
  generalize S.it = it at *
  obtain ⟨CS, hCS⟩ : ∃ CS, CS = bl13 p := ⟨_, rfl⟩
  rw [← hCS] at HRG LX HIX
  clear hCS
  go_enter Tryz.func287, Tryz.ntmps287
  go_wp2_with (refine wpList_load_mid rfl 101 _ rfl b 19 rfl CS _ HRG.out Tryz.underlying101 rfl ?z ?_)
  case z => rw [size_mem, LX.out]
  go_wp2_with fail
  go_loopw [5, 13] (fun ro i wr => ∃ k : Nat, k ≤ 13 ∧ i = .int .i64 k ∧ wr.ownsRow w.heap.size 147 4 ro (boxG p L u k).length (flat4 (boxG p L u k)) ∧ Below w.heap.size w wr) (fun _ i _ => 13 - (intOf i).toNat)
  case atStart => exact ⟨0, by omega, rfl, World.ownsRow_nil _ _ _ _, Below.refl _ _⟩
  case round =>
    obtain ⟨k, hk, rfl, hown, hbel⟩ := hrel
    have HO := hideG hown
    have HB := hideG hbel
    have hsz := hbel.size
    obtain ⟨a3, c3, hv3⟩ := owns_form hown
    subst hv3
    clear hown hbel
    have hl13 := boxG_len p L u k
    have HSU := hideG (boxG_succ p L u k)
    by_cases hlt : k < 13
    · have hlt' : (k : Int) < 13 := by omega
      have hix := HIX.out k hlt
      cases q : p k
      · rw [q] at hix
        have HS2 := hideG (show boxG p L u (k + 1) = boxG p L u k by rw [HSU.out]; unfold Srv.without; rw [q]; simp)
        clear q
        go_wp2_with fail
        go_roundw
        case rel => exact ⟨k + 1, by omega, by go_num, by rw [HS2.out]; exact HO.out, HB.out⟩
        case measure => simp [intOf]; omega
      rw [q] at hix
      by_cases q2 : (k : Int) = (u : Int)
      · have q2' : ((k : Int) != (u : Int)) = false := by simpa using q2
        have HS2 := hideG (show boxG p L u (k + 1) = boxG p L u k by rw [HSU.out]; unfold Srv.without; rw [decide_eq_false (by omega), Bool.and_false]; simp)
        clear q q2
        go_wp2_with fail
        go_roundw
        case rel => exact ⟨k + 1, by omega, by go_num, by rw [HS2.out]; exact HO.out, HB.out⟩
        case measure => simp [intOf]; omega
      · have q2' : ((k : Int) != (u : Int)) = true := by simpa using q2
        have HS2 := hideG (show boxG p L u (k + 1) = boxG p L u k ++ [((k : Int), (Cli.itemOf (L k) (u : Int)).2.1, (Cli.itemOf (L k) (u : Int)).2.2.1, (Cli.itemOf (L k) (u : Int)).2.2.2)] by rw [HSU.out]; unfold Srv.without; rw [q, decide_eq_true (by omega)]; simp)
        clear q q2
        have ci := HIT.out wr k hlt HB.out
        have CI := hideG (HCI.out wr k hlt HB.out)
        obtain ⟨fa, fn, fc, hf⟩ := HFO.out k hlt
        rw [hf] at ci CI
        clear hf
        unfold itmV at CI
        obtain ⟨y0, y1, y2, y3, hy⟩ : ∃ y0 y1 y2 y3, Cli.itemOf (L k) (u : Int) = (y0, y1, y2, y3) := ⟨_, _, _, _, rfl⟩
        rw [hy] at CI HS2
        clear hy
        go_wp2_with fail
        refine CI.out.mono ?_
        rintro e w1 ⟨rfl, hb1⟩
        have s1 := hb1.size
        have B1 := hideG (HB.out.trans (hb1.mono HB.out.size))
        have O1 := hideG (ownsRow_chg (S := fun _ => False) HO.out (Chg.of_below hb1) (fun _ _ h => h))
        clear hb1
        go_wp2_with (at_builtin; refine wpList_append_own _ rfl _ _ 63 rfl w.heap.size 147 i1 (.agg #[.int .i64 0, .int .i64 0, .int .i64 0, .int .i64 0]) 4 32 Tryz.underlying63 hi1 hy0 hy1 hy2 rfl (by decide) _ _ _ rfl ((O1.out.alloc _).alloc _) ⟨w1.heap.size + 1, 0, none⟩ 1 1 [.int .i64 k, .int .i64 y1, .int .i64 y2, .int .i64 y3] rfl rfl ?c1 ?c2 ?c3 ?c4 ?c5 ?_)
        case c1 => have := cell_four_new (w1.alloc (.cells #[.int .i64 y0, .int .i64 y1, .int .i64 y2, .int .i64 y3] 147)) (.int .i64 k) (.int .i64 y1) (.int .i64 y2) (.int .i64 y3) 147; simpa using this
        case c2 => intro u hu; simp at hu; rcases hu with rfl | rfl | rfl | rfl <;> rfl
        case c3 => unfold maxLen; omega
        case c4 => omega
        case c5 => simp; omega
        intro v' w4 hown' hgrow' _
        have hb4 := ((B1.out.alloc (by omega) _).alloc (by simp; omega) _).grown hgrow' (by simp; omega) (fun y hy => (O1.out.lt y hy).1)
        have B4 := hideG hb4
        have O4 := hideG (show w4.ownsRow w.heap.size 147 4 v' (boxG p L u (k + 1)).length (flat4 (boxG p L u (k + 1))) by
          rw [HS2.out, flat4_append, List.length_append]; exact hown')
        clear hown' hgrow' hb4
        go_wp2_with fail
        go_roundw
        case rel => exact ⟨k + 1, by omega, by go_num, O4.out, B4.out⟩
        case measure => simp [intOf]; omega
    · have ek : k = 13 := by omega
      subst ek
      go_wp2_with fail
      go_ret
      exact ⟨_, rfl, HO.out, HB.out⟩
set_option maxHeartbeats 2000000 in
set_option maxRecDepth 100000 in
theorem ask_calls (b : Nat) (S : SS) (w : World) (h : SSAt w b S) :
    Calls Tryz.prog 288 #[.pointer (some ⟨b, 0, none⟩)] w fun e w' => ∃ va, e = .returned va ∧ w'.ownsRow w.heap.size 147 4 va (askG S.ct 13).length (flat4 (askG S.ct 13)) ∧ Below w.heap.size w w' := by
  obtain ⟨i1, hi1, hy0, hy1, hy2⟩ := info_parts infoIt
  have hbl := h.lt
  have HRG := hideG h.allct
  have LX := hideG (bl13_length S.ct)
  have HIX := hideG (ix_mem S.ct)
  clear h
  generalize S.ct = p at *
  generalize S.it = it at *
  obtain ⟨CS, hCS⟩ : ∃ CS, CS = bl13 p := ⟨_, rfl⟩
  rw [← hCS] at HRG LX HIX
  clear hCS
  go_enter Tryz.func288, Tryz.ntmps288
  go_wp2_with (refine wpList_load_mid rfl 101 _ rfl b 19 rfl CS _ HRG.out Tryz.underlying101 rfl ?z ?_)
  case z => rw [size_mem, LX.out]
  go_wp2_with fail
  go_loopw [3, 10] (fun ro i wr => ∃ k : Nat, k ≤ 13 ∧ i = .int .i64 k ∧ wr.ownsRow w.heap.size 147 4 ro (askG p k).length (flat4 (askG p k)) ∧ Below w.heap.size w wr) (fun _ i _ => 13 - (intOf i).toNat)
  case atStart => exact ⟨0, by omega, rfl, World.ownsRow_nil _ _ _ _, Below.refl _ _⟩
  case round =>
    obtain ⟨k, hk, rfl, hown, hbel⟩ := hrel
    have HO := hideG hown
    have HB := hideG hbel
    have hsz := hbel.size
    obtain ⟨a3, c3, hv3⟩ := owns_form hown
    subst hv3
    clear hown hbel
    have hl13 := askG_len p k
    have HSU := hideG (askG_succ p k)
    by_cases hlt : k < 13
    · have hlt' : (k : Int) < 13 := by omega
      have hix := HIX.out k hlt
      cases q : p k
      · rw [q] at hix
        have HS2 := hideG (show askG p (k + 1) = askG p k by rw [HSU.out, q]; simp)
        clear q
        go_wp2_with fail
        go_roundw
        case rel => exact ⟨k + 1, by omega, by go_num, by rw [HS2.out]; exact HO.out, HB.out⟩
        case measure => simp [intOf]; omega
      · rw [q] at hix
        have HS2 := hideG (show askG p (k + 1) = askG p k ++ [((k : Int), (0 : Int), (0 : Int), (0 : Int))] by rw [HSU.out, q]; simp)
        clear q
        go_wp2_with (at_builtin; refine wpList_append_own _ rfl _ _ 63 rfl w.heap.size 147 i1 (.agg #[.int .i64 0, .int .i64 0, .int .i64 0, .int .i64 0]) 4 32 Tryz.underlying63 hi1 hy0 hy1 hy2 rfl (by decide) _ _ _ rfl (HO.out.alloc _) ⟨wr.heap.size, 0, none⟩ 1 1 [.int .i64 k, .int .i64 0, .int .i64 0, .int .i64 0] rfl rfl ?c1 ?c2 ?c3 ?c4 ?c5 ?_)
        case c1 => exact cell_four_new _ _ _ _ _ _
        case c2 => intro u hu; simp at hu; rcases hu with rfl | rfl | rfl | rfl <;> rfl
        case c3 => unfold maxLen; omega
        case c4 => omega
        case c5 => simp; omega
        intro v' w4 hown' hgrow' _
        have hb4 := (HB.out.alloc hsz _).grown hgrow' (by simp; omega) (fun y hy => (HO.out.lt y hy).1)
        have B4 := hideG hb4
        have O4 := hideG (show w4.ownsRow w.heap.size 147 4 v' (askG p (k + 1)).length (flat4 (askG p (k + 1))) by
          rw [HS2.out, flat4_append, List.length_append]; exact hown')
        clear hown' hgrow' hb4
        go_wp2_with fail
        go_roundw
        case rel => exact ⟨k + 1, by omega, by go_num, O4.out, B4.out⟩
        case measure => simp [intOf]; omega
    · have ek : k = 13 := by omega
      subst ek
      go_wp2_with fail
      go_ret
      exact ⟨_, rfl, HO.out, HB.out⟩
end Go.Proofs.YtchideljndagjabGreat
