/- Contracts of the program's session: receive, Inject, Crash, Released, Outcome. -/
import Derived.Test.YtchideljndagjabGreatPkQuAZ
import Derived.Laws.Cover3
namespace Go.Proofs.YtchideljndagjabGreat
open Go.ChangeShapes Go.WideShapes Go.ChangeAt Go.RowKit
set_option linter.unusedVariables false

set_option maxHeartbeats 1000000 in
set_option maxRecDepth 100000 in
/-- A client that was crashed takes nothing. -/
theorem take_gone (b oo : Nat) (S : PS) (v : Value) (zs : List Int) (w : World) (h : Co.PSAt w b oo S) (hp : S.ph = 0) (hv : BytesAt w v zs) :
    Calls Tryz.prog 141 #[.pointer (some ⟨b, oo, none⟩), v] w fun e w' => e = .returned (.slice none 0 0) ∧ Below w.heap.size w w' := by
  have hbl := h.lt
  have HD := hideG (decode_calls v zs w hv)
  have c1 := h.c1
  rw [hp] at c1
  obtain ⟨az, cz, rfl, -, -, hB, -⟩ := bytes_view hv
  clear hv h hp
  cases hd : Frm.decF zs with
  | none =>
    obtain ⟨x1, x2, x3, x4⟩ := d_none hd
    rw [x1, x2, x3, x4] at HD
    clear x1 x2 x3 x4 hd c1 hB
    go_enter Tryz.func141, Tryz.ntmps141
    go_wp2_with fail
    refine HD.out.mono ?_
    rintro e w1 ⟨va, rfl, hown, hb⟩
    obtain ⟨a', c', hv'⟩ := owns_form hown
    subst hv'
    have HB := hideG hb
    clear hown hb
    go_wp2_with fail
    go_ret
    exact ⟨rfl, HB.out.alloc HB.out.size _⟩
  | some f =>
    obtain ⟨k, fr, l⟩ := f
    obtain ⟨x1, x2, x3, x4⟩ := d_some hd
    rw [x1, x2, x3, x4] at HD
    clear x1 x2 x3 x4 hd hB
    go_enter Tryz.func141, Tryz.ntmps141
    go_wp2_with fail
    refine HD.out.mono ?_
    rintro e w1 ⟨va, rfl, hown, hb⟩
    obtain ⟨a', c', hv'⟩ := owns_form hown
    subst hv'
    have s1 := hb.size
    have al : ∀ (ob : Obj), (w1.alloc ob).cell? ⟨b, oo + 1, none⟩ = some (.int .i64 0) := fun ob => by
      rw [((Below.refl w1.heap.size w1).alloc (Nat.le_refl _) ob).cell (p := ⟨b, oo + 1, none⟩) (by show b < _; omega), hb.cell (p := ⟨b, oo + 1, none⟩) hbl]; exact c1
    have HB := hideG hb
    clear hown hb c1
    go_wp2_with fail
    go_ret
    exact ⟨rfl, HB.out.alloc HB.out.size _⟩

theorem updA_self {α : Type} (f : Nat → α) (i : Nat) : updA f i (f i) = f := by
  funext j; unfold updA; split
  · rename_i e; rw [e]
  · rfl

set_option maxHeartbeats 1000000 in
set_option maxRecDepth 100000 in
theorem receive_srv (b n : Nat) (C : Srv.Cf) (cl : Nat → Cli.Cl) (s : Sn) (m : SM) (d : Int) (v : Value) (zs : List Int) (w : World) (h : SesAt w b n C cl s m) (ok : SnOk C cl n s) (hd : ¬ (1 ≤ d ∧ d ≤ (n : Int))) (hv : BytesAt w v zs) :
    Calls Tryz.prog 76 #[.pointer (some ⟨b, 0, none⟩), .int .i64 d, v] w fun e w' => e = .returned (.tuple #[]) ∧ ∃ m', SesTook w w' b n C cl (rcv0 C s zs) m m' := by
  have HC := hideG (isClient_calls b n C cl s m d w h)
  rw [decide_eq_false hd] at HC
  have HT := hideG (sTake_calls b C s.q m.S v zs w h.srv ok.sok hv)
  have HS := hideG (fun (w' : World) (S' : SS) (t : STook w w' b C (sstepD C s.q zs) m.S S') => h.turnS t)
  obtain ⟨az, cz, rfl, -⟩ := bytes_view hv
  have hb := h.blt
  clear h ok hd hv
  generalize scntD C s.q zs = cn at *
  generalize zs.length = nz at *
  go_enter Tryz.func76, Tryz.ntmps76
  go_wp2_with fail
  refine HC.out.mono ?_
  rintro e w1 ⟨rfl, hw1⟩
  rw [hw1]
  clear hw1 w1
  go_wp2_with fail
  refine HT.out.mono ?_
  rintro e w2 ⟨rfl, S', t⟩
  have FIN := hideG (HS.out w2 S' t)
  clear t
  go_wp2_with fail
  (try simp only [Exit.inBlock, Exit.then])
  refine bodyPost_ret (results_none rfl _ _ _) rfl ?_
  exact ⟨rfl, _, FIN.out⟩

/-- A client has answered: the answer is sent. -/
theorem ses_answered {w w1 w2 : World} {b n i : Nat} {C : Srv.Cf} {cl : Nat → Cli.Cl} {s s1 s2 : Sn} {m m1 m2 : SM} {va : Value} (h : SesTook w w1 b n C cl s1 m m1) (k : SesSent w1 w2 b n C cl s2 m1 m2 va) (hva : ∀ x, va.ownBlock = some x → w.heap.size ≤ x) : SesTook w w2 b n C cl s2 m m2 := by
  have z := h.chg.size
  refine ⟨k.ses, h.chg.trans k.chg (fun x e hx => (h.own x e).elim id (fun q => by omega)), fun x hx => ?_, fun x hx => ?_⟩
  · rcases k.own x hx with e | e
    · exact h.own x e
    · exact .inr (by omega)
  · rcases k.foot x hx with e | e | e
    · exact h.foot x e
    · exact .inr (by omega)
    · exact .inr (hva x e)

theorem ansD_okS {c : Cli.Cl} (hc : Cli.Good c) {s : Cli.St} {zs : List Int} (hB : Frm.isB zs) {f : Cli.Fr} (h : ansD c s zs = some f) : Frm.okF f.1 f.2.1 f.2.2 = true := by
  cases hd : Frm.decF zs with
  | none => rw [(stepD_none hd).2] at h; cases h
  | some g =>
    obtain ⟨k, fr, l⟩ := g
    by_cases k1 : s.1 = 1 ∧ k = 2
    · obtain ⟨p1, rfl⟩ := k1
      rw [(stepD_keys (c := c) hd p1).2] at h
      split at h
      · cases h; exact Cli.sharing_ok hc (Frm.okF_parts (Frm.enc_dec hB hd).1).2.2.1
      · cases h
    by_cases k2 : s.1 = 2 ∧ k = 4
    · obtain ⟨p1, rfl⟩ := k2
      rw [(stepD_box (c := c) hd p1).2] at h
      split at h
      · cases h; exact Cli.masking_ok hc _ _
      · cases h
    by_cases k3 : s.1 = 3 ∧ k = 6
    · obtain ⟨p1, rfl⟩ := k3
      rw [(stepD_ask (c := c) hd p1).2] at h
      split at h
      · cases h; exact Cli.tells_ok hc _ _ _
      · cases h
    rw [(stepD_rest (c := c) hd k1 k2 k3).2] at h
    cases h
theorem ansE_isB' {c : Cli.Cl} (hc : Cli.Good c) {s : Cli.St} {zs : List Int} (hB : Frm.isB zs) : ∀ f, ansD c s zs = some f → Frm.isB (Frm.encF f.1 f.2.1 f.2.2) := fun f e => encF_isB (ansD_okS hc hB e)
theorem encF_pos (k fr : Int) (l : List Frm.It) : 0 < (Frm.encF k fr l).length := by rw [Frm.encF_length]; unfold Frm.size; omega

set_option maxHeartbeats 2000000 in
set_option maxRecDepth 100000 in
theorem receive_cli (b n i : Nat) (C : Srv.Cf) (cl : Nat → Cli.Cl) (s : Sn) (m : SM) (v : Value) (zs : List Int) (w : World) (h : SesAt w b n C cl s m) (ok : SnOk C cl n s) (hi : i < n) (hv : BytesAt w v zs) :
    Calls Tryz.prog 76 #[.pointer (some ⟨b, 0, none⟩), .int .i64 ((i : Int) + 1), v] w fun e w' => e = .returned (.tuple #[]) ∧ ∃ m', SesTook w w' b n C cl (rcvC cl s i zs) m m' := by
  have HC := hideG (isClient_calls b n C cl s m ((i : Int) + 1) w h)
  rw [decide_eq_true (show 1 ≤ (i : Int) + 1 ∧ (i : Int) + 1 ≤ (n : Int) by omega)] at HC
  have n12 : n ≤ 12 := by have := ok.gc.n; have := ok.num; omega
  have c76 := h.c76
  have hb := h.blt
  have hlc := h.lcb
  have hcc := h.ncc
  have hgood := ok.good i hi
  have hzB := bytes_view hv
  have hcat := h.cli i hi
  obtain ⟨az, cz, hv', -, -, hB, -⟩ := bytes_view hv
  cases hg : s.gone i
  · have hlive := hcat.live hg
    have HT := hideG (Co.take_calls m.cb (i * 78) (cl i) (s.cs i) (m.P i) v zs w hgood hlive hv)
    have e1 : rcvC cl s i zs = { s with cs := updA s.cs i (stepD (cl i) (s.cs i) zs), fl := s.fl ++ ansP i (ansD (cl i) (s.cs i) zs) } := by unfold rcvC; rw [if_neg (by rw [hg]; exact Bool.false_ne_true)]
    have HS := hideG (fun (w' : World) (P' : PS) (t : Co.Took w w' m.cb (i * 78) (cl i) (stepD (cl i) (s.cs i) zs) (m.P i) P') => (show SesTook w w' b n C cl { s with cs := updA s.cs i (stepD (cl i) (s.cs i) zs) } m { m with P := updA m.P i P' } from by
      have k := h.turnC hi (g' := false) (st' := stepD (cl i) (s.cs i) zs) (P' := P') t.chg ⟨fun _ => t.cli, fun e => by cases e⟩ t.foot
      have e : updA s.gone i false = s.gone := by rw [← hg]; exact updA_self _ _
      rw [e] at k; exact k))
    have HL := hideG (show s.fl.length ≤ 2000 by have := ok.fl; omega)
    have HFOOT := hideG (show ∀ x, SesOwn b m x → x < w.heap.size from fun x hx => h.low (.inl hx))
    have hz := ansE_isB' hgood (s := s.cs i) hB
    rw [e1]
    rw [hv'] at HT ⊢
    have HO := hideG hz
    clear h ok hv hg hcat hlive hgood e1 hv' hzB hB hz
    obtain ⟨o, ho⟩ : ∃ o, o = ansD (cl i) (s.cs i) zs := ⟨_, rfl⟩
    rw [← ho] at HT HO ⊢
    have HOE := hideG ho
    clear ho
    generalize zs.length = nz at *
    go_enter Tryz.func76, Tryz.ntmps76
    go_wp2_with fail
    refine HC.out.mono ?_
    rintro e w1 ⟨rfl, hw1⟩
    rw [hw1]
    clear hw1 w1
    have hil' : (i : Int) < (n : Int) := by omega
    have hi0 : (0 : Int) ≤ (i : Int) := by omega
    go_wp2_with fail
    refine HT.out.mono ?_
    rintro e w2 ⟨va, rfl, P', t, hans⟩
    have ST := hideG (HS.out w2 P' t)
    have TF := hideG t.cli.low
    cases o with
    | none =>
      have hva : va = .slice none 0 0 := hans
      subst hva
      have FIN := hideG (show ∃ m', SesTook w w2 b n C cl { s with cs := updA s.cs i (stepD (cl i) (s.cs i) zs), fl := s.fl ++ ansP i none } m m' from ⟨_, by rw [show s.fl ++ ansP i none = s.fl from List.append_nil _]; exact ST.out⟩)
      clear hans t
      go_wp2_with fail
      go_end0
      exact ⟨rfl, FIN.out⟩
    | some f =>
      obtain ⟨hown, hnf⟩ := hans
      have hpos := encF_pos f.1 f.2.1 f.2.2
      have hfm : ∃ g cap, va = .slice (some ⟨g, 0, none⟩) (Frm.encF f.1 f.2.1 f.2.2).length cap := by
        rcases hown.2 with ⟨_, hn⟩ | ⟨g, cap, cur, e0, _⟩
        · omega
        · exact ⟨g, cap, e0⟩
      have hlt := hown.lt
      have hbv := bytesAt_of_owns hown (HO.out f rfl)
      have hz2 := t.chg.size
      have HSE := hideG (send_calls b n C cl _ _ ((i : Int) + 1) va (Frm.encF f.1 f.2.1 f.2.2) w2 ST.out.ses hbv (fun x hx => ⟨(hlt x hx).2, fun ho => by
        have q := (hlt x hx).1
        have ho' : SesOwn b m x := ho
        have := HFOOT.out x ho'
        omega⟩) HL.out)
      have HVA := hideG (fun x (hx : va.ownBlock = some x) => (hlt x hx).1)
      obtain ⟨g, cap, hva⟩ := hfm
      rw [hva] at HSE HVA ⊢
      clear hown hnf hlt hbv t hva hpos
      generalize (Frm.encF f.1 f.2.1 f.2.2).length = ln at *
      go_wp2_with fail
      refine HSE.out.mono ?_
      rintro e w3 ⟨rfl, m3, hse⟩
      have FIN := hideG (ses_answered (i := i) (s := s) ST.out hse HVA.out)
      clear hse
      go_wp2_with fail
      go_end0
      exact ⟨rfl, _, FIN.out⟩
  · have hdead := hcat.dead hg
    have HT := hideG (take_gone m.cb (i * 78) (m.P i) v zs w hdead.at_ hdead.ph hv)
    have e1 : rcvC cl s i zs = s := by unfold rcvC; rw [if_pos hg]
    have HS := hideG (fun (w' : World) (hb : Below w.heap.size w w') => sesTook_same h hb)
    rw [e1]
    rw [hv'] at HT ⊢
    clear h ok hv hg hcat hdead hgood e1 hv' hzB hB
    generalize zs.length = nz at *
    go_enter Tryz.func76, Tryz.ntmps76
    go_wp2_with fail
    refine HC.out.mono ?_
    rintro e w1 ⟨rfl, hw1⟩
    rw [hw1]
    clear hw1 w1
    have hil' : (i : Int) < (n : Int) := by omega
    have hi0 : (0 : Int) ≤ (i : Int) := by omega
    go_wp2_with fail
    refine HT.out.mono ?_
    rintro e w2 ⟨rfl, hb2⟩
    have FIN := hideG (HS.out w2 hb2)
    clear hb2
    go_wp2_with fail
    go_end0
    exact ⟨rfl, _, FIN.out⟩

theorem rcv_srv {C : Srv.Cf} {cl : Nat → Cli.Cl} {n : Nat} {s : Sn} {d : Int} {zs : List Int} (h : ¬ (1 ≤ d ∧ d ≤ (n : Int))) : rcv C cl n s d zs = rcv0 C s zs := if_neg h
theorem rcv_cli {C : Srv.Cf} {cl : Nat → Cli.Cl} {n i : Nat} {s : Sn} {zs : List Int} (h : i < n) : rcv C cl n s ((i : Int) + 1) zs = rcvC cl s i zs := by
  unfold rcv
  rw [if_pos (by omega)]
  congr 1
/-- Bytes come to whom they are for. -/
theorem receive_calls (b n : Nat) (C : Srv.Cf) (cl : Nat → Cli.Cl) (s : Sn) (m : SM) (d : Int) (v : Value) (zs : List Int) (w : World) (h : SesAt w b n C cl s m) (ok : SnOk C cl n s) (hv : BytesAt w v zs) :
    Calls Tryz.prog 76 #[.pointer (some ⟨b, 0, none⟩), .int .i64 d, v] w fun e w' => e = .returned (.tuple #[]) ∧ ∃ m', SesTook w w' b n C cl (rcv C cl n s d zs) m m' := by
  by_cases hd : 1 ≤ d ∧ d ≤ (n : Int)
  · obtain ⟨i, rfl⟩ : ∃ i : Nat, d = (i : Int) + 1 := ⟨d.toNat - 1, by omega⟩
    rw [rcv_cli (by omega)]
    exact receive_cli b n i C cl s m v zs w h ok (by omega) hv
  · rw [rcv_srv hd]
    exact receive_srv b n C cl s m d v zs w h ok hd hv

set_option maxHeartbeats 1000000 in
set_option maxRecDepth 100000 in
theorem inject_calls (b n : Nat) (C : Srv.Cf) (cl : Nat → Cli.Cl) (s : Sn) (m : SM) (d : Int) (v : Value) (zs : List Int) (w : World) (h : SesAt w b n C cl s m) (ok : SnOk C cl n s) (hv : BytesAt w v zs) :
    Calls Tryz.prog 44 #[.pointer (some ⟨b, 0, none⟩), .int .i64 d, v] w fun e w' => (0 ≤ d ∧ d ≤ (n : Int) → e = .returned (.int .i64 0) ∧ ∃ m', SesTook w w' b n C cl (rcv C cl n s d zs) m m') ∧ (¬ (0 ≤ d ∧ d ≤ (n : Int)) → e = .returned (.int .i64 7) ∧ w' = w) := by
  have HC := hideG (isClient_calls b n C cl s m d w h)
  have HR := hideG (receive_calls b n C cl s m d v zs w h ok hv)
  obtain ⟨az, cz, rfl, -⟩ := bytes_view hv
  clear h ok hv
  generalize zs.length = nz at *
  by_cases h0 : d = 0
  · subst h0
    have hin : (0 : Int) ≤ 0 ∧ (0 : Int) ≤ (n : Int) := by omega
    have HI := hideG hin
    clear hin
    go_enter Tryz.func44, Tryz.ntmps44
    go_wp2_with fail
    refine HR.out.mono ?_
    rintro e w2 ⟨rfl, m', t⟩
    have FIN := hideG t
    clear t
    go_wp2_with fail
    go_ret
    exact ⟨fun _ => ⟨rfl, m', FIN.out⟩, fun q => absurd HI.out q⟩
  · have hne : (d != 0) = true := by simpa using h0
    by_cases h1 : 1 ≤ d ∧ d ≤ (n : Int)
    · rw [decide_eq_true h1] at HC
      have HI := hideG (show 0 ≤ d ∧ d ≤ (n : Int) by omega)
      clear h1 h0
      go_enter Tryz.func44, Tryz.ntmps44
      go_wp2_with fail
      refine HC.out.mono ?_
      rintro e w1 ⟨rfl, hw1⟩
      rw [hw1]
      clear hw1
      go_wp2_with fail
      refine HR.out.mono ?_
      rintro e w2 ⟨rfl, m', t⟩
      have FIN := hideG t
      clear t
      go_wp2_with fail
      go_ret
      exact ⟨fun _ => ⟨rfl, m', FIN.out⟩, fun q => absurd HI.out q⟩
    · rw [decide_eq_false h1] at HC
      have HI := hideG (show ¬ (0 ≤ d ∧ d ≤ (n : Int)) by omega)
      clear h1 h0
      go_enter Tryz.func44, Tryz.ntmps44
      go_wp2_with fail
      refine HC.out.mono ?_
      rintro e w1 ⟨rfl, hw1⟩
      rw [hw1]
      clear hw1
      go_wp2_with fail
      go_ret
      exact ⟨fun q => absurd q HI.out, fun _ => ⟨rfl, rfl⟩⟩

/-- A client was crashed: it is so in memory. -/
theorem cat_crash {w w' : World} {b o : Nat} {c : Cli.Cl} {g : Bool} {s : Cli.St} {S : PS} (h : CAt w b o c g s S) (hp : Co.PSAt w' b o (Co.goneS S)) (hc : Co.ChgC b o w w') (hap : S.told.ownBlock ≠ some b) : CAt w' b o c true s (Co.goneS S) ∧ ∀ x, CFoot b (Co.goneS S) x → CFoot b S x ∨ w.heap.size ≤ x := by
  have z := hc.size
  have ft : ∀ x, CFoot b (Co.goneS S) x → CFoot b S x := fun x hx => by
    rcases hx with hx | hx | hx | hx | hx
    · exact .inl hx
    · change (Value.slice none 0 0).ownBlock = some x at hx; cases hx
    · change (Value.slice none 0 0).ownBlock = some x at hx; cases hx
    · change (Value.slice none 0 0).ownBlock = some x at hx; cases hx
    · exact .inr (.inr (.inr (.inr hx)))
  have ti : ItemsAt w' (Co.goneS S).told (relL c s) := h.told.keep z (fun x hx => hc.block x (h.low x (.inr (.inr (.inr (.inr hx))))) (fun e => hap (e ▸ hx)))
  exact ⟨⟨fun e => (by cases e), fun _ => ⟨hp, rfl, ti, ⟨rfl, rfl, rfl⟩, hap, fun x hx => Nat.lt_of_lt_of_le (h.low x (ft x hx)) z⟩⟩, fun x hx => .inl (ft x hx)⟩
theorem CAt.tapart {w : World} {b o : Nat} {c : Cli.Cl} {g : Bool} {s : Cli.St} {S : PS} (h : CAt w b o c g s S) : S.told.ownBlock ≠ some b := by
  cases g
  · exact (h.live rfl).cli.apart.2.2.2
  · exact (h.dead rfl).apart

set_option maxHeartbeats 1000000 in
set_option maxRecDepth 100000 in
theorem scrash_calls (b n : Nat) (C : Srv.Cf) (cl : Nat → Cli.Cl) (s : Sn) (m : SM) (u : Int) (w : World) (h : SesAt w b n C cl s m) (hn : n ≤ 12) :
    Calls Tryz.prog 69 #[.pointer (some ⟨b, 0, none⟩), .int .i64 u] w fun e w' => (∀ i : Nat, i < n → u = (i : Int) + 1 → e = .returned (.int .i64 0) ∧ ∃ m', SesTook w w' b n C cl (crashN s i) m m') ∧ (¬ (1 ≤ u ∧ u ≤ (n : Int)) → e = .returned (.int .i64 7) ∧ w' = w) := by
  have HC := hideG (isClient_calls b n C cl s m u w h)
  by_cases h1 : 1 ≤ u ∧ u ≤ (n : Int)
  · rw [decide_eq_true h1] at HC
    obtain ⟨i, rfl⟩ : ∃ i : Nat, u = (i : Int) + 1 := ⟨u.toNat - 1, by omega⟩
    have hi : i < n := by omega
    have hcat := h.cli i hi
    obtain ⟨ta, tc, htv, -⟩ := items_view hcat.told
    have HK := hideG (Co.crash_calls m.cb (i * 78) (m.P i) w hcat.at_ ⟨_, _, _, htv⟩)
    have HS := hideG (fun (w' : World) (hp : Co.PSAt w' m.cb (i * 78) (Co.goneS (m.P i))) (hc : Co.ChgC m.cb (i * 78) w w') => (show ∃ m', SesTook w w' b n C cl (crashN s i) m m' from by
      obtain ⟨k1, k2⟩ := cat_crash hcat hp hc hcat.tapart
      have k := h.turnC hi (g' := true) (st' := s.cs i) hc k1 k2
      rw [updA_self] at k
      exact ⟨_, k⟩))
    have c76 := h.c76
    have hb := h.blt
    have hlc := h.lcb
    have hcc := h.ncc
    have HI := hideG (And.intro h1 hi)
    clear h h1 hcat htv
    have hil' : (i : Int) < (n : Int) := by omega
    have hi0 : (0 : Int) ≤ (i : Int) := by omega
    go_enter Tryz.func69, Tryz.ntmps69
    go_wp2_with fail
    refine HC.out.mono ?_
    rintro e w1 ⟨rfl, hw1⟩
    rw [hw1]
    clear hw1
    go_wp2_with fail
    refine HK.out.mono ?_
    rintro e w2 ⟨rfl, hp, hc⟩
    have FIN := hideG (HS.out w2 hp hc)
    clear hp hc
    go_wp2_with fail
    go_ret
    refine ⟨fun j hj e => ?_, fun q => absurd HI.out.1 q⟩
    have : j = i := by omega
    subst this
    exact ⟨rfl, FIN.out⟩
  · rw [decide_eq_false h1] at HC
    have HI := hideG h1
    have HN := hideG hn
    clear h h1 hn
    go_enter Tryz.func69, Tryz.ntmps69
    go_wp2_with fail
    refine HC.out.mono ?_
    rintro e w1 ⟨rfl, hw1⟩
    rw [hw1]
    clear hw1
    go_wp2_with fail
    go_ret
    exact ⟨fun j hj e => absurd (show 1 ≤ u ∧ u ≤ (n : Int) by omega) HI.out, fun _ => ⟨rfl, rfl⟩⟩

/-- What client u has told. -/
def relN (cl : Nat → Cli.Cl) (n : Nat) (s : Sn) (u : Int) : List Frm.It := if 1 ≤ u ∧ u ≤ (n : Int) then relL (cl (u.toNat - 1)) (s.cs (u.toNat - 1)) else []

set_option maxHeartbeats 1000000 in
set_option maxRecDepth 100000 in
theorem sreleased_calls (b n : Nat) (C : Srv.Cf) (cl : Nat → Cli.Cl) (s : Sn) (m : SM) (u : Int) (w : World) (h : SesAt w b n C cl s m) (ok : SnOk C cl n s) :
    Calls Tryz.prog 77 #[.pointer (some ⟨b, 0, none⟩), .int .i64 u] w fun e w' => ∃ va, e = .returned va ∧ w'.ownsRow w.heap.size 147 4 va (relN cl n s u).length (flat4 (relN cl n s u)) ∧ Below w.heap.size w w' := by
  have HC := hideG (isClient_calls b n C cl s m u w h)
  have n12 : n ≤ 12 := by have := ok.gc.n; have := ok.num; omega
  by_cases h1 : 1 ≤ u ∧ u ≤ (n : Int)
  · rw [decide_eq_true h1] at HC
    obtain ⟨i, rfl⟩ : ∃ i : Nat, u = (i : Int) + 1 := ⟨u.toNat - 1, by omega⟩
    have hi : i < n := by omega
    have hcat := h.cli i hi
    have e1 : relN cl n s ((i : Int) + 1) = relL (cl i) (s.cs i) := by unfold relN; rw [if_pos h1, show ((i : Int) + 1).toNat - 1 = i by omega]
    rw [e1]
    have HK := hideG (Co.released_calls m.cb (i * 78) (m.P i) _ w hcat.at_ hcat.told (relL_len (ok.good i hi) _))
    have c76 := h.c76
    have hb := h.blt
    have hlc := h.lcb
    have hcc := h.ncc
    clear h h1 hcat ok e1
    have hil' : (i : Int) < (n : Int) := by omega
    have hi0 : (0 : Int) ≤ (i : Int) := by omega
    generalize relL (cl i) (s.cs i) = L at *
    go_enter Tryz.func77, Tryz.ntmps77
    go_wp2_with fail
    refine HC.out.mono ?_
    rintro e w1 ⟨rfl, hw1⟩
    rw [hw1]
    clear hw1
    go_wp2_with fail
    refine HK.out.mono ?_
    rintro e w2 ⟨va, rfl, hown, hb2⟩
    have FIN := hideG (And.intro hown hb2)
    obtain ⟨a3, c3, hv3⟩ := owns_form hown
    subst hv3
    clear hown hb2
    go_wp2_with fail
    go_ret
    exact ⟨_, rfl, FIN.out⟩
  · rw [decide_eq_false h1] at HC
    have e1 : relN cl n s u = [] := by unfold relN; rw [if_neg h1]
    rw [e1]
    clear h h1 ok e1
    go_enter Tryz.func77, Tryz.ntmps77
    go_wp2_with fail
    refine HC.out.mono ?_
    rintro e w1 ⟨rfl, hw1⟩
    rw [hw1]
    clear hw1
    go_wp2_with fail
    go_ret
    exact ⟨_, rfl, World.ownsRow_nil _ _ _ _, Below.refl _ _⟩

end Go.Proofs.YtchideljndagjabGreat

namespace Go.Proofs.YtchideljndagjabGreat
open Go.ChangeShapes Go.WideShapes Go.ChangeAt Go.RowKit
set_option linter.unusedVariables false

def er {α : Type} (l : List α) (i j : Nat) : List α := (l.take j).eraseIdx i
theorem er_zero {α : Type} (l : List α) (i : Nat) : er l i 0 = [] := by unfold er; simp
theorem er_skip {α : Type} (l : List α) (i : Nat) (hi : i < l.length) : er l i (i + 1) = er l i i := by
  unfold er
  rw [List.take_succ_eq_append_getElem hi, List.eraseIdx_append_of_length_le (by rw [List.length_take]; omega), List.length_take, Nat.min_eq_left (by omega), Nat.sub_self]
  rw [List.eraseIdx_of_length_le (l := List.take i l) (by rw [List.length_take]; omega)]
  simp
theorem er_next {α : Type} (l : List α) (i j : Nat) (hj : j < l.length) (h : j ≠ i) : er l i (j + 1) = er l i j ++ [l[j]] := by
  unfold er
  rw [List.take_succ_eq_append_getElem hj]
  by_cases q : i < j
  · rw [List.eraseIdx_append_of_lt_length (by rw [List.length_take]; omega)]
  · rw [List.eraseIdx_of_length_le (by rw [List.length_append, List.length_take]; simp; omega), List.eraseIdx_of_length_le (by rw [List.length_take]; omega)]
theorem er_end {α : Type} (l : List α) (i : Nat) : er l i l.length = l.eraseIdx i := by unfold er; rw [List.take_length]
theorem er_le {α : Type} (l : List α) (i j : Nat) : (er l i j).length ≤ l.length := by
  unfold er
  have h1 := List.length_eraseIdx_le (l.take j) i
  have h2 := List.length_take_le' j l
  omega
theorem er_len {α β : Type} (l : List α) (k : List β) (i j : Nat) (h : l.length = k.length) : (er l i j).length = (er k i j).length := by
  unfold er; rw [List.length_eraseIdx, List.length_eraseIdx, List.length_take, List.length_take, h]
theorem erase_mem {α : Type} {l : List α} {i : Nat} {x : α} (h : x ∈ l.eraseIdx i) : x ∈ l := List.mem_of_mem_eraseIdx h
theorem FlAt.erase {w w' : World} {v v' : Value} {vs : List Value} {ps : List Pk} (h : FlAt w v vs ps) (i : Nat) (hb : Below w.heap.size w w') (hr : w'.ownsRow w.heap.size 49 3 v' (ps.eraseIdx i).length (packV (ps.eraseIdx i) (vs.eraseIdx i))) : FlAt w' v' (vs.eraseIdx i) (ps.eraseIdx i) := by
  refine ⟨by rw [List.length_eraseIdx, List.length_eraseIdx, h.len], ownsRow_base hr (Nat.zero_le _), fun j x p hx hp => ?_, fun x hx g hg => Nat.lt_of_lt_of_le (h.low x (erase_mem hx) g hg) hb.size, fun x hx g hg e => ?_⟩
  · rw [List.getElem?_eraseIdx] at hx hp
    have hm : ∃ k : Nat, vs[k]? = some x ∧ ps[k]? = some p := by
      split at hx
      · rename_i q
        rw [if_pos q] at hp
        exact ⟨j, hx, hp⟩
      · rename_i q
        rw [if_neg q] at hp
        exact ⟨j + 1, hx, hp⟩
    obtain ⟨k, k1, k2⟩ := hm
    exact (h.each k x p k1 k2).keepS hb.size (fun g hg => hb.block g (h.low x (List.mem_of_getElem? k1) g hg))
  · have a := h.low x (erase_mem hx) g hg
    have c := (hr.lt g e).1
    omega

/-- The flight less a parcel, laid into the session. -/
theorem SesAt.removed {w wr w' : World} {b n : Nat} {C : Srv.Cf} {cl : Nat → Cli.Cl} {s : Sn} {m : SM} (h : SesAt w b n C cl s m) (i : Nat) {v' : Value} (hb : Below w.heap.size w wr) (hr : wr.ownsRow w.heap.size 49 3 v' (s.fl.eraseIdx i).length (packV (s.fl.eraseIdx i) (m.vs.eraseIdx i))) (hw' : w' = wr.setCell ⟨b, 77, none⟩ v') :
    ∃ m', SesTook w w' b n C cl { s with fl := s.fl.eraseIdx i } m m' := by
  have hf := h.fl.erase i hb hr
  have R := h.turnF (Chg.of_below hb) hf hw' (fun x hx => .inr (hr.lt x hx).1) (fun y hy x hx => ⟨fun e => h.ap x (.inr (.inr ⟨y, erase_mem hy, hx⟩)) (.inl e), fun e => h.ap x (.inr (.inr ⟨y, erase_mem hy, hx⟩)) (.inr (.inl e))⟩)
  obtain ⟨r1, r2, r3, r4⟩ := R
  refine ⟨_, r1, r2, r3, fun x hx => ?_⟩
  rcases r4 x hx with k | k | ⟨y, hy, k⟩
  · exact .inl k
  · exact .inr k
  · exact .inl (.inr (.inr (.inr ⟨y, erase_mem hy, k⟩)))

set_option maxHeartbeats 2000000 in
set_option maxRecDepth 100000 in
theorem remove_calls (b n i : Nat) (C : Srv.Cf) (cl : Nat → Cli.Cl) (s : Sn) (m : SM) (w : World) (h : SesAt w b n C cl s m) (hi : i < s.fl.length) (hlen : s.fl.length ≤ 2000) :
    Calls Tryz.prog 131 #[.pointer (some ⟨b, 0, none⟩), .int .i64 (i : Int)] w fun e w' => e = .returned (.tuple #[]) ∧ ∃ m', SesTook w w' b n C cl { s with fl := s.fl.eraseIdx i } m m' := by
  have c77 := h.c77
  have f77 := h.f77
  have hb := h.blt
  obtain ⟨a, c, hv, hkc, hcm, hel⟩ := h.fl.view
  rw [hv] at c77
  have HEL := hideG hel
  have HR := hideG (fun (wr w' : World) (v' : Value) hb hr hw' => h.removed (wr := wr) (w' := w') (v' := v') i hb hr hw')
  have HLEN := hideG h.fl.len
  obtain ⟨i1, hi1, hy0, hy1, hy2⟩ := info_parts infoPk
  obtain ⟨ps, hps⟩ : ∃ ps, ps = s.fl := ⟨_, rfl⟩
  obtain ⟨vs, hvs⟩ : ∃ vs, vs = m.vs := ⟨_, rfl⟩
  rw [← hps, ← hvs] at HR HEL HLEN
  rw [← hps] at c77 hkc hi hlen ⊢
  clear h hv hel hps hvs
  have HEND := hideG (And.intro (er_end ps i) (show er vs i ps.length = vs.eraseIdx i by rw [← HLEN.out]; exact er_end vs i))
  have HZ := hideG (And.intro (er_zero ps i) (er_zero vs i))
  have HSK := hideG (And.intro (er_skip ps i hi) (er_skip vs i (by rw [HLEN.out]; exact hi)))
  have HNX := hideG (fun j (hj : j < ps.length) (hne : j ≠ i) => And.intro (er_next ps i j hj hne) (er_next vs i j (by rw [HLEN.out]; exact hj) hne))
  have HEQ := hideG (fun j => er_len vs ps i j HLEN.out)
  have HLE := hideG (fun j => (show (er ps i j).length ≤ 2000 from Nat.le_trans (er_le ps i j) hlen))
  obtain ⟨k, hk⟩ : ∃ k, k = ps.length := ⟨_, rfl⟩
  rw [← hk] at c77 hkc hi hlen HEND
  have HK := hideG hk
  clear hk
  go_enter Tryz.func131, Tryz.ntmps131
  go_wp2_with fail
  go_loopw [4, 12] (fun r x wr => ∃ j : Nat, j ≤ k ∧ x = .int .i64 j ∧ wr.ownsRow w.heap.size 49 3 r (er ps i j).length (packV (er ps i j) (er vs i j)) ∧ Below w.heap.size w wr) (fun _ x _ => k - (intOf x).toNat)
  case atStart => exact ⟨0, Nat.zero_le _, rfl, by rw [HZ.out.1, HZ.out.2]; exact World.ownsRow_nil _ _ _ _, Below.refl _ _⟩
  case round =>
    obtain ⟨j, hj, rfl, hown, hbw⟩ := hrel
    have HO := hideG hown
    have HB := hideG hbw
    have sw := hbw.size
    obtain ⟨ar, cr, hvr⟩ := owns_form hown
    subst hvr
    clear hown hbw
    by_cases hlt : j < k
    · have hjp : j < ps.length := by rw [← HK.out]; exact hlt
      obtain ⟨g, y, hag, hgl, hyv, x0, x1, x2, hyb⟩ := HEL.out j _ (List.getElem?_eq_getElem hjp)
      subst hag
      obtain ⟨ay, cy, hyy, -⟩ := bytes_view hyb
      obtain ⟨nb, hnb⟩ : ∃ nb, nb = ps[j].2.2.length := ⟨_, rfl⟩
      rw [← hnb] at hyy
      have d0 := (HB.out.cell (p := ⟨g, j * 3, none⟩) hgl).trans x0
      have d1 := (HB.out.cell (p := ⟨g, j * 3 + 1, none⟩) hgl).trans x1
      have d2 := (HB.out.cell (p := ⟨g, j * 3 + 2, none⟩) hgl).trans x2
      have hgr : g < wr.heap.size := by omega
      have HYV := hideG hyv
      have HPJ := hideG (show ps[j]? = some ps[j] from List.getElem?_eq_getElem hjp)
      obtain ⟨p, hp⟩ : ∃ p, p = ps[j] := ⟨_, rfl⟩
      rw [← hp] at d0 d1 HPJ
      rw [hyy] at d2 HYV
      have HPE := hideG hp
      clear x0 x1 x2 hyv hyb hp hyy hnb
      have hj0 : (0 : Int) ≤ (j : Int) := by omega
      have hjk : (j : Int) < (k : Int) := by omega
      by_cases hji : j = i
      · have hne : ((j : Int) != (i : Int)) = false := by rw [hji]; simp
        have FIN := hideG (show ∀ ob, (wr.alloc ob).ownsRow w.heap.size 49 3 (.slice ar (er ps i j).length cr) (er ps i (j + 1)).length (packV (er ps i (j + 1)) (er vs i (j + 1))) ∧ Below w.heap.size w (wr.alloc ob) from fun ob => by
          have s1 : er ps i (j + 1) = er ps i j := by rw [hji]; exact HSK.out.1
          have s2 : er vs i (j + 1) = er vs i j := by rw [hji]; exact HSK.out.2
          rw [s1, s2]
          exact ⟨HO.out.alloc _, HB.out.alloc sw _⟩)
        clear hji
        go_wp2_with fail
        go_roundw
        case rel => exact ⟨j + 1, by omega, by go_num, (FIN.out _).1, (FIN.out _).2⟩
        case measure => simp [intOf]; omega
      · have hne : ((j : Int) != (i : Int)) = true := by simp; omega
        have hl1 := HLE.out j
        have NX := hideG (HNX.out j hjp hji)
        obtain ⟨nr, hnr⟩ : ∃ nr, nr = (er ps i j).length := ⟨_, rfl⟩
        rw [← hnr] at HO hl1 ⊢
        have HNR := hideG hnr
        clear hji hnr
        go_wp2_with (at_builtin; refine wpList_append_own _ rfl _ _ 41 rfl w.heap.size 49 i1 (.agg #[.int .i64 0, .int .i64 0, .slice none 0 0]) 3 40 Tryz.underlying41 hi1 hy0 hy1 hy2 rfl (by decide) _ _ _ rfl ((HO.out.alloc _).alloc _) ⟨wr.heap.size + 1, 0, none⟩ 1 1 [.int .i64 p.1, .int .i64 p.2.1, .slice ay nb cy] rfl rfl ?c1 ?c2 ?c3 ?c4 ?c5 ?_)
        case c1 => have := cell_three_new (wr.alloc (.cells #[.int .i64 p.1, .int .i64 p.2.1, .slice ay nb cy] 49)) (.int .i64 p.1) (.int .i64 p.2.1) (.slice ay nb cy) 49; simpa using this
        case c2 => intro u hu; simp at hu; rcases hu with rfl | rfl | rfl <;> rfl
        case c3 => unfold maxLen; omega
        case c4 => omega
        case c5 => simp; omega
        intro v' w4 hown' hgrow' _
        have hb4 := (((HB.out.alloc sw _).alloc (by simp; omega) _).grown hgrow' (by simp; omega) (fun y hy => (HO.out.lt y hy).1))
        have B4 := hideG hb4
        have O4 := hideG (show w4.ownsRow w.heap.size 49 3 v' (er ps i (j + 1)).length (packV (er ps i (j + 1)) (er vs i (j + 1))) by
          have e1 : vs[j]'(by rw [HLEN.out]; exact hjp) = .slice ay nb cy := by
            have := HYV.out
            rw [List.getElem?_eq_getElem (by rw [HLEN.out]; exact hjp)] at this
            exact Option.some.inj this
          rw [NX.out.1, NX.out.2, e1, ← HPE.out, packV_snoc _ _ _ _ (HEQ.out j), List.length_append, ← HNR.out]
          exact hown')
        obtain ⟨a5, c5, hv5⟩ := owns_form hown'
        subst hv5
        clear hown' hgrow' hb4
        go_wp2_with fail
        go_roundw
        case rel => exact ⟨j + 1, by omega, by go_num, O4.out, B4.out⟩
        case measure => simp [intOf]; omega
    · have ej : j = k := by omega
      subst ej
      have d77 : wr.cell? ⟨b, 77, none⟩ = some (.slice a j c) := (HB.out.cell (p := ⟨b, 77, none⟩) hb).trans c77
      have e77 : wr.frozen? ⟨b, 77, none⟩ = false := (HB.out.frozen (p := ⟨b, 77, none⟩) hb).trans f77
      have hb2 : b < wr.heap.size := by omega
      obtain ⟨w3, hw3⟩ : ∃ w3, w3 = wr.setCell ⟨b, 77, none⟩ (.slice ar (er ps i j).length cr) := ⟨_, rfl⟩
      have FIN := hideG (HR.out wr w3 _ HB.out (by have := HO.out; rw [HEND.out.1, HEND.out.2] at this; exact this) (by rw [hw3, HEND.out.1]))
      have HW3 := hideG hw3
      clear hw3
      go_wp2_with fail
      rw [← HW3.out]
      go_end0
      exact ⟨rfl, FIN.out⟩

end Go.Proofs.YtchideljndagjabGreat

namespace Go.Proofs.YtchideljndagjabGreat
open Go.ChangeShapes Go.WideShapes Go.ChangeAt Go.RowKit
set_option linter.unusedVariables false

set_option maxHeartbeats 1000000 in
set_option maxRecDepth 100000 in
theorem drop_yes (b n i : Nat) (C : Srv.Cf) (cl : Nat → Cli.Cl) (s : Sn) (m : SM) (w : World) (h : SesAt w b n C cl s m) (hi : i < s.fl.length) (hlen : s.fl.length ≤ 2000) :
    Calls Tryz.prog 66 #[.pointer (some ⟨b, 0, none⟩), .int .i64 (i : Int)] w fun e w' => e = .returned (.int .i64 0) ∧ ∃ m', SesTook w w' b n C cl { s with fl := s.fl.eraseIdx i } m m' := by
  have HC := hideG (isInFlight_calls b n C cl s m (i : Int) w h)
  rw [decide_eq_true (show (0 : Int) ≤ (i : Int) ∧ (i : Int) < (s.fl.length : Int) by omega)] at HC
  have HR := hideG (remove_calls b n i C cl s m w h hi hlen)
  clear h hi hlen
  go_enter Tryz.func66, Tryz.ntmps66
  go_wp2_with fail
  refine HC.out.mono ?_
  rintro e w1 ⟨rfl, hw1⟩
  rw [hw1]
  clear hw1
  go_wp2_with fail
  refine HR.out.mono ?_
  rintro e w2 ⟨rfl, hq⟩
  have FIN := hideG hq
  clear hq
  go_wp2_with fail
  go_ret
  exact ⟨rfl, FIN.out⟩

theorem drop_no (b n : Nat) (C : Srv.Cf) (cl : Nat → Cli.Cl) (s : Sn) (m : SM) (u : Int) (w : World) (h : SesAt w b n C cl s m) (hu : ¬ (0 ≤ u ∧ u < (s.fl.length : Int))) :
    Calls Tryz.prog 66 #[.pointer (some ⟨b, 0, none⟩), .int .i64 u] w fun e w' => e = .returned (.int .i64 7) ∧ w' = w := by
  have HC := hideG (isInFlight_calls b n C cl s m u w h)
  rw [decide_eq_false hu] at HC
  clear h hu
  go_enter Tryz.func66, Tryz.ntmps66
  go_wp2_with fail
  refine HC.out.mono ?_
  rintro e w1 ⟨rfl, hw1⟩
  rw [hw1]
  clear hw1
  go_wp2_with fail
  go_ret
  exact ⟨rfl, rfl⟩

theorem deliver_no (b n : Nat) (C : Srv.Cf) (cl : Nat → Cli.Cl) (s : Sn) (m : SM) (u : Int) (w : World) (h : SesAt w b n C cl s m) (hu : ¬ (0 ≤ u ∧ u < (s.fl.length : Int))) :
    Calls Tryz.prog 65 #[.pointer (some ⟨b, 0, none⟩), .int .i64 u] w fun e w' => e = .returned (.int .i64 7) ∧ w' = w := by
  have HC := hideG (isInFlight_calls b n C cl s m u w h)
  rw [decide_eq_false hu] at HC
  clear h hu
  go_enter Tryz.func65, Tryz.ntmps65
  go_wp2_with fail
  refine HC.out.mono ?_
  rintro e w1 ⟨rfl, hw1⟩
  rw [hw1]
  clear hw1
  go_wp2_with fail
  go_ret
  exact ⟨rfl, rfl⟩

theorem SnOk.less {C : Srv.Cf} {cl : Nat → Cli.Cl} {n : Nat} {s : Sn} (h : SnOk C cl n s) (i : Nat) : SnOk C cl n { s with fl := s.fl.eraseIdx i } :=
  { h with fl := by have h1 := List.length_eraseIdx_le s.fl i; have h2 := h.fl; show (s.fl.eraseIdx i).length + (remA s.cs n + remS s.q) ≤ 300; omega
           flb := fun p hp => h.flb p (erase_mem hp) }

set_option maxHeartbeats 1000000 in
set_option maxRecDepth 100000 in
theorem deliver_yes (b n i : Nat) (C : Srv.Cf) (cl : Nat → Cli.Cl) (s : Sn) (m : SM) (p : Pk) (w : World) (h : SesAt w b n C cl s m) (ok : SnOk C cl n s) (hp : s.fl[i]? = some p) :
    Calls Tryz.prog 65 #[.pointer (some ⟨b, 0, none⟩), .int .i64 (i : Int)] w fun e w' => e = .returned (.int .i64 0) ∧ ∃ m', SesTook w w' b n C cl (rcv C cl n { s with fl := s.fl.eraseIdx i } p.2.1 p.2.2) m m' := by
  have hi : i < s.fl.length := (List.getElem?_eq_some_iff.1 hp).1
  have HC := hideG (isInFlight_calls b n C cl s m (i : Int) w h)
  rw [decide_eq_true (show (0 : Int) ≤ (i : Int) ∧ (i : Int) < (s.fl.length : Int) by omega)] at HC
  have c77 := h.c77
  have hb := h.blt
  obtain ⟨a, c, hv, hkc, hcm, hel⟩ := h.fl.view
  rw [hv] at c77
  obtain ⟨g, y, rfl, hgl, hyv, x0, x1, x2, hyb⟩ := hel i p hp
  have hym := List.mem_of_getElem? hyv
  obtain ⟨ay, cy, hyy, -⟩ := bytes_view hyb
  obtain ⟨W1, hW1⟩ : ∃ W1, W1 = w.alloc (.cells #[.int .i64 p.1, .int .i64 p.2.1, y] 49) := ⟨_, rfl⟩
  have b1 : Below w.heap.size w W1 := by rw [hW1]; exact (Below.refl _ _).alloc (Nat.le_refl _) _
  have z1 : w.heap.size < W1.heap.size := by rw [hW1]; simp
  have r1 : W1.heap[w.heap.size]? = some (.cells #[.int .i64 p.1, .int .i64 p.2.1, y] 49 (0, 0)) := by rw [hW1]; exact heap_alloc_new w _
  have h1 := h.below b1
  have HR := hideG (remove_calls b n i C cl s m W1 h1 hi (by have := ok.fl; omega))
  have HRC := hideG (fun (w2 : World) (m1 : SM) (t : SesTook W1 w2 b n C cl { s with fl := s.fl.eraseIdx i } m m1) => (show (w2.cell? ⟨w.heap.size, 1, none⟩ = some (.int .i64 p.2.1) ∧ w2.cell? ⟨w.heap.size, 2, none⟩ = some y) ∧ Calls Tryz.prog 76 #[.pointer (some ⟨b, 0, none⟩), .int .i64 p.2.1, y] w2 fun e w' => e = .returned (.tuple #[]) ∧ ∃ m', SesTook w w' b n C cl (rcv C cl n { s with fl := s.fl.eraseIdx i } p.2.1 p.2.2) m m' from by
    have e2 : w2.heap[w.heap.size]? = some (.cells #[.int .i64 p.1, .int .i64 p.2.1, y] 49 (0, 0)) := by
      rw [t.chg.block w.heap.size z1 (fun e => by have := h.low (.inl e : SesFoot b n m _); omega)]; exact r1
    refine ⟨⟨(cell_of_row w2 w.heap.size 1 _ _ (0, 0) e2).trans rfl, (cell_of_row w2 w.heap.size 2 _ _ (0, 0) e2).trans rfl⟩, ?_⟩
    have hb2 : BytesAt w2 y p.2.2 := (hyb.below b1).keepS t.chg.size (fun x hx => t.chg.block x (by have := h.fl.low y hym x hx; omega) (fun e => h.ap x (.inr (.inr ⟨y, hym, hx⟩)) e))
    refine (receive_calls b n C cl _ m1 p.2.1 y p.2.2 w2 t.ses (ok.less i) hb2).mono ?_
    rintro e w' ⟨rfl, m', t'⟩
    exact ⟨rfl, m', (t.trans t').after b1⟩))
  rw [hyy] at x2 hW1 HRC
  have HW1 := hideG hW1
  have hbW : b < W1.heap.size := by omega
  have hi0 : (0 : Int) ≤ (i : Int) := by omega
  have hik : (i : Int) < (s.fl.length : Int) := by omega
  clear h ok hp hel hyv hyb hym hyy hv h1 r1 b1 hW1
  generalize s.fl.length = k at *
  generalize p.2.2.length = nb at *
  go_enter Tryz.func65, Tryz.ntmps65
  go_wp2_with fail
  refine HC.out.mono ?_
  rintro e w1 ⟨rfl, hw1⟩
  rw [hw1]
  clear hw1
  go_upto_region 4 with fail
  rw [← HW1.out]
  go_wp2_with fail
  refine HR.out.mono ?_
  rintro e w2 ⟨rfl, m1, t⟩
  obtain ⟨⟨q1, q2⟩, hcall⟩ := HRC.out w2 m1 t
  have HCA := hideG hcall
  have hz : w.heap.size < w2.heap.size := by have := t.chg.size; omega
  clear t hcall c77 x0 x1 x2
  go_wp2_with fail
  refine HCA.out.mono ?_
  rintro e w3 ⟨rfl, hq⟩
  have FIN := hideG hq
  clear hq
  go_wp2_with fail
  go_ret
  exact ⟨rfl, FIN.out⟩

set_option maxHeartbeats 2000000 in
set_option maxRecDepth 100000 in
theorem soutc_calls (b : Nat) (S : SS) (ls us : List Int) (w : World) (h : SSAt w b S) (hs : ListAt w S.set ls) (hu : ListAt w S.sum us) (l1 : ls.length ≤ 12) (l2 : us.length ≤ 12) :
    Calls Tryz.prog 38 #[.pointer (some ⟨b, 0, none⟩)] w fun e w' => ∃ va vb, e = .returned (.agg #[.int .i64 S.st, .int .i64 S.ro, va, vb]) ∧ Told w w' va vb ls us := by
  obtain ⟨W0, hW0⟩ : ∃ W0, W0 = w.alloc (.cells #[.int .i64 0, .int .i64 0, .slice none 0 0, .slice none 0 0] 35) := ⟨_, rfl⟩
  have b0 : Below w.heap.size w W0 := by rw [hW0]; exact (Below.refl _ _).alloc (Nat.le_refl _) _
  have R0 := hideG (show W0.heap[w.heap.size]? = some (.cells #[.int .i64 0, .int .i64 0, .slice none 0 0, .slice none 0 0] 35 (0, 0)) by rw [hW0]; exact heap_alloc_new w _)
  have z0 : w.heap.size < W0.heap.size := by rw [hW0]; simp
  have H := hideG (sOutcome_calls b S ls us W0 (h.below b0) (hs.below b0) (hu.below b0) l1 l2)
  have B0 := hideG b0
  have HW0 := hideG hW0
  clear h hs hu l1 l2 b0 hW0
  generalize S.st = st at *
  generalize S.ro = ro at *
  go_enter Tryz.func38, Tryz.ntmps38
  go_upto_region 1 with fail
  rw [← HW0.out]
  go_wp2_with fail
  refine H.out.mono ?_
  rintro e w1 ⟨va, vb, rfl, ht⟩
  obtain ⟨t1, t2, t3, t4⟩ := ht
  obtain ⟨a3, k3, hv3⟩ := owns_form t1
  obtain ⟨a4, k4, hv4⟩ := owns_form t2
  have R1 := hideG ((t4.block _ z0).trans R0.out)
  obtain ⟨⟨x0, x1, x2, x3⟩, xf⟩ := cells_four R1.out
  have R6 := hideG (row_four R1.out (.int .i64 st) (.int .i64 ro) va vb)
  have B1 := B0.out.trans (t4.mono B0.out.size)
  have c6 := chg_four w1 w.heap.size (.int .i64 st) (.int .i64 ro) va vb
  have FIN := hideG (show Told w ((((w1.setCell ⟨w.heap.size, 0, none⟩ (.int .i64 st)).setCell ⟨w.heap.size, 1, none⟩ (.int .i64 ro)).setCell ⟨w.heap.size, 2, none⟩ va).setCell ⟨w.heap.size, 3, none⟩ vb) va vb ls us from
    ⟨ownsRow_base (ownsRow_chg t1 c6 (fun x hx e => by have := (t1.lt x hx).1; omega)) (by omega),
     ownsRow_base (ownsRow_chg t2 c6 (fun x hx e => by have := (t2.lt x hx).1; omega)) (by omega), t3,
     (((B1.setCell (p := ⟨w.heap.size, 0, none⟩) (Nat.le_refl _) _).setCell (p := ⟨w.heap.size, 1, none⟩) (Nat.le_refl _) _).setCell (p := ⟨w.heap.size, 2, none⟩) (Nat.le_refl _) _).setCell (p := ⟨w.heap.size, 3, none⟩) (Nat.le_refl _) _⟩)
  clear t1 t2 t3 t4 B1 c6
  rw [hv3, hv4] at R6 FIN ⊢
  clear hv3 hv4
  go_wp2_with fail
  refine bodyPost_ret (results_cell_row rfl _ _ w.heap.size 35 #[.int .i64 st, .int .i64 ro, _, _] (0, 0) _ rfl R6.out Tryz.underlying35 rfl size_out4) rfl ?_
  exact ⟨_, _, rfl, FIN.out⟩

/-- How it stands. -/
theorem soutcome_calls (b n : Nat) (C : Srv.Cf) (cl : Nat → Cli.Cl) (s : Sn) (m : SM) (w : World) (h : SesAt w b n C cl s m) (ok : SnOk C cl n s) :
    Calls Tryz.prog 38 #[.pointer (some ⟨b, 0, none⟩)] w fun e w' => ∃ va vb, e = .returned (.agg #[.int .i64 s.q.out.1, .int .i64 s.q.out.2.1, va, vb]) ∧ Told w w' va vb s.q.out.2.2.1 s.q.out.2.2.2 := by
  have := soutc_calls b m.S _ _ w h.srv.srv.at_ h.srv.srv.set h.srv.srv.sum ok.bd.1 ok.bd.2
  rw [h.srv.srv.st, h.srv.srv.ro] at this
  exact this

end Go.Proofs.YtchideljndagjabGreat
