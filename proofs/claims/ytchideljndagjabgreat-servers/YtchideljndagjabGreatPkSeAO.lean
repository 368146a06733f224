/- The World of a script and the things that it has made (clients, servers, sessions: each a thing in blocks of its own). -/
import Derived.Test.YtchideljndagjabGreatPkSeAN
import Derived.BigQuiet
import Derived.Test.YtchideljndagjabGreatPkSeAG
import Derived.Test.YtchideljndagjabGreatPkSeAH
namespace Go.Proofs.YtchideljndagjabGreat
open Go.RowKit
set_option linter.unusedVariables false

/-- A thing: the block that the World's pointer names, its blocks, what holds of it. -/
structure Th where
  pc : Nat
  foot : Nat → Prop
  at_ : World → Prop
structure ThOk (pw : Nat) (t : Th) : Prop where
  lt : ∀ w x, t.at_ w → t.foot x → x < w.heap.size
  lo : ∀ w x, t.at_ w → t.foot x → pw < x
  keep : ∀ w w', t.at_ w → w.heap.size ≤ w'.heap.size → (∀ x, t.foot x → w'.heap[x]? = w.heap[x]?) → (∀ x, x < pw → w'.heap[x]? = w.heap[x]?) → t.at_ w'
def rowT : Nat → TypeId
  | 0 => 126
  | 1 => 131
  | _ => 136
def ptrs (l : List Th) : List Value := l.map fun t => Value.pointer (some ⟨t.pc, 0, none⟩)

structure InvA (w : World) (pw : Nat) (F : Nat → Value) (ls : Nat → List Ow) (T : Nat → List Th) : Prop where
  row : ∀ j, j < 3 → w.ownsRow (pw + 1) (rowT j) 1 (F j) (T j).length (ptrs (T j))
  ok : ∀ j, j < 3 → ∀ t ∈ T j, ThOk pw t ∧ t.at_ w
  tag : ∃ tg : Nat → Nat, (∀ j i t x, j < 3 → (T j)[i]? = some t → t.foot x → tg x = 4 + 3 * i + j) ∧ (∀ j x, j < 3 → (F j).ownBlock = some x → tg x = j + 1) ∧ ∀ x, Foot F ls x → tg x = 0

def setT (T : Nat → List Th) (j i : Nat) (t : Th) : Nat → List Th := fun d => if d = j then (T j).set i t else T d
def addT (T : Nat → List Th) (j : Nat) (t : Th) : Nat → List Th := fun d => if d = j then T j ++ [t] else T d

section
variable {nx : Int} {w w' w'' : World} {pw : Nat} {F F' : Nat → Value} {ls ls' : Nat → List Ow} {T : Nat → List Th}

theorem InvA.quiet (h : InvA w pw F ls T) (hi : InvW w pw F nx ls) (q : QS pw w F ls w' F' ls') : InvA w' pw F' ls' T := by
  obtain ⟨tg, t1, t2, t3⟩ := h.tag
  have hlt := hi.pw_lt
  refine ⟨fun j hj => ?_, fun j hj t ht => ?_, ?_⟩
  · rw [q.fs j hj]
    exact ownsRow_chg (h.row j hj) q.chg (fun b hb e => by
      rcases e with e | e
      · have := (h.row j hj).lt b hb; omega
      · have a := t2 j b hj hb; have c := t3 b e; omega)
  · obtain ⟨ok, at_⟩ := h.ok j hj t ht
    obtain ⟨i, hi'⟩ := List.mem_iff_getElem?.1 ht
    refine ⟨ok, ok.keep w w' at_ q.chg.size (fun x hx => q.chg.block x (ok.lt w x at_ hx) (fun e => ?_)) (fun x hx => q.chg.block x (by omega) (fun e => ?_))⟩
    · rcases e with e | e
      · have := ok.lo w x at_ hx; omega
      · have a := t1 j i t x hj hi' hx; have b := t3 x e; omega
    · rcases e with e | e
      · omega
      · have := hi.foot_lt e; omega
  · obtain ⟨tg', ht'⟩ : ∃ tg' : Nat → Nat, ∀ x, tg' x = if x < w.heap.size then tg x else 0 := ⟨_, fun _ => rfl⟩
    refine ⟨tg', fun j i t x hj hp hx => ?_, fun j x hj hx => ?_, fun x hx => ?_⟩
    · obtain ⟨ok, at_⟩ := h.ok j hj t (List.mem_of_getElem? hp)
      rw [ht', if_pos (ok.lt w x at_ hx)]; exact t1 j i t x hj hp hx
    · rw [q.fs j hj] at hx
      rw [ht', if_pos ((h.row j hj).lt x hx).2]; exact t2 j x hj hx
    · rw [ht']
      by_cases hl : x < w.heap.size
      · rw [if_pos hl]
        by_cases hf : Foot F ls x
        · exact t3 x hf
        · exact absurd hx (q.foot x hl hf)
      · rw [if_neg hl]
theorem InvA.below (h : InvA w pw F ls T) (hi : InvW w pw F nx ls) (hb : Below w.heap.size w w') : InvA w' pw F ls T := h.quiet hi (QS.refl.below hb)

/-- Thing number i of row j has turned, in its own blocks and in new ones; the World owns more. -/
theorem InvA.turnq (h : InvA w pw F ls T) (hi : InvW w pw F nx ls) {j i : Nat} (hj : j < 3) {t t' : Th} (ht : (T j)[i]? = some t) (hpc : t'.pc = t.pc) (hc : Chg (fun x => t.foot x ∨ x = pw ∨ Foot F ls x) w w') (hfs : ∀ j, j < 3 → F' j = F j) (hfoot : ∀ b, b < w.heap.size → ¬ Foot F ls b → ¬ Foot F' ls' b)
    (hok : ThOk pw t') (hat : t'.at_ w') (hf : ∀ x, t'.foot x → t.foot x ∨ w.heap.size ≤ x) (hnf : ∀ x, t'.foot x → ¬ Foot F' ls' x) : InvA w' pw F' ls' (setT T j i t') := by
  obtain ⟨tg, t1, t2, t3⟩ := h.tag
  have hlt := hi.pw_lt
  have hil : i < (T j).length := (List.getElem?_eq_some_iff.1 ht).1
  obtain ⟨okt, att⟩ := h.ok j hj t (List.mem_of_getElem? ht)
  have hnp : ∀ x, t.foot x → pw < x := fun x hx => okt.lo w x att hx
  -- an element of the new list is the new thing, or an old one elsewhere
  have elem : ∀ d, d < 3 → ∀ k u, (setT T j i t' d)[k]? = some u → (d = j ∧ k = i ∧ u = t') ∨ ((T d)[k]? = some u ∧ ¬ (d = j ∧ k = i)) := by
    intro d hd k u hu
    unfold setT at hu
    by_cases e : d = j
    · subst e
      rw [if_pos rfl, List.getElem?_set] at hu
      by_cases e2 : i = k
      · subst e2
        rw [if_pos rfl, if_pos hil] at hu
        exact .inl ⟨rfl, rfl, (Option.some.inj hu).symm⟩
      · rw [if_neg e2] at hu
        exact .inr ⟨hu, fun q => e2 q.2.symm⟩
    · rw [if_neg e] at hu
      exact .inr ⟨hu, fun q => e q.1⟩
  refine ⟨fun d hd => ?_, fun d hd u hu => ?_, ?_⟩
  · have e : ptrs (setT T j i t' d) = ptrs (T d) ∧ (setT T j i t' d).length = (T d).length := by
      unfold setT
      by_cases e : d = j
      · subst e
        rw [if_pos rfl]
        refine ⟨?_, List.length_set⟩
        unfold ptrs
        apply List.ext_getElem?
        intro k
        rw [List.getElem?_map, List.getElem?_map, List.getElem?_set]
        by_cases e2 : i = k
        · subst e2; rw [if_pos rfl, if_pos hil, ht]; simp [hpc]
        · rw [if_neg e2]
      · rw [if_neg e]; exact ⟨rfl, rfl⟩
    rw [e.1, e.2, hfs d hd]
    exact ownsRow_chg (h.row d hd) hc (fun b hb e => by
      have b' := t2 d b hd hb
      rcases e with e | e | e
      · have a := t1 j i t b hj ht e; omega
      · have := (h.row d hd).lt b hb; omega
      · have := t3 b e; omega)
  · obtain ⟨k, hk⟩ := List.mem_iff_getElem?.1 hu
    rcases elem d hd k u hk with ⟨_, _, rfl⟩ | ⟨hk, hne⟩
    · exact ⟨hok, hat⟩
    · obtain ⟨ok, at_⟩ := h.ok d hd u (List.mem_of_getElem? hk)
      refine ⟨ok, ok.keep w w' at_ hc.size (fun x hx => hc.block x (ok.lt w x at_ hx) (fun e2 => ?_)) (fun x hx => hc.block x (by omega) (fun e2 => ?_))⟩
      · rcases e2 with e2 | e2 | e2
        · have a := t1 d k u x hd hk hx; have b := t1 j i t x hj ht e2; omega
        · have := ok.lo w x at_ hx; omega
        · have a := t1 d k u x hd hk hx; have b := t3 x e2; omega
      · rcases e2 with e2 | e2 | e2
        · have := hnp x e2; omega
        · omega
        · have := hi.foot_lt e2; omega
  · classical
    obtain ⟨tg', ht'⟩ : ∃ tg' : Nat → Nat, ∀ x, tg' x = if x < w.heap.size then tg x else (if t'.foot x then 4 + 3 * i + j else 0) := ⟨_, fun _ => rfl⟩
    refine ⟨tg', fun d k u x hd hu hx => ?_, fun d x hd hx => ?_, fun x hx => ?_⟩
    · rw [ht']
      rcases elem d hd k u hu with ⟨rfl, rfl, rfl⟩ | ⟨hk, hne⟩
      · by_cases hl : x < w.heap.size
        · rw [if_pos hl]
          rcases hf x hx with h1 | h1
          · exact t1 d k t x hd ht h1
          · omega
        · rw [if_neg hl, if_pos hx]
      · obtain ⟨ok, at_⟩ := h.ok d hd u (List.mem_of_getElem? hk)
        rw [if_pos (ok.lt w x at_ hx)]; exact t1 d k u x hd hk hx
    · rw [hfs d hd] at hx
      rw [ht', if_pos ((h.row d hd).lt x hx).2]; exact t2 d x hd hx
    · rw [ht']
      by_cases hl : x < w.heap.size
      · rw [if_pos hl]
        by_cases hy : Foot F ls x
        · exact t3 x hy
        · exact absurd hx (hfoot x hl hy)
      · rw [if_neg hl]
        by_cases hy : t'.foot x
        · exact absurd hx (hnf x hy)
        · rw [if_neg hy]

/-- A thing more, in row j. -/
theorem InvA.more (h : InvA w pw F ls T) (hi : InvW w pw F nx ls) {j : Nat} (hj : j < 3) {t : Th} {v' : Value} (hok : ThOk pw t) (hat : t.at_ w') (hnew : ∀ x, t.foot x → w.heap.size ≤ x) (hc : Chg (fun x => x = pw ∨ (F j).ownBlock = some x) w w')
    (hblk : w'.heap[pw]? = some (.cells (fArr (upd F j v')) 89 (0, 0))) (hrow : w'.ownsRow (pw + 1) (rowT j) 1 v' ((T j).length + 1) (ptrs (T j) ++ [.pointer (some ⟨t.pc, 0, none⟩)]))
    (hv : ∀ x, v'.ownBlock = some x → ((F j).ownBlock = some x ∨ w.heap.size ≤ x) ∧ ¬ t.foot x) : InvA w' pw (upd F j v') ls (addT T j t) ∧ InvW w' pw (upd F j v') nx ls := by
  obtain ⟨tg, t1, t2, t3⟩ := h.tag
  have hlt := hi.pw_lt
  have hfi : ∀ c, upd F j v' (cat c).fi = F (cat c).fi := fun c => upd_other _ _ (by have := cat_fi c; omega)
  have hfm : ∀ c, upd F j v' (cat c).fm = F (cat c).fm := fun c => upd_other _ _ (by have := cat_fm c; omega)
  have hfoot : ∀ x, Foot (upd F j v') ls x ↔ Foot F ls x := fun x => by unfold Foot; simp only [hfi, hfm]
  have hno : ∀ x, Foot F ls x → ¬ (x = pw ∨ (F j).ownBlock = some x) := fun x hx e => by
    rcases e with e | e
    · have := hi.foot_lt hx; omega
    · have a := t2 j x hj e; have b := t3 x hx; omega
  have elem : ∀ d, d < 3 → ∀ k u, (addT T j t d)[k]? = some u → (d = j ∧ k = (T j).length ∧ u = t) ∨ (T d)[k]? = some u := by
    intro d hd k u hu
    unfold addT at hu
    by_cases e : d = j
    · subst e
      rw [if_pos rfl] at hu
      by_cases hk : k < (T d).length
      · rw [List.getElem?_append_left hk] at hu; exact .inr hu
      · rw [List.getElem?_append_right (by omega)] at hu
        have hk0 : k - (T d).length = 0 := by
          rcases Nat.eq_zero_or_pos (k - (T d).length) with e | e
          · exact e
          · rw [List.getElem?_eq_none (by simp; omega)] at hu; cases hu
        rw [hk0] at hu
        simp at hu
        exact .inl ⟨rfl, by omega, hu.symm⟩
    · rw [if_neg e] at hu; exact .inr hu
  refine ⟨⟨fun d hd => ?_, fun d hd u hu => ?_, ?_⟩, ⟨hblk, by rw [upd_other _ _ (by omega)]; exact hi.nxt, fun c hc' => ?_, ?_⟩⟩
  · by_cases e : d = j
    · subst e
      unfold addT
      rw [if_pos rfl, upd_same, List.length_append]
      unfold ptrs
      rw [List.map_append]
      exact hrow
    · unfold addT
      rw [if_neg e, upd_other _ _ e]
      exact ownsRow_chg (h.row d hd) hc (fun b hb e2 => by
        rcases e2 with e2 | e2
        · have := (h.row d hd).lt b hb; omega
        · have a := t2 d b hd hb; have c := t2 j b hj e2; omega)
  · obtain ⟨k, hk⟩ := List.mem_iff_getElem?.1 hu
    rcases elem d hd k u hk with ⟨_, _, rfl⟩ | hk
    · exact ⟨hok, hat⟩
    · obtain ⟨ok, at_⟩ := h.ok d hd u (List.mem_of_getElem? hk)
      refine ⟨ok, ok.keep w w' at_ hc.size (fun x hx => hc.block x (ok.lt w x at_ hx) (fun e => ?_)) (fun x hx => hc.block x (by omega) (fun e => ?_))⟩
      · rcases e with e | e
        · have := ok.lo w x at_ hx; omega
        · have a := t1 d k u x hd hk hx; have b := t2 j x hj e; omega
      · rcases e with e | e
        · omega
        · have := (h.row j hj).lt x e; omega
  · classical
    obtain ⟨tg', ht'⟩ : ∃ tg' : Nat → Nat, ∀ x, tg' x = if x < w.heap.size then tg x else (if t.foot x then 4 + 3 * (T j).length + j else if v'.ownBlock = some x then j + 1 else 0) := ⟨_, fun _ => rfl⟩
    refine ⟨tg', fun d k u x hd hu hx => ?_, fun d x hd hx => ?_, fun x hx => ?_⟩
    · rw [ht']
      rcases elem d hd k u hu with ⟨rfl, rfl, rfl⟩ | hk
      · have := hnew x hx
        rw [if_neg (by omega), if_pos hx]
      · obtain ⟨ok, at_⟩ := h.ok d hd u (List.mem_of_getElem? hk)
        rw [if_pos (ok.lt w x at_ hx)]; exact t1 d k u x hd hk hx
    · rw [ht']
      by_cases e : d = j
      · subst e
        rw [upd_same] at hx
        obtain ⟨h1, h2⟩ := hv x hx
        rcases h1 with h1 | h1
        · rw [if_pos ((h.row d hd).lt x h1).2]; exact t2 d x hd h1
        · rw [if_neg (by omega), if_neg h2, if_pos hx]
      · rw [upd_other _ _ e] at hx
        rw [if_pos ((h.row d hd).lt x hx).2]; exact t2 d x hd hx
    · have hx' := (hfoot x).1 hx
      rw [ht', if_pos (hi.foot_lt hx').2]; exact t3 x hx'
  · rw [hfi, hfm]
    obtain ⟨h1, h2, h3⟩ := hi.own c hc'
    refine ⟨ownsRow_chg h1 hc (fun b hb => hno b ⟨c, hc', .inl hb⟩), ownsRow_chg h2 hc (fun b hb => hno b ⟨c, hc', .inr (.inl hb)⟩), fun o ho => ?_⟩
    obtain ⟨k1, k0, k2⟩ := h3 o ho
    refine ⟨k1, k0, fun g hg => ?_⟩
    obtain ⟨q1, q2, q3⟩ := k2 g hg
    exact ⟨q1, Nat.lt_of_lt_of_le q2 hc.size, by rw [hc.block g q2 (hno g ⟨c, hc', .inr (.inr ⟨o, ho, hg⟩)⟩)]; exact q3⟩
  · obtain ⟨tg', a1, a2, a3⟩ := hi.tag
    exact ⟨tg', fun c hc' b hb => a1 c hc' b (by rw [← hfi c]; exact hb), fun c hc' b hb => a2 c hc' b (by rw [← hfm c]; exact hb), a3⟩

/-- The World's list of row j, as it lies. -/
theorem InvA.list (h : InvA w pw F ls T) (hi : InvW w pw F nx ls) {j : Nat} (hj : j < 3) : ∃ a cap, w.cell? ⟨pw, j, none⟩ = some (.slice a (T j).length cap) ∧ w.frozen? ⟨pw, j, none⟩ = false ∧ F j = .slice a (T j).length cap ∧ (T j).length ≤ cap ∧ cap ≤ 9223372036854775807 ∧
    ∀ i t, (T j)[i]? = some t → ∃ g, a = some ⟨g, 0, none⟩ ∧ g < w.heap.size ∧ w.cell? ⟨g, i, none⟩ = some (.pointer (some ⟨t.pc, 0, none⟩)) := by
  have c0 := cell_f hi.blk j (by omega)
  have h0 := h.row j hj
  rcases h0.2 with ⟨e0, hn⟩ | ⟨g, cap, cur, e0, _, _, hnc, hcm, _⟩
  · refine ⟨none, 0, by rw [c0.1, e0, hn], c0.2, by rw [e0, hn], by omega, by omega, fun i p hp => ?_⟩
    have := (List.getElem?_eq_some_iff.1 hp).1
    omega
  · refine ⟨some ⟨g, 0, none⟩, cap, by rw [c0.1, e0], c0.2, e0, hnc, by unfold maxLen at hcm; omega, fun i p hp => ?_⟩
    have hil := (List.getElem?_eq_some_iff.1 hp).1
    rw [e0] at h0
    refine ⟨g, rfl, (h0.lt g rfl).2, ?_⟩
    rw [h0.cellAt i (by omega)]
    unfold ptrs
    rw [List.getElem?_map, hp]; rfl
end

end Go.Proofs.YtchideljndagjabGreat

namespace Go.Proofs.YtchideljndagjabGreat
open Go.ChangeShapes Go.WideShapes Go.ChangeAt Go.RowKit
set_option linter.unusedVariables false

theorem PairAt.cells {w : World} {pw : Nat} {p : Pair} (h : PairAt w pw p) : w.cell? ⟨p.pc, 0, none⟩ = some (.pointer (some ⟨p.bx, 0, none⟩)) ∧ w.cell? ⟨p.pc, 1, none⟩ = some (.pointer (some ⟨p.yb, 0, none⟩)) :=
  ⟨(cell_of_row w p.pc 0 _ _ (0, 0) h.row).trans rfl, (cell_of_row w p.pc 1 _ _ (0, 0) h.row).trans rfl⟩
theorem PairAt.good {w : World} {pw : Nat} {p : Pair} (h : PairAt w pw p) : Cli.Good p.c := by rw [← h.eqc]; exact h.ref.good
theorem PairAt.below {w w' : World} {pw : Nat} {p : Pair} (h : PairAt w pw p) (hb : Below w.heap.size w w') : PairAt w' pw p :=
  h.keep hb.size (fun x hx => hb.block x (h.lt hx)) (fun x hx => hb.block x (by have := h.lo p.pc (.inl rfl); have := h.lt (x := p.pc) (.inl rfl); omega))

end Go.Proofs.YtchideljndagjabGreat

namespace Go.Proofs.YtchideljndagjabGreat
open Go.ChangeShapes Go.WideShapes Go.ChangeAt Go.RowKit
set_option linter.unusedVariables false

/-- The World, its lists (at most m of a kind, and m marks), its clients. -/
def KI (w : World) (pw m : Nat) (K : List Pair) : Prop :=
  ∃ F nx ls, InvW w pw F nx ls ∧ InvK w pw F ls K ∧ (∀ o ∈ ls 1, 0 ≤ o.2.2 ∧ o.2.2 ≤ 255) ∧ 0 ≤ nx ∧ nx ≤ (m : Int) ∧ ∀ c, (ls c).length ≤ m

theorem QS.belowpw {w w' : World} {pw : Nat} {F F' : Nat → Value} {nx : Int} {ls ls' : Nat → List Ow} (q : QS pw w F ls w' F' ls') (h : InvW w pw F nx ls) : Below pw w w' :=
  q.chg.below (Nat.le_of_lt h.pw_lt) (fun b e => by rcases e with e | e; omega; have := h.foot_lt e; omega)
theorem KI.below {w w' : World} {pw m : Nat} {K : List Pair} (h : KI w pw m K) (hb : Below w.heap.size w w') : KI w' pw m K := by
  obtain ⟨F, nx, ls, h1, h2, h3⟩ := h
  exact ⟨F, nx, ls, h1.below hb, h2.below h1 hb, h3⟩
theorem KI.mono {w : World} {pw m m' : Nat} {K : List Pair} (h : KI w pw m K) (hm : m ≤ m') : KI w pw m' K := by
  obtain ⟨F, nx, ls, h1, h2, h3, h4, h5, h6⟩ := h
  exact ⟨F, nx, ls, h1, h2, h3, h4, by omega, fun c => by have := h6 c; omega⟩
/-- What is read of a pair. -/
theorem KI.pair {w : World} {pw m : Nat} {K : List Pair} (h : KI w pw m K) {i : Nat} {p : Pair} (hp : K[i]? = some p) : PairAt w pw p := by
  obtain ⟨F, nx, ls, h1, h2, _⟩ := h
  exact h2.pairs p (List.mem_of_getElem? hp)
theorem PairAt.phase {w : World} {pw : Nat} {p : Pair} (h : PairAt w pw p) : w.cell? ⟨p.yb, 13, none⟩ = some (.int .i64 p.s.1) := by
  have := h.ref.at_.vals.2.2.2.2
  rw [h.ref.ph, h.eqc, h.eqs] at this
  exact this

/-- The World's list of clients. -/
theorem KI.list {w : World} {pw m : Nat} {K : List Pair} (h : KI w pw m K) : ∃ a cap, w.cell? ⟨pw, 0, none⟩ = some (.slice a K.length cap) ∧ w.frozen? ⟨pw, 0, none⟩ = false ∧ w.cell? ⟨pw, 1, none⟩ = some (.slice none 0 0) ∧ w.cell? ⟨pw, 2, none⟩ = some (.slice none 0 0) ∧ K.length ≤ cap ∧ cap ≤ 9223372036854775807 ∧ pw < w.heap.size ∧
    ∀ i p, K[i]? = some p → ∃ g, a = some ⟨g, 0, none⟩ ∧ g < w.heap.size ∧ w.cell? ⟨g, i, none⟩ = some (.pointer (some ⟨p.pc, 0, none⟩)) := by
  obtain ⟨F, nx, ls, h1, h2, _⟩ := h
  have c0 := cell_f h1.blk 0 (by omega)
  have c1 := (cell_f h1.blk 1 (by omega)).1
  have c2 := (cell_f h1.blk 2 (by omega)).1
  rw [h2.f1] at c1
  rw [h2.f2] at c2
  have h0 := h2.row
  rcases h2.row.2 with ⟨e0, hn⟩ | ⟨g, cap, cur, e0, _, _, hnc, hcm, _⟩
  · refine ⟨none, 0, by rw [c0.1, e0, hn], c0.2, c1, c2, by omega, by omega, h1.pw_lt, fun i p hp => ?_⟩
    have := (List.getElem?_eq_some_iff.1 hp).1
    omega
  · refine ⟨some ⟨g, 0, none⟩, cap, by rw [c0.1, e0], c0.2, c1, c2, hnc, by unfold maxLen at hcm; omega, h1.pw_lt, fun i p hp => ?_⟩
    have hil := (List.getElem?_eq_some_iff.1 hp).1
    rw [e0] at h0
    refine ⟨g, rfl, (h0.lt g rfl).2, ?_⟩
    rw [h0.cellAt i (by omega), List.getElem?_map, hp]; rfl

end Go.Proofs.YtchideljndagjabGreat

namespace Go.Proofs.YtchideljndagjabGreat
open Go.ChangeShapes Go.WideShapes Go.ChangeAt Go.RowKit
set_option linter.unusedVariables false

theorem infoPLs : (Tryz.prog.info? 41).map (fun i => (i.zero, i.size, i.bytes)) = some (some (.slice none 0 0), 1, 24) := by kernel_rfl

/-- The blocks of the bytes of the first m parcels. -/
def PkB (vs : List Value) (m b : Nat) : Prop := ∃ q y, q < m ∧ vs[q]? = some y ∧ y.ownBlock = some b
theorem PkB.foot {v : Value} {vs : List Value} {m b : Nat} (h : PkB vs m b) : PkFoot v vs b := by
  obtain ⟨q, y, _, hy, hb⟩ := h
  exact .inr ⟨y, List.mem_of_getElem? hy, hb⟩
def MarksOk (l : List Ow) : Prop := ∀ o ∈ l, 0 ≤ o.2.2 ∧ o.2.2 ≤ 255
theorem MarksOk.snoc {l : List Ow} (h : MarksOk l) {o : Ow} (ho : 0 ≤ o.2.2 ∧ o.2.2 ≤ 255) : MarksOk (l ++ [o]) := fun q hq => by
  rcases List.mem_append.1 hq with hq | hq
  · exact h q hq
  · simp at hq; subst hq; exact ho

structure PRelAt (w : World) (pw : Nat) (F : Nat → Value) (nx : Int) (ls : Nat → List Ow) (vs : List Value) (m : Nat) (wr : World) (F' : Nat → Value) (ls' : Nat → List Ow) : Prop where
  inv : InvW wr pw F' (nx + (m : Int)) ls'
  marks : MarksOk (ls 1) → MarksOk (ls' 1)
  other : ∀ c, c ≠ 1 → ls' c = ls c
  len : (ls' 1).length = (ls 1).length + m
  fs : ∀ j, j < 3 → F' j = F j
  chg : Chg (fun b => b = pw ∨ PkB vs m b ∨ Foot F ls b) w wr
  foot : ∀ b, b < w.heap.size → ¬ PkB vs m b → ¬ Foot F ls b → ¬ Foot F' ls' b
def pRel (w : World) (pw : Nat) (F : Nat → Value) (nx : Int) (ls : Nat → List Ow) (vs : List Value) (m : Nat) (wr : World) : Prop := ∃ F' ls', PRelAt w pw F nx ls vs m wr F' ls'
theorem pRel_zero {w : World} {pw : Nat} {F : Nat → Value} {nx : Int} {ls : Nat → List Ow} {vs : List Value} (h : InvW w pw F nx ls) : pRel w pw F nx ls vs 0 w :=
  ⟨F, ls, by simpa using h, id, fun _ _ => rfl, by omega, fun _ _ => rfl, Chg.refl _ _, fun _ _ _ h => h⟩

section
variable {w wr : World} {pw B : Nat} {F : Nat → Value} {nx : Int} {ls : Nat → List Ow} {v : Value} {vs : List Value} {ps : List Pk} {m : Nat}
/-- The list of parcels, and the bytes of those to come, are as they were. -/
theorem pRel_row (h : pRel w pw F nx ls vs m wr) (hp : Packs w B v vs ps) (hB : pw < B) (hf : ∀ x, PkFoot v vs x → ¬ Foot F ls x) : wr.ownsRow B 49 3 v ps.length (packV ps vs) := by
  obtain ⟨F', ls', h⟩ := h
  refine ownsRow_chg hp.row h.chg (fun b hb e => ?_)
  rcases e with e | ⟨q, y, _, hy, e⟩ | e
  · have := (hp.row.lt b hb).1; omega
  · have hq := (List.getElem?_eq_some_iff.1 hy).1
    exact owns_type hp.row (hp.each q y (ps[q]'(by rw [← hp.len]; exact hq)) hy (List.getElem?_eq_getElem _)) (by decide) b hb e
  · exact hf b (.inl hb) e
theorem pRel_byte (h : pRel w pw F nx ls vs m wr) (hp : Packs w B v vs ps) (hB : pw < B) (hf : ∀ x, PkFoot v vs x → ¬ Foot F ls x) {y : Value} {p : Pk} (hy : vs[m]? = some y) (hpp : ps[m]? = some p) : wr.ownsRow B 5 1 y p.2.2.length (bytesV p.2.2) := by
  obtain ⟨F', ls', h⟩ := h
  have ho := hp.each m y p hy hpp
  refine ownsRow_chg ho h.chg (fun b hb e => ?_)
  rcases e with e | ⟨q, z, hq, hz, e⟩ | e
  · have := (ho.lt b hb).1; omega
  · exact hp.pw q m z y hq hz hy b e hb
  · exact hf b (.inr ⟨y, List.mem_of_getElem? hy, hb⟩) e
theorem pRel_step (h : pRel w pw F nx ls vs m wr) (hp : Packs w B v vs ps) (hB : pw < B) (hf : ∀ x, PkFoot v vs x → ¬ Foot F ls x) (hm : m < ps.length) {y : Value} (hy : vs[m]? = some y) (h0 : 0 ≤ nx) (h1 : nx + (ps.length : Int) ≤ 1000000000000000000) (hlen : ((ls 1).length + ps.length) * 24 ≤ 140737488355328) :
    Calls Tryz.prog 95 #[.pointer (some ⟨pw, 0, none⟩), y] wr fun e w' => e = .returned (.tuple #[]) ∧ pRel w pw F nx ls vs (m + 1) w' := by
  have ho := pRel_byte h hp hB hf hy (List.getElem?_eq_getElem hm)
  obtain ⟨F', ls', h⟩ := h
  have yl : ∀ b, y.ownBlock = some b → B ≤ b ∧ b < w.heap.size := fun b hb => (hp.each m y _ hy (List.getElem?_eq_getElem hm)).lt b hb
  have ynp : ∀ b, y.ownBlock = some b → ¬ PkB vs m b := fun b hb ⟨q, z, hq, hz, e⟩ => hp.pw q m z y hq hz hy b e hb
  refine (own_bytes pw F' (nx + (m : Int)) ls' y _ _ B wr h.inv (by omega) (by omega) (by rw [h.len]; omega) ho hB (fun b hb => h.foot b (yl b hb).2 (ynp b hb) (hf b (.inr ⟨y, List.mem_of_getElem? hy, hb⟩)))).mono ?_
  rintro e w' ⟨rfl, F'', o, i1, i2, i3, i4, i5⟩
  have up : ∀ b, PkB vs m b → PkB vs (m + 1) b := fun b ⟨q, z, hq, hz, e⟩ => ⟨q, z, by omega, hz, e⟩
  have hnew : ∀ b, y.ownBlock = some b → PkB vs (m + 1) b := fun b hb => ⟨m, y, by omega, hy, hb⟩
  have hl1 : updL ls' 1 (ls' 1 ++ [o]) 1 = ls' 1 ++ [o] := by simp [updL]
  refine ⟨rfl, F'', updL ls' 1 (ls' 1 ++ [o]), ⟨?_, fun hk => ?_, fun c hc => ?_, ?_, fun j hj => (i3 j hj).trans (h.fs j hj), ?_, fun b hb hn hnf => ?_⟩⟩
  · have : nx + ((m + 1 : Nat) : Int) = nx + (m : Int) + 1 := by omega
    rw [this]; exact i1
  · rw [hl1]; exact (h.marks hk).snoc i5
  · unfold updL; rw [if_neg hc]; exact h.other c hc
  · rw [hl1, List.length_append, h.len]; rfl
  · refine (h.chg.mono (S' := fun b => b = pw ∨ PkB vs (m + 1) b ∨ Foot F ls b) (fun b e _ => ?_)).trans i4 (fun b e hbl => ?_)
    · rcases e with e | e | e
      · exact .inl e
      · exact .inr (.inl (up b e))
      · exact .inr (.inr e)
    · rcases e with e | e | e
      · exact .inl e
      · exact .inr (.inl (hnew b e))
      · by_cases h1 : PkB vs m b
        · exact .inr (.inl (up b h1))
        · by_cases h2 : Foot F ls b
          · exact .inr (.inr h2)
          · exact absurd e (h.foot b hbl h1 h2)
  · exact i2 b (by have := h.chg.size; omega) (fun e => hn (hnew b e)) (h.foot b hb (fun e => hn (up b e)) hnf)
end

def patP (m : Int) : Nat → Value
  | 2 => .slice none 0 0
  | _ => .int .i64 m
/-- Row g, parcels: the first k are written full; nothing else has turned. -/
def FilledP (w : World) (g : Nat) (n : Nat) (m : Int) (k : Nat) (wr : World) : Prop :=
  Chg (fun b => b = g) w wr ∧ ∃ cur : Array Value, wr.heap[g]? = some (.cells cur 49 (0, 0)) ∧ cur.size = n * 3 ∧ ∀ i, i < k * 3 → cur[i]? = some (patP m (i % 3))
theorem filledP_start {w : World} {g : Nat} {n : Nat} {m : Int} {cur : Array Value} (h : w.heap[g]? = some (.cells cur 49 (0, 0))) (hs : cur.size = n * 3) : FilledP w g n m 0 w :=
  ⟨Chg.refl _ _, cur, h, hs, fun i hi => by omega⟩
theorem filledP_cell {w wr : World} {g : Nat} {n : Nat} {m : Int} {k : Nat} (h : FilledP w g n m k wr) (j : Nat) (hj : j < n) :
    (∃ v, wr.cell? ⟨g, j * 3, none⟩ = some v) ∧ (∃ v, wr.cell? ⟨g, j * 3 + 1, none⟩ = some v) ∧ (∃ v, wr.cell? ⟨g, j * 3 + 2, none⟩ = some v) ∧ (∀ o, wr.frozen? ⟨g, o, none⟩ = false) ∧ g < wr.heap.size := by
  obtain ⟨_, cur, h1, h2, _⟩ := h
  have key : ∀ o, o < n * 3 → (∃ v, wr.cell? ⟨g, o, none⟩ = some v) := fun o ho =>
    ⟨cur[o]'(by omega), by simp only [World.cell?, h1]; simp [h2, ho]⟩
  refine ⟨key _ (by omega), key _ (by omega), key _ (by omega), fun o => frozen_of_row wr g o _ _ h1, ?_⟩
  by_cases hb : g < wr.heap.size
  · exact hb
  · rw [Array.getElem?_eq_none (by omega)] at h1; cases h1
theorem filledP_next {w wr : World} {g : Nat} {n : Nat} {m : Int} {k : Nat} (h : FilledP w g n m k wr) (hk : k < n) : FilledP w g n m (k + 1) (((wr.setCell ⟨g, k * 3, none⟩ (.int .i64 m)).setCell ⟨g, k * 3 + 1, none⟩ (.int .i64 m)).setCell ⟨g, k * 3 + 2, none⟩ (.slice none 0 0)) := by
  obtain ⟨h0, cur, h1, h2, h3⟩ := h
  have e1 := heap_setCell_same wr g (k * 3) cur 49 (.int .i64 m) h1
  have e2 := heap_setCell_same _ g (k * 3 + 1) _ 49 (.int .i64 m) e1
  have e3 := heap_setCell_same _ g (k * 3 + 2) _ 49 (.slice none 0 0) e2
  refine ⟨((h0.trans (Chg.setCell _ _ _) (fun x e _ => e)).trans (Chg.setCell _ _ _) (fun x e _ => e)).trans (Chg.setCell _ _ _) (fun x e _ => e), _, e3, by simp [h2], fun i hi => ?_⟩
  rw [Array.getElem?_setIfInBounds, Array.getElem?_setIfInBounds, Array.getElem?_setIfInBounds]
  by_cases q2 : k * 3 + 2 = i
  · rw [if_pos q2, if_pos (by simp; omega), show i % 3 = 2 by omega]; rfl
  rw [if_neg q2]
  by_cases q1 : k * 3 + 1 = i
  · rw [if_pos q1, if_pos (by simp; omega), show i % 3 = 1 by omega]; rfl
  rw [if_neg q1]
  by_cases q0 : k * 3 = i
  · rw [if_pos q0, if_pos (by omega), show i % 3 = 0 by omega]; rfl
  rw [if_neg q0]
  exact h3 i (by omega)
theorem owCells_packs (b : Option Nat) (m : Int) : ∀ (n i : Nat), i < n * 3 → (owCells (cat 3) (b, n, m))[i]? = some (patP m (i % 3)) := by
  intro n
  induction n with
  | zero => intro i hi; omega
  | succ n ih =>
    intro i hi
    unfold owCells at ih ⊢
    rw [List.replicate_succ, List.flatten_cons]
    show ([Value.int .i64 m, .int .i64 m, .slice none 0 0] ++ (List.replicate n ((cat 3).pat m)).flatten)[i]? = _
    by_cases h : i < 3
    · rw [List.getElem?_append_left h]
      rcases (show i = 0 ∨ i = 1 ∨ i = 2 by omega) with rfl | rfl | rfl <;> rfl
    · rw [List.getElem?_append_right (by simp; omega)]
      show (List.replicate n ((cat 3).pat m)).flatten[i - 3]? = _
      have := ih (i - 3) (by omega)
      rw [show (i - 3) % 3 = i % 3 by omega] at this
      exact this
theorem owCells_packs_len (b : Option Nat) (m : Int) (n : Nat) : (owCells (cat 3) (b, n, m)).length = n * 3 := by
  unfold owCells
  rw [List.length_flatten, List.map_replicate]
  show (List.replicate n 3).sum = n * 3
  rw [List.sum_replicate_nat]
theorem filledP_end {w wr : World} {g : Nat} {n : Nat} {m : Int} (h : FilledP w g n m n wr) : wr.heap[g]? = some (.cells (owCells (cat 3) (some g, n, m)).toArray 49 (0, 0)) := by
  obtain ⟨_, cur, h1, h2, h3⟩ := h
  rw [h1]
  congr 2
  apply Array.ext_getElem?
  intro i
  by_cases hi : i < n * 3
  · rw [h3 i hi, List.getElem?_toArray, owCells_packs _ _ n i hi]
  · rw [Array.getElem?_eq_none (by omega), Array.getElem?_eq_none (by rw [List.size_toArray, owCells_packs_len]; omega)]

/-- What ownParcels leaves. -/
def PkOwned (w : World) (pw : Nat) (F : Nat → Value) (nx : Int) (ls : Nat → List Ow) (v : Value) (vs : List Value) (n : Nat) (w' : World) : Prop :=
  ∃ F' ls', InvW w' pw F' (nx + (n : Int) + 1) ls' ∧ (MarksOk (ls 1) → MarksOk (ls' 1)) ∧ (∀ c, c ≠ 1 → c ≠ 3 → ls' c = ls c) ∧ (ls' 1).length = (ls 1).length + n ∧ (ls' 3).length = (ls 3).length + 1 ∧ (∀ j, j < 3 → F' j = F j) ∧
    Chg (fun b => b = pw ∨ PkFoot v vs b ∨ Foot F ls b) w w' ∧ ∀ b, b < w.heap.size → ¬ PkFoot v vs b → ¬ Foot F ls b → ¬ Foot F' ls' b
theorem pk_owned {w w2 wr : World} {pw n : Nat} {F F1 F2 : Nat → Value} {nx : Int} {ls ls1 : Nat → List Ow} {v : Value} {vs : List Value} {o : Ow} (h : PRelAt w pw F nx ls vs n wr F1 ls1) (hi : InvW w2 pw F2 (nx + (n : Int) + 1) (updL ls1 3 (ls1 3 ++ [o])))
    (h2 : ∀ b, b < wr.heap.size → o.1 ≠ some b → ¬ Foot F1 ls1 b → ¬ Foot F2 (updL ls1 3 (ls1 3 ++ [o])) b) (h3 : ∀ j, j < 3 → F2 j = F1 j) (h4 : Chg (fun b => b = pw ∨ o.1 = some b ∨ Foot F1 ls1 b) wr w2) (ho : ∀ b, o.1 = some b → v.ownBlock = some b) : PkOwned w pw F nx ls v vs n w2 := by
  refine ⟨F2, _, hi, fun hk => ?_, fun c c1 c3 => ?_, ?_, ?_, fun j hj => (h3 j hj).trans (h.fs j hj), ?_, fun b hb hn hnf => ?_⟩
  · unfold updL; rw [if_neg (by decide)]; exact h.marks hk
  · unfold updL; rw [if_neg c3]; exact h.other c c1
  · unfold updL; rw [if_neg (by decide)]; exact h.len
  · unfold updL; rw [if_pos rfl, List.length_append, h.other 3 (by decide)]; rfl
  · refine (h.chg.mono (S' := fun b => b = pw ∨ PkFoot v vs b ∨ Foot F ls b) (fun b e _ => ?_)).trans h4 (fun b e hbl => ?_)
    · rcases e with e | e | e
      · exact .inl e
      · exact .inr (.inl e.foot)
      · exact .inr (.inr e)
    · rcases e with e | e | e
      · exact .inl e
      · exact .inr (.inl (.inl (ho b e)))
      · by_cases k1 : PkB vs n b
        · exact .inr (.inl k1.foot)
        · by_cases k2 : Foot F ls b
          · exact .inr (.inr k2)
          · exact absurd e (h.foot b hbl k1 k2)
  · exact h2 b (by have := h.chg.size; omega) (fun e => hn (.inl (ho b e))) (h.foot b hb (fun e => hn e.foot) hnf)

set_option maxHeartbeats 2000000 in
set_option maxRecDepth 100000 in
theorem ownParcels_some (pw : Nat) (F : Nat → Value) (nx : Int) (ls : Nat → List Ow) (g n cap : Nat) (vs : List Value) (ps : List Pk) (B : Nat) (w : World) (h : InvW w pw F nx ls) (hn : ps.length = n) (hp : Packs w B (.slice (some ⟨g, 0, none⟩) n cap) vs ps) (hB : pw < B) (hf : ∀ x, PkFoot (.slice (some ⟨g, 0, none⟩) n cap) vs x → ¬ Foot F ls x)
    (h0 : 0 ≤ nx) (h1 : nx + (n : Int) ≤ 1000000000000000000) (hlen : ((ls 1).length + n) * 24 ≤ 140737488355328) (hlen3 : ((ls 3).length + 1) * 24 ≤ 140737488355328) :
    Calls Tryz.prog 118 #[.pointer (some ⟨pw, 0, none⟩), .slice (some ⟨g, 0, none⟩) n cap] w fun e w' => e = .returned (.tuple #[]) ∧ PkOwned w pw F nx ls (.slice (some ⟨g, 0, none⟩) n cap) vs n w' := by
  obtain ⟨i0, hi, hz0, hz1, hz2⟩ := info_parts infoI
  obtain ⟨i1, hi1, hy0, hy1, hy2⟩ := info_parts infoPLs
  have hrow := hp.row
  have hgl := (hrow.lt g rfl).2
  have hgB := (hrow.lt g rfl).1
  have hpl := h.pw_lt
  have HFG := hideG (hf g (.inl rfl))
  have HST := hideG (fun (m : Nat) (wr : World) (y : Value) (hm : m < n) (hy : vs[m]? = some y) (hrel : pRel w pw F nx ls vs m wr) => pRel_step hrel hp hB hf (by rw [hn]; exact hm) hy h0 (by rw [hn]; exact h1) (by rw [hn]; exact hlen))
  have HRW := hideG (fun (m : Nat) (wr : World) (hrel : pRel w pw F nx ls vs m wr) => pRel_row hrel hp hB hf)
  have HGV := hideG (fun m (hm : m < n) => (show ∃ y, vs[m]? = some y ∧ (packV ps vs)[m * 3 + 2]? = some y from by
    have hv : m < vs.length := by rw [hp.len, hn]; exact hm
    exact ⟨vs[m], List.getElem?_eq_getElem hv, (packV_get ps vs m (ps[m]'(by rw [hn]; exact hm)) _ (List.getElem?_eq_getElem _) (List.getElem?_eq_getElem hv)).2.2⟩))
  have HPF := hideG (fun m (y : Value) (hy : vs[m]? = some y) (hm : m < n) => (show ∃ a k c, y = .slice a k c from by obtain ⟨a, c, e⟩ := owns_form (hp.each m y (ps[m]'(by rw [hn]; exact hm)) hy (List.getElem?_eq_getElem _)); exact ⟨a, _, c, e⟩))
  have R0 := hideG (show pRel w pw F nx ls vs 0 w from pRel_zero h)
  have HNP := hideG (show ∀ m, ¬ PkB vs m g from fun m ⟨q, y, _, hy, e⟩ => by
    have hq := (List.getElem?_eq_some_iff.1 hy).1
    exact owns_type hp.row (hp.each q y (ps[q]'(by rw [← hp.len]; exact hq)) hy (List.getElem?_eq_getElem _)) (by decide) g rfl e)
  obtain ⟨cur0, hc1, hc2, hc3⟩ : ∃ cur, w.heap[g]? = some (.cells cur 49 (0, 0)) ∧ n ≤ cap ∧ cap ≤ maxLen := by
    rcases hrow.2 with ⟨e, _⟩ | ⟨g', cap', cur, e, _, hb, hnc, hcm, _⟩
    · cases e
    · injection e with e1 e2 e3
      injection e1 with e1
      injection e1 with e1
      subst e1; subst e3
      exact ⟨cur, hb, by rw [← hn]; exact hnc, hcm⟩
  unfold maxLen at hc3
  rw [hn] at HRW
  clear h hp hf hn hrow hc1
  go_enter Tryz.func118, Tryz.ntmps118
  go_wp2_with fail
  go_loopw [4] (fun i wr => ∃ j : Nat, j ≤ n ∧ i = .int .i64 (j : Int) ∧ pRel w pw F nx ls vs j wr) (fun i _ => n - (intOf i).toNat)
  case atStart => exact ⟨0, Nat.zero_le _, rfl, R0.out⟩
  case round =>
    clear R0
    obtain ⟨j, hj, rfl, hrel⟩ := hrel
    have HR := hideG hrel
    have hsz : w.heap.size ≤ wr.heap.size := by obtain ⟨_, _, hh⟩ := hrel; exact hh.chg.size
    have hgr : g < wr.heap.size := by omega
    clear hrel
    by_cases hlt : j < n
    · obtain ⟨y, hy, hyc⟩ := HGV.out j hlt
      have c2 := (World.ownsRow.cellAt (HRW.out j wr HR.out) (j * 3 + 2) (by omega)).trans hyc
      have HC := hideG (HST.out j wr y hlt hy HR.out)
      obtain ⟨ya, yk, yc, hye⟩ := HPF.out j y hy hlt
      subst hye
      clear hy hyc
      go_wp2_with fail
      refine HC.out.mono ?_
      rintro e w1 ⟨rfl, hr1⟩
      have HR1 := hideG hr1
      clear hr1 c2
      go_wp2_with fail
      go_roundw
      case rel => exact ⟨j + 1, by omega, by go_num, HR1.out⟩
      case measure => simp [intOf]; omega
    · have ej : j = n := by omega
      subst ej
      have hrow := HRW.out j wr HR.out
      obtain ⟨F1, ls1, hA⟩ := HR.out
      have HA := hideG hA
      obtain ⟨nx1, hnx1⟩ : ∃ nx1, nx1 = nx + (j : Int) := ⟨_, rfl⟩
      have hinv := hA.inv
      rw [← hnx1] at hinv
      have HI := hideG hinv
      have HF := hideG (show ¬ Foot F1 ls1 g from hA.foot g hgl (HNP.out j) HFG.out)
      have HNX := hideG hnx1
      have hl3 : ls1 3 = ls 3 := hA.other 3 (by decide)
      rw [← hl3] at hlen3
      have h0' : 0 ≤ nx1 := by omega
      have h1' : nx1 ≤ 1000000000000000000 := by omega
      obtain ⟨cur, hcu, hcs⟩ : ∃ cur, wr.heap[g]? = some (.cells cur 49 (0, 0)) ∧ cur.size = cap * 3 := by
        rcases hrow.2 with ⟨e, _⟩ | ⟨g', cap', cur, e, _, hb, _, _, hs, _⟩
        · cases e
        · injection e with e1 e2 e3
          injection e1 with e1
          injection e1 with e1
          subst e1; subst e3
          exact ⟨cur, hb, hs⟩
      have G0 := hideG hcu
      have HCS := hideG hcs
      have m1 := mkN_lo nx1
      have m2 := mkN_hi nx1
      clear hA hinv hnx1 hl3 hrow hcu hcs
      obtain ⟨w0, hw0⟩ : ∃ w0, w0 = wr := ⟨_, rfl⟩
      rw [← hw0] at HI HA G0 hgr ⊢
      clear hw0 HR hsz
      have hpl0 := HI.out.pw_lt
      go_wp2_with fail
      refine (mark_calls pw F1 nx1 ls1 _ HI.out h0' h1').mono ?_
      rintro e w1 ⟨rfl, hw1⟩
      have g1 : w1.heap[g]? = some (.cells cur 49 (0, 0)) := by rw [hw1, Below.heap_setCell _ _ _ _ (by simp; omega)]; exact G0.out
      have W1 := hideG hw1
      have G1 := hideG g1
      clear hw1 g1
      generalize hm : mkN nx1 = m at *
      have HM := hideG hm
      clear hm
      go_wp2_with fail
      go_loopw [7] (fun i wr => ∃ k : Nat, k ≤ cap ∧ i = .int .i64 (k : Int) ∧ FilledP w1 g cap m k wr) (fun i _ => cap - (intOf i).toNat)
      case atStart => exact ⟨0, by omega, rfl, filledP_start G1.out HCS.out⟩
      case round =>
        obtain ⟨k, hk, rfl, hfill⟩ := hrel
        have FI := hideG hfill
        by_cases hlt2 : k < cap
        · obtain ⟨⟨v0, c0⟩, ⟨v1, c1⟩, ⟨v2, c2⟩, cf, hgw⟩ := filledP_cell hfill k hlt2
          have FIN := hideG (filledP_next FI.out hlt2)
          clear hfill
          go_wp2_with fail
          go_roundw
          case rel => exact ⟨k + 1, by omega, by go_num, FIN.out⟩
          case measure => simp [intOf]; omega
        · have ek : k = cap := by omega
          subst ek
          clear hfill
          have k2 := FI.out.1.mono (S' := fun b => ((some g, k, m) : Ow).1 = some b) (fun b e _ => by rw [e])
          have K2 := hideG k2
          obtain ⟨a1, a2, a3, a4, a5⟩ := own_mid1 HI.out 3 (by omega) W1.out k2 (fun x e => by cases e; exact ⟨HF.out, by omega⟩)
          obtain ⟨c3, c3f⟩ := cell_f a1 6 (by omega)
          rw [upd_other _ _ (by omega)] at c3
          have A1 := hideG a1
          have A2 := hideG a2
          have A3 := hideG a3
          clear a1 a2 a3 a5 k2
          go_wp2_with (at_builtin; refine wpList_append_one _ rfl _ _ 85 rfl (pw + 1) 41 i1 (.slice none 0 0) 24 Tryz.underlying85 hi1 hy0 hy1 hy2 rfl (F1 6) (ls1 3).length ((ls1 3).map owVal) rfl (A2.out.alloc _) ⟨wr.heap.size, 0, none⟩ 1 (.slice (some ⟨g, 0, none⟩) k k) rfl (by simp [go_sem]) rfl (by unfold maxLen; omega) hlen3 (by simp; omega) ?_)
          intro g3 cap3 w3 ho3 hg3 hv3
          obtain ⟨p1, p2, p3, p4⟩ := own_mid2 HI.out 3 (by omega) A1.out A3.out A2.out hg3
          obtain ⟨c9, c9f⟩ := cell_f p1 12 (by omega)
          rw [upd_other _ _ (by omega)] at c9
          obtain ⟨d3, d3f⟩ := cell_f p1 6 (by omega)
          rw [upd_other _ _ (by omega)] at d3
          have O3 := hideG ho3
          have K3 := hideG hg3
          have V3 := hideG (own_one (n := (ls1 3).length + 1) (c := cap3) hv3)
          have P1 := hideG p1
          have P2 := hideG p2
          clear ho3 hg3 hv3 p1 p2 p4 c3 c3f
          go_wp2_with (at_builtin; (refine wpList_append_one _ rfl _ _ 33 rfl (pw + 1) 3 i0 (.int .i64 0) 8 Tryz.underlying33 hi hz0 hz1 hz2 rfl (F1 12) (ls1 3).length ((ls1 3).map fun o => Value.int .i64 o.2.2) rfl ((ownsRow_setCell_below P2.out (by simp) _).alloc _) ⟨w3.heap.size, 0, none⟩ 1 (.int .i64 m) rfl (by simp [go_sem]) rfl (by unfold maxLen; omega) (by omega) (by simp [World.setCell]; omega) ?_))
          intro g5 cap5 w5 ho5 hg5 hv5
          obtain ⟨q1, q2, q3⟩ := own_mid3 HI.out 3 P1.out P2.out (.slice (some ⟨g3, 0, none⟩) ((ls1 3).length + 1) cap3) hg5
          obtain ⟨f9, f9f⟩ := cell_f q1 12 (by omega)
          have O5 := hideG ho5
          have K5 := hideG hg5
          have V5 := hideG (own_one (n := (ls1 3).length + 1) (c := cap5) hv5)
          clear ho5 hg5 hv5 q1 q3 d3 d3f c9 c9f
          go_wp2_with fail
          go_end0
          have R := own_finish HI.out 3 (by omega) (o := (some g, k, m)) (.slice (some ⟨g3, 0, none⟩) ((ls1 3).length + 1) cap3) (.slice (some ⟨g5, 0, none⟩) ((ls1 3).length + 1) cap5) W1.out K2.out K3.out O3.out (fun b hb => by simpa [cat] using V3.out b hb) K5.out O5.out (fun b hb => by simpa [World.setCell, cat] using V5.out b hb) (fun x e => by cases e; exact ⟨HF.out, by omega, hgr, filledP_end FI.out⟩) (fun e => by cases e) (by first | exact Nat.zero_le _ | (show k ≤ maxLen; unfold maxLen; omega))
          refine ⟨rfl, ?_⟩
          refine pk_owned HA.out (by rw [← HNX.out]; exact R.1) R.2.1 R.2.2.1 R.2.2.2 (fun b e => ?_)
          cases e; rfl

set_option maxHeartbeats 2000000 in
set_option maxRecDepth 100000 in
theorem ownParcels_nil (pw : Nat) (F : Nat → Value) (nx : Int) (ls : Nat → List Ow) (w : World) (h : InvW w pw F nx ls) (h0 : 0 ≤ nx) (h1 : nx ≤ 1000000000000000000) (hlen3 : ((ls 3).length + 1) * 24 ≤ 140737488355328) :
    Calls Tryz.prog 118 #[.pointer (some ⟨pw, 0, none⟩), .slice none 0 0] w fun e w' => e = .returned (.tuple #[]) ∧ PkOwned w pw F nx ls (.slice none 0 0) [] 0 w' := by
  obtain ⟨i0, hi, hz0, hz1, hz2⟩ := info_parts infoI
  obtain ⟨i1, hi1, hy0, hy1, hy2⟩ := info_parts infoPLs
  have m1 := mkN_lo nx
  have m2 := mkN_hi nx
  have hpl := h.pw_lt
  have HI := hideG h
  have HA := hideG (show PRelAt w pw F nx ls [] 0 w F ls from ⟨by simpa using h, id, fun _ _ => rfl, by omega, fun _ _ => rfl, Chg.refl _ _, fun _ _ _ h => h⟩)
  clear h
  go_enter Tryz.func118, Tryz.ntmps118
  go_wp2_with fail
  go_loop [4] (fun i => i = .int .i64 0) (fun _ => 0)
  case atStart => rfl
  case round =>
  subst hrel
  go_wp2_with fail
  refine (mark_calls pw F nx ls _ HI.out h0 h1).mono ?_
  rintro e wr ⟨rfl, hw1⟩
  have W1 := hideG hw1
  clear hw1
  generalize hm : mkN nx = m at *
  have HM := hideG hm
  clear hm
  have k2 : Chg (fun b => ((none, 0, m) : Ow).1 = some b) wr wr := Chg.refl _ _
  have K2 := hideG k2
  obtain ⟨a1, a2, a3, a4, a5⟩ := own_mid1 HI.out 3 (by omega) W1.out k2 (fun x e => by cases e)
  obtain ⟨c3, c3f⟩ := cell_f a1 6 (by omega)
  rw [upd_other _ _ (by omega)] at c3
  have A1 := hideG a1
  have A2 := hideG a2
  have A3 := hideG a3
  clear a1 a2 a3 a5 k2
  go_wp2_with fail
  go_loop [7] (fun i => i = .int .i64 0) (fun _ => 0)
  case atStart => rfl
  case round =>
    subst hrel
    go_wp2_with (at_builtin; refine wpList_append_one _ rfl _ _ 85 rfl (pw + 1) 41 i1 (.slice none 0 0) 24 Tryz.underlying85 hi1 hy0 hy1 hy2 rfl (F 6) (ls 3).length ((ls 3).map owVal) rfl (A2.out.alloc _) ⟨wr.heap.size, 0, none⟩ 1 (.slice none 0 0) rfl (by simp [go_sem]) rfl (by unfold maxLen; omega) hlen3 (by simp; omega) ?_)
    intro g3 cap3 w3 ho3 hg3 hv3
    obtain ⟨p1, p2, p3, p4⟩ := own_mid2 HI.out 3 (by omega) A1.out A3.out A2.out hg3
    obtain ⟨c9, c9f⟩ := cell_f p1 12 (by omega)
    rw [upd_other _ _ (by omega)] at c9
    obtain ⟨d3, d3f⟩ := cell_f p1 6 (by omega)
    rw [upd_other _ _ (by omega)] at d3
    have O3 := hideG ho3
    have K3 := hideG hg3
    have V3 := hideG (own_one (n := (ls 3).length + 1) (c := cap3) hv3)
    have P1 := hideG p1
    have P2 := hideG p2
    clear ho3 hg3 hv3 p1 p2 p4 c3 c3f
    go_wp2_with (at_builtin; (refine wpList_append_one _ rfl _ _ 33 rfl (pw + 1) 3 i0 (.int .i64 0) 8 Tryz.underlying33 hi hz0 hz1 hz2 rfl (F 12) (ls 3).length ((ls 3).map fun o => Value.int .i64 o.2.2) rfl ((ownsRow_setCell_below P2.out (by simp) _).alloc _) ⟨w3.heap.size, 0, none⟩ 1 (.int .i64 m) rfl (by simp [go_sem]) rfl (by unfold maxLen; omega) (by omega) (by simp [World.setCell]; omega) ?_))
    intro g5 cap5 w5 ho5 hg5 hv5
    obtain ⟨q1, q2, q3⟩ := own_mid3 HI.out 3 P1.out P2.out (.slice (some ⟨g3, 0, none⟩) ((ls 3).length + 1) cap3) hg5
    obtain ⟨f9, f9f⟩ := cell_f q1 12 (by omega)
    have O5 := hideG ho5
    have K5 := hideG hg5
    have V5 := hideG (own_one (n := (ls 3).length + 1) (c := cap5) hv5)
    clear ho5 hg5 hv5 q1 q3 d3 d3f c9 c9f
    go_wp2_with fail
    go_end0
    have R := own_finish HI.out 3 (by omega) (o := (none, 0, m)) (.slice (some ⟨g3, 0, none⟩) ((ls 3).length + 1) cap3) (.slice (some ⟨g5, 0, none⟩) ((ls 3).length + 1) cap5) W1.out K2.out K3.out O3.out (fun b hb => by simpa [cat] using V3.out b hb) K5.out O5.out (fun b hb => by simpa [World.setCell, cat] using V5.out b hb) (fun x e => by cases e) (fun _ => rfl) (Nat.zero_le _)
    refine ⟨rfl, ?_⟩
    refine pk_owned HA.out (by rw [show nx + ((0 : Nat) : Int) + 1 = nx + 1 by omega]; exact R.1) R.2.1 R.2.2.1 R.2.2.2 (fun b e => ?_)
    cases e

theorem own_packs (pw : Nat) (F : Nat → Value) (nx : Int) (ls : Nat → List Ow) (v : Value) (vs : List Value) (ps : List Pk) (B : Nat) (w : World) (h : InvW w pw F nx ls) (hp : Packs w B v vs ps) (hB : pw < B) (hf : ∀ x, PkFoot v vs x → ¬ Foot F ls x)
    (h0 : 0 ≤ nx) (h1 : nx + (ps.length : Int) ≤ 1000000000000000000) (hlen : ((ls 1).length + ps.length) * 24 ≤ 140737488355328) (hlen3 : ((ls 3).length + 1) * 24 ≤ 140737488355328) :
    Calls Tryz.prog 118 #[.pointer (some ⟨pw, 0, none⟩), v] w fun e w' => e = .returned (.tuple #[]) ∧ PkOwned w pw F nx ls v vs ps.length w' := by
  rcases hp.row.2 with ⟨rfl, hn⟩ | ⟨g, cap, cur, rfl, _⟩
  · have e1 : ps = [] := List.eq_nil_of_length_eq_zero hn
    have e2 : vs = [] := List.eq_nil_of_length_eq_zero (by rw [hp.len, hn])
    subst e1; subst e2
    exact ownParcels_nil pw F nx ls w h h0 (by simpa using h1) hlen3
  · exact ownParcels_some pw F nx ls g _ cap vs ps B w h rfl hp hB hf h0 h1 hlen hlen3

end Go.Proofs.YtchideljndagjabGreat
