import Derived.Test.YtegnkfdbmmndaaaGreatJ01
import Derived.Test.YtegnkfdbmmndaaaGreatRows
import Derived.WalkKit
import Derived.WalkSpells
import Derived.WalkLawsBesides
import Derived.Lib.AppendStr
import Derived.ArgAppend
import Derived.Test.YtegnkfdbmmndaaaGreatJ00
import Derived.Deep.LoopGhost
import Derived.Deep.QuietTactic
import Derived.BigQuiet
import Derived.Laws.BytesArg

/- FollowM -/
section
/- A column's own bits are laid; and how one goes down the tree. -/
namespace Go.Proofs.YtegnkfdbmmndaaaGreat
namespace Hm

section
variable {M : Nat} {ln num : UInt8 → Nat} {o : List UInt8} {nds : List Nd} {f : Nat → Bool} {col : List UInt8}
/-- How many of a node's bytes have the bit u next. -/
def side (ln num : UInt8 → Nat) (nds : List Nd) (l : List UInt8) (n u : Nat) : Nat := (l.filter fun b => bitAt ln num (ndAt nds n).depth b == u).length
theorem side_sum (ln num : UInt8 → Nat) (nds : List Nd) (n : Nat) : ∀ l : List UInt8, side ln num nds l n 0 + side ln num nds l n 1 = l.length
 | [] => rfl
 | b :: r => by
  have ih := side_sum ln num nds n r
  have := bitAt_lt ln num (ndAt nds n).depth b
  unfold side at *
  rcases (show bitAt ln num (ndAt nds n).depth b = 0 ∨ bitAt ln num (ndAt nds n).depth b = 1 by omega) with e | e
  ·rw [List.filter_cons, List.filter_cons, e]; simp; omega
  ·rw [List.filter_cons, List.filter_cons, e]; simp; omega
theorem ones_map (ln num : UInt8 → Nat) (nds : List Nd) (n : Nat) (l : List UInt8) : ones (l.map fun b => decide (bitAt ln num (ndAt nds n).depth b = 1)) = side ln num nds l n 1 := by
 unfold ones side
 rw [List.countP_map, List.countP_eq_length_filter]
 congr 1

/-- A node's bits are where they should be. -/
theorem treeBits_at (ln num : UInt8 → Nat) (nds : List Nd) (col : List UInt8) {N i p : Nat} (hi : i < N) (hp : p < (colAt ln num nds col i).length) :
  (treeBits ln num nds col N).getD ((treeBits ln num nds col i).length + p) 0 = bitAt ln num (ndAt nds i).depth ((colAt ln num nds col i).getD p 0) ∧ (treeBits ln num nds col i).length + p < (treeBits ln num nds col N).length := by
 have key : ∃ r, treeBits ln num nds col N = treeBits ln num nds col (i + 1) ++ r := by
  clear hp
  induction N with
  | zero => omega
  | succ N ih =>
   by_cases e : i = N
   ·subst e; exact ⟨[], by simp⟩
   ·obtain ⟨r, hr⟩ := ih (by omega)
    exact ⟨r ++ nodeBits ln num nds col N, by rw [treeBits_succ, hr, List.append_assoc]⟩
 obtain ⟨r, hr⟩ := key
 have hnl : (nodeBits ln num nds col i).length = (colAt ln num nds col i).length := by simp [nodeBits]
 rw [hr, treeBits_succ]
 constructor
 ·rw [List.getD_eq_getElem?_getD, List.append_assoc, List.getElem?_append_right (by omega), Nat.add_sub_cancel_left, List.getElem?_append_left (by omega)]
  unfold nodeBits
  rw [List.getElem?_map, List.getElem?_eq_getElem hp, List.getD_eq_getElem?_getD, List.getElem?_eq_getElem hp]; rfl
 ·simp only [List.length_append]; omega

structure OwnInv (ln num : UInt8 → Nat) (nds : List Nd) (col : List UInt8) (i : Nat) (st : LaySt) : Prop where
 like : Like st.nds nds
 len : st.len = (treeBits ln num nds col i).length
 siz : ∀ n, n < nds.length → (n = 0 ∨ ∃ j u, j < i ∧ u < 2 ∧ (ndAt nds j).br u = { node := n }) → (ndAt st.nds n).siz = (colAt ln num nds col n).length
 st : ∀ j, j ≤ i → startOf st.nds j = (treeBits ln num nds col j).length

theorem own_step {LB i : Nat} {st : LaySt} (h : Shaped M ln o nds) (hk : NumK M ln num o) (hc : ∀ b ∈ col, b ∈ o) (hi : i < nds.length) (hv : OwnInv ln num nds col i st) (hf : ∀ k, k < (treeBits ln num nds col nds.length).length → f k = decide ((treeBits ln num nds col nds.length).getD k 0 = 1)) (hLB : (treeBits ln num nds col nds.length).length ≤ LB) :
  ∃ st', layStep f LB i st = some st' ∧ OwnInv ln num nds col (i + 1) st' := by
 have hsz : (ndAt st.nds i).siz = (colAt ln num nds col i).length := by
  refine hv.siz i hi ?_
  by_cases e : i = 0
  ·exact .inl e
  ·obtain ⟨j, u, h1, h2, h3⟩ := h.par i (by omega) hi
   exact .inr ⟨j, u, h2, h1, h3⟩
 have hln : (treeBits ln num nds col (i + 1)).length = st.len + (ndAt st.nds i).siz := by
  rw [treeBits_succ, List.length_append, ← hv.len, hsz]; simp [nodeBits]
 have hle : (treeBits ln num nds col (i + 1)).length ≤ (treeBits ln num nds col nds.length).length := by
  have : ∀ m, i + 1 ≤ m → (treeBits ln num nds col (i + 1)).length ≤ (treeBits ln num nds col m).length := by
   intro m hm
   induction m with
   | zero => omega
   | succ m ih =>
    by_cases e : i = m
    ·subst e; exact Nat.le_refl _
    ·have := ih (by omega)
     rw [treeBits_succ ln num nds col m, List.length_append]; omega
  exact this _ hi
 have hpb : partBits f st.len (ndAt st.nds i).siz = (colAt ln num nds col i).map fun b => decide (bitAt ln num (ndAt nds i).depth b = 1) := by
  apply List.ext_getElem
  ·rw [partBits_length, List.length_map, hsz]
  ·intro p h1 h2
   rw [partBits_length] at h1
   have hp : p < (colAt ln num nds col i).length := by omega
   obtain ⟨q1, q2⟩ := treeBits_at ln num nds col hi hp
   have e0 : (partBits f st.len (ndAt st.nds i).siz)[p]? = some (f (st.len + p)) := by
    unfold partBits
    rw [List.getElem?_map, List.getElem?_range h1]; rfl
   rw [List.getElem?_eq_getElem (by rw [partBits_length]; exact h1)] at e0
   rw [Option.some.inj e0, List.getElem_map, hv.len, hf _ q2, q1, List.getD_eq_getElem?_getD, List.getElem?_eq_getElem hp]; rfl
 obtain ⟨o1, o2⟩ := ones_part f st.len (ndAt st.nds i).siz
 rw [hpb, ones_map] at o1
 have eon : onesIn f st i = side ln num nds (colAt ln num nds col i) i 1 := o1.symm
 have hss := side_sum ln num nds i (colAt ln num nds col i)
 have eze : (ndAt st.nds i).siz - onesIn f st i = side ln num nds (colAt ln num nds col i) i 0 := by omega
 have give : ∀ u, u < 2 → ∀ s : LaySt, Like s.nds nds → ∃ s', shareM ((ndAt nds i).br u) (side ln num nds (colAt ln num nds col i) i u) s = some s' := by
  intro u hu s _
  unfold shareM
  cases h.good i u hi hu with
  | leaf kk hkk e => rw [e]; exact ⟨_, if_pos rfl⟩
  | node n e h1 => rw [e]; exact ⟨_, (if_neg (by simp)).trans (if_pos (by show 0 < n; omega))⟩
  | none e h2 =>
   rw [e]
   refine ⟨s, (if_neg (by simp)).trans ((if_neg (by simp)).trans (if_pos ?_))⟩
   unfold side
   rw [List.length_eq_zero_iff, List.filter_eq_nil_iff]
   intro b hb hx
   have hb2 := List.mem_filter.1 hb
   have hx2 : bitAt ln num (ndAt nds i).depth b = u := by simpa using hx
   refine child_none hk (hc b hb2.1) hb2.2 ?_
   rw [hx2]; exact h2
 have like1 := hv.like.2 i
 have b0e : (ndAt st.nds i).b0 = (ndAt nds i).br 0 := like1.2.2.1
 have b1e : (ndAt st.nds i).b1 = (ndAt nds i).br 1 := like1.2.2.2
 obtain ⟨s1, h1⟩ := give 0 (by omega) ⟨st.len + (ndAt st.nds i).siz, setFrm st.nds i st.len, st.ws⟩ ((like_frm _ _ _).trans hv.like)
 have l1 := shareM_like h1
 obtain ⟨s2, h2⟩ := give 1 (by omega) s1 (l1.1.trans ((like_frm _ _ _).trans hv.like))
 have l2 := shareM_like h2
 have a := shareM_eff h1
 have b := shareM_eff h2
 have hstep : layStep f LB i st = some s2 := by
  unfold layStep
  rw [if_neg (by omega), eze, eon, b0e, b1e, h1]
  exact h2
 refine ⟨s2, hstep, ?_⟩
 have lk := layStep_like hstep
 have hil : i < st.nds.length := by rw [hv.like.1]; exact hi
 have n1l : s1.nds.length = nds.length := (l1.1.trans ((like_frm _ _ _).trans hv.like)).1
 have frm0 : ∀ j, (ndAt (setFrm st.nds i st.len) j).siz = (ndAt st.nds j).siz := fun j => by rw [setFrm_at _ _ _ _ hil]; split <;> rfl
 have szs : ∀ n, n < nds.length → (∀ u, u < 2 → (ndAt nds i).br u ≠ { node := n } ∨ n = 0) → (ndAt s2.nds n).siz = (ndAt st.nds n).siz := by
  intro n hn hne
  have other : ∀ u, u < 2 → ((ndAt nds i).br u).whole = true ∨ n ≠ ((ndAt nds i).br u).node ∨ ((ndAt nds i).br u).node = 0 := by
   intro u hu
   cases h.good i u hi hu with
   | leaf kk hkk e => rw [e]; exact .inl rfl
   | node m e h3 =>
    rcases hne u hu with c | c
    ·rw [e] at c ⊢; right; left; intro x; subst x; exact c rfl
    ·rw [e]; right; left; show n ≠ m; omega
   | none e => rw [e]; exact .inr (.inr rfl)
  rw [b.other n (other 1 (by omega)), a.other n (other 0 (by omega))]
  exact frm0 n
 have hit : ∀ u n, u < 2 → 0 < n → (ndAt nds i).br u = { node := n } → (ndAt s2.nds n).siz = (colAt ln num nds col n).length := by
  intro u n hu hn0 e
  obtain ⟨q1, q2, _⟩ := h.child hi hu hn0 e
  have ecol : (colAt ln num nds col n).length = side ln num nds (colAt ln num nds col i) i u := by rw [h.col_child hk hc hi hu hn0 e]; rfl
  rcases (show u = 0 ∨ u = 1 by omega) with rfl | rfl
  ·have hb : ((ndAt nds i).br 1).whole = true ∨ n ≠ ((ndAt nds i).br 1).node ∨ ((ndAt nds i).br 1).node = 0 := by
    cases h.good i 1 hi (by omega) with
    | leaf kk hkk e1 => rw [e1]; exact .inl rfl
    | node m e1 h3 =>
     rw [e1]; right; left
     intro x
     have x' : n = m := x
     subst x'
     have := h.parent hi (by omega) hi (by omega) hn0 e e1
     omega
    | none e1 => rw [e1]; exact .inr (.inr rfl)
   rw [b.other n hb]
   have := a.hit (by rw [e]) (by rw [e]; exact hn0) (by rw [e]; show n < (setFrm st.nds i st.len).length; rw [setFrm_length, hv.like.1]; exact q2)
   rw [e] at this
   rw [this, ecol]
  ·have := b.hit (by rw [e]) (by rw [e]; exact hn0) (by rw [e]; show n < _; omega)
   rw [e] at this
   rw [this, ecol]
 refine ⟨lk.1.trans hv.like, by rw [lk.2.1, hln], fun n hn hp => ?_, fun j hj => ?_⟩
 ·by_cases c : ∃ u, u < 2 ∧ (ndAt nds i).br u = { node := n } ∧ 0 < n
  ·obtain ⟨u, hu, e, hn0⟩ := c
   exact hit u n hu hn0 e
  ·have hne : ∀ u, u < 2 → (ndAt nds i).br u ≠ { node := n } ∨ n = 0 := fun u hu => by
    rcases Nat.eq_zero_or_pos n with x | x
    ·exact .inr x
    ·exact .inl fun e => c ⟨u, hu, e, x⟩
   rw [szs n hn hne]
   refine hv.siz n hn ?_
   rcases hp with x | ⟨j, u, h3, h4, h5⟩
   ·exact .inl x
   ·by_cases e : j = i
    ·subst e
     rcases hne u h4 with y | y
     ·exact absurd h5 y
     ·exact .inl y
    ·exact .inr ⟨j, u, by omega, h4, h5⟩
 ·have low : ∀ k, k < i + 1 → (ndAt s2.nds k).siz = (ndAt st.nds k).siz := fun k hk' => szs k (by omega) fun u hu => by
   rcases Nat.eq_zero_or_pos k with x | x
   ·exact .inr x
   ·refine .inl fun e => ?_
    have := (h.child hi hu x e).1
    omega
  by_cases e : j = i + 1
  ·subst e
   rw [startOf, startOf_congr (b := st.nds) (fun k hk' => low k (by omega)), low i (by omega), hv.st i (Nat.le_refl _), ← hv.len, hln]
  ·rw [startOf_congr (b := st.nds) (fun k hk' => low k (by omega))]
   exact hv.st j (by omega)

/-- A column's own bits are laid. -/
theorem own_laid {LB : Nat} {ws : List Nat} (h : Shaped M ln o nds) (hk : NumK M ln num o) (hc : ∀ b ∈ col, b ∈ o) (hpos : ∀ b ∈ o, 0 < ln b) (hnum : ∀ b ∈ o, num b < 2 ^ ln b) (hf : ∀ k, k < (treeBits ln num nds col nds.length).length → f k = decide ((treeBits ln num nds col nds.length).getD k 0 = 1)) (hLB : (treeBits ln num nds col nds.length).length ≤ LB) :
  ∀ i, i ≤ nds.length → ∃ st, layTo f LB nds col.length ws i = some st ∧ OwnInv ln num nds col i st
 | 0, _ => by
  refine ⟨_, rfl, like_siz _ _ _, rfl, fun n hn hp => ?_, fun j hj => ?_⟩
  ·rcases hp with x | ⟨j, u, h1, _⟩
   ·subst x
    show (ndAt (setSiz nds 0 col.length) 0).siz = _
    rw [setSiz_at _ _ _ _ h.more, if_pos rfl]
    unfold colAt
    rw [List.filter_eq_self.2]
    intro b hb
    refine decide_eq_true ⟨by rw [h.root.1]; exact hpos b (hc b hb), ?_⟩
    rw [h.root.1, h.root.2, Nat.sub_zero]
    exact Nat.div_eq_of_lt (hnum b (hc b hb))
   ·omega
  ·obtain rfl : j = 0 := by omega
   rfl
 | i + 1, hi => by
  obtain ⟨st, h1, h2⟩ := own_laid (ws := ws) h hk hc hpos hnum hf hLB i (by omega)
  obtain ⟨st', h3, h4⟩ := own_step h hk hc (by omega) h2 hf hLB
  exact ⟨st', by rw [layTo, h1]; exact h3, h4⟩

theorem like_under {a b : Nd} (h : LikeNd a b) : under ln num a = under ln num b := by
 funext x; unfold under; rw [h.1, h.2.1]
theorem like_colAt {nds' : List Nd} (h : Like nds' nds) (n : Nat) : colAt ln num nds' col n = colAt ln num nds col n := by
 unfold colAt; rw [like_under (h.2 n)]
/-- And they tell that column. -/
theorem own_rep {LB : Nat} (h : Shaped M ln o nds) (hn : o.Nodup) (hk : NumK M ln num o) (hc : ∀ b ∈ col, b ∈ o) (hpos : ∀ b ∈ o, 0 < ln b) (hnum : ∀ b ∈ o, num b < 2 ^ ln b) (hf : ∀ k, k < (treeBits ln num nds col nds.length).length → f k = decide ((treeBits ln num nds col nds.length).getD k 0 = 1)) (hLB : (treeBits ln num nds col nds.length).length ≤ LB) :
  ∃ st, layM f LB nds col.length (List.replicate 256 0) = some st ∧ st.len = (treeBits ln num nds col nds.length).length ∧ Like st.nds nds ∧ Rep ln num f st.nds col ∧ ∀ v : UInt8, st.ws.getD v.toNat 0 = col.count v := by
 obtain ⟨st, h1, h2⟩ := own_laid (ws := List.replicate 256 0) h hk hc hpos hnum hf hLB nds.length (Nat.le_refl _)
 have hi := layTo_inv h hn rfl (Nat.le_refl _) h1
 have hlk := h2.like
 have sizes : ∀ n, n < nds.length → (ndAt st.nds n).siz = (colAt ln num nds col n).length := fun n hl => by
  refine h2.siz n hl ?_
  by_cases e : n = 0
  ·exact .inl e
  ·obtain ⟨j, u, q1, q2, q3⟩ := h.par n (by omega) hl
   exact .inr ⟨j, u, by omega, q1, q3⟩
 have hsh := h.like hlk
 have rep : Rep ln num f st.nds col := by
  refine ⟨fun n hl => ?_, fun n hl => hi.frm n (by rw [hlk.1] at hl; exact hl), fun n p hl hp => ?_⟩
  ·rw [hlk.1] at hl
   rw [like_colAt hlk, sizes n hl]
  ·rw [hlk.1] at hl
   rw [sizes n hl] at hp
   obtain ⟨q1, q2⟩ := treeBits_at ln num nds col hl hp
   rw [hi.frm n hl, h2.st n (by omega), hf _ q2, q1, like_colAt hlk, (hlk.2 n).1]
 refine ⟨st, h1, h2.len, hlk, rep, fun v => ?_⟩
 have h2' : LayInv f col.length st.nds.length st := by rw [hlk.1]; exact hi
 obtain ⟨col', c1, c2, c3, c4⟩ := laid_rep h2' rfl hsh hk hnum hpos
 have same : ∀ m n, nds.length - n ≤ m → n < nds.length → colAt ln num st.nds col n = colAt ln num st.nds col' n := by
  intro m
  induction m with
  | zero => intro n h3 h4; omega
  | succ m ih =>
   intro n h3 h4
   have h4' : n < st.nds.length := by rw [hlk.1]; exact h4
   have lens : (colAt ln num st.nds col n).length = (colAt ln num st.nds col' n).length := by rw [← rep.siz n h4', ← c3.siz n h4']
   have sub : ∀ (c : List UInt8) (_ : ∀ b ∈ c, b ∈ o) u, u < 2 → (∀ m', 0 < m' → (ndAt st.nds n).br u = { node := m' } → (colAt ln num st.nds c n).filter (fun b => bitAt ln num (ndAt st.nds n).depth b == u) = colAt ln num st.nds c m') ∧ (∀ v, (ndAt st.nds n).br u = { whole := true, val := v } → ∀ b ∈ (colAt ln num st.nds c n).filter (fun b => bitAt ln num (ndAt st.nds n).depth b == u), b = v) := by
    intro c hcm u hu
    refine ⟨fun m' hm' e => (hsh.col_child hk hcm h4' hu hm' e).symm, fun v e b hb => ?_⟩
    obtain ⟨q1, q2⟩ := List.mem_filter.1 hb
    obtain ⟨q3, q4⟩ := List.mem_filter.1 q1
    have q5 : bitAt ln num (ndAt st.nds n).depth b = u := by simpa using q2
    cases hsh.good n u h4' hu with
    | leaf kk hkk e1 e2 e3 =>
     rw [e1] at e
     have ev : o.getD kk 0 = v := by injection e
     rw [← ev]
     exact child_leaf hk (hcm b q3) q4 hkk e2 (by rw [q5]; exact e3)
    | node _ e1 => rw [e1] at e; cases e
    | none e1 => rw [e1] at e; cases e
   apply List.ext_getElem lens
   intro p h5 h6
   have hp : p < (ndAt st.nds n).siz := by rw [rep.siz n h4']; exact h5
   have bits : (colAt ln num st.nds col n).map (fun b => bitAt ln num (ndAt st.nds n).depth b) = (colAt ln num st.nds col' n).map (fun b => bitAt ln num (ndAt st.nds n).depth b) := by
    apply List.ext_getElem
    ·rw [List.length_map, List.length_map, lens]
    ·intro q h7 h8
     rw [List.length_map] at h7 h8
     have hq : q < (ndAt st.nds n).siz := by rw [rep.siz n h4']; exact h7
     have e1 := rep.bit n q h4' hq
     have e2 := c3.bit n q h4' hq
     rw [e1, decide_eq_decide, List.getD_eq_getElem?_getD, List.getElem?_eq_getElem h7, List.getD_eq_getElem?_getD, List.getElem?_eq_getElem h8] at e2
     rw [List.getElem_map, List.getElem_map]
     have b1 := bitAt_lt ln num (ndAt st.nds n).depth (colAt ln num st.nds col n)[q]
     have b2 := bitAt_lt ln num (ndAt st.nds n).depth (colAt ln num st.nds col' n)[q]
     have e3 : bitAt ln num (ndAt st.nds n).depth (colAt ln num st.nds col n)[q] = 1 ↔ bitAt ln num (ndAt st.nds n).depth (colAt ln num st.nds col' n)[q] = 1 := e2
     omega
   have rank : ∀ (a b : List UInt8) (g : UInt8 → Nat), a.map g = b.map g → (∀ u, a.filter (fun x => g x == u) = b.filter (fun x => g x == u)) → a = b := by
    intro a
    induction a with
    | nil => intro b g e _; cases b with
     | nil => rfl
     | cons y t => simp at e
    | cons x r ihr =>
     intro b g e hfl
     cases b with
     | nil => simp at e
     | cons y t =>
      rw [List.map_cons, List.map_cons] at e
      injection e with e1 e2
      have h0 := hfl (g x)
      rw [List.filter_cons, List.filter_cons, e1, if_pos (beq_self_eq_true _), if_pos (beq_self_eq_true _)] at h0
      injection h0 with h00 _
      subst h00
      congr 1
      refine ihr t g e2 fun u => ?_
      have h1 := hfl u
      rw [List.filter_cons, List.filter_cons] at h1
      split at h1
      ·injection h1
      ·exact h1
   have fl : ∀ u, (colAt ln num st.nds col n).filter (fun b => bitAt ln num (ndAt st.nds n).depth b == u) = (colAt ln num st.nds col' n).filter (fun b => bitAt ln num (ndAt st.nds n).depth b == u) := by
    intro u
    by_cases hu : u < 2
    ·have ln1 : ((colAt ln num st.nds col n).filter (fun b => bitAt ln num (ndAt st.nds n).depth b == u)).length = ((colAt ln num st.nds col' n).filter (fun b => bitAt ln num (ndAt st.nds n).depth b == u)).length := by
      have cp : ∀ l : List UInt8, (l.filter (fun b => bitAt ln num (ndAt st.nds n).depth b == u)).length = (l.map (fun b => bitAt ln num (ndAt st.nds n).depth b)).countP (· == u) := fun l => by
       rw [List.countP_map, List.countP_eq_length_filter]; rfl
      rw [cp, cp, bits]
     cases hg : hsh.good n u h4' hu with
     | leaf kk hkk e1 =>
      have r1 := (sub col hc u hu).2 _ e1
      have r2 := (sub col' c2 u hu).2 _ e1
      rw [List.eq_replicate_of_mem r1, List.eq_replicate_of_mem r2, ln1]
     | node m' e1 q1 q2 =>
      rw [(sub col hc u hu).1 m' (by omega) e1, (sub col' c2 u hu).1 m' (by omega) e1]
      rw [hlk.1] at q2
      exact ih m' (by omega) q2
     | none e1 q1 =>
      have em : ∀ (c : List UInt8) (_ : ∀ b ∈ c, b ∈ o), (colAt ln num st.nds c n).filter (fun b => bitAt ln num (ndAt st.nds n).depth b == u) = [] := by
       intro c hcm
       rw [List.filter_eq_nil_iff]
       intro b hb hx
       have hb2 := List.mem_filter.1 hb
       have hx2 : bitAt ln num (ndAt st.nds n).depth b = u := by simpa using hx
       refine child_none hk (hcm b hb2.1) hb2.2 ?_
       rw [hx2]; exact q1
      rw [em col hc, em col' c2]
    ·have em : ∀ l : List UInt8, l.filter (fun b => bitAt ln num (ndAt st.nds n).depth b == u) = [] := fun l => by
      rw [List.filter_eq_nil_iff]
      intro b _ hx
      have hx2 : bitAt ln num (ndAt st.nds n).depth b = u := by simpa using hx
      have := bitAt_lt ln num (ndAt st.nds n).depth b
      omega
     rw [em, em]
   have := rank _ _ _ bits fl
   simp only [this]
 have root : ∀ c : List UInt8, (∀ b ∈ c, b ∈ o) → colAt ln num st.nds c 0 = c := fun c hcm => by
  unfold colAt
  refine List.filter_eq_self.2 fun b hb => decide_eq_true ⟨by rw [hsh.root.1]; exact hpos b (hcm b hb), ?_⟩
  rw [hsh.root.1, hsh.root.2, Nat.sub_zero]
  exact Nat.div_eq_of_lt (hnum b (hcm b hb))
 have e := same nds.length 0 (by omega) h.more
 rw [root col hc, root col' c2] at e
 rw [c4 v, e]
end

end Hm
end Go.Proofs.YtegnkfdbmmndaaaGreat
end

/- Mem -/
section
/- Memory that a call leaves as it was but for some blocks, and an append that tells which block its row then has. -/
namespace Go.Proofs.YtegnkfdbmmndaaaGreat
open Go.RowKit

/-- All blocks of w but those of S are in w' as they were. -/
structure Kept (S : Nat → Prop) (w w' : World) : Prop where
  os : w'.os = w.os
  tape : w'.tape = w.tape
  output : w'.output = w.output
  size : w.heap.size ≤ w'.heap.size
  block : ∀ k, k < w.heap.size → ¬ S k → w'.heap[k]? = w.heap[k]?

theorem Kept.refl (S : Nat → Prop) (w : World) : Kept S w w := ⟨rfl, rfl, rfl, Nat.le_refl _, fun _ _ _ => rfl⟩
theorem Kept.trans {S T : Nat → Prop} {a b c : World} (h : Kept S a b) (k : Kept T b c) (hT : ∀ j, j < a.heap.size → T j → S j) : Kept S a c :=
  ⟨k.os.trans h.os, k.tape.trans h.tape, k.output.trans h.output, Nat.le_trans h.size k.size, fun j hj hn => (k.block j (Nat.lt_of_lt_of_le hj h.size) (fun x => hn (hT j hj x))).trans (h.block j hj hn)⟩
theorem Kept.wider {S T : Nat → Prop} {a b : World} (h : Kept S a b) (hT : ∀ j, j < a.heap.size → S j → T j) : Kept T a b :=
  ⟨h.os, h.tape, h.output, h.size, fun j hj hn => h.block j hj (fun x => hn (hT j hj x))⟩
theorem Kept.drew {S : Nat → Prop} {a b : World} (h : Kept S a b) : Kept S a b.drew := ⟨h.os, h.tape, h.output, h.size, h.block⟩
theorem Kept.drewN {S : Nat → Prop} {a b : World} (h : Kept S a b) (n : Nat) : Kept S a (b.drewN n) := ⟨h.os, h.tape, h.output, h.size, h.block⟩
theorem Kept.alloc {S : Nat → Prop} {a b : World} (h : Kept S a b) (o : Obj) : Kept S a (b.alloc o) :=
  ⟨h.os, h.tape, h.output, by have := h.size; simp; omega, fun j hj hn => (Below.heap_alloc b o j (by have := h.size; omega)).trans (h.block j hj hn)⟩
theorem Kept.setCell {S : Nat → Prop} {a b : World} (h : Kept S a b) {p : Addr} (hp : a.heap.size ≤ p.block ∨ S p.block) (u : Value) : Kept S a (b.setCell p u) := by
  have hb := (Below.refl 0 b).setCell (p := p) (Nat.zero_le _) u
  refine ⟨hb.os.trans h.os, hb.tape.trans h.tape, hb.output.trans h.output, Nat.le_trans h.size hb.size, fun j hj hn => ?_⟩
  have hne : j ≠ p.block := by rintro rfl; rcases hp with hp | hp; · omega
                               · exact hn hp
  exact (Below.heap_setCell b p u j hne).trans (h.block j hj hn)
theorem Kept.grown {S : Nat → Prop} {a b c : World} {row : Option Nat} (h : Kept S a b) (hg : b.grownBy c row) (hr : ∀ k, row = some k → a.heap.size ≤ k ∨ S k) : Kept S a c :=
  ⟨hg.os.trans h.os, hg.tape.trans h.tape, hg.output.trans h.output, Nat.le_trans h.size hg.size, fun j hj hn => (hg.block j (Nat.lt_of_lt_of_le hj h.size) (fun e => by
    rcases hr j e.symm with x | x
    · omega
    · exact hn x)).trans (h.block j hj hn)⟩
theorem Kept.ofBelow {S : Nat → Prop} {B : Nat} {a b : World} (h : Below B a b) (hS : ∀ j, j < a.heap.size → B ≤ j → S j) : Kept S a b :=
  ⟨h.os, h.tape, h.output, h.size, fun j hj hn => h.block j (by
    rcases Nat.lt_or_ge j B with x | x
    · exact x
    · exact absurd (hS j hj x) hn)⟩
theorem Kept.below {S : Nat → Prop} {B : Nat} {a b : World} (h : Kept S a b) (hB : B ≤ a.heap.size) (hS : ∀ j, j < B → ¬ S j) : Below B a b :=
  ⟨h.os, h.tape, h.output, h.size, fun j hj => h.block j (by omega) (hS j hj)⟩
theorem Kept.cell {S : Nat → Prop} {a b : World} (h : Kept S a b) {p : Addr} (hp : p.block < a.heap.size) (hn : ¬ S p.block) : b.cell? p = a.cell? p := World.cell?_of_block (h.block _ hp hn)
theorem Kept.frozen {S : Nat → Prop} {a b : World} (h : Kept S a b) {p : Addr} (hp : p.block < a.heap.size) (hn : ¬ S p.block) : b.frozen? p = a.frozen? p := World.frozen?_of_block (h.block _ hp hn)
theorem Kept.row {S : Nat → Prop} {a b : World} (h : Kept S a b) {g : Nat} {o : Obj} (hg : a.heap[g]? = some o) (hn : ¬ S g) : b.heap[g]? = some o := (h.block g (lt_of_block hg) hn).trans hg
theorem Kept.owns {S : Nat → Prop} {a b : World} (h : Kept S a b) {base : Nat} {e : TypeId} {size : Nat} {v : Value} {n : Nat} {xs : List Value} (ho : a.ownsRow base e size v n xs) (hn : ∀ k, v.ownBlock = some k → ¬ S k) : b.ownsRow base e size v n xs := by
  obtain ⟨hl, hr⟩ := ho
  refine ⟨hl, ?_⟩
  rcases hr with hr | ⟨g, cap, cur, rfl, h1, h2, h3, h4, h5, h6⟩
  · exact .inl hr
  · exact .inr ⟨g, cap, cur, rfl, h1, h.row h2 (hn g rfl), h3, h4, h5, h6⟩

/-- v' begins where v began, or in a block that w has not. -/
def Moved (w : World) (v v' : Value) : Prop := ∀ k, v'.ownBlock = some k → v.ownBlock = some k ∨ w.heap.size ≤ k
theorem Moved.refl (w : World) (v : Value) : Moved w v v := fun _ h => .inl h
theorem Moved.trans {w w1 : World} {a b c : Value} (h : Moved w a b) (k : Moved w1 b c) (hs : w.heap.size ≤ w1.heap.size) : Moved w a c := fun j hj => by
  rcases k j hj with x | x
  · exact h j x
  · exact .inr (by omega)
theorem owns_moved {w w' : World} {base : Nat} {e : TypeId} {size : Nat} {v v' : Value} {n : Nat} {xs : List Value} (ho : w'.ownsRow base e size v' n xs) (hb : base = w.heap.size) : Moved w v v' := fun k hk => .inr (by have := ho.lt k hk; omega)
theorem owns_base {w : World} {base base' : Nat} {e : TypeId} {size : Nat} {v : Value} {n : Nat} {xs : List Value} (ho : w.ownsRow base e size v n xs) (hb : ∀ k, v.ownBlock = some k → base' ≤ k) : w.ownsRow base' e size v n xs := by
  obtain ⟨hl, hr⟩ := ho
  refine ⟨hl, ?_⟩
  rcases hr with hr | ⟨g, cap, cur, rfl, h1, h2⟩
  · exact .inl hr
  · exact .inr ⟨g, cap, cur, rfl, hb g rfl, h2⟩
theorem owns_zero {w : World} {base : Nat} {e : TypeId} {size : Nat} {v : Value} {n : Nat} {xs : List Value} (ho : w.ownsRow base e size v n xs) : w.ownsRow 0 e size v n xs := owns_base ho fun _ _ => Nat.zero_le _

variable {P : Program} (w : World)

/-- An append of elements that lie in memory. -/
theorem run_append_mv (base : Nat) (t ty e : TypeId) (i : TypeInfo) (z : Value) (size bytes : Nat) (ht : P.underlying t = some (.slice e)) (hi : P.info? e = some i) (hz : i.zero = some z)
    (hsize : i.size = size) (hby : i.bytes = bytes) (hzs : z.cells.size = size) (hsz : 0 < size)
    (v : Value) (n : Nat) (xs : List Value) (hown : w.ownsRow base e size v n xs)
    (a : Addr) (m c : Nat) (news : List Value) (hl : news.length = m * size) (hnews : ∀ j u, news[j]? = some u → w.cell? (a.add j) = some u) (h1 : ∀ u ∈ news, u.oneCell' = true)
    (h63 : n + m ≤ maxLen) (hbytes : (n + m) * bytes ≤ 140737488355328) (hbase : base ≤ w.heap.size) :
    ∃ v' w', (Builtin.append_ #[t, t] ty #[v, .slice (some a) m c]).run P w = .ok v' w' ∧ w'.ownsRow base e size v' (n + m) (xs ++ news) ∧ w.grownBy w' v.ownBlock ∧ Moved w v v' := by
  have hown2 := hown.2
  rcases hown2 with ⟨hv, hn⟩ | ⟨g, cap, cur, hv, hbg, hg, hnc, hcm, hcs, htake⟩
  · obtain ⟨v', w', hr, ho, hgr, _⟩ := run_append_own (P := P) w w.heap.size t ty e i z size bytes ht hi hz hsize hby hzs hsz v n xs (by rw [hv, hn] at hown ⊢; exact owns_base hown (fun k hk => by cases hk)) a m c news hl hnews h1 h63 hbytes (Nat.le_refl _)
    exact ⟨v', w', hr, owns_base ho (fun k hk => by have := ho.lt k hk; omega), hgr, owns_moved ho rfl⟩
  · subst hv
    by_cases hroom : n + m ≤ cap
    · obtain ⟨w', hr, ho, hgr⟩ := run_append_fits (P := P) w base t ty e i size ht hi hsize g n cap xs hown a m c news hl hnews h1 hroom
      exact ⟨_, w', hr, ho, hgr, fun k hk => .inl hk⟩
    · obtain ⟨v', w', hr, ho, hgr⟩ := run_append_arg_grows (P := P) w t ty e i z size bytes ht hi hz hsize hby hzs hsz ⟨g, 0, none⟩ n cap xs hown.1 (hown.cells (g := g) rfl) a m c news hl hnews (by omega) h63 hbytes
      exact ⟨v', w', hr, owns_base ho (fun k hk => by have := ho.lt k hk; omega), ⟨hgr.os, hgr.tape, hgr.output, hgr.size, fun k hk _ => hgr.block k hk (by simp)⟩, owns_moved ho rfl⟩

theorem wpList_append_mv {ops : Array Oper} {rest : List Oper} {o : Oper} {a : Act} {Q : Exit → Act → World → Prop} (hgd : o.guard = none) (s x : Operand) (t : TypeId)
    (ho : o.op = .call { callee := .builtin .append, args := #[s, x], argTypes := #[t, t] })
    (base : Nat) (e : TypeId) (i : TypeInfo) (z : Value) (size bytes : Nat) (ht : P.underlying t = some (.slice e)) (hi : P.info? e = some i) (hz : i.zero = some z)
    (hsize : i.size = size) (hby : i.bytes = bytes) (hzs : z.cells.size = size) (hsz : 0 < size)
    (v : Value) (n : Nat) (xs : List Value) (hs : a.eval s = v) (hown : w.ownsRow base e size v n xs)
    (ad : Addr) (m c : Nat) (news : List Value) (hx : a.eval x = .slice (some ad) m c) (hl : news.length = m * size) (hnews : ∀ j u, news[j]? = some u → w.cell? (ad.add j) = some u) (h1 : ∀ u ∈ news, u.oneCell' = true)
    (h63 : n + m ≤ maxLen) (hbytes : (n + m) * bytes ≤ 140737488355328) (hbase : base ≤ w.heap.size)
    (h : ∀ v' w', w'.ownsRow base e size v' (n + m) (xs ++ news) → w.grownBy w' v.ownBlock → Moved w v v' → wpList P ops Q rest (a.put o.dst v') w') : wpList P ops Q (o :: rest) a w := by
  refine wpList_plain hgd fun K hK => ?_
  obtain ⟨v', w', hr, h2, h3, h4⟩ := run_append_mv (P := P) w base t o.type e i z size bytes ht hi hz hsize hby hzs hsz v n xs hown ad m c news hl hnews h1 h63 hbytes hbase
  unfold Oper.wp execOp
  simp only [ho, resolve, invoke, builtin, Sem.run_bind, Sem.run_pure, Result.andThen_ok, List.map_toArray, List.map_cons, List.map_nil, hs, hx, hr]
  exact hK _ _ (h v' w' h2 h3 h4)

/-- An append of a string's bytes. -/
theorem run_append_mv_string (base : Nat) (t u ty e : TypeId) (i : TypeInfo) (ht : P.underlying t = some (.slice e)) (hu : P.underlying u = some .string) (hi : P.info? e = some i) (hz : i.zero = some (.int .u8 0))
    (hsize : i.size = 1) (hby : i.bytes = 1)
    (v : Value) (n : Nat) (xs : List Value) (hown : w.ownsRow base e 1 v n xs) (s : ByteArray)
    (h63 : n + s.size ≤ maxLen) (hbytes : n + s.size ≤ 140737488355328) (hbase : base ≤ w.heap.size) :
    ∃ v' w', (Builtin.append_ #[t, u] ty #[v, .string s]).run P w = .ok v' w' ∧ w'.ownsRow base e 1 v' (n + s.size) (xs ++ Lib.strCells s) ∧ w.grownBy w' v.ownBlock ∧ Moved w v v' ∧ (v' = .slice none 0 0 ↔ v = .slice none 0 0 ∧ s.size = 0) := by
  have hsmall : n + s.size ≤ 9223372036854775807 := by simp only [maxLen] at h63; omega
  obtain ⟨v', w', hr, ho, hgr, hnil⟩ := Lib.run_append_own_string (P := P) w base t u ty e i ht hu hi hz hsize hby v n xs hown s h63 hbytes hbase
  refine ⟨v', w', hr, ho, hgr, ?_, hnil⟩
  have hown2 := hown.2
  rcases hown2 with ⟨hv, hn⟩ | ⟨g, cap, cur, hv, hbg, hg, hnc, hcm, hcs, htake⟩
  · obtain ⟨v2, w2, hr2, ho2, _, _⟩ := Lib.run_append_own_string (P := P) w w.heap.size t u ty e i ht hu hi hz hsize hby v n xs (by rw [hv, hn] at hown ⊢; exact owns_base hown (fun k hk => by cases hk)) s h63 hbytes (Nat.le_refl _)
    rw [hr] at hr2
    cases hr2
    exact owns_moved ho2 rfl
  · subst hv
    have hcs' : cur.size = cap := by simpa using hcs
    by_cases hroom : n + s.size ≤ cap
    · have hr2 := Lib.run_append_room_string (P := P) w t u ty e i ht hu hi hsize g n cap cur hg s hroom (by omega)
      rw [hr] at hr2
      cases hr2
      exact fun k hk => .inl hk
    · have hr2 := Lib.run_append_grow_string (P := P) w t u ty e i (.int .u8 0) ht hu hi hz ⟨g, 0, none⟩ n cap xs (by rw [hsize]; exact hown.1) (hown.cells (g := g) rfl) s (by omega) (by omega) (by rw [hby]; exact growslice_fits (by omega) (by omega))
      rw [hr] at hr2
      cases hr2
      exact fun k hk => .inr (by simp [Value.ownBlock] at hk; omega)

theorem wpList_append_mv_string {ops : Array Oper} {rest : List Oper} {o : Oper} {a : Act} {Q : Exit → Act → World → Prop} (hgd : o.guard = none) (sl x : Operand) (t u : TypeId)
    (ho : o.op = .call { callee := .builtin .append, args := #[sl, x], argTypes := #[t, u] })
    (base : Nat) (e : TypeId) (i : TypeInfo) (ht : P.underlying t = some (.slice e)) (hu : P.underlying u = some .string) (hi : P.info? e = some i) (hz : i.zero = some (.int .u8 0))
    (hsize : i.size = 1) (hby : i.bytes = 1)
    (v : Value) (n : Nat) (xs : List Value) (hs : a.eval sl = v) (hown : w.ownsRow base e 1 v n xs) (s : ByteArray) (hx : a.eval x = .string s)
    (h63 : n + s.size ≤ maxLen) (hbytes : n + s.size ≤ 140737488355328) (hbase : base ≤ w.heap.size)
    (h : ∀ v' w', w'.ownsRow base e 1 v' (n + s.size) (xs ++ Lib.strCells s) → w.grownBy w' v.ownBlock → Moved w v v' → (v' = .slice none 0 0 ↔ v = .slice none 0 0 ∧ s.size = 0) → wpList P ops Q rest (a.put o.dst v') w') : wpList P ops Q (o :: rest) a w := by
  refine wpList_plain hgd fun K hK => ?_
  obtain ⟨v', w', hr, h2, h3, h4, h5⟩ := run_append_mv_string (P := P) w base t u o.type e i ht hu hi hz hsize hby v n xs hown s h63 hbytes hbase
  unfold Oper.wp execOp
  simp only [ho, resolve, invoke, builtin, Sem.run_bind, Sem.run_pure, Result.andThen_ok, List.map_toArray, List.map_cons, List.map_nil, hs, hx, hr]
  exact hK _ _ (h v' w' h2 h3 h4 h5)

end Go.Proofs.YtegnkfdbmmndaaaGreat
end

/- Add -/
section
/- Numbers, names and lengths that are added to a row of bytes. -/
namespace Go.Proofs.YtegnkfdbmmndaaaGreat
open Go.RowKit

theorem info_u8 : (Tryz.prog.info? 5).map (fun i => (i.zero, i.size, i.bytes)) = some (some (.int .u8 0), 1, 1) := by kernel_rfl

namespace Hm
def bcells (l : List UInt8) : List Value := l.map fun b => Value.int .u8 (b.toNat : Int)
def leBytes (x : Nat) : Nat → List UInt8
 | 0 => []
 | k + 1 => leBytes x k ++ [UInt8.ofNat (x / 256 ^ k)]
theorem leBytes_length (x k : Nat) : (leBytes x k).length = k := by
 induction k with
 | zero => rfl
 | succ k ih => simp [leBytes, ih]
end Hm

set_option maxHeartbeats 400000 in
theorem addNumber_any (base : Nat) (v : Value) (n x k : Nat) (l : List UInt8) (w : World) (ho : w.ownsRow base 5 1 v n (Hm.bcells l)) (hb : base ≤ w.heap.size) (hx : x < 4294967296) (hk : k ≤ 4) (hn : n ≤ 1000000) :
  Calls Tryz.prog 101 #[v, .int .i64 x, .int .i64 k] w fun e w' => ∃ v', e = .returned v' ∧ w'.ownsRow base 5 1 v' (n + k) (Hm.bcells (l ++ Hm.leBytes x k)) ∧ Kept (fun j => v.ownBlock = some j) w w' ∧ Moved w v v' := by
 obtain ⟨i0, hi, hz0, hz1, hz2⟩ := info_parts info_u8
 go_enter Tryz.func101, Tryz.ntmps101
 go_wp2
 go_loopw [0, 9] (fun u i wr => ∃ j : Nat, j ≤ k ∧ i = .int .i64 j ∧ wr.ownsRow base 5 1 u (n + j) (Hm.bcells (l ++ Hm.leBytes x j)) ∧ Kept (fun j => v.ownBlock = some j) w wr ∧ Moved w v u) (fun _ i _ => k - (intOf i).toNat)
 case atStart => exact ⟨0, Nat.zero_le _, rfl, by simpa [Hm.leBytes] using ho, Kept.refl _ _, Moved.refl _ _⟩
 case round =>
  obtain ⟨j, hj, rfl, hor, hkr, hmr⟩ := hrel
  by_cases hlt : j < k
  ·obtain ⟨y, hy, hsh, HY⟩ : ∃ y : Nat, y < 4294967296 ∧ (x : Int) / 2 ^ (8 * j) = (y : Int) ∧ Hid (y = x / 256 ^ j) := by
    refine ⟨x / 256 ^ j, Nat.lt_of_le_of_lt (Nat.div_le_self _ _) hx, ?_, rfl⟩
    have e2 : (256 : Nat) ^ j = 2 ^ (8 * j) := by rw [Nat.pow_mul]
    rw [e2]; simp
   go_wp2_with (at_builtin; refine wpList_append_mv _ rfl (.tmp 12) (.tmp 18) 79 rfl base 5 i0 (.int .u8 0) 1 1 Tryz.underlying79 hi hz0 hz1 hz2 rfl (by decide) _ _ _ rfl (hor.alloc _) ⟨wr.heap.size, 0, none⟩ 1 1 [.int .u8 ((y : Int) % 256)] rfl rfl ?c1 ?c2 ?c3 ?c4 ?c5 ?_)
   case c1 => exact cell_one_new _ _ _
   case c2 => intro u hu; simp at hu; subst hu; rfl
   case c3 => unfold maxLen; omega
   case c4 => omega
   case c5 => have := hkr.size; simp; omega
   intro v' w1 ho1 hg1 hm1
   go_wp2
   go_roundw
   case rel =>
    have e : Hm.bcells (l ++ Hm.leBytes x (j + 1)) = Hm.bcells (l ++ Hm.leBytes x j) ++ [.int .u8 ((y : Int) % 256)] := by
     simp [Hm.bcells, Hm.leBytes, HY.out]
    refine ⟨j + 1, by omega, by go_num, ?_, ?_, ?_⟩
    ·rw [e]; exact ho1
    ·exact (hkr.alloc _).grown hg1 (fun k hk => (hmr k hk).elim (fun h => .inr h) .inl)
    ·exact hmr.trans hm1 (by have := hkr.size; simp; omega)
   case measure => simp [intOf]; omega
  ·go_wp2
   go_ret
   obtain rfl : j = k := by omega
   exact ⟨_, rfl, hor, hkr, hmr⟩

end Go.Proofs.YtegnkfdbmmndaaaGreat
end

/- Row -/
section
/- Rows of bits in memory: what the methods of the plain bits do. -/
namespace Go.Proofs.YtegnkfdbmmndaaaGreat
open Go.RowKit

/-- A row of bits lies in block pb; its bytes are v's. -/
structure BitsAt (w : World) (T pb : Nat) (v : Value) (bits : List Bool) : Prop where
 blk : w.heap[pb]? = some (.cells #[v, .int .i64 (bits.length : Nat)] T (0, 0))
 own : w.ownsRow 0 5 1 v ((bits.length + 7) / 8) (Hm.bcells (Hm.packBits bits))
 ne : v.ownBlock ≠ some pb

theorem BitsAt.kept {S : Nat → Prop} {w w' : World} {T pb : Nat} {v : Value} {bits : List Bool} (h : BitsAt w T pb v bits) (hk : Kept S w w') (h1 : ¬ S pb) (h2 : ∀ j, v.ownBlock = some j → ¬ S j) : BitsAt w' T pb v bits :=
 ⟨hk.row h.blk h1, hk.owns h.own h2, h.ne⟩

/-- What a method may turn. -/
abbrev Bk (pb : Nat) (v : Value) : Nat → Prop := fun j => j = pb ∨ v.ownBlock = some j

theorem slice_shape {w : World} {base : Nat} {e : TypeId} {size : Nat} {v : Value} {n : Nat} {xs : List Value} (h : w.ownsRow base e size v n xs) : ∃ a c, v = .slice a n c ∧ n ≤ c := by
 rcases h.2 with ⟨rfl, rfl⟩ | ⟨g, cap, cur, rfl, _, _, hnc, hcm, _⟩
 ·exact ⟨none, 0, rfl, Nat.le_refl _⟩
 ·exact ⟨_, cap, rfl, hnc⟩

set_option maxHeartbeats 400000 in
theorem size_any (n : Nat) (w : World) (hn : n ≤ 100000000) : Calls Tryz.prog 166 #[.int .i64 n] w fun e w' => e = .returned (.int .i64 ((n + 7) / 8 : Nat)) ∧ w' = w := by
 go_enter Tryz.func166, Tryz.ntmps166
 go_wp2
 go_ret
 exact ⟨by first | rfl | go_num, rfl⟩

set_option maxHeartbeats 400000 in
theorem grow_any (T pb : Nat) (v : Value) (bits : List Bool) (c : Nat) (w : World) (h : BitsAt w T pb v bits) (hl : bits.length ≤ 10000000) (hc : c ≤ 10000000) :
  Calls Tryz.prog 144 #[.pointer (some ⟨pb, 0, none⟩), .int .i64 c] w fun e w' => ∃ v', e = .returned (.tuple #[]) ∧ BitsAt w' T pb v' (bits ++ List.replicate c false) ∧ Kept (Bk pb v) w w' ∧ Moved w v v' := by
 obtain ⟨i0, hi, hz0, hz1, hz2⟩ := info_parts info_u8
 have hblk := h.blk
 have hc0 : w.cell? ⟨pb, 0, none⟩ = some v := cell_of_row _ _ 0 _ _ _ hblk
 have hc1 : w.cell? ⟨pb, 1, none⟩ = some (.int .i64 (bits.length : Nat)) := cell_of_row _ _ 1 _ _ _ hblk
 have hf1 : w.frozen? ⟨pb, 1, none⟩ = false := frozen_of_row _ _ 1 _ _ hblk
 have hb1 := heap_setCell_same w pb 1 #[v, .int .i64 (bits.length : Nat)] T (.int .i64 ((bits.length : Int) + c)) hblk
 have HB : Hid ((w.setCell ⟨pb, 1, none⟩ (.int .i64 ((bits.length : Int) + c))).heap[pb]? = some (.cells #[v, .int .i64 ((bits.length : Int) + c)] T (0, 0))) := by
  show _ = _
  simpa using hb1
 clear hblk hb1
 have hsize : ∀ W, Calls Tryz.prog 166 #[.int .i64 ((bits.length : Int) + (c : Int))] W fun e w' => e = .returned (.int .i64 ((bits.length + c + 7) / 8 : Nat)) ∧ w' = W := fun W => by
  have := size_any (bits.length + c) W (by omega)
  rw [show ((bits.length + c : Nat) : Int) = (bits.length : Int) + (c : Int) from by omega] at this; exact this
 generalize hK : (bits.length + c + 7) / 8 = K at *
 go_enter Tryz.func144, Tryz.ntmps144
 go_wp2
 go_loopg [12] (K - (bits.length + 7) / 8) (fun k _ wr => ∃ (v' : Value) (m : Nat), m + k = K ∧ (bits.length + 7) / 8 ≤ m ∧ wr.heap[pb]? = some (.cells #[v', .int .i64 ((bits.length : Int) + c)] T (0, 0)) ∧
  wr.ownsRow 0 5 1 v' m (Hm.bcells (Hm.packBits bits ++ List.replicate (m - (bits.length + 7) / 8) 0)) ∧ v'.ownBlock ≠ some pb ∧ Kept (Bk pb v) w wr ∧ Moved w v v')
 case atStart => exact ⟨v, (bits.length + 7) / 8, by omega, Nat.le_refl _, HB.out, by simpa using ownsRow_setCell_other h.own h.ne _, h.ne, (Kept.refl _ _).setCell (.inr (.inl rfl)) _, Moved.refl _ _⟩
 case round =>
  obtain ⟨v', m, hm, hm0, hbr, hor, hne, hkr, hmr⟩ := hrel
  have hd0 : wr.cell? ⟨pb, 0, none⟩ = some v' := cell_of_row _ _ 0 _ _ _ hbr
  have hd1 : wr.cell? ⟨pb, 1, none⟩ = some (.int .i64 ((bits.length : Int) + c)) := cell_of_row _ _ 1 _ _ _ hbr
  have hf0 : wr.frozen? ⟨pb, 0, none⟩ = false := frozen_of_row _ _ 0 _ _ hbr
  obtain ⟨ao, cp, hv', hcp⟩ := slice_shape hor
  have HV : Hid (v' = .slice ao m cp) := hv'
  rw [hv'] at hd0
  have HBr : Hid (wr.heap[pb]? = some (.cells #[v', .int .i64 ((bits.length : Int) + c)] T (0, 0))) := hbr
  have hmle : m ≤ 3000000 := by omega
  clear hv' hc0 hc1 hf1 HB h hbr
  by_cases hlt : 0 < gk
  ·have hor2 : wr.ownsRow 0 5 1 (.slice ao m cp) m (Hm.bcells (Hm.packBits bits ++ List.replicate (m - (bits.length + 7) / 8) 0)) := by rw [← HV.out]; exact hor
   have hu0 : ∀ j, (Value.slice ao m cp).ownBlock = some j → j < wr.heap.size := fun j hj => (hor2.lt j hj).2
   have hne2 : (Value.slice ao m cp).ownBlock ≠ some pb := by rw [← HV.out]; exact hne
   have hmr2 : Moved w v (.slice ao m cp) := by rw [← HV.out]; exact hmr
   have hpw : pb < wr.heap.size := lt_of_block HBr.out
   have HH : Hid (wr.ownsRow 0 5 1 (.slice ao m cp) m (Hm.bcells (Hm.packBits bits ++ List.replicate (m - (bits.length + 7) / 8) 0)) ∧ (∀ j, (Value.slice ao m cp).ownBlock = some j → j < wr.heap.size) ∧ (Value.slice ao m cp).ownBlock ≠ some pb ∧ Moved w v (.slice ao m cp)) := ⟨hor2, hu0, hne2, hmr2⟩
   have hdec : decide (m < K) = true := decide_eq_true (by omega)
   have HM : Hid (m + gk = K ∧ (bits.length + 7) / 8 ≤ m ∧ 0 < gk) := ⟨hm, hm0, hlt⟩
   clear hor hmr hne hor2 hu0 hne2 hmr2 hm hm0 hlt
   clear hK
   go_wp2_with fail
   go_quiet (first | (refine Calls.quiet_of_same (hsize _)))
   obtain ⟨hor2, hu0, hne2, hmr2⟩ := HH.out
   clear hu0
   go_wp2_with (at_builtin; refine wpList_append_mv _ rfl (.tmp 27) (.tmp 28) 79 rfl 0 5 i0 (.int .u8 0) 1 1 Tryz.underlying79 hi hz0 hz1 hz2 rfl (by decide) _ _ _ rfl (by exact (hor2.alloc _)) ⟨wr.heap.size, 0, none⟩ 1 1 [.int .u8 0] rfl rfl ?c1 ?c2 ?c3 ?c4 ?c5 ?_)
   case c1 => exact cell_one_new _ _ _
   case c2 => intro u hu; simp at hu; subst hu; rfl
   case c3 => unfold maxLen; omega
   case c4 => omega
   case c5 => exact Nat.zero_le _
   intro v2 w1 ho1 hg1 hm1
   have hk1 : Kept (Bk pb v) w w1 := ((hkr.drewN nq).alloc _).grown hg1 (fun k hk => (hmr2 k hk).elim (fun h => .inr (.inr h)) .inl)
   have hmv1 : Moved w v v2 := hmr2.trans hm1 (by have := hkr.size; simp; omega)
   have hpb1 : w1.heap[pb]? = some (.cells #[.slice ao m cp, .int .i64 ((bits.length : Int) + c)] T (0, 0)) := by
    rw [hg1.block pb (by simp; omega) (fun e => hne2 e.symm)]
    show ((wr.alloc _).heap[pb]?) = _
    rw [Below.heap_alloc _ _ _ hpw, HBr.out, HV.out]
   have hne3 : v2.ownBlock ≠ some pb := fun e => by
    rcases hm1 pb e with h | h
    ·exact hne2 h
    ·simp at h; omega
   have he0 : w1.cell? ⟨pb, 0, none⟩ = some (.slice ao m cp) := cell_of_row _ _ 0 _ _ _ hpb1
   have hfr1 : w1.frozen? ⟨pb, 0, none⟩ = false := frozen_of_row _ _ 0 _ _ hpb1
   have hb2 := heap_setCell_same w1 pb 0 _ T v2 hpb1
   obtain ⟨ao2, cp2, hv2, hcp2⟩ := slice_shape ho1
   subst hv2
   have R : Hid (∃ (v' : Value) (m' : Nat), m' + (gk - 1) = K ∧ (bits.length + 7) / 8 ≤ m' ∧ (w1.setCell ⟨pb, 0, none⟩ (.slice ao2 (m + 1) cp2)).heap[pb]? = some (.cells #[v', .int .i64 ((bits.length : Int) + c)] T (0, 0)) ∧
     (w1.setCell ⟨pb, 0, none⟩ (.slice ao2 (m + 1) cp2)).ownsRow 0 5 1 v' m' (Hm.bcells (Hm.packBits bits ++ List.replicate (m' - (bits.length + 7) / 8) 0)) ∧ v'.ownBlock ≠ some pb ∧ Kept (Bk pb v) w (w1.setCell ⟨pb, 0, none⟩ (.slice ao2 (m + 1) cp2)) ∧ Moved w v v') := by
    obtain ⟨hm, hm0, hlt⟩ := HM.out
    refine ⟨.slice ao2 (m + 1) cp2, m + 1, by omega, by omega, by simpa using hb2, ?_, hne3, hk1.setCell (.inr (.inl rfl)) _, hmv1⟩
    have e : Hm.bcells (Hm.packBits bits ++ List.replicate (m + 1 - (bits.length + 7) / 8) 0) = Hm.bcells (Hm.packBits bits ++ List.replicate (m - (bits.length + 7) / 8) 0) ++ [.int .u8 0] := by
     rw [show m + 1 - (bits.length + 7) / 8 = m - (bits.length + 7) / 8 + 1 from by omega, List.replicate_succ', ← List.append_assoc]
     simp [Hm.bcells]
    rw [e]
    exact ownsRow_setCell_other ho1 hne3 _
   clear ho1 hg1 hm1 hk1 hmv1 hpb1 hb2 hor2 hne2 hmr2 hne3
   go_wp2
   go_roundg (gk - 1)
   case measure => have := HM.out; omega
   case rel => exact R.out
  ·have HM : Hid (m = K ∧ (bits.length + c + 7) / 8 = K) := ⟨by omega, hK⟩
   have hdec : decide (m < K) = false := decide_eq_false (by omega)
   clear hlt hm hm0
   have HH : Hid (wr.ownsRow 0 5 1 v' m (Hm.bcells (Hm.packBits bits ++ List.replicate (m - (bits.length + 7) / 8) 0)) ∧ v'.ownBlock ≠ some pb ∧ Kept (Bk pb v) w wr ∧ Moved w v v') := ⟨hor, hne, hkr, hmr⟩
   clear hor hmr hne hkr hK
   go_wp2_with fail
   go_quiet (first | (refine Calls.quiet_of_same (hsize _)))
   go_wp2
   go_end0
   obtain ⟨hor, hne, hkr, hmr⟩ := HH.out
   refine ⟨v', rfl, ⟨?_, ?_, hne⟩, hkr.drewN _, hmr⟩
   ·have e : ((bits ++ List.replicate c false).length : Int) = (bits.length : Int) + c := by simp
    rw [e]; exact HBr.out
   ·rw [Hm.packBits_grow]
    have e : (bits ++ List.replicate c false).length = bits.length + c := by simp
    rw [e, HM.out.2, ← HM.out.1]; exact hor

end Go.Proofs.YtegnkfdbmmndaaaGreat
end

/- Set -/
section
/- Rows of bits in memory: a bit that is made 1, bits that are added. -/
namespace Go.Proofs.YtegnkfdbmmndaaaGreat
open Go.RowKit

theorem owns_some {w : World} {base : Nat} {e : TypeId} {size : Nat} {v : Value} {n : Nat} {xs : List Value} (h : w.ownsRow base e size v n xs) (hn : 0 < n) : ∃ g cap, v = .slice (some ⟨g, 0, none⟩) n cap ∧ n ≤ cap ∧ g < w.heap.size := by
 rcases h.2 with ⟨rfl, rfl⟩ | ⟨g, cap, cur, rfl, _, hg, hnc, hcm, _⟩
 ·omega
 ·exact ⟨g, cap, rfl, hnc, lt_of_block hg⟩

theorem Hm.u8cell {x : Nat} (h : x < 256) : Value.int .u8 ((UInt8.ofNat x).toNat : Int) = .int .u8 (x : Int) := by
 rw [UInt8.toNat_ofNat']; congr 2; omega

set_option maxHeartbeats 400000 in
theorem set_any (T pb : Nat) (v : Value) (bits : List Bool) (k : Nat) (w : World) (h : BitsAt w T pb v bits) (hl : bits.length ≤ 20000000) (hk : k < bits.length) :
  Calls Tryz.prog 146 #[.pointer (some ⟨pb, 0, none⟩), .int .i64 k] w fun e w' => e = .returned (.tuple #[]) ∧ BitsAt w' T pb v (bits.set k true) ∧ Kept (Bk pb v) w w' := by
 have hown := h.own
 obtain ⟨g, cap, hv, hnc, hgw⟩ := owns_some hown (by omega)
 subst hv
 have hc0 : w.cell? ⟨pb, 0, none⟩ = some (.slice (some ⟨g, 0, none⟩) ((bits.length + 7) / 8) cap) := cell_of_row _ _ 0 _ _ _ h.blk
 have hc1 : w.cell? ⟨g, k / 8, none⟩ = some (.int .u8 (Hm.byteN bits (k / 8) : Nat)) := by
  rw [hown.cellAt (k / 8) (by omega)]
  simp only [Hm.bcells, List.getElem?_map]
  rw [List.getElem?_eq_getElem (by rw [Hm.packBits_length]; omega), Hm.packBits_get]
  have := Hm.byteN_lt bits (k / 8)
  simp; omega
 have hf1 : w.frozen? ⟨g, k / 8, none⟩ = false := hown.frozenAt _
 have hby := Hm.byteN_lt bits (k / 8)
 have HS := hown.stored (k / 8) (.int .u8 (Hm.byteN bits (k / 8) ||| 2 ^ (k % 8) : Nat))
 generalize hbb : Hm.byteN bits (k / 8) = y at *
 generalize hnn : (bits.length + 7) / 8 = n at *
 have hkn : (k : Int) / 8 < (n : Int) := by omega
 have HE : Hid (Go.bits .or .u8 (y : Int) ((2 : Int) ^ (k % 8) % 256) = ((y ||| 2 ^ (k % 8) : Nat) : Int)) := by
  have hp : 2 ^ (k % 8) < 256 := Nat.pow_lt_pow_right (a := 2) (by omega) (by omega : k % 8 < 8)
  have e1 : ((2 : Int) ^ (k % 8) % 256) = ((2 ^ (k % 8) : Nat) : Int) := by
   have : ((2 ^ (k % 8) : Nat) : Int) = (2 : Int) ^ (k % 8) := by simp
   rw [← this]; exact Int.emod_eq_of_lt (Int.natCast_nonneg _) (Int.ofNat_lt.2 hp)
  show _ = _
  rw [e1]; exact u8_or_nat _ _ hby hp
 have HR : Hid (BitsAt (w.setCell ⟨g, k / 8, none⟩ (.int .u8 (y ||| 2 ^ (k % 8) : Nat))) T pb (.slice (some ⟨g, 0, none⟩) n cap) (bits.set k true)) := by
  refine ⟨?_, ?_, h.ne⟩
  ·have hb := h.blk
   rw [Below.heap_setCell _ _ _ _ (fun e => h.ne (by rw [e]; rfl)), hb]; simp
  ·rw [Hm.packBits_set _ _ hk, hbb]
   have e : (bits.set k true).length = bits.length := by simp
   have e2 : Hm.bcells ((Hm.packBits bits).set (k / 8) (UInt8.ofNat (y ||| 2 ^ (k % 8)))) = (Hm.bcells (Hm.packBits bits)).set (k / 8) (.int .u8 (y ||| 2 ^ (k % 8) : Nat)) := by
    have hp : 2 ^ (k % 8) < 256 := Nat.pow_lt_pow_right (a := 2) (by omega) (by omega : k % 8 < 8)
    have ho : y ||| 2 ^ (k % 8) < 2 ^ 8 := Nat.or_lt_two_pow (by omega) (by omega)
    rw [Hm.bcells, List.map_set]
    rw [Hm.u8cell (by omega)]; rfl
   rw [e, hnn, e2]; exact HS.1
 clear h hown HS hbb hnn
 go_enter Tryz.func146, Tryz.ntmps146
 go_wp2
 go_region
 go_end0
 rw [HE.out]
 refine ⟨rfl, ?_, ((Kept.refl _ _).setCell (.inr (.inr rfl)) _).drew⟩
 exact ⟨HR.out.blk, HR.out.own, HR.out.ne⟩

end Go.Proofs.YtegnkfdbmmndaaaGreat
end

/- AddBits -/
section
/- Bits and numbers that are added to a row of bits. -/
namespace Go.Proofs.YtegnkfdbmmndaaaGreat
open Go.RowKit

theorem bk_trans {pb : Nat} {v v' : Value} {w w1 w2 : World} (h : Kept (Bk pb v) w w1) (hm : Moved w v v') (h2 : Kept (Bk pb v') w1 w2) : Kept (Bk pb v) w w2 :=
 h.trans h2 fun j hj hb => by
  rcases hb with hb | hb
  ·exact .inl hb
  ·rcases hm j hb with x | x
   ·exact .inr x
   ·omega

set_option maxHeartbeats 400000 in
theorem len_any (T pb : Nat) (v : Value) (bits : List Bool) (w : World) (h : BitsAt w T pb v bits) :
  Calls Tryz.prog 143 #[.pointer (some ⟨pb, 0, none⟩)] w fun e w' => e = .returned (.int .i64 (bits.length : Nat)) ∧ w = w' := by
 have hc1 : w.cell? ⟨pb, 1, none⟩ = some (.int .i64 (bits.length : Nat)) := cell_of_row _ _ 1 _ _ _ h.blk
 clear h
 go_enter Tryz.func143, Tryz.ntmps143
 go_wp2
 go_ret
 exact ⟨rfl, rfl⟩

set_option maxHeartbeats 400000 in
theorem add_any (T pb : Nat) (v : Value) (bits : List Bool) (x : Nat) (w : World) (h : BitsAt w T pb v bits) (hl : bits.length ≤ 9000000) (hx : x ≤ 1) :
  Calls Tryz.prog 152 #[.pointer (some ⟨pb, 0, none⟩), .int .i64 x] w fun e w' => ∃ v', e = .returned (.tuple #[]) ∧ BitsAt w' T pb v' (bits ++ [decide (x = 1)]) ∧ Kept (Bk pb v) w w' ∧ Moved w v v' := by
 have hg := grow_any T pb v bits 1 w h (by omega) (by omega)
 clear h
 by_cases e : x = 1
 ·subst e
  go_enter Tryz.func152, Tryz.ntmps152
  go_wp2_with fail
  refine hg.mono ?_
  rintro e w1 ⟨v1, rfl, hb1, hk1, hm1⟩
  have hs := set_any T pb v1 (bits ++ List.replicate 1 false) bits.length w1 hb1 (by simp; omega) (by simp)
  rw [show (bits ++ List.replicate 1 false).set bits.length true = bits ++ [true] from Hm.set_snoc bits true] at hs
  have hc1 : w1.cell? ⟨pb, 1, none⟩ = some (.int .i64 ((bits.length : Int) + 1)) := by
   rw [cell_of_row _ _ 1 _ _ _ hb1.blk]; simp
  clear hg
  go_wp2_with fail
  refine hs.mono ?_
  rintro e w2 ⟨rfl, hb2, hk2⟩
  go_wp2
  go_end0
  exact ⟨v1, rfl, hb2, bk_trans hk1 hm1 hk2, hm1⟩
 ·obtain rfl : x = 0 := by omega
  go_enter Tryz.func152, Tryz.ntmps152
  go_wp2_with fail
  refine hg.mono ?_
  rintro e w1 ⟨v1, rfl, hb1, hk1, hm1⟩
  clear hg
  go_wp2
  go_end0
  exact ⟨v1, rfl, hb1, hk1, hm1⟩

namespace Hm
def numBits (x k : Nat) : List Bool := (List.range k).map fun i => decide (x / 2 ^ i % 2 = 1)
theorem numBits_length (x k : Nat) : (numBits x k).length = k := by simp [numBits]
theorem numBits_succ (x k : Nat) : numBits x (k + 1) = numBits x k ++ [decide (x / 2 ^ k % 2 = 1)] := by simp [numBits, List.range_succ]
theorem and_bit (y : Nat) (hy : y < 4294967296) : Go.bits .and .i64 (y : Int) 1 = ((y % 2 : Nat) : Int) := by
 show IntKind.i64.wrap ((BitVec.ofInt 64 (y : Int) &&& BitVec.ofInt 64 1).toNat : Int) = _
 rw [BitVec.toNat_and, BitVec.ofInt_natCast, BitVec.toNat_ofNat, Nat.mod_eq_of_lt (by omega : y < 2 ^ 64), show (BitVec.ofInt 64 1).toNat = 1 from rfl, Nat.and_one_is_mod]
 have := Nat.mod_lt y (y := 2) (by omega)
 rw [IntKind.wrap_i64]; omega
end Hm

set_option maxHeartbeats 400000 in
theorem addNum_any (T pb : Nat) (v : Value) (bits : List Bool) (x k : Nat) (w : World) (h : BitsAt w T pb v bits) (hl : bits.length ≤ 8000000) (hx : x < 4294967296) (hk : k ≤ 60) :
  Calls Tryz.prog 142 #[.pointer (some ⟨pb, 0, none⟩), .int .i64 x, .int .i64 k] w fun e w' => ∃ v', e = .returned (.tuple #[]) ∧ BitsAt w' T pb v' (bits ++ Hm.numBits x k) ∧ Kept (Bk pb v) w w' ∧ Moved w v v' := by
 go_enter Tryz.func142, Tryz.ntmps142
 go_wp2
 go_loopw [8] (fun i wr => ∃ (j : Nat) (v' : Value), j ≤ k ∧ i = .int .i64 j ∧ BitsAt wr T pb v' (bits ++ Hm.numBits x j) ∧ Kept (Bk pb v) w wr ∧ Moved w v v') (fun i _ => k - (intOf i).toNat)
 case atStart => exact ⟨0, v, Nat.zero_le _, rfl, by simpa [Hm.numBits] using h, Kept.refl _ _, Moved.refl _ _⟩
 case round =>
  obtain ⟨j, v', hj, rfl, hb, hkr, hmr⟩ := hrel
  have hll : (bits ++ Hm.numBits x j).length ≤ 9000000 := by simp [Hm.numBits_length]; omega
  by_cases hlt : j < k
  ·obtain ⟨y, hy, hsh, HY⟩ : ∃ y : Nat, y < 4294967296 ∧ (x : Int) / 2 ^ j = (y : Int) ∧ Hid (y = x / 2 ^ j) := by
    refine ⟨x / 2 ^ j, Nat.lt_of_le_of_lt (Nat.div_le_self _ _) hx, ?_, rfl⟩
    simp
   obtain ⟨z, hz⟩ : ∃ z, y % 2 = z := ⟨_, rfl⟩
   have hab := Hm.and_bit y hy
   rw [hz] at hab
   have HZ : Hid (y % 2 = z) := hz
   have hz1 : z ≤ 1 := by omega
   clear h hz
   go_wp2_with fail
   refine (add_any T pb v' _ z wr hb hll hz1).mono ?_
   rintro e w1 ⟨v1, rfl, hb1, hk1, hm1⟩
   go_wp2
   go_roundw
   case rel =>
    refine ⟨j + 1, v1, by omega, by go_num, ?_, bk_trans hkr hmr hk1, hmr.trans hm1 hkr.size⟩
    rw [Hm.numBits_succ, ← HY.out, HZ.out, ← List.append_assoc]
    exact hb1
   case measure => simp [intOf]; omega
  ·clear h
   go_wp2
   go_end0
   obtain rfl : j = k := by omega
   exact ⟨v', rfl, hb, hkr, hmr⟩

end Go.Proofs.YtegnkfdbmmndaaaGreat
end

/- Packed -/
section
/- A row of bytes as a string. -/
namespace Go.Proofs.YtegnkfdbmmndaaaGreat
open Go.RowKit

theorem convert_own {w : World} {base : Nat} {v : Value} {n : Nat} {l : List UInt8} (h : w.ownsRow base 5 1 v n (Hm.bcells l)) :
  (convert 79 9 v).run Tryz.prog w = .ok (.string ⟨l.toArray⟩) w := by
 have hl : l.length = n := by have := h.1; simpa [Hm.bcells] using this
 rcases h.2 with ⟨rfl, rfl⟩ | ⟨g, cap, cur, rfl, _⟩
 ·have : l = [] := List.eq_nil_of_length_eq_zero hl
  subst this
  exact run_convert_bytes_nil w _ _ Tryz.underlying79 Tryz.underlying5 0 0 _ Tryz.underlying9
 ·have hr := run_convert_bytes_arg w _ _ Tryz.underlying79 Tryz.underlying5 g 0 n cap (l.map fun b => (b.toNat : Int)) (by simpa using hl) (fun i hi => by
   have hc := h.cellAt i (by omega)
   have hil : i < l.length := by omega
   simp only [Nat.zero_add]
   rw [hc, Hm.bcells, List.getElem?_map, List.getElem?_eq_getElem hil, List.getD_eq_getElem?_getD, List.getElem?_map, List.getElem?_eq_getElem hil]; rfl) _ Tryz.underlying9
  have e : strOfNums (l.map fun b => (b.toNat : Int)) = ⟨l.toArray⟩ := by
   unfold strOfNums
   rw [List.map_map]
   have e2 : ((fun n : Int => UInt8.ofNat n.toNat) ∘ fun b : UInt8 => (b.toNat : Int)) = id := by funext b; simp
   rw [e2, List.map_id]
  rw [e] at hr
  exact hr

set_option maxHeartbeats 400000 in
theorem row_any (T pb : Nat) (v : Value) (bits : List Bool) (w : World) (h : BitsAt w T pb v bits) :
  Calls Tryz.prog 148 #[.pointer (some ⟨pb, 0, none⟩)] w fun e w' => e = .returned (.agg #[.string ⟨(Hm.packBits bits).toArray⟩, .int .i64 (bits.length : Nat)]) ∧ Kept (fun _ => False) w w' := by
 have hc0 : w.cell? ⟨pb, 0, none⟩ = some v := cell_of_row _ _ 0 _ _ _ h.blk
 have hc1 : w.cell? ⟨pb, 1, none⟩ = some (.int .i64 (bits.length : Nat)) := cell_of_row _ _ 1 _ _ _ h.blk
 have hcv : ∀ W, Kept (fun _ => False) w W → (convert 79 9 v).run Tryz.prog W = .ok (.string ⟨(Hm.packBits bits).toArray⟩) W := fun W hk => convert_own (hk.owns h.own fun _ _ h => h)
 have hpw : pb < w.heap.size := lt_of_block h.blk
 clear h
 generalize (⟨(Hm.packBits bits).toArray⟩ : ByteArray) = s at *
 go_enter Tryz.func148, Tryz.ntmps148
 go_wp2
 have hal : Kept (fun _ => False) w (w.alloc (.cells #[.string ⟨#[]⟩, .int .i64 0] 83)) := (Kept.refl _ _).alloc _
 have hnw := heap_alloc_new w (.cells #[.string ⟨#[]⟩, .int .i64 0] 83)
 have hne : pb ≠ w.heap.size := by omega
 generalize w.alloc (.cells #[.string ⟨#[]⟩, .int .i64 0] 83) = W at *
 have p0 : W.cell? ⟨pb, 0, none⟩ = some v := (hal.cell (p := ⟨pb, 0, none⟩) hpw id).trans hc0
 have p1 : W.cell? ⟨pb, 1, none⟩ = some (.int .i64 (bits.length : Nat)) := (hal.cell (p := ⟨pb, 1, none⟩) hpw id).trans hc1
 have p2 : W.cell? ⟨w.heap.size, 0, none⟩ = some (.string ⟨#[]⟩) := cell_of_row _ _ 0 _ _ _ hnw
 have p3 : W.cell? ⟨w.heap.size, 1, none⟩ = some (.int .i64 0) := cell_of_row _ _ 1 _ _ _ hnw
 have f2 : W.frozen? ⟨w.heap.size, 0, none⟩ = false := frozen_of_row _ _ 0 _ _ hnw
 have f3 : W.frozen? ⟨w.heap.size, 1, none⟩ = false := frozen_of_row _ _ 1 _ _ hnw
 have hcw := hcv W hal
 have hcw2 := hcv W.drew hal.drew
 have HX : Hid (Kept (fun _ => False) w W ∧ W.heap[w.heap.size]? = some (.cells #[.string ⟨#[]⟩, .int .i64 0] 83 (0, 0))) := ⟨hal, hnw⟩
 clear hal hnw hcv hc0 hc1
 go_region
 go_wp2
 obtain ⟨hal, hnw⟩ := HX.out
 have h2 := heap_setCell_same _ _ 1 _ _ (.int .i64 (bits.length : Nat)) (heap_setCell_same _ _ 0 _ _ (.string s) hnw)
 refine bodyPost_ret (v := .agg #[.string s, .int .i64 (bits.length : Nat)]) (results_cell_row Tryz.results148 _ _ w.heap.size 83 _ (0, 0) _ rfl h2 Tryz.underlying83 rfl (by kernel_rfl)) rfl ⟨rfl, ?_⟩
 exact ((hal.setCell (.inl (Nat.le_refl _)) _).setCell (.inl (Nat.le_refl _)) _).drew

set_option maxHeartbeats 400000 in
theorem packed_any (pb o : Nat) (s : ByteArray) (w : World) (h : w.cell? ⟨pb, o, none⟩ = some (.string s)) :
  Calls Tryz.prog 104 #[.pointer (some ⟨pb, o, none⟩)] w fun e w' => e = .returned (.string s) ∧ w' = w := by
 go_enter Tryz.func104, Tryz.ntmps104
 go_wp2
 go_ret
 exact ⟨rfl, rfl⟩

set_option maxHeartbeats 400000 in
theorem bitsLen_any (pb o n : Nat) (w : World) (h : w.cell? ⟨pb, o + 1, none⟩ = some (.int .i64 n)) :
  Calls Tryz.prog 182 #[.pointer (some ⟨pb, o, none⟩)] w fun e w' => e = .returned (.int .i64 n) ∧ w' = w := by
 go_enter Tryz.func182, Tryz.ntmps182
 go_wp2
 go_ret
 exact ⟨rfl, rfl⟩

end Go.Proofs.YtegnkfdbmmndaaaGreat
end
