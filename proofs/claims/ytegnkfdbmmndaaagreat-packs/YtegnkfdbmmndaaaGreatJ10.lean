import Derived.Test.YtegnkfdbmmndaaaGreatJ09
import Derived.Test.YtegnkfdbmmndaaaGreatJ07
import Derived.Test.YtegnkfdbmmndaaaGreatJ02
import Derived.Lib.BitFns
import Derived.Deep.Cut
import Derived.Deep.RegionHeld

/- FollowM -/
section
/- A column's own bits are laid; and how one goes down the tree. -/
namespace Go.Proofs.YtegnkfdbmmndaaaGreat
namespace Hm

section
variable {M : Nat} {ln num : UInt8 → Nat} {o : List UInt8} {nds : List Nd} {f : Nat → Bool} {col : List UInt8}
/-- How many of a node's bytes have the bit u next. -/
def side (ln num : UInt8 → Nat) (nds : List Nd) (l : List UInt8) (n u : Nat) : Nat := (l.filter fun b => bitAt ln num (ndAt nds n).depth b == u).length
theorem side_sum (ln num : UInt8 → Nat) (nds : List Nd) (n : Nat) : ∀ l : List UInt8, side ln num nds l n 0 + side ln num nds l n 1 = l.length
  | [] => rfl
  | b :: r => by
    have ih := side_sum ln num nds n r
    have := bitAt_lt ln num (ndAt nds n).depth b
    unfold side at *
    rcases (show bitAt ln num (ndAt nds n).depth b = 0 ∨ bitAt ln num (ndAt nds n).depth b = 1 by omega) with e | e
    · rw [List.filter_cons, List.filter_cons, e]; simp; omega
    · rw [List.filter_cons, List.filter_cons, e]; simp; omega
theorem ones_map (ln num : UInt8 → Nat) (nds : List Nd) (n : Nat) (l : List UInt8) : ones (l.map fun b => decide (bitAt ln num (ndAt nds n).depth b = 1)) = side ln num nds l n 1 := by
  unfold ones side
  rw [List.countP_map, List.countP_eq_length_filter]
  congr 1

/-- A node's bits are where they should be. -/
theorem treeBits_at (ln num : UInt8 → Nat) (nds : List Nd) (col : List UInt8) {N i p : Nat} (hi : i < N) (hp : p < (colAt ln num nds col i).length) :
    (treeBits ln num nds col N).getD ((treeBits ln num nds col i).length + p) 0 = bitAt ln num (ndAt nds i).depth ((colAt ln num nds col i).getD p 0) ∧ (treeBits ln num nds col i).length + p < (treeBits ln num nds col N).length := by
  have key : ∃ r, treeBits ln num nds col N = treeBits ln num nds col (i + 1) ++ r := by
    clear hp
    induction N with
    | zero => omega
    | succ N ih =>
      by_cases e : i = N
      · subst e; exact ⟨[], by simp⟩
      · obtain ⟨r, hr⟩ := ih (by omega)
        exact ⟨r ++ nodeBits ln num nds col N, by rw [treeBits_succ, hr, List.append_assoc]⟩
  obtain ⟨r, hr⟩ := key
  have hnl : (nodeBits ln num nds col i).length = (colAt ln num nds col i).length := by simp [nodeBits]
  rw [hr, treeBits_succ]
  constructor
  · rw [List.getD_eq_getElem?_getD, List.append_assoc, List.getElem?_append_right (by omega), Nat.add_sub_cancel_left, List.getElem?_append_left (by omega)]
    unfold nodeBits
    rw [List.getElem?_map, List.getElem?_eq_getElem hp, List.getD_eq_getElem?_getD, List.getElem?_eq_getElem hp]; rfl
  · simp only [List.length_append]; omega

structure OwnInv (ln num : UInt8 → Nat) (nds : List Nd) (col : List UInt8) (i : Nat) (st : LaySt) : Prop where
  like : Like st.nds nds
  len : st.len = (treeBits ln num nds col i).length
  siz : ∀ n, n < nds.length → (n = 0 ∨ ∃ j u, j < i ∧ u < 2 ∧ (ndAt nds j).br u = { node := n }) → (ndAt st.nds n).siz = (colAt ln num nds col n).length
  st : ∀ j, j ≤ i → startOf st.nds j = (treeBits ln num nds col j).length

theorem own_step {LB i : Nat} {st : LaySt} (h : Shaped M ln o nds) (hk : NumK M ln num o) (hc : ∀ b ∈ col, b ∈ o) (hi : i < nds.length) (hv : OwnInv ln num nds col i st) (hf : ∀ k, k < (treeBits ln num nds col nds.length).length → f k = decide ((treeBits ln num nds col nds.length).getD k 0 = 1)) (hLB : (treeBits ln num nds col nds.length).length ≤ LB) :
    ∃ st', layStep f LB i st = some st' ∧ OwnInv ln num nds col (i + 1) st' := by
  have hsz : (ndAt st.nds i).siz = (colAt ln num nds col i).length := by
    refine hv.siz i hi ?_
    by_cases e : i = 0
    · exact .inl e
    · obtain ⟨j, u, h1, h2, h3⟩ := h.par i (by omega) hi
      exact .inr ⟨j, u, h2, h1, h3⟩
  have hln : (treeBits ln num nds col (i + 1)).length = st.len + (ndAt st.nds i).siz := by
    rw [treeBits_succ, List.length_append, ← hv.len, hsz]; simp [nodeBits]
  have hle : (treeBits ln num nds col (i + 1)).length ≤ (treeBits ln num nds col nds.length).length := by
    have : ∀ m, i + 1 ≤ m → (treeBits ln num nds col (i + 1)).length ≤ (treeBits ln num nds col m).length := by
      intro m hm
      induction m with
      | zero => omega
      | succ m ih =>
        by_cases e : i = m
        · subst e; exact Nat.le_refl _
        · have := ih (by omega)
          rw [treeBits_succ ln num nds col m, List.length_append]; omega
    exact this _ hi
  have hpb : partBits f st.len (ndAt st.nds i).siz = (colAt ln num nds col i).map fun b => decide (bitAt ln num (ndAt nds i).depth b = 1) := by
    apply List.ext_getElem
    · rw [partBits_length, List.length_map, hsz]
    · intro p h1 h2
      rw [partBits_length] at h1
      have hp : p < (colAt ln num nds col i).length := by omega
      obtain ⟨q1, q2⟩ := treeBits_at ln num nds col hi hp
      have e0 : (partBits f st.len (ndAt st.nds i).siz)[p]? = some (f (st.len + p)) := by
        unfold partBits
        rw [List.getElem?_map, List.getElem?_range h1]; rfl
      rw [List.getElem?_eq_getElem (by rw [partBits_length]; exact h1)] at e0
      rw [Option.some.inj e0, List.getElem_map, hv.len, hf _ q2, q1, List.getD_eq_getElem?_getD, List.getElem?_eq_getElem hp]; rfl
  obtain ⟨o1, o2⟩ := ones_part f st.len (ndAt st.nds i).siz
  rw [hpb, ones_map] at o1
  have eon : onesIn f st i = side ln num nds (colAt ln num nds col i) i 1 := o1.symm
  have hss := side_sum ln num nds i (colAt ln num nds col i)
  have eze : (ndAt st.nds i).siz - onesIn f st i = side ln num nds (colAt ln num nds col i) i 0 := by omega
  -- what a branch is given
  have give : ∀ u, u < 2 → ∀ s : LaySt, Like s.nds nds → ∃ s', shareM ((ndAt nds i).br u) (side ln num nds (colAt ln num nds col i) i u) s = some s' := by
    intro u hu s _
    unfold shareM
    cases h.good i u hi hu with
    | leaf kk hkk e => rw [e]; exact ⟨_, if_pos rfl⟩
    | node n e h1 => rw [e]; exact ⟨_, (if_neg (by simp)).trans (if_pos (by show 0 < n; omega))⟩
    | none e h2 =>
      rw [e]
      refine ⟨s, (if_neg (by simp)).trans ((if_neg (by simp)).trans (if_pos ?_))⟩
      unfold side
      rw [List.length_eq_zero_iff, List.filter_eq_nil_iff]
      intro b hb hx
      have hb2 := List.mem_filter.1 hb
      have hx2 : bitAt ln num (ndAt nds i).depth b = u := by simpa using hx
      refine child_none hk (hc b hb2.1) hb2.2 ?_
      rw [hx2]; exact h2
  have like1 := hv.like.2 i
  have b0e : (ndAt st.nds i).b0 = (ndAt nds i).br 0 := like1.2.2.1
  have b1e : (ndAt st.nds i).b1 = (ndAt nds i).br 1 := like1.2.2.2
  obtain ⟨s1, h1⟩ := give 0 (by omega) ⟨st.len + (ndAt st.nds i).siz, setFrm st.nds i st.len, st.ws⟩ ((like_frm _ _ _).trans hv.like)
  have l1 := shareM_like h1
  obtain ⟨s2, h2⟩ := give 1 (by omega) s1 (l1.1.trans ((like_frm _ _ _).trans hv.like))
  have l2 := shareM_like h2
  have a := shareM_eff h1
  have b := shareM_eff h2
  have hstep : layStep f LB i st = some s2 := by
    unfold layStep
    rw [if_neg (by omega), eze, eon, b0e, b1e, h1]
    exact h2
  refine ⟨s2, hstep, ?_⟩
  have lk := layStep_like hstep
  have hil : i < st.nds.length := by rw [hv.like.1]; exact hi
  have n1l : s1.nds.length = nds.length := (l1.1.trans ((like_frm _ _ _).trans hv.like)).1
  have frm0 : ∀ j, (ndAt (setFrm st.nds i st.len) j).siz = (ndAt st.nds j).siz := fun j => by rw [setFrm_at _ _ _ _ hil]; split <;> rfl
  -- the size of any node afterwards
  have szs : ∀ n, n < nds.length → (∀ u, u < 2 → (ndAt nds i).br u ≠ { node := n } ∨ n = 0) → (ndAt s2.nds n).siz = (ndAt st.nds n).siz := by
    intro n hn hne
    have other : ∀ u, u < 2 → ((ndAt nds i).br u).whole = true ∨ n ≠ ((ndAt nds i).br u).node ∨ ((ndAt nds i).br u).node = 0 := by
      intro u hu
      cases h.good i u hi hu with
      | leaf kk hkk e => rw [e]; exact .inl rfl
      | node m e h3 =>
        rcases hne u hu with c | c
        · rw [e] at c ⊢; right; left; intro x; subst x; exact c rfl
        · rw [e]; right; left; show n ≠ m; omega
      | none e => rw [e]; exact .inr (.inr rfl)
    rw [b.other n (other 1 (by omega)), a.other n (other 0 (by omega))]
    exact frm0 n
  have hit : ∀ u n, u < 2 → 0 < n → (ndAt nds i).br u = { node := n } → (ndAt s2.nds n).siz = (colAt ln num nds col n).length := by
    intro u n hu hn0 e
    obtain ⟨q1, q2, _⟩ := h.child hi hu hn0 e
    have ecol : (colAt ln num nds col n).length = side ln num nds (colAt ln num nds col i) i u := by rw [h.col_child hk hc hi hu hn0 e]; rfl
    rcases (show u = 0 ∨ u = 1 by omega) with rfl | rfl
    · have hb : ((ndAt nds i).br 1).whole = true ∨ n ≠ ((ndAt nds i).br 1).node ∨ ((ndAt nds i).br 1).node = 0 := by
        cases h.good i 1 hi (by omega) with
        | leaf kk hkk e1 => rw [e1]; exact .inl rfl
        | node m e1 h3 =>
          rw [e1]; right; left
          intro x
          have x' : n = m := x
          subst x'
          have := h.parent hi (by omega) hi (by omega) hn0 e e1
          omega
        | none e1 => rw [e1]; exact .inr (.inr rfl)
      rw [b.other n hb]
      have := a.hit (by rw [e]) (by rw [e]; exact hn0) (by rw [e]; show n < (setFrm st.nds i st.len).length; rw [setFrm_length, hv.like.1]; exact q2)
      rw [e] at this
      rw [this, ecol]
    · have := b.hit (by rw [e]) (by rw [e]; exact hn0) (by rw [e]; show n < _; omega)
      rw [e] at this
      rw [this, ecol]
  refine ⟨lk.1.trans hv.like, by rw [lk.2.1, hln], fun n hn hp => ?_, fun j hj => ?_⟩
  · by_cases c : ∃ u, u < 2 ∧ (ndAt nds i).br u = { node := n } ∧ 0 < n
    · obtain ⟨u, hu, e, hn0⟩ := c
      exact hit u n hu hn0 e
    · have hne : ∀ u, u < 2 → (ndAt nds i).br u ≠ { node := n } ∨ n = 0 := fun u hu => by
        rcases Nat.eq_zero_or_pos n with x | x
        · exact .inr x
        · exact .inl fun e => c ⟨u, hu, e, x⟩
      rw [szs n hn hne]
      refine hv.siz n hn ?_
      rcases hp with x | ⟨j, u, h3, h4, h5⟩
      · exact .inl x
      · by_cases e : j = i
        · subst e
          rcases hne u h4 with y | y
          · exact absurd h5 y
          · exact .inl y
        · exact .inr ⟨j, u, by omega, h4, h5⟩
  · have low : ∀ k, k < i + 1 → (ndAt s2.nds k).siz = (ndAt st.nds k).siz := fun k hk' => szs k (by omega) fun u hu => by
      rcases Nat.eq_zero_or_pos k with x | x
      · exact .inr x
      · refine .inl fun e => ?_
        have := (h.child hi hu x e).1
        omega
    by_cases e : j = i + 1
    · subst e
      rw [startOf, startOf_congr (b := st.nds) (fun k hk' => low k (by omega)), low i (by omega), hv.st i (Nat.le_refl _), ← hv.len, hln]
    · rw [startOf_congr (b := st.nds) (fun k hk' => low k (by omega))]
      exact hv.st j (by omega)

/-- A column's own bits are laid. -/
theorem own_laid {LB : Nat} {ws : List Nat} (h : Shaped M ln o nds) (hk : NumK M ln num o) (hc : ∀ b ∈ col, b ∈ o) (hpos : ∀ b ∈ o, 0 < ln b) (hnum : ∀ b ∈ o, num b < 2 ^ ln b) (hf : ∀ k, k < (treeBits ln num nds col nds.length).length → f k = decide ((treeBits ln num nds col nds.length).getD k 0 = 1)) (hLB : (treeBits ln num nds col nds.length).length ≤ LB) :
    ∀ i, i ≤ nds.length → ∃ st, layTo f LB nds col.length ws i = some st ∧ OwnInv ln num nds col i st
  | 0, _ => by
    refine ⟨_, rfl, like_siz _ _ _, rfl, fun n hn hp => ?_, fun j hj => ?_⟩
    · rcases hp with x | ⟨j, u, h1, _⟩
      · subst x
        show (ndAt (setSiz nds 0 col.length) 0).siz = _
        rw [setSiz_at _ _ _ _ h.more, if_pos rfl]
        unfold colAt
        rw [List.filter_eq_self.2]
        intro b hb
        refine decide_eq_true ⟨by rw [h.root.1]; exact hpos b (hc b hb), ?_⟩
        rw [h.root.1, h.root.2, Nat.sub_zero]
        exact Nat.div_eq_of_lt (hnum b (hc b hb))
      · omega
    · obtain rfl : j = 0 := by omega
      rfl
  | i + 1, hi => by
    obtain ⟨st, h1, h2⟩ := own_laid (ws := ws) h hk hc hpos hnum hf hLB i (by omega)
    obtain ⟨st', h3, h4⟩ := own_step h hk hc (by omega) h2 hf hLB
    exact ⟨st', by rw [layTo, h1]; exact h3, h4⟩

theorem like_under {a b : Nd} (h : LikeNd a b) : under ln num a = under ln num b := by
  funext x; unfold under; rw [h.1, h.2.1]
theorem like_colAt {nds' : List Nd} (h : Like nds' nds) (n : Nat) : colAt ln num nds' col n = colAt ln num nds col n := by
  unfold colAt; rw [like_under (h.2 n)]
/-- And they tell that column. -/
theorem own_rep {LB : Nat} (h : Shaped M ln o nds) (hn : o.Nodup) (hk : NumK M ln num o) (hc : ∀ b ∈ col, b ∈ o) (hpos : ∀ b ∈ o, 0 < ln b) (hnum : ∀ b ∈ o, num b < 2 ^ ln b) (hf : ∀ k, k < (treeBits ln num nds col nds.length).length → f k = decide ((treeBits ln num nds col nds.length).getD k 0 = 1)) (hLB : (treeBits ln num nds col nds.length).length ≤ LB) :
    ∃ st, layM f LB nds col.length (List.replicate 256 0) = some st ∧ st.len = (treeBits ln num nds col nds.length).length ∧ Like st.nds nds ∧ Rep ln num f st.nds col ∧ ∀ v : UInt8, st.ws.getD v.toNat 0 = col.count v := by
  obtain ⟨st, h1, h2⟩ := own_laid (ws := List.replicate 256 0) h hk hc hpos hnum hf hLB nds.length (Nat.le_refl _)
  have hi := layTo_inv h hn rfl (Nat.le_refl _) h1
  have hlk := h2.like
  have sizes : ∀ n, n < nds.length → (ndAt st.nds n).siz = (colAt ln num nds col n).length := fun n hl => by
    refine h2.siz n hl ?_
    by_cases e : n = 0
    · exact .inl e
    · obtain ⟨j, u, q1, q2, q3⟩ := h.par n (by omega) hl
      exact .inr ⟨j, u, by omega, q1, q3⟩
  have hsh := h.like hlk
  have rep : Rep ln num f st.nds col := by
    refine ⟨fun n hl => ?_, fun n hl => hi.frm n (by rw [hlk.1] at hl; exact hl), fun n p hl hp => ?_⟩
    · rw [hlk.1] at hl
      rw [like_colAt hlk, sizes n hl]
    · rw [hlk.1] at hl
      rw [sizes n hl] at hp
      obtain ⟨q1, q2⟩ := treeBits_at ln num nds col hl hp
      rw [hi.frm n hl, h2.st n (by omega), hf _ q2, q1, like_colAt hlk, (hlk.2 n).1]
  refine ⟨st, h1, h2.len, hlk, rep, fun v => ?_⟩
  have h2' : LayInv f col.length st.nds.length st := by rw [hlk.1]; exact hi
  obtain ⟨col', c1, c2, c3, c4⟩ := laid_rep h2' rfl hsh hk hnum hpos
  -- the same bits tell the same column
  have same : ∀ m n, nds.length - n ≤ m → n < nds.length → colAt ln num st.nds col n = colAt ln num st.nds col' n := by
    intro m
    induction m with
    | zero => intro n h3 h4; omega
    | succ m ih =>
      intro n h3 h4
      have h4' : n < st.nds.length := by rw [hlk.1]; exact h4
      have lens : (colAt ln num st.nds col n).length = (colAt ln num st.nds col' n).length := by rw [← rep.siz n h4', ← c3.siz n h4']
      have sub : ∀ (c : List UInt8) (_ : ∀ b ∈ c, b ∈ o) u, u < 2 → (∀ m', 0 < m' → (ndAt st.nds n).br u = { node := m' } → (colAt ln num st.nds c n).filter (fun b => bitAt ln num (ndAt st.nds n).depth b == u) = colAt ln num st.nds c m') ∧ (∀ v, (ndAt st.nds n).br u = { whole := true, val := v } → ∀ b ∈ (colAt ln num st.nds c n).filter (fun b => bitAt ln num (ndAt st.nds n).depth b == u), b = v) := by
        intro c hcm u hu
        refine ⟨fun m' hm' e => (hsh.col_child hk hcm h4' hu hm' e).symm, fun v e b hb => ?_⟩
        obtain ⟨q1, q2⟩ := List.mem_filter.1 hb
        obtain ⟨q3, q4⟩ := List.mem_filter.1 q1
        have q5 : bitAt ln num (ndAt st.nds n).depth b = u := by simpa using q2
        cases hsh.good n u h4' hu with
        | leaf kk hkk e1 e2 e3 =>
          rw [e1] at e
          have ev : o.getD kk 0 = v := by injection e
          rw [← ev]
          exact child_leaf hk (hcm b q3) q4 hkk e2 (by rw [q5]; exact e3)
        | node _ e1 => rw [e1] at e; cases e
        | none e1 => rw [e1] at e; cases e
      apply List.ext_getElem lens
      intro p h5 h6
      -- the bit is the same; so is what stands behind it
      have hp : p < (ndAt st.nds n).siz := by rw [rep.siz n h4']; exact h5
      have bits : (colAt ln num st.nds col n).map (fun b => bitAt ln num (ndAt st.nds n).depth b) = (colAt ln num st.nds col' n).map (fun b => bitAt ln num (ndAt st.nds n).depth b) := by
        apply List.ext_getElem
        · rw [List.length_map, List.length_map, lens]
        · intro q h7 h8
          rw [List.length_map] at h7 h8
          have hq : q < (ndAt st.nds n).siz := by rw [rep.siz n h4']; exact h7
          have e1 := rep.bit n q h4' hq
          have e2 := c3.bit n q h4' hq
          rw [e1, decide_eq_decide, List.getD_eq_getElem?_getD, List.getElem?_eq_getElem h7, List.getD_eq_getElem?_getD, List.getElem?_eq_getElem h8] at e2
          rw [List.getElem_map, List.getElem_map]
          have b1 := bitAt_lt ln num (ndAt st.nds n).depth (colAt ln num st.nds col n)[q]
          have b2 := bitAt_lt ln num (ndAt st.nds n).depth (colAt ln num st.nds col' n)[q]
          have e3 : bitAt ln num (ndAt st.nds n).depth (colAt ln num st.nds col n)[q] = 1 ↔ bitAt ln num (ndAt st.nds n).depth (colAt ln num st.nds col' n)[q] = 1 := e2
          omega
      have rank : ∀ (a b : List UInt8) (g : UInt8 → Nat), a.map g = b.map g → (∀ u, a.filter (fun x => g x == u) = b.filter (fun x => g x == u)) → a = b := by
        intro a
        induction a with
        | nil => intro b g e _; cases b with
          | nil => rfl
          | cons y t => simp at e
        | cons x r ihr =>
          intro b g e hfl
          cases b with
          | nil => simp at e
          | cons y t =>
            rw [List.map_cons, List.map_cons] at e
            injection e with e1 e2
            have h0 := hfl (g x)
            rw [List.filter_cons, List.filter_cons, e1, if_pos (beq_self_eq_true _), if_pos (beq_self_eq_true _)] at h0
            injection h0 with h00 _
            subst h00
            congr 1
            refine ihr t g e2 fun u => ?_
            have h1 := hfl u
            rw [List.filter_cons, List.filter_cons] at h1
            split at h1
            · injection h1
            · exact h1
      have fl : ∀ u, (colAt ln num st.nds col n).filter (fun b => bitAt ln num (ndAt st.nds n).depth b == u) = (colAt ln num st.nds col' n).filter (fun b => bitAt ln num (ndAt st.nds n).depth b == u) := by
        intro u
        by_cases hu : u < 2
        · have ln1 : ((colAt ln num st.nds col n).filter (fun b => bitAt ln num (ndAt st.nds n).depth b == u)).length = ((colAt ln num st.nds col' n).filter (fun b => bitAt ln num (ndAt st.nds n).depth b == u)).length := by
            have cp : ∀ l : List UInt8, (l.filter (fun b => bitAt ln num (ndAt st.nds n).depth b == u)).length = (l.map (fun b => bitAt ln num (ndAt st.nds n).depth b)).countP (· == u) := fun l => by
              rw [List.countP_map, List.countP_eq_length_filter]; rfl
            rw [cp, cp, bits]
          cases hg : hsh.good n u h4' hu with
          | leaf kk hkk e1 =>
            have r1 := (sub col hc u hu).2 _ e1
            have r2 := (sub col' c2 u hu).2 _ e1
            rw [List.eq_replicate_of_mem r1, List.eq_replicate_of_mem r2, ln1]
          | node m' e1 q1 q2 =>
            rw [(sub col hc u hu).1 m' (by omega) e1, (sub col' c2 u hu).1 m' (by omega) e1]
            rw [hlk.1] at q2
            exact ih m' (by omega) q2
          | none e1 q1 =>
            have em : ∀ (c : List UInt8) (_ : ∀ b ∈ c, b ∈ o), (colAt ln num st.nds c n).filter (fun b => bitAt ln num (ndAt st.nds n).depth b == u) = [] := by
              intro c hcm
              rw [List.filter_eq_nil_iff]
              intro b hb hx
              have hb2 := List.mem_filter.1 hb
              have hx2 : bitAt ln num (ndAt st.nds n).depth b = u := by simpa using hx
              refine child_none hk (hcm b hb2.1) hb2.2 ?_
              rw [hx2]; exact q1
            rw [em col hc, em col' c2]
        · have em : ∀ l : List UInt8, l.filter (fun b => bitAt ln num (ndAt st.nds n).depth b == u) = [] := fun l => by
            rw [List.filter_eq_nil_iff]
            intro b _ hx
            have hx2 : bitAt ln num (ndAt st.nds n).depth b = u := by simpa using hx
            have := bitAt_lt ln num (ndAt st.nds n).depth b
            omega
          rw [em, em]
      have := rank _ _ _ bits fl
      simp only [this]
  have root : ∀ c : List UInt8, (∀ b ∈ c, b ∈ o) → colAt ln num st.nds c 0 = c := fun c hcm => by
    unfold colAt
    refine List.filter_eq_self.2 fun b hb => decide_eq_true ⟨by rw [hsh.root.1]; exact hpos b (hcm b hb), ?_⟩
    rw [hsh.root.1, hsh.root.2, Nat.sub_zero]
    exact Nat.div_eq_of_lt (hnum b (hcm b hb))
  have e := same nds.length 0 (by omega) h.more
  rw [root col hc, root col' c2] at e
  rw [c4 v, e]
end

end Hm
end Go.Proofs.YtegnkfdbmmndaaaGreat
end

/- CodedM -/
section
/- Lengths of which codes are made: all that the tree wants of them. -/
namespace Go.Proofs.YtegnkfdbmmndaaaGreat
namespace Hm

/-- Lengths that take up all that can follow; one byte alone has the length 1. -/
structure Coded (L : List Nat) : Prop where
  len : L.length = 256
  short : ∀ b : UInt8, lnB L b ≤ 32
  kind : (orderOf L).length = 0 ∨ ((orderOf L).length = 1 ∧ ∀ b ∈ orderOf L, lnB L b = 1) ∨ (1 < (orderOf L).length ∧ kr 32 L (orderOf L) = 2 ^ 32)

def numB (L : List Nat) (b : UInt8) : Nat := (codeOf L b).1

section
variable {L : List Nat}
theorem Coded.le255 (h : Coded L) (b : UInt8) : lnB L b ≤ 255 := by have := h.short b; omega
theorem Coded.mem (h : Coded L) (b : UInt8) : b ∈ orderOf L ↔ 0 < lnB L b := mem_orderOf L h.le255 b
theorem Coded.asc (_h : Coded L) : (orderOf L).Pairwise fun a b => lnB L a ≤ lnB L b := by
  refine (orderOf_sorted L).imp fun {a b} h => ?_
  unfold keyB at h
  have := a.toNat_lt; have := b.toNat_lt
  omega
theorem Coded.nodup (_h : Coded L) : (orderOf L).Nodup := nodup_of_key (orderOf_sorted L)
theorem Coded.fits (h : Coded L) : Fits L (orderOf L) := by
  refine ⟨h.asc, fun b _ => h.short b, ?_⟩
  rcases h.kind with h0 | ⟨h1, h2⟩ | ⟨_, h2⟩
  · have : orderOf L = [] := List.eq_nil_of_length_eq_zero h0
    rw [this]; simp [kr]
  · obtain ⟨b, hb⟩ := List.length_eq_one_iff.1 h1
    have h3 := h2 b (by rw [hb]; exact List.mem_singleton.2 rfl)
    rw [hb]
    have h4 : ln L b = 1 := h3
    simp only [kr, List.map_cons, List.map_nil, List.sum_cons, List.sum_nil, h4]
    decide
  · exact Nat.le_of_eq h2
theorem Coded.numk (h : Coded L) : NumK 32 (lnB L) (numB L) (orderOf L) := by
  refine ⟨fun k hk => ?_, fun b _ => h.short b⟩
  unfold numB
  rw [codeOf_at L k hk]
  exact h.fits.num k hk
theorem Coded.num_lt (h : Coded L) : ∀ b ∈ orderOf L, numB L b < 2 ^ lnB L b := fun b hb => by
  have := codeOf_lt L h.fits b hb
  rwa [codeOf_len L h.le255] at this
theorem Coded.pos (h : Coded L) : ∀ b ∈ orderOf L, 0 < lnB L b := fun b hb => (h.mem b).1 hb
theorem Coded.few (h : Coded L) : (orderOf L).length ≤ 256 := by
  rw [orderOf_length L h.le255]; exact codedTo_le L 256
/-- The nodes of such lengths. -/
theorem Coded.ends (h : Coded L) : ∃ N, 0 < N ∧ Ends 32 (lnB L) (orderOf L) N := by
  rcases h.kind with h0 | ⟨h1, h2⟩ | ⟨h1, h2⟩
  · have : orderOf L = [] := List.eq_nil_of_length_eq_zero h0
    rw [this]; exact ⟨1, by omega, shape_none 32 _⟩
  · obtain ⟨b, hb⟩ := List.length_eq_one_iff.1 h1
    have h3 := h2 b (by rw [hb]; exact List.mem_singleton.2 rfl)
    rw [hb]; exact ⟨1, by omega, shape_one 32 _ b h3⟩
  · exact shape_full ⟨h.asc, h.pos, fun b _ => h.short b, h2⟩ (by omega) h.few
end
/-- A text's lengths are such. -/
theorem lens_coded (t : List UInt8) (ht : t.length ≤ 6000) : Coded (lens t) := by
  have hw := lens_whole t
  have hs : ∀ b : UInt8, lnB (lens t) b ≤ 17 := hw.short ht
  have hx : ∀ b : UInt8, lnB (lens t) b ≤ 255 := fun b => by have := hs b; omega
  have hn := nodup_of_key (orderOf_sorted (lens t))
  have hm : ∀ b, b ∈ orderOf (lens t) ↔ 0 < ln (lens t) b := mem_orderOf (lens t) hx
  refine ⟨hw.len, fun b => by have := hs b; omega, ?_⟩
  rcases Nat.lt_trichotomy (orderOf (lens t)).length 1 with h | h | h
  · exact .inl (by omega)
  · exact .inr (.inl ⟨h, hw.one _ hn hm h⟩)
  · exact .inr (.inr ⟨h, hw.full _ hn hm h 32 fun b _ => Nat.le_trans (hs b) (by omega)⟩)
theorem lens_mem (t : List UInt8) (ht : t.length ≤ 6000) (b : UInt8) : b ∈ orderOf (lens t) ↔ b ∈ t := by
  rw [(lens_coded t ht).mem]; exact (lens_whole t).pos b

end Hm
end Go.Proofs.YtegnkfdbmmndaaaGreat
end

/- Column -/
section
/- The column. -/
namespace Go.Proofs.YtegnkfdbmmndaaaGreat
open Go.RowKit

namespace Hm
def colOf (s : List UInt8) (ps : List Nat) : List UInt8 := (ps.filter fun p => decide (0 < p)).map fun p => s.getD (p - 1) 0
theorem colOf_take (s : List UInt8) (ps : List Nat) (k : Nat) (h : k < ps.length) : colOf s (ps.take (k + 1)) = colOf s (ps.take k) ++ if 0 < ps[k] then [s.getD (ps[k] - 1) 0] else [] := by
  rw [List.take_succ_eq_append_getElem h]; unfold colOf; rw [List.filter_append, List.map_append]; congr 1
  by_cases e : 0 < ps[k] <;> simp [e]
theorem colOf_le (s : List UInt8) (ps : List Nat) : (colOf s ps).length ≤ ps.length := by
  unfold colOf; rw [List.length_map]; exact List.length_filter_le _ _
end Hm

set_option maxHeartbeats 1000000 in
theorem column_any (gp cp : Nat) (s : ByteArray) (ps : List Nat) (w : World) (hp : IntRow w gp ps) (hs : s.size ≤ 6000) (hl : ps.length ≤ 6001) (hx : ∀ x ∈ ps, x ≤ s.size) :
    Calls Tryz.prog 99 #[.string s, .slice (some ⟨gp, 0, none⟩) ps.length cp] w fun e w' => ∃ v', e = .returned v' ∧ w'.ownsRow w.heap.size 5 1 v' (Hm.colOf s.data.toList ps).length (Hm.bcells (Hm.colOf s.data.toList ps)) ∧ Kept (fun _ => False) w w' := by
  obtain ⟨i0, hi, hz0, hz1, hz2⟩ := info_parts info_u8
  have hgp := hp.lt
  go_enter Tryz.func99, Tryz.ntmps99
  go_wp2_with (at_make; refine wpList_make_own _ rfl _ _ 79 rfl w.heap.size 5 i0 (.int .u8 0) 1 Tryz.underlying79 hi hz0 hz1 .i64 .i64 _ s.size rfl rfl rfl (by rw [hz2]; omega) (by unfold maxLen; omega) (Nat.le_refl _) ?_; intro w1 ho1 hg1)
  have hk1 : Kept (fun _ => False) w w1 := (Kept.refl _ _).grown hg1 (fun k hk => by cases hk)
  clear hg1
  go_loopw [5, 13] (fun u i wr => ∃ k : Nat, k ≤ ps.length ∧ i = .int .i64 k ∧ wr.ownsRow w.heap.size 5 1 u (Hm.colOf s.data.toList (ps.take k)).length (Hm.bcells (Hm.colOf s.data.toList (ps.take k))) ∧ Kept (fun _ => False) w wr) (fun _ i _ => ps.length - (intOf i).toNat)
  case atStart => exact ⟨0, Nat.zero_le _, rfl, by simpa [Hm.colOf, Hm.bcells] using ho1, hk1⟩
  case round =>
    clear ho1 hk1
    obtain ⟨k, hk, rfl, hor, hkr⟩ := hrel
    have hcl := Hm.colOf_le s.data.toList (ps.take k)
    have hcl2 : (ps.take k).length ≤ 6001 := by simp; omega
    by_cases hlt : k < ps.length
    · have hc := (hp.kept hkr id).cell hlt
      have hpx := hx ps[k] (List.getElem_mem _)
      have HT : Hid (Hm.colOf s.data.toList (ps.take (k + 1)) = Hm.colOf s.data.toList (ps.take k) ++ if 0 < ps[k] then [s.data.toList.getD (ps[k] - 1) 0] else []) := Hm.colOf_take _ ps k hlt
      generalize ps[k] = p at *
      generalize hC : Hm.colOf s.data.toList (ps.take k) = C at *
      by_cases hpos : 0 < p
      · obtain ⟨q, hq⟩ : ∃ q, p = q + 1 := ⟨p - 1, by omega⟩
        subst hq
        have hq2 : q < s.size := by omega
        have HT2 : Hid (Hm.colOf s.data.toList (ps.take (k + 1)) = C ++ [s[q]]) := by
          show _ = _
          have e : s.data.toList.getD (q + 1 - 1) 0 = s[q] := by
            rw [Nat.add_sub_cancel, List.getD_eq_getElem?_getD, List.getElem?_eq_getElem (by simpa using hq2)]
            rfl
          rw [HT.out, if_pos hpos, e]
        clear HT hp hx hC
        go_wp2_with (at_builtin; refine wpList_append_mv _ rfl (.tmp 19) (.tmp 24) 79 rfl w.heap.size 5 i0 (.int .u8 0) 1 1 Tryz.underlying79 hi hz0 hz1 hz2 rfl (by decide) _ _ _ rfl (hor.alloc _) ⟨wr.heap.size, 0, none⟩ 1 1 [.int .u8 (s[q].toNat : Int)] rfl rfl ?c1 ?c2 ?c3 ?c4 ?c5 ?_)
        case c1 => exact cell_one_new _ _ _
        case c2 => intro u hu; simp at hu; subst hu; rfl
        case c3 => unfold maxLen; omega
        case c4 => omega
        case c5 => have := hkr.size; simp; omega
        intro v' w2 ho2 hg2 hm2
        have hk2 : Kept (fun _ => False) w w2 := (hkr.alloc _).grown hg2 (fun j hj => .inl (hor.lt j hj).1)
        clear hg2 hm2 hor hkr
        go_wp2
        go_roundw
        case rel =>
          refine ⟨k + 1, by omega, by go_num, ?_, hk2⟩
          rw [HT2.out]
          simpa [Hm.bcells] using ho2
        case measure => simp [intOf]; omega
      · obtain rfl : p = 0 := by omega
        have HT2 : Hid (Hm.colOf s.data.toList (ps.take (k + 1)) = C) := by
          show _ = _
          rw [HT.out, if_neg hpos, List.append_nil]
        clear HT hp hx hC
        go_wp2
        go_roundw
        case rel => exact ⟨k + 1, by omega, by go_num, by rw [HT2.out]; exact hor, hkr⟩
        case measure => simp [intOf]; omega
    · go_wp2
      go_ret
      obtain rfl : k = ps.length := by omega
      rw [List.take_length] at hor
      exact ⟨_, rfl, hor, hkr⟩

end Go.Proofs.YtegnkfdbmmndaaaGreat
end

/- Counted -/
section
/- Bits with counts of ones. -/
namespace Go.Proofs.YtegnkfdbmmndaaaGreat
open Go.RowKit

namespace Hm
theorem on8_is : ∃ f : UInt8 → Nat, ∀ b, f b = Lib.onesCount b.toNat := ⟨fun b => Lib.onesCount b.toNat, fun _ => rfl⟩
/-- How many ones a byte has. -/
noncomputable def on8 : UInt8 → Nat := Classical.choose on8_is
theorem on8_eq (b : UInt8) : on8 b = Lib.onesCount b.toNat := Classical.choose_spec on8_is b
theorem on8_le (b : UInt8) : on8 b ≤ 8 := by rw [on8_eq]; exact Lib.onesCount_le8 ⟨b.toNat, b.toNat_lt⟩
/-- How many ones stand in the first bytes. -/
noncomputable def onesTo (s : List UInt8) : Nat → Nat
  | 0 => 0
  | k + 1 => onesTo s k + on8 (s.getD k 0)
noncomputable def counts (s : List UInt8) : List Nat := (List.range (s.length + 1)).map (onesTo s)
noncomputable def countsTo (s : List UInt8) (k : Nat) : List Nat := (List.range (s.length + 1)).map fun i => if i ≤ k then onesTo s i else 0
theorem counts_length (s : List UInt8) : (counts s).length = s.length + 1 := by simp [counts]
theorem countsTo_length (s : List UInt8) (k : Nat) : (countsTo s k).length = s.length + 1 := by simp [countsTo]
theorem countsTo_all (s : List UInt8) : countsTo s s.length = counts s := by
  unfold countsTo counts
  refine List.map_congr_left fun i hi => ?_
  have : i < s.length + 1 := by simpa using hi
  rw [if_pos (by omega)]
theorem countsTo_zero (s : List UInt8) : countsTo s 0 = List.replicate (s.length + 1) 0 := by
  unfold countsTo
  apply List.ext_getElem
  · simp
  · intro i h1 h2
    simp only [List.getElem_map, List.getElem_range, List.getElem_replicate]
    by_cases h : i ≤ 0
    · obtain rfl : i = 0 := by omega
      rfl
    · rw [if_neg h]
theorem countsTo_succ (s : List UInt8) (k : Nat) (_h : k < s.length) : (countsTo s k).set (k + 1) (onesTo s (k + 1)) = countsTo s (k + 1) := by
  apply List.ext_getElem
  · simp [countsTo]
  · intro i h1 h2
    rw [List.getElem_set]
    simp only [countsTo, List.getElem_map, List.getElem_range]
    by_cases e : k + 1 = i
    · subst e; simp
    · rw [if_neg e]
      by_cases h3 : i ≤ k
      · rw [if_pos h3, if_pos (by omega)]
      · rw [if_neg h3, if_neg (by omega)]
theorem countsTo_get (s : List UInt8) (k i : Nat) (h : i < (countsTo s k).length) (hi : i ≤ k) : (countsTo s k)[i] = onesTo s i := by
  simp only [countsTo, List.getElem_map, List.getElem_range]; rw [if_pos hi]
theorem onesTo_le (s : List UInt8) (k : Nat) : onesTo s k ≤ 8 * k := by
  induction k with
  | zero => exact Nat.le_refl _
  | succ k ih =>
    rw [onesTo]
    have := on8_le (s.getD k 0)
    omega
end Hm

def OnesSays : Prop := ∀ (b : UInt8) (W : World), Calls Tryz.prog 172 #[.int .u8 (b.toNat : Nat)] W fun e w' => e = .returned (.int .i64 (Hm.on8 b : Nat)) ∧ w' = W

theorem kept_three (w : World) (b : Nat) (x y z : Value) : Kept (fun j => j = b) w (((w.setCell ⟨b, 0, none⟩ x).setCell ⟨b, 1, none⟩ y).setCell ⟨b, 2, none⟩ z) :=
  ((((Kept.refl (fun j => j = b) w).setCell (p := ⟨b, 0, none⟩) (.inr rfl) x).setCell (p := ⟨b, 1, none⟩) (.inr rfl) y).setCell (p := ⟨b, 2, none⟩) (.inr rfl) z)

set_option maxHeartbeats 1000000 in
theorem count_any (hones : OnesSays) (s : ByteArray) (L : Nat) (w : World) (hs : s.size ≤ 1000000) :
    Calls Tryz.prog 147 #[.agg #[.string s, .int .i64 L]] w fun e w' => ∃ g, w.heap.size ≤ g ∧ e = .returned (.agg #[.string s, .int .i64 L, .slice (some ⟨g, 0, none⟩) (s.size + 1) (s.size + 1)]) ∧ IntRow w' g (Hm.counts s.data.toList) ∧ Kept (fun _ => False) w w' := by
  obtain ⟨i0, hi, hz0, hz1, hz2⟩ := info_parts info_int
  have HSL : Aside (s.data.toList.length = s.size) := by show _ = _; simp
  have HO : Aside _ := hones
  clear hones
  go_enter Tryz.func147, Tryz.ntmps147
  go_upto_region 1 with fail
  have hbox : ((w.alloc (.cells #[.string s, .int .i64 (L : Nat)] 83)).alloc (.cells #[.string ⟨#[]⟩, .int .i64 0, .slice none 0 0] 85)).heap[w.heap.size]? = some (.cells #[.string s, .int .i64 (L : Nat)] 83 (0, 0)) := heap_alloc2_old w _ _
  have hres : ((w.alloc (.cells #[.string s, .int .i64 (L : Nat)] 83)).alloc (.cells #[.string ⟨#[]⟩, .int .i64 0, .slice none 0 0] 85)).heap[w.heap.size + 1]? = some (.cells #[.string ⟨#[]⟩, .int .i64 0, .slice none 0 0] 85 (0, 0)) := heap_alloc2_new w _ _
  have hk0 : Kept (fun _ => False) w ((w.alloc (.cells #[.string s, .int .i64 (L : Nat)] 83)).alloc (.cells #[.string ⟨#[]⟩, .int .i64 0, .slice none 0 0] 85)) := ((Kept.refl _ _).alloc _).alloc _
  have hsz : ((w.alloc (.cells #[.string s, .int .i64 (L : Nat)] 83)).alloc (.cells #[.string ⟨#[]⟩, .int .i64 0, .slice none 0 0] 85)).heap.size = w.heap.size + 2 := by simp
  generalize ((w.alloc (.cells #[.string s, .int .i64 (L : Nat)] 83)).alloc (.cells #[.string ⟨#[]⟩, .int .i64 0, .slice none 0 0] 85)) = W at *
  have p0 : W.cell? ⟨w.heap.size, 0, none⟩ = some (.string s) := cell_of_row _ _ 0 _ _ _ hbox
  have HX : Aside (W.heap[w.heap.size]? = some (.cells #[.string s, .int .i64 (L : Nat)] 83 (0, 0)) ∧ W.heap[w.heap.size + 1]? = some (.cells #[.string ⟨#[]⟩, .int .i64 0, .slice none 0 0] 85 (0, 0)) ∧ Kept (fun _ => False) w W ∧ W.heap.size = w.heap.size + 2) := ⟨hbox, hres, hk0, hsz⟩
  clear hbox hres hk0 hsz
  go_upto_region 2 with (at_make; refine wpList_make_full _ rfl (.tmp 8) (.tmp 8) 64 rfl W.heap.size 3 i0 (.int .i64 0) 1 Tryz.underlying64 hi hz0 hz1 .i64 .i64 _ _ (s.size + 1) rfl rfl (by omega) (by omega) (by rw [hz2]; omega) (by unfold maxLen; omega) (Nat.le_refl _) ?_; intro w1 ho1 hg1)
  have hr1 : IntRow w1 W.heap.size (List.replicate (s.size + 1) 0) := IntRow.made ho1
  have hk1 : Kept (fun _ => False) W w1 := (Kept.refl _ _).grown hg1 (fun k hk => by cases hk)
  have q0 : w1.cell? ⟨w.heap.size, 0, none⟩ = some (.string s) := (hk1.cell (p := ⟨w.heap.size, 0, none⟩) (by have := HX.out.2.2.2; show w.heap.size < _; omega) id).trans p0
  have HY : Aside (IntRow w1 W.heap.size (List.replicate (s.size + 1) 0) ∧ Kept (fun _ => False) W w1) := ⟨hr1, hk1⟩
  clear ho1 hg1 hr1 hk1 p0
  go_wp2
  go_loopw [13] (fun i wr => ∃ k : Nat, k ≤ s.size ∧ i = .int .i64 k ∧ IntRow wr W.heap.size (Hm.countsTo s.data.toList k) ∧ Kept (fun _ => False) W wr) (fun i _ => s.size - (intOf i).toNat)
  case atStart => exact ⟨0, Nat.zero_le _, rfl, by rw [Hm.countsTo_zero, HSL.out]; exact HY.out.1, HY.out.2⟩
  case round =>
    clear q0 HY
    obtain ⟨k, hk, rfl, hr, hkr⟩ := hrel
    have hws : w.heap.size < W.heap.size := by have := HX.out.2.2.2; omega
    have q0 : wr.cell? ⟨w.heap.size, 0, none⟩ = some (.string s) := (hkr.cell (p := ⟨w.heap.size, 0, none⟩) hws id).trans (cell_of_row _ _ 0 _ _ _ HX.out.1)
    by_cases hlt : k < s.size
    · have hl := Hm.countsTo_length s.data.toList k
      rw [HSL.out] at hl
      have c1 := hr.cell (i := k) (by omega)
      obtain ⟨old, c2⟩ : ∃ old, wr.cell? ⟨W.heap.size, k + 1, none⟩ = some old := ⟨_, hr.cell (i := k + 1) (by omega)⟩
      rw [Hm.countsTo_get _ _ _ _ (Nat.le_refl _)] at c1
      have f2 := hr.free (k + 1)
      have hle := Hm.onesTo_le s.data.toList k
      have HS := hr.set (k + 1) (Hm.onesTo s.data.toList (k + 1))
      rw [Hm.countsTo_succ _ _ (by rw [HSL.out]; exact hlt)] at HS
      have hg : s.data.toList.getD k 0 = s[k] := by
        rw [List.getD_eq_getElem?_getD, List.getElem?_eq_getElem (by rw [HSL.out]; exact hlt)]; rfl
      obtain ⟨z, hz⟩ : ∃ z, z = Hm.on8 s[k] := ⟨_, rfl⟩
      have e1 : Hm.onesTo s.data.toList (k + 1) = Hm.onesTo s.data.toList k + z := by
        rw [Hm.onesTo, hg, hz]
      have hone := fun W => HO.out s[k] W
      have h8 : z ≤ 8 := by rw [hz]; exact Hm.on8_le _
      rw [← hz] at hone
      rw [e1] at HS
      clear hz hg
      obtain ⟨o, ho⟩ : ∃ o, o = Hm.onesTo s.data.toList k := ⟨_, rfl⟩
      rw [← ho] at HS c1 hle
      clear ho
      have H2 : Hid (IntRow _ W.heap.size (Hm.countsTo s.data.toList (k + 1))) := HS
      have hne : w.heap.size ≠ W.heap.size := by omega
      have hdec : decide ((k : Int) < (s.size : Int)) = true := decide_eq_true (by omega)
      have hb1 : (k : Int) < (s.size : Int) + 1 := by omega
      have hb2 : (k : Int) + 1 < (s.size : Int) + 1 := by omega
      have hw1 : IntKind.i64.wrap ((k : Int) + 1) = (k : Int) + 1 := by rw [IntKind.wrap_i64]; omega
      have hw2 : IntKind.i64.wrap ((o : Int) + (z : Int)) = (o : Int) + (z : Int) := by rw [IntKind.wrap_i64]; omega
      have hw3 : ((k : Int) + 1).toNat = k + 1 := by omega
      have hw4 : (0 : Int) ≤ (k : Int) + 1 := by omega
      clear HS hr hl e1 HX hle h8 hs
      have H3 : Hid (IntRow (wr.setCell ⟨W.heap.size, k + 1, none⟩ (.int .i64 ((o : Int) + (z : Int)))).drew W.heap.size (Hm.countsTo s.data.toList (k + 1))) := by
        have := H2.out
        rw [show ((o + z : Nat) : Int) = (o : Int) + (z : Int) from by omega] at this
        exact this
      clear H2
      go_wp2_with fail
      go_region_with (first | (go_at_call 172; refine (hone _).mono ?_; rintro e w' ⟨rfl, rfl⟩))
      all_goals
        go_wp2
        go_roundw
        case rel => exact ⟨k + 1, by omega, by go_num, H3.out, (hkr.setCell (.inl (Nat.le_refl _)) _).drew⟩
        case measure => simp [intOf]; omega
    · obtain rfl : k = s.size := by omega
      have hdec : decide ((s.size : Int) < (s.size : Int)) = false := decide_eq_false (by omega)
      have e0 : Hm.countsTo s.data.toList s.size = Hm.counts s.data.toList := by rw [← Hm.countsTo_all, HSL.out]
      rw [e0] at hr
      obtain ⟨hbox, hres, hk0, hsz⟩ := HX.out
      have hb2 := hkr.row hbox id
      have hr2 := hkr.row hres id
      have hne : w.heap.size + 1 ≠ W.heap.size := by omega
      have hl0 : wr.cell? ⟨w.heap.size, 1, none⟩ = some (.int .i64 (L : Nat)) := cell_of_row _ _ 1 _ _ _ hb2
      have p0 : wr.cell? ⟨w.heap.size + 1, 0, none⟩ = some (.string ⟨#[]⟩) := cell_of_row _ _ 0 _ _ _ hr2
      have p1 : wr.cell? ⟨w.heap.size + 1, 1, none⟩ = some (.int .i64 0) := cell_of_row _ _ 1 _ _ _ hr2
      have p2 : wr.cell? ⟨w.heap.size + 1, 2, none⟩ = some (.slice none 0 0) := cell_of_row _ _ 2 _ _ _ hr2
      have f0 : wr.frozen? ⟨w.heap.size + 1, 0, none⟩ = false := frozen_of_row _ _ 0 _ _ hr2
      have f1 : wr.frozen? ⟨w.heap.size + 1, 1, none⟩ = false := frozen_of_row _ _ 1 _ _ hr2
      have f2 : wr.frozen? ⟨w.heap.size + 1, 2, none⟩ = false := frozen_of_row _ _ 2 _ _ hr2
      have HZ : Aside (wr.heap[w.heap.size + 1]? = some (.cells #[.string ⟨#[]⟩, .int .i64 0, .slice none 0 0] 85 (0, 0)) ∧ Kept (fun _ => False) w wr ∧ IntRow wr W.heap.size (Hm.counts s.data.toList) ∧ w.heap.size ≤ W.heap.size) := ⟨hr2, hk0.trans hkr (fun _ _ h => h), hr, by omega⟩
      clear hbox hres hk0 hsz hb2 hr2 HX hr hkr e0 hk hlt hs
      go_wp2
      obtain ⟨hr2, hkw, hr, hle⟩ := HZ.out
      have h2 := heap_setCell_same _ _ 2 _ _ (.slice (some ⟨W.heap.size, 0, none⟩) (s.size + 1) (s.size + 1)) (heap_setCell_same _ _ 1 _ _ (.int .i64 (L : Nat)) (heap_setCell_same _ _ 0 _ _ (.string s) hr2))
      refine bodyPost_ret (v := .agg #[.string s, .int .i64 (L : Nat), .slice (some ⟨W.heap.size, 0, none⟩) (s.size + 1) (s.size + 1)]) (results_cell_row Tryz.results147 _ _ (w.heap.size + 1) 85 _ (0, 0) _ rfl h2 Tryz.underlying85 rfl (by kernel_rfl)) rfl ⟨W.heap.size, hle, rfl, ?_, ?_⟩
      · exact hr.kept (kept_three wr (w.heap.size + 1) _ _ _) (fun e => hne e.symm)
      · exact hkw.trans (kept_three wr (w.heap.size + 1) _ _ _) (fun j h1 h2 => by omega)

end Go.Proofs.YtegnkfdbmmndaaaGreat
end

/- MakeEnds -/
section
/- The row of the files' ends is made. -/
namespace Go.Proofs.YtegnkfdbmmndaaaGreat
open Go.RowKit

set_option maxHeartbeats 400000 in
theorem highLength_any (m n l : Nat) (w : World) (hm : m ≤ 100000) (hn : n ≤ 100000) (hl : l ≤ 20) : Calls Tryz.prog 145 #[.int .i64 m, .int .i64 n, .int .i64 l] w fun e w' => e = .returned (.int .i64 (m + n / 2 ^ l + 1 : Nat)) ∧ w' = w := by
  obtain ⟨q, hq, HQ⟩ : ∃ q : Nat, (n : Int) / 2 ^ l = (q : Int) ∧ Hid (q = n / 2 ^ l) := ⟨n / 2 ^ l, by simp, rfl⟩
  have hqn : q ≤ n := by rw [HQ.out]; exact Nat.div_le_self _ _
  rw [← HQ.out]
  go_enter Tryz.func145, Tryz.ntmps145
  go_wp2
  go_ret
  exact ⟨by first | rfl | go_num | (congr 2; omega), rfl⟩

/-- What a row of bits with counts is as a value. -/
def countedV (bits : List Bool) (g : Nat) : List Value := [.string ⟨(Hm.packBits bits).toArray⟩, .int .i64 (bits.length : Nat), .slice (some ⟨g, 0, none⟩) ((Hm.packBits bits).length + 1) ((Hm.packBits bits).length + 1)]

theorem kept_five (w : World) (b : Nat) (x y z u v : Value) : Kept (fun j => j = b) w (((((w.setCell ⟨b, 0, none⟩ x).setCell ⟨b, 1, none⟩ y).setCell ⟨b, 2, none⟩ z).setCell ⟨b, 3, none⟩ u).setCell ⟨b, 4, none⟩ v) :=
  ((kept_three w b x y z).setCell (p := ⟨b, 3, none⟩) (.inr rfl) u).setCell (p := ⟨b, 4, none⟩) (.inr rfl) v

set_option maxHeartbeats 2000000 in
theorem makeEnds_any (hones : OnesSays) (ao : Option Addr) (c : Nat) (es : List Nat) (n : Nat) (w : World) (hi : IntsAt w ao es) (hm : es.length ≤ 40) (hn : n ≤ 6000) (he : ∀ e ∈ es, e ≤ n) :
    Calls Tryz.prog 97 #[.slice ao es.length c, .int .i64 n] w fun e w' => ∃ g, w.heap.size ≤ g ∧ e = .returned (.agg #[.string ⟨(Hm.packBits (Hm.endsBits es n)).toArray⟩, .int .i64 ((Hm.endsBits es n).length : Nat), .slice (some ⟨g, 0, none⟩) ((Hm.packBits (Hm.endsBits es n)).length + 1) ((Hm.packBits (Hm.endsBits es n)).length + 1), .int .i64 (es.length : Nat), .int .i64 (Hm.lowW es.length n : Nat)]) ∧
      IntRow w' g (Hm.counts (Hm.packBits (Hm.endsBits es n))) ∧ Kept (fun _ => False) w w' := by
  have HON : Aside _ := hones
  clear hones
  have hL := Hm.lowW_le es.length n hn
  have HR : Hid (Hm.endsBits es n = Hm.endSets es (Hm.lowW es.length n) (Hm.endLow es (Hm.lowW es.length n)).length (Hm.endLow es (Hm.lowW es.length n) ++ List.replicate (es.length + n / 2 ^ Hm.lowW es.length n + 1) false) es.length) := rfl
  generalize Hm.endsBits es n = R at HR ⊢
  have hlw := fun W => lowWidth_any es.length n W (by omega) hn
  generalize Hm.lowW es.length n = L at hL hlw HR
  have hel := Hm.endLow_length es L
  have hmul : es.length * L ≤ 480 := by have := Nat.mul_le_mul hm hL; omega
  generalize hB : Hm.endLow es L = B at HR hel
  have hpow : n / 2 ^ L ≤ n := Nat.div_le_self _ _
  go_enter Tryz.func97, Tryz.ntmps97
  go_wp2_with fail
  refine (hlw _).mono ?_
  rintro e w1 ⟨rfl, rfl⟩
  clear hlw
  go_wp2
  go_loopw [18] (fun i wr => ∃ (k : Nat) (v' : Value), k ≤ es.length ∧ i = .int .i64 k ∧ BitsAt wr 221 (w.heap.size + 1) v' (Hm.endLow (es.take k) L) ∧ Kept (fun j => w.heap.size + 1 ≤ j) ((w.alloc (.cells #[.string ⟨#[]⟩, .int .i64 0, .slice none 0 0, .int .i64 0, .int .i64 0] 87)).alloc (.cells #[.slice none 0 0, .int .i64 0] 221)) wr ∧ (∀ j, v'.ownBlock = some j → w.heap.size + 2 ≤ j)) (fun i _ => es.length - (intOf i).toNat)
  case atStart => exact ⟨0, .slice none 0 0, Nat.zero_le _, rfl, by simpa [Hm.endLow] using bits_new w _ _, Kept.refl _ _, fun j h => by cases h⟩
  case round =>
    obtain ⟨k, v', hk, rfl, hb, hkr, hmr⟩ := hrel
    have hkw : Kept (fun _ => False) w wr := (((Kept.refl (fun _ => False) w).alloc _).alloc _).trans hkr (fun j h1 h2 => by omega)
    by_cases hlt : k < es.length
    · obtain ⟨b, o, hao, hbw, hc1⟩ := (hi.kept hkw (fun a ha => id)) k hlt
      have hek := he es[k] (List.getElem_mem _)
      have HT : Hid (Hm.endLow (es.take (k + 1)) L = Hm.endLow (es.take k) L ++ Hm.numBits es[k] L) := Hm.endLow_take es L k hlt
      have hlk : (Hm.endLow (es.take k) L).length ≤ 480 := by
        rw [Hm.endLow_length]
        have : (es.take k).length * L ≤ es.length * L := Nat.mul_le_mul_right _ (by simp; omega)
        omega
      generalize es[k] = x at *
      have hcon := addNum_any 221 (w.heap.size + 1) v' (Hm.endLow (es.take k) L) x L wr hb (by omega) (by omega) (by omega)
      rw [hao]
      clear hao hi hb he
      go_wp2_with (go_at_call 142; refine hcon.mono ?_; rintro e w2 ⟨v2, rfl, hb2, hk2, hm2⟩)
      go_roundw
      case rel =>
        refine ⟨k + 1, v2, by omega, by go_num, by rw [HT.out]; exact hb2, hkr.trans hk2 (fun j h1 h2 => ?_), fun j h => ?_⟩
        · rcases h2 with h2 | h2
          · omega
          · have := hmr j h2; omega
        · rcases hm2 j h with h2 | h2
          · exact hmr j h2
          · have := hkr.size; simp at this; omega
      case measure => simp [intOf]; omega
    · obtain rfl : k = es.length := by omega
      rw [List.take_length, hB] at hb
      obtain ⟨q, hq, HQ⟩ : ∃ q : Nat, (n : Int) / 2 ^ L = (q : Int) ∧ Hid (q = n / 2 ^ L) := ⟨n / 2 ^ L, by simp, rfl⟩
      have hqn : q ≤ n := by have := HQ.out; omega
      have hBl : B.length ≤ 480 := by omega
      have hlen := len_any 221 (w.heap.size + 1) v' B wr hb
      have hgr := grow_any 221 (w.heap.size + 1) v' B (es.length + q + 1) wr hb (by omega) (by omega)
      have hhl := fun W => highLength_any es.length n L W (by omega) (by omega) (by omega)
      rw [← HQ.out] at hhl
      have HH : Hid (IntsAt w ao es ∧ BitsAt wr 221 (w.heap.size + 1) v' B) := ⟨hi, hb⟩
      have HEL : Hid (B.length = es.length * L) := hel
      clear hi hb hel hB hlt hk hmul
      go_wp2_with fail
      refine hlen.mono ?_
      rintro e w2 ⟨rfl, rfl⟩
      go_wp2_with fail
      refine (hhl _).mono ?_
      rintro e w2' ⟨rfl, rfl⟩
      clear hhl
      go_wp2_with fail
      refine hgr.mono ?_
      rintro e w3 ⟨v3, rfl, hb3, hk3, hm3⟩
      clear hlen hgr
      have hkr3 : Kept (fun j => w.heap.size + 1 ≤ j) ((w.alloc (.cells #[.string ⟨#[]⟩, .int .i64 0, .slice none 0 0, .int .i64 0, .int .i64 0] 87)).alloc (.cells #[.slice none 0 0, .int .i64 0] 221)) w3 := hkr.trans hk3 (fun j h1 h2 => by
        rcases h2 with h2 | h2
        · omega
        · have := hmr j h2; omega)
      have hmr3 : ∀ j, v3.ownBlock = some j → w.heap.size + 2 ≤ j := fun j h => by
        rcases hm3 j h with h2 | h2
        · exact hmr j h2
        · have := hkr.size; simp at this; omega
      generalize hR0 : B ++ List.replicate (es.length + q + 1) false = R0 at hb3
      have hR0l : R0.length = B.length + (es.length + q + 1) := by rw [← hR0]; simp
      have HR0 : Hid (B ++ List.replicate (es.length + q + 1) false = R0) := hR0
      clear hR0 hk3 hm3 hkr hkw
      go_wp2
      go_loopw [35] (fun i wr => ∃ (k : Nat), k ≤ es.length ∧ i = .int .i64 k ∧ BitsAt wr 221 (w.heap.size + 1) v3 (Hm.endSets es L B.length R0 k) ∧ Kept (fun j => w.heap.size + 1 ≤ j) ((w.alloc (.cells #[.string ⟨#[]⟩, .int .i64 0, .slice none 0 0, .int .i64 0, .int .i64 0] 87)).alloc (.cells #[.slice none 0 0, .int .i64 0] 221)) wr) (fun i _ => es.length - (intOf i).toNat)
      case atStart => exact ⟨0, Nat.zero_le _, rfl, hb3, hkr3⟩
      case round =>
        clear hb3 hkr3
        obtain ⟨k, hk, rfl, hb, hkr⟩ := hrel
        obtain ⟨hi, _⟩ := HH.out
        have hsl := Hm.endSets_length es L B.length R0 k
        have hkw : Kept (fun _ => False) w wr := (((Kept.refl (fun _ => False) w).alloc _).alloc _).trans hkr (fun j h1 h2 => by omega)
        by_cases hlt : k < es.length
        · obtain ⟨b, o, hao, hbw, hc1⟩ := (hi.kept hkw (fun a ha => id)) k hlt
          have hek := he es[k] (List.getElem_mem _)
          have HT : Hid (Hm.endSets es L B.length R0 (k + 1) = (Hm.endSets es L B.length R0 k).set (B.length + es[k] / 2 ^ L + k) true) := by
            show _ = _
            simp [Hm.endSets, hlt]
          have hdl : es[k] / 2 ^ L ≤ q := by rw [HQ.out]; exact Nat.div_le_div_right hek
          generalize es[k] = x at *
          obtain ⟨y, hy, HY⟩ : ∃ y : Nat, (x : Int) / 2 ^ L = (y : Int) ∧ Hid (y = x / 2 ^ L) := ⟨x / 2 ^ L, by simp, rfl⟩
          have hyq : y ≤ q := by rw [HY.out]; exact hdl
          rw [← HY.out] at HT
          have hcon := set_any 221 (w.heap.size + 1) v3 (Hm.endSets es L B.length R0 k) (B.length + y + k) wr hb (by omega) (by omega)
          have ec2 : ((B.length + y + k : Nat) : Int) = (B.length : Int) + (y : Int) + (k : Int) := by omega
          rw [ec2] at hcon
          rw [hao]
          clear hao hi hb he hdl hsl hR0l hek
          go_wp2_with (go_at_call 146; refine hcon.mono ?_; rintro e w5 ⟨rfl, hb5, hk5⟩)
          go_roundw
          case rel =>
            refine ⟨k + 1, by omega, by go_num, by rw [HT.out]; exact hb5, hkr.trans hk5 (fun j h1 h2 => ?_)⟩
            rcases h2 with h2 | h2
            · omega
            · have := hmr3 j h2; omega
          case measure => simp [intOf]; omega
        · obtain rfl : k = es.length := by omega
          have HF : Hid (R = Hm.endSets es L B.length R0 es.length) := by
            show _ = _
            rw [HR.out, ← HR0.out, HQ.out]
          rw [← HF.out] at hb
          have hrow := row_any 221 (w.heap.size + 1) v3 R wr hb
          have hpl : (⟨(Hm.packBits R).toArray⟩ : ByteArray).size = (Hm.packBits R).length := by show (Hm.packBits R).toArray.size = _; simp
          have hRl : R.length ≤ 100000 := by rw [HF.out, hsl, hR0l]; omega
          have hpl2 := Hm.packBits_length R
          have hcnt := fun W => count_any HON.out ⟨(Hm.packBits R).toArray⟩ R.length W (by rw [hpl, hpl2]; omega)
          have e3 : (⟨(Hm.packBits R).toArray⟩ : ByteArray).data.toList = Hm.packBits R := rfl
          rw [e3, hpl] at hcnt
          have hr0 : wr.heap[w.heap.size]? = some (.cells #[.string ⟨#[]⟩, .int .i64 0, .slice none 0 0, .int .i64 0, .int .i64 0] 87 (0, 0)) := hkr.row (heap_alloc2_old w _ _) (by omega)
          have HX : Aside (wr.heap[w.heap.size]? = some (.cells #[.string ⟨#[]⟩, .int .i64 0, .slice none 0 0, .int .i64 0, .int .i64 0] 87 (0, 0)) ∧ Kept (fun _ => False) w wr) := ⟨hr0, hkw⟩
          have hws : w.heap.size < wr.heap.size := lt_of_block hr0
          have HC : Aside _ := hcnt
          obtain ⟨s, hS⟩ : ∃ s, s = (⟨(Hm.packBits R).toArray⟩ : ByteArray) := ⟨_, rfl⟩
          obtain ⟨P, hP⟩ : ∃ P, P = Hm.packBits R := ⟨_, rfl⟩
          have HSP : Aside (s = (⟨(Hm.packBits R).toArray⟩ : ByteArray) ∧ P = Hm.packBits R) := ⟨hS, hP⟩
          have HC2 := HC.out
          rw [← hS, ← hP] at HC2
          rw [← hS] at hrow
          have HC3 : Aside _ := HC2
          clear HC2 HC hS hP hpl
          clear hb hi he hsl hR0l HR HR0 HF hr0 hkw hkr hpl2 e3 hcnt hRl
          go_wp2_with fail
          refine hrow.mono ?_
          rintro e w5 ⟨rfl, hk5⟩
          have hcnt := HC3.out w5
          clear hrow HC3
          go_wp2_with fail
          refine hcnt.mono ?_
          rintro e w6 ⟨g, hg, rfl, hir, hk6⟩
          have hk56 : Kept (fun _ => False) wr w6 := hk5.trans hk6 (fun _ _ h => h)
          have hr6 := hk56.row HX.out.1 id
          have p0 : w6.cell? ⟨w.heap.size, 0, none⟩ = some (.string ⟨#[]⟩) := cell_of_row _ _ 0 _ _ _ hr6
          have p1 : w6.cell? ⟨w.heap.size, 1, none⟩ = some (.int .i64 0) := cell_of_row _ _ 1 _ _ _ hr6
          have p2 : w6.cell? ⟨w.heap.size, 2, none⟩ = some (.slice none 0 0) := cell_of_row _ _ 2 _ _ _ hr6
          have p3 : w6.cell? ⟨w.heap.size, 3, none⟩ = some (.int .i64 0) := cell_of_row _ _ 3 _ _ _ hr6
          have p4 : w6.cell? ⟨w.heap.size, 4, none⟩ = some (.int .i64 0) := cell_of_row _ _ 4 _ _ _ hr6
          have f0 : w6.frozen? ⟨w.heap.size, 0, none⟩ = false := frozen_of_row _ _ 0 _ _ hr6
          have f1 : w6.frozen? ⟨w.heap.size, 1, none⟩ = false := frozen_of_row _ _ 1 _ _ hr6
          have f2 : w6.frozen? ⟨w.heap.size, 2, none⟩ = false := frozen_of_row _ _ 2 _ _ hr6
          have f3 : w6.frozen? ⟨w.heap.size, 3, none⟩ = false := frozen_of_row _ _ 3 _ _ hr6
          have f4 : w6.frozen? ⟨w.heap.size, 4, none⟩ = false := frozen_of_row _ _ 4 _ _ hr6
          have HZ : Aside (w6.heap[w.heap.size]? = some (.cells #[.string ⟨#[]⟩, .int .i64 0, .slice none 0 0, .int .i64 0, .int .i64 0] 87 (0, 0)) ∧ Kept (fun _ => False) w w6 ∧ IntRow w6 g (Hm.counts P) ∧ w.heap.size < g) := ⟨hr6, HX.out.2.trans hk56 (fun _ _ h => h), hir, by have := hk5.size; omega⟩
          clear hcnt hk5 hk6 hk56 hr6 hir hg HX
          go_wp2
          obtain ⟨hr6, hkw, hir, hgw⟩ := HZ.out
          have h2 := heap_setCell_same _ _ 4 _ _ (.int .i64 (L : Nat)) (heap_setCell_same _ _ 3 _ _ (.int .i64 (es.length : Nat)) (heap_setCell_same _ _ 2 _ _ (.slice (some ⟨g, 0, none⟩) (P.length + 1) (P.length + 1)) (heap_setCell_same _ _ 1 _ _ (.int .i64 (R.length : Nat)) (heap_setCell_same _ _ 0 _ _ (.string s) hr6))))
          refine bodyPost_ret (v := .agg #[.string s, .int .i64 (R.length : Nat), .slice (some ⟨g, 0, none⟩) (P.length + 1) (P.length + 1), .int .i64 (es.length : Nat), .int .i64 (L : Nat)]) (results_cell_row Tryz.results97 _ _ w.heap.size 87 _ (0, 0) _ rfl h2 Tryz.underlying87 rfl (by kernel_rfl)) rfl ⟨g, by omega, by rw [HSP.out.1, HSP.out.2], ?_, ?_⟩
          · rw [← HSP.out.2]
            exact hir.kept (kept_five w6 w.heap.size _ _ _ _ _) (fun e => by omega)
          · exact hkw.trans (kept_five w6 w.heap.size _ _ _ _ _) (fun j h1 h2 => by omega)

end Go.Proofs.YtegnkfdbmmndaaaGreat
end
