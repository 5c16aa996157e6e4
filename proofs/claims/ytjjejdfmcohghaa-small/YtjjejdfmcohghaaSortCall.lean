/- What the library's sort does to the row of places. -/
import Derived.Test.YtjjejdfmcohghaaClosure
namespace Go.Proofs.Ytjjejdfmcohghaa
open Go.RowKit Go.Sort Go.Shelf

namespace Hm
/-- The pairs at two places, compared. -/
def cmpAt (prs : List (Nat × Nat)) (i j : Nat) : Int := cmpP (prs.getD i (0, 0)) (prs.getD j (0, 0))
/-- No later place comes ahead of an earlier one. -/
def InOrder (prs : List (Nat × Nat)) (ps : List Nat) : Prop := ∀ i j, i < j → j < ps.length → ¬ cmpAt prs (ps.getD j 0) (ps.getD i 0) < 0
def ltP (p q : Nat × Nat) : Prop := p.1 < q.1 ∨ (p.1 = q.1 ∧ p.2 < q.2)
theorem cmpP_neg (p q : Nat × Nat) : cmpP p q < 0 ↔ ltP p q := by
  obtain ⟨a, b⟩ := p
  obtain ⟨c, d⟩ := q
  unfold cmpP orI ltP Lib.compareInt
  simp only
  rcases Nat.lt_trichotomy a c with h | h | h
  · have h1 : (a : Int) < c := by omega
    simp [h, h1]
  · subst h
    have h1 : ¬ (a : Int) < a := by omega
    rcases Nat.lt_trichotomy b d with k | k | k
    · have k1 : (b : Int) < d := by omega
      simp [k, k1]
    · subst k
      simp
    · have k1 : ¬ (b : Int) < d := by omega
      have k2 : (d : Int) < b := by omega
      simp [k1, k2]; omega
  · have h1 : ¬ (a : Int) < c := by omega
    have h2 : (c : Int) < a := by omega
    simp [h1, h2]; omega
end Hm

theorem swo_pairs (n : Nat) (prs : List (Nat × Nat)) : SWO (ltOf fun x y : Fin (n + 1) => Hm.cmpAt prs x.val y.val) := by
  have key : ∀ x y : Fin (n + 1), ltOf (fun x y : Fin (n + 1) => Hm.cmpAt prs x.val y.val) x y = true ↔ Hm.ltP (prs.getD x.val (0, 0)) (prs.getD y.val (0, 0)) := by
    intro x y
    unfold ltOf Hm.cmpAt
    rw [decide_eq_true_iff]
    exact Hm.cmpP_neg (prs.getD x.val (0, 0)) (prs.getD y.val (0, 0))
  have keyF : ∀ x y : Fin (n + 1), ltOf (fun x y : Fin (n + 1) => Hm.cmpAt prs x.val y.val) x y = false ↔ ¬ Hm.ltP (prs.getD x.val (0, 0)) (prs.getD y.val (0, 0)) := by
    intro x y
    rw [← key x y]; simp
  refine ⟨fun x => ?_, fun x y z h1 h2 => ?_, fun x y z h1 h2 => ?_⟩
  · rw [keyF]; unfold Hm.ltP; omega
  · rw [key] at *; unfold Hm.ltP at *; omega
  · rw [keyF] at *; unfold Hm.ltP at *; omega

/-- Blocks other than the row's are in a world of the sort's as they were. -/
theorem sortWorld_other {α : Type} [Inhabited α] (enc : α → Value) (w : World) (blk off m : Nat) (d : Array α) (os : Array Obj) (k : Nat) (hk : k < w.heap.size) (hne : k ≠ blk) : (sortWorld enc w blk off m d os).heap[k]? = w.heap[k]? := by
  show ((putRow enc (Sort.ahead w m) blk off d).heap ++ os)[k]? = _
  rw [Array.getElem?_append_left (by rw [size_putRow]; exact hk)]
  show (w.heap.modify blk _)[k]? = _
  rw [Array.getElem?_modify, if_neg (fun e => hne e.symm)]

theorem sortWorld_row {α : Type} [Inhabited α] (enc : α → Value) (w : World) (blk m : Nat) (d : Array α) (os : Array Obj) (c : Array Value) (t : TypeId) (hc : w.heap[blk]? = some (.cells c t (0, 0))) (hs : c.size = d.size) :
    (sortWorld enc w blk 0 m d os).heap[blk]? = some (.cells (d.map enc) t (0, 0)) := by
  show ((putRow enc (Sort.ahead w m) blk 0 d).heap ++ os)[blk]? = _
  rw [Array.getElem?_append_left (by rw [size_putRow]; exact lt_of_block hc)]
  show (w.heap.modify blk _)[blk]? = _
  rw [Array.getElem?_modify, if_pos rfl, hc]
  simp only [Option.map_some, onCells]
  congr 2
  unfold putCells
  apply Array.ext
  · simp [hs]
  · intro i h1 h2
    have hi : i < d.size := by simpa using h2
    simp [hi]

theorem kept_sortWorld {α : Type} [Inhabited α] (enc : α → Value) (w : World) (blk off m : Nat) (d : Array α) (os : Array Obj) : Kept (fun j => j = blk) w (sortWorld enc w blk off m d os) := by
  refine ⟨rfl, rfl, rfl, ?_, fun k hk hn => sortWorld_other enc w blk off m d os k hk hn⟩
  show _ ≤ ((putRow enc (Sort.ahead w m) blk off d).heap ++ os).size
  rw [Array.size_append, size_putRow]
  show w.heap.size ≤ w.heap.size + os.size
  omega

theorem sortCall_any (n pb gp gq c cq : Nat) (ps : List Nat) (prs : List (Nat × Nat)) (w : World) (hp : IntRow w gp ps) (hq : PairRow w gq prs) (hb : w.cell? ⟨pb, 0, none⟩ = some (.slice (some ⟨gq, 0, none⟩) prs.length cq))
    (hl : ps.length = n + 1) (hpl : prs.length = n + 1) (hn : n ≤ 6000) (hx : ∀ x ∈ ps, x < n + 1) (h1 : gp ≠ gq) (h2 : gp ≠ pb) :
    Calls Try.prog 28 #[.slice (some ⟨gp, 0, none⟩) ps.length c, .func (.func 29) #[] #[.pointer (some ⟨pb, 0, none⟩)]] w fun e w' =>
      e = .returned (.tuple #[]) ∧ ∃ ps' : List Nat, ps'.Perm ps ∧ Hm.InOrder prs ps' ∧ IntRow w' gp ps' ∧ Kept (fun j => j = gp) w w' := by
  have hd : ∀ x ∈ ps, ((Fin.ofNat (n + 1) x).val) = x := fun x hxm => by simp [Fin.ofNat]; exact hx x hxm
  have hdl : ((ps.map (Fin.ofNat (n + 1))).toArray).size = ps.length := by simp
  have hmap : (ps.map (Fin.ofNat (n + 1))).map Fin.val = ps := by
    rw [List.map_map]
    conv => rhs; rw [← List.map_id ps]
    exact List.map_congr_left fun x hxm => hd x hxm
  have hpb : pb < w.heap.size := World.block_lt_of_cell? _ _ hb
  have hS := Any.slices_SortFunc Try.sortL (fun x : Fin (n + 1) => Value.int .i64 (x.val : Nat)) (fun _ => rfl) (fun x y : Fin (n + 1) => Hm.cmpAt prs x.val y.val) (swo_pairs n prs) 29 #[.pointer (some ⟨pb, 0, none⟩)] gp 0 c (ps.map (Fin.ofNat (n + 1))).toArray w
    (enters_of Try.func29 (by kernel_rfl) rfl)
    (fun m os dk hs x y => by
      have hcl := closure_any pb gq cq prs x.val y.val (sortWorld (fun x : Fin (n + 1) => Value.int .i64 (x.val : Nat)) w gp 0 m dk os)
        (by rw [World.cell?_of_block (sortWorld_other _ w gp 0 m dk os pb hpb (fun e => h2 e.symm))]; exact hb)
        (by unfold PairRow; rw [sortWorld_other _ w gp 0 m dk os gq hq.lt (fun e => h1 e.symm)]; exact hq) (by omega) (by omega) (by omega)
      refine hcl.mono fun e w' ⟨he, hg⟩ => ⟨?_, hg⟩
      rw [he]
      have hxl : x.val < prs.length := by omega
      have hyl : y.val < prs.length := by omega
      simp [Hm.cmpAt, hxl, hyl])
    (fun j hj => by
      have hjl : j < ps.length := by rw [hdl] at hj; exact hj
      refine ⟨?_, by simpa using hp.free j⟩
      rw [Nat.zero_add, hp.cell hjl, getElem!_pos _ j hj]
      simp only [List.getElem_toArray, List.getElem_map]
      rw [hd _ (List.getElem_mem _)])
    hp.lt (by rw [hdl]; omega)
  rw [hdl] at hS
  change Calls Try.prog 28 _ _ _ at hS
  refine hS.mono fun e w' ⟨he, d', m, os, hperm, hsort, hw⟩ => ⟨he, d'.toList.map Fin.val, ?_, ?_, ?_, ?_⟩
  · have h3 := hperm.2.2
    have e1 : (d'.extract 0 ps.length).toList = d'.toList := by
      rw [show ps.length = d'.size from by rw [hperm.1, hdl]]; simp
    have e2 : ((ps.map (Fin.ofNat (n + 1))).toArray.extract 0 ps.length).toList = ps.map (Fin.ofNat (n + 1)) := by
      have e3 : ps.length = (ps.map (Fin.ofNat (n + 1))).length := by simp
      rw [e3]
      simp only [List.extract_toArray, List.extract_eq_take_drop, List.drop_zero, Nat.sub_zero, List.take_length]
    rw [e1, e2] at h3
    have h4 := h3.map Fin.val
    rw [hmap] at h4
    exact h4
  · intro i j hij hj
    have hjd : j < d'.size := by simpa using hj
    have hid : i < d'.size := by omega
    have h3 := hsort i j (Nat.zero_le _) hij (by rw [← hdl, ← hperm.1]; exact hjd)
    unfold ltOf at h3
    rw [getElem!_pos _ j hjd, getElem!_pos _ i hid] at h3
    have h5 := of_decide_eq_false h3
    have ej : (d'.toList.map Fin.val).getD j 0 = d'[j].val := by simp [List.getD_eq_getElem?_getD, hjd]
    have ei : (d'.toList.map Fin.val).getD i 0 = d'[i].val := by simp [List.getD_eq_getElem?_getD, hid]
    rw [ej, ei]
    exact h5
  · rw [hw]
    unfold IntRow
    rw [sortWorld_row _ w gp m d' os _ _ hp (by rw [hperm.1, hdl]; simp [icells])]
    congr 2
    apply Array.ext'
    simp [icells]
  · rw [hw]; exact kept_sortWorld _ w gp 0 m d' os

end Go.Proofs.Ytjjejdfmcohghaa
