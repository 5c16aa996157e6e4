import Derived.Test.YtegnkfdbmmndaaaJ01

/- Pairs -/
section
/- Rows of pairs that a call has made; ranks that are paired up. -/
namespace Go.Proofs.Ytegnkfdbmmndaaa
open Go.RowKit

theorem info_pair : (Try.prog.info? 80).map (fun i => (i.zero, i.size, i.bytes)) = some (some (.agg #[.int .i64 0, .int .i64 0]), 2, 16) := by kernel_rfl

def pcells : List (Nat × Nat) → List Value
  | [] => []
  | p :: r => .int .i64 (p.1 : Nat) :: .int .i64 (p.2 : Nat) :: pcells r
theorem pcells_length (l : List (Nat × Nat)) : (pcells l).length = l.length * 2 := by
  induction l with
  | nil => rfl
  | cons p r ih => simp [pcells, ih]; omega
theorem pcells_fst (l : List (Nat × Nat)) : ∀ i, (h : i < l.length) → (pcells l)[i * 2]? = some (.int .i64 (l[i].1 : Nat)) := by
  induction l with
  | nil => intro i h; simp at h
  | cons p r ih =>
    intro i h
    cases i with
    | zero => rfl
    | succ i =>
      have := ih i (by simpa using h)
      rw [show (i + 1) * 2 = i * 2 + 1 + 1 from by omega]
      simpa [pcells] using this
theorem pcells_snd (l : List (Nat × Nat)) : ∀ i, (h : i < l.length) → (pcells l)[i * 2 + 1]? = some (.int .i64 (l[i].2 : Nat)) := by
  induction l with
  | nil => intro i h; simp at h
  | cons p r ih =>
    intro i h
    cases i with
    | zero => rfl
    | succ i =>
      have := ih i (by simpa using h)
      rw [show (i + 1) * 2 + 1 = i * 2 + 1 + 1 + 1 from by omega]
      simpa [pcells] using this
theorem pcells_set1 (l : List (Nat × Nat)) (x : Nat) : ∀ i, (h : i < l.length) → (pcells l).set (i * 2) (.int .i64 (x : Nat)) = pcells (l.set i (x, l[i].2)) := by
  induction l with
  | nil => intro i h; simp at h
  | cons p r ih =>
    intro i h
    cases i with
    | zero => rfl
    | succ i =>
      have := ih i (by simpa using h)
      rw [show (i + 1) * 2 = i * 2 + 1 + 1 from by omega]
      simp [pcells, this]
theorem pcells_set2 (l : List (Nat × Nat)) (x : Nat) : ∀ i, (h : i < l.length) → (pcells l).set (i * 2 + 1) (.int .i64 (x : Nat)) = pcells (l.set i (l[i].1, x)) := by
  induction l with
  | nil => intro i h; simp at h
  | cons p r ih =>
    intro i h
    cases i with
    | zero => rfl
    | succ i =>
      have := ih i (by simpa using h)
      rw [show (i + 1) * 2 + 1 = i * 2 + 1 + 1 + 1 from by omega]
      simp [pcells, this]
/-- Block g is a row of these pairs. -/
def PairRow (w : World) (g : Nat) (l : List (Nat × Nat)) : Prop := w.heap[g]? = some (.cells (pcells l).toArray 80 (0, 0))
theorem PairRow.fst {w : World} {g : Nat} {l : List (Nat × Nat)} (h : PairRow w g l) {i : Nat} (hi : i < l.length) : w.cell? ⟨g, i * 2, none⟩ = some (.int .i64 (l[i].1 : Nat)) := by
  rw [cell_of_row _ _ _ _ _ _ h]; simpa using pcells_fst l i hi
theorem PairRow.snd {w : World} {g : Nat} {l : List (Nat × Nat)} (h : PairRow w g l) {i : Nat} (hi : i < l.length) : w.cell? ⟨g, i * 2 + 1, none⟩ = some (.int .i64 (l[i].2 : Nat)) := by
  rw [cell_of_row _ _ _ _ _ _ h]; simpa using pcells_snd l i hi
theorem PairRow.free {w : World} {g : Nat} {l : List (Nat × Nat)} (h : PairRow w g l) (i : Nat) : w.frozen? ⟨g, i, none⟩ = false := frozen_of_row _ _ i _ _ h
theorem PairRow.set1 {w : World} {g : Nat} {l : List (Nat × Nat)} (h : PairRow w g l) (i x : Nat) (hi : i < l.length) : PairRow (w.setCell ⟨g, i * 2, none⟩ (.int .i64 (x : Nat))) g (l.set i (x, l[i].2)) := by
  have h2 := heap_setCell_same w g (i * 2) _ _ (.int .i64 (x : Nat)) h
  unfold PairRow
  rw [h2, ← pcells_set1 l x i hi]
  congr 2
  apply Array.ext'
  simp
theorem PairRow.set2 {w : World} {g : Nat} {l : List (Nat × Nat)} (h : PairRow w g l) (i x : Nat) (hi : i < l.length) : PairRow (w.setCell ⟨g, i * 2 + 1, none⟩ (.int .i64 (x : Nat))) g (l.set i (l[i].1, x)) := by
  have h2 := heap_setCell_same w g (i * 2 + 1) _ _ (.int .i64 (x : Nat)) h
  unfold PairRow
  rw [h2, ← pcells_set2 l x i hi]
  congr 2
  apply Array.ext'
  simp
theorem PairRow.lt {w : World} {g : Nat} {l : List (Nat × Nat)} (h : PairRow w g l) : g < w.heap.size := lt_of_block h
theorem PairRow.kept {S : Nat → Prop} {w w' : World} {g : Nat} {l : List (Nat × Nat)} (h : PairRow w g l) (hk : Kept S w w') (hn : ¬ S g) : PairRow w' g l := hk.row h hn
theorem made_pairs (n : Nat) : (madeCells (Value.agg #[.int .i64 0, .int .i64 0]).cells (n * 2)).toList = pcells (List.replicate n (0, 0)) := by
  have hl : (pcells (List.replicate n (0, 0))).length = n * 2 := by rw [pcells_length]; simp
  apply List.ext_getElem
  · rw [hl]; simp [madeCells]
  · intro i h1 h2
    have hz : (Value.agg #[.int .i64 0, .int .i64 0]).cells = #[.int .i64 0, .int .i64 0] := rfl
    have e1 : (madeCells (Value.agg #[.int .i64 0, .int .i64 0]).cells (n * 2)).toList[i] = .int .i64 0 := by
      simp [madeCells, hz]
      rcases Nat.mod_two_eq_zero_or_one i with h | h <;> simp [h]
    rw [e1]
    have hil : i < n * 2 := by omega
    rcases Nat.mod_two_eq_zero_or_one i with h | h
    · have h3 := pcells_fst (List.replicate n (0, 0)) (i / 2) (by simp; omega)
      rw [show i / 2 * 2 = i from by omega, List.getElem?_eq_getElem h2] at h3
      simp at h3; exact h3.symm
    · have h3 := pcells_snd (List.replicate n (0, 0)) (i / 2) (by simp; omega)
      rw [show i / 2 * 2 + 1 = i from by omega, List.getElem?_eq_getElem h2] at h3
      simp at h3; exact h3.symm
theorem PairRow.made {w' : World} {g n : Nat} {base : Nat} (h : w'.ownsRow base 80 2 (.slice (some ⟨g, 0, none⟩) n n) n (madeCells (Value.agg #[.int .i64 0, .int .i64 0]).cells (n * 2)).toList) : PairRow w' g (List.replicate n (0, 0)) := by
  rcases h.2 with ⟨h1, _⟩ | ⟨g2, cap, cur, h1, _, hg, _, _, hs, ht⟩
  · cases h1
  · cases h1
    unfold PairRow
    rw [hg]
    congr 2
    apply Array.ext'
    have e : cur.toList.take (n * 2) = cur.toList := List.take_of_length_le (by simp; omega)
    rw [← e, ht, made_pairs]

namespace Hm
def pairOf (l : List Nat) (wd i : Nat) : Nat × Nat := (l.getD i 0, l.getD (i + wd) 0)
def pairsOf (l : List Nat) (wd : Nat) : List (Nat × Nat) := (List.range l.length).map (pairOf l wd)
def pairsTo (l : List Nat) (wd k : Nat) : List (Nat × Nat) := (List.range l.length).map fun i => if i < k then pairOf l wd i else (0, 0)
theorem pairsTo_length (l : List Nat) (wd k : Nat) : (pairsTo l wd k).length = l.length := by simp [pairsTo]
theorem pairsOf_length (l : List Nat) (wd : Nat) : (pairsOf l wd).length = l.length := by simp [pairsOf]
theorem pairsTo_zero (l : List Nat) (wd : Nat) : pairsTo l wd 0 = List.replicate l.length (0, 0) := by
  apply List.ext_getElem <;> simp [pairsTo]
theorem pairsTo_all (l : List Nat) (wd : Nat) : pairsTo l wd l.length = pairsOf l wd := by
  apply List.ext_getElem
  · simp [pairsTo, pairsOf]
  · intro i h1 h2
    have : i < l.length := by simpa [pairsTo] using h1
    simp [pairsTo, pairsOf, this]
theorem pairsTo_get (l : List Nat) (wd k i : Nat) (h : i < (pairsTo l wd k).length) : (pairsTo l wd k)[i] = if i < k then pairOf l wd i else (0, 0) := by simp [pairsTo]
theorem pairsTo_succ (l : List Nat) (wd k : Nat) (_h : k < l.length) : pairsTo l wd (k + 1) = (pairsTo l wd k).set k (pairOf l wd k) := by
  apply List.ext_getElem
  · simp [pairsTo]
  · intro i h1 h2
    rw [List.getElem_set, pairsTo_get, pairsTo_get]
    by_cases e : k = i
    · subst e; simp
    · rw [if_neg e]
      by_cases h3 : i < k
      · rw [if_pos h3, if_pos (by omega)]
      · rw [if_neg h3, if_neg (by omega)]
end Hm

set_option maxHeartbeats 1000000 in
theorem pairUp_any (g0 c : Nat) (l : List Nat) (wd : Nat) (w : World) (hr0 : IntRow w g0 l) (hl : l.length ≤ 6001) (hw : wd ≤ 6000) (hx : ∀ x ∈ l, x ≤ 1000000) :
    Calls Try.prog 26 #[.slice (some ⟨g0, 0, none⟩) l.length c, .int .i64 wd] w fun e w' => e = .returned (.slice (some ⟨w.heap.size, 0, none⟩) l.length l.length) ∧ PairRow w' w.heap.size (Hm.pairsOf l wd) ∧ Kept (fun _ => False) w w' := by
  obtain ⟨i0, hi, hz0, hz1, hz2⟩ := info_parts info_pair
  have hg0 := hr0.lt
  go_enter Try.func26, Try.ntmps26
  go_wp2_with (at_make; refine wpList_make_full _ rfl (.tmp 9) (.tmp 9) 76 rfl w.heap.size 80 i0 (.agg #[.int .i64 0, .int .i64 0]) 2 Try.underlying76 hi hz0 hz1 .i64 .i64 _ _ l.length rfl rfl rfl rfl (by rw [hz2]; omega) (by unfold maxLen; omega) (Nat.le_refl _) ?_; intro w1 ho1 hg1)
  have hr1 : PairRow w1 w.heap.size (Hm.pairsTo l wd 0) := by rw [Hm.pairsTo_zero]; exact PairRow.made ho1
  have hk1 : Kept (fun _ => False) w w1 := (Kept.refl _ _).grown hg1 (fun k hk => by cases hk)
  clear ho1 hg1
  go_loopw [13] (fun i wr => ∃ k : Nat, k ≤ l.length ∧ i = .int .i64 k ∧ PairRow wr w.heap.size (Hm.pairsTo l wd k) ∧ Kept (fun _ => False) w wr) (fun i _ => l.length - (intOf i).toNat)
  case atStart => exact ⟨0, Nat.zero_le _, rfl, hr1, hk1⟩
  case round =>
    clear hr1 hk1
    obtain ⟨k, hk, rfl, hr, hkr⟩ := hrel
    by_cases hlt : k < l.length
    · have hlr := Hm.pairsTo_length l wd k
      have hc := (hr0.kept hkr id).cell hlt
      have hd1 := hr.fst (i := k) (by omega)
      have hd2 := hr.snd (i := k) (by omega)
      have hf1 := hr.free (k * 2)
      have hf2 := hr.free (k * 2 + 1)
      have hgz := Hm.pairsTo_get l wd k k (by omega)
      rw [if_neg (by omega)] at hgz
      rw [hgz] at hd1 hd2
      have HS := hr.set1 k l[k] (by omega)
      rw [hgz] at HS
      have hnq : ¬ g0 = w.heap.size := by omega
      by_cases hin : k + wd < l.length
      · have hc2 := (hr0.kept hkr id).cell hin
        have HS2 := HS.set2 k l[k + wd] (by simp; omega)
        have e : ((Hm.pairsTo l wd k).set k (l[k], 0)).set k ((((Hm.pairsTo l wd k).set k (l[k], 0))[k]'(by simp; omega)).1, l[k + wd]) = Hm.pairsTo l wd (k + 1) := by
          rw [Hm.pairsTo_succ _ _ _ hlt]; simp [Hm.pairOf, hlt, hin]
        rw [e] at HS2
        have H2 : Hid (PairRow _ w.heap.size (Hm.pairsTo l wd (k + 1))) := HS2
        have hx1 := hx l[k] (List.getElem_mem _)
        have hx2 := hx l[k + wd] (List.getElem_mem _)
        generalize l[k] = x1 at *
        generalize l[k + wd] = x2 at *
        have hdec : decide ((k : Int) + (wd : Int) < (l.length : Int)) = true := by simp; omega
        clear HS HS2 hr hlr hgz e hr0 hx
        go_wp2
        go_roundw
        case rel => exact ⟨k + 1, by omega, by go_num, H2.out, (hkr.setCell (.inl (Nat.le_refl _)) _).setCell (.inl (Nat.le_refl _)) _⟩
        case measure => simp [intOf]; omega
      · have e : (Hm.pairsTo l wd k).set k (l[k], 0) = Hm.pairsTo l wd (k + 1) := by
          rw [Hm.pairsTo_succ _ _ _ hlt]; simp [Hm.pairOf, hlt, hin]
        rw [e] at HS
        have H2 : Hid (PairRow _ w.heap.size (Hm.pairsTo l wd (k + 1))) := HS
        have hx1 := hx l[k] (List.getElem_mem _)
        generalize l[k] = x1 at *
        have hdec : decide ((k : Int) + (wd : Int) < (l.length : Int)) = false := by simp; omega
        clear HS hr hlr hgz e hr0 hx
        go_wp2
        go_roundw
        case rel => exact ⟨k + 1, by omega, by go_num, H2.out, hkr.setCell (.inl (Nat.le_refl _)) _⟩
        case measure => simp [intOf]; omega
    · go_wp2
      go_ret
      obtain rfl : k = l.length := by omega
      rw [Hm.pairsTo_all] at hr
      exact ⟨rfl, hr, hkr⟩

end Go.Proofs.Ytegnkfdbmmndaaa
end
