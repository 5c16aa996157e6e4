/- How long the parts of an archive are: plain counting. -/
import Derived.Test.YtjjejdfmcohghaaColumn
import Derived.Test.YtjjejdfmcohghaaMakeSamples
import Derived.Test.YtjjejdfmcohghaaRoot
import Derived.Test.YtjjejdfmcohghaaJoin
namespace Go.Proofs.Ytjjejdfmcohghaa
namespace Hm

theorem range_pos (n : Nat) : ((List.range (n + 1)).filter fun p => decide (0 < p)).length = n := by
  induction n with
  | zero => rfl
  | succ n ih => rw [List.range_succ, List.filter_append, List.length_append, ih]; simp
theorem range_eights (n : Nat) : ((List.range (n + 1)).filter fun p => decide (p % 8 = 0)).length = n / 8 + 1 := by
  induction n with
  | zero => rfl
  | succ n ih =>
    rw [List.range_succ, List.filter_append, List.length_append, ih]
    by_cases h : (n + 1) % 8 = 0
    · simp [h]; omega
    · simp [h]; omega
theorem colOf_length {s : List UInt8} {ps : List Nat} (h : ps.Perm (List.range (s.length + 1))) : (colOf s ps).length = s.length := by
  unfold colOf
  rw [List.length_map, (h.filter _).length_eq, range_pos]
theorem colOf_all {s : List UInt8} {ps : List Nat} (cn : Nat) (hs : ∀ b ∈ s, b.toNat = cn) (h : ps.Perm (List.range (s.length + 1))) : ∀ b ∈ colOf s ps, b.toNat = cn := by
  intro b hb
  unfold colOf at hb
  obtain ⟨p, hp, rfl⟩ := List.mem_map.1 hb
  have hp2 := List.mem_filter.1 hp
  have h0 : 0 < p := by simpa using hp2.2
  have h1 := h.subset hp2.1
  have h2 : p < s.length + 1 := by simpa using h1
  rw [List.getD_eq_getElem?_getD, List.getElem?_eq_getElem (by omega)]
  exact hs _ (List.getElem_mem _)
theorem sampBits_length (ps : List Nat) (wd : Nat) : (sampBits ps wd).length = (ps.filter fun p => decide (p % 8 = 0)).length * wd := by
  unfold sampBits
  generalize (ps.filter fun p => decide (p % 8 = 0)) = l
  induction l with
  | nil => simp
  | cons p r ih => rw [List.flatMap_cons, List.length_append, numBits_length, ih, List.length_cons, Nat.add_mul]; omega
theorem samples_length {n : Nat} {ps : List Nat} (h : ps.Perm (List.range (n + 1))) : (samples ps).length = n + 1 + (n / 8 + 1) * Lib.bitLen (n / 8) := by
  have hl : ps.length = n + 1 := by have := h.length_eq; simpa using this
  unfold samples
  rw [List.length_append, List.length_map, sampBits_length, (h.filter _).length_eq, range_eights, hl, Nat.add_sub_cancel]
theorem endsBits_length (es : List Nat) (n : Nat) : (endsBits es n).length = es.length * lowW es.length n + (es.length + n / 2 ^ lowW es.length n + 1) := by
  unfold endsBits
  rw [endSets_length, List.length_append, endLow_length, List.length_replicate]
theorem idx_nat {n : Nat} {ps : List Nat} (h : ps.Perm (List.range (n + 1))) : ∃ r : Nat, Lib.idxOf (ps.map fun x : Nat => (x : Int)) 0 = (r : Int) ∧ r ≤ n := by
  have hl : ps.length = n + 1 := by have := h.length_eq; simpa using this
  have hmem : 0 ∈ ps := h.symm.subset (by simp)
  have hk : ps.findIdx (fun x => x == 0) < ps.length := List.findIdx_lt_length_of_exists ⟨0, hmem, by simp⟩
  have hz : ps[ps.findIdx (fun x => x == 0)] = 0 := by
    have := List.findIdx_getElem (p := fun x : Nat => x == 0) (xs := ps) (w := hk)
    simpa using this
  refine ⟨ps.findIdx (fun x => x == 0), ?_, by omega⟩
  have hh := Lib.idxOf_hit (ps.map fun x : Nat => (x : Int)) ps.length (ps.findIdx (fun x => x == 0)) 0 hk (by simp)
    (by simp [List.getD_eq_getElem?_getD, hk, hz])
    (fun j hj => by
      have hjl : j < ps.length := by omega
      have hne := List.not_of_lt_findIdx hj
      simp [List.getD_eq_getElem?_getD, hjl]
      simpa using hne)
  rw [show (ps.map fun x : Nat => (x : Int)).take ps.length = ps.map fun x : Nat => (x : Int) from List.take_of_length_le (by simp)] at hh
  exact hh

end Hm
end Go.Proofs.Ytjjejdfmcohghaa
