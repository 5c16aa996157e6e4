/- The files' ends as a row of bits. -/
import Derived.Test.YtjjejdfmcohghaaPacked
namespace Go.Proofs.Ytjjejdfmcohghaa
open Go.RowKit

namespace Hm
def lowFrom (m n : Nat) : Nat → Nat → Nat
  | 0, j => j
  | f + 1, j => if m * 2 ^ (j + 1) ≤ n then lowFrom m n f (j + 1) else j
def lowW (m n : Nat) : Nat := if m = 0 then 0 else lowFrom m n 14 0
def endLow (es : List Nat) (l : Nat) : List Bool := es.flatMap fun e => numBits e l
def endSets (es : List Nat) (l h : Nat) (R : List Bool) : Nat → List Bool
  | 0 => R
  | k + 1 => (endSets es l h R k).set (h + es.getD k 0 / 2 ^ l + k) true
def endsBits (es : List Nat) (n : Nat) : List Bool :=
  endSets es (lowW es.length n) (endLow es (lowW es.length n)).length (endLow es (lowW es.length n) ++ List.replicate (es.length + n / 2 ^ lowW es.length n + 1) false) es.length
theorem endSets_length (es : List Nat) (l h : Nat) (R : List Bool) (k : Nat) : (endSets es l h R k).length = R.length := by
  induction k with
  | zero => rfl
  | succ k ih => simp [endSets, ih]
theorem endLow_length (es : List Nat) (l : Nat) : (endLow es l).length = es.length * l := by
  induction es with
  | nil => simp [endLow]
  | cons e r ih => simp only [endLow, List.flatMap_cons, List.length_append, numBits_length, List.length_cons] at ih ⊢; rw [ih, Nat.add_mul]; omega
theorem endLow_take (es : List Nat) (l k : Nat) (h : k < es.length) : endLow (es.take (k + 1)) l = endLow (es.take k) l ++ numBits es[k] l := by
  rw [List.take_succ_eq_append_getElem h]; unfold endLow; rw [List.flatMap_append]; congr 1; simp
theorem lowFrom_le (m n : Nat) (hm : 1 ≤ m) (hn : n ≤ 6000) : ∀ f j, j ≤ 12 → lowFrom m n f j ≤ 12 := by
  intro f
  induction f with
  | zero => intro j hj; exact hj
  | succ f ih =>
    intro j hj
    unfold lowFrom
    split
    · rename_i h
      refine ih (j + 1) ?_
      rcases Nat.lt_or_ge j 12 with h1 | h1
      · omega
      · have : j = 12 := by omega
        subst this
        have : 1 * 2 ^ 13 ≤ m * 2 ^ 13 := Nat.mul_le_mul_right _ hm
        omega
    · exact hj
theorem lowW_le (m n : Nat) (hn : n ≤ 6000) : lowW m n ≤ 12 := by
  unfold lowW; split
  · omega
  · exact lowFrom_le m n (by omega) hn 14 0 (by omega)
end Hm

set_option maxHeartbeats 400000 in
theorem lowWidth_any (m n : Nat) (w : World) (hm : m ≤ 1000) (hn : n ≤ 6000) :
    Calls Try.prog 39 #[.int .i64 m, .int .i64 n] w fun e w' => e = .returned (.int .i64 (Hm.lowW m n : Nat)) ∧ w = w' := by
  by_cases h0 : m = 0
  · subst h0
    go_enter Try.func39, Try.ntmps39
    go_wp2
    go_ret
    exact ⟨rfl, rfl⟩
  have HE : Hid (Hm.lowW m n = Hm.lowFrom m n (14 - 0) 0) := by unfold Hm.lowW; rw [if_neg h0]; rfl
  generalize Hm.lowW m n = L at HE ⊢
  have h1 : 1 ≤ m := by omega
  have hb0 : ((m : Int) == 0) = false := by simp; omega
  go_enter Try.func39, Try.ntmps39
  go_wp2
  go_loop [5] (fun i => ∃ j : Nat, j ≤ 12 ∧ i = .int .i64 j ∧ m * 2 ^ j ≤ 6000 + m ∧ L = Hm.lowFrom m n (14 - j) j) (fun i => 14 - (intOf i).toNat)
  case atStart => exact ⟨0, by omega, rfl, by omega, HE.out⟩
  case round =>
    clear HE
    obtain ⟨j, hj, rfl, hp, hL⟩ := hrel
    have HL : Hid (L = if m * 2 ^ (j + 1) ≤ n then Hm.lowFrom m n (13 - j) (j + 1) else j) := by
      show _ = _
      rw [hL, show 14 - j = (13 - j) + 1 from by omega]; rfl
    have e2 : m * 2 ^ (j + 1) = m * 2 ^ j * 2 := by rw [Nat.pow_succ, Nat.mul_assoc]
    obtain ⟨p, hpe, HP⟩ : ∃ p : Nat, (m : Int) * 2 ^ (j + 1) = (p : Int) ∧ Hid (p = m * 2 ^ (j + 1)) := ⟨m * 2 ^ (j + 1), by simp, rfl⟩
    have hpb : p ≤ 14000 := by have := HP.out; omega
    have hj2 : p ≤ n → j < 12 := by
      intro hpn
      rcases Nat.lt_or_ge j 12 with h | h
      · exact h
      · have : j = 12 := by omega
        subst this
        have h3 := HP.out
        have : 1 * 2 ^ 13 ≤ m * 2 ^ 13 := Nat.mul_le_mul_right _ h1
        omega
    have HJ : Hid ((p ≤ n → j < 12) ∧ m * 2 ^ j ≤ 6000 + m) := ⟨hj2, hp⟩
    clear hL hp e2 hj2
    by_cases hpn : p ≤ n
    · go_wp2
      go_round
      case rel =>
        have h3 := HP.out
        refine ⟨j + 1, by have := HJ.out.1 hpn; omega, by go_num, by rw [← h3]; omega, ?_⟩
        rw [HL.out, if_pos (by omega)]
        congr 1; omega
      case measure => simp [intOf]; omega
    · go_wp2
      go_ret
      have h3 := HP.out
      refine ⟨?_, rfl⟩
      have : L = j := by rw [HL.out, if_neg (by omega)]
      rw [this]; rfl

end Go.Proofs.Ytjjejdfmcohghaa
