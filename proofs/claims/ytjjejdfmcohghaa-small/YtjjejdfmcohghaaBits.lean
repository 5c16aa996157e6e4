/- Rows of bits in bytes, as plain lists. -/
import Derived.Laws.BitsAllLaws
namespace Go.Proofs.Ytjjejdfmcohghaa
namespace Hm

def byte8 (f : Nat → Bool) : Nat := (f 0).toNat + 2 * (f 1).toNat + 4 * (f 2).toNat + 8 * (f 3).toNat + 16 * (f 4).toNat + 32 * (f 5).toNat + 64 * (f 6).toNat + 128 * (f 7).toNat
theorem byte8_lt (f : Nat → Bool) : byte8 f < 256 := by
  have h : ∀ b : Bool, b.toNat ≤ 1 := fun b => by cases b <;> decide
  have := h (f 0); have := h (f 1); have := h (f 2); have := h (f 3); have := h (f 4); have := h (f 5); have := h (f 6); have := h (f 7)
  unfold byte8; omega
theorem byte8_zero (f : Nat → Bool) (h : ∀ j, j < 8 → f j = false) : byte8 f = 0 := by
  unfold byte8; rw [h 0 (by omega), h 1 (by omega), h 2 (by omega), h 3 (by omega), h 4 (by omega), h 5 (by omega), h 6 (by omega), h 7 (by omega)]; rfl
theorem byte8_congr (f g : Nat → Bool) (h : ∀ j, j < 8 → f j = g j) : byte8 f = byte8 g := by
  unfold byte8; rw [h 0 (by omega), h 1 (by omega), h 2 (by omega), h 3 (by omega), h 4 (by omega), h 5 (by omega), h 6 (by omega), h 7 (by omega)]
def byteB (a b c d e f g h : Bool) : Nat := a.toNat + 2 * b.toNat + 4 * c.toNat + 8 * d.toNat + 16 * e.toNat + 32 * f.toNat + 64 * g.toNat + 128 * h.toNat
theorem or0 : ∀ a b c d e f g h, byteB a b c d e f g h ||| 1 = byteB true b c d e f g h := by decide
theorem or1 : ∀ a b c d e f g h, byteB a b c d e f g h ||| 2 = byteB a true c d e f g h := by decide
theorem or2 : ∀ a b c d e f g h, byteB a b c d e f g h ||| 4 = byteB a b true d e f g h := by decide
theorem or3 : ∀ a b c d e f g h, byteB a b c d e f g h ||| 8 = byteB a b c true e f g h := by decide
theorem or4 : ∀ a b c d e f g h, byteB a b c d e f g h ||| 16 = byteB a b c d true f g h := by decide
theorem or5 : ∀ a b c d e f g h, byteB a b c d e f g h ||| 32 = byteB a b c d e true g h := by decide
theorem or6 : ∀ a b c d e f g h, byteB a b c d e f g h ||| 64 = byteB a b c d e f true h := by decide
theorem or7 : ∀ a b c d e f g h, byteB a b c d e f g h ||| 128 = byteB a b c d e f g true := by decide
theorem byte8_or (f : Nat → Bool) (j : Nat) (hj : j < 8) : byte8 f ||| 2 ^ j = byte8 (fun k => if k = j then true else f k) := by
  show byteB (f 0) (f 1) (f 2) (f 3) (f 4) (f 5) (f 6) (f 7) ||| 2 ^ j = _
  match j, hj with
  | 0, _ => exact or0 _ _ _ _ _ _ _ _
  | 1, _ => exact or1 _ _ _ _ _ _ _ _
  | 2, _ => exact or2 _ _ _ _ _ _ _ _
  | 3, _ => exact or3 _ _ _ _ _ _ _ _
  | 4, _ => exact or4 _ _ _ _ _ _ _ _
  | 5, _ => exact or5 _ _ _ _ _ _ _ _
  | 6, _ => exact or6 _ _ _ _ _ _ _ _
  | 7, _ => exact or7 _ _ _ _ _ _ _ _

def byteN (bits : List Bool) (i : Nat) : Nat := byte8 fun j => bits.getD (8 * i + j) false
def packBits (bits : List Bool) : List UInt8 := (List.range ((bits.length + 7) / 8)).map fun i => UInt8.ofNat (byteN bits i)
theorem packBits_length (bits : List Bool) : (packBits bits).length = (bits.length + 7) / 8 := by simp [packBits]
theorem byteN_lt (bits : List Bool) (i : Nat) : byteN bits i < 256 := byte8_lt _
theorem packBits_get (bits : List Bool) (i : Nat) (h : i < (packBits bits).length) : (packBits bits)[i] = UInt8.ofNat (byteN bits i) := by simp [packBits]
theorem getD_grow (bits : List Bool) (c k : Nat) : (bits ++ List.replicate c false).getD k false = bits.getD k false := by
  simp only [List.getD_eq_getElem?_getD]
  by_cases h : k < bits.length
  · rw [List.getElem?_append_left h]
  · rw [List.getElem?_append_right (by omega), List.getElem?_eq_none (by omega : bits.length ≤ k)]
    by_cases h2 : k - bits.length < c
    · rw [List.getElem?_replicate_of_lt h2]; rfl
    · rw [List.getElem?_eq_none (by simp; omega)]
theorem packBits_grow (bits : List Bool) (c : Nat) : packBits (bits ++ List.replicate c false) = packBits bits ++ List.replicate ((bits.length + c + 7) / 8 - (bits.length + 7) / 8) 0 := by
  apply List.ext_getElem
  · simp [packBits_length]; omega
  · intro i h1 h2
    have hl : i < (bits.length + c + 7) / 8 := by simpa [packBits_length] using h1
    rw [packBits_get]
    by_cases h : i < (bits.length + 7) / 8
    · rw [List.getElem_append_left (by rw [packBits_length]; exact h), packBits_get]
      congr 1
      exact byte8_congr _ _ fun j hj => getD_grow bits c _
    · rw [List.getElem_append_right (by rw [packBits_length]; omega), List.getElem_replicate]
      have : byteN (bits ++ List.replicate c false) i = 0 := byte8_zero _ fun j hj => by
        rw [getD_grow]
        simp only [List.getD_eq_getElem?_getD]
        rw [List.getElem?_eq_none (by omega)]; rfl
      rw [this]; rfl
theorem getD_set (bits : List Bool) (at_ k : Nat) (h : at_ < bits.length) : (bits.set at_ true).getD k false = if k = at_ then true else bits.getD k false := by
  simp only [List.getD_eq_getElem?_getD, List.getElem?_set]
  by_cases e : at_ = k
  · subst e; simp [h]
  · rw [if_neg e, if_neg (fun x => e x.symm)]
theorem packBits_set (bits : List Bool) (at_ : Nat) (h : at_ < bits.length) : packBits (bits.set at_ true) = (packBits bits).set (at_ / 8) (UInt8.ofNat (byteN bits (at_ / 8) ||| 2 ^ (at_ % 8))) := by
  apply List.ext_getElem
  · simp [packBits_length]
  · intro i h1 h2
    have hl : i < (bits.length + 7) / 8 := by simpa [packBits_length] using h1
    rw [packBits_get, List.getElem_set]
    by_cases e : at_ / 8 = i
    · rw [if_pos e, e]
      congr 1
      rw [byteN, byteN, byte8_or _ _ (by omega)]
      refine byte8_congr _ _ fun j hj => ?_
      rw [getD_set _ _ _ h]
      by_cases e2 : j = at_ % 8
      · rw [if_pos (by omega), if_pos e2]
      · rw [if_neg (by omega), if_neg e2]
    · rw [if_neg e, packBits_get]
      congr 1
      refine byte8_congr _ _ fun j hj => ?_
      rw [getD_set _ _ _ h, if_neg (by omega)]
theorem set_snoc (bits : List Bool) (b : Bool) : (bits ++ [false]).set bits.length b = bits ++ [b] := by
  simp

end Hm
end Go.Proofs.Ytjjejdfmcohghaa
