/- The sum CRC-32 as plain arithmetic. -/
import Derived.Laws.BitsAllLaws
namespace Go.Proofs.Ytjjejdfmcohghaa
namespace Hm

def crcShift (s : Nat) : Nat := if s % 2 = 1 then (s / 2) ^^^ 3988292384 else s / 2
def crcTimes : Nat → Nat → Nat
  | 0, s => s
  | k + 1, s => crcShift (crcTimes k s)
def crcByte (s b : Nat) : Nat := crcTimes 8 (s ^^^ b)
def crcRun (l : List UInt8) : Nat := l.foldl (fun s b => crcByte s b.toNat) 4294967295
def crc (l : List UInt8) : Nat := crcRun l ^^^ 4294967295

theorem xor_lt32 {a b : Nat} (ha : a < 4294967296) (hb : b < 4294967296) : a ^^^ b < 4294967296 := by
  have := Nat.xor_lt_two_pow (n := 32) (x := a) (y := b) (by omega) (by omega)
  omega
theorem crcShift_lt {s : Nat} (h : s < 4294967296) : crcShift s < 4294967296 := by
  unfold crcShift
  split
  · exact xor_lt32 (by omega) (by omega)
  · omega
theorem crcTimes_lt (k : Nat) {s : Nat} (h : s < 4294967296) : crcTimes k s < 4294967296 := by
  induction k with
  | zero => exact h
  | succ k ih => exact crcShift_lt ih
theorem crcByte_lt {s b : Nat} (h : s < 4294967296) (hb : b < 4294967296) : crcByte s b < 4294967296 := crcTimes_lt 8 (xor_lt32 h hb)
theorem crcFold_lt (l : List UInt8) : ∀ s, s < 4294967296 → l.foldl (fun s b => crcByte s b.toNat) s < 4294967296 := by
  induction l with
  | nil => intro s h; exact h
  | cons b l ih =>
    intro s h
    exact ih _ (crcByte_lt h (by have := b.toNat_lt; omega))
theorem crcRun_lt (l : List UInt8) : crcRun l < 4294967296 := crcFold_lt l _ (by omega)
theorem crc_lt (l : List UInt8) : crc l < 4294967296 := xor_lt32 (crcRun_lt l) (by omega)
theorem crcRun_snoc (l : List UInt8) (b : UInt8) : crcRun (l ++ [b]) = crcByte (crcRun l) b.toNat := by
  simp [crcRun, List.foldl_append]
theorem crcRun_take (l : List UInt8) (k : Nat) (h : k < l.length) : crcRun (l.take (k + 1)) = crcTimes 8 (crcRun (l.take k) ^^^ l[k].toNat) := by
  rw [List.take_succ_eq_append_getElem h, crcRun_snoc]; rfl

end Hm
end Go.Proofs.Ytjjejdfmcohghaa
