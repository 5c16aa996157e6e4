import Derived.Test.YtegnkfdbmmndaaaGreatJ04
import Derived.BigQuiet

/- LoadC -/
section
/- A bit, a number in bits, where a one stands. -/
namespace Go.Proofs.YtegnkfdbmmndaaaGreat
open Go.RowKit

namespace Hm
/-- The number that stands in k bits from a on. -/
def numAt (f : Nat → Bool) (a : Nat) : Nat → Nat
 | 0 => 0
 | k + 1 => numAt f a k + (f (a + k)).toNat * 2 ^ k
theorem numAt_lt (f : Nat → Bool) (a : Nat) : ∀ k, numAt f a k < 2 ^ k
 | 0 => by simp [numAt]
 | k + 1 => by
  have h1 := numAt_lt f a k
  have h2 : (f (a + k)).toNat * 2 ^ k ≤ 1 * 2 ^ k := Nat.mul_le_mul (toNat_le1 _) (Nat.le_refl _)
  rw [numAt, Nat.pow_succ]
  omega
end Hm

theorem and_bit_u8 (y : Nat) (hy : y < 256) : Go.bits .and .u8 (y : Int) 1 = ((y % 2 : Nat) : Int) := by
 have h1 : (BitVec.ofInt 8 (y : Int)).toNat = y := by rw [BitVec.ofInt_natCast, BitVec.toNat_ofNat]; exact Nat.mod_eq_of_lt (by omega)
 show IntKind.u8.wrap ((BitVec.ofInt 8 (y : Int) &&& BitVec.ofInt 8 1).toNat : Int) = _
 rw [BitVec.toNat_and, h1]
 have h2 : (BitVec.ofInt 8 1).toNat = 1 := by decide
 rw [h2, Nat.and_one_is_mod]
 have : y % 2 < 2 := Nat.mod_lt _ (by omega)
 simp [IntKind.wrap, IntKind.signed, IntKind.bits]
 omega

set_option maxHeartbeats 400000 in
theorem bit_any (pb o p : Nat) (s : ByteArray) (w : World) (h : w.cell? ⟨pb, o, none⟩ = some (.string s)) (hp : p < 8 * s.size) (hs : s.size ≤ 100000000) :
  Calls Tryz.prog 123 #[.pointer (some ⟨pb, o, none⟩), .int .i64 p] w fun e w' => e = .returned (.int .i64 ((Hm.bitB s.data.toList p).toNat : Nat)) ∧ w' = w := by
 obtain ⟨q, hq⟩ : ∃ q, q = p / 8 := ⟨_, rfl⟩
 obtain ⟨r, hr⟩ : ∃ r, r = p % 8 := ⟨_, rfl⟩
 have zq : (p : Int) / 8 = (q : Int) := by omega
 have zr : (p : Int) % 8 = (r : Int) := by omega
 have hqs : q < s.size := by omega
 have hr8 : r < 8 := by omega
 have hg : s.data.toList.getD q 0 = s[q] := by
  rw [List.getD_eq_getElem?_getD, List.getElem?_eq_getElem (by simpa using hqs)]; rfl
 have HB : Hid ((Hm.bitB s.data.toList p).toNat = s[q].toNat / 2 ^ r % 2) := by
  show _ = _
  unfold Hm.bitB
  rw [← hq, ← hr, hg]
  rcases Nat.mod_two_eq_zero_or_one (s[q].toNat / 2 ^ r) with h | h <;> rw [h] <;> rfl
 have hbl := s[q].toNat_lt
 obtain ⟨b, hb⟩ : ∃ b, b = s[q].toNat := ⟨_, rfl⟩
 rw [← hb] at HB hbl
 have hdl : b / 2 ^ r < 256 := Nat.lt_of_le_of_lt (Nat.div_le_self _ _) hbl
 have hand := and_bit_u8 (b / 2 ^ r) hdl
 have HAND : Hid _ := hand
 clear hq hr hg hand
 go_enter Tryz.func123, Tryz.ntmps123
 go_wp2
 go_ret
 refine ⟨?_, rfl⟩
 show Ending.returned (.int .i64 (wrap64 (Go.bits .and .u8 ((s[q].toNat : Int) / 2 ^ r) 1))) = _
 have e1 : (s[q].toNat : Int) / 2 ^ r = ((b / 2 ^ r : Nat) : Int) := by rw [hb]; simp
 have e2 : wrap64 ((b / 2 ^ r % 2 : Nat) : Int) = ((b / 2 ^ r % 2 : Nat) : Int) := by unfold wrap64; omega
 rw [e1, HAND.out, HB.out, e2]

set_option maxHeartbeats 1000000 in
theorem numberAt_any (pb o a k : Nat) (s : ByteArray) (w : World) (h : w.cell? ⟨pb, o, none⟩ = some (.string s)) (hp : a + k ≤ 8 * s.size) (hs : s.size ≤ 100000000) (hk : k ≤ 40) :
  Calls Tryz.prog 128 #[.pointer (some ⟨pb, o, none⟩), .int .i64 a, .int .i64 k] w fun e w' => e = .returned (.int .i64 (Hm.numAt (Hm.bitB s.data.toList) a k : Nat)) ∧ w' = w := by
 have HB : Hid (∀ p, p < 8 * s.size → Calls Tryz.prog 123 #[.pointer (some ⟨pb, o, none⟩), .int .i64 (p : Nat)] w fun e w' => e = .returned (.int .i64 ((Hm.bitB s.data.toList p).toNat : Nat)) ∧ w' = w) := fun p hp => bit_any pb o p s w h hp hs
 clear h
 go_enter Tryz.func128, Tryz.ntmps128
 go_wp2
 go_loopw [7, 10] (fun vn vi wr => ∃ j : Nat, j ≤ k ∧ vi = .int .i64 j ∧ vn = .int .i64 (Hm.numAt (Hm.bitB s.data.toList) a j : Nat) ∧ wr = w) (fun _ vi _ => k - (intOf vi).toNat)
 case atStart => exact ⟨0, by omega, rfl, rfl, rfl⟩
 case round =>
  obtain ⟨j, hj, rfl, rfl, rfl⟩ := hrel
  by_cases hlt : j < k
  ·have hbit := HB.out (a + j) (by omega)
   have hlb := Hm.numAt_lt (Hm.bitB s.data.toList) a j
   have hpw : (2 : Nat) ^ j ≤ 1099511627776 := Nat.pow_le_pow_right (n := 2) (i := j) (j := 40) (by omega) (by omega)
   have hb1 := Hm.toNat_le1 (Hm.bitB s.data.toList (a + j))
   have HT : Hid (Hm.numAt (Hm.bitB s.data.toList) a (j + 1) = Hm.numAt (Hm.bitB s.data.toList) a j + (Hm.bitB s.data.toList (a + j)).toNat * 2 ^ j) := rfl
   obtain ⟨b, hbe⟩ : ∃ b, b = (Hm.bitB s.data.toList (a + j)).toNat := ⟨_, rfl⟩
   obtain ⟨x, hxe⟩ : ∃ x, x = Hm.numAt (Hm.bitB s.data.toList) a j := ⟨_, rfl⟩
   rw [← hbe] at hbit hb1 HT
   rw [← hxe] at hlb HT ⊢
   have hbm : b * 2 ^ j ≤ 1 * 1099511627776 := Nat.mul_le_mul hb1 hpw
   have HSH : Hid (wrap64 ((b : Int) * 2 ^ j) = ((b * 2 ^ j : Nat) : Int)) := wrap_shift b j (Nat.lt_of_le_of_lt hbm (by decide))
   have HOR : Hid (Go.bits .or .i64 (x : Int) ((b * 2 ^ j : Nat) : Int) = ((x + b * 2 ^ j : Nat) : Int)) := by
    show _ = _
    rw [i64_or_nat _ _ (Nat.lt_of_lt_of_le hlb (Nat.le_trans hpw (by decide))) (Nat.lt_of_le_of_lt hbm (by decide)), Hm.or_shift _ _ _ hlb]
   clear hbe hxe hbm hpw hlb hb1
   go_wp2_with fail
   refine hbit.mono ?_
   rintro e w1 ⟨rfl, rfl⟩
   go_wp2_with fail
   exact ⟨⟨j + 1, by omega, by go_num, by rw [HSH.out, HOR.out, HT.out], trivial⟩, by simp [intOf]; omega⟩
  ·obtain rfl : j = k := by omega
   go_wp2_with fail
   go_ret
   exact ⟨rfl, rfl⟩

end Go.Proofs.YtegnkfdbmmndaaaGreat
end
