import Derived.Test.YtegnkfdbmmndaaaGreatJ04
import Derived.Lib.ConvBytes
import Derived.BigQuiet

/- LoadB -/
section
/- A number is read. -/
namespace Go.Proofs.YtegnkfdbmmndaaaGreat
open Go.RowKit

theorem i64_or_nat (a b : Nat) (ha : a < 9223372036854775808) (hb : b < 9223372036854775808) : bits .or .i64 (a : Int) (b : Int) = ((a ||| b : Nat) : Int) := by
  have hx : a ||| b < 2 ^ 63 := Nat.or_lt_two_pow (by omega) (by omega)
  have h1 : (BitVec.ofInt 64 (a : Int)).toNat = a := by rw [BitVec.ofInt_natCast, BitVec.toNat_ofNat]; exact Nat.mod_eq_of_lt (by omega)
  have h2 : (BitVec.ofInt 64 (b : Int)).toNat = b := by rw [BitVec.ofInt_natCast, BitVec.toNat_ofNat]; exact Nat.mod_eq_of_lt (by omega)
  show IntKind.i64.wrap ((BitVec.ofInt 64 (a : Int) ||| BitVec.ofInt 64 (b : Int)).toNat : Int) = _
  rw [BitVec.toNat_or, h1, h2, IntKind.wrap_i64]
  omega
theorem wrap_shift (b k : Nat) (h : b * 2 ^ k < 9223372036854775808) : wrap64 ((b : Int) * 2 ^ k) = ((b * 2 ^ k : Nat) : Int) := by
  have e : ((b * 2 ^ k : Nat) : Int) = (b : Int) * 2 ^ k := by simp
  rw [← e]
  generalize b * 2 ^ k = y at *
  unfold wrap64
  omega

namespace Hm
theorem or_shift (a b k : Nat) (h : a < 2 ^ k) : a ||| b * 2 ^ k = a + b * 2 ^ k := by
  rw [Nat.mul_comm b, Nat.or_comm, ← Nat.two_pow_add_eq_or_of_lt h, Nat.add_comm]
theorem leNum_take (l : List UInt8) (k : Nat) (h : k < l.length) : leNum (l.take (k + 1)) = leNum (l.take k) + l[k].toNat * 2 ^ (8 * k) := by
  rw [List.take_add_one, leNum_append, List.getElem?_eq_getElem h]
  have e : (l.take k).length = k := by simp; omega
  have e2 : (256 : Nat) ^ k = 2 ^ (8 * k) := by rw [Nat.pow_mul]
  simp only [Option.toList, leNum, e, e2, Nat.mul_zero, Nat.add_zero]
  rw [Nat.mul_comm]
end Hm

set_option maxHeartbeats 1000000 in
theorem number_any (p : Nat) (st : Hm.Rd) (k : Nat) (w : World) (hr : RdAt w p st) (hl : Hm.restLen st ≤ 4611686018427387904) (hk : k ≤ 4) :
    Calls Tryz.prog 65 #[.pointer (some ⟨p, 0, none⟩), .int .i64 k] w fun e w' => e = .returned (.int .i64 ((Hm.numO st k).1 : Nat)) ∧ RdAt w' p (Hm.numO st k).2 ∧ Kept (fun j => j = p) w w' := by
  have ht := take_any p st k w hr hl (by omega)
  have hTl := Hm.takeO_length st k
  unfold Hm.numO
  obtain ⟨T, hT⟩ : ∃ T, T = (Hm.takeO st k).1 := ⟨_, rfl⟩
  rw [← hT] at ht hTl ⊢
  have hp := hr.lt
  obtain ⟨S, hS⟩ : ∃ S, S = (⟨T.toArray⟩ : ByteArray) := ⟨_, rfl⟩
  have hSz : S.size = T.length := by rw [hS]; show T.toArray.size = _; simp
  have hSl : S.data.toList = T := by rw [hS]
  rw [← hS] at ht
  have hcv := fun W => Lib.run_convert_string_bytes (P := Tryz.prog) W 9 79 5 S Tryz.underlying9 Tryz.underlying79 Tryz.underlying5
  rw [hSz] at hcv
  clear hT hS hr
  go_enter Tryz.func65, Tryz.ntmps65
  go_wp2_with fail
  refine ht.mono ?_
  rintro e w1 ⟨rfl, hr1, hk1⟩
  have hcw := hcv w1
  obtain ⟨cp, hcp⟩ : ∃ c, c = grownCap w1 T.length 0 5 := ⟨_, rfl⟩
  rw [← hcp] at hcw
  have HC : Hid (∀ j, (h : j < T.length) → (Lib.bytesWorld w1 5 S).cell? ⟨w1.heap.size, j, none⟩ = some (.int .u8 (T[j].toNat : Nat))) := fun j h => by
    rw [Lib.bytesWorld_cell w1 5 S j (by omega), hSl, List.getD_eq_getElem?_getD, List.getElem?_eq_getElem h]; rfl
  have hk2 : Kept (fun _ => False) w1 (Lib.bytesWorld w1 5 S) :=
    ⟨rfl, rfl, rfl, by rw [Lib.bytesWorld_size]; omega, fun k hk _ => Lib.bytesWorld_at_old w1 _ S k hk⟩
  have H1 : Hid (RdAt (Lib.bytesWorld w1 5 S) p (Hm.takeO st k).2 ∧ Kept (fun j => j = p) w (Lib.bytesWorld w1 5 S)) :=
    ⟨hr1.kept hk2 id, hk1.trans hk2 (fun _ _ h => h.elim)⟩
  obtain ⟨W, hW⟩ : ∃ W, W = Lib.bytesWorld w1 5 S := ⟨_, rfl⟩
  rw [← hW] at hcw HC H1
  clear hcv hcp hW hr1 hk1 hk2 ht
  go_wp2_with fail
  try rw [hcw]
  go_wp2_with fail
  go_loopw [5, 13] (fun vn vi wr => ∃ j : Nat, j ≤ T.length ∧ vi = .int .i64 j ∧ vn = .int .i64 (Hm.leNum (T.take j) : Nat) ∧ wr = W) (fun _ vi _ => T.length - (intOf vi).toNat)
  case atStart => exact ⟨0, by omega, rfl, rfl, rfl⟩
  case round =>
    obtain ⟨j, hj, rfl, rfl, rfl⟩ := hrel
    by_cases hlt : j < T.length
    · have hc := HC.out j hlt
      have hb := T[j].toNat_lt
      have hlb := Hm.leNum_lt (T.take j)
      have hjl : (T.take j).length = j := by simp; omega
      rw [hjl, show (256 : Nat) ^ j = 2 ^ (8 * j) from by rw [Nat.pow_mul]] at hlb
      have HT : Hid (Hm.leNum (T.take (j + 1)) = Hm.leNum (T.take j) + T[j].toNat * 2 ^ (8 * j)) := Hm.leNum_take T j hlt
      obtain ⟨b, hbe⟩ : ∃ b, b = T[j].toNat := ⟨_, rfl⟩
      obtain ⟨a, hae⟩ : ∃ a, a = Hm.leNum (T.take j) := ⟨_, rfl⟩
      rw [← hbe] at hc hb HT
      rw [← hae] at hlb HT ⊢
      have hpw : (2 : Nat) ^ (8 * j) ≤ 16777216 := Nat.pow_le_pow_right (n := 2) (i := 8 * j) (j := 24) (by omega) (by omega)
      have hbm : b * 2 ^ (8 * j) ≤ 255 * 16777216 := Nat.mul_le_mul (by omega) hpw
      have HSH : Hid (wrap64 ((b : Int) * 2 ^ (8 * j)) = ((b * 2 ^ (8 * j) : Nat) : Int)) := wrap_shift b (8 * j) (Nat.lt_of_le_of_lt hbm (by decide))
      have HOR : Hid (bits .or .i64 (a : Int) ((b * 2 ^ (8 * j) : Nat) : Int) = ((a + b * 2 ^ (8 * j) : Nat) : Int)) := by
        show _ = _
        rw [i64_or_nat _ _ (Nat.lt_of_lt_of_le hlb (Nat.le_trans hpw (by decide))) (Nat.lt_of_le_of_lt hbm (by decide)), Hm.or_shift _ _ _ hlb]
      clear hpw hbm hlb
      clear hae hbe hjl
      go_wp2_with fail
      exact ⟨⟨j + 1, by omega, by go_num, by rw [HSH.out, HOR.out, HT.out], trivial⟩, by simp [intOf]; omega⟩
    · obtain rfl : j = T.length := by omega
      go_wp2_with fail
      go_ret
      rw [List.take_length]
      exact ⟨rfl, H1.out.1, H1.out.2⟩

end Go.Proofs.YtegnkfdbmmndaaaGreat
end

/- LoadC -/
section
/- A bit, a number in bits, where a one stands. -/
namespace Go.Proofs.YtegnkfdbmmndaaaGreat
open Go.RowKit

namespace Hm
/-- The number that stands in k bits from a on. -/
def numAt (f : Nat → Bool) (a : Nat) : Nat → Nat
  | 0 => 0
  | k + 1 => numAt f a k + (f (a + k)).toNat * 2 ^ k
theorem numAt_lt (f : Nat → Bool) (a : Nat) : ∀ k, numAt f a k < 2 ^ k
  | 0 => by simp [numAt]
  | k + 1 => by
    have h1 := numAt_lt f a k
    have h2 : (f (a + k)).toNat * 2 ^ k ≤ 1 * 2 ^ k := Nat.mul_le_mul (toNat_le1 _) (Nat.le_refl _)
    rw [numAt, Nat.pow_succ]
    omega
end Hm

theorem and_bit_u8 (y : Nat) (hy : y < 256) : Go.bits .and .u8 (y : Int) 1 = ((y % 2 : Nat) : Int) := by
  have h1 : (BitVec.ofInt 8 (y : Int)).toNat = y := by rw [BitVec.ofInt_natCast, BitVec.toNat_ofNat]; exact Nat.mod_eq_of_lt (by omega)
  show IntKind.u8.wrap ((BitVec.ofInt 8 (y : Int) &&& BitVec.ofInt 8 1).toNat : Int) = _
  rw [BitVec.toNat_and, h1]
  have h2 : (BitVec.ofInt 8 1).toNat = 1 := by decide
  rw [h2, Nat.and_one_is_mod]
  have : y % 2 < 2 := Nat.mod_lt _ (by omega)
  simp [IntKind.wrap, IntKind.signed, IntKind.bits]
  omega

set_option maxHeartbeats 400000 in
theorem bit_any (pb o p : Nat) (s : ByteArray) (w : World) (h : w.cell? ⟨pb, o, none⟩ = some (.string s)) (hp : p < 8 * s.size) (hs : s.size ≤ 100000000) :
    Calls Tryz.prog 123 #[.pointer (some ⟨pb, o, none⟩), .int .i64 p] w fun e w' => e = .returned (.int .i64 ((Hm.bitB s.data.toList p).toNat : Nat)) ∧ w' = w := by
  obtain ⟨q, hq⟩ : ∃ q, q = p / 8 := ⟨_, rfl⟩
  obtain ⟨r, hr⟩ : ∃ r, r = p % 8 := ⟨_, rfl⟩
  have zq : (p : Int) / 8 = (q : Int) := by omega
  have zr : (p : Int) % 8 = (r : Int) := by omega
  have hqs : q < s.size := by omega
  have hr8 : r < 8 := by omega
  have hg : s.data.toList.getD q 0 = s[q] := by
    rw [List.getD_eq_getElem?_getD, List.getElem?_eq_getElem (by simpa using hqs)]; rfl
  have HB : Hid ((Hm.bitB s.data.toList p).toNat = s[q].toNat / 2 ^ r % 2) := by
    show _ = _
    unfold Hm.bitB
    rw [← hq, ← hr, hg]
    rcases Nat.mod_two_eq_zero_or_one (s[q].toNat / 2 ^ r) with h | h <;> rw [h] <;> rfl
  have hbl := s[q].toNat_lt
  obtain ⟨b, hb⟩ : ∃ b, b = s[q].toNat := ⟨_, rfl⟩
  rw [← hb] at HB hbl
  have hdl : b / 2 ^ r < 256 := Nat.lt_of_le_of_lt (Nat.div_le_self _ _) hbl
  have hand := and_bit_u8 (b / 2 ^ r) hdl
  have HAND : Hid _ := hand
  clear hq hr hg hand
  go_enter Tryz.func123, Tryz.ntmps123
  go_wp2
  go_ret
  refine ⟨?_, rfl⟩
  show Ending.returned (.int .i64 (wrap64 (Go.bits .and .u8 ((s[q].toNat : Int) / 2 ^ r) 1))) = _
  have e1 : (s[q].toNat : Int) / 2 ^ r = ((b / 2 ^ r : Nat) : Int) := by rw [hb]; simp
  have e2 : wrap64 ((b / 2 ^ r % 2 : Nat) : Int) = ((b / 2 ^ r % 2 : Nat) : Int) := by unfold wrap64; omega
  rw [e1, HAND.out, HB.out, e2]

set_option maxHeartbeats 1000000 in
theorem numberAt_any (pb o a k : Nat) (s : ByteArray) (w : World) (h : w.cell? ⟨pb, o, none⟩ = some (.string s)) (hp : a + k ≤ 8 * s.size) (hs : s.size ≤ 100000000) (hk : k ≤ 40) :
    Calls Tryz.prog 128 #[.pointer (some ⟨pb, o, none⟩), .int .i64 a, .int .i64 k] w fun e w' => e = .returned (.int .i64 (Hm.numAt (Hm.bitB s.data.toList) a k : Nat)) ∧ w' = w := by
  have HB : Hid (∀ p, p < 8 * s.size → Calls Tryz.prog 123 #[.pointer (some ⟨pb, o, none⟩), .int .i64 (p : Nat)] w fun e w' => e = .returned (.int .i64 ((Hm.bitB s.data.toList p).toNat : Nat)) ∧ w' = w) := fun p hp => bit_any pb o p s w h hp hs
  clear h
  go_enter Tryz.func128, Tryz.ntmps128
  go_wp2
  go_loopw [7, 10] (fun vn vi wr => ∃ j : Nat, j ≤ k ∧ vi = .int .i64 j ∧ vn = .int .i64 (Hm.numAt (Hm.bitB s.data.toList) a j : Nat) ∧ wr = w) (fun _ vi _ => k - (intOf vi).toNat)
  case atStart => exact ⟨0, by omega, rfl, rfl, rfl⟩
  case round =>
    obtain ⟨j, hj, rfl, rfl, rfl⟩ := hrel
    by_cases hlt : j < k
    · have hbit := HB.out (a + j) (by omega)
      have hlb := Hm.numAt_lt (Hm.bitB s.data.toList) a j
      have hpw : (2 : Nat) ^ j ≤ 1099511627776 := Nat.pow_le_pow_right (n := 2) (i := j) (j := 40) (by omega) (by omega)
      have hb1 := Hm.toNat_le1 (Hm.bitB s.data.toList (a + j))
      have HT : Hid (Hm.numAt (Hm.bitB s.data.toList) a (j + 1) = Hm.numAt (Hm.bitB s.data.toList) a j + (Hm.bitB s.data.toList (a + j)).toNat * 2 ^ j) := rfl
      obtain ⟨b, hbe⟩ : ∃ b, b = (Hm.bitB s.data.toList (a + j)).toNat := ⟨_, rfl⟩
      obtain ⟨x, hxe⟩ : ∃ x, x = Hm.numAt (Hm.bitB s.data.toList) a j := ⟨_, rfl⟩
      rw [← hbe] at hbit hb1 HT
      rw [← hxe] at hlb HT ⊢
      have hbm : b * 2 ^ j ≤ 1 * 1099511627776 := Nat.mul_le_mul hb1 hpw
      have HSH : Hid (wrap64 ((b : Int) * 2 ^ j) = ((b * 2 ^ j : Nat) : Int)) := wrap_shift b j (Nat.lt_of_le_of_lt hbm (by decide))
      have HOR : Hid (Go.bits .or .i64 (x : Int) ((b * 2 ^ j : Nat) : Int) = ((x + b * 2 ^ j : Nat) : Int)) := by
        show _ = _
        rw [i64_or_nat _ _ (Nat.lt_of_lt_of_le hlb (Nat.le_trans hpw (by decide))) (Nat.lt_of_le_of_lt hbm (by decide)), Hm.or_shift _ _ _ hlb]
      clear hbe hxe hbm hpw hlb hb1
      go_wp2_with fail
      refine hbit.mono ?_
      rintro e w1 ⟨rfl, rfl⟩
      go_wp2_with fail
      exact ⟨⟨j + 1, by omega, by go_num, by rw [HSH.out, HOR.out, HT.out], trivial⟩, by simp [intOf]; omega⟩
    · obtain rfl : j = k := by omega
      go_wp2_with fail
      go_ret
      exact ⟨rfl, rfl⟩

end Go.Proofs.YtegnkfdbmmndaaaGreat
end
