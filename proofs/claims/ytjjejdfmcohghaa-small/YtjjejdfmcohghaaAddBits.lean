/- Bits and numbers that are added to a row of bits. -/
import Derived.Test.YtjjejdfmcohghaaSet
import Derived.Laws.BytesArg
namespace Go.Proofs.Ytjjejdfmcohghaa
open Go.RowKit

theorem bk_trans {pb : Nat} {v v' : Value} {w w1 w2 : World} (h : Kept (Bk pb v) w w1) (hm : Moved w v v') (h2 : Kept (Bk pb v') w1 w2) : Kept (Bk pb v) w w2 :=
  h.trans h2 fun j hj hb => by
    rcases hb with hb | hb
    · exact .inl hb
    · rcases hm j hb with x | x
      · exact .inr x
      · omega

set_option maxHeartbeats 400000 in
theorem len_any (T pb : Nat) (v : Value) (bits : List Bool) (w : World) (h : BitsAt w T pb v bits) :
    Calls Try.prog 41 #[.pointer (some ⟨pb, 0, none⟩)] w fun e w' => e = .returned (.int .i64 (bits.length : Nat)) ∧ w = w' := by
  have hc1 : w.cell? ⟨pb, 1, none⟩ = some (.int .i64 (bits.length : Nat)) := cell_of_row _ _ 1 _ _ _ h.blk
  clear h
  go_enter Try.func41, Try.ntmps41
  go_wp2
  go_ret
  exact ⟨rfl, rfl⟩

set_option maxHeartbeats 400000 in
theorem add_any (T pb : Nat) (v : Value) (bits : List Bool) (b : Bool) (w : World) (h : BitsAt w T pb v bits) (hl : bits.length ≤ 900000) :
    Calls Try.prog 45 #[.pointer (some ⟨pb, 0, none⟩), .bool b] w fun e w' => ∃ v', e = .returned (.tuple #[]) ∧ BitsAt w' T pb v' (bits ++ [b]) ∧ Kept (Bk pb v) w w' ∧ Moved w v v' := by
  have hg := grow_any T pb v bits 1 w h (by omega) (by omega)
  clear h
  go_enter Try.func45, Try.ntmps45
  go_wp2_with fail
  refine hg.mono ?_
  rintro e w1 ⟨v1, rfl, hb1, hk1, hm1⟩
  have hs := set_any T pb v1 (bits ++ List.replicate 1 false) bits.length w1 hb1 (by simp; omega) (by simp)
  rw [show (bits ++ List.replicate 1 false).set bits.length true = bits ++ [true] from Hm.set_snoc bits true] at hs
  have hc1 : w1.cell? ⟨pb, 1, none⟩ = some (.int .i64 ((bits.length : Int) + 1)) := by
    rw [cell_of_row _ _ 1 _ _ _ hb1.blk]; simp
  cases b with
  | false =>
    clear hs hc1 hg
    go_wp2
    go_end0
    exact ⟨v1, rfl, hb1, hk1, hm1⟩
  | true =>
    clear hg
    go_wp2_with fail
    refine hs.mono ?_
    rintro e w2 ⟨rfl, hb2, hk2⟩
    go_wp2
    go_end0
    exact ⟨v1, rfl, hb2, bk_trans hk1 hm1 hk2, hm1⟩

namespace Hm
def numBits (x k : Nat) : List Bool := (List.range k).map fun i => decide (x / 2 ^ i % 2 = 1)
theorem numBits_length (x k : Nat) : (numBits x k).length = k := by simp [numBits]
theorem numBits_succ (x k : Nat) : numBits x (k + 1) = numBits x k ++ [decide (x / 2 ^ k % 2 = 1)] := by simp [numBits, List.range_succ]
theorem and_bit (y : Nat) (hy : y < 4294967296) : (Go.bits .and .i64 (y : Int) 1 == 1) = decide (y % 2 = 1) := by
  have h : Go.bits .and .i64 (y : Int) 1 = ((y % 2 : Nat) : Int) := by
    show IntKind.i64.wrap ((BitVec.ofInt 64 (y : Int) &&& BitVec.ofInt 64 1).toNat : Int) = _
    rw [BitVec.toNat_and, BitVec.ofInt_natCast, BitVec.toNat_ofNat, Nat.mod_eq_of_lt (by omega : y < 2 ^ 64), show (BitVec.ofInt 64 1).toNat = 1 from rfl, Nat.and_one_is_mod]
    have := Nat.mod_lt y (y := 2) (by omega)
    rw [IntKind.wrap_i64]; omega
  rw [h]
  by_cases e : y % 2 = 1
  · simp [e]
  · have : y % 2 = 0 := by omega
    simp [this]
end Hm

set_option maxHeartbeats 400000 in
theorem addNum_any (T pb : Nat) (v : Value) (bits : List Bool) (x k : Nat) (w : World) (h : BitsAt w T pb v bits) (hl : bits.length ≤ 800000) (hx : x < 4294967296) (hk : k ≤ 60) :
    Calls Try.prog 40 #[.pointer (some ⟨pb, 0, none⟩), .int .i64 x, .int .i64 k] w fun e w' => ∃ v', e = .returned (.tuple #[]) ∧ BitsAt w' T pb v' (bits ++ Hm.numBits x k) ∧ Kept (Bk pb v) w w' ∧ Moved w v v' := by
  go_enter Try.func40, Try.ntmps40
  go_wp2
  go_loopw [8] (fun i wr => ∃ (j : Nat) (v' : Value), j ≤ k ∧ i = .int .i64 j ∧ BitsAt wr T pb v' (bits ++ Hm.numBits x j) ∧ Kept (Bk pb v) w wr ∧ Moved w v v') (fun i _ => k - (intOf i).toNat)
  case atStart => exact ⟨0, v, Nat.zero_le _, rfl, by simpa [Hm.numBits] using h, Kept.refl _ _, Moved.refl _ _⟩
  case round =>
    obtain ⟨j, v', hj, rfl, hb, hkr, hmr⟩ := hrel
    have hll : (bits ++ Hm.numBits x j).length ≤ 900000 := by simp [Hm.numBits_length]; omega
    by_cases hlt : j < k
    · obtain ⟨y, hy, hsh, HY⟩ : ∃ y : Nat, y < 4294967296 ∧ (x : Int) / 2 ^ j = (y : Int) ∧ Hid (y = x / 2 ^ j) := by
        refine ⟨x / 2 ^ j, Nat.lt_of_le_of_lt (Nat.div_le_self _ _) hx, ?_, rfl⟩
        simp
      clear h
      go_wp2_with fail
      refine (add_any T pb v' _ _ wr hb hll).mono ?_
      rintro e w1 ⟨v1, rfl, hb1, hk1, hm1⟩
      go_wp2
      go_roundw
      case rel =>
        refine ⟨j + 1, v1, by omega, by go_num, ?_, bk_trans hkr hmr hk1, hmr.trans hm1 hkr.size⟩
        rw [Hm.numBits_succ, ← HY.out, ← Hm.and_bit y hy, ← List.append_assoc]
        exact hb1
      case measure => simp [intOf]; omega
    · clear h
      go_wp2
      go_end0
      obtain rfl : j = k := by omega
      exact ⟨v', rfl, hb, hkr, hmr⟩

end Go.Proofs.Ytjjejdfmcohghaa
