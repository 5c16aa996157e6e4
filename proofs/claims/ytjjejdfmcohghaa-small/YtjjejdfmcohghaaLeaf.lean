/- The small functions of the program that call nothing: what each hands back. -/
import Derived.Test.YtjjejdfmcohghaaRows
import Derived.Test.YtjjejdfmcohghaaCrc
import Derived.WalkKit
import Derived.WalkSpells
import Derived.WalkLawsBesides
namespace Go.Proofs.Ytjjejdfmcohghaa
open Go.RowKit

set_option maxHeartbeats 400000 in
theorem pick_any (c n : Int) (w : World) (hc1 : -9223372036854775808 ≤ c) (hc2 : c ≤ 9223372036854775807) (hn : 1 ≤ n) (hn2 : n ≤ 1000000) :
    Calls Try.prog 4 #[.int .i64 c, .int .i64 n] w fun e w' => (∃ r : Int, e = .returned (.int .i64 r) ∧ 0 ≤ r ∧ r < n) ∧ w' = w := by
  by_cases h : c < 0
  · go_enter Try.func4, Try.ntmps4
    go_wp2
    go_ret
    have e : -(c + 1).tmod n = (-(c + 1)) % n := by rw [← Int.neg_tmod, Int.tmod_eq_emod_of_nonneg (by omega)]
    refine ⟨⟨_, rfl, ?_⟩, rfl⟩
    rw [e]
    exact ⟨Int.emod_nonneg _ (by omega), Int.emod_lt_of_pos _ (by omega)⟩
  · go_enter Try.func4, Try.ntmps4
    go_wp2
    go_ret
    exact ⟨⟨_, rfl, Int.emod_nonneg _ (by omega), Int.emod_lt_of_pos _ (by omega)⟩, rfl⟩

theorem and1_u32 (s : Nat) (h : s < 4294967296) : bits .and .u32 (s : Int) 1 = ((s % 2 : Nat) : Int) := by
  have := u32_and_nat s 1 h (by omega)
  rw [Nat.and_one_is_mod] at this
  exact this

set_option maxHeartbeats 400000 in
theorem sum_any (b off n c : Nat) (bs : List UInt8) (w : World) (hn : n = bs.length) (hb : n ≤ 1000000) (hc : ∀ j, j < n → w.cell? ⟨b, off + j, none⟩ = some (.int .u8 (bs.getD j 0).toNat)) :
    Calls Try.prog 22 #[.slice (some ⟨b, off, none⟩) n c] w fun e w' => e = .returned (.int .u32 (Hm.crc bs : Nat)) ∧ w' = w := by
  have HN : Hid (n = bs.length) := hn
  have hn' : n ≤ bs.length := by omega
  clear hn
  go_enter Try.func22, Try.ntmps22
  go_wp2
  go_loop [3, 9] (fun s i => ∃ k : Nat, k ≤ n ∧ i = .int .i64 k ∧ s = .int .u32 (Hm.crcRun (bs.take k) : Nat)) (fun _ i => n - (intOf i).toNat)
  case atStart => exact ⟨0, Nat.zero_le _, rfl, rfl⟩
  case round =>
    obtain ⟨k, hk, rfl, rfl⟩ := hrel
    have hlr := Hm.crcRun_lt (bs.take k)
    by_cases hlt : k < n
    · obtain ⟨y, hcell, hby, HT⟩ : ∃ y : Nat, w.cell? ⟨b, off + k, none⟩ = some (.int .u8 (y : Int)) ∧ y < 256 ∧ Hid (Hm.crcRun (bs.take (k + 1)) = Hm.crcTimes 8 (Hm.crcRun (bs.take k) ^^^ y)) := by
        have hkl : k < bs.length := by omega
        refine ⟨bs[k].toNat, ?_, bs[k].toNat_lt, Hm.crcRun_take bs k hkl⟩
        rw [hc k hlt]; simp [hkl]
      clear hc
      generalize Hm.crcRun (bs.take k) = r0 at hlr HT ⊢
      have hxor : bits .xor .u32 (r0 : Int) (y : Int) = ((r0 ^^^ y : Nat) : Int) := u32_xor_nat _ _ hlr (by omega)
      go_wp2
      go_loop [3, 17] (fun s i => ∃ j : Nat, j ≤ 8 ∧ i = .int .i64 j ∧ s = .int .u32 (Hm.crcTimes j (r0 ^^^ y) : Nat)) (fun _ i => 8 - (intOf i).toNat)
      case atStart => exact ⟨0, Nat.zero_le _, rfl, rfl⟩
      case round =>
        obtain ⟨j, hj, rfl, rfl⟩ := hrel
        have hst : Hm.crcTimes j (r0 ^^^ y) < 4294967296 := Hm.crcTimes_lt j (Hm.xor_lt32 hlr (by omega))
        have HS : Hid (Hm.crcTimes (j + 1) (r0 ^^^ y) = Hm.crcShift (Hm.crcTimes j (r0 ^^^ y))) := rfl
        by_cases hlt8 : j < 8
        · generalize Hm.crcTimes j (r0 ^^^ y) = s0 at hst HS ⊢
          have ha := and1_u32 s0 hst
          have hx2 : bits .xor .u32 ((s0 : Int) / 2) 3988292384 = ((s0 / 2 ^^^ 3988292384 : Nat) : Int) := u32_xor_nat (s0 / 2) 3988292384 (by omega) (by omega)
          go_wp2
          · go_round
            case rel =>
              have hb1 : ((s0 : Int) % 2 == 1) = true := by assumption
              have hb2 : s0 % 2 = 1 := by simp at hb1; omega
              refine ⟨j + 1, by omega, by go_num, ?_⟩
              rw [HS.out, Hm.crcShift, if_pos hb2]
            case measure => simp [intOf]; omega
          · go_round
            case rel =>
              have hb1 : ((s0 : Int) % 2 == 1) = false := by assumption
              have hb2 : ¬ s0 % 2 = 1 := by simp at hb1; omega
              refine ⟨j + 1, by omega, by go_num, ?_⟩
              rw [HS.out, Hm.crcShift, if_neg hb2]; go_num
            case measure => simp [intOf]; omega
        · go_wp2
          go_round
          case rel =>
            obtain rfl : j = 8 := by omega
            exact ⟨k + 1, by omega, by go_num, by rw [HT.out]⟩
          case measure => simp [intOf]; omega
    · have hx3 : bits .xor .u32 (Hm.crcRun (bs.take k) : Int) 4294967295 = ((Hm.crcRun (bs.take k) ^^^ 4294967295 : Nat) : Int) := u32_xor_nat _ 4294967295 hlr (by omega)
      clear hc
      go_wp2
      go_ret
      refine ⟨?_, rfl⟩
      have hkn : bs.take k = bs := List.take_of_length_le (by have := HN.out; omega)
      rw [hkn]; rfl

end Go.Proofs.Ytjjejdfmcohghaa
