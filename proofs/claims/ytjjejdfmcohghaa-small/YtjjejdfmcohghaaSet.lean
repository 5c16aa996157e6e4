/- Rows of bits in memory: a bit that is made 1, bits that are added. -/
import Derived.Test.YtjjejdfmcohghaaRow
namespace Go.Proofs.Ytjjejdfmcohghaa
open Go.RowKit

theorem owns_some {w : World} {base : Nat} {e : TypeId} {size : Nat} {v : Value} {n : Nat} {xs : List Value} (h : w.ownsRow base e size v n xs) (hn : 0 < n) : ∃ g cap, v = .slice (some ⟨g, 0, none⟩) n cap ∧ n ≤ cap ∧ g < w.heap.size := by
  rcases h.2 with ⟨rfl, rfl⟩ | ⟨g, cap, cur, rfl, _, hg, hnc, hcm, _⟩
  · omega
  · exact ⟨g, cap, rfl, hnc, lt_of_block hg⟩

theorem Hm.u8cell {x : Nat} (h : x < 256) : Value.int .u8 ((UInt8.ofNat x).toNat : Int) = .int .u8 (x : Int) := by
  rw [UInt8.toNat_ofNat']; congr 2; omega

set_option maxHeartbeats 400000 in
theorem set_any (T pb : Nat) (v : Value) (bits : List Bool) (k : Nat) (w : World) (h : BitsAt w T pb v bits) (hl : bits.length ≤ 2000000) (hk : k < bits.length) :
    Calls Try.prog 43 #[.pointer (some ⟨pb, 0, none⟩), .int .i64 k] w fun e w' => e = .returned (.tuple #[]) ∧ BitsAt w' T pb v (bits.set k true) ∧ Kept (Bk pb v) w w' := by
  have hown := h.own
  obtain ⟨g, cap, hv, hnc, hgw⟩ := owns_some hown (by omega)
  subst hv
  have hc0 : w.cell? ⟨pb, 0, none⟩ = some (.slice (some ⟨g, 0, none⟩) ((bits.length + 7) / 8) cap) := cell_of_row _ _ 0 _ _ _ h.blk
  have hc1 : w.cell? ⟨g, k / 8, none⟩ = some (.int .u8 (Hm.byteN bits (k / 8) : Nat)) := by
    rw [hown.cellAt (k / 8) (by omega)]
    simp only [Hm.bcells, List.getElem?_map]
    rw [List.getElem?_eq_getElem (by rw [Hm.packBits_length]; omega), Hm.packBits_get]
    have := Hm.byteN_lt bits (k / 8)
    simp; omega
  have hf1 : w.frozen? ⟨g, k / 8, none⟩ = false := hown.frozenAt _
  have hby := Hm.byteN_lt bits (k / 8)
  have HS := hown.stored (k / 8) (.int .u8 (Hm.byteN bits (k / 8) ||| 2 ^ (k % 8) : Nat))
  generalize hbb : Hm.byteN bits (k / 8) = y at *
  generalize hnn : (bits.length + 7) / 8 = n at *
  have hkn : (k : Int) / 8 < (n : Int) := by omega
  have HE : Hid (Go.bits .or .u8 (y : Int) ((2 : Int) ^ (k % 8) % 256) = ((y ||| 2 ^ (k % 8) : Nat) : Int)) := by
    have hp : 2 ^ (k % 8) < 256 := Nat.pow_lt_pow_right (a := 2) (by omega) (by omega : k % 8 < 8)
    have e1 : ((2 : Int) ^ (k % 8) % 256) = ((2 ^ (k % 8) : Nat) : Int) := by
      have : ((2 ^ (k % 8) : Nat) : Int) = (2 : Int) ^ (k % 8) := by simp
      rw [← this]; exact Int.emod_eq_of_lt (Int.natCast_nonneg _) (Int.ofNat_lt.2 hp)
    show _ = _
    rw [e1]; exact u8_or_nat _ _ hby hp
  have HR : Hid (BitsAt (w.setCell ⟨g, k / 8, none⟩ (.int .u8 (y ||| 2 ^ (k % 8) : Nat))) T pb (.slice (some ⟨g, 0, none⟩) n cap) (bits.set k true)) := by
    refine ⟨?_, ?_, h.ne⟩
    · have hb := h.blk
      rw [Below.heap_setCell _ _ _ _ (fun e => h.ne (by rw [e]; rfl)), hb]; simp
    · rw [Hm.packBits_set _ _ hk, hbb]
      have e : (bits.set k true).length = bits.length := by simp
      have e2 : Hm.bcells ((Hm.packBits bits).set (k / 8) (UInt8.ofNat (y ||| 2 ^ (k % 8)))) = (Hm.bcells (Hm.packBits bits)).set (k / 8) (.int .u8 (y ||| 2 ^ (k % 8) : Nat)) := by
        have hp : 2 ^ (k % 8) < 256 := Nat.pow_lt_pow_right (a := 2) (by omega) (by omega : k % 8 < 8)
        have ho : y ||| 2 ^ (k % 8) < 2 ^ 8 := Nat.or_lt_two_pow (by omega) (by omega)
        rw [Hm.bcells, List.map_set]
        rw [Hm.u8cell (by omega)]; rfl
      rw [e, hnn, e2]; exact HS.1
  clear h hown HS hbb hnn
  go_enter Try.func43, Try.ntmps43
  go_wp2
  go_region
  go_end0
  rw [HE.out]
  refine ⟨rfl, ?_, ((Kept.refl _ _).setCell (.inr (.inr rfl)) _).drew⟩
  exact ⟨HR.out.blk, HR.out.own, HR.out.ne⟩

end Go.Proofs.Ytjjejdfmcohghaa
