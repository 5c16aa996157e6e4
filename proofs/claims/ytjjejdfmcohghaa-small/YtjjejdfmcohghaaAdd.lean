/- Numbers, names and lengths that are added to a row of bytes. -/
import Derived.Test.YtjjejdfmcohghaaMem
namespace Go.Proofs.Ytjjejdfmcohghaa
open Go.RowKit

theorem info_u8 : (Try.prog.info? 5).map (fun i => (i.zero, i.size, i.bytes)) = some (some (.int .u8 0), 1, 1) := by kernel_rfl

namespace Hm
def bcells (l : List UInt8) : List Value := l.map fun b => Value.int .u8 (b.toNat : Int)
def leBytes (x : Nat) : Nat → List UInt8
  | 0 => []
  | k + 1 => leBytes x k ++ [UInt8.ofNat (x / 256 ^ k)]
theorem leBytes_length (x k : Nat) : (leBytes x k).length = k := by
  induction k with
  | zero => rfl
  | succ k ih => simp [leBytes, ih]
end Hm

set_option maxHeartbeats 400000 in
theorem addNumber_any (base : Nat) (v : Value) (n x k : Nat) (l : List UInt8) (w : World) (ho : w.ownsRow base 5 1 v n (Hm.bcells l)) (hb : base ≤ w.heap.size) (hx : x < 4294967296) (hk : k ≤ 4) (hn : n ≤ 1000000) :
    Calls Try.prog 17 #[v, .int .i64 x, .int .i64 k] w fun e w' => ∃ v', e = .returned v' ∧ w'.ownsRow base 5 1 v' (n + k) (Hm.bcells (l ++ Hm.leBytes x k)) ∧ Kept (fun j => v.ownBlock = some j) w w' ∧ Moved w v v' := by
  obtain ⟨i0, hi, hz0, hz1, hz2⟩ := info_parts info_u8
  go_enter Try.func17, Try.ntmps17
  go_wp2
  go_loopw [0, 9] (fun u i wr => ∃ j : Nat, j ≤ k ∧ i = .int .i64 j ∧ wr.ownsRow base 5 1 u (n + j) (Hm.bcells (l ++ Hm.leBytes x j)) ∧ Kept (fun j => v.ownBlock = some j) w wr ∧ Moved w v u) (fun _ i _ => k - (intOf i).toNat)
  case atStart => exact ⟨0, Nat.zero_le _, rfl, by simpa [Hm.leBytes] using ho, Kept.refl _ _, Moved.refl _ _⟩
  case round =>
    obtain ⟨j, hj, rfl, hor, hkr, hmr⟩ := hrel
    by_cases hlt : j < k
    · obtain ⟨y, hy, hsh, HY⟩ : ∃ y : Nat, y < 4294967296 ∧ (x : Int) / 2 ^ (8 * j) = (y : Int) ∧ Hid (y = x / 256 ^ j) := by
        refine ⟨x / 256 ^ j, Nat.lt_of_le_of_lt (Nat.div_le_self _ _) hx, ?_, rfl⟩
        have e2 : (256 : Nat) ^ j = 2 ^ (8 * j) := by rw [Nat.pow_mul]
        rw [e2]; simp
      go_wp2_with (at_builtin; refine wpList_append_mv _ rfl (.tmp 12) (.tmp 18) 23 rfl base 5 i0 (.int .u8 0) 1 1 Try.underlying23 hi hz0 hz1 hz2 rfl (by decide) _ _ _ rfl (hor.alloc _) ⟨wr.heap.size, 0, none⟩ 1 1 [.int .u8 ((y : Int) % 256)] rfl rfl ?c1 ?c2 ?c3 ?c4 ?c5 ?_)
      case c1 => exact cell_one_new _ _ _
      case c2 => intro u hu; simp at hu; subst hu; rfl
      case c3 => unfold maxLen; omega
      case c4 => omega
      case c5 => have := hkr.size; simp; omega
      intro v' w1 ho1 hg1 hm1
      go_wp2
      go_roundw
      case rel =>
        have e : Hm.bcells (l ++ Hm.leBytes x (j + 1)) = Hm.bcells (l ++ Hm.leBytes x j) ++ [.int .u8 ((y : Int) % 256)] := by
          simp [Hm.bcells, Hm.leBytes, HY.out]
        refine ⟨j + 1, by omega, by go_num, ?_, ?_, ?_⟩
        · rw [e]; exact ho1
        · exact (hkr.alloc _).grown hg1 (fun k hk => (hmr k hk).elim (fun h => .inr h) .inl)
        · exact hmr.trans hm1 (by have := hkr.size; simp; omega)
      case measure => simp [intOf]; omega
    · go_wp2
      go_ret
      obtain rfl : j = k := by omega
      exact ⟨_, rfl, hor, hkr, hmr⟩

end Go.Proofs.Ytjjejdfmcohghaa
