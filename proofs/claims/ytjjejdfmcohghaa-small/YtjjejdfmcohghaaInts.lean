/- Rows of numbers that a call has made; the first ranks. -/
import Derived.Test.YtjjejdfmcohghaaMakeEnds
namespace Go.Proofs.Ytjjejdfmcohghaa
open Go.RowKit

theorem info_int : (Try.prog.info? 3).map (fun i => (i.zero, i.size, i.bytes)) = some (some (.int .i64 0), 1, 8) := by kernel_rfl

def icells (l : List Nat) : List Value := l.map fun x => Value.int .i64 (x : Nat)
/-- Block g is a row of these numbers. -/
def IntRow (w : World) (g : Nat) (l : List Nat) : Prop := w.heap[g]? = some (.cells (icells l).toArray 3 (0, 0))
theorem IntRow.cell {w : World} {g : Nat} {l : List Nat} (h : IntRow w g l) {i : Nat} (hi : i < l.length) : w.cell? ⟨g, i, none⟩ = some (.int .i64 (l[i] : Nat)) := by
  rw [cell_of_row _ _ i _ _ _ h]; simp [icells, hi]
theorem IntRow.free {w : World} {g : Nat} {l : List Nat} (h : IntRow w g l) (i : Nat) : w.frozen? ⟨g, i, none⟩ = false := frozen_of_row _ _ i _ _ h
theorem IntRow.set {w : World} {g : Nat} {l : List Nat} (h : IntRow w g l) (i x : Nat) : IntRow (w.setCell ⟨g, i, none⟩ (.int .i64 (x : Nat))) g (l.set i x) := by
  have h2 := heap_setCell_same w g i _ _ (.int .i64 (x : Nat)) h
  unfold IntRow
  rw [h2]
  congr 2
  apply Array.ext'
  simp [icells, List.map_set]
theorem IntRow.lt {w : World} {g : Nat} {l : List Nat} (h : IntRow w g l) : g < w.heap.size := lt_of_block h
theorem IntRow.at {w : World} {g : Nat} {l : List Nat} (h : IntRow w g l) : IntsAt w (some ⟨g, 0, none⟩) l := fun i hi => ⟨g, 0, rfl, h.lt, by rw [Nat.zero_add]; exact h.cell hi⟩
theorem IntRow.kept {S : Nat → Prop} {w w' : World} {g : Nat} {l : List Nat} (h : IntRow w g l) (hk : Kept S w w') (hn : ¬ S g) : IntRow w' g l := hk.row h hn
theorem IntRow.made {w' : World} {g n : Nat} {base : Nat} (h : w'.ownsRow base 3 1 (.slice (some ⟨g, 0, none⟩) n n) n (madeCells (Value.int .i64 0).cells (n * 1)).toList) : IntRow w' g (List.replicate n 0) := by
  rcases h.2 with ⟨h1, _⟩ | ⟨g2, cap, cur, h1, _, hg, _, _, hs, ht⟩
  · cases h1
  · cases h1
    unfold IntRow
    rw [hg]
    congr 2
    apply Array.ext'
    have e : cur.toList.take (n * 1) = cur.toList := List.take_of_length_le (by simp; omega)
    rw [← e, ht, Nat.mul_one, show (Value.int .i64 0).cells = #[Value.int .i64 0] from rfl, toList_madeCells_one]
    simp [icells]

namespace Hm
def ranks0 (s : List UInt8) : List Nat := (s.map fun b => b.toNat + 1) ++ [0]
def ranksTo (s : List UInt8) (k : Nat) : List Nat := ((s.take k).map fun b => b.toNat + 1) ++ List.replicate (s.length + 1 - k) 0
theorem ranksTo_length (s : List UInt8) (k : Nat) (h : k ≤ s.length) : (ranksTo s k).length = s.length + 1 := by simp [ranksTo]; omega
theorem ranksTo_succ (s : List UInt8) (k : Nat) (h : k < s.length) : ranksTo s (k + 1) = (ranksTo s k).set k (s[k].toNat + 1) := by
  have hl : ((s.take k).map fun b => b.toNat + 1).length = k := by simp; omega
  rw [ranksTo, ranksTo, List.set_append_right _ _ (by omega), hl, Nat.sub_self, List.take_succ_eq_append_getElem h, List.map_append, List.append_assoc]
  congr 1
  rw [show s.length + 1 - k = (s.length + 1 - (k + 1)) + 1 from by omega, List.replicate_succ]
  rfl
theorem ranksTo_all (s : List UInt8) : ranksTo s s.length = ranks0 s := by simp [ranksTo, ranks0]
end Hm

set_option maxHeartbeats 400000 in
theorem firstRanks_any (s : ByteArray) (w : World) (hs : s.size ≤ 6000) :
    Calls Try.prog 26 #[.string s] w fun e w' => e = .returned (.slice (some ⟨w.heap.size, 0, none⟩) (s.size + 1) (s.size + 1)) ∧ IntRow w' w.heap.size (Hm.ranks0 s.data.toList) ∧ Kept (fun _ => False) w w' := by
  obtain ⟨i0, hi, hz0, hz1, hz2⟩ := info_parts info_int
  have hsl : s.data.toList.length = s.size := by simp
  go_enter Try.func26, Try.ntmps26
  go_wp2_with (at_make; refine wpList_make_full _ rfl (.tmp 7) (.tmp 7) 34 rfl w.heap.size 3 i0 (.int .i64 0) 1 Try.underlying34 hi hz0 hz1 .i64 .i64 _ _ (s.size + 1) rfl rfl (by omega) (by omega) (by rw [hz2]; omega) (by unfold maxLen; omega) (Nat.le_refl _) ?_; intro w1 ho1 hg1)
  have hr1 : IntRow w1 w.heap.size (Hm.ranksTo s.data.toList 0) := by
    have := IntRow.made ho1
    simpa [Hm.ranksTo] using this
  have hk1 : Kept (fun _ => False) w w1 := (Kept.refl _ _).grown hg1 (fun k hk => by cases hk)
  clear ho1 hg1
  go_loopw [11] (fun i wr => ∃ k : Nat, k ≤ s.size ∧ i = .int .i64 k ∧ IntRow wr w.heap.size (Hm.ranksTo s.data.toList k) ∧ Kept (fun _ => False) w wr) (fun i _ => s.size - (intOf i).toNat)
  case atStart => exact ⟨0, Nat.zero_le _, rfl, hr1, hk1⟩
  case round =>
    clear hr1 hk1
    obtain ⟨k, hk, rfl, hr, hkr⟩ := hrel
    by_cases hlt : k < s.size
    · have hlr := Hm.ranksTo_length s.data.toList k (by omega)
      have hc := hr.cell (i := k) (by omega)
      have hf := hr.free k
      have HS : Hid (IntRow (wr.setCell ⟨w.heap.size, k, none⟩ (.int .i64 ((s[k].toNat + 1 : Nat) : Int))) w.heap.size (Hm.ranksTo s.data.toList (k + 1))) := by
        show IntRow _ _ _
        rw [Hm.ranksTo_succ _ _ (by omega)]
        exact hr.set k _
      rw [show ((s[k].toNat + 1 : Nat) : Int) = (s[k].toNat : Int) + 1 from by omega] at HS
      have hby : s[k].toNat < 256 := s[k].toNat_lt
      generalize (Hm.ranksTo s.data.toList k)[k]'(by omega) = old at hc
      clear hr hlr hsl
      go_wp2
      go_roundw
      case rel => exact ⟨k + 1, by omega, by go_num, HS.out, hkr.setCell (.inl (Nat.le_refl _)) _⟩
      case measure => simp [intOf]; omega
    · go_wp2
      go_ret
      obtain rfl : k = s.size := by omega
      refine ⟨rfl, ?_, hkr⟩
      rw [← hsl, Hm.ranksTo_all] at hr
      exact hr

end Go.Proofs.Ytjjejdfmcohghaa
