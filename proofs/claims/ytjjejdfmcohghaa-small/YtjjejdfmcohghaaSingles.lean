/- How often a text of one byte has each byte; its one group. -/
import Derived.Test.YtjjejdfmcohghaaInts
import Derived.Test.YtjjejdfmcohghaaSet
namespace Go.Proofs.Ytjjejdfmcohghaa
open Go.RowKit

/-- Block g is an array of these numbers. -/
def ArrRow (w : World) (t g : Nat) (l : List Nat) : Prop := w.heap[g]? = some (.cells (icells l).toArray t (0, 0))
theorem ArrRow.cell {w : World} {t g : Nat} {l : List Nat} (h : ArrRow w t g l) {i : Nat} (hi : i < l.length) : w.cell? ⟨g, i, none⟩ = some (.int .i64 (l[i] : Nat)) := by
  rw [cell_of_row _ _ i _ _ _ h]; simp [icells, hi]
theorem ArrRow.free {w : World} {t g : Nat} {l : List Nat} (h : ArrRow w t g l) (i : Nat) : w.frozen? ⟨g, i, none⟩ = false := frozen_of_row _ _ i _ _ h
theorem ArrRow.set {w : World} {t g : Nat} {l : List Nat} (h : ArrRow w t g l) (i x : Nat) : ArrRow (w.setCell ⟨g, i, none⟩ (.int .i64 (x : Nat))) t g (l.set i x) := by
  have h2 := heap_setCell_same w g i _ _ (.int .i64 (x : Nat)) h
  unfold ArrRow
  rw [h2]
  congr 2
  apply Array.ext'
  simp [icells, List.map_set]
theorem ArrRow.lt {w : World} {t g : Nat} {l : List Nat} (h : ArrRow w t g l) : g < w.heap.size := lt_of_block h
theorem ArrRow.kept {S : Nat → Prop} {w w' : World} {t g : Nat} {l : List Nat} (h : ArrRow w t g l) (hk : Kept S w w') (hn : ¬ S g) : ArrRow w' t g l := hk.row h hn
theorem zero_arr : Try.zeroCells38 = (icells (List.replicate 256 0)).toArray := by kernel_rfl
theorem zero_len : Try.zeroCells39 = (icells (List.replicate 256 0)).toArray := by kernel_rfl

theorem run_index_arr (T : TypeId) (n : Nat) (hT : Try.prog.underlying T = some (.array n 3)) (l : List Nat) (i : Nat) (hi : i < l.length) (hn : l.length = n) (w : World) :
    (Instr.index T (.agg (icells l).toArray) (.int .i64 (i : Nat))).run Try.prog w = .ok (.int .i64 (l[i] : Nat)) w := by
  have z3 := Try.sizeOf3
  have a3 := Try.isAgg3
  have hlt : (i : Int) < (n : Int) := by omega
  unfold Instr.index
  simp only [Sem.run_bind, run_underlying hT, Result.andThen_ok, asIntOf, Sem.run_pure, Int.natCast_nonneg, hlt, and_self, if_true, z3, Int.toNat_natCast, Nat.mul_one, part, a3]
  simp [icells, hi]

namespace Hm
/-- Noughts, and one number among them. -/
def oneAt (N c k : Nat) : List Nat := (List.replicate N 0).set c k
theorem oneAt_length (N c k : Nat) : (oneAt N c k).length = N := by simp [oneAt]
theorem oneAt_zero (N c : Nat) : oneAt N c 0 = List.replicate N 0 := by
  apply List.ext_getElem
  · simp [oneAt]
  · intro i h1 h2
    simp only [oneAt, List.getElem_set, List.getElem_replicate, ite_self]
theorem oneAt_get (N c k i : Nat) (h : i < (oneAt N c k).length) : (oneAt N c k)[i] = if i = c then k else 0 := by
  simp only [oneAt, List.getElem_set, List.getElem_replicate]
  by_cases e : c = i
  · rw [if_pos e, if_pos e.symm]
  · rw [if_neg e, if_neg (fun x => e x.symm)]
theorem oneAt_set (N c k j : Nat) : (oneAt N c k).set c j = oneAt N c j := by simp only [oneAt, List.set_set]
end Hm

theorem info_group : (Try.prog.info? 83).map (fun i => (i.zero, i.size, i.bytes)) = some (some (.agg #[.int .i64 0, .int .u8 0, .slice none 0 0]), 3, 40) := by kernel_rfl

set_option maxHeartbeats 1000000 in
theorem singles_one (s : ByteArray) (cn : Nat) (w : World) (hs : s.size ≤ 6000) (hm : 1 ≤ s.size) (hcn : cn < 256) (hc : ∀ k, (h : k < s.size) → s[k].toNat = cn) :
    Calls Try.prog 32 #[.string s] w fun e w' => ∃ v mb, e = .returned v ∧ w'.ownsRow w.heap.size 83 3 v 1 [.int .i64 (s.size : Nat), .int .u8 (cn : Nat), .slice (some ⟨mb, 0, none⟩) 1 1] ∧ Kept (fun _ => False) w w' := by
  obtain ⟨i0, hi, hz0, hz1, hz2⟩ := info_parts info_group
  have hza := zero_arr
  have hr0 : ArrRow (w.alloc (.cells Try.zeroCells38 38)) 38 w.heap.size (Hm.oneAt 256 cn 0) := by
    unfold ArrRow
    rw [heap_alloc_new, hza, Hm.oneAt_zero]
  have HR0 : Hid (ArrRow (w.alloc (.cells Try.zeroCells38 38)) 38 w.heap.size (Hm.oneAt 256 cn 0)) := hr0
  clear hr0 hza
  go_enter Try.func32, Try.ntmps32
  go_wp2_with fail
  go_loopw [10] (fun i wr => ∃ k : Nat, k ≤ s.size ∧ i = .int .i64 k ∧ ArrRow wr 38 w.heap.size (Hm.oneAt 256 cn k) ∧ Kept (fun _ => False) w wr) (fun i _ => s.size - (intOf i).toNat)
  case atStart => exact ⟨0, Nat.zero_le _, rfl, HR0.out, (Kept.refl _ _).alloc _⟩
  case round =>
    clear HR0
    obtain ⟨k, hk, rfl, hr, hkr⟩ := hrel
    have hll : (Hm.oneAt 256 cn k).length = 256 := Hm.oneAt_length _ _ _
    by_cases hlt : k < s.size
    · have hck := hc k hlt
      have hd := hr.cell (i := cn) (by omega)
      have hf := hr.free cn
      rw [Hm.oneAt_get, if_pos rfl] at hd
      have HS := hr.set cn (k + 1)
      rw [Hm.oneAt_set] at HS
      have H2 : Hid (ArrRow _ 38 w.heap.size (Hm.oneAt 256 cn (k + 1))) := HS
      clear HS hr hc hll
      go_wp2
      go_roundw
      case rel => exact ⟨k + 1, by omega, by go_num, H2.out, hkr.setCell (.inl (Nat.le_refl _)) _⟩
      case measure => simp [intOf]; omega
    · obtain rfl : k = s.size := by omega
      have hrow := hr
      unfold ArrRow at hrow
      have hix : ∀ b, (h : b < 256) → ∀ W, (Instr.index 38 (.agg (icells (Hm.oneAt 256 cn s.size)).toArray) (.int .i64 (b : Nat))).run Try.prog W = .ok (.int .i64 ((if b = cn then s.size else 0 : Nat) : Nat)) W := by
        intro b hb W
        rw [run_index_arr 38 256 Try.underlying38 _ b (by rw [Hm.oneAt_length]; exact hb) (Hm.oneAt_length _ _ _) W, Hm.oneAt_get]
      have hasz : (icells (Hm.oneAt 256 cn s.size)).toArray.size = 256 := by
        rw [List.size_toArray, icells, List.length_map, Hm.oneAt_length]
      generalize (icells (Hm.oneAt 256 cn s.size)).toArray = arr at hrow hix hasz
      clear hr hll
      go_wp2_with (refine wpList_load_row rfl 38 _ rfl w.heap.size rfl 38 arr (0, 0) _ hrow Try.underlying38 rfl (by rw [hasz]; kernel_rfl) ?_)
      go_loopw [5, 22] (fun u i wr => ∃ b : Nat, b ≤ 256 ∧ i = .int .i64 b ∧ ((b ≤ cn ∧ u = .slice none 0 0) ∨ (cn < b ∧ ∃ mb, wr.ownsRow w.heap.size 83 3 u 1 [.int .i64 (s.size : Nat), .int .u8 (cn : Nat), .slice (some ⟨mb, 0, none⟩) 1 1])) ∧ Kept (fun _ => False) w wr) (fun _ i _ => 256 - (intOf i).toNat)
      case atStart => exact ⟨0, by omega, rfl, .inl ⟨Nat.zero_le _, rfl⟩, hkr⟩
      case round =>
        clear hkr hrow hc
        obtain ⟨b, hb, rfl, hu, hkr⟩ := hrel
        by_cases hlt2 : b < 256
        · have hixb := hix b hlt2
          have hdec : decide ((b : Int) < 256) = true := by simp; omega
          clear hix hasz
          by_cases hbc : b = cn
          · subst hbc
            rw [if_pos rfl] at hixb
            obtain ⟨_, hu⟩ := hu.resolve_right (by omega)
            subst hu
            have hpos : decide (0 < s.size) = true := by simp; omega
            go_wp2_with (at_builtin; refine wpList_append_mv _ rfl (.tmp 28) (.tmp 36) 80 rfl w.heap.size 83 i0 _ 3 40 Try.underlying80 hi hz0 hz1 hz2 rfl (by decide) _ _ _ rfl (World.ownsRow_nil _ _ _ _) ⟨wr.heap.size + 1, 0, none⟩ 1 1 [.int .i64 (s.size : Nat), .int .u8 (b : Nat), .slice (some ⟨wr.heap.size, 0, none⟩) 1 1] rfl rfl ?c1 ?c2 ?c3 ?c4 ?c5 ?_)
            case c2 => first | exact ⟨rfl, rfl, rfl⟩ | (intro u hu; simp at hu; rcases hu with rfl | rfl | rfl <;> rfl)
            case c3 => unfold maxLen; omega
            case c5 => have := hkr.size; simp; omega
            intro v' w2 ho2 hg2 hm2
            have hk2 : Kept (fun _ => False) w w2 := ((hkr.alloc _).alloc _).grown hg2 (fun j hj => by cases hj)
            clear hg2 hm2
            go_wp2
            go_roundw
            case rel => exact ⟨b + 1, by omega, by go_num, .inr ⟨by omega, _, by simpa using ho2⟩, hk2⟩
            case measure => simp [intOf]; omega
          · rw [if_neg hbc] at hixb
            go_wp2
            go_roundw
            case rel =>
              refine ⟨b + 1, by omega, by go_num, ?_, hkr⟩
              rcases hu with ⟨h1, h2⟩ | ⟨h1, h2⟩
              · exact .inl ⟨by omega, h2⟩
              · exact .inr ⟨by omega, h2⟩
            case measure => simp [intOf]; omega
        · have hdec : decide ((b : Int) < 256) = false := by simp; omega
          clear hix hasz
          go_wp2
          go_ret
          rcases hu with ⟨h1, h2⟩ | ⟨h1, mb, h2⟩
          · omega
          · exact ⟨_, mb, rfl, h2, hkr⟩

end Go.Proofs.Ytjjejdfmcohghaa
