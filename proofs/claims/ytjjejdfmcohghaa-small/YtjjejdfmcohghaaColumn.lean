/- The column. -/
import Derived.Test.YtjjejdfmcohghaaInts
namespace Go.Proofs.Ytjjejdfmcohghaa
open Go.RowKit

namespace Hm
def colOf (s : List UInt8) (ps : List Nat) : List UInt8 := (ps.filter fun p => decide (0 < p)).map fun p => s.getD (p - 1) 0
theorem colOf_take (s : List UInt8) (ps : List Nat) (k : Nat) (h : k < ps.length) : colOf s (ps.take (k + 1)) = colOf s (ps.take k) ++ if 0 < ps[k] then [s.getD (ps[k] - 1) 0] else [] := by
  rw [List.take_succ_eq_append_getElem h]; unfold colOf; rw [List.filter_append, List.map_append]; congr 1
  by_cases e : 0 < ps[k] <;> simp [e]
theorem colOf_le (s : List UInt8) (ps : List Nat) : (colOf s ps).length ≤ ps.length := by
  unfold colOf; rw [List.length_map]; exact List.length_filter_le _ _
end Hm

set_option maxHeartbeats 1000000 in
theorem column_any (gp cp : Nat) (s : ByteArray) (ps : List Nat) (w : World) (hp : IntRow w gp ps) (hs : s.size ≤ 6000) (hl : ps.length ≤ 6001) (hx : ∀ x ∈ ps, x ≤ s.size) :
    Calls Try.prog 15 #[.string s, .slice (some ⟨gp, 0, none⟩) ps.length cp] w fun e w' => ∃ v', e = .returned v' ∧ w'.ownsRow w.heap.size 5 1 v' (Hm.colOf s.data.toList ps).length (Hm.bcells (Hm.colOf s.data.toList ps)) ∧ Kept (fun _ => False) w w' := by
  obtain ⟨i0, hi, hz0, hz1, hz2⟩ := info_parts info_u8
  have hgp := hp.lt
  go_enter Try.func15, Try.ntmps15
  go_wp2_with (at_make; refine wpList_make_own _ rfl _ _ 23 rfl w.heap.size 5 i0 (.int .u8 0) 1 Try.underlying23 hi hz0 hz1 .i64 .i64 _ s.size rfl rfl rfl (by rw [hz2]; omega) (by unfold maxLen; omega) (Nat.le_refl _) ?_; intro w1 ho1 hg1)
  have hk1 : Kept (fun _ => False) w w1 := (Kept.refl _ _).grown hg1 (fun k hk => by cases hk)
  clear hg1
  go_loopw [5, 13] (fun u i wr => ∃ k : Nat, k ≤ ps.length ∧ i = .int .i64 k ∧ wr.ownsRow w.heap.size 5 1 u (Hm.colOf s.data.toList (ps.take k)).length (Hm.bcells (Hm.colOf s.data.toList (ps.take k))) ∧ Kept (fun _ => False) w wr) (fun _ i _ => ps.length - (intOf i).toNat)
  case atStart => exact ⟨0, Nat.zero_le _, rfl, by simpa [Hm.colOf, Hm.bcells] using ho1, hk1⟩
  case round =>
    clear ho1 hk1
    obtain ⟨k, hk, rfl, hor, hkr⟩ := hrel
    have hcl := Hm.colOf_le s.data.toList (ps.take k)
    have hcl2 : (ps.take k).length ≤ 6001 := by simp; omega
    by_cases hlt : k < ps.length
    · have hc := (hp.kept hkr id).cell hlt
      have hpx := hx ps[k] (List.getElem_mem _)
      have HT : Hid (Hm.colOf s.data.toList (ps.take (k + 1)) = Hm.colOf s.data.toList (ps.take k) ++ if 0 < ps[k] then [s.data.toList.getD (ps[k] - 1) 0] else []) := Hm.colOf_take _ ps k hlt
      generalize ps[k] = p at *
      generalize hC : Hm.colOf s.data.toList (ps.take k) = C at *
      by_cases hpos : 0 < p
      · obtain ⟨q, hq⟩ : ∃ q, p = q + 1 := ⟨p - 1, by omega⟩
        subst hq
        have hq2 : q < s.size := by omega
        have HT2 : Hid (Hm.colOf s.data.toList (ps.take (k + 1)) = C ++ [s[q]]) := by
          show _ = _
          have e : s.data.toList.getD (q + 1 - 1) 0 = s[q] := by
            rw [Nat.add_sub_cancel, List.getD_eq_getElem?_getD, List.getElem?_eq_getElem (by simpa using hq2)]
            rfl
          rw [HT.out, if_pos hpos, e]
        clear HT hp hx hC
        go_wp2_with (at_builtin; refine wpList_append_mv _ rfl (.tmp 19) (.tmp 24) 23 rfl w.heap.size 5 i0 (.int .u8 0) 1 1 Try.underlying23 hi hz0 hz1 hz2 rfl (by decide) _ _ _ rfl (hor.alloc _) ⟨wr.heap.size, 0, none⟩ 1 1 [.int .u8 (s[q].toNat : Int)] rfl rfl ?c1 ?c2 ?c3 ?c4 ?c5 ?_)
        case c1 => exact cell_one_new _ _ _
        case c2 => intro u hu; simp at hu; subst hu; rfl
        case c3 => unfold maxLen; omega
        case c4 => omega
        case c5 => have := hkr.size; simp; omega
        intro v' w2 ho2 hg2 hm2
        have hk2 : Kept (fun _ => False) w w2 := (hkr.alloc _).grown hg2 (fun j hj => .inl (hor.lt j hj).1)
        clear hg2 hm2 hor hkr
        go_wp2
        go_roundw
        case rel =>
          refine ⟨k + 1, by omega, by go_num, ?_, hk2⟩
          rw [HT2.out]
          simpa [Hm.bcells] using ho2
        case measure => simp [intOf]; omega
      · obtain rfl : p = 0 := by omega
        have HT2 : Hid (Hm.colOf s.data.toList (ps.take (k + 1)) = C) := by
          show _ = _
          rw [HT.out, if_neg hpos, List.append_nil]
        clear HT hp hx hC
        go_wp2
        go_roundw
        case rel => exact ⟨k + 1, by omega, by go_num, by rw [HT2.out]; exact hor, hkr⟩
        case measure => simp [intOf]; omega
    · go_wp2
      go_ret
      obtain rfl : k = ps.length := by omega
      rw [List.take_length] at hor
      exact ⟨_, rfl, hor, hkr⟩

end Go.Proofs.Ytjjejdfmcohghaa
