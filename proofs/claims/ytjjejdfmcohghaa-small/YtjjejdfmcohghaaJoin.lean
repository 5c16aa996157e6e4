/- The text of some files, and where each ends in it. -/
import Derived.Test.YtjjejdfmcohghaaBuilder
import Derived.Test.YtjjejdfmcohghaaNames
import Derived.Test.YtjjejdfmcohghaaInts
namespace Go.Proofs.Ytjjejdfmcohghaa
open Go.RowKit

namespace Hm
def textOf (fs : List (ByteArray × ByteArray)) : List UInt8 := fs.flatMap fun f => f.2.data.toList
def endsTo (fs : List (ByteArray × ByteArray)) (k : Nat) : List Nat := (List.range fs.length).map fun i => if i < k then (textOf (fs.take (i + 1))).length else 0
def endsOf (fs : List (ByteArray × ByteArray)) : List Nat := (List.range fs.length).map fun i => (textOf (fs.take (i + 1))).length
theorem textOf_take (fs : List (ByteArray × ByteArray)) (k : Nat) (h : k < fs.length) : textOf (fs.take (k + 1)) = textOf (fs.take k) ++ fs[k].2.data.toList := by
  rw [List.take_succ_eq_append_getElem h]; unfold textOf; rw [List.flatMap_append]; congr 1; simp
theorem textOf_le (fs : List (ByteArray × ByteArray)) (k : Nat) : (textOf (fs.take k)).length ≤ (textOf fs).length := by
  have e : textOf fs = textOf (fs.take k) ++ textOf (fs.drop k) := by
    unfold textOf; rw [← List.flatMap_append, List.take_append_drop]
  rw [e, List.length_append]; omega
theorem endsTo_length (fs : List (ByteArray × ByteArray)) (k : Nat) : (endsTo fs k).length = fs.length := by simp [endsTo]
theorem endsOf_length (fs : List (ByteArray × ByteArray)) : (endsOf fs).length = fs.length := by simp [endsOf]
theorem endsTo_zero (fs : List (ByteArray × ByteArray)) : endsTo fs 0 = List.replicate fs.length 0 := by
  apply List.ext_getElem <;> simp [endsTo]
theorem endsTo_all (fs : List (ByteArray × ByteArray)) : endsTo fs fs.length = endsOf fs := by
  apply List.ext_getElem
  · simp [endsTo, endsOf]
  · intro i h1 h2
    have : i < fs.length := by simpa [endsTo] using h1
    simp [endsTo, endsOf, this]
theorem endsTo_get (fs : List (ByteArray × ByteArray)) (k i : Nat) (h : i < (endsTo fs k).length) : (endsTo fs k)[i] = if i < k then (textOf (fs.take (i + 1))).length else 0 := by simp [endsTo]
theorem endsTo_succ (fs : List (ByteArray × ByteArray)) (k : Nat) (_h : k < fs.length) : endsTo fs (k + 1) = (endsTo fs k).set k (textOf (fs.take (k + 1))).length := by
  apply List.ext_getElem
  · simp [endsTo]
  · intro i h1 h2
    rw [List.getElem_set, endsTo_get, endsTo_get]
    by_cases e : k = i
    · subst e; simp
    · rw [if_neg e]
      by_cases h3 : i < k
      · rw [if_pos h3, if_pos (by omega)]
      · rw [if_neg h3, if_neg (by omega)]
theorem endsOf_le (fs : List (ByteArray × ByteArray)) : ∀ e ∈ endsOf fs, e ≤ (textOf fs).length := by
  intro e he
  obtain ⟨i, _, rfl⟩ := List.mem_map.1 he
  exact textOf_le fs _
end Hm

set_option maxHeartbeats 1000000 in
theorem joinFiles_any (ao : Option Addr) (c : Nat) (fs : List (ByteArray × ByteArray)) (w : World) (hf : FilesAt w ao fs) (hm : fs.length ≤ 40) (ht : (Hm.textOf fs).length ≤ 6000) :
    Calls Try.prog 9 #[.slice ao fs.length c] w fun e w' => e = .returned (.tuple #[.string ⟨(Hm.textOf fs).toArray⟩, .slice (some ⟨w.heap.size + 1, 0, none⟩) fs.length fs.length]) ∧ IntRow w' (w.heap.size + 1) (Hm.endsOf fs) ∧ Kept (fun _ => False) w w' := by
  obtain ⟨i0, hi, hz0, hz1, hz2⟩ := info_parts info_int
  go_enter Try.func9, Try.ntmps9
  go_wp2_with (at_make; refine wpList_make_full _ rfl (.tmp 9) (.tmp 9) 34 rfl w.heap.size 3 i0 (.int .i64 0) 1 Try.underlying34 hi hz0 hz1 .i64 .i64 _ _ fs.length rfl rfl rfl rfl (by rw [hz2]; omega) (by unfold maxLen; omega) (by simp) ?_; intro w1 ho1 hg1)
  have hsz1 : (w.alloc (.cells #[.pointer none, .slice none 0 0] 67)).heap.size = w.heap.size + 1 := by simp
  try rw [hsz1] at ho1
  have hr1 : IntRow w1 (w.heap.size + 1) (Hm.endsTo fs 0) := by rw [Hm.endsTo_zero]; exact IntRow.made ho1
  have hb1 : BuilderIs w1 w.heap.size (.pointer none) (.slice none 0 0) (Hm.textOf (fs.take 0)) :=
    ⟨by rw [hg1.block _ (by simp) (by simp)]; exact heap_alloc_new w _, by simpa [Hm.textOf, Hm.bcells] using World.ownsRow_nil w1 0 5 1, by simp [Value.ownBlock], .inl rfl, fun _ => rfl⟩
  have hk1 : Kept (fun _ => False) w w1 := ((Kept.refl (fun _ => False) w).alloc _).grown hg1 (fun k hk => by cases hk)
  clear ho1 hg1
  go_loopw [13] (fun i wr => ∃ (k : Nat) (p v : Value), k ≤ fs.length ∧ i = .int .i64 k ∧ BuilderIs wr w.heap.size p v (Hm.textOf (fs.take k)) ∧ IntRow wr (w.heap.size + 1) (Hm.endsTo fs k) ∧ Kept (fun _ => False) w wr ∧ (∀ j, v.ownBlock = some j → w.heap.size + 1 < j)) (fun i _ => fs.length - (intOf i).toNat)
  case atStart => exact ⟨0, _, _, Nat.zero_le _, rfl, hb1, hr1, hk1, fun j h => by cases h⟩
  case round =>
    clear hr1 hb1 hk1
    obtain ⟨k, p, v, hk, rfl, hb, hr, hkr, hmr⟩ := hrel
    have hle1 := Hm.textOf_le fs k
    by_cases hlt : k < fs.length
    · obtain ⟨b, o, hao, hbw, hc1, hc2⟩ := (hf.kept hkr (fun a ha => id)) k hlt
      have hle2 := Hm.textOf_le fs (k + 1)
      have HT : Hid (Hm.textOf (fs.take (k + 1)) = Hm.textOf (fs.take k) ++ fs[k].2.data.toList) := Hm.textOf_take fs k hlt
      have hel : (Hm.textOf (fs.take k)).length + fs[k].2.size ≤ 6000 := by
        have := congrArg List.length HT.out
        have e3 : fs[k].2.data.toList.length = fs[k].2.size := by simp
        rw [List.length_append, e3] at this; omega
      have HE : Hid (Hm.endsTo fs (k + 1) = (Hm.endsTo fs k).set k (Hm.textOf (fs.take (k + 1))).length) := Hm.endsTo_succ fs k hlt
      have hetl := Hm.endsTo_length fs k
      generalize fs[k].1 = nm at *
      generalize fs[k].2 = ct at *
      have hbx : BuilderIs (wr.alloc (.cells #[.string nm, .string ct] 28)) w.heap.size p v (Hm.textOf (fs.take k)) :=
        ⟨by rw [Below.heap_alloc _ _ _ (lt_of_block hb.blk)]; exact hb.blk, hb.own.alloc _, hb.ne, hb.adr, hb.nil⟩
      have hws := writeString_any w.heap.size p v _ ct _ hbx (by omega)
      rw [hao]
      clear hao hf hb hbx
      go_wp2_with fail
      refine hws.mono ?_
      rintro e w2 ⟨v2, rfl, hb2, hk2, hm2⟩
      have hln := builderLen_any _ _ _ _ w2 hb2
      rw [← HT.out] at hb2 hln
      have hr2 : IntRow w2 (w.heap.size + 1) (Hm.endsTo fs k) := by
        refine IntRow.kept (w := wr.alloc (.cells #[.string nm, .string ct] 28)) ?_ hk2 ?_
        · unfold IntRow; rw [Below.heap_alloc _ _ _ hr.lt]; exact hr
        · rintro (h | h)
          · omega
          · have := hmr _ h; omega
      have hd := hr2.cell (i := k) (by omega)
      have hfr := hr2.free k
      have HR : Hid (IntRow (w2.setCell ⟨w.heap.size + 1, k, none⟩ (.int .i64 ((Hm.textOf (fs.take (k + 1))).length : Nat))) (w.heap.size + 1) (Hm.endsTo fs (k + 1))) := by
        show IntRow _ _ _
        rw [HE.out]; exact hr2.set k _
      have hkw2 : Kept (fun _ => False) w w2 := (hkr.alloc _).trans hk2 (fun j h1 h2 => by
        rcases h2 with h2 | h2
        · omega
        · have := hmr _ h2; omega)
      have hmr2 : ∀ j, v2.ownBlock = some j → w.heap.size + 1 < j := fun j h => by
        rcases hm2 j h with h2 | h2
        · exact hmr j h2
        · have := lt_of_block hr; simp at h2; omega
      generalize (Hm.endsTo fs k)[k]'(by omega) = old at hd
      have HB2 : Hid (BuilderIs w2 w.heap.size (.pointer (some ⟨w.heap.size, 0, none⟩)) v2 (Hm.textOf (fs.take (k + 1)))) := hb2
      clear hws hr hr2 hb2 hk2 hm2 hkr hmr
      generalize (Hm.textOf (fs.take (k + 1))).length = el at *
      go_wp2_with (go_at_call 24; refine hln.mono ?_; rintro e w3 ⟨rfl, rfl⟩)
      go_roundw
      case rel =>
        have hb := HB2.out
        refine ⟨k + 1, _, v2, by omega, by go_num, ⟨?_, ?_, hb.ne, hb.adr, hb.nil⟩, HR.out, hkw2.setCell (.inl (by simp)) _, hmr2⟩
        · rw [Below.heap_setCell _ _ _ _ (by simp)]; exact hb.blk
        · exact ownsRow_setCell_other hb.own (fun e => by have := hmr2 _ e; simp at this) _
      case measure => simp [intOf]; omega
    · obtain rfl : k = fs.length := by omega
      rw [List.take_length] at hb
      rw [Hm.endsTo_all] at hr
      have hst := builderString_any _ _ _ _ wr hb (by omega)
      have HR : Hid (IntRow wr (w.heap.size + 1) (Hm.endsOf fs)) := hr
      clear hf hb hr
      generalize htx : (⟨(Hm.textOf fs).toArray⟩ : ByteArray) = txt at hst
      have HX : Hid ((⟨(Hm.textOf fs).toArray⟩ : ByteArray) = txt) := htx
      clear htx
      go_wp2_with (go_at_call 25; refine hst.mono ?_; rintro e w2 ⟨rfl, hk2⟩)
      go_ret2
      rw [HX.out]
      refine ⟨rfl, HR.out.kept hk2 ?_, hkr.trans hk2 (fun j h1 h2 => ?_)⟩
      · rintro (h | h)
        · omega
        · have := hmr _ h; omega
      · rcases h2 with h2 | h2
        · omega
        · have := hmr _ h2; omega

end Go.Proofs.Ytjjejdfmcohghaa
