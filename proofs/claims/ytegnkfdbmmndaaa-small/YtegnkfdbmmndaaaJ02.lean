import Derived.Test.YtegnkfdbmmndaaaJ01
import Derived.Laws.Tables
import Derived.Sort.Lot0

/- Singles -/
section
/- How often a text of one byte has each byte; its one group. -/
namespace Go.Proofs.Ytegnkfdbmmndaaa
open Go.RowKit

/-- Block g is an array of these numbers. -/
def ArrRow (w : World) (t g : Nat) (l : List Nat) : Prop := w.heap[g]? = some (.cells (icells l).toArray t (0, 0))
theorem ArrRow.cell {w : World} {t g : Nat} {l : List Nat} (h : ArrRow w t g l) {i : Nat} (hi : i < l.length) : w.cell? ⟨g, i, none⟩ = some (.int .i64 (l[i] : Nat)) := by
  rw [cell_of_row _ _ i _ _ _ h]; simp [icells, hi]
theorem ArrRow.free {w : World} {t g : Nat} {l : List Nat} (h : ArrRow w t g l) (i : Nat) : w.frozen? ⟨g, i, none⟩ = false := frozen_of_row _ _ i _ _ h
theorem ArrRow.set {w : World} {t g : Nat} {l : List Nat} (h : ArrRow w t g l) (i x : Nat) : ArrRow (w.setCell ⟨g, i, none⟩ (.int .i64 (x : Nat))) t g (l.set i x) := by
  have h2 := heap_setCell_same w g i _ _ (.int .i64 (x : Nat)) h
  unfold ArrRow
  rw [h2]
  congr 2
  apply Array.ext'
  simp [icells, List.map_set]
theorem ArrRow.lt {w : World} {t g : Nat} {l : List Nat} (h : ArrRow w t g l) : g < w.heap.size := lt_of_block h
theorem ArrRow.kept {S : Nat → Prop} {w w' : World} {t g : Nat} {l : List Nat} (h : ArrRow w t g l) (hk : Kept S w w') (hn : ¬ S g) : ArrRow w' t g l := hk.row h hn
theorem zero_arr : Try.zeroCells38 = (icells (List.replicate 256 0)).toArray := by kernel_rfl
theorem zero_len : Try.zeroCells39 = (icells (List.replicate 256 0)).toArray := by kernel_rfl

theorem run_index_arr (T : TypeId) (n : Nat) (hT : Try.prog.underlying T = some (.array n 3)) (l : List Nat) (i : Nat) (hi : i < l.length) (hn : l.length = n) (w : World) :
    (Instr.index T (.agg (icells l).toArray) (.int .i64 (i : Nat))).run Try.prog w = .ok (.int .i64 (l[i] : Nat)) w := by
  have z3 := Try.sizeOf3
  have a3 := Try.isAgg3
  have hlt : (i : Int) < (n : Int) := by omega
  unfold Instr.index
  simp only [Sem.run_bind, run_underlying hT, Result.andThen_ok, asIntOf, Sem.run_pure, Int.natCast_nonneg, hlt, and_self, if_true, z3, Int.toNat_natCast, Nat.mul_one, part, a3]
  simp [icells, hi]

namespace Hm
/-- Noughts, and one number among them. -/
def oneAt (N c k : Nat) : List Nat := (List.replicate N 0).set c k
theorem oneAt_length (N c k : Nat) : (oneAt N c k).length = N := by simp [oneAt]
theorem oneAt_zero (N c : Nat) : oneAt N c 0 = List.replicate N 0 := by
  apply List.ext_getElem
  · simp [oneAt]
  · intro i h1 h2
    simp only [oneAt, List.getElem_set, List.getElem_replicate, ite_self]
theorem oneAt_get (N c k i : Nat) (h : i < (oneAt N c k).length) : (oneAt N c k)[i] = if i = c then k else 0 := by
  simp only [oneAt, List.getElem_set, List.getElem_replicate]
  by_cases e : c = i
  · rw [if_pos e, if_pos e.symm]
  · rw [if_neg e, if_neg (fun x => e x.symm)]
theorem oneAt_set (N c k j : Nat) : (oneAt N c k).set c j = oneAt N c j := by simp only [oneAt, List.set_set]
end Hm

theorem info_group : (Try.prog.info? 86).map (fun i => (i.zero, i.size, i.bytes)) = some (some (.agg #[.int .i64 0, .int .u8 0, .slice none 0 0]), 3, 40) := by kernel_rfl

set_option maxHeartbeats 1000000 in
theorem singles_one (s : ByteArray) (cn : Nat) (w : World) (hs : s.size ≤ 6000) (hm : 1 ≤ s.size) (hcn : cn < 256) (hc : ∀ k, (h : k < s.size) → s[k].toNat = cn) :
    Calls Try.prog 31 #[.string s] w fun e w' => ∃ v mb, e = .returned v ∧ w'.ownsRow w.heap.size 86 3 v 1 [.int .i64 (s.size : Nat), .int .u8 (cn : Nat), .slice (some ⟨mb, 0, none⟩) 1 1] ∧ Kept (fun _ => False) w w' := by
  obtain ⟨i0, hi, hz0, hz1, hz2⟩ := info_parts info_group
  have hza := zero_arr
  have hr0 : ArrRow (w.alloc (.cells Try.zeroCells38 38)) 38 w.heap.size (Hm.oneAt 256 cn 0) := by
    unfold ArrRow
    rw [heap_alloc_new, hza, Hm.oneAt_zero]
  have HR0 : Hid (ArrRow (w.alloc (.cells Try.zeroCells38 38)) 38 w.heap.size (Hm.oneAt 256 cn 0)) := hr0
  clear hr0 hza
  go_enter Try.func31, Try.ntmps31
  go_wp2_with fail
  go_loopw [10] (fun i wr => ∃ k : Nat, k ≤ s.size ∧ i = .int .i64 k ∧ ArrRow wr 38 w.heap.size (Hm.oneAt 256 cn k) ∧ Kept (fun _ => False) w wr) (fun i _ => s.size - (intOf i).toNat)
  case atStart => exact ⟨0, Nat.zero_le _, rfl, HR0.out, (Kept.refl _ _).alloc _⟩
  case round =>
    clear HR0
    obtain ⟨k, hk, rfl, hr, hkr⟩ := hrel
    have hll : (Hm.oneAt 256 cn k).length = 256 := Hm.oneAt_length _ _ _
    by_cases hlt : k < s.size
    · have hck := hc k hlt
      have hd := hr.cell (i := cn) (by omega)
      have hf := hr.free cn
      rw [Hm.oneAt_get, if_pos rfl] at hd
      have HS := hr.set cn (k + 1)
      rw [Hm.oneAt_set] at HS
      have H2 : Hid (ArrRow _ 38 w.heap.size (Hm.oneAt 256 cn (k + 1))) := HS
      clear HS hr hc hll
      go_wp2
      go_roundw
      case rel => exact ⟨k + 1, by omega, by go_num, H2.out, hkr.setCell (.inl (Nat.le_refl _)) _⟩
      case measure => simp [intOf]; omega
    · obtain rfl : k = s.size := by omega
      have hrow := hr
      unfold ArrRow at hrow
      have hix : ∀ b, (h : b < 256) → ∀ W, (Instr.index 38 (.agg (icells (Hm.oneAt 256 cn s.size)).toArray) (.int .i64 (b : Nat))).run Try.prog W = .ok (.int .i64 ((if b = cn then s.size else 0 : Nat) : Nat)) W := by
        intro b hb W
        rw [run_index_arr 38 256 Try.underlying38 _ b (by rw [Hm.oneAt_length]; exact hb) (Hm.oneAt_length _ _ _) W, Hm.oneAt_get]
      have hasz : (icells (Hm.oneAt 256 cn s.size)).toArray.size = 256 := by
        rw [List.size_toArray, icells, List.length_map, Hm.oneAt_length]
      generalize (icells (Hm.oneAt 256 cn s.size)).toArray = arr at hrow hix hasz
      clear hr hll
      go_wp2_with (refine wpList_load_row rfl 38 _ rfl w.heap.size rfl 38 arr (0, 0) _ hrow Try.underlying38 rfl (by rw [hasz]; kernel_rfl) ?_)
      go_loopw [5, 22] (fun u i wr => ∃ b : Nat, b ≤ 256 ∧ i = .int .i64 b ∧ ((b ≤ cn ∧ u = .slice none 0 0) ∨ (cn < b ∧ ∃ mb, wr.ownsRow w.heap.size 86 3 u 1 [.int .i64 (s.size : Nat), .int .u8 (cn : Nat), .slice (some ⟨mb, 0, none⟩) 1 1])) ∧ Kept (fun _ => False) w wr) (fun _ i _ => 256 - (intOf i).toNat)
      case atStart => exact ⟨0, by omega, rfl, .inl ⟨Nat.zero_le _, rfl⟩, hkr⟩
      case round =>
        clear hkr hrow hc
        obtain ⟨b, hb, rfl, hu, hkr⟩ := hrel
        by_cases hlt2 : b < 256
        · have hixb := hix b hlt2
          have hdec : decide ((b : Int) < 256) = true := by simp; omega
          clear hix hasz
          by_cases hbc : b = cn
          · subst hbc
            rw [if_pos rfl] at hixb
            obtain ⟨_, hu⟩ := hu.resolve_right (by omega)
            subst hu
            have hpos : decide (0 < s.size) = true := by simp; omega
            go_wp2_with (at_builtin; refine wpList_append_mv _ rfl (.tmp 28) (.tmp 36) 83 rfl w.heap.size 86 i0 _ 3 40 Try.underlying83 hi hz0 hz1 hz2 rfl (by decide) _ _ _ rfl (World.ownsRow_nil _ _ _ _) ⟨wr.heap.size + 1, 0, none⟩ 1 1 [.int .i64 (s.size : Nat), .int .u8 (b : Nat), .slice (some ⟨wr.heap.size, 0, none⟩) 1 1] rfl rfl ?c1 ?c2 ?c3 ?c4 ?c5 ?_)
            case c2 => first | exact ⟨rfl, rfl, rfl⟩ | (intro u hu; simp at hu; rcases hu with rfl | rfl | rfl <;> rfl)
            case c3 => unfold maxLen; omega
            case c5 => have := hkr.size; simp; omega
            intro v' w2 ho2 hg2 hm2
            have hk2 : Kept (fun _ => False) w w2 := ((hkr.alloc _).alloc _).grown hg2 (fun j hj => by cases hj)
            clear hg2 hm2
            go_wp2
            go_roundw
            case rel => exact ⟨b + 1, by omega, by go_num, .inr ⟨by omega, _, by simpa using ho2⟩, hk2⟩
            case measure => simp [intOf]; omega
          · rw [if_neg hbc] at hixb
            go_wp2
            go_roundw
            case rel =>
              refine ⟨b + 1, by omega, by go_num, ?_, hkr⟩
              rcases hu with ⟨h1, h2⟩ | ⟨h1, h2⟩
              · exact .inl ⟨by omega, h2⟩
              · exact .inr ⟨by omega, h2⟩
            case measure => simp [intOf]; omega
        · have hdec : decide ((b : Int) < 256) = false := by simp; omega
          clear hix hasz
          go_wp2
          go_ret
          rcases hu with ⟨h1, h2⟩ | ⟨h1, mb, h2⟩
          · omega
          · exact ⟨_, mb, rfl, h2, hkr⟩

end Go.Proofs.Ytegnkfdbmmndaaa
end

/- Measure -/
section
/- The lengths of the codes of a text of one byte. -/
namespace Go.Proofs.Ytegnkfdbmmndaaa
open Go.RowKit

theorem Kept.setRow {S : Nat → Prop} {a b : World} (h : Kept S a b) {g : Nat} (hp : a.heap.size ≤ g ∨ S g) (cs : Array Value) : Kept S a (b.setRow g cs) := by
  refine ⟨h.os, h.tape, h.output, by have := h.size; simp; omega, fun j hj hn => ?_⟩
  have hne : j ≠ g := by rintro rfl; rcases hp with hp | hp; · omega
                         · exact hn hp
  exact (setRow_other b g j cs hne).trans (h.block j hj hn)

/-- A whole array is stored into a block. -/
theorem wpList_store_row {P : Program} (w : World) {ops : Array Oper} {rest : List Oper} {op : Oper} {a : Act} {Q : Exit → Act → World → Prop} (hgd : op.guard = none) (ty : TypeId) (x y : Operand) (ho : op.op = .store ty x y)
    (g : Nat) (t : TypeId) (old cells : Array Value) (hx : a.eval x = .pointer (some ⟨g, 0, none⟩)) (hy : a.eval y = .agg cells) (hg : w.heap[g]? = some (.cells old t (0, 0)))
    (hi : (P.info? ty).map (·.size) = some cells.size) (hs : old.size = cells.size) (h1 : cells.all (·.oneCell') = true)
    (h : ∀ w', w'.heap[g]? = some (.cells cells t (0, 0)) → Kept (fun j => j = g) w w' → wpList P ops Q rest (a.put op.dst undef) w') : wpList P ops Q (op :: rest) a w := by
  refine wpList_plain hgd fun K hK => ?_
  unfold Oper.wp execOp
  simp only [ho, hx, hy, Instr.storeAt, Instr.sureAddr, Sem.run_bind, Sem.run_pure, Result.andThen_ok, run_storeVar_row w g t ty old cells hg hi hs h1]
  exact hK _ _ (h _ (setRow_heap w g old cells t _ hg) ((Kept.refl (fun j => j = g) w).setRow (g := g) (.inr rfl) _))

theorem icells_one (l : List Nat) : (icells l).toArray.all (·.oneCell') = true := by
  rw [Array.all_eq_true_iff_forall_mem]
  intro v hv
  have : v ∈ icells l := by simpa using hv
  unfold icells at this
  obtain ⟨x, _, rfl⟩ := List.mem_map.1 this
  rfl
theorem icells_size (l : List Nat) : (icells l).toArray.size = l.length := by simp [icells]
theorem info_len : (Try.prog.info? 39).map (·.size) = some 256 := by kernel_rfl

theorem zero_set (cn : Nat) : Try.zeroCells39.setIfInBounds cn (.int .i64 1) = (icells (Hm.oneAt 256 cn 1)).toArray := by
  rw [zero_len]
  unfold Hm.oneAt
  apply Array.ext'
  rw [Array.toList_setIfInBounds]
  simp only [icells, List.map_set]
  rfl

set_option maxHeartbeats 2000000 in
theorem measure_one (s : ByteArray) (cn : Nat) (w : World) (hs : s.size ≤ 6000) (hm : 1 ≤ s.size) (hcn : cn < 256) (hc : ∀ k, (h : k < s.size) → s[k].toNat = cn) :
    Calls Try.prog 11 #[.string s] w fun e w' => e = .returned (.agg (icells (Hm.oneAt 256 cn 1)).toArray) ∧ Kept (fun _ => False) w w' := by
  have hsg := singles_one s cn (w.alloc (.cells Try.zeroCells39 39)) hs hm hcn hc
  go_enter Try.func11, Try.ntmps11
  go_wp2_with fail
  refine hsg.mono ?_
  rintro e w1 ⟨v, mb, rfl, ho1, hk1⟩
  clear hsg hc
  obtain ⟨g, cap, hv, hnc, hgw⟩ := owns_some ho1 (by omega)
  subst hv
  have hs1 : w.heap.size + 1 ≤ w1.heap.size := by have := hk1.size; simpa using this
  have hg0 : w.heap.size < g := by have := ho1.lt g rfl; simp at this; omega
  have hl1 : w1.cell? ⟨g, 1, none⟩ = some (.int .u8 (cn : Nat)) := by rw [ho1.cellAt 1 (by omega)]; rfl
  have hres1 : w1.heap[w.heap.size]? = some (.cells Try.zeroCells39 39 (0, 0)) := hk1.row (heap_alloc_new w _) id
  have hkw1 : Kept (fun _ => False) w w1 := ((Kept.refl (fun _ => False) w).alloc _).trans hk1 (fun _ _ h => h)
  clear ho1 hk1
  have hgr : ((w1.alloc (.cells #[.slice (some ⟨g, 0, none⟩) 1 cap] 83)).alloc (.cells (icells (Hm.oneAt 256 cn 1)).toArray 39)).cell? ⟨w1.heap.size, 0, none⟩ = some (.slice (some ⟨g, 0, none⟩) 1 cap) := cell_of_row _ _ 0 _ _ _ (heap_alloc2_old w1 _ _)
  have hlen0 : ((w1.alloc (.cells #[.slice (some ⟨g, 0, none⟩) 1 cap] 83)).alloc (.cells (icells (Hm.oneAt 256 cn 1)).toArray 39)).heap[w1.heap.size + 1]? = some (.cells (icells (Hm.oneAt 256 cn 1)).toArray 39 (0, 0)) := heap_alloc2_new w1 _ _
  have hres2 : ((w1.alloc (.cells #[.slice (some ⟨g, 0, none⟩) 1 cap] 83)).alloc (.cells (icells (Hm.oneAt 256 cn 1)).toArray 39)).heap[w.heap.size]? = some (.cells Try.zeroCells39 39 (0, 0)) := by
    rw [Below.heap_alloc _ _ _ (by simp; omega), Below.heap_alloc _ _ _ (by omega)]; exact hres1
  have hkw2 : Kept (fun _ => False) w ((w1.alloc (.cells #[.slice (some ⟨g, 0, none⟩) 1 cap] 83)).alloc (.cells (icells (Hm.oneAt 256 cn 1)).toArray 39)) := (hkw1.alloc _).alloc _
  have HP : Hid (((w1.alloc (.cells #[.slice (some ⟨g, 0, none⟩) 1 cap] 83)).alloc (.cells (icells (Hm.oneAt 256 cn 1)).toArray 39)).cell? ⟨w1.heap.size, 0, none⟩ = some (.slice (some ⟨g, 0, none⟩) 1 cap) ∧
    ((w1.alloc (.cells #[.slice (some ⟨g, 0, none⟩) 1 cap] 83)).alloc (.cells (icells (Hm.oneAt 256 cn 1)).toArray 39)).heap[w1.heap.size + 1]? = some (.cells (icells (Hm.oneAt 256 cn 1)).toArray 39 (0, 0)) ∧
    ((w1.alloc (.cells #[.slice (some ⟨g, 0, none⟩) 1 cap] 83)).alloc (.cells (icells (Hm.oneAt 256 cn 1)).toArray 39)).heap[w.heap.size]? = some (.cells Try.zeroCells39 39 (0, 0)) ∧
    Kept (fun _ => False) w ((w1.alloc (.cells #[.slice (some ⟨g, 0, none⟩) 1 cap] 83)).alloc (.cells (icells (Hm.oneAt 256 cn 1)).toArray 39))) := ⟨hgr, hlen0, hres2, hkw2⟩
  clear hgr hlen0 hres2 hkw2 hkw1 hres1
  have hzs : Try.zeroCells39.size = 256 := by rw [zero_len, icells_size, List.length_replicate]
  go_wp2_with fail
  rw [zero_set]
  generalize (w1.alloc (.cells #[.slice (some ⟨g, 0, none⟩) 1 cap] 83)).alloc (.cells (icells (Hm.oneAt 256 cn 1)).toArray 39) = W at HP ⊢
  have hasz : (icells (Hm.oneAt 256 cn 1)).toArray.size = 256 := by rw [icells_size, Hm.oneAt_length]
  have hall := icells_one (Hm.oneAt 256 cn 1)
  generalize hA : (icells (Hm.oneAt 256 cn 1)).toArray = arr at HP hasz hall
  have HA : Hid ((icells (Hm.oneAt 256 cn 1)).toArray = arr) := hA
  clear hA
  obtain ⟨hgr, hlen0, hres2, hkw2⟩ := HP.out
  have HX : Hid (W.heap[w1.heap.size + 1]? = some (.cells arr 39 (0, 0)) ∧ W.heap[w.heap.size]? = some (.cells Try.zeroCells39 39 (0, 0)) ∧ arr.all (·.oneCell') = true ∧ Kept (fun _ => False) w W ∧ Try.zeroCells39.size = arr.size) := ⟨hlen0, hres2, hall, hkw2, by rw [hzs, hasz]⟩
  clear hlen0 hres2 hall hkw2 HP hzs
  refine wp_loop_rounds 1 ?_
  rw [rounds_succ]
  go_wp2_with (first
    | (refine wpList_load_row rfl 39 _ rfl (w1.heap.size + 1) rfl 39 arr (0, 0) _ HX.out.1 Try.underlying39 rfl (by rw [hasz]; exact info_len) ?_)
    | (refine wpList_store_row _ rfl 39 _ _ rfl w.heap.size 39 _ arr rfl rfl HX.out.2.1 (by rw [hasz]; exact info_len) HX.out.2.2.2.2 HX.out.2.2.1 ?_; intro w3 hw3 hk3))
  refine bodyPost_ret (v := .agg arr) (results_cell_row Try.results11 _ w3 w.heap.size 39 arr (0, 0) _ rfl hw3 Try.underlying39 rfl (by rw [hasz]; exact info_len)) rfl ⟨by rw [HA.out], ?_⟩
  exact HX.out.2.2.2.1.trans hk3 (fun j h1 h2 => by omega)

end Go.Proofs.Ytegnkfdbmmndaaa
end

/- Coded -/
section
/- The bytes that have a code; the lengths of the codes, added to a row of bytes. -/
namespace Go.Proofs.Ytegnkfdbmmndaaa
open Go.RowKit

namespace Hm
def codedTo (L : List Nat) (k : Nat) : List UInt8 := ((List.range k).filter fun b => decide (0 < L.getD b 0)).map UInt8.ofNat
def codedOf (L : List Nat) : List UInt8 := codedTo L 256
theorem codedTo_succ (L : List Nat) (k : Nat) : codedTo L (k + 1) = codedTo L k ++ if 0 < L.getD k 0 then [UInt8.ofNat k] else [] := by
  unfold codedTo
  rw [List.range_succ, List.filter_append, List.map_append]
  congr 1
  rw [List.filter_cons, List.filter_nil]
  by_cases e : 0 < L.getD k 0
  · rw [if_pos (by simpa using e), if_pos e]; rfl
  · rw [if_neg (by simpa using e), if_neg e]; rfl
theorem codedTo_le (L : List Nat) (k : Nat) : (codedTo L k).length ≤ k := by
  unfold codedTo
  rw [List.length_map]
  have := List.length_filter_le (fun b => decide (0 < L.getD b 0)) (List.range k)
  simpa using this
def lenBytes (L : List Nat) (l : List UInt8) : List UInt8 := l.flatMap fun b => [b, UInt8.ofNat (L.getD b.toNat 0)]
theorem lenBytes_take (L : List Nat) (l : List UInt8) (k : Nat) (h : k < l.length) : lenBytes L (l.take (k + 1)) = lenBytes L (l.take k) ++ [l[k], UInt8.ofNat (L.getD l[k].toNat 0)] := by
  rw [List.take_succ_eq_append_getElem h]; unfold lenBytes; rw [List.flatMap_append]; congr 1
theorem lenBytes_length (L : List Nat) (l : List UInt8) : (lenBytes L l).length = 2 * l.length := by
  unfold lenBytes
  induction l with
  | nil => rfl
  | cons b r ih => rw [List.flatMap_cons, List.length_append, ih]; simp; try omega
end Hm

set_option maxHeartbeats 1000000 in
theorem bytes_any (L : List Nat) (w : World) (hL : L.length = 256) (hx : ∀ x ∈ L, x ≤ 100000) :
    Calls Try.prog 50 #[.agg (icells L).toArray] w fun e w' => ∃ v, e = .returned v ∧ w'.ownsRow w.heap.size 5 1 v (Hm.codedOf L).length (Hm.bcells (Hm.codedOf L)) ∧ Kept (fun _ => False) w w' := by
  obtain ⟨i0, hi, hz0, hz1, hz2⟩ := info_parts info_u8
  have hasz : (icells L).toArray.size = 256 := by rw [icells_size, hL]
  have hix : ∀ b, (h : b < 256) → ∃ x : Nat, x ≤ 100000 ∧ L.getD b 0 = x ∧ ∀ W, (Instr.index 39 (.agg (icells L).toArray) (.int .i64 (b : Nat))).run Try.prog W = .ok (.int .i64 (x : Nat)) W := by
    intro b hb
    refine ⟨L[b], hx _ (List.getElem_mem _), by rw [List.getD_eq_getElem?_getD, List.getElem?_eq_getElem (by omega)]; rfl, fun W => ?_⟩
    exact run_index_arr 39 256 Try.underlying39 L b (by omega) hL W
  have hbox : (w.alloc (.cells (icells L).toArray 39)).heap[w.heap.size]? = some (.cells (icells L).toArray 39 (0, 0)) := heap_alloc_new w _
  generalize (icells L).toArray = arr at *
  clear hL hx
  go_enter Try.func50, Try.ntmps50
  go_wp2_with (refine wpList_load_row rfl 39 _ rfl w.heap.size rfl 39 arr (0, 0) _ hbox Try.underlying39 rfl (by rw [hasz]; exact info_len) ?_)
  clear hbox hasz
  go_loopw [3, 7] (fun u i wr => ∃ b : Nat, b ≤ 256 ∧ i = .int .i64 b ∧ wr.ownsRow w.heap.size 5 1 u (Hm.codedTo L b).length (Hm.bcells (Hm.codedTo L b)) ∧ Kept (fun _ => False) w wr) (fun _ i _ => 256 - (intOf i).toNat)
  case atStart => exact ⟨0, by omega, rfl, by simpa [Hm.codedTo, Hm.bcells] using World.ownsRow_nil _ w.heap.size 5 1, (Kept.refl _ _).alloc _⟩
  case round =>
    obtain ⟨b, hb, rfl, hor, hkr⟩ := hrel
    have hcl := Hm.codedTo_le L b
    by_cases hlt : b < 256
    · obtain ⟨x, hx, hLx, hixb⟩ := hix b hlt
      have HT : Hid (Hm.codedTo L (b + 1) = Hm.codedTo L b ++ if 0 < x then [UInt8.ofNat b] else []) := by rw [← hLx]; exact Hm.codedTo_succ L b
      have hdec : decide ((b : Int) < 256) = true := by simp; omega
      clear hix hLx
      by_cases hpos : 0 < x
      · have hdec2 : decide (0 < x) = true := by simp; omega
        have HT2 : Hid (Hm.bcells (Hm.codedTo L (b + 1)) = Hm.bcells (Hm.codedTo L b) ++ [.int .u8 (b : Nat)] ∧ (Hm.codedTo L (b + 1)).length = (Hm.codedTo L b).length + 1) := by
          constructor
          · rw [HT.out, if_pos hpos]
            unfold Hm.bcells
            rw [List.map_append, List.map_cons, List.map_nil, Hm.u8cell hlt]
          · rw [HT.out, if_pos hpos]; simp
        clear HT
        go_wp2_with (at_builtin; refine wpList_append_mv _ rfl (.tmp 13) (.tmp 16) 23 rfl w.heap.size 5 i0 (.int .u8 0) 1 1 Try.underlying23 hi hz0 hz1 hz2 rfl (by decide) _ _ _ rfl (hor.alloc _) ⟨wr.heap.size, 0, none⟩ 1 1 [.int .u8 (b : Nat)] rfl rfl ?c1 ?c2 ?c3 ?c4 ?c5 ?_)
        case c1 => exact cell_one_new _ _ _
        case c2 => intro u hu; simp at hu; subst hu; rfl
        case c3 => unfold maxLen; omega
        case c4 => omega
        case c5 => have := hkr.size; simp; omega
        intro v' w2 ho2 hg2 hm2
        have hk2 : Kept (fun _ => False) w w2 := (hkr.alloc _).grown hg2 (fun j hj => .inl (hor.lt j hj).1)
        clear hg2 hm2 hor hkr
        go_wp2
        go_roundw
        case rel => exact ⟨b + 1, by omega, by go_num, by rw [HT2.out.1, HT2.out.2]; exact ho2, hk2⟩
        case measure => simp [intOf]; omega
      · have hx0 : x = 0 := by omega
        subst hx0
        have HT2 : Hid (Hm.codedTo L (b + 1) = Hm.codedTo L b) := by
          show _ = _
          rw [HT.out, if_neg hpos, List.append_nil]
        clear HT
        go_wp2
        go_roundw
        case rel => exact ⟨b + 1, by omega, by go_num, by rw [HT2.out]; exact hor, hkr⟩
        case measure => simp [intOf]; omega
    · have hdec : decide ((b : Int) < 256) = false := by simp; omega
      obtain rfl : b = 256 := by omega
      clear hix
      go_wp2
      go_ret
      exact ⟨_, rfl, hor, hkr⟩

set_option maxHeartbeats 2000000 in
theorem addLengths_any (base : Nat) (v : Value) (n : Nat) (l : List UInt8) (L : List Nat) (w : World) (ho : w.ownsRow base 5 1 v n (Hm.bcells l)) (hb : base ≤ w.heap.size) (hL : L.length = 256) (hx : ∀ x ∈ L, x ≤ 255) (hn : n ≤ 100000) :
    Calls Try.prog 20 #[v, .agg (icells L).toArray] w fun e w' => ∃ v', e = .returned v' ∧ w'.ownsRow base 5 1 v' (n + 2 + 2 * (Hm.codedOf L).length) (Hm.bcells (l ++ Hm.leBytes (Hm.codedOf L).length 2 ++ Hm.lenBytes L (Hm.codedOf L))) ∧ Kept (fun j => v.ownBlock = some j) w w' ∧ Moved w v v' := by
  obtain ⟨i0, hi, hz0, hz1, hz2⟩ := info_parts info_u8
  have hasz : (icells L).toArray.size = 256 := by rw [icells_size, hL]
  have hcl := Hm.codedTo_le L 256
  have hv0 : ∀ j, v.ownBlock = some j → j < w.heap.size := fun j hj => (ho.lt j hj).2
  have hby := bytes_any L (w.alloc (.cells (icells L).toArray 39)) hL (fun x hxm => by have := hx x hxm; omega)
  have hbox : (w.alloc (.cells (icells L).toArray 39)).heap[w.heap.size]? = some (.cells (icells L).toArray 39 (0, 0)) := heap_alloc_new w _
  have hcell : ∀ W : World, W.heap[w.heap.size]? = some (.cells (icells L).toArray 39 (0, 0)) → ∀ b : Nat, b < 256 → W.cell? ⟨w.heap.size, b, none⟩ = some (.int .i64 (L.getD b 0 : Nat)) := by
    intro W hW b hb
    rw [cell_of_row _ _ b _ _ _ hW]
    simp [icells, List.getD_eq_getElem?_getD, List.getElem?_eq_getElem (show b < L.length from by omega)]
  have hgx : ∀ b : Nat, b < 256 → L.getD b 0 ≤ 255 := fun b hb => by
    rw [List.getD_eq_getElem?_getD, List.getElem?_eq_getElem (show b < L.length from by omega)]; exact hx _ (List.getElem_mem _)
  change (Hm.codedOf L).length ≤ 256 at hcl
  generalize hC : Hm.codedOf L = C at *
  generalize (icells L).toArray = arr at *
  clear hx hL hC
  go_enter Try.func20, Try.ntmps20
  go_wp2_with (first
    | (refine wpList_load_row rfl 39 _ rfl w.heap.size rfl 39 arr (0, 0) _ hbox Try.underlying39 rfl (by rw [hasz]; exact info_len) ?_)
    | (go_at_call 50; fail))
  refine hby.mono ?_
  rintro e w2 ⟨vc, rfl, hoc, hk2⟩
  clear hby
  have hs2 : w.heap.size + 1 ≤ w2.heap.size := by have := hk2.size; simpa using this
  have hbox2 := hk2.row hbox id
  have hvc : ∀ j, vc.ownBlock = some j → w.heap.size < j ∧ j < w2.heap.size := fun j hj => by have := hoc.lt j hj; simp at this; omega
  have ho2 : w2.ownsRow base 5 1 v n (Hm.bcells l) := (((Kept.refl (fun _ => False) w).alloc _).trans hk2 (fun _ _ h => h)).owns ho (fun _ _ h => h)
  have hkw2 : Kept (fun j => v.ownBlock = some j) w w2 := (((Kept.refl (fun _ => False) w).alloc _).trans hk2 (fun _ _ h => h)).wider (fun _ _ h => h.elim)
  obtain ⟨ac, cc, hvce, hcc⟩ := slice_shape hoc
  subst hvce
  have han := addNumber_any base v n C.length 2 l w2 ho2 (by omega) (by omega) (by omega) (by omega)
  clear hbox hk2 ho
  go_wp2_with (first | (go_at_call 16; fail))
  refine han.mono ?_
  rintro e w3 ⟨v3, rfl, ho3, hk3, hm3⟩
  clear han
  have hbox3 := hk3.row hbox2 (fun e => by have := hv0 _ e; omega)
  have hoc3 := hk3.owns hoc (fun j hj e => by have := hv0 _ e; have := hvc j hj; omega)
  go_wp2
  go_loopw [0, 16] (fun u i wr => ∃ k : Nat, k ≤ C.length ∧ i = .int .i64 k ∧ wr.ownsRow base 5 1 u (n + 2 + 2 * k) (Hm.bcells (l ++ Hm.leBytes C.length 2 ++ Hm.lenBytes L (C.take k))) ∧ Kept (fun j => v.ownBlock = some j) w2 wr ∧ Moved w2 v u) (fun _ i _ => C.length - (intOf i).toNat)
  case atStart => exact ⟨0, Nat.zero_le _, rfl, by simpa [Hm.lenBytes] using ho3, hk3, hm3⟩
  case round =>
    clear ho3 hk3 hm3 hbox3 hoc3 ho2
    obtain ⟨k, hk, rfl, hor, hkr, hmr⟩ := hrel
    have hocr := hkr.owns hoc (fun j hj e => by have := hv0 _ e; have := hvc j hj; omega)
    have hboxr := hkr.row hbox2 (fun e => by have := hv0 _ e; omega)
    by_cases hlt : k < C.length
    · obtain ⟨g, cap, hv, _, hgw⟩ := owns_some hocr (by omega)
      simp only [Value.slice.injEq] at hv
      obtain ⟨hac, _, hcap⟩ := hv
      subst hac
      subst hcap
      have hck : wr.cell? ⟨g, k, none⟩ = some (.int .u8 (C[k].toNat : Nat)) := by
        rw [hocr.cellAt k (by omega)]
        simp [Hm.bcells, hlt]
      have HT : Hid (Hm.lenBytes L (C.take (k + 1)) = Hm.lenBytes L (C.take k) ++ [C[k], UInt8.ofNat (L.getD C[k].toNat 0)]) := Hm.lenBytes_take L C k hlt
      have hb256 : C[k].toNat < 256 := C[k].toNat_lt
      have hcb := hcell wr hboxr C[k].toNat hb256
      have hgb := hgx C[k].toNat hb256
      generalize hCk : C[k] = ck at *
      generalize hLk : L.getD ck.toNat 0 = x at *
      generalize hcn : ck.toNat = cn at *
      have HC : Hid (ck.toNat = cn) := hcn
      have hdec : decide ((k : Int) < (C.length : Int)) = true := by simp; omega
      clear hocr hboxr hcell hgx hoc hbox2 hcn hLk hCk
      go_wp2_with (at_builtin; refine wpList_append_mv _ rfl (.tmp 20) (.tmp 26) 23 rfl base 5 i0 (.int .u8 0) 1 1 Try.underlying23 hi hz0 hz1 hz2 rfl (by decide) _ _ _ rfl (hor.alloc _) ⟨wr.heap.size, 0, none⟩ 2 2 [.int .u8 (cn : Nat), .int .u8 (x : Nat)] rfl rfl ?c1 ?c2 ?c3 ?c4 ?c5 ?_)
      case c1 => exact cell_two_new _ _ _ _
      case c2 => first | exact ⟨rfl, rfl⟩ | (intro u hu; simp at hu; rcases hu with rfl | rfl <;> rfl)
      case c3 => unfold maxLen; omega
      case c4 => omega
      case c5 => have := hkr.size; simp; omega
      intro v' w5 ho5 hg5 hm5
      have hk5 : Kept (fun j => v.ownBlock = some j) w2 w5 := (hkr.alloc _).grown hg5 (fun j hj => (hmr j hj).elim (fun h => .inr h) .inl)
      have hmv5 : Moved w2 v v' := hmr.trans hm5 (by have := hkr.size; simp; omega)
      clear hg5 hm5 hor hkr hmr
      go_wp2
      go_roundw
      case rel =>
        refine ⟨k + 1, by omega, by go_num, ?_, hk5, hmv5⟩
        have e : Hm.bcells (l ++ Hm.leBytes C.length 2 ++ Hm.lenBytes L (C.take (k + 1))) = Hm.bcells (l ++ Hm.leBytes C.length 2 ++ Hm.lenBytes L (C.take k)) ++ [.int .u8 (cn : Nat), .int .u8 (x : Nat)] := by
          rw [HT.out, ← List.append_assoc]
          unfold Hm.bcells
          rw [List.map_append (l₂ := [ck, UInt8.ofNat x]), List.map_cons, List.map_cons, List.map_nil, Hm.u8cell (by omega), HC.out]
        rw [e, show n + 2 + 2 * (k + 1) = n + 2 + 2 * k + 2 from by omega]; simpa [List.append_assoc] using ho5
      case measure => simp [intOf]; omega
    · obtain rfl : k = C.length := by omega
      rw [List.take_length] at hor
      have hdec : decide ((C.length : Int) < (C.length : Int)) = false := by simp
      clear hcell hgx
      go_wp2
      go_ret
      refine ⟨_, rfl, hor, hkw2.trans hkr (fun _ _ h => h), fun j hj => ?_⟩
      rcases hmr j hj with h | h
      · exact .inl h
      · exact .inr (by omega)

end Go.Proofs.Ytegnkfdbmmndaaa
end

/- StabM -/
section
/- Rows that are turned about and merged, as plain arrays: what slices.SortStableFunc does to one. -/
namespace Go.Proofs.Ytegnkfdbmmndaaa
open Go.Sort
namespace Hm

/-- cf tells the order of the keys, where it is asked of what may stand on the left and on the right. -/
structure Ord (cf : UInt8 → UInt8 → Int) (key : UInt8 → Nat) (Rl : UInt8 → UInt8 → Prop) : Prop where
  lt : ∀ x y, Rl x y → (cf y x < 0 ↔ key y < key x)
  ne : ∀ x y, Rl x y → key x ≠ key y

def Srt (key : UInt8 → Nat) (d : Array UInt8) (a b : Nat) : Prop := ∀ i j, a ≤ i → i < j → j < b → key d[i]! < key d[j]!
def Mm (d : Array UInt8) (a b : Nat) (x : UInt8) : Prop := ∃ k, a ≤ k ∧ k < b ∧ d[k]! = x
def LR (Rl : UInt8 → UInt8 → Prop) (d : Array UInt8) (a m b : Nat) : Prop := ∀ i j, a ≤ i → i < m → m ≤ j → j < b → Rl d[i]! d[j]!
structure Same (d d' : Array UInt8) (a b : Nat) : Prop where
  size : d'.size = d.size
  out : ∀ k, (k < a ∨ b ≤ k) → d'[k]! = d[k]!
  mem : ∀ x, Mm d' a b x ↔ Mm d a b x
structure Swr (d d' : Array UInt8) (a b n : Nat) : Prop where
  size : d'.size = d.size
  out : ∀ k, (k < a ∨ (a + n ≤ k ∧ k < b) ∨ b + n ≤ k) → d'[k]! = d[k]!
  lo : ∀ k, a ≤ k → k < a + n → d'[k]! = d[k - a + b]!
  hi : ∀ k, b ≤ k → k < b + n → d'[k]! = d[k - b + a]!
structure Rot (d d' : Array UInt8) (a m b : Nat) : Prop where
  size : d'.size = d.size
  out : ∀ k, (k < a ∨ b ≤ k) → d'[k]! = d[k]!
  lo : ∀ k, a ≤ k → k < a + (b - m) → d'[k]! = d[k + (m - a)]!
  hi : ∀ k, a + (b - m) ≤ k → k < b → d'[k]! = d[k - (b - m)]!

theorem Same.refl (d : Array UInt8) (a b : Nat) : Same d d a b := ⟨rfl, fun _ _ => rfl, fun _ => Iff.rfl⟩
theorem Same.trans {d e f : Array UInt8} {a b : Nat} (h : Same d e a b) (k : Same e f a b) : Same d f a b :=
  ⟨k.size.trans h.size, fun i hi => (k.out i hi).trans (h.out i hi), fun x => (k.mem x).trans (h.mem x)⟩
/-- What is the same in a part is the same in the whole. -/
theorem Same.wider {d e : Array UInt8} {a b a' b' : Nat} (h : Same d e a b) (ha : a' ≤ a) (hb : b ≤ b') : Same d e a' b' := by
  refine ⟨h.size, fun k hk => h.out k (by omega), fun x => ⟨fun ⟨k, h1, h2, h3⟩ => ?_, fun ⟨k, h1, h2, h3⟩ => ?_⟩⟩
  · by_cases hk : a ≤ k ∧ k < b
    · obtain ⟨q, q1, q2, q3⟩ := (h.mem x).1 ⟨k, hk.1, hk.2, h3⟩
      exact ⟨q, by omega, by omega, q3⟩
    · exact ⟨k, h1, h2, by rw [← h.out k (by omega)]; exact h3⟩
  · by_cases hk : a ≤ k ∧ k < b
    · obtain ⟨q, q1, q2, q3⟩ := (h.mem x).2 ⟨k, hk.1, hk.2, h3⟩
      exact ⟨q, by omega, by omega, q3⟩
    · exact ⟨k, h1, h2, by rw [h.out k (by omega)]; exact h3⟩
theorem Srt.out {key : UInt8 → Nat} {d e : Array UInt8} {a b a' b' : Nat} (hs : Srt key d a' b') (h : Same d e a b) (hab : b' ≤ a ∨ b ≤ a') : Srt key e a' b' := fun i j h1 h2 h3 => by
  rw [h.out i (by omega), h.out j (by omega)]; exact hs i j h1 h2 h3
theorem Srt.one (key : UInt8 → Nat) (d : Array UInt8) (a b : Nat) (h : b ≤ a + 1) : Srt key d a b := fun i j h1 h2 h3 => by omega
theorem Srt.le {key : UInt8 → Nat} {d : Array UInt8} {a b i j : Nat} (hs : Srt key d a b) (h1 : a ≤ i) (h2 : i ≤ j) (h3 : j < b) : key d[i]! ≤ key d[j]! := by
  rcases Nat.lt_or_ge i j with h | h
  · exact Nat.le_of_lt (hs i j h1 h h3)
  · obtain rfl : i = j := by omega
    exact Nat.le_refl _

theorem Swr.zero (d : Array UInt8) (a b : Nat) : Swr d d a b 0 := ⟨rfl, fun _ _ => rfl, fun k h1 h2 => by omega, fun k h1 h2 => by omega⟩
theorem Swr.step {d e : Array UInt8} {a b n : Nat} (h : Swr d e a b n) (hab : a + n < b) (hs : b + n < d.size) : Swr d (swp e (a + n) (b + n)) a b (n + 1) := by
  have hsz := h.size
  have hl : (swp e (a + n) (b + n))[a + n]! = d[b + n]! := by rw [swp_left _ _ _ (by omega) (by omega)]; exact h.out _ (by omega)
  have hr : (swp e (a + n) (b + n))[b + n]! = d[a + n]! := by rw [swp_right _ _ _ (by omega)]; exact h.out _ (by omega)
  refine ⟨by rw [size_swp]; exact hsz, fun k hk => ?_, fun k h1 h2 => ?_, fun k h1 h2 => ?_⟩
  · rw [swp_other _ _ _ _ (by omega) (by omega)]; exact h.out k (by omega)
  · by_cases e1 : k = a + n
    · subst e1; rw [hl]; congr 1; omega
    · rw [swp_other _ _ _ _ (by omega) (by omega)]; exact h.lo k h1 (by omega)
  · by_cases e1 : k = b + n
    · subst e1; rw [hr]; congr 1; omega
    · rw [swp_other _ _ _ _ (by omega) (by omega)]; exact h.hi k h1 (by omega)

theorem Rot.id_left (d : Array UInt8) (m b : Nat) (h : m ≤ b) : Rot d d m m b := ⟨rfl, fun _ _ => rfl, fun k h1 h2 => by congr 1; omega, fun k h1 h2 => by omega⟩
theorem Rot.id_right (d : Array UInt8) (a m : Nat) : Rot d d a m m := ⟨rfl, fun _ _ => rfl, fun k h1 h2 => by omega, fun k h1 h2 => by congr 1; omega⟩
theorem Rot.of_swr {d e : Array UInt8} {m i : Nat} (h : Swr d e (m - i) m i) (hi : i ≤ m) : Rot d e (m - i) m (m + i) := by
  refine ⟨h.size, fun k hk => h.out k (by omega), fun k h1 h2 => ?_, fun k h1 h2 => ?_⟩
  · rw [h.lo k h1 (by omega)]; congr 1; omega
  · rw [h.hi k (by omega) (by omega)]; congr 1; omega
/-- The longer part is on the left: so much of it as the right has is exchanged with the right. -/
theorem Rot.by_left {d e f : Array UInt8} {m i j : Nat} (h : Swr d e (m - i) m j) (hij : j < i) (hi : i ≤ m) (r : Rot e f (m - (i - j)) m (m + j)) : Rot d f (m - i) m (m + j) := by
  refine ⟨r.size.trans h.size, fun k hk => ?_, fun k h1 h2 => ?_, fun k h1 h2 => ?_⟩
  · rw [r.out k (by omega)]; exact h.out k (by omega)
  · rw [r.out k (by omega), h.lo k h1 (by omega)]; congr 1; omega
  · by_cases h3 : k < m - (i - j) + j
    · rw [r.lo k (by omega) (by omega), h.hi _ (by omega) (by omega)]; congr 1; omega
    · rw [r.hi k (by omega) (by omega), h.out _ (by omega)]
theorem Rot.by_right {d e f : Array UInt8} {m i j : Nat} (h : Swr d e (m - i) (m + j - i) i) (hij : i < j) (hi : i ≤ m) (r : Rot e f (m - i) m (m + (j - i))) : Rot d f (m - i) m (m + j) := by
  refine ⟨r.size.trans h.size, fun k hk => ?_, fun k h1 h2 => ?_, fun k h1 h2 => ?_⟩
  · rw [r.out k (by omega)]; exact h.out k (by omega)
  · by_cases h3 : k < m - i + (j - i)
    · rw [r.lo k (by omega) (by omega), h.out _ (by omega)]
    · rw [r.hi k (by omega) (by omega), h.lo _ (by omega) (by omega)]; congr 1; omega
  · rw [r.out k (by omega), h.hi k (by omega) (by omega)]; congr 1; omega

/-- A turn keeps what is there. -/
theorem Rot.same {d e : Array UInt8} {s m t : Nat} (r : Rot d e s m t) (h1 : s ≤ m) (h2 : m ≤ t) : Same d e s t := by
  refine ⟨r.size, r.out, fun x => ⟨fun ⟨k, k1, k2, k3⟩ => ?_, fun ⟨k, k1, k2, k3⟩ => ?_⟩⟩
  · by_cases hk : k < s + (t - m)
    · exact ⟨k + (m - s), by omega, by omega, by rw [← r.lo k k1 hk]; exact k3⟩
    · exact ⟨k - (t - m), by omega, by omega, by rw [← r.hi k (by omega) k2]; exact k3⟩
  · by_cases hk : k < m
    · exact ⟨k + (t - m), by omega, by omega, by rw [r.hi _ (by omega) (by omega), show k + (t - m) - (t - m) = k from by omega]; exact k3⟩
    · exact ⟨k - (m - s), by omega, by omega, by rw [r.lo _ (by omega) (by omega), show k - (m - s) + (m - s) = k from by omega]; exact k3⟩

/-- What the two halves are behind the turn. -/
structure Halves (key : UInt8 → Nat) (Rl : UInt8 → UInt8 → Prop) (d d1 : Array UInt8) (a s mid e b : Nat) : Prop where
  same : Same d d1 a b
  s1 : Srt key d1 a s
  s2 : Srt key d1 s mid
  lr1 : LR Rl d1 a s mid
  s3 : Srt key d1 mid e
  s4 : Srt key d1 e b
  lr2 : LR Rl d1 mid e b
  cross : ∀ i j, a ≤ i → i < mid → mid ≤ j → j < b → key d1[i]! < key d1[j]!

theorem Halves.of {key : UInt8 → Nat} {Rl : UInt8 → UInt8 → Prop} {d d1 : Array UInt8} {a m b s mid e : Nat} (hs1 : Srt key d a m) (hs2 : Srt key d m b) (hlr : LR Rl d a m b)
    (ha : a ≤ s) (hsm : s ≤ m) (hsd : s ≤ mid) (he : e + s = mid + m) (heb : e ≤ b)
    (H1 : ∀ i j, a ≤ i → i < s → e ≤ j → j < b → key d[i]! < key d[j]!) (H2 : ∀ i j, s ≤ i → i < m → m ≤ j → j < e → key d[j]! < key d[i]!) (r : Rot d d1 s m e) : Halves key Rl d d1 a s mid e b := by
  have lo : ∀ k, s ≤ k → k < mid → d1[k]! = d[k + (m - s)]! := fun k h1 h2 => r.lo k h1 (by omega)
  have hi : ∀ k, mid ≤ k → k < e → d1[k]! = d[k - (e - m)]! := fun k h1 h2 => r.hi k (by omega) h2
  refine ⟨(r.same hsm (by omega)).wider ha heb, fun i j h1 h2 h3 => ?_, fun i j h1 h2 h3 => ?_, fun i j h1 h2 h3 h4 => ?_, fun i j h1 h2 h3 => ?_, fun i j h1 h2 h3 => ?_, fun i j h1 h2 h3 h4 => ?_, fun i j h1 h2 h3 h4 => ?_⟩
  · rw [r.out i (by omega), r.out j (by omega)]; exact hs1 i j h1 h2 (by omega)
  · rw [lo i h1 (by omega), lo j (by omega) h3]; exact hs2 _ _ (by omega) (by omega) (by omega)
  · rw [r.out i (by omega), lo j h3 h4]; exact hlr _ _ h1 (by omega) (by omega) (by omega)
  · rw [hi i h1 (by omega), hi j (by omega) h3]; exact hs1 _ _ (by omega) (by omega) (by omega)
  · rw [r.out i (by omega), r.out j (by omega)]; exact hs2 i j (by omega) h2 h3
  · rw [hi i h1 h2, r.out j (by omega)]; exact hlr _ _ (by omega) (by omega) (by omega) h4
  · by_cases c1 : i < s
    · rw [r.out i (by omega)]
      by_cases c2 : j < e
      · rw [hi j h3 c2]; exact hs1 _ _ h1 (by omega) (by omega)
      · rw [r.out j (by omega)]; exact H1 i j h1 c1 (by omega) h4
    · rw [lo i (by omega) h2]
      by_cases c2 : j < e
      · rw [hi j h3 c2]; exact H2 _ _ (by omega) (by omega) (by omega) (by omega)
      · rw [r.out j (by omega)]; exact hs2 _ _ (by omega) (by omega) h4

/-- Both halves are put in order. -/
theorem Halves.done {key : UInt8 → Nat} {Rl : UInt8 → UInt8 → Prop} {d d1 d2 d3 : Array UInt8} {a s mid e b : Nat} (h : Halves key Rl d d1 a s mid e b) (hm : a ≤ mid) (hb : mid ≤ b)
    (h2 : Same d1 d2 a mid) (k2 : Srt key d2 a mid) (h3 : Same d2 d3 mid b) (k3 : Srt key d3 mid b) : Same d d3 a b ∧ Srt key d3 a b := by
  refine ⟨h.same.trans ((h2.wider (Nat.le_refl _) hb).trans (h3.wider hm (Nat.le_refl _))), fun i j h4 h5 h6 => ?_⟩
  by_cases c1 : j < mid
  · rw [h3.out i (by omega), h3.out j (by omega)]; exact k2 i j h4 h5 c1
  by_cases c2 : mid ≤ i
  · exact k3 i j c2 h5 h6
  · obtain ⟨q, q1, q2, q3⟩ := (h2.mem _).1 ⟨i, h4, by omega, rfl⟩
    obtain ⟨p, p1, p2, p3⟩ := (h3.mem _).1 ⟨j, by omega, h6, rfl⟩
    rw [h3.out i (by omega), ← q3, ← p3, h2.out p (by omega)]
    exact h.cross q p q1 q2 p1 p2
theorem Srt.whole {key : UInt8 → Nat} {d : Array UInt8} {a s b : Nat} (h1 : Srt key d a s) (h2 : Srt key d s b) (hs : s ≤ a ∨ b ≤ s) : Srt key d a b := fun i j k1 k2 k3 => by
  rcases hs with h | h
  · exact h2 i j (by omega) k2 k3
  · exact h1 i j k1 k2 (by omega)
theorem LR.out {Rl : UInt8 → UInt8 → Prop} {d e : Array UInt8} {a b a' m' b' : Nat} (hs : LR Rl d a' m' b') (h : Same d e a b) (hab : b' ≤ a ∨ b ≤ a') : LR Rl e a' m' b' := fun i j h1 h2 h3 h4 => by
  rw [h.out i (by omega), h.out j (by omega)]; exact hs i j h1 h2 h3 h4

/-! The search for where the turn begins. -/
structure Seek (key : UInt8 → Nat) (d : Array UInt8) (p s0 r0 s r : Nat) : Prop where
  b1 : s0 ≤ s
  b2 : s ≤ r
  b3 : r ≤ r0
  lo : ∀ c, s0 ≤ c → c < s → key d[c]! < key d[p - c]!
  hi : ∀ c, r ≤ c → c < r0 → key d[p - c]! < key d[c]!
theorem Seek.start {key : UInt8 → Nat} {d : Array UInt8} {p s0 r0 : Nat} (h : s0 ≤ r0) : Seek key d p s0 r0 s0 r0 := ⟨Nat.le_refl _, h, Nat.le_refl _, fun c h1 h2 => by omega, fun c h1 h2 => by omega⟩
theorem Seek.up {key : UInt8 → Nat} {d : Array UInt8} {a m b p s0 r0 s r c : Nat} (h : Seek key d p s0 r0 s r) (hs1 : Srt key d a m) (hs2 : Srt key d m b) (h0 : a ≤ s0) (h1 : r0 ≤ m) (h2 : m + r0 ≤ p + 1) (h3 : p < b + s0) (hc : s ≤ c) (hr : c < r)
    (hk : key d[c]! < key d[p - c]!) : Seek key d p s0 r0 (c + 1) r := by
  refine ⟨by have := h.b1; omega, by omega, h.b3, fun c' h4 h5 => ?_, h.hi⟩
  have := h.b3; have := h.b1
  exact Nat.lt_of_le_of_lt (hs1.le (i := c') (j := c) (by omega) (by omega) (by omega)) (Nat.lt_of_lt_of_le hk (hs2.le (i := p - c) (j := p - c') (by omega) (by omega) (by omega)))
theorem Seek.down {key : UInt8 → Nat} {d : Array UInt8} {a m b p s0 r0 s r c : Nat} (h : Seek key d p s0 r0 s r) (hs1 : Srt key d a m) (hs2 : Srt key d m b) (h0 : a ≤ s0) (h1 : r0 ≤ m) (h2 : m + r0 ≤ p + 1) (h3 : p < b + s0) (hc : s ≤ c) (hr : c < r)
    (hk : key d[p - c]! < key d[c]!) : Seek key d p s0 r0 s c := by
  refine ⟨h.b1, hc, by have := h.b3; omega, h.lo, fun c' h4 h5 => ?_⟩
  have := h.b3; have := h.b1
  exact Nat.lt_of_le_of_lt (hs2.le (i := p - c') (j := p - c) (by omega) (by omega) (by omega)) (Nat.lt_of_lt_of_le hk (hs1.le (i := c) (j := c') (by omega) (by omega) (by omega)))
/-- What stands found: the turn's two conditions. -/
theorem Seek.found {key : UInt8 → Nat} {d : Array UInt8} {a m b mid s0 r0 s : Nat} (h : Seek key d (mid + m - 1) s0 r0 s s) (hs1 : Srt key d a m) (hs2 : Srt key d m b) (h0 : a ≤ s0) (h1 : r0 ≤ m) (hmid : mid < b) (hr : r0 ≤ mid) (hs0 : s0 = a ∨ s0 + b = mid + m) (hr0 : r0 = m ∨ r0 = mid) (hsb : mid + m ≤ b + s0) :
    (∀ i j, a ≤ i → i < s → mid + m - s ≤ j → j < b → key d[i]! < key d[j]!) ∧ (∀ i j, s ≤ i → i < m → m ≤ j → j < mid + m - s → key d[j]! < key d[i]!) := by
  have hb1 := h.b1; have hb3 := h.b3
  refine ⟨fun i j h4 h5 h6 h7 => ?_, fun i j h4 h5 h6 h7 => ?_⟩
  · have hk := h.lo (s - 1) (by omega) (by omega)
    exact Nat.lt_of_le_of_lt (hs1.le (i := i) (j := s - 1) h4 (by omega) (by omega)) (Nat.lt_of_lt_of_le hk (hs2.le (i := mid + m - 1 - (s - 1)) (j := j) (by omega) (by omega) h7))
  · have hk := h.hi s (Nat.le_refl _) (by omega)
    exact Nat.lt_of_le_of_lt (hs2.le (i := j) (j := mid + m - 1 - s) h6 (by omega) (by omega)) (Nat.lt_of_lt_of_le hk (hs1.le (i := s) (j := i) (by omega) (by omega) h5))

/-! One element is put where it belongs. -/
structure Seek1 (key : UInt8 → Nat) (d : Array UInt8) (m b x i j : Nat) : Prop where
  b1 : m ≤ i
  b2 : i ≤ j
  b3 : j ≤ b
  lo : ∀ c, m ≤ c → c < i → key d[c]! < x
  hi : ∀ c, j ≤ c → c < b → x < key d[c]!
theorem Seek1.start {key : UInt8 → Nat} {d : Array UInt8} {m b x : Nat} (h : m ≤ b) : Seek1 key d m b x m b := ⟨Nat.le_refl _, h, Nat.le_refl _, fun c h1 h2 => by omega, fun c h1 h2 => by omega⟩
theorem Seek1.up {key : UInt8 → Nat} {d : Array UInt8} {m b x i j c : Nat} (h : Seek1 key d m b x i j) (hs : Srt key d m b) (hc : i ≤ c) (hj : c < j) (hk : key d[c]! < x) : Seek1 key d m b x (c + 1) j :=
  ⟨by have := h.b1; omega, by omega, h.b3, fun c' h4 h5 => Nat.lt_of_le_of_lt (hs.le (i := c') (j := c) h4 (by omega) (by have := h.b3; omega)) hk, h.hi⟩
theorem Seek1.down {key : UInt8 → Nat} {d : Array UInt8} {m b x i j c : Nat} (h : Seek1 key d m b x i j) (hs : Srt key d m b) (hc : i ≤ c) (hj : c < j) (hk : x < key d[c]!) : Seek1 key d m b x i c :=
  ⟨h.b1, hc, by have := h.b3; omega, h.lo, fun c' h4 h5 => Nat.lt_of_lt_of_le hk (hs.le (i := c) (j := c') (by have := h.b1; omega) h4 h5)⟩
/-- The left part is one element. -/
theorem merge_left {key : UInt8 → Nat} {d d1 : Array UInt8} {a b i : Nat} (h : Seek1 key d (a + 1) b (key d[a]!) i i) (hs : Srt key d (a + 1) b) (r : Rot d d1 a (a + 1) i) : Same d d1 a b ∧ Srt key d1 a b := by
  have hb1 := h.b1; have hb3 := h.b3
  refine ⟨(r.same (by omega) hb1).wider (Nat.le_refl _) hb3, fun p q h1 h2 h3 => ?_⟩
  have lo : ∀ k, a ≤ k → k + 1 < i → d1[k]! = d[k + 1]! := fun k h1 h2 => by rw [r.lo k h1 (by omega)]; congr 1; omega
  have hi : d1[i - 1]! = d[a]! := by rw [r.hi (i - 1) (by omega) (by omega)]; congr 1; omega
  by_cases c1 : p + 1 < i
  · rw [lo p h1 c1]
    by_cases c2 : q + 1 < i
    · rw [lo q (by omega) c2]; exact hs _ _ (by omega) (by omega) (by omega)
    · by_cases c3 : q = i - 1
      · rw [c3, hi]; exact h.lo _ (by omega) (by omega)
      · rw [r.out q (by omega)]; exact hs _ _ (by omega) (by omega) h3
  · by_cases c2 : p = i - 1
    · rw [c2, hi, r.out q (by omega)]; exact h.hi q (by omega) h3
    · rw [r.out p (by omega), r.out q (by omega)]; exact hs _ _ (by omega) h2 h3
/-- The right part is one element. -/
theorem merge_right {key : UInt8 → Nat} {d d1 : Array UInt8} {a m i : Nat} (h : Seek1 key d a m (key d[m]!) i i) (hs : Srt key d a m) (r : Rot d d1 i m (m + 1)) : Same d d1 a (m + 1) ∧ Srt key d1 a (m + 1) := by
  have hb1 := h.b1; have hb3 := h.b3
  refine ⟨(r.same hb3 (by omega)).wider hb1 (Nat.le_refl _), fun p q h1 h2 h3 => ?_⟩
  have lo : d1[i]! = d[m]! := by rw [r.lo i (Nat.le_refl _) (by omega)]; congr 1; omega
  have hi : ∀ k, i < k → k < m + 1 → d1[k]! = d[k - 1]! := fun k h1 h2 => by rw [r.hi k (by omega) h2]; congr 1; omega
  by_cases c1 : p < i
  · rw [r.out p (by omega)]
    by_cases c2 : q < i
    · rw [r.out q (by omega)]; exact hs _ _ h1 h2 (by omega)
    · by_cases c3 : q = i
      · rw [c3, lo]; exact h.lo p h1 c1
      · rw [hi q (by omega) h3]; exact hs _ _ h1 (by omega) (by omega)
  · by_cases c2 : p = i
    · rw [c2, lo, hi q (by omega) h3]; exact h.hi _ (by omega) (by omega)
    · rw [hi p (by omega) (by omega), hi q (by omega) h3]; exact hs _ _ (by omega) (by omega) (by omega)
/-- A turn by one, step by step: to the right .. -/
theorem Rot.right_step {d e : Array UInt8} {a i : Nat} (r : Rot d e a (a + 1) (i + 1)) (hi : i + 1 < d.size) (ha : a ≤ i) : Rot d (swp e i (i + 1)) a (a + 1) (i + 2) := by
  have hsz := r.size
  have e1 : e[i]! = d[a]! := by rw [r.hi i (by omega) (by omega)]; congr 1; omega
  have e2 : e[i + 1]! = d[i + 1]! := r.out _ (by omega)
  refine ⟨by rw [size_swp]; exact hsz, fun k hk => ?_, fun k h1 h2 => ?_, fun k h1 h2 => ?_⟩
  · rw [swp_other _ _ _ _ (by omega) (by omega)]; exact r.out k (by omega)
  · by_cases c : k = i
    · subst c; rw [swp_left _ _ _ (by omega) (by omega), e2]; congr 1; omega
    · rw [swp_other _ _ _ _ (by omega) (by omega), r.lo k h1 (by omega)]
  · obtain rfl : k = i + 1 := by omega
    rw [swp_right _ _ _ (by omega), e1]; congr 1; omega
/-- .. and to the left. -/
theorem Rot.left_step {d e : Array UInt8} {m i : Nat} (r : Rot d e (i + 1) m (m + 1)) (hm : m < d.size) (hi : i < m) : Rot d (swp e (i + 1) i) i m (m + 1) := by
  have hsz := r.size
  have e1 : e[i + 1]! = d[m]! := by rw [r.lo (i + 1) (Nat.le_refl _) (by omega)]; congr 1; omega
  have e2 : e[i]! = d[i]! := r.out _ (by omega)
  refine ⟨by rw [size_swp]; exact hsz, fun k hk => ?_, fun k h1 h2 => ?_, fun k h1 h2 => ?_⟩
  · rw [swp_other _ _ _ _ (by omega) (by omega)]; exact r.out k (by omega)
  · obtain rfl : k = i := by omega
    rw [swp_right _ _ _ (by omega), e1]; congr 1; omega
  · by_cases c : k = i + 1
    · subst c; rw [swp_left _ _ _ (by omega) (by omega), e2]; congr 1; omega
    · rw [swp_other _ _ _ _ (by omega) (by omega), r.hi k (by omega) h2]

/-! The sort by insertion. -/
/-- Ahead of i the row is sorted; what stands at i is on its way to its place, now at j. -/
structure Ins (key : UInt8 → Nat) (d e : Array UInt8) (a i j : Nat) : Prop where
  b1 : a ≤ j
  b2 : j ≤ i
  rot : Rot d e j i (i + 1)
  hi : ∀ c, j ≤ c → c < i → key d[i]! < key d[c]!
theorem Ins.start (key : UInt8 → Nat) (d : Array UInt8) (a i : Nat) (h : a ≤ i) : Ins key d d a i i := ⟨h, Nat.le_refl _, Rot.id_left d i (i + 1) (by omega), fun c h1 h2 => by omega⟩
theorem Ins.step {key : UInt8 → Nat} {d e : Array UInt8} {a i j : Nat} (h : Ins key d e a i (j + 1)) (hj : a ≤ j) (hi : i < d.size) (hk : key e[j + 1]! < key e[j]!) : Ins key d (swp e (j + 1) j) a i j := by
  have hb2 := h.b2
  have e1 : e[j + 1]! = d[i]! := by rw [h.rot.lo (j + 1) (Nat.le_refl _) (by omega)]; congr 1; omega
  have e2 : e[j]! = d[j]! := h.rot.out _ (by omega)
  refine ⟨hj, by omega, Rot.left_step h.rot hi (by omega), fun c h1 h2 => ?_⟩
  by_cases c1 : c = j
  · subst c1; rw [e1, e2] at hk; exact hk
  · exact h.hi c (by omega) h2
theorem Ins.done {key : UInt8 → Nat} {d e : Array UInt8} {a i j : Nat} (h : Ins key d e a i j) (hs : Srt key d a i) (hk : j = a ∨ (a < j ∧ key e[j - 1]! < key e[j]!)) : Same d e a (i + 1) ∧ Srt key e a (i + 1) := by
  have hb1 := h.b1; have hb2 := h.b2
  refine merge_right (i := j) ⟨hb1, Nat.le_refl _, hb2, fun c h1 h2 => ?_, h.hi⟩ hs h.rot
  rcases hk with hk | ⟨hk1, hk2⟩
  · omega
  · have e1 : e[j]! = d[i]! := by rw [h.rot.lo j (Nat.le_refl _) (by omega)]; congr 1; omega
    have e2 : e[j - 1]! = d[j - 1]! := h.rot.out _ (by omega)
    rw [e1, e2] at hk2
    exact Nat.lt_of_le_of_lt (hs.le (i := c) (j := j - 1) h1 (by omega) (by omega)) hk2

/-! Blocks, and the whole. -/
structure Good (key : UInt8 → Nat) (d0 d : Array UInt8) (a b : Nat) : Prop where
  mem : ∀ x, Mm d a b x ↔ Mm d0 a b x
  srt : Srt key d a b
theorem Good.none (key : UInt8 → Nat) (d0 d : Array UInt8) (a : Nat) : Good key d0 d a a := ⟨fun x => ⟨fun ⟨k, h1, h2, _⟩ => by omega, fun ⟨k, h1, h2, _⟩ => by omega⟩, Srt.one _ _ _ _ (by omega)⟩
theorem Good.agree {key : UInt8 → Nat} {d0 d e : Array UInt8} {a b : Nat} (h : Good key d0 d a b) (he : ∀ k, a ≤ k → k < b → e[k]! = d[k]!) : Good key d0 e a b := by
  refine ⟨fun x => ⟨fun ⟨k, h1, h2, h3⟩ => (h.mem x).1 ⟨k, h1, h2, by rw [← he k h1 h2]; exact h3⟩, fun hx => ?_⟩, fun i j h1 h2 h3 => ?_⟩
  · obtain ⟨k, h1, h2, h3⟩ := (h.mem x).2 hx
    exact ⟨k, h1, h2, by rw [he k h1 h2]; exact h3⟩
  · rw [he i h1 (by omega), he j (by omega) h3]; exact h.srt i j h1 h2 h3
theorem Good.lr {key : UInt8 → Nat} {Rl : UInt8 → UInt8 → Prop} {d0 d : Array UInt8} {a m b n : Nat} (h : Good key d0 d a m) (k : Good key d0 d m b) (hp : ∀ i j, i < j → j < n → Rl d0[i]! d0[j]!) (hb : b ≤ n) : LR Rl d a m b := fun i j h1 h2 h3 h4 => by
  obtain ⟨p, p1, p2, p3⟩ := (h.mem _).1 ⟨i, h1, h2, rfl⟩
  obtain ⟨q, q1, q2, q3⟩ := (k.mem _).1 ⟨j, h3, h4, rfl⟩
  rw [← p3, ← q3]; exact hp p q (by omega) (by omega)
theorem mm_split (d : Array UInt8) (a m b : Nat) (h1 : a ≤ m) (h2 : m ≤ b) (x : UInt8) : Mm d a b x ↔ Mm d a m x ∨ Mm d m b x :=
  ⟨fun ⟨k, k1, k2, k3⟩ => by
    by_cases h : k < m
    · exact .inl ⟨k, k1, h, k3⟩
    · exact .inr ⟨k, by omega, k2, k3⟩, fun h => by
    rcases h with ⟨k, k1, k2, k3⟩ | ⟨k, k1, k2, k3⟩
    · exact ⟨k, k1, by omega, k3⟩
    · exact ⟨k, by omega, k2, k3⟩⟩
/-- Two blocks that follow one another are merged. -/
theorem Good.merged {key : UInt8 → Nat} {d0 d e : Array UInt8} {a m b : Nat} (h : Good key d0 d a m) (k : Good key d0 d m b) (h1 : a ≤ m) (h2 : m ≤ b) (hs : Same d e a b) (hk : Srt key e a b) : Good key d0 e a b :=
  ⟨fun x => by rw [hs.mem, mm_split d a m b h1 h2, mm_split d0 a m b h1 h2, h.mem, k.mem], hk⟩
/-- From a on the row up to n is blocks of bs, the last one may be shorter. -/
inductive Blocks (key : UInt8 → Nat) (d0 d : Array UInt8) (n bs : Nat) : Nat → Prop
  | last (a : Nat) (h1 : n ≤ a + bs) (h2 : a ≤ n) (g : Good key d0 d a n) : Blocks key d0 d n bs a
  | more (a : Nat) (h1 : a + bs ≤ n) (g : Good key d0 d a (a + bs)) (r : Blocks key d0 d n bs (a + bs)) : Blocks key d0 d n bs a
theorem Blocks.agree {key : UInt8 → Nat} {d0 d e : Array UInt8} {n bs a : Nat} (h : Blocks key d0 d n bs a) (he : ∀ k, a ≤ k → k < n → e[k]! = d[k]!) : Blocks key d0 e n bs a := by
  induction h with
  | last a h1 h2 g => exact .last a h1 h2 (g.agree he)
  | more a h1 g r ih => exact .more a h1 (g.agree fun k k1 k2 => he k k1 (by omega)) (ih fun k k1 k2 => he k (by omega) k2)
/-- What stands ahead of a is done, whatever follows. -/
def Ahead (key : UInt8 → Nat) (d0 d : Array UInt8) (n bs a : Nat) : Prop := ∀ e : Array UInt8, (∀ k, k < a → e[k]! = d[k]!) → Blocks key d0 e n bs a → Blocks key d0 e n bs 0
theorem Ahead.none (key : UInt8 → Nat) (d0 d : Array UInt8) (n bs : Nat) : Ahead key d0 d n bs 0 := fun _ _ h => h
theorem Ahead.step {key : UInt8 → Nat} {d0 d e : Array UInt8} {n bs a : Nat} (h : Ahead key d0 d n bs a) (hs : Same d e a (a + bs)) (hb : a + bs ≤ n) (g : Good key d0 e a (a + bs)) : Ahead key d0 e n bs (a + bs) := fun f hf hr =>
  h f (fun k hk => by rw [hf k (by omega), hs.out k (by omega)]) (.more a hb (g.agree fun k k1 k2 => hf k k2) hr)
theorem Ahead.all {key : UInt8 → Nat} {d0 d : Array UInt8} {n bs a : Nat} (h : Ahead key d0 d n bs a) (hb : Blocks key d0 d n bs a) : Blocks key d0 d n bs 0 := h d (fun _ _ => rfl) hb
theorem Blocks.whole {key : UInt8 → Nat} {d0 d : Array UInt8} {n bs : Nat} (h : Blocks key d0 d n bs 0) (hb : n ≤ bs) : Good key d0 d 0 n := by
  cases h with
  | last _ _ _ g => exact g
  | more _ h1 g _ =>
    obtain rfl : bs = n := by omega
    simpa using g
/-- Two blocks stand ahead of b. -/
theorem Blocks.two {key : UInt8 → Nat} {d0 d : Array UInt8} {n bs a : Nat} (h : Blocks key d0 d n bs a) (h0 : 0 < bs) (hb : a + 2 * bs ≤ n) : Good key d0 d a (a + bs) ∧ Good key d0 d (a + bs) (a + 2 * bs) ∧ Blocks key d0 d n bs (a + 2 * bs) := by
  cases h with
  | last _ h1 _ _ => omega
  | more _ h1 g r =>
    cases r with
    | last _ h2 h3 g2 =>
      obtain rfl : n = a + 2 * bs := by omega
      exact ⟨g, g2, .last _ (by omega) (Nat.le_refl _) (Good.none ..)⟩
    | more _ h2 g2 r2 =>
      have e : a + bs + bs = a + 2 * bs := by omega
      rw [e] at g2 r2
      exact ⟨g, g2, r2⟩
/-- One block and a shorter one are left. -/
theorem Blocks.rest {key : UInt8 → Nat} {d0 d : Array UInt8} {n bs a : Nat} (h : Blocks key d0 d n bs a) (hm : a + bs < n) (hb : n < a + 2 * bs) : Good key d0 d a (a + bs) ∧ Good key d0 d (a + bs) n := by
  cases h with
  | last _ h1 _ _ => omega
  | more _ h1 g r =>
    cases r with
    | last _ h2 h3 g2 => exact ⟨g, g2⟩
    | more _ h2 g2 r2 => omega
theorem Blocks.one {key : UInt8 → Nat} {d0 d : Array UInt8} {n bs a : Nat} (h : Blocks key d0 d n bs a) (hm : n ≤ a + bs) (ha : a ≤ n) : Blocks key d0 d n (2 * bs) a := by
  cases h with
  | last _ h1 _ g => exact .last _ (by omega) ha g
  | more _ h1 g r =>
    obtain rfl : n = a + bs := by omega
    exact .last _ (by omega) ha g
theorem Blocks.start_le {key : UInt8 → Nat} {d0 d : Array UInt8} {n bs a : Nat} (h : Blocks key d0 d n bs a) : a ≤ n := by
  cases h with
  | last _ _ h2 _ => exact h2
  | more _ h1 _ _ => omega

end Hm
end Go.Proofs.Ytegnkfdbmmndaaa
end
