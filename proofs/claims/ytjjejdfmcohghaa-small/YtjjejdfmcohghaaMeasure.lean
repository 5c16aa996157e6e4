/- The lengths of the codes of a text of one byte. -/
import Derived.Test.YtjjejdfmcohghaaSingles
import Derived.Laws.Tables
namespace Go.Proofs.Ytjjejdfmcohghaa
open Go.RowKit

theorem Kept.setRow {S : Nat → Prop} {a b : World} (h : Kept S a b) {g : Nat} (hp : a.heap.size ≤ g ∨ S g) (cs : Array Value) : Kept S a (b.setRow g cs) := by
  refine ⟨h.os, h.tape, h.output, by have := h.size; simp; omega, fun j hj hn => ?_⟩
  have hne : j ≠ g := by rintro rfl; rcases hp with hp | hp; · omega
                         · exact hn hp
  exact (setRow_other b g j cs hne).trans (h.block j hj hn)

/-- A whole array is stored into a block. -/
theorem wpList_store_row {P : Program} (w : World) {ops : Array Oper} {rest : List Oper} {op : Oper} {a : Act} {Q : Exit → Act → World → Prop} (hgd : op.guard = none) (ty : TypeId) (x y : Operand) (ho : op.op = .store ty x y)
    (g : Nat) (t : TypeId) (old cells : Array Value) (hx : a.eval x = .pointer (some ⟨g, 0, none⟩)) (hy : a.eval y = .agg cells) (hg : w.heap[g]? = some (.cells old t (0, 0)))
    (hi : (P.info? ty).map (·.size) = some cells.size) (hs : old.size = cells.size) (h1 : cells.all (·.oneCell') = true)
    (h : ∀ w', w'.heap[g]? = some (.cells cells t (0, 0)) → Kept (fun j => j = g) w w' → wpList P ops Q rest (a.put op.dst undef) w') : wpList P ops Q (op :: rest) a w := by
  refine wpList_plain hgd fun K hK => ?_
  unfold Oper.wp execOp
  simp only [ho, hx, hy, Instr.storeAt, Instr.sureAddr, Sem.run_bind, Sem.run_pure, Result.andThen_ok, run_storeVar_row w g t ty old cells hg hi hs h1]
  exact hK _ _ (h _ (setRow_heap w g old cells t _ hg) ((Kept.refl (fun j => j = g) w).setRow (g := g) (.inr rfl) _))

theorem icells_one (l : List Nat) : (icells l).toArray.all (·.oneCell') = true := by
  rw [Array.all_eq_true_iff_forall_mem]
  intro v hv
  have : v ∈ icells l := by simpa using hv
  unfold icells at this
  obtain ⟨x, _, rfl⟩ := List.mem_map.1 this
  rfl
theorem icells_size (l : List Nat) : (icells l).toArray.size = l.length := by simp [icells]
theorem info_len : (Try.prog.info? 39).map (·.size) = some 256 := by kernel_rfl

theorem zero_set (cn : Nat) : Try.zeroCells39.setIfInBounds cn (.int .i64 1) = (icells (Hm.oneAt 256 cn 1)).toArray := by
  rw [zero_len]
  unfold Hm.oneAt
  apply Array.ext'
  rw [Array.toList_setIfInBounds]
  simp only [icells, List.map_set]
  rfl

set_option maxHeartbeats 2000000 in
theorem measure_one (s : ByteArray) (cn : Nat) (w : World) (hs : s.size ≤ 6000) (hm : 1 ≤ s.size) (hcn : cn < 256) (hc : ∀ k, (h : k < s.size) → s[k].toNat = cn) :
    Calls Try.prog 11 #[.string s] w fun e w' => e = .returned (.agg (icells (Hm.oneAt 256 cn 1)).toArray) ∧ Kept (fun _ => False) w w' := by
  have hsg := singles_one s cn (w.alloc (.cells Try.zeroCells39 39)) hs hm hcn hc
  go_enter Try.func11, Try.ntmps11
  go_wp2_with fail
  refine hsg.mono ?_
  rintro e w1 ⟨v, mb, rfl, ho1, hk1⟩
  clear hsg hc
  obtain ⟨g, cap, hv, hnc, hgw⟩ := owns_some ho1 (by omega)
  subst hv
  have hs1 : w.heap.size + 1 ≤ w1.heap.size := by have := hk1.size; simpa using this
  have hg0 : w.heap.size < g := by have := ho1.lt g rfl; simp at this; omega
  have hl1 : w1.cell? ⟨g, 1, none⟩ = some (.int .u8 (cn : Nat)) := by rw [ho1.cellAt 1 (by omega)]; rfl
  have hres1 : w1.heap[w.heap.size]? = some (.cells Try.zeroCells39 39 (0, 0)) := hk1.row (heap_alloc_new w _) id
  have hkw1 : Kept (fun _ => False) w w1 := ((Kept.refl (fun _ => False) w).alloc _).trans hk1 (fun _ _ h => h)
  clear ho1 hk1
  have hgr : ((w1.alloc (.cells #[.slice (some ⟨g, 0, none⟩) 1 cap] 80)).alloc (.cells (icells (Hm.oneAt 256 cn 1)).toArray 39)).cell? ⟨w1.heap.size, 0, none⟩ = some (.slice (some ⟨g, 0, none⟩) 1 cap) := cell_of_row _ _ 0 _ _ _ (heap_alloc2_old w1 _ _)
  have hlen0 : ((w1.alloc (.cells #[.slice (some ⟨g, 0, none⟩) 1 cap] 80)).alloc (.cells (icells (Hm.oneAt 256 cn 1)).toArray 39)).heap[w1.heap.size + 1]? = some (.cells (icells (Hm.oneAt 256 cn 1)).toArray 39 (0, 0)) := heap_alloc2_new w1 _ _
  have hres2 : ((w1.alloc (.cells #[.slice (some ⟨g, 0, none⟩) 1 cap] 80)).alloc (.cells (icells (Hm.oneAt 256 cn 1)).toArray 39)).heap[w.heap.size]? = some (.cells Try.zeroCells39 39 (0, 0)) := by
    rw [Below.heap_alloc _ _ _ (by simp; omega), Below.heap_alloc _ _ _ (by omega)]; exact hres1
  have hkw2 : Kept (fun _ => False) w ((w1.alloc (.cells #[.slice (some ⟨g, 0, none⟩) 1 cap] 80)).alloc (.cells (icells (Hm.oneAt 256 cn 1)).toArray 39)) := (hkw1.alloc _).alloc _
  have HP : Hid (((w1.alloc (.cells #[.slice (some ⟨g, 0, none⟩) 1 cap] 80)).alloc (.cells (icells (Hm.oneAt 256 cn 1)).toArray 39)).cell? ⟨w1.heap.size, 0, none⟩ = some (.slice (some ⟨g, 0, none⟩) 1 cap) ∧
    ((w1.alloc (.cells #[.slice (some ⟨g, 0, none⟩) 1 cap] 80)).alloc (.cells (icells (Hm.oneAt 256 cn 1)).toArray 39)).heap[w1.heap.size + 1]? = some (.cells (icells (Hm.oneAt 256 cn 1)).toArray 39 (0, 0)) ∧
    ((w1.alloc (.cells #[.slice (some ⟨g, 0, none⟩) 1 cap] 80)).alloc (.cells (icells (Hm.oneAt 256 cn 1)).toArray 39)).heap[w.heap.size]? = some (.cells Try.zeroCells39 39 (0, 0)) ∧
    Kept (fun _ => False) w ((w1.alloc (.cells #[.slice (some ⟨g, 0, none⟩) 1 cap] 80)).alloc (.cells (icells (Hm.oneAt 256 cn 1)).toArray 39))) := ⟨hgr, hlen0, hres2, hkw2⟩
  clear hgr hlen0 hres2 hkw2 hkw1 hres1
  have hzs : Try.zeroCells39.size = 256 := by rw [zero_len, icells_size, List.length_replicate]
  go_wp2_with fail
  rw [zero_set]
  generalize (w1.alloc (.cells #[.slice (some ⟨g, 0, none⟩) 1 cap] 80)).alloc (.cells (icells (Hm.oneAt 256 cn 1)).toArray 39) = W at HP ⊢
  have hasz : (icells (Hm.oneAt 256 cn 1)).toArray.size = 256 := by rw [icells_size, Hm.oneAt_length]
  have hall := icells_one (Hm.oneAt 256 cn 1)
  generalize hA : (icells (Hm.oneAt 256 cn 1)).toArray = arr at HP hasz hall
  have HA : Hid ((icells (Hm.oneAt 256 cn 1)).toArray = arr) := hA
  clear hA
  obtain ⟨hgr, hlen0, hres2, hkw2⟩ := HP.out
  have HX : Hid (W.heap[w1.heap.size + 1]? = some (.cells arr 39 (0, 0)) ∧ W.heap[w.heap.size]? = some (.cells Try.zeroCells39 39 (0, 0)) ∧ arr.all (·.oneCell') = true ∧ Kept (fun _ => False) w W ∧ Try.zeroCells39.size = arr.size) := ⟨hlen0, hres2, hall, hkw2, by rw [hzs, hasz]⟩
  clear hlen0 hres2 hall hkw2 HP hzs
  refine wp_loop_rounds 1 ?_
  rw [rounds_succ]
  go_wp2_with (first
    | (refine wpList_load_row rfl 39 _ rfl (w1.heap.size + 1) rfl 39 arr (0, 0) _ HX.out.1 Try.underlying39 rfl (by rw [hasz]; exact info_len) ?_)
    | (refine wpList_store_row _ rfl 39 _ _ rfl w.heap.size 39 _ arr rfl rfl HX.out.2.1 (by rw [hasz]; exact info_len) HX.out.2.2.2.2 HX.out.2.2.1 ?_; intro w3 hw3 hk3))
  refine bodyPost_ret (v := .agg arr) (results_cell_row Try.results11 _ w3 w.heap.size 39 arr (0, 0) _ rfl hw3 Try.underlying39 rfl (by rw [hasz]; exact info_len)) rfl ⟨by rw [HA.out], ?_⟩
  exact HX.out.2.2.2.1.trans hk3 (fun j h1 h2 => by omega)

end Go.Proofs.Ytjjejdfmcohghaa
