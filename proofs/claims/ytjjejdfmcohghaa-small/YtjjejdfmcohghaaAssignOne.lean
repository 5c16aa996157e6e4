/- The table of codes of a text of one byte. -/
import Derived.Test.YtjjejdfmcohghaaAssign
namespace Go.Proofs.Ytjjejdfmcohghaa
open Go.RowKit

set_option maxHeartbeats 2000000 in
set_option maxRecDepth 100000 in
theorem assign_one (cn : Nat) (w : World) (hcn : cn < 256) :
    Calls Try.prog 12 #[.agg (icells (Hm.oneAt 256 cn 1)).toArray] w fun e w' => e = .returned (.agg (tab1 Try.zeroCells45 cn)) ∧ Kept (fun _ => False) w w' := by
  have hasz : (icells (Hm.oneAt 256 cn 1)).toArray.size = 256 := by rw [icells_size, Hm.oneAt_length]
  have hby := bytes_any (Hm.oneAt 256 cn 1) ((w.alloc (.cells (icells (Hm.oneAt 256 cn 1)).toArray 39)).alloc (.cells Try.zeroCells45 45)) (Hm.oneAt_length _ _ _) (fun x hx => by
    obtain ⟨i, hi, rfl⟩ := List.getElem_of_mem hx
    rw [Hm.oneAt_get]; split <;> omega)
  rw [coded_one cn hcn] at hby
  have hbox : ((w.alloc (.cells (icells (Hm.oneAt 256 cn 1)).toArray 39)).alloc (.cells Try.zeroCells45 45)).heap[w.heap.size]? = some (.cells (icells (Hm.oneAt 256 cn 1)).toArray 39 (0, 0)) := heap_alloc2_old w _ _
  have hres : ((w.alloc (.cells (icells (Hm.oneAt 256 cn 1)).toArray 39)).alloc (.cells Try.zeroCells45 45)).heap[w.heap.size + 1]? = some (.cells Try.zeroCells45 45 (0, 0)) := heap_alloc2_new w _ _
  have hcell : (icells (Hm.oneAt 256 cn 1)).toArray[cn]? = some (.int .i64 1) := by
    rw [List.getElem?_toArray, icells, List.getElem?_map, List.getElem?_eq_getElem (by rw [Hm.oneAt_length]; exact hcn), Hm.oneAt_get, if_pos rfl]; rfl
  generalize (icells (Hm.oneAt 256 cn 1)).toArray = arr at *
  have HF : Hid (arr[cn]? = some (.int .i64 1)) := hcell
  have HB : Hid (((w.alloc (.cells arr 39)).alloc (.cells Try.zeroCells45 45)).heap[w.heap.size + 1]? = some (.cells Try.zeroCells45 45 (0, 0))) := hres
  clear hcell hres
  go_enter Try.func12, Try.ntmps12
  go_wp2_with (first
    | (refine wpList_load_row rfl 39 _ rfl w.heap.size rfl 39 arr (0, 0) _ hbox Try.underlying39 rfl (by rw [hasz]; exact info_len) ?_))
  refine hby.mono ?_
  rintro e w2 ⟨vc, rfl, hoc, hk2⟩
  clear hby
  have hs2 : w.heap.size + 2 ≤ w2.heap.size := by have := hk2.size; simpa using this
  have hbox2 := hk2.row hbox id
  have hres2 := hk2.row HB.out id
  have hkw2 : Kept (fun _ => False) w w2 := (((Kept.refl (fun _ => False) w).alloc _).alloc _).trans hk2 (fun _ _ h => h)
  obtain ⟨g, cap, hv, hnc, hgw⟩ := owns_some hoc (by simp)
  have hv2 : vc = .slice (some ⟨g, 0, none⟩) 1 cap := hv
  subst hv2
  have hgg : w.heap.size + 2 ≤ g := by have := hoc.lt g rfl; simp at this; omega
  have hc0 : w2.cell? ⟨g, 0, none⟩ = some (.int .u8 (cn : Nat)) := by
    have := hoc.cellAt 0 (by simp)
    rw [this]
    show some (Value.int .u8 ((UInt8.ofNat cn).toNat : Int)) = _
    rw [Hm.u8cell hcn]
  have hl0 : w2.cell? ⟨w.heap.size, cn, none⟩ = some (.int .i64 1) := by rw [cell_of_row _ _ cn _ _ _ hbox2]; exact HF.out
  have HX : Hid (w2.heap[w.heap.size + 1]? = some (.cells Try.zeroCells45 45 (0, 0)) ∧ Kept (fun _ => False) w w2) := ⟨hres2, hkw2⟩
  have hl2 : ∀ o1 o2, ((w2.alloc o1).alloc o2).cell? ⟨w.heap.size, cn, none⟩ = some (.int .i64 1) := fun o1 o2 => by
    rw [← hl0]
    exact (((Kept.refl (fun _ => False) w2).alloc o1).alloc o2).cell (p := ⟨w.heap.size, cn, none⟩) (by show w.heap.size < _; omega) id
  have hcnI : (cn : Int) < 256 := by omega
  have hz1 := zero_tab_num cn hcn
  have hz2 := zero_tab_len cn hcn
  have hst := fun f W => sortStable_one (some ⟨g, 0, none⟩) cap f W
  clear hbox hoc hk2 hbox2 hres2 hkw2 hv
  go_wp2_with (go_at_call 36; refine (hst _ _).mono ?_; rintro e w3 ⟨rfl, rfl⟩)
  refine wp_loop_rounds 2 ?_
  rw [rounds_succ]
  go_wp2
  go_region
  go_wp2
  go_region
  go_wp2
  rw [rounds_succ]
  have hts := tab1_size zero_tab_size cn
  have hta := tab1_all zero_tab_all cn
  have htz : Try.zeroCells45.size = (tab1 Try.zeroCells45 cn).size := by rw [hts]; exact zero_tab_size
  have HT : Hid ((tab1 Try.zeroCells45 cn).size = 512 ∧ (tab1 Try.zeroCells45 cn).all (·.oneCell') = true ∧ Try.zeroCells45.size = (tab1 Try.zeroCells45 cn).size) := ⟨hts, hta, htz⟩
  clear hts hta htz
  go_wp2_with (first
    | (refine wpList_load_row rfl 45 _ rfl w2.heap.size rfl 45 (tab1 Try.zeroCells45 cn) (0, 0) _ ?ld Try.underlying45 rfl ?sz ?_; (exact heap_alloc2_old w2 _ _); (rw [HT.out.1]; exact info_tab))
    | (refine wpList_store_row _ rfl 45 _ _ rfl (w.heap.size + 1) 45 Try.zeroCells45 (tab1 Try.zeroCells45 cn) rfl rfl ?hg ?si HT.out.2.2 HT.out.2.1 ?_; (exact (((Kept.refl (fun _ => False) w2).alloc _).alloc _).row HX.out.1 id); (rw [HT.out.1]; exact info_tab); intro w5 hw5 hk5))
  refine bodyPost_ret (v := .agg (tab1 Try.zeroCells45 cn)) (results_cell_row Try.results12 _ w5 (w.heap.size + 1) 45 _ (0, 0) _ rfl hw5 Try.underlying45 rfl (by rw [HT.out.1]; exact info_tab)) rfl ⟨rfl, ?_⟩
  exact ((HX.out.2.alloc _).alloc _).drew.drew.trans hk5 (fun j h1 h2 => by omega)

end Go.Proofs.Ytjjejdfmcohghaa
