import Derived.Test.YtegnkfdbmmndaaaGreatJ13
import Derived.Test.YtegnkfdbmmndaaaGreatJ08
import Derived.Test.YtegnkfdbmmndaaaGreatJ04

/- MeasureG -/
section
/- The lengths of the codes of every text. -/
namespace Go.Proofs.YtegnkfdbmmndaaaGreat
open Go.RowKit

/-- How memory stands in Measure's loop. -/
structure MState (w wr : World) (pb : Nat) (gs : List Hm.Grp) (L : List Nat) (v : Value) (vs : List Value) : Prop where
 grp : GroupsAt wr (w.heap.size + 1) v gs vs
 row : wr.heap[pb]? = some (.cells #[v] 213 (0, 0))
 len : ArrRow wr 139 (pb + 1) L
 res : wr.heap[w.heap.size]? = some (.cells Tryz.zeroCells139 139 (0, 0))
 kept : Kept (fun _ => False) w wr
 own : ∀ k, v.ownBlock = some k → k ≠ pb ∧ k ≠ pb + 1
 mem : ∀ m, (h : m < vs.length) → ∀ k, vs[m].ownBlock = some k → k ≠ pb ∧ k ≠ pb + 1
 hpb : w.heap.size < pb

theorem MState.grew {w wr wr' : World} {pb : Nat} {gs : List Hm.Grp} {L : List Nat} {v : Value} {vs : List Value} (h : MState w wr pb gs L v vs) (hk : Kept (fun _ => False) wr wr') : MState w wr' pb gs L v vs :=
 ⟨⟨h.grp.len, hk.owns h.grp.own (fun _ _ => id), fun i h1 h2 => ⟨(h.grp.mem i h1 h2).1.kept hk (fun _ _ => id), (h.grp.mem i h1 h2).2⟩⟩, hk.row h.row id, h.len.kept hk id, hk.row h.res id, h.kept.trans hk (fun _ _ h => h), h.own, h.mem, h.hpb⟩

theorem MState.take {w wr w2 : World} {pb : Nat} {gs : List Hm.Grp} {L : List Nat} {v v2 : Value} {vs : List Value} (h : MState w wr pb gs L v vs) (h0 : 0 < gs.length)
  (hr : w2.heap[pb]? = some (.cells #[v2] 213 (0, 0))) (hG : GroupsAt w2 (w.heap.size + 1) v2 (gs.eraseIdx (Hm.first gs)) (vs.eraseIdx (Hm.first gs))) (ho : v2.ownBlock = v.ownBlock) (hk : Kept (fun k => k = pb ∨ v.ownBlock = some k) wr w2) :
  MState w w2 pb (Hm.left gs) L v2 (vs.eraseIdx (Hm.first gs)) ∧ MemAt w2 (vs.getD (Hm.first gs) undef) (Hm.taken gs).2.2 ∧ ∀ k, (vs.getD (Hm.first gs) undef).ownBlock = some k → k ≠ pb ∧ k ≠ pb + 1 ∧ v2.ownBlock ≠ some k := by
 have hfl := Hm.first_lt gs h0
 have hvl := h.grp.len
 have hM := h.grp.memD hfl
 have hmm : ∀ k, (vs.getD (Hm.first gs) undef).ownBlock = some k → k ≠ pb ∧ k ≠ pb + 1 := fun k hk' => by
  rw [List.getD_eq_getElem?_getD, List.getElem?_eq_getElem (by omega)] at hk'
  exact h.mem _ _ k hk'
 have hlen1 : pb + 1 ≠ pb := by omega
 refine ⟨⟨hG, hr, h.len.kept hk ?_, hk.row h.res ?_, h.kept.trans hk ?_, fun k hk' => h.own k (by rw [← ho]; exact hk'), ?_, h.hpb⟩, hM.1.kept hk ?_, fun k hk' => ⟨(hmm k hk').1, (hmm k hk').2, by rw [ho]; exact hM.2 k hk'⟩⟩
 ·rintro (e | e)
  ·omega
  ·exact (h.own _ e).2 rfl
 ·rintro (e | e)
  ·have := h.hpb; omega
  ·have := (h.grp.own.lt _ e).1; omega
 ·rintro j hj (e | e)
  ·have := h.hpb; omega
  ·have := (h.grp.own.lt _ e).1; omega
 ·intro m hm k hk'
  rw [List.getElem_eraseIdx] at hk'
  by_cases hlt : m < Hm.first gs
  ·rw [dif_pos hlt] at hk'; exact h.mem _ _ k hk'
  ·rw [dif_neg hlt] at hk'; exact h.mem _ _ k hk'
 ·rintro k hk' (e | e)
  ·exact (hmm k hk').1 e
  ·exact hM.2 k hk' e

theorem MState.bump {w wr : World} {pb : Nat} {gs : List Hm.Grp} {L : List Nat} {v : Value} {vs : List Value} (h : MState w wr pb gs L v vs) (i x : Nat) : MState w (wr.setCell ⟨pb + 1, i, none⟩ (.int .i64 (x : Nat))) pb gs (L.set i x) v vs := by
 have hk : Kept (fun k => k = pb + 1) wr (wr.setCell ⟨pb + 1, i, none⟩ (.int .i64 (x : Nat))) := (Kept.refl (fun k => k = pb + 1) wr).setCell (p := ⟨pb + 1, i, none⟩) (.inr rfl) _
 have hp := h.hpb
 exact ⟨⟨h.grp.len, hk.owns h.grp.own (fun k hk' e => (h.own k hk').2 e), fun m h1 h2 => ⟨(h.grp.mem m h1 h2).1.kept hk (fun k hk' e => (h.mem m h2 k hk').2 e), (h.grp.mem m h1 h2).2⟩⟩, hk.row h.row (by omega), h.len.set i x, hk.row h.res (by omega), h.kept.setCell (.inl (show w.heap.size ≤ pb + 1 by omega)) _, h.own, h.mem, h.hpb⟩

theorem MState.app {w wr wa w8 : World} {pb : Nat} {gs : List Hm.Grp} {L : List Nat} {v v8 mv : Value} {vs : List Value} {g : Hm.Grp} (h : MState w wr pb gs L v vs) (hka : Kept (fun _ => False) wr wa) (hm : MemAt wa mv g.2.2)
  (hmv : ∀ k, mv.ownBlock = some k → v.ownBlock ≠ some k ∧ k ≠ pb ∧ k ≠ pb + 1) (ho : w8.ownsRow (w.heap.size + 1) 216 3 v8 (gs.length + 1) (Hm.gcells gs vs ++ Hm.gcells [g] [mv])) (hg : wa.grownBy w8 v.ownBlock) (hmo : Moved wa v v8) :
  MState w (w8.setCell ⟨pb, 0, none⟩ v8) pb (gs ++ [g]) L v8 (vs ++ [mv]) := by
 have hp := h.hpb
 have hlen := h.len.lt
 have hsa := hka.size
 have G8 := h.grp.append hka (by omega) hm (fun k hk => (hmv k hk).1) ho hg hmo
 have k8 : Kept (fun k => v.ownBlock = some k) wa w8 := (Kept.refl _ _).grown hg (fun j hj => .inr hj)
 have kp : Kept (fun k => k = pb) w8 (w8.setCell ⟨pb, 0, none⟩ v8) := (Kept.refl (fun k => k = pb) w8).setCell (p := ⟨pb, 0, none⟩) (.inr rfl) _
 have hown : ∀ k, v8.ownBlock = some k → k ≠ pb ∧ k ≠ pb + 1 := fun k hk => by
  rcases hmo k hk with y | y
  ·exact h.own k y
  ·omega
 have hmem : ∀ m, (hm : m < (vs ++ [mv]).length) → ∀ k, (vs ++ [mv])[m].ownBlock = some k → k ≠ pb ∧ k ≠ pb + 1 := by
  intro m hm' k hk
  by_cases hlt : m < vs.length
  ·rw [List.getElem_append_left hlt] at hk; exact h.mem m hlt k hk
  ·rw [List.getElem_append_right (by omega)] at hk
   simp at hk
   exact ⟨(hmv k hk).2.1, (hmv k hk).2.2⟩
 have r8 : w8.heap[pb]? = some (.cells #[v] 213 (0, 0)) := k8.row (hka.row h.row id) (fun e => (h.own _ e).1 rfl)
 have hbase : ∀ k, v.ownBlock = some k → w.heap.size + 1 ≤ k := fun k hk => (h.grp.own.lt k hk).1
 refine ⟨⟨G8.len, kp.owns G8.own (fun k hk e => (hown k hk).1 e), fun m h1 h2 => ⟨(G8.mem m h1 h2).1.kept kp (fun k hk e => (hmem m h2 k hk).1 e), (G8.mem m h1 h2).2⟩⟩, heap_setCell_same _ _ 0 _ _ _ r8, ((h.len.kept hka id).kept k8 (fun e => (h.own _ e).2 rfl)).kept kp (by omega), kp.row (k8.row (hka.row h.res id) (fun e => by have := hbase _ e; omega)) (by omega), ?_, hown, hmem, hp⟩
 exact ((h.kept.trans hka (fun _ _ h => h)).trans k8 (fun j hj e => by have := hbase _ e; omega)).setCell (.inl (show w.heap.size ≤ pb by omega)) _

set_option maxHeartbeats 2000000 in
theorem measure_single (s : ByteArray) (cn : Nat) (w : World) (hs : s.size ≤ 6000) (gs : List Hm.Grp) (hgs : Hm.singles s.data.toList 256 = gs) (h1 : gs.length = 1) (hcn : cn < 256) (hc : (gs.getD 0 (0, 0, [])).2.1.toNat = cn) :
  Calls Tryz.prog 96 #[.string s] w fun e w' => e = .returned (.agg (icells (Hm.oneAt 256 cn 1)).toArray) ∧ Kept (fun _ => False) w w' := by
 have hsg := singles_any s (w.alloc (.cells Tryz.zeroCells139 139)) hs
 rw [hgs] at hsg
 go_enter Tryz.func96, Tryz.ntmps96
 go_wp2_with fail
 refine hsg.mono ?_
 rintro e w1 ⟨v, vs, rfl, hG, hk1⟩
 clear hsg hgs
 have ho1 := hG.own
 rw [h1] at ho1
 obtain ⟨g, cap, hv, hnc, hgw⟩ := owns_some ho1 (by omega)
 subst hv
 have hs1 : w.heap.size + 1 ≤ w1.heap.size := by have := hk1.size; simpa using this
 have hg0 : w.heap.size < g := by have := ho1.lt g rfl; simp at this; omega
 have hl1 : w1.cell? ⟨g, 1, none⟩ = some (.int .u8 (cn : Nat)) := by
  have h2 := (hG.cellsD (i := 0) (by omega)).2.1
  rw [hc, Nat.zero_mul] at h2; exact h2
 have hres1 : w1.heap[w.heap.size]? = some (.cells Tryz.zeroCells139 139 (0, 0)) := hk1.row (heap_alloc_new w _) id
 have hkw1 : Kept (fun _ => False) w w1 := ((Kept.refl (fun _ => False) w).alloc _).trans hk1 (fun _ _ h => h)
 clear ho1 hk1 hG hc h1
 have hgr : ((w1.alloc (.cells #[.slice (some ⟨g, 0, none⟩) 1 cap] 213)).alloc (.cells (icells (Hm.oneAt 256 cn 1)).toArray 139)).cell? ⟨w1.heap.size, 0, none⟩ = some (.slice (some ⟨g, 0, none⟩) 1 cap) := cell_of_row _ _ 0 _ _ _ (heap_alloc2_old w1 _ _)
 have hlen0 : ((w1.alloc (.cells #[.slice (some ⟨g, 0, none⟩) 1 cap] 213)).alloc (.cells (icells (Hm.oneAt 256 cn 1)).toArray 139)).heap[w1.heap.size + 1]? = some (.cells (icells (Hm.oneAt 256 cn 1)).toArray 139 (0, 0)) := heap_alloc2_new w1 _ _
 have hres2 : ((w1.alloc (.cells #[.slice (some ⟨g, 0, none⟩) 1 cap] 213)).alloc (.cells (icells (Hm.oneAt 256 cn 1)).toArray 139)).heap[w.heap.size]? = some (.cells Tryz.zeroCells139 139 (0, 0)) := by
  rw [Below.heap_alloc _ _ _ (by simp; omega), Below.heap_alloc _ _ _ (by omega)]; exact hres1
 have hkw2 : Kept (fun _ => False) w ((w1.alloc (.cells #[.slice (some ⟨g, 0, none⟩) 1 cap] 213)).alloc (.cells (icells (Hm.oneAt 256 cn 1)).toArray 139)) := (hkw1.alloc _).alloc _
 have HP : Hid (((w1.alloc (.cells #[.slice (some ⟨g, 0, none⟩) 1 cap] 213)).alloc (.cells (icells (Hm.oneAt 256 cn 1)).toArray 139)).cell? ⟨w1.heap.size, 0, none⟩ = some (.slice (some ⟨g, 0, none⟩) 1 cap) ∧
  ((w1.alloc (.cells #[.slice (some ⟨g, 0, none⟩) 1 cap] 213)).alloc (.cells (icells (Hm.oneAt 256 cn 1)).toArray 139)).heap[w1.heap.size + 1]? = some (.cells (icells (Hm.oneAt 256 cn 1)).toArray 139 (0, 0)) ∧
  ((w1.alloc (.cells #[.slice (some ⟨g, 0, none⟩) 1 cap] 213)).alloc (.cells (icells (Hm.oneAt 256 cn 1)).toArray 139)).heap[w.heap.size]? = some (.cells Tryz.zeroCells139 139 (0, 0)) ∧
  Kept (fun _ => False) w ((w1.alloc (.cells #[.slice (some ⟨g, 0, none⟩) 1 cap] 213)).alloc (.cells (icells (Hm.oneAt 256 cn 1)).toArray 139))) := ⟨hgr, hlen0, hres2, hkw2⟩
 clear hgr hlen0 hres2 hkw2 hkw1 hres1
 have hzs : Tryz.zeroCells139.size = 256 := by rw [zero_len, icells_size, List.length_replicate]
 go_wp2_with fail
 rw [zero_set]
 generalize (w1.alloc (.cells #[.slice (some ⟨g, 0, none⟩) 1 cap] 213)).alloc (.cells (icells (Hm.oneAt 256 cn 1)).toArray 139) = W at HP ⊢
 have hasz : (icells (Hm.oneAt 256 cn 1)).toArray.size = 256 := by rw [icells_size, Hm.oneAt_length]
 have hall := icells_one (Hm.oneAt 256 cn 1)
 generalize hA : (icells (Hm.oneAt 256 cn 1)).toArray = arr at HP hasz hall
 have HA : Hid ((icells (Hm.oneAt 256 cn 1)).toArray = arr) := hA
 clear hA
 obtain ⟨hgr, hlen0, hres2, hkw2⟩ := HP.out
 have HX : Hid (W.heap[w1.heap.size + 1]? = some (.cells arr 139 (0, 0)) ∧ W.heap[w.heap.size]? = some (.cells Tryz.zeroCells139 139 (0, 0)) ∧ arr.all (·.oneCell') = true ∧ Kept (fun _ => False) w W ∧ Tryz.zeroCells139.size = arr.size) := ⟨hlen0, hres2, hall, hkw2, by rw [hzs, hasz]⟩
 clear hlen0 hres2 hall hkw2 HP hzs
 refine wp_loop_rounds 1 ?_
 rw [rounds_succ]
 go_wp2_with (first
  | (refine wpList_load_row rfl 139 _ rfl (w1.heap.size + 1) rfl 139 arr (0, 0) _ HX.out.1 Tryz.underlying139 rfl (by rw [hasz]; exact info_len) ?_)
  | (refine wpList_store_row _ rfl 139 _ _ rfl w.heap.size 139 _ arr rfl rfl HX.out.2.1 (by rw [hasz]; exact info_len) HX.out.2.2.2.2 HX.out.2.2.1 ?_; intro w3 hw3 hk3))
 refine bodyPost_ret (v := .agg arr) (results_cell_row Tryz.results96 _ w3 w.heap.size 139 arr (0, 0) _ rfl hw3 Tryz.underlying139 rfl (by rw [hasz]; exact info_len)) rfl ⟨by rw [HA.out], ?_⟩
 exact HX.out.2.2.2.1.trans hk3 (fun j h1 h2 => by omega)

set_option maxHeartbeats 4000000 in
theorem measure_any (s : ByteArray) (w : World) (hs : s.size ≤ 6000) :
  Calls Tryz.prog 96 #[.string s] w fun e w' => e = .returned (.agg (icells (Hm.lens s.data.toList)).toArray) ∧ Kept (fun _ => False) w w' := by
 have hsg := singles_any s (w.alloc (.cells Tryz.zeroCells139 139)) hs
 have hfine := Hm.fine_singles s.data.toList (by simpa using hs)
 by_cases h1 : (Hm.singles s.data.toList 256).length = 1
 ·have hL : Hm.lens s.data.toList = Hm.oneAt 256 ((Hm.singles s.data.toList 256).getD 0 (0, 0, [])).2.1.toNat 1 := by
   unfold Hm.lens; simp only []; rw [if_pos h1]; rfl
  rw [hL]
  exact measure_single s _ w hs _ rfl h1 (UInt8.toNat_lt _) rfl
 have hL : Hm.lens s.data.toList = (Hm.rounds (Hm.singles s.data.toList 256) (List.replicate 256 0) ((Hm.singles s.data.toList 256).length - 1)).2 := by
  unfold Hm.lens; simp only []; rw [if_neg h1]
 rw [hL]
 generalize Hm.singles s.data.toList 256 = gs at *
 clear hL
 have hgl := hfine.len
 have hne : ¬ ((gs.length : Int) = 1) := by omega
 go_enter Tryz.func96, Tryz.ntmps96
 go_wp2_with fail
 refine hsg.mono ?_
 rintro e w1 ⟨v, vs, rfl, hG, hk1⟩
 clear hsg
 have hlenv : v.oneCell' = true ∧ ∃ a c, v = .slice a gs.length c := by
  rcases hG.own.2 with ⟨rfl, h0⟩ | ⟨g, cap, cur, rfl, _⟩
  ·exact ⟨rfl, none, 0, by rw [h0]⟩
  ·exact ⟨rfl, _, _, rfl⟩
 obtain ⟨_, av, cv, ev⟩ := hlenv
 subst ev
 have hs1 : w.heap.size + 1 ≤ w1.heap.size := by have := hk1.size; simpa using this
 have HS : Hid (MState w ((w1.alloc (.cells #[.slice av gs.length cv] 213)).alloc (.cells Tryz.zeroCells139 139)) w1.heap.size gs (List.replicate 256 0) (.slice av gs.length cv) vs) := by
  have hka : Kept (fun _ => False) w1 ((w1.alloc (.cells #[.slice av gs.length cv] 213)).alloc (.cells Tryz.zeroCells139 139)) := ((Kept.refl _ _).alloc _).alloc _
  have hb : (w.alloc (.cells Tryz.zeroCells139 139)).heap.size = w.heap.size + 1 := by simp
  rw [hb] at hG
  refine ⟨⟨hG.len, hka.owns hG.own (fun _ _ => id), fun i h1 h2 => ⟨(hG.mem i h1 h2).1.kept hka (fun _ _ => id), (hG.mem i h1 h2).2⟩⟩, heap_alloc2_old w1 _ _, ?_, hka.row (hk1.row (heap_alloc_new w _) id) id, (((Kept.refl _ w).alloc _).trans hk1 (fun _ _ h => h)).trans hka (fun _ _ h => h), fun k hk => ?_, fun m hm k hk => ?_, by omega⟩
  ·unfold ArrRow; rw [heap_alloc2_new w1 _ _, zero_len]
  ·have := (hG.own.lt k hk).2; omega
  ·obtain ⟨gg, cc, ee, _, _, hlt', _⟩ := (hG.mem m (by have := hG.len; omega) hm).1
   rw [ee] at hk; cases hk; show gg ≠ _ ∧ gg ≠ _; omega
 clear hG hk1
 go_wp2_with fail
 have hst := HS.out
 clear HS
 have hb1 : ((gs.length : Int) == 1) = false := by rw [beq_eq_false_iff_ne]; exact hne
 rw [hb1]
 clear hb1
 generalize (w1.alloc (.cells #[.slice av gs.length cv] 213)).alloc (.cells Tryz.zeroCells139 139) = W0 at *
 go_loopg [20] (gs.length - 1) (fun k _ wr => ∃ (j : Nat) (v' : Value) (vs' : List Value), j + k = gs.length - 1 ∧ MState w wr w1.heap.size (Hm.rounds gs (List.replicate 256 0) j).1 (Hm.rounds gs (List.replicate 256 0) j).2 v' vs' ∧ Hm.Fine (Hm.rounds gs (List.replicate 256 0) j).1 ∧ (Hm.rounds gs (List.replicate 256 0) j).1.length + j = gs.length ∧ (∀ x ∈ (Hm.rounds gs (List.replicate 256 0) j).2, x ≤ 256 * j) ∧ (Hm.rounds gs (List.replicate 256 0) j).2.length = 256)
 case atStart => exact ⟨0, _, vs, by omega, hst, hfine, rfl, fun x hx => by rw [List.eq_of_mem_replicate hx]; omega, List.length_replicate⟩
 case round =>
  clear hst
  obtain ⟨j, v', vs', hjk, hst, hfi, hln, hle, hL1⟩ := hrel
  have HN : Hid (Hm.rounds gs (List.replicate 256 0) (j + 1) = (Hm.step (Hm.rounds gs (List.replicate 256 0) j).1, Hm.bump (Hm.rounds gs (List.replicate 256 0) j).2 (Hm.both (Hm.rounds gs (List.replicate 256 0) j).1).2.2)) := rfl
  have HZ : Hid (Hm.rounds gs (List.replicate 256 0) j = ((Hm.rounds gs (List.replicate 256 0) j).1, (Hm.rounds gs (List.replicate 256 0) j).2)) := rfl
  generalize (Hm.rounds gs (List.replicate 256 0) j).1 = g1 at *
  generalize (Hm.rounds gs (List.replicate 256 0) j).2 = L1 at *
  have hlenv : ∃ a c, v' = .slice a g1.length c := by
   rcases hst.grp.own.2 with ⟨rfl, h0⟩ | ⟨g, cap, cur, rfl, _⟩
   ·exact ⟨none, 0, by rw [h0]⟩
   ·exact ⟨_, _, rfl⟩
  obtain ⟨a', c', ev⟩ := hlenv
  subst ev
  have hc0 : wr.cell? ⟨w1.heap.size, 0, none⟩ = some (.slice a' g1.length c') := cell_of_row _ _ 0 _ _ _ hst.row
  by_cases hlt : 1 < g1.length
  ·have hdec : decide (1 < g1.length) = true := by simp; omega
   have hdec2 : decide ((1 : Int) < (g1.length : Int)) = true := by simp; omega
   have hgl1 := hfi.len
   have hleft := Hm.left_length g1 (by omega)
   have ht1 := takeFirst_any (w.heap.size + 1) w1.heap.size _ g1 vs' wr hst.grp hst.row (fun e => (hst.own _ e).1 rfl) (fun m hm e => (hst.mem m hm _ e).1 rfl) hgl1 (by omega)
   have HST : Hid (MState w wr w1.heap.size g1 L1 (.slice a' g1.length c') vs') := hst
   have HFI : Hid (Hm.Fine g1 ∧ (∀ x ∈ L1, x ≤ 256 * j)) := ⟨hfi, hle⟩
   clear hst hfi hle
   go_wp2_with fail
   refine ht1.mono ?_
   rintro e w2 ⟨v2, gw, gl, gv, rfl, hgw, hgl', hgv, hr2, hG2, ho2, hk2⟩
   obtain ⟨st2, hM2, hb2⟩ := HST.out.take (by omega) hr2 hG2 ho2 hk2
   clear ht1 hr2 hG2 ho2 hk2
   rw [← hgv] at hM2 hb2
   obtain ⟨mA, cA, eA, -⟩ := id hM2
   subst eA
   obtain rfl : gw = (Hm.taken g1).1 := hgw
   obtain rfl : gl = (Hm.taken g1).2.1.toNat := hgl'
   clear hgv
   have HM2 : Hid (MemAt w2 (.slice (some ⟨mA, 0, none⟩) (Hm.taken g1).2.2.length cA) (Hm.taken g1).2.2) := hM2
   have hbA := hb2 mA rfl
   clear hM2 hb2 HST hc0
   have st2' := st2.grew (((Kept.refl (fun _ => False) w2).alloc (.cells #[.int .i64 ((Hm.taken g1).1 : Nat), .int .u8 ((Hm.taken g1).2.1.toNat : Nat), .slice (some ⟨mA, 0, none⟩) (Hm.taken g1).2.2.length cA] 216)))
   have ht2 := takeFirst_any (w.heap.size + 1) w1.heap.size _ (Hm.left g1) _ _ st2'.grp st2'.row (fun e => (st2'.own _ e).1 rfl) (fun m hm e => (st2'.mem m hm _ e).1 rfl) (by omega) (by omega)
   have hnA := heap_alloc_new w2 (.cells #[.int .i64 ((Hm.taken g1).1 : Nat), .int .u8 ((Hm.taken g1).2.1.toNat : Nat), .slice (some ⟨mA, 0, none⟩) (Hm.taken g1).2.2.length cA] 216)
   have hkA : Kept (fun _ => False) w2 (w2.alloc (.cells #[.int .i64 ((Hm.taken g1).1 : Nat), .int .u8 ((Hm.taken g1).2.1.toNat : Nat), .slice (some ⟨mA, 0, none⟩) (Hm.taken g1).2.2.length cA] 216)) := (Kept.refl _ _).alloc _
   have HS2 : Hid (MState w (w2.alloc (.cells #[.int .i64 ((Hm.taken g1).1 : Nat), .int .u8 ((Hm.taken g1).2.1.toNat : Nat), .slice (some ⟨mA, 0, none⟩) (Hm.taken g1).2.2.length cA] 216)) w1.heap.size (Hm.left g1) L1 v2 (vs'.eraseIdx (Hm.first g1)) ∧ (∀ k, v2.ownBlock = some k → k < w2.heap.size) ∧
    (w2.alloc (.cells #[.int .i64 ((Hm.taken g1).1 : Nat), .int .u8 ((Hm.taken g1).2.1.toNat : Nat), .slice (some ⟨mA, 0, none⟩) (Hm.taken g1).2.2.length cA] 216)).heap[w2.heap.size]? = some (.cells #[.int .i64 ((Hm.taken g1).1 : Nat), .int .u8 ((Hm.taken g1).2.1.toNat : Nat), .slice (some ⟨mA, 0, none⟩) (Hm.taken g1).2.2.length cA] 216 (0, 0)) ∧
    MemAt (w2.alloc (.cells #[.int .i64 ((Hm.taken g1).1 : Nat), .int .u8 ((Hm.taken g1).2.1.toNat : Nat), .slice (some ⟨mA, 0, none⟩) (Hm.taken g1).2.2.length cA] 216)) (.slice (some ⟨mA, 0, none⟩) (Hm.taken g1).2.2.length cA) (Hm.taken g1).2.2 ∧ v2.ownBlock ≠ some mA ∧ w1.heap.size < w2.heap.size) :=
    ⟨st2', fun k hk => (st2.grp.own.lt k hk).2, hnA, HM2.out.kept hkA (fun _ _ => id), hbA.2.2, lt_of_block st2.row⟩
   clear st2 st2' hnA hkA HM2
   go_wp2_with fail
   refine ht2.mono ?_
   rintro e w3 ⟨v3, gw, gl, gv, rfl, hgw, hgl', hgv, hr3, hG3, ho3, hk3⟩
   obtain ⟨sA, hvl2, hnA, hMA, hvA, hpw2⟩ := HS2.out
   obtain ⟨st3, hM3, hb3⟩ := sA.take (by omega) hr3 hG3 ho3 hk3
   rw [← hgv] at hM3 hb3
   obtain ⟨mB, cB, eB, -⟩ := id hM3
   subst eB
   obtain rfl : gw = (Hm.taken (Hm.left g1)).1 := hgw
   obtain rfl : gl = (Hm.taken (Hm.left g1)).2.1.toNat := hgl'
   have hbB := hb3 mB rfl
   have hA3 := hk3.row hnA (by
    rintro (e | e)
    ·omega
    ·have := hvl2 _ e; omega)
   have hMA3 := hMA.kept hk3 (by
    rintro k hk (e | e)
    ·cases hk; exact hbA.1 e
    ·cases hk; exact hvA e)
   clear ht2 hgv hr3 hG3 ho3 hk3 hb3 sA hvl2 hnA hMA hvA HS2
   have hk4 : Kept (fun _ => False) w3 (w3.alloc (.cells #[.int .i64 ((Hm.taken (Hm.left g1)).1 : Nat), .int .u8 ((Hm.taken (Hm.left g1)).2.1.toNat : Nat), .slice (some ⟨mB, 0, none⟩) (Hm.taken (Hm.left g1)).2.2.length cB] 216)) := (Kept.refl _ _).alloc _
   have hbl := Hm.both_le HFI.out.1 hlt
   have hj := joinG_any (Hm.taken g1) (Hm.taken (Hm.left g1)) _ _ _ (hMA3.kept hk4 (fun _ _ => id)) (hM3.kept hk4 (fun _ _ => id)) hbl.2.2.1 (by omega) (by omega)
   have f0 : w3.cell? ⟨w2.heap.size, 0, none⟩ = some (.int .i64 ((Hm.taken g1).1 : Nat)) := cell_of_row _ _ 0 _ _ _ hA3
   have f1 : w3.cell? ⟨w2.heap.size, 1, none⟩ = some (.int .u8 ((Hm.taken g1).2.1.toNat : Nat)) := cell_of_row _ _ 1 _ _ _ hA3
   have f2 : w3.cell? ⟨w2.heap.size, 2, none⟩ = some (.slice (some ⟨mA, 0, none⟩) (Hm.taken g1).2.2.length cA) := cell_of_row _ _ 2 _ _ _ hA3
   have hw23 : w2.heap.size < w3.heap.size := lt_of_block hA3
   have HS3 : Hid (MState w (w3.alloc (.cells #[.int .i64 ((Hm.taken (Hm.left g1)).1 : Nat), .int .u8 ((Hm.taken (Hm.left g1)).2.1.toNat : Nat), .slice (some ⟨mB, 0, none⟩) (Hm.taken (Hm.left g1)).2.2.length cB] 216)) w1.heap.size (Hm.left (Hm.left g1)) L1 v3 ((vs'.eraseIdx (Hm.first g1)).eraseIdx (Hm.first (Hm.left g1)))) := st3.grew hk4
   clear st3 hM3 hA3 hMA3 hk4
   have HJ : Hid (Hm.both g1 = Hm.joinG (Hm.taken g1) (Hm.taken (Hm.left g1))) := rfl
   have HSTEP : Hid (Hm.step g1 = Hm.left (Hm.left g1) ++ [Hm.both g1] ∧ (Hm.left (Hm.left g1)).length + 1 = (Hm.left g1).length) := ⟨rfl, Hm.left_length _ (by omega)⟩
   go_wp2_with fail
   refine hj.mono ?_
   rintro e w4 ⟨v5, rfl, hM5, hb5, hk5⟩
   rw [← HJ.out] at hM5 ⊢
   have hCl : (Hm.both g1).2.2.length ≤ 256 := by rw [HJ.out, Hm.joinG]; simp only [List.length_append]; omega
   generalize Hm.both g1 = C at *
   obtain ⟨mC, cC, eC, -⟩ := id hM5
   subst eC
   have hbC := hb5 mC rfl
   have st5 := (HS3.out.grew hk5).grew (((Kept.refl (fun _ => False) w4).alloc (.cells #[.int .i64 (C.1 : Nat), .int .u8 (C.2.1.toNat : Nat), .slice (some ⟨mC, 0, none⟩) C.2.2.length cC] 216)))
   have hpb1 : w1.heap.size + 1 < mC := by
    have h2 := HS3.out.len.lt
    omega
   have HS5 : Hid (MState w (w4.alloc (.cells #[.int .i64 (C.1 : Nat), .int .u8 (C.2.1.toNat : Nat), .slice (some ⟨mC, 0, none⟩) C.2.2.length cC] 216)) w1.heap.size (Hm.left (Hm.left g1)) L1 v3 ((vs'.eraseIdx (Hm.first g1)).eraseIdx (Hm.first (Hm.left g1))) ∧
    (w4.alloc (.cells #[.int .i64 (C.1 : Nat), .int .u8 (C.2.1.toNat : Nat), .slice (some ⟨mC, 0, none⟩) C.2.2.length cC] 216)).heap[w4.heap.size]? = some (.cells #[.int .i64 (C.1 : Nat), .int .u8 (C.2.1.toNat : Nat), .slice (some ⟨mC, 0, none⟩) C.2.2.length cC] 216 (0, 0)) ∧
    MemAt (w4.alloc (.cells #[.int .i64 (C.1 : Nat), .int .u8 (C.2.1.toNat : Nat), .slice (some ⟨mC, 0, none⟩) C.2.2.length cC] 216)) (.slice (some ⟨mC, 0, none⟩) C.2.2.length cC) C.2.2 ∧ w1.heap.size + 1 < w4.heap.size ∧ (∀ k, v3.ownBlock = some k → k < mC)) :=
    ⟨st5, heap_alloc_new _ _, hM5.kept ((Kept.refl (fun _ => False) w4).alloc _) (fun _ _ => id), (HS3.out.grew hk5).len.lt, fun k hk => Nat.lt_of_lt_of_le (HS3.out.grp.own.lt k hk).2 hbC⟩
   clear hj hM5 hb5 hk5 st5 HS3 f0 f1 f2
   go_wp2_with fail
   obtain ⟨st5, hC5, hM5, hp4, hv3⟩ := HS5.out
   clear HS5
   generalize w4.alloc (.cells #[.int .i64 (C.1 : Nat), .int .u8 (C.2.1.toNat : Nat), .slice (some ⟨mC, 0, none⟩) C.2.2.length cC] 216) = W5 at *
   generalize (vs'.eraseIdx (Hm.first g1)).eraseIdx (Hm.first (Hm.left g1)) = VS at *
   have HV3 : Hid (∀ k, v3.ownBlock = some k → k < mC) := hv3
   clear hv3
   go_loopw [31] (fun i wr2 => ∃ b : Nat, b ≤ C.2.2.length ∧ i = .int .i64 b ∧ MState w wr2 w1.heap.size (Hm.left (Hm.left g1)) (Hm.bump L1 (C.2.2.take b)) v3 VS ∧ wr2.heap[w4.heap.size]? = some (.cells #[.int .i64 (C.1 : Nat), .int .u8 (C.2.1.toNat : Nat), .slice (some ⟨mC, 0, none⟩) C.2.2.length cC] 216 (0, 0)) ∧ MemAt wr2 (.slice (some ⟨mC, 0, none⟩) C.2.2.length cC) C.2.2) (fun i _ => C.2.2.length - (intOf i).toNat)
   case atStart => exact ⟨0, Nat.zero_le _, rfl, by rw [List.take_zero]; exact st5, hC5, hM5⟩
   case round =>
    clear st5 hC5 hM5
    obtain ⟨b, hb, rfl, st6, hC6, hM6⟩ := hrel
    by_cases hlt2 : b < C.2.2.length
    ·have hdb : decide ((b : Int) < (C.2.2.length : Int)) = true := by simp; omega
     have hbl6 := Hm.bump_length (C.2.2.take b) L1
     have hxl : C.2.2[b].toNat < 256 := UInt8.toNat_lt _
     have hcell : wr.cell? ⟨mC, b, none⟩ = some (.int .u8 (C.2.2[b].toNat : Nat)) := by
      obtain ⟨g', c'', e', _, _, _, hcc⟩ := hM6
      cases e'
      exact hcc b hlt2
     have hlc := st6.len.cell (i := C.2.2[b].toNat) (by omega)
     have hlf := st6.len.free C.2.2[b].toNat
     have hbd : (Hm.bump L1 (C.2.2.take b))[C.2.2[b].toNat]'(by omega) ≤ 256 * j + 256 := by
      have h3 := Hm.bump_le (C.2.2.take b) L1 (256 * j) HFI.out.2 _ (List.getElem_mem (l := Hm.bump L1 (C.2.2.take b)) (n := C.2.2[b].toNat) (by omega))
      rw [List.length_take] at h3; omega
     have hsn : Hm.bump L1 (C.2.2.take (b + 1)) = (Hm.bump L1 (C.2.2.take b)).set C.2.2[b].toNat ((Hm.bump L1 (C.2.2.take b))[C.2.2[b].toNat]'(by omega) + 1) := by
      rw [List.take_succ_eq_append_getElem hlt2, Hm.bump_snoc, List.getD_eq_getElem?_getD, List.getElem?_eq_getElem (by omega)]; rfl
     have st7 := st6.bump C.2.2[b].toNat ((Hm.bump L1 (C.2.2.take b))[C.2.2[b].toNat]'(by omega) + 1)
     rw [← hsn] at st7
     have hk7 : Kept (fun k => k = w1.heap.size + 1) wr (wr.setCell ⟨w1.heap.size + 1, C.2.2[b].toNat, none⟩ (.int .i64 (((Hm.bump L1 (C.2.2.take b))[C.2.2[b].toNat]'(by omega) + 1 : Nat) : Nat))) := (Kept.refl (fun k => k = w1.heap.size + 1) wr).setCell (p := ⟨w1.heap.size + 1, C.2.2[b].toNat, none⟩) (.inr rfl) _
     have H7 : Hid (MState w (wr.setCell ⟨w1.heap.size + 1, C.2.2[b].toNat, none⟩ (.int .i64 (((Hm.bump L1 (C.2.2.take b))[C.2.2[b].toNat]'(by omega) + 1 : Nat) : Nat))) w1.heap.size (Hm.left (Hm.left g1)) (Hm.bump L1 (C.2.2.take (b + 1))) v3 VS ∧
      (wr.setCell ⟨w1.heap.size + 1, C.2.2[b].toNat, none⟩ (.int .i64 (((Hm.bump L1 (C.2.2.take b))[C.2.2[b].toNat]'(by omega) + 1 : Nat) : Nat))).heap[w4.heap.size]? = some (.cells #[.int .i64 (C.1 : Nat), .int .u8 (C.2.1.toNat : Nat), .slice (some ⟨mC, 0, none⟩) C.2.2.length cC] 216 (0, 0)) ∧
      MemAt (wr.setCell ⟨w1.heap.size + 1, C.2.2[b].toNat, none⟩ (.int .i64 (((Hm.bump L1 (C.2.2.take b))[C.2.2[b].toNat]'(by omega) + 1 : Nat) : Nat))) (.slice (some ⟨mC, 0, none⟩) C.2.2.length cC) C.2.2) := ⟨st7, hk7.row hC6 (by omega), hM6.kept hk7 (fun k hk e => by cases hk; exact absurd (show mC = w1.heap.size + 1 from e) (by omega))⟩
     clear hsn st7 hk7 st6 hC6 hM6
     generalize (Hm.bump L1 (C.2.2.take b))[C.2.2[b].toNat]'(by omega) = y at *
     generalize C.2.2[b].toNat = x at *
     go_wp2
     go_roundw
     case rel => exact ⟨b + 1, by omega, by go_num, H7.out.1, H7.out.2.1, H7.out.2.2⟩
     case measure => simp [intOf]; omega
    ·have hdb : decide ((C.2.2.length : Int) < (C.2.2.length : Int)) = false := by simp
     have hbe : b = C.2.2.length := by omega
     subst hbe
     rw [List.take_length] at st6
     obtain ⟨a3, c3, ev3⟩ : ∃ a3 c3, v3 = .slice a3 (Hm.left (Hm.left g1)).length c3 := by
      rcases st6.grp.own.2 with ⟨rfl, h0⟩ | ⟨g, cap, cur, rfl, _⟩
      ·exact ⟨none, 0, by rw [h0]⟩
      ·exact ⟨_, _, rfl⟩
     subst ev3
     have c0 : wr.cell? ⟨w1.heap.size, 0, none⟩ = some (.slice a3 (Hm.left (Hm.left g1)).length c3) := cell_of_row _ _ 0 _ _ _ st6.row
     have d0 : wr.cell? ⟨w4.heap.size, 0, none⟩ = some (.int .i64 (C.1 : Nat)) := cell_of_row _ _ 0 _ _ _ hC6
     have d1 : wr.cell? ⟨w4.heap.size, 1, none⟩ = some (.int .u8 (C.2.1.toNat : Nat)) := cell_of_row _ _ 1 _ _ _ hC6
     have d2 : wr.cell? ⟨w4.heap.size, 2, none⟩ = some (.slice (some ⟨mC, 0, none⟩) C.2.2.length cC) := cell_of_row _ _ 2 _ _ _ hC6
     have HS6 : Hid (MState w wr w1.heap.size (Hm.left (Hm.left g1)) (Hm.bump L1 C.2.2) (.slice a3 (Hm.left (Hm.left g1)).length c3) VS ∧ MemAt wr (.slice (some ⟨mC, 0, none⟩) C.2.2.length cC) C.2.2) := ⟨st6, hM6⟩
     have hsw := st6.len.lt
     have hkk := st6.kept.size
     clear st6 hM6 hC6 hb
     obtain ⟨i0, hi, hz0, hz1, hz2⟩ := info_parts info_group
     have hl2 : (Hm.left (Hm.left g1)).length ≤ 256 := by have := HSTEP.out.2; omega
     generalize hn3 : (Hm.left (Hm.left g1)).length = n3 at *
     have HN3 : Hid ((Hm.left (Hm.left g1)).length = n3) := hn3
     clear hn3
     go_wp2_with (at_builtin; refine wpList_append_mv _ rfl (.tmp 41) (.tmp 43) 213 rfl (w.heap.size + 1) 216 i0 _ 3 40 Tryz.underlying213 hi hz0 hz1 hz2 rfl (by decide) _ n3 (Hm.gcells (Hm.left (Hm.left g1)) VS) rfl ?c0 ⟨wr.heap.size, 0, none⟩ 1 1 [.int .i64 (C.1 : Nat), .int .u8 (C.2.1.toNat : Nat), .slice (some ⟨mC, 0, none⟩) C.2.2.length cC] rfl rfl ?c1 ?c2 ?c3 ?c4 ?c5 ?_)
     case c0 =>
      have := HS6.out.1.grp.own
      rw [HN3.out] at this
      exact ((Kept.refl (fun _ => False) wr).alloc _).owns this (fun _ _ => id)
     case c1 =>
      intro j u hj
      rw [Addr.add_lit, Nat.zero_add, cell_of_row _ _ j _ _ _ (heap_alloc_new wr _)]
      simpa using hj
     case c2 => first | exact ⟨rfl, rfl, rfl⟩ | (intro u hu; simp at hu; rcases hu with rfl | rfl | rfl <;> rfl)
     case c3 => unfold maxLen; omega
     case c4 => omega
     case c5 => simp; omega
     intro v8 w8 ho8 hg8 hm8
     obtain ⟨a8, c8, ev8⟩ : ∃ a8 c8, v8 = .slice a8 (n3 + 1) c8 := by
      rcases ho8.2 with ⟨rfl, h0⟩ | ⟨g, cap, cur, rfl, _⟩
      ·omega
      ·exact ⟨_, _, rfl⟩
     subst ev8
     have st9 := HS6.out.1.app ((Kept.refl (fun _ => False) wr).alloc (.cells #[.int .i64 (C.1 : Nat), .int .u8 (C.2.1.toNat : Nat), .slice (some ⟨mC, 0, none⟩) C.2.2.length cC] 216)) (g := C) (mv := .slice (some ⟨mC, 0, none⟩) C.2.2.length cC) (HS6.out.2.kept ((Kept.refl (fun _ => False) wr).alloc _) (fun _ _ => id))
      (fun k hk => by
       cases hk
       refine ⟨fun e => Nat.lt_irrefl _ (HV3.out _ e), ?_, ?_⟩
       ·show mC ≠ _; omega
       ·show mC ≠ _; omega) (by rw [HN3.out]; exact ho8) hg8 hm8
     have k8 : Kept (fun k => (Value.slice a3 n3 c3).ownBlock = some k) _ w8 := (Kept.refl _ _).grown hg8 (fun j hj => .inr hj)
     have row8 := k8.row (((Kept.refl (fun _ => False) wr).alloc _).row HS6.out.1.row id) (fun e => (HS6.out.1.own _ e).1 rfl)
     have r8 : w8.cell? ⟨w1.heap.size, 0, none⟩ = some (.slice a3 n3 c3) := cell_of_row _ _ 0 _ _ _ row8
     have q8 : w8.frozen? ⟨w1.heap.size, 0, none⟩ = false := frozen_of_row _ _ 0 _ _ row8
     have H9 : Hid (MState w (w8.setCell ⟨w1.heap.size, 0, none⟩ (.slice a8 (n3 + 1) c8)) w1.heap.size (Hm.left (Hm.left g1) ++ [C]) (Hm.bump L1 C.2.2) (.slice a8 (n3 + 1) c8) (VS ++ [.slice (some ⟨mC, 0, none⟩) C.2.2.length cC])) := st9
     clear st9 ho8 hg8 hm8 c0 d0 d1 d2 k8 row8
     have HJ2 : Hid (j + gk = gs.length - 1 ∧ g1.length + j = gs.length ∧ 1 < g1.length ∧ L1.length = 256) := ⟨hjk, hln, hlt, hL1⟩
     go_wp2
     go_roundg (gk - 1)
     case rel =>
      obtain ⟨p1, p2, p3, p4⟩ := HJ2.out
      have hfs := HFI.out.1.step p3
      have hsl := Hm.step_length g1 p3
      refine ⟨j + 1, .slice a8 (n3 + 1) c8, VS ++ [.slice (some ⟨mC, 0, none⟩) C.2.2.length cC], by omega, ?_, ?_, ?_, ?_, ?_⟩
      ·rw [HN.out, HSTEP.out.1]; exact H9.out
      ·rw [HN.out]; exact hfs
      ·rw [HN.out]; show (Hm.step g1).length + (j + 1) = _; omega
      ·rw [HN.out]
       intro x hx
       have := Hm.bump_le C.2.2 L1 (256 * j) HFI.out.2 x hx
       omega
      ·rw [HN.out]; show (Hm.bump L1 C.2.2).length = 256; rw [Hm.bump_length]; exact p4
     case measure => have := HJ2.out; omega
  ·have hdec : decide (1 < g1.length) = false := by simp; omega
   have hdec2 : decide ((1 : Int) < (g1.length : Int)) = false := by simp; omega
   have hje : gs.length - 1 = j := by omega
   have HL : Hid ((Hm.rounds gs (List.replicate 256 0) (gs.length - 1)).2 = L1) := by show _ = _; rw [hje, HZ.out]
   have hasz : (icells L1).toArray.size = 256 := by rw [icells_size]; exact hL1
   have hzs : Tryz.zeroCells139.size = 256 := by rw [zero_len, icells_size, List.length_replicate]
   have hall := icells_one L1
   have hrow := hst.len
   unfold ArrRow at hrow
   have HX : Hid (wr.heap[w1.heap.size + 1]? = some (.cells (icells L1).toArray 139 (0, 0)) ∧ wr.heap[w.heap.size]? = some (.cells Tryz.zeroCells139 139 (0, 0)) ∧ (icells L1).toArray.all (·.oneCell') = true ∧ Kept (fun _ => False) w wr ∧ Tryz.zeroCells139.size = (icells L1).toArray.size) := ⟨hrow, hst.res, hall, hst.kept, by rw [hzs, hasz]⟩
   clear hst hfi hle HN HZ hrow hall hzs hL1
   generalize hA : (icells L1).toArray = arr at *
   have HA : Hid ((icells L1).toArray = arr) := hA
   clear hA
   go_wp2_with (first
    | (refine wpList_load_row rfl 139 _ rfl (w1.heap.size + 1) rfl 139 arr (0, 0) _ HX.out.1 Tryz.underlying139 rfl (by rw [hasz]; exact info_len) ?_)
    | (refine wpList_store_row _ rfl 139 _ _ rfl w.heap.size 139 _ arr rfl rfl HX.out.2.1 (by rw [hasz]; exact info_len) HX.out.2.2.2.2 HX.out.2.2.1 ?_; intro w3 hw3 hk3))
   refine bodyPost_ret (v := .agg arr) (results_cell_row Tryz.results96 _ w3 w.heap.size 139 arr (0, 0) _ rfl hw3 Tryz.underlying139 rfl (by rw [hasz]; exact info_len)) rfl ⟨by rw [HL.out, HA.out], ?_⟩
   exact HX.out.2.2.2.1.trans hk3 (fun j h1 h2 => by omega)
end Go.Proofs.YtegnkfdbmmndaaaGreat
end

/- Check -/
section
/- Why files may not be packed. -/
namespace Go.Proofs.YtegnkfdbmmndaaaGreat
open Go.RowKit

namespace Hm
def leB (a b : ByteArray) : Bool := Op.bytesLess a.toList b.toList || a.toList == b.toList
def ckFile (nm ct ahead : ByteArray) : Int :=
 if nm.size = 0 ∨ 32 < nm.size then 2 else if leB nm ahead then 3 else if 3000 < ct.size then 4 else 0
def ckLoop (ah : ByteArray) (tot : Nat) : List (ByteArray × ByteArray) → Int
 | [] => if 6000 < tot then 5 else 0
 | f :: r => if Hm.ckFile f.1 f.2 ah = 0 then ckLoop f.1 (tot + f.2.size) r else Hm.ckFile f.1 f.2 ah
def ckAll (fs : List (ByteArray × ByteArray)) : Int := if 40 < fs.length then 1 else ckLoop ⟨#[]⟩ 0 fs
theorem ckLoop_drop (fs : List (ByteArray × ByteArray)) (k : Nat) (h : k < fs.length) (ah : ByteArray) (tot : Nat) :
  ckLoop ah tot (fs.drop k) = if Hm.ckFile fs[k].1 fs[k].2 ah = 0 then ckLoop fs[k].1 (tot + fs[k].2.size) (fs.drop (k + 1)) else Hm.ckFile fs[k].1 fs[k].2 ah := by
 rw [List.drop_eq_getElem_cons h]; rfl
theorem ckFile_small {nm ct ah : ByteArray} (h : ckFile nm ct ah = 0) : ct.size ≤ 3000 ∧ nm.size ≤ 32 ∧ nm.size ≠ 0 ∧ leB nm ah = false := by
 unfold ckFile at h
 split at h
 ·omega
 split at h
 ·omega
 split at h
 ·omega
 rename_i h1 h2 h3
 exact ⟨by omega, by omega, by omega, by simpa using h2⟩
theorem ckFile_range (nm ct ah : ByteArray) : 0 ≤ ckFile nm ct ah ∧ ckFile nm ct ah ≤ 4 := by
 unfold ckFile; split
 ·omega
 split
 ·omega
 split <;> omega
end Hm

theorem isEmpty_toList (s : ByteArray) : s.toList.isEmpty = decide (s.size = 0) := by
 have hl : s.data.toList.length = s.size := by simp
 rw [ByteArray.toList_eq, ← hl]
 cases s.data.toList <;> simp

theorem ck_name {nm ct ah : ByteArray} (h : nm.size = 0 ∨ 32 < nm.size) : Hm.ckFile nm ct ah = 2 := by rw [Hm.ckFile, if_pos h]
theorem ck_order {nm ct ah : ByteArray} (h0 : ¬ nm.size = 0) (h : (nm.size : Int) ≤ 32) (h2 : Op.bytesLess nm.toList ah.toList = true ∨ (nm.toList == ah.toList) = true) : Hm.ckFile nm ct ah = 3 := by
 rw [Hm.ckFile, if_neg (by omega), if_pos (by simpa [Hm.leB] using h2)]
theorem ck_big {nm ct ah : ByteArray} (h0 : ¬ nm.size = 0) (h : (nm.size : Int) ≤ 32) (h2 : Op.bytesLess nm.toList ah.toList = false ∧ (nm.toList == ah.toList) = false) (h3 : 3000 < (ct.size : Int)) : Hm.ckFile nm ct ah = 4 := by
 rw [Hm.ckFile, if_neg (by omega), if_neg (by simp [Hm.leB, h2.1]; simpa using h2.2), if_pos (by omega)]
theorem ck_ok {nm ct ah : ByteArray} (h0 : ¬ nm.size = 0) (h : (nm.size : Int) ≤ 32) (h2 : Op.bytesLess nm.toList ah.toList = false ∧ (nm.toList == ah.toList) = false) (h3 : (ct.size : Int) ≤ 3000) : Hm.ckFile nm ct ah = 0 := by
 rw [Hm.ckFile, if_neg (by omega), if_neg (by simp [Hm.leB, h2.1]; simpa using h2.2), if_neg (by omega)]
theorem ret_int {k : IntKind} {a b : Int} (h : a = b) : Ending.returned (.int k a) = .returned (.int k b) := by rw [h]

set_option maxHeartbeats 400000 in
theorem checkFile_any (nm ct ah : ByteArray) (w : World) (h1 : nm.size ≤ 140737488355328) (_h2 : ct.size ≤ 140737488355328) :
  Calls Tryz.prog 93 #[.agg #[.string nm, .string ct], .string ah] w fun e w' => e = .returned (.int .i64 (Hm.ckFile nm ct ah)) ∧ Kept (fun _ => False) w w' := by
 by_cases a0 : nm.size = 0
 ·have hE : nm.toList.isEmpty = true := by rw [isEmpty_toList]; simpa using a0
  go_enter Tryz.func93, Tryz.ntmps93
  go_wp2
  go_ret
  exact ⟨ret_int (ck_name (.inl a0)).symm, (Kept.refl _ _).alloc _⟩
 ·have hE : nm.toList.isEmpty = false := by rw [isEmpty_toList]; simpa using a0
  go_enter Tryz.func93, Tryz.ntmps93
  go_wp2
  all_goals go_ret
  ·exact ⟨ret_int (ck_name (.inr (by omega))).symm, (Kept.refl _ _).alloc _⟩
  ·exact ⟨ret_int (ck_order a0 ‹_› ‹_›).symm, (Kept.refl _ _).alloc _⟩
  ·exact ⟨ret_int (ck_big a0 ‹_› ‹_› ‹_›).symm, (Kept.refl _ _).alloc _⟩
  ·exact ⟨ret_int (ck_ok a0 ‹_› ‹_› ‹_›).symm, (Kept.refl _ _).alloc _⟩

set_option maxHeartbeats 400000 in
theorem check_any (ao : Option Addr) (c : Nat) (fs : List (ByteArray × ByteArray)) (w : World) (hf : FilesAt w ao fs) (hl : fs.length ≤ 140737488355328) (hsz : ∀ f ∈ fs, f.1.size ≤ 140737488355328 ∧ f.2.size ≤ 140737488355328) :
  Calls Tryz.prog 50 #[.slice ao fs.length c] w fun e w' => e = .returned (.int .i64 (Hm.ckAll fs)) ∧ Kept (fun _ => False) w w' := by
 by_cases h40 : 40 < fs.length
 ·clear hf
  go_enter Tryz.func50, Tryz.ntmps50
  go_wp2
  go_ret
  exact ⟨ret_int (by rw [Hm.ckAll, if_pos h40]), Kept.refl _ _⟩
 have HE : Hid (Hm.ckAll fs = Hm.ckLoop ⟨#[]⟩ 0 (fs.drop 0)) := by rw [Hm.ckAll, if_neg h40]; rfl
 generalize Hm.ckAll fs = E at HE ⊢
 go_enter Tryz.func50, Tryz.ntmps50
 go_wp2
 go_loopw [3, 4, 13] (fun t a i wr => ∃ (k : Nat) (tot : Nat) (ah : ByteArray), k ≤ fs.length ∧ i = .int .i64 k ∧ t = .int .i64 tot ∧ a = .string ah ∧ tot ≤ 3000 * k ∧ E = Hm.ckLoop ah tot (fs.drop k) ∧ Kept (fun _ => False) w wr) (fun _ _ i _ => fs.length - (intOf i).toNat)
 case atStart => exact ⟨0, 0, _, Nat.zero_le _, rfl, rfl, rfl, by omega, HE.out, Kept.refl _ _⟩
 case round =>
  clear HE
  obtain ⟨k, tot, ah, hk, rfl, rfl, rfl, ht, hE, hkr⟩ := hrel
  have HE : Hid (E = Hm.ckLoop ah tot (fs.drop k)) := hE
  clear hE
  by_cases hlt : k < fs.length
  ·obtain ⟨b, o, hao, hbw, hc1, hc2⟩ := (hf.kept hkr (fun a ha => id)) k hlt
   have hs := hsz fs[k] (List.getElem_mem _)
   obtain ⟨hs1, hs2⟩ := hs
   have HT : Hid (E = if Hm.ckFile fs[k].1 fs[k].2 ah = 0 then Hm.ckLoop fs[k].1 (tot + fs[k].2.size) (fs.drop (k + 1)) else Hm.ckFile fs[k].1 fs[k].2 ah) := HE.out.trans (Hm.ckLoop_drop fs k hlt ah tot)
   generalize fs[k].1 = nm at *
   generalize fs[k].2 = ct at *
   rw [hao]
   clear hao hf HE hsz
   by_cases h0 : Hm.ckFile nm ct ah = 0
   ·have hsm := (Hm.ckFile_small h0).1
    have hcon := checkFile_any nm ct ah (wr.alloc (.cells #[.string nm, .string ct] 38)) hs1 hs2
    rw [h0] at hcon
    have HT2 : Hid (E = Hm.ckLoop nm (tot + ct.size) (fs.drop (k + 1))) := by rw [HT.out, if_pos h0]; rfl
    clear h0 HT
    go_wp2_with (go_at_call 93; refine hcon.mono ?_; rintro e w1 ⟨rfl, hk1⟩; have hx0 := hk1.cell (p := ⟨wr.heap.size, 0, none⟩) (by simp) id; have hx1 := hk1.cell (p := ⟨wr.heap.size, 1, none⟩) (by simp) id; simp at hx0 hx1)
    go_roundw
    case rel => exact ⟨k + 1, tot + ct.size, nm, by omega, by go_num, by go_num, rfl, by omega, HT2.out, (hkr.alloc _).trans hk1 (fun _ _ h => h)⟩
    case measure => simp [intOf]; omega
   ·have hcon := checkFile_any nm ct ah (wr.alloc (.cells #[.string nm, .string ct] 38)) hs1 hs2
    have hrg := Hm.ckFile_range nm ct ah
    have HT2 : Hid (E = Hm.ckFile nm ct ah) := by rw [HT.out, if_neg h0]; rfl
    clear HT
    generalize Hm.ckFile nm ct ah = r at *
    have h0' : (r != 0) = true := by rw [bne_iff_ne]; exact h0
    go_wp2_with (go_at_call 93; refine hcon.mono ?_; rintro e w1 ⟨rfl, hk1⟩)
    go_ret
    exact ⟨ret_int HT2.out.symm, (hkr.alloc _).trans hk1 (fun _ _ h => h)⟩
  ·obtain rfl : k = fs.length := by omega
   have HT2 : Hid (E = if 6000 < tot then 5 else 0) := by have h := HE.out; rw [List.drop_length] at h; exact h
   clear HE hf
   by_cases h6 : 6000 < tot
   ·go_wp2
    go_ret
    exact ⟨ret_int (by rw [HT2.out, if_pos h6]), hkr⟩
   ·go_wp2
    go_ret
    exact ⟨ret_int (by rw [HT2.out, if_neg h6]), hkr⟩

end Go.Proofs.YtegnkfdbmmndaaaGreat
end
