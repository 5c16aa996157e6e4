import Derived.Test.YtegnkfdbmmndaaaGreatJ04
import Derived.Test.YtegnkfdbmmndaaaGreatJ15
import Derived.Test.YtegnkfdbmmndaaaGreatJ03
import Derived.Test.YtegnkfdbmmndaaaGreatJ01
import Derived.Deep.RegionHeld

/- Share -/
section
/- The tree in memory; a branch is given so many bytes. -/
namespace Go.Proofs.YtegnkfdbmmndaaaGreat
open Go.RowKit

def treeCells (s : ByteArray) (len g : Nat) (T : List (Nat × Nat)) (v : Value) (ws : List Nat) (total : Nat) : List Value :=
 [.string s, .int .i64 (len : Nat), .slice (some ⟨g, 0, none⟩) (s.size + 1) (s.size + 1)] ++ (tcells T ++ (v :: (icells ws ++ [.int .i64 (total : Nat)])))
theorem treeCells_tab (s : ByteArray) (len g : Nat) (T : List (Nat × Nat)) (v : Value) (ws : List Nat) (total i : Nat) (h : i < T.length * 2) : (treeCells s len g T v ws total)[3 + i]? = (tcells T)[i]? := by
 unfold treeCells
 rw [List.getElem?_append_right (by simp), show 3 + i - [Value.string s, .int .i64 (len : Nat), .slice (some ⟨g, 0, none⟩) (s.size + 1) (s.size + 1)].length = i from by simp, List.getElem?_append_left (by rw [tcells_length]; exact h)]
theorem treeCells_nodes (s : ByteArray) (len g : Nat) (T : List (Nat × Nat)) (v : Value) (ws : List Nat) (total : Nat) (h : T.length = 256) : (treeCells s len g T v ws total)[515]? = some v := by
 unfold treeCells
 rw [List.getElem?_append_right (by simp), List.getElem?_append_right (by rw [tcells_length, h]; simp), tcells_length, h]
 rw [show 515 - [Value.string s, .int .i64 (len : Nat), .slice (some ⟨g, 0, none⟩) (s.size + 1) (s.size + 1)].length - 256 * 2 = 0 from by simp, List.getElem?_cons_zero]
theorem treeCells_ws (s : ByteArray) (len g : Nat) (T : List (Nat × Nat)) (v : Value) (ws : List Nat) (total i : Nat) (h : T.length = 256) (hi : i < ws.length) : (treeCells s len g T v ws total)[516 + i]? = some (.int .i64 (ws.getD i 0 : Nat)) := by
 unfold treeCells
 rw [List.getElem?_append_right (by simp; omega), List.getElem?_append_right (by rw [tcells_length, h]; simp; omega), tcells_length, h]
 rw [show 516 + i - [Value.string s, .int .i64 (len : Nat), .slice (some ⟨g, 0, none⟩) (s.size + 1) (s.size + 1)].length - 256 * 2 = i + 1 from by simp; omega, List.getElem?_cons_succ, List.getElem?_append_left (by simp [icells]; exact hi)]
 simp [icells, List.getElem?_map, List.getD_eq_getElem?_getD, List.getElem?_eq_getElem hi]
theorem treeCells_total (s : ByteArray) (len g : Nat) (T : List (Nat × Nat)) (v : Value) (ws : List Nat) (total : Nat) (h : T.length = 256) (hw : ws.length = 256) : (treeCells s len g T v ws total)[772]? = some (.int .i64 (total : Nat)) := by
 unfold treeCells
 rw [List.getElem?_append_right (by simp), List.getElem?_append_right (by rw [tcells_length, h]; simp), tcells_length, h]
 rw [show 772 - [Value.string s, .int .i64 (len : Nat), .slice (some ⟨g, 0, none⟩) (s.size + 1) (s.size + 1)].length - 256 * 2 = 256 + 1 from by simp, List.getElem?_cons_succ, List.getElem?_append_right (by simp [icells, hw])]
 simp [icells, hw]
theorem treeCells_setWs (s : ByteArray) (len g : Nat) (T : List (Nat × Nat)) (v : Value) (ws : List Nat) (total i x : Nat) (h : T.length = 256) (hi : i < ws.length) : (treeCells s len g T v ws total).set (516 + i) (.int .i64 (x : Nat)) = treeCells s len g T v (ws.set i x) total := by
 unfold treeCells
 rw [List.set_append_right _ _ (by simp; omega), List.set_append_right _ _ (by rw [tcells_length, h]; simp; omega), tcells_length, h]
 rw [show 516 + i - [Value.string s, .int .i64 (len : Nat), .slice (some ⟨g, 0, none⟩) (s.size + 1) (s.size + 1)].length - 256 * 2 = i + 1 from by simp; omega, List.set_cons_succ, List.set_append_left _ _ (by simp [icells]; exact hi)]
 congr 4
 simp [icells, List.map_set]
theorem treeCells_length (s : ByteArray) (len g : Nat) (T : List (Nat × Nat)) (v : Value) (ws : List Nat) (total : Nat) (h : T.length = 256) (hw : ws.length = 256) : (treeCells s len g T v ws total).length = 773 := by
 unfold treeCells
 simp [tcells_length, h, icells, hw]

/-- A tree in block tb. -/
structure TreeAt (w : World) (tb : Nat) (s : ByteArray) (len g : Nat) (T : List (Nat × Nat)) (v : Value) (nds : List Hm.Nd) (ws : List Nat) (total : Nat) : Prop where
 blk : w.heap[tb]? = some (.cells (treeCells s len g T v ws total).toArray 96 (0, 0))
 row : IntRow w g (Hm.counts s.data.toList)
 nod : w.ownsRow 0 195 9 v nds.length (ncells nds)
 tl : T.length = 256
 wl : ws.length = 256
 n1 : v.ownBlock ≠ some tb
 n2 : g ≠ tb
 n3 : v.ownBlock ≠ some g

section
variable {w w' : World} {tb len g total : Nat} {s : ByteArray} {T : List (Nat × Nat)} {v : Value} {nds : List Hm.Nd} {ws : List Nat} {S : Nat → Prop}
theorem TreeAt.kept (h : TreeAt w tb s len g T v nds ws total) (hk : Kept S w w') (h1 : ¬ S tb) (h2 : ¬ S g) (h3 : ∀ j, v.ownBlock = some j → ¬ S j) : TreeAt w' tb s len g T v nds ws total :=
 ⟨hk.row h.blk h1, h.row.kept hk h2, hk.owns h.nod h3, h.tl, h.wl, h.n1, h.n2, h.n3⟩
theorem TreeAt.drew (h : TreeAt w tb s len g T v nds ws total) : TreeAt w.drew tb s len g T v nds ws total := ⟨h.blk, h.row, h.nod, h.tl, h.wl, h.n1, h.n2, h.n3⟩
theorem TreeAt.drewN (h : TreeAt w tb s len g T v nds ws total) (k : Nat) : TreeAt (w.drewN k) tb s len g T v nds ws total := ⟨h.blk, h.row, h.nod, h.tl, h.wl, h.n1, h.n2, h.n3⟩
theorem TreeAt.cellAt (h : TreeAt w tb s len g T v nds ws total) (i : Nat) : w.cell? ⟨tb, i, none⟩ = (treeCells s len g T v ws total)[i]? := by
 rw [cell_of_row _ _ i _ _ _ h.blk, List.getElem?_toArray]
theorem TreeAt.counted (h : TreeAt w tb s len g T v nds ws total) : CountedAt w tb 0 s len g := ⟨h.cellAt 0, h.cellAt 1, h.cellAt 2, h.row⟩
theorem TreeAt.nodes (h : TreeAt w tb s len g T v nds ws total) : w.cell? ⟨tb, 515, none⟩ = some v := (h.cellAt 515).trans (treeCells_nodes s len g T v ws total h.tl)
theorem TreeAt.tot (h : TreeAt w tb s len g T v nds ws total) : w.cell? ⟨tb, 772, none⟩ = some (.int .i64 (total : Nat)) := (h.cellAt 772).trans (treeCells_total s len g T v ws total h.tl h.wl)
theorem TreeAt.weight (h : TreeAt w tb s len g T v nds ws total) (i : Nat) (hi : i < 256) : w.cell? ⟨tb, 516 + i, none⟩ = some (.int .i64 (ws.getD i 0 : Nat)) := (h.cellAt (516 + i)).trans (treeCells_ws s len g T v ws total i h.tl (by rw [h.wl]; exact hi))
theorem TreeAt.free (h : TreeAt w tb s len g T v nds ws total) (i : Nat) : w.frozen? ⟨tb, i, none⟩ = false := frozen_of_row _ _ i _ _ h.blk
theorem TreeAt.lt (h : TreeAt w tb s len g T v nds ws total) : tb < w.heap.size := lt_of_block h.blk
/-- A weight is set. -/
theorem TreeAt.setW (h : TreeAt w tb s len g T v nds ws total) (i x : Nat) (hi : i < 256) : TreeAt (w.setCell ⟨tb, 516 + i, none⟩ (.int .i64 (x : Nat))) tb s len g T v nds (ws.set i x) total := by
 have hk : Kept (fun j => j = tb) w (w.setCell ⟨tb, 516 + i, none⟩ (.int .i64 (x : Nat))) := (Kept.refl (fun j => j = tb) w).setCell (p := ⟨tb, 516 + i, none⟩) (.inr rfl) _
 refine ⟨?_, h.row.kept hk h.n2, hk.owns h.nod (fun j hj e => h.n1 (by rw [hj, e])), h.tl, by rw [List.length_set]; exact h.wl, h.n1, h.n2, h.n3⟩
 have := heap_setCell_same w tb (516 + i) _ _ (.int .i64 (x : Nat)) h.blk
 rw [this, ← treeCells_setWs s len g T v ws total i x h.tl (by rw [h.wl]; exact hi)]
 simp
/-- A cell of a node is set. -/
theorem TreeAt.setN (h : TreeAt w tb s len g T v nds ws total) {ng cap n : Nat} (hv : v = .slice (some ⟨ng, 0, none⟩) n cap) (i : Nat) (x : Value) {nds' : List Hm.Nd} (hl : nds'.length = nds.length) (he : (ncells nds).set i x = ncells nds') : TreeAt (w.setCell ⟨ng, i, none⟩ x) tb s len g T v nds' ws total := by
 subst hv
 have hk : Kept (fun j => j = ng) w (w.setCell ⟨ng, i, none⟩ x) := (Kept.refl (fun j => j = ng) w).setCell (p := ⟨ng, i, none⟩) (.inr rfl) _
 have hno := h.nod
 obtain ⟨a, c, e, _⟩ := slice_shape hno
 simp only [Value.slice.injEq] at e
 obtain ⟨-, e, -⟩ := e
 subst e
 have e1 : tb ≠ ng := fun e => h.n1 (by rw [e]; rfl)
 have e2 : g ≠ ng := fun e => h.n3 (by rw [e]; rfl)
 refine ⟨hk.row h.blk e1, h.row.kept hk e2, ?_, h.tl, h.wl, h.n1, h.n2, h.n3⟩
 rw [hl, ← he]
 exact (hno.stored i x).1
end

/-- What share turns. -/
abbrev Tk (tb : Nat) (v : Value) : Nat → Prop := fun j => j = tb ∨ v.ownBlock = some j

set_option maxHeartbeats 400000 in
theorem share_any (tb g len total size l n cap ng : Nat) (s : ByteArray) (T : List (Nat × Nat)) (nds : List Hm.Nd) (ws : List Nat) (b : Hm.Br) (w : World) (h : TreeAt w tb s len g T (.slice (some ⟨ng, 0, none⟩) n cap) nds ws total) (hn : n = nds.length) (_hnl : n ≤ 255) (hb : b.node < n) (hz : size ≤ 100000) :
  Calls Tryz.prog 183 #[.pointer (some ⟨tb, 0, none⟩), .agg (brCells b).toArray, .int .i64 size] w fun e w' =>
   e = .returned (.bool (Hm.shareM b size ⟨l, nds, ws⟩).isSome) ∧ TreeAt w' tb s len g T (.slice (some ⟨ng, 0, none⟩) n cap) ((Hm.shareM b size ⟨l, nds, ws⟩).getD ⟨l, nds, ws⟩).nds ((Hm.shareM b size ⟨l, nds, ws⟩).getD ⟨l, nds, ws⟩).ws total ∧ Kept (Tk tb (.slice (some ⟨ng, 0, none⟩) n cap)) w w' := by
 have hk0 : Kept (fun _ => False) w (w.alloc (.cells (brCells b).toArray 192)) := (Kept.refl _ _).alloc _
 have h1 := h.kept hk0 id id (fun _ _ => id)
 have hbx := heap_alloc_new w (.cells (brCells b).toArray 192)
 have c0 : (w.alloc (.cells (brCells b).toArray 192)).cell? ⟨w.heap.size, 0, none⟩ = some (.bool b.whole) := cell_of_row _ _ 0 _ _ _ hbx
 have c1 : (w.alloc (.cells (brCells b).toArray 192)).cell? ⟨w.heap.size, 1, none⟩ = some (.int .u8 (b.val.toNat : Nat)) := cell_of_row _ _ 1 _ _ _ hbx
 have c2 : (w.alloc (.cells (brCells b).toArray 192)).cell? ⟨w.heap.size, 2, none⟩ = some (.int .i64 (b.node : Nat)) := cell_of_row _ _ 2 _ _ _ hbx
 have htw : tb < w.heap.size := h.lt
 obtain ⟨bw, bv, bn⟩ := b
 have c0' : (w.alloc (.cells #[.bool bw, .int .u8 (bv.toNat : Nat), .int .i64 (bn : Nat)] 192)).cell? ⟨w.heap.size, 0, none⟩ = some (.bool bw) := c0
 have c1' : (w.alloc (.cells #[.bool bw, .int .u8 (bv.toNat : Nat), .int .i64 (bn : Nat)] 192)).cell? ⟨w.heap.size, 1, none⟩ = some (.int .u8 (bv.toNat : Nat)) := c1
 have c2' : (w.alloc (.cells #[.bool bw, .int .u8 (bv.toNat : Nat), .int .i64 (bn : Nat)] 192)).cell? ⟨w.heap.size, 2, none⟩ = some (.int .i64 (bn : Nat)) := c2
 have hT : TreeAt (w.alloc (.cells #[.bool bw, .int .u8 (bv.toNat : Nat), .int .i64 (bn : Nat)] 192)) tb s len g T (.slice (some ⟨ng, 0, none⟩) n cap) nds ws total := h1
 have hK : Kept (Tk tb (.slice (some ⟨ng, 0, none⟩) n cap)) w (w.alloc (.cells #[.bool bw, .int .u8 (bv.toNat : Nat), .int .i64 (bn : Nat)] 192)) := hk0.wider (fun _ _ h => h.elim)
 have hbv := bv.toNat_lt
 clear hk0 h1 hbx c0 c1 c2 h
 show Calls Tryz.prog 183 #[.pointer (some ⟨tb, 0, none⟩), .agg #[.bool bw, .int .u8 (bv.toNat : Nat), .int .i64 (bn : Nat)], .int .i64 size] w _
 cases bw with
 | true =>
  have e : Hm.shareM { whole := true, val := bv, node := bn } size ⟨l, nds, ws⟩ = some ⟨l, nds, ws.set bv.toNat size⟩ := rfl
  rw [e]
  clear e
  go_enter Tryz.func183, Tryz.ntmps183
  go_wp2_with fail
  generalize w.alloc (.cells #[.bool true, .int .u8 (bv.toNat : Nat), .int .i64 (bn : Nat)] 192) = W at *
  have HF : Aside (TreeAt (W.setCell ⟨tb, 516 + bv.toNat, none⟩ (.int .i64 (size : Nat))) tb s len g T (.slice (some ⟨ng, 0, none⟩) n cap) nds (ws.set bv.toNat size) total ∧ Kept (Tk tb (.slice (some ⟨ng, 0, none⟩) n cap)) w (W.setCell ⟨tb, 516 + bv.toNat, none⟩ (.int .i64 (size : Nat)))) := ⟨hT.setW bv.toNat size (by omega), hK.setCell (.inr (.inl rfl)) _⟩
  obtain ⟨old, hold⟩ : ∃ old, W.cell? ⟨tb, 516 + bv.toNat, none⟩ = some old := ⟨_, hT.weight bv.toNat (by omega)⟩
  have hf := hT.free (516 + bv.toNat)
  have hbI : (bv.toNat : Int) < 256 := by omega
  clear hT hK hbv
  go_region
  go_wp2
  go_ret
  exact ⟨rfl, HF.out.1.drew, HF.out.2.drew⟩
 | false =>
  by_cases hn0 : 0 < bn
  ·have e : Hm.shareM { whole := false, val := bv, node := bn } size ⟨l, nds, ws⟩ = some ⟨l, Hm.setSiz nds bn size, ws⟩ := by
    unfold Hm.shareM; rw [if_neg (by simp), if_pos hn0]
   rw [e]
   clear e
   have hnd : decide (0 < bn) = true := decide_eq_true hn0
   have hbl : bn < n := hb
   have HN : Aside (n = nds.length) := hn
   have hbI : (bn : Int) < (n : Int) := by omega
   clear hn hb
   go_enter Tryz.func183, Tryz.ntmps183
   go_wp2_with fail
   generalize w.alloc (.cells #[.bool false, .int .u8 (bv.toNat : Nat), .int .i64 (bn : Nat)] 192) = W at *
   have HF : Aside (TreeAt (W.setCell ⟨ng, bn * 9 + 2, none⟩ (.int .i64 (size : Nat))) tb s len g T (.slice (some ⟨ng, 0, none⟩) n cap) (Hm.setSiz nds bn size) ws total ∧ Kept (Tk tb (.slice (some ⟨ng, 0, none⟩) n cap)) w (W.setCell ⟨ng, bn * 9 + 2, none⟩ (.int .i64 (size : Nat)))) :=
    ⟨hT.setN rfl (bn * 9 + 2) _ (Hm.setSiz_length _ _ _) (ncells_siz nds bn size (by have := HN.out; omega)), hK.setCell (p := ⟨ng, bn * 9 + 2, none⟩) (.inr (.inr rfl)) _⟩
   have hno := hT.nod
   rw [← HN.out] at hno
   obtain ⟨old, hold⟩ : ∃ old, W.cell? ⟨ng, bn * 9 + 2, none⟩ = some old := ⟨_, node_siz hno HN.out (by have := HN.out; omega)⟩
   have hf := hno.frozenAt (bn * 9 + 2)
   have hnv := hT.nodes
   clear hT hK hbv hno
   go_region
   go_wp2
   go_ret
   exact ⟨rfl, HF.out.1.drew, HF.out.2.drew⟩
  ·obtain rfl : bn = 0 := by omega
   clear hn
   by_cases hz0 : size = 0
   ·subst hz0
    have e : Hm.shareM { whole := false, val := bv, node := 0 } 0 ⟨l, nds, ws⟩ = some ⟨l, nds, ws⟩ := rfl
    rw [e]
    clear e
    go_enter Tryz.func183, Tryz.ntmps183
    go_wp2
    go_ret
    exact ⟨rfl, hT, hK⟩
   ·have e : Hm.shareM { whole := false, val := bv, node := 0 } size ⟨l, nds, ws⟩ = none := by
     unfold Hm.shareM; rw [if_neg (by simp), if_neg (by simp), if_neg hz0]
    rw [e]
    clear e
    have hzd : ((size : Int) == 0) = false := by rw [beq_eq_false_iff_ne]; omega
    clear hz0
    go_enter Tryz.func183, Tryz.ntmps183
    go_wp2
    go_ret
    exact ⟨rfl, hT, hK⟩

end Go.Proofs.YtegnkfdbmmndaaaGreat
end

/- Lay -/
section
/- The nodes are told where their bits stand. -/
namespace Go.Proofs.YtegnkfdbmmndaaaGreat
open Go.RowKit

namespace Hm
theorem layTo_none {f : Nat → Bool} {LB : Nat} {nds : List Nd} {total : Nat} {ws : List Nat} {i : Nat} (h : layTo f LB nds total ws i = none) : ∀ m, i ≤ m → layTo f LB nds total ws m = none
 | 0, hm => by
  obtain rfl : i = 0 := by omega
  exact h
 | m + 1, hm => by
  by_cases e : i = m + 1
  ·subst e; exact h
  ·rw [layTo, layTo_none h m (by omega)]; rfl
/-- No branch leads beyond the nodes. -/
def Inside (nds : List Nd) : Prop := ∀ j, (ndAt nds j).b0.node < nds.length ∧ (ndAt nds j).b1.node < nds.length ∧ ((ndAt nds j).b0.node = 0 ∨ j < (ndAt nds j).b0.node) ∧ ((ndAt nds j).b1.node = 0 ∨ j < (ndAt nds j).b1.node)
theorem Inside.like {a b : List Nd} (h : Inside b) (hl : Like a b) : Inside a := fun j => by
 rw [(hl.2 j).2.2.1, (hl.2 j).2.2.2, hl.1]; exact h j
theorem Shaped.inside {M : Nat} {ln : UInt8 → Nat} {o : List UInt8} {nds : List Nd} (h : Shaped M ln o nds) : Inside nds := fun j => by
 by_cases hj : j < nds.length
 ·have key : ∀ u, u < 2 → ((ndAt nds j).br u).node < nds.length := fun u hu => by
   cases h.good j u hj hu with
   | leaf k hk e => rw [e]; exact h.more
   | node n e h1 h2 => rw [e]; exact h2
   | none e => rw [e]; exact h.more
  refine ⟨key 0 (by omega), key 1 (by omega), ?_⟩
  have : ∀ u, u < 2 → ((ndAt nds j).br u).node = 0 ∨ j < ((ndAt nds j).br u).node := fun u hu => by
   cases h.good j u hj hu with
   | leaf k hk e => rw [e]; exact .inl rfl
   | node n e h1 h2 => rw [e]; exact .inr h1
   | none e => rw [e]; exact .inl rfl
  exact ⟨this 0 (by omega), this 1 (by omega)⟩
 ·unfold ndAt
  rw [List.getD_eq_getElem?_getD, List.getElem?_eq_none (by omega)]
  exact ⟨h.more, h.more, .inl rfl, .inl rfl⟩
end Hm

/-- What lay hands back. -/
def LaySays (r : Option Hm.LaySt) (e : Ending) (nds : List Hm.Nd) (ws : List Nat) : Prop := match r with
 | some st => e = .returned (.tuple #[.int .i64 (st.len : Nat), .bool true]) ∧ nds = st.nds ∧ ws = st.ws
 | none => e = .returned (.tuple #[.int .i64 0, .bool false])

set_option maxHeartbeats 2000000 in
theorem lay_any (hones : OnesSays) (tb g LB total n cap ng : Nat) (s : ByteArray) (T : List (Nat × Nat)) (nds : List Hm.Nd) (ws : List Nat) (w : World) (h : TreeAt w tb s LB g T (.slice (some ⟨ng, 0, none⟩) n cap) nds ws total)
  (hn : n = nds.length) (h0 : 0 < n) (hnl : n ≤ 255) (hin : Hm.Inside nds) (hsz : ∀ j, (Hm.ndAt nds j).siz ≤ total) (ht : total ≤ 65535) (hLB : LB ≤ 8 * s.size) (hs : s.size ≤ 100000000) :
  Calls Tryz.prog 153 #[.pointer (some ⟨tb, 0, none⟩)] w fun e w' => ∃ nds' ws', LaySays (Hm.layM (Hm.bitB s.data.toList) LB nds total ws) e nds' ws' ∧ nds'.length = n ∧ ws'.length = 256 ∧ TreeAt w' tb s LB g T (.slice (some ⟨ng, 0, none⟩) n cap) nds' ws' total ∧ Kept (Tk tb (.slice (some ⟨ng, 0, none⟩) n cap)) w w' := by
 have HON : Aside _ := hones
 obtain ⟨f, hf⟩ : ∃ f, f = Hm.bitB s.data.toList := ⟨_, rfl⟩
 have hon : ∀ (W : World) (p : Nat), CountedAt W tb 0 s LB g → p ≤ 8 * s.size → Calls Tryz.prog 126 #[.pointer (some ⟨tb, 0, none⟩), .int .i64 p] W fun e w' => e = .returned (.int .i64 (Hm.rk f p : Nat)) ∧ w' = W := fun W p hc hp => by
  rw [hf]; exact ones_any HON.out tb 0 g LB p s W hc hp hs
 rw [← hf]
 have hst0 : TreeAt (w.setCell ⟨ng, 2, none⟩ (.int .i64 (total : Nat))) tb s LB g T (.slice (some ⟨ng, 0, none⟩) n cap) (Hm.setSiz nds 0 total) ws total := by
  have := h.setN rfl (0 * 9 + 2) _ (Hm.setSiz_length nds 0 total) (ncells_siz nds 0 total (by omega))
  simpa using this
 have hk0 : Kept (Tk tb (.slice (some ⟨ng, 0, none⟩) n cap)) w (w.setCell ⟨ng, 2, none⟩ (.int .i64 (total : Nat))) := (Kept.refl _ w).setCell (p := ⟨ng, 2, none⟩) (.inr (.inr rfl)) _
 have hno := h.nod
 rw [← hn] at hno
 have c1 := h.nodes
 have c2 := h.tot
 obtain ⟨old, hold⟩ : ∃ old, w.cell? ⟨ng, 2, none⟩ = some old := by
  have := node_siz hno hn (i := 0) (by omega)
  rw [show 0 * 9 + 2 = 2 from rfl] at this
  exact ⟨_, this⟩
 have hf0 := hno.frozenAt 2
 have hnI : (0 : Int) < (n : Int) := by omega
 have HH : Aside _ := And.intro hst0 hk0
 have HO : Aside _ := hon
 have HI : Aside _ := And.intro hin (And.intro hsz (And.intro hn hf))
 have hc1 : (w.setCell ⟨ng, 2, none⟩ (.int .i64 (total : Nat))).cell? ⟨tb, 515, none⟩ = some (.slice (some ⟨ng, 0, none⟩) n cap) := hst0.nodes
 have hne : ng ≠ tb := fun e => h.n1 (by rw [e]; rfl)
 clear hst0 hk0 hno hon hin hsz hn h hf
 go_enter Tryz.func153, Tryz.ntmps153
 go_wp2_with fail
 go_region
 go_wp2_with fail
 clear c1 c2 hold hf0 hc1
 go_loopw [22, 2] (fun vi vl wr => ∃ (i : Nat) (st : Hm.LaySt), i ≤ n ∧ vi = .int .i64 i ∧ Hm.layTo f LB nds total ws i = some st ∧ vl = .int .i64 (st.len : Nat) ∧ TreeAt wr tb s LB g T (.slice (some ⟨ng, 0, none⟩) n cap) st.nds st.ws total ∧ Kept (Tk tb (.slice (some ⟨ng, 0, none⟩) n cap)) w wr) (fun vi _ _ => n - (intOf vi).toNat)
 case atStart => exact ⟨0, _, Nat.zero_le _, rfl, rfl, rfl, HH.out.1.drew, HH.out.2.drew⟩
 case round =>
  clear HH
  obtain ⟨i, st, hi, rfl, hla, rfl, hT, hkr⟩ := hrel
  have hlk := Hm.layTo_like hla
  have hin2 := HI.out.1.like hlk.1
  have hsz2 := Hm.layTo_siz HI.out.2.1 hla
  have hlen := Hm.layTo_len hla
  have hnn : n = st.nds.length := by rw [hlk.1.1]; exact HI.out.2.2.1
  by_cases hlt : i < n
  ·have hiN : i < st.nds.length := by omega
   have hno := hT.nod
   rw [← hnn] at hno
   have c0 := hT.nodes
   have c2 := node_siz hno hnn hiN
   obtain ⟨old, hold⟩ : ∃ old, wr.cell? ⟨ng, i * 9 + 1, none⟩ = some old := ⟨_, node_frm hno hnn hiN⟩
   have hf1 := hno.frozenAt (i * 9 + 1)
   have hT1 := hT.setN rfl (i * 9 + 1) _ (Hm.setFrm_length st.nds i st.len) (ncells_frm st.nds i st.len hiN)
   have hk1 : Kept (Tk tb (.slice (some ⟨ng, 0, none⟩) n cap)) w (wr.setCell ⟨ng, i * 9 + 1, none⟩ (.int .i64 (st.len : Nat))) := hkr.setCell (p := ⟨ng, i * 9 + 1, none⟩) (.inr (.inr rfl)) _
   have hzl := hsz2 i
   have hon := Hm.onesIn_le f st i
   have hinb := hin2 i
   obtain ⟨z, hz⟩ : ∃ z, z = (Hm.ndAt st.nds i).siz := ⟨_, rfl⟩
   obtain ⟨l, hl⟩ : ∃ l, l = st.len := ⟨_, rfl⟩
   have hoI : Hm.onesIn f st i = Hm.rk f (l + z) - Hm.rk f l := by rw [hl, hz]; rfl
   have hmono := Hm.rk_mono f (Nat.le_add_right l z)
   have hrkl := Hm.rk_le f (l + z)
   obtain ⟨q, hq⟩ : ∃ q, q = Hm.onesIn f st i := ⟨_, rfl⟩
   rw [← hq] at hoI hon
   rw [← hz] at c2 hzl hon
   rw [← hl] at hT1 hk1 hlen
   have hlI : (i : Int) < (n : Int) := by omega
   have hdec : decide ((i : Int) < (n : Int)) = true := decide_eq_true hlI
   have hstep : Hm.layTo f LB nds total ws (i + 1) = Hm.layStep f LB i st := by rw [Hm.layTo, hla]; rfl
   have hlay : Hm.layStep f LB i st = if LB < l + z then none else (Hm.shareM (Hm.ndAt st.nds i).b0 (z - q) ⟨l + z, Hm.setFrm st.nds i l, st.ws⟩).bind (Hm.shareM (Hm.ndAt st.nds i).b1 q) := by
    rw [hz, hl, hq]; rfl
   have hlen1 := bitsLen_any tb 0 LB (wr.setCell ⟨ng, i * 9 + 1, none⟩ (.int .i64 (l : Nat))) hT1.counted.len
   have hcell1 : (wr.setCell ⟨ng, i * 9 + 1, none⟩ (.int .i64 (l : Nat))).cell? ⟨ng, i * 9 + 1, none⟩ = some (.int .i64 (l : Nat)) := World.cell?_setCell_same _ _ _ hold
   have hcell2 : (wr.setCell ⟨ng, i * 9 + 1, none⟩ (.int .i64 (l : Nat))).cell? ⟨ng, i * 9 + 2, none⟩ = some (.int .i64 (z : Nat)) := by
    rw [World.cell?_setCell_other _ _ _ _ (by intro e'; simp only [Addr.mk.injEq] at e'; omega)]; exact c2
   have HS : Aside (TreeAt (wr.setCell ⟨ng, i * 9 + 1, none⟩ (.int .i64 (l : Nat))) tb s LB g T (.slice (some ⟨ng, 0, none⟩) n cap) (Hm.setFrm st.nds i l) st.ws total ∧ Kept (Tk tb (.slice (some ⟨ng, 0, none⟩) n cap)) w (wr.setCell ⟨ng, i * 9 + 1, none⟩ (.int .i64 (l : Nat))) ∧ Hm.layTo f LB nds total ws (i + 1) = (if LB < l + z then none else (Hm.shareM (Hm.ndAt st.nds i).b0 (z - q) ⟨l + z, Hm.setFrm st.nds i l, st.ws⟩).bind (Hm.shareM (Hm.ndAt st.nds i).b1 q)) ∧ i < st.nds.length ∧ n = st.nds.length ∧ q = Hm.rk f (l + z) - Hm.rk f l ∧ Hm.rk f l ≤ Hm.rk f (l + z)) := ⟨hT1, hk1, hstep.trans hlay, hiN, hnn, hoI, hmono⟩
   have HZ : Aside (z = (Hm.ndAt st.nds i).siz) := hz
   rw [← hl]
   clear hz hl hq hstep hlay hT1 hk1 hT hkr hno hla hlk hin2 hsz2 hoI hmono hnn hiN
   go_wp2_with fail
   refine hlen1.mono ?_
   rintro e w2 ⟨rfl, rfl⟩
   clear hlen1 hold hf1 c0 c2
   by_cases hfit : LB < l + z
   ·have hd : decide ((l : Int) + (z : Int) > (LB : Int)) = true := decide_eq_true (by omega)
    have hd' : (LB : Int) < (l : Int) + (z : Int) := by omega
    obtain ⟨hT1, hk1, hs1, hiN, hnn, _⟩ := HS.out
    have HL : Aside (n = st.nds.length) := hnn
    have HN : Aside (Hm.layM f LB nds total ws = none) := by
     rw [if_pos hfit] at hs1
     have := Hm.layTo_none hs1 n (by omega)
     rw [HI.out.2.2.1] at this; exact this
    have H9 : Aside _ := And.intro hT1 hk1
    clear hT1 hk1 hs1 hnn hiN HS hcell1 hcell2
    go_wp2
    go_ret2
    refine ⟨_, _, ?_, ?_, H9.out.1.wl, H9.out.1, H9.out.2⟩
    ·unfold LaySays; rw [HN.out]; rfl
    ·rw [Hm.setFrm_length]; exact HL.out.symm
   ·have hd : decide ((l : Int) + (z : Int) > (LB : Int)) = false := decide_eq_false (by omega)
    have hd' : ¬ (LB : Int) < (l : Int) + (z : Int) := by omega
    generalize wr.setCell ⟨ng, i * 9 + 1, none⟩ (.int .i64 (l : Nat)) = W at *
    have hca := HS.out.1.counted
    have hO1 : ∀ k, Calls Tryz.prog 126 #[.pointer (some ⟨tb, 0, none⟩), .int .i64 ((l : Int) + (z : Int))] (W.drewN k) fun e w' => e = .returned (.int .i64 (Hm.rk f (l + z) : Nat)) ∧ w' = W.drewN k := fun k => by
     have := HO.out (W.drewN k) (l + z) ⟨hca.str, hca.len, hca.cnt, hca.row⟩ (by omega)
     rwa [show ((l + z : Nat) : Int) = (l : Int) + (z : Int) from by omega] at this
    have hO2 : ∀ k, Calls Tryz.prog 126 #[.pointer (some ⟨tb, 0, none⟩), .int .i64 (l : Nat)] (W.drewN k) fun e w' => e = .returned (.int .i64 (Hm.rk f l : Nat)) ∧ w' = W.drewN k := fun k =>
     HO.out (W.drewN k) l ⟨hca.str, hca.len, hca.cnt, hca.row⟩ (by omega)
    obtain ⟨hT1, hk1, hs1, hiN, hnn, hqq, hmono⟩ := HS.out
    rw [if_neg hfit] at hs1
    obtain ⟨r1, hr1⟩ : ∃ r, r = Hm.rk f (l + z) := ⟨_, rfl⟩
    obtain ⟨r2, hr2⟩ : ∃ r, r = Hm.rk f l := ⟨_, rfl⟩
    rw [← hr1] at hO1 hqq hmono hrkl
    rw [← hr2] at hO2 hqq hmono
    have zq : (r1 : Int) - (r2 : Int) = (q : Int) := by omega
    have zq' : IntKind.i64.wrap ((r1 : Int) - (r2 : Int)) = (q : Int) := by rw [IntKind.wrap_i64]; omega
    have H1 : Aside _ := And.intro hT1 (And.intro hk1 (And.intro hs1 (And.intro hiN hnn)))
    clear hT1 hk1 hs1 hiN hnn hr1 hr2 hqq hmono HS hca
    go_wp2_with fail
    go_quiet (first | (go_at_call_of 126 (Value.int .i64 ((l : Int) + (z : Int))); refine Calls.quiet_of_same (hO1 _)) | (go_at_call_of 126 (Value.int .i64 (l : Int)); refine Calls.quiet_of_same (hO2 _)))
    go_wp2_with fail
    have hca := H1.out.1.drewN nq
    have hk2 := H1.out.2.1.drewN nq
    obtain ⟨_, _, hs1, hiN, hnn⟩ := H1.out
    clear hO1 hO2 H1 hcell1 hcell2
    generalize W.drewN nq = W2 at *
    have hlk1 := Hm.like_frm st.nds i l
    have hli := hlk1.2 i
    obtain ⟨b0, hb0⟩ : ∃ b, b = (Hm.ndAt st.nds i).b0 := ⟨_, rfl⟩
    obtain ⟨b1, hb1⟩ : ∃ b, b = (Hm.ndAt st.nds i).b1 := ⟨_, rfl⟩
    have e0 : (Hm.ndAt (Hm.setFrm st.nds i l) i).b0 = b0 := by rw [hb0]; exact hli.2.2.1
    have e1 : (Hm.ndAt (Hm.setFrm st.nds i l) i).b1 = b1 := by rw [hb1]; exact hli.2.2.2
    have e2 : (Hm.ndAt (Hm.setFrm st.nds i l) i).siz = (Hm.ndAt st.nds i).siz := by rw [Hm.setFrm_at _ _ _ _ hiN]; split <;> rfl
    rw [← hb0, ← hb1] at hs1
    rw [← hb0, ← hb1, ← hnn] at hinb
    have hn1 : n = (Hm.setFrm st.nds i l).length := by rw [Hm.setFrm_length]; exact hnn
    obtain ⟨nds1, hnds1⟩ : ∃ x, x = Hm.setFrm st.nds i l := ⟨_, rfl⟩
    rw [← hnds1] at hca e0 e1 e2 hn1 hs1
    have hiN1 : i < nds1.length := by omega
    have e3 : (Hm.ndAt nds1 i).siz = z := by rw [e2]; exact HZ.out.symm
    have cells : ∀ X (nn : List Hm.Nd) (xs : List Nat), TreeAt X tb s LB g T (.slice (some ⟨ng, 0, none⟩) n cap) nn xs total → n = nn.length → (Hm.ndAt nn i).b0 = b0 → (Hm.ndAt nn i).b1 = b1 → (Hm.ndAt nn i).siz = z → X.cell? ⟨ng, i * 9 + 2, none⟩ = some (.int .i64 (z : Nat)) ∧ X.cell? ⟨ng, i * 9 + 3, none⟩ = some (.bool b0.whole) ∧ X.cell? ⟨ng, i * 9 + 3 + 1, none⟩ = some (.int .u8 (b0.val.toNat : Nat)) ∧ X.cell? ⟨ng, i * 9 + 3 + 2, none⟩ = some (.int .i64 (b0.node : Nat)) ∧ X.cell? ⟨ng, i * 9 + 6, none⟩ = some (.bool b1.whole) ∧ X.cell? ⟨ng, i * 9 + 6 + 1, none⟩ = some (.int .u8 (b1.val.toNat : Nat)) ∧ X.cell? ⟨ng, i * 9 + 6 + 2, none⟩ = some (.int .i64 (b1.node : Nat)) := by
     intro X nn xs hX hl0 q0 q1 q2
     have hx := hX.nod
     rw [← hl0] at hx
     have := fun j hj => node_cell hx hl0 (i := i) (by omega) j hj
     refine ⟨(this 2 (by omega)).trans ?_, (this 3 (by omega)).trans ?_, (this 4 (by omega)).trans ?_, (this 5 (by omega)).trans ?_, (this 6 (by omega)).trans ?_, (this 7 (by omega)).trans ?_, (this 8 (by omega)).trans ?_⟩
     ·show some (Value.int .i64 ((Hm.ndAt nn i).siz : Nat)) = _; rw [q2]
     ·show some (Value.bool (Hm.ndAt nn i).b0.whole) = _; rw [q0]
     ·show some (Value.int .u8 ((Hm.ndAt nn i).b0.val.toNat : Nat)) = _; rw [q0]
     ·show some (Value.int .i64 ((Hm.ndAt nn i).b0.node : Nat)) = _; rw [q0]
     ·show some (Value.bool (Hm.ndAt nn i).b1.whole) = _; rw [q1]
     ·show some (Value.int .u8 ((Hm.ndAt nn i).b1.val.toNat : Nat)) = _; rw [q1]
     ·show some (Value.int .i64 ((Hm.ndAt nn i).b1.node : Nat)) = _; rw [q1]
    obtain ⟨hzc, d0, d1, d2, d3, d4, d5⟩ := cells W2 nds1 st.ws hca hn1 e0 e1 e3
    obtain ⟨z0, hz0⟩ : ∃ z0, z0 = z - q := ⟨_, rfl⟩
    have zz : (z : Int) - (q : Int) = (z0 : Int) := by omega
    have zz' : IntKind.i64.wrap (z0 : Int) = (z0 : Int) := by rw [IntKind.wrap_i64]; omega
    rw [← hz0] at hs1
    have hsh0 := share_any tb g LB total z0 (l + z) n cap ng s T nds1 st.ws b0 W2.drew hca.drew hn1 hnl hinb.1 (by omega)
    have hsh0' : Calls Tryz.prog 183 #[.pointer (some ⟨tb, 0, none⟩), .agg #[.bool b0.whole, .int .u8 (b0.val.toNat : Nat), .int .i64 (b0.node : Nat)], .int .i64 z0] W2.drew _ := hsh0
    clear hsh0
    have HCE : Aside _ := cells
    cases hR : Hm.shareM b0 z0 ⟨l + z, nds1, st.ws⟩ with
    | none =>
     rw [hR] at hsh0' hs1
     have HN : Aside (Hm.layM f LB nds total ws = none) := by
      have := Hm.layTo_none hs1 n (by omega)
      rw [HI.out.2.2.1] at this; exact this
     have hsh : Calls Tryz.prog 183 #[.pointer (some ⟨tb, 0, none⟩), .agg #[.bool b0.whole, .int .u8 (b0.val.toNat : Nat), .int .i64 (b0.node : Nat)], .int .i64 z0] W2.drew fun e w' => e = .returned (.bool false) ∧ TreeAt w' tb s LB g T (.slice (some ⟨ng, 0, none⟩) n cap) nds1 st.ws total ∧ Kept (Tk tb (.slice (some ⟨ng, 0, none⟩) n cap)) W2.drew w' := hsh0'
     have H3 : Aside _ := And.intro hk2 (And.intro hn1 (And.intro e0 (And.intro e1 e3)))
     clear hsh0' hk2 hn1 hs1 hca cells e0 e1 e2 e3 hb0 hb1 hli hlk1 hnds1 hiN hnn hR hz0 hiN1
     obtain ⟨b0w, b0v, b0n⟩ := b0
     refine wp_region_held_drew (S := fun X => X.cell? ⟨ng, i * 9 + 2, none⟩ = some (.int .i64 (z : Nat)) ∧ X.cell? ⟨ng, i * 9 + 3, none⟩ = some (.bool b0w) ∧ X.cell? ⟨ng, i * 9 + 3 + 1, none⟩ = some (.int .u8 (b0v.toNat : Nat)) ∧ X.cell? ⟨ng, i * 9 + 3 + 2, none⟩ = some (.int .i64 (b0n : Nat))) (by kernel_rfl) ?_ (fun hHeld => ?_)
     ·exact ⟨hzc, d0, d1, d2⟩
     refine wpAnyH_take (i := 0) (oi := { dst := some 62, op := Op.move (Operand.tmp 0), type := 153, pos := "tree.go:109", after := #[], guard := none }) (v := ?_) rfl (by kernel_rfl) (by kernel_rfl) (by kernel_rfl) (fun _ _ _ h => h) (Or.inl ⟨by kernel_rfl, ?_⟩) (by assumption) ?_
     rotate_left
     ·intro X hSw
      try dsimp only at hSw
      go_simp
      with_reducible rfl
     simp only [Act.put, List.setIfInBounds_toArray, List.set_cons_zero, List.set_cons_succ]
     refine wpAnyH_take (i := 1) (oi := { dst := some 63, op := Op.move (Operand.tmp 5), type := 255, pos := "tree.go:109", after := #[], guard := none }) (v := ?_) rfl (by kernel_rfl) (by kernel_rfl) (by kernel_rfl) (fun _ _ _ h => h) (Or.inl ⟨by kernel_rfl, ?_⟩) (by assumption) ?_
     rotate_left
     ·intro X hSw
      try dsimp only at hSw
      go_simp
      with_reducible rfl
     simp only [Act.put, List.setIfInBounds_toArray, List.set_cons_zero, List.set_cons_succ]
     refine wpAnyH_take (i := 2) (oi := { dst := some 64, op := Op.nilCheck (Operand.tmp 63), type := 0, pos := "tree.go:109", after := #[{ on := 1, ground := Ground.data }], guard := none }) (v := ?_) rfl (by kernel_rfl) (by kernel_rfl) (by kernel_rfl) (fun _ _ _ h => h) (Or.inl ⟨by kernel_rfl, ?_⟩) (by assumption) ?_
     rotate_left
     ·intro X hSw
      try dsimp only at hSw
      go_simp
      with_reducible rfl
     simp only [Act.put, List.setIfInBounds_toArray, List.set_cons_zero, List.set_cons_succ]
     refine wpAnyH_take (i := 3) (oi := { dst := some 65, op := Op.fieldAddr 195 (Operand.tmp 64) 3, type := 0, pos := "tree.go:109", after := #[{ on := 2, ground := Ground.data }], guard := none }) (v := ?_) rfl (by kernel_rfl) (by kernel_rfl) (by kernel_rfl) (fun _ _ _ h => h) (Or.inl ⟨by kernel_rfl, ?_⟩) (by assumption) ?_
     rotate_left
     ·intro X hSw
      try dsimp only at hSw
      go_simp
      with_reducible rfl
     simp only [Act.put, List.setIfInBounds_toArray, List.set_cons_zero, List.set_cons_succ]
     refine wpAnyH_take (i := 4) (oi := { dst := some 66, op := Op.indexAddr 193 (Operand.tmp 65) (Operand.const (Value.int IntKind.i64 0)), type := 0, pos := "tree.go:109", after := #[{ on := 3, ground := Ground.data }], guard := none }) (v := ?_) rfl (by kernel_rfl) (by kernel_rfl) (by kernel_rfl) (fun _ _ _ h => h) (Or.inl ⟨by kernel_rfl, ?_⟩) (by assumption) ?_
     rotate_left
     ·intro X hSw
      try dsimp only at hSw
      go_simp
      with_reducible rfl
     simp only [Act.put, List.setIfInBounds_toArray, List.set_cons_zero, List.set_cons_succ]
     refine wpAnyH_take (i := 5) (oi := { dst := some 67, op := Op.load 192 (Operand.tmp 66), type := 192, pos := "tree.go:109", after := #[{ on := 4, ground := Ground.data }], guard := none }) (v := ?_) rfl (by kernel_rfl) (by kernel_rfl) (by kernel_rfl) (fun _ _ _ h => h) (Or.inl ⟨by kernel_rfl, ?_⟩) (by assumption) ?_
     rotate_left
     ·intro X hSw
      try dsimp only at hSw
      go_simp
      with_reducible rfl
     simp only [Act.put, List.setIfInBounds_toArray, List.set_cons_zero, List.set_cons_succ]
     refine wpAnyH_take (i := 6) (oi := { dst := some 68, op := Op.move (Operand.tmp 5), type := 255, pos := "tree.go:109", after := #[], guard := none }) (v := ?_) rfl (by kernel_rfl) (by kernel_rfl) (by kernel_rfl) (fun _ _ _ h => h) (Or.inl ⟨by kernel_rfl, ?_⟩) (by assumption) ?_
     rotate_left
     ·intro X hSw
      try dsimp only at hSw
      go_simp
      with_reducible rfl
     simp only [Act.put, List.setIfInBounds_toArray, List.set_cons_zero, List.set_cons_succ]
     refine wpAnyH_take (i := 7) (oi := { dst := some 69, op := Op.nilCheck (Operand.tmp 68), type := 0, pos := "tree.go:109", after := #[{ on := 6, ground := Ground.data }], guard := none }) (v := ?_) rfl (by kernel_rfl) (by kernel_rfl) (by kernel_rfl) (fun _ _ _ h => h) (Or.inl ⟨by kernel_rfl, ?_⟩) (by assumption) ?_
     rotate_left
     ·intro X hSw
      try dsimp only at hSw
      go_simp
      with_reducible rfl
     simp only [Act.put, List.setIfInBounds_toArray, List.set_cons_zero, List.set_cons_succ]
     refine wpAnyH_take (i := 8) (oi := { dst := some 70, op := Op.fieldAddr 195 (Operand.tmp 69) 2, type := 0, pos := "tree.go:109", after := #[{ on := 7, ground := Ground.data }], guard := none }) (v := ?_) rfl (by kernel_rfl) (by kernel_rfl) (by kernel_rfl) (fun _ _ _ h => h) (Or.inl ⟨by kernel_rfl, ?_⟩) (by assumption) ?_
     rotate_left
     ·intro X hSw
      try dsimp only at hSw
      go_simp
      with_reducible rfl
     simp only [Act.put, List.setIfInBounds_toArray, List.set_cons_zero, List.set_cons_succ]
     refine wpAnyH_take (i := 9) (oi := { dst := some 71, op := Op.load 3 (Operand.tmp 70), type := 3, pos := "tree.go:109", after := #[{ on := 8, ground := Ground.data }], guard := none }) (v := ?_) rfl (by kernel_rfl) (by kernel_rfl) (by kernel_rfl) (fun _ _ _ h => h) (Or.inl ⟨by kernel_rfl, ?_⟩) (by assumption) ?_
     rotate_left
     ·intro X hSw
      try dsimp only at hSw
      go_simp
      with_reducible rfl
     simp only [Act.put, List.setIfInBounds_toArray, List.set_cons_zero, List.set_cons_succ]
     refine wpAnyH_take (i := 10) (oi := { dst := some 72, op := Op.move (Operand.tmp 6), type := 3, pos := "tree.go:109", after := #[], guard := none }) (v := ?_) rfl (by kernel_rfl) (by kernel_rfl) (by kernel_rfl) (fun _ _ _ h => h) (Or.inl ⟨by kernel_rfl, ?_⟩) (by assumption) ?_
     rotate_left
     ·intro X hSw
      try dsimp only at hSw
      go_simp
      with_reducible rfl
     simp only [Act.put, List.setIfInBounds_toArray, List.set_cons_zero, List.set_cons_succ]
     refine wpAnyH_take (i := 11) (oi := { dst := some 73, op := Op.binOp BinOp.sub 3 (Operand.tmp 71) (Operand.tmp 72) 3, type := 3, pos := "tree.go:109", after := #[{ on := 9, ground := Ground.data }, { on := 10, ground := Ground.data }], guard := none }) (v := ?_) rfl (by kernel_rfl) (by kernel_rfl) (by kernel_rfl) (fun _ _ _ h => h) (Or.inl ⟨by kernel_rfl, ?_⟩) (by assumption) ?_
     rotate_left
     ·intro X hSw
      try dsimp only at hSw
      go_simp
      with_reducible rfl
     simp only [Act.put, List.setIfInBounds_toArray, List.set_cons_zero, List.set_cons_succ]
     refine wpAnyH_ready (rs := [12]) (by kernel_rfl) (by simp) ?_
     refine AllReadyH.cons rfl (fun K hK => ?_) AllReadyH.nil
     go_simp
     refine hsh.mono ?_
     rintro e w1 ⟨rfl, hT3, hk3⟩
     obtain ⟨k0, k1, k2, k3, k4, k5, k6⟩ := HCE.out w1 nds1 st.ws hT3 H3.out.2.1 H3.out.2.2.1 H3.out.2.2.2.1 H3.out.2.2.2.2
     clear hHeld
     refine hK.out _ _ ⟨k0, k1, k2, k3⟩ (fun hHeld => ?_)
     clear hK K
     refine wpAnyH_take (i := 13) (oi := { dst := some 75, op := Op.unOp UnOp.not 4 (Operand.tmp 74), type := 4, pos := "tree.go:109", after := #[{ on := 12, ground := Ground.data }], guard := none }) (v := ?_) rfl (by kernel_rfl) (by kernel_rfl) (by kernel_rfl) (fun _ _ _ h => h) (Or.inl ⟨by kernel_rfl, ?_⟩) (by assumption) ?_
     rotate_left
     ·intro X hSw
      try dsimp only at hSw
      go_simp
      with_reducible rfl
     simp only [Act.put, List.setIfInBounds_toArray, List.set_cons_zero, List.set_cons_succ]
     refine wpAnyH_take (i := 14) (oi := { dst := some 76, op := Op.move (Operand.tmp 75), type := 4, pos := "tree.go:109", after := #[{ on := 13, ground := Ground.data }, { on := 12, ground := Ground.chain }], guard := none }) (v := ?_) rfl (by kernel_rfl) (by kernel_rfl) (by kernel_rfl) (fun _ _ _ h => h) (Or.inl ⟨by kernel_rfl, ?_⟩) (by assumption) ?_
     rotate_left
     ·intro X hSw
      try dsimp only at hSw
      go_simp
      with_reducible rfl
     simp only [Act.put, List.setIfInBounds_toArray, List.set_cons_zero, List.set_cons_succ]
     refine wpAnyH_take (i := 15) (oi := { dst := some 77, op := Op.move (Operand.tmp 0), type := 153, pos := "tree.go:109", after := #[{ on := 14, ground := Ground.guard }], guard := some (14, false) }) (v := undef) rfl (by kernel_rfl) (by kernel_rfl) (by kernel_rfl) (fun _ _ _ h => h) (Or.inr ⟨by kernel_rfl, rfl⟩) (by assumption) ?_
     simp only [Act.put, List.setIfInBounds_toArray, List.set_cons_zero, List.set_cons_succ]
     refine wpAnyH_take (i := 16) (oi := { dst := some 78, op := Op.move (Operand.tmp 5), type := 255, pos := "tree.go:109", after := #[{ on := 14, ground := Ground.guard }], guard := some (14, false) }) (v := undef) rfl (by kernel_rfl) (by kernel_rfl) (by kernel_rfl) (fun _ _ _ h => h) (Or.inr ⟨by kernel_rfl, rfl⟩) (by assumption) ?_
     simp only [Act.put, List.setIfInBounds_toArray, List.set_cons_zero, List.set_cons_succ]
     refine wpAnyH_take (i := 17) (oi := { dst := some 79, op := Op.nilCheck (Operand.tmp 78), type := 0, pos := "tree.go:109", after := #[{ on := 16, ground := Ground.data }, { on := 14, ground := Ground.guard }], guard := some (14, false) }) (v := undef) rfl (by kernel_rfl) (by kernel_rfl) (by kernel_rfl) (fun _ _ _ h => h) (Or.inr ⟨by kernel_rfl, rfl⟩) (by assumption) ?_
     simp only [Act.put, List.setIfInBounds_toArray, List.set_cons_zero, List.set_cons_succ]
     refine wpAnyH_take (i := 18) (oi := { dst := some 80, op := Op.fieldAddr 195 (Operand.tmp 79) 3, type := 0, pos := "tree.go:109", after := #[{ on := 17, ground := Ground.data }, { on := 14, ground := Ground.guard }], guard := some (14, false) }) (v := undef) rfl (by kernel_rfl) (by kernel_rfl) (by kernel_rfl) (fun _ _ _ h => h) (Or.inr ⟨by kernel_rfl, rfl⟩) (by assumption) ?_
     simp only [Act.put, List.setIfInBounds_toArray, List.set_cons_zero, List.set_cons_succ]
     refine wpAnyH_take (i := 19) (oi := { dst := some 81, op := Op.indexAddr 193 (Operand.tmp 80) (Operand.const (Value.int IntKind.i64 1)), type := 0, pos := "tree.go:109", after := #[{ on := 18, ground := Ground.data }, { on := 14, ground := Ground.guard }], guard := some (14, false) }) (v := undef) rfl (by kernel_rfl) (by kernel_rfl) (by kernel_rfl) (fun _ _ _ h => h) (Or.inr ⟨by kernel_rfl, rfl⟩) (by assumption) ?_
     simp only [Act.put, List.setIfInBounds_toArray, List.set_cons_zero, List.set_cons_succ]
     refine wpAnyH_take (i := 20) (oi := { dst := some 82, op := Op.load 192 (Operand.tmp 81), type := 192, pos := "tree.go:109", after := #[{ on := 19, ground := Ground.data }, { on := 14, ground := Ground.guard }], guard := some (14, false) }) (v := undef) rfl (by kernel_rfl) (by kernel_rfl) (by kernel_rfl) (fun _ _ _ h => h) (Or.inr ⟨by kernel_rfl, rfl⟩) (by assumption) ?_
     simp only [Act.put, List.setIfInBounds_toArray, List.set_cons_zero, List.set_cons_succ]
     refine wpAnyH_take (i := 21) (oi := { dst := some 83, op := Op.move (Operand.tmp 6), type := 3, pos := "tree.go:109", after := #[{ on := 14, ground := Ground.guard }], guard := some (14, false) }) (v := undef) rfl (by kernel_rfl) (by kernel_rfl) (by kernel_rfl) (fun _ _ _ h => h) (Or.inr ⟨by kernel_rfl, rfl⟩) (by assumption) ?_
     simp only [Act.put, List.setIfInBounds_toArray, List.set_cons_zero, List.set_cons_succ]
     refine wpAnyH_take (i := 22) (oi := { dst := some 84, op := Op.call { callee := Callee.value (Operand.func 183), args := #[Operand.tmp 77, Operand.tmp 82, Operand.tmp 83], argTypes := #[153, 192, 3] }, type := 4, pos := "tree.go:109", after := #[{ on := 15, ground := Ground.data }, { on := 20, ground := Ground.data }, { on := 21, ground := Ground.data }, { on := 14, ground := Ground.chain }, { on := 14, ground := Ground.guard }], guard := some (14, false) }) (v := undef) rfl (by kernel_rfl) (by kernel_rfl) (by kernel_rfl) (fun _ _ _ h => h) (Or.inr ⟨by kernel_rfl, rfl⟩) (by assumption) ?_
     simp only [Act.put, List.setIfInBounds_toArray, List.set_cons_zero, List.set_cons_succ]
     refine wpAnyH_take (i := 23) (oi := { dst := some 85, op := Op.unOp UnOp.not 4 (Operand.tmp 84), type := 4, pos := "tree.go:109", after := #[{ on := 22, ground := Ground.data }, { on := 14, ground := Ground.guard }], guard := some (14, false) }) (v := undef) rfl (by kernel_rfl) (by kernel_rfl) (by kernel_rfl) (fun _ _ _ h => h) (Or.inr ⟨by kernel_rfl, rfl⟩) (by assumption) ?_
     simp only [Act.put, List.setIfInBounds_toArray, List.set_cons_zero, List.set_cons_succ]
     refine wpAnyH_take (i := 24) (oi := { dst := some 86, op := Op.pick (Operand.tmp 76) (Operand.const (Value.bool true)) (Operand.tmp 85), type := 4, pos := "tree.go:109", after := #[{ on := 14, ground := Ground.data }, { on := 23, ground := Ground.data }], guard := none }) (v := ?_) rfl (by kernel_rfl) (by kernel_rfl) (by kernel_rfl) (fun _ _ _ h => h) (Or.inl ⟨by kernel_rfl, ?_⟩) (by assumption) ?_
     rotate_left
     ·intro X hSw
      try dsimp only at hSw
      go_simp
      with_reducible rfl
     simp only [Act.put, List.setIfInBounds_toArray, List.set_cons_zero, List.set_cons_succ]
     refine wpAnyH_done (by kernel_rfl) ?_ _
     have H9 : Aside _ := And.intro hT3 (And.intro (H3.out.1.drew.trans hk3 (fun _ _ h => h)) H3.out.2.1)
     clear hT3 hk3 k0 k1 k2 k3 k4 k5 k6 H3 HCE hsh hHeld hzc d0 d1 d2 d3 d4 d5
     go_wp2
     go_ret2
     refine ⟨nds1, st.ws, ?_, H9.out.2.2.symm, H9.out.1.wl, H9.out.1, H9.out.2.1⟩
     unfold LaySays; rw [HN.out]; rfl
    | some s1 =>
     rw [hR] at hsh0' hs1
     have hs1' : Hm.layTo f LB nds total ws (i + 1) = Hm.shareM b1 q s1 := hs1
     have hl1 := Hm.shareM_like hR
     have hn2 : n = s1.nds.length := by rw [hl1.1.1]; exact hn1
     have heff := Hm.shareM_eff hR
     have hot : Hm.ndAt s1.nds i = Hm.ndAt nds1 i := by
      refine heff.other i ?_
      rcases hinb.2.2.1 with c | c
      ·exact .inr (.inr c)
      ·exact .inr (.inl (by omega))
     have f0 : (Hm.ndAt s1.nds i).b0 = b0 := by rw [hot]; exact e0
     have f1 : (Hm.ndAt s1.nds i).b1 = b1 := by rw [hot]; exact e1
     have f3 : (Hm.ndAt s1.nds i).siz = z := by rw [hot]; exact e3
     have hsA : Calls Tryz.prog 183 #[.pointer (some ⟨tb, 0, none⟩), .agg #[.bool b0.whole, .int .u8 (b0.val.toNat : Nat), .int .i64 (b0.node : Nat)], .int .i64 z0] W2.drew fun e w' => e = .returned (.bool true) ∧ TreeAt w' tb s LB g T (.slice (some ⟨ng, 0, none⟩) n cap) s1.nds s1.ws total ∧ Kept (Tk tb (.slice (some ⟨ng, 0, none⟩) n cap)) W2.drew w' := hsh0'
     have hsB := fun (X : World) (hX : TreeAt X tb s LB g T (.slice (some ⟨ng, 0, none⟩) n cap) s1.nds s1.ws total) => share_any tb g LB total q s1.len n cap ng s T s1.nds s1.ws b1 X hX hn2 hnl hinb.2.1 (by omega)
     have HL1 : Aside (s1.len = l + z) := hl1.2.1
     have H3 : Aside _ := And.intro hk2 (And.intro hn2 (And.intro f0 (And.intro f1 f3)))
     cases hR1 : Hm.shareM b1 q s1 with
     | none =>
      have hsC : ∀ (X : World), TreeAt X tb s LB g T (.slice (some ⟨ng, 0, none⟩) n cap) s1.nds s1.ws total → Calls Tryz.prog 183 #[.pointer (some ⟨tb, 0, none⟩), .agg #[.bool b1.whole, .int .u8 (b1.val.toNat : Nat), .int .i64 (b1.node : Nat)], .int .i64 q] X fun e w' => e = .returned (.bool false) ∧ TreeAt w' tb s LB g T (.slice (some ⟨ng, 0, none⟩) n cap) s1.nds s1.ws total ∧ Kept (Tk tb (.slice (some ⟨ng, 0, none⟩) n cap)) X w' := fun X hX => by
       have := hsB X hX
       rw [show (⟨s1.len, s1.nds, s1.ws⟩ : Hm.LaySt) = s1 from rfl, hR1] at this
       exact this
      have HN : Aside (Hm.layM f LB nds total ws = none) := by
       rw [hR1] at hs1'
       have := Hm.layTo_none hs1' n (by omega)
       rw [HI.out.2.2.1] at this; exact this
      have HSC : Aside _ := hsC
      clear hsh0' hk2 hn1 hs1 hs1' hca cells e0 e1 e2 e3 hb0 hb1 hli hlk1 hnds1 hiN hnn hR hz0 hiN1 hsB hsC hl1 hn2 heff hot f0 f1 f3 hR1
      obtain ⟨b0w, b0v, b0n⟩ := b0
      obtain ⟨b1w, b1v, b1n⟩ := b1
      go_region_held (fun X => X.cell? ⟨ng, i * 9 + 2, none⟩ = some (.int .i64 (z : Nat)) ∧ X.cell? ⟨ng, i * 9 + 3, none⟩ = some (.bool b0w) ∧ X.cell? ⟨ng, i * 9 + 3 + 1, none⟩ = some (.int .u8 (b0v.toNat : Nat)) ∧ X.cell? ⟨ng, i * 9 + 3 + 2, none⟩ = some (.int .i64 (b0n : Nat)) ∧ X.cell? ⟨ng, i * 9 + 3 + 3, none⟩ = some (.bool b1w) ∧ X.cell? ⟨ng, i * 9 + 3 + 3 + 1, none⟩ = some (.int .u8 (b1v.toNat : Nat)) ∧ X.cell? ⟨ng, i * 9 + 3 + 3 + 2, none⟩ = some (.int .i64 (b1n : Nat))) (first | exact ⟨hzc, d0, d1, d2, d3, d4, d5⟩ | exact ⟨k0, k1, k2, k3, k4, k5, k6⟩ | exact ⟨m0, m1, m2, m3, m4, m5, m6⟩)
       (first
       | (go_at_call_of 183 (Value.int .i64 (z0 : Int)); refine hsA.mono ?_; rintro e w1 ⟨rfl, hT3, hk3⟩; obtain ⟨k0, k1, k2, k3, k4, k5, k6⟩ := HCE.out w1 s1.nds s1.ws hT3 H3.out.2.1 H3.out.2.2.1 H3.out.2.2.2.1 H3.out.2.2.2.2)
       | (go_at_call_of 183 (Value.int .i64 (q : Int)); refine (HSC.out _ hT3).mono ?_; rintro e w2 ⟨rfl, hT4, hk4⟩; obtain ⟨m0, m1, m2, m3, m4, m5, m6⟩ := HCE.out w2 s1.nds s1.ws hT4 H3.out.2.1 H3.out.2.2.1 H3.out.2.2.2.1 H3.out.2.2.2.2))
      have H9 : Aside _ := And.intro hT4 (And.intro ((H3.out.1.drew.trans hk3 (fun _ _ h => h)).trans hk4 (fun _ _ h => h)) H3.out.2.1)
      clear hT3 hT4 hk3 hk4 k0 k1 k2 k3 k4 k5 k6 m0 m1 m2 m3 m4 m5 m6 H3 HCE hsA HSC hzc d0 d1 d2 d3 d4 d5
      go_wp2
      go_ret2
      refine ⟨s1.nds, s1.ws, ?_, H9.out.2.2.symm, H9.out.1.wl, H9.out.1, H9.out.2.1⟩
      unfold LaySays; rw [HN.out]; rfl
     | some s2 =>
      have hl2 := Hm.shareM_like hR1
      have heff2 := Hm.shareM_eff hR1
      have hn3 : n = s2.nds.length := by rw [hl2.1.1]; exact hn2
      have g0 : (Hm.ndAt s2.nds i).b0 = b0 := by rw [(hl2.1.2 i).2.2.1]; exact f0
      have g1 : (Hm.ndAt s2.nds i).b1 = b1 := by rw [(hl2.1.2 i).2.2.2]; exact f1
      have g3 : (Hm.ndAt s2.nds i).siz = z := by
       rw [heff2.other i ?_]
       ·exact f3
       ·rcases hinb.2.2.2 with c | c
        ·exact .inr (.inr c)
        ·exact .inr (.inl (by omega))
      have hsC : ∀ (X : World), TreeAt X tb s LB g T (.slice (some ⟨ng, 0, none⟩) n cap) s1.nds s1.ws total → Calls Tryz.prog 183 #[.pointer (some ⟨tb, 0, none⟩), .agg #[.bool b1.whole, .int .u8 (b1.val.toNat : Nat), .int .i64 (b1.node : Nat)], .int .i64 q] X fun e w' => e = .returned (.bool true) ∧ TreeAt w' tb s LB g T (.slice (some ⟨ng, 0, none⟩) n cap) s2.nds s2.ws total ∧ Kept (Tk tb (.slice (some ⟨ng, 0, none⟩) n cap)) X w' := fun X hX => by
       have := hsB X hX
       rw [show (⟨s1.len, s1.nds, s1.ws⟩ : Hm.LaySt) = s1 from rfl, hR1] at this
       exact this
      have HN : Aside (Hm.layTo f LB nds total ws (i + 1) = some s2 ∧ s2.len = l + z) := ⟨by rw [hs1', hR1], hl2.2.1.trans hl1.2.1⟩
      have H4 : Aside _ := And.intro hn3 (And.intro g0 (And.intro g1 g3))
      have HSC : Aside _ := hsC
      clear hsh0' hk2 hn1 hs1 hs1' hca cells e0 e1 e2 e3 hb0 hb1 hli hlk1 hnds1 hiN hnn hR hz0 hiN1 hsB hsC hl1 hn2 heff hot f0 f1 f3 hR1 hl2 heff2 hn3 g0 g1 g3
      obtain ⟨b0w, b0v, b0n⟩ := b0
      obtain ⟨b1w, b1v, b1n⟩ := b1
      go_region_held (fun X => X.cell? ⟨ng, i * 9 + 2, none⟩ = some (.int .i64 (z : Nat)) ∧ X.cell? ⟨ng, i * 9 + 3, none⟩ = some (.bool b0w) ∧ X.cell? ⟨ng, i * 9 + 3 + 1, none⟩ = some (.int .u8 (b0v.toNat : Nat)) ∧ X.cell? ⟨ng, i * 9 + 3 + 2, none⟩ = some (.int .i64 (b0n : Nat)) ∧ X.cell? ⟨ng, i * 9 + 3 + 3, none⟩ = some (.bool b1w) ∧ X.cell? ⟨ng, i * 9 + 3 + 3 + 1, none⟩ = some (.int .u8 (b1v.toNat : Nat)) ∧ X.cell? ⟨ng, i * 9 + 3 + 3 + 2, none⟩ = some (.int .i64 (b1n : Nat))) (first | exact ⟨hzc, d0, d1, d2, d3, d4, d5⟩ | exact ⟨k0, k1, k2, k3, k4, k5, k6⟩ | exact ⟨m0, m1, m2, m3, m4, m5, m6⟩)
       (first
       | (go_at_call_of 183 (Value.int .i64 (z0 : Int)); refine hsA.mono ?_; rintro e w1 ⟨rfl, hT3, hk3⟩; obtain ⟨k0, k1, k2, k3, k4, k5, k6⟩ := HCE.out w1 s1.nds s1.ws hT3 H3.out.2.1 H3.out.2.2.1 H3.out.2.2.2.1 H3.out.2.2.2.2)
       | (go_at_call_of 183 (Value.int .i64 (q : Int)); refine (HSC.out _ hT3).mono ?_; rintro e w2 ⟨rfl, hT4, hk4⟩; obtain ⟨m0, m1, m2, m3, m4, m5, m6⟩ := HCE.out w2 s2.nds s2.ws hT4 H4.out.1 H4.out.2.1 H4.out.2.2.1 H4.out.2.2.2))
      have H9 : Aside _ := And.intro hT4 ((H3.out.1.drew.trans hk3 (fun _ _ h => h)).trans hk4 (fun _ _ h => h))
      clear hT3 hT4 hk3 hk4 k0 k1 k2 k3 k4 k5 k6 m0 m1 m2 m3 m4 m5 m6 H3 H4 HCE hsA HSC hzc d0 d1 d2 d3 d4 d5
      go_wp2
      go_roundw
      case rel => exact ⟨i + 1, s2, by omega, by go_num, HN.out.1, by rw [HN.out.2]; go_num, H9.out.1, H9.out.2⟩
      case measure => simp [intOf]; omega
  ·obtain rfl : i = n := by omega
   have hdec : decide ((i : Int) < (i : Int)) = false := decide_eq_false (by omega)
   have HN : Aside (Hm.layM f LB nds total ws = some st ∧ i = st.nds.length) := by
    refine ⟨?_, hnn⟩
    unfold Hm.layM; rw [← HI.out.2.2.1]; exact hla
   have H9 : Aside _ := And.intro hT hkr
   clear hT hkr hla hlk hin2 hsz2 hnn
   go_wp2
   go_ret2
   refine ⟨st.nds, st.ws, ?_, HN.out.2.symm, H9.out.1.wl, H9.out.1, H9.out.2⟩
   unfold LaySays; rw [HN.out.1]; exact ⟨rfl, rfl, rfl⟩

end Go.Proofs.YtegnkfdbmmndaaaGreat
end
