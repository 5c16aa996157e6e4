import Derived.Test.YtegnkfdbmmndaaaGreatJ04
import Derived.Laws.CopyOwn
import Derived.Lib.SliceRun
import Derived.Test.YtegnkfdbmmndaaaGreatJ23
import Derived.Test.YtegnkfdbmmndaaaGreatJ03
import Derived.Test.YtegnkfdbmmndaaaGreatJ11
import Derived.Lib.Builder
import Derived.Lib.UnsafeStr
import Derived.Test.YtegnkfdbmmndaaaGreatJ17
import Derived.Test.YtegnkfdbmmndaaaGreatJ13
import Derived.Test.YtegnkfdbmmndaaaGreatJ09
import Derived.Test.YtegnkfdbmmndaaaGreatJ22

/- LawA -/
section
/- Rows of files that a call has made; the list with spare room behind it. -/
namespace Go.Proofs.YtegnkfdbmmndaaaGreat
open Go.RowKit

theorem info_file : (Tryz.prog.info? 38).map (fun i => (i.zero, i.size, i.bytes)) = some (some (.agg #[.string ⟨#[]⟩, .string ⟨#[]⟩]), 2, 32) := by kernel_rfl

section
variable {P : Program}
end

namespace Hm
abbrev Fl := ByteArray × ByteArray
def fcells : List Fl → List Value
 | [] => []
 | p :: r => .string p.1 :: .string p.2 :: fcells r
theorem fcells_length (l : List Fl) : (fcells l).length = l.length * 2 := by
 induction l with
 | nil => rfl
 | cons p r ih => simp [fcells, ih]; omega
theorem fcells_append (l r : List Fl) : fcells (l ++ r) = fcells l ++ fcells r := by
 induction l with
 | nil => rfl
 | cons p t ih => simp [fcells, ih]
theorem fcells_fst (l : List Fl) : ∀ i, (h : i < l.length) → (fcells l)[i * 2]? = some (.string l[i].1) := by
 induction l with
 | nil => intro i h; simp at h
 | cons p r ih =>
  intro i h
  cases i with
  | zero => rfl
  | succ i =>
   have := ih i (by simpa using h)
   rw [show (i + 1) * 2 = i * 2 + 1 + 1 from by omega]
   simpa [fcells] using this
theorem fcells_snd (l : List Fl) : ∀ i, (h : i < l.length) → (fcells l)[i * 2 + 1]? = some (.string l[i].2) := by
 induction l with
 | nil => intro i h; simp at h
 | cons p r ih =>
  intro i h
  cases i with
  | zero => rfl
  | succ i =>
   have := ih i (by simpa using h)
   rw [show (i + 1) * 2 + 1 = i * 2 + 1 + 1 + 1 from by omega]
   simpa [fcells] using this
theorem fcells_set1 (l : List Fl) (x : ByteArray) : ∀ i, (h : i < l.length) → (fcells l).set (i * 2) (.string x) = fcells (l.set i (x, l[i].2)) := by
 induction l with
 | nil => intro i h; simp at h
 | cons p r ih =>
  intro i h
  cases i with
  | zero => rfl
  | succ i =>
   have := ih i (by simpa using h)
   rw [show (i + 1) * 2 = i * 2 + 1 + 1 from by omega]
   simp [fcells, this]
end Hm

/-- Block g is a row of these files. -/
def FRow (w : World) (g : Nat) (l : List Hm.Fl) : Prop := w.heap[g]? = some (.cells (Hm.fcells l).toArray 38 (0, 0))
theorem FRow.fst {w : World} {g : Nat} {l : List Hm.Fl} (h : FRow w g l) {i : Nat} (hi : i < l.length) : w.cell? ⟨g, i * 2, none⟩ = some (.string l[i].1) := by
 rw [cell_of_row _ _ _ _ _ _ h]; simpa using Hm.fcells_fst l i hi
theorem FRow.snd {w : World} {g : Nat} {l : List Hm.Fl} (h : FRow w g l) {i : Nat} (hi : i < l.length) : w.cell? ⟨g, i * 2 + 1, none⟩ = some (.string l[i].2) := by
 rw [cell_of_row _ _ _ _ _ _ h]; simpa using Hm.fcells_snd l i hi
theorem FRow.free {w : World} {g : Nat} {l : List Hm.Fl} (h : FRow w g l) (i : Nat) : w.frozen? ⟨g, i, none⟩ = false := frozen_of_row _ _ i _ _ h
theorem FRow.set1 {w : World} {g : Nat} {l : List Hm.Fl} (h : FRow w g l) (i : Nat) (x : ByteArray) (hi : i < l.length) : FRow (w.setCell ⟨g, i * 2, none⟩ (.string x)) g (l.set i (x, l[i].2)) := by
 have h2 := heap_setCell_same w g (i * 2) _ _ (.string x) h
 unfold FRow
 rw [h2, ← Hm.fcells_set1 l x i hi]
 congr 2
 apply Array.ext'
 simp
theorem FRow.lt {w : World} {g : Nat} {l : List Hm.Fl} (h : FRow w g l) : g < w.heap.size := lt_of_block h
theorem FRow.kept {S : Nat → Prop} {w w' : World} {g : Nat} {l : List Hm.Fl} (h : FRow w g l) (hk : Kept S w w') (hn : ¬ S g) : FRow w' g l := hk.row h hn
/-- Its first files lie there as files. -/
theorem FRow.at {w : World} {g : Nat} {l r : List Hm.Fl} (h : FRow w g (l ++ r)) : FilesAt w (some ⟨g, 0, none⟩) l := fun i hi => by
 have h1 := h.fst (i := i) (by simp; omega)
 have h2 := h.snd (i := i) (by simp; omega)
 rw [List.getElem_append_left hi] at h1 h2
 exact ⟨g, 0, rfl, h.lt, by rw [Nat.zero_add]; exact h1, by rw [Nat.zero_add]; exact h2⟩
theorem made_files (n : Nat) : (madeCells (Value.agg #[.string ⟨#[]⟩, .string ⟨#[]⟩]).cells (n * 2)).toList = Hm.fcells (List.replicate n (⟨#[]⟩, ⟨#[]⟩)) := by
 have hl : (Hm.fcells (List.replicate n (⟨#[]⟩, ⟨#[]⟩))).length = n * 2 := by rw [Hm.fcells_length]; simp
 apply List.ext_getElem
 ·rw [hl]; simp [madeCells]
 ·intro i h1 h2
  have hz : (Value.agg #[.string ⟨#[]⟩, .string ⟨#[]⟩]).cells = #[.string ⟨#[]⟩, .string ⟨#[]⟩] := rfl
  have e1 : (madeCells (Value.agg #[.string ⟨#[]⟩, .string ⟨#[]⟩]).cells (n * 2)).toList[i] = .string ⟨#[]⟩ := by
   simp [madeCells, hz]
   rcases Nat.mod_two_eq_zero_or_one i with h | h <;> simp [h]
  rw [e1]
  have hil : i < n * 2 := by omega
  rcases Nat.mod_two_eq_zero_or_one i with h | h
  ·have h3 := Hm.fcells_fst (List.replicate n (⟨#[]⟩, ⟨#[]⟩)) (i / 2) (by simp; omega)
   rw [show i / 2 * 2 = i from by omega, List.getElem?_eq_getElem h2] at h3
   simp at h3; exact h3.symm
  ·have h3 := Hm.fcells_snd (List.replicate n (⟨#[]⟩, ⟨#[]⟩)) (i / 2) (by simp; omega)
   rw [show i / 2 * 2 + 1 = i from by omega, List.getElem?_eq_getElem h2] at h3
   simp at h3; exact h3.symm
theorem FRow.made {w' : World} {g n : Nat} {base : Nat} (h : w'.ownsRow base 38 2 (.slice (some ⟨g, 0, none⟩) n n) n (madeCells (Value.agg #[.string ⟨#[]⟩, .string ⟨#[]⟩]).cells (n * 2)).toList) : FRow w' g (List.replicate n (⟨#[]⟩, ⟨#[]⟩)) := by
 rcases h.2 with ⟨h1, _⟩ | ⟨g2, cap, cur, h1, _, hg, _, _, hs, ht⟩
 ·cases h1
 ·cases h1
  unfold FRow
  rw [hg]
  congr 2
  apply Array.ext'
  have e : cur.toList.take (n * 2) = cur.toList := List.take_of_length_le (by simp; omega)
  rw [← e, ht, made_files]

namespace Hm
end Hm

end Go.Proofs.YtegnkfdbmmndaaaGreat
end

/- UnpB -/
section
/- An archive is unpacked. -/
namespace Go.Proofs.YtegnkfdbmmndaaaGreat
open Go.RowKit

namespace Hm
/-- The column that a tree tells. -/
noncomputable def colRd (l8 : List UInt8) (n : Nat) (st : LaySt) : List UInt8 := Classical.epsilon fun col => col.length = n ∧ Tells (l8.take (szB st.len)) st.nds col ∧ Weighs st.ws col
theorem colRd_is {l8 : List UInt8} {n : Nat} {L : List Nat} {st : LaySt} (h : TreeOk l8 n L st) : (colRd l8 n st).length = n ∧ Tells (l8.take (szB st.len)) st.nds (colRd l8 n st) ∧ Weighs st.ws (colRd l8 n st) :=
 Classical.epsilon_spec (p := fun col => col.length = n ∧ Tells (l8.take (szB st.len)) st.nds col ∧ Weighs st.ws col) (treeOk_tells h)
def part (t : List UInt8) (a b : Nat) : List UInt8 := (t.drop a).take (b - a)
/-- The text that comes out. -/
noncomputable def textRd (s l8 : List UInt8) (st : LaySt) : List UInt8 := (backTo (longer (colRd l8 (rdN s).1 st) st.ws (rdR s).1) 0 (rdN s).1).1
theorem textRd_length (s l8 : List UInt8) (st : LaySt) : (textRd s l8 st).length = (rdN s).1 := backTo_length _ _ _
/-- Where a file begins and ends. -/
noncomputable def fromRd (s l6 : List UInt8) (i : Nat) : Nat := fromAt (bitB (l6.take (szB (endsLen (rdF s).1 (rdN s).1)))) (rdF s).1 (lowR (rdF s).1 (rdN s).1) i
noncomputable def endRd (s l6 : List UInt8) (i : Nat) : Nat := endAt (bitB (l6.take (szB (endsLen (rdF s).1 (rdN s).1)))) (rdF s).1 (lowR (rdF s).1 (rdN s).1) i
noncomputable def fileRd (s l6 l8 : List UInt8) (st : LaySt) (i : Nat) : ByteArray × ByteArray := ((rdM s).1.getD i ⟨#[]⟩, ⟨(part (textRd s l8 st) (fromRd s l6 i) (endRd s l6 i)).toArray⟩)
/-- The files that come out. -/
noncomputable def filesRd (s l6 l8 : List UInt8) (st : LaySt) : List (ByteArray × ByteArray) := (List.range (rdF s).1).map (fileRd s l6 l8 st)
theorem filesRd_length (s l6 l8 : List UInt8) (st : LaySt) : (filesRd s l6 l8 st).length = (rdF s).1 := by unfold filesRd; rw [List.length_map, List.length_range]
theorem fcells_set2 (l : List Fl) (x : ByteArray) : ∀ i, (h : i < l.length) → (fcells l).set (i * 2 + 1) (.string x) = fcells (l.set i (l[i].1, x)) := by
 induction l with
 | nil => intro i h; simp at h
 | cons p r ih =>
  intro i h
  cases i with
  | zero => simp [fcells]
  | succ i =>
   have := ih i (by simpa using h)
   rw [show (i + 1) * 2 + 1 = (i * 2 + 1) + 1 + 1 from by omega]
   simp [fcells, this]
end Hm

theorem FRow.set2 {w : World} {g : Nat} {l : List Hm.Fl} (h : FRow w g l) (i : Nat) (x : ByteArray) (hi : i < l.length) : FRow (w.setCell ⟨g, i * 2 + 1, none⟩ (.string x)) g (l.set i (l[i].1, x)) := by
 have h2 := heap_setCell_same w g (i * 2 + 1) _ _ (.string x) h
 unfold FRow
 rw [h2, ← Hm.fcells_set2 l x i hi]
 congr 2
 apply Array.ext'
 simp
theorem FRow.put {w : World} {g : Nat} {l : List Hm.Fl} (h : FRow w g l) (i : Nat) (x y : ByteArray) (hi : i < l.length) : FRow ((w.setCell ⟨g, i * 2, none⟩ (.string x)).setCell ⟨g, i * 2 + 1, none⟩ (.string y)) g (l.set i (x, y)) := by
 have h2 := (h.set1 i x hi).set2 i y (by simpa using hi)
 simpa using h2

/-- A part of a row of bytes as a string. -/
theorem convert_part {w : World} {g : Nat} {t : List UInt8} (h : w.heap[g]? = some (.cells (Hm.bcells t).toArray 5 (0, 0))) (o k c : Nat) (hk : o + k ≤ t.length) :
  (convert 79 9 (.slice (some ⟨g, o, none⟩) k c)).run Tryz.prog w = .ok (.string ⟨((t.drop o).take k).toArray⟩) w := by
 have hll : ((t.drop o).take k).length = k := by rw [List.length_take, List.length_drop]; omega
 have hr := run_convert_bytes_arg w _ _ Tryz.underlying79 Tryz.underlying5 g o k c (((t.drop o).take k).map fun b => (b.toNat : Int)) (by rw [List.length_map]; exact hll) (fun i hi => by
  have hil : i < ((t.drop o).take k).length := by omega
  rw [cell_of_row _ _ (o + i) _ _ _ h, List.getElem?_toArray, Hm.bcells, List.getElem?_map, List.getD_eq_getElem?_getD, List.getElem?_map, List.getElem?_eq_getElem hil, List.getElem?_eq_getElem (show o + i < t.length by omega), List.getElem_take, List.getElem_drop]; rfl) _ Tryz.underlying9
 have e : strOfNums (((t.drop o).take k).map fun b => (b.toNat : Int)) = ⟨((t.drop o).take k).toArray⟩ := by
  unfold strOfNums
  rw [List.map_map]
  have e2 : ((fun n : Int => UInt8.ofNat n.toNat) ∘ fun b : UInt8 => (b.toNat : Int)) = id := by funext b; simp
  rw [e2, List.map_id]
 rw [e] at hr
 exact hr

theorem run_conv_op {P : Program} {ρ : Operand → Value} {o : Oper} (w : World) (a b : TypeId) (x : Operand) (ho : o.op = .convert a b x) (v r : Value) (hx : ρ x = v) (h : (convert a b v).run P w = .ok r w) : (execOp ρ o).run P w = .ok (.value r) w := by
 unfold execOp
 simp only [ho, hx, Sem.run_bind, h, Result.andThen_ok, Sem.run_pure]

theorem total_any (pb o n : Nat) (w : World) (h : w.cell? ⟨pb, o + 772, none⟩ = some (.int .i64 (n : Nat))) :
  Calls Tryz.prog 35 #[.pointer (some ⟨pb, o, none⟩)] w fun e w' => e = .returned (.int .i64 (n : Nat)) ∧ w' = w := by
 go_enter Tryz.func35, Tryz.ntmps35
 go_wp2
 go_ret
 exact ⟨rfl, rfl⟩

end Go.Proofs.YtegnkfdbmmndaaaGreat
end

/- KeepA -/
section
/- The names that the law gives. -/
namespace Go.Proofs.YtegnkfdbmmndaaaGreat
open Go.RowKit

namespace Hm
/-- The name of the i-th file. -/
def nameK (i : Nat) : ByteArray := ⟨#[102, UInt8.ofNat i]⟩
end Hm

theorem nameK_any (i : Nat) (w : World) (hi : i < 256) : Calls Tryz.prog 49 #[.int .i64 i] w fun e w' => e = .returned (.string (Hm.nameK i)) ∧ Kept (fun _ => False) w w' := by
 have hw : IntKind.u8.wrap (i : Int) = (i : Int) := by unfold IntKind.wrap; simp [IntKind.bits, IntKind.signed]; omega
 have hcv := convert_part (w := w.alloc (.cells #[.int .u8 (i : Int)] 5)) (g := w.heap.size) (t := [UInt8.ofNat i]) (by
  have := heap_alloc_new w (.cells #[.int .u8 (i : Int)] 5)
  rw [this]
  have e : (UInt8.ofNat i).toNat = i := by simp; omega
  show _ = some (Obj.cells #[.int .u8 ((UInt8.ofNat i).toNat : Int)] _ _)
  rw [e]) 0 1 1 (by simp)
 go_enter Tryz.func49, Tryz.ntmps49
 go_wp2_with fail
 go_ret
 refine ⟨?_, (Kept.refl _ _).alloc _⟩
 have e : (⟨#[102]⟩ : ByteArray) ++ ⟨#[UInt8.ofNat i]⟩ = Hm.nameK i := by
  apply ByteArray.ext
  rw [ByteArray.data_append]
  rfl
 rw [e]
 rfl

end Go.Proofs.YtegnkfdbmmndaaaGreat
end

/- Column -/
section
/- The column. -/
namespace Go.Proofs.YtegnkfdbmmndaaaGreat
open Go.RowKit

namespace Hm
def colOf (s : List UInt8) (ps : List Nat) : List UInt8 := (ps.filter fun p => decide (0 < p)).map fun p => s.getD (p - 1) 0
theorem colOf_take (s : List UInt8) (ps : List Nat) (k : Nat) (h : k < ps.length) : colOf s (ps.take (k + 1)) = colOf s (ps.take k) ++ if 0 < ps[k] then [s.getD (ps[k] - 1) 0] else [] := by
 rw [List.take_succ_eq_append_getElem h]; unfold colOf; rw [List.filter_append, List.map_append]; congr 1
 by_cases e : 0 < ps[k] <;> simp [e]
theorem colOf_le (s : List UInt8) (ps : List Nat) : (colOf s ps).length ≤ ps.length := by
 unfold colOf; rw [List.length_map]; exact List.length_filter_le _ _
end Hm

set_option maxHeartbeats 1000000 in
theorem column_any (gp cp : Nat) (s : ByteArray) (ps : List Nat) (w : World) (hp : IntRow w gp ps) (hs : s.size ≤ 6000) (hl : ps.length ≤ 6001) (hx : ∀ x ∈ ps, x ≤ s.size) :
  Calls Tryz.prog 99 #[.string s, .slice (some ⟨gp, 0, none⟩) ps.length cp] w fun e w' => ∃ v', e = .returned v' ∧ w'.ownsRow w.heap.size 5 1 v' (Hm.colOf s.data.toList ps).length (Hm.bcells (Hm.colOf s.data.toList ps)) ∧ Kept (fun _ => False) w w' := by
 obtain ⟨i0, hi, hz0, hz1, hz2⟩ := info_parts info_u8
 have hgp := hp.lt
 go_enter Tryz.func99, Tryz.ntmps99
 go_wp2_with (at_make; refine wpList_make_own _ rfl _ _ 79 rfl w.heap.size 5 i0 (.int .u8 0) 1 Tryz.underlying79 hi hz0 hz1 .i64 .i64 _ s.size rfl rfl rfl (by rw [hz2]; omega) (by unfold maxLen; omega) (Nat.le_refl _) ?_; intro w1 ho1 hg1)
 have hk1 : Kept (fun _ => False) w w1 := (Kept.refl _ _).grown hg1 (fun k hk => by cases hk)
 clear hg1
 go_loopw [5, 13] (fun u i wr => ∃ k : Nat, k ≤ ps.length ∧ i = .int .i64 k ∧ wr.ownsRow w.heap.size 5 1 u (Hm.colOf s.data.toList (ps.take k)).length (Hm.bcells (Hm.colOf s.data.toList (ps.take k))) ∧ Kept (fun _ => False) w wr) (fun _ i _ => ps.length - (intOf i).toNat)
 case atStart => exact ⟨0, Nat.zero_le _, rfl, by simpa [Hm.colOf, Hm.bcells] using ho1, hk1⟩
 case round =>
  clear ho1 hk1
  obtain ⟨k, hk, rfl, hor, hkr⟩ := hrel
  have hcl := Hm.colOf_le s.data.toList (ps.take k)
  have hcl2 : (ps.take k).length ≤ 6001 := by simp; omega
  by_cases hlt : k < ps.length
  ·have hc := (hp.kept hkr id).cell hlt
   have hpx := hx ps[k] (List.getElem_mem _)
   have HT : Hid (Hm.colOf s.data.toList (ps.take (k + 1)) = Hm.colOf s.data.toList (ps.take k) ++ if 0 < ps[k] then [s.data.toList.getD (ps[k] - 1) 0] else []) := Hm.colOf_take _ ps k hlt
   generalize ps[k] = p at *
   generalize hC : Hm.colOf s.data.toList (ps.take k) = C at *
   by_cases hpos : 0 < p
   ·obtain ⟨q, hq⟩ : ∃ q, p = q + 1 := ⟨p - 1, by omega⟩
    subst hq
    have hq2 : q < s.size := by omega
    have HT2 : Hid (Hm.colOf s.data.toList (ps.take (k + 1)) = C ++ [s[q]]) := by
     show _ = _
     have e : s.data.toList.getD (q + 1 - 1) 0 = s[q] := by
      rw [Nat.add_sub_cancel, List.getD_eq_getElem?_getD, List.getElem?_eq_getElem (by simpa using hq2)]
      rfl
     rw [HT.out, if_pos hpos, e]
    clear HT hp hx hC
    go_wp2_with (at_builtin; refine wpList_append_mv _ rfl (.tmp 19) (.tmp 24) 79 rfl w.heap.size 5 i0 (.int .u8 0) 1 1 Tryz.underlying79 hi hz0 hz1 hz2 rfl (by decide) _ _ _ rfl (hor.alloc _) ⟨wr.heap.size, 0, none⟩ 1 1 [.int .u8 (s[q].toNat : Int)] rfl rfl ?c1 ?c2 ?c3 ?c4 ?c5 ?_)
    case c1 => exact cell_one_new _ _ _
    case c2 => intro u hu; simp at hu; subst hu; rfl
    case c3 => unfold maxLen; omega
    case c4 => omega
    case c5 => have := hkr.size; simp; omega
    intro v' w2 ho2 hg2 hm2
    have hk2 : Kept (fun _ => False) w w2 := (hkr.alloc _).grown hg2 (fun j hj => .inl (hor.lt j hj).1)
    clear hg2 hm2 hor hkr
    go_wp2
    go_roundw
    case rel =>
     refine ⟨k + 1, by omega, by go_num, ?_, hk2⟩
     rw [HT2.out]
     simpa [Hm.bcells] using ho2
    case measure => simp [intOf]; omega
   ·obtain rfl : p = 0 := by omega
    have HT2 : Hid (Hm.colOf s.data.toList (ps.take (k + 1)) = C) := by
     show _ = _
     rw [HT.out, if_neg hpos, List.append_nil]
    clear HT hp hx hC
    go_wp2
    go_roundw
    case rel => exact ⟨k + 1, by omega, by go_num, by rw [HT2.out]; exact hor, hkr⟩
    case measure => simp [intOf]; omega
  ·go_wp2
   go_ret
   obtain rfl : k = ps.length := by omega
   rw [List.take_length] at hor
   exact ⟨_, rfl, hor, hkr⟩

end Go.Proofs.YtegnkfdbmmndaaaGreat
end

/- Root -/
section
/- The root's row. -/
namespace Go.Proofs.YtegnkfdbmmndaaaGreat
open Go.RowKit

set_option maxHeartbeats 400000 in
theorem root_any (gp c : Nat) (ps : List Nat) (w : World) (hp : IntRow w gp ps) (hl : ps.length ≤ 6001) :
  Calls Tryz.prog 102 #[.slice (some ⟨gp, 0, none⟩) ps.length c] w fun e w' => e = .returned (.int .i64 (Lib.idxOf (ps.map fun x : Nat => (x : Int)) 0)) ∧ w = w' := by
 have hc := Tryz.slices_Index_int gp 0 ps.length c (ps.map fun x : Nat => (x : Int)) 0 w (by simp) (by omega) (fun j hj => by
  have hjl : j < ps.length := by simpa using hj
  rw [Nat.zero_add, hp.cell hjl]
  simp [List.getD_eq_getElem?_getD, hjl])
 rw [show (ps.map fun x : Nat => (x : Int)).take ps.length = ps.map fun x : Nat => (x : Int) from List.take_of_length_le (by simp)] at hc
 generalize Lib.idxOf (ps.map fun x : Nat => (x : Int)) 0 = r at *
 clear hp
 go_enter Tryz.func102, Tryz.ntmps102
 go_wp2_with (go_at_call 156; refine hc.mono ?_; rintro e w2 ⟨rfl, rfl⟩)
 go_ret
 exact ⟨rfl, rfl⟩

end Go.Proofs.YtegnkfdbmmndaaaGreat
end

/- Builder -/
section
/- A strings.Builder that a call has made: what its methods do, and which blocks they turn. -/
namespace Go.Proofs.YtegnkfdbmmndaaaGreat
open Go.RowKit

/-- A builder lies in block b; its bytes are v's. -/
structure BuilderIs (w : World) (b : Nat) (p v : Value) (l : List UInt8) : Prop where
 blk : w.heap[b]? = some (.cells #[p, v] 201 (0, 0))
 own : w.ownsRow 0 5 1 v l.length (Hm.bcells l)
 ne : v.ownBlock ≠ some b
 adr : p = .pointer none ∨ p = .pointer (some ⟨b, 0, none⟩)
 nil : l = [] → v = .slice none 0 0

set_option maxHeartbeats 1000000 in
set_option maxRecDepth 100000 in
theorem copyCheck_any (b : Nat) (p v : Value) (l : List UInt8) (w : World) (h : BuilderIs w b p v l) :
  Calls Tryz.prog 173 #[.pointer (some ⟨b, 0, none⟩)] w fun e w' => e = .returned (.tuple #[]) ∧ BuilderIs w' b (.pointer (some ⟨b, 0, none⟩)) v l ∧ Kept (fun j => j = b) w w' := by
 have hj : ∃ j, Tryz.prog.info? 201 = some j ∧ j.size = 2 := by
  have h1 : (Tryz.prog.info? 201).map (·.size) = some 2 := by kernel_rfl
  obtain ⟨j, hj, hs⟩ := Option.map_eq_some_iff.1 h1
  exact ⟨j, hj, hs⟩
 obtain ⟨j, hj, hjs⟩ := hj
 have hc0 : w.cell? ⟨b, 0, none⟩ = some p := cell_of_row _ _ 0 _ _ _ h.blk
 have hf0 : w.frozen? ⟨b, 0, none⟩ = false := frozen_of_row _ _ 0 _ _ h.blk
 have hsh : w.shape? b = some (201, 2) := by simp [World.shape?, h.blk]
 rcases h.adr with hp | hp
 ·subst hp
  have hset : BuilderIs (w.setCell ⟨b, 0, none⟩ (.pointer (some ⟨b, 0, none⟩))) b (.pointer (some ⟨b, 0, none⟩)) v l :=
   ⟨by have := heap_setCell_same w b 0 _ _ (.pointer (some ⟨b, 0, none⟩)) h.blk; simpa using this, ownsRow_setCell_other h.own h.ne _, h.ne, .inr rfl, h.nil⟩
  have HS : Hid (BuilderIs (w.setCell ⟨b, 0, none⟩ (.pointer (some ⟨b, 0, none⟩))) b (.pointer (some ⟨b, 0, none⟩)) v l) := hset
  clear h hset
  go_enter Tryz.func173, Tryz.ntmps173
  go_wp2
  rw [Lib.run_to_unsafe w ⟨b, 0, none⟩ Tryz.underlying199 Tryz.underlying262 hj (by rw [hjs]; decide) hsh (Nat.zero_lt_succ 1)]
  simp only [Result.andThen]
  rw [Oper.upon_value]
  go_wp2
  rw [run_callFunc_extern Tryz.func187 (by kernel_rfl) (by kernel_rfl) (by kernel_rfl) (e := Extern.AbiNoEscape.same) (by kernel_rfl)]
  rw [Lib.run_noEscape]
  simp only [Result.andThen]
  rw [Oper.upon_value]
  go_wp2
  rw [Lib.run_from_unsafe w ⟨b, 0, none⟩ Tryz.underlying262 Tryz.underlying199 hj hsh (by kernel_rfl)]
  simp only [Result.andThen]
  rw [Oper.upon_value]
  go_wp2
  go_end0
  exact ⟨rfl, HS.out, (Kept.refl (fun j => j = b) w).setCell (p := ⟨b, 0, none⟩) (.inr rfl) _⟩
 ·subst hp
  have HS : Hid (BuilderIs w b (.pointer (some ⟨b, 0, none⟩)) v l) := h
  clear h
  go_enter Tryz.func173, Tryz.ntmps173
  go_wp2
  rw [Lib.run_neq_ptr_same w _ Tryz.underlying199 hj]
  go_wp2
  go_end0
  exact ⟨rfl, HS.out, Kept.refl _ _⟩

set_option maxHeartbeats 1000000 in
theorem writeString_any (b : Nat) (p v : Value) (l : List UInt8) (s : ByteArray) (w : World) (h : BuilderIs w b p v l) (hl : l.length + s.size ≤ 1000000) :
  Calls Tryz.prog 129 #[.pointer (some ⟨b, 0, none⟩), .string s] w fun e w' => ∃ v', e = .returned (.tuple #[.int .i64 s.size, .nilIface]) ∧ BuilderIs w' b (.pointer (some ⟨b, 0, none⟩)) v' (l ++ s.data.toList) ∧ Kept (Bk b v) w w' ∧ Moved w v v' := by
 obtain ⟨i0, hi, hz0, hz1, hz2⟩ := info_parts info_u8
 have hcc := copyCheck_any b p v l w h
 clear h
 go_enter Tryz.func129, Tryz.ntmps129
 go_wp2_with fail
 refine hcc.mono ?_
 rintro e w1 ⟨rfl, h1, hk1⟩
 clear hcc
 obtain ⟨a1, c1, hv1, _⟩ := slice_shape h1.own
 subst hv1
 have hd1 : w1.cell? ⟨b, 1, none⟩ = some (.slice a1 l.length c1) := cell_of_row _ _ 1 _ _ _ h1.blk
 have hsz := h1.own
 go_wp2_with (at_builtin; refine wpList_append_mv_string _ rfl (.tmp 12) (.tmp 13) 79 9 rfl 0 5 i0 Tryz.underlying79 Tryz.underlying9 hi hz0 hz1 hz2 _ _ _ rfl hsz s rfl ?c6 ?c7 ?c8 ?_)
 case c6 => unfold maxLen; omega
 case c7 => omega
 case c8 => exact Nat.zero_le _
 intro v2 w2 ho2 hg2 hm2 hnil2
 have hblk2 : w2.heap[b]? = some (.cells #[.pointer (some ⟨b, 0, none⟩), .slice a1 l.length c1] 201 (0, 0)) := by
  rw [hg2.block b (lt_of_block h1.blk) (fun e => h1.ne e.symm)]; exact h1.blk
 have hne2 : v2.ownBlock ≠ some b := fun e => by
  rcases hm2 b e with h | h
  ·exact h1.ne h
  ·have := lt_of_block h1.blk; omega
 have hk2 : Kept (Bk b (.slice a1 l.length c1)) w w2 := (hk1.wider (fun j _ h => .inl h)).grown hg2 (fun k hk => .inr (.inr hk))
 have hmv2 : Moved w (.slice a1 l.length c1) v2 := (Moved.refl w _).trans hm2 hk1.size
 obtain ⟨a2, c2, hv2, _⟩ := slice_shape ho2
 have HN : Hid (l ++ s.data.toList = [] → v2 = .slice none 0 0) := fun e => by
  have e1 := List.append_eq_nil_iff.1 e
  have hs0 : s = ByteArray.empty := by
   apply ByteArray.ext
   apply Array.ext'
   rw [e1.2]; rfl
  have hv0 := h1.nil e1.1
  simp only [Value.slice.injEq] at hv0
  exact hnil2.2 ⟨by simpa using ⟨hv0.1, e1.1, hv0.2.2⟩, hs0⟩
 subst hv2
 have hf1 : w2.frozen? ⟨b, 1, none⟩ = false := frozen_of_row _ _ 1 _ _ hblk2
 have hd2 : w2.cell? ⟨b, 1, none⟩ = some (.slice a1 l.length c1) := cell_of_row _ _ 1 _ _ _ hblk2
 have HR : Hid (BuilderIs (w2.setCell ⟨b, 1, none⟩ (.slice a2 (l.length + s.size) c2)) b (.pointer (some ⟨b, 0, none⟩)) (.slice a2 (l.length + s.size) c2) (l ++ s.data.toList)) := by
  refine ⟨?_, ?_, hne2, .inr rfl, HN.out⟩
  ·have := heap_setCell_same w2 b 1 _ _ (.slice a2 (l.length + s.size) c2) hblk2; simpa using this
  ·have e1 : (l ++ s.data.toList).length = l.length + s.size := by simp
   have e2 : Hm.bcells (l ++ s.data.toList) = Hm.bcells l ++ Lib.strCells s := by simp [Hm.bcells, Lib.strCells]
   rw [e1, e2]
   exact ownsRow_setCell_other ho2 hne2 _
 clear ho2 hg2 hm2 hnil2 hblk2 h1 hk1 hsz hd1 hne2
 go_wp2
 go_ret2
 exact ⟨_, rfl, HR.out, hk2.setCell (.inr (.inl rfl)) _, hmv2⟩

set_option maxHeartbeats 400000 in
theorem builderLen_any (b : Nat) (p v : Value) (l : List UInt8) (w : World) (h : BuilderIs w b p v l) :
  Calls Tryz.prog 130 #[.pointer (some ⟨b, 0, none⟩)] w fun e w' => e = .returned (.int .i64 (l.length : Nat)) ∧ w = w' := by
 obtain ⟨a1, c1, hv1, _⟩ := slice_shape h.own
 subst hv1
 have hd1 : w.cell? ⟨b, 1, none⟩ = some (.slice a1 l.length c1) := cell_of_row _ _ 1 _ _ _ h.blk
 clear h
 go_enter Tryz.func130, Tryz.ntmps130
 go_wp2
 go_ret
 exact ⟨rfl, rfl⟩

theorem Kept.freeze {S : Nat → Prop} {a b : World} (h : Kept S a b) {p : Addr} (hp : a.heap.size ≤ p.block ∨ S p.block) (n : Nat) : Kept S a (b.freeze p n) := by
 have h0 := Lib.below_freeze (Below.refl 0 b) (p := p) (Nat.zero_le _) n
 refine ⟨h0.os.trans h.os, h0.tape.trans h.tape, h0.output.trans h.output, Nat.le_trans h.size h0.size, fun j hj hn => ?_⟩
 have hne : p.block ≠ j := by
  rintro rfl
  rcases hp with hp | hp
  ·omega
  ·exact hn hp
 refine Eq.trans ?_ (h.block j hj hn)
 unfold World.freeze
 split
 ·rfl
 ·simp only [Array.getElem?_modify]
  rw [if_neg hne]

set_option maxHeartbeats 1000000 in
set_option maxRecDepth 100000 in
theorem builderString_any (b : Nat) (p v : Value) (l : List UInt8) (w : World) (h : BuilderIs w b p v l) (hl : l.length ≤ 1000000) :
  Calls Tryz.prog 131 #[.pointer (some ⟨b, 0, none⟩)] w fun e w' => e = .returned (.string ⟨l.toArray⟩) ∧ Kept (Bk b v) w w' := by
 by_cases h0 : l = []
 ·have hv := h.nil h0
  subst hv
  subst h0
  have hd1 : w.drew.cell? ⟨b, 1, none⟩ = some (.slice none 0 0) := cell_of_row _ _ 1 _ _ _ h.blk
  have hSD : (Builtin.unsafeSliceData_ #[79] 198 #[.slice none 0 0]).run Tryz.prog w.drew = .ok (.pointer none) w.drew := rfl
  have hUS : ∀ W, (Builtin.unsafeString_ #[198, 3] 9 #[.pointer none, .int .i64 0]).run Tryz.prog W = .ok (.string .empty) W := fun W => Lib.run_unsafeString_none W _ _ _ none
  clear h
  go_enter Tryz.func131, Tryz.ntmps131
  go_wp2
  go_region
  all_goals (go_wp2; go_ret; exact ⟨rfl, (Kept.refl _ _).drew⟩)
 ·have hl0 : 0 < l.length := List.length_pos_iff.2 h0
  obtain ⟨g, cap, hv, hnc, hgw⟩ := owns_some h.own hl0
  subst hv
  have hown := h.own
  have hd1 : w.drew.cell? ⟨b, 1, none⟩ = some (.slice (some ⟨g, 0, none⟩) l.length cap) := cell_of_row _ _ 1 _ _ _ h.blk
  have hSD : (Builtin.unsafeSliceData_ #[79] 198 #[.slice (some ⟨g, 0, none⟩) l.length cap]).run Tryz.prog w.drew = .ok (.pointer (some ⟨g, 0, none⟩)) w.drew := Lib.run_unsafeSliceData_row _ _ _ _ _ _ (by omega)
  have hUS : (Builtin.unsafeString_ #[198, 3] 9 #[.pointer (some ⟨g, 0, none⟩), .int .i64 l.length]).run Tryz.prog w.drew = .ok (.string ⟨l.toArray⟩) (w.drew.freeze ⟨g, 0, none⟩ l.length) := by
   rcases hown.2 with ⟨hx, _⟩ | ⟨g2, cap2, cur, hx, _, hg, _, hcm, hcs, ht⟩
   ·cases hx
   ·cases hx
    refine Lib.run_unsafeString_row w.drew 198 3 9 5 Tryz.underlying198 (by kernel_rfl) g cur.size (by have hg' : w.drew.heap[g]? = some (.cells cur 5 (0, 0)) := hg; simp [World.shape?, hg']) l h0 (by omega) (by omega) ?_
    intro j x hx
    exact hown.cells (g := g) rfl j (.int .u8 x.toNat) (by simp [Hm.bcells, hx])
  clear h hown
  go_enter Tryz.func131, Tryz.ntmps131
  go_wp2
  go_region
  all_goals (go_wp2; go_ret; exact ⟨rfl, (Kept.refl _ _).drew.freeze (p := ⟨g, 0, none⟩) (.inr (.inr rfl)) _⟩)

end Go.Proofs.YtegnkfdbmmndaaaGreat
end

/- Join -/
section
/- The text of some files, and where each ends in it. -/
namespace Go.Proofs.YtegnkfdbmmndaaaGreat
open Go.RowKit

namespace Hm
def textOf (fs : List (ByteArray × ByteArray)) : List UInt8 := fs.flatMap fun f => f.2.data.toList
def endsTo (fs : List (ByteArray × ByteArray)) (k : Nat) : List Nat := (List.range fs.length).map fun i => if i < k then (textOf (fs.take (i + 1))).length else 0
def endsOf (fs : List (ByteArray × ByteArray)) : List Nat := (List.range fs.length).map fun i => (textOf (fs.take (i + 1))).length
theorem textOf_take (fs : List (ByteArray × ByteArray)) (k : Nat) (h : k < fs.length) : textOf (fs.take (k + 1)) = textOf (fs.take k) ++ fs[k].2.data.toList := by
 rw [List.take_succ_eq_append_getElem h]; unfold textOf; rw [List.flatMap_append]; congr 1; simp
theorem textOf_le (fs : List (ByteArray × ByteArray)) (k : Nat) : (textOf (fs.take k)).length ≤ (textOf fs).length := by
 have e : textOf fs = textOf (fs.take k) ++ textOf (fs.drop k) := by
  unfold textOf; rw [← List.flatMap_append, List.take_append_drop]
 rw [e, List.length_append]; omega
theorem endsTo_length (fs : List (ByteArray × ByteArray)) (k : Nat) : (endsTo fs k).length = fs.length := by simp [endsTo]
theorem endsOf_length (fs : List (ByteArray × ByteArray)) : (endsOf fs).length = fs.length := by simp [endsOf]
theorem endsTo_zero (fs : List (ByteArray × ByteArray)) : endsTo fs 0 = List.replicate fs.length 0 := by
 apply List.ext_getElem <;> simp [endsTo]
theorem endsTo_all (fs : List (ByteArray × ByteArray)) : endsTo fs fs.length = endsOf fs := by
 apply List.ext_getElem
 ·simp [endsTo, endsOf]
 ·intro i h1 h2
  have : i < fs.length := by simpa [endsTo] using h1
  simp [endsTo, endsOf, this]
theorem endsTo_get (fs : List (ByteArray × ByteArray)) (k i : Nat) (h : i < (endsTo fs k).length) : (endsTo fs k)[i] = if i < k then (textOf (fs.take (i + 1))).length else 0 := by simp [endsTo]
theorem endsTo_succ (fs : List (ByteArray × ByteArray)) (k : Nat) (_h : k < fs.length) : endsTo fs (k + 1) = (endsTo fs k).set k (textOf (fs.take (k + 1))).length := by
 apply List.ext_getElem
 ·simp [endsTo]
 ·intro i h1 h2
  rw [List.getElem_set, endsTo_get, endsTo_get]
  by_cases e : k = i
  ·subst e; simp
  ·rw [if_neg e]
   by_cases h3 : i < k
   ·rw [if_pos h3, if_pos (by omega)]
   ·rw [if_neg h3, if_neg (by omega)]
theorem endsOf_le (fs : List (ByteArray × ByteArray)) : ∀ e ∈ endsOf fs, e ≤ (textOf fs).length := by
 intro e he
 obtain ⟨i, _, rfl⟩ := List.mem_map.1 he
 exact textOf_le fs _
end Hm

set_option maxHeartbeats 1000000 in
theorem joinFiles_any (ao : Option Addr) (c : Nat) (fs : List (ByteArray × ByteArray)) (w : World) (hf : FilesAt w ao fs) (hm : fs.length ≤ 40) (ht : (Hm.textOf fs).length ≤ 6000) :
  Calls Tryz.prog 94 #[.slice ao fs.length c] w fun e w' => e = .returned (.tuple #[.string ⟨(Hm.textOf fs).toArray⟩, .slice (some ⟨w.heap.size + 1, 0, none⟩) fs.length fs.length]) ∧ IntRow w' (w.heap.size + 1) (Hm.endsOf fs) ∧ Kept (fun _ => False) w w' := by
 obtain ⟨i0, hi, hz0, hz1, hz2⟩ := info_parts info_int
 go_enter Tryz.func94, Tryz.ntmps94
 go_wp2_with (at_make; refine wpList_make_full _ rfl (.tmp 9) (.tmp 9) 64 rfl w.heap.size 3 i0 (.int .i64 0) 1 Tryz.underlying64 hi hz0 hz1 .i64 .i64 _ _ fs.length rfl rfl rfl rfl (by rw [hz2]; omega) (by unfold maxLen; omega) (by simp) ?_; intro w1 ho1 hg1)
 have hsz1 : (w.alloc (.cells #[.pointer none, .slice none 0 0] 201)).heap.size = w.heap.size + 1 := by simp
 try rw [hsz1] at ho1
 have hr1 : IntRow w1 (w.heap.size + 1) (Hm.endsTo fs 0) := by rw [Hm.endsTo_zero]; exact IntRow.made ho1
 have hb1 : BuilderIs w1 w.heap.size (.pointer none) (.slice none 0 0) (Hm.textOf (fs.take 0)) :=
  ⟨by rw [hg1.block _ (by simp) (by simp)]; exact heap_alloc_new w _, by simpa [Hm.textOf, Hm.bcells] using World.ownsRow_nil w1 0 5 1, by simp [Value.ownBlock], .inl rfl, fun _ => rfl⟩
 have hk1 : Kept (fun _ => False) w w1 := ((Kept.refl (fun _ => False) w).alloc _).grown hg1 (fun k hk => by cases hk)
 clear ho1 hg1
 go_loopw [13] (fun i wr => ∃ (k : Nat) (p v : Value), k ≤ fs.length ∧ i = .int .i64 k ∧ BuilderIs wr w.heap.size p v (Hm.textOf (fs.take k)) ∧ IntRow wr (w.heap.size + 1) (Hm.endsTo fs k) ∧ Kept (fun _ => False) w wr ∧ (∀ j, v.ownBlock = some j → w.heap.size + 1 < j)) (fun i _ => fs.length - (intOf i).toNat)
 case atStart => exact ⟨0, _, _, Nat.zero_le _, rfl, hb1, hr1, hk1, fun j h => by cases h⟩
 case round =>
  clear hr1 hb1 hk1
  obtain ⟨k, p, v, hk, rfl, hb, hr, hkr, hmr⟩ := hrel
  have hle1 := Hm.textOf_le fs k
  by_cases hlt : k < fs.length
  ·obtain ⟨b, o, hao, hbw, hc1, hc2⟩ := (hf.kept hkr (fun a ha => id)) k hlt
   have hle2 := Hm.textOf_le fs (k + 1)
   have HT : Hid (Hm.textOf (fs.take (k + 1)) = Hm.textOf (fs.take k) ++ fs[k].2.data.toList) := Hm.textOf_take fs k hlt
   have hel : (Hm.textOf (fs.take k)).length + fs[k].2.size ≤ 6000 := by
    have := congrArg List.length HT.out
    have e3 : fs[k].2.data.toList.length = fs[k].2.size := by simp
    rw [List.length_append, e3] at this; omega
   have HE : Hid (Hm.endsTo fs (k + 1) = (Hm.endsTo fs k).set k (Hm.textOf (fs.take (k + 1))).length) := Hm.endsTo_succ fs k hlt
   have hetl := Hm.endsTo_length fs k
   generalize fs[k].1 = nm at *
   generalize fs[k].2 = ct at *
   have hbx : BuilderIs (wr.alloc (.cells #[.string nm, .string ct] 38)) w.heap.size p v (Hm.textOf (fs.take k)) :=
    ⟨by rw [Below.heap_alloc _ _ _ (lt_of_block hb.blk)]; exact hb.blk, hb.own.alloc _, hb.ne, hb.adr, hb.nil⟩
   have hws := writeString_any w.heap.size p v _ ct _ hbx (by omega)
   rw [hao]
   clear hao hf hb hbx
   go_wp2_with fail
   refine hws.mono ?_
   rintro e w2 ⟨v2, rfl, hb2, hk2, hm2⟩
   have hln := builderLen_any _ _ _ _ w2 hb2
   rw [← HT.out] at hb2 hln
   have hr2 : IntRow w2 (w.heap.size + 1) (Hm.endsTo fs k) := by
    refine IntRow.kept (w := wr.alloc (.cells #[.string nm, .string ct] 38)) ?_ hk2 ?_
    ·unfold IntRow; rw [Below.heap_alloc _ _ _ hr.lt]; exact hr
    ·rintro (h | h)
     ·omega
     ·have := hmr _ h; omega
   have hd := hr2.cell (i := k) (by omega)
   have hfr := hr2.free k
   have HR : Hid (IntRow (w2.setCell ⟨w.heap.size + 1, k, none⟩ (.int .i64 ((Hm.textOf (fs.take (k + 1))).length : Nat))) (w.heap.size + 1) (Hm.endsTo fs (k + 1))) := by
    show IntRow _ _ _
    rw [HE.out]; exact hr2.set k _
   have hkw2 : Kept (fun _ => False) w w2 := (hkr.alloc _).trans hk2 (fun j h1 h2 => by
    rcases h2 with h2 | h2
    ·omega
    ·have := hmr _ h2; omega)
   have hmr2 : ∀ j, v2.ownBlock = some j → w.heap.size + 1 < j := fun j h => by
    rcases hm2 j h with h2 | h2
    ·exact hmr j h2
    ·have := lt_of_block hr; simp at h2; omega
   generalize (Hm.endsTo fs k)[k]'(by omega) = old at hd
   have HB2 : Hid (BuilderIs w2 w.heap.size (.pointer (some ⟨w.heap.size, 0, none⟩)) v2 (Hm.textOf (fs.take (k + 1)))) := hb2
   clear hws hr hr2 hb2 hk2 hm2 hkr hmr
   generalize (Hm.textOf (fs.take (k + 1))).length = el at *
   go_wp2_with (go_at_call 130; refine hln.mono ?_; rintro e w3 ⟨rfl, rfl⟩)
   go_roundw
   case rel =>
    have hb := HB2.out
    refine ⟨k + 1, _, v2, by omega, by go_num, ⟨?_, ?_, hb.ne, hb.adr, hb.nil⟩, HR.out, hkw2.setCell (.inl (by simp)) _, hmr2⟩
    ·rw [Below.heap_setCell _ _ _ _ (by simp)]; exact hb.blk
    ·exact ownsRow_setCell_other hb.own (fun e => by have := hmr2 _ e; simp at this) _
   case measure => simp [intOf]; omega
  ·obtain rfl : k = fs.length := by omega
   rw [List.take_length] at hb
   rw [Hm.endsTo_all] at hr
   have hst := builderString_any _ _ _ _ wr hb (by omega)
   have HR : Hid (IntRow wr (w.heap.size + 1) (Hm.endsOf fs)) := hr
   clear hf hb hr
   generalize htx : (⟨(Hm.textOf fs).toArray⟩ : ByteArray) = txt at hst
   have HX : Hid ((⟨(Hm.textOf fs).toArray⟩ : ByteArray) = txt) := htx
   clear htx
   go_wp2_with (go_at_call 131; refine hst.mono ?_; rintro e w2 ⟨rfl, hk2⟩)
   go_ret2
   rw [HX.out]
   refine ⟨rfl, HR.out.kept hk2 ?_, hkr.trans hk2 (fun j h1 h2 => ?_)⟩
   ·rintro (h | h)
    ·omega
    ·have := hmr _ h; omega
   ·rcases h2 with h2 | h2
    ·omega
    ·have := hmr _ h2; omega

end Go.Proofs.YtegnkfdbmmndaaaGreat
end

/- Sizes -/
section
/- How long the parts of an archive are: plain counting. -/
namespace Go.Proofs.YtegnkfdbmmndaaaGreat
namespace Hm

theorem range_pos (n : Nat) : ((List.range (n + 1)).filter fun p => decide (0 < p)).length = n := by
 induction n with
 | zero => rfl
 | succ n ih => rw [List.range_succ, List.filter_append, List.length_append, ih]; simp
theorem range_eights (n : Nat) : ((List.range (n + 1)).filter fun p => decide (p % 8 = 0)).length = n / 8 + 1 := by
 induction n with
 | zero => rfl
 | succ n ih =>
  rw [List.range_succ, List.filter_append, List.length_append, ih]
  by_cases h : (n + 1) % 8 = 0
  ·simp [h]; omega
  ·simp [h]; omega
theorem colOf_length {s : List UInt8} {ps : List Nat} (h : ps.Perm (List.range (s.length + 1))) : (colOf s ps).length = s.length := by
 unfold colOf
 rw [List.length_map, (h.filter _).length_eq, range_pos]
theorem sampBits_length (ps : List Nat) (wd : Nat) : (sampBits ps wd).length = (ps.filter fun p => decide (p % 8 = 0)).length * wd := by
 unfold sampBits
 generalize (ps.filter fun p => decide (p % 8 = 0)) = l
 induction l with
 | nil => simp
 | cons p r ih => rw [List.flatMap_cons, List.length_append, numBits_length, ih, List.length_cons, Nat.add_mul]; omega
theorem samples_length {n : Nat} {ps : List Nat} (h : ps.Perm (List.range (n + 1))) : (samples ps).length = n + 1 + (n / 8 + 1) * Lib.bitLen (n / 8) := by
 have hl : ps.length = n + 1 := by have := h.length_eq; simpa using this
 unfold samples
 rw [List.length_append, List.length_map, sampBits_length, (h.filter _).length_eq, range_eights, hl, Nat.add_sub_cancel]
theorem endsBits_length (es : List Nat) (n : Nat) : (endsBits es n).length = es.length * lowW es.length n + (es.length + n / 2 ^ lowW es.length n + 1) := by
 unfold endsBits
 rw [endSets_length, List.length_append, endLow_length, List.length_replicate]

end Hm
end Go.Proofs.YtegnkfdbmmndaaaGreat
end

/- ArchM -/
section
/- An archive, byte by byte. -/
namespace Go.Proofs.YtegnkfdbmmndaaaGreat
namespace Hm

def rootOf (ps : List Nat) : Nat := ps.findIdx fun x => x == 0
/-- The tree's bits, by the beginnings of the codes. -/
def treeRef (cd : UInt8 → List Bool) (hs : List (List Bool)) (col : List UInt8) : List Bool := hs.flatMap fun h => (col.filter fun b => begB (cd b) h).map fun b => (cd b).getD h.length false
/-- The tree's bits, by the nodes. -/
def trOf (L : List Nat) (N : Nat) (col : List UInt8) : List Bool := (treeBits (lnB L) (numB L) (shapeTo (lnB L) (orderOf L) (2 * N)).1 col N).map fun x => decide (x = 1)
/-- An archive but for its sum. -/
def archBody (fs : List (ByteArray × ByteArray)) (ps : List Nat) (tr : List Bool) : List UInt8 :=
 [72, 79, 65, 82, 68, 49, UInt8.ofNat fs.length] ++ leBytes (textOf fs).length 2 ++ leBytes (rootOf ps) 2 ++ nameBytes fs ++ packBits (endsBits (endsOf fs) (textOf fs).length) ++ leBytes (codedOf (lens (textOf fs))).length 2 ++ lenBytes (lens (textOf fs)) (codedOf (lens (textOf fs))) ++ packBits tr ++ packBits (samples ps)
def archOf (fs : List (ByteArray × ByteArray)) (ps : List Nat) (tr : List Bool) : List UInt8 := archBody fs ps tr ++ leBytes (crc (archBody fs ps tr)) 4

theorem rootOf_idx {n : Nat} {ps : List Nat} (h : ps.Perm (List.range (n + 1))) : Lib.idxOf (ps.map fun x : Nat => (x : Int)) 0 = (rootOf ps : Int) ∧ rootOf ps ≤ n := by
 have hl : ps.length = n + 1 := by have := h.length_eq; simpa using this
 have hmem : 0 ∈ ps := h.symm.subset (by simp)
 have hk : ps.findIdx (fun x => x == 0) < ps.length := List.findIdx_lt_length_of_exists ⟨0, hmem, by simp⟩
 have hz : ps[ps.findIdx (fun x => x == 0)] = 0 := by
  have := List.findIdx_getElem (p := fun x : Nat => x == 0) (xs := ps) (w := hk)
  simpa using this
 refine ⟨?_, by unfold rootOf; omega⟩
 have hh := Lib.idxOf_hit (ps.map fun x : Nat => (x : Int)) ps.length (ps.findIdx (fun x => x == 0)) 0 hk (by simp)
  (by simp [List.getD_eq_getElem?_getD, hk, hz])
  (fun j hj => by
   have hjl : j < ps.length := by omega
   have hne := List.not_of_lt_findIdx hj
   simp [List.getD_eq_getElem?_getD, hjl]
   simpa using hne)
 rw [List.take_of_length_le (by simp)] at hh
 exact hh
theorem colOf_mem {s : List UInt8} {ps : List Nat} (h : ps.Perm (List.range (s.length + 1))) : ∀ b ∈ colOf s ps, b ∈ s := by
 intro b hb
 unfold colOf at hb
 obtain ⟨p, hp, rfl⟩ := List.mem_map.1 hb
 have hp2 := List.mem_filter.1 hp
 have h0 : 0 < p := by simpa using hp2.2
 have h1 := h.subset hp2.1
 have h2 : p < s.length + 1 := by simpa using h1
 rw [List.getD_eq_getElem?_getD, List.getElem?_eq_getElem (by omega)]
 exact List.getElem_mem _
theorem nodeBits_nil (ln num : UInt8 → Nat) (nds : List Nd) (n : Nat) : nodeBits ln num nds [] n = [] := rfl
theorem treeBits_nil (ln num : UInt8 → Nat) (nds : List Nd) (N : Nat) : treeBits ln num nds [] N = [] := by
 induction N with
 | zero => rfl
 | succ N ih => rw [treeBits_succ, ih, nodeBits_nil]; rfl
/-- Both ways of telling the tree's bits tell the same. -/
theorem trOf_ref {L : List Nat} {N : Nat} {col : List UInt8} {hs : List (List Bool)} (hC : Coded L) (hE : Ends 32 (lnB L) (orderOf L) N) (hm : ∀ b ∈ col, b ∈ orderOf L) (hh : HeadsOf (cdOf (lnB L) (numB L)) hs) : trOf L N col = treeRef (cdOf (lnB L) (numB L)) hs col := by
 by_cases h0 : orderOf L = []
 ·have hc : col = [] := by
   cases col with
   | nil => rfl
   | cons b r => have := hm b (List.mem_cons_self ..); rw [h0] at this; simp at this
  subst hc
  unfold trOf treeRef
  rw [treeBits_nil]
  simp
 ·have hsh := hE.nodes
  have hlen := hE.len
  have hz := hE.side0 h0
  have hk := hC.numk
  have hu := hh.unique (hsh.heads hk (fun j hj => hz j (by rw [hlen] at hj; exact hj)) hC.num_lt (fun b hb => (hC.mem b).2 hb))
  rw [hu]
  unfold trOf treeRef headsOf
  generalize (shapeTo (lnB L) (orderOf L) (2 * N)).1 = nds at *
  rw [← hlen]
  unfold treeBits
  rw [List.map_flatMap, List.flatMap_map]
  rw [List.flatMap_def, List.flatMap_def]
  congr 1
  refine List.map_congr_left fun j hj => ?_
  have hj' : j < nds.length := by simpa using hj
  unfold nodeBits colAt
  rw [List.map_map]
  have e1 : (col.filter fun b => begB (cdOf (lnB L) (numB L) b) (headBits (ndAt nds j).depth (ndAt nds j).num)) = col.filter (under (lnB L) (numB L) (ndAt nds j)) :=
   List.filter_congr fun b hb => hsh.begins hk hC.num_lt hj' (hm b hb) (hC.pos b (hm b hb))
  rw [e1, headBits_length]
  refine List.map_congr_left fun b hb => ?_
  have hb2 := List.mem_filter.1 hb
  exact (cdOf_getD b _ (of_decide_eq_true hb2.2).1).symm

end Hm
end Go.Proofs.YtegnkfdbmmndaaaGreat
end
