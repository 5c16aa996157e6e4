import Derived.Test.YtegnkfdbmmndaaaGreatJ08
import Derived.Sort.Lot0
import Derived.Test.YtegnkfdbmmndaaaGreatJ04

/- Coded -/
section
/- The bytes that have a code; the lengths of the codes, added to a row of bytes. -/
namespace Go.Proofs.YtegnkfdbmmndaaaGreat
open Go.RowKit

namespace Hm
def codedTo (L : List Nat) (k : Nat) : List UInt8 := ((List.range k).filter fun b => decide (0 < L.getD b 0)).map UInt8.ofNat
def codedOf (L : List Nat) : List UInt8 := codedTo L 256
theorem codedTo_succ (L : List Nat) (k : Nat) : codedTo L (k + 1) = codedTo L k ++ if 0 < L.getD k 0 then [UInt8.ofNat k] else [] := by
 unfold codedTo
 rw [List.range_succ, List.filter_append, List.map_append]
 congr 1
 rw [List.filter_cons, List.filter_nil]
 by_cases e : 0 < L.getD k 0
 ·rw [if_pos (by simpa using e), if_pos e]; rfl
 ·rw [if_neg (by simpa using e), if_neg e]; rfl
theorem codedTo_le (L : List Nat) (k : Nat) : (codedTo L k).length ≤ k := by
 unfold codedTo
 rw [List.length_map]
 have := List.length_filter_le (fun b => decide (0 < L.getD b 0)) (List.range k)
 simpa using this
def lenBytes (L : List Nat) (l : List UInt8) : List UInt8 := l.flatMap fun b => [b, UInt8.ofNat (L.getD b.toNat 0)]
theorem lenBytes_take (L : List Nat) (l : List UInt8) (k : Nat) (h : k < l.length) : lenBytes L (l.take (k + 1)) = lenBytes L (l.take k) ++ [l[k], UInt8.ofNat (L.getD l[k].toNat 0)] := by
 rw [List.take_succ_eq_append_getElem h]; unfold lenBytes; rw [List.flatMap_append]; congr 1
theorem lenBytes_length (L : List Nat) (l : List UInt8) : (lenBytes L l).length = 2 * l.length := by
 unfold lenBytes
 induction l with
 | nil => rfl
 | cons b r ih => rw [List.flatMap_cons, List.length_append, ih]; simp; try omega
end Hm

set_option maxHeartbeats 1000000 in
theorem bytes_any (L : List Nat) (w : World) (hL : L.length = 256) (hx : ∀ x ∈ L, x ≤ 100000) :
  Calls Tryz.prog 157 #[.agg (icells L).toArray] w fun e w' => ∃ v, e = .returned v ∧ w'.ownsRow w.heap.size 5 1 v (Hm.codedOf L).length (Hm.bcells (Hm.codedOf L)) ∧ Kept (fun _ => False) w w' := by
 obtain ⟨i0, hi, hz0, hz1, hz2⟩ := info_parts info_u8
 have hasz : (icells L).toArray.size = 256 := by rw [icells_size, hL]
 have hix : ∀ b, (h : b < 256) → ∃ x : Nat, x ≤ 100000 ∧ L.getD b 0 = x ∧ ∀ W, (Instr.index 139 (.agg (icells L).toArray) (.int .i64 (b : Nat))).run Tryz.prog W = .ok (.int .i64 (x : Nat)) W := by
  intro b hb
  refine ⟨L[b], hx _ (List.getElem_mem _), by rw [List.getD_eq_getElem?_getD, List.getElem?_eq_getElem (by omega)]; rfl, fun W => ?_⟩
  exact run_index_arr 139 256 Tryz.underlying139 L b (by omega) hL W
 have hbox : (w.alloc (.cells (icells L).toArray 139)).heap[w.heap.size]? = some (.cells (icells L).toArray 139 (0, 0)) := heap_alloc_new w _
 generalize (icells L).toArray = arr at *
 clear hL hx
 go_enter Tryz.func157, Tryz.ntmps157
 go_wp2_with (refine wpList_load_row rfl 139 _ rfl w.heap.size rfl 139 arr (0, 0) _ hbox Tryz.underlying139 rfl (by rw [hasz]; exact info_len) ?_)
 clear hbox hasz
 go_loopw [3, 7] (fun u i wr => ∃ b : Nat, b ≤ 256 ∧ i = .int .i64 b ∧ wr.ownsRow w.heap.size 5 1 u (Hm.codedTo L b).length (Hm.bcells (Hm.codedTo L b)) ∧ Kept (fun _ => False) w wr) (fun _ i _ => 256 - (intOf i).toNat)
 case atStart => exact ⟨0, by omega, rfl, by simpa [Hm.codedTo, Hm.bcells] using World.ownsRow_nil _ w.heap.size 5 1, (Kept.refl _ _).alloc _⟩
 case round =>
  obtain ⟨b, hb, rfl, hor, hkr⟩ := hrel
  have hcl := Hm.codedTo_le L b
  by_cases hlt : b < 256
  ·obtain ⟨x, hx, hLx, hixb⟩ := hix b hlt
   have HT : Hid (Hm.codedTo L (b + 1) = Hm.codedTo L b ++ if 0 < x then [UInt8.ofNat b] else []) := by rw [← hLx]; exact Hm.codedTo_succ L b
   have hdec : decide ((b : Int) < 256) = true := by simp; omega
   clear hix hLx
   by_cases hpos : 0 < x
   ·have hdec2 : decide (0 < x) = true := by simp; omega
    have HT2 : Hid (Hm.bcells (Hm.codedTo L (b + 1)) = Hm.bcells (Hm.codedTo L b) ++ [.int .u8 (b : Nat)] ∧ (Hm.codedTo L (b + 1)).length = (Hm.codedTo L b).length + 1) := by
     constructor
     ·rw [HT.out, if_pos hpos]
      unfold Hm.bcells
      rw [List.map_append, List.map_cons, List.map_nil, Hm.u8cell hlt]
     ·rw [HT.out, if_pos hpos]; simp
    clear HT
    go_wp2_with (at_builtin; refine wpList_append_mv _ rfl (.tmp 13) (.tmp 16) 79 rfl w.heap.size 5 i0 (.int .u8 0) 1 1 Tryz.underlying79 hi hz0 hz1 hz2 rfl (by decide) _ _ _ rfl (hor.alloc _) ⟨wr.heap.size, 0, none⟩ 1 1 [.int .u8 (b : Nat)] rfl rfl ?c1 ?c2 ?c3 ?c4 ?c5 ?_)
    case c1 => exact cell_one_new _ _ _
    case c2 => intro u hu; simp at hu; subst hu; rfl
    case c3 => unfold maxLen; omega
    case c4 => omega
    case c5 => have := hkr.size; simp; omega
    intro v' w2 ho2 hg2 hm2
    have hk2 : Kept (fun _ => False) w w2 := (hkr.alloc _).grown hg2 (fun j hj => .inl (hor.lt j hj).1)
    clear hg2 hm2 hor hkr
    go_wp2
    go_roundw
    case rel => exact ⟨b + 1, by omega, by go_num, by rw [HT2.out.1, HT2.out.2]; exact ho2, hk2⟩
    case measure => simp [intOf]; omega
   ·have hx0 : x = 0 := by omega
    subst hx0
    have HT2 : Hid (Hm.codedTo L (b + 1) = Hm.codedTo L b) := by
     show _ = _
     rw [HT.out, if_neg hpos, List.append_nil]
    clear HT
    go_wp2
    go_roundw
    case rel => exact ⟨b + 1, by omega, by go_num, by rw [HT2.out]; exact hor, hkr⟩
    case measure => simp [intOf]; omega
  ·have hdec : decide ((b : Int) < 256) = false := by simp; omega
   obtain rfl : b = 256 := by omega
   clear hix
   go_wp2
   go_ret
   exact ⟨_, rfl, hor, hkr⟩

set_option maxHeartbeats 2000000 in
theorem addLengths_any (base : Nat) (v : Value) (n : Nat) (l : List UInt8) (L : List Nat) (w : World) (ho : w.ownsRow base 5 1 v n (Hm.bcells l)) (hb : base ≤ w.heap.size) (hL : L.length = 256) (hx : ∀ x ∈ L, x ≤ 255) (hn : n ≤ 100000) :
  Calls Tryz.prog 105 #[v, .agg (icells L).toArray] w fun e w' => ∃ v', e = .returned v' ∧ w'.ownsRow base 5 1 v' (n + 2 + 2 * (Hm.codedOf L).length) (Hm.bcells (l ++ Hm.leBytes (Hm.codedOf L).length 2 ++ Hm.lenBytes L (Hm.codedOf L))) ∧ Kept (fun j => v.ownBlock = some j) w w' ∧ Moved w v v' := by
 obtain ⟨i0, hi, hz0, hz1, hz2⟩ := info_parts info_u8
 have hasz : (icells L).toArray.size = 256 := by rw [icells_size, hL]
 have hcl := Hm.codedTo_le L 256
 have hv0 : ∀ j, v.ownBlock = some j → j < w.heap.size := fun j hj => (ho.lt j hj).2
 have hby := bytes_any L (w.alloc (.cells (icells L).toArray 139)) hL (fun x hxm => by have := hx x hxm; omega)
 have hbox : (w.alloc (.cells (icells L).toArray 139)).heap[w.heap.size]? = some (.cells (icells L).toArray 139 (0, 0)) := heap_alloc_new w _
 have hcell : ∀ W : World, W.heap[w.heap.size]? = some (.cells (icells L).toArray 139 (0, 0)) → ∀ b : Nat, b < 256 → W.cell? ⟨w.heap.size, b, none⟩ = some (.int .i64 (L.getD b 0 : Nat)) := by
  intro W hW b hb
  rw [cell_of_row _ _ b _ _ _ hW]
  simp [icells, List.getD_eq_getElem?_getD, List.getElem?_eq_getElem (show b < L.length from by omega)]
 have hgx : ∀ b : Nat, b < 256 → L.getD b 0 ≤ 255 := fun b hb => by
  rw [List.getD_eq_getElem?_getD, List.getElem?_eq_getElem (show b < L.length from by omega)]; exact hx _ (List.getElem_mem _)
 change (Hm.codedOf L).length ≤ 256 at hcl
 generalize hC : Hm.codedOf L = C at *
 generalize (icells L).toArray = arr at *
 clear hx hL hC
 go_enter Tryz.func105, Tryz.ntmps105
 go_wp2_with (first
  | (refine wpList_load_row rfl 139 _ rfl w.heap.size rfl 139 arr (0, 0) _ hbox Tryz.underlying139 rfl (by rw [hasz]; exact info_len) ?_)
  | (go_at_call 157; fail))
 refine hby.mono ?_
 rintro e w2 ⟨vc, rfl, hoc, hk2⟩
 clear hby
 have hs2 : w.heap.size + 1 ≤ w2.heap.size := by have := hk2.size; simpa using this
 have hbox2 := hk2.row hbox id
 have hvc : ∀ j, vc.ownBlock = some j → w.heap.size < j ∧ j < w2.heap.size := fun j hj => by have := hoc.lt j hj; simp at this; omega
 have ho2 : w2.ownsRow base 5 1 v n (Hm.bcells l) := (((Kept.refl (fun _ => False) w).alloc _).trans hk2 (fun _ _ h => h)).owns ho (fun _ _ h => h)
 have hkw2 : Kept (fun j => v.ownBlock = some j) w w2 := (((Kept.refl (fun _ => False) w).alloc _).trans hk2 (fun _ _ h => h)).wider (fun _ _ h => h.elim)
 obtain ⟨ac, cc, hvce, hcc⟩ := slice_shape hoc
 subst hvce
 have han := addNumber_any base v n C.length 2 l w2 ho2 (by omega) (by omega) (by omega) (by omega)
 clear hbox hk2 ho
 go_wp2_with (first | (go_at_call 101; fail))
 refine han.mono ?_
 rintro e w3 ⟨v3, rfl, ho3, hk3, hm3⟩
 clear han
 have hbox3 := hk3.row hbox2 (fun e => by have := hv0 _ e; omega)
 have hoc3 := hk3.owns hoc (fun j hj e => by have := hv0 _ e; have := hvc j hj; omega)
 go_wp2
 go_loopw [0, 16] (fun u i wr => ∃ k : Nat, k ≤ C.length ∧ i = .int .i64 k ∧ wr.ownsRow base 5 1 u (n + 2 + 2 * k) (Hm.bcells (l ++ Hm.leBytes C.length 2 ++ Hm.lenBytes L (C.take k))) ∧ Kept (fun j => v.ownBlock = some j) w2 wr ∧ Moved w2 v u) (fun _ i _ => C.length - (intOf i).toNat)
 case atStart => exact ⟨0, Nat.zero_le _, rfl, by simpa [Hm.lenBytes] using ho3, hk3, hm3⟩
 case round =>
  clear ho3 hk3 hm3 hbox3 hoc3 ho2
  obtain ⟨k, hk, rfl, hor, hkr, hmr⟩ := hrel
  have hocr := hkr.owns hoc (fun j hj e => by have := hv0 _ e; have := hvc j hj; omega)
  have hboxr := hkr.row hbox2 (fun e => by have := hv0 _ e; omega)
  by_cases hlt : k < C.length
  ·obtain ⟨g, cap, hv, _, hgw⟩ := owns_some hocr (by omega)
   simp only [Value.slice.injEq] at hv
   obtain ⟨hac, _, hcap⟩ := hv
   subst hac
   subst hcap
   have hck : wr.cell? ⟨g, k, none⟩ = some (.int .u8 (C[k].toNat : Nat)) := by
    rw [hocr.cellAt k (by omega)]
    simp [Hm.bcells, hlt]
   have HT : Hid (Hm.lenBytes L (C.take (k + 1)) = Hm.lenBytes L (C.take k) ++ [C[k], UInt8.ofNat (L.getD C[k].toNat 0)]) := Hm.lenBytes_take L C k hlt
   have hb256 : C[k].toNat < 256 := C[k].toNat_lt
   have hcb := hcell wr hboxr C[k].toNat hb256
   have hgb := hgx C[k].toNat hb256
   generalize hCk : C[k] = ck at *
   generalize hLk : L.getD ck.toNat 0 = x at *
   generalize hcn : ck.toNat = cn at *
   have HC : Hid (ck.toNat = cn) := hcn
   have hdec : decide ((k : Int) < (C.length : Int)) = true := by simp; omega
   clear hocr hboxr hcell hgx hoc hbox2 hcn hLk hCk
   go_wp2_with (at_builtin; refine wpList_append_mv _ rfl (.tmp 20) (.tmp 26) 79 rfl base 5 i0 (.int .u8 0) 1 1 Tryz.underlying79 hi hz0 hz1 hz2 rfl (by decide) _ _ _ rfl (hor.alloc _) ⟨wr.heap.size, 0, none⟩ 2 2 [.int .u8 (cn : Nat), .int .u8 (x : Nat)] rfl rfl ?c1 ?c2 ?c3 ?c4 ?c5 ?_)
   case c1 => exact cell_two_new _ _ _ _
   case c2 => first | exact ⟨rfl, rfl⟩ | (intro u hu; simp at hu; rcases hu with rfl | rfl <;> rfl)
   case c3 => unfold maxLen; omega
   case c4 => omega
   case c5 => have := hkr.size; simp; omega
   intro v' w5 ho5 hg5 hm5
   have hk5 : Kept (fun j => v.ownBlock = some j) w2 w5 := (hkr.alloc _).grown hg5 (fun j hj => (hmr j hj).elim (fun h => .inr h) .inl)
   have hmv5 : Moved w2 v v' := hmr.trans hm5 (by have := hkr.size; simp; omega)
   clear hg5 hm5 hor hkr hmr
   go_wp2
   go_roundw
   case rel =>
    refine ⟨k + 1, by omega, by go_num, ?_, hk5, hmv5⟩
    have e : Hm.bcells (l ++ Hm.leBytes C.length 2 ++ Hm.lenBytes L (C.take (k + 1))) = Hm.bcells (l ++ Hm.leBytes C.length 2 ++ Hm.lenBytes L (C.take k)) ++ [.int .u8 (cn : Nat), .int .u8 (x : Nat)] := by
     rw [HT.out, ← List.append_assoc]
     unfold Hm.bcells
     rw [List.map_append (l₂ := [ck, UInt8.ofNat x]), List.map_cons, List.map_cons, List.map_nil, Hm.u8cell (by omega), HC.out]
    rw [e, show n + 2 + 2 * (k + 1) = n + 2 + 2 * k + 2 from by omega]; simpa [List.append_assoc] using ho5
   case measure => simp [intOf]; omega
  ·obtain rfl : k = C.length := by omega
   rw [List.take_length] at hor
   have hdec : decide ((C.length : Int) < (C.length : Int)) = false := by simp
   clear hcell hgx
   go_wp2
   go_ret
   refine ⟨_, rfl, hor, hkw2.trans hkr (fun _ _ h => h), fun j hj => ?_⟩
   rcases hmr j hj with h | h
   ·exact .inl h
   ·exact .inr (by omega)

end Go.Proofs.YtegnkfdbmmndaaaGreat
end

/- StabM -/
section
/- Rows that are turned about and merged, as plain arrays: what slices.SortStableFunc does to one. -/
namespace Go.Proofs.YtegnkfdbmmndaaaGreat
open Go.Sort
namespace Hm

/-- cf tells the order of the keys, where it is asked of what may stand on the left and on the right. -/
structure Ord (cf : UInt8 → UInt8 → Int) (key : UInt8 → Nat) (Rl : UInt8 → UInt8 → Prop) : Prop where
 lt : ∀ x y, Rl x y → (cf y x < 0 ↔ key y < key x)
 ne : ∀ x y, Rl x y → key x ≠ key y

def Srt (key : UInt8 → Nat) (d : Array UInt8) (a b : Nat) : Prop := ∀ i j, a ≤ i → i < j → j < b → key d[i]! < key d[j]!
def Mm (d : Array UInt8) (a b : Nat) (x : UInt8) : Prop := ∃ k, a ≤ k ∧ k < b ∧ d[k]! = x
def LR (Rl : UInt8 → UInt8 → Prop) (d : Array UInt8) (a m b : Nat) : Prop := ∀ i j, a ≤ i → i < m → m ≤ j → j < b → Rl d[i]! d[j]!
structure Same (d d' : Array UInt8) (a b : Nat) : Prop where
 size : d'.size = d.size
 out : ∀ k, (k < a ∨ b ≤ k) → d'[k]! = d[k]!
 mem : ∀ x, Mm d' a b x ↔ Mm d a b x
structure Swr (d d' : Array UInt8) (a b n : Nat) : Prop where
 size : d'.size = d.size
 out : ∀ k, (k < a ∨ (a + n ≤ k ∧ k < b) ∨ b + n ≤ k) → d'[k]! = d[k]!
 lo : ∀ k, a ≤ k → k < a + n → d'[k]! = d[k - a + b]!
 hi : ∀ k, b ≤ k → k < b + n → d'[k]! = d[k - b + a]!
structure Rot (d d' : Array UInt8) (a m b : Nat) : Prop where
 size : d'.size = d.size
 out : ∀ k, (k < a ∨ b ≤ k) → d'[k]! = d[k]!
 lo : ∀ k, a ≤ k → k < a + (b - m) → d'[k]! = d[k + (m - a)]!
 hi : ∀ k, a + (b - m) ≤ k → k < b → d'[k]! = d[k - (b - m)]!

theorem Same.refl (d : Array UInt8) (a b : Nat) : Same d d a b := ⟨rfl, fun _ _ => rfl, fun _ => Iff.rfl⟩
theorem Same.trans {d e f : Array UInt8} {a b : Nat} (h : Same d e a b) (k : Same e f a b) : Same d f a b :=
 ⟨k.size.trans h.size, fun i hi => (k.out i hi).trans (h.out i hi), fun x => (k.mem x).trans (h.mem x)⟩
/-- What is the same in a part is the same in the whole. -/
theorem Same.wider {d e : Array UInt8} {a b a' b' : Nat} (h : Same d e a b) (ha : a' ≤ a) (hb : b ≤ b') : Same d e a' b' := by
 refine ⟨h.size, fun k hk => h.out k (by omega), fun x => ⟨fun ⟨k, h1, h2, h3⟩ => ?_, fun ⟨k, h1, h2, h3⟩ => ?_⟩⟩
 ·by_cases hk : a ≤ k ∧ k < b
  ·obtain ⟨q, q1, q2, q3⟩ := (h.mem x).1 ⟨k, hk.1, hk.2, h3⟩
   exact ⟨q, by omega, by omega, q3⟩
  ·exact ⟨k, h1, h2, by rw [← h.out k (by omega)]; exact h3⟩
 ·by_cases hk : a ≤ k ∧ k < b
  ·obtain ⟨q, q1, q2, q3⟩ := (h.mem x).2 ⟨k, hk.1, hk.2, h3⟩
   exact ⟨q, by omega, by omega, q3⟩
  ·exact ⟨k, h1, h2, by rw [h.out k (by omega)]; exact h3⟩
theorem Srt.out {key : UInt8 → Nat} {d e : Array UInt8} {a b a' b' : Nat} (hs : Srt key d a' b') (h : Same d e a b) (hab : b' ≤ a ∨ b ≤ a') : Srt key e a' b' := fun i j h1 h2 h3 => by
 rw [h.out i (by omega), h.out j (by omega)]; exact hs i j h1 h2 h3
theorem Srt.one (key : UInt8 → Nat) (d : Array UInt8) (a b : Nat) (h : b ≤ a + 1) : Srt key d a b := fun i j h1 h2 h3 => by omega
theorem Srt.le {key : UInt8 → Nat} {d : Array UInt8} {a b i j : Nat} (hs : Srt key d a b) (h1 : a ≤ i) (h2 : i ≤ j) (h3 : j < b) : key d[i]! ≤ key d[j]! := by
 rcases Nat.lt_or_ge i j with h | h
 ·exact Nat.le_of_lt (hs i j h1 h h3)
 ·obtain rfl : i = j := by omega
  exact Nat.le_refl _

theorem Swr.zero (d : Array UInt8) (a b : Nat) : Swr d d a b 0 := ⟨rfl, fun _ _ => rfl, fun k h1 h2 => by omega, fun k h1 h2 => by omega⟩
theorem Swr.step {d e : Array UInt8} {a b n : Nat} (h : Swr d e a b n) (hab : a + n < b) (hs : b + n < d.size) : Swr d (swp e (a + n) (b + n)) a b (n + 1) := by
 have hsz := h.size
 have hl : (swp e (a + n) (b + n))[a + n]! = d[b + n]! := by rw [swp_left _ _ _ (by omega) (by omega)]; exact h.out _ (by omega)
 have hr : (swp e (a + n) (b + n))[b + n]! = d[a + n]! := by rw [swp_right _ _ _ (by omega)]; exact h.out _ (by omega)
 refine ⟨by rw [size_swp]; exact hsz, fun k hk => ?_, fun k h1 h2 => ?_, fun k h1 h2 => ?_⟩
 ·rw [swp_other _ _ _ _ (by omega) (by omega)]; exact h.out k (by omega)
 ·by_cases e1 : k = a + n
  ·subst e1; rw [hl]; congr 1; omega
  ·rw [swp_other _ _ _ _ (by omega) (by omega)]; exact h.lo k h1 (by omega)
 ·by_cases e1 : k = b + n
  ·subst e1; rw [hr]; congr 1; omega
  ·rw [swp_other _ _ _ _ (by omega) (by omega)]; exact h.hi k h1 (by omega)

theorem Rot.id_left (d : Array UInt8) (m b : Nat) (h : m ≤ b) : Rot d d m m b := ⟨rfl, fun _ _ => rfl, fun k h1 h2 => by congr 1; omega, fun k h1 h2 => by omega⟩
theorem Rot.id_right (d : Array UInt8) (a m : Nat) : Rot d d a m m := ⟨rfl, fun _ _ => rfl, fun k h1 h2 => by omega, fun k h1 h2 => by congr 1; omega⟩
theorem Rot.of_swr {d e : Array UInt8} {m i : Nat} (h : Swr d e (m - i) m i) (hi : i ≤ m) : Rot d e (m - i) m (m + i) := by
 refine ⟨h.size, fun k hk => h.out k (by omega), fun k h1 h2 => ?_, fun k h1 h2 => ?_⟩
 ·rw [h.lo k h1 (by omega)]; congr 1; omega
 ·rw [h.hi k (by omega) (by omega)]; congr 1; omega
/-- The longer part is on the left: so much of it as the right has is exchanged with the right. -/
theorem Rot.by_left {d e f : Array UInt8} {m i j : Nat} (h : Swr d e (m - i) m j) (hij : j < i) (hi : i ≤ m) (r : Rot e f (m - (i - j)) m (m + j)) : Rot d f (m - i) m (m + j) := by
 refine ⟨r.size.trans h.size, fun k hk => ?_, fun k h1 h2 => ?_, fun k h1 h2 => ?_⟩
 ·rw [r.out k (by omega)]; exact h.out k (by omega)
 ·rw [r.out k (by omega), h.lo k h1 (by omega)]; congr 1; omega
 ·by_cases h3 : k < m - (i - j) + j
  ·rw [r.lo k (by omega) (by omega), h.hi _ (by omega) (by omega)]; congr 1; omega
  ·rw [r.hi k (by omega) (by omega), h.out _ (by omega)]
theorem Rot.by_right {d e f : Array UInt8} {m i j : Nat} (h : Swr d e (m - i) (m + j - i) i) (hij : i < j) (hi : i ≤ m) (r : Rot e f (m - i) m (m + (j - i))) : Rot d f (m - i) m (m + j) := by
 refine ⟨r.size.trans h.size, fun k hk => ?_, fun k h1 h2 => ?_, fun k h1 h2 => ?_⟩
 ·rw [r.out k (by omega)]; exact h.out k (by omega)
 ·by_cases h3 : k < m - i + (j - i)
  ·rw [r.lo k (by omega) (by omega), h.out _ (by omega)]
  ·rw [r.hi k (by omega) (by omega), h.lo _ (by omega) (by omega)]; congr 1; omega
 ·rw [r.out k (by omega), h.hi k (by omega) (by omega)]; congr 1; omega

/-- A turn keeps what is there. -/
theorem Rot.same {d e : Array UInt8} {s m t : Nat} (r : Rot d e s m t) (h1 : s ≤ m) (h2 : m ≤ t) : Same d e s t := by
 refine ⟨r.size, r.out, fun x => ⟨fun ⟨k, k1, k2, k3⟩ => ?_, fun ⟨k, k1, k2, k3⟩ => ?_⟩⟩
 ·by_cases hk : k < s + (t - m)
  ·exact ⟨k + (m - s), by omega, by omega, by rw [← r.lo k k1 hk]; exact k3⟩
  ·exact ⟨k - (t - m), by omega, by omega, by rw [← r.hi k (by omega) k2]; exact k3⟩
 ·by_cases hk : k < m
  ·exact ⟨k + (t - m), by omega, by omega, by rw [r.hi _ (by omega) (by omega), show k + (t - m) - (t - m) = k from by omega]; exact k3⟩
  ·exact ⟨k - (m - s), by omega, by omega, by rw [r.lo _ (by omega) (by omega), show k - (m - s) + (m - s) = k from by omega]; exact k3⟩

/-- What the two halves are behind the turn. -/
structure Halves (key : UInt8 → Nat) (Rl : UInt8 → UInt8 → Prop) (d d1 : Array UInt8) (a s mid e b : Nat) : Prop where
 same : Same d d1 a b
 s1 : Srt key d1 a s
 s2 : Srt key d1 s mid
 lr1 : LR Rl d1 a s mid
 s3 : Srt key d1 mid e
 s4 : Srt key d1 e b
 lr2 : LR Rl d1 mid e b
 cross : ∀ i j, a ≤ i → i < mid → mid ≤ j → j < b → key d1[i]! < key d1[j]!

theorem Halves.of {key : UInt8 → Nat} {Rl : UInt8 → UInt8 → Prop} {d d1 : Array UInt8} {a m b s mid e : Nat} (hs1 : Srt key d a m) (hs2 : Srt key d m b) (hlr : LR Rl d a m b)
  (ha : a ≤ s) (hsm : s ≤ m) (hsd : s ≤ mid) (he : e + s = mid + m) (heb : e ≤ b)
  (H1 : ∀ i j, a ≤ i → i < s → e ≤ j → j < b → key d[i]! < key d[j]!) (H2 : ∀ i j, s ≤ i → i < m → m ≤ j → j < e → key d[j]! < key d[i]!) (r : Rot d d1 s m e) : Halves key Rl d d1 a s mid e b := by
 have lo : ∀ k, s ≤ k → k < mid → d1[k]! = d[k + (m - s)]! := fun k h1 h2 => r.lo k h1 (by omega)
 have hi : ∀ k, mid ≤ k → k < e → d1[k]! = d[k - (e - m)]! := fun k h1 h2 => r.hi k (by omega) h2
 refine ⟨(r.same hsm (by omega)).wider ha heb, fun i j h1 h2 h3 => ?_, fun i j h1 h2 h3 => ?_, fun i j h1 h2 h3 h4 => ?_, fun i j h1 h2 h3 => ?_, fun i j h1 h2 h3 => ?_, fun i j h1 h2 h3 h4 => ?_, fun i j h1 h2 h3 h4 => ?_⟩
 ·rw [r.out i (by omega), r.out j (by omega)]; exact hs1 i j h1 h2 (by omega)
 ·rw [lo i h1 (by omega), lo j (by omega) h3]; exact hs2 _ _ (by omega) (by omega) (by omega)
 ·rw [r.out i (by omega), lo j h3 h4]; exact hlr _ _ h1 (by omega) (by omega) (by omega)
 ·rw [hi i h1 (by omega), hi j (by omega) h3]; exact hs1 _ _ (by omega) (by omega) (by omega)
 ·rw [r.out i (by omega), r.out j (by omega)]; exact hs2 i j (by omega) h2 h3
 ·rw [hi i h1 h2, r.out j (by omega)]; exact hlr _ _ (by omega) (by omega) (by omega) h4
 ·by_cases c1 : i < s
  ·rw [r.out i (by omega)]
   by_cases c2 : j < e
   ·rw [hi j h3 c2]; exact hs1 _ _ h1 (by omega) (by omega)
   ·rw [r.out j (by omega)]; exact H1 i j h1 c1 (by omega) h4
  ·rw [lo i (by omega) h2]
   by_cases c2 : j < e
   ·rw [hi j h3 c2]; exact H2 _ _ (by omega) (by omega) (by omega) (by omega)
   ·rw [r.out j (by omega)]; exact hs2 _ _ (by omega) (by omega) h4

/-- Both halves are put in order. -/
theorem Halves.done {key : UInt8 → Nat} {Rl : UInt8 → UInt8 → Prop} {d d1 d2 d3 : Array UInt8} {a s mid e b : Nat} (h : Halves key Rl d d1 a s mid e b) (hm : a ≤ mid) (hb : mid ≤ b)
  (h2 : Same d1 d2 a mid) (k2 : Srt key d2 a mid) (h3 : Same d2 d3 mid b) (k3 : Srt key d3 mid b) : Same d d3 a b ∧ Srt key d3 a b := by
 refine ⟨h.same.trans ((h2.wider (Nat.le_refl _) hb).trans (h3.wider hm (Nat.le_refl _))), fun i j h4 h5 h6 => ?_⟩
 by_cases c1 : j < mid
 ·rw [h3.out i (by omega), h3.out j (by omega)]; exact k2 i j h4 h5 c1
 by_cases c2 : mid ≤ i
 ·exact k3 i j c2 h5 h6
 ·obtain ⟨q, q1, q2, q3⟩ := (h2.mem _).1 ⟨i, h4, by omega, rfl⟩
  obtain ⟨p, p1, p2, p3⟩ := (h3.mem _).1 ⟨j, by omega, h6, rfl⟩
  rw [h3.out i (by omega), ← q3, ← p3, h2.out p (by omega)]
  exact h.cross q p q1 q2 p1 p2
theorem Srt.whole {key : UInt8 → Nat} {d : Array UInt8} {a s b : Nat} (h1 : Srt key d a s) (h2 : Srt key d s b) (hs : s ≤ a ∨ b ≤ s) : Srt key d a b := fun i j k1 k2 k3 => by
 rcases hs with h | h
 ·exact h2 i j (by omega) k2 k3
 ·exact h1 i j k1 k2 (by omega)
theorem LR.out {Rl : UInt8 → UInt8 → Prop} {d e : Array UInt8} {a b a' m' b' : Nat} (hs : LR Rl d a' m' b') (h : Same d e a b) (hab : b' ≤ a ∨ b ≤ a') : LR Rl e a' m' b' := fun i j h1 h2 h3 h4 => by
 rw [h.out i (by omega), h.out j (by omega)]; exact hs i j h1 h2 h3 h4

/-! The search for where the turn begins. -/
structure Seek (key : UInt8 → Nat) (d : Array UInt8) (p s0 r0 s r : Nat) : Prop where
 b1 : s0 ≤ s
 b2 : s ≤ r
 b3 : r ≤ r0
 lo : ∀ c, s0 ≤ c → c < s → key d[c]! < key d[p - c]!
 hi : ∀ c, r ≤ c → c < r0 → key d[p - c]! < key d[c]!
theorem Seek.start {key : UInt8 → Nat} {d : Array UInt8} {p s0 r0 : Nat} (h : s0 ≤ r0) : Seek key d p s0 r0 s0 r0 := ⟨Nat.le_refl _, h, Nat.le_refl _, fun c h1 h2 => by omega, fun c h1 h2 => by omega⟩
theorem Seek.up {key : UInt8 → Nat} {d : Array UInt8} {a m b p s0 r0 s r c : Nat} (h : Seek key d p s0 r0 s r) (hs1 : Srt key d a m) (hs2 : Srt key d m b) (h0 : a ≤ s0) (h1 : r0 ≤ m) (h2 : m + r0 ≤ p + 1) (h3 : p < b + s0) (hc : s ≤ c) (hr : c < r)
  (hk : key d[c]! < key d[p - c]!) : Seek key d p s0 r0 (c + 1) r := by
 refine ⟨by have := h.b1; omega, by omega, h.b3, fun c' h4 h5 => ?_, h.hi⟩
 have := h.b3; have := h.b1
 exact Nat.lt_of_le_of_lt (hs1.le (i := c') (j := c) (by omega) (by omega) (by omega)) (Nat.lt_of_lt_of_le hk (hs2.le (i := p - c) (j := p - c') (by omega) (by omega) (by omega)))
theorem Seek.down {key : UInt8 → Nat} {d : Array UInt8} {a m b p s0 r0 s r c : Nat} (h : Seek key d p s0 r0 s r) (hs1 : Srt key d a m) (hs2 : Srt key d m b) (h0 : a ≤ s0) (h1 : r0 ≤ m) (h2 : m + r0 ≤ p + 1) (h3 : p < b + s0) (hc : s ≤ c) (hr : c < r)
  (hk : key d[p - c]! < key d[c]!) : Seek key d p s0 r0 s c := by
 refine ⟨h.b1, hc, by have := h.b3; omega, h.lo, fun c' h4 h5 => ?_⟩
 have := h.b3; have := h.b1
 exact Nat.lt_of_le_of_lt (hs2.le (i := p - c') (j := p - c) (by omega) (by omega) (by omega)) (Nat.lt_of_lt_of_le hk (hs1.le (i := c) (j := c') (by omega) (by omega) (by omega)))
/-- What stands found: the turn's two conditions. -/
theorem Seek.found {key : UInt8 → Nat} {d : Array UInt8} {a m b mid s0 r0 s : Nat} (h : Seek key d (mid + m - 1) s0 r0 s s) (hs1 : Srt key d a m) (hs2 : Srt key d m b) (h0 : a ≤ s0) (h1 : r0 ≤ m) (hmid : mid < b) (hr : r0 ≤ mid) (hs0 : s0 = a ∨ s0 + b = mid + m) (hr0 : r0 = m ∨ r0 = mid) (hsb : mid + m ≤ b + s0) :
  (∀ i j, a ≤ i → i < s → mid + m - s ≤ j → j < b → key d[i]! < key d[j]!) ∧ (∀ i j, s ≤ i → i < m → m ≤ j → j < mid + m - s → key d[j]! < key d[i]!) := by
 have hb1 := h.b1; have hb3 := h.b3
 refine ⟨fun i j h4 h5 h6 h7 => ?_, fun i j h4 h5 h6 h7 => ?_⟩
 ·have hk := h.lo (s - 1) (by omega) (by omega)
  exact Nat.lt_of_le_of_lt (hs1.le (i := i) (j := s - 1) h4 (by omega) (by omega)) (Nat.lt_of_lt_of_le hk (hs2.le (i := mid + m - 1 - (s - 1)) (j := j) (by omega) (by omega) h7))
 ·have hk := h.hi s (Nat.le_refl _) (by omega)
  exact Nat.lt_of_le_of_lt (hs2.le (i := j) (j := mid + m - 1 - s) h6 (by omega) (by omega)) (Nat.lt_of_lt_of_le hk (hs1.le (i := s) (j := i) (by omega) (by omega) h5))

/-! One element is put where it belongs. -/
structure Seek1 (key : UInt8 → Nat) (d : Array UInt8) (m b x i j : Nat) : Prop where
 b1 : m ≤ i
 b2 : i ≤ j
 b3 : j ≤ b
 lo : ∀ c, m ≤ c → c < i → key d[c]! < x
 hi : ∀ c, j ≤ c → c < b → x < key d[c]!
theorem Seek1.start {key : UInt8 → Nat} {d : Array UInt8} {m b x : Nat} (h : m ≤ b) : Seek1 key d m b x m b := ⟨Nat.le_refl _, h, Nat.le_refl _, fun c h1 h2 => by omega, fun c h1 h2 => by omega⟩
theorem Seek1.up {key : UInt8 → Nat} {d : Array UInt8} {m b x i j c : Nat} (h : Seek1 key d m b x i j) (hs : Srt key d m b) (hc : i ≤ c) (hj : c < j) (hk : key d[c]! < x) : Seek1 key d m b x (c + 1) j :=
 ⟨by have := h.b1; omega, by omega, h.b3, fun c' h4 h5 => Nat.lt_of_le_of_lt (hs.le (i := c') (j := c) h4 (by omega) (by have := h.b3; omega)) hk, h.hi⟩
theorem Seek1.down {key : UInt8 → Nat} {d : Array UInt8} {m b x i j c : Nat} (h : Seek1 key d m b x i j) (hs : Srt key d m b) (hc : i ≤ c) (hj : c < j) (hk : x < key d[c]!) : Seek1 key d m b x i c :=
 ⟨h.b1, hc, by have := h.b3; omega, h.lo, fun c' h4 h5 => Nat.lt_of_lt_of_le hk (hs.le (i := c) (j := c') (by have := h.b1; omega) h4 h5)⟩
/-- The left part is one element. -/
theorem merge_left {key : UInt8 → Nat} {d d1 : Array UInt8} {a b i : Nat} (h : Seek1 key d (a + 1) b (key d[a]!) i i) (hs : Srt key d (a + 1) b) (r : Rot d d1 a (a + 1) i) : Same d d1 a b ∧ Srt key d1 a b := by
 have hb1 := h.b1; have hb3 := h.b3
 refine ⟨(r.same (by omega) hb1).wider (Nat.le_refl _) hb3, fun p q h1 h2 h3 => ?_⟩
 have lo : ∀ k, a ≤ k → k + 1 < i → d1[k]! = d[k + 1]! := fun k h1 h2 => by rw [r.lo k h1 (by omega)]; congr 1; omega
 have hi : d1[i - 1]! = d[a]! := by rw [r.hi (i - 1) (by omega) (by omega)]; congr 1; omega
 by_cases c1 : p + 1 < i
 ·rw [lo p h1 c1]
  by_cases c2 : q + 1 < i
  ·rw [lo q (by omega) c2]; exact hs _ _ (by omega) (by omega) (by omega)
  ·by_cases c3 : q = i - 1
   ·rw [c3, hi]; exact h.lo _ (by omega) (by omega)
   ·rw [r.out q (by omega)]; exact hs _ _ (by omega) (by omega) h3
 ·by_cases c2 : p = i - 1
  ·rw [c2, hi, r.out q (by omega)]; exact h.hi q (by omega) h3
  ·rw [r.out p (by omega), r.out q (by omega)]; exact hs _ _ (by omega) h2 h3
/-- The right part is one element. -/
theorem merge_right {key : UInt8 → Nat} {d d1 : Array UInt8} {a m i : Nat} (h : Seek1 key d a m (key d[m]!) i i) (hs : Srt key d a m) (r : Rot d d1 i m (m + 1)) : Same d d1 a (m + 1) ∧ Srt key d1 a (m + 1) := by
 have hb1 := h.b1; have hb3 := h.b3
 refine ⟨(r.same hb3 (by omega)).wider hb1 (Nat.le_refl _), fun p q h1 h2 h3 => ?_⟩
 have lo : d1[i]! = d[m]! := by rw [r.lo i (Nat.le_refl _) (by omega)]; congr 1; omega
 have hi : ∀ k, i < k → k < m + 1 → d1[k]! = d[k - 1]! := fun k h1 h2 => by rw [r.hi k (by omega) h2]; congr 1; omega
 by_cases c1 : p < i
 ·rw [r.out p (by omega)]
  by_cases c2 : q < i
  ·rw [r.out q (by omega)]; exact hs _ _ h1 h2 (by omega)
  ·by_cases c3 : q = i
   ·rw [c3, lo]; exact h.lo p h1 c1
   ·rw [hi q (by omega) h3]; exact hs _ _ h1 (by omega) (by omega)
 ·by_cases c2 : p = i
  ·rw [c2, lo, hi q (by omega) h3]; exact h.hi _ (by omega) (by omega)
  ·rw [hi p (by omega) (by omega), hi q (by omega) h3]; exact hs _ _ (by omega) (by omega) (by omega)
/-- A turn by one, step by step: to the right .. -/
theorem Rot.right_step {d e : Array UInt8} {a i : Nat} (r : Rot d e a (a + 1) (i + 1)) (hi : i + 1 < d.size) (ha : a ≤ i) : Rot d (swp e i (i + 1)) a (a + 1) (i + 2) := by
 have hsz := r.size
 have e1 : e[i]! = d[a]! := by rw [r.hi i (by omega) (by omega)]; congr 1; omega
 have e2 : e[i + 1]! = d[i + 1]! := r.out _ (by omega)
 refine ⟨by rw [size_swp]; exact hsz, fun k hk => ?_, fun k h1 h2 => ?_, fun k h1 h2 => ?_⟩
 ·rw [swp_other _ _ _ _ (by omega) (by omega)]; exact r.out k (by omega)
 ·by_cases c : k = i
  ·subst c; rw [swp_left _ _ _ (by omega) (by omega), e2]; congr 1; omega
  ·rw [swp_other _ _ _ _ (by omega) (by omega), r.lo k h1 (by omega)]
 ·obtain rfl : k = i + 1 := by omega
  rw [swp_right _ _ _ (by omega), e1]; congr 1; omega
/-- .. and to the left. -/
theorem Rot.left_step {d e : Array UInt8} {m i : Nat} (r : Rot d e (i + 1) m (m + 1)) (hm : m < d.size) (hi : i < m) : Rot d (swp e (i + 1) i) i m (m + 1) := by
 have hsz := r.size
 have e1 : e[i + 1]! = d[m]! := by rw [r.lo (i + 1) (Nat.le_refl _) (by omega)]; congr 1; omega
 have e2 : e[i]! = d[i]! := r.out _ (by omega)
 refine ⟨by rw [size_swp]; exact hsz, fun k hk => ?_, fun k h1 h2 => ?_, fun k h1 h2 => ?_⟩
 ·rw [swp_other _ _ _ _ (by omega) (by omega)]; exact r.out k (by omega)
 ·obtain rfl : k = i := by omega
  rw [swp_right _ _ _ (by omega), e1]; congr 1; omega
 ·by_cases c : k = i + 1
  ·subst c; rw [swp_left _ _ _ (by omega) (by omega), e2]; congr 1; omega
  ·rw [swp_other _ _ _ _ (by omega) (by omega), r.hi k (by omega) h2]

/-! The sort by insertion. -/
/-- Ahead of i the row is sorted; what stands at i is on its way to its place, now at j. -/
structure Ins (key : UInt8 → Nat) (d e : Array UInt8) (a i j : Nat) : Prop where
 b1 : a ≤ j
 b2 : j ≤ i
 rot : Rot d e j i (i + 1)
 hi : ∀ c, j ≤ c → c < i → key d[i]! < key d[c]!
theorem Ins.start (key : UInt8 → Nat) (d : Array UInt8) (a i : Nat) (h : a ≤ i) : Ins key d d a i i := ⟨h, Nat.le_refl _, Rot.id_left d i (i + 1) (by omega), fun c h1 h2 => by omega⟩
theorem Ins.step {key : UInt8 → Nat} {d e : Array UInt8} {a i j : Nat} (h : Ins key d e a i (j + 1)) (hj : a ≤ j) (hi : i < d.size) (hk : key e[j + 1]! < key e[j]!) : Ins key d (swp e (j + 1) j) a i j := by
 have hb2 := h.b2
 have e1 : e[j + 1]! = d[i]! := by rw [h.rot.lo (j + 1) (Nat.le_refl _) (by omega)]; congr 1; omega
 have e2 : e[j]! = d[j]! := h.rot.out _ (by omega)
 refine ⟨hj, by omega, Rot.left_step h.rot hi (by omega), fun c h1 h2 => ?_⟩
 by_cases c1 : c = j
 ·subst c1; rw [e1, e2] at hk; exact hk
 ·exact h.hi c (by omega) h2
theorem Ins.done {key : UInt8 → Nat} {d e : Array UInt8} {a i j : Nat} (h : Ins key d e a i j) (hs : Srt key d a i) (hk : j = a ∨ (a < j ∧ key e[j - 1]! < key e[j]!)) : Same d e a (i + 1) ∧ Srt key e a (i + 1) := by
 have hb1 := h.b1; have hb2 := h.b2
 refine merge_right (i := j) ⟨hb1, Nat.le_refl _, hb2, fun c h1 h2 => ?_, h.hi⟩ hs h.rot
 rcases hk with hk | ⟨hk1, hk2⟩
 ·omega
 ·have e1 : e[j]! = d[i]! := by rw [h.rot.lo j (Nat.le_refl _) (by omega)]; congr 1; omega
  have e2 : e[j - 1]! = d[j - 1]! := h.rot.out _ (by omega)
  rw [e1, e2] at hk2
  exact Nat.lt_of_le_of_lt (hs.le (i := c) (j := j - 1) h1 (by omega) (by omega)) hk2

/-! Blocks, and the whole. -/
structure Good (key : UInt8 → Nat) (d0 d : Array UInt8) (a b : Nat) : Prop where
 mem : ∀ x, Mm d a b x ↔ Mm d0 a b x
 srt : Srt key d a b
theorem Good.none (key : UInt8 → Nat) (d0 d : Array UInt8) (a : Nat) : Good key d0 d a a := ⟨fun x => ⟨fun ⟨k, h1, h2, _⟩ => by omega, fun ⟨k, h1, h2, _⟩ => by omega⟩, Srt.one _ _ _ _ (by omega)⟩
theorem Good.agree {key : UInt8 → Nat} {d0 d e : Array UInt8} {a b : Nat} (h : Good key d0 d a b) (he : ∀ k, a ≤ k → k < b → e[k]! = d[k]!) : Good key d0 e a b := by
 refine ⟨fun x => ⟨fun ⟨k, h1, h2, h3⟩ => (h.mem x).1 ⟨k, h1, h2, by rw [← he k h1 h2]; exact h3⟩, fun hx => ?_⟩, fun i j h1 h2 h3 => ?_⟩
 ·obtain ⟨k, h1, h2, h3⟩ := (h.mem x).2 hx
  exact ⟨k, h1, h2, by rw [he k h1 h2]; exact h3⟩
 ·rw [he i h1 (by omega), he j (by omega) h3]; exact h.srt i j h1 h2 h3
theorem Good.lr {key : UInt8 → Nat} {Rl : UInt8 → UInt8 → Prop} {d0 d : Array UInt8} {a m b n : Nat} (h : Good key d0 d a m) (k : Good key d0 d m b) (hp : ∀ i j, i < j → j < n → Rl d0[i]! d0[j]!) (hb : b ≤ n) : LR Rl d a m b := fun i j h1 h2 h3 h4 => by
 obtain ⟨p, p1, p2, p3⟩ := (h.mem _).1 ⟨i, h1, h2, rfl⟩
 obtain ⟨q, q1, q2, q3⟩ := (k.mem _).1 ⟨j, h3, h4, rfl⟩
 rw [← p3, ← q3]; exact hp p q (by omega) (by omega)
theorem mm_split (d : Array UInt8) (a m b : Nat) (h1 : a ≤ m) (h2 : m ≤ b) (x : UInt8) : Mm d a b x ↔ Mm d a m x ∨ Mm d m b x :=
 ⟨fun ⟨k, k1, k2, k3⟩ => by
  by_cases h : k < m
  ·exact .inl ⟨k, k1, h, k3⟩
  ·exact .inr ⟨k, by omega, k2, k3⟩, fun h => by
  rcases h with ⟨k, k1, k2, k3⟩ | ⟨k, k1, k2, k3⟩
  ·exact ⟨k, k1, by omega, k3⟩
  ·exact ⟨k, by omega, k2, k3⟩⟩
/-- Two blocks that follow one another are merged. -/
theorem Good.merged {key : UInt8 → Nat} {d0 d e : Array UInt8} {a m b : Nat} (h : Good key d0 d a m) (k : Good key d0 d m b) (h1 : a ≤ m) (h2 : m ≤ b) (hs : Same d e a b) (hk : Srt key e a b) : Good key d0 e a b :=
 ⟨fun x => by rw [hs.mem, mm_split d a m b h1 h2, mm_split d0 a m b h1 h2, h.mem, k.mem], hk⟩
/-- From a on the row up to n is blocks of bs, the last one may be shorter. -/
inductive Blocks (key : UInt8 → Nat) (d0 d : Array UInt8) (n bs : Nat) : Nat → Prop
 | last (a : Nat) (h1 : n ≤ a + bs) (h2 : a ≤ n) (g : Good key d0 d a n) : Blocks key d0 d n bs a
 | more (a : Nat) (h1 : a + bs ≤ n) (g : Good key d0 d a (a + bs)) (r : Blocks key d0 d n bs (a + bs)) : Blocks key d0 d n bs a
theorem Blocks.agree {key : UInt8 → Nat} {d0 d e : Array UInt8} {n bs a : Nat} (h : Blocks key d0 d n bs a) (he : ∀ k, a ≤ k → k < n → e[k]! = d[k]!) : Blocks key d0 e n bs a := by
 induction h with
 | last a h1 h2 g => exact .last a h1 h2 (g.agree he)
 | more a h1 g r ih => exact .more a h1 (g.agree fun k k1 k2 => he k k1 (by omega)) (ih fun k k1 k2 => he k (by omega) k2)
/-- What stands ahead of a is done, whatever follows. -/
def Ahead (key : UInt8 → Nat) (d0 d : Array UInt8) (n bs a : Nat) : Prop := ∀ e : Array UInt8, (∀ k, k < a → e[k]! = d[k]!) → Blocks key d0 e n bs a → Blocks key d0 e n bs 0
theorem Ahead.none (key : UInt8 → Nat) (d0 d : Array UInt8) (n bs : Nat) : Ahead key d0 d n bs 0 := fun _ _ h => h
theorem Ahead.step {key : UInt8 → Nat} {d0 d e : Array UInt8} {n bs a : Nat} (h : Ahead key d0 d n bs a) (hs : Same d e a (a + bs)) (hb : a + bs ≤ n) (g : Good key d0 e a (a + bs)) : Ahead key d0 e n bs (a + bs) := fun f hf hr =>
 h f (fun k hk => by rw [hf k (by omega), hs.out k (by omega)]) (.more a hb (g.agree fun k k1 k2 => hf k k2) hr)
theorem Ahead.all {key : UInt8 → Nat} {d0 d : Array UInt8} {n bs a : Nat} (h : Ahead key d0 d n bs a) (hb : Blocks key d0 d n bs a) : Blocks key d0 d n bs 0 := h d (fun _ _ => rfl) hb
theorem Blocks.whole {key : UInt8 → Nat} {d0 d : Array UInt8} {n bs : Nat} (h : Blocks key d0 d n bs 0) (hb : n ≤ bs) : Good key d0 d 0 n := by
 cases h with
 | last _ _ _ g => exact g
 | more _ h1 g _ =>
  obtain rfl : bs = n := by omega
  simpa using g
/-- Two blocks stand ahead of b. -/
theorem Blocks.two {key : UInt8 → Nat} {d0 d : Array UInt8} {n bs a : Nat} (h : Blocks key d0 d n bs a) (h0 : 0 < bs) (hb : a + 2 * bs ≤ n) : Good key d0 d a (a + bs) ∧ Good key d0 d (a + bs) (a + 2 * bs) ∧ Blocks key d0 d n bs (a + 2 * bs) := by
 cases h with
 | last _ h1 _ _ => omega
 | more _ h1 g r =>
  cases r with
  | last _ h2 h3 g2 =>
   obtain rfl : n = a + 2 * bs := by omega
   exact ⟨g, g2, .last _ (by omega) (Nat.le_refl _) (Good.none ..)⟩
  | more _ h2 g2 r2 =>
   have e : a + bs + bs = a + 2 * bs := by omega
   rw [e] at g2 r2
   exact ⟨g, g2, r2⟩
/-- One block and a shorter one are left. -/
theorem Blocks.rest {key : UInt8 → Nat} {d0 d : Array UInt8} {n bs a : Nat} (h : Blocks key d0 d n bs a) (hm : a + bs < n) (hb : n < a + 2 * bs) : Good key d0 d a (a + bs) ∧ Good key d0 d (a + bs) n := by
 cases h with
 | last _ h1 _ _ => omega
 | more _ h1 g r =>
  cases r with
  | last _ h2 h3 g2 => exact ⟨g, g2⟩
  | more _ h2 g2 r2 => omega
theorem Blocks.one {key : UInt8 → Nat} {d0 d : Array UInt8} {n bs a : Nat} (h : Blocks key d0 d n bs a) (hm : n ≤ a + bs) (ha : a ≤ n) : Blocks key d0 d n (2 * bs) a := by
 cases h with
 | last _ h1 _ g => exact .last _ (by omega) ha g
 | more _ h1 g r =>
  obtain rfl : n = a + bs := by omega
  exact .last _ (by omega) ha g

end Hm
end Go.Proofs.YtegnkfdbmmndaaaGreat
end

/- Pairs -/
section
/- Rows of pairs that a call has made; ranks that are paired up. -/
namespace Go.Proofs.YtegnkfdbmmndaaaGreat
open Go.RowKit

theorem info_pair : (Tryz.prog.info? 210).map (fun i => (i.zero, i.size, i.bytes)) = some (some (.agg #[.int .i64 0, .int .i64 0]), 2, 16) := by kernel_rfl

def pcells : List (Nat × Nat) → List Value
 | [] => []
 | p :: r => .int .i64 (p.1 : Nat) :: .int .i64 (p.2 : Nat) :: pcells r
theorem pcells_length (l : List (Nat × Nat)) : (pcells l).length = l.length * 2 := by
 induction l with
 | nil => rfl
 | cons p r ih => simp [pcells, ih]; omega
theorem pcells_fst (l : List (Nat × Nat)) : ∀ i, (h : i < l.length) → (pcells l)[i * 2]? = some (.int .i64 (l[i].1 : Nat)) := by
 induction l with
 | nil => intro i h; simp at h
 | cons p r ih =>
  intro i h
  cases i with
  | zero => rfl
  | succ i =>
   have := ih i (by simpa using h)
   rw [show (i + 1) * 2 = i * 2 + 1 + 1 from by omega]
   simpa [pcells] using this
theorem pcells_snd (l : List (Nat × Nat)) : ∀ i, (h : i < l.length) → (pcells l)[i * 2 + 1]? = some (.int .i64 (l[i].2 : Nat)) := by
 induction l with
 | nil => intro i h; simp at h
 | cons p r ih =>
  intro i h
  cases i with
  | zero => rfl
  | succ i =>
   have := ih i (by simpa using h)
   rw [show (i + 1) * 2 + 1 = i * 2 + 1 + 1 + 1 from by omega]
   simpa [pcells] using this
theorem pcells_set1 (l : List (Nat × Nat)) (x : Nat) : ∀ i, (h : i < l.length) → (pcells l).set (i * 2) (.int .i64 (x : Nat)) = pcells (l.set i (x, l[i].2)) := by
 induction l with
 | nil => intro i h; simp at h
 | cons p r ih =>
  intro i h
  cases i with
  | zero => rfl
  | succ i =>
   have := ih i (by simpa using h)
   rw [show (i + 1) * 2 = i * 2 + 1 + 1 from by omega]
   simp [pcells, this]
theorem pcells_set2 (l : List (Nat × Nat)) (x : Nat) : ∀ i, (h : i < l.length) → (pcells l).set (i * 2 + 1) (.int .i64 (x : Nat)) = pcells (l.set i (l[i].1, x)) := by
 induction l with
 | nil => intro i h; simp at h
 | cons p r ih =>
  intro i h
  cases i with
  | zero => rfl
  | succ i =>
   have := ih i (by simpa using h)
   rw [show (i + 1) * 2 + 1 = i * 2 + 1 + 1 + 1 from by omega]
   simp [pcells, this]
/-- Block g is a row of these pairs. -/
def PairRow (w : World) (g : Nat) (l : List (Nat × Nat)) : Prop := w.heap[g]? = some (.cells (pcells l).toArray 210 (0, 0))
theorem PairRow.fst {w : World} {g : Nat} {l : List (Nat × Nat)} (h : PairRow w g l) {i : Nat} (hi : i < l.length) : w.cell? ⟨g, i * 2, none⟩ = some (.int .i64 (l[i].1 : Nat)) := by
 rw [cell_of_row _ _ _ _ _ _ h]; simpa using pcells_fst l i hi
theorem PairRow.snd {w : World} {g : Nat} {l : List (Nat × Nat)} (h : PairRow w g l) {i : Nat} (hi : i < l.length) : w.cell? ⟨g, i * 2 + 1, none⟩ = some (.int .i64 (l[i].2 : Nat)) := by
 rw [cell_of_row _ _ _ _ _ _ h]; simpa using pcells_snd l i hi
theorem PairRow.free {w : World} {g : Nat} {l : List (Nat × Nat)} (h : PairRow w g l) (i : Nat) : w.frozen? ⟨g, i, none⟩ = false := frozen_of_row _ _ i _ _ h
theorem PairRow.set1 {w : World} {g : Nat} {l : List (Nat × Nat)} (h : PairRow w g l) (i x : Nat) (hi : i < l.length) : PairRow (w.setCell ⟨g, i * 2, none⟩ (.int .i64 (x : Nat))) g (l.set i (x, l[i].2)) := by
 have h2 := heap_setCell_same w g (i * 2) _ _ (.int .i64 (x : Nat)) h
 unfold PairRow
 rw [h2, ← pcells_set1 l x i hi]
 congr 2
 apply Array.ext'
 simp
theorem PairRow.set2 {w : World} {g : Nat} {l : List (Nat × Nat)} (h : PairRow w g l) (i x : Nat) (hi : i < l.length) : PairRow (w.setCell ⟨g, i * 2 + 1, none⟩ (.int .i64 (x : Nat))) g (l.set i (l[i].1, x)) := by
 have h2 := heap_setCell_same w g (i * 2 + 1) _ _ (.int .i64 (x : Nat)) h
 unfold PairRow
 rw [h2, ← pcells_set2 l x i hi]
 congr 2
 apply Array.ext'
 simp
theorem PairRow.lt {w : World} {g : Nat} {l : List (Nat × Nat)} (h : PairRow w g l) : g < w.heap.size := lt_of_block h
theorem PairRow.kept {S : Nat → Prop} {w w' : World} {g : Nat} {l : List (Nat × Nat)} (h : PairRow w g l) (hk : Kept S w w') (hn : ¬ S g) : PairRow w' g l := hk.row h hn
theorem made_pairs (n : Nat) : (madeCells (Value.agg #[.int .i64 0, .int .i64 0]).cells (n * 2)).toList = pcells (List.replicate n (0, 0)) := by
 have hl : (pcells (List.replicate n (0, 0))).length = n * 2 := by rw [pcells_length]; simp
 apply List.ext_getElem
 ·rw [hl]; simp [madeCells]
 ·intro i h1 h2
  have hz : (Value.agg #[.int .i64 0, .int .i64 0]).cells = #[.int .i64 0, .int .i64 0] := rfl
  have e1 : (madeCells (Value.agg #[.int .i64 0, .int .i64 0]).cells (n * 2)).toList[i] = .int .i64 0 := by
   simp [madeCells, hz]
   rcases Nat.mod_two_eq_zero_or_one i with h | h <;> simp [h]
  rw [e1]
  have hil : i < n * 2 := by omega
  rcases Nat.mod_two_eq_zero_or_one i with h | h
  ·have h3 := pcells_fst (List.replicate n (0, 0)) (i / 2) (by simp; omega)
   rw [show i / 2 * 2 = i from by omega, List.getElem?_eq_getElem h2] at h3
   simp at h3; exact h3.symm
  ·have h3 := pcells_snd (List.replicate n (0, 0)) (i / 2) (by simp; omega)
   rw [show i / 2 * 2 + 1 = i from by omega, List.getElem?_eq_getElem h2] at h3
   simp at h3; exact h3.symm
theorem PairRow.made {w' : World} {g n : Nat} {base : Nat} (h : w'.ownsRow base 210 2 (.slice (some ⟨g, 0, none⟩) n n) n (madeCells (Value.agg #[.int .i64 0, .int .i64 0]).cells (n * 2)).toList) : PairRow w' g (List.replicate n (0, 0)) := by
 rcases h.2 with ⟨h1, _⟩ | ⟨g2, cap, cur, h1, _, hg, _, _, hs, ht⟩
 ·cases h1
 ·cases h1
  unfold PairRow
  rw [hg]
  congr 2
  apply Array.ext'
  have e : cur.toList.take (n * 2) = cur.toList := List.take_of_length_le (by simp; omega)
  rw [← e, ht, made_pairs]

namespace Hm
def pairOf (l : List Nat) (wd i : Nat) : Nat × Nat := (l.getD i 0, l.getD (i + wd) 0)
def pairsOf (l : List Nat) (wd : Nat) : List (Nat × Nat) := (List.range l.length).map (pairOf l wd)
def pairsTo (l : List Nat) (wd k : Nat) : List (Nat × Nat) := (List.range l.length).map fun i => if i < k then pairOf l wd i else (0, 0)
theorem pairsTo_length (l : List Nat) (wd k : Nat) : (pairsTo l wd k).length = l.length := by simp [pairsTo]
theorem pairsOf_length (l : List Nat) (wd : Nat) : (pairsOf l wd).length = l.length := by simp [pairsOf]
theorem pairsTo_zero (l : List Nat) (wd : Nat) : pairsTo l wd 0 = List.replicate l.length (0, 0) := by
 apply List.ext_getElem <;> simp [pairsTo]
theorem pairsTo_all (l : List Nat) (wd : Nat) : pairsTo l wd l.length = pairsOf l wd := by
 apply List.ext_getElem
 ·simp [pairsTo, pairsOf]
 ·intro i h1 h2
  have : i < l.length := by simpa [pairsTo] using h1
  simp [pairsTo, pairsOf, this]
theorem pairsTo_get (l : List Nat) (wd k i : Nat) (h : i < (pairsTo l wd k).length) : (pairsTo l wd k)[i] = if i < k then pairOf l wd i else (0, 0) := by simp [pairsTo]
theorem pairsTo_succ (l : List Nat) (wd k : Nat) (_h : k < l.length) : pairsTo l wd (k + 1) = (pairsTo l wd k).set k (pairOf l wd k) := by
 apply List.ext_getElem
 ·simp [pairsTo]
 ·intro i h1 h2
  rw [List.getElem_set, pairsTo_get, pairsTo_get]
  by_cases e : k = i
  ·subst e; simp
  ·rw [if_neg e]
   by_cases h3 : i < k
   ·rw [if_pos h3, if_pos (by omega)]
   ·rw [if_neg h3, if_neg (by omega)]
end Hm

set_option maxHeartbeats 1000000 in
theorem pairUp_any (g0 c : Nat) (l : List Nat) (wd : Nat) (w : World) (hr0 : IntRow w g0 l) (hl : l.length ≤ 6001) (hw : wd ≤ 6000) (hx : ∀ x ∈ l, x ≤ 1000000) :
  Calls Tryz.prog 133 #[.slice (some ⟨g0, 0, none⟩) l.length c, .int .i64 wd] w fun e w' => e = .returned (.slice (some ⟨w.heap.size, 0, none⟩) l.length l.length) ∧ PairRow w' w.heap.size (Hm.pairsOf l wd) ∧ Kept (fun _ => False) w w' := by
 obtain ⟨i0, hi, hz0, hz1, hz2⟩ := info_parts info_pair
 have hg0 := hr0.lt
 go_enter Tryz.func133, Tryz.ntmps133
 go_wp2_with (at_make; refine wpList_make_full _ rfl (.tmp 9) (.tmp 9) 206 rfl w.heap.size 210 i0 (.agg #[.int .i64 0, .int .i64 0]) 2 Tryz.underlying206 hi hz0 hz1 .i64 .i64 _ _ l.length rfl rfl rfl rfl (by rw [hz2]; omega) (by unfold maxLen; omega) (Nat.le_refl _) ?_; intro w1 ho1 hg1)
 have hr1 : PairRow w1 w.heap.size (Hm.pairsTo l wd 0) := by rw [Hm.pairsTo_zero]; exact PairRow.made ho1
 have hk1 : Kept (fun _ => False) w w1 := (Kept.refl _ _).grown hg1 (fun k hk => by cases hk)
 clear ho1 hg1
 go_loopw [13] (fun i wr => ∃ k : Nat, k ≤ l.length ∧ i = .int .i64 k ∧ PairRow wr w.heap.size (Hm.pairsTo l wd k) ∧ Kept (fun _ => False) w wr) (fun i _ => l.length - (intOf i).toNat)
 case atStart => exact ⟨0, Nat.zero_le _, rfl, hr1, hk1⟩
 case round =>
  clear hr1 hk1
  obtain ⟨k, hk, rfl, hr, hkr⟩ := hrel
  by_cases hlt : k < l.length
  ·have hlr := Hm.pairsTo_length l wd k
   have hc := (hr0.kept hkr id).cell hlt
   have hd1 := hr.fst (i := k) (by omega)
   have hd2 := hr.snd (i := k) (by omega)
   have hf1 := hr.free (k * 2)
   have hf2 := hr.free (k * 2 + 1)
   have hgz := Hm.pairsTo_get l wd k k (by omega)
   rw [if_neg (by omega)] at hgz
   rw [hgz] at hd1 hd2
   have HS := hr.set1 k l[k] (by omega)
   rw [hgz] at HS
   have hnq : ¬ g0 = w.heap.size := by omega
   by_cases hin : k + wd < l.length
   ·have hc2 := (hr0.kept hkr id).cell hin
    have HS2 := HS.set2 k l[k + wd] (by simp; omega)
    have e : ((Hm.pairsTo l wd k).set k (l[k], 0)).set k ((((Hm.pairsTo l wd k).set k (l[k], 0))[k]'(by simp; omega)).1, l[k + wd]) = Hm.pairsTo l wd (k + 1) := by
     rw [Hm.pairsTo_succ _ _ _ hlt]; simp [Hm.pairOf, hlt, hin]
    rw [e] at HS2
    have H2 : Hid (PairRow _ w.heap.size (Hm.pairsTo l wd (k + 1))) := HS2
    have hx1 := hx l[k] (List.getElem_mem _)
    have hx2 := hx l[k + wd] (List.getElem_mem _)
    generalize l[k] = x1 at *
    generalize l[k + wd] = x2 at *
    have hdec : decide ((k : Int) + (wd : Int) < (l.length : Int)) = true := by simp; omega
    clear HS HS2 hr hlr hgz e hr0 hx
    go_wp2
    go_roundw
    case rel => exact ⟨k + 1, by omega, by go_num, H2.out, (hkr.setCell (.inl (Nat.le_refl _)) _).setCell (.inl (Nat.le_refl _)) _⟩
    case measure => simp [intOf]; omega
   ·have e : (Hm.pairsTo l wd k).set k (l[k], 0) = Hm.pairsTo l wd (k + 1) := by
     rw [Hm.pairsTo_succ _ _ _ hlt]; simp [Hm.pairOf, hlt, hin]
    rw [e] at HS
    have H2 : Hid (PairRow _ w.heap.size (Hm.pairsTo l wd (k + 1))) := HS
    have hx1 := hx l[k] (List.getElem_mem _)
    generalize l[k] = x1 at *
    have hdec : decide ((k : Int) + (wd : Int) < (l.length : Int)) = false := by simp; omega
    clear HS hr hlr hgz e hr0 hx
    go_wp2
    go_roundw
    case rel => exact ⟨k + 1, by omega, by go_num, H2.out, hkr.setCell (.inl (Nat.le_refl _)) _⟩
    case measure => simp [intOf]; omega
  ·go_wp2
   go_ret
   obtain rfl : k = l.length := by omega
   rw [Hm.pairsTo_all] at hr
   exact ⟨rfl, hr, hkr⟩

end Go.Proofs.YtegnkfdbmmndaaaGreat
end
