import Derived.Test.YtegnkfdbmmndaaaGreatJ03
import Derived.Lib.BitFns
import Derived.Deep.Cut
import Derived.Deep.RegionHeld
import Derived.Test.YtegnkfdbmmndaaaGreatJ01
import Derived.Test.YtegnkfdbmmndaaaGreatJ00
import Derived.Lib.ConvBytes

/- Ends -/
section
/- The files' ends as a row of bits. -/
namespace Go.Proofs.YtegnkfdbmmndaaaGreat
open Go.RowKit

namespace Hm
def lowFrom (m n : Nat) : Nat → Nat → Nat
 | 0, j => j
 | f + 1, j => if m * 2 ^ (j + 1) ≤ n then lowFrom m n f (j + 1) else j
def lowW (m n : Nat) : Nat := if m = 0 then 0 else lowFrom m n 14 0
def endLow (es : List Nat) (l : Nat) : List Bool := es.flatMap fun e => numBits e l
def endSets (es : List Nat) (l h : Nat) (R : List Bool) : Nat → List Bool
 | 0 => R
 | k + 1 => (endSets es l h R k).set (h + es.getD k 0 / 2 ^ l + k) true
def endsBits (es : List Nat) (n : Nat) : List Bool :=
 endSets es (lowW es.length n) (endLow es (lowW es.length n)).length (endLow es (lowW es.length n) ++ List.replicate (es.length + n / 2 ^ lowW es.length n + 1) false) es.length
theorem endSets_length (es : List Nat) (l h : Nat) (R : List Bool) (k : Nat) : (endSets es l h R k).length = R.length := by
 induction k with
 | zero => rfl
 | succ k ih => simp [endSets, ih]
theorem endLow_length (es : List Nat) (l : Nat) : (endLow es l).length = es.length * l := by
 induction es with
 | nil => simp [endLow]
 | cons e r ih => simp only [endLow, List.flatMap_cons, List.length_append, numBits_length, List.length_cons] at ih ⊢; rw [ih, Nat.add_mul]; omega
theorem endLow_take (es : List Nat) (l k : Nat) (h : k < es.length) : endLow (es.take (k + 1)) l = endLow (es.take k) l ++ numBits es[k] l := by
 rw [List.take_succ_eq_append_getElem h]; unfold endLow; rw [List.flatMap_append]; congr 1; simp
theorem lowFrom_le (m n : Nat) (hm : 1 ≤ m) (hn : n ≤ 6000) : ∀ f j, j ≤ 12 → lowFrom m n f j ≤ 12 := by
 intro f
 induction f with
 | zero => intro j hj; exact hj
 | succ f ih =>
  intro j hj
  unfold lowFrom
  split
  ·rename_i h
   refine ih (j + 1) ?_
   rcases Nat.lt_or_ge j 12 with h1 | h1
   ·omega
   ·have : j = 12 := by omega
    subst this
    have : 1 * 2 ^ 13 ≤ m * 2 ^ 13 := Nat.mul_le_mul_right _ hm
    omega
  ·exact hj
theorem lowW_le (m n : Nat) (hn : n ≤ 6000) : lowW m n ≤ 12 := by
 unfold lowW; split
 ·omega
 ·exact lowFrom_le m n (by omega) hn 14 0 (by omega)
end Hm

set_option maxHeartbeats 400000 in
theorem lowWidth_any (m n : Nat) (w : World) (hm : m ≤ 1000) (hn : n ≤ 6000) :
  Calls Tryz.prog 141 #[.int .i64 m, .int .i64 n] w fun e w' => e = .returned (.int .i64 (Hm.lowW m n : Nat)) ∧ w = w' := by
 by_cases h0 : m = 0
 ·subst h0
  go_enter Tryz.func141, Tryz.ntmps141
  go_wp2
  go_ret
  exact ⟨rfl, rfl⟩
 have HE : Hid (Hm.lowW m n = Hm.lowFrom m n (14 - 0) 0) := by unfold Hm.lowW; rw [if_neg h0]; rfl
 generalize Hm.lowW m n = L at HE ⊢
 have h1 : 1 ≤ m := by omega
 have hb0 : ((m : Int) == 0) = false := by simp; omega
 go_enter Tryz.func141, Tryz.ntmps141
 go_wp2
 go_loop [5] (fun i => ∃ j : Nat, j ≤ 12 ∧ i = .int .i64 j ∧ m * 2 ^ j ≤ 6000 + m ∧ L = Hm.lowFrom m n (14 - j) j) (fun i => 14 - (intOf i).toNat)
 case atStart => exact ⟨0, by omega, rfl, by omega, HE.out⟩
 case round =>
  clear HE
  obtain ⟨j, hj, rfl, hp, hL⟩ := hrel
  have HL : Hid (L = if m * 2 ^ (j + 1) ≤ n then Hm.lowFrom m n (13 - j) (j + 1) else j) := by
   show _ = _
   rw [hL, show 14 - j = (13 - j) + 1 from by omega]; rfl
  have e2 : m * 2 ^ (j + 1) = m * 2 ^ j * 2 := by rw [Nat.pow_succ, Nat.mul_assoc]
  obtain ⟨p, hpe, HP⟩ : ∃ p : Nat, (m : Int) * 2 ^ (j + 1) = (p : Int) ∧ Hid (p = m * 2 ^ (j + 1)) := ⟨m * 2 ^ (j + 1), by simp, rfl⟩
  have hpb : p ≤ 14000 := by have := HP.out; omega
  have hj2 : p ≤ n → j < 12 := by
   intro hpn
   rcases Nat.lt_or_ge j 12 with h | h
   ·exact h
   ·have : j = 12 := by omega
    subst this
    have h3 := HP.out
    have : 1 * 2 ^ 13 ≤ m * 2 ^ 13 := Nat.mul_le_mul_right _ h1
    omega
  have HJ : Hid ((p ≤ n → j < 12) ∧ m * 2 ^ j ≤ 6000 + m) := ⟨hj2, hp⟩
  clear hL hp e2 hj2
  by_cases hpn : p ≤ n
  ·go_wp2
   go_round
   case rel =>
    have h3 := HP.out
    refine ⟨j + 1, by have := HJ.out.1 hpn; omega, by go_num, by rw [← h3]; omega, ?_⟩
    rw [HL.out, if_pos (by omega)]
    congr 1; omega
   case measure => simp [intOf]; omega
  ·go_wp2
   go_ret
   have h3 := HP.out
   refine ⟨?_, rfl⟩
   have : L = j := by rw [HL.out, if_neg (by omega)]
   rw [this]; rfl

end Go.Proofs.YtegnkfdbmmndaaaGreat
end

/- IntsAt -/
section
/- Numbers in memory. -/
namespace Go.Proofs.YtegnkfdbmmndaaaGreat
open Go.RowKit

/-- Numbers that are not negative lie in memory from an address on. -/
def IntsAt (w : World) (ao : Option Addr) (es : List Nat) : Prop :=
 ∀ i, (h : i < es.length) → ∃ b o, ao = some ⟨b, o, none⟩ ∧ b < w.heap.size ∧ w.cell? ⟨b, o + i, none⟩ = some (.int .i64 (es[i] : Nat))
theorem IntsAt.kept {S : Nat → Prop} {w w' : World} {ao : Option Addr} {es : List Nat} (h : IntsAt w ao es) (hk : Kept S w w') (hn : ∀ a, ao = some a → ¬ S a.block) : IntsAt w' ao es := by
 intro i hi
 obtain ⟨b, o, e, hb, h1⟩ := h i hi
 have hs := hn _ e
 exact ⟨b, o, e, by have := hk.size; omega, (hk.cell (p := ⟨b, o + i, none⟩) hb hs).trans h1⟩

theorem bits_new (w : World) (T : Nat) (o : Obj) : BitsAt ((w.alloc o).alloc (.cells #[.slice none 0 0, .int .i64 0] T)) T (w.heap.size + 1) (.slice none 0 0) [] :=
 ⟨heap_alloc2_new w _ _, World.ownsRow_nil _ _ _ _, by simp [Value.ownBlock]⟩

end Go.Proofs.YtegnkfdbmmndaaaGreat
end

/- Ints -/
section
/- Rows of numbers that a call has made; the first ranks. -/
namespace Go.Proofs.YtegnkfdbmmndaaaGreat
open Go.RowKit

theorem info_int : (Tryz.prog.info? 3).map (fun i => (i.zero, i.size, i.bytes)) = some (some (.int .i64 0), 1, 8) := by kernel_rfl

def icells (l : List Nat) : List Value := l.map fun x => Value.int .i64 (x : Nat)
/-- Block g is a row of these numbers. -/
def IntRow (w : World) (g : Nat) (l : List Nat) : Prop := w.heap[g]? = some (.cells (icells l).toArray 3 (0, 0))
theorem IntRow.cell {w : World} {g : Nat} {l : List Nat} (h : IntRow w g l) {i : Nat} (hi : i < l.length) : w.cell? ⟨g, i, none⟩ = some (.int .i64 (l[i] : Nat)) := by
 rw [cell_of_row _ _ i _ _ _ h]; simp [icells, hi]
theorem IntRow.free {w : World} {g : Nat} {l : List Nat} (h : IntRow w g l) (i : Nat) : w.frozen? ⟨g, i, none⟩ = false := frozen_of_row _ _ i _ _ h
theorem IntRow.set {w : World} {g : Nat} {l : List Nat} (h : IntRow w g l) (i x : Nat) : IntRow (w.setCell ⟨g, i, none⟩ (.int .i64 (x : Nat))) g (l.set i x) := by
 have h2 := heap_setCell_same w g i _ _ (.int .i64 (x : Nat)) h
 unfold IntRow
 rw [h2]
 congr 2
 apply Array.ext'
 simp [icells, List.map_set]
theorem IntRow.lt {w : World} {g : Nat} {l : List Nat} (h : IntRow w g l) : g < w.heap.size := lt_of_block h
theorem IntRow.at {w : World} {g : Nat} {l : List Nat} (h : IntRow w g l) : IntsAt w (some ⟨g, 0, none⟩) l := fun i hi => ⟨g, 0, rfl, h.lt, by rw [Nat.zero_add]; exact h.cell hi⟩
theorem IntRow.kept {S : Nat → Prop} {w w' : World} {g : Nat} {l : List Nat} (h : IntRow w g l) (hk : Kept S w w') (hn : ¬ S g) : IntRow w' g l := hk.row h hn
theorem IntRow.made {w' : World} {g n : Nat} {base : Nat} (h : w'.ownsRow base 3 1 (.slice (some ⟨g, 0, none⟩) n n) n (madeCells (Value.int .i64 0).cells (n * 1)).toList) : IntRow w' g (List.replicate n 0) := by
 rcases h.2 with ⟨h1, _⟩ | ⟨g2, cap, cur, h1, _, hg, _, _, hs, ht⟩
 ·cases h1
 ·cases h1
  unfold IntRow
  rw [hg]
  congr 2
  apply Array.ext'
  have e : cur.toList.take (n * 1) = cur.toList := List.take_of_length_le (by simp; omega)
  rw [← e, ht, Nat.mul_one, show (Value.int .i64 0).cells = #[Value.int .i64 0] from rfl, toList_madeCells_one]
  simp [icells]

namespace Hm
def ranks0 (s : List UInt8) : List Nat := (s.map fun b => b.toNat + 1) ++ [0]
def ranksTo (s : List UInt8) (k : Nat) : List Nat := ((s.take k).map fun b => b.toNat + 1) ++ List.replicate (s.length + 1 - k) 0
theorem ranksTo_length (s : List UInt8) (k : Nat) (h : k ≤ s.length) : (ranksTo s k).length = s.length + 1 := by simp [ranksTo]; omega
theorem ranksTo_succ (s : List UInt8) (k : Nat) (h : k < s.length) : ranksTo s (k + 1) = (ranksTo s k).set k (s[k].toNat + 1) := by
 have hl : ((s.take k).map fun b => b.toNat + 1).length = k := by simp; omega
 rw [ranksTo, ranksTo, List.set_append_right _ _ (by omega), hl, Nat.sub_self, List.take_succ_eq_append_getElem h, List.map_append, List.append_assoc]
 congr 1
 rw [show s.length + 1 - k = (s.length + 1 - (k + 1)) + 1 from by omega, List.replicate_succ]
 rfl
theorem ranksTo_all (s : List UInt8) : ranksTo s s.length = ranks0 s := by simp [ranksTo, ranks0]
end Hm

set_option maxHeartbeats 400000 in
theorem firstRanks_any (s : ByteArray) (w : World) (hs : s.size ≤ 6000) :
  Calls Tryz.prog 132 #[.string s] w fun e w' => e = .returned (.slice (some ⟨w.heap.size, 0, none⟩) (s.size + 1) (s.size + 1)) ∧ IntRow w' w.heap.size (Hm.ranks0 s.data.toList) ∧ Kept (fun _ => False) w w' := by
 obtain ⟨i0, hi, hz0, hz1, hz2⟩ := info_parts info_int
 have hsl : s.data.toList.length = s.size := by simp
 go_enter Tryz.func132, Tryz.ntmps132
 go_wp2_with (at_make; refine wpList_make_full _ rfl (.tmp 7) (.tmp 7) 64 rfl w.heap.size 3 i0 (.int .i64 0) 1 Tryz.underlying64 hi hz0 hz1 .i64 .i64 _ _ (s.size + 1) rfl rfl (by omega) (by omega) (by rw [hz2]; omega) (by unfold maxLen; omega) (Nat.le_refl _) ?_; intro w1 ho1 hg1)
 have hr1 : IntRow w1 w.heap.size (Hm.ranksTo s.data.toList 0) := by
  have := IntRow.made ho1
  simpa [Hm.ranksTo] using this
 have hk1 : Kept (fun _ => False) w w1 := (Kept.refl _ _).grown hg1 (fun k hk => by cases hk)
 clear ho1 hg1
 go_loopw [11] (fun i wr => ∃ k : Nat, k ≤ s.size ∧ i = .int .i64 k ∧ IntRow wr w.heap.size (Hm.ranksTo s.data.toList k) ∧ Kept (fun _ => False) w wr) (fun i _ => s.size - (intOf i).toNat)
 case atStart => exact ⟨0, Nat.zero_le _, rfl, hr1, hk1⟩
 case round =>
  clear hr1 hk1
  obtain ⟨k, hk, rfl, hr, hkr⟩ := hrel
  by_cases hlt : k < s.size
  ·have hlr := Hm.ranksTo_length s.data.toList k (by omega)
   have hc := hr.cell (i := k) (by omega)
   have hf := hr.free k
   have HS : Hid (IntRow (wr.setCell ⟨w.heap.size, k, none⟩ (.int .i64 ((s[k].toNat + 1 : Nat) : Int))) w.heap.size (Hm.ranksTo s.data.toList (k + 1))) := by
    show IntRow _ _ _
    rw [Hm.ranksTo_succ _ _ (by omega)]
    exact hr.set k _
   rw [show ((s[k].toNat + 1 : Nat) : Int) = (s[k].toNat : Int) + 1 from by omega] at HS
   have hby : s[k].toNat < 256 := s[k].toNat_lt
   generalize (Hm.ranksTo s.data.toList k)[k]'(by omega) = old at hc
   clear hr hlr hsl
   go_wp2
   go_roundw
   case rel => exact ⟨k + 1, by omega, by go_num, HS.out, hkr.setCell (.inl (Nat.le_refl _)) _⟩
   case measure => simp [intOf]; omega
  ·go_wp2
   go_ret
   obtain rfl : k = s.size := by omega
   refine ⟨rfl, ?_, hkr⟩
   rw [← hsl, Hm.ranksTo_all] at hr
   exact hr

end Go.Proofs.YtegnkfdbmmndaaaGreat
end

/- Counted -/
section
/- Bits with counts of ones. -/
namespace Go.Proofs.YtegnkfdbmmndaaaGreat
open Go.RowKit

namespace Hm
theorem on8_is : ∃ f : UInt8 → Nat, ∀ b, f b = Lib.onesCount b.toNat := ⟨fun b => Lib.onesCount b.toNat, fun _ => rfl⟩
/-- How many ones a byte has. -/
noncomputable def on8 : UInt8 → Nat := Classical.choose on8_is
theorem on8_eq (b : UInt8) : on8 b = Lib.onesCount b.toNat := Classical.choose_spec on8_is b
theorem on8_le (b : UInt8) : on8 b ≤ 8 := by rw [on8_eq]; exact Lib.onesCount_le8 ⟨b.toNat, b.toNat_lt⟩
/-- How many ones stand in the first bytes. -/
noncomputable def onesTo (s : List UInt8) : Nat → Nat
 | 0 => 0
 | k + 1 => onesTo s k + on8 (s.getD k 0)
noncomputable def counts (s : List UInt8) : List Nat := (List.range (s.length + 1)).map (onesTo s)
noncomputable def countsTo (s : List UInt8) (k : Nat) : List Nat := (List.range (s.length + 1)).map fun i => if i ≤ k then onesTo s i else 0
theorem counts_length (s : List UInt8) : (counts s).length = s.length + 1 := by simp [counts]
theorem countsTo_length (s : List UInt8) (k : Nat) : (countsTo s k).length = s.length + 1 := by simp [countsTo]
theorem countsTo_all (s : List UInt8) : countsTo s s.length = counts s := by
 unfold countsTo counts
 refine List.map_congr_left fun i hi => ?_
 have : i < s.length + 1 := by simpa using hi
 rw [if_pos (by omega)]
theorem countsTo_zero (s : List UInt8) : countsTo s 0 = List.replicate (s.length + 1) 0 := by
 unfold countsTo
 apply List.ext_getElem
 ·simp
 ·intro i h1 h2
  simp only [List.getElem_map, List.getElem_range, List.getElem_replicate]
  by_cases h : i ≤ 0
  ·obtain rfl : i = 0 := by omega
   rfl
  ·rw [if_neg h]
theorem countsTo_succ (s : List UInt8) (k : Nat) (_h : k < s.length) : (countsTo s k).set (k + 1) (onesTo s (k + 1)) = countsTo s (k + 1) := by
 apply List.ext_getElem
 ·simp [countsTo]
 ·intro i h1 h2
  rw [List.getElem_set]
  simp only [countsTo, List.getElem_map, List.getElem_range]
  by_cases e : k + 1 = i
  ·subst e; simp
  ·rw [if_neg e]
   by_cases h3 : i ≤ k
   ·rw [if_pos h3, if_pos (by omega)]
   ·rw [if_neg h3, if_neg (by omega)]
theorem countsTo_get (s : List UInt8) (k i : Nat) (h : i < (countsTo s k).length) (hi : i ≤ k) : (countsTo s k)[i] = onesTo s i := by
 simp only [countsTo, List.getElem_map, List.getElem_range]; rw [if_pos hi]
theorem onesTo_le (s : List UInt8) (k : Nat) : onesTo s k ≤ 8 * k := by
 induction k with
 | zero => exact Nat.le_refl _
 | succ k ih =>
  rw [onesTo]
  have := on8_le (s.getD k 0)
  omega
end Hm

def OnesSays : Prop := ∀ (b : UInt8) (W : World), Calls Tryz.prog 172 #[.int .u8 (b.toNat : Nat)] W fun e w' => e = .returned (.int .i64 (Hm.on8 b : Nat)) ∧ w' = W

theorem kept_three (w : World) (b : Nat) (x y z : Value) : Kept (fun j => j = b) w (((w.setCell ⟨b, 0, none⟩ x).setCell ⟨b, 1, none⟩ y).setCell ⟨b, 2, none⟩ z) :=
 ((((Kept.refl (fun j => j = b) w).setCell (p := ⟨b, 0, none⟩) (.inr rfl) x).setCell (p := ⟨b, 1, none⟩) (.inr rfl) y).setCell (p := ⟨b, 2, none⟩) (.inr rfl) z)

set_option maxHeartbeats 1000000 in
theorem count_any (hones : OnesSays) (s : ByteArray) (L : Nat) (w : World) (hs : s.size ≤ 1000000) :
  Calls Tryz.prog 147 #[.agg #[.string s, .int .i64 L]] w fun e w' => ∃ g, w.heap.size ≤ g ∧ e = .returned (.agg #[.string s, .int .i64 L, .slice (some ⟨g, 0, none⟩) (s.size + 1) (s.size + 1)]) ∧ IntRow w' g (Hm.counts s.data.toList) ∧ Kept (fun _ => False) w w' := by
 obtain ⟨i0, hi, hz0, hz1, hz2⟩ := info_parts info_int
 have HSL : Aside (s.data.toList.length = s.size) := by show _ = _; simp
 have HO : Aside _ := hones
 clear hones
 go_enter Tryz.func147, Tryz.ntmps147
 go_upto_region 1 with fail
 have hbox : ((w.alloc (.cells #[.string s, .int .i64 (L : Nat)] 83)).alloc (.cells #[.string ⟨#[]⟩, .int .i64 0, .slice none 0 0] 85)).heap[w.heap.size]? = some (.cells #[.string s, .int .i64 (L : Nat)] 83 (0, 0)) := heap_alloc2_old w _ _
 have hres : ((w.alloc (.cells #[.string s, .int .i64 (L : Nat)] 83)).alloc (.cells #[.string ⟨#[]⟩, .int .i64 0, .slice none 0 0] 85)).heap[w.heap.size + 1]? = some (.cells #[.string ⟨#[]⟩, .int .i64 0, .slice none 0 0] 85 (0, 0)) := heap_alloc2_new w _ _
 have hk0 : Kept (fun _ => False) w ((w.alloc (.cells #[.string s, .int .i64 (L : Nat)] 83)).alloc (.cells #[.string ⟨#[]⟩, .int .i64 0, .slice none 0 0] 85)) := ((Kept.refl _ _).alloc _).alloc _
 have hsz : ((w.alloc (.cells #[.string s, .int .i64 (L : Nat)] 83)).alloc (.cells #[.string ⟨#[]⟩, .int .i64 0, .slice none 0 0] 85)).heap.size = w.heap.size + 2 := by simp
 generalize ((w.alloc (.cells #[.string s, .int .i64 (L : Nat)] 83)).alloc (.cells #[.string ⟨#[]⟩, .int .i64 0, .slice none 0 0] 85)) = W at *
 have p0 : W.cell? ⟨w.heap.size, 0, none⟩ = some (.string s) := cell_of_row _ _ 0 _ _ _ hbox
 have HX : Aside (W.heap[w.heap.size]? = some (.cells #[.string s, .int .i64 (L : Nat)] 83 (0, 0)) ∧ W.heap[w.heap.size + 1]? = some (.cells #[.string ⟨#[]⟩, .int .i64 0, .slice none 0 0] 85 (0, 0)) ∧ Kept (fun _ => False) w W ∧ W.heap.size = w.heap.size + 2) := ⟨hbox, hres, hk0, hsz⟩
 clear hbox hres hk0 hsz
 go_upto_region 2 with (at_make; refine wpList_make_full _ rfl (.tmp 8) (.tmp 8) 64 rfl W.heap.size 3 i0 (.int .i64 0) 1 Tryz.underlying64 hi hz0 hz1 .i64 .i64 _ _ (s.size + 1) rfl rfl (by omega) (by omega) (by rw [hz2]; omega) (by unfold maxLen; omega) (Nat.le_refl _) ?_; intro w1 ho1 hg1)
 have hr1 : IntRow w1 W.heap.size (List.replicate (s.size + 1) 0) := IntRow.made ho1
 have hk1 : Kept (fun _ => False) W w1 := (Kept.refl _ _).grown hg1 (fun k hk => by cases hk)
 have q0 : w1.cell? ⟨w.heap.size, 0, none⟩ = some (.string s) := (hk1.cell (p := ⟨w.heap.size, 0, none⟩) (by have := HX.out.2.2.2; show w.heap.size < _; omega) id).trans p0
 have HY : Aside (IntRow w1 W.heap.size (List.replicate (s.size + 1) 0) ∧ Kept (fun _ => False) W w1) := ⟨hr1, hk1⟩
 clear ho1 hg1 hr1 hk1 p0
 go_wp2
 go_loopw [13] (fun i wr => ∃ k : Nat, k ≤ s.size ∧ i = .int .i64 k ∧ IntRow wr W.heap.size (Hm.countsTo s.data.toList k) ∧ Kept (fun _ => False) W wr) (fun i _ => s.size - (intOf i).toNat)
 case atStart => exact ⟨0, Nat.zero_le _, rfl, by rw [Hm.countsTo_zero, HSL.out]; exact HY.out.1, HY.out.2⟩
 case round =>
  clear q0 HY
  obtain ⟨k, hk, rfl, hr, hkr⟩ := hrel
  have hws : w.heap.size < W.heap.size := by have := HX.out.2.2.2; omega
  have q0 : wr.cell? ⟨w.heap.size, 0, none⟩ = some (.string s) := (hkr.cell (p := ⟨w.heap.size, 0, none⟩) hws id).trans (cell_of_row _ _ 0 _ _ _ HX.out.1)
  by_cases hlt : k < s.size
  ·have hl := Hm.countsTo_length s.data.toList k
   rw [HSL.out] at hl
   have c1 := hr.cell (i := k) (by omega)
   obtain ⟨old, c2⟩ : ∃ old, wr.cell? ⟨W.heap.size, k + 1, none⟩ = some old := ⟨_, hr.cell (i := k + 1) (by omega)⟩
   rw [Hm.countsTo_get _ _ _ _ (Nat.le_refl _)] at c1
   have f2 := hr.free (k + 1)
   have hle := Hm.onesTo_le s.data.toList k
   have HS := hr.set (k + 1) (Hm.onesTo s.data.toList (k + 1))
   rw [Hm.countsTo_succ _ _ (by rw [HSL.out]; exact hlt)] at HS
   have hg : s.data.toList.getD k 0 = s[k] := by
    rw [List.getD_eq_getElem?_getD, List.getElem?_eq_getElem (by rw [HSL.out]; exact hlt)]; rfl
   obtain ⟨z, hz⟩ : ∃ z, z = Hm.on8 s[k] := ⟨_, rfl⟩
   have e1 : Hm.onesTo s.data.toList (k + 1) = Hm.onesTo s.data.toList k + z := by
    rw [Hm.onesTo, hg, hz]
   have hone := fun W => HO.out s[k] W
   have h8 : z ≤ 8 := by rw [hz]; exact Hm.on8_le _
   rw [← hz] at hone
   rw [e1] at HS
   clear hz hg
   obtain ⟨o, ho⟩ : ∃ o, o = Hm.onesTo s.data.toList k := ⟨_, rfl⟩
   rw [← ho] at HS c1 hle
   clear ho
   have H2 : Hid (IntRow _ W.heap.size (Hm.countsTo s.data.toList (k + 1))) := HS
   have hne : w.heap.size ≠ W.heap.size := by omega
   have hdec : decide ((k : Int) < (s.size : Int)) = true := decide_eq_true (by omega)
   have hb1 : (k : Int) < (s.size : Int) + 1 := by omega
   have hb2 : (k : Int) + 1 < (s.size : Int) + 1 := by omega
   have hw1 : IntKind.i64.wrap ((k : Int) + 1) = (k : Int) + 1 := by rw [IntKind.wrap_i64]; omega
   have hw2 : IntKind.i64.wrap ((o : Int) + (z : Int)) = (o : Int) + (z : Int) := by rw [IntKind.wrap_i64]; omega
   have hw3 : ((k : Int) + 1).toNat = k + 1 := by omega
   have hw4 : (0 : Int) ≤ (k : Int) + 1 := by omega
   clear HS hr hl e1 HX hle h8 hs
   have H3 : Hid (IntRow (wr.setCell ⟨W.heap.size, k + 1, none⟩ (.int .i64 ((o : Int) + (z : Int)))).drew W.heap.size (Hm.countsTo s.data.toList (k + 1))) := by
    have := H2.out
    rw [show ((o + z : Nat) : Int) = (o : Int) + (z : Int) from by omega] at this
    exact this
   clear H2
   go_wp2_with fail
   go_region_with (first | (go_at_call 172; refine (hone _).mono ?_; rintro e w' ⟨rfl, rfl⟩))
   all_goals
    go_wp2
    go_roundw
    case rel => exact ⟨k + 1, by omega, by go_num, H3.out, (hkr.setCell (.inl (Nat.le_refl _)) _).drew⟩
    case measure => simp [intOf]; omega
  ·obtain rfl : k = s.size := by omega
   have hdec : decide ((s.size : Int) < (s.size : Int)) = false := decide_eq_false (by omega)
   have e0 : Hm.countsTo s.data.toList s.size = Hm.counts s.data.toList := by rw [← Hm.countsTo_all, HSL.out]
   rw [e0] at hr
   obtain ⟨hbox, hres, hk0, hsz⟩ := HX.out
   have hb2 := hkr.row hbox id
   have hr2 := hkr.row hres id
   have hne : w.heap.size + 1 ≠ W.heap.size := by omega
   have hl0 : wr.cell? ⟨w.heap.size, 1, none⟩ = some (.int .i64 (L : Nat)) := cell_of_row _ _ 1 _ _ _ hb2
   have p0 : wr.cell? ⟨w.heap.size + 1, 0, none⟩ = some (.string ⟨#[]⟩) := cell_of_row _ _ 0 _ _ _ hr2
   have p1 : wr.cell? ⟨w.heap.size + 1, 1, none⟩ = some (.int .i64 0) := cell_of_row _ _ 1 _ _ _ hr2
   have p2 : wr.cell? ⟨w.heap.size + 1, 2, none⟩ = some (.slice none 0 0) := cell_of_row _ _ 2 _ _ _ hr2
   have f0 : wr.frozen? ⟨w.heap.size + 1, 0, none⟩ = false := frozen_of_row _ _ 0 _ _ hr2
   have f1 : wr.frozen? ⟨w.heap.size + 1, 1, none⟩ = false := frozen_of_row _ _ 1 _ _ hr2
   have f2 : wr.frozen? ⟨w.heap.size + 1, 2, none⟩ = false := frozen_of_row _ _ 2 _ _ hr2
   have HZ : Aside (wr.heap[w.heap.size + 1]? = some (.cells #[.string ⟨#[]⟩, .int .i64 0, .slice none 0 0] 85 (0, 0)) ∧ Kept (fun _ => False) w wr ∧ IntRow wr W.heap.size (Hm.counts s.data.toList) ∧ w.heap.size ≤ W.heap.size) := ⟨hr2, hk0.trans hkr (fun _ _ h => h), hr, by omega⟩
   clear hbox hres hk0 hsz hb2 hr2 HX hr hkr e0 hk hlt hs
   go_wp2
   obtain ⟨hr2, hkw, hr, hle⟩ := HZ.out
   have h2 := heap_setCell_same _ _ 2 _ _ (.slice (some ⟨W.heap.size, 0, none⟩) (s.size + 1) (s.size + 1)) (heap_setCell_same _ _ 1 _ _ (.int .i64 (L : Nat)) (heap_setCell_same _ _ 0 _ _ (.string s) hr2))
   refine bodyPost_ret (v := .agg #[.string s, .int .i64 (L : Nat), .slice (some ⟨W.heap.size, 0, none⟩) (s.size + 1) (s.size + 1)]) (results_cell_row Tryz.results147 _ _ (w.heap.size + 1) 85 _ (0, 0) _ rfl h2 Tryz.underlying85 rfl (by kernel_rfl)) rfl ⟨W.heap.size, hle, rfl, ?_, ?_⟩
   ·exact hr.kept (kept_three wr (w.heap.size + 1) _ _ _) (fun e => hne e.symm)
   ·exact hkw.trans (kept_three wr (w.heap.size + 1) _ _ _) (fun j h1 h2 => by omega)

end Go.Proofs.YtegnkfdbmmndaaaGreat
end

/- Nodes -/
section
/- The nodes of the tree in memory. -/
namespace Go.Proofs.YtegnkfdbmmndaaaGreat
open Go.RowKit

def brCells (b : Hm.Br) : List Value := [.bool b.whole, .int .u8 (b.val.toNat : Nat), .int .i64 (b.node : Nat)]
def ndCells (n : Hm.Nd) : List Value := [.int .i64 (n.depth : Nat), .int .i64 (n.frm : Nat), .int .i64 (n.siz : Nat), .bool n.b0.whole, .int .u8 (n.b0.val.toNat : Nat), .int .i64 (n.b0.node : Nat), .bool n.b1.whole, .int .u8 (n.b1.val.toNat : Nat), .int .i64 (n.b1.node : Nat)]
def ncells : List Hm.Nd → List Value
 | [] => []
 | n :: r => ndCells n ++ ncells r
theorem ncells_append (a b : List Hm.Nd) : ncells (a ++ b) = ncells a ++ ncells b := by
 induction a with
 | nil => rfl
 | cons n r ih => show ndCells n ++ ncells (r ++ b) = _; rw [ih, ← List.append_assoc]; rfl
theorem ncells_length (l : List Hm.Nd) : (ncells l).length = l.length * 9 := by
 induction l with
 | nil => rfl
 | cons n r ih => show (ndCells n ++ ncells r).length = _; rw [List.length_append, ih, List.length_cons]; show 9 + _ = _; omega
theorem ncells_one (l : List Hm.Nd) : ∀ v ∈ ncells l, v.oneCell' = true := by
 induction l with
 | nil => intro v hv; simp [ncells] at hv
 | cons n r ih =>
  intro v hv
  rcases List.mem_append.1 hv with h | h
  ·simp only [ndCells, List.mem_cons, List.not_mem_nil, or_false] at h
   rcases h with rfl | rfl | rfl | rfl | rfl | rfl | rfl | rfl | rfl <;> rfl
  ·exact ih v h
theorem nds_split (l : List Hm.Nd) (i : Nat) (h : i < l.length) (n : Hm.Nd) : l.set i n = l.take i ++ (n :: l.drop (i + 1)) := by
 rw [List.set_eq_take_append_cons_drop, if_pos h]
theorem nds_self (l : List Hm.Nd) (i : Nat) (h : i < l.length) : l = l.take i ++ (Hm.ndAt l i :: l.drop (i + 1)) := by
 rw [← nds_split l i h]
 unfold Hm.ndAt
 rw [List.getD_eq_getElem?_getD, List.getElem?_eq_getElem h]
 exact (List.set_getElem_self h).symm
theorem ncells_split (l : List Hm.Nd) (i : Nat) (h : i < l.length) (n : Hm.Nd) : ncells (l.set i n) = ncells (l.take i) ++ (ndCells n ++ ncells (l.drop (i + 1))) := by
 rw [nds_split l i h, ncells_append]; rfl
theorem ncells_self (l : List Hm.Nd) (i : Nat) (h : i < l.length) : ncells l = ncells (l.take i) ++ (ndCells (Hm.ndAt l i) ++ ncells (l.drop (i + 1))) := by
 conv => lhs; rw [nds_self l i h]
 rw [ncells_append]; rfl
theorem set_mid (a b c : List Value) (j : Nat) (v : Value) (h : j < b.length) : (a ++ (b ++ c)).set (a.length + j) v = a ++ (b.set j v ++ c) := by
 rw [List.set_append_right _ _ (by omega), Nat.add_sub_cancel_left, List.set_append_left _ _ h]
theorem take_cells_length (l : List Hm.Nd) (i : Nat) (h : i < l.length) : (ncells (l.take i)).length = i * 9 := by
 rw [ncells_length, List.length_take, Nat.min_eq_left (by omega)]
theorem ncells_get (l : List Hm.Nd) (i j : Nat) (h : i < l.length) (hj : j < 9) : (ncells l)[i * 9 + j]? = (ndCells (Hm.ndAt l i))[j]? := by
 rw [ncells_self l i h, List.getElem?_append_right (by rw [take_cells_length l i h]; omega), take_cells_length l i h, Nat.add_sub_cancel_left, List.getElem?_append_left (by show j < 9; exact hj)]
/-- One cell of a node. -/
theorem ncells_set1 (l : List Hm.Nd) (i j : Nat) (h : i < l.length) (hj : j < 9) (v : Value) (n : Hm.Nd) (e : ndCells n = (ndCells (Hm.ndAt l i)).set j v) : (ncells l).set (i * 9 + j) v = ncells (l.set i n) := by
 rw [ncells_split l i h n, e, ncells_self l i h]
 have := set_mid (ncells (l.take i)) (ndCells (Hm.ndAt l i)) (ncells (l.drop (i + 1))) j v (by show j < 9; exact hj)
 rw [take_cells_length l i h] at this
 exact this
theorem ncells_siz (l : List Hm.Nd) (i s : Nat) (h : i < l.length) : (ncells l).set (i * 9 + 2) (.int .i64 (s : Nat)) = ncells (Hm.setSiz l i s) := ncells_set1 l i 2 h (by omega) _ _ rfl
theorem ncells_frm (l : List Hm.Nd) (i s : Nat) (h : i < l.length) : (ncells l).set (i * 9 + 1) (.int .i64 (s : Nat)) = ncells (Hm.setFrm l i s) := ncells_set1 l i 1 h (by omega) _ _ rfl
/-- A branch of a node. -/
theorem ncells_br (l : List Hm.Nd) (i s : Nat) (h : i < l.length) (hs : s < 2) (b : Hm.Br) : (((ncells l).set (i * 9 + 3 + s * 3) (.bool b.whole)).set (i * 9 + 3 + s * 3 + 1) (.int .u8 (b.val.toNat : Nat))).set (i * 9 + 3 + s * 3 + 2) (.int .i64 (b.node : Nat)) = ncells (Hm.putBr l i s b) := by
 unfold Hm.putBr
 rw [ncells_split l i h, ncells_self l i h]
 have tl := take_cells_length l i h
 have m1 := fun (B : List Value) (j : Nat) (v : Value) (hj : j < B.length) => set_mid (ncells (l.take i)) B (ncells (l.drop (i + 1))) j v hj
 rw [tl] at m1
 rcases (show s = 0 ∨ s = 1 by omega) with rfl | rfl
 ·rw [show i * 9 + 3 + 0 * 3 = i * 9 + 3 from by omega, show i * 9 + 3 + 1 = i * 9 + 4 from by omega, show i * 9 + 3 + 2 = i * 9 + 5 from by omega, m1 _ 3 _ (by show 3 < 9; omega), m1 _ 4 _ (by show 4 < 9; omega), m1 _ 5 _ (by show 5 < 9; omega)]
  rfl
 ·rw [show i * 9 + 3 + 1 * 3 = i * 9 + 6 from by omega, show i * 9 + 6 + 1 = i * 9 + 7 from by omega, show i * 9 + 6 + 2 = i * 9 + 8 from by omega, m1 _ 6 _ (by show 6 < 9; omega), m1 _ 7 _ (by show 7 < 9; omega), m1 _ 8 _ (by show 8 < 9; omega)]
  rfl

theorem node_cell {w : World} {base g cap n : Nat} {nds : List Hm.Nd} (h : w.ownsRow base 195 9 (.slice (some ⟨g, 0, none⟩) n cap) n (ncells nds)) (hn : n = nds.length) {i : Nat} (hi : i < nds.length) (j : Nat) (hj : j < 9) : w.cell? ⟨g, i * 9 + j, none⟩ = (ndCells (Hm.ndAt nds i))[j]? := by
 rw [h.cellAt (i * 9 + j) (by omega), ncells_get _ _ _ hi hj]
theorem node_depth {w : World} {base g cap n : Nat} {nds : List Hm.Nd} (h : w.ownsRow base 195 9 (.slice (some ⟨g, 0, none⟩) n cap) n (ncells nds)) (hn : n = nds.length) {i : Nat} (hi : i < nds.length) : w.cell? ⟨g, i * 9, none⟩ = some (.int .i64 ((Hm.ndAt nds i).depth : Nat)) := node_cell h hn hi 0 (by omega)
theorem node_frm {w : World} {base g cap n : Nat} {nds : List Hm.Nd} (h : w.ownsRow base 195 9 (.slice (some ⟨g, 0, none⟩) n cap) n (ncells nds)) (hn : n = nds.length) {i : Nat} (hi : i < nds.length) : w.cell? ⟨g, i * 9 + 1, none⟩ = some (.int .i64 ((Hm.ndAt nds i).frm : Nat)) := node_cell h hn hi 1 (by omega)
theorem node_siz {w : World} {base g cap n : Nat} {nds : List Hm.Nd} (h : w.ownsRow base 195 9 (.slice (some ⟨g, 0, none⟩) n cap) n (ncells nds)) (hn : n = nds.length) {i : Nat} (hi : i < nds.length) : w.cell? ⟨g, i * 9 + 2, none⟩ = some (.int .i64 ((Hm.ndAt nds i).siz : Nat)) := node_cell h hn hi 2 (by omega)
theorem info_node : (Tryz.prog.info? 195).map (fun i => (i.zero, i.size, i.bytes)) = some (some (.agg (ndCells {}).toArray), 9, 56) := by kernel_rfl

end Go.Proofs.YtegnkfdbmmndaaaGreat
end

/- RankC -/
section
/- How many ones stand ahead of a bit, as the counts tell it. -/
namespace Go.Proofs.YtegnkfdbmmndaaaGreat
namespace Hm

theorem low_ones : ∀ (b : Fin 256) (r : Fin 9), Lib.onesCount (b.val * 2 ^ (8 - r.val) % 256) = rk (fun j => decide (b.val / 2 ^ j % 2 = 1)) r.val := by decide +kernel
theorem rk_byte (bs : List UInt8) (k r : Nat) (hr : r ≤ 8) : rk (bitB bs) (8 * k + r) = rk (bitB bs) (8 * k) + Lib.onesCount ((bs.getD k 0).toNat * 2 ^ (8 - r) % 256) := by
 rw [rk_add, low_ones ⟨_, (bs.getD k 0).toNat_lt⟩ ⟨r, by omega⟩]
 congr 1
 exact rk_congr fun j hj => bitB_in bs k j (by omega)
theorem onesTo_rk (bs : List UInt8) : ∀ k, onesTo bs k = rk (bitB bs) (8 * k)
 | 0 => rfl
 | k + 1 => by
  rw [onesTo, onesTo_rk bs k, show 8 * (k + 1) = 8 * k + 8 from by omega, rk_byte bs k 8 (Nat.le_refl _), on8_eq]
  have := (bs.getD k 0).toNat_lt
  rw [show 8 - 8 = 0 from rfl, Nat.pow_zero, Nat.mul_one, Nat.mod_eq_of_lt this]
theorem ones_at (bs : List UInt8) (p : Nat) : onesTo bs (p / 8) + Lib.onesCount ((bs.getD (p / 8) 0).toNat * 2 ^ (8 - p % 8) % 256) = rk (bitB bs) p := by
 have h := rk_byte bs (p / 8) (p % 8) (by omega)
 rw [show 8 * (p / 8) + p % 8 = p from by omega] at h
 rw [h, onesTo_rk]

end Hm
end Go.Proofs.YtegnkfdbmmndaaaGreat
end

/- Ones -/
section
/- How many ones stand ahead of a bit; a bit; a number in bits. -/
namespace Go.Proofs.YtegnkfdbmmndaaaGreat
open Go.RowKit

/-- Bits with counts lie in block pb from o on. -/
structure CountedAt (w : World) (pb o : Nat) (s : ByteArray) (len g : Nat) : Prop where
 str : w.cell? ⟨pb, o, none⟩ = some (.string s)
 len : w.cell? ⟨pb, o + 1, none⟩ = some (.int .i64 (len : Nat))
 cnt : w.cell? ⟨pb, o + 2, none⟩ = some (.slice (some ⟨g, 0, none⟩) (s.size + 1) (s.size + 1))
 row : IntRow w g (Hm.counts s.data.toList)

theorem CountedAt.kept {S : Nat → Prop} {w w' : World} {pb o len g : Nat} {s : ByteArray} (h : CountedAt w pb o s len g) (hk : Kept S w w') (h1 : ¬ S pb) (h2 : ¬ S g) : CountedAt w' pb o s len g :=
 have hp : pb < w.heap.size := World.block_lt_of_cell? _ _ h.str
 ⟨(hk.cell (p := ⟨pb, o, none⟩) hp h1).trans h.str, (hk.cell (p := ⟨pb, o + 1, none⟩) hp h1).trans h.len, (hk.cell (p := ⟨pb, o + 2, none⟩) hp h1).trans h.cnt, h.row.kept hk h2⟩

set_option maxHeartbeats 400000 in
theorem ones_any (hones : OnesSays) (pb o g len p : Nat) (s : ByteArray) (w : World) (h : CountedAt w pb o s len g) (hp : p ≤ 8 * s.size) (hs : s.size ≤ 100000000) :
  Calls Tryz.prog 126 #[.pointer (some ⟨pb, o, none⟩), .int .i64 p] w fun e w' => e = .returned (.int .i64 (Hm.rk (Hm.bitB s.data.toList) p : Nat)) ∧ w' = w := by
 obtain ⟨q, hq⟩ : ∃ q, q = p / 8 := ⟨_, rfl⟩
 obtain ⟨r, hr⟩ : ∃ r, r = p % 8 := ⟨_, rfl⟩
 have zq : (p : Int) / 8 = (q : Int) := by omega
 have zr : (p : Int) % 8 = (r : Int) := by omega
 have hsl : s.data.toList.length = s.size := by simp
 have hcl := Hm.counts_length s.data.toList
 have hall := Hm.ones_at s.data.toList p
 have hle := Hm.onesTo_le s.data.toList q
 rw [← hq, ← hr] at hall
 have h0 := h.str
 have h2 := h.cnt
 have hc : w.cell? ⟨g, q, none⟩ = some (.int .i64 (Hm.onesTo s.data.toList q : Nat)) := by
  rw [h.row.cell (i := q) (by omega)]
  simp [Hm.counts]
 have hqI : (q : Int) < (s.size : Int) + 1 := by omega
 have HA : Aside _ := hall
 have HSL : Aside _ := hsl
 obtain ⟨u, hu⟩ : ∃ u, u = Hm.onesTo s.data.toList q := ⟨_, rfl⟩
 rw [← hu] at hc hle HA
 clear hcl hall hu h hsl
 by_cases hr0 : r = 0
 ·have HR : Aside (Hm.rk (Hm.bitB s.data.toList) p = u) := by
   show _ = _
   rw [← HA.out, hr0]
   have : ∀ x : UInt8, Lib.onesCount (x.toNat * 2 ^ (8 - 0) % 256) = 0 := fun x => by
    rw [show x.toNat * 2 ^ (8 - 0) % 256 = 0 from by omega]; rfl
   rw [this]; rfl
  have hrI : decide (0 < r) = false := decide_eq_false (by omega)
  clear HA hr hr0 hq
  go_enter Tryz.func126, Tryz.ntmps126
  go_wp2
  go_ret
  exact ⟨by rw [HR.out]; rfl, rfl⟩
 ·have hql : q < s.size := by omega
  have hrI : decide (0 < r) = true := decide_eq_true (by omega)
  obtain ⟨t, ht⟩ : ∃ t, t = 8 - r := ⟨_, rfl⟩
  have zt : (8 : Int) - (r : Int) = (t : Int) := by omega
  have htl : t ≤ 8 := by omega
  have hg : s.data.toList.getD q 0 = s[q] := by
   rw [List.getD_eq_getElem?_getD, List.getElem?_eq_getElem (by rw [HSL.out]; exact hql)]; rfl
  rw [hg, ← ht] at HA
  obtain ⟨z, hz⟩ : ∃ z, z = s[q].toNat * 2 ^ t % 256 := ⟨_, rfl⟩
  have zz : (s[q].toNat : Int) * 2 ^ t % 256 = (z : Int) := by rw [hz]; simp
  have hz256 : z < 256 := by omega
  have hon := fun W => hones (UInt8.ofNat z) W
  have e8 : Hm.on8 (UInt8.ofNat z) = Lib.onesCount z := by rw [Hm.on8_eq, UInt8.toNat_ofNat', Nat.mod_eq_of_lt hz256]
  have e9 : (UInt8.ofNat z).toNat = z := by rw [UInt8.toNat_ofNat', Nat.mod_eq_of_lt hz256]
  have h8 := Hm.on8_le (UInt8.ofNat z)
  rw [e9] at hon
  obtain ⟨c, hcc⟩ : ∃ c, c = Hm.on8 (UInt8.ofNat z) := ⟨_, rfl⟩
  rw [← hcc] at hon h8
  rw [← hz, ← e8, ← hcc] at HA
  have hqI2 : (q : Int) < (s.size : Int) := by omega
  have HON : Aside _ := hon
  clear hz hcc e8 e9 hg ht hr hr0 hq
  go_enter Tryz.func126, Tryz.ntmps126
  go_wp2_with fail
  refine (HON.out _).mono ?_
  rintro e w' ⟨rfl, rfl⟩
  go_wp2
  go_ret
  exact ⟨by rw [← HA.out]; go_num, rfl⟩

end Go.Proofs.YtegnkfdbmmndaaaGreat
end

/- Names -/
section
/- The names of the files, added to a row of bytes. -/
namespace Go.Proofs.YtegnkfdbmmndaaaGreat
open Go.RowKit

/-- The files lie in memory from an address on. -/
def FilesAt (w : World) (ao : Option Addr) (fs : List (ByteArray × ByteArray)) : Prop :=
 ∀ i, (h : i < fs.length) → ∃ b o, ao = some ⟨b, o, none⟩ ∧ b < w.heap.size ∧ w.cell? ⟨b, o + i * 2, none⟩ = some (.string fs[i].1) ∧ w.cell? ⟨b, o + i * 2 + 1, none⟩ = some (.string fs[i].2)
theorem FilesAt.kept {S : Nat → Prop} {w w' : World} {ao : Option Addr} {fs : List (ByteArray × ByteArray)} (h : FilesAt w ao fs) (hk : Kept S w w') (hn : ∀ a, ao = some a → ¬ S a.block) : FilesAt w' ao fs := by
 intro i hi
 obtain ⟨b, o, e, hb, h1, h2⟩ := h i hi
 have hs := hn _ e
 exact ⟨b, o, e, by have := hk.size; omega, (hk.cell (p := ⟨b, o + i * 2, none⟩) hb hs).trans h1, (hk.cell (p := ⟨b, o + i * 2 + 1, none⟩) hb hs).trans h2⟩

namespace Hm
def nameBytes (fs : List (ByteArray × ByteArray)) : List UInt8 := fs.flatMap fun f => UInt8.ofNat f.1.size :: f.1.data.toList
theorem nameBytes_take (fs : List (ByteArray × ByteArray)) (k : Nat) (h : k < fs.length) : nameBytes (fs.take (k + 1)) = nameBytes (fs.take k) ++ (UInt8.ofNat fs[k].1.size :: fs[k].1.data.toList) := by
 rw [List.take_succ_eq_append_getElem h]; unfold nameBytes; rw [List.flatMap_append]; congr 1; simp
theorem nameBytes_le (fs : List (ByteArray × ByteArray)) (h : ∀ f ∈ fs, f.1.size ≤ 32) : (nameBytes fs).length ≤ 33 * fs.length := by
 induction fs with
 | nil => simp [nameBytes]
 | cons f r ih =>
  have h1 := h f (by simp)
  have h2 := ih (fun x hx => h x (by simp [hx]))
  have h3 : f.1.data.toList.length = f.1.size := by simp
  simp only [nameBytes, List.flatMap_cons, List.length_append, List.length_cons] at h2 ⊢
  omega
end Hm

set_option maxHeartbeats 400000 in
theorem addNames_any (base : Nat) (v : Value) (n c : Nat) (ao : Option Addr) (fs : List (ByteArray × ByteArray)) (l : List UInt8) (w : World) (ho : w.ownsRow base 5 1 v n (Hm.bcells l)) (hb : base ≤ w.heap.size)
  (hf : FilesAt w ao fs) (hne : ∀ a, ao = some a → v.ownBlock ≠ some a.block) (hm : fs.length ≤ 40) (h32 : ∀ f ∈ fs, f.1.size ≤ 32) (hn : n ≤ 1000000) :
  Calls Tryz.prog 103 #[v, .slice ao fs.length c] w fun e w' => ∃ v', e = .returned v' ∧ w'.ownsRow base 5 1 v' (n + (Hm.nameBytes fs).length) (Hm.bcells (l ++ Hm.nameBytes fs)) ∧ Kept (fun j => v.ownBlock = some j) w w' ∧ Moved w v v' := by
 obtain ⟨i0, hi, hz0, hz1, hz2⟩ := info_parts info_u8
 go_enter Tryz.func103, Tryz.ntmps103
 go_wp2
 go_loopw [0, 9] (fun u i wr => ∃ k : Nat, k ≤ fs.length ∧ i = .int .i64 k ∧ wr.ownsRow base 5 1 u (n + (Hm.nameBytes (fs.take k)).length) (Hm.bcells (l ++ Hm.nameBytes (fs.take k))) ∧ Kept (fun j => v.ownBlock = some j) w wr ∧ Moved w v u) (fun _ i _ => fs.length - (intOf i).toNat)
 case atStart => exact ⟨0, Nat.zero_le _, rfl, by simpa [Hm.nameBytes] using ho, Kept.refl _ _, Moved.refl _ _⟩
 case round =>
  obtain ⟨k, hk, rfl, hor, hkr, hmr⟩ := hrel
  have hle := Hm.nameBytes_le (fs.take k) (fun f hf => h32 f (List.mem_of_mem_take hf))
  have hlt2 : (fs.take k).length ≤ 40 := by simp; omega
  generalize hnk : (Hm.nameBytes (fs.take k)).length = nk at hle hor
  by_cases hlt : k < fs.length
  ·obtain ⟨b, o, hao, hbw, hc1, hc2⟩ := (hf.kept hkr (fun a ha => hne a ha)) k hlt
   have h32k := h32 fs[k] (List.getElem_mem _)
   have HT : Hid (Hm.nameBytes (fs.take (k + 1)) = Hm.nameBytes (fs.take k) ++ (UInt8.ofNat fs[k].1.size :: fs[k].1.data.toList)) := Hm.nameBytes_take fs k hlt
   generalize fs[k].1 = nm at *
   generalize fs[k].2 = ct at *
   rw [hao]
   have HA : Hid (ao = some ⟨b, o, none⟩) := hao
   have HNK : Hid ((Hm.nameBytes (fs.take k)).length = nk) := hnk
   clear hao hnk hf
   go_wp2_with (at_builtin; refine wpList_append_mv _ rfl (.tmp 13) (.tmp 18) 79 rfl base 5 i0 (.int .u8 0) 1 1 Tryz.underlying79 hi hz0 hz1 hz2 rfl (by decide) _ _ _ rfl ((hor.alloc _).alloc _) ⟨wr.heap.size + 1, 0, none⟩ 1 1 [.int .u8 (nm.size : Int)] rfl rfl ?c1 ?c2 ?c3 ?c4 ?c5 ?_)
   case c1 => have h := cell_one_new (wr.alloc (.cells #[.string nm, .string ct] 38)) (.int .u8 (nm.size : Int)) 5; simpa using h
   case c2 => intro u hu; simp at hu; subst hu; rfl
   case c3 => unfold maxLen; omega
   case c4 => omega
   case c5 => have := hkr.size; simp; omega
   intro v' w1 ho1 hg1 hm1
   have hu0 : ∀ j, u0.ownBlock = some j → j < wr.heap.size := fun j hj => (hor.lt j hj).2
   have hbx : w1.cell? ⟨wr.heap.size, 0, none⟩ = some (.string nm) :=
    hg1.cell (cell_of_row _ _ 0 _ _ _ (heap_alloc2_old wr _ _)) (fun e => by have := hu0 _ e.symm; simp at this)
   have hz : wr.heap.size + 2 ≤ w1.heap.size := by have := hg1.size; simp at this; omega
   have hk1 : Kept (fun j => v.ownBlock = some j) w w1 := ((hkr.alloc _).alloc _).grown hg1 (fun k hk => (hmr k hk).elim (fun h => .inr h) .inl)
   have hmv1 : Moved w v v' := hmr.trans hm1 (by have := hkr.size; simp; omega)
   clear hg1 hm1 hor hkr hmr hu0
   go_wp2_with (at_builtin; refine wpList_append_mv_string _ rfl (.tmp 20) (.tmp 22) 79 9 rfl base 5 i0 Tryz.underlying79 Tryz.underlying9 hi hz0 hz1 hz2 _ _ _ rfl ho1 nm rfl ?c6 ?c7 ?c8 ?_)
   case c6 => unfold maxLen; omega
   case c7 => omega
   case c8 => have := hk1.size; omega
   intro v2 w2 ho2 hg2 hm2 _
   go_wp2
   go_roundw
   case rel =>
    have e : Hm.bcells (l ++ Hm.nameBytes (fs.take (k + 1))) = Hm.bcells (l ++ Hm.nameBytes (fs.take k)) ++ [.int .u8 (nm.size : Int)] ++ Lib.strCells nm := by
     rw [HT.out]; simp [Hm.bcells, Lib.strCells]; omega
    have e2 : n + (Hm.nameBytes (fs.take (k + 1))).length = n + nk + 1 + nm.size := by
     have e3 : nm.data.toList.length = nm.size := by simp
     rw [HT.out, List.length_append, HNK.out, List.length_cons, e3]; omega
    refine ⟨k + 1, by omega, by go_num, ?_, ?_, ?_⟩
    ·rw [e, e2]; simpa using ho2
    ·exact hk1.grown hg2 (fun k hk => (hmv1 k hk).elim (fun h => .inr h) .inl)
    ·exact hmv1.trans hm2 (by have := hk1.size; omega)
   case measure => simp [intOf]; omega
  ·clear hf
   go_wp2
   go_ret
   obtain rfl : k = fs.length := by omega
   have e : fs.take fs.length = fs := List.take_length
   rw [e] at hor hnk
   rw [hnk]
   exact ⟨_, rfl, hor, hkr, hmr⟩

end Go.Proofs.YtegnkfdbmmndaaaGreat
end

/- LoadA -/
section
/- The reader: parts are taken from the front; where one is not there, it is bad. -/
namespace Go.Proofs.YtegnkfdbmmndaaaGreat
open Go.RowKit

namespace Hm
/-- None: bad. -/
abbrev Rd := Option (List UInt8)
def takeO : Rd → Nat → List UInt8 × Rd
 | none, _ => ([], none)
 | some l, k => if k ≤ l.length then (l.take k, some (l.drop k)) else ([], none)
theorem takeO_some {l : List UInt8} {k : Nat} (h : k ≤ l.length) : takeO (some l) k = (l.take k, some (l.drop k)) := if_pos h
theorem takeO_short {l : List UInt8} {k : Nat} (h : ¬ k ≤ l.length) : takeO (some l) k = ([], none) := if_neg h
def needO (st : Rd) (h : Bool) : Rd := if h = true then st else none
def leNum : List UInt8 → Nat
 | [] => 0
 | b :: r => b.toNat + 256 * leNum r
def numO (st : Rd) (k : Nat) : Nat × Rd := (leNum (takeO st k).1, (takeO st k).2)
theorem leNum_lt (l : List UInt8) : leNum l < 256 ^ l.length := by
 induction l with
 | nil => simp [leNum]
 | cons b r ih =>
  have h := b.toNat_lt
  rw [leNum, List.length_cons, Nat.pow_succ]
  omega
theorem leNum_append (l r : List UInt8) : leNum (l ++ r) = leNum l + 256 ^ l.length * leNum r := by
 induction l with
 | nil => simp [leNum]
 | cons b t ih =>
  rw [List.cons_append, leNum, ih, leNum, List.length_cons, Nat.pow_succ, Nat.mul_add, ← Nat.mul_assoc, Nat.mul_comm 256 (256 ^ t.length)]
  omega
theorem takeO_length (st : Rd) (k : Nat) : (takeO st k).1.length ≤ k := by
 cases st with
 | none => simp [takeO]
 | some l =>
  by_cases h : k ≤ l.length
  ·rw [takeO_some h]; simp; omega
  ·rw [takeO_short h]; simp
theorem numO_lt (st : Rd) (k : Nat) : (numO st k).1 < 256 ^ k :=
 Nat.lt_of_lt_of_le (leNum_lt _) (Nat.pow_le_pow_right (by omega) (takeO_length st k))
/-- So much is left at the most. -/
def restLen (st : Rd) : Nat := (st.getD []).length
theorem restLen_take (st : Rd) (k : Nat) : restLen (takeO st k).2 ≤ restLen st := by
 cases st with
 | none => simp [takeO, restLen]
 | some l =>
  by_cases h : k ≤ l.length
  ·rw [takeO_some h]; simp [restLen]
  ·rw [takeO_short h]; simp [restLen]
theorem restLen_need (st : Rd) (h : Bool) : restLen (needO st h) ≤ restLen st := by
 unfold needO
 split
 ·exact Nat.le_refl _
 ·simp [restLen]
end Hm

/-- A reader in memory. -/
def RdAt (w : World) (p : Nat) (st : Hm.Rd) : Prop := w.heap[p]? = some (.cells #[.string ⟨(st.getD []).toArray⟩, .bool st.isNone] 132 (0, 0))
theorem RdAt.rest {w : World} {p : Nat} {st : Hm.Rd} (h : RdAt w p st) : w.cell? ⟨p, 0, none⟩ = some (.string ⟨(st.getD []).toArray⟩) := cell_of_row _ _ 0 _ _ _ h
theorem RdAt.bad {w : World} {p : Nat} {st : Hm.Rd} (h : RdAt w p st) : w.cell? ⟨p, 1, none⟩ = some (.bool st.isNone) := cell_of_row _ _ 1 _ _ _ h
theorem RdAt.free {w : World} {p : Nat} {st : Hm.Rd} (h : RdAt w p st) (i : Nat) : w.frozen? ⟨p, i, none⟩ = false := frozen_of_row _ _ i _ _ h
theorem RdAt.lt {w : World} {p : Nat} {st : Hm.Rd} (h : RdAt w p st) : p < w.heap.size := lt_of_block h
theorem RdAt.kept {S : Nat → Prop} {w w' : World} {p : Nat} {st : Hm.Rd} (h : RdAt w p st) (hk : Kept S w w') (hn : ¬ S p) : RdAt w' p st := hk.row h hn

set_option maxHeartbeats 400000 in
theorem need_any (p : Nat) (st : Hm.Rd) (h : Bool) (w : World) (hr : RdAt w p st) :
  Calls Tryz.prog 63 #[.pointer (some ⟨p, 0, none⟩), .bool h] w fun e w' => e = .returned (.tuple #[]) ∧ RdAt w' p (Hm.needO st h) ∧ Kept (fun j => j = p) w w' := by
 have c0 := hr.rest
 have c1 := hr.bad
 have f0 := hr.free 0
 have f1 := hr.free 1
 cases h
 ·have HN : Hid (RdAt ((w.setCell ⟨p, 0, none⟩ (.string ⟨#[]⟩)).setCell ⟨p, 1, none⟩ (.bool true)) p none) := by
   have h2 := heap_setCell_same _ p 1 _ _ (.bool true) (heap_setCell_same w p 0 _ _ (.string ⟨#[]⟩) hr)
   show RdAt _ _ _
   unfold RdAt
   rw [h2]; rfl
  clear hr
  go_enter Tryz.func63, Tryz.ntmps63
  go_wp2
  go_end0
  exact ⟨rfl, HN.out, ((Kept.refl (fun j => j = p) w).setCell (p := ⟨p, 0, none⟩) (.inr rfl) _).setCell (p := ⟨p, 1, none⟩) (.inr rfl) _⟩
 ·go_enter Tryz.func63, Tryz.ntmps63
  go_wp2
  go_end0
  exact ⟨rfl, hr, Kept.refl _ _⟩

theorem extract_toArray (l : List UInt8) (a b : Nat) : (⟨l.toArray⟩ : ByteArray).extract a b = ⟨((l.drop a).take (b - a)).toArray⟩ := by
 apply ByteArray.ext
 apply Array.ext'
 rw [ByteArray.data_extract, Array.toList_extract, List.extract_eq_take_drop]

set_option maxHeartbeats 400000 in
theorem take_any (p : Nat) (st : Hm.Rd) (k : Nat) (w : World) (hr : RdAt w p st) (hl : Hm.restLen st ≤ 4611686018427387904) (_hk : k ≤ 4611686018427387904) :
  Calls Tryz.prog 64 #[.pointer (some ⟨p, 0, none⟩), .int .i64 k] w fun e w' => e = .returned (.string ⟨(Hm.takeO st k).1.toArray⟩) ∧ RdAt w' p (Hm.takeO st k).2 ∧ Kept (fun j => j = p) w w' := by
 cases st with
 | none =>
  have c0 := hr.rest
  have hz : (⟨((none : Hm.Rd).getD []).toArray⟩ : ByteArray).size = 0 := rfl
  obtain ⟨S, hS⟩ : ∃ S, S = (⟨((none : Hm.Rd).getD []).toArray⟩ : ByteArray) := ⟨_, rfl⟩
  rw [← hS] at c0 hz
  have hn := fun (h : Bool) => need_any p none h w hr
  have e0 : ∀ h, Hm.needO none h = none := fun h => by unfold Hm.needO; split <;> rfl
  simp only [e0] at hn
  have HN : Hid _ := hn
  clear hr hS e0 hn
  go_enter Tryz.func64, Tryz.ntmps64
  go_wp2_with fail
  refine (HN.out _).mono ?_
  rintro e w1 ⟨rfl, hr1, hk1⟩
  have c1 := hr1.bad
  have b1 : (none : Hm.Rd).isNone = true := rfl
  rw [b1] at c1
  have H1 : Hid (RdAt w1 p none ∧ Kept (fun j => j = p) w w1) := ⟨hr1, hk1⟩
  clear hr1 hk1 HN c0
  go_wp2_with fail
  go_ret
  exact ⟨rfl, H1.out.1, H1.out.2⟩
 | some l =>
  have c0 := hr.rest
  have hll : l.length ≤ 4611686018427387904 := hl
  obtain ⟨S, hS⟩ : ∃ S, S = (⟨((some l : Hm.Rd).getD []).toArray⟩ : ByteArray) := ⟨_, rfl⟩
  have hz : S.size = l.length := by rw [hS]; show l.toArray.size = _; simp
  rw [← hS] at c0
  have hS' : S = (⟨l.toArray⟩ : ByteArray) := hS
  by_cases hle : k ≤ l.length
  ·have hdec : decide ((k : Int) ≤ (l.length : Int)) = true := decide_eq_true (by omega)
   have hn := need_any p (some l) true w hr
   have e0 : Hm.needO (some l) true = some l := rfl
   rw [e0] at hn
   have HT : Hid (Hm.takeO (some l) k = (l.take k, some (l.drop k))) := Hm.takeO_some hle
   rw [HT.out]
   have HX : Hid (S.extract 0 k = ⟨(l.take k).toArray⟩ ∧ S.extract k S.size = ⟨(l.drop k).toArray⟩) := by
    refine ⟨by rw [hS', extract_toArray]; simp, ?_⟩
    rw [hz, hS', extract_toArray, List.take_of_length_le (by simp)]
   have HS : Hid (S = (⟨l.toArray⟩ : ByteArray)) := hS'
   have hkS : (k : Int) ≤ (l.length : Int) := by omega
   clear hr hS hS' e0 hl
   go_enter Tryz.func64, Tryz.ntmps64
   go_wp2_with fail
   refine hn.mono ?_
   rintro e w1 ⟨rfl, hr1, hk1⟩
   have c1 := hr1.bad
   have c2 := hr1.rest
   have f2 := hr1.free 0
   have b1 : (some l : Hm.Rd).isNone = false := rfl
   have b2 : (⟨((some l : Hm.Rd).getD []).toArray⟩ : ByteArray) = S := HS.out.symm
   rw [b1] at c1
   rw [b2] at c2
   have HN : Hid (RdAt (w1.setCell ⟨p, 0, none⟩ (.string ⟨(l.drop k).toArray⟩)) p (some (l.drop k)) ∧ Kept (fun j => j = p) w (w1.setCell ⟨p, 0, none⟩ (.string ⟨(l.drop k).toArray⟩))) := by
    have h2 := heap_setCell_same w1 p 0 _ _ (.string ⟨(l.drop k).toArray⟩) hr1
    refine ⟨?_, hk1.setCell (.inr rfl) _⟩
    unfold RdAt
    rw [h2]; rfl
   clear hr1 hk1 hn c0 b1 b2
   go_wp2_with fail
   go_ret
   rw [hz] at HX
   rw [HX.out.1, HX.out.2]
   exact ⟨rfl, HN.out.1, HN.out.2⟩
  ·have hdec : decide ((k : Int) ≤ (l.length : Int)) = false := decide_eq_false (by omega)
   have hn := need_any p (some l) false w hr
   have e0 : Hm.needO (some l) false = none := rfl
   rw [e0] at hn
   have HT : Hid (Hm.takeO (some l) k = ([], none)) := Hm.takeO_short hle
   rw [HT.out]
   clear hr hS hS' e0 hl
   go_enter Tryz.func64, Tryz.ntmps64
   go_wp2_with fail
   refine hn.mono ?_
   rintro e w1 ⟨rfl, hr1, hk1⟩
   have c1 := hr1.bad
   have b1 : (none : Hm.Rd).isNone = true := rfl
   rw [b1] at c1
   have H1 : Hid (RdAt w1 p none ∧ Kept (fun j => j = p) w w1) := ⟨hr1, hk1⟩
   clear hr1 hk1 hn c0
   go_wp2_with fail
   go_ret
   exact ⟨rfl, H1.out.1, H1.out.2⟩

end Go.Proofs.YtegnkfdbmmndaaaGreat
end

/- LoadB -/
section
/- A number is read. -/
namespace Go.Proofs.YtegnkfdbmmndaaaGreat
open Go.RowKit

theorem i64_or_nat (a b : Nat) (ha : a < 9223372036854775808) (hb : b < 9223372036854775808) : bits .or .i64 (a : Int) (b : Int) = ((a ||| b : Nat) : Int) := by
 have hx : a ||| b < 2 ^ 63 := Nat.or_lt_two_pow (by omega) (by omega)
 have h1 : (BitVec.ofInt 64 (a : Int)).toNat = a := by rw [BitVec.ofInt_natCast, BitVec.toNat_ofNat]; exact Nat.mod_eq_of_lt (by omega)
 have h2 : (BitVec.ofInt 64 (b : Int)).toNat = b := by rw [BitVec.ofInt_natCast, BitVec.toNat_ofNat]; exact Nat.mod_eq_of_lt (by omega)
 show IntKind.i64.wrap ((BitVec.ofInt 64 (a : Int) ||| BitVec.ofInt 64 (b : Int)).toNat : Int) = _
 rw [BitVec.toNat_or, h1, h2, IntKind.wrap_i64]
 omega
theorem wrap_shift (b k : Nat) (h : b * 2 ^ k < 9223372036854775808) : wrap64 ((b : Int) * 2 ^ k) = ((b * 2 ^ k : Nat) : Int) := by
 have e : ((b * 2 ^ k : Nat) : Int) = (b : Int) * 2 ^ k := by simp
 rw [← e]
 generalize b * 2 ^ k = y at *
 unfold wrap64
 omega

namespace Hm
theorem or_shift (a b k : Nat) (h : a < 2 ^ k) : a ||| b * 2 ^ k = a + b * 2 ^ k := by
 rw [Nat.mul_comm b, Nat.or_comm, ← Nat.two_pow_add_eq_or_of_lt h, Nat.add_comm]
theorem leNum_take (l : List UInt8) (k : Nat) (h : k < l.length) : leNum (l.take (k + 1)) = leNum (l.take k) + l[k].toNat * 2 ^ (8 * k) := by
 rw [List.take_add_one, leNum_append, List.getElem?_eq_getElem h]
 have e : (l.take k).length = k := by simp; omega
 have e2 : (256 : Nat) ^ k = 2 ^ (8 * k) := by rw [Nat.pow_mul]
 simp only [Option.toList, leNum, e, e2, Nat.mul_zero, Nat.add_zero]
 rw [Nat.mul_comm]
end Hm

set_option maxHeartbeats 1000000 in
theorem number_any (p : Nat) (st : Hm.Rd) (k : Nat) (w : World) (hr : RdAt w p st) (hl : Hm.restLen st ≤ 4611686018427387904) (hk : k ≤ 4) :
  Calls Tryz.prog 65 #[.pointer (some ⟨p, 0, none⟩), .int .i64 k] w fun e w' => e = .returned (.int .i64 ((Hm.numO st k).1 : Nat)) ∧ RdAt w' p (Hm.numO st k).2 ∧ Kept (fun j => j = p) w w' := by
 have ht := take_any p st k w hr hl (by omega)
 have hTl := Hm.takeO_length st k
 unfold Hm.numO
 obtain ⟨T, hT⟩ : ∃ T, T = (Hm.takeO st k).1 := ⟨_, rfl⟩
 rw [← hT] at ht hTl ⊢
 have hp := hr.lt
 obtain ⟨S, hS⟩ : ∃ S, S = (⟨T.toArray⟩ : ByteArray) := ⟨_, rfl⟩
 have hSz : S.size = T.length := by rw [hS]; show T.toArray.size = _; simp
 have hSl : S.data.toList = T := by rw [hS]
 rw [← hS] at ht
 have hcv := fun W => Lib.run_convert_string_bytes (P := Tryz.prog) W 9 79 5 S Tryz.underlying9 Tryz.underlying79 Tryz.underlying5
 rw [hSz] at hcv
 clear hT hS hr
 go_enter Tryz.func65, Tryz.ntmps65
 go_wp2_with fail
 refine ht.mono ?_
 rintro e w1 ⟨rfl, hr1, hk1⟩
 have hcw := hcv w1
 obtain ⟨cp, hcp⟩ : ∃ c, c = grownCap w1 T.length 0 5 := ⟨_, rfl⟩
 rw [← hcp] at hcw
 have HC : Hid (∀ j, (h : j < T.length) → (Lib.bytesWorld w1 5 S).cell? ⟨w1.heap.size, j, none⟩ = some (.int .u8 (T[j].toNat : Nat))) := fun j h => by
  rw [Lib.bytesWorld_cell w1 5 S j (by omega), hSl, List.getD_eq_getElem?_getD, List.getElem?_eq_getElem h]; rfl
 have hk2 : Kept (fun _ => False) w1 (Lib.bytesWorld w1 5 S) :=
  ⟨rfl, rfl, rfl, by rw [Lib.bytesWorld_size]; omega, fun k hk _ => Lib.bytesWorld_at_old w1 _ S k hk⟩
 have H1 : Hid (RdAt (Lib.bytesWorld w1 5 S) p (Hm.takeO st k).2 ∧ Kept (fun j => j = p) w (Lib.bytesWorld w1 5 S)) :=
  ⟨hr1.kept hk2 id, hk1.trans hk2 (fun _ _ h => h.elim)⟩
 obtain ⟨W, hW⟩ : ∃ W, W = Lib.bytesWorld w1 5 S := ⟨_, rfl⟩
 rw [← hW] at hcw HC H1
 clear hcv hcp hW hr1 hk1 hk2 ht
 go_wp2_with fail
 try rw [hcw]
 go_wp2_with fail
 go_loopw [5, 13] (fun vn vi wr => ∃ j : Nat, j ≤ T.length ∧ vi = .int .i64 j ∧ vn = .int .i64 (Hm.leNum (T.take j) : Nat) ∧ wr = W) (fun _ vi _ => T.length - (intOf vi).toNat)
 case atStart => exact ⟨0, by omega, rfl, rfl, rfl⟩
 case round =>
  obtain ⟨j, hj, rfl, rfl, rfl⟩ := hrel
  by_cases hlt : j < T.length
  ·have hc := HC.out j hlt
   have hb := T[j].toNat_lt
   have hlb := Hm.leNum_lt (T.take j)
   have hjl : (T.take j).length = j := by simp; omega
   rw [hjl, show (256 : Nat) ^ j = 2 ^ (8 * j) from by rw [Nat.pow_mul]] at hlb
   have HT : Hid (Hm.leNum (T.take (j + 1)) = Hm.leNum (T.take j) + T[j].toNat * 2 ^ (8 * j)) := Hm.leNum_take T j hlt
   obtain ⟨b, hbe⟩ : ∃ b, b = T[j].toNat := ⟨_, rfl⟩
   obtain ⟨a, hae⟩ : ∃ a, a = Hm.leNum (T.take j) := ⟨_, rfl⟩
   rw [← hbe] at hc hb HT
   rw [← hae] at hlb HT ⊢
   have hpw : (2 : Nat) ^ (8 * j) ≤ 16777216 := Nat.pow_le_pow_right (n := 2) (i := 8 * j) (j := 24) (by omega) (by omega)
   have hbm : b * 2 ^ (8 * j) ≤ 255 * 16777216 := Nat.mul_le_mul (by omega) hpw
   have HSH : Hid (wrap64 ((b : Int) * 2 ^ (8 * j)) = ((b * 2 ^ (8 * j) : Nat) : Int)) := wrap_shift b (8 * j) (Nat.lt_of_le_of_lt hbm (by decide))
   have HOR : Hid (bits .or .i64 (a : Int) ((b * 2 ^ (8 * j) : Nat) : Int) = ((a + b * 2 ^ (8 * j) : Nat) : Int)) := by
    show _ = _
    rw [i64_or_nat _ _ (Nat.lt_of_lt_of_le hlb (Nat.le_trans hpw (by decide))) (Nat.lt_of_le_of_lt hbm (by decide)), Hm.or_shift _ _ _ hlb]
   clear hpw hbm hlb
   clear hae hbe hjl
   go_wp2_with fail
   exact ⟨⟨j + 1, by omega, by go_num, by rw [HSH.out, HOR.out, HT.out], trivial⟩, by simp [intOf]; omega⟩
  ·obtain rfl : j = T.length := by omega
   go_wp2_with fail
   go_ret
   rw [List.take_length]
   exact ⟨rfl, H1.out.1, H1.out.2⟩

end Go.Proofs.YtegnkfdbmmndaaaGreat
end
