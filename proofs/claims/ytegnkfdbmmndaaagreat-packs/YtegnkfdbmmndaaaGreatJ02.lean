import Derived.Test.YtegnkfdbmmndaaaGreatJ01
import Derived.Laws.BytesArg
import Derived.Laws.Tables

/- Set -/
section
/- Rows of bits in memory: a bit that is made 1, bits that are added. -/
namespace Go.Proofs.YtegnkfdbmmndaaaGreat
open Go.RowKit

theorem owns_some {w : World} {base : Nat} {e : TypeId} {size : Nat} {v : Value} {n : Nat} {xs : List Value} (h : w.ownsRow base e size v n xs) (hn : 0 < n) : ∃ g cap, v = .slice (some ⟨g, 0, none⟩) n cap ∧ n ≤ cap ∧ g < w.heap.size := by
  rcases h.2 with ⟨rfl, rfl⟩ | ⟨g, cap, cur, rfl, _, hg, hnc, hcm, _⟩
  · omega
  · exact ⟨g, cap, rfl, hnc, lt_of_block hg⟩

theorem Hm.u8cell {x : Nat} (h : x < 256) : Value.int .u8 ((UInt8.ofNat x).toNat : Int) = .int .u8 (x : Int) := by
  rw [UInt8.toNat_ofNat']; congr 2; omega

set_option maxHeartbeats 400000 in
theorem set_any (T pb : Nat) (v : Value) (bits : List Bool) (k : Nat) (w : World) (h : BitsAt w T pb v bits) (hl : bits.length ≤ 20000000) (hk : k < bits.length) :
    Calls Tryz.prog 146 #[.pointer (some ⟨pb, 0, none⟩), .int .i64 k] w fun e w' => e = .returned (.tuple #[]) ∧ BitsAt w' T pb v (bits.set k true) ∧ Kept (Bk pb v) w w' := by
  have hown := h.own
  obtain ⟨g, cap, hv, hnc, hgw⟩ := owns_some hown (by omega)
  subst hv
  have hc0 : w.cell? ⟨pb, 0, none⟩ = some (.slice (some ⟨g, 0, none⟩) ((bits.length + 7) / 8) cap) := cell_of_row _ _ 0 _ _ _ h.blk
  have hc1 : w.cell? ⟨g, k / 8, none⟩ = some (.int .u8 (Hm.byteN bits (k / 8) : Nat)) := by
    rw [hown.cellAt (k / 8) (by omega)]
    simp only [Hm.bcells, List.getElem?_map]
    rw [List.getElem?_eq_getElem (by rw [Hm.packBits_length]; omega), Hm.packBits_get]
    have := Hm.byteN_lt bits (k / 8)
    simp; omega
  have hf1 : w.frozen? ⟨g, k / 8, none⟩ = false := hown.frozenAt _
  have hby := Hm.byteN_lt bits (k / 8)
  have HS := hown.stored (k / 8) (.int .u8 (Hm.byteN bits (k / 8) ||| 2 ^ (k % 8) : Nat))
  generalize hbb : Hm.byteN bits (k / 8) = y at *
  generalize hnn : (bits.length + 7) / 8 = n at *
  have hkn : (k : Int) / 8 < (n : Int) := by omega
  have HE : Hid (Go.bits .or .u8 (y : Int) ((2 : Int) ^ (k % 8) % 256) = ((y ||| 2 ^ (k % 8) : Nat) : Int)) := by
    have hp : 2 ^ (k % 8) < 256 := Nat.pow_lt_pow_right (a := 2) (by omega) (by omega : k % 8 < 8)
    have e1 : ((2 : Int) ^ (k % 8) % 256) = ((2 ^ (k % 8) : Nat) : Int) := by
      have : ((2 ^ (k % 8) : Nat) : Int) = (2 : Int) ^ (k % 8) := by simp
      rw [← this]; exact Int.emod_eq_of_lt (Int.natCast_nonneg _) (Int.ofNat_lt.2 hp)
    show _ = _
    rw [e1]; exact u8_or_nat _ _ hby hp
  have HR : Hid (BitsAt (w.setCell ⟨g, k / 8, none⟩ (.int .u8 (y ||| 2 ^ (k % 8) : Nat))) T pb (.slice (some ⟨g, 0, none⟩) n cap) (bits.set k true)) := by
    refine ⟨?_, ?_, h.ne⟩
    · have hb := h.blk
      rw [Below.heap_setCell _ _ _ _ (fun e => h.ne (by rw [e]; rfl)), hb]; simp
    · rw [Hm.packBits_set _ _ hk, hbb]
      have e : (bits.set k true).length = bits.length := by simp
      have e2 : Hm.bcells ((Hm.packBits bits).set (k / 8) (UInt8.ofNat (y ||| 2 ^ (k % 8)))) = (Hm.bcells (Hm.packBits bits)).set (k / 8) (.int .u8 (y ||| 2 ^ (k % 8) : Nat)) := by
        have hp : 2 ^ (k % 8) < 256 := Nat.pow_lt_pow_right (a := 2) (by omega) (by omega : k % 8 < 8)
        have ho : y ||| 2 ^ (k % 8) < 2 ^ 8 := Nat.or_lt_two_pow (by omega) (by omega)
        rw [Hm.bcells, List.map_set]
        rw [Hm.u8cell (by omega)]; rfl
      rw [e, hnn, e2]; exact HS.1
  clear h hown HS hbb hnn
  go_enter Tryz.func146, Tryz.ntmps146
  go_wp2
  go_region
  go_end0
  rw [HE.out]
  refine ⟨rfl, ?_, ((Kept.refl _ _).setCell (.inr (.inr rfl)) _).drew⟩
  exact ⟨HR.out.blk, HR.out.own, HR.out.ne⟩

end Go.Proofs.YtegnkfdbmmndaaaGreat
end

/- AddBits -/
section
/- Bits and numbers that are added to a row of bits. -/
namespace Go.Proofs.YtegnkfdbmmndaaaGreat
open Go.RowKit

theorem bk_trans {pb : Nat} {v v' : Value} {w w1 w2 : World} (h : Kept (Bk pb v) w w1) (hm : Moved w v v') (h2 : Kept (Bk pb v') w1 w2) : Kept (Bk pb v) w w2 :=
  h.trans h2 fun j hj hb => by
    rcases hb with hb | hb
    · exact .inl hb
    · rcases hm j hb with x | x
      · exact .inr x
      · omega

set_option maxHeartbeats 400000 in
theorem len_any (T pb : Nat) (v : Value) (bits : List Bool) (w : World) (h : BitsAt w T pb v bits) :
    Calls Tryz.prog 143 #[.pointer (some ⟨pb, 0, none⟩)] w fun e w' => e = .returned (.int .i64 (bits.length : Nat)) ∧ w = w' := by
  have hc1 : w.cell? ⟨pb, 1, none⟩ = some (.int .i64 (bits.length : Nat)) := cell_of_row _ _ 1 _ _ _ h.blk
  clear h
  go_enter Tryz.func143, Tryz.ntmps143
  go_wp2
  go_ret
  exact ⟨rfl, rfl⟩

set_option maxHeartbeats 400000 in
theorem add_any (T pb : Nat) (v : Value) (bits : List Bool) (x : Nat) (w : World) (h : BitsAt w T pb v bits) (hl : bits.length ≤ 9000000) (hx : x ≤ 1) :
    Calls Tryz.prog 152 #[.pointer (some ⟨pb, 0, none⟩), .int .i64 x] w fun e w' => ∃ v', e = .returned (.tuple #[]) ∧ BitsAt w' T pb v' (bits ++ [decide (x = 1)]) ∧ Kept (Bk pb v) w w' ∧ Moved w v v' := by
  have hg := grow_any T pb v bits 1 w h (by omega) (by omega)
  clear h
  by_cases e : x = 1
  · subst e
    go_enter Tryz.func152, Tryz.ntmps152
    go_wp2_with fail
    refine hg.mono ?_
    rintro e w1 ⟨v1, rfl, hb1, hk1, hm1⟩
    have hs := set_any T pb v1 (bits ++ List.replicate 1 false) bits.length w1 hb1 (by simp; omega) (by simp)
    rw [show (bits ++ List.replicate 1 false).set bits.length true = bits ++ [true] from Hm.set_snoc bits true] at hs
    have hc1 : w1.cell? ⟨pb, 1, none⟩ = some (.int .i64 ((bits.length : Int) + 1)) := by
      rw [cell_of_row _ _ 1 _ _ _ hb1.blk]; simp
    clear hg
    go_wp2_with fail
    refine hs.mono ?_
    rintro e w2 ⟨rfl, hb2, hk2⟩
    go_wp2
    go_end0
    exact ⟨v1, rfl, hb2, bk_trans hk1 hm1 hk2, hm1⟩
  · obtain rfl : x = 0 := by omega
    go_enter Tryz.func152, Tryz.ntmps152
    go_wp2_with fail
    refine hg.mono ?_
    rintro e w1 ⟨v1, rfl, hb1, hk1, hm1⟩
    clear hg
    go_wp2
    go_end0
    exact ⟨v1, rfl, hb1, hk1, hm1⟩

namespace Hm
def numBits (x k : Nat) : List Bool := (List.range k).map fun i => decide (x / 2 ^ i % 2 = 1)
theorem numBits_length (x k : Nat) : (numBits x k).length = k := by simp [numBits]
theorem numBits_succ (x k : Nat) : numBits x (k + 1) = numBits x k ++ [decide (x / 2 ^ k % 2 = 1)] := by simp [numBits, List.range_succ]
theorem and_bit (y : Nat) (hy : y < 4294967296) : Go.bits .and .i64 (y : Int) 1 = ((y % 2 : Nat) : Int) := by
  show IntKind.i64.wrap ((BitVec.ofInt 64 (y : Int) &&& BitVec.ofInt 64 1).toNat : Int) = _
  rw [BitVec.toNat_and, BitVec.ofInt_natCast, BitVec.toNat_ofNat, Nat.mod_eq_of_lt (by omega : y < 2 ^ 64), show (BitVec.ofInt 64 1).toNat = 1 from rfl, Nat.and_one_is_mod]
  have := Nat.mod_lt y (y := 2) (by omega)
  rw [IntKind.wrap_i64]; omega
end Hm

set_option maxHeartbeats 400000 in
theorem addNum_any (T pb : Nat) (v : Value) (bits : List Bool) (x k : Nat) (w : World) (h : BitsAt w T pb v bits) (hl : bits.length ≤ 8000000) (hx : x < 4294967296) (hk : k ≤ 60) :
    Calls Tryz.prog 142 #[.pointer (some ⟨pb, 0, none⟩), .int .i64 x, .int .i64 k] w fun e w' => ∃ v', e = .returned (.tuple #[]) ∧ BitsAt w' T pb v' (bits ++ Hm.numBits x k) ∧ Kept (Bk pb v) w w' ∧ Moved w v v' := by
  go_enter Tryz.func142, Tryz.ntmps142
  go_wp2
  go_loopw [8] (fun i wr => ∃ (j : Nat) (v' : Value), j ≤ k ∧ i = .int .i64 j ∧ BitsAt wr T pb v' (bits ++ Hm.numBits x j) ∧ Kept (Bk pb v) w wr ∧ Moved w v v') (fun i _ => k - (intOf i).toNat)
  case atStart => exact ⟨0, v, Nat.zero_le _, rfl, by simpa [Hm.numBits] using h, Kept.refl _ _, Moved.refl _ _⟩
  case round =>
    obtain ⟨j, v', hj, rfl, hb, hkr, hmr⟩ := hrel
    have hll : (bits ++ Hm.numBits x j).length ≤ 9000000 := by simp [Hm.numBits_length]; omega
    by_cases hlt : j < k
    · obtain ⟨y, hy, hsh, HY⟩ : ∃ y : Nat, y < 4294967296 ∧ (x : Int) / 2 ^ j = (y : Int) ∧ Hid (y = x / 2 ^ j) := by
        refine ⟨x / 2 ^ j, Nat.lt_of_le_of_lt (Nat.div_le_self _ _) hx, ?_, rfl⟩
        simp
      obtain ⟨z, hz⟩ : ∃ z, y % 2 = z := ⟨_, rfl⟩
      have hab := Hm.and_bit y hy
      rw [hz] at hab
      have HZ : Hid (y % 2 = z) := hz
      have hz1 : z ≤ 1 := by omega
      clear h hz
      go_wp2_with fail
      refine (add_any T pb v' _ z wr hb hll hz1).mono ?_
      rintro e w1 ⟨v1, rfl, hb1, hk1, hm1⟩
      go_wp2
      go_roundw
      case rel =>
        refine ⟨j + 1, v1, by omega, by go_num, ?_, bk_trans hkr hmr hk1, hmr.trans hm1 hkr.size⟩
        rw [Hm.numBits_succ, ← HY.out, HZ.out, ← List.append_assoc]
        exact hb1
      case measure => simp [intOf]; omega
    · clear h
      go_wp2
      go_end0
      obtain rfl : j = k := by omega
      exact ⟨v', rfl, hb, hkr, hmr⟩

end Go.Proofs.YtegnkfdbmmndaaaGreat
end

/- Packed -/
section
/- A row of bytes as a string. -/
namespace Go.Proofs.YtegnkfdbmmndaaaGreat
open Go.RowKit

theorem convert_own {w : World} {base : Nat} {v : Value} {n : Nat} {l : List UInt8} (h : w.ownsRow base 5 1 v n (Hm.bcells l)) :
    (convert 79 9 v).run Tryz.prog w = .ok (.string ⟨l.toArray⟩) w := by
  have hl : l.length = n := by have := h.1; simpa [Hm.bcells] using this
  rcases h.2 with ⟨rfl, rfl⟩ | ⟨g, cap, cur, rfl, _⟩
  · have : l = [] := List.eq_nil_of_length_eq_zero hl
    subst this
    exact run_convert_bytes_nil w _ _ Tryz.underlying79 Tryz.underlying5 0 0 _ Tryz.underlying9
  · have hr := run_convert_bytes_arg w _ _ Tryz.underlying79 Tryz.underlying5 g 0 n cap (l.map fun b => (b.toNat : Int)) (by simpa using hl) (fun i hi => by
      have hc := h.cellAt i (by omega)
      have hil : i < l.length := by omega
      simp only [Nat.zero_add]
      rw [hc, Hm.bcells, List.getElem?_map, List.getElem?_eq_getElem hil, List.getD_eq_getElem?_getD, List.getElem?_map, List.getElem?_eq_getElem hil]; rfl) _ Tryz.underlying9
    have e : strOfNums (l.map fun b => (b.toNat : Int)) = ⟨l.toArray⟩ := by
      unfold strOfNums
      rw [List.map_map]
      have e2 : ((fun n : Int => UInt8.ofNat n.toNat) ∘ fun b : UInt8 => (b.toNat : Int)) = id := by funext b; simp
      rw [e2, List.map_id]
    rw [e] at hr
    exact hr

set_option maxHeartbeats 400000 in
theorem row_any (T pb : Nat) (v : Value) (bits : List Bool) (w : World) (h : BitsAt w T pb v bits) :
    Calls Tryz.prog 148 #[.pointer (some ⟨pb, 0, none⟩)] w fun e w' => e = .returned (.agg #[.string ⟨(Hm.packBits bits).toArray⟩, .int .i64 (bits.length : Nat)]) ∧ Kept (fun _ => False) w w' := by
  have hc0 : w.cell? ⟨pb, 0, none⟩ = some v := cell_of_row _ _ 0 _ _ _ h.blk
  have hc1 : w.cell? ⟨pb, 1, none⟩ = some (.int .i64 (bits.length : Nat)) := cell_of_row _ _ 1 _ _ _ h.blk
  have hcv : ∀ W, Kept (fun _ => False) w W → (convert 79 9 v).run Tryz.prog W = .ok (.string ⟨(Hm.packBits bits).toArray⟩) W := fun W hk => convert_own (hk.owns h.own fun _ _ h => h)
  have hpw : pb < w.heap.size := lt_of_block h.blk
  clear h
  generalize (⟨(Hm.packBits bits).toArray⟩ : ByteArray) = s at *
  go_enter Tryz.func148, Tryz.ntmps148
  go_wp2
  have hal : Kept (fun _ => False) w (w.alloc (.cells #[.string ⟨#[]⟩, .int .i64 0] 83)) := (Kept.refl _ _).alloc _
  have hnw := heap_alloc_new w (.cells #[.string ⟨#[]⟩, .int .i64 0] 83)
  have hne : pb ≠ w.heap.size := by omega
  generalize w.alloc (.cells #[.string ⟨#[]⟩, .int .i64 0] 83) = W at *
  have p0 : W.cell? ⟨pb, 0, none⟩ = some v := (hal.cell (p := ⟨pb, 0, none⟩) hpw id).trans hc0
  have p1 : W.cell? ⟨pb, 1, none⟩ = some (.int .i64 (bits.length : Nat)) := (hal.cell (p := ⟨pb, 1, none⟩) hpw id).trans hc1
  have p2 : W.cell? ⟨w.heap.size, 0, none⟩ = some (.string ⟨#[]⟩) := cell_of_row _ _ 0 _ _ _ hnw
  have p3 : W.cell? ⟨w.heap.size, 1, none⟩ = some (.int .i64 0) := cell_of_row _ _ 1 _ _ _ hnw
  have f2 : W.frozen? ⟨w.heap.size, 0, none⟩ = false := frozen_of_row _ _ 0 _ _ hnw
  have f3 : W.frozen? ⟨w.heap.size, 1, none⟩ = false := frozen_of_row _ _ 1 _ _ hnw
  have hcw := hcv W hal
  have hcw2 := hcv W.drew hal.drew
  have HX : Hid (Kept (fun _ => False) w W ∧ W.heap[w.heap.size]? = some (.cells #[.string ⟨#[]⟩, .int .i64 0] 83 (0, 0))) := ⟨hal, hnw⟩
  clear hal hnw hcv hc0 hc1
  go_region
  go_wp2
  obtain ⟨hal, hnw⟩ := HX.out
  have h2 := heap_setCell_same _ _ 1 _ _ (.int .i64 (bits.length : Nat)) (heap_setCell_same _ _ 0 _ _ (.string s) hnw)
  refine bodyPost_ret (v := .agg #[.string s, .int .i64 (bits.length : Nat)]) (results_cell_row Tryz.results148 _ _ w.heap.size 83 _ (0, 0) _ rfl h2 Tryz.underlying83 rfl (by kernel_rfl)) rfl ⟨rfl, ?_⟩
  exact ((hal.setCell (.inl (Nat.le_refl _)) _).setCell (.inl (Nat.le_refl _)) _).drew

set_option maxHeartbeats 400000 in
theorem packed_any (pb o : Nat) (s : ByteArray) (w : World) (h : w.cell? ⟨pb, o, none⟩ = some (.string s)) :
    Calls Tryz.prog 104 #[.pointer (some ⟨pb, o, none⟩)] w fun e w' => e = .returned (.string s) ∧ w' = w := by
  go_enter Tryz.func104, Tryz.ntmps104
  go_wp2
  go_ret
  exact ⟨rfl, rfl⟩

set_option maxHeartbeats 400000 in
theorem bitsLen_any (pb o n : Nat) (w : World) (h : w.cell? ⟨pb, o + 1, none⟩ = some (.int .i64 n)) :
    Calls Tryz.prog 182 #[.pointer (some ⟨pb, o, none⟩)] w fun e w' => e = .returned (.int .i64 n) ∧ w' = w := by
  go_enter Tryz.func182, Tryz.ntmps182
  go_wp2
  go_ret
  exact ⟨rfl, rfl⟩

end Go.Proofs.YtegnkfdbmmndaaaGreat
end

/- Ends -/
section
/- The files' ends as a row of bits. -/
namespace Go.Proofs.YtegnkfdbmmndaaaGreat
open Go.RowKit

namespace Hm
def lowFrom (m n : Nat) : Nat → Nat → Nat
  | 0, j => j
  | f + 1, j => if m * 2 ^ (j + 1) ≤ n then lowFrom m n f (j + 1) else j
def lowW (m n : Nat) : Nat := if m = 0 then 0 else lowFrom m n 14 0
def endLow (es : List Nat) (l : Nat) : List Bool := es.flatMap fun e => numBits e l
def endSets (es : List Nat) (l h : Nat) (R : List Bool) : Nat → List Bool
  | 0 => R
  | k + 1 => (endSets es l h R k).set (h + es.getD k 0 / 2 ^ l + k) true
def endsBits (es : List Nat) (n : Nat) : List Bool :=
  endSets es (lowW es.length n) (endLow es (lowW es.length n)).length (endLow es (lowW es.length n) ++ List.replicate (es.length + n / 2 ^ lowW es.length n + 1) false) es.length
theorem endSets_length (es : List Nat) (l h : Nat) (R : List Bool) (k : Nat) : (endSets es l h R k).length = R.length := by
  induction k with
  | zero => rfl
  | succ k ih => simp [endSets, ih]
theorem endLow_length (es : List Nat) (l : Nat) : (endLow es l).length = es.length * l := by
  induction es with
  | nil => simp [endLow]
  | cons e r ih => simp only [endLow, List.flatMap_cons, List.length_append, numBits_length, List.length_cons] at ih ⊢; rw [ih, Nat.add_mul]; omega
theorem endLow_take (es : List Nat) (l k : Nat) (h : k < es.length) : endLow (es.take (k + 1)) l = endLow (es.take k) l ++ numBits es[k] l := by
  rw [List.take_succ_eq_append_getElem h]; unfold endLow; rw [List.flatMap_append]; congr 1; simp
theorem lowFrom_le (m n : Nat) (hm : 1 ≤ m) (hn : n ≤ 6000) : ∀ f j, j ≤ 12 → lowFrom m n f j ≤ 12 := by
  intro f
  induction f with
  | zero => intro j hj; exact hj
  | succ f ih =>
    intro j hj
    unfold lowFrom
    split
    · rename_i h
      refine ih (j + 1) ?_
      rcases Nat.lt_or_ge j 12 with h1 | h1
      · omega
      · have : j = 12 := by omega
        subst this
        have : 1 * 2 ^ 13 ≤ m * 2 ^ 13 := Nat.mul_le_mul_right _ hm
        omega
    · exact hj
theorem lowW_le (m n : Nat) (hn : n ≤ 6000) : lowW m n ≤ 12 := by
  unfold lowW; split
  · omega
  · exact lowFrom_le m n (by omega) hn 14 0 (by omega)
end Hm

set_option maxHeartbeats 400000 in
theorem lowWidth_any (m n : Nat) (w : World) (hm : m ≤ 1000) (hn : n ≤ 6000) :
    Calls Tryz.prog 141 #[.int .i64 m, .int .i64 n] w fun e w' => e = .returned (.int .i64 (Hm.lowW m n : Nat)) ∧ w = w' := by
  by_cases h0 : m = 0
  · subst h0
    go_enter Tryz.func141, Tryz.ntmps141
    go_wp2
    go_ret
    exact ⟨rfl, rfl⟩
  have HE : Hid (Hm.lowW m n = Hm.lowFrom m n (14 - 0) 0) := by unfold Hm.lowW; rw [if_neg h0]; rfl
  generalize Hm.lowW m n = L at HE ⊢
  have h1 : 1 ≤ m := by omega
  have hb0 : ((m : Int) == 0) = false := by simp; omega
  go_enter Tryz.func141, Tryz.ntmps141
  go_wp2
  go_loop [5] (fun i => ∃ j : Nat, j ≤ 12 ∧ i = .int .i64 j ∧ m * 2 ^ j ≤ 6000 + m ∧ L = Hm.lowFrom m n (14 - j) j) (fun i => 14 - (intOf i).toNat)
  case atStart => exact ⟨0, by omega, rfl, by omega, HE.out⟩
  case round =>
    clear HE
    obtain ⟨j, hj, rfl, hp, hL⟩ := hrel
    have HL : Hid (L = if m * 2 ^ (j + 1) ≤ n then Hm.lowFrom m n (13 - j) (j + 1) else j) := by
      show _ = _
      rw [hL, show 14 - j = (13 - j) + 1 from by omega]; rfl
    have e2 : m * 2 ^ (j + 1) = m * 2 ^ j * 2 := by rw [Nat.pow_succ, Nat.mul_assoc]
    obtain ⟨p, hpe, HP⟩ : ∃ p : Nat, (m : Int) * 2 ^ (j + 1) = (p : Int) ∧ Hid (p = m * 2 ^ (j + 1)) := ⟨m * 2 ^ (j + 1), by simp, rfl⟩
    have hpb : p ≤ 14000 := by have := HP.out; omega
    have hj2 : p ≤ n → j < 12 := by
      intro hpn
      rcases Nat.lt_or_ge j 12 with h | h
      · exact h
      · have : j = 12 := by omega
        subst this
        have h3 := HP.out
        have : 1 * 2 ^ 13 ≤ m * 2 ^ 13 := Nat.mul_le_mul_right _ h1
        omega
    have HJ : Hid ((p ≤ n → j < 12) ∧ m * 2 ^ j ≤ 6000 + m) := ⟨hj2, hp⟩
    clear hL hp e2 hj2
    by_cases hpn : p ≤ n
    · go_wp2
      go_round
      case rel =>
        have h3 := HP.out
        refine ⟨j + 1, by have := HJ.out.1 hpn; omega, by go_num, by rw [← h3]; omega, ?_⟩
        rw [HL.out, if_pos (by omega)]
        congr 1; omega
      case measure => simp [intOf]; omega
    · go_wp2
      go_ret
      have h3 := HP.out
      refine ⟨?_, rfl⟩
      have : L = j := by rw [HL.out, if_neg (by omega)]
      rw [this]; rfl

end Go.Proofs.YtegnkfdbmmndaaaGreat
end

/- IntsAt -/
section
/- Numbers in memory. -/
namespace Go.Proofs.YtegnkfdbmmndaaaGreat
open Go.RowKit

/-- Numbers that are not negative lie in memory from an address on. -/
def IntsAt (w : World) (ao : Option Addr) (es : List Nat) : Prop :=
  ∀ i, (h : i < es.length) → ∃ b o, ao = some ⟨b, o, none⟩ ∧ b < w.heap.size ∧ w.cell? ⟨b, o + i, none⟩ = some (.int .i64 (es[i] : Nat))
theorem IntsAt.kept {S : Nat → Prop} {w w' : World} {ao : Option Addr} {es : List Nat} (h : IntsAt w ao es) (hk : Kept S w w') (hn : ∀ a, ao = some a → ¬ S a.block) : IntsAt w' ao es := by
  intro i hi
  obtain ⟨b, o, e, hb, h1⟩ := h i hi
  have hs := hn _ e
  exact ⟨b, o, e, by have := hk.size; omega, (hk.cell (p := ⟨b, o + i, none⟩) hb hs).trans h1⟩
theorem IntsAt.lt {w : World} {ao : Option Addr} {es : List Nat} (h : IntsAt w ao es) (hp : 0 < es.length) : ∀ a, ao = some a → a.block < w.heap.size := by
  intro a ha
  obtain ⟨b, o, e, hb, _⟩ := h 0 hp
  rw [ha] at e; cases e; exact hb

theorem bits_new (w : World) (T : Nat) (o : Obj) : BitsAt ((w.alloc o).alloc (.cells #[.slice none 0 0, .int .i64 0] T)) T (w.heap.size + 1) (.slice none 0 0) [] :=
  ⟨heap_alloc2_new w _ _, World.ownsRow_nil _ _ _ _, by simp [Value.ownBlock]⟩

end Go.Proofs.YtegnkfdbmmndaaaGreat
end

/- Ints -/
section
/- Rows of numbers that a call has made; the first ranks. -/
namespace Go.Proofs.YtegnkfdbmmndaaaGreat
open Go.RowKit

theorem info_int : (Tryz.prog.info? 3).map (fun i => (i.zero, i.size, i.bytes)) = some (some (.int .i64 0), 1, 8) := by kernel_rfl

def icells (l : List Nat) : List Value := l.map fun x => Value.int .i64 (x : Nat)
/-- Block g is a row of these numbers. -/
def IntRow (w : World) (g : Nat) (l : List Nat) : Prop := w.heap[g]? = some (.cells (icells l).toArray 3 (0, 0))
theorem IntRow.cell {w : World} {g : Nat} {l : List Nat} (h : IntRow w g l) {i : Nat} (hi : i < l.length) : w.cell? ⟨g, i, none⟩ = some (.int .i64 (l[i] : Nat)) := by
  rw [cell_of_row _ _ i _ _ _ h]; simp [icells, hi]
theorem IntRow.free {w : World} {g : Nat} {l : List Nat} (h : IntRow w g l) (i : Nat) : w.frozen? ⟨g, i, none⟩ = false := frozen_of_row _ _ i _ _ h
theorem IntRow.set {w : World} {g : Nat} {l : List Nat} (h : IntRow w g l) (i x : Nat) : IntRow (w.setCell ⟨g, i, none⟩ (.int .i64 (x : Nat))) g (l.set i x) := by
  have h2 := heap_setCell_same w g i _ _ (.int .i64 (x : Nat)) h
  unfold IntRow
  rw [h2]
  congr 2
  apply Array.ext'
  simp [icells, List.map_set]
theorem IntRow.lt {w : World} {g : Nat} {l : List Nat} (h : IntRow w g l) : g < w.heap.size := lt_of_block h
theorem IntRow.at {w : World} {g : Nat} {l : List Nat} (h : IntRow w g l) : IntsAt w (some ⟨g, 0, none⟩) l := fun i hi => ⟨g, 0, rfl, h.lt, by rw [Nat.zero_add]; exact h.cell hi⟩
theorem IntRow.kept {S : Nat → Prop} {w w' : World} {g : Nat} {l : List Nat} (h : IntRow w g l) (hk : Kept S w w') (hn : ¬ S g) : IntRow w' g l := hk.row h hn
theorem IntRow.made {w' : World} {g n : Nat} {base : Nat} (h : w'.ownsRow base 3 1 (.slice (some ⟨g, 0, none⟩) n n) n (madeCells (Value.int .i64 0).cells (n * 1)).toList) : IntRow w' g (List.replicate n 0) := by
  rcases h.2 with ⟨h1, _⟩ | ⟨g2, cap, cur, h1, _, hg, _, _, hs, ht⟩
  · cases h1
  · cases h1
    unfold IntRow
    rw [hg]
    congr 2
    apply Array.ext'
    have e : cur.toList.take (n * 1) = cur.toList := List.take_of_length_le (by simp; omega)
    rw [← e, ht, Nat.mul_one, show (Value.int .i64 0).cells = #[Value.int .i64 0] from rfl, toList_madeCells_one]
    simp [icells]

namespace Hm
def ranks0 (s : List UInt8) : List Nat := (s.map fun b => b.toNat + 1) ++ [0]
def ranksTo (s : List UInt8) (k : Nat) : List Nat := ((s.take k).map fun b => b.toNat + 1) ++ List.replicate (s.length + 1 - k) 0
theorem ranksTo_length (s : List UInt8) (k : Nat) (h : k ≤ s.length) : (ranksTo s k).length = s.length + 1 := by simp [ranksTo]; omega
theorem ranksTo_succ (s : List UInt8) (k : Nat) (h : k < s.length) : ranksTo s (k + 1) = (ranksTo s k).set k (s[k].toNat + 1) := by
  have hl : ((s.take k).map fun b => b.toNat + 1).length = k := by simp; omega
  rw [ranksTo, ranksTo, List.set_append_right _ _ (by omega), hl, Nat.sub_self, List.take_succ_eq_append_getElem h, List.map_append, List.append_assoc]
  congr 1
  rw [show s.length + 1 - k = (s.length + 1 - (k + 1)) + 1 from by omega, List.replicate_succ]
  rfl
theorem ranksTo_all (s : List UInt8) : ranksTo s s.length = ranks0 s := by simp [ranksTo, ranks0]
end Hm

set_option maxHeartbeats 400000 in
theorem firstRanks_any (s : ByteArray) (w : World) (hs : s.size ≤ 6000) :
    Calls Tryz.prog 132 #[.string s] w fun e w' => e = .returned (.slice (some ⟨w.heap.size, 0, none⟩) (s.size + 1) (s.size + 1)) ∧ IntRow w' w.heap.size (Hm.ranks0 s.data.toList) ∧ Kept (fun _ => False) w w' := by
  obtain ⟨i0, hi, hz0, hz1, hz2⟩ := info_parts info_int
  have hsl : s.data.toList.length = s.size := by simp
  go_enter Tryz.func132, Tryz.ntmps132
  go_wp2_with (at_make; refine wpList_make_full _ rfl (.tmp 7) (.tmp 7) 64 rfl w.heap.size 3 i0 (.int .i64 0) 1 Tryz.underlying64 hi hz0 hz1 .i64 .i64 _ _ (s.size + 1) rfl rfl (by omega) (by omega) (by rw [hz2]; omega) (by unfold maxLen; omega) (Nat.le_refl _) ?_; intro w1 ho1 hg1)
  have hr1 : IntRow w1 w.heap.size (Hm.ranksTo s.data.toList 0) := by
    have := IntRow.made ho1
    simpa [Hm.ranksTo] using this
  have hk1 : Kept (fun _ => False) w w1 := (Kept.refl _ _).grown hg1 (fun k hk => by cases hk)
  clear ho1 hg1
  go_loopw [11] (fun i wr => ∃ k : Nat, k ≤ s.size ∧ i = .int .i64 k ∧ IntRow wr w.heap.size (Hm.ranksTo s.data.toList k) ∧ Kept (fun _ => False) w wr) (fun i _ => s.size - (intOf i).toNat)
  case atStart => exact ⟨0, Nat.zero_le _, rfl, hr1, hk1⟩
  case round =>
    clear hr1 hk1
    obtain ⟨k, hk, rfl, hr, hkr⟩ := hrel
    by_cases hlt : k < s.size
    · have hlr := Hm.ranksTo_length s.data.toList k (by omega)
      have hc := hr.cell (i := k) (by omega)
      have hf := hr.free k
      have HS : Hid (IntRow (wr.setCell ⟨w.heap.size, k, none⟩ (.int .i64 ((s[k].toNat + 1 : Nat) : Int))) w.heap.size (Hm.ranksTo s.data.toList (k + 1))) := by
        show IntRow _ _ _
        rw [Hm.ranksTo_succ _ _ (by omega)]
        exact hr.set k _
      rw [show ((s[k].toNat + 1 : Nat) : Int) = (s[k].toNat : Int) + 1 from by omega] at HS
      have hby : s[k].toNat < 256 := s[k].toNat_lt
      generalize (Hm.ranksTo s.data.toList k)[k]'(by omega) = old at hc
      clear hr hlr hsl
      go_wp2
      go_roundw
      case rel => exact ⟨k + 1, by omega, by go_num, HS.out, hkr.setCell (.inl (Nat.le_refl _)) _⟩
      case measure => simp [intOf]; omega
    · go_wp2
      go_ret
      obtain rfl : k = s.size := by omega
      refine ⟨rfl, ?_, hkr⟩
      rw [← hsl, Hm.ranksTo_all] at hr
      exact hr

end Go.Proofs.YtegnkfdbmmndaaaGreat
end

/- Singles -/
section
/- How often a text of one byte has each byte; its one group. -/
namespace Go.Proofs.YtegnkfdbmmndaaaGreat
open Go.RowKit

/-- Block g is an array of these numbers. -/
def ArrRow (w : World) (t g : Nat) (l : List Nat) : Prop := w.heap[g]? = some (.cells (icells l).toArray t (0, 0))
theorem ArrRow.cell {w : World} {t g : Nat} {l : List Nat} (h : ArrRow w t g l) {i : Nat} (hi : i < l.length) : w.cell? ⟨g, i, none⟩ = some (.int .i64 (l[i] : Nat)) := by
  rw [cell_of_row _ _ i _ _ _ h]; simp [icells, hi]
theorem ArrRow.free {w : World} {t g : Nat} {l : List Nat} (h : ArrRow w t g l) (i : Nat) : w.frozen? ⟨g, i, none⟩ = false := frozen_of_row _ _ i _ _ h
theorem ArrRow.set {w : World} {t g : Nat} {l : List Nat} (h : ArrRow w t g l) (i x : Nat) : ArrRow (w.setCell ⟨g, i, none⟩ (.int .i64 (x : Nat))) t g (l.set i x) := by
  have h2 := heap_setCell_same w g i _ _ (.int .i64 (x : Nat)) h
  unfold ArrRow
  rw [h2]
  congr 2
  apply Array.ext'
  simp [icells, List.map_set]
theorem ArrRow.lt {w : World} {t g : Nat} {l : List Nat} (h : ArrRow w t g l) : g < w.heap.size := lt_of_block h
theorem ArrRow.kept {S : Nat → Prop} {w w' : World} {t g : Nat} {l : List Nat} (h : ArrRow w t g l) (hk : Kept S w w') (hn : ¬ S g) : ArrRow w' t g l := hk.row h hn
theorem zero_arr : Tryz.zeroCells94 = (icells (List.replicate 256 0)).toArray := by kernel_rfl
theorem zero_len : Tryz.zeroCells139 = (icells (List.replicate 256 0)).toArray := by kernel_rfl

theorem run_index_arr (T : TypeId) (n : Nat) (hT : Tryz.prog.underlying T = some (.array n 3)) (l : List Nat) (i : Nat) (hi : i < l.length) (hn : l.length = n) (w : World) :
    (Instr.index T (.agg (icells l).toArray) (.int .i64 (i : Nat))).run Tryz.prog w = .ok (.int .i64 (l[i] : Nat)) w := by
  have z3 := Tryz.sizeOf3
  have a3 := Tryz.isAgg3
  have hlt : (i : Int) < (n : Int) := by omega
  unfold Instr.index
  simp only [Sem.run_bind, run_underlying hT, Result.andThen_ok, asIntOf, Sem.run_pure, Int.natCast_nonneg, hlt, and_self, if_true, z3, Int.toNat_natCast, Nat.mul_one, part, a3]
  simp [icells, hi]

namespace Hm
/-- Noughts, and one number among them. -/
def oneAt (N c k : Nat) : List Nat := (List.replicate N 0).set c k
theorem oneAt_length (N c k : Nat) : (oneAt N c k).length = N := by simp [oneAt]
theorem oneAt_zero (N c : Nat) : oneAt N c 0 = List.replicate N 0 := by
  apply List.ext_getElem
  · simp [oneAt]
  · intro i h1 h2
    simp only [oneAt, List.getElem_set, List.getElem_replicate, ite_self]
theorem oneAt_get (N c k i : Nat) (h : i < (oneAt N c k).length) : (oneAt N c k)[i] = if i = c then k else 0 := by
  simp only [oneAt, List.getElem_set, List.getElem_replicate]
  by_cases e : c = i
  · rw [if_pos e, if_pos e.symm]
  · rw [if_neg e, if_neg (fun x => e x.symm)]
theorem oneAt_set (N c k j : Nat) : (oneAt N c k).set c j = oneAt N c j := by simp only [oneAt, List.set_set]
end Hm

theorem info_group : (Tryz.prog.info? 216).map (fun i => (i.zero, i.size, i.bytes)) = some (some (.agg #[.int .i64 0, .int .u8 0, .slice none 0 0]), 3, 40) := by kernel_rfl

set_option maxHeartbeats 1000000 in
theorem singles_one (s : ByteArray) (cn : Nat) (w : World) (hs : s.size ≤ 6000) (hm : 1 ≤ s.size) (hcn : cn < 256) (hc : ∀ k, (h : k < s.size) → s[k].toNat = cn) :
    Calls Tryz.prog 138 #[.string s] w fun e w' => ∃ v mb, e = .returned v ∧ w'.ownsRow w.heap.size 216 3 v 1 [.int .i64 (s.size : Nat), .int .u8 (cn : Nat), .slice (some ⟨mb, 0, none⟩) 1 1] ∧ Kept (fun _ => False) w w' := by
  obtain ⟨i0, hi, hz0, hz1, hz2⟩ := info_parts info_group
  have hza := zero_arr
  have hr0 : ArrRow (w.alloc (.cells Tryz.zeroCells94 94)) 94 w.heap.size (Hm.oneAt 256 cn 0) := by
    unfold ArrRow
    rw [heap_alloc_new, hza, Hm.oneAt_zero]
  have HR0 : Hid (ArrRow (w.alloc (.cells Tryz.zeroCells94 94)) 94 w.heap.size (Hm.oneAt 256 cn 0)) := hr0
  clear hr0 hza
  go_enter Tryz.func138, Tryz.ntmps138
  go_wp2_with fail
  go_loopw [10] (fun i wr => ∃ k : Nat, k ≤ s.size ∧ i = .int .i64 k ∧ ArrRow wr 94 w.heap.size (Hm.oneAt 256 cn k) ∧ Kept (fun _ => False) w wr) (fun i _ => s.size - (intOf i).toNat)
  case atStart => exact ⟨0, Nat.zero_le _, rfl, HR0.out, (Kept.refl _ _).alloc _⟩
  case round =>
    clear HR0
    obtain ⟨k, hk, rfl, hr, hkr⟩ := hrel
    have hll : (Hm.oneAt 256 cn k).length = 256 := Hm.oneAt_length _ _ _
    by_cases hlt : k < s.size
    · have hck := hc k hlt
      have hd := hr.cell (i := cn) (by omega)
      have hf := hr.free cn
      rw [Hm.oneAt_get, if_pos rfl] at hd
      have HS := hr.set cn (k + 1)
      rw [Hm.oneAt_set] at HS
      have H2 : Hid (ArrRow _ 94 w.heap.size (Hm.oneAt 256 cn (k + 1))) := HS
      clear HS hr hc hll
      go_wp2
      go_roundw
      case rel => exact ⟨k + 1, by omega, by go_num, H2.out, hkr.setCell (.inl (Nat.le_refl _)) _⟩
      case measure => simp [intOf]; omega
    · obtain rfl : k = s.size := by omega
      have hrow := hr
      unfold ArrRow at hrow
      have hix : ∀ b, (h : b < 256) → ∀ W, (Instr.index 94 (.agg (icells (Hm.oneAt 256 cn s.size)).toArray) (.int .i64 (b : Nat))).run Tryz.prog W = .ok (.int .i64 ((if b = cn then s.size else 0 : Nat) : Nat)) W := by
        intro b hb W
        rw [run_index_arr 94 256 Tryz.underlying94 _ b (by rw [Hm.oneAt_length]; exact hb) (Hm.oneAt_length _ _ _) W, Hm.oneAt_get]
      have hasz : (icells (Hm.oneAt 256 cn s.size)).toArray.size = 256 := by
        rw [List.size_toArray, icells, List.length_map, Hm.oneAt_length]
      generalize (icells (Hm.oneAt 256 cn s.size)).toArray = arr at hrow hix hasz
      clear hr hll
      go_wp2_with (refine wpList_load_row rfl 94 _ rfl w.heap.size rfl 94 arr (0, 0) _ hrow Tryz.underlying94 rfl (by rw [hasz]; kernel_rfl) ?_)
      go_loopw [5, 22] (fun u i wr => ∃ b : Nat, b ≤ 256 ∧ i = .int .i64 b ∧ ((b ≤ cn ∧ u = .slice none 0 0) ∨ (cn < b ∧ ∃ mb, wr.ownsRow w.heap.size 216 3 u 1 [.int .i64 (s.size : Nat), .int .u8 (cn : Nat), .slice (some ⟨mb, 0, none⟩) 1 1])) ∧ Kept (fun _ => False) w wr) (fun _ i _ => 256 - (intOf i).toNat)
      case atStart => exact ⟨0, by omega, rfl, .inl ⟨Nat.zero_le _, rfl⟩, hkr⟩
      case round =>
        clear hkr hrow hc
        obtain ⟨b, hb, rfl, hu, hkr⟩ := hrel
        by_cases hlt2 : b < 256
        · have hixb := hix b hlt2
          have hdec : decide ((b : Int) < 256) = true := by simp; omega
          clear hix hasz
          by_cases hbc : b = cn
          · subst hbc
            rw [if_pos rfl] at hixb
            obtain ⟨_, hu⟩ := hu.resolve_right (by omega)
            subst hu
            have hpos : decide (0 < s.size) = true := by simp; omega
            go_wp2_with (at_builtin; refine wpList_append_mv _ rfl (.tmp 28) (.tmp 36) 213 rfl w.heap.size 216 i0 _ 3 40 Tryz.underlying213 hi hz0 hz1 hz2 rfl (by decide) _ _ _ rfl (World.ownsRow_nil _ _ _ _) ⟨wr.heap.size + 1, 0, none⟩ 1 1 [.int .i64 (s.size : Nat), .int .u8 (b : Nat), .slice (some ⟨wr.heap.size, 0, none⟩) 1 1] rfl rfl ?c1 ?c2 ?c3 ?c4 ?c5 ?_)
            case c2 => first | exact ⟨rfl, rfl, rfl⟩ | (intro u hu; simp at hu; rcases hu with rfl | rfl | rfl <;> rfl)
            case c3 => unfold maxLen; omega
            case c5 => have := hkr.size; simp; omega
            intro v' w2 ho2 hg2 hm2
            have hk2 : Kept (fun _ => False) w w2 := ((hkr.alloc _).alloc _).grown hg2 (fun j hj => by cases hj)
            clear hg2 hm2
            go_wp2
            go_roundw
            case rel => exact ⟨b + 1, by omega, by go_num, .inr ⟨by omega, _, by simpa using ho2⟩, hk2⟩
            case measure => simp [intOf]; omega
          · rw [if_neg hbc] at hixb
            go_wp2
            go_roundw
            case rel =>
              refine ⟨b + 1, by omega, by go_num, ?_, hkr⟩
              rcases hu with ⟨h1, h2⟩ | ⟨h1, h2⟩
              · exact .inl ⟨by omega, h2⟩
              · exact .inr ⟨by omega, h2⟩
            case measure => simp [intOf]; omega
        · have hdec : decide ((b : Int) < 256) = false := by simp; omega
          clear hix hasz
          go_wp2
          go_ret
          rcases hu with ⟨h1, h2⟩ | ⟨h1, mb, h2⟩
          · omega
          · exact ⟨_, mb, rfl, h2, hkr⟩

end Go.Proofs.YtegnkfdbmmndaaaGreat
end

/- Measure -/
section
/- The lengths of the codes of a text of one byte. -/
namespace Go.Proofs.YtegnkfdbmmndaaaGreat
open Go.RowKit

theorem Kept.setRow {S : Nat → Prop} {a b : World} (h : Kept S a b) {g : Nat} (hp : a.heap.size ≤ g ∨ S g) (cs : Array Value) : Kept S a (b.setRow g cs) := by
  refine ⟨h.os, h.tape, h.output, by have := h.size; simp; omega, fun j hj hn => ?_⟩
  have hne : j ≠ g := by rintro rfl; rcases hp with hp | hp; · omega
                         · exact hn hp
  exact (setRow_other b g j cs hne).trans (h.block j hj hn)

/-- A whole array is stored into a block. -/
theorem wpList_store_row {P : Program} (w : World) {ops : Array Oper} {rest : List Oper} {op : Oper} {a : Act} {Q : Exit → Act → World → Prop} (hgd : op.guard = none) (ty : TypeId) (x y : Operand) (ho : op.op = .store ty x y)
    (g : Nat) (t : TypeId) (old cells : Array Value) (hx : a.eval x = .pointer (some ⟨g, 0, none⟩)) (hy : a.eval y = .agg cells) (hg : w.heap[g]? = some (.cells old t (0, 0)))
    (hi : (P.info? ty).map (·.size) = some cells.size) (hs : old.size = cells.size) (h1 : cells.all (·.oneCell') = true)
    (h : ∀ w', w'.heap[g]? = some (.cells cells t (0, 0)) → Kept (fun j => j = g) w w' → wpList P ops Q rest (a.put op.dst undef) w') : wpList P ops Q (op :: rest) a w := by
  refine wpList_plain hgd fun K hK => ?_
  unfold Oper.wp execOp
  simp only [ho, hx, hy, Instr.storeAt, Instr.sureAddr, Sem.run_bind, Sem.run_pure, Result.andThen_ok, run_storeVar_row w g t ty old cells hg hi hs h1]
  exact hK _ _ (h _ (setRow_heap w g old cells t _ hg) ((Kept.refl (fun j => j = g) w).setRow (g := g) (.inr rfl) _))

theorem icells_one (l : List Nat) : (icells l).toArray.all (·.oneCell') = true := by
  rw [Array.all_eq_true_iff_forall_mem]
  intro v hv
  have : v ∈ icells l := by simpa using hv
  unfold icells at this
  obtain ⟨x, _, rfl⟩ := List.mem_map.1 this
  rfl
theorem icells_size (l : List Nat) : (icells l).toArray.size = l.length := by simp [icells]
theorem info_len : (Tryz.prog.info? 139).map (·.size) = some 256 := by kernel_rfl

theorem zero_set (cn : Nat) : Tryz.zeroCells139.setIfInBounds cn (.int .i64 1) = (icells (Hm.oneAt 256 cn 1)).toArray := by
  rw [zero_len]
  unfold Hm.oneAt
  apply Array.ext'
  rw [Array.toList_setIfInBounds]
  simp only [icells, List.map_set]
  rfl

set_option maxHeartbeats 2000000 in
theorem measure_one (s : ByteArray) (cn : Nat) (w : World) (hs : s.size ≤ 6000) (hm : 1 ≤ s.size) (hcn : cn < 256) (hc : ∀ k, (h : k < s.size) → s[k].toNat = cn) :
    Calls Tryz.prog 96 #[.string s] w fun e w' => e = .returned (.agg (icells (Hm.oneAt 256 cn 1)).toArray) ∧ Kept (fun _ => False) w w' := by
  have hsg := singles_one s cn (w.alloc (.cells Tryz.zeroCells139 139)) hs hm hcn hc
  go_enter Tryz.func96, Tryz.ntmps96
  go_wp2_with fail
  refine hsg.mono ?_
  rintro e w1 ⟨v, mb, rfl, ho1, hk1⟩
  clear hsg hc
  obtain ⟨g, cap, hv, hnc, hgw⟩ := owns_some ho1 (by omega)
  subst hv
  have hs1 : w.heap.size + 1 ≤ w1.heap.size := by have := hk1.size; simpa using this
  have hg0 : w.heap.size < g := by have := ho1.lt g rfl; simp at this; omega
  have hl1 : w1.cell? ⟨g, 1, none⟩ = some (.int .u8 (cn : Nat)) := by rw [ho1.cellAt 1 (by omega)]; rfl
  have hres1 : w1.heap[w.heap.size]? = some (.cells Tryz.zeroCells139 139 (0, 0)) := hk1.row (heap_alloc_new w _) id
  have hkw1 : Kept (fun _ => False) w w1 := ((Kept.refl (fun _ => False) w).alloc _).trans hk1 (fun _ _ h => h)
  clear ho1 hk1
  have hgr : ((w1.alloc (.cells #[.slice (some ⟨g, 0, none⟩) 1 cap] 213)).alloc (.cells (icells (Hm.oneAt 256 cn 1)).toArray 139)).cell? ⟨w1.heap.size, 0, none⟩ = some (.slice (some ⟨g, 0, none⟩) 1 cap) := cell_of_row _ _ 0 _ _ _ (heap_alloc2_old w1 _ _)
  have hlen0 : ((w1.alloc (.cells #[.slice (some ⟨g, 0, none⟩) 1 cap] 213)).alloc (.cells (icells (Hm.oneAt 256 cn 1)).toArray 139)).heap[w1.heap.size + 1]? = some (.cells (icells (Hm.oneAt 256 cn 1)).toArray 139 (0, 0)) := heap_alloc2_new w1 _ _
  have hres2 : ((w1.alloc (.cells #[.slice (some ⟨g, 0, none⟩) 1 cap] 213)).alloc (.cells (icells (Hm.oneAt 256 cn 1)).toArray 139)).heap[w.heap.size]? = some (.cells Tryz.zeroCells139 139 (0, 0)) := by
    rw [Below.heap_alloc _ _ _ (by simp; omega), Below.heap_alloc _ _ _ (by omega)]; exact hres1
  have hkw2 : Kept (fun _ => False) w ((w1.alloc (.cells #[.slice (some ⟨g, 0, none⟩) 1 cap] 213)).alloc (.cells (icells (Hm.oneAt 256 cn 1)).toArray 139)) := (hkw1.alloc _).alloc _
  have HP : Hid (((w1.alloc (.cells #[.slice (some ⟨g, 0, none⟩) 1 cap] 213)).alloc (.cells (icells (Hm.oneAt 256 cn 1)).toArray 139)).cell? ⟨w1.heap.size, 0, none⟩ = some (.slice (some ⟨g, 0, none⟩) 1 cap) ∧
    ((w1.alloc (.cells #[.slice (some ⟨g, 0, none⟩) 1 cap] 213)).alloc (.cells (icells (Hm.oneAt 256 cn 1)).toArray 139)).heap[w1.heap.size + 1]? = some (.cells (icells (Hm.oneAt 256 cn 1)).toArray 139 (0, 0)) ∧
    ((w1.alloc (.cells #[.slice (some ⟨g, 0, none⟩) 1 cap] 213)).alloc (.cells (icells (Hm.oneAt 256 cn 1)).toArray 139)).heap[w.heap.size]? = some (.cells Tryz.zeroCells139 139 (0, 0)) ∧
    Kept (fun _ => False) w ((w1.alloc (.cells #[.slice (some ⟨g, 0, none⟩) 1 cap] 213)).alloc (.cells (icells (Hm.oneAt 256 cn 1)).toArray 139))) := ⟨hgr, hlen0, hres2, hkw2⟩
  clear hgr hlen0 hres2 hkw2 hkw1 hres1
  have hzs : Tryz.zeroCells139.size = 256 := by rw [zero_len, icells_size, List.length_replicate]
  go_wp2_with fail
  rw [zero_set]
  generalize (w1.alloc (.cells #[.slice (some ⟨g, 0, none⟩) 1 cap] 213)).alloc (.cells (icells (Hm.oneAt 256 cn 1)).toArray 139) = W at HP ⊢
  have hasz : (icells (Hm.oneAt 256 cn 1)).toArray.size = 256 := by rw [icells_size, Hm.oneAt_length]
  have hall := icells_one (Hm.oneAt 256 cn 1)
  generalize hA : (icells (Hm.oneAt 256 cn 1)).toArray = arr at HP hasz hall
  have HA : Hid ((icells (Hm.oneAt 256 cn 1)).toArray = arr) := hA
  clear hA
  obtain ⟨hgr, hlen0, hres2, hkw2⟩ := HP.out
  have HX : Hid (W.heap[w1.heap.size + 1]? = some (.cells arr 139 (0, 0)) ∧ W.heap[w.heap.size]? = some (.cells Tryz.zeroCells139 139 (0, 0)) ∧ arr.all (·.oneCell') = true ∧ Kept (fun _ => False) w W ∧ Tryz.zeroCells139.size = arr.size) := ⟨hlen0, hres2, hall, hkw2, by rw [hzs, hasz]⟩
  clear hlen0 hres2 hall hkw2 HP hzs
  refine wp_loop_rounds 1 ?_
  rw [rounds_succ]
  go_wp2_with (first
    | (refine wpList_load_row rfl 139 _ rfl (w1.heap.size + 1) rfl 139 arr (0, 0) _ HX.out.1 Tryz.underlying139 rfl (by rw [hasz]; exact info_len) ?_)
    | (refine wpList_store_row _ rfl 139 _ _ rfl w.heap.size 139 _ arr rfl rfl HX.out.2.1 (by rw [hasz]; exact info_len) HX.out.2.2.2.2 HX.out.2.2.1 ?_; intro w3 hw3 hk3))
  refine bodyPost_ret (v := .agg arr) (results_cell_row Tryz.results96 _ w3 w.heap.size 139 arr (0, 0) _ rfl hw3 Tryz.underlying139 rfl (by rw [hasz]; exact info_len)) rfl ⟨by rw [HA.out], ?_⟩
  exact HX.out.2.2.2.1.trans hk3 (fun j h1 h2 => by omega)

end Go.Proofs.YtegnkfdbmmndaaaGreat
end

/- Coded -/
section
/- The bytes that have a code; the lengths of the codes, added to a row of bytes. -/
namespace Go.Proofs.YtegnkfdbmmndaaaGreat
open Go.RowKit

namespace Hm
def codedTo (L : List Nat) (k : Nat) : List UInt8 := ((List.range k).filter fun b => decide (0 < L.getD b 0)).map UInt8.ofNat
def codedOf (L : List Nat) : List UInt8 := codedTo L 256
theorem codedTo_succ (L : List Nat) (k : Nat) : codedTo L (k + 1) = codedTo L k ++ if 0 < L.getD k 0 then [UInt8.ofNat k] else [] := by
  unfold codedTo
  rw [List.range_succ, List.filter_append, List.map_append]
  congr 1
  rw [List.filter_cons, List.filter_nil]
  by_cases e : 0 < L.getD k 0
  · rw [if_pos (by simpa using e), if_pos e]; rfl
  · rw [if_neg (by simpa using e), if_neg e]; rfl
theorem codedTo_le (L : List Nat) (k : Nat) : (codedTo L k).length ≤ k := by
  unfold codedTo
  rw [List.length_map]
  have := List.length_filter_le (fun b => decide (0 < L.getD b 0)) (List.range k)
  simpa using this
def lenBytes (L : List Nat) (l : List UInt8) : List UInt8 := l.flatMap fun b => [b, UInt8.ofNat (L.getD b.toNat 0)]
theorem lenBytes_take (L : List Nat) (l : List UInt8) (k : Nat) (h : k < l.length) : lenBytes L (l.take (k + 1)) = lenBytes L (l.take k) ++ [l[k], UInt8.ofNat (L.getD l[k].toNat 0)] := by
  rw [List.take_succ_eq_append_getElem h]; unfold lenBytes; rw [List.flatMap_append]; congr 1
theorem lenBytes_length (L : List Nat) (l : List UInt8) : (lenBytes L l).length = 2 * l.length := by
  unfold lenBytes
  induction l with
  | nil => rfl
  | cons b r ih => rw [List.flatMap_cons, List.length_append, ih]; simp; try omega
end Hm

set_option maxHeartbeats 1000000 in
theorem bytes_any (L : List Nat) (w : World) (hL : L.length = 256) (hx : ∀ x ∈ L, x ≤ 100000) :
    Calls Tryz.prog 157 #[.agg (icells L).toArray] w fun e w' => ∃ v, e = .returned v ∧ w'.ownsRow w.heap.size 5 1 v (Hm.codedOf L).length (Hm.bcells (Hm.codedOf L)) ∧ Kept (fun _ => False) w w' := by
  obtain ⟨i0, hi, hz0, hz1, hz2⟩ := info_parts info_u8
  have hasz : (icells L).toArray.size = 256 := by rw [icells_size, hL]
  have hix : ∀ b, (h : b < 256) → ∃ x : Nat, x ≤ 100000 ∧ L.getD b 0 = x ∧ ∀ W, (Instr.index 139 (.agg (icells L).toArray) (.int .i64 (b : Nat))).run Tryz.prog W = .ok (.int .i64 (x : Nat)) W := by
    intro b hb
    refine ⟨L[b], hx _ (List.getElem_mem _), by rw [List.getD_eq_getElem?_getD, List.getElem?_eq_getElem (by omega)]; rfl, fun W => ?_⟩
    exact run_index_arr 139 256 Tryz.underlying139 L b (by omega) hL W
  have hbox : (w.alloc (.cells (icells L).toArray 139)).heap[w.heap.size]? = some (.cells (icells L).toArray 139 (0, 0)) := heap_alloc_new w _
  generalize (icells L).toArray = arr at *
  clear hL hx
  go_enter Tryz.func157, Tryz.ntmps157
  go_wp2_with (refine wpList_load_row rfl 139 _ rfl w.heap.size rfl 139 arr (0, 0) _ hbox Tryz.underlying139 rfl (by rw [hasz]; exact info_len) ?_)
  clear hbox hasz
  go_loopw [3, 7] (fun u i wr => ∃ b : Nat, b ≤ 256 ∧ i = .int .i64 b ∧ wr.ownsRow w.heap.size 5 1 u (Hm.codedTo L b).length (Hm.bcells (Hm.codedTo L b)) ∧ Kept (fun _ => False) w wr) (fun _ i _ => 256 - (intOf i).toNat)
  case atStart => exact ⟨0, by omega, rfl, by simpa [Hm.codedTo, Hm.bcells] using World.ownsRow_nil _ w.heap.size 5 1, (Kept.refl _ _).alloc _⟩
  case round =>
    obtain ⟨b, hb, rfl, hor, hkr⟩ := hrel
    have hcl := Hm.codedTo_le L b
    by_cases hlt : b < 256
    · obtain ⟨x, hx, hLx, hixb⟩ := hix b hlt
      have HT : Hid (Hm.codedTo L (b + 1) = Hm.codedTo L b ++ if 0 < x then [UInt8.ofNat b] else []) := by rw [← hLx]; exact Hm.codedTo_succ L b
      have hdec : decide ((b : Int) < 256) = true := by simp; omega
      clear hix hLx
      by_cases hpos : 0 < x
      · have hdec2 : decide (0 < x) = true := by simp; omega
        have HT2 : Hid (Hm.bcells (Hm.codedTo L (b + 1)) = Hm.bcells (Hm.codedTo L b) ++ [.int .u8 (b : Nat)] ∧ (Hm.codedTo L (b + 1)).length = (Hm.codedTo L b).length + 1) := by
          constructor
          · rw [HT.out, if_pos hpos]
            unfold Hm.bcells
            rw [List.map_append, List.map_cons, List.map_nil, Hm.u8cell hlt]
          · rw [HT.out, if_pos hpos]; simp
        clear HT
        go_wp2_with (at_builtin; refine wpList_append_mv _ rfl (.tmp 13) (.tmp 16) 79 rfl w.heap.size 5 i0 (.int .u8 0) 1 1 Tryz.underlying79 hi hz0 hz1 hz2 rfl (by decide) _ _ _ rfl (hor.alloc _) ⟨wr.heap.size, 0, none⟩ 1 1 [.int .u8 (b : Nat)] rfl rfl ?c1 ?c2 ?c3 ?c4 ?c5 ?_)
        case c1 => exact cell_one_new _ _ _
        case c2 => intro u hu; simp at hu; subst hu; rfl
        case c3 => unfold maxLen; omega
        case c4 => omega
        case c5 => have := hkr.size; simp; omega
        intro v' w2 ho2 hg2 hm2
        have hk2 : Kept (fun _ => False) w w2 := (hkr.alloc _).grown hg2 (fun j hj => .inl (hor.lt j hj).1)
        clear hg2 hm2 hor hkr
        go_wp2
        go_roundw
        case rel => exact ⟨b + 1, by omega, by go_num, by rw [HT2.out.1, HT2.out.2]; exact ho2, hk2⟩
        case measure => simp [intOf]; omega
      · have hx0 : x = 0 := by omega
        subst hx0
        have HT2 : Hid (Hm.codedTo L (b + 1) = Hm.codedTo L b) := by
          show _ = _
          rw [HT.out, if_neg hpos, List.append_nil]
        clear HT
        go_wp2
        go_roundw
        case rel => exact ⟨b + 1, by omega, by go_num, by rw [HT2.out]; exact hor, hkr⟩
        case measure => simp [intOf]; omega
    · have hdec : decide ((b : Int) < 256) = false := by simp; omega
      obtain rfl : b = 256 := by omega
      clear hix
      go_wp2
      go_ret
      exact ⟨_, rfl, hor, hkr⟩

set_option maxHeartbeats 2000000 in
theorem addLengths_any (base : Nat) (v : Value) (n : Nat) (l : List UInt8) (L : List Nat) (w : World) (ho : w.ownsRow base 5 1 v n (Hm.bcells l)) (hb : base ≤ w.heap.size) (hL : L.length = 256) (hx : ∀ x ∈ L, x ≤ 255) (hn : n ≤ 100000) :
    Calls Tryz.prog 105 #[v, .agg (icells L).toArray] w fun e w' => ∃ v', e = .returned v' ∧ w'.ownsRow base 5 1 v' (n + 2 + 2 * (Hm.codedOf L).length) (Hm.bcells (l ++ Hm.leBytes (Hm.codedOf L).length 2 ++ Hm.lenBytes L (Hm.codedOf L))) ∧ Kept (fun j => v.ownBlock = some j) w w' ∧ Moved w v v' := by
  obtain ⟨i0, hi, hz0, hz1, hz2⟩ := info_parts info_u8
  have hasz : (icells L).toArray.size = 256 := by rw [icells_size, hL]
  have hcl := Hm.codedTo_le L 256
  have hv0 : ∀ j, v.ownBlock = some j → j < w.heap.size := fun j hj => (ho.lt j hj).2
  have hby := bytes_any L (w.alloc (.cells (icells L).toArray 139)) hL (fun x hxm => by have := hx x hxm; omega)
  have hbox : (w.alloc (.cells (icells L).toArray 139)).heap[w.heap.size]? = some (.cells (icells L).toArray 139 (0, 0)) := heap_alloc_new w _
  have hcell : ∀ W : World, W.heap[w.heap.size]? = some (.cells (icells L).toArray 139 (0, 0)) → ∀ b : Nat, b < 256 → W.cell? ⟨w.heap.size, b, none⟩ = some (.int .i64 (L.getD b 0 : Nat)) := by
    intro W hW b hb
    rw [cell_of_row _ _ b _ _ _ hW]
    simp [icells, List.getD_eq_getElem?_getD, List.getElem?_eq_getElem (show b < L.length from by omega)]
  have hgx : ∀ b : Nat, b < 256 → L.getD b 0 ≤ 255 := fun b hb => by
    rw [List.getD_eq_getElem?_getD, List.getElem?_eq_getElem (show b < L.length from by omega)]; exact hx _ (List.getElem_mem _)
  change (Hm.codedOf L).length ≤ 256 at hcl
  generalize hC : Hm.codedOf L = C at *
  generalize (icells L).toArray = arr at *
  clear hx hL hC
  go_enter Tryz.func105, Tryz.ntmps105
  go_wp2_with (first
    | (refine wpList_load_row rfl 139 _ rfl w.heap.size rfl 139 arr (0, 0) _ hbox Tryz.underlying139 rfl (by rw [hasz]; exact info_len) ?_)
    | (go_at_call 157; fail))
  refine hby.mono ?_
  rintro e w2 ⟨vc, rfl, hoc, hk2⟩
  clear hby
  have hs2 : w.heap.size + 1 ≤ w2.heap.size := by have := hk2.size; simpa using this
  have hbox2 := hk2.row hbox id
  have hvc : ∀ j, vc.ownBlock = some j → w.heap.size < j ∧ j < w2.heap.size := fun j hj => by have := hoc.lt j hj; simp at this; omega
  have ho2 : w2.ownsRow base 5 1 v n (Hm.bcells l) := (((Kept.refl (fun _ => False) w).alloc _).trans hk2 (fun _ _ h => h)).owns ho (fun _ _ h => h)
  have hkw2 : Kept (fun j => v.ownBlock = some j) w w2 := (((Kept.refl (fun _ => False) w).alloc _).trans hk2 (fun _ _ h => h)).wider (fun _ _ h => h.elim)
  obtain ⟨ac, cc, hvce, hcc⟩ := slice_shape hoc
  subst hvce
  have han := addNumber_any base v n C.length 2 l w2 ho2 (by omega) (by omega) (by omega) (by omega)
  clear hbox hk2 ho
  go_wp2_with (first | (go_at_call 101; fail))
  refine han.mono ?_
  rintro e w3 ⟨v3, rfl, ho3, hk3, hm3⟩
  clear han
  have hbox3 := hk3.row hbox2 (fun e => by have := hv0 _ e; omega)
  have hoc3 := hk3.owns hoc (fun j hj e => by have := hv0 _ e; have := hvc j hj; omega)
  go_wp2
  go_loopw [0, 16] (fun u i wr => ∃ k : Nat, k ≤ C.length ∧ i = .int .i64 k ∧ wr.ownsRow base 5 1 u (n + 2 + 2 * k) (Hm.bcells (l ++ Hm.leBytes C.length 2 ++ Hm.lenBytes L (C.take k))) ∧ Kept (fun j => v.ownBlock = some j) w2 wr ∧ Moved w2 v u) (fun _ i _ => C.length - (intOf i).toNat)
  case atStart => exact ⟨0, Nat.zero_le _, rfl, by simpa [Hm.lenBytes] using ho3, hk3, hm3⟩
  case round =>
    clear ho3 hk3 hm3 hbox3 hoc3 ho2
    obtain ⟨k, hk, rfl, hor, hkr, hmr⟩ := hrel
    have hocr := hkr.owns hoc (fun j hj e => by have := hv0 _ e; have := hvc j hj; omega)
    have hboxr := hkr.row hbox2 (fun e => by have := hv0 _ e; omega)
    by_cases hlt : k < C.length
    · obtain ⟨g, cap, hv, _, hgw⟩ := owns_some hocr (by omega)
      simp only [Value.slice.injEq] at hv
      obtain ⟨hac, _, hcap⟩ := hv
      subst hac
      subst hcap
      have hck : wr.cell? ⟨g, k, none⟩ = some (.int .u8 (C[k].toNat : Nat)) := by
        rw [hocr.cellAt k (by omega)]
        simp [Hm.bcells, hlt]
      have HT : Hid (Hm.lenBytes L (C.take (k + 1)) = Hm.lenBytes L (C.take k) ++ [C[k], UInt8.ofNat (L.getD C[k].toNat 0)]) := Hm.lenBytes_take L C k hlt
      have hb256 : C[k].toNat < 256 := C[k].toNat_lt
      have hcb := hcell wr hboxr C[k].toNat hb256
      have hgb := hgx C[k].toNat hb256
      generalize hCk : C[k] = ck at *
      generalize hLk : L.getD ck.toNat 0 = x at *
      generalize hcn : ck.toNat = cn at *
      have HC : Hid (ck.toNat = cn) := hcn
      have hdec : decide ((k : Int) < (C.length : Int)) = true := by simp; omega
      clear hocr hboxr hcell hgx hoc hbox2 hcn hLk hCk
      go_wp2_with (at_builtin; refine wpList_append_mv _ rfl (.tmp 20) (.tmp 26) 79 rfl base 5 i0 (.int .u8 0) 1 1 Tryz.underlying79 hi hz0 hz1 hz2 rfl (by decide) _ _ _ rfl (hor.alloc _) ⟨wr.heap.size, 0, none⟩ 2 2 [.int .u8 (cn : Nat), .int .u8 (x : Nat)] rfl rfl ?c1 ?c2 ?c3 ?c4 ?c5 ?_)
      case c1 => exact cell_two_new _ _ _ _
      case c2 => first | exact ⟨rfl, rfl⟩ | (intro u hu; simp at hu; rcases hu with rfl | rfl <;> rfl)
      case c3 => unfold maxLen; omega
      case c4 => omega
      case c5 => have := hkr.size; simp; omega
      intro v' w5 ho5 hg5 hm5
      have hk5 : Kept (fun j => v.ownBlock = some j) w2 w5 := (hkr.alloc _).grown hg5 (fun j hj => (hmr j hj).elim (fun h => .inr h) .inl)
      have hmv5 : Moved w2 v v' := hmr.trans hm5 (by have := hkr.size; simp; omega)
      clear hg5 hm5 hor hkr hmr
      go_wp2
      go_roundw
      case rel =>
        refine ⟨k + 1, by omega, by go_num, ?_, hk5, hmv5⟩
        have e : Hm.bcells (l ++ Hm.leBytes C.length 2 ++ Hm.lenBytes L (C.take (k + 1))) = Hm.bcells (l ++ Hm.leBytes C.length 2 ++ Hm.lenBytes L (C.take k)) ++ [.int .u8 (cn : Nat), .int .u8 (x : Nat)] := by
          rw [HT.out, ← List.append_assoc]
          unfold Hm.bcells
          rw [List.map_append (l₂ := [ck, UInt8.ofNat x]), List.map_cons, List.map_cons, List.map_nil, Hm.u8cell (by omega), HC.out]
        rw [e, show n + 2 + 2 * (k + 1) = n + 2 + 2 * k + 2 from by omega]; simpa [List.append_assoc] using ho5
      case measure => simp [intOf]; omega
    · obtain rfl : k = C.length := by omega
      rw [List.take_length] at hor
      have hdec : decide ((C.length : Int) < (C.length : Int)) = false := by simp
      clear hcell hgx
      go_wp2
      go_ret
      refine ⟨_, rfl, hor, hkw2.trans hkr (fun _ _ h => h), fun j hj => ?_⟩
      rcases hmr j hj with h | h
      · exact .inl h
      · exact .inr (by omega)

end Go.Proofs.YtegnkfdbmmndaaaGreat
end
