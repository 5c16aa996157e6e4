/- The row of the samples is made. -/
import Derived.Test.YtjjejdfmcohghaaMakeEnds
import Derived.Lib.BitFns
namespace Go.Proofs.Ytjjejdfmcohghaa
open Go.RowKit

namespace Hm
def sampBits (ps : List Nat) (wd : Nat) : List Bool := (ps.filter fun p => decide (p % 8 = 0)).flatMap fun p => numBits (p / 8) wd
def samples (ps : List Nat) : List Bool := (ps.map fun p => decide (p % 8 = 0)) ++ sampBits ps (Lib.bitLen ((ps.length - 1) / 8))
theorem sampBits_take (ps : List Nat) (wd k : Nat) (h : k < ps.length) : sampBits (ps.take (k + 1)) wd = sampBits (ps.take k) wd ++ if ps[k] % 8 = 0 then numBits (ps[k] / 8) wd else [] := by
  rw [List.take_succ_eq_append_getElem h]; unfold sampBits; rw [List.filter_append, List.flatMap_append]; congr 1
  by_cases e : ps[k] % 8 = 0 <;> simp [e]
theorem sampBits_le (ps : List Nat) (wd : Nat) : (sampBits ps wd).length ≤ ps.length * wd := by
  unfold sampBits
  induction ps with
  | nil => simp
  | cons p r ih =>
    rw [List.filter_cons, List.length_cons, Nat.add_mul]
    split
    · rw [List.flatMap_cons, List.length_append, numBits_length]; omega
    · omega
end Hm

/-- What math/bits.Len does. -/
def LenSays : Prop := ∀ (x : Int) (W : World), 0 ≤ x → x ≤ 18446744073709551615 → Calls Try.prog 51 #[.int .u64 x] W fun e w' => e = .returned (.int .i64 (Lib.bitLen x.toNat : Nat)) ∧ W = w'

set_option maxHeartbeats 400000 in
theorem sampled_any (p : Nat) (w : World) (hp : p ≤ 1000000) : Calls Try.prog 46 #[.int .i64 p] w fun e w' => e = .returned (.bool (decide (p % 8 = 0))) ∧ w = w' := by
  by_cases h : p % 8 = 0
  · have hb : ((p : Int) % 8 == 0) = true := by simp; omega
    go_enter Try.func46, Try.ntmps46
    go_wp2
    go_ret
    simp [h]
  · have hb : ((p : Int) % 8 == 0) = false := by simp; omega
    go_enter Try.func46, Try.ntmps46
    go_wp2
    go_ret
    simp [h]

set_option maxHeartbeats 400000 in
theorem placeWidth_any (hL : LenSays) (n : Nat) (w : World) (hn : n ≤ 1000000) : Calls Try.prog 47 #[.int .i64 n] w fun e w' => e = .returned (.int .i64 (Lib.bitLen (n / 8) : Nat)) ∧ w = w' := by
  have hc := hL ((n / 8 : Nat) : Int) w (by omega) (by omega)
  rw [Int.toNat_natCast] at hc
  have e : ((n / 8 : Nat) : Int) = (n : Int) / 8 := by omega
  rw [e] at hc
  generalize Lib.bitLen (n / 8) = r at *
  go_enter Try.func47, Try.ntmps47
  go_wp2_with (go_at_call 51; refine hc.mono ?_; rintro e w2 ⟨rfl, rfl⟩)
  go_ret
  exact ⟨rfl, rfl⟩

set_option maxHeartbeats 1000000 in
theorem makeSamples_any (hLn : LenSays) (ao : Option Addr) (c : Nat) (ps : List Nat) (w : World) (hi : IntsAt w ao ps) (hm1 : 1 ≤ ps.length) (hm : ps.length ≤ 6001) (he : ∀ p ∈ ps, p ≤ 6000) :
    Calls Try.prog 16 #[.slice ao ps.length c] w fun e w' => ∃ v', e = .returned (.agg #[v', .int .i64 ((Hm.samples ps).length : Nat)]) ∧
      w'.ownsRow w.heap.size 5 1 v' (((Hm.samples ps).length + 7) / 8) (Hm.bcells (Hm.packBits (Hm.samples ps))) ∧ Kept (fun _ => False) w w' := by
  have HR : Hid (Hm.samples ps = (ps.map fun p => decide (p % 8 = 0)) ++ Hm.sampBits ps (Lib.bitLen ((ps.length - 1) / 8))) := rfl
  generalize Hm.samples ps = R at HR ⊢
  have hw10 : Lib.bitLen ((ps.length - 1) / 8) ≤ 10 := Lib.bitLen_le _ 10 (by omega) (by omega)
  go_enter Try.func16, Try.ntmps16
  go_wp2
  go_loopw [11] (fun i wr => ∃ (k : Nat) (v' : Value), k ≤ ps.length ∧ i = .int .i64 k ∧ BitsAt wr 56 (w.heap.size + 1) v' ((ps.take k).map fun p => decide (p % 8 = 0)) ∧ Kept (fun j => w.heap.size + 1 ≤ j) ((w.alloc (.cells #[.slice none 0 0, .int .i64 0] 56)).alloc (.cells #[.slice none 0 0, .int .i64 0] 56)) wr ∧ (∀ j, v'.ownBlock = some j → w.heap.size + 2 ≤ j)) (fun i _ => ps.length - (intOf i).toNat)
  case atStart => exact ⟨0, .slice none 0 0, Nat.zero_le _, rfl, by simpa using bits_new w _ _, Kept.refl _ _, fun j h => by cases h⟩
  case round =>
    obtain ⟨k, v', hk, rfl, hb, hkr, hmr⟩ := hrel
    have hkw : Kept (fun _ => False) w wr := (((Kept.refl (fun _ => False) w).alloc _).alloc _).trans hkr (fun j h1 h2 => by omega)
    by_cases hlt : k < ps.length
    · obtain ⟨b, o, hao, hbw, hc1⟩ := (hi.kept hkw (fun a ha => id)) k hlt
      have hek := he ps[k] (List.getElem_mem _)
      have HT : Hid (((ps.take (k + 1)).map fun p => decide (p % 8 = 0)) = ((ps.take k).map fun p => decide (p % 8 = 0)) ++ [decide (ps[k] % 8 = 0)]) := by
        show _ = _
        rw [List.take_succ_eq_append_getElem hlt, List.map_append]; rfl
      generalize ps[k] = x at *
      have hcs := sampled_any x wr (by omega)
      have hcon := add_any 56 (w.heap.size + 1) v' _ (decide (x % 8 = 0)) wr hb (by simp; omega)
      generalize decide (x % 8 = 0) = bb at *
      rw [hao]
      clear hao hi hb he
      go_wp2_with (first | (go_at_call 46; refine hcs.mono ?_; rintro e w2 ⟨rfl, rfl⟩) | (go_at_call 45; refine hcon.mono ?_; rintro e w2 ⟨v2, rfl, hb2, hk2, hm2⟩))
      go_roundw
      case rel =>
        refine ⟨k + 1, v2, by omega, by go_num, by rw [HT.out]; exact hb2, hkr.trans hk2 (fun j h1 h2 => ?_), fun j h => ?_⟩
        · rcases h2 with h2 | h2
          · omega
          · have := hmr j h2; omega
        · rcases hm2 j h with h2 | h2
          · exact hmr j h2
          · have := hkr.size; simp at this; omega
      case measure => simp [intOf]; omega
    · obtain rfl : k = ps.length := by omega
      rw [List.take_length] at hb
      have hpw := placeWidth_any hLn (ps.length - 1) wr (by omega)
      rw [show ((ps.length - 1 : Nat) : Int) = (ps.length : Int) - 1 from by omega] at hpw
      generalize Lib.bitLen ((ps.length - 1) / 8) = L at *
      generalize hB : (ps.map fun p => decide (p % 8 = 0)) = B at *
      have hBl : B.length = ps.length := by rw [← hB]; simp
      have HBl : Hid (B.length = ps.length) := hBl
      have hBle : B.length ≤ 6001 := by omega
      have HB0 : Hid (BitsAt wr 56 (w.heap.size + 1) v' B) := hb
      have HI : Hid (IntsAt w ao ps) := hi
      clear hi hb hlt hk hB hBl
      go_wp2_with (go_at_call 47; refine hpw.mono ?_; rintro e w2 ⟨rfl, rfl⟩)
      clear hpw
      go_loopw [26] (fun i wr => ∃ (k : Nat) (v' : Value), k ≤ ps.length ∧ i = .int .i64 k ∧ BitsAt wr 56 (w.heap.size + 1) v' (B ++ Hm.sampBits (ps.take k) L) ∧ Kept (fun j => w.heap.size + 1 ≤ j) ((w.alloc (.cells #[.slice none 0 0, .int .i64 0] 56)).alloc (.cells #[.slice none 0 0, .int .i64 0] 56)) wr ∧ (∀ j, v'.ownBlock = some j → w.heap.size + 2 ≤ j)) (fun i _ => ps.length - (intOf i).toNat)
      case atStart => exact ⟨0, v', Nat.zero_le _, rfl, by simpa [Hm.sampBits] using HB0.out, hkr, hmr⟩
      case round =>
        clear hkr hmr hkw HB0
        obtain ⟨k, v3, hk, rfl, hb, hkr, hmr⟩ := hrel
        have hkw : Kept (fun _ => False) w wr := (((Kept.refl (fun _ => False) w).alloc _).alloc _).trans hkr (fun j h1 h2 => by omega)
        by_cases hlt : k < ps.length
        · obtain ⟨b, o, hao, hbw, hc1⟩ := (HI.out.kept hkw (fun a ha => id)) k hlt
          have hek := he ps[k] (List.getElem_mem _)
          have HT : Hid (Hm.sampBits (ps.take (k + 1)) L = Hm.sampBits (ps.take k) L ++ if ps[k] % 8 = 0 then Hm.numBits (ps[k] / 8) L else []) := Hm.sampBits_take ps L k hlt
          have hsl : (B ++ Hm.sampBits (ps.take k) L).length ≤ 70000 := by
            have h1 := Hm.sampBits_le (ps.take k) L
            have h2 : (ps.take k).length * L ≤ 6001 * 10 := Nat.mul_le_mul (by simp; omega) hw10
            simp only [List.length_append]; omega
          generalize ps[k] = x at *
          have hcs := sampled_any x wr (by omega)
          by_cases hx8 : x % 8 = 0
          · rw [show decide (x % 8 = 0) = true from by simp [hx8]] at hcs
            have hcon := addNum_any 56 (w.heap.size + 1) v3 _ (x / 8) L wr hb (by omega) (by omega) (by omega)
            rw [show ((x / 8 : Nat) : Int) = (x : Int) / 8 from by omega] at hcon
            have HT2 : Hid (Hm.sampBits (ps.take (k + 1)) L = Hm.sampBits (ps.take k) L ++ Hm.numBits (x / 8) L) := by
              show _ = _
              rw [HT.out, if_pos hx8]
            rw [hao]
            clear hao hb he hx8 HT
            go_wp2_with (first | (go_at_call 46; refine hcs.mono ?_; rintro e w2 ⟨rfl, rfl⟩) | (go_at_call 40; refine hcon.mono ?_; rintro e w2 ⟨v2, rfl, hb2, hk2, hm2⟩))
            go_roundw
            case rel =>
              refine ⟨k + 1, v2, by omega, by go_num, by rw [HT2.out, ← List.append_assoc]; exact hb2, hkr.trans hk2 (fun j h1 h2 => ?_), fun j h => ?_⟩
              · rcases h2 with h2 | h2
                · omega
                · have := hmr j h2; omega
              · rcases hm2 j h with h2 | h2
                · exact hmr j h2
                · have := hkr.size; simp at this; omega
            case measure => simp [intOf]; omega
          · rw [show decide (x % 8 = 0) = false from by simp [hx8]] at hcs
            have HT2 : Hid (Hm.sampBits (ps.take (k + 1)) L = Hm.sampBits (ps.take k) L) := by
              show _ = _
              rw [HT.out, if_neg hx8, List.append_nil]
            rw [hao]
            clear hao he hx8 HT
            go_wp2_with (first | (go_at_call 46; refine hcs.mono ?_; rintro e w2 ⟨rfl, rfl⟩))
            go_roundw
            case rel =>
              exact ⟨k + 1, v3, by omega, by go_num, by rw [HT2.out]; exact hb, hkr, hmr⟩
            case measure => simp [intOf]; omega
        · obtain rfl : k = ps.length := by omega
          rw [List.take_length, ← HR.out] at hb
          have hd0 : wr.cell? ⟨w.heap.size + 1, 0, none⟩ = some v3 := cell_of_row _ _ 0 _ _ _ hb.blk
          have hd1 : wr.cell? ⟨w.heap.size + 1, 1, none⟩ = some (.int .i64 (R.length : Nat)) := cell_of_row _ _ 1 _ _ _ hb.blk
          have hr0 : wr.heap[w.heap.size]? = some (.cells #[.slice none 0 0, .int .i64 0] 56 (0, 0)) := hkr.row (heap_alloc2_old w _ _) (by omega)
          have he0 : wr.cell? ⟨w.heap.size, 0, none⟩ = some (.slice none 0 0) := cell_of_row _ _ 0 _ _ _ hr0
          have he1 : wr.cell? ⟨w.heap.size, 1, none⟩ = some (.int .i64 0) := cell_of_row _ _ 1 _ _ _ hr0
          have hf0 : wr.frozen? ⟨w.heap.size, 0, none⟩ = false := frozen_of_row _ _ 0 _ _ hr0
          have hf1 : wr.frozen? ⟨w.heap.size, 1, none⟩ = false := frozen_of_row _ _ 1 _ _ hr0
          obtain ⟨a3, c3, hv3, _⟩ := slice_shape hb.own
          subst hv3
          have HB : Hid (BitsAt wr 56 (w.heap.size + 1) (.slice a3 ((R.length + 7) / 8) c3) R) := hb
          clear hb he HR
          go_wp2
          refine bodyPost_ret (v := .agg #[.slice a3 ((R.length + 7) / 8) c3, .int .i64 (R.length : Nat)]) (by simp [results, Try.results16, go_sem, he0, he1]) rfl ⟨_, rfl, ?_, ?_⟩
          · refine owns_base (base := 0) (ownsRow_setCell_other (ownsRow_setCell_other HB.out.own ?_ _) ?_ _) ?_
            · intro h; have := hmr w.heap.size h; omega
            · intro h; have := hmr w.heap.size h; omega
            · intro k hk; have := hmr k hk; omega
          · exact (hkw.setCell (.inl (Nat.le_refl _)) _).setCell (.inl (Nat.le_refl _)) _

end Go.Proofs.Ytjjejdfmcohghaa
