import Derived.Test.YtegnkfdbmmndaaaGreatJ07
import Derived.Lib.BitFns
import Derived.Test.YtegnkfdbmmndaaaGreatShelf

/- MakeSamples -/
section
/- The row of the samples is made. -/
namespace Go.Proofs.YtegnkfdbmmndaaaGreat
open Go.RowKit

namespace Hm
def sampBits (ps : List Nat) (wd : Nat) : List Bool := (ps.filter fun p => decide (p % 8 = 0)).flatMap fun p => numBits (p / 8) wd
def samples (ps : List Nat) : List Bool := (ps.map fun p => decide (p % 8 = 0)) ++ sampBits ps (Lib.bitLen ((ps.length - 1) / 8))
theorem sampBits_take (ps : List Nat) (wd k : Nat) (h : k < ps.length) : sampBits (ps.take (k + 1)) wd = sampBits (ps.take k) wd ++ if ps[k] % 8 = 0 then numBits (ps[k] / 8) wd else [] := by
  rw [List.take_succ_eq_append_getElem h]; unfold sampBits; rw [List.filter_append, List.flatMap_append]; congr 1
  by_cases e : ps[k] % 8 = 0 <;> simp [e]
theorem sampBits_le (ps : List Nat) (wd : Nat) : (sampBits ps wd).length ≤ ps.length * wd := by
  unfold sampBits
  induction ps with
  | nil => simp
  | cons p r ih =>
    rw [List.filter_cons, List.length_cons, Nat.add_mul]
    split
    · rw [List.flatMap_cons, List.length_append, numBits_length]; omega
    · omega
end Hm

/-- What math/bits.Len does. -/
def LenSays : Prop := ∀ (x : Int) (W : World), 0 ≤ x → x ≤ 18446744073709551615 → Calls Tryz.prog 175 #[.int .u64 x] W fun e w' => e = .returned (.int .i64 (Lib.bitLen x.toNat : Nat)) ∧ W = w'

set_option maxHeartbeats 400000 in
theorem sampled_any (p : Nat) (w : World) (hp : p ≤ 1000000) : Calls Tryz.prog 154 #[.int .i64 p] w fun e w' => e = .returned (.bool (decide (p % 8 = 0))) ∧ w = w' := by
  by_cases h : p % 8 = 0
  · have hb : ((p : Int) % 8 == 0) = true := by simp; omega
    go_enter Tryz.func154, Tryz.ntmps154
    go_wp2
    go_ret
    simp [h]
  · have hb : ((p : Int) % 8 == 0) = false := by simp; omega
    go_enter Tryz.func154, Tryz.ntmps154
    go_wp2
    go_ret
    simp [h]

set_option maxHeartbeats 400000 in
theorem placeWidth_any (hL : LenSays) (n : Nat) (w : World) (hn : n ≤ 1000000) : Calls Tryz.prog 155 #[.int .i64 n] w fun e w' => e = .returned (.int .i64 (Lib.bitLen (n / 8) : Nat)) ∧ w = w' := by
  have hc := hL ((n / 8 : Nat) : Int) w (by omega) (by omega)
  rw [Int.toNat_natCast] at hc
  have e : ((n / 8 : Nat) : Int) = (n : Int) / 8 := by omega
  rw [e] at hc
  generalize Lib.bitLen (n / 8) = r at *
  go_enter Tryz.func155, Tryz.ntmps155
  go_wp2_with (go_at_call 175; refine hc.mono ?_; rintro e w2 ⟨rfl, rfl⟩)
  go_ret
  exact ⟨rfl, rfl⟩

theorem kept_four (w : World) (b : Nat) (x y z u : Value) : Kept (fun j => j = b) w ((((w.setCell ⟨b, 0, none⟩ x).setCell ⟨b, 1, none⟩ y).setCell ⟨b, 2, none⟩ z).setCell ⟨b, 3, none⟩ u) :=
  (kept_three w b x y z).setCell (p := ⟨b, 3, none⟩) (.inr rfl) u

set_option maxHeartbeats 1000000 in
theorem makeSamples_any (hones : OnesSays) (hLn : LenSays) (ao : Option Addr) (c : Nat) (ps : List Nat) (w : World) (hi : IntsAt w ao ps) (hm1 : 1 ≤ ps.length) (hm : ps.length ≤ 6001) (he : ∀ p ∈ ps, p ≤ 6000) :
    Calls Tryz.prog 100 #[.slice ao ps.length c] w fun e w' => ∃ g, w.heap.size ≤ g ∧ e = .returned (.agg #[.string ⟨(Hm.packBits (Hm.samples ps)).toArray⟩, .int .i64 ((Hm.samples ps).length : Nat), .slice (some ⟨g, 0, none⟩) ((Hm.packBits (Hm.samples ps)).length + 1) ((Hm.packBits (Hm.samples ps)).length + 1), .int .i64 ((ps.length - 1 : Nat) : Int)]) ∧
      IntRow w' g (Hm.counts (Hm.packBits (Hm.samples ps))) ∧ Kept (fun _ => False) w w' := by
  have HON : Aside _ := hones
  clear hones
  have HR : Hid (Hm.samples ps = (ps.map fun p => decide (p % 8 = 0)) ++ Hm.sampBits ps (Lib.bitLen ((ps.length - 1) / 8))) := rfl
  generalize Hm.samples ps = R at HR ⊢
  have hw10 : Lib.bitLen ((ps.length - 1) / 8) ≤ 10 := Lib.bitLen_le _ 10 (by omega) (by omega)
  obtain ⟨T, hT⟩ : ∃ T, T = ps.length - 1 := ⟨_, rfl⟩
  have zT : (ps.length : Int) - 1 = (T : Int) := by omega
  have hTl : T ≤ 6000 := by omega
  rw [← hT] at HR hw10 ⊢
  clear hT
  go_enter Tryz.func100, Tryz.ntmps100
  go_wp2
  go_loopw [12] (fun i wr => ∃ (k : Nat) (v' : Value), k ≤ ps.length ∧ i = .int .i64 k ∧ BitsAt wr 221 (w.heap.size + 1) v' ((ps.take k).map fun p => decide (p % 8 = 0)) ∧ Kept (fun j => w.heap.size + 1 ≤ j) ((w.alloc (.cells #[.string ⟨#[]⟩, .int .i64 0, .slice none 0 0, .int .i64 0] 100)).alloc (.cells #[.slice none 0 0, .int .i64 0] 221)) wr ∧ (∀ j, v'.ownBlock = some j → w.heap.size + 2 ≤ j)) (fun i _ => ps.length - (intOf i).toNat)
  case atStart => exact ⟨0, .slice none 0 0, Nat.zero_le _, rfl, by simpa using bits_new w _ _, Kept.refl _ _, fun j h => by cases h⟩
  case round =>
    obtain ⟨k, v', hk, rfl, hb, hkr, hmr⟩ := hrel
    have hkw : Kept (fun _ => False) w wr := (((Kept.refl (fun _ => False) w).alloc _).alloc _).trans hkr (fun j h1 h2 => by omega)
    by_cases hlt : k < ps.length
    · obtain ⟨b, o, hao, hbw, hc1⟩ := (hi.kept hkw (fun a ha => id)) k hlt
      have hek := he ps[k] (List.getElem_mem _)
      have HT : Hid (((ps.take (k + 1)).map fun p => decide (p % 8 = 0)) = ((ps.take k).map fun p => decide (p % 8 = 0)) ++ [decide (ps[k] % 8 = 0)]) := by
        show _ = _
        rw [List.take_succ_eq_append_getElem hlt, List.map_append]; rfl
      generalize ps[k] = x at *
      have hcs := sampled_any x wr (by omega)
      by_cases hx8 : x % 8 = 0
      · have hcon := add_any 221 (w.heap.size + 1) v' _ 1 wr hb (by simp; omega) (by omega)
        rw [show decide (1 = 1) = decide (x % 8 = 0) from by simp [hx8]] at hcon
        rw [show decide (x % 8 = 0) = true from by simp [hx8]] at hcs
        rw [hao]
        clear hao hi hb he hx8
        go_wp2_with (first | (go_at_call 154; refine hcs.mono ?_; rintro e w2 ⟨rfl, rfl⟩) | (go_at_call 152; refine hcon.mono ?_; rintro e w2 ⟨v2, rfl, hb2, hk2, hm2⟩))
        go_roundw
        case rel =>
          refine ⟨k + 1, v2, by omega, by go_num, by rw [HT.out]; exact hb2, hkr.trans hk2 (fun j h1 h2 => ?_), fun j h => ?_⟩
          · rcases h2 with h2 | h2
            · omega
            · have := hmr j h2; omega
          · rcases hm2 j h with h2 | h2
            · exact hmr j h2
            · have := hkr.size; simp at this; omega
        case measure => simp [intOf]; omega
      · have hcon := add_any 221 (w.heap.size + 1) v' _ 0 wr hb (by simp; omega) (by omega)
        rw [show decide (0 = 1) = decide (x % 8 = 0) from by simp [hx8]] at hcon
        rw [show decide (x % 8 = 0) = false from by simp [hx8]] at hcs
        rw [hao]
        clear hao hi hb he hx8
        go_wp2_with (first | (go_at_call 154; refine hcs.mono ?_; rintro e w2 ⟨rfl, rfl⟩) | (go_at_call 152; refine hcon.mono ?_; rintro e w2 ⟨v2, rfl, hb2, hk2, hm2⟩))
        go_roundw
        case rel =>
          refine ⟨k + 1, v2, by omega, by go_num, by rw [HT.out]; exact hb2, hkr.trans hk2 (fun j h1 h2 => ?_), fun j h => ?_⟩
          · rcases h2 with h2 | h2
            · omega
            · have := hmr j h2; omega
          · rcases hm2 j h with h2 | h2
            · exact hmr j h2
            · have := hkr.size; simp at this; omega
        case measure => simp [intOf]; omega
    · obtain rfl : k = ps.length := by omega
      rw [List.take_length] at hb
      have hpw := placeWidth_any hLn T wr (by omega)
      generalize Lib.bitLen (T / 8) = L at *
      generalize hB : (ps.map fun p => decide (p % 8 = 0)) = B at *
      have hBl : B.length = ps.length := by rw [← hB]; simp
      have HBl : Hid (B.length = ps.length) := hBl
      have hBle : B.length ≤ 6001 := by omega
      have HB0 : Hid (BitsAt wr 221 (w.heap.size + 1) v' B) := hb
      have HI : Hid (IntsAt w ao ps) := hi
      clear hi hb hlt hk hB hBl
      go_wp2_with (go_at_call 155; refine hpw.mono ?_; rintro e w2 ⟨rfl, rfl⟩)
      clear hpw
      go_loopw [28] (fun i wr => ∃ (k : Nat) (v' : Value), k ≤ ps.length ∧ i = .int .i64 k ∧ BitsAt wr 221 (w.heap.size + 1) v' (B ++ Hm.sampBits (ps.take k) L) ∧ Kept (fun j => w.heap.size + 1 ≤ j) ((w.alloc (.cells #[.string ⟨#[]⟩, .int .i64 0, .slice none 0 0, .int .i64 0] 100)).alloc (.cells #[.slice none 0 0, .int .i64 0] 221)) wr ∧ (∀ j, v'.ownBlock = some j → w.heap.size + 2 ≤ j)) (fun i _ => ps.length - (intOf i).toNat)
      case atStart => exact ⟨0, v', Nat.zero_le _, rfl, by simpa [Hm.sampBits] using HB0.out, hkr, hmr⟩
      case round =>
        clear hkr hmr hkw HB0
        obtain ⟨k, v3, hk, rfl, hb, hkr, hmr⟩ := hrel
        have hkw : Kept (fun _ => False) w wr := (((Kept.refl (fun _ => False) w).alloc _).alloc _).trans hkr (fun j h1 h2 => by omega)
        by_cases hlt : k < ps.length
        · obtain ⟨b, o, hao, hbw, hc1⟩ := (HI.out.kept hkw (fun a ha => id)) k hlt
          have hek := he ps[k] (List.getElem_mem _)
          have HT : Hid (Hm.sampBits (ps.take (k + 1)) L = Hm.sampBits (ps.take k) L ++ if ps[k] % 8 = 0 then Hm.numBits (ps[k] / 8) L else []) := Hm.sampBits_take ps L k hlt
          have hsl : (B ++ Hm.sampBits (ps.take k) L).length ≤ 70000 := by
            have h1 := Hm.sampBits_le (ps.take k) L
            have h2 : (ps.take k).length * L ≤ 6001 * 10 := Nat.mul_le_mul (by simp; omega) hw10
            simp only [List.length_append]; omega
          generalize ps[k] = x at *
          have hcs := sampled_any x wr (by omega)
          by_cases hx8 : x % 8 = 0
          · rw [show decide (x % 8 = 0) = true from by simp [hx8]] at hcs
            have hcon := addNum_any 221 (w.heap.size + 1) v3 _ (x / 8) L wr hb (by omega) (by omega) (by omega)
            rw [show ((x / 8 : Nat) : Int) = (x : Int) / 8 from by omega] at hcon
            have HT2 : Hid (Hm.sampBits (ps.take (k + 1)) L = Hm.sampBits (ps.take k) L ++ Hm.numBits (x / 8) L) := by
              show _ = _
              rw [HT.out, if_pos hx8]
            rw [hao]
            clear hao hb he hx8 HT
            go_wp2_with (first | (go_at_call 154; refine hcs.mono ?_; rintro e w2 ⟨rfl, rfl⟩) | (go_at_call 142; refine hcon.mono ?_; rintro e w2 ⟨v2, rfl, hb2, hk2, hm2⟩))
            go_roundw
            case rel =>
              refine ⟨k + 1, v2, by omega, by go_num, by rw [HT2.out, ← List.append_assoc]; exact hb2, hkr.trans hk2 (fun j h1 h2 => ?_), fun j h => ?_⟩
              · rcases h2 with h2 | h2
                · omega
                · have := hmr j h2; omega
              · rcases hm2 j h with h2 | h2
                · exact hmr j h2
                · have := hkr.size; simp at this; omega
            case measure => simp [intOf]; omega
          · rw [show decide (x % 8 = 0) = false from by simp [hx8]] at hcs
            have HT2 : Hid (Hm.sampBits (ps.take (k + 1)) L = Hm.sampBits (ps.take k) L) := by
              show _ = _
              rw [HT.out, if_neg hx8, List.append_nil]
            rw [hao]
            clear hao he hx8 HT
            go_wp2_with (first | (go_at_call 154; refine hcs.mono ?_; rintro e w2 ⟨rfl, rfl⟩))
            go_roundw
            case rel =>
              exact ⟨k + 1, v3, by omega, by go_num, by rw [HT2.out]; exact hb, hkr, hmr⟩
            case measure => simp [intOf]; omega
        · obtain rfl : k = ps.length := by omega
          rw [List.take_length, ← HR.out] at hb
          have hrow := row_any 221 (w.heap.size + 1) v3 R wr hb
          have hpl : (⟨(Hm.packBits R).toArray⟩ : ByteArray).size = (Hm.packBits R).length := by show (Hm.packBits R).toArray.size = _; simp
          have hRl : R.length ≤ 100000 := by
            rw [HR.out]
            have h1 := Hm.sampBits_le ps L
            have h2 : ps.length * L ≤ 6001 * 10 := Nat.mul_le_mul hm hw10
            simp only [List.length_append]; omega
          have hpl2 := Hm.packBits_length R
          have hcnt := fun W => count_any HON.out ⟨(Hm.packBits R).toArray⟩ R.length W (by rw [hpl, hpl2]; omega)
          have e3 : (⟨(Hm.packBits R).toArray⟩ : ByteArray).data.toList = Hm.packBits R := rfl
          rw [e3, hpl] at hcnt
          have hr0 : wr.heap[w.heap.size]? = some (.cells #[.string ⟨#[]⟩, .int .i64 0, .slice none 0 0, .int .i64 0] 100 (0, 0)) := hkr.row (heap_alloc2_old w _ _) (by omega)
          have HX : Aside (wr.heap[w.heap.size]? = some (.cells #[.string ⟨#[]⟩, .int .i64 0, .slice none 0 0, .int .i64 0] 100 (0, 0)) ∧ Kept (fun _ => False) w wr) := ⟨hr0, hkw⟩
          have hws : w.heap.size < wr.heap.size := lt_of_block hr0
          have HC : Aside _ := hcnt
          obtain ⟨s, hS⟩ : ∃ s, s = (⟨(Hm.packBits R).toArray⟩ : ByteArray) := ⟨_, rfl⟩
          obtain ⟨P, hP⟩ : ∃ P, P = Hm.packBits R := ⟨_, rfl⟩
          have HSP : Aside (s = (⟨(Hm.packBits R).toArray⟩ : ByteArray) ∧ P = Hm.packBits R) := ⟨hS, hP⟩
          have HC2 := HC.out
          rw [← hS, ← hP] at HC2
          rw [← hS] at hrow
          have HC3 : Aside _ := HC2
          clear HC2 HC hS hP hpl
          clear hb he HR hr0 hkw hkr hpl2 e3 hcnt hRl
          go_wp2_with fail
          refine hrow.mono ?_
          rintro e w5 ⟨rfl, hk5⟩
          have hcnt := HC3.out w5
          clear hrow HC3
          go_wp2_with fail
          refine hcnt.mono ?_
          rintro e w6 ⟨g, hg, rfl, hir, hk6⟩
          have hk56 : Kept (fun _ => False) wr w6 := hk5.trans hk6 (fun _ _ h => h)
          have hr6 := hk56.row HX.out.1 id
          have p0 : w6.cell? ⟨w.heap.size, 0, none⟩ = some (.string ⟨#[]⟩) := cell_of_row _ _ 0 _ _ _ hr6
          have p1 : w6.cell? ⟨w.heap.size, 1, none⟩ = some (.int .i64 0) := cell_of_row _ _ 1 _ _ _ hr6
          have p2 : w6.cell? ⟨w.heap.size, 2, none⟩ = some (.slice none 0 0) := cell_of_row _ _ 2 _ _ _ hr6
          have f0 : w6.frozen? ⟨w.heap.size, 0, none⟩ = false := frozen_of_row _ _ 0 _ _ hr6
          have f1 : w6.frozen? ⟨w.heap.size, 1, none⟩ = false := frozen_of_row _ _ 1 _ _ hr6
          have f2 : w6.frozen? ⟨w.heap.size, 2, none⟩ = false := frozen_of_row _ _ 2 _ _ hr6
          have p3 : w6.cell? ⟨w.heap.size, 3, none⟩ = some (.int .i64 0) := cell_of_row _ _ 3 _ _ _ hr6
          have f3 : w6.frozen? ⟨w.heap.size, 3, none⟩ = false := frozen_of_row _ _ 3 _ _ hr6
          have HZ : Aside (w6.heap[w.heap.size]? = some (.cells #[.string ⟨#[]⟩, .int .i64 0, .slice none 0 0, .int .i64 0] 100 (0, 0)) ∧ Kept (fun _ => False) w w6 ∧ IntRow w6 g (Hm.counts P) ∧ w.heap.size < g) := ⟨hr6, HX.out.2.trans hk56 (fun _ _ h => h), hir, by have := hk5.size; omega⟩
          clear hcnt hk5 hk6 hk56 hr6 hir hg HX
          go_wp2
          obtain ⟨hr6, hkw, hir, hgw⟩ := HZ.out
          have h2 := heap_setCell_same _ _ 3 _ _ (.int .i64 (T : Nat)) (heap_setCell_same _ _ 2 _ _ (.slice (some ⟨g, 0, none⟩) (P.length + 1) (P.length + 1)) (heap_setCell_same _ _ 1 _ _ (.int .i64 (R.length : Nat)) (heap_setCell_same _ _ 0 _ _ (.string s) hr6)))
          refine bodyPost_ret (v := .agg #[.string s, .int .i64 (R.length : Nat), .slice (some ⟨g, 0, none⟩) (P.length + 1) (P.length + 1), .int .i64 (T : Nat)]) (results_cell_row Tryz.results100 _ _ w.heap.size 100 _ (0, 0) _ rfl h2 Tryz.underlying100 rfl (by kernel_rfl)) rfl ⟨g, by omega, by rw [HSP.out.1, HSP.out.2], ?_, ?_⟩
          · rw [← HSP.out.2]
            exact hir.kept (kept_four w6 w.heap.size _ _ _ _) (fun e => by omega)
          · exact hkw.trans (kept_four w6 w.heap.size _ _ _ _) (fun j h1 h2 => by omega)

end Go.Proofs.YtegnkfdbmmndaaaGreat
end

/- Says -/
section
/- What the library's small functions hand back, as the texts ask for it. -/
namespace Go.Proofs.YtegnkfdbmmndaaaGreat
open Go.RowKit

theorem ones_says : OnesSays := fun b W => by
  have h := Tryz.bits_OnesCount8 (b.toNat : Nat) W (by omega) (by have := b.toNat_lt; omega)
  rw [Int.toNat_natCast, ← Hm.on8_eq] at h
  exact h
theorem len_says : LenSays := fun x W h0 h1 => (Tryz.bits_Len x W h0 h1).mono fun _ _ h => ⟨h.1, h.2.symm⟩

end Go.Proofs.YtegnkfdbmmndaaaGreat
end
