import Derived.Test.YtegnkfdbmmndaaaGreatJ10
import Derived.Lib.BitFns
import Derived.Test.YtegnkfdbmmndaaaGreatJ05
import Derived.Test.YtegnkfdbmmndaaaGreatJ02
import Derived.Lib.Builder
import Derived.Lib.UnsafeStr
import Derived.Test.YtegnkfdbmmndaaaGreatJ01
import Derived.Laws.BitsAllLaws
import Derived.Test.YtegnkfdbmmndaaaGreatJ09
import Derived.Test.YtegnkfdbmmndaaaGreatJ08

/- MakeSamples -/
section
/- The row of the samples is made. -/
namespace Go.Proofs.YtegnkfdbmmndaaaGreat
open Go.RowKit

namespace Hm
def sampBits (ps : List Nat) (wd : Nat) : List Bool := (ps.filter fun p => decide (p % 8 = 0)).flatMap fun p => numBits (p / 8) wd
def samples (ps : List Nat) : List Bool := (ps.map fun p => decide (p % 8 = 0)) ++ sampBits ps (Lib.bitLen ((ps.length - 1) / 8))
theorem sampBits_take (ps : List Nat) (wd k : Nat) (h : k < ps.length) : sampBits (ps.take (k + 1)) wd = sampBits (ps.take k) wd ++ if ps[k] % 8 = 0 then numBits (ps[k] / 8) wd else [] := by
  rw [List.take_succ_eq_append_getElem h]; unfold sampBits; rw [List.filter_append, List.flatMap_append]; congr 1
  by_cases e : ps[k] % 8 = 0 <;> simp [e]
theorem sampBits_le (ps : List Nat) (wd : Nat) : (sampBits ps wd).length ≤ ps.length * wd := by
  unfold sampBits
  induction ps with
  | nil => simp
  | cons p r ih =>
    rw [List.filter_cons, List.length_cons, Nat.add_mul]
    split
    · rw [List.flatMap_cons, List.length_append, numBits_length]; omega
    · omega
end Hm

/-- What math/bits.Len does. -/
def LenSays : Prop := ∀ (x : Int) (W : World), 0 ≤ x → x ≤ 18446744073709551615 → Calls Tryz.prog 175 #[.int .u64 x] W fun e w' => e = .returned (.int .i64 (Lib.bitLen x.toNat : Nat)) ∧ W = w'

set_option maxHeartbeats 400000 in
theorem sampled_any (p : Nat) (w : World) (hp : p ≤ 1000000) : Calls Tryz.prog 154 #[.int .i64 p] w fun e w' => e = .returned (.bool (decide (p % 8 = 0))) ∧ w = w' := by
  by_cases h : p % 8 = 0
  · have hb : ((p : Int) % 8 == 0) = true := by simp; omega
    go_enter Tryz.func154, Tryz.ntmps154
    go_wp2
    go_ret
    simp [h]
  · have hb : ((p : Int) % 8 == 0) = false := by simp; omega
    go_enter Tryz.func154, Tryz.ntmps154
    go_wp2
    go_ret
    simp [h]

set_option maxHeartbeats 400000 in
theorem placeWidth_any (hL : LenSays) (n : Nat) (w : World) (hn : n ≤ 1000000) : Calls Tryz.prog 155 #[.int .i64 n] w fun e w' => e = .returned (.int .i64 (Lib.bitLen (n / 8) : Nat)) ∧ w = w' := by
  have hc := hL ((n / 8 : Nat) : Int) w (by omega) (by omega)
  rw [Int.toNat_natCast] at hc
  have e : ((n / 8 : Nat) : Int) = (n : Int) / 8 := by omega
  rw [e] at hc
  generalize Lib.bitLen (n / 8) = r at *
  go_enter Tryz.func155, Tryz.ntmps155
  go_wp2_with (go_at_call 175; refine hc.mono ?_; rintro e w2 ⟨rfl, rfl⟩)
  go_ret
  exact ⟨rfl, rfl⟩

theorem kept_four (w : World) (b : Nat) (x y z u : Value) : Kept (fun j => j = b) w ((((w.setCell ⟨b, 0, none⟩ x).setCell ⟨b, 1, none⟩ y).setCell ⟨b, 2, none⟩ z).setCell ⟨b, 3, none⟩ u) :=
  (kept_three w b x y z).setCell (p := ⟨b, 3, none⟩) (.inr rfl) u

set_option maxHeartbeats 1000000 in
theorem makeSamples_any (hones : OnesSays) (hLn : LenSays) (ao : Option Addr) (c : Nat) (ps : List Nat) (w : World) (hi : IntsAt w ao ps) (hm1 : 1 ≤ ps.length) (hm : ps.length ≤ 6001) (he : ∀ p ∈ ps, p ≤ 6000) :
    Calls Tryz.prog 100 #[.slice ao ps.length c] w fun e w' => ∃ g, w.heap.size ≤ g ∧ e = .returned (.agg #[.string ⟨(Hm.packBits (Hm.samples ps)).toArray⟩, .int .i64 ((Hm.samples ps).length : Nat), .slice (some ⟨g, 0, none⟩) ((Hm.packBits (Hm.samples ps)).length + 1) ((Hm.packBits (Hm.samples ps)).length + 1), .int .i64 ((ps.length - 1 : Nat) : Int)]) ∧
      IntRow w' g (Hm.counts (Hm.packBits (Hm.samples ps))) ∧ Kept (fun _ => False) w w' := by
  have HON : Aside _ := hones
  clear hones
  have HR : Hid (Hm.samples ps = (ps.map fun p => decide (p % 8 = 0)) ++ Hm.sampBits ps (Lib.bitLen ((ps.length - 1) / 8))) := rfl
  generalize Hm.samples ps = R at HR ⊢
  have hw10 : Lib.bitLen ((ps.length - 1) / 8) ≤ 10 := Lib.bitLen_le _ 10 (by omega) (by omega)
  obtain ⟨T, hT⟩ : ∃ T, T = ps.length - 1 := ⟨_, rfl⟩
  have zT : (ps.length : Int) - 1 = (T : Int) := by omega
  have hTl : T ≤ 6000 := by omega
  rw [← hT] at HR hw10 ⊢
  clear hT
  go_enter Tryz.func100, Tryz.ntmps100
  go_wp2
  go_loopw [12] (fun i wr => ∃ (k : Nat) (v' : Value), k ≤ ps.length ∧ i = .int .i64 k ∧ BitsAt wr 221 (w.heap.size + 1) v' ((ps.take k).map fun p => decide (p % 8 = 0)) ∧ Kept (fun j => w.heap.size + 1 ≤ j) ((w.alloc (.cells #[.string ⟨#[]⟩, .int .i64 0, .slice none 0 0, .int .i64 0] 100)).alloc (.cells #[.slice none 0 0, .int .i64 0] 221)) wr ∧ (∀ j, v'.ownBlock = some j → w.heap.size + 2 ≤ j)) (fun i _ => ps.length - (intOf i).toNat)
  case atStart => exact ⟨0, .slice none 0 0, Nat.zero_le _, rfl, by simpa using bits_new w _ _, Kept.refl _ _, fun j h => by cases h⟩
  case round =>
    obtain ⟨k, v', hk, rfl, hb, hkr, hmr⟩ := hrel
    have hkw : Kept (fun _ => False) w wr := (((Kept.refl (fun _ => False) w).alloc _).alloc _).trans hkr (fun j h1 h2 => by omega)
    by_cases hlt : k < ps.length
    · obtain ⟨b, o, hao, hbw, hc1⟩ := (hi.kept hkw (fun a ha => id)) k hlt
      have hek := he ps[k] (List.getElem_mem _)
      have HT : Hid (((ps.take (k + 1)).map fun p => decide (p % 8 = 0)) = ((ps.take k).map fun p => decide (p % 8 = 0)) ++ [decide (ps[k] % 8 = 0)]) := by
        show _ = _
        rw [List.take_succ_eq_append_getElem hlt, List.map_append]; rfl
      generalize ps[k] = x at *
      have hcs := sampled_any x wr (by omega)
      by_cases hx8 : x % 8 = 0
      · have hcon := add_any 221 (w.heap.size + 1) v' _ 1 wr hb (by simp; omega) (by omega)
        rw [show decide (1 = 1) = decide (x % 8 = 0) from by simp [hx8]] at hcon
        rw [show decide (x % 8 = 0) = true from by simp [hx8]] at hcs
        rw [hao]
        clear hao hi hb he hx8
        go_wp2_with (first | (go_at_call 154; refine hcs.mono ?_; rintro e w2 ⟨rfl, rfl⟩) | (go_at_call 152; refine hcon.mono ?_; rintro e w2 ⟨v2, rfl, hb2, hk2, hm2⟩))
        go_roundw
        case rel =>
          refine ⟨k + 1, v2, by omega, by go_num, by rw [HT.out]; exact hb2, hkr.trans hk2 (fun j h1 h2 => ?_), fun j h => ?_⟩
          · rcases h2 with h2 | h2
            · omega
            · have := hmr j h2; omega
          · rcases hm2 j h with h2 | h2
            · exact hmr j h2
            · have := hkr.size; simp at this; omega
        case measure => simp [intOf]; omega
      · have hcon := add_any 221 (w.heap.size + 1) v' _ 0 wr hb (by simp; omega) (by omega)
        rw [show decide (0 = 1) = decide (x % 8 = 0) from by simp [hx8]] at hcon
        rw [show decide (x % 8 = 0) = false from by simp [hx8]] at hcs
        rw [hao]
        clear hao hi hb he hx8
        go_wp2_with (first | (go_at_call 154; refine hcs.mono ?_; rintro e w2 ⟨rfl, rfl⟩) | (go_at_call 152; refine hcon.mono ?_; rintro e w2 ⟨v2, rfl, hb2, hk2, hm2⟩))
        go_roundw
        case rel =>
          refine ⟨k + 1, v2, by omega, by go_num, by rw [HT.out]; exact hb2, hkr.trans hk2 (fun j h1 h2 => ?_), fun j h => ?_⟩
          · rcases h2 with h2 | h2
            · omega
            · have := hmr j h2; omega
          · rcases hm2 j h with h2 | h2
            · exact hmr j h2
            · have := hkr.size; simp at this; omega
        case measure => simp [intOf]; omega
    · obtain rfl : k = ps.length := by omega
      rw [List.take_length] at hb
      have hpw := placeWidth_any hLn T wr (by omega)
      generalize Lib.bitLen (T / 8) = L at *
      generalize hB : (ps.map fun p => decide (p % 8 = 0)) = B at *
      have hBl : B.length = ps.length := by rw [← hB]; simp
      have HBl : Hid (B.length = ps.length) := hBl
      have hBle : B.length ≤ 6001 := by omega
      have HB0 : Hid (BitsAt wr 221 (w.heap.size + 1) v' B) := hb
      have HI : Hid (IntsAt w ao ps) := hi
      clear hi hb hlt hk hB hBl
      go_wp2_with (go_at_call 155; refine hpw.mono ?_; rintro e w2 ⟨rfl, rfl⟩)
      clear hpw
      go_loopw [28] (fun i wr => ∃ (k : Nat) (v' : Value), k ≤ ps.length ∧ i = .int .i64 k ∧ BitsAt wr 221 (w.heap.size + 1) v' (B ++ Hm.sampBits (ps.take k) L) ∧ Kept (fun j => w.heap.size + 1 ≤ j) ((w.alloc (.cells #[.string ⟨#[]⟩, .int .i64 0, .slice none 0 0, .int .i64 0] 100)).alloc (.cells #[.slice none 0 0, .int .i64 0] 221)) wr ∧ (∀ j, v'.ownBlock = some j → w.heap.size + 2 ≤ j)) (fun i _ => ps.length - (intOf i).toNat)
      case atStart => exact ⟨0, v', Nat.zero_le _, rfl, by simpa [Hm.sampBits] using HB0.out, hkr, hmr⟩
      case round =>
        clear hkr hmr hkw HB0
        obtain ⟨k, v3, hk, rfl, hb, hkr, hmr⟩ := hrel
        have hkw : Kept (fun _ => False) w wr := (((Kept.refl (fun _ => False) w).alloc _).alloc _).trans hkr (fun j h1 h2 => by omega)
        by_cases hlt : k < ps.length
        · obtain ⟨b, o, hao, hbw, hc1⟩ := (HI.out.kept hkw (fun a ha => id)) k hlt
          have hek := he ps[k] (List.getElem_mem _)
          have HT : Hid (Hm.sampBits (ps.take (k + 1)) L = Hm.sampBits (ps.take k) L ++ if ps[k] % 8 = 0 then Hm.numBits (ps[k] / 8) L else []) := Hm.sampBits_take ps L k hlt
          have hsl : (B ++ Hm.sampBits (ps.take k) L).length ≤ 70000 := by
            have h1 := Hm.sampBits_le (ps.take k) L
            have h2 : (ps.take k).length * L ≤ 6001 * 10 := Nat.mul_le_mul (by simp; omega) hw10
            simp only [List.length_append]; omega
          generalize ps[k] = x at *
          have hcs := sampled_any x wr (by omega)
          by_cases hx8 : x % 8 = 0
          · rw [show decide (x % 8 = 0) = true from by simp [hx8]] at hcs
            have hcon := addNum_any 221 (w.heap.size + 1) v3 _ (x / 8) L wr hb (by omega) (by omega) (by omega)
            rw [show ((x / 8 : Nat) : Int) = (x : Int) / 8 from by omega] at hcon
            have HT2 : Hid (Hm.sampBits (ps.take (k + 1)) L = Hm.sampBits (ps.take k) L ++ Hm.numBits (x / 8) L) := by
              show _ = _
              rw [HT.out, if_pos hx8]
            rw [hao]
            clear hao hb he hx8 HT
            go_wp2_with (first | (go_at_call 154; refine hcs.mono ?_; rintro e w2 ⟨rfl, rfl⟩) | (go_at_call 142; refine hcon.mono ?_; rintro e w2 ⟨v2, rfl, hb2, hk2, hm2⟩))
            go_roundw
            case rel =>
              refine ⟨k + 1, v2, by omega, by go_num, by rw [HT2.out, ← List.append_assoc]; exact hb2, hkr.trans hk2 (fun j h1 h2 => ?_), fun j h => ?_⟩
              · rcases h2 with h2 | h2
                · omega
                · have := hmr j h2; omega
              · rcases hm2 j h with h2 | h2
                · exact hmr j h2
                · have := hkr.size; simp at this; omega
            case measure => simp [intOf]; omega
          · rw [show decide (x % 8 = 0) = false from by simp [hx8]] at hcs
            have HT2 : Hid (Hm.sampBits (ps.take (k + 1)) L = Hm.sampBits (ps.take k) L) := by
              show _ = _
              rw [HT.out, if_neg hx8, List.append_nil]
            rw [hao]
            clear hao he hx8 HT
            go_wp2_with (first | (go_at_call 154; refine hcs.mono ?_; rintro e w2 ⟨rfl, rfl⟩))
            go_roundw
            case rel =>
              exact ⟨k + 1, v3, by omega, by go_num, by rw [HT2.out]; exact hb, hkr, hmr⟩
            case measure => simp [intOf]; omega
        · obtain rfl : k = ps.length := by omega
          rw [List.take_length, ← HR.out] at hb
          have hrow := row_any 221 (w.heap.size + 1) v3 R wr hb
          have hpl : (⟨(Hm.packBits R).toArray⟩ : ByteArray).size = (Hm.packBits R).length := by show (Hm.packBits R).toArray.size = _; simp
          have hRl : R.length ≤ 100000 := by
            rw [HR.out]
            have h1 := Hm.sampBits_le ps L
            have h2 : ps.length * L ≤ 6001 * 10 := Nat.mul_le_mul hm hw10
            simp only [List.length_append]; omega
          have hpl2 := Hm.packBits_length R
          have hcnt := fun W => count_any HON.out ⟨(Hm.packBits R).toArray⟩ R.length W (by rw [hpl, hpl2]; omega)
          have e3 : (⟨(Hm.packBits R).toArray⟩ : ByteArray).data.toList = Hm.packBits R := rfl
          rw [e3, hpl] at hcnt
          have hr0 : wr.heap[w.heap.size]? = some (.cells #[.string ⟨#[]⟩, .int .i64 0, .slice none 0 0, .int .i64 0] 100 (0, 0)) := hkr.row (heap_alloc2_old w _ _) (by omega)
          have HX : Aside (wr.heap[w.heap.size]? = some (.cells #[.string ⟨#[]⟩, .int .i64 0, .slice none 0 0, .int .i64 0] 100 (0, 0)) ∧ Kept (fun _ => False) w wr) := ⟨hr0, hkw⟩
          have hws : w.heap.size < wr.heap.size := lt_of_block hr0
          have HC : Aside _ := hcnt
          obtain ⟨s, hS⟩ : ∃ s, s = (⟨(Hm.packBits R).toArray⟩ : ByteArray) := ⟨_, rfl⟩
          obtain ⟨P, hP⟩ : ∃ P, P = Hm.packBits R := ⟨_, rfl⟩
          have HSP : Aside (s = (⟨(Hm.packBits R).toArray⟩ : ByteArray) ∧ P = Hm.packBits R) := ⟨hS, hP⟩
          have HC2 := HC.out
          rw [← hS, ← hP] at HC2
          rw [← hS] at hrow
          have HC3 : Aside _ := HC2
          clear HC2 HC hS hP hpl
          clear hb he HR hr0 hkw hkr hpl2 e3 hcnt hRl
          go_wp2_with fail
          refine hrow.mono ?_
          rintro e w5 ⟨rfl, hk5⟩
          have hcnt := HC3.out w5
          clear hrow HC3
          go_wp2_with fail
          refine hcnt.mono ?_
          rintro e w6 ⟨g, hg, rfl, hir, hk6⟩
          have hk56 : Kept (fun _ => False) wr w6 := hk5.trans hk6 (fun _ _ h => h)
          have hr6 := hk56.row HX.out.1 id
          have p0 : w6.cell? ⟨w.heap.size, 0, none⟩ = some (.string ⟨#[]⟩) := cell_of_row _ _ 0 _ _ _ hr6
          have p1 : w6.cell? ⟨w.heap.size, 1, none⟩ = some (.int .i64 0) := cell_of_row _ _ 1 _ _ _ hr6
          have p2 : w6.cell? ⟨w.heap.size, 2, none⟩ = some (.slice none 0 0) := cell_of_row _ _ 2 _ _ _ hr6
          have f0 : w6.frozen? ⟨w.heap.size, 0, none⟩ = false := frozen_of_row _ _ 0 _ _ hr6
          have f1 : w6.frozen? ⟨w.heap.size, 1, none⟩ = false := frozen_of_row _ _ 1 _ _ hr6
          have f2 : w6.frozen? ⟨w.heap.size, 2, none⟩ = false := frozen_of_row _ _ 2 _ _ hr6
          have p3 : w6.cell? ⟨w.heap.size, 3, none⟩ = some (.int .i64 0) := cell_of_row _ _ 3 _ _ _ hr6
          have f3 : w6.frozen? ⟨w.heap.size, 3, none⟩ = false := frozen_of_row _ _ 3 _ _ hr6
          have HZ : Aside (w6.heap[w.heap.size]? = some (.cells #[.string ⟨#[]⟩, .int .i64 0, .slice none 0 0, .int .i64 0] 100 (0, 0)) ∧ Kept (fun _ => False) w w6 ∧ IntRow w6 g (Hm.counts P) ∧ w.heap.size < g) := ⟨hr6, HX.out.2.trans hk56 (fun _ _ h => h), hir, by have := hk5.size; omega⟩
          clear hcnt hk5 hk6 hk56 hr6 hir hg HX
          go_wp2
          obtain ⟨hr6, hkw, hir, hgw⟩ := HZ.out
          have h2 := heap_setCell_same _ _ 3 _ _ (.int .i64 (T : Nat)) (heap_setCell_same _ _ 2 _ _ (.slice (some ⟨g, 0, none⟩) (P.length + 1) (P.length + 1)) (heap_setCell_same _ _ 1 _ _ (.int .i64 (R.length : Nat)) (heap_setCell_same _ _ 0 _ _ (.string s) hr6)))
          refine bodyPost_ret (v := .agg #[.string s, .int .i64 (R.length : Nat), .slice (some ⟨g, 0, none⟩) (P.length + 1) (P.length + 1), .int .i64 (T : Nat)]) (results_cell_row Tryz.results100 _ _ w.heap.size 100 _ (0, 0) _ rfl h2 Tryz.underlying100 rfl (by kernel_rfl)) rfl ⟨g, by omega, by rw [HSP.out.1, HSP.out.2], ?_, ?_⟩
          · rw [← HSP.out.2]
            exact hir.kept (kept_four w6 w.heap.size _ _ _ _) (fun e => by omega)
          · exact hkw.trans (kept_four w6 w.heap.size _ _ _ _) (fun j h1 h2 => by omega)

end Go.Proofs.YtegnkfdbmmndaaaGreat
end

/- Root -/
section
/- The root's row. -/
namespace Go.Proofs.YtegnkfdbmmndaaaGreat
open Go.RowKit

set_option maxHeartbeats 400000 in
theorem root_any (gp c : Nat) (ps : List Nat) (w : World) (hp : IntRow w gp ps) (hl : ps.length ≤ 6001) :
    Calls Tryz.prog 102 #[.slice (some ⟨gp, 0, none⟩) ps.length c] w fun e w' => e = .returned (.int .i64 (Lib.idxOf (ps.map fun x : Nat => (x : Int)) 0)) ∧ w = w' := by
  have hc := Tryz.slices_Index_int gp 0 ps.length c (ps.map fun x : Nat => (x : Int)) 0 w (by simp) (by omega) (fun j hj => by
    have hjl : j < ps.length := by simpa using hj
    rw [Nat.zero_add, hp.cell hjl]
    simp [List.getD_eq_getElem?_getD, hjl])
  rw [show (ps.map fun x : Nat => (x : Int)).take ps.length = ps.map fun x : Nat => (x : Int) from List.take_of_length_le (by simp)] at hc
  generalize Lib.idxOf (ps.map fun x : Nat => (x : Int)) 0 = r at *
  clear hp
  go_enter Tryz.func102, Tryz.ntmps102
  go_wp2_with (go_at_call 156; refine hc.mono ?_; rintro e w2 ⟨rfl, rfl⟩)
  go_ret
  exact ⟨rfl, rfl⟩

end Go.Proofs.YtegnkfdbmmndaaaGreat
end

/- Builder -/
section
/- A strings.Builder that a call has made: what its methods do, and which blocks they turn. -/
namespace Go.Proofs.YtegnkfdbmmndaaaGreat
open Go.RowKit

/-- A builder lies in block b; its bytes are v's. -/
structure BuilderIs (w : World) (b : Nat) (p v : Value) (l : List UInt8) : Prop where
  blk : w.heap[b]? = some (.cells #[p, v] 201 (0, 0))
  own : w.ownsRow 0 5 1 v l.length (Hm.bcells l)
  ne : v.ownBlock ≠ some b
  adr : p = .pointer none ∨ p = .pointer (some ⟨b, 0, none⟩)
  nil : l = [] → v = .slice none 0 0

set_option maxHeartbeats 1000000 in
set_option maxRecDepth 100000 in
theorem copyCheck_any (b : Nat) (p v : Value) (l : List UInt8) (w : World) (h : BuilderIs w b p v l) :
    Calls Tryz.prog 173 #[.pointer (some ⟨b, 0, none⟩)] w fun e w' => e = .returned (.tuple #[]) ∧ BuilderIs w' b (.pointer (some ⟨b, 0, none⟩)) v l ∧ Kept (fun j => j = b) w w' := by
  have hj : ∃ j, Tryz.prog.info? 201 = some j ∧ j.size = 2 := by
    have h1 : (Tryz.prog.info? 201).map (·.size) = some 2 := by kernel_rfl
    obtain ⟨j, hj, hs⟩ := Option.map_eq_some_iff.1 h1
    exact ⟨j, hj, hs⟩
  obtain ⟨j, hj, hjs⟩ := hj
  have hc0 : w.cell? ⟨b, 0, none⟩ = some p := cell_of_row _ _ 0 _ _ _ h.blk
  have hf0 : w.frozen? ⟨b, 0, none⟩ = false := frozen_of_row _ _ 0 _ _ h.blk
  have hsh : w.shape? b = some (201, 2) := by simp [World.shape?, h.blk]
  rcases h.adr with hp | hp
  · subst hp
    have hset : BuilderIs (w.setCell ⟨b, 0, none⟩ (.pointer (some ⟨b, 0, none⟩))) b (.pointer (some ⟨b, 0, none⟩)) v l :=
      ⟨by have := heap_setCell_same w b 0 _ _ (.pointer (some ⟨b, 0, none⟩)) h.blk; simpa using this, ownsRow_setCell_other h.own h.ne _, h.ne, .inr rfl, h.nil⟩
    have HS : Hid (BuilderIs (w.setCell ⟨b, 0, none⟩ (.pointer (some ⟨b, 0, none⟩))) b (.pointer (some ⟨b, 0, none⟩)) v l) := hset
    clear h hset
    go_enter Tryz.func173, Tryz.ntmps173
    go_wp2
    rw [Lib.run_to_unsafe w ⟨b, 0, none⟩ Tryz.underlying199 Tryz.underlying262 hj (by rw [hjs]; decide) hsh (Nat.zero_lt_succ 1)]
    simp only [Result.andThen]
    rw [Oper.upon_value]
    go_wp2
    rw [run_callFunc_extern Tryz.func187 (by kernel_rfl) (by kernel_rfl) (by kernel_rfl) (e := Extern.AbiNoEscape.same) (by kernel_rfl)]
    rw [Lib.run_noEscape]
    simp only [Result.andThen]
    rw [Oper.upon_value]
    go_wp2
    rw [Lib.run_from_unsafe w ⟨b, 0, none⟩ Tryz.underlying262 Tryz.underlying199 hj hsh (by kernel_rfl)]
    simp only [Result.andThen]
    rw [Oper.upon_value]
    go_wp2
    go_end0
    exact ⟨rfl, HS.out, (Kept.refl (fun j => j = b) w).setCell (p := ⟨b, 0, none⟩) (.inr rfl) _⟩
  · subst hp
    have HS : Hid (BuilderIs w b (.pointer (some ⟨b, 0, none⟩)) v l) := h
    clear h
    go_enter Tryz.func173, Tryz.ntmps173
    go_wp2
    rw [Lib.run_neq_ptr_same w _ Tryz.underlying199 hj]
    go_wp2
    go_end0
    exact ⟨rfl, HS.out, Kept.refl _ _⟩

set_option maxHeartbeats 1000000 in
theorem writeString_any (b : Nat) (p v : Value) (l : List UInt8) (s : ByteArray) (w : World) (h : BuilderIs w b p v l) (hl : l.length + s.size ≤ 1000000) :
    Calls Tryz.prog 129 #[.pointer (some ⟨b, 0, none⟩), .string s] w fun e w' => ∃ v', e = .returned (.tuple #[.int .i64 s.size, .nilIface]) ∧ BuilderIs w' b (.pointer (some ⟨b, 0, none⟩)) v' (l ++ s.data.toList) ∧ Kept (Bk b v) w w' ∧ Moved w v v' := by
  obtain ⟨i0, hi, hz0, hz1, hz2⟩ := info_parts info_u8
  have hcc := copyCheck_any b p v l w h
  clear h
  go_enter Tryz.func129, Tryz.ntmps129
  go_wp2_with fail
  refine hcc.mono ?_
  rintro e w1 ⟨rfl, h1, hk1⟩
  clear hcc
  obtain ⟨a1, c1, hv1, _⟩ := slice_shape h1.own
  subst hv1
  have hd1 : w1.cell? ⟨b, 1, none⟩ = some (.slice a1 l.length c1) := cell_of_row _ _ 1 _ _ _ h1.blk
  have hsz := h1.own
  go_wp2_with (at_builtin; refine wpList_append_mv_string _ rfl (.tmp 12) (.tmp 13) 79 9 rfl 0 5 i0 Tryz.underlying79 Tryz.underlying9 hi hz0 hz1 hz2 _ _ _ rfl hsz s rfl ?c6 ?c7 ?c8 ?_)
  case c6 => unfold maxLen; omega
  case c7 => omega
  case c8 => exact Nat.zero_le _
  intro v2 w2 ho2 hg2 hm2 hnil2
  have hblk2 : w2.heap[b]? = some (.cells #[.pointer (some ⟨b, 0, none⟩), .slice a1 l.length c1] 201 (0, 0)) := by
    rw [hg2.block b (lt_of_block h1.blk) (fun e => h1.ne e.symm)]; exact h1.blk
  have hne2 : v2.ownBlock ≠ some b := fun e => by
    rcases hm2 b e with h | h
    · exact h1.ne h
    · have := lt_of_block h1.blk; omega
  have hk2 : Kept (Bk b (.slice a1 l.length c1)) w w2 := (hk1.wider (fun j _ h => .inl h)).grown hg2 (fun k hk => .inr (.inr hk))
  have hmv2 : Moved w (.slice a1 l.length c1) v2 := (Moved.refl w _).trans hm2 hk1.size
  obtain ⟨a2, c2, hv2, _⟩ := slice_shape ho2
  have HN : Hid (l ++ s.data.toList = [] → v2 = .slice none 0 0) := fun e => by
    have e1 := List.append_eq_nil_iff.1 e
    have hs0 : s = ByteArray.empty := by
      apply ByteArray.ext
      apply Array.ext'
      rw [e1.2]; rfl
    have hv0 := h1.nil e1.1
    simp only [Value.slice.injEq] at hv0
    exact hnil2.2 ⟨by simpa using ⟨hv0.1, e1.1, hv0.2.2⟩, hs0⟩
  subst hv2
  have hf1 : w2.frozen? ⟨b, 1, none⟩ = false := frozen_of_row _ _ 1 _ _ hblk2
  have hd2 : w2.cell? ⟨b, 1, none⟩ = some (.slice a1 l.length c1) := cell_of_row _ _ 1 _ _ _ hblk2
  have HR : Hid (BuilderIs (w2.setCell ⟨b, 1, none⟩ (.slice a2 (l.length + s.size) c2)) b (.pointer (some ⟨b, 0, none⟩)) (.slice a2 (l.length + s.size) c2) (l ++ s.data.toList)) := by
    refine ⟨?_, ?_, hne2, .inr rfl, HN.out⟩
    · have := heap_setCell_same w2 b 1 _ _ (.slice a2 (l.length + s.size) c2) hblk2; simpa using this
    · have e1 : (l ++ s.data.toList).length = l.length + s.size := by simp
      have e2 : Hm.bcells (l ++ s.data.toList) = Hm.bcells l ++ Lib.strCells s := by simp [Hm.bcells, Lib.strCells]
      rw [e1, e2]
      exact ownsRow_setCell_other ho2 hne2 _
  clear ho2 hg2 hm2 hnil2 hblk2 h1 hk1 hsz hd1 hne2
  go_wp2
  go_ret2
  exact ⟨_, rfl, HR.out, hk2.setCell (.inr (.inl rfl)) _, hmv2⟩

set_option maxHeartbeats 400000 in
theorem builderLen_any (b : Nat) (p v : Value) (l : List UInt8) (w : World) (h : BuilderIs w b p v l) :
    Calls Tryz.prog 130 #[.pointer (some ⟨b, 0, none⟩)] w fun e w' => e = .returned (.int .i64 (l.length : Nat)) ∧ w = w' := by
  obtain ⟨a1, c1, hv1, _⟩ := slice_shape h.own
  subst hv1
  have hd1 : w.cell? ⟨b, 1, none⟩ = some (.slice a1 l.length c1) := cell_of_row _ _ 1 _ _ _ h.blk
  clear h
  go_enter Tryz.func130, Tryz.ntmps130
  go_wp2
  go_ret
  exact ⟨rfl, rfl⟩

theorem Kept.freeze {S : Nat → Prop} {a b : World} (h : Kept S a b) {p : Addr} (hp : a.heap.size ≤ p.block ∨ S p.block) (n : Nat) : Kept S a (b.freeze p n) := by
  have h0 := Lib.below_freeze (Below.refl 0 b) (p := p) (Nat.zero_le _) n
  refine ⟨h0.os.trans h.os, h0.tape.trans h.tape, h0.output.trans h.output, Nat.le_trans h.size h0.size, fun j hj hn => ?_⟩
  have hne : p.block ≠ j := by
    rintro rfl
    rcases hp with hp | hp
    · omega
    · exact hn hp
  refine Eq.trans ?_ (h.block j hj hn)
  unfold World.freeze
  split
  · rfl
  · simp only [Array.getElem?_modify]
    rw [if_neg hne]

set_option maxHeartbeats 1000000 in
set_option maxRecDepth 100000 in
theorem builderString_any (b : Nat) (p v : Value) (l : List UInt8) (w : World) (h : BuilderIs w b p v l) (hl : l.length ≤ 1000000) :
    Calls Tryz.prog 131 #[.pointer (some ⟨b, 0, none⟩)] w fun e w' => e = .returned (.string ⟨l.toArray⟩) ∧ Kept (Bk b v) w w' := by
  by_cases h0 : l = []
  · have hv := h.nil h0
    subst hv
    subst h0
    have hd1 : w.drew.cell? ⟨b, 1, none⟩ = some (.slice none 0 0) := cell_of_row _ _ 1 _ _ _ h.blk
    have hSD : (Builtin.unsafeSliceData_ #[79] 198 #[.slice none 0 0]).run Tryz.prog w.drew = .ok (.pointer none) w.drew := rfl
    have hUS : ∀ W, (Builtin.unsafeString_ #[198, 3] 9 #[.pointer none, .int .i64 0]).run Tryz.prog W = .ok (.string .empty) W := fun W => Lib.run_unsafeString_none W _ _ _ none
    clear h
    go_enter Tryz.func131, Tryz.ntmps131
    go_wp2
    go_region
    all_goals (go_wp2; go_ret; exact ⟨rfl, (Kept.refl _ _).drew⟩)
  · have hl0 : 0 < l.length := List.length_pos_iff.2 h0
    obtain ⟨g, cap, hv, hnc, hgw⟩ := owns_some h.own hl0
    subst hv
    have hown := h.own
    have hd1 : w.drew.cell? ⟨b, 1, none⟩ = some (.slice (some ⟨g, 0, none⟩) l.length cap) := cell_of_row _ _ 1 _ _ _ h.blk
    have hSD : (Builtin.unsafeSliceData_ #[79] 198 #[.slice (some ⟨g, 0, none⟩) l.length cap]).run Tryz.prog w.drew = .ok (.pointer (some ⟨g, 0, none⟩)) w.drew := Lib.run_unsafeSliceData_row _ _ _ _ _ _ (by omega)
    have hUS : (Builtin.unsafeString_ #[198, 3] 9 #[.pointer (some ⟨g, 0, none⟩), .int .i64 l.length]).run Tryz.prog w.drew = .ok (.string ⟨l.toArray⟩) (w.drew.freeze ⟨g, 0, none⟩ l.length) := by
      rcases hown.2 with ⟨hx, _⟩ | ⟨g2, cap2, cur, hx, _, hg, _, hcm, hcs, ht⟩
      · cases hx
      · cases hx
        refine Lib.run_unsafeString_row w.drew 198 3 9 5 Tryz.underlying198 (by kernel_rfl) g cur.size (by have hg' : w.drew.heap[g]? = some (.cells cur 5 (0, 0)) := hg; simp [World.shape?, hg']) l h0 (by omega) (by omega) ?_
        intro j x hx
        exact hown.cells (g := g) rfl j (.int .u8 x.toNat) (by simp [Hm.bcells, hx])
    clear h hown
    go_enter Tryz.func131, Tryz.ntmps131
    go_wp2
    go_region
    all_goals (go_wp2; go_ret; exact ⟨rfl, (Kept.refl _ _).drew.freeze (p := ⟨g, 0, none⟩) (.inr (.inr rfl)) _⟩)

end Go.Proofs.YtegnkfdbmmndaaaGreat
end

/- Join -/
section
/- The text of some files, and where each ends in it. -/
namespace Go.Proofs.YtegnkfdbmmndaaaGreat
open Go.RowKit

namespace Hm
def textOf (fs : List (ByteArray × ByteArray)) : List UInt8 := fs.flatMap fun f => f.2.data.toList
def endsTo (fs : List (ByteArray × ByteArray)) (k : Nat) : List Nat := (List.range fs.length).map fun i => if i < k then (textOf (fs.take (i + 1))).length else 0
def endsOf (fs : List (ByteArray × ByteArray)) : List Nat := (List.range fs.length).map fun i => (textOf (fs.take (i + 1))).length
theorem textOf_take (fs : List (ByteArray × ByteArray)) (k : Nat) (h : k < fs.length) : textOf (fs.take (k + 1)) = textOf (fs.take k) ++ fs[k].2.data.toList := by
  rw [List.take_succ_eq_append_getElem h]; unfold textOf; rw [List.flatMap_append]; congr 1; simp
theorem textOf_le (fs : List (ByteArray × ByteArray)) (k : Nat) : (textOf (fs.take k)).length ≤ (textOf fs).length := by
  have e : textOf fs = textOf (fs.take k) ++ textOf (fs.drop k) := by
    unfold textOf; rw [← List.flatMap_append, List.take_append_drop]
  rw [e, List.length_append]; omega
theorem endsTo_length (fs : List (ByteArray × ByteArray)) (k : Nat) : (endsTo fs k).length = fs.length := by simp [endsTo]
theorem endsOf_length (fs : List (ByteArray × ByteArray)) : (endsOf fs).length = fs.length := by simp [endsOf]
theorem endsTo_zero (fs : List (ByteArray × ByteArray)) : endsTo fs 0 = List.replicate fs.length 0 := by
  apply List.ext_getElem <;> simp [endsTo]
theorem endsTo_all (fs : List (ByteArray × ByteArray)) : endsTo fs fs.length = endsOf fs := by
  apply List.ext_getElem
  · simp [endsTo, endsOf]
  · intro i h1 h2
    have : i < fs.length := by simpa [endsTo] using h1
    simp [endsTo, endsOf, this]
theorem endsTo_get (fs : List (ByteArray × ByteArray)) (k i : Nat) (h : i < (endsTo fs k).length) : (endsTo fs k)[i] = if i < k then (textOf (fs.take (i + 1))).length else 0 := by simp [endsTo]
theorem endsTo_succ (fs : List (ByteArray × ByteArray)) (k : Nat) (_h : k < fs.length) : endsTo fs (k + 1) = (endsTo fs k).set k (textOf (fs.take (k + 1))).length := by
  apply List.ext_getElem
  · simp [endsTo]
  · intro i h1 h2
    rw [List.getElem_set, endsTo_get, endsTo_get]
    by_cases e : k = i
    · subst e; simp
    · rw [if_neg e]
      by_cases h3 : i < k
      · rw [if_pos h3, if_pos (by omega)]
      · rw [if_neg h3, if_neg (by omega)]
theorem endsOf_le (fs : List (ByteArray × ByteArray)) : ∀ e ∈ endsOf fs, e ≤ (textOf fs).length := by
  intro e he
  obtain ⟨i, _, rfl⟩ := List.mem_map.1 he
  exact textOf_le fs _
end Hm

set_option maxHeartbeats 1000000 in
theorem joinFiles_any (ao : Option Addr) (c : Nat) (fs : List (ByteArray × ByteArray)) (w : World) (hf : FilesAt w ao fs) (hm : fs.length ≤ 40) (ht : (Hm.textOf fs).length ≤ 6000) :
    Calls Tryz.prog 94 #[.slice ao fs.length c] w fun e w' => e = .returned (.tuple #[.string ⟨(Hm.textOf fs).toArray⟩, .slice (some ⟨w.heap.size + 1, 0, none⟩) fs.length fs.length]) ∧ IntRow w' (w.heap.size + 1) (Hm.endsOf fs) ∧ Kept (fun _ => False) w w' := by
  obtain ⟨i0, hi, hz0, hz1, hz2⟩ := info_parts info_int
  go_enter Tryz.func94, Tryz.ntmps94
  go_wp2_with (at_make; refine wpList_make_full _ rfl (.tmp 9) (.tmp 9) 64 rfl w.heap.size 3 i0 (.int .i64 0) 1 Tryz.underlying64 hi hz0 hz1 .i64 .i64 _ _ fs.length rfl rfl rfl rfl (by rw [hz2]; omega) (by unfold maxLen; omega) (by simp) ?_; intro w1 ho1 hg1)
  have hsz1 : (w.alloc (.cells #[.pointer none, .slice none 0 0] 201)).heap.size = w.heap.size + 1 := by simp
  try rw [hsz1] at ho1
  have hr1 : IntRow w1 (w.heap.size + 1) (Hm.endsTo fs 0) := by rw [Hm.endsTo_zero]; exact IntRow.made ho1
  have hb1 : BuilderIs w1 w.heap.size (.pointer none) (.slice none 0 0) (Hm.textOf (fs.take 0)) :=
    ⟨by rw [hg1.block _ (by simp) (by simp)]; exact heap_alloc_new w _, by simpa [Hm.textOf, Hm.bcells] using World.ownsRow_nil w1 0 5 1, by simp [Value.ownBlock], .inl rfl, fun _ => rfl⟩
  have hk1 : Kept (fun _ => False) w w1 := ((Kept.refl (fun _ => False) w).alloc _).grown hg1 (fun k hk => by cases hk)
  clear ho1 hg1
  go_loopw [13] (fun i wr => ∃ (k : Nat) (p v : Value), k ≤ fs.length ∧ i = .int .i64 k ∧ BuilderIs wr w.heap.size p v (Hm.textOf (fs.take k)) ∧ IntRow wr (w.heap.size + 1) (Hm.endsTo fs k) ∧ Kept (fun _ => False) w wr ∧ (∀ j, v.ownBlock = some j → w.heap.size + 1 < j)) (fun i _ => fs.length - (intOf i).toNat)
  case atStart => exact ⟨0, _, _, Nat.zero_le _, rfl, hb1, hr1, hk1, fun j h => by cases h⟩
  case round =>
    clear hr1 hb1 hk1
    obtain ⟨k, p, v, hk, rfl, hb, hr, hkr, hmr⟩ := hrel
    have hle1 := Hm.textOf_le fs k
    by_cases hlt : k < fs.length
    · obtain ⟨b, o, hao, hbw, hc1, hc2⟩ := (hf.kept hkr (fun a ha => id)) k hlt
      have hle2 := Hm.textOf_le fs (k + 1)
      have HT : Hid (Hm.textOf (fs.take (k + 1)) = Hm.textOf (fs.take k) ++ fs[k].2.data.toList) := Hm.textOf_take fs k hlt
      have hel : (Hm.textOf (fs.take k)).length + fs[k].2.size ≤ 6000 := by
        have := congrArg List.length HT.out
        have e3 : fs[k].2.data.toList.length = fs[k].2.size := by simp
        rw [List.length_append, e3] at this; omega
      have HE : Hid (Hm.endsTo fs (k + 1) = (Hm.endsTo fs k).set k (Hm.textOf (fs.take (k + 1))).length) := Hm.endsTo_succ fs k hlt
      have hetl := Hm.endsTo_length fs k
      generalize fs[k].1 = nm at *
      generalize fs[k].2 = ct at *
      have hbx : BuilderIs (wr.alloc (.cells #[.string nm, .string ct] 38)) w.heap.size p v (Hm.textOf (fs.take k)) :=
        ⟨by rw [Below.heap_alloc _ _ _ (lt_of_block hb.blk)]; exact hb.blk, hb.own.alloc _, hb.ne, hb.adr, hb.nil⟩
      have hws := writeString_any w.heap.size p v _ ct _ hbx (by omega)
      rw [hao]
      clear hao hf hb hbx
      go_wp2_with fail
      refine hws.mono ?_
      rintro e w2 ⟨v2, rfl, hb2, hk2, hm2⟩
      have hln := builderLen_any _ _ _ _ w2 hb2
      rw [← HT.out] at hb2 hln
      have hr2 : IntRow w2 (w.heap.size + 1) (Hm.endsTo fs k) := by
        refine IntRow.kept (w := wr.alloc (.cells #[.string nm, .string ct] 38)) ?_ hk2 ?_
        · unfold IntRow; rw [Below.heap_alloc _ _ _ hr.lt]; exact hr
        · rintro (h | h)
          · omega
          · have := hmr _ h; omega
      have hd := hr2.cell (i := k) (by omega)
      have hfr := hr2.free k
      have HR : Hid (IntRow (w2.setCell ⟨w.heap.size + 1, k, none⟩ (.int .i64 ((Hm.textOf (fs.take (k + 1))).length : Nat))) (w.heap.size + 1) (Hm.endsTo fs (k + 1))) := by
        show IntRow _ _ _
        rw [HE.out]; exact hr2.set k _
      have hkw2 : Kept (fun _ => False) w w2 := (hkr.alloc _).trans hk2 (fun j h1 h2 => by
        rcases h2 with h2 | h2
        · omega
        · have := hmr _ h2; omega)
      have hmr2 : ∀ j, v2.ownBlock = some j → w.heap.size + 1 < j := fun j h => by
        rcases hm2 j h with h2 | h2
        · exact hmr j h2
        · have := lt_of_block hr; simp at h2; omega
      generalize (Hm.endsTo fs k)[k]'(by omega) = old at hd
      have HB2 : Hid (BuilderIs w2 w.heap.size (.pointer (some ⟨w.heap.size, 0, none⟩)) v2 (Hm.textOf (fs.take (k + 1)))) := hb2
      clear hws hr hr2 hb2 hk2 hm2 hkr hmr
      generalize (Hm.textOf (fs.take (k + 1))).length = el at *
      go_wp2_with (go_at_call 130; refine hln.mono ?_; rintro e w3 ⟨rfl, rfl⟩)
      go_roundw
      case rel =>
        have hb := HB2.out
        refine ⟨k + 1, _, v2, by omega, by go_num, ⟨?_, ?_, hb.ne, hb.adr, hb.nil⟩, HR.out, hkw2.setCell (.inl (by simp)) _, hmr2⟩
        · rw [Below.heap_setCell _ _ _ _ (by simp)]; exact hb.blk
        · exact ownsRow_setCell_other hb.own (fun e => by have := hmr2 _ e; simp at this) _
      case measure => simp [intOf]; omega
    · obtain rfl : k = fs.length := by omega
      rw [List.take_length] at hb
      rw [Hm.endsTo_all] at hr
      have hst := builderString_any _ _ _ _ wr hb (by omega)
      have HR : Hid (IntRow wr (w.heap.size + 1) (Hm.endsOf fs)) := hr
      clear hf hb hr
      generalize htx : (⟨(Hm.textOf fs).toArray⟩ : ByteArray) = txt at hst
      have HX : Hid ((⟨(Hm.textOf fs).toArray⟩ : ByteArray) = txt) := htx
      clear htx
      go_wp2_with (go_at_call 131; refine hst.mono ?_; rintro e w2 ⟨rfl, hk2⟩)
      go_ret2
      rw [HX.out]
      refine ⟨rfl, HR.out.kept hk2 ?_, hkr.trans hk2 (fun j h1 h2 => ?_)⟩
      · rintro (h | h)
        · omega
        · have := hmr _ h; omega
      · rcases h2 with h2 | h2
        · omega
        · have := hmr _ h2; omega

end Go.Proofs.YtegnkfdbmmndaaaGreat
end

/- Sizes -/
section
/- How long the parts of an archive are: plain counting. -/
namespace Go.Proofs.YtegnkfdbmmndaaaGreat
namespace Hm

theorem range_pos (n : Nat) : ((List.range (n + 1)).filter fun p => decide (0 < p)).length = n := by
  induction n with
  | zero => rfl
  | succ n ih => rw [List.range_succ, List.filter_append, List.length_append, ih]; simp
theorem range_eights (n : Nat) : ((List.range (n + 1)).filter fun p => decide (p % 8 = 0)).length = n / 8 + 1 := by
  induction n with
  | zero => rfl
  | succ n ih =>
    rw [List.range_succ, List.filter_append, List.length_append, ih]
    by_cases h : (n + 1) % 8 = 0
    · simp [h]; omega
    · simp [h]; omega
theorem colOf_length {s : List UInt8} {ps : List Nat} (h : ps.Perm (List.range (s.length + 1))) : (colOf s ps).length = s.length := by
  unfold colOf
  rw [List.length_map, (h.filter _).length_eq, range_pos]
theorem colOf_all {s : List UInt8} {ps : List Nat} (cn : Nat) (hs : ∀ b ∈ s, b.toNat = cn) (h : ps.Perm (List.range (s.length + 1))) : ∀ b ∈ colOf s ps, b.toNat = cn := by
  intro b hb
  unfold colOf at hb
  obtain ⟨p, hp, rfl⟩ := List.mem_map.1 hb
  have hp2 := List.mem_filter.1 hp
  have h0 : 0 < p := by simpa using hp2.2
  have h1 := h.subset hp2.1
  have h2 : p < s.length + 1 := by simpa using h1
  rw [List.getD_eq_getElem?_getD, List.getElem?_eq_getElem (by omega)]
  exact hs _ (List.getElem_mem _)
theorem sampBits_length (ps : List Nat) (wd : Nat) : (sampBits ps wd).length = (ps.filter fun p => decide (p % 8 = 0)).length * wd := by
  unfold sampBits
  generalize (ps.filter fun p => decide (p % 8 = 0)) = l
  induction l with
  | nil => simp
  | cons p r ih => rw [List.flatMap_cons, List.length_append, numBits_length, ih, List.length_cons, Nat.add_mul]; omega
theorem samples_length {n : Nat} {ps : List Nat} (h : ps.Perm (List.range (n + 1))) : (samples ps).length = n + 1 + (n / 8 + 1) * Lib.bitLen (n / 8) := by
  have hl : ps.length = n + 1 := by have := h.length_eq; simpa using this
  unfold samples
  rw [List.length_append, List.length_map, sampBits_length, (h.filter _).length_eq, range_eights, hl, Nat.add_sub_cancel]
theorem endsBits_length (es : List Nat) (n : Nat) : (endsBits es n).length = es.length * lowW es.length n + (es.length + n / 2 ^ lowW es.length n + 1) := by
  unfold endsBits
  rw [endSets_length, List.length_append, endLow_length, List.length_replicate]
theorem idx_nat {n : Nat} {ps : List Nat} (h : ps.Perm (List.range (n + 1))) : ∃ r : Nat, Lib.idxOf (ps.map fun x : Nat => (x : Int)) 0 = (r : Int) ∧ r ≤ n := by
  have hl : ps.length = n + 1 := by have := h.length_eq; simpa using this
  have hmem : 0 ∈ ps := h.symm.subset (by simp)
  have hk : ps.findIdx (fun x => x == 0) < ps.length := List.findIdx_lt_length_of_exists ⟨0, hmem, by simp⟩
  have hz : ps[ps.findIdx (fun x => x == 0)] = 0 := by
    have := List.findIdx_getElem (p := fun x : Nat => x == 0) (xs := ps) (w := hk)
    simpa using this
  refine ⟨ps.findIdx (fun x => x == 0), ?_, by omega⟩
  have hh := Lib.idxOf_hit (ps.map fun x : Nat => (x : Int)) ps.length (ps.findIdx (fun x => x == 0)) 0 hk (by simp)
    (by simp [List.getD_eq_getElem?_getD, hk, hz])
    (fun j hj => by
      have hjl : j < ps.length := by omega
      have hne := List.not_of_lt_findIdx hj
      simp [List.getD_eq_getElem?_getD, hjl]
      simpa using hne)
  rw [show (ps.map fun x : Nat => (x : Int)).take ps.length = ps.map fun x : Nat => (x : Int) from List.take_of_length_le (by simp)] at hh
  exact hh

end Hm
end Go.Proofs.YtegnkfdbmmndaaaGreat
end

/- Crc -/
section
/- The sum CRC-32 as plain arithmetic. -/
namespace Go.Proofs.YtegnkfdbmmndaaaGreat
namespace Hm

def crcShift (s : Nat) : Nat := if s % 2 = 1 then (s / 2) ^^^ 3988292384 else s / 2
def crcTimes : Nat → Nat → Nat
  | 0, s => s
  | k + 1, s => crcShift (crcTimes k s)
def crcByte (s b : Nat) : Nat := crcTimes 8 (s ^^^ b)
def crcRun (l : List UInt8) : Nat := l.foldl (fun s b => crcByte s b.toNat) 4294967295
def crc (l : List UInt8) : Nat := crcRun l ^^^ 4294967295

theorem xor_lt32 {a b : Nat} (ha : a < 4294967296) (hb : b < 4294967296) : a ^^^ b < 4294967296 := by
  have := Nat.xor_lt_two_pow (n := 32) (x := a) (y := b) (by omega) (by omega)
  omega
theorem crcShift_lt {s : Nat} (h : s < 4294967296) : crcShift s < 4294967296 := by
  unfold crcShift
  split
  · exact xor_lt32 (by omega) (by omega)
  · omega
theorem crcTimes_lt (k : Nat) {s : Nat} (h : s < 4294967296) : crcTimes k s < 4294967296 := by
  induction k with
  | zero => exact h
  | succ k ih => exact crcShift_lt ih
theorem crcByte_lt {s b : Nat} (h : s < 4294967296) (hb : b < 4294967296) : crcByte s b < 4294967296 := crcTimes_lt 8 (xor_lt32 h hb)
theorem crcFold_lt (l : List UInt8) : ∀ s, s < 4294967296 → l.foldl (fun s b => crcByte s b.toNat) s < 4294967296 := by
  induction l with
  | nil => intro s h; exact h
  | cons b l ih =>
    intro s h
    exact ih _ (crcByte_lt h (by have := b.toNat_lt; omega))
theorem crcRun_lt (l : List UInt8) : crcRun l < 4294967296 := crcFold_lt l _ (by omega)
theorem crc_lt (l : List UInt8) : crc l < 4294967296 := xor_lt32 (crcRun_lt l) (by omega)
theorem crcRun_snoc (l : List UInt8) (b : UInt8) : crcRun (l ++ [b]) = crcByte (crcRun l) b.toNat := by
  simp [crcRun, List.foldl_append]
theorem crcRun_take (l : List UInt8) (k : Nat) (h : k < l.length) : crcRun (l.take (k + 1)) = crcTimes 8 (crcRun (l.take k) ^^^ l[k].toNat) := by
  rw [List.take_succ_eq_append_getElem h, crcRun_snoc]; rfl

end Hm
end Go.Proofs.YtegnkfdbmmndaaaGreat
end

/- ArchM -/
section
/- An archive, byte by byte. -/
namespace Go.Proofs.YtegnkfdbmmndaaaGreat
namespace Hm

def rootOf (ps : List Nat) : Nat := ps.findIdx fun x => x == 0
/-- The tree's bits, by the beginnings of the codes. -/
def treeRef (cd : UInt8 → List Bool) (hs : List (List Bool)) (col : List UInt8) : List Bool := hs.flatMap fun h => (col.filter fun b => begB (cd b) h).map fun b => (cd b).getD h.length false
/-- The tree's bits, by the nodes. -/
def trOf (L : List Nat) (N : Nat) (col : List UInt8) : List Bool := (treeBits (lnB L) (numB L) (shapeTo (lnB L) (orderOf L) (2 * N)).1 col N).map fun x => decide (x = 1)
/-- An archive but for its sum. -/
def archBody (fs : List (ByteArray × ByteArray)) (ps : List Nat) (tr : List Bool) : List UInt8 :=
  [72, 79, 65, 82, 68, 49, UInt8.ofNat fs.length] ++ leBytes (textOf fs).length 2 ++ leBytes (rootOf ps) 2 ++ nameBytes fs ++ packBits (endsBits (endsOf fs) (textOf fs).length) ++ leBytes (codedOf (lens (textOf fs))).length 2 ++ lenBytes (lens (textOf fs)) (codedOf (lens (textOf fs))) ++ packBits tr ++ packBits (samples ps)
def archOf (fs : List (ByteArray × ByteArray)) (ps : List Nat) (tr : List Bool) : List UInt8 := archBody fs ps tr ++ leBytes (crc (archBody fs ps tr)) 4

theorem rootOf_idx {n : Nat} {ps : List Nat} (h : ps.Perm (List.range (n + 1))) : Lib.idxOf (ps.map fun x : Nat => (x : Int)) 0 = (rootOf ps : Int) ∧ rootOf ps ≤ n := by
  have hl : ps.length = n + 1 := by have := h.length_eq; simpa using this
  have hmem : 0 ∈ ps := h.symm.subset (by simp)
  have hk : ps.findIdx (fun x => x == 0) < ps.length := List.findIdx_lt_length_of_exists ⟨0, hmem, by simp⟩
  have hz : ps[ps.findIdx (fun x => x == 0)] = 0 := by
    have := List.findIdx_getElem (p := fun x : Nat => x == 0) (xs := ps) (w := hk)
    simpa using this
  refine ⟨?_, by unfold rootOf; omega⟩
  have hh := Lib.idxOf_hit (ps.map fun x : Nat => (x : Int)) ps.length (ps.findIdx (fun x => x == 0)) 0 hk (by simp)
    (by simp [List.getD_eq_getElem?_getD, hk, hz])
    (fun j hj => by
      have hjl : j < ps.length := by omega
      have hne := List.not_of_lt_findIdx hj
      simp [List.getD_eq_getElem?_getD, hjl]
      simpa using hne)
  rw [List.take_of_length_le (by simp)] at hh
  exact hh
theorem colOf_mem {s : List UInt8} {ps : List Nat} (h : ps.Perm (List.range (s.length + 1))) : ∀ b ∈ colOf s ps, b ∈ s := by
  intro b hb
  unfold colOf at hb
  obtain ⟨p, hp, rfl⟩ := List.mem_map.1 hb
  have hp2 := List.mem_filter.1 hp
  have h0 : 0 < p := by simpa using hp2.2
  have h1 := h.subset hp2.1
  have h2 : p < s.length + 1 := by simpa using h1
  rw [List.getD_eq_getElem?_getD, List.getElem?_eq_getElem (by omega)]
  exact List.getElem_mem _
theorem nodeBits_nil (ln num : UInt8 → Nat) (nds : List Nd) (n : Nat) : nodeBits ln num nds [] n = [] := rfl
theorem treeBits_nil (ln num : UInt8 → Nat) (nds : List Nd) (N : Nat) : treeBits ln num nds [] N = [] := by
  induction N with
  | zero => rfl
  | succ N ih => rw [treeBits_succ, ih, nodeBits_nil]; rfl
/-- Both ways of telling the tree's bits tell the same. -/
theorem trOf_ref {L : List Nat} {N : Nat} {col : List UInt8} {hs : List (List Bool)} (hC : Coded L) (hE : Ends 32 (lnB L) (orderOf L) N) (hm : ∀ b ∈ col, b ∈ orderOf L) (hh : HeadsOf (cdOf (lnB L) (numB L)) hs) : trOf L N col = treeRef (cdOf (lnB L) (numB L)) hs col := by
  by_cases h0 : orderOf L = []
  · have hc : col = [] := by
      cases col with
      | nil => rfl
      | cons b r => have := hm b (List.mem_cons_self ..); rw [h0] at this; simp at this
    subst hc
    unfold trOf treeRef
    rw [treeBits_nil]
    simp
  · have hsh := hE.nodes
    have hlen := hE.len
    have hz := hE.side0 h0
    have hk := hC.numk
    have hu := hh.unique (hsh.heads hk (fun j hj => hz j (by rw [hlen] at hj; exact hj)) hC.num_lt (fun b hb => (hC.mem b).2 hb))
    rw [hu]
    unfold trOf treeRef headsOf
    generalize (shapeTo (lnB L) (orderOf L) (2 * N)).1 = nds at *
    rw [← hlen]
    unfold treeBits
    rw [List.map_flatMap, List.flatMap_map]
    rw [List.flatMap_def, List.flatMap_def]
    congr 1
    refine List.map_congr_left fun j hj => ?_
    have hj' : j < nds.length := by simpa using hj
    unfold nodeBits colAt
    rw [List.map_map]
    have e1 : (col.filter fun b => begB (cdOf (lnB L) (numB L) b) (headBits (ndAt nds j).depth (ndAt nds j).num)) = col.filter (under (lnB L) (numB L) (ndAt nds j)) :=
      List.filter_congr fun b hb => hsh.begins hk hC.num_lt hj' (hm b hb) (hC.pos b (hm b hb))
    rw [e1, headBits_length]
    refine List.map_congr_left fun b hb => ?_
    have hb2 := List.mem_filter.1 hb
    exact (cdOf_getD b _ (of_decide_eq_true hb2.2).1).symm

end Hm
end Go.Proofs.YtegnkfdbmmndaaaGreat
end

/- Nodes -/
section
/- The nodes of the tree in memory. -/
namespace Go.Proofs.YtegnkfdbmmndaaaGreat
open Go.RowKit

def brCells (b : Hm.Br) : List Value := [.bool b.whole, .int .u8 (b.val.toNat : Nat), .int .i64 (b.node : Nat)]
def ndCells (n : Hm.Nd) : List Value := [.int .i64 (n.depth : Nat), .int .i64 (n.frm : Nat), .int .i64 (n.siz : Nat), .bool n.b0.whole, .int .u8 (n.b0.val.toNat : Nat), .int .i64 (n.b0.node : Nat), .bool n.b1.whole, .int .u8 (n.b1.val.toNat : Nat), .int .i64 (n.b1.node : Nat)]
def ncells : List Hm.Nd → List Value
  | [] => []
  | n :: r => ndCells n ++ ncells r
theorem ncells_append (a b : List Hm.Nd) : ncells (a ++ b) = ncells a ++ ncells b := by
  induction a with
  | nil => rfl
  | cons n r ih => show ndCells n ++ ncells (r ++ b) = _; rw [ih, ← List.append_assoc]; rfl
theorem ncells_length (l : List Hm.Nd) : (ncells l).length = l.length * 9 := by
  induction l with
  | nil => rfl
  | cons n r ih => show (ndCells n ++ ncells r).length = _; rw [List.length_append, ih, List.length_cons]; show 9 + _ = _; omega
theorem ncells_one (l : List Hm.Nd) : ∀ v ∈ ncells l, v.oneCell' = true := by
  induction l with
  | nil => intro v hv; simp [ncells] at hv
  | cons n r ih =>
    intro v hv
    rcases List.mem_append.1 hv with h | h
    · simp only [ndCells, List.mem_cons, List.not_mem_nil, or_false] at h
      rcases h with rfl | rfl | rfl | rfl | rfl | rfl | rfl | rfl | rfl <;> rfl
    · exact ih v h
theorem nds_split (l : List Hm.Nd) (i : Nat) (h : i < l.length) (n : Hm.Nd) : l.set i n = l.take i ++ (n :: l.drop (i + 1)) := by
  rw [List.set_eq_take_append_cons_drop, if_pos h]
theorem nds_self (l : List Hm.Nd) (i : Nat) (h : i < l.length) : l = l.take i ++ (Hm.ndAt l i :: l.drop (i + 1)) := by
  rw [← nds_split l i h]
  unfold Hm.ndAt
  rw [List.getD_eq_getElem?_getD, List.getElem?_eq_getElem h]
  exact (List.set_getElem_self h).symm
theorem ncells_split (l : List Hm.Nd) (i : Nat) (h : i < l.length) (n : Hm.Nd) : ncells (l.set i n) = ncells (l.take i) ++ (ndCells n ++ ncells (l.drop (i + 1))) := by
  rw [nds_split l i h, ncells_append]; rfl
theorem ncells_self (l : List Hm.Nd) (i : Nat) (h : i < l.length) : ncells l = ncells (l.take i) ++ (ndCells (Hm.ndAt l i) ++ ncells (l.drop (i + 1))) := by
  conv => lhs; rw [nds_self l i h]
  rw [ncells_append]; rfl
theorem set_mid (a b c : List Value) (j : Nat) (v : Value) (h : j < b.length) : (a ++ (b ++ c)).set (a.length + j) v = a ++ (b.set j v ++ c) := by
  rw [List.set_append_right _ _ (by omega), Nat.add_sub_cancel_left, List.set_append_left _ _ h]
theorem take_cells_length (l : List Hm.Nd) (i : Nat) (h : i < l.length) : (ncells (l.take i)).length = i * 9 := by
  rw [ncells_length, List.length_take, Nat.min_eq_left (by omega)]
theorem ncells_get (l : List Hm.Nd) (i j : Nat) (h : i < l.length) (hj : j < 9) : (ncells l)[i * 9 + j]? = (ndCells (Hm.ndAt l i))[j]? := by
  rw [ncells_self l i h, List.getElem?_append_right (by rw [take_cells_length l i h]; omega), take_cells_length l i h, Nat.add_sub_cancel_left, List.getElem?_append_left (by show j < 9; exact hj)]
/-- One cell of a node. -/
theorem ncells_set1 (l : List Hm.Nd) (i j : Nat) (h : i < l.length) (hj : j < 9) (v : Value) (n : Hm.Nd) (e : ndCells n = (ndCells (Hm.ndAt l i)).set j v) : (ncells l).set (i * 9 + j) v = ncells (l.set i n) := by
  rw [ncells_split l i h n, e, ncells_self l i h]
  have := set_mid (ncells (l.take i)) (ndCells (Hm.ndAt l i)) (ncells (l.drop (i + 1))) j v (by show j < 9; exact hj)
  rw [take_cells_length l i h] at this
  exact this
theorem ncells_siz (l : List Hm.Nd) (i s : Nat) (h : i < l.length) : (ncells l).set (i * 9 + 2) (.int .i64 (s : Nat)) = ncells (Hm.setSiz l i s) := ncells_set1 l i 2 h (by omega) _ _ rfl
theorem ncells_frm (l : List Hm.Nd) (i s : Nat) (h : i < l.length) : (ncells l).set (i * 9 + 1) (.int .i64 (s : Nat)) = ncells (Hm.setFrm l i s) := ncells_set1 l i 1 h (by omega) _ _ rfl
/-- A branch of a node. -/
theorem ncells_br (l : List Hm.Nd) (i s : Nat) (h : i < l.length) (hs : s < 2) (b : Hm.Br) : (((ncells l).set (i * 9 + 3 + s * 3) (.bool b.whole)).set (i * 9 + 3 + s * 3 + 1) (.int .u8 (b.val.toNat : Nat))).set (i * 9 + 3 + s * 3 + 2) (.int .i64 (b.node : Nat)) = ncells (Hm.putBr l i s b) := by
  unfold Hm.putBr
  rw [ncells_split l i h, ncells_self l i h]
  have tl := take_cells_length l i h
  have m1 := fun (B : List Value) (j : Nat) (v : Value) (hj : j < B.length) => set_mid (ncells (l.take i)) B (ncells (l.drop (i + 1))) j v hj
  rw [tl] at m1
  rcases (show s = 0 ∨ s = 1 by omega) with rfl | rfl
  · rw [show i * 9 + 3 + 0 * 3 = i * 9 + 3 from by omega, show i * 9 + 3 + 1 = i * 9 + 4 from by omega, show i * 9 + 3 + 2 = i * 9 + 5 from by omega, m1 _ 3 _ (by show 3 < 9; omega), m1 _ 4 _ (by show 4 < 9; omega), m1 _ 5 _ (by show 5 < 9; omega)]
    rfl
  · rw [show i * 9 + 3 + 1 * 3 = i * 9 + 6 from by omega, show i * 9 + 6 + 1 = i * 9 + 7 from by omega, show i * 9 + 6 + 2 = i * 9 + 8 from by omega, m1 _ 6 _ (by show 6 < 9; omega), m1 _ 7 _ (by show 7 < 9; omega), m1 _ 8 _ (by show 8 < 9; omega)]
    rfl

/-- The nodes lie in v's block. -/
abbrev NodeRow (w : World) (base : Nat) (v : Value) (nds : List Hm.Nd) : Prop := w.ownsRow base 195 9 v nds.length (ncells nds)
theorem node_cell {w : World} {base g cap n : Nat} {nds : List Hm.Nd} (h : w.ownsRow base 195 9 (.slice (some ⟨g, 0, none⟩) n cap) n (ncells nds)) (hn : n = nds.length) {i : Nat} (hi : i < nds.length) (j : Nat) (hj : j < 9) : w.cell? ⟨g, i * 9 + j, none⟩ = (ndCells (Hm.ndAt nds i))[j]? := by
  rw [h.cellAt (i * 9 + j) (by omega), ncells_get _ _ _ hi hj]
theorem node_depth {w : World} {base g cap n : Nat} {nds : List Hm.Nd} (h : w.ownsRow base 195 9 (.slice (some ⟨g, 0, none⟩) n cap) n (ncells nds)) (hn : n = nds.length) {i : Nat} (hi : i < nds.length) : w.cell? ⟨g, i * 9, none⟩ = some (.int .i64 ((Hm.ndAt nds i).depth : Nat)) := node_cell h hn hi 0 (by omega)
theorem node_frm {w : World} {base g cap n : Nat} {nds : List Hm.Nd} (h : w.ownsRow base 195 9 (.slice (some ⟨g, 0, none⟩) n cap) n (ncells nds)) (hn : n = nds.length) {i : Nat} (hi : i < nds.length) : w.cell? ⟨g, i * 9 + 1, none⟩ = some (.int .i64 ((Hm.ndAt nds i).frm : Nat)) := node_cell h hn hi 1 (by omega)
theorem node_siz {w : World} {base g cap n : Nat} {nds : List Hm.Nd} (h : w.ownsRow base 195 9 (.slice (some ⟨g, 0, none⟩) n cap) n (ncells nds)) (hn : n = nds.length) {i : Nat} (hi : i < nds.length) : w.cell? ⟨g, i * 9 + 2, none⟩ = some (.int .i64 ((Hm.ndAt nds i).siz : Nat)) := node_cell h hn hi 2 (by omega)
theorem info_node : (Tryz.prog.info? 195).map (fun i => (i.zero, i.size, i.bytes)) = some (some (.agg (ndCells {}).toArray), 9, 56) := by kernel_rfl

end Go.Proofs.YtegnkfdbmmndaaaGreat
end

/- RankC -/
section
/- How many ones stand ahead of a bit, as the counts tell it. -/
namespace Go.Proofs.YtegnkfdbmmndaaaGreat
namespace Hm

theorem low_ones : ∀ (b : Fin 256) (r : Fin 9), Lib.onesCount (b.val * 2 ^ (8 - r.val) % 256) = rk (fun j => decide (b.val / 2 ^ j % 2 = 1)) r.val := by decide +kernel
theorem rk_byte (bs : List UInt8) (k r : Nat) (hr : r ≤ 8) : rk (bitB bs) (8 * k + r) = rk (bitB bs) (8 * k) + Lib.onesCount ((bs.getD k 0).toNat * 2 ^ (8 - r) % 256) := by
  rw [rk_add, low_ones ⟨_, (bs.getD k 0).toNat_lt⟩ ⟨r, by omega⟩]
  congr 1
  exact rk_congr fun j hj => bitB_in bs k j (by omega)
theorem onesTo_rk (bs : List UInt8) : ∀ k, onesTo bs k = rk (bitB bs) (8 * k)
  | 0 => rfl
  | k + 1 => by
    rw [onesTo, onesTo_rk bs k, show 8 * (k + 1) = 8 * k + 8 from by omega, rk_byte bs k 8 (Nat.le_refl _), on8_eq]
    have := (bs.getD k 0).toNat_lt
    rw [show 8 - 8 = 0 from rfl, Nat.pow_zero, Nat.mul_one, Nat.mod_eq_of_lt this]
theorem ones_at (bs : List UInt8) (p : Nat) : onesTo bs (p / 8) + Lib.onesCount ((bs.getD (p / 8) 0).toNat * 2 ^ (8 - p % 8) % 256) = rk (bitB bs) p := by
  have h := rk_byte bs (p / 8) (p % 8) (by omega)
  rw [show 8 * (p / 8) + p % 8 = p from by omega] at h
  rw [h, onesTo_rk]

end Hm
end Go.Proofs.YtegnkfdbmmndaaaGreat
end

/- Ones -/
section
/- How many ones stand ahead of a bit; a bit; a number in bits. -/
namespace Go.Proofs.YtegnkfdbmmndaaaGreat
open Go.RowKit

/-- Bits with counts lie in block pb from o on. -/
structure CountedAt (w : World) (pb o : Nat) (s : ByteArray) (len g : Nat) : Prop where
  str : w.cell? ⟨pb, o, none⟩ = some (.string s)
  len : w.cell? ⟨pb, o + 1, none⟩ = some (.int .i64 (len : Nat))
  cnt : w.cell? ⟨pb, o + 2, none⟩ = some (.slice (some ⟨g, 0, none⟩) (s.size + 1) (s.size + 1))
  row : IntRow w g (Hm.counts s.data.toList)

theorem CountedAt.kept {S : Nat → Prop} {w w' : World} {pb o len g : Nat} {s : ByteArray} (h : CountedAt w pb o s len g) (hk : Kept S w w') (h1 : ¬ S pb) (h2 : ¬ S g) : CountedAt w' pb o s len g :=
  have hp : pb < w.heap.size := World.block_lt_of_cell? _ _ h.str
  ⟨(hk.cell (p := ⟨pb, o, none⟩) hp h1).trans h.str, (hk.cell (p := ⟨pb, o + 1, none⟩) hp h1).trans h.len, (hk.cell (p := ⟨pb, o + 2, none⟩) hp h1).trans h.cnt, h.row.kept hk h2⟩

set_option maxHeartbeats 400000 in
theorem ones_any (hones : OnesSays) (pb o g len p : Nat) (s : ByteArray) (w : World) (h : CountedAt w pb o s len g) (hp : p ≤ 8 * s.size) (hs : s.size ≤ 100000000) :
    Calls Tryz.prog 126 #[.pointer (some ⟨pb, o, none⟩), .int .i64 p] w fun e w' => e = .returned (.int .i64 (Hm.rk (Hm.bitB s.data.toList) p : Nat)) ∧ w' = w := by
  obtain ⟨q, hq⟩ : ∃ q, q = p / 8 := ⟨_, rfl⟩
  obtain ⟨r, hr⟩ : ∃ r, r = p % 8 := ⟨_, rfl⟩
  have zq : (p : Int) / 8 = (q : Int) := by omega
  have zr : (p : Int) % 8 = (r : Int) := by omega
  have hsl : s.data.toList.length = s.size := by simp
  have hcl := Hm.counts_length s.data.toList
  have hall := Hm.ones_at s.data.toList p
  have hle := Hm.onesTo_le s.data.toList q
  rw [← hq, ← hr] at hall
  have h0 := h.str
  have h2 := h.cnt
  have hc : w.cell? ⟨g, q, none⟩ = some (.int .i64 (Hm.onesTo s.data.toList q : Nat)) := by
    rw [h.row.cell (i := q) (by omega)]
    simp [Hm.counts]
  have hqI : (q : Int) < (s.size : Int) + 1 := by omega
  have HA : Aside _ := hall
  have HSL : Aside _ := hsl
  obtain ⟨u, hu⟩ : ∃ u, u = Hm.onesTo s.data.toList q := ⟨_, rfl⟩
  rw [← hu] at hc hle HA
  clear hcl hall hu h hsl
  by_cases hr0 : r = 0
  · have HR : Aside (Hm.rk (Hm.bitB s.data.toList) p = u) := by
      show _ = _
      rw [← HA.out, hr0]
      have : ∀ x : UInt8, Lib.onesCount (x.toNat * 2 ^ (8 - 0) % 256) = 0 := fun x => by
        rw [show x.toNat * 2 ^ (8 - 0) % 256 = 0 from by omega]; rfl
      rw [this]; rfl
    have hrI : decide (0 < r) = false := decide_eq_false (by omega)
    clear HA hr hr0 hq
    go_enter Tryz.func126, Tryz.ntmps126
    go_wp2
    go_ret
    exact ⟨by rw [HR.out]; rfl, rfl⟩
  · have hql : q < s.size := by omega
    have hrI : decide (0 < r) = true := decide_eq_true (by omega)
    obtain ⟨t, ht⟩ : ∃ t, t = 8 - r := ⟨_, rfl⟩
    have zt : (8 : Int) - (r : Int) = (t : Int) := by omega
    have htl : t ≤ 8 := by omega
    have hg : s.data.toList.getD q 0 = s[q] := by
      rw [List.getD_eq_getElem?_getD, List.getElem?_eq_getElem (by rw [HSL.out]; exact hql)]; rfl
    rw [hg, ← ht] at HA
    obtain ⟨z, hz⟩ : ∃ z, z = s[q].toNat * 2 ^ t % 256 := ⟨_, rfl⟩
    have zz : (s[q].toNat : Int) * 2 ^ t % 256 = (z : Int) := by rw [hz]; simp
    have hz256 : z < 256 := by omega
    have hon := fun W => hones (UInt8.ofNat z) W
    have e8 : Hm.on8 (UInt8.ofNat z) = Lib.onesCount z := by rw [Hm.on8_eq, UInt8.toNat_ofNat', Nat.mod_eq_of_lt hz256]
    have e9 : (UInt8.ofNat z).toNat = z := by rw [UInt8.toNat_ofNat', Nat.mod_eq_of_lt hz256]
    have h8 := Hm.on8_le (UInt8.ofNat z)
    rw [e9] at hon
    obtain ⟨c, hcc⟩ : ∃ c, c = Hm.on8 (UInt8.ofNat z) := ⟨_, rfl⟩
    rw [← hcc] at hon h8
    rw [← hz, ← e8, ← hcc] at HA
    have hqI2 : (q : Int) < (s.size : Int) := by omega
    have HON : Aside _ := hon
    clear hz hcc e8 e9 hg ht hr hr0 hq
    go_enter Tryz.func126, Tryz.ntmps126
    go_wp2_with fail
    refine (HON.out _).mono ?_
    rintro e w' ⟨rfl, rfl⟩
    go_wp2
    go_ret
    exact ⟨by rw [← HA.out]; go_num, rfl⟩

end Go.Proofs.YtegnkfdbmmndaaaGreat
end
