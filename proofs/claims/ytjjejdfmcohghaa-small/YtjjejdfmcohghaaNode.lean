/- A node of the tree whose bytes are all one byte, with a code of one bit. -/
import Derived.Test.YtjjejdfmcohghaaAddBits
namespace Go.Proofs.Ytjjejdfmcohghaa
open Go.RowKit

set_option maxHeartbeats 400000 in
theorem bit_one (w : World) : Calls Try.prog 58 #[.agg #[.int .u64 0, .int .i64 1], .int .i64 0] w fun e w' => e = .returned (.int .i64 0) ∧ Kept (fun _ => False) w w' := by
  have hbits : Go.bits .and .u64 0 1 = 0 := by decide
  go_enter Try.func58, Try.ntmps58
  go_wp2
  go_ret
  exact ⟨rfl, (Kept.refl _ _).alloc _⟩

set_option maxHeartbeats 2000000 in
theorem addNode_one (T pb gc cc tb m cn : Nat) (v : Value) (bits : List Bool) (w : World) (hb : BitsAt w T pb v bits) (hcol : ∀ k, k < m → w.cell? ⟨gc, k, none⟩ = some (.int .u8 (cn : Nat)))
    (ht0 : w.cell? ⟨tb, cn * 2, none⟩ = some (.int .u64 0)) (ht1 : w.cell? ⟨tb, cn * 2 + 1, none⟩ = some (.int .i64 1)) (hcn : cn < 256) (hm : m ≤ 6000) (hm1 : 1 ≤ m) (hl : bits.length ≤ 1000)
    (h1 : gc ≠ pb) (h2 : v.ownBlock ≠ some gc) (h3 : tb ≠ pb) (h4 : v.ownBlock ≠ some tb) :
    Calls Try.prog 44 #[.pointer (some ⟨pb, 0, none⟩), .agg #[.slice (some ⟨gc, 0, none⟩) m cc, .int .i64 0], .pointer (some ⟨tb, 0, none⟩)] w fun e w' =>
      ∃ v', e = .returned (.agg #[.slice none 0 0, .int .i64 1, .slice none 0 0, .int .i64 1]) ∧ BitsAt w' T pb v' (bits ++ List.replicate m false) ∧ Kept (Bk pb v) w w' ∧ Moved w v v' := by
  have hgc : gc < w.heap.size := World.block_lt_of_cell? _ _ (hcol 0 (by omega))
  have htb : tb < w.heap.size := World.block_lt_of_cell? _ _ ht0
  have hpb : pb < w.heap.size := lt_of_block hb.blk
  have hv0 : ∀ j, v.ownBlock = some j → j < w.heap.size := fun j hj => (hb.own.lt j hj).2
  have hcnI : (cn : Int) < 256 := by omega
  have HT : Hid (w.cell? ⟨tb, cn * 2, none⟩ = some (.int .u64 0) ∧ w.cell? ⟨tb, cn * 2 + 1, none⟩ = some (.int .i64 1)) := ⟨ht0, ht1⟩
  have HB : Hid (BitsAt w T pb v bits) := hb
  clear ht0 ht1 hb
  go_enter Try.func44, Try.ntmps44
  go_wp2
  have hn0 : (((w.alloc (.cells #[.slice (some ⟨gc, 0, none⟩) m cc, .int .i64 0] 93)).alloc (.cells #[.slice none 0 0, .int .i64 0, .slice none 0 0, .int .i64 0] 95)).alloc (.cells #[.slice none 0 0, .int .i64 1, .slice none 0 0, .int .i64 1] 95)).heap[w.heap.size]? = some (.cells #[.slice (some ⟨gc, 0, none⟩) m cc, .int .i64 0] 93 (0, 0)) := by
    rw [Below.heap_alloc _ _ _ (by simp; omega)]; exact heap_alloc2_old w _ _
  have hr0 : (((w.alloc (.cells #[.slice (some ⟨gc, 0, none⟩) m cc, .int .i64 0] 93)).alloc (.cells #[.slice none 0 0, .int .i64 0, .slice none 0 0, .int .i64 0] 95)).alloc (.cells #[.slice none 0 0, .int .i64 1, .slice none 0 0, .int .i64 1] 95)).heap[w.heap.size + 1]? = some (.cells #[.slice none 0 0, .int .i64 0, .slice none 0 0, .int .i64 0] 95 (0, 0)) := by
    rw [Below.heap_alloc _ _ _ (by simp)]; exact heap_alloc2_new w _ _
  have hx0 : (((w.alloc (.cells #[.slice (some ⟨gc, 0, none⟩) m cc, .int .i64 0] 93)).alloc (.cells #[.slice none 0 0, .int .i64 0, .slice none 0 0, .int .i64 0] 95)).alloc (.cells #[.slice none 0 0, .int .i64 1, .slice none 0 0, .int .i64 1] 95)).heap[w.heap.size + 1 + 1]? = some (.cells #[.slice none 0 0, .int .i64 1, .slice none 0 0, .int .i64 1] 95 (0, 0)) := by
    have := heap_alloc_new ((w.alloc (.cells #[.slice (some ⟨gc, 0, none⟩) m cc, .int .i64 0] 93)).alloc (.cells #[.slice none 0 0, .int .i64 0, .slice none 0 0, .int .i64 0] 95)) (.cells #[.slice none 0 0, .int .i64 1, .slice none 0 0, .int .i64 1] 95)
    simpa using this
  have hk0 : Kept (fun _ => False) w (((w.alloc (.cells #[.slice (some ⟨gc, 0, none⟩) m cc, .int .i64 0] 93)).alloc (.cells #[.slice none 0 0, .int .i64 0, .slice none 0 0, .int .i64 0] 95)).alloc (.cells #[.slice none 0 0, .int .i64 1, .slice none 0 0, .int .i64 1] 95)) := (((Kept.refl _ _).alloc _).alloc _).alloc _
  have hsz : w.heap.size + 3 ≤ (((w.alloc (.cells #[.slice (some ⟨gc, 0, none⟩) m cc, .int .i64 0] 93)).alloc (.cells #[.slice none 0 0, .int .i64 0, .slice none 0 0, .int .i64 0] 95)).alloc (.cells #[.slice none 0 0, .int .i64 1, .slice none 0 0, .int .i64 1] 95)).heap.size := by simp
  generalize ((w.alloc (.cells #[.slice (some ⟨gc, 0, none⟩) m cc, .int .i64 0] 93)).alloc (.cells #[.slice none 0 0, .int .i64 0, .slice none 0 0, .int .i64 0] 95)).alloc (.cells #[.slice none 0 0, .int .i64 1, .slice none 0 0, .int .i64 1] 95) = W0 at hn0 hr0 hx0 hk0 hsz ⊢
  have HK : Hid (W0.heap[w.heap.size]? = some (.cells #[.slice (some ⟨gc, 0, none⟩) m cc, .int .i64 0] 93 (0, 0)) ∧ W0.heap[w.heap.size + 1]? = some (.cells #[.slice none 0 0, .int .i64 0, .slice none 0 0, .int .i64 0] 95 (0, 0)) ∧ W0.heap[w.heap.size + 1 + 1]? = some (.cells #[.slice none 0 0, .int .i64 1, .slice none 0 0, .int .i64 1] 95 (0, 0)) ∧ Kept (fun _ => False) w W0 ∧ BitsAt W0 T pb v bits ∧ (∀ j, v.ownBlock = some j → j < w.heap.size)) :=
    ⟨hn0, hr0, hx0, hk0, HB.out.kept hk0 id (fun _ _ => id), hv0⟩
  have HC : Hid (∀ k, k < m → w.cell? ⟨gc, k, none⟩ = some (.int .u8 (cn : Nat))) := hcol
  clear hn0 hr0 hx0 hk0 HB hv0 hcol
  go_loopw [24] (fun i wr => ∃ (k : Nat) (v' : Value), k ≤ m ∧ i = .int .i64 k ∧ BitsAt wr T pb v' (bits ++ List.replicate k false) ∧ Kept (Bk pb v) W0 wr ∧ Moved W0 v v') (fun i _ => m - (intOf i).toNat)
  case atStart => exact ⟨0, v, Nat.zero_le _, rfl, by simpa using HK.out.2.2.2.2.1, Kept.refl _ _, Moved.refl _ _⟩
  case round =>
    obtain ⟨k, v', hk, rfl, hb, hkr, hmr⟩ := hrel
    obtain ⟨hn0, hr0, hx0, hk0, _, hv0⟩ := HK.out
    have hnot : ∀ j, w.heap.size ≤ j → ¬ Bk pb v j := fun j hj hb => by
      rcases hb with hb | hb
      · omega
      · have := hv0 j hb; omega
    have hnr := hkr.row hn0 (hnot _ (Nat.le_refl _))
    have hd0 : wr.cell? ⟨w.heap.size, 0, none⟩ = some (.slice (some ⟨gc, 0, none⟩) m cc) := cell_of_row _ _ 0 _ _ _ hnr
    have hd1 : wr.cell? ⟨w.heap.size, 1, none⟩ = some (.int .i64 0) := cell_of_row _ _ 1 _ _ _ hnr
    by_cases hlt : k < m
    · have hszr : w.heap.size + 3 ≤ wr.heap.size := by have := hkr.size; omega
      have hkgc : ¬ Bk pb v gc := fun h => by rcases h with h | h; exact h1 h; exact h2 h
      have hktb : ¬ Bk pb v tb := fun h => by rcases h with h | h; exact h3 h; exact h4 h
      have hcr : wr.cell? ⟨gc, k, none⟩ = some (.int .u8 (cn : Nat)) := ((hkr.cell (p := ⟨gc, k, none⟩) (by have := hk0.size; show gc < _; omega) hkgc).trans (hk0.cell (p := ⟨gc, k, none⟩) hgc id)).trans (HC.out k hlt)
      have htr0 : wr.cell? ⟨tb, cn * 2, none⟩ = some (.int .u64 0) := ((hkr.cell (p := ⟨tb, cn * 2, none⟩) (by have := hk0.size; show tb < _; omega) hktb).trans (hk0.cell (p := ⟨tb, cn * 2, none⟩) htb id)).trans HT.out.1
      have htr1 : wr.cell? ⟨tb, cn * 2 + 1, none⟩ = some (.int .i64 1) := ((hkr.cell (p := ⟨tb, cn * 2 + 1, none⟩) (by have := hk0.size; show tb < _; omega) hktb).trans (hk0.cell (p := ⟨tb, cn * 2 + 1, none⟩) htb id)).trans HT.out.2
      have hbt := bit_one (wr.alloc (.cells #[.int .u64 0, .int .i64 1] 43))
      have hdec : decide ((k : Int) < (m : Int)) = true := by simp; omega
      have hda : (wr.alloc (.cells #[.int .u64 0, .int .i64 1] 43)).cell? ⟨w.heap.size, 1, none⟩ = some (.int .i64 0) := by
        rw [← hd1]; exact ((Kept.refl (fun _ => False) wr).alloc _).cell (p := ⟨w.heap.size, 1, none⟩) (by show w.heap.size < _; omega) id
      have HW : Hid (BitsAt wr T pb v' (bits ++ List.replicate k false) ∧ (∀ j, w.heap.size ≤ j → ¬ Bk pb v j) ∧ wr.heap[w.heap.size]? = some (.cells #[.slice (some ⟨gc, 0, none⟩) m cc, .int .i64 0] 93 (0, 0))) := ⟨hb, hnot, hnr⟩
      clear hb hn0 hr0 hx0 hnot hnr hv0
      go_wp2_with fail
      refine hbt.mono ?_
      rintro e w3 ⟨rfl, hk3⟩
      clear hbt
      obtain ⟨hb, hnot, hnr⟩ := HW.out
      have hkw3 : Kept (fun _ => False) wr w3 := ((Kept.refl (fun _ => False) wr).alloc _).trans hk3 (fun _ _ h => h)
      have hcd := hk3.row (heap_alloc_new wr (.cells #[.int .u64 0, .int .i64 1] 43)) id
      have hadd := add_any T pb v' _ false w3 (hb.kept hkw3 id (fun _ _ => id)) (by simp; omega)
      have hpbv : pb < wr.heap.size := lt_of_block hb.blk
      have hv'r : ∀ j, v'.ownBlock = some j → j < wr.heap.size := fun j hj => (hb.own.lt j hj).2
      have hnr3 := hkw3.row hnr id
      clear hb hnr hk3
      go_wp2_with fail
      refine hadd.mono ?_
      rintro e w4 ⟨v4, rfl, hb4, hk4, hm4⟩
      clear hadd
      have hcd4 := hk4.row hcd (fun h => by rcases h with h | h; omega; have := hv'r _ h; omega)
      have hnr4 := hk4.row hnr3 (fun h => by
        rcases h with h | h
        · omega
        · rcases hmr _ h with x | x
          · exact hnot _ (Nat.le_refl _) (.inr x)
          · omega)
      have hq1 : w4.cell? ⟨wr.heap.size, 1, none⟩ = some (.int .i64 1) := cell_of_row _ _ 1 _ _ _ hcd4
      have hq2 : w4.cell? ⟨w.heap.size, 1, none⟩ = some (.int .i64 0) := cell_of_row _ _ 1 _ _ _ hnr4
      have HZ : Hid (BitsAt w4 T pb v4 (bits ++ List.replicate (k + 1) false) ∧ Kept (Bk pb v) W0 w4 ∧ Moved W0 v v4) := by
        refine ⟨?_, ?_, ?_⟩
        · rw [List.replicate_succ', ← List.append_assoc]; exact hb4
        · exact (hkr.trans hkw3 (fun _ _ h => h.elim)).trans hk4 (fun j h1 h2 => by
            rcases h2 with h2 | h2
            · exact .inl h2
            · rcases hmr j h2 with x | x
              · exact .inr x
              · omega)
        · exact hmr.trans hm4 (by have := hkr.size; have := hkw3.size; omega)
      clear hb4 hk4 hm4 hcd hcd4 hnr3 hnr4 hkw3 hnot hkr hmr
      go_wp2
      go_roundw
      case rel => exact ⟨k + 1, v4, by omega, by go_num, HZ.out.1, HZ.out.2.1, HZ.out.2.2⟩
      case measure => simp [intOf]; omega
    · obtain rfl : k = m := by omega
      have hdec : decide ((k : Int) < (k : Int)) = false := by simp
      have hxr := hkr.row hx0 (hnot _ (by omega))
      have hrr := hkr.row hr0 (hnot _ (by omega))
      have e0 : wr.cell? ⟨w.heap.size + 1 + 1, 0, none⟩ = some (.slice none 0 0) := cell_of_row _ _ 0 _ _ _ hxr
      have e1 : wr.cell? ⟨w.heap.size + 1 + 1, 1, none⟩ = some (.int .i64 1) := cell_of_row _ _ 1 _ _ _ hxr
      have e2 : wr.cell? ⟨w.heap.size + 1 + 1, 2, none⟩ = some (.slice none 0 0) := cell_of_row _ _ 2 _ _ _ hxr
      have e3 : wr.cell? ⟨w.heap.size + 1 + 1, 3, none⟩ = some (.int .i64 1) := cell_of_row _ _ 3 _ _ _ hxr
      have f0 : wr.cell? ⟨w.heap.size + 1, 0, none⟩ = some (.slice none 0 0) := cell_of_row _ _ 0 _ _ _ hrr
      have f1 : wr.cell? ⟨w.heap.size + 1, 1, none⟩ = some (.int .i64 0) := cell_of_row _ _ 1 _ _ _ hrr
      have f2 : wr.cell? ⟨w.heap.size + 1, 2, none⟩ = some (.slice none 0 0) := cell_of_row _ _ 2 _ _ _ hrr
      have f3 : wr.cell? ⟨w.heap.size + 1, 3, none⟩ = some (.int .i64 0) := cell_of_row _ _ 3 _ _ _ hrr
      have z0 : wr.frozen? ⟨w.heap.size + 1, 0, none⟩ = false := frozen_of_row _ _ 0 _ _ hrr
      have z1 : wr.frozen? ⟨w.heap.size + 1, 1, none⟩ = false := frozen_of_row _ _ 1 _ _ hrr
      have z2 : wr.frozen? ⟨w.heap.size + 1, 2, none⟩ = false := frozen_of_row _ _ 2 _ _ hrr
      have z3 : wr.frozen? ⟨w.heap.size + 1, 3, none⟩ = false := frozen_of_row _ _ 3 _ _ hrr
      have HZ : Hid (BitsAt wr T pb v' (bits ++ List.replicate k false) ∧ Kept (Bk pb v) W0 wr ∧ Moved W0 v v' ∧ Kept (fun _ => False) w W0 ∧ (∀ j, v.ownBlock = some j → j < w.heap.size)) := ⟨hb, hkr, hmr, hk0, hv0⟩
      clear hb hkr hmr hk0 hxr hrr hn0 hr0 hx0 hnr hnot hv0
      go_wp2
      obtain ⟨hb, hkr, hmr, hk0, hv0⟩ := HZ.out
      have hnb : v'.ownBlock ≠ some (w.heap.size + 1) := fun h => by
        rcases hmr _ h with x | x
        · have := hv0 _ x; omega
        · omega
      have hkk : Kept (Bk pb v) w wr := (hk0.wider (fun _ _ h => h.elim)).trans hkr (fun _ _ h => h)
      refine bodyPost_ret (v := .agg #[.slice none 0 0, .int .i64 1, .slice none 0 0, .int .i64 1]) (by simp [results, Try.results44, go_sem, f0, f1, f2, f3]) rfl ⟨v', rfl, ?_, ?_, ?_⟩
      · refine ⟨?_, ?_, hb.ne⟩
        · rw [Below.heap_setCell _ _ _ _ (by show pb ≠ w.heap.size + 1; omega), Below.heap_setCell _ _ _ _ (by show pb ≠ w.heap.size + 1; omega), Below.heap_setCell _ _ _ _ (by show pb ≠ w.heap.size + 1; omega), Below.heap_setCell _ _ _ _ (by show pb ≠ w.heap.size + 1; omega)]; exact hb.blk
        · exact ownsRow_setCell_other (ownsRow_setCell_other (ownsRow_setCell_other (ownsRow_setCell_other hb.own hnb _) hnb _) hnb _) hnb _
      · exact (((hkk.setCell (.inl (by simp)) _).setCell (.inl (by simp)) _).setCell (.inl (by simp)) _).setCell (.inl (by simp)) _
      · intro j hj
        rcases hmr j hj with x | x
        · exact .inl x
        · exact .inr (by have := hk0.size; omega)

end Go.Proofs.Ytjjejdfmcohghaa
