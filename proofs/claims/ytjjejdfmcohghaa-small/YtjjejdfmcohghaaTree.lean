/- The tree of a column of one byte. -/
import Derived.Test.YtjjejdfmcohghaaNode
import Derived.Test.YtjjejdfmcohghaaMakeEnds
namespace Go.Proofs.Ytjjejdfmcohghaa
open Go.RowKit

set_option maxHeartbeats 2000000 in
theorem makeTree_one (gc cc tb m cn : Nat) (w : World) (hcol : ∀ k, k < m → w.cell? ⟨gc, k, none⟩ = some (.int .u8 (cn : Nat)))
    (ht0 : w.cell? ⟨tb, cn * 2, none⟩ = some (.int .u64 0)) (ht1 : w.cell? ⟨tb, cn * 2 + 1, none⟩ = some (.int .i64 1)) (hcn : cn < 256) (hm : m ≤ 6000) (hm1 : 1 ≤ m) :
    Calls Try.prog 14 #[.slice (some ⟨gc, 0, none⟩) m cc, .pointer (some ⟨tb, 0, none⟩)] w fun e w' =>
      ∃ v', e = .returned (.agg #[v', .int .i64 (m : Nat)]) ∧ w'.ownsRow w.heap.size 5 1 v' ((m + 7) / 8) (Hm.bcells (Hm.packBits (List.replicate m false))) ∧ Kept (fun _ => False) w w' := by
  have hgc : gc < w.heap.size := World.block_lt_of_cell? _ _ (hcol 0 (by omega))
  have htb : tb < w.heap.size := World.block_lt_of_cell? _ _ ht0
  have HT : Hid ((∀ k, k < m → w.cell? ⟨gc, k, none⟩ = some (.int .u8 (cn : Nat))) ∧ w.cell? ⟨tb, cn * 2, none⟩ = some (.int .u64 0) ∧ w.cell? ⟨tb, cn * 2 + 1, none⟩ = some (.int .i64 1)) := ⟨hcol, ht0, ht1⟩
  clear ht0 ht1 hcol
  go_enter Try.func14, Try.ntmps14
  go_wp2
  refine wp_loop_rounds 2 ?_
  rw [rounds_succ]
  go_wp2_with fail
  have hk0 : Kept (fun _ => False) w ((((w.alloc (.cells #[.slice none 0 0, .int .i64 0] 52)).alloc (.cells #[.slice none 0 0, .int .i64 0] 52)).alloc (.cells #[.slice (some ⟨gc, 0, none⟩) m cc, .int .i64 0] 93)).alloc (.cells #[.slice (some ⟨gc, 0, none⟩) m cc, .int .i64 0] 93)) := ((((Kept.refl _ _).alloc _).alloc _).alloc _).alloc _
  have hb0 : BitsAt ((((w.alloc (.cells #[.slice none 0 0, .int .i64 0] 52)).alloc (.cells #[.slice none 0 0, .int .i64 0] 52)).alloc (.cells #[.slice (some ⟨gc, 0, none⟩) m cc, .int .i64 0] 93)).alloc (.cells #[.slice (some ⟨gc, 0, none⟩) m cc, .int .i64 0] 93)) 52 (w.heap.size + 1) (.slice none 0 0) [] :=
    (bits_new w 52 (.cells #[.slice none 0 0, .int .i64 0] 52)).kept (((Kept.refl (fun _ => False) _).alloc _).alloc _) id (fun _ _ => id)
  have hr0 : ((((w.alloc (.cells #[.slice none 0 0, .int .i64 0] 52)).alloc (.cells #[.slice none 0 0, .int .i64 0] 52)).alloc (.cells #[.slice (some ⟨gc, 0, none⟩) m cc, .int .i64 0] 93)).alloc (.cells #[.slice (some ⟨gc, 0, none⟩) m cc, .int .i64 0] 93)).heap[w.heap.size]? = some (.cells #[.slice none 0 0, .int .i64 0] 52 (0, 0)) :=
    (((Kept.refl (fun _ => False) ((w.alloc (.cells #[.slice none 0 0, .int .i64 0] 52)).alloc (.cells #[.slice none 0 0, .int .i64 0] 52))).alloc _).alloc _).row (heap_alloc2_old w _ _) id
  have hs0 : w.heap.size + 4 ≤ ((((w.alloc (.cells #[.slice none 0 0, .int .i64 0] 52)).alloc (.cells #[.slice none 0 0, .int .i64 0] 52)).alloc (.cells #[.slice (some ⟨gc, 0, none⟩) m cc, .int .i64 0] 93)).alloc (.cells #[.slice (some ⟨gc, 0, none⟩) m cc, .int .i64 0] 93)).heap.size := by simp
  generalize (((w.alloc (.cells #[.slice none 0 0, .int .i64 0] 52)).alloc (.cells #[.slice none 0 0, .int .i64 0] 52)).alloc (.cells #[.slice (some ⟨gc, 0, none⟩) m cc, .int .i64 0] 93)).alloc (.cells #[.slice (some ⟨gc, 0, none⟩) m cc, .int .i64 0] 93) = W at hk0 hb0 hr0 hs0 ⊢
  have hno : (Value.slice none 0 0).ownBlock = none := rfl
  have had := addNode_one 52 (w.heap.size + 1) gc cc tb m cn (.slice none 0 0) [] W hb0
    (fun k hk => (hk0.cell (p := ⟨gc, k, none⟩) hgc id).trans (HT.out.1 k hk)) ((hk0.cell (p := ⟨tb, cn * 2, none⟩) htb id).trans HT.out.2.1) ((hk0.cell (p := ⟨tb, cn * 2 + 1, none⟩) htb id).trans HT.out.2.2) hcn hm hm1 (by simp) (by omega) (by simp [Value.ownBlock]) (by omega) (by simp [Value.ownBlock])
  refine had.mono ?_
  rintro e w2 ⟨v2, rfl, hb2, hk2, hm2⟩
  clear had
  simp only [List.nil_append] at hb2
  have hix0 : ∀ X, (Instr.index 95 (.agg #[.slice none 0 0, .int .i64 1, .slice none 0 0, .int .i64 1]) (.int .i64 0)).run Try.prog X = .ok (.agg #[.slice none 0 0, .int .i64 1]) X := fun _ => by kernel_rfl
  have hix1 : ∀ X, (Instr.index 95 (.agg #[.slice none 0 0, .int .i64 1, .slice none 0 0, .int .i64 1]) (.int .i64 1)).run Try.prog X = .ok (.agg #[.slice none 0 0, .int .i64 1]) X := fun _ => by kernel_rfl
  have hmv : ∀ j, v2.ownBlock = some j → w.heap.size + 4 ≤ j := fun j hj => by
    rcases hm2 j hj with h | h
    · cases h
    · omega
  have hk2' : Kept (fun j => j = w.heap.size + 1) W w2 := hk2.wider (fun j _ h => by rcases h with h | h; exact h; cases h)
  have hr2 := hk2'.row hr0 (by omega)
  have hkw : Kept (fun _ => False) w w2 := hk0.trans hk2' (fun j h1 h2 => by omega)
  have hs2 : w.heap.size + 4 ≤ w2.heap.size := by have := hk2.size; omega
  obtain ⟨a2, c2, hv2, _⟩ := slice_shape hb2.own
  rw [List.length_replicate] at hv2
  subst hv2
  have g0 : ∀ o1 o2, ((w2.alloc o1).alloc o2).cell? ⟨w.heap.size + 1, 0, none⟩ = some (.slice a2 ((m + 7) / 8) c2) := fun o1 o2 =>
    ((((Kept.refl (fun _ => False) w2).alloc o1).alloc o2).cell (p := ⟨w.heap.size + 1, 0, none⟩) (by show w.heap.size + 1 < _; omega) id).trans (cell_of_row _ _ 0 _ _ _ hb2.blk)
  have g1 : ∀ o1 o2, ((w2.alloc o1).alloc o2).cell? ⟨w.heap.size + 1, 1, none⟩ = some (.int .i64 (m : Nat)) := fun o1 o2 =>
    ((((Kept.refl (fun _ => False) w2).alloc o1).alloc o2).cell (p := ⟨w.heap.size + 1, 1, none⟩) (by show w.heap.size + 1 < _; omega) id).trans (by rw [cell_of_row _ _ 1 _ _ _ hb2.blk]; simp)
  have f0 : ∀ o1 o2, ((w2.alloc o1).alloc o2).cell? ⟨w.heap.size, 0, none⟩ = some (.slice none 0 0) := fun o1 o2 =>
    ((((Kept.refl (fun _ => False) w2).alloc o1).alloc o2).cell (p := ⟨w.heap.size, 0, none⟩) (by show w.heap.size < _; omega) id).trans (cell_of_row _ _ 0 _ _ _ hr2)
  have f1 : ∀ o1 o2, ((w2.alloc o1).alloc o2).cell? ⟨w.heap.size, 1, none⟩ = some (.int .i64 0) := fun o1 o2 =>
    ((((Kept.refl (fun _ => False) w2).alloc o1).alloc o2).cell (p := ⟨w.heap.size, 1, none⟩) (by show w.heap.size < _; omega) id).trans (cell_of_row _ _ 1 _ _ _ hr2)
  have z0 : ∀ o1 o2, ((w2.alloc o1).alloc o2).frozen? ⟨w.heap.size, 0, none⟩ = false := fun o1 o2 =>
    ((((Kept.refl (fun _ => False) w2).alloc o1).alloc o2).frozen (p := ⟨w.heap.size, 0, none⟩) (by show w.heap.size < _; omega) id).trans (frozen_of_row _ _ 0 _ _ hr2)
  have z1 : ∀ o1 o2, ((w2.alloc o1).alloc o2).frozen? ⟨w.heap.size, 1, none⟩ = false := fun o1 o2 =>
    ((((Kept.refl (fun _ => False) w2).alloc o1).alloc o2).frozen (p := ⟨w.heap.size, 1, none⟩) (by show w.heap.size < _; omega) id).trans (frozen_of_row _ _ 1 _ _ hr2)
  have HZ : Hid (w2.ownsRow 0 5 1 (.slice a2 ((m + 7) / 8) c2) ((m + 7) / 8) (Hm.bcells (Hm.packBits (List.replicate m false))) ∧ Kept (fun _ => False) w w2 ∧ (∀ j, (Value.slice a2 ((m + 7) / 8) c2).ownBlock = some j → w.heap.size + 4 ≤ j)) := ⟨by have := hb2.own; rwa [List.length_replicate] at this, hkw, hmv⟩
  clear hb2 hk2 hm2 hmv hk2' hr2 hkw hk0 hb0 hr0 hno
  go_wp2
  refine wp_loop_rounds 3 ?_
  rw [rounds_succ]
  go_wp2
  rw [rounds_succ]
  go_wp2
  rw [rounds_succ]
  go_wp2
  rw [rounds_succ]
  go_wp2
  obtain ⟨hown, hkw, hmv⟩ := HZ.out
  refine bodyPost_ret (v := .agg #[.slice a2 ((m + 7) / 8) c2, .int .i64 (m : Nat)]) (by simp [results, Try.results14, go_sem, f0, f1]) rfl ⟨_, rfl, ?_, ?_⟩
  · refine owns_base (base := 0) ?_ (fun k hk => by have := hmv k hk; omega)
    have hn : (Value.slice a2 ((m + 7) / 8) c2).ownBlock ≠ some w.heap.size := fun h => by have := hmv _ h; omega
    exact ownsRow_setCell_other (ownsRow_setCell_other ((hown.alloc _).alloc _) hn _) hn _
  · exact (((hkw.alloc _).alloc _).setCell (.inl (Nat.le_refl _)) _).setCell (.inl (Nat.le_refl _)) _

end Go.Proofs.Ytjjejdfmcohghaa
