/- How two pairs are compared. -/
import Derived.Test.YtjjejdfmcohghaaPairs
import Derived.Test.YtjjejdfmcohghaaShelf
import Derived.Deep.RegionHeld
namespace Go.Proofs.Ytjjejdfmcohghaa
open Go.RowKit Go.Sort

namespace Hm
def orI (a b : Int) : Int := if a = 0 then b else a
def cmpP (p q : Nat × Nat) : Int := orI (Lib.compareInt p.1 q.1) (Lib.compareInt p.2 q.2)
end Hm

/-- The world goes on: draws, and new blocks. -/
def Grew (w w' : World) : Prop := ∃ q os, w' = grow (w.drewN q) os
theorem Grew.refl (w : World) : Grew w w := ⟨0, #[], by rw [grow_empty]; rfl⟩
theorem Grew.alloc {w w' : World} (h : Grew w w') (o : Obj) : Grew w (w'.alloc o) := by
  obtain ⟨q, os, rfl⟩ := h
  exact ⟨q, os ++ #[o], by rw [alloc_eq_grow, grow_grow]⟩
theorem Grew.drew {w w' : World} (h : Grew w w') : Grew w w'.drew := by
  obtain ⟨q, os, rfl⟩ := h
  exact ⟨q + 1, os, rfl⟩
theorem Grew.trans {w w1 w2 : World} (h : Grew w w1) (k : Grew w1 w2) : Grew w w2 := by
  obtain ⟨q, os, rfl⟩ := h
  obtain ⟨q2, os2, rfl⟩ := k
  refine ⟨q + q2, os ++ os2, ?_⟩
  rw [← grow_grow]
  unfold grow World.drewN
  simp [Nat.add_assoc]

set_option maxHeartbeats 400000 in
theorem or_any (g : Nat) (a b : Int) (w : World) (h0 : w.cell? ⟨g, 0, none⟩ = some (.int .i64 a)) (h1 : w.cell? ⟨g, 1, none⟩ = some (.int .i64 b)) :
    Calls Try.prog 52 #[.slice (some ⟨g, 0, none⟩) 2 2] w fun e w' => e = .returned (.int .i64 (Hm.orI a b)) ∧ w = w' := by
  by_cases ha : a = 0
  · subst ha
    by_cases hb : b = 0
    · subst hb
      go_enter Try.func52, Try.ntmps52
      go_wp2
      refine wp_loop_rounds 3 ?_
      rw [rounds_succ]
      go_wp2
      rw [rounds_succ]
      go_wp2
      rw [rounds_succ]
      go_wp2
      go_ret
      exact ⟨rfl, rfl⟩
    · have hb' : (b != 0) = true := by rw [bne_iff_ne]; exact hb
      go_enter Try.func52, Try.ntmps52
      go_wp2
      refine wp_loop_rounds 2 ?_
      rw [rounds_succ]
      go_wp2
      rw [rounds_succ]
      go_wp2
      go_ret
      exact ⟨rfl, rfl⟩
  · have ha' : (a != 0) = true := by rw [bne_iff_ne]; exact ha
    have HE : Hid (Hm.orI a b = a) := if_neg ha
    go_enter Try.func52, Try.ntmps52
    go_wp2
    refine wp_loop_rounds 1 ?_
    rw [rounds_succ]
    go_wp2
    go_ret
    exact ⟨by rw [HE.out]; rfl, rfl⟩

theorem or_new (W : World) (x y : Int) : Calls Try.prog 52 #[.slice (some ⟨W.heap.size, 0, none⟩) 2 2] (W.alloc (.cells #[.int .i64 x, .int .i64 y] 3)).drew fun e w' => e = .returned (.int .i64 (Hm.orI x y)) ∧ (W.alloc (.cells #[.int .i64 x, .int .i64 y] 3)).drew = w' := by
  have hC : (W.alloc (.cells #[.int .i64 x, .int .i64 y] 3)).drew.heap[W.heap.size]? = some (.cells #[.int .i64 x, .int .i64 y] 3 (0, 0)) := heap_alloc_new W (.cells #[.int .i64 x, .int .i64 y] 3)
  exact or_any _ x y _ (cell_of_row _ _ 0 _ _ _ hC) (cell_of_row _ _ 1 _ _ _ hC)

set_option maxHeartbeats 2000000 in
theorem comparePairs_any (a b c d : Nat) (w : World) :
    Calls Try.prog 30 #[.agg #[.int .i64 (a : Nat), .int .i64 (b : Nat)], .agg #[.int .i64 (c : Nat), .int .i64 (d : Nat)]] w fun e w' => e = .returned (.int .i64 (Hm.cmpP (a, b) (c, d))) ∧ Grew w w' := by
  have hc1 := fun W => Try.cmp_Compare_int (a : Int) (c : Int) W
  have hc2 := fun W => Try.cmp_Compare_int (b : Int) (d : Int) W
  have HE : Hid (Hm.cmpP (a, b) (c, d) = Hm.orI (Lib.compareInt a c) (Lib.compareInt b d)) := rfl
  generalize Lib.compareInt (a : Int) (c : Int) = x at hc1 HE
  generalize Lib.compareInt (b : Int) (d : Int) = y at hc2 HE
  have ho := or_new ((w.alloc (.cells #[.int .i64 (a : Nat), .int .i64 (b : Nat)] 77)).alloc (.cells #[.int .i64 (c : Nat), .int .i64 (d : Nat)] 77)) x y
  rw [show ((w.alloc (.cells #[.int .i64 (a : Nat), .int .i64 (b : Nat)] 77)).alloc (.cells #[.int .i64 (c : Nat), .int .i64 (d : Nat)] 77)).heap.size = w.heap.size + 1 + 1 from by simp] at ho
  go_enter Try.func30, Try.ntmps30
  go_wp2
  go_region_held (fun W => W.cell? ⟨w.heap.size, 0, none⟩ = some (.int .i64 (a : Nat)) ∧ W.cell? ⟨w.heap.size, 1, none⟩ = some (.int .i64 (b : Nat)) ∧ W.cell? ⟨w.heap.size + 1, 0, none⟩ = some (.int .i64 (c : Nat)) ∧ W.cell? ⟨w.heap.size + 1, 1, none⟩ = some (.int .i64 (d : Nat))) (go_keep)
    (first
    | (go_at_call_of 38 (a : Int); refine (hc1 _).mono ?_; rintro e w' ⟨rfl, rfl⟩)
    | (go_at_call_of 38 (b : Int); refine (hc2 _).mono ?_; rintro e w' ⟨rfl, rfl⟩)
    | (go_at_call 52; refine ho.mono ?_; rintro e w' ⟨rfl, rfl⟩))
  go_wp2
  go_ret
  exact ⟨by rw [HE.out]; rfl, (((((Grew.refl w).alloc _).alloc _).alloc _).drew)⟩

end Go.Proofs.Ytjjejdfmcohghaa
