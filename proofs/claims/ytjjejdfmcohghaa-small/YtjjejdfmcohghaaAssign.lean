/- The one code of a text of one byte. -/
import Derived.Test.YtjjejdfmcohghaaCoded
import Derived.Deep.QuietTactic
import Derived.BigQuiet
namespace Go.Proofs.Ytjjejdfmcohghaa
open Go.RowKit

set_option maxHeartbeats 400000 in
theorem insertion_one (v f : Value) (w : World) : Calls Try.prog 72 #[v, .int .i64 0, .int .i64 1, f] w fun e w' => e = .returned (.tuple #[]) ∧ w = w' := by
  go_enter Try.func72, Try.ntmps72
  go_wp2
  refine wp_loop_rounds 1 ?_
  rw [rounds_succ]
  go_wp2
  go_end0
  exact ⟨rfl, rfl⟩

set_option maxHeartbeats 400000 in
theorem stable_one (v f : Value) (w : World) : Calls Try.prog 56 #[v, .int .i64 1, f] w fun e w' => e = .returned (.tuple #[]) ∧ w = w' := by
  have hin := insertion_one v f w
  go_enter Try.func56, Try.ntmps56
  go_wp2
  refine wp_loop_rounds 1 ?_
  rw [rounds_succ]
  go_wp2_with (go_at_call 72; refine hin.mono ?_; rintro e w2 ⟨rfl, rfl⟩)
  refine wp_loop_rounds 1 ?_
  rw [rounds_succ]
  go_wp2
  go_end0
  exact ⟨rfl, rfl⟩

set_option maxHeartbeats 400000 in
theorem sortStable_one (a : Option Addr) (c : Nat) (f : Value) (w : World) : Calls Try.prog 36 #[.slice a 1 c, f] w fun e w' => e = .returned (.tuple #[]) ∧ w = w' := by
  have hin := stable_one (.slice a 1 c) f w
  go_enter Try.func36, Try.ntmps36
  go_wp2_with (go_at_call 56; refine hin.mono ?_; rintro e w2 ⟨rfl, rfl⟩)
  go_end0
  exact ⟨rfl, rfl⟩

theorem coded_one (cn : Nat) (h : cn < 256) : Hm.codedOf (Hm.oneAt 256 cn 1) = [UInt8.ofNat cn] := by
  have key : ∀ k, Hm.codedTo (Hm.oneAt 256 cn 1) k = if cn < k then [UInt8.ofNat cn] else [] := by
    intro k
    induction k with
    | zero => rfl
    | succ k ih =>
      rw [Hm.codedTo_succ, ih]
      by_cases hk : k < 256
      · have e : (Hm.oneAt 256 cn 1).getD k 0 = if k = cn then 1 else 0 := by
          rw [List.getD_eq_getElem?_getD, List.getElem?_eq_getElem (by rw [Hm.oneAt_length]; exact hk), Hm.oneAt_get]; rfl
        rw [e]
        by_cases e2 : k = cn
        · subst e2; simp
        · rw [if_neg e2]
          by_cases e3 : cn < k
          · have e4 : cn < k + 1 := by omega
            simp [e3, e4]
          · have e4 : ¬ cn < k + 1 := by omega
            simp only [e3, e4, if_false, Nat.lt_irrefl, List.append_nil]
      · have e : (Hm.oneAt 256 cn 1).getD k 0 = 0 := by
          rw [List.getD_eq_getElem?_getD, List.getElem?_eq_none (by rw [Hm.oneAt_length]; omega)]; rfl
        have e3 : cn < k := by omega
        have e4 : cn < k + 1 := by omega
        rw [e]; simp [e3, e4]
  unfold Hm.codedOf
  rw [key, if_pos h]

/-- The table that gives one byte the code 0 of one bit; Z: a table of no codes. -/
def tab1 (Z : Array Value) (cn : Nat) : Array Value := (Z.setIfInBounds (cn * 2) (.int .u64 0)).setIfInBounds (cn * 2 + 1) (.int .i64 1)
theorem zero_tab_size : Try.zeroCells45.size = 512 := by kernel_rfl
theorem zero_tab_all : Try.zeroCells45.all (·.oneCell') = true := by kernel_rfl
theorem tab1_size {Z : Array Value} (hZ : Z.size = 512) (cn : Nat) : (tab1 Z cn).size = 512 := by simp [tab1, hZ]
theorem tab1_num {Z : Array Value} (hZ : Z.size = 512) (cn : Nat) (h : cn < 256) : (tab1 Z cn)[cn * 2]? = some (.int .u64 0) := by
  unfold tab1
  rw [Array.getElem?_setIfInBounds, if_neg (by omega), Array.getElem?_setIfInBounds, if_pos rfl, if_pos (by omega)]
theorem tab1_len {Z : Array Value} (hZ : Z.size = 512) (cn : Nat) (h : cn < 256) : (tab1 Z cn)[cn * 2 + 1]? = some (.int .i64 1) := by
  unfold tab1
  rw [Array.getElem?_setIfInBounds, if_pos rfl, if_pos (by simp [hZ]; omega)]
theorem tab1_all {Z : Array Value} (hZ : Z.all (·.oneCell') = true) (cn : Nat) : (tab1 Z cn).all (·.oneCell') = true := by
  rw [Array.all_eq_true_iff_forall_mem]
  intro v hv
  unfold tab1 at hv
  have h0 := Array.all_eq_true_iff_forall_mem.1 hZ
  rcases Array.mem_or_eq_of_mem_setIfInBounds hv with h | h
  · rcases Array.mem_or_eq_of_mem_setIfInBounds h with h | h
    · exact h0 v h
    · subst h; rfl
  · subst h; rfl
def pairs0 (n : Nat) : List Value := (List.replicate n ()).flatMap fun _ => [.int .u64 0, .int .i64 0]
theorem pairs0_get (n i : Nat) (h : i < n) : (pairs0 n)[i * 2]? = some (.int .u64 0) ∧ (pairs0 n)[i * 2 + 1]? = some (.int .i64 0) := by
  induction n generalizing i with
  | zero => omega
  | succ n ih =>
    have e : pairs0 (n + 1) = .int .u64 0 :: .int .i64 0 :: pairs0 n := by simp [pairs0, List.replicate_succ]
    rw [e]
    cases i with
    | zero => exact ⟨rfl, rfl⟩
    | succ i =>
      have := ih i (by omega)
      rw [show (i + 1) * 2 = i * 2 + 1 + 1 from by omega]
      simpa using this
theorem zero_tab : Try.zeroCells45 = (pairs0 256).toArray := by kernel_rfl
theorem zero_tab_num (cn : Nat) (h : cn < 256) : Try.zeroCells45[cn * 2]? = some (.int .u64 0) := by
  rw [zero_tab, List.getElem?_toArray]; exact (pairs0_get 256 cn h).1
theorem zero_tab_len (cn : Nat) (h : cn < 256) : Try.zeroCells45[cn * 2 + 1]? = some (.int .i64 0) := by
  rw [zero_tab, List.getElem?_toArray]; exact (pairs0_get 256 cn h).2
theorem info_tab : (Try.prog.info? 45).map (·.size) = some 512 := by kernel_rfl

end Go.Proofs.Ytjjejdfmcohghaa
