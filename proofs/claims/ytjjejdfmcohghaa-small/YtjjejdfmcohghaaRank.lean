/- Endings in order are ranked by their pairs. -/
import Derived.Test.YtjjejdfmcohghaaPairs
import Derived.Laws.StructEq
namespace Go.Proofs.Ytjjejdfmcohghaa
open Go.RowKit

namespace Hm
def neqB (p q : Nat × Nat) : Bool := decide (p ≠ q)
def rankTo (ps : List Nat) (prs : List (Nat × Nat)) : Nat → List Nat
  | 0 => List.replicate ps.length 0
  | k + 1 => (rankTo ps prs k).set (ps.getD (k + 1) 0) ((rankTo ps prs k).getD (ps.getD k 0) 0 + (neqB (prs.getD (ps.getD (k + 1) 0) (0, 0)) (prs.getD (ps.getD k 0) (0, 0))).toNat)
def rankBy (ps : List Nat) (prs : List (Nat × Nat)) : List Nat := rankTo ps prs (ps.length - 1)
theorem rankTo_length (ps : List Nat) (prs : List (Nat × Nat)) (k : Nat) : (rankTo ps prs k).length = ps.length := by
  induction k with
  | zero => simp [rankTo]
  | succ k ih => simp [rankTo, ih]
theorem rankTo_le (ps : List Nat) (prs : List (Nat × Nat)) (k : Nat) : ∀ x ∈ rankTo ps prs k, x ≤ k := by
  induction k with
  | zero => intro x hx; simp [rankTo] at hx; omega
  | succ k ih =>
    intro x hx
    rcases List.mem_or_eq_of_mem_set hx with h | h
    · have := ih x h; omega
    · subst h
      have h1 : (neqB (prs.getD (ps.getD (k + 1) 0) (0, 0)) (prs.getD (ps.getD k 0) (0, 0))).toNat ≤ 1 := Bool.toNat_le _
      have h2 : (rankTo ps prs k).getD (ps.getD k 0) 0 ≤ k := by
        rw [List.getD_eq_getElem?_getD]
        by_cases h : ps.getD k 0 < (rankTo ps prs k).length
        · rw [List.getElem?_eq_getElem h]; exact ih _ (List.getElem_mem _)
        · rw [List.getElem?_eq_none (by omega)]; simp
      omega
end Hm

theorem neq_pair (a b c d : Nat) (w : World) : (binOp .neq 77 (.agg #[.int .i64 (a : Nat), .int .i64 (b : Nat)]) (.agg #[.int .i64 (c : Nat), .int .i64 (d : Nat)])).run Try.prog w = .ok (.bool (Hm.neqB (a, b) (c, d))) w := by
  have u3 := Try.underlying3
  have hS : Try.prog.underlying 77 = some (.struct (Try.prog.fieldsOf 77)) := by kernel_rfl
  have hp : Try.prog.stoodInHeld 77 = false := by kernel_rfl
  rw [run_neq_struct, show (10000 : Nat) = 9999 + 1 from rfl, run_equalIn_agg w 9999 77 _ _ hS hp]
  simp only [Program.fieldsOf, Try.underlying77]
  go_simp
  unfold Hm.neqB
  by_cases h1 : a = c
  · by_cases h2 : b = d
    · simp [h1, h2]
    · have h2' : ¬ ((b : Int) = (d : Int)) := by omega
      simp [h1, h2, h2']
  · have h1' : ¬ ((a : Int) = (c : Int)) := by omega
    simp [h1, h1']

set_option maxHeartbeats 1000000 in
theorem rankBy_any (gp cp gq cq : Nat) (ps : List Nat) (prs : List (Nat × Nat)) (w : World) (hp : IntRow w gp ps) (hq : PairRow w gq prs) (hl : ps.length ≤ 6001) (hpl : prs.length = ps.length) (hx : ∀ x ∈ ps, x < ps.length) (h1 : 1 ≤ ps.length) :
    Calls Try.prog 31 #[.slice (some ⟨gp, 0, none⟩) ps.length cp, .slice (some ⟨gq, 0, none⟩) ps.length cq] w fun e w' => e = .returned (.slice (some ⟨w.heap.size, 0, none⟩) ps.length ps.length) ∧ IntRow w' w.heap.size (Hm.rankBy ps prs) ∧ Kept (fun _ => False) w w' := by
  obtain ⟨i0, hi, hz0, hz1, hz2⟩ := info_parts info_int
  have hgp := hp.lt
  have hgq := hq.lt
  go_enter Try.func31, Try.ntmps31
  go_wp2_with (at_make; refine wpList_make_full _ rfl (.tmp 10) (.tmp 10) 34 rfl w.heap.size 3 i0 (.int .i64 0) 1 Try.underlying34 hi hz0 hz1 .i64 .i64 _ _ ps.length rfl rfl rfl rfl (by rw [hz2]; omega) (by unfold maxLen; omega) (Nat.le_refl _) ?_; intro w1 ho1 hg1)
  have hr1 : IntRow w1 w.heap.size (Hm.rankTo ps prs 0) := IntRow.made ho1
  have hk1 : Kept (fun _ => False) w w1 := (Kept.refl _ _).grown hg1 (fun k hk => by cases hk)
  clear ho1 hg1
  go_loopw [6] (fun i wr => ∃ k : Nat, k + 1 ≤ ps.length ∧ i = .int .i64 (k + 1 : Nat) ∧ IntRow wr w.heap.size (Hm.rankTo ps prs k) ∧ Kept (fun _ => False) w wr) (fun i _ => ps.length - (intOf i).toNat)
  case atStart => exact ⟨0, by omega, rfl, hr1, hk1⟩
  case round =>
    clear hr1 hk1
    obtain ⟨k, hk, rfl, hr, hkr⟩ := hrel
    have hrl := Hm.rankTo_length ps prs k
    by_cases hlt : k + 1 < ps.length
    · have hdec : decide ((k : Int) + 1 < (ps.length : Int)) = true := by simp; omega
      have hc1 := (hp.kept hkr id).cell hlt
      have hc0 := (hp.kept hkr id).cell (show k < ps.length from by omega)
      have hh := hx ps[k + 1] (List.getElem_mem _)
      have ha := hx ps[k] (List.getElem_mem _)
      have HT : Hid (Hm.rankTo ps prs (k + 1) = (Hm.rankTo ps prs k).set ps[k + 1] ((Hm.rankTo ps prs k).getD ps[k] 0 + (Hm.neqB (prs.getD ps[k + 1] (0, 0)) (prs.getD ps[k] (0, 0))).toNat)) := by
        show _ = _
        rw [Hm.rankTo]; simp [hlt, show k < ps.length from by omega]
      generalize ps[k + 1] = here at *
      generalize ps[k] = ahead at *
      have hd1 := hr.cell (show ahead < (Hm.rankTo ps prs k).length from by omega)
      have hd2 := hr.cell (show here < (Hm.rankTo ps prs k).length from by omega)
      have hf := hr.free here
      have hb1 := Hm.rankTo_le ps prs k _ (List.getElem_mem (show ahead < (Hm.rankTo ps prs k).length from by omega))
      rw [List.getD_eq_getElem?_getD, List.getElem?_eq_getElem (show ahead < (Hm.rankTo ps prs k).length from by omega), Option.getD_some] at HT
      have hq' := hq.kept hkr id
      have he1 := hq'.fst (show here < prs.length from by omega)
      have he2 := hq'.snd (show here < prs.length from by omega)
      have he3 := hq'.fst (show ahead < prs.length from by omega)
      have he4 := hq'.snd (show ahead < prs.length from by omega)
      rw [List.getD_eq_getElem?_getD, List.getElem?_eq_getElem (show here < prs.length from by omega), Option.getD_some, List.getD_eq_getElem?_getD, List.getElem?_eq_getElem (show ahead < prs.length from by omega), Option.getD_some] at HT
      generalize (Hm.rankTo ps prs k)[ahead]'(by omega) = ra at *
      generalize (Hm.rankTo ps prs k)[here]'(by omega) = rh at *
      generalize prs[here]'(by omega) = pr1 at *
      generalize prs[ahead]'(by omega) = pr2 at *
      obtain ⟨a, b⟩ := pr1
      obtain ⟨c, d⟩ := pr2
      simp only at he1 he2 he3 he4
      have HS1 := hr.set here ra
      have HS2 := HS1.set here (ra + 1)
      rw [List.set_set] at HS2
      have hneq := fun W => neq_pair a b c d W
      have hnp : ¬ gp = w.heap.size := by omega
      have hnq : ¬ gq = w.heap.size := by omega
      cases hB : Hm.neqB (a, b) (c, d) with
      | true =>
        rw [hB] at HT hneq
        have eT : (Hm.rankTo ps prs k).set here (ra + 1) = Hm.rankTo ps prs (k + 1) := HT.out.symm
        rw [eT] at HS2
        have H2 : Hid (IntRow _ w.heap.size (Hm.rankTo ps prs (k + 1))) := HS2
        clear HS1 HS2 HT hr hrl hp hq hx hq' hB eT
        go_wp2
        go_region
        go_wp2
        go_region
        go_wp2
        go_roundw
        case rel => exact ⟨k + 1, by omega, by go_num, H2.out, ((hkr.setCell (.inl (Nat.le_refl _)) _).setCell (.inl (Nat.le_refl _)) _).drew.drew⟩
        case measure => simp [intOf]; omega
      | false =>
        rw [hB] at HT hneq
        have eT : (Hm.rankTo ps prs k).set here ra = Hm.rankTo ps prs (k + 1) := HT.out.symm
        rw [eT] at HS1
        have H2 : Hid (IntRow _ w.heap.size (Hm.rankTo ps prs (k + 1))) := HS1
        clear HS1 HS2 HT hr hrl hp hq hx hq' hB eT
        go_wp2
        go_region
        go_wp2
        go_region
        go_wp2
        go_roundw
        case rel => exact ⟨k + 1, by omega, by go_num, H2.out, (hkr.setCell (.inl (Nat.le_refl _)) _).drew.drew⟩
        case measure => simp [intOf]; omega
    · have hdec : decide ((k : Int) + 1 < (ps.length : Int)) = false := by simp; omega
      go_wp2
      go_ret
      have e : k = ps.length - 1 := by omega
      exact ⟨rfl, by rw [Hm.rankBy, ← e]; exact hr, hkr⟩

end Go.Proofs.Ytjjejdfmcohghaa
