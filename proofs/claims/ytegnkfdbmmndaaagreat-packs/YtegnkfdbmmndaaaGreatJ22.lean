import Derived.Test.YtegnkfdbmmndaaaGreatJ21

/- RefQ -/
section
/- The document's answer: is there just one code; does a text begin with another. -/
namespace Go.Proofs.YtegnkfdbmmndaaaGreat
open Go.RowKit

set_option maxHeartbeats 400000 in
theorem refOne_any (L : List Nat) (w : World) (hL : L.length = 256) (hx : ∀ x ∈ L, x ≤ 100000) :
    Calls Tryz.prog 89 #[.agg (icells L).toArray] w fun e w' => e = .returned (.bool (decide ((Hm.codedOf L).length = 1))) ∧ Kept (fun _ => False) w w' := by
  have hbox : (w.alloc (.cells (icells L).toArray 94)).heap[w.heap.size]? = some (.cells (icells L).toArray 94 (0, 0)) := heap_alloc_new w _
  have hcell : ∀ W : World, W.heap[w.heap.size]? = some (.cells (icells L).toArray 94 (0, 0)) → ∀ b : Nat, b < 256 → W.cell? ⟨w.heap.size, b, none⟩ = some (.int .i64 (L.getD b 0 : Nat)) := by
    intro W hW b hb
    rw [cell_of_row _ _ b _ _ _ hW]
    simp [icells, List.getD_eq_getElem?_getD, List.getElem?_eq_getElem (show b < L.length from by omega)]
  have hgx : ∀ b : Nat, b < 256 → L.getD b 0 ≤ 100000 := fun b hb => by
    rw [List.getD_eq_getElem?_getD, List.getElem?_eq_getElem (show b < L.length from by omega)]; exact hx _ (List.getElem_mem _)
  have HC : Aside _ := hcell
  have HG : Aside _ := hgx
  have hcells := fun b hb => HC.out (w.alloc (.cells (icells L).toArray 94)) hbox b hb
  have HCE : Aside _ := hcells
  clear hcell hgx hx hL hbox hcells
  generalize (icells L).toArray = arr at *
  go_enter Tryz.func89, Tryz.ntmps89
  go_wp2_with fail
  go_loopw [3, 4] (fun n i wr => ∃ c : Nat, c ≤ 256 ∧ i = .int .i64 c ∧ n = .int .i64 ((Hm.codedTo L c).length : Nat) ∧ wr = w.alloc (.cells arr 94)) (fun _ i _ => 256 - (intOf i).toNat)
  case atStart => exact ⟨0, by omega, rfl, rfl, rfl⟩
  case round =>
    obtain ⟨c, hc, rfl, rfl, hwr⟩ := hrel
    have HW : Aside (wr = w.alloc (.cells arr 94)) := hwr
    have hle := Hm.codedTo_le L c
    by_cases hlt : c < 256
    · have hdec : decide ((c : Int) < 256) = true := decide_eq_true (by omega)
      have hcI : (c : Int) < 256 := by omega
      have hcc : wr.cell? ⟨w.heap.size, c, none⟩ = some (.int .i64 (L.getD c 0 : Nat)) := by rw [hwr]; exact HCE.out c hlt
      have hgc := HG.out c hlt
      have HT : Aside ((Hm.codedTo L (c + 1)).length = (Hm.codedTo L c).length + if 0 < L.getD c 0 then 1 else 0) := by
        show _ = _
        rw [Hm.codedTo_succ, List.length_append]
        by_cases h : 0 < L.getD c 0
        · rw [if_pos h, if_pos h]; rfl
        · rw [if_neg h, if_neg h]; rfl
      clear hwr
      obtain ⟨m, hm⟩ : ∃ m, m = (Hm.codedTo L c).length := ⟨_, rfl⟩
      rw [← hm] at hle HT
      rw [← hm]
      clear hm
      by_cases h2 : 0 < L.getD c 0
      · have hd2 : decide (0 < L.getD c 0) = true := decide_eq_true h2
        rw [if_pos h2] at HT
        generalize L.getD c 0 = x at *
        clear h2
        go_wp2
        go_roundw
        case rel => exact ⟨c + 1, by omega, by go_num, by rw [HT.out]; go_num, HW.out⟩
        case measure => simp [intOf]; omega
      · have hx0 : L.getD c 0 = 0 := by omega
        rw [if_neg h2, Nat.add_zero] at HT
        rw [hx0] at hcc
        clear h2 hx0 hgc
        go_wp2
        go_roundw
        case rel => exact ⟨c + 1, by omega, by go_num, by rw [HT.out]; rfl, HW.out⟩
        case measure => simp [intOf]; omega
    · have hc256 : c = 256 := by omega
      have hdec : decide ((c : Int) < 256) = false := decide_eq_false (by omega)
      have HR : Aside ((Hm.codedTo L c).length = (Hm.codedOf L).length) := by show _ = _; rw [hc256]; rfl
      have HK : Aside (Kept (fun _ => False) w wr) := by rw [hwr]; exact (Kept.refl _ _).alloc _
      have HB : Aside ((((Hm.codedTo L c).length : Int) == 1) = decide ((Hm.codedOf L).length = 1)) := by
        show _ = _
        rw [HR.out]
        by_cases e : (Hm.codedOf L).length = 1
        · rw [e]; rfl
        · rw [decide_eq_false e, beq_eq_false_iff_ne]; omega
      clear hwr hc256
      obtain ⟨m, hm⟩ : ∃ m, m = (Hm.codedTo L c).length := ⟨_, rfl⟩
      rw [← hm] at hle HB
      rw [← hm]
      clear hm
      go_wp2
      go_ret
      exact ⟨by rw [← HB.out]; rfl, HK.out⟩

namespace Hm
/-- Does a text begin with another? -/
def pre (h c : List UInt8) : Bool := decide (h.length ≤ c.length) && c.take h.length == h
end Hm

set_option maxHeartbeats 400000 in
theorem refBegins_any (s h : ByteArray) (w : World) (_hs : s.size ≤ 100000) (_hh : h.size ≤ 100000) :
    Calls Tryz.prog 91 #[.string s, .string h] w fun e w' => e = .returned (.bool (Hm.pre h.data.toList s.data.toList)) ∧ ∃ q, w' = w.drewN q := by
  have HP : Aside (Hm.pre h.data.toList s.data.toList = (decide (h.size ≤ s.size) && (s.extract 0 h.size).toList == h.toList)) := by
    show _ = _
    unfold Hm.pre
    have e1 : h.data.toList.length = h.size := by simp
    have e2 : s.data.toList.length = s.size := by simp
    have e3 : (s.extract 0 h.size).toList = s.data.toList.take h.size := by
      rw [ByteArray.toList_eq, ByteArray.data_extract, Array.toList_extract, List.extract_eq_take_drop, Nat.sub_zero, List.drop_zero]
    rw [e1, e2, e3, ByteArray.toList_eq]
  by_cases hle : h.size ≤ s.size
  · have hd : decide ((s.size : Int) ≥ (h.size : Int)) = true := decide_eq_true (by omega)
    have hd2 : (h.size : Int) ≤ (s.size : Int) := by omega
    have HQ : Aside (Hm.pre h.data.toList s.data.toList = ((s.extract 0 h.size).toList == h.toList)) := by
      show _ = _
      rw [HP.out, decide_eq_true hle, Bool.true_and]
    clear HP
    go_enter Tryz.func91, Tryz.ntmps91
    go_wp2
    go_ret
    exact ⟨by rw [HQ.out]; rfl, 0, rfl⟩
  · have hd : decide ((s.size : Int) ≥ (h.size : Int)) = false := decide_eq_false (by omega)
    have hd2 : ¬ (h.size : Int) ≤ (s.size : Int) := by omega
    have HQ : Aside (Hm.pre h.data.toList s.data.toList = false) := by
      show _ = _
      rw [HP.out, decide_eq_false hle, Bool.false_and]
    clear HP
    go_enter Tryz.func91, Tryz.ntmps91
    go_wp2
    go_ret
    exact ⟨by rw [HQ.out]; rfl, 0, rfl⟩

end Go.Proofs.YtegnkfdbmmndaaaGreat
end
