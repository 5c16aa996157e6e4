import Derived.Test.YtegnkfdbmmndaaaGreatJ09
import Derived.Test.YtegnkfdbmmndaaaGreatJ13
import Derived.Test.YtegnkfdbmmndaaaGreatShelfTwo
import Derived.Deep.Cut
import Derived.Test.YtegnkfdbmmndaaaGreatRows
import Derived.WalkKit
import Derived.WalkSpells
import Derived.WalkLawsBesides
import Derived.Deep.LoopGhost
import Derived.Shelf.SlSortCmp.Kit1

/- LoadM -/
section
/- Lengths that are read: have codes such lengths? -/
namespace Go.Proofs.YtegnkfdbmmndaaaGreat
open Go.RowKit

namespace Hm
def maxL (L : List Nat) : Nat := L.foldl max 0
theorem foldl_max_cast (r : List Nat) : ∀ a : Nat, (r.map fun x : Nat => (x : Int)).foldl max (a : Int) = ((r.foldl max a : Nat) : Int) := by
 induction r with
 | nil => intro a; rfl
 | cons x r ih =>
  intro a
  rw [List.map_cons, List.foldl_cons, List.foldl_cons, ← ih (max a x)]
  congr 1
  omega
theorem maxL_eq (L : List Nat) : Lib.maxOf (L.map fun x : Nat => (x : Int)) = (maxL L : Int) := by
 cases L with
 | nil => rfl
 | cons x r =>
  unfold Lib.maxOf maxL
  rw [List.map_cons, List.headD_cons, List.foldl_cons, List.foldl_cons, Int.max_self, foldl_max_cast]
  simp
theorem le_foldl_max (r : List Nat) : ∀ a, a ≤ r.foldl max a ∧ ∀ x ∈ r, x ≤ r.foldl max a := by
 induction r with
 | nil => intro a; exact ⟨Nat.le_refl _, fun x h => by cases h⟩
 | cons y r ih =>
  intro a
  obtain ⟨h1, h2⟩ := ih (max a y)
  rw [List.foldl_cons]
  refine ⟨by omega, fun x hx => ?_⟩
  rcases List.mem_cons.1 hx with rfl | h
  ·omega
  ·exact h2 x h
theorem foldl_max_in (r : List Nat) : ∀ a, r.foldl max a = a ∨ r.foldl max a ∈ r := by
 induction r with
 | nil => intro a; exact .inl rfl
 | cons y r ih =>
  intro a
  rw [List.foldl_cons]
  rcases ih (max a y) with h | h
  ·rw [h]
   rcases Nat.le_total a y with h1 | h1
   ·right; rw [Nat.max_eq_right h1]; exact List.mem_cons_self ..
   ·left; exact Nat.max_eq_left h1
  ·exact .inr (List.mem_cons_of_mem _ h)
theorem maxL_le (L : List Nat) (x : Nat) (h : x ∈ L) : x ≤ maxL L := (le_foldl_max L 0).2 x h
theorem maxL_in (L : List Nat) (h : 0 < maxL L) : maxL L ∈ L := by
 rcases foldl_max_in L 0 with h1 | h1
 ·unfold maxL at h; omega
 ·exact h1
theorem codedOf_perm (L : List Nat) (hx : ∀ b : UInt8, lnB L b ≤ 255) : (orderOf L).Perm (codedOf L) := by
 have hn : (codedOf L).Nodup := by
  rw [List.nodup_iff_pairwise_ne]
  exact (codedOf_asc L).imp fun {a b} k e => by subst e; omega
 exact (List.perm_ext_iff_of_nodup (nodup_of_key (orderOf_sorted L)) hn).2 fun b => by rw [mem_orderOf L hx, mem_codedOf]
theorem lnB_le {L : List Nat} (hL : L.length = 256) (B : Nat) (h : ∀ x ∈ L, x ≤ B) (b : UInt8) : lnB L b ≤ B := by
 have hb := b.toNat_lt
 unfold lnB
 rw [List.getD_eq_getElem?_getD, List.getElem?_eq_getElem (by omega)]
 exact h _ (List.getElem_mem _)
theorem kr_take (M : Nat) (L : List Nat) (ms : List UInt8) (k : Nat) (h : k < ms.length) : kr M L (ms.take (k + 1)) = kr M L (ms.take k) + 2 ^ (M - lnB L ms[k]) := by
 rw [List.take_succ_eq_append_getElem h, kr_append]
 show _ + ([ms[k]].map fun b => 2 ^ (M - ln L b)).sum = _
 rw [List.map_cons, List.map_nil, List.sum_cons, List.sum_nil, Nat.add_zero]
theorem kr_le (M : Nat) (L : List Nat) (ms : List UInt8) : kr M L ms ≤ ms.length * 2 ^ M := by
 induction ms with
 | nil => simp [kr]
 | cons b r ih =>
  have h1 : 2 ^ (M - ln L b) ≤ 2 ^ M := Nat.pow_le_pow_right (by omega) (by omega)
  have h2 : kr M L (b :: r) = 2 ^ (M - ln L b) + kr M L r := by simp [kr]
  rw [h2, List.length_cons, Nat.add_mul]
  omega
theorem codedOf_none {L : List Nat} (h : (codedOf L).length = 0) (b : UInt8) : lnB L b = 0 := by
 have h1 : ¬ 0 < lnB L b := fun hp => by
  have h2 := (mem_codedOf L b).2 hp
  rw [List.eq_nil_of_length_eq_zero h] at h2
  cases h2
 omega
end Hm

set_option maxHeartbeats 400000 in
theorem longest_any (L : List Nat) (w : World) (hL : L.length = 256) :
  Calls Tryz.prog 170 #[.agg (icells L).toArray] w fun e w' => e = .returned (.int .i64 (Hm.maxL L : Nat)) ∧ Kept (fun _ => False) w w' := by
 have hbx := heap_alloc_new w (.cells (icells L).toArray 139)
 have hmx := Tryz.slices_Max_int w.heap.size 0 256 256 (L.map fun x : Nat => (x : Int)) (w.alloc (.cells (icells L).toArray 139)) (by omega) (by simp; omega) (by omega) (fun j hj => by
  have hj' : j < L.length := by simpa using hj
  rw [Nat.zero_add, cell_of_row _ _ _ _ _ _ hbx]
  simp [icells, List.getD_eq_getElem?_getD, hj'])
 rw [List.take_of_length_le (by simp; omega), Hm.maxL_eq] at hmx
 have hk : Kept (fun _ => False) w (w.alloc (.cells (icells L).toArray 139)) := (Kept.refl _ _).alloc _
 generalize (icells L).toArray = arr at *
 clear hbx
 go_enter Tryz.func170, Tryz.ntmps170
 go_wp2_with fail
 refine hmx.mono ?_
 rintro e w1 ⟨rfl, rfl⟩
 go_wp2_with fail
 go_ret
 exact ⟨rfl, hk⟩

set_option maxHeartbeats 2000000 in
theorem wholeLens_any (L : List Nat) (w : World) (hL : L.length = 256) (hx : ∀ x ∈ L, x ≤ 255) :
  Calls Tryz.prog 169 #[.agg (icells L).toArray] w fun e w' => ∃ b, e = .returned (.bool b) ∧ (b = true ↔ Hm.Coded L) ∧ Kept (fun _ => False) w w' := by
 have hxb := Hm.lnB_le hL 255 hx
 have hol := Hm.orderOf_length L hxb
 have hbx := heap_alloc_new w (.cells (icells L).toArray 139)
 have hasz : (icells L).toArray.size = 256 := by rw [icells_size, hL]
 have hby := fun W => bytes_any L W hL (fun x h => by have := hx x h; omega)
 have hlo := fun W => longest_any L W hL
 have hk0 : Kept (fun _ => False) w (w.alloc (.cells (icells L).toArray 139)) := (Kept.refl _ _).alloc _
 have HCE : Hid (∀ W, Kept (fun _ => False) (w.alloc (.cells (icells L).toArray 139)) W → W.heap[w.heap.size]? = some (.cells (icells L).toArray 139 (0, 0)) ∧ ∀ b : UInt8, W.cell? ⟨w.heap.size, b.toNat, none⟩ = some (.int .i64 (Hm.lnB L b : Nat))) := fun W hk => by
  have h1 := hk.row hbx id
  refine ⟨h1, fun b => ?_⟩
  have hb := b.toNat_lt
  rw [cell_of_row _ _ _ _ _ _ h1]
  simp [icells, Hm.lnB, List.getD_eq_getElem?_getD, List.getElem?_eq_getElem (show b.toNat < L.length from by omega)]
 have hcl := Hm.codedTo_le L 256
 change (Hm.codedOf L).length ≤ 256 at hcl
 obtain ⟨arr, harr⟩ : ∃ a, a = (icells L).toArray := ⟨_, rfl⟩
 rw [← harr] at hbx hasz hby hlo hk0 HCE ⊢
 have HL : Hid (L.length = 256 ∧ (∀ x ∈ L, x ≤ 255) ∧ (∀ b, Hm.lnB L b ≤ 255) ∧ (Hm.orderOf L).length = (Hm.codedOf L).length) := ⟨hL, hx, hxb, hol⟩
 obtain ⟨W0, hW0⟩ : ∃ W0, W0 = w.alloc (.cells arr 139) := ⟨_, rfl⟩
 rw [← hW0] at hbx hk0 HCE
 have HW : Hid (w.alloc (.cells arr 139) = W0) := hW0.symm
 clear harr hW0 hx hxb hol hL
 go_enter Tryz.func169, Tryz.ntmps169
 go_upto_region 1 with fail
 rw [HW.out]
 clear HW
 go_wp2_with (first
  | (refine wpList_load_row rfl 139 _ rfl w.heap.size rfl 139 arr (0, 0) _ hbx Tryz.underlying139 rfl (by rw [hasz]; exact info_len) ?_))
 refine (hby _).mono ?_
 rintro e w1 ⟨v, rfl, ho, hk1⟩
 clear hby
 have HK1 : Hid (Kept (fun _ => False) W0 w1 ∧ Kept (fun _ => False) w w1) := ⟨hk1, hk0.trans hk1 (fun _ _ h => h)⟩
 clear hk0
 by_cases h0 : (Hm.codedOf L).length = 0
 ·obtain ⟨ao, cp, hv, _⟩ := slice_shape ho
  rw [h0] at hv
  subst hv
  have HC : Hid (Hm.Coded L) := ⟨HL.out.1, fun b => by rw [Hm.codedOf_none h0 b]; omega, .inl (by rw [HL.out.2.2.2, h0])⟩
  clear ho hk1 hbx h0
  go_wp2_with fail
  go_ret
  exact ⟨true, rfl, ⟨fun _ => HC.out, fun _ => rfl⟩, HK1.out.2⟩
 ·obtain ⟨g, cap, hv, _, hgw⟩ := owns_some ho (by omega)
  subst hv
  obtain ⟨n, hn⟩ : ∃ n, n = (Hm.codedOf L).length := ⟨_, rfl⟩
  have hcell : ∀ i, (h : i < (Hm.codedOf L).length) → w1.cell? ⟨g, i, none⟩ = some (.int .u8 (((Hm.codedOf L)[i]).toNat : Nat)) := fun i h => by
   rw [ho.cellAt i (by omega)]; simp [Hm.bcells, h]
  have HCC : Hid (∀ i, (h : i < (Hm.codedOf L).length) → w1.cell? ⟨g, i, none⟩ = some (.int .u8 (((Hm.codedOf L)[i]).toNat : Nat))) := hcell
  have HLL := HCE.out w1 hk1
  have HLB : Hid (∀ b : UInt8, w1.cell? ⟨w.heap.size, b.toNat, none⟩ = some (.int .i64 (Hm.lnB L b : Nat))) := HLL.2
  have hb1 := HLL.1
  have HN : Hid (n = (Hm.codedOf L).length) := hn
  rw [← hn] at hcl h0 ⊢
  have hq0 : ((n : Int) == 0) = false := by rw [beq_eq_false_iff_ne]; omega
  by_cases h1 : n = 1
  ·have hc0 := hcell 0 (by omega)
   obtain ⟨b, hb⟩ : ∃ b, b = (Hm.codedOf L)[0]'(by omega) := ⟨_, rfl⟩
   rw [← hb] at hc0
   have hlb := HLB.out b
   have hb256 : ((b.toNat : Nat) : Int) < 256 := by have := b.toNat_lt; omega
   have HB : Hid ((decide (Hm.lnB L b = 1) = true) ↔ Hm.Coded L) := by
    have hcl1 : Hm.codedOf L = [b] := by
     obtain ⟨y, hy⟩ := List.length_eq_one_iff.1 (show (Hm.codedOf L).length = 1 from by omega)
     rw [hy]
     simp only [hy, List.getElem_cons_zero] at hb
     rw [hb]
    have hop := Hm.codedOf_perm L HL.out.2.2.1
    rw [hcl1] at hop
    have ho1 : Hm.orderOf L = [b] := List.perm_singleton.1 hop
    have hz : ∀ c, c ≠ b → Hm.lnB L c = 0 := fun c hc => by
     have h2 : ¬ 0 < Hm.lnB L c := fun hp => by
      have h3 := (Hm.mem_codedOf L c).2 hp
      rw [hcl1] at h3
      exact hc (List.mem_singleton.1 h3)
     omega
    constructor
    ·intro h
     have h2 := of_decide_eq_true h
     refine ⟨HL.out.1, fun c => ?_, .inr (.inl ⟨by rw [ho1]; rfl, fun c hc => ?_⟩)⟩
     ·by_cases hcb : c = b
      ·rw [hcb, h2]; omega
      ·rw [hz c hcb]; omega
     ·rw [ho1] at hc; rw [List.mem_singleton.1 hc]; exact h2
    ·intro h
     rcases h.kind with h2 | ⟨_, h2⟩ | ⟨h2, _⟩
     ·rw [ho1] at h2; cases h2
     ·exact decide_eq_true (h2 b (by rw [ho1]; exact List.mem_singleton.2 rfl))
     ·rw [ho1] at h2; simp at h2
   generalize Hm.lnB L b = x at *
   subst h1
   clear ho hk1 hbx h0 hn hcell hb HLB HLL HCC HCE
   go_wp2_with fail
   go_ret
   refine ⟨decide (x = 1), ?_, HB.out, HK1.out.2⟩
   have e : (((x : Nat) : Int) == 1) = decide (x = 1) := by rw [Bool.eq_iff_iff]; simp; omega
   rw [← e]; rfl
  ·have hq1 : ((n : Int) == 1) = false := by rw [beq_eq_false_iff_ne]; omega
   have hn2 : 1 < n := by omega
   have HNN : Hid (1 < n) := hn2
   have HB2 : Hid (Hm.maxL L ≤ 32 → (decide (Hm.kr 32 L (Hm.codedOf L) = 4294967296) = true ↔ Hm.Coded L)) := fun hm => by
    have hop := Hm.codedOf_perm L HL.out.2.2.1
    have hlen : 1 < (Hm.orderOf L).length := by rw [HL.out.2.2.2, ← HN.out]; exact HNN.out
    constructor
    ·intro h
     refine ⟨HL.out.1, Hm.lnB_le HL.out.1 32 (fun x hx => Nat.le_trans (Hm.maxL_le L x hx) hm), .inr (.inr ⟨hlen, ?_⟩)⟩
     rw [Hm.kr_perm hop, of_decide_eq_true h]
    ·intro h
     rcases h.kind with h2 | ⟨h2, _⟩ | ⟨_, h2⟩
     ·omega
     ·omega
     ·rw [Hm.kr_perm hop] at h2
      exact decide_eq_true h2
   have HNo : Hid (¬ Hm.maxL L ≤ 32 → ¬ Hm.Coded L) := fun hm hC => by
    obtain ⟨i, hi, he⟩ := List.getElem_of_mem (Hm.maxL_in L (by omega))
    have h1 := hC.short (UInt8.ofNat i)
    have h2 : (UInt8.ofNat i).toNat = i := by rw [UInt8.toNat_ofNat']; have := HL.out.1; omega
    unfold Hm.lnB at h1
    rw [h2, List.getD_eq_getElem?_getD, List.getElem?_eq_getElem hi, he] at h1
    exact hm h1
   have HMX : Hid (∀ b, Hm.maxL L ≤ 32 → Hm.lnB L b ≤ 32) := fun b hm => Hm.lnB_le HL.out.1 32 (fun x hx => Nat.le_trans (Hm.maxL_le L x hx) hm) b
   have hmxb : Hm.maxL L ≤ 255 := by
    by_cases h : 0 < Hm.maxL L
    ·exact HL.out.2.1 _ (Hm.maxL_in L h)
    ·omega
   obtain ⟨mx, hmxe⟩ : ∃ x, x = Hm.maxL L := ⟨_, rfl⟩
   rw [← hmxe] at hlo HB2 HNo HMX hmxb
   clear ho hk1 hbx h0 hn hcell HLL h1 hn2 hmxe
   go_wp2_with (first
    | (refine wpList_load_row rfl 139 _ rfl w.heap.size rfl 139 arr (0, 0) _ hb1 Tryz.underlying139 rfl (by rw [hasz]; exact info_len) ?_))
   refine (hlo _).mono ?_
   rintro e w2 ⟨rfl, hk2⟩
   have HK2 : Hid (Kept (fun _ => False) w1 w2 ∧ Kept (fun _ => False) w w2) := ⟨hk2, HK1.out.2.trans hk2 (fun _ _ h => h)⟩
   clear hlo hb1
   by_cases hm : mx ≤ 32
   ·have hd : decide ((32 : Int) < (mx : Int)) = false := decide_eq_false (by omega)
    have HC2 : Hid (∀ i, (h : i < (Hm.codedOf L).length) → w2.cell? ⟨g, i, none⟩ = some (.int .u8 (((Hm.codedOf L)[i]).toNat : Nat))) := fun i h => (hk2.cell (p := ⟨g, i, none⟩) (World.block_lt_of_cell? _ _ (HCC.out i h)) id).trans (HCC.out i h)
    have HL2 : Hid (∀ b : UInt8, w2.cell? ⟨w.heap.size, b.toNat, none⟩ = some (.int .i64 (Hm.lnB L b : Nat))) := fun b => (hk2.cell (p := ⟨w.heap.size, b.toNat, none⟩) (World.block_lt_of_cell? _ _ (HLB.out b)) id).trans (HLB.out b)
    have HM : Hid (mx ≤ 32) := hm
    clear HCC HLB hk2 hm
    go_wp2_with fail
    go_loopw [4, 26] (fun vt vi wr => ∃ k : Nat, k ≤ n ∧ vi = .int .i64 k ∧ vt = .int .u64 (Hm.kr 32 L ((Hm.codedOf L).take k) : Nat) ∧ wr = w2) (fun _ vi _ => n - (intOf vi).toNat)
    case atStart => exact ⟨0, by omega, rfl, by simp [Hm.kr], rfl⟩
    case round =>
     obtain ⟨k, hk, rfl, rfl, rfl⟩ := hrel
     have hkl := Hm.kr_le 32 L ((Hm.codedOf L).take k)
     have hkb : Hm.kr 32 L ((Hm.codedOf L).take k) ≤ 1099511627776 := Nat.le_trans hkl (Nat.mul_le_mul (show ((Hm.codedOf L).take k).length ≤ 256 from by rw [List.length_take]; have := HN.out; omega) (Nat.le_refl (2 ^ 32)))
     by_cases hlt : k < n
     ·have hkn : k < (Hm.codedOf L).length := by have := HN.out; omega
      have hc := HC2.out k hkn
      have hlb := HL2.out (Hm.codedOf L)[k]
      have hx32 := HMX.out (Hm.codedOf L)[k] HM.out
      have HS : Hid (Hm.kr 32 L ((Hm.codedOf L).take (k + 1)) = Hm.kr 32 L ((Hm.codedOf L).take k) + 2 ^ (32 - Hm.lnB L (Hm.codedOf L)[k])) := Hm.kr_take 32 L _ k hkn
      obtain ⟨b, hb⟩ : ∃ b, b = (Hm.codedOf L)[k] := ⟨_, rfl⟩
      rw [← hb] at hc hlb hx32 HS
      have hb256 : ((b.toNat : Nat) : Int) < 256 := by have := b.toNat_lt; omega
      obtain ⟨x, hxe⟩ : ∃ x, x = Hm.lnB L b := ⟨_, rfl⟩
      rw [← hxe] at hlb hx32 HS
      obtain ⟨y, hy⟩ : ∃ y, y = 32 - x := ⟨_, rfl⟩
      have zy : (32 : Int) - (x : Int) = (y : Int) := by omega
      rw [← hy] at HS
      have hyp : (2 : Nat) ^ y ≤ 4294967296 := Nat.pow_le_pow_right (n := 2) (i := y) (j := 32) (by omega) (by omega)
      generalize Hm.kr 32 L ((Hm.codedOf L).take k) = t at *
      clear hkl hb hxe hy
      go_wp2_with fail
      have hwu : ∀ z : Nat, z < 18446744073709551616 → IntKind.u64.wrap (z : Int) = (z : Int) := fun z hz => by
       simp [IntKind.wrap, IntKind.signed, IntKind.bits]; omega
      have e1 : ((2 : Int) ^ y) = ((2 ^ y : Nat) : Int) := by simp
      have e2 : IntKind.u64.wrap ((t : Int) + IntKind.u64.wrap ((2 : Int) ^ y)) = ((t + 2 ^ y : Nat) : Int) := by
       rw [e1, hwu (2 ^ y) (by omega), ← Int.natCast_add, hwu (t + 2 ^ y) (by omega)]
      exact ⟨⟨k + 1, by omega, by go_num, by rw [e2, HS.out], trivial⟩, by simp [intOf]; omega⟩
     ·obtain rfl : k = n := by omega
      have HT : Hid ((Hm.codedOf L).take k = Hm.codedOf L) := by show _ = _; rw [HN.out, List.take_length]
      rw [HT.out]
      have HF := HB2.out HM.out
      have HFF : Hid (decide (Hm.kr 32 L (Hm.codedOf L) = 4294967296) = true ↔ Hm.Coded L) := HF
      rw [HT.out] at hkb hkl
      generalize Hm.kr 32 L (Hm.codedOf L) = t at *
      clear HF hkl
      go_wp2_with fail
      go_ret
      refine ⟨decide (t = 4294967296), ?_, HFF.out, HK2.out.2⟩
      have e : (((t : Nat) : Int) == 4294967296) = decide (t = 4294967296) := by rw [Bool.eq_iff_iff]; simp; omega
      rw [← e]; rfl
   ·have hd : decide ((32 : Int) < (mx : Int)) = true := decide_eq_true (by omega)
    have HNC : Hid (¬ Hm.Coded L) := HNo.out hm
    clear hm HB2 HMX hk2
    go_wp2_with fail
    go_ret
    exact ⟨false, rfl, ⟨fun h => (by cases h), fun h => absurd h HNC.out⟩, HK2.out.2⟩

end Go.Proofs.YtegnkfdbmmndaaaGreat
end

/- StabA -/
section
/- slices.SortStableFunc at bytes: two ranges are exchanged, a range is turned about. -/
namespace Go.Proofs.YtegnkfdbmmndaaaGreat
open Go.RowKit Go.Sort Go.Shelf

def enc8 (x : UInt8) : Value := .int .u8 (x.toNat : Nat)
theorem enc8_one : OneCell enc8 := fun _ => rfl

set_option maxHeartbeats 4000000 in
set_option maxRecDepth 100000 in
theorem swapRange_any (w0 : World) (blk cap a b n : Nat) (d0 d : Array UInt8) (f : Value) (w : World) (R : Row1 enc8 w0 blk 0 d0) (hs : d0.size = d.size) (S : SW enc8 w0 blk 0 d w) (hab : a + n ≤ b) (hb : b + n ≤ d.size) (hsz : d.size ≤ 256) :
  Calls Tryz.prog 227 #[.slice (some ⟨blk, 0, none⟩) d.size cap, .int .i64 a, .int .i64 b, .int .i64 n, f] w fun e w' => e = .returned (.tuple #[]) ∧ ∃ d', Hm.Swr d d' a b n ∧ SW enc8 w0 blk 0 d' w' := by
 have S0 : Aside (SW enc8 w0 blk 0 d w) := S
 clear S
 go_enter Tryz.func227, Tryz.ntmps227
 go_wp2
 go_loopg [10] n (fun g1 vi wr => ∃ (k : Nat) (dk : Array UInt8), vi = .int .i64 k ∧ k + g1 = n ∧ dk.size = d.size ∧ Aside (SW enc8 w0 blk 0 dk wr) ∧ Hid (Hm.Swr d dk a b k))
 case atStart => exact ⟨0, d, rfl, by omega, rfl, S0, Hm.Swr.zero d a b⟩
 case round =>
  clear S0
  obtain ⟨k, dk, rfl, hk, hsk, S1, HO⟩ := hrel
  by_cases hlt : k < n
  ·have hltz : (k : Int) < (n : Int) := by omega
   have S3 : Aside (SW enc8 w0 blk 0 (swp dk (a + k) (b + k)) ((wr.setCell ⟨blk, a + k, none⟩ (.int .u8 (dk[b + k]!.toNat : Nat))).setCell ⟨blk, b + k, none⟩ (.int .u8 (dk[a + k]!.toNat : Nat))).drew) := by
    have := S1.out.swapped R (a + k) (b + k) (by omega) (by omega)
    rw [Nat.zero_add, Nat.zero_add] at this; exact this
   have c1 := S1.out.c1 R (by omega) (a + k) (by omega)
   have c2 := S1.out.c1 R (by omega) (b + k) (by omega)
   have f1 := S1.out.f1 R (by omega) (a + k) (by omega)
   have f2 := S1.out.f1 R (by omega) (b + k) (by omega)
   obtain ⟨u, c3⟩ := S1.out.c2 R (by omega) (a + k) (b + k) (by omega) (by omega) (enc8 dk[b + k]!)
   rw [Nat.zero_add] at c1 c2 f1 f2
   rw [Nat.zero_add, Nat.zero_add] at c3
   have HN : Hid (Hm.Swr d (swp dk (a + k) (b + k)) a b (k + 1)) := HO.out.step (by omega) (by omega)
   have hsn : (swp dk (a + k) (b + k)).size = d.size := by rw [size_swp]; exact hsk
   clear S1 HO
   unfold enc8 at c1 c2 c3
   generalize hx : dk[a + k]!.toNat = x at *
   generalize hy : dk[b + k]!.toNat = y at *
   generalize swp dk (a + k) (b + k) = e at *
   have ha1 : (a : Int) + (k : Int) < (d.size : Int) := by omega
   have hb1 : (b : Int) + (k : Int) < (d.size : Int) := by omega
   clear hx hy
   go_wp2
   go_region
   go_wp2
   go_roundg (gk - 1)
   case measure => omega
   case rel => exact ⟨k + 1, e, by go_num, by omega, hsn, S3, HN⟩
  ·have hltz : ¬ (k : Int) < (n : Int) := by omega
   obtain rfl : k = n := by omega
   go_wp2
   go_end0
   exact ⟨rfl, dk, HO.out, S1.out⟩

set_option maxHeartbeats 4000000 in
set_option maxRecDepth 100000 in
theorem rotate_any (w0 : World) (blk cap a m b : Nat) (d0 d : Array UInt8) (f : Value) (w : World) (R : Row1 enc8 w0 blk 0 d0) (hs : d0.size = d.size) (S : SW enc8 w0 blk 0 d w) (ham : a < m) (hmb : m < b) (hb : b ≤ d.size) (hsz : d.size ≤ 256) :
  Calls Tryz.prog 226 #[.slice (some ⟨blk, 0, none⟩) d.size cap, .int .i64 a, .int .i64 m, .int .i64 b, f] w fun e w' => e = .returned (.tuple #[]) ∧ ∃ d', Hm.Rot d d' a m b ∧ SW enc8 w0 blk 0 d' w' := by
 have S0 : Aside (SW enc8 w0 blk 0 d w) := S
 clear S
 have hsw : ∀ (dk : Array UInt8) (p q n : Nat) (W : World), dk.size = d.size → Aside (SW enc8 w0 blk 0 dk W) → p + n ≤ q → q + n ≤ d.size → Calls Tryz.prog 227 #[.slice (some ⟨blk, 0, none⟩) d.size cap, .int .i64 p, .int .i64 q, .int .i64 n, f] W fun e w' => e = .returned (.tuple #[]) ∧ ∃ d', Hm.Swr dk d' p q n ∧ SW enc8 w0 blk 0 d' w' := fun dk p q n W h1 h2 h3 h4 => by
  rw [← h1]; exact swapRange_any w0 blk cap p q n d0 dk f W R (by omega) h2.out h3 (by omega) (by omega)
 go_enter Tryz.func226, Tryz.ntmps226
 go_wp2
 go_loopg [10, 11] (b - a) (fun g1 vi vj wr => ∃ (i j : Nat) (dk : Array UInt8), vi = .int .i64 i ∧ vj = .int .i64 j ∧ 0 < i ∧ 0 < j ∧ i + j = g1 ∧ i ≤ m - a ∧ j ≤ b - m ∧ dk.size = d.size ∧ Aside (SW enc8 w0 blk 0 dk wr) ∧ Hid (∀ e, Hm.Rot dk e (m - i) m (m + j) → Hm.Rot d e a m b))
 case atStart =>
  refine ⟨m - a, b - m, d, by go_num, by go_num, by omega, by omega, by omega, Nat.le_refl _, Nat.le_refl _, rfl, S0, ?_⟩
  intro e he
  rw [show m - (m - a) = a from by omega, show m + (b - m) = b from by omega] at he
  exact he
 case round =>
  clear S0
  obtain ⟨i, j, dk, rfl, rfl, hi0, hj0, hgk, him, hjb, hsk, S1, HO⟩ := hrel
  have zi : ((m - i : Nat) : Int) = (m : Int) - (i : Int) := by omega
  by_cases hne : i = j
  ·subst hne
   have hc := hsw dk (m - i) m i wr hsk S1 (by omega) (by omega)
   rw [zi] at hc
   have hneq : ((i : Int) != (i : Int)) = false := by simp
   clear hsw
   go_wp2_with fail
   refine hc.mono ?_
   rintro e w' ⟨rfl, d', hw, S'⟩
   have HR : Hid (Hm.Rot d d' a m b) := HO.out d' (Hm.Rot.of_swr hw (by omega))
   have SS : Aside (SW enc8 w0 blk 0 d' w') := S'
   clear S' hw hc S1 HO
   go_wp2
   go_end0
   exact ⟨rfl, d', HR.out, SS.out⟩
  ·have hneq : ((i : Int) != (j : Int)) = true := by simp; omega
   by_cases hgt : j < i
   ·have hd : decide ((i : Int) > (j : Int)) = true := by simp; omega
    have hc := hsw dk (m - i) m j wr hsk S1 (by omega) (by omega)
    rw [zi] at hc
    clear hsw
    go_wp2_with fail
    refine hc.mono ?_
    rintro e w' ⟨rfl, d', hw, S'⟩
    have HR : Hid (∀ e, Hm.Rot d' e (m - (i - j)) m (m + j) → Hm.Rot d e a m b) := fun e he => HO.out e (Hm.Rot.by_left hw hgt (by omega) he)
    have hsn : d'.size = d.size := hw.size.trans hsk
    have SS : Aside (SW enc8 w0 blk 0 d' w') := S'
    clear S' hw hc S1 HO
    go_wp2
    go_roundg (i - j + j)
    case measure => omega
    case rel => exact ⟨i - j, j, d', by go_num, rfl, by omega, hj0, rfl, by omega, hjb, hsn, SS, HR⟩
   ·have hd : decide ((i : Int) > (j : Int)) = false := by simp; omega
    have hc := hsw dk (m - i) (m + j - i) i wr hsk S1 (by omega) (by omega)
    rw [zi, show ((m + j - i : Nat) : Int) = (m : Int) + (j : Int) - (i : Int) from by omega] at hc
    clear hsw
    go_wp2_with fail
    refine hc.mono ?_
    rintro e w' ⟨rfl, d', hw, S'⟩
    have HR : Hid (∀ e, Hm.Rot d' e (m - i) m (m + (j - i)) → Hm.Rot d e a m b) := fun e he => HO.out e (Hm.Rot.by_right hw (by omega) (by omega) he)
    have hsn : d'.size = d.size := hw.size.trans hsk
    have SS : Aside (SW enc8 w0 blk 0 d' w') := S'
    clear S' hw hc S1 HO
    go_wp2
    go_roundg (i + (j - i))
    case measure => omega
    case rel => exact ⟨i, j - i, d', rfl, by go_num, hi0, by omega, rfl, him, by omega, hsn, SS, HR⟩

end Go.Proofs.YtegnkfdbmmndaaaGreat
end

/- StabB -/
section
/- slices.SortStableFunc at bytes: the sort by insertion of a block. -/
namespace Go.Proofs.YtegnkfdbmmndaaaGreat
open Go.RowKit Go.Sort Go.Shelf Go.Lib

theorem mixed_all : Tryz.prog.follows .mixedOrders = true := by kernel_rfl

set_option maxHeartbeats 8000000 in
set_option maxRecDepth 100000 in
theorem insertion_any {cf : UInt8 → UInt8 → Int} {key : UInt8 → Nat} {Rl : UInt8 → UInt8 → Prop} (O : Hm.Ord cf key Rl) (g : Nat) (cb : Array Value) (eg : ∀ args w, (callFunc g args).run Tryz.prog w = .ok (.enter g args) w)
  (w0 : World) (blk cap a b : Nat) (d0 d : Array UInt8) (w : World) (hcmp : CmpLays1 Tryz.prog g cb enc8 cf blk 0 d0.size w0) (R : Row1 enc8 w0 blk 0 d0) (hs : d0.size = d.size) (S : SW enc8 w0 blk 0 d w) (hab : a ≤ b) (hb : b ≤ d.size) (hsz : d.size ≤ 256)
  (hp : ∀ p q, a ≤ p → p < q → q < b → Rl d[p]! d[q]!) :
  Calls Tryz.prog 223 #[.slice (some ⟨blk, 0, none⟩) d.size cap, .int .i64 a, .int .i64 b, .func (.func g) #[] cb] w fun e w' => e = .returned (.tuple #[]) ∧ ∃ d', Hm.Same d d' a b ∧ Hm.Srt key d' a b ∧ SW enc8 w0 blk 0 d' w' := by
 have mixed := mixed_all
 have HC : Aside _ := hcmp
 have HP : Aside _ := hp
 have S0 : Aside (SW enc8 w0 blk 0 d w) := S
 clear S hcmp hp
 go_enter Tryz.func223, Tryz.ntmps223
 go_wp2
 go_loopg [8] (b - a) (fun g1 vi wr => ∃ (i : Nat) (dk : Array UInt8), vi = .int .i64 i ∧ a < i ∧ i ≤ b + 1 ∧ b + 1 - i ≤ g1 + 1 ∧ dk.size = d.size ∧ Aside (SW enc8 w0 blk 0 dk wr) ∧ Hid (Hm.Same d dk a i ∧ Hm.Srt key dk a i ∧ (i ≤ b ∨ (b = a ∧ dk = d))))
 case atStart => exact ⟨a + 1, d, by go_num, by omega, by omega, by omega, rfl, S0, Hm.Same.refl _ _ _, Hm.Srt.one _ _ _ _ (by omega), (Nat.lt_or_ge a b).elim (fun h => .inl h) (fun h => .inr ⟨by omega, rfl⟩)⟩
 case round =>
  clear S0
  obtain ⟨i, dk, rfl, hai, hib, hg1, hsk, S1, HO⟩ := hrel
  by_cases hlt : i < b
  ·have hltz : (i : Int) < (b : Int) := by omega
   go_wp2
   go_loopg [9] i (fun g2 vj wr2 => ∃ (j : Nat) (dj : Array UInt8), vj = .int .i64 j ∧ a ≤ j ∧ j ≤ i ∧ j ≤ g2 ∧ dj.size = d.size ∧ Aside (SW enc8 w0 blk 0 dj wr2) ∧ Hid (Hm.Ins key dk dj a i j))
   case atStart => exact ⟨i, dk, rfl, by omega, Nat.le_refl _, Nat.le_refl _, hsk, S1, Hm.Ins.start key dk a i (by omega)⟩
   case round =>
    clear S1
    obtain ⟨j, dj, rfl, haj, hji, hg2, hsj, SJ, HI⟩ := hrel
    have out : (j = a ∨ (a < j ∧ key dj[j - 1]! < key dj[j]!)) → Hid (Hm.Same d dj a (i + 1) ∧ Hm.Srt key dj a (i + 1) ∧ (i + 1 ≤ b ∨ (b = a ∧ dj = d))) := fun hk => by
     obtain ⟨e1, e2⟩ := HI.out.done HO.out.2.1 hk
     exact ⟨(HO.out.1.wider (Nat.le_refl _) (by omega)).trans e1, e2, by omega⟩
    have OUT : Aside _ := out
    clear out
    by_cases hja : a < j
    ·have hjaz : (a : Int) < (j : Int) := by omega
     obtain ⟨jp, hjp⟩ : ∃ q, q + 1 = j := ⟨j - 1, by omega⟩
     have zjp : (j : Int) = (jp : Int) + 1 := by omega
     have hjad : decide ((jp : Int) + 1 > (a : Int)) = true := decide_eq_true (by omega)
     have hjaz' : (a : Int) < (jp : Int) + 1 := by omega
     have rel : Rl dj[j - 1]! dj[j]! := by
      have e1 : dj[j]! = d[i]! := by
       rw [HI.out.rot.lo j (Nat.le_refl _) (by omega), show j + (i - j) = i from by omega]
       exact HO.out.1.out i (by omega)
      have e2 : dj[j - 1]! = dk[j - 1]! := HI.out.rot.out _ (by omega)
      obtain ⟨q, q1, q2, q3⟩ := (HO.out.1.mem _).1 ⟨j - 1, by omega, by omega, rfl⟩
      rw [e1, e2, ← q3]
      exact HP.out q i q1 q2 hlt
     have hlt2 := O.lt _ _ rel
     have hne2 := O.ne _ _ rel
     by_cases hlv : cf dj[j]! dj[j - 1]! < 0
     ·have HK : Aside (key dj[j]! < key dj[j - 1]!) := hlt2.1 hlv
      obtain ⟨x, hx⟩ : ∃ x, x = dj[j]! := ⟨_, rfl⟩
      obtain ⟨y, hy⟩ : ∃ x, x = dj[j - 1]! := ⟨_, rfl⟩
      have l1 := SJ.out.cl R (by omega) j (by omega)
      have l2 := SJ.out.cl R (by omega) (j - 1) (by omega)
      rw [Nat.zero_add, ← hx] at l1
      rw [Nat.zero_add, ← hy] at l2
      rw [← hx, ← hy] at hlv
      have hc := SJ.out.cmp HC.out (by omega) x y
      have hd : decide (cf x y < 0) = true := decide_eq_true hlv
      obtain ⟨iN, hiN⟩ : ∃ q, q = j := ⟨_, rfl⟩
      obtain ⟨jN, hjN⟩ : ∃ q, q = j - 1 := ⟨_, rfl⟩
      rw [← hiN] at l1
      rw [← hjN] at l2
      have ea : ((jp : Int) + 1).toNat = iN := by omega
      have pa : (0 : Int) ≤ (jp : Int) + 1 := by omega
      have ba : (jp : Int) + 1 < (d.size : Int) := by omega
      have ra : IntKind.i64.wrap ((jp : Int) + 1) = (jp : Int) + 1 := by rw [IntKind.wrap_i64]; omega
      have ec : ((jp : Int)).toNat = jN := by omega
      have pc : (0 : Int) ≤ (jp : Int) := by omega
      have bc : (jp : Int) < (d.size : Int) := by omega
      have rc : IntKind.i64.wrap ((jp : Int)) = (jp : Int) := by rw [IntKind.wrap_i64]; omega
      clear hlt2 hne2 rel hx hy hiN hjN
      unfold enc8 at l1 l2 hc
      go_wp2_with fail
      go_quiet_grown (first | (go_at_fn g; refine Calls.grown_of (hc _ _)))
      have S2 : Aside (SW enc8 w0 blk 0 dj (grow (wr.drewN nq) osq)) := SJ.out.grown nq osq
      clear l1 l2 hc SJ
      generalize grow (wr.drewN nq) osq = w2 at S2 ⊢
      clear nq osq ea ec hd hlv
      go_wp2_with fail
      have hx1 := S2.out.c1 R (by omega) j (by omega)
      have hx2 := S2.out.c1 R (by omega) (j - 1) (by omega)
      have hf1 := S2.out.f1 R (by omega) j (by omega)
      have hf2 := S2.out.f1 R (by omega) (j - 1) (by omega)
      obtain ⟨u, hx3⟩ := S2.out.c2 R (by omega) j (j - 1) (by omega) (by omega) (enc8 dj[j - 1]!)
      have S3 : Aside (SW enc8 w0 blk 0 (swp dj j (j - 1)) ((w2.setCell ⟨blk, j, none⟩ (enc8 dj[j - 1]!)).setCell ⟨blk, j - 1, none⟩ (enc8 dj[j]!)).drew) := by
       have := S2.out.swapped R j (j - 1) (by omega) (by omega)
       rw [Nat.zero_add, Nat.zero_add] at this; exact this
      have HN : Hid (Hm.Ins key dk (swp dj j (j - 1)) a i (j - 1)) := by
       have hI := HI.out
       have hK := HK.out
       subst hjp
       rw [Nat.add_sub_cancel] at hK ⊢
       exact hI.step (by omega) (by omega) hK
      have hsn : (swp dj j (j - 1)).size = d.size := by rw [size_swp]; exact hsj
      rw [Nat.zero_add] at hx1 hx2 hf1 hf2
      rw [Nat.zero_add, Nat.zero_add] at hx3
      generalize swp dj j (j - 1) = dn at *
      obtain ⟨iN2, hiN⟩ : ∃ q, q = j := ⟨_, rfl⟩
      obtain ⟨jN2, hjN⟩ : ∃ q, q = j - 1 := ⟨_, rfl⟩
      obtain ⟨x2, hx⟩ : ∃ x, x = dj[j]! := ⟨_, rfl⟩
      obtain ⟨y2, hy⟩ : ∃ x, x = dj[j - 1]! := ⟨_, rfl⟩
      rw [← hx, ← hy, ← hjN, ← hiN] at S3
      rw [← hx, ← hiN] at hx1
      rw [← hy, ← hjN] at hx2
      rw [← hy, ← hjN, ← hiN] at hx3
      rw [← hiN] at hf1
      rw [← hjN] at hf2
      have ea : ((jp : Int) + 1).toNat = iN2 := by omega
      have ec : ((jp : Int)).toNat = jN2 := by omega
      unfold enc8 at hx1 hx2 hx3
      clear S2 HI HK OUT hx hy hiN hjN
      have S4 : Aside (SW enc8 w0 blk 0 dn ((w2.setCell ⟨blk, iN2, none⟩ (.int .u8 (y2.toNat : Nat))).setCell ⟨blk, jN2, none⟩ (.int .u8 (x2.toNat : Nat))).drew) := S3
      clear S3
      go_region
      go_wp2
      go_roundg (j - 1)
      case measure => omega
      case rel => exact ⟨j - 1, dn, by first | rfl | go_num | (congr 1; omega), by omega, by omega, Nat.le_refl _, hsn, S4, HN⟩
     ·have HK : Aside (key dj[j - 1]! < key dj[j]!) := Nat.lt_of_le_of_ne (Nat.le_of_not_lt (mt hlt2.2 hlv)) hne2
      obtain ⟨x, hx⟩ : ∃ x, x = dj[j]! := ⟨_, rfl⟩
      obtain ⟨y, hy⟩ : ∃ x, x = dj[j - 1]! := ⟨_, rfl⟩
      have l1 := SJ.out.cl R (by omega) j (by omega)
      have l2 := SJ.out.cl R (by omega) (j - 1) (by omega)
      rw [Nat.zero_add, ← hx] at l1
      rw [Nat.zero_add, ← hy] at l2
      rw [← hx, ← hy] at hlv
      have hc := SJ.out.cmp HC.out (by omega) x y
      have hd : decide (cf x y < 0) = false := decide_eq_false hlv
      obtain ⟨iN, hiN⟩ : ∃ q, q = j := ⟨_, rfl⟩
      obtain ⟨jN, hjN⟩ : ∃ q, q = j - 1 := ⟨_, rfl⟩
      rw [← hiN] at l1
      rw [← hjN] at l2
      have ea : ((jp : Int) + 1).toNat = iN := by omega
      have pa : (0 : Int) ≤ (jp : Int) + 1 := by omega
      have ba : (jp : Int) + 1 < (d.size : Int) := by omega
      have ra : IntKind.i64.wrap ((jp : Int) + 1) = (jp : Int) + 1 := by rw [IntKind.wrap_i64]; omega
      have ec : ((jp : Int)).toNat = jN := by omega
      have pc : (0 : Int) ≤ (jp : Int) := by omega
      have bc : (jp : Int) < (d.size : Int) := by omega
      have rc : IntKind.i64.wrap ((jp : Int)) = (jp : Int) := by rw [IntKind.wrap_i64]; omega
      clear hlt2 hne2 rel hx hy hiN hjN
      unfold enc8 at l1 l2 hc
      go_wp2_with fail
      go_quiet_grown (first | (go_at_fn g; refine Calls.grown_of (hc _ _)))
      have S2 : Aside (SW enc8 w0 blk 0 dj (grow (wr.drewN nq) osq)) := SJ.out.grown nq osq
      clear l1 l2 hc SJ
      generalize grow (wr.drewN nq) osq = w2 at S2 ⊢
      clear nq osq ea ec
      go_wp2
      go_roundg (b - (i + 1))
      case measure => omega
      case rel => exact ⟨i + 1, dj, by go_num, by omega, by omega, by omega, hsj, S2, OUT.out (.inr ⟨hja, HK.out⟩)⟩
    ·have hjaz : decide ((j : Int) > (a : Int)) = false := decide_eq_false (by omega)
     have hjaz' : ¬ (a : Int) < (j : Int) := by omega
     go_wp2_with fail
     go_region
     have S2 : Aside (SW enc8 w0 blk 0 dj wr.drew) := SJ.out.drew
     clear SJ
     go_wp2
     go_roundg (b - (i + 1))
     case measure => omega
     case rel => exact ⟨i + 1, dj, by go_num, by omega, by omega, by omega, hsj, S2, OUT.out (.inl (by omega))⟩
  ·have hltz : ¬ (i : Int) < (b : Int) := by omega
   go_wp2
   go_end0
   refine ⟨rfl, dk, ?_, ?_, S1.out⟩
   ·rcases HO.out.2.2 with h | ⟨h1, h2⟩
    ·obtain rfl : i = b := by omega
     exact HO.out.1
    ·rw [h2]; exact Hm.Same.refl _ _ _
   ·rcases HO.out.2.2 with h | ⟨h1, h2⟩
    ·obtain rfl : i = b := by omega
     exact HO.out.2.1
    ·exact Hm.Srt.one _ _ _ _ (by omega)

end Go.Proofs.YtegnkfdbmmndaaaGreat
end

/- StabC -/
section
/- slices.SortStableFunc at bytes: a merge where the left part is one element. -/
namespace Go.Proofs.YtegnkfdbmmndaaaGreat
open Go.RowKit Go.Sort Go.Shelf Go.Lib

set_option maxHeartbeats 8000000 in
set_option maxRecDepth 100000 in
theorem symMerge_left {cf : UInt8 → UInt8 → Int} {key : UInt8 → Nat} {Rl : UInt8 → UInt8 → Prop} (O : Hm.Ord cf key Rl) (g : Nat) (cb : Array Value) (eg : ∀ args w, (callFunc g args).run Tryz.prog w = .ok (.enter g args) w)
  (w0 : World) (blk cap a m b : Nat) (d0 d : Array UInt8) (w : World) (hcmp : CmpLays1 Tryz.prog g cb enc8 cf blk 0 d0.size w0) (R : Row1 enc8 w0 blk 0 d0) (hs : d0.size = d.size) (S : SW enc8 w0 blk 0 d w) (hma : m = a + 1) (hmb : m < b) (hb : b ≤ d.size) (hsz : d.size ≤ 256)
  (hs2 : Hm.Srt key d m b) (hlr : Hm.LR Rl d a m b) :
  Calls Tryz.prog 224 #[.slice (some ⟨blk, 0, none⟩) d.size cap, .int .i64 a, .int .i64 m, .int .i64 b, .func (.func g) #[] cb] w fun e w' => e = .returned (.tuple #[]) ∧ ∃ d', Hm.Same d d' a b ∧ Hm.Srt key d' a b ∧ SW enc8 w0 blk 0 d' w' := by
 have mixed := mixed_all
 have HC : Aside _ := hcmp
 have HS : Aside _ := hs2
 have HL : Aside _ := hlr
 have S0 : Aside (SW enc8 w0 blk 0 d w) := S
 clear S hcmp hs2 hlr
 have hz : (m : Int) - (a : Int) = 1 := by omega
 have HM : Hid (m = a + 1) := hma
 clear hma
 go_enter Tryz.func224, Tryz.ntmps224
 go_wp2
 go_loopg [10, 11] (b - m) (fun g1 vi vj wr => ∃ i j : Nat, vi = .int .i64 i ∧ vj = .int .i64 j ∧ i + g1 = j ∧ j ≤ b ∧ m ≤ i ∧ Aside (SW enc8 w0 blk 0 d wr) ∧ Hid (Hm.Seek1 key d m b (key d[a]!) i j))
 case atStart => exact ⟨m, b, rfl, rfl, by omega, Nat.le_refl _, Nat.le_refl _, S0, Hm.Seek1.start (by omega)⟩
 case round =>
  clear S0
  obtain ⟨i, j, rfl, rfl, hgk, hjb, hmi, S1, HO⟩ := hrel
  by_cases hlt : i < j
  ·have hltz : decide ((i : Int) < (j : Int)) = true := decide_eq_true (by omega)
   obtain ⟨c, hc0⟩ : ∃ c, c = (i + j) / 2 := ⟨_, rfl⟩
   have hci : i ≤ c := by omega
   have hcj : c < j := by omega
   have zc : ((i : Int) + (j : Int)) / 2 = (c : Int) := by omega
   have rel := HL.out a c (Nat.le_refl _) (by have := HM.out; omega) (by omega) (by omega)
   have hlt2 := O.lt _ _ rel
   have hne2 := O.ne _ _ rel
   have l1 := S1.out.cl R hs.symm c (by omega)
   have l2 := S1.out.cl R hs.symm a (by have := HM.out; omega)
   rw [Nat.zero_add] at l1 l2
   have hcl := S1.out.cmp HC.out hs.symm d[c]! d[a]!
   have b1 : (c : Int) < (d.size : Int) := by omega
   have b2 : (a : Int) < (d.size : Int) := by have := HM.out; omega
   clear hc0
   by_cases hlv : cf d[c]! d[a]! < 0
   ·have HN : Hid (Hm.Seek1 key d m b (key d[a]!) (c + 1) j) := HO.out.up HS.out hci hcj (hlt2.1 hlv)
    have hd : decide (cf d[c]! d[a]! < 0) = true := decide_eq_true hlv
    clear hlt2 hne2 rel HO
    generalize d[c]! = x at *
    generalize d[a]! = y at *
    unfold enc8 at l1 l2 hcl
    go_wp2_with fail
    go_quiet_grown (first | (go_at_fn g; refine Calls.grown_of (hcl _ _)))
    have S2 : Aside (SW enc8 w0 blk 0 d (grow (wr.drewN nq) osq)) := S1.out.grown nq osq
    clear l1 l2 hcl S1
    generalize grow (wr.drewN nq) osq = w2 at S2 ⊢
    clear nq osq
    go_wp2
    go_roundg (j - (c + 1))
    case measure => omega
    case rel => exact ⟨c + 1, j, by go_num, rfl, by omega, hjb, by omega, S2, HN⟩
   ·have HN : Hid (Hm.Seek1 key d m b (key d[a]!) i c) := HO.out.down HS.out hci hcj (Nat.lt_of_le_of_ne (Nat.le_of_not_lt (mt hlt2.2 hlv)) hne2)
    have hd : decide (cf d[c]! d[a]! < 0) = false := decide_eq_false hlv
    clear hlt2 hne2 rel HO
    generalize d[c]! = x at *
    generalize d[a]! = y at *
    unfold enc8 at l1 l2 hcl
    go_wp2_with fail
    go_quiet_grown (first | (go_at_fn g; refine Calls.grown_of (hcl _ _)))
    have S2 : Aside (SW enc8 w0 blk 0 d (grow (wr.drewN nq) osq)) := S1.out.grown nq osq
    clear l1 l2 hcl S1
    generalize grow (wr.drewN nq) osq = w2 at S2 ⊢
    clear nq osq
    go_wp2
    go_roundg (c - i)
    case measure => omega
    case rel => exact ⟨i, c, rfl, rfl, by omega, by omega, hmi, S2, HN⟩
  ·have hltz : decide ((i : Int) < (j : Int)) = false := decide_eq_false (by omega)
   obtain rfl : i = j := by omega
   go_wp2
   go_loopg [13] (i - 1 - a) (fun g2 vk wr2 => ∃ (k : Nat) (dk : Array UInt8), vk = .int .i64 k ∧ k + g2 = i - 1 ∧ a ≤ k ∧ dk.size = d.size ∧ Aside (SW enc8 w0 blk 0 dk wr2) ∧ Hid (Hm.Rot d dk a (a + 1) (k + 1)))
   case atStart => exact ⟨a, d, rfl, by have := HM.out; omega, Nat.le_refl _, rfl, S1, Hm.Rot.id_right d a (a + 1)⟩
   case round =>
    clear S1
    obtain ⟨k, dk, rfl, hk, hak, hsk, S1, HR⟩ := hrel
    have hma := HM.out
    by_cases hlt2 : k < i - 1
    ·have hd : decide ((k : Int) < (i : Int) - 1) = true := decide_eq_true (by omega)
     have S3 : Aside (SW enc8 w0 blk 0 (swp dk k (k + 1)) ((wr.setCell ⟨blk, k, none⟩ (.int .u8 (dk[k + 1]!.toNat : Nat))).setCell ⟨blk, k + 1, none⟩ (.int .u8 (dk[k]!.toNat : Nat))).drew) := by
      have := S1.out.swapped R k (k + 1) (by omega) (by omega)
      rw [Nat.zero_add, Nat.zero_add] at this; exact this
     have c1 := S1.out.c1 R (by omega) k (by omega)
     have c2 := S1.out.c1 R (by omega) (k + 1) (by omega)
     have f1 := S1.out.f1 R (by omega) k (by omega)
     have f2 := S1.out.f1 R (by omega) (k + 1) (by omega)
     obtain ⟨u, c3⟩ := S1.out.c2 R (by omega) k (k + 1) (by omega) (by omega) (enc8 dk[k + 1]!)
     rw [Nat.zero_add] at c1 c2 f1 f2
     rw [Nat.zero_add, Nat.zero_add] at c3
     have HN : Hid (Hm.Rot d (swp dk k (k + 1)) a (a + 1) (k + 1 + 1)) := HR.out.right_step (by omega) hak
     have hsn : (swp dk k (k + 1)).size = d.size := by rw [size_swp]; exact hsk
     clear S1 HR HM hma
     unfold enc8 at c1 c2 c3
     generalize hx : dk[k]!.toNat = x at *
     generalize hy : dk[k + 1]!.toNat = y at *
     generalize swp dk k (k + 1) = e at *
     have ha1 : (k : Int) < (d.size : Int) := by omega
     have hb1 : (k : Int) + 1 < (d.size : Int) := by omega
     clear hx hy
     go_wp2
     go_region
     go_wp2
     go_roundg (gk - 1)
     case measure => omega
     case rel => exact ⟨k + 1, e, by go_num, by omega, by omega, hsn, S3, HN⟩
    ·have hd : decide ((k : Int) < (i : Int) - 1) = false := decide_eq_false (by omega)
     obtain rfl : i = k + 1 := by omega
     have hm := Hm.merge_left (by have := HO.out; rw [hma] at this; exact this) (by have := HS.out; rw [hma] at this; exact this) HR.out
     have HX : Hid (Hm.Same d dk a b ∧ Hm.Srt key dk a b) := hm
     clear hm hma HR HO HS HL
     go_wp2
     (try simp only [Exit.inBlock, Exit.then]); refine bodyPost_ret (results_none rfl _ _ _) rfl ?_
     exact ⟨rfl, dk, HX.out.1, HX.out.2, S1.out⟩

end Go.Proofs.YtegnkfdbmmndaaaGreat
end

/- StabD -/
section
/- slices.SortStableFunc at bytes: a merge where the right part is one element. -/
namespace Go.Proofs.YtegnkfdbmmndaaaGreat
open Go.RowKit Go.Sort Go.Shelf Go.Lib

set_option maxHeartbeats 8000000 in
set_option maxRecDepth 100000 in
theorem symMerge_right {cf : UInt8 → UInt8 → Int} {key : UInt8 → Nat} {Rl : UInt8 → UInt8 → Prop} (O : Hm.Ord cf key Rl) (g : Nat) (cb : Array Value) (eg : ∀ args w, (callFunc g args).run Tryz.prog w = .ok (.enter g args) w)
  (w0 : World) (blk cap a m b : Nat) (d0 d : Array UInt8) (w : World) (hcmp : CmpLays1 Tryz.prog g cb enc8 cf blk 0 d0.size w0) (R : Row1 enc8 w0 blk 0 d0) (hs : d0.size = d.size) (S : SW enc8 w0 blk 0 d w) (hma : a + 1 < m) (hmb : b = m + 1) (hb : b ≤ d.size) (hsz : d.size ≤ 256)
  (hs2 : Hm.Srt key d a m) (hlr : Hm.LR Rl d a m b) :
  Calls Tryz.prog 224 #[.slice (some ⟨blk, 0, none⟩) d.size cap, .int .i64 a, .int .i64 m, .int .i64 b, .func (.func g) #[] cb] w fun e w' => e = .returned (.tuple #[]) ∧ ∃ d', Hm.Same d d' a b ∧ Hm.Srt key d' a b ∧ SW enc8 w0 blk 0 d' w' := by
 have mixed := mixed_all
 have HC : Aside _ := hcmp
 have HS : Aside _ := hs2
 have HL : Aside _ := hlr
 have S0 : Aside (SW enc8 w0 blk 0 d w) := S
 clear S hcmp hs2 hlr
 have hz0 : (((m : Int) - (a : Int)) == 1) = false := by simp; omega
 have hz : (b : Int) - (m : Int) = 1 := by omega
 have HM : Hid (b = m + 1) := hmb
 clear hmb
 have hmd : m < d.size := by have := HM.out; omega
 go_enter Tryz.func224, Tryz.ntmps224
 go_wp2
 go_loopg [14, 15] (m - a) (fun g1 vi vj wr => ∃ i j : Nat, vi = .int .i64 i ∧ vj = .int .i64 j ∧ i + g1 = j ∧ j ≤ m ∧ a ≤ i ∧ Aside (SW enc8 w0 blk 0 d wr) ∧ Hid (Hm.Seek1 key d a m (key d[m]!) i j))
 case atStart => exact ⟨a, m, rfl, rfl, by omega, Nat.le_refl _, Nat.le_refl _, S0, Hm.Seek1.start (by omega)⟩
 case round =>
  clear S0
  obtain ⟨i, j, rfl, rfl, hgk, hjb, hmi, S1, HO⟩ := hrel
  by_cases hlt : i < j
  ·have hltz : decide ((i : Int) < (j : Int)) = true := decide_eq_true (by omega)
   obtain ⟨c, hc0⟩ : ∃ c, c = (i + j) / 2 := ⟨_, rfl⟩
   have hci : i ≤ c := by omega
   have hcj : c < j := by omega
   have zc : ((i : Int) + (j : Int)) / 2 = (c : Int) := by omega
   have rel := HL.out c m (by omega) (by omega) (Nat.le_refl _) (by have := HM.out; omega)
   have hlt2 := O.lt _ _ rel
   have hne2 := O.ne _ _ rel
   have l1 := S1.out.cl R hs.symm m hmd
   have l2 := S1.out.cl R hs.symm c (by omega)
   rw [Nat.zero_add] at l1 l2
   have hcl := S1.out.cmp HC.out hs.symm d[m]! d[c]!
   have b1 : (c : Int) < (d.size : Int) := by omega
   have b2 : (m : Int) < (d.size : Int) := by omega
   clear hc0
   by_cases hlv : cf d[m]! d[c]! < 0
   ·have HN : Hid (Hm.Seek1 key d a m (key d[m]!) i c) := HO.out.down HS.out hci hcj (hlt2.1 hlv)
    have hd : decide (cf d[m]! d[c]! < 0) = true := decide_eq_true hlv
    clear hlt2 hne2 rel HO
    generalize d[c]! = x at *
    generalize d[m]! = y at *
    unfold enc8 at l1 l2 hcl
    go_wp2_with fail
    go_quiet_grown (first | (go_at_fn g; refine Calls.grown_of (hcl _ _)))
    have S2 : Aside (SW enc8 w0 blk 0 d (grow (wr.drewN nq) osq)) := S1.out.grown nq osq
    clear l1 l2 hcl S1
    generalize grow (wr.drewN nq) osq = w2 at S2 ⊢
    clear nq osq
    go_wp2
    go_roundg (c - i)
    case measure => omega
    case rel => exact ⟨i, c, rfl, rfl, by omega, by omega, hmi, S2, HN⟩
   ·have HN : Hid (Hm.Seek1 key d a m (key d[m]!) (c + 1) j) := HO.out.up HS.out hci hcj (Nat.lt_of_le_of_ne (Nat.le_of_not_lt (mt hlt2.2 hlv)) hne2)
    have hd : decide (cf d[m]! d[c]! < 0) = false := decide_eq_false hlv
    clear hlt2 hne2 rel HO
    generalize d[c]! = x at *
    generalize d[m]! = y at *
    unfold enc8 at l1 l2 hcl
    go_wp2_with fail
    go_quiet_grown (first | (go_at_fn g; refine Calls.grown_of (hcl _ _)))
    have S2 : Aside (SW enc8 w0 blk 0 d (grow (wr.drewN nq) osq)) := S1.out.grown nq osq
    clear l1 l2 hcl S1
    generalize grow (wr.drewN nq) osq = w2 at S2 ⊢
    clear nq osq
    go_wp2
    go_roundg (j - (c + 1))
    case measure => omega
    case rel => exact ⟨c + 1, j, by go_num, rfl, by omega, hjb, by omega, S2, HN⟩
  ·have hltz : decide ((i : Int) < (j : Int)) = false := decide_eq_false (by omega)
   obtain rfl : i = j := by omega
   go_wp2
   go_loopg [17] (m - i) (fun g2 vk wr2 => ∃ (k : Nat) (dk : Array UInt8), vk = .int .i64 k ∧ i + g2 = k ∧ k ≤ m ∧ dk.size = d.size ∧ Aside (SW enc8 w0 blk 0 dk wr2) ∧ Hid (Hm.Rot d dk k m (m + 1)))
   case atStart => exact ⟨m, d, rfl, by omega, Nat.le_refl _, rfl, S1, Hm.Rot.id_left d m (m + 1) (by omega)⟩
   case round =>
    clear S1
    obtain ⟨k, dk, rfl, hk, hak, hsk, S1, HR⟩ := hrel
    by_cases hlt2 : i < k
    ·obtain ⟨q, rfl⟩ : ∃ q, k = q + 1 := ⟨k - 1, by omega⟩
     have hd : decide (((q + 1 : Nat) : Int) > (i : Int)) = true := decide_eq_true (by omega)
     have S3 : Aside (SW enc8 w0 blk 0 (swp dk (q + 1) q) ((wr.setCell ⟨blk, q + 1, none⟩ (.int .u8 (dk[q]!.toNat : Nat))).setCell ⟨blk, q, none⟩ (.int .u8 (dk[q + 1]!.toNat : Nat))).drew) := by
      have := S1.out.swapped R (q + 1) q (by omega) (by omega)
      rw [Nat.zero_add, Nat.zero_add] at this; exact this
     have c1 := S1.out.c1 R (by omega) (q + 1) (by omega)
     have c2 := S1.out.c1 R (by omega) q (by omega)
     have f1 := S1.out.f1 R (by omega) (q + 1) (by omega)
     have f2 := S1.out.f1 R (by omega) q (by omega)
     obtain ⟨u, c3⟩ := S1.out.c2 R (by omega) (q + 1) q (by omega) (by omega) (enc8 dk[q]!)
     rw [Nat.zero_add] at c1 c2 f1 f2
     rw [Nat.zero_add, Nat.zero_add] at c3
     have HN : Hid (Hm.Rot d (swp dk (q + 1) q) q m (m + 1)) := HR.out.left_step hmd (by omega)
     have hsn : (swp dk (q + 1) q).size = d.size := by rw [size_swp]; exact hsk
     clear S1 HR HM
     unfold enc8 at c1 c2 c3
     generalize hx : dk[q + 1]!.toNat = x at *
     generalize hy : dk[q]!.toNat = y at *
     generalize swp dk (q + 1) q = e at *
     have ha1 : (q : Int) < (d.size : Int) := by omega
     have hb1 : (q : Int) + 1 < (d.size : Int) := by omega
     have hd2 : (i : Int) < (q : Int) + 1 := by omega
     clear hx hy
     go_wp2
     go_region
     go_wp2
     go_roundg (gk - 1)
     case measure => omega
     case rel => exact ⟨q, e, by go_num, by omega, by omega, hsn, S3, HN⟩
    ·have hd : decide ((k : Int) > (i : Int)) = false := decide_eq_false (by omega)
     obtain rfl : k = i := by omega
     have hm := Hm.merge_right HO.out HS.out HR.out
     have HX : Hid (Hm.Same d dk a b ∧ Hm.Srt key dk a b) := by
      have hma := HM.out
      show _ ∧ _
      rw [hma]; exact hm
     clear hm HR HO HS HL
     go_wp2
     (try simp only [Exit.inBlock, Exit.then]); refine bodyPost_ret (results_none rfl _ _ _) rfl ?_
     exact ⟨rfl, dk, HX.out.1, HX.out.2, S1.out⟩

end Go.Proofs.YtegnkfdbmmndaaaGreat
end
