import Derived.Test.YtegnkfdbmmndaaaGreatJ04
import Derived.Test.YtegnkfdbmmndaaaGreatJ08
import Derived.Test.YtegnkfdbmmndaaaGreatJ11
import Derived.Deep.Cut
import Derived.Test.YtegnkfdbmmndaaaGreatJ16
import Derived.Laws.Tables
import Derived.Test.YtegnkfdbmmndaaaGreatJ03
import Derived.Test.YtegnkfdbmmndaaaGreatJ13
import Derived.Test.YtegnkfdbmmndaaaGreatJ15
import Derived.Test.YtegnkfdbmmndaaaGreatJ07
import Derived.Lib.BitFns

/- ShapeA -/
section
/- The nodes are found. -/
namespace Go.Proofs.YtegnkfdbmmndaaaGreat
open Go.RowKit

namespace Hm
theorem slotStep_cons (ln : UInt8 → Nat) (i s : Nat) (nds : List Nd) (b : UInt8) (r : List UInt8) : slotStep ln i s nds (b :: r) = if ln b = (ndAt nds i).depth + 1 then (putBr nds i s { whole := true, val := b }, r) else (putBr nds i s { node := nds.length } ++ [{ depth := (ndAt nds i).depth + 1, num := 2 * (ndAt nds i).num + s }], b :: r) := rfl
theorem shapeTo_step (ln : UInt8 → Nat) (o : List UInt8) (k s : Nat) (hs : s < 2) : shapeTo ln o (2 * k + s + 1) = slotStep ln k s (shapeTo ln o (2 * k + s)).1 (shapeTo ln o (2 * k + s)).2 := by
 show slotStep ln ((2 * k + s) / 2) ((2 * k + s) % 2) _ _ = _
 rw [show (2 * k + s) / 2 = k from by omega, show (2 * k + s) % 2 = s from by omega]
theorem slotStep_len (ln : UInt8 → Nat) (i s : Nat) (nds : List Nd) (l : List UInt8) : nds.length ≤ (slotStep ln i s nds l).1.length ∧ (slotStep ln i s nds l).1.length ≤ nds.length + 1 := by
 cases l with
 | nil => exact ⟨Nat.le_refl _, Nat.le_succ _⟩
 | cons b r =>
  rw [slotStep_cons]
  split
  ·show _ ≤ (putBr nds i s _).length ∧ (putBr nds i s _).length ≤ _; rw [putBr_length]; omega
  ·show _ ≤ (putBr nds i s _ ++ _).length ∧ (putBr nds i s _ ++ _).length ≤ _; rw [List.length_append, putBr_length]; exact ⟨Nat.le_add_right _ _, Nat.le_refl _⟩
theorem slotStep_depth (ln : UInt8 → Nat) (i s : Nat) (nds : List Nd) (l : List UInt8) (hi : i < nds.length) (j : Nat) (hj : j < nds.length) : (ndAt (slotStep ln i s nds l).1 j).depth = (ndAt nds j).depth := by
 cases l with
 | nil => rfl
 | cons b r =>
  rw [slotStep_cons]
  split
  ·exact putBr_depth _ _ _ _ hi j
  ·show (ndAt (putBr nds i s _ ++ _) j).depth = _
   rw [ndAt_append_lt _ _ _ (by rw [putBr_length]; exact hj), putBr_depth _ _ _ _ hi]
theorem shapeTo_depth (ln : UInt8 → Nat) (o : List UInt8) : ∀ t j, (ndAt (shapeTo ln o t).1 j).depth ≤ t
 | 0, j => by
  show (ndAt [{}] j).depth ≤ 0
  cases j <;> exact Nat.le_refl _
 | t + 1, j => by
  have ih := shapeTo_depth ln o t
  show (ndAt (slotStep ln (t / 2) (t % 2) (shapeTo ln o t).1 (shapeTo ln o t).2).1 j).depth ≤ t + 1
  generalize (shapeTo ln o t).1 = nds at *
  generalize (shapeTo ln o t).2 = l at *
  have pb : ∀ b j, (ndAt (putBr nds (t / 2) (t % 2) b) j).depth ≤ t := fun b j => by
   by_cases hi : t / 2 < nds.length
   ·rw [putBr_depth _ _ _ _ hi]; exact ih j
   ·unfold putBr; rw [List.set_eq_of_length_le (by omega)]; exact ih j
  cases l with
  | nil => exact Nat.le_succ_of_le (ih j)
  | cons b r =>
   rw [slotStep_cons]
   split
   ·exact Nat.le_succ_of_le (pb _ j)
   ·show (ndAt (putBr nds (t / 2) (t % 2) _ ++ [_]) j).depth ≤ t + 1
    rcases Nat.lt_trichotomy j (putBr nds (t / 2) (t % 2) { node := nds.length }).length with c | c | c
    ·rw [ndAt_append_lt _ _ _ c]; exact Nat.le_succ_of_le (pb _ j)
    ·rw [c, ndAt_append_new]; exact Nat.succ_le_succ (ih _)
    ·unfold ndAt
     rw [List.getD_eq_getElem?_getD, List.getElem?_eq_none (by rw [List.length_append]; exact c)]; exact Nat.zero_le _
end Hm

/-- The bytes that are left: from p on. -/
def LeftV (o : List UInt8) (g cp : Nat) (v : Value) (p : Nat) : Prop := ∃ a c, v = .slice a (o.length - p) c ∧ (p < o.length → a = some ⟨g, p, none⟩ ∧ c = cp - p)

set_option maxHeartbeats 2000000 in
theorem shape_any (M : Nat) (L : List Nat) (N : Nat) (w : World) (hL : L.length = 256) (hx : ∀ x ∈ L, x ≤ 255) (hE : Hm.Ends M (Hm.lnB L) (Hm.orderOf L) N)
  (hor : ∀ W : World, Calls Tryz.prog 181 #[.agg (icells L).toArray] W fun e w' => ∃ v, e = .returned v ∧ w'.ownsRow W.heap.size 5 1 v (Hm.orderOf L).length (Hm.bcells (Hm.orderOf L)) ∧ Kept (fun _ => False) W w') :
  Calls Tryz.prog 150 #[.agg (icells L).toArray] w fun e w' => ∃ v, e = .returned v ∧ w'.ownsRow w.heap.size 195 9 v N (ncells (Hm.shapeTo (Hm.lnB L) (Hm.orderOf L) (2 * N)).1) ∧ Kept (fun _ => False) w w' := by
 obtain ⟨i0, hi, hz0, hz1, hz2⟩ := info_parts info_node
 have hasz : (icells L).toArray.size = 256 := by rw [icells_size, hL]
 have hbox : (w.alloc (.cells (icells L).toArray 139)).heap[w.heap.size]? = some (.cells (icells L).toArray 139 (0, 0)) := heap_alloc_new w _
 have hcell : ∀ W : World, W.heap[w.heap.size]? = some (.cells (icells L).toArray 139 (0, 0)) → ∀ b : UInt8, W.cell? ⟨w.heap.size, b.toNat, none⟩ = some (.int .i64 (Hm.lnB L b : Nat)) := by
  intro W hW b
  have hb := b.toNat_lt
  rw [cell_of_row _ _ b.toNat _ _ _ hW]
  simp [icells, Hm.lnB, List.getD_eq_getElem?_getD, List.getElem?_eq_getElem (show b.toNat < L.length from by omega)]
 have hxb : ∀ b : UInt8, Hm.lnB L b ≤ 255 := fun b => by
  have hb := b.toNat_lt
  rw [Hm.lnB, List.getD_eq_getElem?_getD, List.getElem?_eq_getElem (show b.toNat < L.length from by omega)]; exact hx _ (List.getElem_mem _)
 have hor1 := hor (w.alloc (.cells (icells L).toArray 139))
 have HC : Aside _ := hcell
 have HE : Aside _ := hE
 have HXB : Aside _ := hxb
 have hN : N ≤ 255 := by have h1 := hE.len; have h2 := hE.few (2 * N) (Nat.le_refl _); omega
 clear hcell hE hxb hor
 generalize (icells L).toArray = arr at *
 go_enter Tryz.func150, Tryz.ntmps150
 go_wp2_with (first
  | (refine wpList_load_row rfl 139 _ rfl w.heap.size rfl 139 arr (0, 0) _ hbox Tryz.underlying139 rfl (by rw [hasz]; exact info_len) ?_))
 refine hor1.mono ?_
 rintro e w2 ⟨v, rfl, ho, hk2⟩
 have hbx2 := hk2.row hbox id
 have hkw2 : Kept (fun _ => False) w w2 := ((Kept.refl (fun _ => False) w).alloc _).trans hk2 (fun _ _ h => h)
 have hbs : w.heap.size < w2.heap.size := lt_of_block hbx2
 clear hor1 hbox
 generalize hO : Hm.orderOf L = o at *
 obtain ⟨g, cp, hv⟩ : ∃ g cp, LeftV o g cp v 0 ∧ (0 < o.length → v = .slice (some ⟨g, 0, none⟩) o.length cp ∧ o.length ≤ cp) := by
  by_cases h0 : 0 < o.length
  ·obtain ⟨g, cap, hv, hnc, _⟩ := owns_some ho h0
   exact ⟨g, cap, ⟨some ⟨g, 0, none⟩, cap, hv, fun _ => ⟨rfl, rfl⟩⟩, fun _ => ⟨hv, hnc⟩⟩
  ·obtain ⟨ao, c, hv, _⟩ := slice_shape ho
   exact ⟨0, 0, ⟨ao, c, hv, fun h => by omega⟩, fun h => by omega⟩
 obtain ⟨ao, c, hv2, _⟩ := slice_shape ho
 have HV : Aside (LeftV o g cp v 0 ∧ (0 < o.length → v = .slice (some ⟨g, 0, none⟩) o.length cp ∧ o.length ≤ cp) ∧ w2.ownsRow (w.alloc (.cells arr 139)).heap.size 5 1 v o.length (Hm.bcells o)) := ⟨hv.1, hv.2, ho⟩
 rw [hv2]
 rw [hv2] at HV
 clear ho hv hv2
 have HW2 : Aside (w2.heap[w.heap.size]? = some (.cells arr 139 (0, 0)) ∧ Kept (fun _ => False) w w2) := ⟨hbx2, hkw2⟩
 clear hbx2 hkw2 hk2
 obtain ⟨B, hB⟩ : ∃ B, B = w2.heap.size := ⟨_, rfl⟩
 have hgB : 0 < o.length → g < B := fun h => by have h1 := (HV.out.2.1 h).1; have h2 := HV.out.2.2; rw [h1] at h2; have := h2.lt g rfl; omega
 have HB : Aside (B = w2.heap.size) := hB
 have hst0 : (w2.alloc (.cells (ndCells {}).toArray 195)).ownsRow B 195 9 (.slice (some ⟨w2.heap.size, 0, none⟩) 1 1) 1 (ncells (Hm.shapeTo (Hm.lnB L) o (2 * 0)).1) := by
  have := World.ownsRow_lit (e := 195) (base := B) (size := 9) w2 (ndCells {}).toArray 1 (by omega) (by unfold maxLen; omega) rfl
  exact this
 have hkp0 : Kept (fun j => B ≤ j) w2 (w2.alloc (.cells (ndCells {}).toArray 195)) := (Kept.refl _ _).alloc _
 have H0 : Aside _ := And.intro hst0 hkp0
 clear hst0 hkp0 hB
 go_wp2_with fail
 go_loopw [5, 4, 3] (fun vi nv lv wr => ∃ (k p n : Nat), k ≤ N ∧ vi = .int .i64 k ∧ n = (Hm.shapeTo (Hm.lnB L) o (2 * k)).1.length ∧ wr.ownsRow B 195 9 nv n (ncells (Hm.shapeTo (Hm.lnB L) o (2 * k)).1) ∧ p ≤ o.length ∧ (Hm.shapeTo (Hm.lnB L) o (2 * k)).2 = o.drop p ∧ LeftV o g cp lv p ∧ Kept (fun j => B ≤ j) w2 wr) (fun vi _ _ _ => N - (intOf vi).toNat)
 case atStart => exact ⟨0, 0, 1, Nat.zero_le _, rfl, rfl, H0.out.1, Nat.zero_le _, rfl, HV.out.1, H0.out.2⟩
 case round =>
  clear H0
  obtain ⟨k, p, n, hk, rfl, hn, hr, hp, hlf, hlv, hkr⟩ := hrel
  by_cases hlt : k < N
  ·have hmore := HE.out.more k hlt
   obtain ⟨ng, nc, hnv, hnc, hngw⟩ := owns_some hr (by omega)
   subst hnv
   obtain ⟨la, lc, hlv1, hlv2⟩ := hlv
   subst hlv1
   have hd := node_depth hr hn hmore
   have hdle := Hm.shapeTo_depth (Hm.lnB L) o (2 * k) k
   obtain ⟨d, hdd⟩ : ∃ d, d = (Hm.ndAt (Hm.shapeTo (Hm.lnB L) o (2 * k)).1 k).depth := ⟨_, rfl⟩
   rw [← hdd] at hd hdle
   have hkn : (k : Int) < (n : Int) := by omega
   have hdec : decide ((k : Int) < (n : Int)) = true := decide_eq_true hkn
   have HS : Aside (n = (Hm.shapeTo (Hm.lnB L) o (2 * k)).1.length ∧ wr.ownsRow B 195 9 (.slice (some ⟨ng, 0, none⟩) n nc) n (ncells (Hm.shapeTo (Hm.lnB L) o (2 * k)).1) ∧ p ≤ o.length ∧ (Hm.shapeTo (Hm.lnB L) o (2 * k)).2 = o.drop p ∧ LeftV o g cp (.slice la (o.length - p) lc) p ∧ Kept (fun j => B ≤ j) w2 wr ∧ d = (Hm.ndAt (Hm.shapeTo (Hm.lnB L) o (2 * k)).1 k).depth ∧ k < (Hm.shapeTo (Hm.lnB L) o (2 * k)).1.length) := ⟨hn, hr, hp, hlf, ⟨la, lc, rfl, hlv2⟩, hkr, hdd, hmore⟩
   clear hn hr hp hlf hlv2 hkr hdd hmore hnc
   go_wp2_with fail
   go_loopw [24, 4, 3] (fun vs nv lv wr => ∃ (s p n : Nat), s ≤ 2 ∧ vs = .int .i64 s ∧ n = (Hm.shapeTo (Hm.lnB L) o (2 * k + s)).1.length ∧ wr.ownsRow B 195 9 nv n (ncells (Hm.shapeTo (Hm.lnB L) o (2 * k + s)).1) ∧ p ≤ o.length ∧ (Hm.shapeTo (Hm.lnB L) o (2 * k + s)).2 = o.drop p ∧ LeftV o g cp lv p ∧ Kept (fun j => B ≤ j) w2 wr ∧ d = (Hm.ndAt (Hm.shapeTo (Hm.lnB L) o (2 * k + s)).1 k).depth ∧ k < (Hm.shapeTo (Hm.lnB L) o (2 * k + s)).1.length) (fun vs _ _ _ => 2 - (intOf vs).toNat)
   case atStart =>
    obtain ⟨q1, q2, q3, q4, q5, q6, q7, q8⟩ := HS.out
    exact ⟨0, p, n, by omega, rfl, q1, q2, q3, q4, q5, q6, q7, q8⟩
   case round =>
    clear HS hd hkn hdec
    obtain ⟨s, p, n, hs, rfl, hn, hr, hp, hlf, hlv, hkr, hdd, hkl⟩ := hrel
    obtain ⟨W1, rfl⟩ : ∃ X, X = wr := ⟨_, rfl⟩
    by_cases hs2 : s < 2
    ·have hX := Hm.shapeTo_step (Hm.lnB L) o k s hs2
     have hfew := HE.out.few (2 * k + s) (by omega)
     have hsl := Hm.slotStep_len (Hm.lnB L) k s (Hm.shapeTo (Hm.lnB L) o (2 * k + s)).1 (Hm.shapeTo (Hm.lnB L) o (2 * k + s)).2
     have hsd := Hm.slotStep_depth (Hm.lnB L) k s (Hm.shapeTo (Hm.lnB L) o (2 * k + s)).1 (Hm.shapeTo (Hm.lnB L) o (2 * k + s)).2 hkl k hkl
     rw [← hdd] at hsd
     rw [hlf] at hX hsl hsd
     obtain ⟨nds, hnds⟩ : ∃ nds, nds = (Hm.shapeTo (Hm.lnB L) o (2 * k + s)).1 := ⟨_, rfl⟩
     rw [← hnds] at hX hfew hsl hsd hn hr hdd hkl
     obtain ⟨la, lc, hlv1, hlv2⟩ := hlv
     subst hlv1
     obtain ⟨ng, nc, hnv, hnc, hngw⟩ := owns_some hr (by omega)
     subst hnv
     have hBg : B ≤ ng := (hr.lt ng rfl).1
     have hsI : decide ((s : Int) < 2) = true := decide_eq_true (by omega)
     clear hnds hlf
     by_cases hpl : p < o.length
     ·obtain ⟨hla, hlc⟩ := hlv2 hpl
      subst hla
      obtain ⟨m, hm⟩ : ∃ m, m = o.length - p := ⟨_, rfl⟩
      obtain ⟨b, hb⟩ : ∃ b, b = o.getD p 0 := ⟨_, rfl⟩
      rw [Hm.getD_drop_zero o p hpl, ← hb] at hX hsl hsd
      rw [Hm.slotStep_cons] at hX hsl hsd
      have ho0 := HV.out.2.1 (by omega)
      have hcpl := ho0.2
      have how := HV.out.2.2
      rw [ho0.1] at how
      have howr := hkr.owns how (fun j hj => by have e : g = j := Option.some.inj hj; have := hgB (by omega); omega)
      have hcb : W1.cell? ⟨g, p, none⟩ = some (.int .u8 (b.toNat : Nat)) := by
       rw [howr.cellAt p (by omega), hb]
       simp [Hm.bcells, hpl]
      have hcl := HC.out W1 (hkr.row HW2.out.1 (by have := HB.out; omega)) b
      have hlb := HXB.out b
      have hbn := b.toNat_lt
      have hgng : g ≠ ng := by have := hgB (by omega); omega
      have hbng : w.heap.size ≠ ng := by have := HB.out; omega
      have hm0 : (0 : Int) < (m : Int) := by omega
      have hm0' : ((m : Int) == 0) = false := by rw [beq_eq_false_iff_ne]; omega
      have hm1 : (1 : Int) ≤ (m : Int) := by omega
      have hkn : (k : Int) < (n : Int) := by omega
      obtain ⟨x0, t0⟩ : ∃ x, W1.cell? ⟨ng, k * 9 + 3 + s * 3, none⟩ = some x := by
       have := node_cell hr hn hkl (3 + s * 3) (by omega)
       rw [← Nat.add_assoc] at this
       exact ⟨_, this.trans (List.getElem?_eq_getElem (by show _ < 9; omega))⟩
      obtain ⟨x1, t1⟩ : ∃ x, W1.cell? ⟨ng, k * 9 + 3 + s * 3 + 1, none⟩ = some x := by
       have := node_cell hr hn hkl (3 + s * 3 + 1) (by omega)
       rw [← Nat.add_assoc, ← Nat.add_assoc] at this
       exact ⟨_, this.trans (List.getElem?_eq_getElem (by show _ < 9; omega))⟩
      obtain ⟨x2, t2⟩ : ∃ x, W1.cell? ⟨ng, k * 9 + 3 + s * 3 + 2, none⟩ = some x := by
       have := node_cell hr hn hkl (3 + s * 3 + 2) (by omega)
       rw [← Nat.add_assoc, ← Nat.add_assoc] at this
       exact ⟨_, this.trans (List.getElem?_eq_getElem (by show _ < 9; omega))⟩
      have f0 : W1.frozen? ⟨ng, k * 9 + 3 + s * 3, none⟩ = false := hr.frozenAt _
      have f1 : W1.frozen? ⟨ng, k * 9 + 3 + s * 3 + 1, none⟩ = false := hr.frozenAt _
      have f2 : W1.frozen? ⟨ng, k * 9 + 3 + s * 3 + 2, none⟩ = false := hr.frozenAt _
      rw [← hm]
      by_cases hleaf : Hm.lnB L b = d + 1
      ·rw [if_pos (by rw [← hdd]; exact hleaf)] at hX hsl hsd
       have htest : ((Hm.lnB L b : Int) == (d : Int) + 1) = true := by rw [beq_iff_eq]; omega
       have hst := ((((hr.stored (k * 9 + 3 + s * 3) (.bool true)).1).stored (k * 9 + 3 + s * 3 + 1) (.int .u8 (b.toNat : Nat))).1.stored (k * 9 + 3 + s * 3 + 2) (.int .i64 0)).1
       have hbr := ncells_br nds k s hkl hs2 { whole := true, val := b }
       have HR : Aside ((((W1.setCell ⟨ng, k * 9 + 3 + s * 3, none⟩ (.bool true)).setCell ⟨ng, k * 9 + 3 + s * 3 + 1, none⟩ (.int .u8 (b.toNat : Nat))).setCell ⟨ng, k * 9 + 3 + s * 3 + 2, none⟩ (.int .i64 0)).ownsRow B 195 9 (.slice (some ⟨ng, 0, none⟩) n nc) n (ncells (Hm.putBr nds k s { whole := true, val := b })) ∧ Kept (fun j => B ≤ j) w2 (((W1.setCell ⟨ng, k * 9 + 3 + s * 3, none⟩ (.bool true)).setCell ⟨ng, k * 9 + 3 + s * 3 + 1, none⟩ (.int .u8 (b.toNat : Nat))).setCell ⟨ng, k * 9 + 3 + s * 3 + 2, none⟩ (.int .i64 0))) := by
        refine ⟨by rw [← hbr]; exact hst, ?_⟩
        exact ((hkr.setCell (p := ⟨ng, _, none⟩) (.inr hBg) _).setCell (p := ⟨ng, _, none⟩) (.inr hBg) _).setCell (p := ⟨ng, _, none⟩) (.inr hBg) _
       have HX : Aside (Hm.shapeTo (Hm.lnB L) o (2 * k + s + 1) = (Hm.putBr nds k s { whole := true, val := b }, o.drop (p + 1)) ∧ (Hm.ndAt (Hm.putBr nds k s { whole := true, val := b }) k).depth = d ∧ n = nds.length ∧ k < nds.length ∧ m = o.length - p ∧ lc = cp - p) := ⟨hX, hsd, hn, hkl, hm, hlc⟩
       have hlcm : (m : Int) ≤ (lc : Int) := by omega
       obtain ⟨lb, hlbe⟩ : ∃ lb, lb = Hm.lnB L b := ⟨_, rfl⟩
       obtain ⟨bn, hbe⟩ : ∃ bn, bn = b.toNat := ⟨_, rfl⟩
       rw [← hlbe] at htest hcl hlb
       rw [← hbe] at hcl hcb hbn HR
       have hbnI : (bn : Int) < 256 := by omega
       clear hX hsl hsd hn hr hdd hkl hst hbr hlv2 how howr hkr hm hb hleaf hlbe hbe ho0 hlc hcpl hnc
       go_wp2_with fail
       go_region
       go_wp2
       go_roundw
       case rel =>
        obtain ⟨e, ed, en, ekl, em, elc⟩ := HX.out
        have e1 : (Hm.shapeTo (Hm.lnB L) o (2 * k + (s + 1))).1 = Hm.putBr nds k s { whole := true, val := b } := by rw [← Nat.add_assoc, e]
        have e2 : (Hm.shapeTo (Hm.lnB L) o (2 * k + (s + 1))).2 = o.drop (p + 1) := by rw [← Nat.add_assoc, e]
        refine ⟨s + 1, p + 1, n, by omega, by go_num, by rw [e1, Hm.putBr_length]; exact en, by rw [e1]; exact HR.out.1, by omega, e2, ⟨_, _, by rw [show m - 1 = o.length - (p + 1) from by omega], fun h => ⟨if_neg (by have := hlcm; omega), by omega⟩⟩, HR.out.2.drew, by rw [e1, ed], by rw [e1, Hm.putBr_length]; exact ekl⟩
       case measure => simp [intOf]; omega
      ·rw [if_neg (by rw [← hdd]; exact hleaf)] at hX hsl hsd
       have htest : ((Hm.lnB L b : Int) == (d : Int) + 1) = false := by rw [beq_eq_false_iff_ne]; omega
       have hst := ((((hr.stored (k * 9 + 3 + s * 3) (.bool false)).1).stored (k * 9 + 3 + s * 3 + 1) (.int .u8 0)).1.stored (k * 9 + 3 + s * 3 + 2) (.int .i64 (n : Nat))).1
       have hbr := ncells_br nds k s hkl hs2 { node := nds.length }
       rw [← hn] at hbr hX hsd
       have hK3 : Kept (fun j => B ≤ j) w2 (((W1.setCell ⟨ng, k * 9 + 3 + s * 3, none⟩ (.bool false)).setCell ⟨ng, k * 9 + 3 + s * 3 + 1, none⟩ (.int .u8 0)).setCell ⟨ng, k * 9 + 3 + s * 3 + 2, none⟩ (.int .i64 (n : Nat))) :=
        ((hkr.setCell (p := ⟨ng, _, none⟩) (.inr hBg) _).setCell (p := ⟨ng, _, none⟩) (.inr hBg) _).setCell (p := ⟨ng, _, none⟩) (.inr hBg) _
       have hR3 : (((W1.setCell ⟨ng, k * 9 + 3 + s * 3, none⟩ (.bool false)).setCell ⟨ng, k * 9 + 3 + s * 3 + 1, none⟩ (.int .u8 0)).setCell ⟨ng, k * 9 + 3 + s * 3 + 2, none⟩ (.int .i64 (n : Nat))).ownsRow B 195 9 (.slice (some ⟨ng, 0, none⟩) n nc) n (ncells (Hm.putBr nds k s { node := n })) := by
        rw [← hbr]; exact hst
       rw [← hdd] at hX hsd
       have HX : Aside (Hm.shapeTo (Hm.lnB L) o (2 * k + s + 1) = (Hm.putBr nds k s { node := n } ++ [{ depth := d + 1, num := 2 * (Hm.ndAt nds k).num + s }], b :: o.drop (p + 1)) ∧ (Hm.ndAt (Hm.putBr nds k s { node := n } ++ [{ depth := d + 1, num := 2 * (Hm.ndAt nds k).num + s }]) k).depth = d ∧ n = nds.length ∧ k < nds.length ∧ m = o.length - p ∧ b = o.getD p 0 ∧ lc = cp - p) := ⟨hX, hsd, hn, hkl, hm, hb, hlc⟩
       have hszW : (((W1.setCell ⟨ng, k * 9 + 3 + s * 3, none⟩ (.bool false)).setCell ⟨ng, k * 9 + 3 + s * 3 + 1, none⟩ (.int .u8 0)).setCell ⟨ng, k * 9 + 3 + s * 3 + 2, none⟩ (.int .i64 (n : Nat))).heap.size = W1.heap.size := by simp
       have HR : Aside _ := And.intro hR3 (And.intro hK3 hszW)
       have hn255 : n ≤ 255 := by omega
       obtain ⟨lb, hlbe⟩ : ∃ lb, lb = Hm.lnB L b := ⟨_, rfl⟩
       obtain ⟨bn, hbe⟩ : ∃ bn, bn = b.toNat := ⟨_, rfl⟩
       rw [← hlbe] at htest hcl hlb
       rw [← hbe] at hcl hcb hbn
       have hbnI : (bn : Int) < 256 := by omega
       clear hX hsl hsd hn hr hdd hkl hst hbr hlv2 how howr hkr hm hb hleaf hlbe hbe ho0 hlc hcpl hnc hR3 hK3 hszW
       go_wp2_with (at_builtin; refine wpList_append_mv _ rfl (.tmp 36) (.tmp 39) 93 rfl B 195 i0 _ 9 56 Tryz.underlying93 hi hz0 hz1 hz2 rfl (by decide) _ n (ncells (Hm.putBr nds k s { node := n })) rfl (by exact HR.out.1.alloc _) ⟨W1.heap.size, 0, none⟩ 1 1 (ndCells { depth := d + 1 }) rfl rfl ?c1 ?c2 ?c3 ?c4 ?c5 ?_)
       case c1 =>
        intro j u hj
        have hnw := heap_alloc_new (((W1.setCell ⟨ng, k * 9 + 3 + s * 3, none⟩ (.bool false)).setCell ⟨ng, k * 9 + 3 + s * 3 + 1, none⟩ (.int .u8 0)).setCell ⟨ng, k * 9 + 3 + s * 3 + 2, none⟩ (.int .i64 (n : Nat))) (.cells (ndCells { depth := d + 1 }).toArray 195)
        rw [HR.out.2.2] at hnw
        rw [Addr.add_lit, Nat.zero_add]
        exact (cell_of_row _ _ j _ _ _ hnw).trans (by rw [List.getElem?_toArray]; exact hj)
       case c2 => exact fun u hu => ncells_one [{ depth := d + 1 }] u (by simpa [ncells] using hu)
       case c3 => unfold maxLen; omega
       case c4 => omega
       case c5 => have h1 := HR.out.1.lt ng rfl; simp only [World.alloc, Array.size_push]; omega
       intro v4 w4 ho4 hg4 hm4
       have hk4 : Kept (fun j => B ≤ j) w2 w4 := (HR.out.2.1.alloc _).grown hg4 (fun j hj => .inr (by have e : ng = j := Option.some.inj hj; omega))
       have ho5 : w4.ownsRow B 195 9 v4 (n + 1) (ncells (Hm.putBr nds k s { node := n } ++ [{ depth := d + 1, num := 2 * (Hm.ndAt nds k).num + s }])) := by
        rw [ncells_append]; exact ho4
       obtain ⟨a4, c4, hv4, _⟩ := slice_shape ho5
       subst hv4
       have H4 : Aside _ := And.intro ho5 hk4
       clear ho4 hg4 hm4 ho5 hk4 HR
       go_wp2
       go_roundw
       case rel =>
        obtain ⟨e, ed, en, ekl, em, eb, elc⟩ := HX.out
        have e1 : (Hm.shapeTo (Hm.lnB L) o (2 * k + (s + 1))).1 = Hm.putBr nds k s { node := n } ++ [{ depth := d + 1, num := 2 * (Hm.ndAt nds k).num + s }] := by rw [← Nat.add_assoc, e]
        have e2 : (Hm.shapeTo (Hm.lnB L) o (2 * k + (s + 1))).2 = o.drop p := by rw [← Nat.add_assoc, e, eb, ← Hm.getD_drop_zero o p hpl]
        refine ⟨s + 1, p, n + 1, by omega, by go_num, by rw [e1, List.length_append, Hm.putBr_length, en]; rfl, by rw [e1]; exact H4.out.1, by omega, e2, ⟨_, _, by rw [em], fun h => ⟨rfl, elc⟩⟩, H4.out.2, by rw [e1, ed], by rw [e1, List.length_append, Hm.putBr_length]; omega⟩
       case measure => simp [intOf]; omega
     ·have hp0 : o.length - p = 0 := by omega
      rw [List.drop_eq_nil_of_le (by omega)] at hX
      have HX : Aside (Hm.shapeTo (Hm.lnB L) o (2 * k + s + 1) = (nds, []) ∧ n = nds.length ∧ W1.ownsRow B 195 9 (.slice (some ⟨ng, 0, none⟩) n nc) n (ncells nds) ∧ Kept (fun j => B ≤ j) w2 W1 ∧ d = (Hm.ndAt nds k).depth ∧ k < nds.length) := ⟨hX, hn, hr, hkr, hdd, hkl⟩
      rw [hp0]
      clear hX hsl hsd hn hr hdd hkl hlv2 hkr hnc
      go_wp2
      go_roundw
      case rel =>
       obtain ⟨e, q1, q2, q3, q4, q5⟩ := HX.out
       have e1 : (Hm.shapeTo (Hm.lnB L) o (2 * k + (s + 1))).1 = nds := by rw [← Nat.add_assoc, e]
       have e2 : (Hm.shapeTo (Hm.lnB L) o (2 * k + (s + 1))).2 = o.drop p := by rw [← Nat.add_assoc, e, List.drop_eq_nil_of_le (by omega)]
       exact ⟨s + 1, p, n, by omega, by go_num, by rw [e1]; exact q1, by rw [e1]; exact q2, hp, e2, ⟨la, lc, by rw [hp0], fun h => by omega⟩, q3, by rw [e1]; exact q4, by rw [e1]; exact q5⟩
      case measure => simp [intOf]; omega
    ·obtain rfl : s = 2 := by omega
     have hsI : decide (((2 : Nat) : Int) < 2) = false := by decide
     obtain ⟨la, lc, hlv1, hlv2⟩ := hlv
     subst hlv1
     obtain ⟨ng, nc, hnv, hnc, hngw⟩ := owns_some hr (by omega)
     subst hnv
     have HX : Aside (n = (Hm.shapeTo (Hm.lnB L) o (2 * (k + 1))).1.length ∧ W1.ownsRow B 195 9 (.slice (some ⟨ng, 0, none⟩) n nc) n (ncells (Hm.shapeTo (Hm.lnB L) o (2 * (k + 1))).1) ∧ p ≤ o.length ∧ (Hm.shapeTo (Hm.lnB L) o (2 * (k + 1))).2 = o.drop p ∧ LeftV o g cp (.slice la (o.length - p) lc) p ∧ Kept (fun j => B ≤ j) w2 W1) := ⟨hn, hr, hp, hlf, ⟨la, lc, rfl, hlv2⟩, hkr⟩
     clear hn hr hp hlf hlv2 hkr hdd hkl hnc
     go_wp2
     go_roundw
     case rel =>
      obtain ⟨q1, q2, q3, q4, q5, q6⟩ := HX.out
      exact ⟨k + 1, p, n, by omega, by go_num, q1, q2, q3, q4, q5, q6⟩
     case measure => simp [intOf]; omega
  ·obtain rfl : k = N := by omega
   have hnN : n = k := by rw [hn]; exact HE.out.len
   subst hnN
   obtain ⟨la, lc, hlv1, hlv2⟩ := hlv
   subst hlv1
   obtain ⟨na, nc, hnv, _⟩ := slice_shape hr
   subst hnv
   have hdec : decide ((n : Int) < (n : Int)) = false := decide_eq_false (by omega)
   have HX : Aside (wr.ownsRow w.heap.size 195 9 (.slice na n nc) n (ncells (Hm.shapeTo (Hm.lnB L) o (2 * n)).1) ∧ Kept (fun _ => False) w wr) :=
    ⟨owns_base hr (fun j hj => by have := hr.lt j hj; have := HB.out; omega), HW2.out.2.trans hkr (fun j h1 h2 => by have := HB.out; omega)⟩
   clear hn hr hp hlf hlv2 hkr
   go_wp2
   go_ret
   exact ⟨.slice na n nc, rfl, by rw [hO]; exact HX.out.1, HX.out.2⟩

end Go.Proofs.YtegnkfdbmmndaaaGreat
end

/- BuildT -/
section
/- The tree as a value: built of its parts. -/
namespace Go.Proofs.YtegnkfdbmmndaaaGreat
open Go.RowKit

theorem fold_place (vs : List Value) : ∀ (k : Nat) (A B C : List Value), B.length = vs.length → ((vs.zipIdx k).foldl (fun (cs : Array Value) (x : Value × Nat) => cs.setIfInBounds (A.length - k + x.2) x.1) (A ++ (B ++ C)).toArray) = (A ++ (vs ++ C)).toArray ∨ A.length < k := by
 induction vs with
 | nil =>
  intro k A B C h
  left
  have : B = [] := List.eq_nil_of_length_eq_zero h
  subst this; rfl
 | cons v r ih =>
  intro k A B C h
  by_cases hk : A.length < k
  ·exact .inr hk
  cases B with
  | nil => simp at h
  | cons b B =>
   left
   rw [List.zipIdx_cons, List.foldl_cons]
   have e0 : A.length - k + k = A.length := by omega
   have e1 : (A ++ (b :: B ++ C)).toArray.setIfInBounds (A.length - k + k) v = ((A ++ [v]) ++ (B ++ C)).toArray := by
    rw [e0]
    simp
   show List.foldl _ ((A ++ (b :: B ++ C)).toArray.setIfInBounds (A.length - k + k) v) _ = _
   rw [e1]
   have h2 := ih (k + 1) (A ++ [v]) B C (by simpa using h)
   rw [show (A ++ [v]).length - (k + 1) = A.length - k from by simp] at h2
   rcases h2 with h2 | h2
   ·rw [h2]; simp
   ·simp at h2; omega
theorem fill_step (place : Nat → Option (Nat × Nat)) (i off size : Nat) (v : Value) (rest : List (Nat × Value)) (A B C vs : List Value) (hp : place i = some (off, size)) (hv : v.cells = vs.toArray) (hl : vs.length = size) (hA : A.length = off) (hB : B.length = size) :
  Instr.fill place (A ++ (B ++ C)).toArray ((i, v) :: rest) = Instr.fill place (A ++ (vs ++ C)).toArray rest := by
 rw [Instr.fill, hp]
 simp only
 have hs : v.cells.size = size := by rw [hv]; simpa using hl
 rw [if_neg (by simp [hs, hA]; omega)]
 congr 1
 rw [hv]
 have h := fold_place vs 0 A B C (by omega)
 rcases h with h | h
 ·rw [Nat.sub_zero, hA] at h
  rw [← h, ← Array.foldl_toList]
  simp
 ·omega

def zeroTree : List Value := [.string ⟨#[]⟩, .int .i64 0, .slice none 0 0] ++ (pairs0 256 ++ (.slice none 0 0 :: (List.replicate 256 (.int .i64 0) ++ [.int .i64 0])))
theorem zero_tree : ((Tryz.prog.info? 96).bind (·.zero)) = some (.agg zeroTree.toArray) := by kernel_rfl
theorem places_tree : (Tryz.prog.underlying 96).bind (fun d => match d with | .struct fields => fields.toList.mapM (fun f => (Tryz.prog.info? f.type).map fun i => (f.offset, i.size)) | _ => none) = some [(0, 3), (3, 512), (515, 1), (516, 256), (772, 1)] := by kernel_rfl

theorem built_tree (s : ByteArray) (len g total : Nat) (T : List (Nat × Nat)) (a : Option Addr) (n c : Nat) (hT : T.length = 256) :
  Tryz.prog.built 96 [(0, .agg #[.string s, .int .i64 (len : Nat), .slice (some ⟨g, 0, none⟩) (s.size + 1) (s.size + 1)]), (1, .agg (tcells T).toArray), (2, .slice a n c), (4, .int .i64 (total : Nat))] = some (treeCells s len g T (.slice a n c) (List.replicate 256 0) total).toArray := by
 unfold Program.built
 have hz := zero_tree
 have hp := places_tree
 cases h1 : Tryz.prog.info? 96 with
 | none => rw [h1] at hz; cases hz
 | some it =>
  cases h2 : Tryz.prog.underlying 96 with
  | none => rw [h2] at hp; cases hp
  | some d =>
   rw [h1] at hz
   rw [h2] at hp
   have hz' : it.zero = some (.agg zeroTree.toArray) := hz
   cases d <;> try (cases hp; done)
   rename_i fields
   have hp' : fields.toList.mapM (fun f => (Tryz.prog.info? f.type).map fun i => (f.offset, i.size)) = some [(0, 3), (3, 512), (515, 1), (516, 256), (772, 1)] := hp
   simp only [hz', hp']
   have e0 : (Value.agg zeroTree.toArray).cells = zeroTree.toArray := rfl
   rw [e0]
   have hp0 : (pairs0 256).length = 512 := by rw [← tcells_zero, tcells_length, List.length_replicate]
   have hr0 : (List.replicate 256 (Value.int .i64 0)).length = 256 := List.length_replicate
   have htl : (tcells T).length = 512 := by rw [tcells_length, hT]
   have eL : [Value.string ⟨#[]⟩, .int .i64 0, .slice none 0 0] ++ (pairs0 256 ++ (.slice none 0 0 :: (List.replicate 256 (.int .i64 0) ++ [.int .i64 0]))) = zeroTree := rfl
   have eR : icells (List.replicate 256 0) = List.replicate 256 (Value.int .i64 0) := by unfold icells; rw [List.map_replicate]; rfl
   unfold treeCells
   rw [eR]
   generalize zeroTree = ZT at *
   generalize List.replicate 256 (Value.int .i64 0) = R at *
   generalize pairs0 256 = PZ at *
   generalize tcells T = TT at *
   have s1 := fill_step ([(0, 3), (3, 512), (515, 1), (516, 256), (772, 1)].toArray[·]?) 0 0 3 (.agg #[.string s, .int .i64 (len : Nat), .slice (some ⟨g, 0, none⟩) (s.size + 1) (s.size + 1)]) [(1, .agg TT.toArray), (2, .slice a n c), (4, .int .i64 (total : Nat))] [] [.string ⟨#[]⟩, .int .i64 0, .slice none 0 0] (PZ ++ (.slice none 0 0 :: (R ++ [.int .i64 0]))) [.string s, .int .i64 (len : Nat), .slice (some ⟨g, 0, none⟩) (s.size + 1) (s.size + 1)] rfl rfl rfl rfl rfl
   have s2 := fill_step ([(0, 3), (3, 512), (515, 1), (516, 256), (772, 1)].toArray[·]?) 1 3 512 (.agg TT.toArray) [(2, .slice a n c), (4, .int .i64 (total : Nat))] [.string s, .int .i64 (len : Nat), .slice (some ⟨g, 0, none⟩) (s.size + 1) (s.size + 1)] (PZ) (.slice none 0 0 :: (R ++ [.int .i64 0])) TT rfl rfl htl rfl hp0
   have s3 := fill_step ([(0, 3), (3, 512), (515, 1), (516, 256), (772, 1)].toArray[·]?) 2 515 1 (.slice a n c) [(4, .int .i64 (total : Nat))] ([.string s, .int .i64 (len : Nat), .slice (some ⟨g, 0, none⟩) (s.size + 1) (s.size + 1)] ++ TT) [.slice none 0 0] (R ++ [.int .i64 0]) [.slice a n c] rfl rfl rfl (by rw [List.length_append, htl]; rfl) rfl
   have s4 := fill_step ([(0, 3), (3, 512), (515, 1), (516, 256), (772, 1)].toArray[·]?) 4 772 1 (.int .i64 (total : Nat)) [] ([.string s, .int .i64 (len : Nat), .slice (some ⟨g, 0, none⟩) (s.size + 1) (s.size + 1)] ++ TT ++ [.slice a n c] ++ R) [.int .i64 0] [] [.int .i64 (total : Nat)] rfl rfl rfl (by simp only [List.length_append, htl, hr0]; rfl) rfl
   rw [List.nil_append, List.nil_append, eL] at s1
   rw [s1, s2]
   have e3 : [Value.string s, .int .i64 (len : Nat), .slice (some ⟨g, 0, none⟩) (s.size + 1) (s.size + 1)] ++ (TT ++ (.slice none 0 0 :: (R ++ [.int .i64 0]))) = ([Value.string s, .int .i64 (len : Nat), .slice (some ⟨g, 0, none⟩) (s.size + 1) (s.size + 1)] ++ TT) ++ ([.slice none 0 0] ++ (R ++ [.int .i64 0])) := by simp only [List.cons_append, List.nil_append]
   rw [e3, s3]
   have e4 : ([Value.string s, .int .i64 (len : Nat), .slice (some ⟨g, 0, none⟩) (s.size + 1) (s.size + 1)] ++ TT) ++ ([.slice a n c] ++ (R ++ [.int .i64 0])) = ([Value.string s, .int .i64 (len : Nat), .slice (some ⟨g, 0, none⟩) (s.size + 1) (s.size + 1)] ++ TT ++ [.slice a n c] ++ R) ++ ([.int .i64 0] ++ []) := by simp only [List.append_assoc, List.append_nil]
   rw [e4, s4]
   rw [Instr.fill]
   simp only [List.append_assoc, List.append_nil, List.cons_append, List.nil_append]
theorem run_load_op {P : Program} {ρ : Operand → Value} {o : Oper} (w : World) (ty : TypeId) (x : Operand) (ho : o.op = .load ty x) (g : Nat) (hx : ρ x = .pointer (some ⟨g, 0, none⟩)) (t : TypeId) (cs : Array Value) (fr : Nat × Nat) (d : TypeDesc) (hg : w.heap[g]? = some (.cells cs t fr))
  (hu : P.underlying ty = some d) (hd : (match d with | .struct _ | .array _ _ => true | _ => false) = true) (hi : (P.info? ty).map (·.size) = some cs.size) : (execOp ρ o).run P w = .ok (.value (.agg cs)) w := by
 unfold execOp
 simp only [ho, hx, Instr.loadAt, Instr.sureAddr, Sem.run_bind, Sem.run_pure, Result.andThen_ok, run_loadVar_row w g t ty cs fr d hg hu hd hi]
theorem run_build_op {P : Program} {ρ : Operand → Value} {o : Oper} (w : World) (t : TypeId) (parts : Array (Nat × Operand)) (ho : o.op = .build t parts) (cells : Array Value) (h : P.built t (parts.map fun (i, x) => (i, ρ x)).toList = some cells) : (execOp ρ o).run P w = .ok (.value (.agg cells)) w := by
 unfold execOp
 simp only [ho, Sem.run_bind, run_build w t _ cells h, Result.andThen_ok, Sem.run_pure]
theorem run_build4 {P : Program} {ρ : Operand → Value} {o : Oper} (w : World) (t : TypeId) (i0 i1 i2 i3 : Nat) (x0 x1 x2 x3 : Operand) (ho : o.op = .build t #[(i0, x0), (i1, x1), (i2, x2), (i3, x3)]) (v0 v1 v2 v3 : Value) (h0 : ρ x0 = v0) (h1 : ρ x1 = v1) (h2 : ρ x2 = v2) (h3 : ρ x3 = v3) (cells : Array Value) (h : P.built t [(i0, v0), (i1, v1), (i2, v2), (i3, v3)] = some cells) : (execOp ρ o).run P w = .ok (.value (.agg cells)) w := by
 refine run_build_op w t _ ho cells ?_
 simp only [List.map_toArray, List.map_cons, List.map_nil, h0, h1, h2, h3]
 exact h
/-- A whole array is stored into a block: a step of a region that draws its order. -/
theorem step_store_row {P : Program} (w : World) {ops : Array Oper} {op : Oper} {a : Act} {K : Act → World → Prop} {Q : Exit → Act → World → Prop} {E : Prop} (hgd : op.guard = none) (ty : TypeId) (x y : Operand) (ho : op.op = .store ty x y)
  (g : Nat) (t : TypeId) (old cells : Array Value) (hx : a.eval x = .pointer (some ⟨g, 0, none⟩)) (hy : a.eval y = .agg cells) (hg : w.heap[g]? = some (.cells old t (0, 0)))
  (hi : (P.info? ty).map (·.size) = some cells.size) (hs : old.size = cells.size) (h1 : cells.all (·.oneCell') = true)
  (h : ∀ w', w'.heap[g]? = some (.cells cells t (0, 0)) → Kept (fun j => j = g) w w' → K (a.put op.dst undef) w') : if Region.wanted op (yielded ops a.tmps) = true then Oper.wp P op a w K Q else E := by
 have hw : Region.wanted op (yielded ops a.tmps) = true := by simp [Region.wanted, hgd]
 rw [if_pos hw]
 unfold Oper.wp execOp
 simp only [ho, hx, hy, Instr.storeAt, Instr.sureAddr, Sem.run_bind, Sem.run_pure, Result.andThen_ok, run_storeVar_row w g t ty old cells hg hi hs h1]
 exact h _ (setRow_heap w g old cells t _ hg) ((Kept.refl (fun j => j = g) w).setRow (g := g) (.inr rfl) _)

theorem info_tree : (Tryz.prog.info? 96).map (·.size) = some 773 := by kernel_rfl
theorem treeCells_one (s : ByteArray) (len g total : Nat) (T : List (Nat × Nat)) (v : Value) (ws : List Nat) (hv : v.oneCell' = true) : (treeCells s len g T v ws total).toArray.all (·.oneCell') = true := by
 have h1 := tcells_one T
 have h2 := icells_one ws
 rw [Array.all_eq_true_iff_forall_mem] at *
 intro x hx
 have hx' : x ∈ treeCells s len g T v ws total := by simpa using hx
 unfold treeCells at hx'
 simp only [List.mem_append, List.mem_cons, List.not_mem_nil, or_false] at hx'
 rcases hx' with (rfl | rfl | rfl) | h | rfl | h | rfl
 ·rfl
 ·rfl
 ·rfl
 ·exact h1 x (by simpa using h)
 ·exact hv
 ·exact h2 x (by simpa using h)
 ·rfl

end Go.Proofs.YtegnkfdbmmndaaaGreat
end

/- TreeZ -/
section
/- The tree that nothing was read into. -/
namespace Go.Proofs.YtegnkfdbmmndaaaGreat
open Go.RowKit
theorem built_none : Tryz.prog.built 96 [] = some Tryz.zeroCells96 := by kernel_rfl
theorem zeroTree_size : Tryz.zeroCells96.size = 773 := by kernel_rfl
theorem zeroTree_one : Tryz.zeroCells96.all (·.oneCell') = true := by kernel_rfl
end Go.Proofs.YtegnkfdbmmndaaaGreat
end

/- TreeSt -/
section
/- The columns of the nodes and the row of bits, while the tree is made. -/
namespace Go.Proofs.YtegnkfdbmmndaaaGreat
open Go.RowKit

theorem owns_full {w : World} {base g n : Nat} {e : TypeId} {xs : List Value} (h : w.ownsRow base e 1 (.slice (some ⟨g, 0, none⟩) n n) n xs) : w.heap[g]? = some (.cells xs.toArray e (0, 0)) := by
 rcases h.2 with ⟨h1, _⟩ | ⟨g2, cap, cur, h1, _, hg, _, _, hs, ht⟩
 ·cases h1
 ·cases h1
  rw [hg]
  congr 2
  apply Array.ext'
  have e : cur.toList.take (n * 1) = cur.toList := List.take_of_length_le (by simp; omega)
  rw [← e, ht]
theorem getDv_set (l : List Value) (i j : Nat) (x : Value) (h : i < l.length) : (l.set i x).getD j undef = if i = j then x else l.getD j undef := by
 rw [List.getD_eq_getElem?_getD, List.getElem?_set]
 by_cases e : i = j
 ·rw [if_pos e, if_pos e, if_pos h]; rfl
 ·rw [if_neg e, if_neg e, ← List.getD_eq_getElem?_getD]

/-- The nodes' columns in memory: block gc has a row of bytes for each. -/
structure ColsAt (w : World) (gc : Nat) (vals : List Value) (cs : List (List UInt8)) : Prop where
 blk : w.heap[gc]? = some (.cells vals.toArray 79 (0, 0))
 len : vals.length = cs.length
 own : ∀ n, n < cs.length → w.ownsRow 0 5 1 (vals.getD n undef) (cs.getD n []).length (Hm.bcells (cs.getD n []))
 sep : ∀ n m k, 0 < n → n < cs.length → m < cs.length → (vals.getD n undef).ownBlock = some k → (vals.getD m undef).ownBlock = some k → n = m
 ne : ∀ n k, n < cs.length → (vals.getD n undef).ownBlock = some k → k ≠ gc

theorem ColsAt.kept {S : Nat → Prop} {w w' : World} {gc : Nat} {vals : List Value} {cs : List (List UInt8)} (h : ColsAt w gc vals cs) (hk : Kept S w w') (h1 : ¬ S gc) (h2 : ∀ n k, n < cs.length → (vals.getD n undef).ownBlock = some k → ¬ S k) : ColsAt w' gc vals cs :=
 ⟨hk.row h.blk h1, h.len, fun n hn => hk.owns (h.own n hn) (h2 n · hn), h.sep, h.ne⟩
theorem ColsAt.app {w w1 : World} {gc : Nat} {vals : List Value} {cs : List (List UInt8)} (h : ColsAt w gc vals cs) {n : Nat} (h0 : 0 < n) (hn : n < cs.length) {v' : Value} {l : List UInt8} (hk : Kept (fun j => (vals.getD n undef).ownBlock = some j) w w1) (ho : w1.ownsRow 0 5 1 v' l.length (Hm.bcells l)) (hmv : Moved w (vals.getD n undef) v') :
  ColsAt (w1.setCell ⟨gc, n, none⟩ v') gc (vals.set n v') (cs.set n l) := by
 have hgc : gc < w.heap.size := lt_of_block h.blk
 have hvl : n < vals.length := by rw [h.len]; exact hn
 have hb1 := hk.row h.blk (fun e => h.ne n gc hn e rfl)
 have hnb : ∀ k, v'.ownBlock = some k → k ≠ gc := fun k e => by
  rcases hmv k e with c | c
  ·exact h.ne n k hn c
  ·omega
 refine ⟨?_, by rw [List.length_set, List.length_set]; exact h.len, fun m hm => ?_, fun a b k ha h1 h2 e1 e2 => ?_, fun m k hm e => ?_⟩
 ·have := heap_setCell_same w1 gc n _ _ v' hb1
  rw [this]; simp
 ·rw [List.length_set] at hm
  rw [getDv_set _ _ _ _ hvl, Hm.getD_set_l _ _ _ _ hn]
  by_cases c : n = m
  ·rw [if_pos c, if_pos c]
   exact ownsRow_setCell_other ho (fun e => hnb gc e rfl) _
  ·rw [if_neg c, if_neg c]
   refine ownsRow_setCell_other (hk.owns (h.own m hm) (fun k e e2 => c (h.sep n m k h0 hn hm e2 e))) (fun e => h.ne m gc hm e rfl) _
 ·rw [List.length_set] at h1 h2
  rw [getDv_set _ _ _ _ hvl] at e1 e2
  by_cases c1 : n = a
  ·by_cases c2 : n = b
   ·omega
   ·rw [if_pos c1] at e1
    rw [if_neg c2] at e2
    rcases hmv k e1 with c | c
    ·have := h.sep n b k h0 hn h2 c e2; omega
    ·have := (h.own b h2).lt k e2; omega
  ·by_cases c2 : n = b
   ·rw [if_neg c1] at e1
    rw [if_pos c2] at e2
    rcases hmv k e2 with c | c
    ·have := h.sep a n k ha h1 hn e1 c; omega
    ·have := (h.own a h1).lt k e1; omega
   ·rw [if_neg c1] at e1
    rw [if_neg c2] at e2
    exact h.sep a b k ha h1 h2 e1 e2
 ·rw [List.length_set] at hm
  rw [getDv_set _ _ _ _ hvl] at e
  by_cases c : n = m
  ·rw [if_pos c] at e; exact hnb k e
  ·rw [if_neg c] at e; exact h.ne m k hm e

/-- The columns and the row of bits, and that they lie apart. -/
structure TSt (W0 wr : World) (gc b8 : Nat) (vals : List Value) (cs : List (List UInt8)) (v8 : Value) (bits : List Bool) : Prop where
 cols : ColsAt wr gc vals cs
 bat : BitsAt wr 221 b8 v8 bits
 kept : Kept (fun j => j = b8 ∨ j = gc) W0 wr
 new : ∀ n k, 0 < n → n < cs.length → (vals.getD n undef).ownBlock = some k → W0.heap.size ≤ k
 sepv : ∀ n k, n < cs.length → (vals.getD n undef).ownBlock = some k → v8.ownBlock ≠ some k
 row : ∀ k, v8.ownBlock = some k → W0.heap.size ≤ k
 zero : ∀ k, (vals.getD 0 undef).ownBlock = some k → k < W0.heap.size ∧ k ≠ b8
 gB : gc < W0.heap.size
 bB : b8 < W0.heap.size
 gb : gc ≠ b8
/-- A block that belongs to none of them. -/
def NotOwn (hb gc b8 : Nat) (vals : List Value) (v8 : Value) : Prop := (∀ n k, n < vals.length → (vals.getD n undef).ownBlock = some k → k ≠ hb) ∧ v8.ownBlock ≠ some hb ∧ hb ≠ gc ∧ hb ≠ b8

section
variable {W0 wr w2 : World} {gc b8 : Nat} {vals : List Value} {cs : List (List UInt8)} {v8 v' : Value} {bits bits' : List Bool} {hb : Nat}
theorem TSt.grew (h : TSt W0 wr gc b8 vals cs v8 bits) (hk : Kept (fun _ => False) wr w2) : TSt W0 w2 gc b8 vals cs v8 bits :=
 ⟨h.cols.kept hk id (fun _ _ _ _ => id), h.bat.kept hk id (fun _ _ => id), h.kept.trans hk (fun _ _ h => h.elim), h.new, h.sepv, h.row, h.zero, h.gB, h.bB, h.gb⟩
theorem TSt.add (h : TSt W0 wr gc b8 vals cs v8 bits) (hb : BitsAt w2 221 b8 v' bits') (hk : Kept (Bk b8 v8) wr w2) (hm : Moved wr v8 v') : TSt W0 w2 gc b8 vals cs v' bits' := by
 have hsz := h.kept.size
 refine ⟨h.cols.kept hk (fun e => ?_) (fun n k hn e e2 => ?_), hb, h.kept.trans hk (fun j hj e => ?_), h.new, fun n k hn e e2 => ?_, fun k e => ?_, h.zero, h.gB, h.bB, h.gb⟩
 ·rcases e with e | e
  ·exact h.gb e
  ·have := h.row gc e; have := h.gB; omega
 ·rcases e2 with e2 | e2
  ·subst e2
   by_cases c : n = 0
   ·subst c; exact (h.zero k e).2 rfl
   ·have := h.new n k (by omega) hn e; have := h.bB; omega
  ·exact h.sepv n k hn e e2
 ·rcases e with e | e
  ·exact .inl e
  ·have := h.row j e; omega
 ·rcases hm k e2 with c | c
  ·exact h.sepv n k hn e c
  ·have := (h.cols.own n hn).lt k e; omega
 ·rcases hm k e with c | c
  ·exact h.row k c
  ·omega
theorem TSt.app (h : TSt W0 wr gc b8 vals cs v8 bits) {n : Nat} (h0 : 0 < n) (hn : n < cs.length) {l : List UInt8} (hk : Kept (fun j => (vals.getD n undef).ownBlock = some j) wr w2) (ho : w2.ownsRow 0 5 1 v' l.length (Hm.bcells l)) (hmv : Moved wr (vals.getD n undef) v') :
  TSt W0 (w2.setCell ⟨gc, n, none⟩ v') gc b8 (vals.set n v') (cs.set n l) v8 bits := by
 have hsz := h.kept.size
 have hvl : n < vals.length := by rw [h.cols.len]; exact hn
 have hk2 : Kept (fun j => (vals.getD n undef).ownBlock = some j ∨ j = gc) wr (w2.setCell ⟨gc, n, none⟩ v') := (hk.wider (fun _ _ h => .inl h)).setCell (p := ⟨gc, n, none⟩) (.inr (.inr rfl)) _
 refine ⟨h.cols.app h0 hn hk ho hmv, h.bat.kept hk2 (fun e => ?_) (fun j hj e => ?_), h.kept.trans hk2 (fun j hj e => ?_), fun m k hm0 hm e => ?_, fun m k hm e e2 => ?_, h.row, fun k e => ?_, h.gB, h.bB, h.gb⟩
 ·rcases e with e | e
  ·have := h.new n b8 h0 hn e; have := h.bB; omega
  ·exact h.gb e.symm
 ·rcases e with e | e
  ·exact h.sepv n j hn e hj
  ·subst e; have := h.row j hj; have := h.gB; omega
 ·rcases e with e | e
  ·have := h.new n j h0 hn e; omega
  ·exact .inr e
 ·rw [List.length_set] at hm
  rw [getDv_set _ _ _ _ hvl] at e
  by_cases c : n = m
  ·rw [if_pos c] at e
   rcases hmv k e with d | d
   ·exact h.new n k h0 hn d
   ·omega
  ·rw [if_neg c] at e; exact h.new m k hm0 hm e
 ·rw [List.length_set] at hm
  rw [getDv_set _ _ _ _ hvl] at e
  by_cases c : n = m
  ·rw [if_pos c] at e
   rcases hmv k e with d | d
   ·exact h.sepv n k hn d e2
   ·have := (h.bat.own.lt k e2).2; omega
  ·rw [if_neg c] at e; exact h.sepv m k hm e e2
 ·rw [getDv_set _ _ _ _ hvl, if_neg (by omega)] at e
  exact h.zero k e
theorem NotOwn.add (h : NotOwn hb gc b8 vals v8) (hw : hb < wr.heap.size) (hm : Moved wr v8 v') : NotOwn hb gc b8 vals v' := by
 refine ⟨h.1, fun e => ?_, h.2.2⟩
 rcases hm hb e with c | c
 ·exact h.2.1 c
 ·omega
theorem NotOwn.app (h : NotOwn hb gc b8 vals v8) {n : Nat} (hn : n < vals.length) (hw : hb < wr.heap.size) (hm : Moved wr (vals.getD n undef) v') : NotOwn hb gc b8 (vals.set n v') v8 := by
 refine ⟨fun m k hl e => ?_, h.2⟩
 rw [List.length_set] at hl
 rw [getDv_set _ _ _ _ hn] at e
 by_cases c : n = m
 ·rw [if_pos c] at e
  rcases hm k e with d | d
  ·exact h.1 n k hn d
  ·omega
 ·rw [if_neg c] at e; exact h.1 m k hl e
theorem TSt.fresh (h : TSt W0 wr gc b8 vals cs v8 bits) : NotOwn wr.heap.size gc b8 vals v8 := by
 have := h.kept.size
 have h1 := h.gB; have h2 := h.bB
 refine ⟨fun n k hn e => ?_, fun e => ?_, by omega, by omega⟩
 ·have := (h.cols.own n (by rw [← h.cols.len]; exact hn)).lt k e; omega
 ·have := (h.bat.own.lt _ e).2; omega
end

end Go.Proofs.YtegnkfdbmmndaaaGreat
end

/- CodeBit -/
section
/- A bit of a code. -/
namespace Go.Proofs.YtegnkfdbmmndaaaGreat
open Go.RowKit

theorem and_bit_u64 (y : Nat) (hy : y < 4294967296) : Go.bits .and .u64 (y : Int) 1 = ((y % 2 : Nat) : Int) := by
 show IntKind.u64.wrap ((BitVec.ofInt 64 (y : Int) &&& BitVec.ofInt 64 1).toNat : Int) = _
 rw [BitVec.toNat_and, BitVec.ofInt_natCast, BitVec.toNat_ofNat, Nat.mod_eq_of_lt (by omega : y < 2 ^ 64), show (BitVec.ofInt 64 1).toNat = 1 from rfl, Nat.and_one_is_mod]
 have := Nat.mod_lt y (y := 2) (by omega)
 rw [IntKind.wrap_u64]; omega

set_option maxHeartbeats 400000 in
theorem codeBit_any (c l d : Nat) (w : World) (hc : c < 4294967296) (hl : l ≤ 32) (hd : d < l) :
  Calls Tryz.prog 151 #[.agg #[.int .u64 c, .int .i64 l], .int .i64 d] w fun e w' => e = .returned (.int .i64 ((c / 2 ^ (l - 1 - d) % 2 : Nat) : Int)) ∧ Kept (fun _ => False) w w' := by
 obtain ⟨n, hn⟩ : ∃ n, n = l - 1 - d := ⟨_, rfl⟩
 have zn : (l : Int) - 1 - (d : Int) = (n : Int) := by omega
 obtain ⟨y, hy, hsh, HY⟩ : ∃ y : Nat, y < 4294967296 ∧ (c : Int) / 2 ^ n = (y : Int) ∧ Hid (y = c / 2 ^ n) :=
  ⟨c / 2 ^ n, Nat.lt_of_le_of_lt (Nat.div_le_self _ _) hc, by simp, rfl⟩
 have hab := and_bit_u64 y (by omega)
 obtain ⟨z, hz⟩ : ∃ z, y % 2 = z := ⟨_, rfl⟩
 rw [hz] at hab
 have hz1 : z ≤ 1 := by omega
 have hn32 : n ≤ 32 := by omega
 have HZ : Aside (c / 2 ^ (l - 1 - d) % 2 = z) := by show _ = _; rw [← hn, ← HY.out]; exact hz
 have hk : Kept (fun _ => False) w (w.alloc (.cells #[.int .u64 (c : Nat), .int .i64 (l : Nat)] 90)) := (Kept.refl _ _).alloc _
 clear hn hz
 go_enter Tryz.func151, Tryz.ntmps151
 go_wp2
 go_ret
 exact ⟨by rw [HZ.out]; rfl, hk⟩

end Go.Proofs.YtegnkfdbmmndaaaGreat
end

/- MakeSamples -/
section
/- The row of the samples is made. -/
namespace Go.Proofs.YtegnkfdbmmndaaaGreat
open Go.RowKit

namespace Hm
def sampBits (ps : List Nat) (wd : Nat) : List Bool := (ps.filter fun p => decide (p % 8 = 0)).flatMap fun p => numBits (p / 8) wd
def samples (ps : List Nat) : List Bool := (ps.map fun p => decide (p % 8 = 0)) ++ sampBits ps (Lib.bitLen ((ps.length - 1) / 8))
theorem sampBits_take (ps : List Nat) (wd k : Nat) (h : k < ps.length) : sampBits (ps.take (k + 1)) wd = sampBits (ps.take k) wd ++ if ps[k] % 8 = 0 then numBits (ps[k] / 8) wd else [] := by
 rw [List.take_succ_eq_append_getElem h]; unfold sampBits; rw [List.filter_append, List.flatMap_append]; congr 1
 by_cases e : ps[k] % 8 = 0 <;> simp [e]
theorem sampBits_le (ps : List Nat) (wd : Nat) : (sampBits ps wd).length ≤ ps.length * wd := by
 unfold sampBits
 induction ps with
 | nil => simp
 | cons p r ih =>
  rw [List.filter_cons, List.length_cons, Nat.add_mul]
  split
  ·rw [List.flatMap_cons, List.length_append, numBits_length]; omega
  ·omega
end Hm

/-- What math/bits.Len does. -/
def LenSays : Prop := ∀ (x : Int) (W : World), 0 ≤ x → x ≤ 18446744073709551615 → Calls Tryz.prog 175 #[.int .u64 x] W fun e w' => e = .returned (.int .i64 (Lib.bitLen x.toNat : Nat)) ∧ W = w'

set_option maxHeartbeats 400000 in
theorem sampled_any (p : Nat) (w : World) (hp : p ≤ 1000000) : Calls Tryz.prog 154 #[.int .i64 p] w fun e w' => e = .returned (.bool (decide (p % 8 = 0))) ∧ w = w' := by
 by_cases h : p % 8 = 0
 ·have hb : ((p : Int) % 8 == 0) = true := by simp; omega
  go_enter Tryz.func154, Tryz.ntmps154
  go_wp2
  go_ret
  simp [h]
 ·have hb : ((p : Int) % 8 == 0) = false := by simp; omega
  go_enter Tryz.func154, Tryz.ntmps154
  go_wp2
  go_ret
  simp [h]

set_option maxHeartbeats 400000 in
theorem placeWidth_any (hL : LenSays) (n : Nat) (w : World) (hn : n ≤ 1000000) : Calls Tryz.prog 155 #[.int .i64 n] w fun e w' => e = .returned (.int .i64 (Lib.bitLen (n / 8) : Nat)) ∧ w = w' := by
 have hc := hL ((n / 8 : Nat) : Int) w (by omega) (by omega)
 rw [Int.toNat_natCast] at hc
 have e : ((n / 8 : Nat) : Int) = (n : Int) / 8 := by omega
 rw [e] at hc
 generalize Lib.bitLen (n / 8) = r at *
 go_enter Tryz.func155, Tryz.ntmps155
 go_wp2_with (go_at_call 175; refine hc.mono ?_; rintro e w2 ⟨rfl, rfl⟩)
 go_ret
 exact ⟨rfl, rfl⟩

theorem kept_four (w : World) (b : Nat) (x y z u : Value) : Kept (fun j => j = b) w ((((w.setCell ⟨b, 0, none⟩ x).setCell ⟨b, 1, none⟩ y).setCell ⟨b, 2, none⟩ z).setCell ⟨b, 3, none⟩ u) :=
 (kept_three w b x y z).setCell (p := ⟨b, 3, none⟩) (.inr rfl) u

set_option maxHeartbeats 1000000 in
theorem makeSamples_any (hones : OnesSays) (hLn : LenSays) (ao : Option Addr) (c : Nat) (ps : List Nat) (w : World) (hi : IntsAt w ao ps) (hm1 : 1 ≤ ps.length) (hm : ps.length ≤ 6001) (he : ∀ p ∈ ps, p ≤ 6000) :
  Calls Tryz.prog 100 #[.slice ao ps.length c] w fun e w' => ∃ g, w.heap.size ≤ g ∧ e = .returned (.agg #[.string ⟨(Hm.packBits (Hm.samples ps)).toArray⟩, .int .i64 ((Hm.samples ps).length : Nat), .slice (some ⟨g, 0, none⟩) ((Hm.packBits (Hm.samples ps)).length + 1) ((Hm.packBits (Hm.samples ps)).length + 1), .int .i64 ((ps.length - 1 : Nat) : Int)]) ∧
   IntRow w' g (Hm.counts (Hm.packBits (Hm.samples ps))) ∧ Kept (fun _ => False) w w' := by
 have HON : Aside _ := hones
 clear hones
 have HR : Hid (Hm.samples ps = (ps.map fun p => decide (p % 8 = 0)) ++ Hm.sampBits ps (Lib.bitLen ((ps.length - 1) / 8))) := rfl
 generalize Hm.samples ps = R at HR ⊢
 have hw10 : Lib.bitLen ((ps.length - 1) / 8) ≤ 10 := Lib.bitLen_le _ 10 (by omega) (by omega)
 obtain ⟨T, hT⟩ : ∃ T, T = ps.length - 1 := ⟨_, rfl⟩
 have zT : (ps.length : Int) - 1 = (T : Int) := by omega
 have hTl : T ≤ 6000 := by omega
 rw [← hT] at HR hw10 ⊢
 clear hT
 go_enter Tryz.func100, Tryz.ntmps100
 go_wp2
 go_loopw [12] (fun i wr => ∃ (k : Nat) (v' : Value), k ≤ ps.length ∧ i = .int .i64 k ∧ BitsAt wr 221 (w.heap.size + 1) v' ((ps.take k).map fun p => decide (p % 8 = 0)) ∧ Kept (fun j => w.heap.size + 1 ≤ j) ((w.alloc (.cells #[.string ⟨#[]⟩, .int .i64 0, .slice none 0 0, .int .i64 0] 100)).alloc (.cells #[.slice none 0 0, .int .i64 0] 221)) wr ∧ (∀ j, v'.ownBlock = some j → w.heap.size + 2 ≤ j)) (fun i _ => ps.length - (intOf i).toNat)
 case atStart => exact ⟨0, .slice none 0 0, Nat.zero_le _, rfl, by simpa using bits_new w _ _, Kept.refl _ _, fun j h => by cases h⟩
 case round =>
  obtain ⟨k, v', hk, rfl, hb, hkr, hmr⟩ := hrel
  have hkw : Kept (fun _ => False) w wr := (((Kept.refl (fun _ => False) w).alloc _).alloc _).trans hkr (fun j h1 h2 => by omega)
  by_cases hlt : k < ps.length
  ·obtain ⟨b, o, hao, hbw, hc1⟩ := (hi.kept hkw (fun a ha => id)) k hlt
   have hek := he ps[k] (List.getElem_mem _)
   have HT : Hid (((ps.take (k + 1)).map fun p => decide (p % 8 = 0)) = ((ps.take k).map fun p => decide (p % 8 = 0)) ++ [decide (ps[k] % 8 = 0)]) := by
    show _ = _
    rw [List.take_succ_eq_append_getElem hlt, List.map_append]; rfl
   generalize ps[k] = x at *
   have hcs := sampled_any x wr (by omega)
   by_cases hx8 : x % 8 = 0
   ·have hcon := add_any 221 (w.heap.size + 1) v' _ 1 wr hb (by simp; omega) (by omega)
    rw [show decide (1 = 1) = decide (x % 8 = 0) from by simp [hx8]] at hcon
    rw [show decide (x % 8 = 0) = true from by simp [hx8]] at hcs
    rw [hao]
    clear hao hi hb he hx8
    go_wp2_with (first | (go_at_call 154; refine hcs.mono ?_; rintro e w2 ⟨rfl, rfl⟩) | (go_at_call 152; refine hcon.mono ?_; rintro e w2 ⟨v2, rfl, hb2, hk2, hm2⟩))
    go_roundw
    case rel =>
     refine ⟨k + 1, v2, by omega, by go_num, by rw [HT.out]; exact hb2, hkr.trans hk2 (fun j h1 h2 => ?_), fun j h => ?_⟩
     ·rcases h2 with h2 | h2
      ·omega
      ·have := hmr j h2; omega
     ·rcases hm2 j h with h2 | h2
      ·exact hmr j h2
      ·have := hkr.size; simp at this; omega
    case measure => simp [intOf]; omega
   ·have hcon := add_any 221 (w.heap.size + 1) v' _ 0 wr hb (by simp; omega) (by omega)
    rw [show decide (0 = 1) = decide (x % 8 = 0) from by simp [hx8]] at hcon
    rw [show decide (x % 8 = 0) = false from by simp [hx8]] at hcs
    rw [hao]
    clear hao hi hb he hx8
    go_wp2_with (first | (go_at_call 154; refine hcs.mono ?_; rintro e w2 ⟨rfl, rfl⟩) | (go_at_call 152; refine hcon.mono ?_; rintro e w2 ⟨v2, rfl, hb2, hk2, hm2⟩))
    go_roundw
    case rel =>
     refine ⟨k + 1, v2, by omega, by go_num, by rw [HT.out]; exact hb2, hkr.trans hk2 (fun j h1 h2 => ?_), fun j h => ?_⟩
     ·rcases h2 with h2 | h2
      ·omega
      ·have := hmr j h2; omega
     ·rcases hm2 j h with h2 | h2
      ·exact hmr j h2
      ·have := hkr.size; simp at this; omega
    case measure => simp [intOf]; omega
  ·obtain rfl : k = ps.length := by omega
   rw [List.take_length] at hb
   have hpw := placeWidth_any hLn T wr (by omega)
   generalize Lib.bitLen (T / 8) = L at *
   generalize hB : (ps.map fun p => decide (p % 8 = 0)) = B at *
   have hBl : B.length = ps.length := by rw [← hB]; simp
   have HBl : Hid (B.length = ps.length) := hBl
   have hBle : B.length ≤ 6001 := by omega
   have HB0 : Hid (BitsAt wr 221 (w.heap.size + 1) v' B) := hb
   have HI : Hid (IntsAt w ao ps) := hi
   clear hi hb hlt hk hB hBl
   go_wp2_with (go_at_call 155; refine hpw.mono ?_; rintro e w2 ⟨rfl, rfl⟩)
   clear hpw
   go_loopw [28] (fun i wr => ∃ (k : Nat) (v' : Value), k ≤ ps.length ∧ i = .int .i64 k ∧ BitsAt wr 221 (w.heap.size + 1) v' (B ++ Hm.sampBits (ps.take k) L) ∧ Kept (fun j => w.heap.size + 1 ≤ j) ((w.alloc (.cells #[.string ⟨#[]⟩, .int .i64 0, .slice none 0 0, .int .i64 0] 100)).alloc (.cells #[.slice none 0 0, .int .i64 0] 221)) wr ∧ (∀ j, v'.ownBlock = some j → w.heap.size + 2 ≤ j)) (fun i _ => ps.length - (intOf i).toNat)
   case atStart => exact ⟨0, v', Nat.zero_le _, rfl, by simpa [Hm.sampBits] using HB0.out, hkr, hmr⟩
   case round =>
    clear hkr hmr hkw HB0
    obtain ⟨k, v3, hk, rfl, hb, hkr, hmr⟩ := hrel
    have hkw : Kept (fun _ => False) w wr := (((Kept.refl (fun _ => False) w).alloc _).alloc _).trans hkr (fun j h1 h2 => by omega)
    by_cases hlt : k < ps.length
    ·obtain ⟨b, o, hao, hbw, hc1⟩ := (HI.out.kept hkw (fun a ha => id)) k hlt
     have hek := he ps[k] (List.getElem_mem _)
     have HT : Hid (Hm.sampBits (ps.take (k + 1)) L = Hm.sampBits (ps.take k) L ++ if ps[k] % 8 = 0 then Hm.numBits (ps[k] / 8) L else []) := Hm.sampBits_take ps L k hlt
     have hsl : (B ++ Hm.sampBits (ps.take k) L).length ≤ 70000 := by
      have h1 := Hm.sampBits_le (ps.take k) L
      have h2 : (ps.take k).length * L ≤ 6001 * 10 := Nat.mul_le_mul (by simp; omega) hw10
      simp only [List.length_append]; omega
     generalize ps[k] = x at *
     have hcs := sampled_any x wr (by omega)
     by_cases hx8 : x % 8 = 0
     ·rw [show decide (x % 8 = 0) = true from by simp [hx8]] at hcs
      have hcon := addNum_any 221 (w.heap.size + 1) v3 _ (x / 8) L wr hb (by omega) (by omega) (by omega)
      rw [show ((x / 8 : Nat) : Int) = (x : Int) / 8 from by omega] at hcon
      have HT2 : Hid (Hm.sampBits (ps.take (k + 1)) L = Hm.sampBits (ps.take k) L ++ Hm.numBits (x / 8) L) := by
       show _ = _
       rw [HT.out, if_pos hx8]
      rw [hao]
      clear hao hb he hx8 HT
      go_wp2_with (first | (go_at_call 154; refine hcs.mono ?_; rintro e w2 ⟨rfl, rfl⟩) | (go_at_call 142; refine hcon.mono ?_; rintro e w2 ⟨v2, rfl, hb2, hk2, hm2⟩))
      go_roundw
      case rel =>
       refine ⟨k + 1, v2, by omega, by go_num, by rw [HT2.out, ← List.append_assoc]; exact hb2, hkr.trans hk2 (fun j h1 h2 => ?_), fun j h => ?_⟩
       ·rcases h2 with h2 | h2
        ·omega
        ·have := hmr j h2; omega
       ·rcases hm2 j h with h2 | h2
        ·exact hmr j h2
        ·have := hkr.size; simp at this; omega
      case measure => simp [intOf]; omega
     ·rw [show decide (x % 8 = 0) = false from by simp [hx8]] at hcs
      have HT2 : Hid (Hm.sampBits (ps.take (k + 1)) L = Hm.sampBits (ps.take k) L) := by
       show _ = _
       rw [HT.out, if_neg hx8, List.append_nil]
      rw [hao]
      clear hao he hx8 HT
      go_wp2_with (first | (go_at_call 154; refine hcs.mono ?_; rintro e w2 ⟨rfl, rfl⟩))
      go_roundw
      case rel =>
       exact ⟨k + 1, v3, by omega, by go_num, by rw [HT2.out]; exact hb, hkr, hmr⟩
      case measure => simp [intOf]; omega
    ·obtain rfl : k = ps.length := by omega
     rw [List.take_length, ← HR.out] at hb
     have hrow := row_any 221 (w.heap.size + 1) v3 R wr hb
     have hpl : (⟨(Hm.packBits R).toArray⟩ : ByteArray).size = (Hm.packBits R).length := by show (Hm.packBits R).toArray.size = _; simp
     have hRl : R.length ≤ 100000 := by
      rw [HR.out]
      have h1 := Hm.sampBits_le ps L
      have h2 : ps.length * L ≤ 6001 * 10 := Nat.mul_le_mul hm hw10
      simp only [List.length_append]; omega
     have hpl2 := Hm.packBits_length R
     have hcnt := fun W => count_any HON.out ⟨(Hm.packBits R).toArray⟩ R.length W (by rw [hpl, hpl2]; omega)
     have e3 : (⟨(Hm.packBits R).toArray⟩ : ByteArray).data.toList = Hm.packBits R := rfl
     rw [e3, hpl] at hcnt
     have hr0 : wr.heap[w.heap.size]? = some (.cells #[.string ⟨#[]⟩, .int .i64 0, .slice none 0 0, .int .i64 0] 100 (0, 0)) := hkr.row (heap_alloc2_old w _ _) (by omega)
     have HX : Aside (wr.heap[w.heap.size]? = some (.cells #[.string ⟨#[]⟩, .int .i64 0, .slice none 0 0, .int .i64 0] 100 (0, 0)) ∧ Kept (fun _ => False) w wr) := ⟨hr0, hkw⟩
     have hws : w.heap.size < wr.heap.size := lt_of_block hr0
     have HC : Aside _ := hcnt
     obtain ⟨s, hS⟩ : ∃ s, s = (⟨(Hm.packBits R).toArray⟩ : ByteArray) := ⟨_, rfl⟩
     obtain ⟨P, hP⟩ : ∃ P, P = Hm.packBits R := ⟨_, rfl⟩
     have HSP : Aside (s = (⟨(Hm.packBits R).toArray⟩ : ByteArray) ∧ P = Hm.packBits R) := ⟨hS, hP⟩
     have HC2 := HC.out
     rw [← hS, ← hP] at HC2
     rw [← hS] at hrow
     have HC3 : Aside _ := HC2
     clear HC2 HC hS hP hpl
     clear hb he HR hr0 hkw hkr hpl2 e3 hcnt hRl
     go_wp2_with fail
     refine hrow.mono ?_
     rintro e w5 ⟨rfl, hk5⟩
     have hcnt := HC3.out w5
     clear hrow HC3
     go_wp2_with fail
     refine hcnt.mono ?_
     rintro e w6 ⟨g, hg, rfl, hir, hk6⟩
     have hk56 : Kept (fun _ => False) wr w6 := hk5.trans hk6 (fun _ _ h => h)
     have hr6 := hk56.row HX.out.1 id
     have p0 : w6.cell? ⟨w.heap.size, 0, none⟩ = some (.string ⟨#[]⟩) := cell_of_row _ _ 0 _ _ _ hr6
     have p1 : w6.cell? ⟨w.heap.size, 1, none⟩ = some (.int .i64 0) := cell_of_row _ _ 1 _ _ _ hr6
     have p2 : w6.cell? ⟨w.heap.size, 2, none⟩ = some (.slice none 0 0) := cell_of_row _ _ 2 _ _ _ hr6
     have f0 : w6.frozen? ⟨w.heap.size, 0, none⟩ = false := frozen_of_row _ _ 0 _ _ hr6
     have f1 : w6.frozen? ⟨w.heap.size, 1, none⟩ = false := frozen_of_row _ _ 1 _ _ hr6
     have f2 : w6.frozen? ⟨w.heap.size, 2, none⟩ = false := frozen_of_row _ _ 2 _ _ hr6
     have p3 : w6.cell? ⟨w.heap.size, 3, none⟩ = some (.int .i64 0) := cell_of_row _ _ 3 _ _ _ hr6
     have f3 : w6.frozen? ⟨w.heap.size, 3, none⟩ = false := frozen_of_row _ _ 3 _ _ hr6
     have HZ : Aside (w6.heap[w.heap.size]? = some (.cells #[.string ⟨#[]⟩, .int .i64 0, .slice none 0 0, .int .i64 0] 100 (0, 0)) ∧ Kept (fun _ => False) w w6 ∧ IntRow w6 g (Hm.counts P) ∧ w.heap.size < g) := ⟨hr6, HX.out.2.trans hk56 (fun _ _ h => h), hir, by have := hk5.size; omega⟩
     clear hcnt hk5 hk6 hk56 hr6 hir hg HX
     go_wp2
     obtain ⟨hr6, hkw, hir, hgw⟩ := HZ.out
     have h2 := heap_setCell_same _ _ 3 _ _ (.int .i64 (T : Nat)) (heap_setCell_same _ _ 2 _ _ (.slice (some ⟨g, 0, none⟩) (P.length + 1) (P.length + 1)) (heap_setCell_same _ _ 1 _ _ (.int .i64 (R.length : Nat)) (heap_setCell_same _ _ 0 _ _ (.string s) hr6)))
     refine bodyPost_ret (v := .agg #[.string s, .int .i64 (R.length : Nat), .slice (some ⟨g, 0, none⟩) (P.length + 1) (P.length + 1), .int .i64 (T : Nat)]) (results_cell_row Tryz.results100 _ _ w.heap.size 100 _ (0, 0) _ rfl h2 Tryz.underlying100 rfl (by kernel_rfl)) rfl ⟨g, by omega, by rw [HSP.out.1, HSP.out.2], ?_, ?_⟩
     ·rw [← HSP.out.2]
      exact hir.kept (kept_four w6 w.heap.size _ _ _ _) (fun e => by omega)
     ·exact hkw.trans (kept_four w6 w.heap.size _ _ _ _) (fun j h1 h2 => by omega)

end Go.Proofs.YtegnkfdbmmndaaaGreat
end
