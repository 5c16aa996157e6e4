import Derived.Test.YtegnkfdbmmndaaaGreatJ07
import Derived.Test.YtegnkfdbmmndaaaGreatJ04
import Derived.Test.YtegnkfdbmmndaaaGreatJ05
import Derived.Test.YtegnkfdbmmndaaaGreatJ03
import Derived.Deep.LoopGhost
import Derived.Laws.Tables

/- LoadH -/
section
/- Ends are read from the front of some bytes. -/
namespace Go.Proofs.YtegnkfdbmmndaaaGreat
open Go.RowKit

theorem results_row_and {P : Program} {fn : Func} {p u : Tmp} {ty : TypeId} (h : fn.results = #[.cell p ty, .tmp u]) (tmps : Array Value) (w : World) (g : Nat) (t : TypeId) (cs : Array Value) (fr : Nat × Nat) (d : TypeDesc)
  (hp : tmps.getD p undef = .pointer (some ⟨g, 0, none⟩)) (hg : w.heap[g]? = some (.cells cs t fr))
  (hu : P.underlying ty = some d) (hd : (match d with | .struct _ | .array _ _ => true | _ => false) = true) (hi : (P.info? ty).map (·.size) = some cs.size) :
  (results fn tmps).run P w = .ok (.tuple #[.agg cs, tmps.getD u undef]) w := by
 have hp' : tmps[p]?.getD undef = .pointer (some ⟨g, 0, none⟩) := by simpa using hp
 simp [results, h, hp', asAddr, run_loadVar_row w g t ty cs fr d hg hu hd hi]

namespace Hm
/-- How many bits ends have, and bytes. -/
def endsLen (m n : Nat) : Nat := m * lowR m n + (m + n / 2 ^ lowR m n + 1)
def szB (k : Nat) : Nat := (k + 7) / 8
/-- Ends can be read. -/
structure EndsOk (l : List UInt8) (m n : Nat) : Prop where
 fits : szB (endsLen m n) ≤ l.length
 cover : Cover (bitB (l.take (szB (endsLen m n)))) (endsLen m n) m (lowR m n) n
end Hm
/-- What is read of ends, as cells. -/
def endsCells (l : List UInt8) (m n g : Nat) : List Value := [.string ⟨(l.take (Hm.szB (Hm.endsLen m n))).toArray⟩, .int .i64 (Hm.endsLen m n : Nat), .slice (some ⟨g, 0, none⟩) (Hm.szB (Hm.endsLen m n) + 1) (Hm.szB (Hm.endsLen m n) + 1), .int .i64 (m : Nat), .int .i64 (Hm.lowR m n : Nat)]
def endsNone : List Value := [.string ⟨#[]⟩, .int .i64 0, .slice none 0 0, .int .i64 0, .int .i64 0]

set_option maxHeartbeats 2000000 in
theorem readEnds_any (hones : OnesSays) (l : List UInt8) (m n : Nat) (w : World) (hm : m ≤ 255) (hn : n ≤ 65535) (hll : l.length ≤ 4611686018427387904) :
  Calls Tryz.prog 117 #[.string ⟨l.toArray⟩, .int .i64 m, .int .i64 n] w fun e w' => Kept (fun _ => False) w w' ∧
   ((Hm.EndsOk l m n ∧ ∃ g, w.heap.size ≤ g ∧ e = .returned (.tuple #[.agg (endsCells l m n g).toArray, .bool true]) ∧ IntRow w' g (Hm.counts (l.take (Hm.szB (Hm.endsLen m n))))) ∨
    (¬ Hm.EndsOk l m n ∧ e = .returned (.tuple #[.agg endsNone.toArray, .bool false]))) := by
 have hlr := Hm.lowR_le m n hn
 have hlw := fun W => lowWide_any m n W (by omega) hn
 have hhl := fun W => highLength_any m n (Hm.lowR m n) W (by omega) (by omega) (by omega)
 have hml : m * Hm.lowR m n ≤ 255 * 16 := Nat.mul_le_mul hm hlr
 have hdv := Nat.div_le_self n (2 ^ Hm.lowR m n)
 have HEL : Hid (Hm.endsLen m n = m * Hm.lowR m n + (m + n / 2 ^ Hm.lowR m n + 1)) := rfl
 have hel : Hm.endsLen m n ≤ 70000 := by rw [HEL.out]; omega
 have hpos : 1 ≤ Hm.endsLen m n := by rw [HEL.out]; exact Nat.le_trans (Nat.le_add_left 1 _) (Nat.le_add_left _ _)
 have hsz := fun W => size_any (Hm.endsLen m n) W (by omega)
 obtain ⟨S, hS⟩ : ∃ S, S = (⟨l.toArray⟩ : ByteArray) := ⟨_, rfl⟩
 have hz : S.size = l.length := by rw [hS]; show l.toArray.size = _; simp
 have HZ : Hid (Hm.szB (Hm.endsLen m n) = (Hm.endsLen m n + 7) / 8) := rfl
 rw [← HZ.out] at hsz
 have hzb : Hm.szB (Hm.endsLen m n) ≤ 10000 := by rw [HZ.out]; omega
 have hw1 : IntKind.i64.wrap ((m : Int) * (Hm.lowR m n : Int)) = ((m * Hm.lowR m n : Nat) : Int) := by rw [IntKind.wrap_i64, ← Int.natCast_mul]; omega
 have hw2 : wrap64 ((m : Int) * (Hm.lowR m n : Int)) = ((m * Hm.lowR m n : Nat) : Int) := by rw [← Int.natCast_mul]; unfold wrap64; omega
 have hadd : ((m * Hm.lowR m n : Nat) : Int) + ((m + n / 2 ^ Hm.lowR m n + 1 : Nat) : Int) = (Hm.endsLen m n : Int) := by rw [HEL.out]; omega
 obtain ⟨ml, hmle⟩ : ∃ x, x = m * Hm.lowR m n := ⟨_, rfl⟩
 obtain ⟨hh, hhe⟩ : ∃ x, x = m + n / 2 ^ Hm.lowR m n + 1 := ⟨_, rfl⟩
 rw [← hmle] at hw1 hw2 hadd hml
 rw [← hhe] at hhl hadd
 have hhb : hh ≤ 70000 := by omega
 by_cases hfit : Hm.szB (Hm.endsLen m n) ≤ l.length
 ·have hrd := fun W => readBits_any l (Hm.endsLen m n) W hfit (by omega) hll
  rw [← HZ.out, ← hS] at hrd
  obtain ⟨T, hT⟩ : ∃ T, T = (⟨(l.take (Hm.szB (Hm.endsLen m n))).toArray⟩ : ByteArray) := ⟨_, rfl⟩
  have hTl : T.data.toList = l.take (Hm.szB (Hm.endsLen m n)) := by rw [hT]
  have hTz : T.size = Hm.szB (Hm.endsLen m n) := by rw [hT]; show (l.take _).toArray.size = _; simp; omega
  rw [← hT] at hrd
  have hcn := fun W => count_any hones T (Hm.endsLen m n) W (by omega)
  rw [hTz, hTl] at hcn
  have HCV : Hid (∀ W pb g, EndsAt W pb 0 T (Hm.endsLen m n) g m (Hm.lowR m n) → Calls Tryz.prog 168 #[.pointer (some ⟨pb, 0, none⟩), .int .i64 n] W fun e w' => ∃ b, e = .returned (.bool b) ∧ (b = true ↔ Hm.Cover (Hm.bitB (l.take (Hm.szB (Hm.endsLen m n)))) (Hm.endsLen m n) m (Hm.lowR m n) n) ∧ Kept (fun _ => False) W w') := fun W pb g h => by
   have hh := cover_any hones pb 0 (Hm.endsLen m n) g m (Hm.lowR m n) n T W h (by omega) (by omega) (by rw [HEL.out]; omega) (by rw [hTz, HZ.out]; omega) (by omega)
   rwa [hTl] at hh
  have HOK : Hid (Hm.EndsOk l m n ↔ Hm.Cover (Hm.bitB (l.take (Hm.szB (Hm.endsLen m n)))) (Hm.endsLen m n) m (Hm.lowR m n) n) := ⟨fun h => h.cover, fun h => ⟨hfit, h⟩⟩
  have HCE : Hid (∀ g, endsCells l m n g = [.string T, .int .i64 (Hm.endsLen m n : Nat), .slice (some ⟨g, 0, none⟩) (Hm.szB (Hm.endsLen m n) + 1) (Hm.szB (Hm.endsLen m n) + 1), .int .i64 (m : Nat), .int .i64 (Hm.lowR m n : Nat)]) := fun g => by rw [hT]; rfl
  have HCT : Hid (∀ g W, IntRow W g (Hm.counts (l.take (Hm.szB (Hm.endsLen m n)))) → IntRow W g (Hm.counts T.data.toList)) := fun g W h => by rw [hTl]; exact h
  rw [← hS]
  have HTZ : Hid (T.size = Hm.szB (Hm.endsLen m n)) := hTz
  obtain ⟨cn, hcne⟩ : ∃ c, c = Hm.counts (l.take (Hm.szB (Hm.endsLen m n))) := ⟨_, rfl⟩
  rw [← hcne] at hcn HCT ⊢
  obtain ⟨q, hq⟩ : ∃ x, x = Hm.szB (Hm.endsLen m n) := ⟨_, rfl⟩
  rw [← hq] at hsz hfit hzb hcn HCE HTZ HCV HOK
  obtain ⟨el, hele⟩ : ∃ x, x = Hm.endsLen m n := ⟨_, rfl⟩
  rw [← hele] at hsz hadd hel hcn hrd HCE HCV HOK
  obtain ⟨lw, hlwe⟩ : ∃ x, x = Hm.lowR m n := ⟨_, rfl⟩
  rw [← hlwe] at hlw hhl hw1 hw2 HCE HCV HOK
  have hgt : decide (l.length < q) = false := decide_eq_false (by omega)
  clear hS HEL hpos HZ hmle hhe hq hele hlwe hdv hlr hT hTl hTz hcne
  go_enter Tryz.func117, Tryz.ntmps117
  go_wp2_with fail
  refine (hlw _).mono ?_
  rintro e w1 ⟨rfl, hw⟩
  subst hw
  clear hlw
  go_wp2_with fail
  refine (hhl _).mono ?_
  rintro e w1 ⟨rfl, rfl⟩
  clear hhl
  go_wp2_with fail
  refine (hsz _).mono ?_
  rintro e w1 ⟨rfl, rfl⟩
  clear hsz
  go_wp2_with fail
  refine (hrd _).mono ?_
  rintro e w2 ⟨rfl, hk2⟩
  clear hrd
  go_wp2_with fail
  refine (hcn _).mono ?_
  rintro e w3 ⟨g, hg, rfl, hir, hk3⟩
  clear hcn
  have hk13 := hk2.trans hk3 (fun _ _ h => h)
  have hbx := hk13.row (heap_alloc_new w (.cells #[.string ⟨#[]⟩, .int .i64 0, .slice none 0 0, .int .i64 0, .int .i64 0] 87)) id
  have hkw : Kept (fun _ => False) w w3 := ((Kept.refl (fun _ => False) w).alloc _).trans hk13 (fun _ _ h => h)
  have hgl := hir.lt
  have hsz3 : w.heap.size < w3.heap.size := lt_of_block hbx
  have hwg : w.heap.size < g := by have := hk2.size; simp at this; omega
  obtain ⟨B, hB⟩ : ∃ B, B = w3.heap.size := ⟨_, rfl⟩
  obtain ⟨W3, hW3⟩ : ∃ W3, W3 = w3.alloc (.cells #[.string T, .int .i64 (el : Nat), .slice (some ⟨g, 0, none⟩) (q + 1) (q + 1), .int .i64 (m : Nat), .int .i64 (lw : Nat)] 87) := ⟨_, rfl⟩
  have hbe : W3.heap[B]? = some (.cells #[.string T, .int .i64 (el : Nat), .slice (some ⟨g, 0, none⟩) (q + 1) (q + 1), .int .i64 (m : Nat), .int .i64 (lw : Nat)] 87 (0, 0)) := by rw [hW3, hB]; exact heap_alloc_new w3 _
  have hk3W : Kept (fun _ => False) w3 W3 := by rw [hW3]; exact (Kept.refl _ _).alloc _
  have hE : EndsAt W3 B 0 T el g m lw := ⟨⟨cell_of_row _ _ 0 _ _ _ hbe, cell_of_row _ _ 1 _ _ _ hbe, by rw [HTZ.out]; exact cell_of_row _ _ 2 _ _ _ hbe, HCT.out _ _ (hir.kept hk3W id)⟩, cell_of_row _ _ 3 _ _ _ hbe, cell_of_row _ _ 4 _ _ _ hbe⟩
  have hcv := HCV.out W3 B g hE
  have H3 : Hid (W3.heap[w.heap.size]? = some (.cells #[.string ⟨#[]⟩, .int .i64 0, .slice none 0 0, .int .i64 0, .int .i64 0] 87 (0, 0)) ∧ W3.heap[B]? = some (.cells #[.string T, .int .i64 (el : Nat), .slice (some ⟨g, 0, none⟩) (q + 1) (q + 1), .int .i64 (m : Nat), .int .i64 (lw : Nat)] 87 (0, 0)) ∧ Kept (fun _ => False) w W3 ∧ IntRow W3 g cn ∧ w.heap.size < B ∧ w.heap.size < g) :=
   ⟨hk3W.row hbx id, hbe, hkw.trans hk3W (fun _ _ h => h), hir.kept hk3W id, by rw [hB]; exact hsz3, hwg⟩
  have HW3 : Hid (w3.alloc (.cells #[.string T, .int .i64 (el : Nat), .slice (some ⟨g, 0, none⟩) (q + 1) (q + 1), .int .i64 (m : Nat), .int .i64 (lw : Nat)] 87) = W3 ∧ w3.heap.size = B) := ⟨hW3.symm, hB.symm⟩
  clear hk2 hk3 hk13 hbx hkw hgl hsz3 hwg hir hbe hk3W hE hW3 hB HCV HCT hg
  go_upto_region 6 with fail
  rw [HW3.out.1, HW3.out.2]
  clear HW3
  go_wp2_with fail
  refine hcv.mono ?_
  rintro e w4 ⟨b, rfl, hb, hk4⟩
  clear hcv
  have hx4 := hk4.row H3.out.1 id
  have hy4 := hk4.row H3.out.2.1 id
  have p0 : w4.cell? ⟨B, 0, none⟩ = some (.string T) := cell_of_row _ _ 0 _ _ _ hy4
  have p1 : w4.cell? ⟨B, 1, none⟩ = some (.int .i64 (el : Nat)) := cell_of_row _ _ 1 _ _ _ hy4
  have p2 : w4.cell? ⟨B, 2, none⟩ = some (.slice (some ⟨g, 0, none⟩) (q + 1) (q + 1)) := cell_of_row _ _ 2 _ _ _ hy4
  have p3 : w4.cell? ⟨B, 3, none⟩ = some (.int .i64 (m : Nat)) := cell_of_row _ _ 3 _ _ _ hy4
  have p4 : w4.cell? ⟨B, 4, none⟩ = some (.int .i64 (lw : Nat)) := cell_of_row _ _ 4 _ _ _ hy4
  have q0 : w4.cell? ⟨w.heap.size, 0, none⟩ = some (.string ⟨#[]⟩) := cell_of_row _ _ 0 _ _ _ hx4
  have q1 : w4.cell? ⟨w.heap.size, 1, none⟩ = some (.int .i64 0) := cell_of_row _ _ 1 _ _ _ hx4
  have q2 : w4.cell? ⟨w.heap.size, 2, none⟩ = some (.slice none 0 0) := cell_of_row _ _ 2 _ _ _ hx4
  have q3 : w4.cell? ⟨w.heap.size, 3, none⟩ = some (.int .i64 0) := cell_of_row _ _ 3 _ _ _ hx4
  have q4 : w4.cell? ⟨w.heap.size, 4, none⟩ = some (.int .i64 0) := cell_of_row _ _ 4 _ _ _ hx4
  have f0 : w4.frozen? ⟨w.heap.size, 0, none⟩ = false := frozen_of_row _ _ 0 _ _ hx4
  have f1 : w4.frozen? ⟨w.heap.size, 1, none⟩ = false := frozen_of_row _ _ 1 _ _ hx4
  have f2 : w4.frozen? ⟨w.heap.size, 2, none⟩ = false := frozen_of_row _ _ 2 _ _ hx4
  have f3 : w4.frozen? ⟨w.heap.size, 3, none⟩ = false := frozen_of_row _ _ 3 _ _ hx4
  have f4 : w4.frozen? ⟨w.heap.size, 4, none⟩ = false := frozen_of_row _ _ 4 _ _ hx4
  have H4 : Hid (w4.heap[w.heap.size]? = some (.cells #[.string ⟨#[]⟩, .int .i64 0, .slice none 0 0, .int .i64 0, .int .i64 0] 87 (0, 0)) ∧ Kept (fun _ => False) w w4 ∧ IntRow w4 g cn ∧ w.heap.size < g) :=
   ⟨hx4, H3.out.2.2.1.trans hk4 (fun _ _ h => h), H3.out.2.2.2.1.kept hk4 id, H3.out.2.2.2.2.2⟩
  have hBne : w.heap.size ≠ B := by have := H3.out.2.2.2.2.1; omega
  cases b with
  | true =>
   have HB : Hid (Hm.EndsOk l m n) := HOK.out.2 (hb.1 rfl)
   clear hb hx4 hy4 hk4 H3
   go_wp2_with fail
   have h2 := heap_setCell_same _ _ 4 _ _ (.int .i64 (lw : Nat)) (heap_setCell_same _ _ 3 _ _ (.int .i64 (m : Nat)) (heap_setCell_same _ _ 2 _ _ (.slice (some ⟨g, 0, none⟩) (q + 1) (q + 1)) (heap_setCell_same _ _ 1 _ _ (.int .i64 (el : Nat)) (heap_setCell_same _ _ 0 _ _ (.string T) H4.out.1))))
   refine bodyPost_ret (v := .tuple #[.agg #[.string T, .int .i64 (el : Nat), .slice (some ⟨g, 0, none⟩) (q + 1) (q + 1), .int .i64 (m : Nat), .int .i64 (lw : Nat)], .bool true]) (results_row_and Tryz.results117 _ _ w.heap.size 87 _ (0, 0) _ rfl h2 Tryz.underlying87 rfl (by kernel_rfl)) rfl ⟨?_, .inl ⟨HB.out, g, by have := H4.out.2.2.2; omega, by rw [HCE.out], ?_⟩⟩
   ·exact H4.out.2.1.trans (kept_five w4 w.heap.size _ _ _ _ _) (fun j h1 h2 => by omega)
   ·exact H4.out.2.2.1.kept (kept_five w4 w.heap.size _ _ _ _ _) (fun e => by have := H4.out.2.2.2; omega)
  | false =>
   have HB : Hid (¬ Hm.EndsOk l m n) := fun h => by have := hb.2 (HOK.out.1 h); cases this
   clear hb hx4 hy4 hk4 H3
   go_wp2_with fail
   have h2 := heap_setCell_same _ _ 4 _ _ (.int .i64 0) (heap_setCell_same _ _ 3 _ _ (.int .i64 0) (heap_setCell_same _ _ 2 _ _ (.slice none 0 0) (heap_setCell_same _ _ 1 _ _ (.int .i64 0) (heap_setCell_same _ _ 0 _ _ (.string ⟨#[]⟩) H4.out.1))))
   refine bodyPost_ret (v := .tuple #[.agg endsNone.toArray, .bool false]) (results_row_and Tryz.results117 _ _ w.heap.size 87 _ (0, 0) _ rfl h2 Tryz.underlying87 rfl (by kernel_rfl)) rfl ⟨?_, .inr ⟨HB.out, rfl⟩⟩
   exact H4.out.2.1.trans (kept_five w4 w.heap.size _ _ _ _ _) (fun j h1 h2 => by omega)
 ·have HNo : Hid (¬ Hm.EndsOk l m n) := fun h => hfit h.fits
  rw [← hS]
  obtain ⟨q, hq⟩ : ∃ x, x = Hm.szB (Hm.endsLen m n) := ⟨_, rfl⟩
  rw [← hq] at hsz hfit hzb
  obtain ⟨el, hele⟩ : ∃ x, x = Hm.endsLen m n := ⟨_, rfl⟩
  rw [← hele] at hsz hadd hel
  obtain ⟨lw, hlwe⟩ : ∃ x, x = Hm.lowR m n := ⟨_, rfl⟩
  rw [← hlwe] at hlw hhl hw1 hw2
  have hgt : decide (l.length < q) = true := decide_eq_true (by omega)
  clear hS HEL hpos HZ hmle hhe hq hele hlwe hdv hfit hlr
  go_enter Tryz.func117, Tryz.ntmps117
  go_wp2_with fail
  refine (hlw _).mono ?_
  rintro e w1 ⟨rfl, hw⟩
  subst hw
  clear hlw
  go_wp2_with fail
  refine (hhl _).mono ?_
  rintro e w1 ⟨rfl, rfl⟩
  clear hhl
  go_wp2_with fail
  refine (hsz _).mono ?_
  rintro e w1 ⟨rfl, rfl⟩
  clear hsz
  go_wp2_with fail
  refine bodyPost_ret (v := .tuple #[.agg endsNone.toArray, .bool false]) (results_row_and Tryz.results117 _ _ w.heap.size 87 _ (0, 0) _ rfl (heap_alloc_new w _) Tryz.underlying87 rfl (by kernel_rfl)) rfl ⟨(Kept.refl _ _).alloc _, .inr ⟨HNo.out, rfl⟩⟩

end Go.Proofs.YtegnkfdbmmndaaaGreat
end

/- LoadT -/
section
/- A branch is followed. -/
namespace Go.Proofs.YtegnkfdbmmndaaaGreat
open Go.RowKit

/-- A tree that can be asked: it lies in block pb from o on. -/
structure TreePart (w : World) (pb o : Nat) (s : ByteArray) (len g ng nc : Nat) (nds : List Hm.Nd) : Prop where
 bits : CountedAt w pb o s len g
 nodes : w.cell? ⟨pb, o + 515, none⟩ = some (.slice (some ⟨ng, 0, none⟩) nds.length nc)
 nod : w.ownsRow 0 195 9 (.slice (some ⟨ng, 0, none⟩) nds.length nc) nds.length (ncells nds)
theorem TreePart.kept {S : Nat → Prop} {w w' : World} {pb o len g ng nc : Nat} {s : ByteArray} {nds : List Hm.Nd} (h : TreePart w pb o s len g ng nc nds) (hk : Kept S w w') (h1 : ¬ S pb) (h2 : ¬ S g) (h3 : ¬ S ng) : TreePart w' pb o s len g ng nc nds :=
 have hp : pb < w.heap.size := World.block_lt_of_cell? _ _ h.nodes
 ⟨h.bits.kept hk h1 h2, (hk.cell (p := ⟨pb, o + 515, none⟩) hp h1).trans h.nodes, hk.owns h.nod (fun j hj => by have e1 : ng = j := Option.some.inj hj; rw [← e1]; exact h3)⟩

namespace Hm
/-- How many bits of one side stand ahead of a bit of a node. -/
def aheadOf (f : Nat → Bool) (nds : List Nd) (j sd at' : Nat) : Nat :=
 if sd = 0 then at' - (rk f ((ndAt nds j).frm + at') - rk f (ndAt nds j).frm) else rk f ((ndAt nds j).frm + at') - rk f (ndAt nds j).frm
end Hm

set_option maxHeartbeats 2000000 in
theorem follow_any (hones : OnesSays) (pb o len g ng nc : Nat) (s : ByteArray) (nds : List Hm.Nd) (b : Hm.Br) (sd at' : Nat) (w : World) (h : TreePart w pb o s len g ng nc nds) (hb : b.node < nds.length) (hsd : sd < 2) (hat : (Hm.ndAt nds b.node).frm + at' ≤ 8 * s.size) (hs : s.size ≤ 1000000) (_hnl : nds.length ≤ 255) :
  Calls Tryz.prog 124 #[.pointer (some ⟨pb, o, none⟩), .agg (brCells b).toArray, .int .i64 sd, .int .i64 at'] w fun e w' => e = .returned (.tuple #[.agg (brCells ((Hm.ndAt nds b.node).br sd)).toArray, .int .i64 (Hm.aheadOf (Hm.bitB s.data.toList) nds b.node sd at' : Nat)]) ∧ Kept (fun _ => False) w w' := by
 obtain ⟨j, hj⟩ : ∃ j, j = b.node := ⟨_, rfl⟩
 rw [← hj] at hb hat ⊢
 obtain ⟨W0, hW0⟩ : ∃ W0, W0 = (w.alloc (.cells (brCells b).toArray 192)).alloc (.cells #[.bool false, .int .u8 0, .int .i64 0] 192) := ⟨_, rfl⟩
 have hk0 : Kept (fun _ => False) w W0 := by rw [hW0]; exact ((Kept.refl _ _).alloc _).alloc _
 have hb0 : W0.heap[w.heap.size]? = some (.cells (brCells b).toArray 192 (0, 0)) := by rw [hW0]; exact heap_alloc2_old w _ _
 have hb1 : W0.heap[w.heap.size + 1]? = some (.cells #[.bool false, .int .u8 0, .int .i64 0] 192 (0, 0)) := by rw [hW0]; exact heap_alloc2_new w _ _
 have h0 := h.kept hk0 id id id
 have HW : Hid ((w.alloc (.cells (brCells b).toArray 192)).alloc (.cells #[.bool false, .int .u8 0, .int .i64 0] 192) = W0) := hW0.symm
 have hfr := node_frm h0.nod rfl hb
 have hnc := fun i hi => node_cell h0.nod rfl hb i hi
 have hrl := Hm.rk_le (Hm.bitB s.data.toList) ((Hm.ndAt nds j).frm + at')
 have hrp := Hm.rk_part (Hm.bitB s.data.toList) (show (Hm.ndAt nds j).frm ≤ (Hm.ndAt nds j).frm + at' from by omega)
 have hrm := Hm.rk_mono (Hm.bitB s.data.toList) (show (Hm.ndAt nds j).frm ≤ (Hm.ndAt nds j).frm + at' from by omega)
 have ho1 := fun W (hW : CountedAt W pb o s len g) => ones_any hones pb o g len ((Hm.ndAt nds j).frm + at') s W hW hat (by omega)
 have ho2 := fun W (hW : CountedAt W pb o s len g) => ones_any hones pb o g len (Hm.ndAt nds j).frm s W hW (by omega) (by omega)
 have c515 := h0.nodes
 have cn : W0.cell? ⟨w.heap.size, 2, none⟩ = some (.int .i64 (j : Nat)) := by rw [hj]; exact cell_of_row _ _ 2 _ _ _ hb0
 have r0 : W0.cell? ⟨w.heap.size + 1, 0, none⟩ = some (.bool false) := cell_of_row _ _ 0 _ _ _ hb1
 have r1 : W0.cell? ⟨w.heap.size + 1, 1, none⟩ = some (.int .u8 0) := cell_of_row _ _ 1 _ _ _ hb1
 have r2 : W0.cell? ⟨w.heap.size + 1, 2, none⟩ = some (.int .i64 0) := cell_of_row _ _ 2 _ _ _ hb1
 have f0 : W0.frozen? ⟨w.heap.size + 1, 0, none⟩ = false := frozen_of_row _ _ 0 _ _ hb1
 have f1 : W0.frozen? ⟨w.heap.size + 1, 1, none⟩ = false := frozen_of_row _ _ 1 _ _ hb1
 have f2 : W0.frozen? ⟨w.heap.size + 1, 2, none⟩ = false := frozen_of_row _ _ 2 _ _ hb1
 have HAH : Hid (Hm.aheadOf (Hm.bitB s.data.toList) nds j sd at' = if sd = 0 then at' - (Hm.rk (Hm.bitB s.data.toList) ((Hm.ndAt nds j).frm + at') - Hm.rk (Hm.bitB s.data.toList) (Hm.ndAt nds j).frm) else Hm.rk (Hm.bitB s.data.toList) ((Hm.ndAt nds j).frm + at') - Hm.rk (Hm.bitB s.data.toList) (Hm.ndAt nds j).frm) := rfl
 obtain ⟨fr, hfre⟩ : ∃ x, x = (Hm.ndAt nds j).frm := ⟨_, rfl⟩
 rw [← hfre] at hfr hat hrl hrp hrm ho1 ho2 HAH
 obtain ⟨R1, hR1⟩ : ∃ x, x = Hm.rk (Hm.bitB s.data.toList) (fr + at') := ⟨_, rfl⟩
 obtain ⟨R2, hR2⟩ : ∃ x, x = Hm.rk (Hm.bitB s.data.toList) fr := ⟨_, rfl⟩
 rw [← hR1] at hrl hrp hrm ho1 HAH
 rw [← hR2] at hrp hrm ho2 HAH
 obtain ⟨fa, hfa⟩ : ∃ x, x = fr + at' := ⟨_, rfl⟩
 obtain ⟨dd, hdd⟩ : ∃ x, x = R1 - R2 := ⟨_, rfl⟩
 rw [← hfa] at ho1 hrl hat
 rw [← hdd] at HAH
 have zfa : (fr : Int) + (at' : Int) = (fa : Int) := by omega
 have zdd : (R1 : Int) - (R2 : Int) = (dd : Int) := by omega
 have hwa : IntKind.i64.wrap (fa : Int) = (fa : Int) := by rw [IntKind.wrap_i64]; omega
 have hws : IntKind.i64.wrap (dd : Int) = (dd : Int) := by rw [IntKind.wrap_i64]; omega
 have hda : dd ≤ at' := by omega
 have H0 : Hid (TreePart W0 pb o s len g ng nc nds ∧ Kept (fun _ => False) w W0 ∧ W0.heap[w.heap.size + 1]? = some (.cells #[.bool false, .int .u8 0, .int .i64 0] 192 (0, 0))) := ⟨h0, hk0, hb1⟩
 have HO1 : Hid _ := ho1
 have HO2 : Hid _ := ho2
 have HNC : Hid (∀ i, i < 9 → W0.cell? ⟨ng, j * 9 + i, none⟩ = (ndCells (Hm.ndAt nds j))[i]?) := hnc
 have hjI : (j : Int) < (nds.length : Int) := by omega
 have hpw : pb < w.heap.size := World.block_lt_of_cell? _ _ h.nodes
 have hngw : ng < w.heap.size := (h.nod.lt ng rfl).2
 clear h h0 hk0 hb0 hb1 hnc ho1 ho2 hR1 hR2 hfre hW0 hj hfa hdd hrl hrp hrm
 go_enter Tryz.func124, Tryz.ntmps124
 go_upto_region 1 with fail
 rw [HW.out]
 clear HW
 go_quiet (fail)
 have HK1 : Hid (Kept (fun _ => False) W0 (W0.drewN nq)) := (Kept.refl _ _).drewN _
 generalize W0.drewN nq = W1 at HK1 ⊢
 go_wp2_with fail
 go_quiet (first
  | (go_at_call_of 126 (Value.int .i64 (fa : Int)); refine Calls.quiet_of_same (HO1.out _ ?_); exact (H0.out.1.kept (HK1.out.drewN _) id id id).bits)
  | (go_at_call_of 126 (Value.int .i64 (fr : Int)); refine Calls.quiet_of_same (HO2.out _ ?_); exact (H0.out.1.kept (HK1.out.drewN _) id id id).bits))
 have HK2 : Hid (Kept (fun _ => False) W0 (W1.drewN nq)) := HK1.out.drewN _
 generalize W1.drewN nq = W2 at HK2 ⊢
 have hk2 := HK2.out
 have hws0 : w.heap.size + 2 ≤ W0.heap.size := by have := lt_of_block H0.out.2.2; omega
 have hng2 : ng < W0.heap.size := by omega
 have c515 := (hk2.cell (p := ⟨pb, o + 515, none⟩) (show pb < _ from by omega) id).trans c515
 have cn := (hk2.cell (p := ⟨w.heap.size, 2, none⟩) (show w.heap.size < _ from by omega) id).trans cn
 have r0 := (hk2.cell (p := ⟨w.heap.size + 1, 0, none⟩) (show w.heap.size + 1 < _ from by omega) id).trans r0
 have r1 := (hk2.cell (p := ⟨w.heap.size + 1, 1, none⟩) (show w.heap.size + 1 < _ from by omega) id).trans r1
 have r2 := (hk2.cell (p := ⟨w.heap.size + 1, 2, none⟩) (show w.heap.size + 1 < _ from by omega) id).trans r2
 have f0 := (hk2.frozen (p := ⟨w.heap.size + 1, 0, none⟩) (show w.heap.size + 1 < _ from by omega) id).trans f0
 have f1 := (hk2.frozen (p := ⟨w.heap.size + 1, 1, none⟩) (show w.heap.size + 1 < _ from by omega) id).trans f1
 have f2 := (hk2.frozen (p := ⟨w.heap.size + 1, 2, none⟩) (show w.heap.size + 1 < _ from by omega) id).trans f2
 clear hws0
 rcases (show sd = 0 ∨ sd = 1 from by omega) with rfl | rfl
 ·have n3 := (hk2.cell (p := ⟨ng, j * 9 + 3, none⟩) hng2 id).trans (HNC.out 3 (by omega))
  have n4 := (hk2.cell (p := ⟨ng, j * 9 + 4, none⟩) hng2 id).trans (HNC.out 4 (by omega))
  have n5 := (hk2.cell (p := ⟨ng, j * 9 + 5, none⟩) hng2 id).trans (HNC.out 5 (by omega))
  have e3 : (ndCells (Hm.ndAt nds j))[3]? = some (.bool (Hm.ndAt nds j).b0.whole) := rfl
  have e4 : (ndCells (Hm.ndAt nds j))[4]? = some (.int .u8 ((Hm.ndAt nds j).b0.val.toNat : Nat)) := rfl
  have e5 : (ndCells (Hm.ndAt nds j))[5]? = some (.int .i64 ((Hm.ndAt nds j).b0.node : Nat)) := rfl
  rw [e3] at n3
  rw [e4] at n4
  rw [e5] at n5
  have HBR : Hid ((brCells ((Hm.ndAt nds j).br 0)).toArray = #[.bool (Hm.ndAt nds j).b0.whole, .int .u8 ((Hm.ndAt nds j).b0.val.toNat : Nat), .int .i64 ((Hm.ndAt nds j).b0.node : Nat)]) := rfl
  generalize (Hm.ndAt nds j).b0.whole = x0 at *
  generalize (Hm.ndAt nds j).b0.val.toNat = x1 at *
  generalize (Hm.ndAt nds j).b0.node = x2 at *
  clear HNC HO1 HO2 e3 e4 e5 hk2
  obtain ⟨qq, hqq⟩ : ∃ x, x = at' - dd := ⟨_, rfl⟩
  have zqq : (at' : Int) - (dd : Int) = (qq : Int) := by omega
  have hwq : IntKind.i64.wrap (qq : Int) = (qq : Int) := by rw [IntKind.wrap_i64]; omega
  have HQ : Hid (qq = at' - dd) := hqq
  clear hqq
  go_wp2_with fail
  go_region
  go_wp2_with fail
  have h2 := heap_setCell_same _ _ 2 _ _ (.int .i64 (x2 : Nat)) (heap_setCell_same _ _ 1 _ _ (.int .u8 (x1 : Nat)) (heap_setCell_same _ _ 0 _ _ (.bool x0) (HK2.out.row H0.out.2.2 id)))
  refine bodyPost_ret (v := .tuple #[.agg #[.bool x0, .int .u8 (x1 : Nat), .int .i64 (x2 : Nat)], .int .i64 (qq : Nat)]) (results_row_and Tryz.results124 _ _ (w.heap.size + 1) 192 _ (0, 0) _ rfl h2 Tryz.underlying192 rfl (by kernel_rfl)) rfl ⟨?_, ?_⟩
  ·rw [HBR.out, show Hm.aheadOf (Hm.bitB s.data.toList) nds j 0 at' = qq from HAH.out.trans HQ.out.symm]
  ·exact ((((H0.out.2.1.trans HK2.out (fun _ _ h => h)).setCell (.inl (Nat.le_succ _)) _).setCell (.inl (Nat.le_succ _)) _).setCell (.inl (Nat.le_succ _)) _).drew
 ·have n3 := (hk2.cell (p := ⟨ng, j * 9 + 6, none⟩) hng2 id).trans (HNC.out 6 (by omega))
  have n4 := (hk2.cell (p := ⟨ng, j * 9 + 7, none⟩) hng2 id).trans (HNC.out 7 (by omega))
  have n5 := (hk2.cell (p := ⟨ng, j * 9 + 8, none⟩) hng2 id).trans (HNC.out 8 (by omega))
  have e3 : (ndCells (Hm.ndAt nds j))[6]? = some (.bool (Hm.ndAt nds j).b1.whole) := rfl
  have e4 : (ndCells (Hm.ndAt nds j))[7]? = some (.int .u8 ((Hm.ndAt nds j).b1.val.toNat : Nat)) := rfl
  have e5 : (ndCells (Hm.ndAt nds j))[8]? = some (.int .i64 ((Hm.ndAt nds j).b1.node : Nat)) := rfl
  rw [e3] at n3
  rw [e4] at n4
  rw [e5] at n5
  have HBR : Hid ((brCells ((Hm.ndAt nds j).br 1)).toArray = #[.bool (Hm.ndAt nds j).b1.whole, .int .u8 ((Hm.ndAt nds j).b1.val.toNat : Nat), .int .i64 ((Hm.ndAt nds j).b1.node : Nat)]) := rfl
  generalize (Hm.ndAt nds j).b1.whole = x0 at *
  generalize (Hm.ndAt nds j).b1.val.toNat = x1 at *
  generalize (Hm.ndAt nds j).b1.node = x2 at *
  clear HNC HO1 HO2 e3 e4 e5 hk2
  go_wp2_with fail
  go_region
  go_wp2_with fail
  have h2 := heap_setCell_same _ _ 2 _ _ (.int .i64 (x2 : Nat)) (heap_setCell_same _ _ 1 _ _ (.int .u8 (x1 : Nat)) (heap_setCell_same _ _ 0 _ _ (.bool x0) (HK2.out.row H0.out.2.2 id)))
  refine bodyPost_ret (v := .tuple #[.agg #[.bool x0, .int .u8 (x1 : Nat), .int .i64 (x2 : Nat)], .int .i64 (dd : Nat)]) (results_row_and Tryz.results124 _ _ (w.heap.size + 1) 192 _ (0, 0) _ rfl h2 Tryz.underlying192 rfl (by kernel_rfl)) rfl ⟨?_, ?_⟩
  ·rw [HBR.out, show Hm.aheadOf (Hm.bitB s.data.toList) nds j 1 at' = dd from HAH.out]
  ·exact ((((H0.out.2.1.trans HK2.out (fun _ _ h => h)).setCell (.inl (Nat.le_succ _)) _).setCell (.inl (Nat.le_succ _)) _).setCell (.inl (Nat.le_succ _)) _).drew

end Go.Proofs.YtegnkfdbmmndaaaGreat
end

/- LoadU -/
section
/- How one goes down the tree to a byte of the column. -/
namespace Go.Proofs.YtegnkfdbmmndaaaGreat
namespace Hm

theorem filter_take_count {α : Type} (p : α → Bool) (l : List α) (q : Nat) : (l.filter p).take ((l.take q).countP p) = (l.take q).filter p := by
 have e : l.filter p = (l.take q).filter p ++ (l.drop q).filter p := by rw [← List.filter_append, List.take_append_drop]
 rw [e, List.countP_eq_length_filter, List.take_left]
theorem filter_at_count (p : UInt8 → Bool) (l : List UInt8) (q : Nat) (hq : q < l.length) (hp : p (l.getD q 0) = true) : (l.filter p).getD ((l.take q).countP p) 0 = l.getD q 0 ∧ (l.take q).countP p < (l.filter p).length := by
 have e : l.filter p = (l.take q).filter p ++ l.getD q 0 :: (l.drop (q + 1)).filter p := by
  conv => lhs; rw [← List.take_append_drop q l]
  rw [List.filter_append, List.drop_eq_getElem_cons hq, List.getD_eq_getElem?_getD, List.getElem?_eq_getElem hq, Option.getD_some]
  rw [List.getD_eq_getElem?_getD, List.getElem?_eq_getElem hq, Option.getD_some] at hp
  rw [List.filter_cons_of_pos hp]
 rw [e, List.countP_eq_length_filter]
 constructor
 ·rw [List.getD_eq_getElem?_getD, List.getElem?_append_right (Nat.le_refl _), Nat.sub_self]; rfl
 ·rw [List.length_append, List.length_cons]; omega
theorem rk_count (f : Nat → Bool) (s : Nat) (l : List UInt8) (g : UInt8 → Nat) (hb : ∀ p, p < l.length → f (s + p) = decide (g (l.getD p 0) = 1)) : ∀ q, q ≤ l.length → rk f (s + q) - rk f s = (l.take q).countP (fun b => g b == 1)
 | 0, _ => by simp
 | q + 1, hq => by
  have ih := rk_count f s l g hb q (by omega)
  have hm := rk_mono f (Nat.le_add_right s q)
  have e : rk f (s + (q + 1)) = rk f (s + q) + (f (s + q)).toNat := rfl
  have h1 := hb q (by omega)
  have e2 : l.take (q + 1) = l.take q ++ [l.getD q 0] := by
   rw [List.take_add_one, List.getD_eq_getElem?_getD, List.getElem?_eq_getElem (show q < l.length by omega)]; rfl
  rw [e, e2, List.countP_append, ← ih, h1]
  have e3 : List.countP (fun b => g b == 1) [l.getD q 0] = (decide (g (l.getD q 0) = 1)).toNat := by
   rw [List.countP_cons, List.countP_nil]
   by_cases hg : g (l.getD q 0) = 1
   ·rw [hg]; rfl
   ·rw [decide_eq_false hg, show (g (l.getD q 0) == 1) = false from by simpa using hg]; rfl
  rw [e3]
  omega
theorem count_both (l : List UInt8) (g : UInt8 → Nat) (hg : ∀ b, g b < 2) : l.countP (fun b => g b == 0) + l.countP (fun b => g b == 1) = l.length := by
 induction l with
 | nil => rfl
 | cons b r ih =>
  have := hg b
  rw [List.countP_cons, List.countP_cons, List.length_cons]
  rcases (show g b = 0 ∨ g b = 1 by omega) with e | e <;> rw [e] <;> simp <;> omega

section
variable {M : Nat} {ln num : UInt8 → Nat} {o : List UInt8} {nds : List Nd} {f : Nat → Bool} {col : List UInt8}
/-- How far ahead of a byte of a node a side is. -/
theorem Rep.ahead (h : Rep ln num f nds col) {n q u : Nat} (hn : n < nds.length) (hq : q ≤ (ndAt nds n).siz) (hu : u < 2) :
  aheadOf f nds n u q = ((colAt ln num nds col n).take q).countP fun b => bitAt ln num (ndAt nds n).depth b == u := by
 have hs := h.siz n hn
 have key := rk_count f (ndAt nds n).frm (colAt ln num nds col n) (bitAt ln num (ndAt nds n).depth) (fun p hp => h.bit n p hn (by omega)) q (by omega)
 have both := count_both ((colAt ln num nds col n).take q) (bitAt ln num (ndAt nds n).depth) (bitAt_lt ln num _)
 rw [List.length_take, Nat.min_eq_left (by omega)] at both
 unfold aheadOf
 rcases (show u = 0 ∨ u = 1 by omega) with rfl | rfl
 ·rw [if_pos rfl, key]; omega
 ·rw [if_neg (by omega), key]

/-- Where one is on the way to a byte of the column. -/
structure Way (ln num : UInt8 → Nat) (nds : List Nd) (col : List UInt8) (a n q : Nat) : Prop where
 lt : n < nds.length
 at' : q < (colAt ln num nds col n).length
 byte : (colAt ln num nds col n).getD q 0 = col.getD a 0
 cnt : ((colAt ln num nds col n).take q).count (col.getD a 0) = (col.take a).count (col.getD a 0)
theorem Way.start (h : Shaped M ln o nds) (hc : ∀ b ∈ col, b ∈ o) (hpos : ∀ b ∈ o, 0 < ln b) (hnum : ∀ b ∈ o, num b < 2 ^ ln b) {a : Nat} (ha : a < col.length) : Way ln num nds col a 0 a := by
 have e : colAt ln num nds col 0 = col := by
  unfold colAt
  refine List.filter_eq_self.2 fun b hb => decide_eq_true ⟨by rw [h.root.1]; exact hpos b (hc b hb), ?_⟩
  rw [h.root.1, h.root.2, Nat.sub_zero]
  exact Nat.div_eq_of_lt (hnum b (hc b hb))
 exact ⟨h.more, by rw [e]; exact ha, by rw [e], by rw [e]⟩
/-- One step of it. -/
theorem Way.step (hr : Rep ln num f nds col) (h : Shaped M ln o nds) (hk : NumK M ln num o) (hc : ∀ b ∈ col, b ∈ o) {a n q : Nat} (w : Way ln num nds col a n q) :
  ∃ u, u < 2 ∧ f ((ndAt nds n).frm + q) = decide (u = 1) ∧
   (((ndAt nds n).br u = { whole := true, val := col.getD a 0 } ∧ aheadOf f nds n u q = (col.take a).count (col.getD a 0)) ∨
    ∃ m, 0 < m ∧ n < m ∧ (ndAt nds n).br u = { node := m } ∧ Way ln num nds col a m (aheadOf f nds n u q)) := by
 have hs := hr.siz n w.lt
 have hu := bitAt_lt ln num (ndAt nds n).depth (col.getD a 0)
 refine ⟨bitAt ln num (ndAt nds n).depth (col.getD a 0), hu, ?_, ?_⟩
 ·rw [hr.bit n q w.lt (by have := w.at'; omega), w.byte]
 ·have ea := hr.ahead w.lt (show q ≤ _ by have := w.at'; omega) hu
  have hmem : col.getD a 0 ∈ colAt ln num nds col n := by
   rw [← w.byte, List.getD_eq_getElem?_getD, List.getElem?_eq_getElem w.at']
   exact List.getElem_mem _
  obtain ⟨hm1, hm2⟩ := List.mem_filter.1 hmem
  obtain ⟨u, hue⟩ : ∃ u, u = bitAt ln num (ndAt nds n).depth (col.getD a 0) := ⟨_, rfl⟩
  rw [← hue] at hu ea ⊢
  have hp : (fun b => bitAt ln num (ndAt nds n).depth b == u) ((colAt ln num nds col n).getD q 0) = true := by
   show (_ == u) = true
   rw [w.byte, hue]; exact beq_self_eq_true _
  have hf := filter_at_count (fun b => bitAt ln num (ndAt nds n).depth b == u) (colAt ln num nds col n) q w.at' hp
  cases h.good n u w.lt hu with
  | leaf kk hkk e1 e2 e3 =>
   have ev : col.getD a 0 = o.getD kk 0 := child_leaf hk (hc _ hm1) hm2 hkk e2 (by rw [← hue]; exact e3)
   refine .inl ⟨by rw [ev]; exact e1, ?_⟩
   rw [ea, ← w.cnt, List.count]
   refine List.countP_congr fun b hb => ?_
   have hb1 := List.mem_of_mem_take hb
   obtain ⟨q1, q2⟩ := List.mem_filter.1 hb1
   constructor
   ·intro hx
    have hx2 : bitAt ln num (ndAt nds n).depth b = u := by simpa using hx
    have := child_leaf hk (hc _ q1) q2 hkk e2 (by rw [hx2]; exact e3)
    rw [this, ev]; exact beq_self_eq_true _
   ·intro hx
    have hx2 : b = col.getD a 0 := by simpa using hx
    rw [hx2, hue]; exact beq_self_eq_true _
  | node m e1 q1 q2 =>
   refine .inr ⟨m, by omega, q1, e1, ?_⟩
   have ec := h.col_child hk hc w.lt hu (by omega) e1
   refine ⟨q2, ?_, ?_, ?_⟩
   ·rw [ec, ea]; exact hf.2
   ·rw [ec, ea, hf.1]; exact w.byte
   ·rw [ec, ea, filter_take_count, List.count_filter, w.cnt]
    rw [hue]; exact beq_self_eq_true _
  | none e1 q1 =>
   exact (child_none hk (hc _ hm1) hm2 (by rw [← hue]; exact q1)).elim
end

end Hm
end Go.Proofs.YtegnkfdbmmndaaaGreat
end

/- LoadV -/
section
/- A byte of the column is told. -/
namespace Go.Proofs.YtegnkfdbmmndaaaGreat
open Go.RowKit

namespace Hm
/-- Nodes and bits that tell a column. -/
structure TellsBy (M : Nat) (ln num : UInt8 → Nat) (o : List UInt8) (l : List UInt8) (nds : List Nd) (col : List UInt8) : Prop where
 rep : Rep ln num (bitB l) nds col
 shp : Shaped M ln o nds
 numk : NumK M ln num o
 mem : ∀ b ∈ col, b ∈ o
 pos : ∀ b ∈ o, 0 < ln b
 num : ∀ b ∈ o, num b < 2 ^ ln b
 fits : ∀ n, n < nds.length → (ndAt nds n).frm + (ndAt nds n).siz ≤ 8 * l.length
def Tells (l : List UInt8) (nds : List Nd) (col : List UInt8) : Prop := ∃ M ln num o, TellsBy M ln num o l nds col
end Hm

theorem byte_any (hones : OnesSays) (pb o len g ng nc a : Nat) (s : ByteArray) (nds : List Hm.Nd) (col : List UInt8) (w : World) (h : TreePart w pb o s len g ng nc nds) (ht : Hm.Tells s.data.toList nds col) (ha : a < col.length) (hs : s.size ≤ 1000000) (hcl : col.length ≤ 1000000) :
  Calls Tryz.prog 79 #[.pointer (some ⟨pb, o, none⟩), .int .i64 a] w fun e w' => e = .returned (.tuple #[.int .u8 ((col.getD a 0).toNat : Nat), .int .i64 (((col.take a).count (col.getD a 0) : Nat) : Nat)]) ∧ Kept (fun _ => False) w w' := by
 obtain ⟨M, ln, num, od, ht⟩ := ht
 have hsl : s.data.toList.length = s.size := by simp
 have hw0 := Hm.Way.start ht.shp ht.mem ht.pos ht.num ha
 have hn0 := ht.shp.more
 have hn1 := ht.shp.few
 have hpw : pb < w.heap.size := World.block_lt_of_cell? _ _ h.nodes
 have hngw : ng < w.heap.size := (h.nod.lt ng rfl).2
 obtain ⟨x, hx⟩ : ∃ x, x = col.getD a 0 := ⟨_, rfl⟩
 obtain ⟨c, hc⟩ : ∃ c, c = (col.take a).count (col.getD a 0) := ⟨_, rfl⟩
 have hst := fun n q (w : Hm.Way ln num nds col a n q) => Hm.Way.step ht.rep ht.shp ht.numk ht.mem w
 rw [← hc, ← hx] at hst ⊢
 have HST : Hid _ := hst
 have HT : Hid (Hm.TellsBy M ln num od s.data.toList nds col) := ht
 have HH : Hid (TreePart w pb o s len g ng nc nds) := h
 clear h ht hst hx hc
 go_enter Tryz.func79, Tryz.ntmps79
 go_wp2
 go_loopg [1] (nds.length + 1) (fun k v1 wr => ∃ (b : Hm.Br) (q : Nat), v1 = .int .i64 q ∧ wr.heap[w.heap.size]? = some (.cells (brCells b).toArray 192 (0, 0)) ∧ Kept (fun _ => False) w wr ∧ ((b.whole = false ∧ Hm.Way ln num nds col a b.node q ∧ nds.length + 1 ≤ k + b.node) ∨ (b = { whole := true, val := x } ∧ q = c)))
 case atStart => exact ⟨{}, a, rfl, heap_alloc_new w _, (Kept.refl _ _).alloc _, .inl ⟨rfl, hw0, by show _ ≤ _ + 0; omega⟩⟩
 case round =>
  obtain ⟨b, q, rfl, hrow, hkr, hcase⟩ := hrel
  have HR : Hid (wr.heap[w.heap.size]? = some (.cells (brCells b).toArray 192 (0, 0)) ∧ Kept (fun _ => False) w wr) := ⟨hrow, hkr⟩
  have f0 : wr.frozen? ⟨w.heap.size, 0, none⟩ = false := frozen_of_row _ _ 0 _ _ hrow
  have f1 : wr.frozen? ⟨w.heap.size, 1, none⟩ = false := frozen_of_row _ _ 1 _ _ hrow
  have f2 : wr.frozen? ⟨w.heap.size, 2, none⟩ = false := frozen_of_row _ _ 2 _ _ hrow
  rcases hcase with ⟨hbw, way, hgk⟩ | ⟨rfl, rfl⟩
  ·obtain ⟨bw, bv, bn⟩ := b
   obtain rfl : bw = false := hbw
   have c0 : wr.cell? ⟨w.heap.size, 0, none⟩ = some (.bool false) := cell_of_row _ _ 0 _ _ _ hrow
   have c1 : wr.cell? ⟨w.heap.size, 1, none⟩ = some (.int .u8 (bv.toNat : Nat)) := cell_of_row _ _ 1 _ _ _ hrow
   have c2 : wr.cell? ⟨w.heap.size, 2, none⟩ = some (.int .i64 (bn : Nat)) := cell_of_row _ _ 2 _ _ _ hrow
   obtain ⟨u, hu, hfu, hnext⟩ := HST.out _ _ way
   replace hgk : nds.length + 1 ≤ gk + bn := hgk
   have hbl : bn < nds.length := way.lt
   have h1 := HH.out.kept hkr id id id
   have hfits := HT.out.fits bn hbl
   have hq : q < (Hm.ndAt nds bn).siz := by rw [HT.out.rep.siz bn hbl]; exact way.at'
   have hq2 : q < 1000000 := by have h3 : q < (Hm.colAt ln num nds col bn).length := way.at'; have h4 := Hm.colAt_le ln num nds col bn; omega
   rw [hsl] at hfits
   have hbit := fun W (hW : TreePart W pb o s len g ng nc nds) => bit_any pb o ((Hm.ndAt nds bn).frm + q) s W hW.bits.str (by omega) (by omega)
   have hfol := follow_any hones pb o len g ng nc s nds ⟨false, bv, bn⟩ u q
   replace hfol : ∀ W, TreePart W pb o s len g ng nc nds → _ := fun W hW => hfol W hW hbl hu (by show (Hm.ndAt nds bn).frm + q ≤ _; omega) hs hn1
   have hun : ((Hm.bitB s.data.toList ((Hm.ndAt nds bn).frm + q)).toNat : Nat) = u := by
    have hfu' : Hm.bitB s.data.toList ((Hm.ndAt nds bn).frm + q) = decide (u = 1) := hfu
    rw [hfu']
    rcases (show u = 0 ∨ u = 1 by omega) with rfl | rfl <;> rfl
   rw [hun] at hbit
   have c515 := h1.nodes
   have hfr := node_frm h1.nod rfl hbl
   have hfb : (Hm.ndAt nds bn).frm ≤ 8 * s.size := by omega
   have HBR : Hid ((brCells ⟨false, bv, bn⟩).toArray = #[.bool false, .int .u8 (bv.toNat : Nat), .int .i64 (bn : Nat)]) := rfl
   have HNX : Hid (((Hm.ndAt nds bn).br u = { whole := true, val := x } ∧ Hm.aheadOf (Hm.bitB s.data.toList) nds bn u q = c) ∨
    ∃ m, 0 < m ∧ bn < m ∧ (Hm.ndAt nds bn).br u = { node := m } ∧ Hm.Way ln num nds col a m (Hm.aheadOf (Hm.bitB s.data.toList) nds bn u q)) := hnext
   have hfb2 : (Hm.ndAt nds bn).frm ≤ 8000000 := by omega
   clear hfits hq hfu hun hfb hrow way hnext
   generalize (Hm.ndAt nds bn).frm = fr at hbit hfr hfb2
   obtain ⟨fq, hfq⟩ : ∃ y, y = fr + q := ⟨_, rfl⟩
   have zfq : (fr : Int) + (q : Int) = (fq : Int) := by omega
   have hwq : IntKind.i64.wrap (fq : Int) = (fq : Int) := by rw [IntKind.wrap_i64]; omega
   rw [← hfq] at hbit
   have HB : Hid _ := hbit
   have HF : Hid _ := hfol
   have HTP : Hid (TreePart wr pb o s len g ng nc nds) := h1
   have hbI : (bn : Int) < (nds.length : Int) := by omega
   clear hbit hfol h1 hfq hkr
   go_wp2_with fail
   go_quiet (first
    | (go_at_call 123; refine Calls.quiet_of_same (HB.out _ ?_); exact HTP.out.kept ((Kept.refl (fun _ => False) wr).drewN _) id id id))
   have HK1 : Hid (Kept (fun _ => False) wr (wr.drewN nq)) := (Kept.refl _ _).drewN _
   have HR1 : Hid ((wr.drewN nq).heap[w.heap.size]? = some (.cells (brCells ⟨false, bv, bn⟩).toArray 192 (0, 0))) := HR.out.1
   replace c0 : (wr.drewN nq).cell? ⟨w.heap.size, 0, none⟩ = some (.bool false) := c0
   replace c1 : (wr.drewN nq).cell? ⟨w.heap.size, 1, none⟩ = some (.int .u8 (bv.toNat : Nat)) := c1
   replace c2 : (wr.drewN nq).cell? ⟨w.heap.size, 2, none⟩ = some (.int .i64 (bn : Nat)) := c2
   generalize wr.drewN nq = W1 at HK1 HR1 c0 c1 c2 ⊢
   have hfo := HF.out W1 (HTP.out.kept HK1.out id id id)
   rw [HBR.out] at hfo
   clear HB HF c515 hfr f0 f1 f2
   go_wp2_with fail
   have HKW : Hid (Kept (fun _ => False) w W1) := HR.out.2.trans HK1.out (fun _ _ h => h)
   rcases HNX.out with ⟨e1, e2⟩ | ⟨m, hm0, hm1, e1, way2⟩
   ·rw [e1, show Hm.aheadOf (Hm.bitB s.data.toList) nds (Hm.Br.mk false bv bn).node u q = c from e2, show (brCells { whole := true, val := x }).toArray = #[.bool true, .int .u8 (x.toNat : Nat), .int .i64 0] from rfl] at hfo
    refine hfo.mono ?_
    rintro e w2 ⟨rfl, hk2⟩
    have hb2 := hk2.row HR1.out id
    have HB2 : Hid (w2.heap[w.heap.size]? = some (.cells (brCells ⟨false, bv, bn⟩).toArray 192 (0, 0)) ∧ Kept (fun _ => False) w w2) := ⟨hb2, HKW.out.trans hk2 (fun _ _ h => h)⟩
    have c0 : w2.cell? ⟨w.heap.size, 0, none⟩ = some (.bool false) := cell_of_row _ _ 0 _ _ _ hb2
    have c1 : w2.cell? ⟨w.heap.size, 1, none⟩ = some (.int .u8 (bv.toNat : Nat)) := cell_of_row _ _ 1 _ _ _ hb2
    have c2 : w2.cell? ⟨w.heap.size, 2, none⟩ = some (.int .i64 (bn : Nat)) := cell_of_row _ _ 2 _ _ _ hb2
    have f0 : w2.frozen? ⟨w.heap.size, 0, none⟩ = false := frozen_of_row _ _ 0 _ _ hb2
    have f1 : w2.frozen? ⟨w.heap.size, 1, none⟩ = false := frozen_of_row _ _ 1 _ _ hb2
    have f2 : w2.frozen? ⟨w.heap.size, 2, none⟩ = false := frozen_of_row _ _ 2 _ _ hb2
    clear hfo hk2 hb2 e1 e2 HKW HNX
    go_wp2_with fail
    go_roundg (gk - 1)
    case rel => exact ⟨{ whole := true, val := x }, c, rfl, heap_setCell_same _ _ 2 _ _ (.int .i64 0) (heap_setCell_same _ _ 1 _ _ (.int .u8 (x.toNat : Nat)) (heap_setCell_same _ _ 0 _ _ (.bool true) HB2.out.1)), ((HB2.out.2.setCell (.inl (Nat.le_refl _)) _).setCell (.inl (Nat.le_refl _)) _).setCell (.inl (Nat.le_refl _)) _, .inr ⟨rfl, rfl⟩⟩
    case measure => omega
   ·obtain ⟨ah, hah⟩ : ∃ y, y = Hm.aheadOf (Hm.bitB s.data.toList) nds bn u q := ⟨_, rfl⟩
    rw [← hah] at way2
    rw [e1, show Hm.aheadOf (Hm.bitB s.data.toList) nds (Hm.Br.mk false bv bn).node u q = ah from hah.symm, show (brCells { node := m }).toArray = #[.bool false, .int .u8 0, .int .i64 (m : Nat)] from rfl] at hfo
    refine hfo.mono ?_
    rintro e w2 ⟨rfl, hk2⟩
    have hb2 := hk2.row HR1.out id
    have HB2 : Hid (w2.heap[w.heap.size]? = some (.cells (brCells ⟨false, bv, bn⟩).toArray 192 (0, 0)) ∧ Kept (fun _ => False) w w2) := ⟨hb2, HKW.out.trans hk2 (fun _ _ h => h)⟩
    have c0 : w2.cell? ⟨w.heap.size, 0, none⟩ = some (.bool false) := cell_of_row _ _ 0 _ _ _ hb2
    have c1 : w2.cell? ⟨w.heap.size, 1, none⟩ = some (.int .u8 (bv.toNat : Nat)) := cell_of_row _ _ 1 _ _ _ hb2
    have c2 : w2.cell? ⟨w.heap.size, 2, none⟩ = some (.int .i64 (bn : Nat)) := cell_of_row _ _ 2 _ _ _ hb2
    have f0 : w2.frozen? ⟨w.heap.size, 0, none⟩ = false := frozen_of_row _ _ 0 _ _ hb2
    have f1 : w2.frozen? ⟨w.heap.size, 1, none⟩ = false := frozen_of_row _ _ 1 _ _ hb2
    have f2 : w2.frozen? ⟨w.heap.size, 2, none⟩ = false := frozen_of_row _ _ 2 _ _ hb2
    have HW2 : Hid (Hm.Way ln num nds col a m ah) := way2
    clear hfo hk2 hb2 e1 hah HKW HNX way2
    go_wp2_with fail
    go_roundg (gk - 1)
    case rel => exact ⟨{ node := m }, ah, rfl, heap_setCell_same _ _ 2 _ _ (.int .i64 (m : Nat)) (heap_setCell_same _ _ 1 _ _ (.int .u8 0) (heap_setCell_same _ _ 0 _ _ (.bool false) HB2.out.1)), ((HB2.out.2.setCell (.inl (Nat.le_refl _)) _).setCell (.inl (Nat.le_refl _)) _).setCell (.inl (Nat.le_refl _)) _, .inl ⟨rfl, HW2.out, by show _ ≤ gk - 1 + m; omega⟩⟩
    case measure => omega
  ·have c0 : wr.cell? ⟨w.heap.size, 0, none⟩ = some (.bool true) := cell_of_row _ _ 0 _ _ _ hrow
   have c1 : wr.cell? ⟨w.heap.size, 1, none⟩ = some (.int .u8 (x.toNat : Nat)) := cell_of_row _ _ 1 _ _ _ hrow
   clear hrow hkr
   go_wp2_with fail
   go_ret2
   exact ⟨rfl, HR.out.2⟩

end Go.Proofs.YtegnkfdbmmndaaaGreat
end

/- Singles -/
section
/- How often a text of one byte has each byte; its one group. -/
namespace Go.Proofs.YtegnkfdbmmndaaaGreat
open Go.RowKit

/-- Block g is an array of these numbers. -/
def ArrRow (w : World) (t g : Nat) (l : List Nat) : Prop := w.heap[g]? = some (.cells (icells l).toArray t (0, 0))
theorem ArrRow.cell {w : World} {t g : Nat} {l : List Nat} (h : ArrRow w t g l) {i : Nat} (hi : i < l.length) : w.cell? ⟨g, i, none⟩ = some (.int .i64 (l[i] : Nat)) := by
 rw [cell_of_row _ _ i _ _ _ h]; simp [icells, hi]
theorem ArrRow.free {w : World} {t g : Nat} {l : List Nat} (h : ArrRow w t g l) (i : Nat) : w.frozen? ⟨g, i, none⟩ = false := frozen_of_row _ _ i _ _ h
theorem ArrRow.set {w : World} {t g : Nat} {l : List Nat} (h : ArrRow w t g l) (i x : Nat) : ArrRow (w.setCell ⟨g, i, none⟩ (.int .i64 (x : Nat))) t g (l.set i x) := by
 have h2 := heap_setCell_same w g i _ _ (.int .i64 (x : Nat)) h
 unfold ArrRow
 rw [h2]
 congr 2
 apply Array.ext'
 simp [icells, List.map_set]
theorem ArrRow.lt {w : World} {t g : Nat} {l : List Nat} (h : ArrRow w t g l) : g < w.heap.size := lt_of_block h
theorem ArrRow.kept {S : Nat → Prop} {w w' : World} {t g : Nat} {l : List Nat} (h : ArrRow w t g l) (hk : Kept S w w') (hn : ¬ S g) : ArrRow w' t g l := hk.row h hn
theorem zero_arr : Tryz.zeroCells94 = (icells (List.replicate 256 0)).toArray := by kernel_rfl
theorem zero_len : Tryz.zeroCells139 = (icells (List.replicate 256 0)).toArray := by kernel_rfl

theorem run_index_arr (T : TypeId) (n : Nat) (hT : Tryz.prog.underlying T = some (.array n 3)) (l : List Nat) (i : Nat) (hi : i < l.length) (hn : l.length = n) (w : World) :
  (Instr.index T (.agg (icells l).toArray) (.int .i64 (i : Nat))).run Tryz.prog w = .ok (.int .i64 (l[i] : Nat)) w := by
 have z3 := Tryz.sizeOf3
 have a3 := Tryz.isAgg3
 have hlt : (i : Int) < (n : Int) := by omega
 unfold Instr.index
 simp only [Sem.run_bind, run_underlying hT, Result.andThen_ok, asIntOf, Sem.run_pure, Int.natCast_nonneg, hlt, and_self, if_true, z3, Int.toNat_natCast, Nat.mul_one, part, a3]
 simp [icells, hi]

namespace Hm
/-- Noughts, and one number among them. -/
def oneAt (N c k : Nat) : List Nat := (List.replicate N 0).set c k
theorem oneAt_length (N c k : Nat) : (oneAt N c k).length = N := by simp [oneAt]
end Hm

theorem info_group : (Tryz.prog.info? 216).map (fun i => (i.zero, i.size, i.bytes)) = some (some (.agg #[.int .i64 0, .int .u8 0, .slice none 0 0]), 3, 40) := by kernel_rfl

end Go.Proofs.YtegnkfdbmmndaaaGreat
end

/- Measure -/
section
/- The lengths of the codes of a text of one byte. -/
namespace Go.Proofs.YtegnkfdbmmndaaaGreat
open Go.RowKit

theorem Kept.setRow {S : Nat → Prop} {a b : World} (h : Kept S a b) {g : Nat} (hp : a.heap.size ≤ g ∨ S g) (cs : Array Value) : Kept S a (b.setRow g cs) := by
  refine ⟨h.os, h.tape, h.output, by have := h.size; simp; omega, fun j hj hn => ?_⟩
  have hne : j ≠ g := by rintro rfl; rcases hp with hp | hp; · omega
                         · exact hn hp
  exact (setRow_other b g j cs hne).trans (h.block j hj hn)

/-- A whole array is stored into a block. -/
theorem wpList_store_row {P : Program} (w : World) {ops : Array Oper} {rest : List Oper} {op : Oper} {a : Act} {Q : Exit → Act → World → Prop} (hgd : op.guard = none) (ty : TypeId) (x y : Operand) (ho : op.op = .store ty x y)
    (g : Nat) (t : TypeId) (old cells : Array Value) (hx : a.eval x = .pointer (some ⟨g, 0, none⟩)) (hy : a.eval y = .agg cells) (hg : w.heap[g]? = some (.cells old t (0, 0)))
    (hi : (P.info? ty).map (·.size) = some cells.size) (hs : old.size = cells.size) (h1 : cells.all (·.oneCell') = true)
    (h : ∀ w', w'.heap[g]? = some (.cells cells t (0, 0)) → Kept (fun j => j = g) w w' → wpList P ops Q rest (a.put op.dst undef) w') : wpList P ops Q (op :: rest) a w := by
  refine wpList_plain hgd fun K hK => ?_
  unfold Oper.wp execOp
  simp only [ho, hx, hy, Instr.storeAt, Instr.sureAddr, Sem.run_bind, Sem.run_pure, Result.andThen_ok, run_storeVar_row w g t ty old cells hg hi hs h1]
  exact hK _ _ (h _ (setRow_heap w g old cells t _ hg) ((Kept.refl (fun j => j = g) w).setRow (g := g) (.inr rfl) _))

theorem icells_one (l : List Nat) : (icells l).toArray.all (·.oneCell') = true := by
  rw [Array.all_eq_true_iff_forall_mem]
  intro v hv
  have : v ∈ icells l := by simpa using hv
  unfold icells at this
  obtain ⟨x, _, rfl⟩ := List.mem_map.1 this
  rfl
theorem icells_size (l : List Nat) : (icells l).toArray.size = l.length := by simp [icells]
theorem info_len : (Tryz.prog.info? 139).map (·.size) = some 256 := by kernel_rfl

theorem zero_set (cn : Nat) : Tryz.zeroCells139.setIfInBounds cn (.int .i64 1) = (icells (Hm.oneAt 256 cn 1)).toArray := by
  rw [zero_len]
  unfold Hm.oneAt
  apply Array.ext'
  rw [Array.toList_setIfInBounds]
  simp only [icells, List.map_set]
  rfl

end Go.Proofs.YtegnkfdbmmndaaaGreat
end
