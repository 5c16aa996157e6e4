import Derived.Test.YtegnkfdbmmndaaaGreatJ08
import Derived.Test.YtegnkfdbmmndaaaGreatJ21
import Derived.Test.YtegnkfdbmmndaaaGreatJ22

/- LoadI -/
section
/- The reader takes ends. -/
namespace Go.Proofs.YtegnkfdbmmndaaaGreat
open Go.RowKit

theorem endsOk_pos {m n : Nat} : ¬ Hm.EndsOk [] m n := fun h => by
 have h1 := h.fits
 have h2 : 1 ≤ Hm.endsLen m n := Nat.le_trans (Nat.le_add_left 1 _) (Nat.le_add_left _ _)
 unfold Hm.szB at h1
 simp at h1
 omega

set_option maxHeartbeats 2000000 in
theorem rdEnds_any (hones : OnesSays) (p : Nat) (st : Hm.Rd) (m n : Nat) (w : World) (hr : RdAt w p st) (hm : m ≤ 255) (hn : n ≤ 65535) (hll : Hm.restLen st ≤ 4611686018427387904) :
  Calls Tryz.prog 67 #[.pointer (some ⟨p, 0, none⟩), .int .i64 m, .int .i64 n] w fun e w' => Kept (fun j => j = p) w w' ∧
   ((∃ l, st = some l ∧ Hm.EndsOk l m n ∧ RdAt w' p (some (l.drop (Hm.szB (Hm.endsLen m n)))) ∧ ∃ g, w.heap.size ≤ g ∧ e = .returned (.agg (endsCells l m n g).toArray) ∧ IntRow w' g (Hm.counts (l.take (Hm.szB (Hm.endsLen m n))))) ∨
    ((∀ l, st = some l → ¬ Hm.EndsOk l m n) ∧ RdAt w' p none ∧ e = .returned (.agg endsNone.toArray))) := by
 obtain ⟨l, hl⟩ : ∃ l, l = st.getD [] := ⟨_, rfl⟩
 have hre := fun W => readEnds_any hones l m n W hm hn (by rw [hl]; exact hll)
 obtain ⟨S, hS⟩ : ∃ S, S = (⟨l.toArray⟩ : ByteArray) := ⟨_, rfl⟩
 rw [← hS] at hre
 have hrest := hr.rest
 rw [← hl, ← hS] at hrest
 have hp := hr.lt
 have HR : Hid (RdAt w p st ∧ l = st.getD [] ∧ Hm.restLen st ≤ 4611686018427387904) := ⟨hr, hl, hll⟩
 have hal : (w.alloc (.cells #[.string ⟨#[]⟩, .int .i64 0, .slice none 0 0, .int .i64 0, .int .i64 0] 87)).cell? ⟨p, 0, none⟩ = some (.string S) := (((Kept.refl (fun _ => False) w).alloc _).cell (p := ⟨p, 0, none⟩) hp id).trans hrest
 clear hS hl hr hll hrest
 go_enter Tryz.func67, Tryz.ntmps67
 go_wp2_with fail
 refine (hre _).mono ?_
 rintro e w1 ⟨hk1, h1⟩
 clear hre hal
 have hbx := hk1.row (heap_alloc_new w (.cells #[.string ⟨#[]⟩, .int .i64 0, .slice none 0 0, .int .i64 0, .int .i64 0] 87)) id
 have hkw : Kept (fun _ => False) w w1 := ((Kept.refl (fun _ => False) w).alloc _).trans hk1 (fun _ _ h => h)
 have hw1 : w.heap.size < w1.heap.size := lt_of_block hbx
 have hgen : ∃ (T : ByteArray) (el : Nat) (ao : Option Addr) (c1 mm lw : Nat) (ok : Bool), e = .returned (.tuple #[.agg #[.string T, .int .i64 (el : Nat), .slice ao c1 c1, .int .i64 (mm : Nat), .int .i64 (lw : Nat)], .bool ok]) ∧ T.size ≤ 4611686018427387904 ∧
   ((ok = true ∧ ∃ l, st = some l ∧ Hm.EndsOk l m n ∧ T.size = Hm.szB (Hm.endsLen m n) ∧ ∃ g, w.heap.size < g ∧ endsCells l m n g = [.string T, .int .i64 (el : Nat), .slice ao c1 c1, .int .i64 (mm : Nat), .int .i64 (lw : Nat)] ∧ IntRow w1 g (Hm.counts (l.take (Hm.szB (Hm.endsLen m n))))) ∨
    (ok = false ∧ (∀ l, st = some l → ¬ Hm.EndsOk l m n) ∧ endsNone = [.string T, .int .i64 (el : Nat), .slice ao c1 c1, .int .i64 (mm : Nat), .int .i64 (lw : Nat)])) := by
  rcases h1 with ⟨hok, g, hg, rfl, hir⟩ | ⟨hno, rfl⟩
  ·obtain ⟨l', hst⟩ : ∃ l', st = some l' := by
    cases st with
    | none => rw [HR.out.2.1] at hok; exact absurd hok endsOk_pos
    | some l' => exact ⟨l', rfl⟩
   have hll' : l = l' := by rw [HR.out.2.1, hst]; rfl
   subst hll'
   have hTz : (⟨(l.take (Hm.szB (Hm.endsLen m n))).toArray⟩ : ByteArray).size = Hm.szB (Hm.endsLen m n) := by have := hok.fits; show (l.take _).toArray.size = _; simp; omega
   have hlb : l.length ≤ 4611686018427387904 := by have := HR.out.2.2; rw [hst] at this; exact this
   exact ⟨_, _, _, _, _, _, _, rfl, by rw [hTz]; exact Nat.le_trans hok.fits hlb, .inl ⟨rfl, l, hst, hok, hTz, g, by simp at hg; omega, rfl, hir⟩⟩
  ·refine ⟨_, 0, _, _, 0, 0, _, rfl, by show (0 : Nat) ≤ _; omega, .inr ⟨rfl, fun l' h => ?_, rfl⟩⟩
   have hll' : l = l' := by rw [HR.out.2.1, h]; rfl
   rw [← hll']; exact hno
 obtain ⟨T, el, ao, c1, mm, lw, ok, rfl, hTz, HP⟩ := hgen
 have HP' : Hid _ := HP
 have hnd := fun W (h : RdAt W p st) => need_any p st ok W h
 have htk := fun W (h : RdAt W p (Hm.needO st ok)) => take_any p (Hm.needO st ok) T.size W h (Nat.le_trans (Hm.restLen_need st ok) HR.out.2.2) hTz
 have H1 : Hid (w1.heap[w.heap.size]? = some (.cells #[.string ⟨#[]⟩, .int .i64 0, .slice none 0 0, .int .i64 0, .int .i64 0] 87 (0, 0)) ∧ Kept (fun _ => False) w w1 ∧ RdAt w1 p st ∧ w.heap.size < w1.heap.size) :=
  ⟨hbx, hkw, HR.out.1.kept hkw id, hw1⟩
 have HND : Hid _ := hnd
 have HTK : Hid _ := htk
 obtain ⟨B, hB⟩ : ∃ B, B = w1.heap.size := ⟨_, rfl⟩
 obtain ⟨W1, hW1⟩ : ∃ W1, W1 = w1.alloc (.cells #[.string T, .int .i64 (el : Nat), .slice ao c1 c1, .int .i64 (mm : Nat), .int .i64 (lw : Nat)] 87) := ⟨_, rfl⟩
 have hkW : Kept (fun _ => False) w1 W1 := by rw [hW1]; exact (Kept.refl _ _).alloc _
 have H2 : Hid (W1.heap[B]? = some (.cells #[.string T, .int .i64 (el : Nat), .slice ao c1 c1, .int .i64 (mm : Nat), .int .i64 (lw : Nat)] 87 (0, 0)) ∧ W1.heap[w.heap.size]? = some (.cells #[.string ⟨#[]⟩, .int .i64 0, .slice none 0 0, .int .i64 0, .int .i64 0] 87 (0, 0)) ∧ Kept (fun _ => False) w W1 ∧ RdAt W1 p st ∧ w.heap.size < B ∧ Kept (fun _ => False) w1 W1) :=
  ⟨by rw [hW1, hB]; exact heap_alloc_new w1 _, hkW.row hbx id, hkw.trans hkW (fun _ _ h => h), (HR.out.1.kept hkw id).kept hkW id, by rw [hB]; exact hw1, hkW⟩
 have HW1 : Hid (w1.alloc (.cells #[.string T, .int .i64 (el : Nat), .slice ao c1 c1, .int .i64 (mm : Nat), .int .i64 (lw : Nat)] 87) = W1 ∧ w1.heap.size = B) := ⟨hW1.symm, hB.symm⟩
 clear HP hnd htk hbx hkw hw1 hk1 HR hW1 hB hkW h1 H1
 go_upto_region 2 with fail
 rw [HW1.out.1, HW1.out.2]
 clear HW1
 have hn1 := HND.out W1 H2.out.2.2.2.1
 go_wp2_with fail
 refine hn1.mono ?_
 rintro e w2 ⟨rfl, hr2, hk2⟩
 have hpB : p ≠ B := by have := H2.out.2.2.2.2.1; omega
 have hpR : p ≠ w.heap.size := by omega
 have c0 : w2.cell? ⟨B, 0, none⟩ = some (.string T) := (hk2.cell (p := ⟨B, 0, none⟩) (lt_of_block H2.out.1) (fun h => hpB h.symm)).trans (cell_of_row _ _ 0 _ _ _ H2.out.1)
 have ht1 := HTK.out w2 hr2
 have hpk := fun W (h : W.cell? ⟨B, 0, none⟩ = some (.string T)) => packed_any B 0 T W h
 have hpk2 := hpk w2 c0
 have H3 : Hid (Kept (fun j => j = p) W1 w2) := hk2
 clear hn1 hr2 hk2 HND hpk
 go_wp2_with fail
 refine hpk2.mono ?_
 rintro e w3 ⟨rfl, hw3⟩
 subst hw3
 clear hpk2
 go_wp2_with fail
 refine ht1.mono ?_
 rintro e w4 ⟨rfl, hr4, hk4⟩
 have hk14 : Kept (fun j => j = p) W1 w4 := H3.out.trans hk4 (fun _ _ h => h)
 have hy4 := hk14.row H2.out.1 (fun h => hpB h.symm)
 have hx4 := hk14.row H2.out.2.1 (fun h => hpR h.symm)
 have p0 : w4.cell? ⟨B, 0, none⟩ = some (.string T) := cell_of_row _ _ 0 _ _ _ hy4
 have p1 : w4.cell? ⟨B, 1, none⟩ = some (.int .i64 (el : Nat)) := cell_of_row _ _ 1 _ _ _ hy4
 have p2 : w4.cell? ⟨B, 2, none⟩ = some (.slice ao c1 c1) := cell_of_row _ _ 2 _ _ _ hy4
 have p3 : w4.cell? ⟨B, 3, none⟩ = some (.int .i64 (mm : Nat)) := cell_of_row _ _ 3 _ _ _ hy4
 have p4 : w4.cell? ⟨B, 4, none⟩ = some (.int .i64 (lw : Nat)) := cell_of_row _ _ 4 _ _ _ hy4
 have q0 : w4.cell? ⟨w.heap.size, 0, none⟩ = some (.string ⟨#[]⟩) := cell_of_row _ _ 0 _ _ _ hx4
 have q1 : w4.cell? ⟨w.heap.size, 1, none⟩ = some (.int .i64 0) := cell_of_row _ _ 1 _ _ _ hx4
 have q2 : w4.cell? ⟨w.heap.size, 2, none⟩ = some (.slice none 0 0) := cell_of_row _ _ 2 _ _ _ hx4
 have q3 : w4.cell? ⟨w.heap.size, 3, none⟩ = some (.int .i64 0) := cell_of_row _ _ 3 _ _ _ hx4
 have q4 : w4.cell? ⟨w.heap.size, 4, none⟩ = some (.int .i64 0) := cell_of_row _ _ 4 _ _ _ hx4
 have f0 : w4.frozen? ⟨w.heap.size, 0, none⟩ = false := frozen_of_row _ _ 0 _ _ hx4
 have f1 : w4.frozen? ⟨w.heap.size, 1, none⟩ = false := frozen_of_row _ _ 1 _ _ hx4
 have f2 : w4.frozen? ⟨w.heap.size, 2, none⟩ = false := frozen_of_row _ _ 2 _ _ hx4
 have f3 : w4.frozen? ⟨w.heap.size, 3, none⟩ = false := frozen_of_row _ _ 3 _ _ hx4
 have f4 : w4.frozen? ⟨w.heap.size, 4, none⟩ = false := frozen_of_row _ _ 4 _ _ hx4
 have hBne : w.heap.size ≠ B := by have := H2.out.2.2.2.2.1; omega
 have H4 : Hid (w4.heap[w.heap.size]? = some (.cells #[.string ⟨#[]⟩, .int .i64 0, .slice none 0 0, .int .i64 0, .int .i64 0] 87 (0, 0)) ∧ Kept (fun j => j = p) w w4 ∧ RdAt w4 p (Hm.takeO (Hm.needO st ok) T.size).2 ∧ Kept (fun j => j = p) w1 w4) :=
  ⟨hx4, (H2.out.2.2.1.wider (fun _ _ h => h.elim)).trans hk14 (fun _ _ h => h), hr4, (H2.out.2.2.2.2.2.wider (fun _ _ h => h.elim)).trans hk14 (fun _ _ h => h)⟩
 clear hx4 hy4 hk14 hk4 hr4 ht1 H3 H2 c0 HTK
 go_wp2_with fail
 have h2 := heap_setCell_same _ _ 4 _ _ (.int .i64 (lw : Nat)) (heap_setCell_same _ _ 3 _ _ (.int .i64 (mm : Nat)) (heap_setCell_same _ _ 2 _ _ (.slice ao c1 c1) (heap_setCell_same _ _ 1 _ _ (.int .i64 (el : Nat)) (heap_setCell_same _ _ 0 _ _ (.string T) H4.out.1))))
 have hk5 := kept_five w4 w.heap.size (.string T) (.int .i64 (el : Nat)) (.slice ao c1 c1) (.int .i64 (mm : Nat)) (.int .i64 (lw : Nat))
 refine bodyPost_ret (v := .agg #[.string T, .int .i64 (el : Nat), .slice ao c1 c1, .int .i64 (mm : Nat), .int .i64 (lw : Nat)]) (results_cell_row Tryz.results67 _ _ w.heap.size 87 _ (0, 0) _ rfl h2 Tryz.underlying87 rfl (by kernel_rfl)) rfl ⟨?_, ?_⟩
 ·exact H4.out.2.1.trans hk5 (fun j h1 h2 => by omega)
 ·have hrd := H4.out.2.2.1.kept hk5 (fun h => hpR h)
  rcases HP'.out with ⟨rfl, l, rfl, hok, hz, g, hg, hce, hir⟩ | ⟨rfl, hno, hce⟩
  ·have e1 : (Hm.takeO (Hm.needO (some l) true) T.size).2 = some (l.drop (Hm.szB (Hm.endsLen m n))) := by
    show (Hm.takeO (some l) T.size).2 = _
    rw [hz, Hm.takeO_some hok.fits]
   rw [e1] at hrd
   exact .inl ⟨l, rfl, hok, hrd, g, by omega, by rw [hce], (hir.kept H4.out.2.2.2 (fun h => by omega)).kept hk5 (fun h => by omega)⟩
  ·exact .inr ⟨hno, hrd, by rw [hce]⟩

end Go.Proofs.YtegnkfdbmmndaaaGreat
end

/- LoadZp -/
section
/- What was read, backward. -/
namespace Go.Proofs.YtegnkfdbmmndaaaGreat
open Go.RowKit

namespace Hm
def rdA (s : List UInt8) : Rd := needO (takeO (some s) 6).2 ((⟨(takeO (some s) 6).1.toArray⟩ : ByteArray).toList == [72, 79, 65, 82, 68, 49])
def rdF (s : List UInt8) : Nat × Rd := numO (rdA s) 1
def rdN (s : List UInt8) : Nat × Rd := numO (rdF s).2 2
def rdR (s : List UInt8) : Nat × Rd := numO (rdN s).2 2
def rdB (s : List UInt8) : Rd := needO (rdR s).2 (decide ((rdR s).1 ≤ (rdN s).1))
def rdM (s : List UInt8) : List ByteArray × Rd := namesTo (rdF s).1 (rdB s)
/-- The lengths that are read. -/
def rdL (st : Rd) : List Nat × Rd := lensTo (numO st 2).2 (numO st 2).1

/-- Bytes that can be read: what is left behind the names, the lengths, what is left behind them, the tree. -/
structure Parse (s l6 : List UInt8) (L : List Nat) (l8 : List UInt8) (st : LaySt) : Prop where
 names : (rdM s).2 = some l6
 ends : EndsOk l6 (rdF s).1 (rdN s).1
 lens : rdL (some (l6.drop (szB (endsLen (rdF s).1 (rdN s).1)))) = (L, some l8)
 tree : TreeOk l8 (rdN s).1 L st
 samp : SampOk (l8.drop (szB st.len)) (rdN s).1
 sum : sumO s (some ((l8.drop (szB st.len)).drop (szB (sampLen (rdN s).1)))) = some []

theorem takeO_inv {st : Rd} {k : Nat} {l : List UInt8} (h : (takeO st k).2 = some l) : ∃ l0, st = some l0 ∧ k ≤ l0.length ∧ l = l0.drop k ∧ (takeO st k).1 = l0.take k := by
 cases st with
 | none => cases h
 | some l0 =>
  by_cases hk : k ≤ l0.length
  ·rw [takeO_some hk] at h
   injection h with h
   exact ⟨l0, rfl, hk, h.symm, by rw [takeO_some hk]⟩
  ·rw [takeO_short hk] at h; cases h
theorem needO_inv {st : Rd} {b : Bool} {l : List UInt8} (h : needO st b = some l) : b = true ∧ st = some l := by
 unfold needO at h
 split at h
 ·rename_i hb; exact ⟨hb, h⟩
 ·cases h
theorem namesTo_inv {st : Rd} : ∀ {k : Nat} {l : List UInt8}, (namesTo k st).2 = some l → ∃ l0, st = some l0 ∧ l0.length ≤ l.length + 256 * k
 | 0, l, h => ⟨l, h, Nat.le_refl _⟩
 | k + 1, l, h => by
  have h' : (takeO (numO (namesTo k st).2 1).2 (numO (namesTo k st).2 1).1).2 = some l := h
  obtain ⟨l1, h1, h2, h3, -⟩ := takeO_inv h'
  have h1' : (takeO (namesTo k st).2 1).2 = some l1 := h1
  obtain ⟨l2, h4, h5, h6, h7⟩ := takeO_inv h1'
  obtain ⟨l0, h8, h9⟩ := namesTo_inv h4
  refine ⟨l0, h8, ?_⟩
  have hx : (numO (namesTo k st).2 1).1 < 256 := by have := numO_lt (namesTo k st).2 1; simpa using this
  rw [h3, List.length_drop]
  rw [h6, List.length_drop] at h2 ⊢
  omega
theorem lensTo_inv {st : Rd} : ∀ {k : Nat} {l : List UInt8}, (lensTo st k).2 = some l → ∃ l0, st = some l0 ∧ l0.length = l.length + 2 * k
 | 0, l, h => ⟨l, h, rfl⟩
 | k + 1, l, h => by
  have h' : (lenStep (lensTo st k)).2 = some l := h
  unfold lenStep at h'
  split at h'
  ·rename_i l1 h1
   injection h' with h'
   subst h'
   obtain ⟨l2, h4, h5, h6, -⟩ := takeO_inv h1
   obtain ⟨l0, h8, h9⟩ := lensTo_inv h4
   refine ⟨l0, h8, ?_⟩
   rw [h6, List.length_drop]; omega
  ·cases h'
theorem rdL_inv {st : Rd} {l : List UInt8} (h : (rdL st).2 = some l) : ∃ l0, st = some l0 ∧ l0.length ≤ l.length + 131072 := by
 obtain ⟨l1, h1, h2⟩ := lensTo_inv h
 have h1' : (takeO st 2).2 = some l1 := h1
 obtain ⟨l0, h3, h4, h5, -⟩ := takeO_inv h1'
 have hx : (numO st 2).1 < 65536 := by have := numO_lt st 2; simpa using this
 refine ⟨l0, h3, ?_⟩
 rw [h5, List.length_drop] at h2
 omega
theorem rdM_inv {s l : List UInt8} (h : (rdM s).2 = some l) : s.length ≤ l.length + 65536 ∧ (rdR s).1 ≤ (rdN s).1 := by
 obtain ⟨l0, h1, h2⟩ := namesTo_inv h
 obtain ⟨h3, h4⟩ := needO_inv h1
 obtain ⟨l1, h5, h6, h7, -⟩ := takeO_inv (show (takeO (rdN s).2 2).2 = some l0 from h4)
 obtain ⟨l2, h8, h9, h10, -⟩ := takeO_inv (show (takeO (rdF s).2 2).2 = some l1 from h5)
 obtain ⟨l3, h11, h12, h13, -⟩ := takeO_inv (show (takeO (rdA s) 1).2 = some l2 from h8)
 obtain ⟨_, h14⟩ := needO_inv h11
 obtain ⟨l4, h15, h16, h17, -⟩ := takeO_inv h14
 injection h15 with h15
 subst h15
 have hx : (rdF s).1 < 256 := by have := numO_lt (rdA s) 1; simpa [rdF] using this
 refine ⟨?_, of_decide_eq_true h3⟩
 rw [h7, h10, h13, h17] at h2
 rw [h13, h17] at h9
 rw [h10, h13, h17] at h6
 rw [h17] at h12
 simp only [List.length_drop] at *
 omega
theorem rdN_lt (s : List UInt8) : (rdN s).1 ≤ 65535 := by have := numO_lt (rdF s).2 2; simp at this; unfold rdN; omega
theorem rdF_lt (s : List UInt8) : (rdF s).1 ≤ 255 := by have := numO_lt (rdA s) 1; simp at this; unfold rdF; omega
theorem endsLen_le (m n : Nat) (hm : m ≤ 255) (hn : n ≤ 65535) : szB (endsLen m n) ≤ 10000 := by
 have h1 := lowR_le m n hn
 have h2 : m * lowR m n ≤ 255 * 16 := Nat.mul_le_mul hm h1
 have h3 : n / 2 ^ lowR m n ≤ n := Nat.div_le_self _ _
 unfold szB endsLen
 omega
theorem sampLen_le (n : Nat) (hn : n ≤ 65535) : szB (sampLen n) ≤ 22000 := by
 obtain ⟨td, bl, tb, _, _, _, h4, _, _, h7⟩ := samp_nums n hn
 unfold szB
 omega
theorem maxL_coded {L : List Nat} (h : Coded L) : maxL L ≤ 32 := by
 rcases Nat.eq_zero_or_pos (maxL L) with e | e
 ·omega
 ·obtain ⟨i, hi, he⟩ := List.getElem_of_mem (maxL_in L e)
  have h1 := h.short (UInt8.ofNat i)
  have hi2 := h.len
  rw [show lnB L (UInt8.ofNat i) = L.getD (UInt8.ofNat i).toNat 0 from rfl, show (UInt8.ofNat i).toNat = i from by simp; omega, List.getD_eq_getElem?_getD, List.getElem?_eq_getElem hi, Option.getD_some, he] at h1
  exact h1
theorem treeOk_len {l : List UInt8} {n : Nat} {L : List Nat} {st : LaySt} (h : TreeOk l n L st) (hn : n ≤ 65535) : szB st.len ≤ 262141 ∧ szB st.len ≤ l.length := by
 have h1 := layTo_len h.2
 have h2 := maxL_coded h.1
 have h3 : n * maxL L ≤ 65535 * 32 := Nat.mul_le_mul hn h2
 unfold mostOf at h1
 unfold szB
 omega
theorem sumO_inv {st : Rd} (h : (numO st 4).2 = some []) : ∃ l, st = some l ∧ l.length = 4 := by
 obtain ⟨l, h1, h2, h3, -⟩ := takeO_inv (show (takeO st 4).2 = some [] from h)
 refine ⟨l, h1, ?_⟩
 have := congrArg List.length h3
 rw [List.length_drop] at this
 simp at this
 omega
end Hm

/-- What reading ends gives. -/
structure EndsGot (B : Nat) (w' : World) (st : Hm.Rd) (m n : Nat) (EV : List Value) (st' : Hm.Rd) : Prop where
 len : EV.length = 5
 one : EV.toArray.all (·.oneCell') = true
 rest : Hm.restLen st' ≤ Hm.restLen st
 said : (∃ l, st = some l ∧ Hm.EndsOk l m n ∧ st' = some (l.drop (Hm.szB (Hm.endsLen m n))) ∧ ∃ g, B ≤ g ∧ EV = endsCells l m n g ∧ IntRow w' g (Hm.counts (l.take (Hm.szB (Hm.endsLen m n))))) ∨ ((∀ l, st = some l → ¬ Hm.EndsOk l m n) ∧ st' = none)
theorem EndsGot.kept {B : Nat} {w' w2 : World} {st : Hm.Rd} {m n : Nat} {EV : List Value} {st' : Hm.Rd} (h : EndsGot B w' st m n EV st') {S : Nat → Prop} (hk : Kept S w' w2) (hn : ∀ j, B ≤ j → j < w'.heap.size → ¬ S j) : EndsGot B w2 st m n EV st' := by
 refine ⟨h.len, h.one, h.rest, ?_⟩
 rcases h.said with ⟨l, a1, a2, a3, g, a4, a5, a6⟩ | h1
 ·exact .inl ⟨l, a1, a2, a3, g, a4, a5, a6.kept hk (hn g a4 a6.lt)⟩
 ·exact .inr h1
theorem EndsGot.le {B B' : Nat} {w' : World} {st : Hm.Rd} {m n : Nat} {EV : List Value} {st' : Hm.Rd} (h : EndsGot B w' st m n EV st') (hb : B' ≤ B) : EndsGot B' w' st m n EV st' := by
 refine ⟨h.len, h.one, h.rest, ?_⟩
 rcases h.said with ⟨l, a1, a2, a3, g, a4, a5⟩ | h1
 ·exact .inl ⟨l, a1, a2, a3, g, Nat.le_trans hb a4, a5⟩
 ·exact .inr h1
theorem rdEnds_got (hones : OnesSays) (p : Nat) (st : Hm.Rd) (m n : Nat) (w : World) (hr : RdAt w p st) (hm : m ≤ 255) (hn : n ≤ 65535) (hll : Hm.restLen st ≤ 4611686018427387904) :
  Calls Tryz.prog 67 #[.pointer (some ⟨p, 0, none⟩), .int .i64 m, .int .i64 n] w fun e w' => Kept (fun j => j = p) w w' ∧ ∃ EV st', e = .returned (.agg EV.toArray) ∧ EndsGot w.heap.size w' st m n EV st' ∧ RdAt w' p st' := by
 refine (rdEnds_any hones p st m n w hr hm hn hll).mono ?_
 rintro e w' ⟨hk, ⟨l, rfl, a2, a3, g, a4, rfl, a6⟩ | ⟨h1, h2, rfl⟩⟩
 ·exact ⟨hk, _, _, rfl, ⟨rfl, by simp [endsCells, Value.oneCell'], by show (l.drop _).length ≤ l.length; rw [List.length_drop]; omega, .inl ⟨l, rfl, a2, rfl, g, a4, rfl, a6⟩⟩, a3⟩
 ·exact ⟨hk, _, _, rfl, ⟨rfl, by simp [endsNone, Value.oneCell'], Nat.zero_le _, .inr ⟨h1, rfl⟩⟩, h2⟩
/-- What reading samples gives. -/
structure SampGot (B : Nat) (w' : World) (st : Hm.Rd) (n : Nat) (EV : List Value) (st' : Hm.Rd) : Prop where
 len : EV.length = 4
 one : EV.toArray.all (·.oneCell') = true
 rest : Hm.restLen st' ≤ Hm.restLen st
 said : (∃ l, st = some l ∧ Hm.SampOk l n ∧ st' = some (l.drop (Hm.szB (Hm.sampLen n))) ∧ ∃ g, B ≤ g ∧ EV = sampCells l n g ∧ IntRow w' g (Hm.counts (l.take (Hm.szB (Hm.sampLen n))))) ∨ ((∀ l, st = some l → ¬ Hm.SampOk l n) ∧ st' = none)
theorem SampGot.kept {B : Nat} {w' w2 : World} {st : Hm.Rd} {n : Nat} {EV : List Value} {st' : Hm.Rd} (h : SampGot B w' st n EV st') {S : Nat → Prop} (hk : Kept S w' w2) (hn : ∀ j, B ≤ j → j < w'.heap.size → ¬ S j) : SampGot B w2 st n EV st' := by
 refine ⟨h.len, h.one, h.rest, ?_⟩
 rcases h.said with ⟨l, a1, a2, a3, g, a4, a5, a6⟩ | h1
 ·exact .inl ⟨l, a1, a2, a3, g, a4, a5, a6.kept hk (hn g a4 a6.lt)⟩
 ·exact .inr h1
theorem SampGot.le {B B' : Nat} {w' : World} {st : Hm.Rd} {n : Nat} {EV : List Value} {st' : Hm.Rd} (h : SampGot B w' st n EV st') (hb : B' ≤ B) : SampGot B' w' st n EV st' := by
 refine ⟨h.len, h.one, h.rest, ?_⟩
 rcases h.said with ⟨l, a1, a2, a3, g, a4, a5⟩ | h1
 ·exact .inl ⟨l, a1, a2, a3, g, Nat.le_trans hb a4, a5⟩
 ·exact .inr h1
theorem rdSamp_got (hones : OnesSays) (hLn : LenSays) (p : Nat) (st : Hm.Rd) (n : Nat) (w : World) (hr : RdAt w p st) (hn : n ≤ 65535) (hll : Hm.restLen st ≤ 4611686018427387904) :
  Calls Tryz.prog 71 #[.pointer (some ⟨p, 0, none⟩), .int .i64 n] w fun e w' => Kept (fun j => j = p) w w' ∧ ∃ EV st', e = .returned (.agg EV.toArray) ∧ SampGot w.heap.size w' st n EV st' ∧ RdAt w' p st' := by
 refine (rdSamples_any hones hLn p st n w hr hn hll).mono ?_
 rintro e w' ⟨hk, ⟨l, rfl, a2, a3, g, a4, rfl, a6⟩ | ⟨h1, h2, rfl⟩⟩
 ·exact ⟨hk, _, _, rfl, ⟨rfl, by simp [sampCells, Value.oneCell'], by show (l.drop _).length ≤ l.length; rw [List.length_drop]; omega, .inl ⟨l, rfl, a2, rfl, g, a4, rfl, a6⟩⟩, a3⟩
 ·exact ⟨hk, _, _, rfl, ⟨rfl, by simp [sampNone, Value.oneCell'], Nat.zero_le _, .inr ⟨h1, rfl⟩⟩, h2⟩
theorem zeroTree_ws : (Tryz.zeroCells96.toList.drop 516).take 256 = icells (List.replicate 256 0) := by kernel_rfl
/-- The weights of what was read. -/
theorem TreeGot.weights {B : Nat} {w' : World} {l : List UInt8} {n : Nat} {L : List Nat} {VA : Array Value} {T : ByteArray} {ok : Bool} (h : TreeGot B w' l n L VA T ok) (hn : n ≤ 65535) :
  ∃ ws : List Nat, ws.length = 256 ∧ (∀ b, b < 256 → VA[516 + b]? = some (.int .i64 (ws.getD b 0 : Nat))) ∧ ∀ x ∈ ws, x ≤ 1000000 := by
 rcases h.said with ⟨_, st, g, ng, nc, a1, _, _, _, _, rfl, a6, _⟩ | ⟨_, _, rfl⟩
 ·refine ⟨st.ws, a6, fun b hb => ?_, fun x hx => ?_⟩
  ·rw [List.getElem?_toArray]
   exact treeCells_ws _ _ _ _ _ _ _ b (Hm.tabTo_length _ _ _ _) (by omega)
  ·have := Hm.treeOk_ws a1 x hx; omega
 ·refine ⟨List.replicate 256 0, List.length_replicate, fun b hb => ?_, fun x hx => ?_⟩
  ·have e := congrArg (fun l => l[b]?) zeroTree_ws
   rw [List.getElem?_take_of_lt hb, List.getElem?_drop, Array.getElem?_toList] at e
   rw [e]
   unfold icells
   rw [List.getElem?_map, List.getElem?_replicate, if_pos hb, List.getD_eq_getElem?_getD, List.getElem?_replicate, if_pos hb]
   rfl
  ·rw [List.eq_of_mem_replicate hx]; omega
theorem archL_set0 (v v' : Value) (E R S : List Value) : (archL v E R S).toArray.setIfInBounds 0 v' = (archL v' E R S).toArray := by
 rw [List.setIfInBounds_toArray]; rfl

/-- What reading gives. -/
def ReadGot (B : Nat) (w' : World) (s : List UInt8) (pa : Nat) (ok : Bool) : Prop :=
 (ok = true ∧ ∃ l6 L l8 st gn ge g ng nc gs, Hm.Parse s l6 L l8 st ∧ B ≤ gn ∧ B ≤ ge ∧ B ≤ g ∧ B ≤ ng ∧ B ≤ gs ∧
   w'.heap[pa]? = some (.cells (archL (.slice (some ⟨gn, 0, none⟩) (Hm.rdF s).1 (Hm.rdF s).1) (endsCells l6 (Hm.rdF s).1 (Hm.rdN s).1 ge)
    (rowsL (treeCells ⟨(l8.take (Hm.szB st.len)).toArray⟩ st.len g (Hm.tabOf L) (.slice (some ⟨ng, 0, none⟩) st.nds.length nc) st.ws (Hm.rdN s).1).toArray (Hm.rdR s).1 (Hm.firsts st.ws))
    (sampCells (l8.drop (Hm.szB st.len)) (Hm.rdN s).1 gs)).toArray 102 (0, 0)) ∧
   w'.heap[gn]? = some (.cells (Hm.vstrs (Hm.rdM s).1).toArray 9 (0, 0)) ∧
   IntRow w' ge (Hm.counts (l6.take (Hm.szB (Hm.endsLen (Hm.rdF s).1 (Hm.rdN s).1)))) ∧ IntRow w' g (Hm.counts (l8.take (Hm.szB st.len))) ∧
   w'.ownsRow 0 195 9 (.slice (some ⟨ng, 0, none⟩) st.nds.length nc) st.nds.length (ncells st.nds) ∧
   IntRow w' gs (Hm.counts ((l8.drop (Hm.szB st.len)).take (Hm.szB (Hm.sampLen (Hm.rdN s).1))))) ∨
 (ok = false ∧ ∀ l6 L l8 st, ¬ Hm.Parse s l6 L l8 st)

theorem ReadGot.kept {B : Nat} {w' w2 : World} {s : List UInt8} {pa : Nat} {ok : Bool} (h : ReadGot B w' s pa ok) {S : Nat → Prop} (hk : Kept S w' w2) (hn : ∀ j, B ≤ j → j < w'.heap.size → ¬ S j) (hp : ¬ S pa) : ReadGot B w2 s pa ok := by
 rcases h with ⟨h1, l6, L, l8, st, gn, ge, g, ng, nc, gs, a1, b1, b2, b3, b4, b5, a2, a3, a4, a5, a6, a7⟩ | h1
 ·exact .inl ⟨h1, l6, L, l8, st, gn, ge, g, ng, nc, gs, a1, b1, b2, b3, b4, b5, hk.row a2 hp, hk.row a3 (hn gn b1 (lt_of_block a3)), a4.kept hk (hn ge b2 a4.lt), a5.kept hk (hn g b3 a5.lt), hk.owns a6 (fun j hj => by have e1 : ng = j := Option.some.inj hj; rw [← e1]; exact hn ng b4 (a6.lt ng rfl).2), a7.kept hk (hn gs b5 a7.lt)⟩
 ·exact .inr h1
theorem eq_of_cells {VA : Array Value} {ws ws' : List Nat} (h1 : ws.length = 256) (h2 : ws'.length = 256) (a : ∀ b, b < 256 → VA[516 + b]? = some (.int .i64 (ws.getD b 0 : Nat))) (b : ∀ b, b < 256 → VA[516 + b]? = some (.int .i64 (ws'.getD b 0 : Nat))) : ws = ws' := by
 apply List.ext_getElem (by omega)
 intro i h3 h4
 have e := (a i (by omega)).symm.trans (b i (by omega))
 injection e with e
 injection e with _ e
 rw [List.getD_eq_getElem?_getD, List.getElem?_eq_getElem h3, List.getD_eq_getElem?_getD, List.getElem?_eq_getElem h4] at e
 exact Int.ofNat.inj e

theorem readGot_len {B : Nat} {w' : World} {s : List UInt8} {EV SV : List Value} {st7 st8 st9 st10 : Hm.Rd} {L : List Nat} {VA : Array Value} {T : ByteArray} {ok : Bool}
  (hE : EndsGot B w' (Hm.rdM s).2 (Hm.rdF s).1 (Hm.rdN s).1 EV st7) (hL : L = (Hm.rdL st7).1 ∧ st8 = (Hm.rdL st7).2) (hT : TreeGot B w' (st8.getD []) (Hm.rdN s).1 L VA T ok) (h9 : st9 = (Hm.takeO (Hm.needO st8 ok) T.size).2)
  (hS : SampGot B w' st9 (Hm.rdN s).1 SV st10) (hx : (Hm.numO st10 4).2 = some []) :
  (4 ≤ s.length ∧ s.length ≤ 1000000) ∧ ∃ l6 l8 st gE g ng nc gS, (Hm.rdM s).2 = some l6 ∧ Hm.EndsOk l6 (Hm.rdF s).1 (Hm.rdN s).1 ∧ Hm.rdL (some (l6.drop (Hm.szB (Hm.endsLen (Hm.rdF s).1 (Hm.rdN s).1)))) = (L, some l8) ∧ Hm.TreeOk l8 (Hm.rdN s).1 L st ∧ Hm.SampOk (l8.drop (Hm.szB st.len)) (Hm.rdN s).1 ∧
   st10 = some ((l8.drop (Hm.szB st.len)).drop (Hm.szB (Hm.sampLen (Hm.rdN s).1))) ∧ B ≤ gE ∧ B ≤ g ∧ B ≤ ng ∧ B ≤ gS ∧ EV = endsCells l6 (Hm.rdF s).1 (Hm.rdN s).1 gE ∧ VA = (treeCells ⟨(l8.take (Hm.szB st.len)).toArray⟩ st.len g (Hm.tabOf L) (.slice (some ⟨ng, 0, none⟩) st.nds.length nc) st.ws (Hm.rdN s).1).toArray ∧ st.ws.length = 256 ∧ SV = sampCells (l8.drop (Hm.szB st.len)) (Hm.rdN s).1 gS ∧
   IntRow w' gE (Hm.counts (l6.take (Hm.szB (Hm.endsLen (Hm.rdF s).1 (Hm.rdN s).1)))) ∧ IntRow w' g (Hm.counts (l8.take (Hm.szB st.len))) ∧ w'.ownsRow 0 195 9 (.slice (some ⟨ng, 0, none⟩) st.nds.length nc) st.nds.length (ncells st.nds) ∧ IntRow w' gS (Hm.counts ((l8.drop (Hm.szB st.len)).take (Hm.szB (Hm.sampLen (Hm.rdN s).1)))) := by
 obtain ⟨l10, e10, n10⟩ := Hm.sumO_inv hx
 have hF := Hm.rdF_lt s
 have hN := Hm.rdN_lt s
 rcases hS.said with ⟨l9, e9, s1, s2, gS, s3, s4, s5⟩ | ⟨_, s2⟩
 rotate_left
 ·rw [s2] at e10; cases e10
 rw [e9] at h9
 obtain ⟨l8', f1, f2, f3, -⟩ := Hm.takeO_inv h9.symm
 obtain ⟨hok, e8⟩ := Hm.needO_inv f1
 obtain ⟨hL1, hL2⟩ := hL
 rw [e8] at hL2 hT
 obtain ⟨l7, e7, n7⟩ := Hm.rdL_inv hL2.symm
 rcases hE.said with ⟨l6, e6, a1, a2, gE, a3, a4, a5⟩ | ⟨_, a2⟩
 rotate_left
 ·rw [a2] at e7; cases e7
 rcases hT.said with ⟨_, st, g, ng, nc, t1, t2, t3, t4, t5, t6, t7, t8, t9⟩ | ⟨t1, _⟩
 rotate_left
 ·rw [t1] at hok; cases hok
 replace t1 : Hm.TreeOk l8' (Hm.rdN s).1 L st := t1
 replace t6 : VA = (treeCells ⟨(l8'.take (Hm.szB st.len)).toArray⟩ st.len g (Hm.tabOf L) (.slice (some ⟨ng, 0, none⟩) st.nds.length nc) st.ws (Hm.rdN s).1).toArray := t6
 have hlen := Hm.treeOk_len t1 hN
 have hel := Hm.endsLen_le _ _ hF hN
 have hsl := Hm.sampLen_le _ hN
 have hM := (Hm.rdM_inv e6).1
 rw [t5] at f3 f2
 subst f3
 have hfit := s1.fits
 have hfit2 := a1.fits
 refine ⟨?_, l6, l8', st, gE, g, ng, nc, gS, e6, a1, ?_, t1, s1, s2, a3, t2, t3, s3, a4, t6, t7, s4, a5, t8, t9, s5⟩
 ·rw [s2] at e10
  injection e10 with e10
  rw [a2] at e7
  injection e7 with e7
  have n10' := congrArg List.length e10
  have n7' := congrArg List.length e7
  rw [List.length_drop, List.length_drop] at n10'
  rw [List.length_drop] at n7' hfit
  refine ⟨?_, by omega⟩
  obtain ⟨l0, q1, q2⟩ := Hm.namesTo_inv e6
  obtain ⟨q3, q4⟩ := Hm.needO_inv q1
  obtain ⟨l1, q5, q6, q7, -⟩ := Hm.takeO_inv (show (Hm.takeO (Hm.rdN s).2 2).2 = some l0 from q4)
  obtain ⟨l2, q8, q9, q10, -⟩ := Hm.takeO_inv (show (Hm.takeO (Hm.rdF s).2 2).2 = some l1 from q5)
  obtain ⟨l3, q11, q12, q13, -⟩ := Hm.takeO_inv (show (Hm.takeO (Hm.rdA s) 1).2 = some l2 from q8)
  obtain ⟨_, q14⟩ := Hm.needO_inv q11
  obtain ⟨l4, q15, q16, q17, -⟩ := Hm.takeO_inv q14
  injection q15 with q15
  have := congrArg List.length q15
  omega
 ·rw [← a2, hL1, hL2]

theorem readGot_of {B : Nat} {w' : World} {s : List UInt8} {pa gn : Nat} {EV SV : List Value} {st7 st8 st9 st10 : Hm.Rd} {L ws : List Nat} {VA : Array Value} {T : ByteArray} {ok : Bool}
  (hE : EndsGot B w' (Hm.rdM s).2 (Hm.rdF s).1 (Hm.rdN s).1 EV st7) (hL : L = (Hm.rdL st7).1 ∧ st8 = (Hm.rdL st7).2) (hT : TreeGot B w' (st8.getD []) (Hm.rdN s).1 L VA T ok) (h9 : st9 = (Hm.takeO (Hm.needO st8 ok) T.size).2)
  (hS : SampGot B w' st9 (Hm.rdN s).1 SV st10) (hw : ws.length = 256 ∧ ∀ b, b < 256 → VA[516 + b]? = some (.int .i64 (ws.getD b 0 : Nat)))
  (hr : w'.heap[pa]? = some (.cells (archL (.slice (some ⟨gn, 0, none⟩) (Hm.rdF s).1 (Hm.rdF s).1) EV (rowsL VA (Hm.rdR s).1 (Hm.firsts ws)) SV).toArray 102 (0, 0)))
  (hg : w'.heap[gn]? = some (.cells (Hm.vstrs (Hm.rdM s).1).toArray 9 (0, 0))) (hB : B ≤ gn) : ReadGot B w' s pa (!(Hm.sumO s st10).isNone) := by
 by_cases hx : (Hm.numO st10 4).2 = some [] ∧ (Hm.numO st10 4).1 = Hm.crc (s.take (s.length - 4))
 ·have e : Hm.sumO s st10 = some [] := if_pos hx
  obtain ⟨_, l6, l8, st, gE, g, ng, nc, gS, x1, x2, x3, x4, x5, x6, x7, x8, x9, x10, x11, x12, x13, x14, x15⟩ := readGot_len hE hL hT h9 hS hx.1
  rw [e]
  have ew : ws = st.ws := eq_of_cells hw.1 x13 hw.2 (fun b hb => by rw [x12, List.getElem?_toArray]; exact treeCells_ws _ _ _ _ _ _ _ b (Hm.tabTo_length _ _ _ _) (by omega))
  refine .inl ⟨rfl, l6, L, l8, st, gn, gE, g, ng, nc, gS, ⟨x1, x2, x3, x4, x5, by rw [← x6]; exact e⟩, hB, x7, x8, x9, x10, ?_, hg, x15⟩
  rw [hr, x11, x12, x14, ew]
 ·have e : Hm.sumO s st10 = none := if_neg hx
  rw [e]
  refine .inr ⟨rfl, fun l6 L' l8 st hp => ?_⟩
  rcases hE.said with ⟨l6', e6, a1, a2, _⟩ | ⟨a1, _⟩
  rotate_left
  ·exact a1 _ hp.names hp.ends
  have e66 : l6' = l6 := Option.some.inj (e6.symm.trans hp.names)
  subst e66
  have h3 := hp.lens
  rw [← a2] at h3
  have e8 : st8 = some l8 := by rw [hL.2, h3]
  have eL : L = L' := by rw [hL.1, h3]
  subst eL
  rw [e8] at hT h9
  rcases hT.said with ⟨hok, st', g, ng, nc, t1, t2, t3, t4, t5, _⟩ | ⟨_, t1, _⟩
  rotate_left
  ·exact t1 st hp.tree
  have est : st' = st := Option.some.inj (t1.2.symm.trans hp.tree.2)
  subst est
  rw [hok, t5, show Hm.needO (some l8) true = some l8 from rfl, Hm.takeO_some (Hm.treeOk_len hp.tree (Hm.rdN_lt s)).2] at h9
  rcases hS.said with ⟨l9, e9, s1, s2, _⟩ | ⟨s1, _⟩
  rotate_left
  ·exact s1 _ h9 hp.samp
  rw [h9] at e9
  injection e9 with e9
  rw [s2, ← e9] at e
  have := hp.sum
  rw [e] at this
  cases this

end Go.Proofs.YtegnkfdbmmndaaaGreat
end

/- LoadZ -/
section
/- An archive is read. -/
namespace Go.Proofs.YtegnkfdbmmndaaaGreat
open Go.RowKit

theorem read_any (hones : OnesSays) (hLn : LenSays) (s : List UInt8) (w : World) (hs : s.length ≤ 281474976710656) :
  Calls Tryz.prog 31 #[.string ⟨s.toArray⟩] w fun e w' => Kept (fun _ => False) w w' ∧ ∃ pa ok, w.heap.size ≤ pa ∧ e = .returned (.tuple #[.pointer (some ⟨pa, 0, none⟩), .bool ok]) ∧ ReadGot w.heap.size w' s pa ok := by
 obtain ⟨S, hS⟩ : ∃ S, S = (⟨s.toArray⟩ : ByteArray) := ⟨_, rfl⟩
 rw [← hS]
 have HS : Hid (S = (⟨s.toArray⟩ : ByteArray)) := hS
 clear hS
 go_enter Tryz.func31, Tryz.ntmps31
 go_wp2_with fail
 have hr0 : RdAt (w.alloc (.cells #[.string S, .bool false] 132)) w.heap.size (some s) := by rw [HS.out]; exact heap_alloc_new w _
 refine (take_any w.heap.size (some s) 6 _ hr0 (by show s.length ≤ _; omega) (by omega)).mono ?_
 rintro e w1 ⟨rfl, hr1, hk1⟩
 have H1 : Hid (RdAt w1 w.heap.size (Hm.takeO (some s) 6).2 ∧ Kept (fun _ => False) w w1) := ⟨hr1, ((Kept.refl (fun _ => False) w).alloc _).trans hk1 (fun j h1 h2 => by omega)⟩
 clear hr0 hr1 hk1
 have HRA : Hid (Hm.rdA s = Hm.needO (Hm.takeO (some s) 6).2 ((⟨(Hm.takeO (some s) 6).1.toArray⟩ : ByteArray).toList == [72, 79, 65, 82, 68, 49])) := rfl
 generalize (⟨(Hm.takeO (some s) 6).1.toArray⟩ : ByteArray) = T1 at *
 have hl1 : Hm.restLen (Hm.rdA s) ≤ s.length := by rw [HRA.out]; exact Nat.le_trans (Hm.restLen_need _ _) (Hm.restLen_take _ _)
 go_wp2_with fail
 refine (need_any w.heap.size _ _ w1 H1.out.1).mono ?_
 rintro e w2 ⟨rfl, hr2, hk2⟩
 rw [← HRA.out] at hr2
 have H2 : Hid (RdAt w2 w.heap.size (Hm.rdA s) ∧ Kept (fun _ => False) w w2) := ⟨hr2, H1.out.2.trans hk2 (fun j h1 h2 => by omega)⟩
 clear hr2 hk2 H1 HRA
 go_wp2_with fail
 refine (number_any w.heap.size (Hm.rdA s) 1 w2 H2.out.1 (by omega) (by omega)).mono ?_
 rintro e w3 ⟨rfl, hr3, hk3⟩
 have hfm := Hm.numO_lt (Hm.rdA s) 1
 have hl3 : Hm.restLen (Hm.rdF s).2 ≤ s.length := Nat.le_trans (Hm.restLen_take _ _) hl1
 have H3 : Hid (RdAt w3 w.heap.size (Hm.rdF s).2 ∧ Kept (fun _ => False) w w3) := ⟨hr3, H2.out.2.trans hk3 (fun j h1 h2 => by omega)⟩
 rw [show Hm.numO (Hm.rdA s) 1 = Hm.rdF s from rfl] at hfm ⊢
 clear hr3 hk3 H2
 go_wp2_with fail
 refine (number_any w.heap.size (Hm.rdF s).2 2 w3 H3.out.1 (by omega) (by omega)).mono ?_
 rintro e w4 ⟨rfl, hr4, hk4⟩
 have hnm := Hm.numO_lt (Hm.rdF s).2 2
 have hl4 : Hm.restLen (Hm.rdN s).2 ≤ s.length := Nat.le_trans (Hm.restLen_take _ _) hl3
 have H4 : Hid (RdAt w4 w.heap.size (Hm.rdN s).2 ∧ Kept (fun _ => False) w w4) := ⟨hr4, H3.out.2.trans hk4 (fun j h1 h2 => by omega)⟩
 rw [show Hm.numO (Hm.rdF s).2 2 = Hm.rdN s from rfl] at hnm ⊢
 clear hr4 hk4 H3
 go_wp2_with fail
 refine (number_any w.heap.size (Hm.rdN s).2 2 w4 H4.out.1 (by omega) (by omega)).mono ?_
 rintro e w5 ⟨rfl, hr5, hk5⟩
 have hrm := Hm.numO_lt (Hm.rdN s).2 2
 have hl5 : Hm.restLen (Hm.rdR s).2 ≤ s.length := Nat.le_trans (Hm.restLen_take _ _) hl4
 have H5 : Hid (RdAt w5 w.heap.size (Hm.rdR s).2 ∧ Kept (fun _ => False) w w5) := ⟨hr5, H4.out.2.trans hk5 (fun j h1 h2 => by omega)⟩
 rw [show Hm.numO (Hm.rdN s).2 2 = Hm.rdR s from rfl] at hrm ⊢
 have HRB : Hid (Hm.rdB s = Hm.needO (Hm.rdR s).2 (decide ((Hm.rdR s).1 ≤ (Hm.rdN s).1))) := rfl
 have hl6 : Hm.restLen (Hm.rdB s) ≤ s.length := by rw [HRB.out]; exact Nat.le_trans (Hm.restLen_need _ _) hl5
 have HRM : Hid (Hm.rdM s = Hm.namesTo (Hm.rdF s).1 (Hm.rdB s)) := rfl
 clear hr5 hk5 H4 hl1 hl3 hl4 hl5
 obtain ⟨m, hm⟩ : ∃ m, m = (Hm.rdF s).1 := ⟨_, rfl⟩
 obtain ⟨n, hn⟩ : ∃ n, n = (Hm.rdN s).1 := ⟨_, rfl⟩
 obtain ⟨root, hroot⟩ : ∃ r, r = (Hm.rdR s).1 := ⟨_, rfl⟩
 rw [← hm] at hfm HRM ⊢
 rw [← hn] at hnm HRB ⊢
 rw [← hroot] at hrm HRB ⊢
 have hmb : m ≤ 255 := by simp at hfm; omega
 have hnb : n ≤ 65535 := by simp at hnm; omega
 have hrb : root ≤ 65535 := by simp at hrm; omega
 have HV : Hid (m = (Hm.rdF s).1 ∧ n = (Hm.rdN s).1 ∧ root = (Hm.rdR s).1) := ⟨hm, hn, hroot⟩
 clear hfm hnm hrm hm hn hroot
 go_wp2_with fail
 refine (need_any w.heap.size (Hm.rdR s).2 (decide (root ≤ n)) w5 H5.out.1).mono ?_
 rintro e w6 ⟨rfl, hr6, hk6⟩
 rw [← HRB.out] at hr6
 have H6 : Hid (RdAt w6 w.heap.size (Hm.rdB s) ∧ Kept (fun _ => False) w w6) := ⟨hr6, H5.out.2.trans hk6 (fun j h1 h2 => by omega)⟩
 clear hr6 hk6 H5
 go_wp2_with fail
 have hpa := lt_of_block H6.out.1
 generalize hpe : w6.heap.size = pa at hpa ⊢
 have H7 : Hid (RdAt (w6.alloc (.cells Tryz.zeroCells102 102)) w.heap.size (Hm.rdB s) ∧ Kept (fun _ => False) w (w6.alloc (.cells Tryz.zeroCells102 102)) ∧ (w6.alloc (.cells Tryz.zeroCells102 102)).heap[pa]? = some (.cells (archL (.slice none 0 0) endsNone (rowsL Tryz.zeroCells96 0 (List.replicate 256 0)) sampNone).toArray 102 (0, 0)) ∧ pa < (w6.alloc (.cells Tryz.zeroCells102 102)).heap.size) := by
  refine ⟨H6.out.1.kept ((Kept.refl (fun _ => False) w6).alloc _) id, H6.out.2.alloc _, ?_, ?_⟩
  ·rw [← zeroArch_is, ← hpe]; exact heap_alloc_new w6 _
  ·rw [← hpe]; simp
 generalize w6.alloc (.cells Tryz.zeroCells102 102) = W7 at H7 ⊢
 obtain ⟨R0, hR0⟩ : ∃ R0, R0 = rowsL Tryz.zeroCells96 0 (List.replicate 256 0) := ⟨_, rfl⟩
 have hR0l : R0.length = 1030 := by rw [hR0]; exact rowsL_length _ 0 _ zeroTree_size List.length_replicate
 rw [← hR0] at H7
 clear hpe H6 hR0
 refine (names_any w.heap.size (Hm.rdB s) m W7 H7.out.1 hmb (by omega)).mono ?_
 rintro e w8 ⟨rfl, hg8, hr8, hk8⟩
 rw [← HRM.out] at hg8 hr8
 have hga : pa < W7.heap.size := H7.out.2.2.2
 generalize W7.heap.size = gn at hg8 hga ⊢
 have hrow8 := hk8.row H7.out.2.2.1 (fun h => by omega)
 have c0 : w8.cell? ⟨pa, 0, none⟩ = some (.slice none 0 0) := cell_of_row _ _ 0 _ _ _ hrow8
 have f0 : w8.frozen? ⟨pa, 0, none⟩ = false := frozen_of_row _ _ 0 _ _ hrow8
 have hl8 : Hm.restLen (Hm.rdM s).2 ≤ s.length := by rw [HRM.out]; exact Nat.le_trans (Hm.namesTo_rest _ _) hl6
 have H8 : Hid (RdAt w8 w.heap.size (Hm.rdM s).2 ∧ Kept (fun _ => False) w w8 ∧ w8.heap[pa]? = some (.cells (archL (.slice none 0 0) endsNone R0 sampNone).toArray 102 (0, 0)) ∧ w8.heap[gn]? = some (.cells (Hm.vstrs (Hm.rdM s).1).toArray 9 (0, 0))) := ⟨hr8, H7.out.2.1.trans hk8 (fun j h1 h2 => by omega), hrow8, hg8⟩
 clear hr8 hk8 hg8 hrow8 H7 hl6
 go_wp2_with fail
 have hk9 : Kept (fun j => j = pa) w8 (w8.setCell ⟨pa, 0, none⟩ (.slice (some ⟨gn, 0, none⟩) m m)) := (Kept.refl (fun j => j = pa) w8).setCell (p := ⟨pa, 0, none⟩) (.inr rfl) _
 have hrow9 := heap_setCell_same _ _ 0 _ _ (.slice (some ⟨gn, 0, none⟩) m m) H8.out.2.2.1
 rw [archL_set0] at hrow9
 have H9 : Hid (RdAt (w8.setCell ⟨pa, 0, none⟩ (.slice (some ⟨gn, 0, none⟩) m m)) w.heap.size (Hm.rdM s).2 ∧ Kept (fun _ => False) w (w8.setCell ⟨pa, 0, none⟩ (.slice (some ⟨gn, 0, none⟩) m m)) ∧ (w8.setCell ⟨pa, 0, none⟩ (.slice (some ⟨gn, 0, none⟩) m m)).heap[pa]? = some (.cells (archL (.slice (some ⟨gn, 0, none⟩) m m) endsNone R0 sampNone).toArray 102 (0, 0)) ∧ (w8.setCell ⟨pa, 0, none⟩ (.slice (some ⟨gn, 0, none⟩) m m)).heap[gn]? = some (.cells (Hm.vstrs (Hm.rdM s).1).toArray 9 (0, 0))) :=
  ⟨H8.out.1.kept hk9 (fun h => by omega), H8.out.2.1.trans hk9 (fun j h1 h2 => by omega), hrow9, hk9.row H8.out.2.2.2 (fun h => by omega)⟩
 generalize w8.setCell ⟨pa, 0, none⟩ (.slice (some ⟨gn, 0, none⟩) m m) = W9 at H9 ⊢
 obtain ⟨NV, hNV⟩ : ∃ x, x = (Value.slice (some ⟨gn, 0, none⟩) m m) := ⟨_, rfl⟩
 rw [← hNV] at H9 ⊢
 have HNV : Hid (NV = (Value.slice (some ⟨gn, 0, none⟩) m m)) := hNV
 clear hNV
 clear hk9 hrow9 H8 c0 f0
 refine (rdEnds_got hones w.heap.size (Hm.rdM s).2 m n W9 H9.out.1 hmb hnb (by omega)).mono ?_
 rintro e w10 ⟨hk10, EV, st7, rfl, hE, hr10⟩
 have hB9 : gn < W9.heap.size := lt_of_block H9.out.2.2.2
 have hrow10 := hk10.row H9.out.2.2.1 (fun h => by omega)
 have hl10 : Hm.restLen st7 ≤ s.length := Nat.le_trans hE.rest hl8
 have H10 : Hid (RdAt w10 w.heap.size st7 ∧ Kept (fun _ => False) w w10 ∧ w10.heap[gn]? = some (.cells (Hm.vstrs (Hm.rdM s).1).toArray 9 (0, 0)) ∧ EndsGot (gn + 1) w10 (Hm.rdM s).2 m n EV st7) := ⟨hr10, H9.out.2.1.trans hk10 (fun j h1 h2 => by omega), hk10.row H9.out.2.2.2 (fun h => by omega), hE.le hB9⟩
 have hEs : EV.toArray.size = 5 := hE.len
 have hE1 := hE.one
 have hrw : w10.heap[pa]? = some (.cells ([NV] ++ (endsNone ++ (R0 ++ sampNone))).toArray 102 (0, 0)) := hrow10
 obtain ⟨EA, hEA⟩ : ∃ EA, EA = EV.toArray := ⟨_, rfl⟩
 rw [← hEA] at hEs hE1 ⊢
 have HEA : Hid (EA = EV.toArray) := hEA
 clear hr10 hk10 hE hrow10 H9 hl8 hEA
 go_wp2_with (first
  | (refine wpList_store_seg _ rfl 87 _ _ rfl pa 1 102 [NV] endsNone (R0 ++ sampNone) EA rfl rfl hrw rfl hEs.symm (by rw [hEs]; exact info_ends5) hE1 ?_; intro w11 hw11 hk11))
 have H11 : Hid (RdAt w11 w.heap.size st7 ∧ Kept (fun _ => False) w w11 ∧ w11.heap[gn]? = some (.cells (Hm.vstrs (Hm.rdM s).1).toArray 9 (0, 0)) ∧ EndsGot (gn + 1) w11 (Hm.rdM s).2 m n EV st7 ∧ w11.heap[pa]? = some (.cells ([NV] ++ (EA.toList ++ (R0 ++ sampNone))).toArray 102 (0, 0))) :=
  ⟨H10.out.1.kept hk11 (fun h => by omega), H10.out.2.1.trans hk11 (fun j h1 h2 => by omega), hk11.row H10.out.2.2.1 (fun h => by omega), H10.out.2.2.2.kept hk11 (fun j h1 h2 h3 => by omega), hw11⟩
 clear hw11 hk11 H10 hrw
 obtain ⟨L, hL⟩ : ∃ L, L = (Hm.rdL st7).1 := ⟨_, rfl⟩
 obtain ⟨st8, hst8⟩ : ∃ x, x = (Hm.rdL st7).2 := ⟨_, rfl⟩
 have hLl : L.length = 256 := by rw [hL]; exact Hm.lensTo_length _ _
 have hLx : ∀ x ∈ L, x ≤ 255 := by rw [hL]; exact Hm.lensTo_le _ _
 have hl12 : Hm.restLen st8 ≤ s.length := by rw [hst8]; exact Nat.le_trans (Hm.lensTo_rest _ _) (Nat.le_trans (Hm.restLen_take _ _) hl10)
 refine (lengths_any w.heap.size st7 w11 H11.out.1 (by omega)).mono ?_
 rintro e w12 ⟨rfl, hr12, hk12⟩
 replace hr12 : RdAt w12 w.heap.size (Hm.rdL st7).2 := hr12
 rw [show Hm.lensTo (Hm.numO st7 2).2 (Hm.numO st7 2).1 = Hm.rdL st7 from rfl]
 rw [← hst8] at hr12
 rw [← hL]
 have HL : Hid (L = (Hm.rdL st7).1 ∧ st8 = (Hm.rdL st7).2) := ⟨hL, hst8⟩
 have H12 : Hid (RdAt w12 w.heap.size st8 ∧ Kept (fun _ => False) w w12 ∧ w12.heap[gn]? = some (.cells (Hm.vstrs (Hm.rdM s).1).toArray 9 (0, 0)) ∧ EndsGot (gn + 1) w12 (Hm.rdM s).2 m n EV st7 ∧ w12.heap[pa]? = some (.cells ([NV] ++ (EA.toList ++ (R0 ++ sampNone))).toArray 102 (0, 0))) :=
  ⟨hr12, H11.out.2.1.trans hk12 (fun j h1 h2 => by omega), hk12.row H11.out.2.2.1 (fun h => by omega), H11.out.2.2.2.1.kept hk12 (fun j h1 h2 h3 => by omega), hk12.row H11.out.2.2.2.2 (fun h => by omega)⟩
 clear hr12 hk12 H11 hL hst8 hl10
 have hrt := rdTree_any hones w.heap.size st8 n L w12 H12.out.1 hnb hLl hLx (by omega)
 obtain ⟨LA, hLA⟩ : ∃ x, x = (icells L).toArray := ⟨_, rfl⟩
 rw [← hLA] at hrt ⊢
 clear hLA hLx
 go_wp2_with fail
 refine hrt.mono ?_
 rintro e w13 ⟨hk13, VA, T, ok, rfl, hT, hr13⟩
 obtain ⟨st9, hst9⟩ : ∃ x, x = (Hm.takeO (Hm.needO st8 ok) T.size).2 := ⟨_, rfl⟩
 rw [← hst9] at hr13
 have hl13 : Hm.restLen st9 ≤ s.length := by rw [hst9]; exact Nat.le_trans (Hm.restLen_take _ _) (Nat.le_trans (Hm.restLen_need _ _) hl12)
 obtain ⟨ws, hws1, hws2, hws3⟩ := hT.weights hnb
 have hB12 : gn < w12.heap.size := lt_of_block H12.out.2.2.1
 have hmk := fun W => makeRows_any VA root ws W hT.size hT.one hws1 hws2 hws3
 have hRs : (rowsL VA root (Hm.firsts ws)).toArray.size = 1030 := by rw [List.size_toArray]; exact rowsL_length VA root _ hT.size (by unfold Hm.firsts; rw [List.length_map, List.length_range])
 have hR1 := rowsL_one VA root (Hm.firsts ws) hT.one
 obtain ⟨RA, hRA⟩ : ∃ x, x = (rowsL VA root (Hm.firsts ws)).toArray := ⟨_, rfl⟩
 rw [← hRA] at hmk hRs hR1
 have HRA : Hid (RA = (rowsL VA root (Hm.firsts ws)).toArray ∧ ws.length = 256 ∧ (∀ b, b < 256 → VA[516 + b]? = some (.int .i64 (ws.getD b 0 : Nat))) ∧ st9 = (Hm.takeO (Hm.needO st8 ok) T.size).2) := ⟨hRA, hws1, hws2, hst9⟩
 have H13 : Hid (RdAt w13 w.heap.size st9 ∧ Kept (fun _ => False) w w13 ∧ w13.heap[gn]? = some (.cells (Hm.vstrs (Hm.rdM s).1).toArray 9 (0, 0)) ∧ EndsGot (gn + 1) w13 (Hm.rdM s).2 m n EV st7 ∧ w13.heap[pa]? = some (.cells ([NV] ++ (EA.toList ++ (R0 ++ sampNone))).toArray 102 (0, 0)) ∧ TreeGot (gn + 1) w13 (st8.getD []) n L VA T ok) :=
  ⟨hr13, H12.out.2.1.trans hk13 (fun j h1 h2 => by omega), hk13.row H12.out.2.2.1 (fun h => by omega), H12.out.2.2.2.1.kept hk13 (fun j h1 h2 h3 => by omega), hk13.row H12.out.2.2.2.2 (fun h => by omega), hT.le hB12⟩
 clear hr13 hk13 H12 hrt hT hst9 hRA hws1 hws2 hws3 hl12 hB12
 go_wp2_with fail
 refine (hmk _).mono ?_
 rintro e w14 ⟨rfl, hk14⟩
 have hrw : w14.heap[pa]? = some (.cells (([NV] ++ EA.toList) ++ (R0 ++ sampNone)).toArray 102 (0, 0)) := by rw [List.append_assoc]; exact hk14.row H13.out.2.2.2.2.1 id
 have H14 : Hid (RdAt w14 w.heap.size st9 ∧ Kept (fun _ => False) w w14 ∧ w14.heap[gn]? = some (.cells (Hm.vstrs (Hm.rdM s).1).toArray 9 (0, 0)) ∧ EndsGot (gn + 1) w14 (Hm.rdM s).2 m n EV st7 ∧ TreeGot (gn + 1) w14 (st8.getD []) n L VA T ok) :=
  ⟨H13.out.1.kept hk14 id, H13.out.2.1.trans hk14 (fun _ _ h => h), hk14.row H13.out.2.2.1 id, H13.out.2.2.2.1.kept hk14 (fun _ _ _ => id), H13.out.2.2.2.2.2.kept hk14 (fun _ _ _ => id)⟩
 have hAl : ([NV] ++ EA.toList).length = 6 := by simp [hEs]
 clear hk14 H13 hmk
 go_wp2_with (first
  | (refine wpList_store_seg _ rfl 98 _ _ rfl pa 6 102 ([NV] ++ EA.toList) R0 sampNone RA rfl rfl hrw hAl (by rw [hRs]; exact hR0l) (by rw [hRs]; exact info_rows) hR1 ?_; intro w15 hw15 hk15))
 have H15 : Hid (RdAt w15 w.heap.size st9 ∧ Kept (fun _ => False) w w15 ∧ w15.heap[gn]? = some (.cells (Hm.vstrs (Hm.rdM s).1).toArray 9 (0, 0)) ∧ EndsGot (gn + 1) w15 (Hm.rdM s).2 m n EV st7 ∧ TreeGot (gn + 1) w15 (st8.getD []) n L VA T ok ∧ w15.heap[pa]? = some (.cells (([NV] ++ EA.toList) ++ (RA.toList ++ sampNone)).toArray 102 (0, 0))) :=
  ⟨H14.out.1.kept hk15 (fun h => by omega), H14.out.2.1.trans hk15 (fun j h1 h2 => by omega), hk15.row H14.out.2.2.1 (fun h => by omega), H14.out.2.2.2.1.kept hk15 (fun j h1 h2 h3 => by omega), H14.out.2.2.2.2.kept hk15 (fun j h1 h2 h3 => by omega), hw15⟩
 clear hw15 hk15 H14 hrw
 refine (rdSamp_got hones hLn w.heap.size st9 n w15 H15.out.1 hnb (by omega)).mono ?_
 rintro e w16 ⟨hk16, SV, st10, rfl, hSg, hr16⟩
 have hB15 : gn < w15.heap.size := lt_of_block H15.out.2.2.1
 have hl16 : Hm.restLen st10 ≤ s.length := Nat.le_trans hSg.rest hl13
 have hSs : SV.toArray.size = 4 := hSg.len
 have hS1 := hSg.one
 have hrw : w16.heap[pa]? = some (.cells ((([NV] ++ EA.toList) ++ RA.toList) ++ (sampNone ++ [])).toArray 102 (0, 0)) := by rw [List.append_nil, List.append_assoc ([NV] ++ EA.toList)]; exact hk16.row H15.out.2.2.2.2.2 (fun h => by omega)
 have H16 : Hid (RdAt w16 w.heap.size st10 ∧ Kept (fun _ => False) w w16 ∧ w16.heap[gn]? = some (.cells (Hm.vstrs (Hm.rdM s).1).toArray 9 (0, 0)) ∧ EndsGot (gn + 1) w16 (Hm.rdM s).2 m n EV st7 ∧ TreeGot (gn + 1) w16 (st8.getD []) n L VA T ok ∧ SampGot (gn + 1) w16 st9 n SV st10) :=
  ⟨hr16, H15.out.2.1.trans hk16 (fun j h1 h2 => by omega), hk16.row H15.out.2.2.1 (fun h => by omega), H15.out.2.2.2.1.kept hk16 (fun j h1 h2 h3 => by omega), H15.out.2.2.2.2.1.kept hk16 (fun j h1 h2 h3 => by omega), hSg.le hB15⟩
 obtain ⟨SA, hSA⟩ : ∃ x, x = SV.toArray := ⟨_, rfl⟩
 rw [← hSA] at hSs hS1 ⊢
 have HSA : Hid (SA = SV.toArray) := hSA
 have hAl2 : (([NV] ++ EA.toList) ++ RA.toList).length = 1036 := by simp [hEs, hRs]
 clear hr16 hk16 H15 hSg hl13 hSA hB15
 go_wp2_with (first
  | (refine wpList_store_seg _ rfl 100 _ _ rfl pa 1036 102 (([NV] ++ EA.toList) ++ RA.toList) sampNone [] SA rfl rfl hrw hAl2 hSs.symm (by rw [hSs]; exact info_samp) hS1 ?_; intro w17 hw17 hk17))
 have hga2 : w.heap.size ≤ gn + 1 := by omega
 have H17 : Hid (RdAt w17 w.heap.size st10 ∧ Kept (fun _ => False) w w17 ∧ w17.heap[gn]? = some (.cells (Hm.vstrs (Hm.rdM s).1).toArray 9 (0, 0)) ∧ EndsGot (gn + 1) w17 (Hm.rdM s).2 m n EV st7 ∧ TreeGot (gn + 1) w17 (st8.getD []) n L VA T ok ∧ SampGot (gn + 1) w17 st9 n SV st10 ∧ w17.heap[pa]? = some (.cells (archL NV EV (rowsL VA root (Hm.firsts ws)) SV).toArray 102 (0, 0))) :=
  ⟨H16.out.1.kept hk17 (fun h => by omega), H16.out.2.1.trans hk17 (fun j h1 h2 => by omega), hk17.row H16.out.2.2.1 (fun h => by omega), H16.out.2.2.2.1.kept hk17 (fun j h1 h2 h3 => by omega), H16.out.2.2.2.2.1.kept hk17 (fun j h1 h2 h3 => by omega), H16.out.2.2.2.2.2.kept hk17 (fun j h1 h2 h3 => by omega), by
   rw [hw17, HEA.out, HRA.out.1, HSA.out]
   unfold archL
   simp only [List.append_nil, List.append_assoc, List.cons_append, List.nil_append]⟩
 clear hw17 hk17 H16 hrw
 have hfin : (Hm.numO st10 4).2 = some [] → 4 ≤ s.length ∧ s.length ≤ 1000000 := fun hx => by
  obtain ⟨v1, v2, v3⟩ := HV.out
  have hE := H17.out.2.2.2.1
  have hT := H17.out.2.2.2.2.1
  have hSg := H17.out.2.2.2.2.2.1
  rw [v1, v2] at hE
  rw [v2] at hT hSg
  exact (readGot_len hE HL.out hT HRA.out.2.2.2 hSg hx).1
 have hsum := rdSum_any w.heap.size st10 s w17 H17.out.1 (by omega) hfin (by omega)
 rw [← HS.out] at hsum
 clear hfin
 refine hsum.mono ?_
 rintro e w18 ⟨rfl, hr18, hk18⟩
 have cb := hr18.bad
 have H18 : Hid (Kept (fun _ => False) w w18 ∧ ReadGot w.heap.size w18 s pa (!(Hm.sumO s st10).isNone)) := by
  obtain ⟨v1, v2, v3⟩ := HV.out
  refine ⟨H17.out.2.1.trans hk18 (fun j h1 h2 => by omega), ?_⟩
  have hE := (H17.out.2.2.2.1.kept hk18 (fun j h1 h2 h3 => by omega)).le (show w.heap.size ≤ _ from hga2)
  have hT := (H17.out.2.2.2.2.1.kept hk18 (fun j h1 h2 h3 => by omega)).le (show w.heap.size ≤ _ from hga2)
  have hSg := (H17.out.2.2.2.2.2.1.kept hk18 (fun j h1 h2 h3 => by omega)).le (show w.heap.size ≤ _ from hga2)
  have hrow := hk18.row H17.out.2.2.2.2.2.2 (fun h => by omega)
  rw [HNV.out, v1, v3] at hrow
  rw [v1, v2] at hE
  rw [v2] at hT hSg
  exact readGot_of hE HL.out hT HRA.out.2.2.2 hSg ⟨HRA.out.2.1, HRA.out.2.2.1⟩ hrow (hk18.row H17.out.2.2.1 (fun h => by omega)) (by omega)
 generalize (Hm.sumO s st10).isNone = bad at cb H18
 clear hr18 hk18 hsum H17
 go_wp2_with fail
 go_quiet (fail)
 go_wp2_with fail
 go_ret2
 exact ⟨H18.out.1.drewN _, pa, _, by omega, rfl, H18.out.2.kept ((Kept.refl (fun _ => False) w18).drewN _) (fun _ _ _ => id) id⟩

end Go.Proofs.YtegnkfdbmmndaaaGreat
end

/- UnpA -/
section
/- An archive that was read, in memory. -/
namespace Go.Proofs.YtegnkfdbmmndaaaGreat
open Go.RowKit

/-- An archive lies in memory, its blocks from B on. -/
def ArchAt (B : Nat) (w : World) (pa : Nat) (s l6 : List UInt8) (L : List Nat) (l8 : List UInt8) (st : Hm.LaySt) : Prop :=
 ∃ gn ge g ng nc gs, B ≤ gn ∧ B ≤ ge ∧ B ≤ g ∧ B ≤ ng ∧ B ≤ gs ∧
   w.heap[pa]? = some (.cells (archL (.slice (some ⟨gn, 0, none⟩) (Hm.rdF s).1 (Hm.rdF s).1) (endsCells l6 (Hm.rdF s).1 (Hm.rdN s).1 ge)
    (rowsL (treeCells ⟨(l8.take (Hm.szB st.len)).toArray⟩ st.len g (Hm.tabOf L) (.slice (some ⟨ng, 0, none⟩) st.nds.length nc) st.ws (Hm.rdN s).1).toArray (Hm.rdR s).1 (Hm.firsts st.ws))
    (sampCells (l8.drop (Hm.szB st.len)) (Hm.rdN s).1 gs)).toArray 102 (0, 0)) ∧
   w.heap[gn]? = some (.cells (Hm.vstrs (Hm.rdM s).1).toArray 9 (0, 0)) ∧
   IntRow w ge (Hm.counts (l6.take (Hm.szB (Hm.endsLen (Hm.rdF s).1 (Hm.rdN s).1)))) ∧ IntRow w g (Hm.counts (l8.take (Hm.szB st.len))) ∧
   w.ownsRow 0 195 9 (.slice (some ⟨ng, 0, none⟩) st.nds.length nc) st.nds.length (ncells st.nds) ∧
   IntRow w gs (Hm.counts ((l8.drop (Hm.szB st.len)).take (Hm.szB (Hm.sampLen (Hm.rdN s).1))))
theorem ReadGot.arch {B : Nat} {w' : World} {s : List UInt8} {pa : Nat} {ok : Bool} (h : ReadGot B w' s pa ok) : (ok = true ∧ ∃ l6 L l8 st, Hm.Parse s l6 L l8 st ∧ ArchAt B w' pa s l6 L l8 st) ∨ (ok = false ∧ ∀ l6 L l8 st, ¬ Hm.Parse s l6 L l8 st) := by
 rcases h with ⟨h1, l6, L, l8, st, gn, ge, g, ng, nc, gs, a1, b⟩ | h1
 ·exact .inl ⟨h1, l6, L, l8, st, a1, gn, ge, g, ng, nc, gs, b⟩
 ·exact .inr h1
theorem ArchAt.kept {B : Nat} {w' w2 : World} {pa : Nat} {s l6 : List UInt8} {L : List Nat} {l8 : List UInt8} {st : Hm.LaySt} (h : ArchAt B w' pa s l6 L l8 st) {S : Nat → Prop} (hk : Kept S w' w2) (hn : ∀ j, B ≤ j → j < w'.heap.size → ¬ S j) (hp : ¬ S pa) : ArchAt B w2 pa s l6 L l8 st := by
 obtain ⟨gn, ge, g, ng, nc, gs, b1, b2, b3, b4, b5, a2, a3, a4, a5, a6, a7⟩ := h
 exact ⟨gn, ge, g, ng, nc, gs, b1, b2, b3, b4, b5, hk.row a2 hp, hk.row a3 (hn gn b1 (lt_of_block a3)), a4.kept hk (hn ge b2 a4.lt), a5.kept hk (hn g b3 a5.lt), hk.owns a6 (fun j hj => by have e1 : ng = j := Option.some.inj hj; rw [← e1]; exact hn ng b4 (a6.lt ng rfl).2), a7.kept hk (hn gs b5 a7.lt)⟩

theorem archL_rows (nv : Value) (E R S : List Value) (hE : E.length = 5) (j : Nat) (hj : j < R.length) : (archL nv E R S)[6 + j]? = R[j]? := by
 unfold archL
 rw [show 6 + j = (5 + j) + 1 from by omega, List.getElem?_cons_succ, List.getElem?_append_right (by omega), hE, show 5 + j - 5 = j from by omega, List.getElem?_append_left hj]
theorem archL_samp (nv : Value) (E R S : List Value) (hE : E.length = 5) (hR : R.length = 1030) (j : Nat) : (archL nv E R S)[1036 + j]? = S[j]? := by
 unfold archL
 rw [show 1036 + j = (1035 + j) + 1 from by omega, List.getElem?_cons_succ, List.getElem?_append_right (by omega), hE, List.getElem?_append_right (by omega), hR, show 1035 + j - 5 - 1030 = j from by omega]
theorem rowsL_tree (VA : Array Value) (root : Nat) (fs : List Nat) (hv : VA.size = 773) (j : Nat) (hj : j < 773) : (rowsL VA root fs)[j]? = VA[j]? := by
 unfold rowsL
 rw [List.getElem?_append_left (by rw [Array.length_toList]; omega), Array.getElem?_toList]
theorem rowsL_root (VA : Array Value) (root : Nat) (fs : List Nat) (hv : VA.size = 773) : (rowsL VA root fs)[773]? = some (.int .i64 (root : Nat)) := by
 unfold rowsL
 rw [List.getElem?_append_right (by rw [Array.length_toList]; omega), Array.length_toList, hv, Nat.sub_self]; rfl
theorem rowsL_firsts (VA : Array Value) (root : Nat) (ws : List Nat) (hv : VA.size = 773) (b : Nat) (hb : b < 256) : (rowsL VA root (Hm.firsts ws))[774 + b]? = some (.int .i64 (Hm.firstAt ws b : Nat)) := by
 unfold rowsL
 rw [List.getElem?_append_right (by rw [Array.length_toList]; omega), Array.length_toList, hv, show 774 + b - 773 = b + 1 from by omega, List.getElem?_cons_succ]
 unfold icells Hm.firsts
 rw [List.getElem?_map, List.getElem?_map, List.getElem?_range hb]; rfl

/-- The parts of an archive in memory. -/
structure ArchParts (w : World) (pa : Nat) (s l6 : List UInt8) (L : List Nat) (l8 : List UInt8) (st : Hm.LaySt) (gn ge g ng nc gs : Nat) : Prop where
 names : w.cell? ⟨pa, 0, none⟩ = some (.slice (some ⟨gn, 0, none⟩) (Hm.rdF s).1 (Hm.rdF s).1)
 nblock : w.heap[gn]? = some (.cells (Hm.vstrs (Hm.rdM s).1).toArray 9 (0, 0))
 ends : EndsAt w pa 1 ⟨(l6.take (Hm.szB (Hm.endsLen (Hm.rdF s).1 (Hm.rdN s).1))).toArray⟩ (Hm.endsLen (Hm.rdF s).1 (Hm.rdN s).1) ge (Hm.rdF s).1 (Hm.lowR (Hm.rdF s).1 (Hm.rdN s).1)
 rows : RowsPart w pa 6 ⟨(l8.take (Hm.szB st.len)).toArray⟩ st.len g ng nc st.nds (Hm.rdR s).1 st.ws
 total : w.cell? ⟨pa, 778, none⟩ = some (.int .i64 ((Hm.rdN s).1 : Nat))
theorem ArchAt.parts {B : Nat} {w : World} {pa : Nat} {s l6 : List UInt8} {L : List Nat} {l8 : List UInt8} {st : Hm.LaySt} (h : ArchAt B w pa s l6 L l8 st) (hp : Hm.Parse s l6 L l8 st) : ∃ gn ge g ng nc gs, ArchParts w pa s l6 L l8 st gn ge g ng nc gs := by
 obtain ⟨gn, ge, g, ng, nc, gs, b1, b2, b3, b4, b5, a2, a3, a4, a5, a6, a7⟩ := h
 refine ⟨gn, ge, g, ng, nc, gs, ?_⟩
 have hel := hp.ends.fits
 have hse : (⟨(l6.take (Hm.szB (Hm.endsLen (Hm.rdF s).1 (Hm.rdN s).1))).toArray⟩ : ByteArray).size = Hm.szB (Hm.endsLen (Hm.rdF s).1 (Hm.rdN s).1) := by
  show (l6.take _).toArray.size = _
  rw [List.size_toArray, List.length_take]; omega
 have htl := Hm.treeOk_len hp.tree (Hm.rdN_lt s)
 obtain ⟨col, c1, c2, cw⟩ := Hm.treeOk_tells hp.tree
 have hvs : (treeCells ⟨(l8.take (Hm.szB st.len)).toArray⟩ st.len g (Hm.tabOf L) (.slice (some ⟨ng, 0, none⟩) st.nds.length nc) st.ws (Hm.rdN s).1).toArray.size = 773 := by
  rw [List.size_toArray]; exact treeCells_length _ _ _ _ _ _ _ (Hm.tabTo_length _ _ _ _) cw.1
 have hel5 : (endsCells l6 (Hm.rdF s).1 (Hm.rdN s).1 ge).length = 5 := rfl
 have hrl := rowsL_length (treeCells ⟨(l8.take (Hm.szB st.len)).toArray⟩ st.len g (Hm.tabOf L) (.slice (some ⟨ng, 0, none⟩) st.nds.length nc) st.ws (Hm.rdN s).1).toArray (Hm.rdR s).1 (Hm.firsts st.ws) hvs (by unfold Hm.firsts; rw [List.length_map, List.length_range])
 have hc : ∀ j, j < 773 → w.cell? ⟨pa, 6 + j, none⟩ = (treeCells ⟨(l8.take (Hm.szB st.len)).toArray⟩ st.len g (Hm.tabOf L) (.slice (some ⟨ng, 0, none⟩) st.nds.length nc) st.ws (Hm.rdN s).1)[j]? := fun j hj => by
  rw [cell_of_row _ _ (6 + j) _ _ _ a2, List.getElem?_toArray, archL_rows _ _ _ _ hel5 j (by omega), rowsL_tree _ _ _ hvs j hj, List.getElem?_toArray]
 refine ⟨cell_of_row _ _ 0 _ _ _ a2, a3, ⟨⟨cell_of_row _ _ 1 _ _ _ a2, cell_of_row _ _ 2 _ _ _ a2, ?_, ?_⟩, cell_of_row _ _ 4 _ _ _ a2, cell_of_row _ _ 5 _ _ _ a2⟩, ⟨⟨⟨hc 0 (by omega), hc 1 (by omega), hc 2 (by omega), ?_⟩, ?_, a6⟩, ?_, fun b hb => ?_⟩, ?_⟩
 ·rw [hse]; exact cell_of_row _ _ 3 _ _ _ a2
 ·exact a4
 ·exact a5
 ·rw [show 6 + 515 = 6 + 515 from rfl, hc 515 (by omega)]; exact treeCells_nodes _ _ _ _ _ _ _ (Hm.tabTo_length _ _ _ _)
 ·rw [cell_of_row _ _ (6 + 773) _ _ _ a2, List.getElem?_toArray, archL_rows _ _ _ _ hel5 773 (by omega), rowsL_root _ _ _ hvs]
 ·rw [cell_of_row _ _ (6 + 774 + b) _ _ _ a2, List.getElem?_toArray, show 6 + 774 + b = 6 + (774 + b) from by omega, archL_rows _ _ _ _ hel5 (774 + b) (by omega), rowsL_firsts _ _ _ hvs b hb]
 ·rw [show (778 : Nat) = 6 + 772 from rfl, hc 772 (by omega)]; exact treeCells_total _ _ _ _ _ _ _ (Hm.tabTo_length _ _ _ _) cw.1

end Go.Proofs.YtegnkfdbmmndaaaGreat
end
