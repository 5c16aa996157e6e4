import Derived.Test.YtegnkfdbmmndaaaGreatShelfThree
import Derived.Test.YtegnkfdbmmndaaaGreatJ11
import Derived.Shelf.Sort.Plain
import Derived.Test.YtegnkfdbmmndaaaGreatJ29
import Derived.Deep.Cut
import Derived.Deep.CutRange

/- FndG -/
section
/- Numbers are sorted by the library. -/
namespace Go.Proofs.YtegnkfdbmmndaaaGreat
open Go.RowKit Go.Sort Go.Shelf

theorem sortInts_any (g c : Nat) (l : List Nat) (w : World) (h : IntRow w g l) (hl : l.length ≤ 1000000) :
  Calls Tryz.prog 163 #[.slice (some ⟨g, 0, none⟩) l.length c] w fun e w' => e = .returned (.tuple #[]) ∧ ∃ l' : List Nat, l'.Perm l ∧ l'.Pairwise (· ≤ ·) ∧ IntRow w' g l' ∧ Kept (fun j => j = g) w w' := by
 have hS := Any.slices_Sort_int Tryz.lays189 g 0 c (l.map fun x : Nat => (x : Int)) w
  (fun j hj => by
   have hjl : j < l.length := by simpa using hj
   refine ⟨?_, by simpa using h.free j⟩
   rw [Nat.zero_add, h.cell hjl, getElem!_pos _ j hj]
   simp)
  h.lt (by rw [List.length_map]; omega)
 rw [List.length_map] at hS
 refine hS.mono fun e w' ⟨he, m, os, hw⟩ => ⟨he, l.mergeSort (fun x y => decide (x ≤ y)), List.mergeSort_perm _ _, ?_, ?_, ?_⟩
 ·have := List.pairwise_mergeSort (le := fun x y : Nat => decide (x ≤ y)) (fun a b c h1 h2 => by simp at *; omega) (fun a b => by simp; omega) l
  exact this.imp fun h => by simpa using h
 ·have e1 : (l.map fun x : Nat => (x : Int)).mergeSort (fun x y => decide (x ≤ y)) = (l.mergeSort fun x y => decide (x ≤ y)).map fun x : Nat => (x : Int) := by
   rw [List.map_mergeSort]
   intro a _ b _
   simp
  rw [hw, e1]
  unfold IntRow
  have e2 := sortWorld_row (Value.int .i64) w g m ((l.mergeSort fun x y => decide (x ≤ y)).map fun x : Nat => (x : Int)).toArray os _ _ h (by simp [icells])
  refine Eq.trans e2 ?_
  congr 2
  apply Array.ext'
  simp [icells]
 ·rw [hw]; exact kept_sortWorld _ w g 0 m _ os

end Go.Proofs.YtegnkfdbmmndaaaGreat
end

/- FndH -/
section
/- Where a pattern stands in the text. -/
namespace Go.Proofs.YtegnkfdbmmndaaaGreat
open Go.RowKit

theorem ArchAt.tab {B : Nat} {w : World} {pa : Nat} {s l6 : List UInt8} {L : List Nat} {l8 : List UInt8} {st : Hm.LaySt} (h : ArchAt B w pa s l6 L l8 st) (hp : Hm.Parse s l6 L l8 st) (b : UInt8) :
  w.cell? ⟨pa, 6 + 3 + b.toNat * 2, none⟩ = some (.int .u64 ((Hm.codeOf L b).1 : Nat)) ∧ w.cell? ⟨pa, 6 + 3 + b.toNat * 2 + 1, none⟩ = some (.int .i64 ((Hm.codeOf L b).2 : Nat)) := by
 obtain ⟨gn, ge, g, ng, nc, gs, b1, b2, b3, b4, b5, a2, a3, a4, a5, a6, a7⟩ := h
 obtain ⟨col, c1, c2, cw⟩ := Hm.treeOk_tells hp.tree
 have hbn := b.toNat_lt
 have htl : (Hm.tabOf L).length = 256 := Hm.tabTo_length _ _ _ _
 have hvs : (treeCells ⟨(l8.take (Hm.szB st.len)).toArray⟩ st.len g (Hm.tabOf L) (.slice (some ⟨ng, 0, none⟩) st.nds.length nc) st.ws (Hm.rdN s).1).toArray.size = 773 := by
  rw [List.size_toArray]; exact treeCells_length _ _ _ _ _ _ _ htl cw.1
 have hel5 : (endsCells l6 (Hm.rdF s).1 (Hm.rdN s).1 ge).length = 5 := rfl
 have hrl := rowsL_length (treeCells ⟨(l8.take (Hm.szB st.len)).toArray⟩ st.len g (Hm.tabOf L) (.slice (some ⟨ng, 0, none⟩) st.nds.length nc) st.ws (Hm.rdN s).1).toArray (Hm.rdR s).1 (Hm.firsts st.ws) hvs (by unfold Hm.firsts; rw [List.length_map, List.length_range])
 have hc : ∀ j, j < 773 → w.cell? ⟨pa, 6 + j, none⟩ = (treeCells ⟨(l8.take (Hm.szB st.len)).toArray⟩ st.len g (Hm.tabOf L) (.slice (some ⟨ng, 0, none⟩) st.nds.length nc) st.ws (Hm.rdN s).1)[j]? := fun j hj => by
  rw [cell_of_row _ _ (6 + j) _ _ _ a2, List.getElem?_toArray, archL_rows _ _ _ _ hel5 j (by omega), rowsL_tree _ _ _ hvs j hj, List.getElem?_toArray]
 have hlt : b.toNat < (Hm.tabOf L).length := by omega
 have hg := tcells_get (Hm.tabOf L) b.toNat hlt
 have he : Hm.codeOf L b = (Hm.tabOf L)[b.toNat] := by unfold Hm.codeOf; rw [List.getD_eq_getElem?_getD, List.getElem?_eq_getElem hlt]; rfl
 rw [he]
 constructor
 ·rw [show 6 + 3 + b.toNat * 2 = 6 + (3 + b.toNat * 2) from by omega, hc _ (by omega), treeCells_tab _ _ _ _ _ _ _ _ (by omega)]
  exact hg.1
 ·rw [show 6 + 3 + b.toNat * 2 + 1 = 6 + (3 + (b.toNat * 2 + 1)) from by omega, hc _ (by omega), treeCells_tab _ _ _ _ _ _ _ _ (by omega)]
  exact hg.2

section
variable (hones : OnesSays) (hLn : LenSays) (B pa : Nat) (s l6 : List UInt8) (L : List Nat) (l8 : List UInt8) (st : Hm.LaySt) (fs : List (ByteArray × ByteArray)) (ps : List Nat) (w : World) (hP : Hm.Parse s l6 L l8 st) (hA : ArchAt B w pa s l6 L l8 st) (hI : Hm.ArchIs fs s l6 l8 st ps)
include hones hP hA hI

theorem findOf_any (P : List UInt8) (hPl : P.length ≤ 281474976710656) :
  Calls Tryz.prog 159 #[.func (.func 160) #[.pointer (some ⟨pa, 6, none⟩)] #[], .int .i64 (ps.length : Nat), .string ⟨P.toArray⟩] w fun e w' => (∃ lo hi : Nat, e = .returned (.tuple #[.int .i64 (lo : Nat), .int .i64 (hi : Nat)]) ∧ Hm.RowsOf (Hm.textOf fs) ps P lo hi) ∧ Kept (fun _ => False) w w' := by
 obtain ⟨gn, ge, g, ng, nc, gs, Pt⟩ := hA.parts hP
 obtain ⟨hcl, hct, hcw⟩ := Hm.colRd_is hP.tree
 have hby := Hm.colRd_by hP.tree
 have hN := Hm.rdN_lt s
 have hroot := (Hm.rdM_inv hP.names).2
 have htl := Hm.treeOk_len hP.tree hN
 have hts : (⟨(l8.take (Hm.szB st.len)).toArray⟩ : ByteArray).size ≤ 1000000 := by show (l8.take _).toArray.size ≤ _; rw [List.size_toArray, List.length_take]; omega
 have hnN := hI.nN
 have hsm := hI.small
 have hst := hI.sorted
 have hpl : ps.length = (Hm.textOf fs).length + 1 := by have := hst.perm.length_eq; simpa using this
 rw [hnN] at hroot hcl
 rw [hnN, hI.col] at hct hcw hby
 rw [hI.col] at hcl
 refine find_any pa 6 P (Hm.textOf fs) ps st.ws w hst hcw hsm hPl (fun W b r1 r2 hk h1 h2 => ?_)
 have hAW := hA.kept hk (fun _ _ _ => id) id
 obtain ⟨gn', ge', g', ng', nc', gs', Pt'⟩ := hAW.parts hP
 have h := bounds_any pa 6 st.len g' ng' nc' (Hm.rdR s).1 r1 r2 b ⟨(l8.take (Hm.szB st.len)).toArray⟩ st.nds st.ws (Hm.colOf (Hm.textOf fs) ps) W Pt'.rows (by omega) (by omega) (by omega) (by omega) (fun x hx => by have := hcw.first_le x (by omega); omega)
  (fun W2 a hk2 ha => by
   have hAW2 := hAW.kept hk2 (fun _ _ _ => id) id
   obtain ⟨t0, t1⟩ := hAW2.tab hP b
   exact ahead_any hones pa 6 st.len g' ng' nc' a _ _ b _ st.nds (Hm.colOf (Hm.textOf fs) ps) L W2 (Pt'.rows.tree.kept hk2 id id id) hP.tree.1 hby ha hts (by omega) t0 t1 rfl rfl)
 rw [hI.nR] at h
 exact h

include hLn in
theorem placeOf_any (row q : Nat) (hq : ps[row]? = some q) :
  Calls Tryz.prog 161 #[.func (.func 34) #[.pointer (some ⟨pa, 6, none⟩)] #[], .func (.func 162) #[.pointer (some ⟨pa, 1036, none⟩)] #[], .int .i64 row] w fun e w' => e = .returned (.int .i64 (q : Nat)) ∧ Kept (fun _ => False) w w' := by
 obtain ⟨gn, ge, g, ng, nc, gs, Pt⟩ := hA.parts hP
 obtain ⟨gs2, hS⟩ := hA.samp hP
 obtain ⟨hcl, hct, hcw⟩ := Hm.colRd_is hP.tree
 have hN := Hm.rdN_lt s
 have hroot := (Hm.rdM_inv hP.names).2
 have htl := Hm.treeOk_len hP.tree hN
 have hts : (⟨(l8.take (Hm.szB st.len)).toArray⟩ : ByteArray).size ≤ 1000000 := by show (l8.take _).toArray.size ≤ _; rw [List.size_toArray, List.length_take]; omega
 have hn := hI.small
 have hnN := hI.nN
 have hperm := hI.sorted.perm
 have hpl' : ps.length = (Hm.textOf fs).length + 1 := by have := hperm.length_eq; simpa using this
 have hsl : (Hm.samples ps).length = Hm.sampLen (Hm.textOf fs).length := Hm.samples_length hperm
 obtain ⟨X, hX⟩ := hI.samp
 have hT : (l8.drop (Hm.szB st.len)).take (Hm.szB (Hm.sampLen (Hm.rdN s).1)) = Hm.packBits (Hm.samples ps) := by
  rw [hX, hnN, ← hsl, ← Hm.szB_pack, List.take_left]
 have hrk := hP.samp.told
 rw [hT] at hS hrk
 obtain ⟨T, hTe⟩ : ∃ T, T = (⟨(Hm.packBits (Hm.samples ps)).toArray⟩ : ByteArray) := ⟨_, rfl⟩
 have hTl : T.data.toList = Hm.packBits (Hm.samples ps) := by rw [hTe]
 have hTs : T.size = Hm.szB (Hm.sampLen (Hm.textOf fs).length) := by rw [hTe]; show (Hm.packBits (Hm.samples ps)).toArray.size = _; rw [List.size_toArray, Hm.szB_pack, hsl]
 rw [← hTe] at hS
 rw [← hTl] at hrk
 have hbl : Lib.bitLen ((Hm.textOf fs).length / 8) ≤ 10 := Lib.bitLen_le _ 10 (by omega) (by omega)
 have hmul : ((Hm.textOf fs).length / 8 + 1) * Lib.bitLen ((Hm.textOf fs).length / 8) ≤ 751 * 10 := Nat.mul_le_mul (by omega) hbl
 have hsz : Hm.sampLen (Hm.textOf fs).length ≤ 100000 := by unfold Hm.sampLen; omega
 have hszb : Hm.szB (Hm.sampLen (Hm.textOf fs).length) = (Hm.sampLen (Hm.textOf fs).length + 7) / 8 := rfl
 rw [hnN] at hS hrk hroot hcl
 rw [hnN, hI.col] at hct hcw
 rw [hI.col] at hcl
 have hst := hI.sorted
 refine rowPlace_any hones pa 6 1036 st.len g ng nc (Hm.rdR s).1 row q _ st.nds st.ws (Hm.colOf (Hm.textOf fs) ps) ps w Pt.rows hct hcw (by omega) hts (by omega) (fun W r p hk hr => ?_) (fun row q k hq hkq => ?_) hq
 ·exact sampPlace_any hones hLn pa 1036 _ gs2 (Hm.textOf fs).length r p T ps W (hS.kept hk id id) hn (by omega) hperm (fun p _ => by rw [hTl]; exact Hm.bitB_pack _ p) (by omega) hrk hr
 ·have hr : row < ps.length := by
   rcases Nat.lt_or_ge row ps.length with h | h
   ·exact h
   ·rw [List.getElem?_eq_none h] at hq; cases hq
  rw [List.getElem?_eq_getElem hr] at hq
  have hq' := Option.some.inj hq
  have hqn : q ≤ (Hm.textOf fs).length := by
   have := hperm.subset (List.getElem_mem hr)
   rw [hq'] at this
   have := List.mem_range.1 this
   omega
  obtain ⟨_, hj, e⟩ := Hm.backTo_from hst hcw row q hr hq' hqn k hkq
  refine ⟨by omega, by omega, ?_⟩
  rw [hI.nR, List.getElem?_eq_getElem hj]
  exact congrArg some e
end

end Go.Proofs.YtegnkfdbmmndaaaGreat
end

/- FndI -/
section
/- All places of a pattern in the text. -/
namespace Go.Proofs.YtegnkfdbmmndaaaGreat
open Go.RowKit

namespace Hm
/-- All places of a pattern in a text, in order. -/
structure OccT (t P : List UInt8) (l : List Nat) : Prop where
 asc : l.Pairwise (· < ·)
 iff : ∀ q, q ∈ l ↔ (q ≤ t.length ∧ P <+: t.drop q)
theorem OccT.of {t P : List UInt8} {ps l : List Nat} {lo hi : Nat} (h : Sorted t ps) (hr : RowsOf t ps P lo hi) (hp : l.Perm ((ps.drop lo).take (hi - lo))) (ha : l.Pairwise (· ≤ ·)) : OccT t P l := by
 have hnd : ps.Nodup := h.perm.symm.nodup List.nodup_range
 have hnl : l.Nodup := hp.symm.nodup ((hnd.sublist (List.drop_sublist lo ps)).sublist (List.take_sublist _ _))
 refine ⟨?_, fun q => ?_⟩
 ·have := ha.and hnl
  exact this.imp fun ⟨h1, h2⟩ => by omega
 ·rw [hp.mem_iff]
  constructor
  ·intro hm
   obtain ⟨i, hi', rfl⟩ := List.getElem_of_mem hm
   have hi2 := hi'
   rw [List.length_take, List.length_drop] at hi2
   rw [List.getElem_take, List.getElem_drop]
   refine ⟨?_, (hr.iff (lo + i) (by omega)).1 ⟨by omega, by omega⟩⟩
   have := h.perm.subset (List.getElem_mem (show lo + i < ps.length by omega))
   have := List.mem_range.1 this
   omega
  ·rintro ⟨h1, h2⟩
   obtain ⟨j, hj, e⟩ := row_of h q h1
   have hjr := (hr.iff j hj).2 (by rw [e]; exact h2)
   have : ((ps.drop lo).take (hi - lo))[j - lo]? = some q := by
    rw [List.getElem?_take, if_pos (by omega), List.getElem?_drop, show lo + (j - lo) = j from by omega, List.getElem?_eq_getElem hj, e]
   exact List.mem_of_getElem? this
/-- The row of places while they are told. -/
def tellTo (qs : List Nat) (m k : Nat) : List Nat := qs.take k ++ List.replicate (m - k) 0
theorem tellTo_length (qs : List Nat) (m k : Nat) (hm : qs.length = m) (hk : k ≤ m) : (tellTo qs m k).length = m := by
 unfold tellTo; rw [List.length_append, List.length_take, List.length_replicate]; omega
theorem tellTo_set (qs : List Nat) (m k : Nat) (hm : qs.length = m) (hk : k < m) (q : Nat) (hq : qs[k]? = some q) : (tellTo qs m k).set k q = tellTo qs m (k + 1) := by
 unfold tellTo
 have hl : (qs.take k).length = k := by rw [List.length_take]; omega
 rw [List.set_append_right _ _ (by omega), hl, Nat.sub_self, show m - k = (m - (k + 1)) + 1 from by omega, List.replicate_succ, List.set_cons_zero, List.take_add_one, hq]
 simp
end Hm

set_option maxRecDepth 20000 in
set_option maxHeartbeats 2000000 in
theorem inText_any (hones : OnesSays) (hLn : LenSays) (B pa : Nat) (s l6 : List UInt8) (L : List Nat) (l8 : List UInt8) (st : Hm.LaySt) (fs : List (ByteArray × ByteArray)) (ps : List Nat) (w : World) (hP : Hm.Parse s l6 L l8 st) (hA : ArchAt B w pa s l6 L l8 st) (hI : Hm.ArchIs fs s l6 l8 st ps) (P : List UInt8) (hPl : P.length ≤ 281474976710656) :
  Calls Tryz.prog 115 #[.pointer (some ⟨pa, 0, none⟩), .string ⟨P.toArray⟩] w fun e w' => ∃ (g : Nat) (l : List Nat), e = .returned (.slice (some ⟨g, 0, none⟩) l.length l.length) ∧ w.heap.size ≤ g ∧ IntRow w' g l ∧ l.length ≤ 6001 ∧ Hm.OccT (Hm.textOf fs) P l ∧ Kept (fun _ => False) w w' := by
 obtain ⟨i0, hi, hz0, hz1, hz2⟩ := info_parts info_int
 have hst := hI.sorted
 have hsm := hI.small
 have hpl : ps.length = (Hm.textOf fs).length + 1 := by have := hst.perm.length_eq; simpa using this
 obtain ⟨gn, ge, g, ng, nc, gs, Pt⟩ := hA.parts hP
 have htt := Pt.total
 rw [hI.nN] at htt
 have hpw : pa < w.heap.size := World.block_lt_of_cell? _ _ htt
 obtain ⟨S, hS⟩ : ∃ S, S = (⟨P.toArray⟩ : ByteArray) := ⟨_, rfl⟩
 have hfd := fun W (hk : Kept (fun _ => False) w W) => findOf_any hones B pa s l6 L l8 st fs ps W hP (hA.kept hk (fun _ _ _ => id) id) hI P hPl
 rw [← hS] at hfd ⊢
 have HPO : Hid (∀ W (row q : Nat), Kept (fun _ => False) w W → ps[row]? = some q → Calls Tryz.prog 161 #[.func (.func 34) #[.pointer (some ⟨pa, 6, none⟩)] #[], .func (.func 162) #[.pointer (some ⟨pa, 1036, none⟩)] #[], .int .i64 (row : Nat)] W fun e w' => e = .returned (.int .i64 (q : Nat)) ∧ Kept (fun _ => False) W w') :=
  fun W row q hk hq => placeOf_any hones hLn B pa s l6 L l8 st fs ps W hP (hA.kept hk (fun _ _ _ => id) id) hI row q hq
 obtain ⟨N, hN⟩ : ∃ N, N = (Hm.textOf fs).length := ⟨_, rfl⟩
 rw [hpl, ← hN] at hfd
 rw [← hN] at htt hpl hsm
 have HFD : Hid (∀ W, Kept (fun _ => False) w W → Calls Tryz.prog 159 #[.func (.func 160) #[.pointer (some ⟨pa, 6, none⟩)] #[], .int .i64 ((N : Int) + 1), .string S] W fun e w' => (∃ lo hi : Nat, e = .returned (.tuple #[.int .i64 (lo : Nat), .int .i64 (hi : Nat)]) ∧ Hm.RowsOf (Hm.textOf fs) ps P lo hi) ∧ Kept (fun _ => False) W w') := fun W hk => by
  have := hfd W hk
  rwa [show ((N + 1 : Nat) : Int) = (N : Int) + 1 from by omega] at this
 have HTO : Hid (∀ W, Kept (fun _ => False) w W → Calls Tryz.prog 35 #[.pointer (some ⟨pa, 6, none⟩)] W fun e w' => e = .returned (.int .i64 (N : Nat)) ∧ w' = W) := fun W hk => total_any pa 6 N W ((hk.cell (p := ⟨pa, 778, none⟩) hpw id).trans htt)
 have HST : Hid (Hm.Sorted (Hm.textOf fs) ps) := hst
 have hwN : IntKind.i64.wrap ((N : Int) + 1) = (N : Int) + 1 := by rw [IntKind.wrap_i64]; omega
 clear hfd htt Pt hP hA hI hst hN hS
 go_enter Tryz.func115, Tryz.ntmps115
 go_wp2_with fail
 go_cut [5, 6] from 9 (fun v5 v6 wz => ∃ lo hi : Nat, v5 = .int .i64 lo ∧ v6 = .int .i64 hi ∧ Hid (Hm.RowsOf (Hm.textOf fs) ps P lo hi ∧ Kept (fun _ => False) w wz))
 case first =>
  go_region_held (fun X => Hid (Kept (fun _ => False) w X)) (first | exact k2 | exact k1 | exact (Kept.refl (fun _ => False) w).drew)
   (first
    | (go_at_call 35; (refine (HTO.out _ (Kept.refl (fun _ => False) w).drew).mono ?_; rintro e w1 ⟨rfl, hq1⟩; have k1 : Hid (Kept (fun _ => False) w w1) := (by rw [hq1]; exact (Kept.refl (fun _ => False) w).drew); clear hq1))
    | (go_at_call 159; (refine (HFD.out _ k1.out).mono ?_; rintro e w2 ⟨⟨lo, hi, rfl, hro⟩, hq2⟩; have k2 : Hid (Kept (fun _ => False) w w2) := k1.out.trans hq2 (fun _ _ h => h); clear hq2)))
  all_goals (go_wp2_with fail; go_meet; case rel => exact ⟨_, _, rfl, rfl, hro, k2.out⟩)
 case rest =>
  obtain ⟨lo, hi', rfl, rfl, HG⟩ := hcut
  obtain ⟨m, hm⟩ : ∃ m, m = hi' - lo := ⟨_, rfl⟩
  have hle := HG.out.1.le
  have hin := HG.out.1.in'
  have zm : (hi' : Int) - (lo : Int) = (m : Int) := by omega
  obtain ⟨qs, hqs⟩ : ∃ qs, qs = (ps.drop lo).take (hi' - lo) := ⟨_, rfl⟩
  have hql : qs.length = m := by rw [hqs, List.length_take, List.length_drop]; omega
  have HQ : Hid (∀ k, k < m → ∃ q, qs[k]? = some q ∧ ps[lo + k]? = some q) := fun k hk => by
   refine ⟨qs[k]'(by omega), List.getElem?_eq_getElem (by omega), ?_⟩
   have e : qs[k]? = ps[lo + k]? := by rw [hqs, List.getElem?_take, if_pos (by omega), List.getElem?_drop]
   rw [← e, List.getElem?_eq_getElem (by omega)]
  have HQS : Hid (qs = (ps.drop lo).take (hi' - lo) ∧ qs.length = m) := ⟨hqs, hql⟩
  have hm6 : m ≤ 6001 := by omega
  have hlo6 : lo ≤ 6001 := by omega
  have hwz := HG.out.2.size
  clear hm hqs hql HFD HTO
  go_wp2_with (at_make; refine wpList_make_full _ rfl (.tmp 26) (.tmp 26) 64 rfl wc.heap.size 3 i0 (.int .i64 0) 1 Tryz.underlying64 hi hz0 hz1 .i64 .i64 _ _ m rfl rfl rfl rfl (by rw [hz2]; omega) (by unfold maxLen; omega) (Nat.le_refl _) ?_; intro w1 ho1 hg1)
  have HK1 : Hid (Kept (fun _ => False) w w1 ∧ IntRow w1 wc.heap.size (List.replicate m 0)) := ⟨HG.out.2.trans ((Kept.refl _ _).grown hg1 (fun k hk => by cases hk)) (fun _ _ h => h), IntRow.made ho1⟩
  clear ho1 hg1
  obtain ⟨gW, hgW⟩ : ∃ g, g = wc.heap.size := ⟨_, rfl⟩
  rw [← hgW] at HK1 hwz ⊢
  clear hgW
  go_wp2_with fail
  go_loopw [8, 30] (fun _ vi wr => ∃ k : Nat, k ≤ m ∧ vi = .int .i64 k ∧ IntRow wr gW (Hm.tellTo qs m k) ∧ Kept (fun _ => False) w wr) (fun _ vi _ => m - (intOf vi).toNat)
  case atStart => exact ⟨0, Nat.zero_le _, rfl, HK1.out.2, HK1.out.1⟩
  case round =>
   obtain ⟨k, hk, rfl, hrow, hkr⟩ := hrel
   by_cases hlt : k < m
   ·obtain ⟨q, hq1, hq2⟩ := HQ.out k hlt
    have hpo := fun W (hk : Kept (fun _ => False) w W) => HPO.out W (lo + k) q hk hq2
    have hltI : (k : Int) < (m : Int) := by omega
    have HR : Hid (IntRow wr gW (Hm.tellTo qs m k) ∧ Kept (fun _ => False) w wr ∧ (Hm.tellTo qs m k).length = m ∧ (Hm.tellTo qs m k).set k q = Hm.tellTo qs m (k + 1)) := ⟨hrow, hkr, Hm.tellTo_length qs m k HQS.out.2 hk, Hm.tellTo_set qs m k HQS.out.2 hlt q hq1⟩
    have HPW : Hid (∀ W, Kept (fun _ => False) w W → Calls Tryz.prog 161 #[.func (.func 34) #[.pointer (some ⟨pa, 6, none⟩)] #[], .func (.func 162) #[.pointer (some ⟨pa, 1036, none⟩)] #[], .int .i64 ((lo : Int) + (k : Int))] W fun e w' => e = .returned (.int .i64 (q : Nat)) ∧ Kept (fun _ => False) W w') := fun W hk => by
     have := hpo W hk
     rwa [show ((lo + k : Nat) : Int) = (lo : Int) + (k : Int) from by omega] at this
    have hwl : IntKind.i64.wrap ((lo : Int) + (k : Int)) = (lo : Int) + (k : Int) := by rw [IntKind.wrap_i64]; omega
    clear hrow hkr hpo hq1 hq2
    go_wp2_with fail
    go_region_with (first
     | (go_at_call 161; (refine (HPW.out _ HR.out.2.1.drew).mono ?_; rintro e w5 ⟨rfl, hk5⟩; have k5 : Hid (Kept (fun _ => False) w w5) := HR.out.2.1.drew.trans hk5 (fun _ _ h => h); have r5 : IntRow w5 gW (Hm.tellTo qs m k) := hk5.row HR.out.1 id; have c5 := r5.cell (i := k) (by rw [HR.out.2.2.1]; exact hlt); have f5 := r5.free k; have R5 : Hid (IntRow w5 gW (Hm.tellTo qs m k)) := r5; clear r5 hk5)))
    all_goals (
     go_wp2_with fail
     go_roundw
     case rel =>
      refine ⟨k + 1, by omega, by go_num, ?_, k5.out.setCell (p := ⟨gW, k, none⟩) (.inl hwz) _⟩
      rw [← HR.out.2.2.2]; exact R5.out.set k q
     case measure => simp [intOf]; omega)
   ·have hltI : ¬ (k : Int) < (m : Int) := by omega
    have hkm : k = m := by omega
    have hfull : Hm.tellTo qs m k = qs := by
     unfold Hm.tellTo
     rw [hkm, Nat.sub_self, List.replicate_zero, List.append_nil, List.take_of_length_le (by rw [HQS.out.2]; exact Nat.le_refl _)]
    rw [hfull] at hrow
    have hso := sortInts_any gW m qs wr hrow (by rw [HQS.out.2]; omega)
    rw [HQS.out.2] at hso
    have HKR : Hid (Kept (fun _ => False) w wr) := hkr
    clear hrow hkr hfull hkm
    go_wp2_with fail
    refine hso.mono ?_
    rintro e w6 ⟨rfl, l, hperm, hasc, hrow6, hk6⟩
    have hll : l.length = m := by rw [hperm.length_eq, HQS.out.2]
    have HF : Hid (IntRow w6 gW l ∧ l.length = m ∧ Hm.OccT (Hm.textOf fs) P l ∧ Kept (fun _ => False) w w6) := ⟨hrow6, hll, Hm.OccT.of HST.out HG.out.1 (by rw [← HQS.out.1]; exact hperm) hasc, HKR.out.trans hk6 (fun j hj e => by omega)⟩
    clear hso hperm hasc hrow6 hk6 hll
    go_wp2_with fail
    go_ret
    exact ⟨gW, l, by rw [HF.out.2.1]; rfl, by have := HG.out.2.size; omega, HF.out.1, by rw [HF.out.2.1]; omega, HF.out.2.2.1, HF.out.2.2.2⟩

end Go.Proofs.YtegnkfdbmmndaaaGreat
end

/- RndF -/
section
/- Extract of an archive. -/
namespace Go.Proofs.YtegnkfdbmmndaaaGreat
open Go.RowKit

namespace Hm
theorem textOf_take_succ (fs : List (ByteArray × ByteArray)) (i : Nat) (hi : i < fs.length) : (textOf (fs.take (i + 1))).length = (textOf (fs.take i)).length + fs[i].2.size := by
 rw [List.take_succ_eq_append_getElem hi]
 unfold textOf
 rw [List.flatMap_append, List.length_append]; simp
theorem part_in (fs : List (ByteArray × ByteArray)) (i : Nat) (hi : i < fs.length) (a n : Nat) (h : a + n ≤ fs[i].2.size) : part (textOf fs) ((textOf (fs.take i)).length + a) ((textOf (fs.take i)).length + a + n) = (fs[i].2.data.toList.drop a).take n := by
 have h1 := part_text fs i hi
 rw [textOf_take_succ fs i hi] at h1
 rw [← h1]
 unfold part
 rw [List.drop_take, List.drop_drop, List.take_take]
 congr 1
 omega
theorem text_in (fs : List (ByteArray × ByteArray)) (i : Nat) (hi : i < fs.length) : (textOf (fs.take i)).length + fs[i].2.size ≤ (textOf fs).length := by
 have h1 := textOf_take_le fs (i := i + 1) (j := fs.length) (by omega)
 rw [textOf_take_succ fs i hi, List.take_length] at h1
 exact h1
end Hm

/-- A file's ends, called of an archive. -/
theorem fileOf_any (hones : OnesSays) (B pa : Nat) (s l6 : List UInt8) (L : List Nat) (l8 : List UInt8) (st : Hm.LaySt) (fs : List (ByteArray × ByteArray)) (ps : List Nat) (w : World) (hP : Hm.Parse s l6 L l8 st) (hA : ArchAt B w pa s l6 L l8 st) (hI : Hm.ArchIs fs s l6 l8 st ps) (i : Nat) (hi : i < fs.length) :
  Calls Tryz.prog 36 #[.pointer (some ⟨pa, 1, none⟩), .int .i64 (i : Nat)] w fun e w' => e = .returned (.tuple #[.int .i64 ((Hm.textOf (fs.take i)).length : Nat), .int .i64 ((Hm.textOf (fs.take i)).length + fs[i].2.size : Nat)]) ∧ Kept (fun _ => False) w w' := by
 obtain ⟨gn, ge, g, ng, nc, gs, P⟩ := hA.parts hP
 have h := fileRd_any hones pa ge i s l6 w P.ends hP.ends (by rw [hI.nF]; exact hi)
 rw [hI.froms i hi, hI.ends i hi, Hm.textOf_take_succ fs i hi] at h
 exact h

end Go.Proofs.YtegnkfdbmmndaaaGreat
end

/- FndK -/
section
/- Places in the files. -/
namespace Go.Proofs.YtegnkfdbmmndaaaGreat
namespace Hm

/-- The file that holds a place, and where in it. -/
def holdOf : List (ByteArray × ByteArray) → Nat → Nat × Nat
 | [], q => (0, q)
 | f :: r, q => if q < f.2.size then (0, q) else ((holdOf r (q - f.2.size)).1 + 1, (holdOf r (q - f.2.size)).2)
def endT (fs : List (ByteArray × ByteArray)) (k : Nat) : Nat := (textOf (fs.take k)).length
theorem endT_cons (f : ByteArray × ByteArray) (r : List (ByteArray × ByteArray)) (k : Nat) : endT (f :: r) (k + 1) = f.2.size + endT r k := by
 unfold endT
 rw [List.take_succ_cons]
 unfold textOf
 rw [List.flatMap_cons, List.length_append]; simp
theorem endT_succ (fs : List (ByteArray × ByteArray)) (k : Nat) (hk : k < fs.length) : endT fs (k + 1) = endT fs k + fs[k].2.size := textOf_take_succ fs k hk
theorem endT_mono (fs : List (ByteArray × ByteArray)) {i j : Nat} (h : i ≤ j) : endT fs i ≤ endT fs j := textOf_take_le fs h
theorem holdOf_is : ∀ (fs : List (ByteArray × ByteArray)) (k q : Nat) (hk : k < fs.length), endT fs k ≤ q → q < endT fs k + fs[k].2.size → holdOf fs q = (k, q - endT fs k)
 | [], k, q, hk, _, _ => by simp at hk
 | f :: r, 0, q, _, h1, h2 => by
  have e : endT (f :: r) 0 = 0 := rfl
  rw [e] at h2 ⊢
  have h2 : q < 0 + f.2.size := h2
  rw [holdOf, if_pos (by omega)]; rfl
 | f :: r, k + 1, q, hk, h1, h2 => by
  rw [endT_cons] at h1 h2 ⊢
  have h2 : q < f.2.size + endT r k + (r[k]'(by simpa using hk)).2.size := h2
  have ih := holdOf_is r k (q - f.2.size) (by simpa using hk) (by omega) (by omega)
  rw [holdOf, if_neg (by omega), ih]
  congr 1
  show q - f.2.size - endT r k = _
  omega
theorem hold_there : ∀ (fs : List (ByteArray × ByteArray)) (q : Nat), q < (textOf fs).length → ∃ k, ∃ hk : k < fs.length, endT fs k ≤ q ∧ q < endT fs k + fs[k].2.size
 | [], q, h => by simp [textOf] at h
 | f :: r, q, h => by
  by_cases c : q < f.2.size
  ·exact ⟨0, by simp, Nat.zero_le _, by show q < 0 + f.2.size; omega⟩
  ·have e : (textOf (f :: r)).length = f.2.size + (textOf r).length := by unfold textOf; rw [List.flatMap_cons, List.length_append]; simp
   obtain ⟨k, hk, h1, h2⟩ := hold_there r (q - f.2.size) (by omega)
   exact ⟨k + 1, by simpa using hk, by rw [endT_cons]; omega, by rw [endT_cons]; show q < f.2.size + endT r k + r[k].2.size; omega⟩
/-- Does a pattern at a place end within its file? -/
def fitsP (fs : List (ByteArray × ByteArray)) (n : Nat) (x : Nat × Nat) : Bool := decide (x.2 + n ≤ (fs.getD x.1 (⟨#[]⟩, ⟨#[]⟩)).2.size)
/-- The places in the files, of places in the text. -/
def plOf (fs : List (ByteArray × ByteArray)) (n : Nat) (l : List Nat) : List (Nat × Nat) := (l.map (holdOf fs)).filter (fitsP fs n)
theorem plOf_succ (fs : List (ByteArray × ByteArray)) (n : Nat) (l : List Nat) (j : Nat) (hj : j < l.length) : plOf fs n (l.take (j + 1)) = plOf fs n (l.take j) ++ if fitsP fs n (holdOf fs l[j]) = true then [holdOf fs l[j]] else [] := by
 unfold plOf
 rw [List.take_succ_eq_append_getElem hj, List.map_append, List.filter_append]
 congr 1
 show ([holdOf fs l[j]] : List (Nat × Nat)).filter _ = _
 by_cases c : fitsP fs n (holdOf fs l[j]) = true
 ·rw [List.filter_cons_of_pos c, if_pos c]; rfl
 ·rw [List.filter_cons_of_neg c, if_neg c]; rfl
theorem plOf_length (fs : List (ByteArray × ByteArray)) (n : Nat) (l : List Nat) : (plOf fs n l).length ≤ l.length := by
 unfold plOf
 exact Nat.le_trans (List.length_filter_le _ _) (by rw [List.length_map]; exact Nat.le_refl _)
def lexP (x y : Nat × Nat) : Prop := x.1 < y.1 ∨ (x.1 = y.1 ∧ x.2 < y.2)
/-- All places of a pattern in files, in order. -/
structure PlIs (fs : List (ByteArray × ByteArray)) (P : List UInt8) (pl : List (Nat × Nat)) : Prop where
 asc : pl.Pairwise lexP
 iff : ∀ k a, (k, a) ∈ pl ↔ ∃ hk : k < fs.length, P <+: fs[k].2.data.toList.drop a
theorem text_at (fs : List (ByteArray × ByteArray)) (k : Nat) (hk : k < fs.length) (a : Nat) (ha : a ≤ fs[k].2.size) : ∃ z, (textOf fs).drop (endT fs k + a) = fs[k].2.data.toList.drop a ++ z := by
 have h1 := part_in fs k hk a (fs[k].2.size - a) (by omega)
 have hl : (fs[k].2.data.toList.drop a).length = fs[k].2.size - a := by rw [List.length_drop]; simp
 have e0 : (fs[k].2.data.toList.drop a).take (fs[k].2.size - a) = fs[k].2.data.toList.drop a := List.take_of_length_le (by omega)
 rw [e0] at h1
 refine ⟨((textOf fs).drop (endT fs k + a)).drop (fs[k].2.size - a), ?_⟩
 rw [← h1]
 unfold part
 rw [show (textOf (fs.take k)).length + a + (fs[k].2.size - a) - ((textOf (fs.take k)).length + a) = fs[k].2.size - a from by omega]
 exact (List.take_append_drop _ _).symm
theorem getD_at (fs : List (ByteArray × ByteArray)) (k : Nat) (hk : k < fs.length) : fs.getD k (⟨#[]⟩, ⟨#[]⟩) = fs[k] := by rw [List.getD_eq_getElem?_getD, List.getElem?_eq_getElem hk]; rfl
theorem OccT.lt {t P : List UInt8} {l : List Nat} (h : OccT t P l) (hP : P ≠ []) {q : Nat} (hq : q ∈ l) : q < t.length := by
 obtain ⟨h1, h2⟩ := (h.iff q).1 hq
 rcases Nat.lt_or_ge q t.length with c | c
 ·exact c
 ·rw [List.drop_eq_nil_of_le c] at h2
  exact absurd (List.prefix_nil.1 h2) hP
theorem plOf_is {fs : List (ByteArray × ByteArray)} {P : List UInt8} {l : List Nat} (hP : P ≠ []) (h : OccT (textOf fs) P l) : PlIs fs P (plOf fs P.length l) := by
 refine ⟨?_, fun k a => ?_⟩
 ·unfold plOf
  refine List.Pairwise.filter _ ?_
  rw [List.pairwise_map]
  refine h.asc.imp_of_mem fun {x y} hx hy hlt => ?_
  obtain ⟨k, hk, a1, a2⟩ := hold_there fs x (h.lt hP hx)
  obtain ⟨k', hk', b1, b2⟩ := hold_there fs y (h.lt hP hy)
  rw [holdOf_is fs k x hk a1 a2, holdOf_is fs k' y hk' b1 b2]
  unfold lexP
  rcases Nat.lt_trichotomy k k' with c | c | c
  ·exact .inl c
  ·subst c; exact .inr ⟨rfl, by show x - _ < y - _; omega⟩
  ·have := endT_mono fs (show k' + 1 ≤ k from c)
   rw [endT_succ fs k' hk'] at this
   omega
 ·unfold plOf
  rw [List.mem_filter, List.mem_map]
  constructor
  ·rintro ⟨⟨q, hq, e⟩, hf⟩
   obtain ⟨k', hk', b1, b2⟩ := hold_there fs q (h.lt hP hq)
   rw [holdOf_is fs k' q hk' b1 b2] at e
   obtain ⟨rfl, rfl⟩ := Prod.mk.inj e
   refine ⟨hk', ?_⟩
   have hf2 := of_decide_eq_true hf
   rw [getD_at fs k' hk'] at hf2
   have hf3 : q - endT fs k' + P.length ≤ fs[k'].2.size := hf2
   obtain ⟨z, hz⟩ := text_at fs k' hk' (q - endT fs k') (by omega)
   have hp := ((h.iff q).1 hq).2
   rw [show endT fs k' + (q - endT fs k') = q from by omega] at hz
   rw [hz] at hp
   refine List.prefix_of_prefix_length_le hp (List.prefix_append _ _) ?_
   rw [List.length_drop]; simp; omega
  ·rintro ⟨hk, hp⟩
   have hle := hp.length_le
   have h0 : 0 < P.length := List.length_pos_iff.2 hP
   rw [List.length_drop] at hle
   have hsz : fs[k].2.data.toList.length = fs[k].2.size := by simp
   obtain ⟨z, hz⟩ := text_at fs k hk a (by omega)
   have htot := text_in fs k hk
   have ht : endT fs k = (textOf (fs.take k)).length := rfl
   refine ⟨⟨endT fs k + a, (h.iff _).2 ⟨by omega, by rw [hz]; exact hp.trans (List.prefix_append _ _)⟩, ?_⟩, ?_⟩
   ·rw [holdOf_is fs k _ hk (by omega) (by omega)]
    congr 1; omega
   ·refine decide_eq_true ?_
    show a + P.length ≤ (fs.getD k _).2.size
    rw [getD_at fs k hk]; omega

end Hm
end Go.Proofs.YtegnkfdbmmndaaaGreat
end

/- FndJ -/
section
/- Which file holds a place. -/
namespace Go.Proofs.YtegnkfdbmmndaaaGreat
open Go.RowKit

theorem endRd_any (hones : OnesSays) (pa ge k : Nat) (s l6 : List UInt8) (W : World) (h : EndsAt W pa 1 ⟨(l6.take (Hm.szB (Hm.endsLen (Hm.rdF s).1 (Hm.rdN s).1))).toArray⟩ (Hm.endsLen (Hm.rdF s).1 (Hm.rdN s).1) ge (Hm.rdF s).1 (Hm.lowR (Hm.rdF s).1 (Hm.rdN s).1)) (ho : Hm.EndsOk l6 (Hm.rdF s).1 (Hm.rdN s).1) (hk : k < (Hm.rdF s).1) :
  Calls Tryz.prog 81 #[.pointer (some ⟨pa, 1, none⟩), .int .i64 (k : Nat)] W fun e w' => e = .returned (.int .i64 (Hm.endRd s l6 k : Nat)) ∧ Kept (fun _ => False) W w' := by
 have hF := Hm.rdF_lt s
 have hN := Hm.rdN_lt s
 have hel := ho.fits
 have hco := ho.cover.ones
 have hes : (⟨(l6.take (Hm.szB (Hm.endsLen (Hm.rdF s).1 (Hm.rdN s).1))).toArray⟩ : ByteArray).size = Hm.szB (Hm.endsLen (Hm.rdF s).1 (Hm.rdN s).1) := by
  show (l6.take _).toArray.size = _
  rw [List.size_toArray, List.length_take]; omega
 have hle := Hm.endsLen_le _ _ hF hN
 have hlo := Hm.lowR_le (Hm.rdF s).1 (Hm.rdN s).1 hN
 have hml : (Hm.rdF s).1 * Hm.lowR (Hm.rdF s).1 (Hm.rdN s).1 ≤ Hm.endsLen (Hm.rdF s).1 (Hm.rdN s).1 := Nat.le_add_right _ _
 have hsz : Hm.endsLen (Hm.rdF s).1 (Hm.rdN s).1 ≤ 8 * Hm.szB (Hm.endsLen (Hm.rdF s).1 (Hm.rdN s).1) := by unfold Hm.szB; omega
 have hszb : Hm.szB (Hm.endsLen (Hm.rdF s).1 (Hm.rdN s).1) = (Hm.endsLen (Hm.rdF s).1 (Hm.rdN s).1 + 7) / 8 := rfl
 have e2 : Hm.endRd s l6 k = Hm.endAt (Hm.bitB (l6.take (Hm.szB (Hm.endsLen (Hm.rdF s).1 (Hm.rdN s).1)))) (Hm.rdF s).1 (Hm.lowR (Hm.rdF s).1 (Hm.rdN s).1) k := rfl
 have e3 : l6.take (Hm.szB (Hm.endsLen (Hm.rdF s).1 (Hm.rdN s).1)) = (⟨(l6.take (Hm.szB (Hm.endsLen (Hm.rdF s).1 (Hm.rdN s).1))).toArray⟩ : ByteArray).data.toList := rfl
 rw [e2]
 generalize (⟨(l6.take (Hm.szB (Hm.endsLen (Hm.rdF s).1 (Hm.rdN s).1))).toArray⟩ : ByteArray) = T at *
 rw [e3] at hco ⊢
 generalize Hm.lowR (Hm.rdF s).1 (Hm.rdN s).1 = low at *
 generalize Hm.szB (Hm.endsLen (Hm.rdF s).1 (Hm.rdN s).1) = z at *
 generalize Hm.endsLen (Hm.rdF s).1 (Hm.rdN s).1 = len at *
 generalize (Hm.rdF s).1 = m at *
 obtain ⟨h1, h2⟩ := Hm.posOf_is (f := Hm.bitB T.data.toList) (k := Hm.rk (Hm.bitB T.data.toList) (m * low) + k) (n := len) (by omega)
 exact end_any hones pa 1 len ge m low k _ T W h (by omega) (by omega) hk (by omega) (by omega) h2 (by omega)

set_option maxHeartbeats 1000000 in
theorem holderCl_any (pa b2 b3 i pl v : Nat) (w : World) (h2 : w.cell? ⟨b2, 0, none⟩ = some (.pointer (some ⟨pa, 1, none⟩))) (h3 : w.cell? ⟨b3, 0, none⟩ = some (.int .i64 (pl : Nat)))
  (hend : ∀ W, Kept (fun _ => False) w W → Calls Tryz.prog 81 #[.pointer (some ⟨pa, 1, none⟩), .int .i64 (i : Nat)] W fun e w' => e = .returned (.int .i64 (v : Nat)) ∧ Kept (fun _ => False) W w') :
  Calls Tryz.prog 165 #[.int .i64 (i : Nat), .pointer (some ⟨b2, 0, none⟩), .pointer (some ⟨b3, 0, none⟩)] w fun e w' => e = .returned (.bool (decide (pl < v))) ∧ Kept (fun _ => False) w w' := by
 have HD : Hid (decide ((pl : Int) < (v : Int)) = decide (pl < v)) := by
  show _ = _
  by_cases hh : pl < v
  ·rw [decide_eq_true hh, decide_eq_true (by omega)]
  ·rw [decide_eq_false hh, decide_eq_false (by omega)]
 have HE : Hid _ := hend
 have hb2 : b2 < w.heap.size := World.block_lt_of_cell? _ _ h2
 have hb3 : b3 < w.heap.size := World.block_lt_of_cell? _ _ h3
 clear hend
 go_enter Tryz.func165, Tryz.ntmps165
 go_wp2_with fail
 go_region_held (fun X => X.cell? ⟨b2, 0, none⟩ = some (.pointer (some ⟨pa, 1, none⟩)) ∧ X.cell? ⟨b3, 0, none⟩ = some (.int .i64 (pl : Nat))) (first | exact ⟨m2, m3⟩ | exact ⟨h2, h3⟩)
  (first
   | (go_at_call 81; (refine (HE.out _ (Kept.refl (fun _ => False) w).drew).mono ?_; rintro e w1 ⟨rfl, hq1⟩; have hk1 : Hid (Kept (fun _ => False) w w1) := (Kept.refl (fun _ => False) w).drew.trans hq1 (fun _ _ h => h); have m2 := (hk1.out.cell (p := ⟨b2, 0, none⟩) hb2 id).trans h2; have m3 := (hk1.out.cell (p := ⟨b3, 0, none⟩) hb3 id).trans h3; clear hq1)))
 all_goals (
  go_wp2_with fail
  go_ret
  exact ⟨by first | rfl | (rw [← HD.out]; rfl), hk1.out⟩)

set_option maxHeartbeats 1000000 in
theorem searchH_any (b2 b3 n : Nat) (p : Nat → Bool) (w : World) (hn : n ≤ 1000)
  (hf : ∀ W i, Kept (fun _ => False) w W → i < n → Calls Tryz.prog 165 #[.int .i64 (i : Nat), .pointer (some ⟨b2, 0, none⟩), .pointer (some ⟨b3, 0, none⟩)] W fun e w' => e = .returned (.bool (p i)) ∧ Kept (fun _ => False) W w')
  (hmono : ∀ a b, a ≤ b → b < n → p a = true → p b = true) :
  Calls Tryz.prog 164 #[.int .i64 (n : Nat), .func (.func 165) #[] #[.pointer (some ⟨b2, 0, none⟩), .pointer (some ⟨b3, 0, none⟩)]] w fun e w' => (∃ k : Nat, e = .returned (.int .i64 (k : Nat)) ∧ k ≤ n ∧ (∀ a, a < k → p a = false) ∧ ∀ a, k ≤ a → a < n → p a = true) ∧ Kept (fun _ => False) w w' := by
 have HF : Hid _ := hf
 have HM : Hid _ := hmono
 clear hf hmono
 go_enter Tryz.func164, Tryz.ntmps164
 go_wp2_with fail
 go_loopw [5, 6] (fun v5 v6 wr => ∃ lo hi : Nat, v5 = .int .i64 lo ∧ v6 = .int .i64 hi ∧ lo ≤ hi ∧ hi ≤ n ∧ Hid ((∀ a, a < lo → p a = false) ∧ ∀ a, hi ≤ a → a < n → p a = true) ∧ Kept (fun _ => False) w wr) (fun v5 v6 _ => (intOf v6 - intOf v5).toNat)
 case atStart => exact ⟨0, n, rfl, rfl, Nat.zero_le _, Nat.le_refl _, ⟨fun a h => by omega, fun a h1 h2 => by omega⟩, Kept.refl _ _⟩
 case round =>
  obtain ⟨lo, hi, rfl, rfl, hle, hin, HI, hkr⟩ := hrel
  have HKR : Hid (Kept (fun _ => False) w wr) := hkr
  by_cases hlt : lo < hi
  ·have hltI : (lo : Int) < (hi : Int) := by omega
   obtain ⟨md, hmd⟩ : ∃ md, md = (lo + hi) / 2 := ⟨_, rfl⟩
   have zmd : ((lo : Int) + (hi : Int)) / 2 = (md : Int) := by omega
   have hc := HF.out wr md hkr (by omega)
   have HMD : Hid (lo ≤ md ∧ md < hi) := ⟨by omega, by omega⟩
   have hmb : md < 1000 := by omega
   clear hkr hmd
   cases hp : p md with
   | false =>
    rw [hp] at hc
    have HP : Hid (p md = false) := hp
    clear hp
    go_wp2_with fail
    refine hc.mono ?_
    rintro e w1 ⟨rfl, hk1⟩
    have HK1 : Hid (Kept (fun _ => False) w w1) := HKR.out.trans hk1 (fun _ _ h => h)
    clear hc hk1
    go_wp2_with fail
    go_roundw
    case rel =>
     have := HMD.out
     refine ⟨md + 1, hi, by go_num, rfl, by omega, hin, ⟨fun a ha => ?_, HI.out.2⟩, HK1.out⟩
     cases h : p a with
     | false => rfl
     | true => have h4 := HM.out a md (by omega) (by omega) h; rw [HP.out] at h4; cases h4
    case measure => have := HMD.out; simp [intOf]; omega
   | true =>
    rw [hp] at hc
    have HP : Hid (p md = true) := hp
    clear hp
    go_wp2_with fail
    refine hc.mono ?_
    rintro e w1 ⟨rfl, hk1⟩
    have HK1 : Hid (Kept (fun _ => False) w w1) := HKR.out.trans hk1 (fun _ _ h => h)
    clear hc hk1
    go_wp2_with fail
    go_roundw
    case rel =>
     have := HMD.out
     exact ⟨lo, md, rfl, rfl, by omega, by omega, ⟨HI.out.1, fun a h1 h2 => HM.out md a h1 h2 HP.out⟩, HK1.out⟩
    case measure => have := HMD.out; simp [intOf]; omega
  ·have hltI : ¬ (lo : Int) < (hi : Int) := by omega
   obtain rfl : lo = hi := by omega
   clear hkr
   go_wp2_with fail
   go_ret
   exact ⟨⟨lo, rfl, hin, HI.out.1, HI.out.2⟩, HKR.out⟩

end Go.Proofs.YtegnkfdbmmndaaaGreat
end

/- FndL -/
section
/- Where a pattern stands in the files. -/
namespace Go.Proofs.YtegnkfdbmmndaaaGreat
open Go.RowKit

section
variable (hones : OnesSays) (hLn : LenSays) (B pa : Nat) (s l6 : List UInt8) (L : List Nat) (l8 : List UInt8) (st : Hm.LaySt) (fs : List (ByteArray × ByteArray)) (ps : List Nat) (w : World) (hP : Hm.Parse s l6 L l8 st) (hA : ArchAt B w pa s l6 L l8 st) (hI : Hm.ArchIs fs s l6 l8 st ps)
include hones hP hA hI

set_option maxHeartbeats 1000000 in
theorem holder_any (q : Nat) (hq : q < (Hm.textOf fs).length) :
  Calls Tryz.prog 116 #[.pointer (some ⟨pa, 1, none⟩), .int .i64 (q : Nat)] w fun e w' => (∃ k : Nat, e = .returned (.int .i64 (k : Nat)) ∧ ∃ hk : k < fs.length, Hm.endT fs k ≤ q ∧ q < Hm.endT fs k + fs[k].2.size) ∧ Kept (fun _ => False) w w' := by
 obtain ⟨gn, ge, g, ng, nc, gs, Pt⟩ := hA.parts hP
 have hfl := Pt.ends.files
 rw [hI.nF] at hfl
 have hpw : pa < w.heap.size := World.block_lt_of_cell? _ _ hfl
 have hfw := hI.few
 obtain ⟨W0, hW0⟩ : ∃ W0, W0 = (w.alloc (.cells #[.pointer (some ⟨pa, 1, none⟩)] 154)).alloc (.cells #[.int .i64 (q : Nat)] 3) := ⟨_, rfl⟩
 have hsize : W0.heap.size = w.heap.size + 1 + 1 := by rw [hW0]; simp
 have hb1 : W0.heap[w.heap.size]? = some (.cells #[.pointer (some ⟨pa, 1, none⟩)] 154 (0, 0)) := by rw [hW0]; exact heap_alloc2_old w _ _
 have hb2 : W0.heap[w.heap.size + 1]? = some (.cells #[.int .i64 (q : Nat)] 3 (0, 0)) := by rw [hW0]; exact heap_alloc2_new w _ _
 have hk0 : Kept (fun _ => False) w W0 := by rw [hW0]; exact ((Kept.refl _ _).alloc _).alloc _
 have ca : W0.cell? ⟨w.heap.size, 0, none⟩ = some (.pointer (some ⟨pa, 1, none⟩)) := cell_of_row _ _ 0 _ _ _ hb1
 have cf : W0.cell? ⟨pa, 1 + 3, none⟩ = some (.int .i64 (fs.length : Nat)) := (hk0.cell (p := ⟨pa, 1 + 3, none⟩) hpw id).trans hfl
 have hS := searchH_any w.heap.size (w.heap.size + 1) fs.length (fun i => decide (q < Hm.endT fs (i + 1))) W0 (by omega) (fun W i hk hi => by
  refine holderCl_any pa w.heap.size (w.heap.size + 1) i q (Hm.endT fs (i + 1)) W ((hk.cell (p := ⟨w.heap.size, 0, none⟩) (lt_of_block hb1) id).trans ca) (cell_of_row _ _ 0 _ _ _ (hk.row hb2 id)) (fun X hX => ?_)
  have hkX : Kept (fun _ => False) w X := (hk0.trans hk (fun _ _ h => h)).trans hX (fun _ _ h => h)
  have he := endRd_any hones pa ge i s l6 X (Pt.ends.kept hkX id id) hP.ends (by rw [hI.nF]; exact hi)
  rw [hI.ends i hi] at he
  exact he) (fun a b hab hb ha => decide_eq_true (by have h1 := of_decide_eq_true ha; have := Hm.endT_mono fs (show a + 1 ≤ b + 1 by omega); omega))
 have HFIN : Hid (∀ k : Nat, k ≤ fs.length → (∀ a, a < k → decide (q < Hm.endT fs (a + 1)) = false) → (∀ a, k ≤ a → a < fs.length → decide (q < Hm.endT fs (a + 1)) = true) → ∃ hk : k < fs.length, Hm.endT fs k ≤ q ∧ q < Hm.endT fs k + fs[k].2.size) := fun k h1 h2 h3 => by
  have hend : Hm.endT fs fs.length = (Hm.textOf fs).length := by unfold Hm.endT; rw [List.take_length]
  have hk : k < fs.length := by
   rcases Nat.lt_or_ge k fs.length with c | c
   ·exact c
   ·have h0 : 0 < fs.length := by
     rcases Nat.eq_zero_or_pos fs.length with z | z
     ·rw [List.eq_nil_of_length_eq_zero z] at hq; simp [Hm.textOf] at hq
     ·exact z
    have := of_decide_eq_false (h2 (fs.length - 1) (by omega))
    rw [show fs.length - 1 + 1 = fs.length from by omega, hend] at this
    omega
  refine ⟨hk, ?_, ?_⟩
  ·rcases Nat.eq_zero_or_pos k with z | z
   ·rw [z]; exact Nat.zero_le _
   ·have := of_decide_eq_false (h2 (k - 1) (by omega))
    rw [show k - 1 + 1 = k from by omega] at this
    omega
  ·have := of_decide_eq_true (h3 k (Nat.le_refl _) hk)
   rwa [Hm.endT_succ fs k hk] at this
 have HW : Hid (W0 = (w.alloc (.cells #[.pointer (some ⟨pa, 1, none⟩)] 154)).alloc (.cells #[.int .i64 (q : Nat)] 3)) := hW0
 have HK0 : Hid (Kept (fun _ => False) w W0) := hk0
 clear Pt hfl hW0 hsize hb1 hb2 hk0 hP hA hI
 go_enter Tryz.func116, Tryz.ntmps116
 go_upto_region 1 with fail
 rw [← HW.out]
 go_wp2_with (go_at_call 164; refine hS.mono ?_; rintro e w1 ⟨⟨k, rfl, f1, f2, f3⟩, hk1⟩)
 go_ret
 exact ⟨⟨k, rfl, HFIN.out k f1 f2 f3⟩, HK0.out.trans hk1 (fun _ _ h => h)⟩
end

end Go.Proofs.YtegnkfdbmmndaaaGreat
end

/- FndM -/
section
/- The places of a pattern in the files of an archive. -/
namespace Go.Proofs.YtegnkfdbmmndaaaGreat
open Go.RowKit

/-- Places as cells. -/
def plcells : List (Nat × Nat) → List Value
 | [] => []
 | p :: r => .int .i64 (p.1 : Nat) :: .int .i64 (p.2 : Nat) :: plcells r
theorem plcells_length (l : List (Nat × Nat)) : (plcells l).length = l.length * 2 := by
 induction l with
 | nil => rfl
 | cons p r ih => simp only [plcells, List.length_cons, ih]; omega
theorem plcells_append (l r : List (Nat × Nat)) : plcells (l ++ r) = plcells l ++ plcells r := by
 induction l with
 | nil => rfl
 | cons p l ih => simp [plcells, ih]
theorem plcells_get (l : List (Nat × Nat)) : ∀ i, (h : i < l.length) → (plcells l)[i * 2]? = some (.int .i64 (l[i].1 : Nat)) ∧ (plcells l)[i * 2 + 1]? = some (.int .i64 (l[i].2 : Nat)) := by
 induction l with
 | nil => intro i h; simp at h
 | cons p r ih =>
  intro i h
  cases i with
  | zero => exact ⟨rfl, rfl⟩
  | succ i =>
   have := ih i (by simpa using h)
   rw [show (i + 1) * 2 = i * 2 + 1 + 1 from by omega, show i * 2 + 1 + 1 + 1 = (i * 2 + 1) + 1 + 1 from by omega]
   exact this
theorem plcells_one (l : List (Nat × Nat)) : ∀ v ∈ plcells l, v.oneCell' = true := by
 induction l with
 | nil => intro v h; simp [plcells] at h
 | cons p r ih =>
  intro v h
  simp only [plcells, List.mem_cons] at h
  rcases h with rfl | rfl | h
  ·rfl
  ·rfl
  ·exact ih v h
theorem plcells_take (l : List (Nat × Nat)) (k : Nat) : (plcells l).take (k * 2) = plcells (l.take k) := by
 induction l generalizing k with
 | nil => simp [plcells]
 | cons p r ih =>
  cases k with
  | zero => rfl
  | succ k => rw [show (k + 1) * 2 = k * 2 + 1 + 1 from by omega, plcells, List.take_succ_cons, List.take_succ_cons, ih, List.take_succ_cons]; rfl
theorem ownsRow_low {w : World} {base base' size n : Nat} {e : TypeId} {v : Value} {xs : List Value} (h : w.ownsRow base e size v n xs) (hb : base' ≤ base) : w.ownsRow base' e size v n xs := by
 refine ⟨h.1, ?_⟩
 rcases h.2 with a | ⟨g, cap, cur, h1, h2, h3⟩
 ·exact .inl a
 ·exact .inr ⟨g, cap, cur, h1, Nat.le_trans hb h2, h3⟩
theorem info_place : (Tryz.prog.info? 73).map (fun i => (i.zero, i.size, i.bytes)) = some (some (.agg #[.int .i64 0, .int .i64 0]), 2, 16) := by kernel_rfl

set_option maxRecDepth 20000 in
set_option maxHeartbeats 2000000 in
theorem places_any (hones : OnesSays) (hLn : LenSays) (B pa : Nat) (s l6 : List UInt8) (L : List Nat) (l8 : List UInt8) (st : Hm.LaySt) (fs : List (ByteArray × ByteArray)) (ps : List Nat) (w : World) (hP : Hm.Parse s l6 L l8 st) (hA : ArchAt B w pa s l6 L l8 st) (hI : Hm.ArchIs fs s l6 l8 st ps) (P : List UInt8) (hPl : P.length ≤ 281474976710656) (hP0 : P ≠ []) :
  Calls Tryz.prog 61 #[.pointer (some ⟨pa, 0, none⟩), .string ⟨P.toArray⟩] w fun e w' => ∃ (v : Value) (pl : List (Nat × Nat)), e = .returned v ∧ w'.ownsRow w.heap.size 73 2 v pl.length (plcells pl) ∧ pl.length ≤ 6001 ∧ Hm.PlIs fs P pl ∧ Kept (fun _ => False) w w' := by
 obtain ⟨i0, hi, hz0, hz1, hz2⟩ := info_parts info_place
 have hin := inText_any hones hLn B pa s l6 L l8 st fs ps w hP hA hI P hPl
 have HHO : Hid (∀ W (q : Nat), Kept (fun _ => False) w W → q < (Hm.textOf fs).length → Calls Tryz.prog 116 #[.pointer (some ⟨pa, 1, none⟩), .int .i64 (q : Nat)] W fun e w' => (∃ k : Nat, e = .returned (.int .i64 (k : Nat)) ∧ ∃ hk : k < fs.length, Hm.endT fs k ≤ q ∧ q < Hm.endT fs k + fs[k].2.size) ∧ Kept (fun _ => False) W w') :=
  fun W q hk hq => holder_any hones B pa s l6 L l8 st fs ps W hP (hA.kept hk (fun _ _ _ => id) id) hI q hq
 have HFI : Hid (∀ W (k : Nat), Kept (fun _ => False) w W → (hk : k < fs.length) → Calls Tryz.prog 36 #[.pointer (some ⟨pa, 1, none⟩), .int .i64 (k : Nat)] W fun e w' => e = .returned (.tuple #[.int .i64 (Hm.endT fs k : Nat), .int .i64 (Hm.endT fs k + fs[k].2.size : Nat)]) ∧ Kept (fun _ => False) W w') :=
  fun W k hk hkl => fileOf_any hones B pa s l6 L l8 st fs ps W hP (hA.kept hk (fun _ _ _ => id) id) hI k hkl
 have hsm := hI.small
 have hfw := hI.few
 obtain ⟨S, hS⟩ : ∃ S, S = (⟨P.toArray⟩ : ByteArray) := ⟨_, rfl⟩
 have hSs : S.size = P.length := by rw [hS]; show P.toArray.size = _; simp
 rw [← hS] at hin ⊢
 clear hP hA hI hS
 go_enter Tryz.func61, Tryz.ntmps61
 go_wp2_with fail
 refine hin.mono ?_
 rintro e w1 ⟨g, l, rfl, hgw, hrow, hl6, hocc, hk1⟩
 have H1 : Hid (IntRow w1 g l ∧ Hm.OccT (Hm.textOf fs) P l ∧ Kept (fun _ => False) w w1) := ⟨hrow, hocc, hk1⟩
 clear hin hrow hocc hk1 hgw
 go_wp2_with fail
 go_loopw [5, 15] (fun v5 vi wr => ∃ j : Nat, j ≤ l.length ∧ vi = .int .i64 j ∧ wr.ownsRow w1.heap.size 73 2 v5 (Hm.plOf fs P.length (l.take j)).length (plcells (Hm.plOf fs P.length (l.take j))) ∧ Kept (fun _ => False) w1 wr) (fun _ vi _ => l.length - (intOf vi).toNat)
 case atStart => exact ⟨0, Nat.zero_le _, rfl, World.ownsRow_nil _ _ _ _, Kept.refl _ _⟩
 case round =>
  obtain ⟨j, hj, rfl, hown, hkr⟩ := hrel
  by_cases hlt : j < l.length
  ·have hltI : (j : Int) < (l.length : Int) := by omega
   have hr2 : IntRow wr g l := H1.out.1.kept hkr id
   have cq := hr2.cell hlt
   have hqt := H1.out.2.1.lt hP0 (List.getElem_mem hlt)
   have hsu := Hm.plOf_succ fs P.length l j hlt
   have hkw : Kept (fun _ => False) w wr := H1.out.2.2.trans hkr (fun _ _ h => h)
   have hho := HHO.out wr l[j] hkw hqt
   have HSU : Hid _ := hsu
   have HQ : Hid (l[j] < (Hm.textOf fs).length) := hqt
   have HH : Hid (wr.ownsRow w1.heap.size 73 2 u5 (Hm.plOf fs P.length (l.take j)).length (plcells (Hm.plOf fs P.length (l.take j))) ∧ Kept (fun _ => False) w1 wr ∧ Kept (fun _ => False) w wr) := ⟨hown, hkr, hkw⟩
   have hpll : (Hm.plOf fs P.length (l.take j)).length ≤ 6001 := Nat.le_trans (Hm.plOf_length _ _ _) (by rw [List.length_take]; omega)
   have hq6 : l[j] ≤ 6000 := by omega
   clear hown hkr hkw hr2 hsu hqt
   generalize l[j] = q at *
   go_wp2_with fail
   refine hho.mono ?_
   rintro e w2 ⟨⟨k, rfl, hk, b1, b2⟩, hk2⟩
   have hhd := Hm.holdOf_is fs k q hk b1 b2
   have hfi := HFI.out w2 k (HH.out.2.2.trans hk2 (fun _ _ h => h)) hk
   have HK2 : Hid (Kept (fun _ => False) wr w2) := hk2
   have hfit : Hm.fitsP fs P.length (k, q - Hm.endT fs k) = decide (P.length ≤ Hm.endT fs k + fs[k].2.size - q) := by
    unfold Hm.fitsP
    rw [Hm.getD_at fs k hk]
    apply decide_eq_decide.2
    show q - Hm.endT fs k + P.length ≤ _ ↔ _
    omega
   have htot := Hm.text_in fs k hk
   have hte : Hm.endT fs k = (Hm.textOf (fs.take k)).length := rfl
   rw [hhd, hfit] at HSU
   clear hho hk2 hhd hfit
   rw [← hte] at htot
   obtain ⟨F, hF⟩ : ∃ F, F = Hm.endT fs k := ⟨_, rfl⟩
   obtain ⟨z, hz⟩ : ∃ z, z = fs[k].2.size := ⟨_, rfl⟩
   rw [← hF, ← hz] at HSU hfi b2 htot
   rw [← hF] at b1
   obtain ⟨a, ha⟩ : ∃ a, a = q - F := ⟨_, rfl⟩
   obtain ⟨r, hr⟩ : ∃ r, r = F + z - q := ⟨_, rfl⟩
   rw [← ha, ← hr] at HSU
   have za : (q : Int) - (F : Int) = (a : Int) := by omega
   have zr : ((F + z : Nat) : Int) - (q : Int) = (r : Int) := by omega
   have hkI : (k : Int) ≤ 40 := by omega
   clear hF hz ha hr hte
   go_wp2_with fail
   refine hfi.mono ?_
   rintro e w3 ⟨rfl, hk3⟩
   have HK3 : Hid (Kept (fun _ => False) wr w3) := HK2.out.trans hk3 (fun _ _ h => h)
   clear hfi hk3
   by_cases hfit : P.length ≤ r
   ·have hfI : (S.size : Int) ≤ (r : Int) := by omega
    have hd : decide ((S.size : Int) ≤ (r : Int)) = true := decide_eq_true hfI
    rw [decide_eq_true hfit, if_pos rfl] at HSU
    have ho3 : w3.ownsRow w1.heap.size 73 2 u5 (Hm.plOf fs P.length (l.take j)).length (plcells (Hm.plOf fs P.length (l.take j))) := HK3.out.owns HH.out.1 (fun _ _ h => h)
    have hw3 := (HH.out.2.1.trans HK3.out (fun _ _ h => h)).size
    have HKA : Hid (Kept (fun _ => False) w1 w3) := HH.out.2.1.trans HK3.out (fun _ _ h => h)
    generalize Hm.plOf fs P.length (l.take j) = pj at *
    go_wp2_with (at_builtin; refine wpList_append_mv _ rfl (.tmp 38) (.tmp 44) 69 rfl w1.heap.size 73 i0 (.agg #[.int .i64 0, .int .i64 0]) 2 16 Tryz.underlying69 hi hz0 hz1 hz2 rfl (by decide) _ _ _ rfl (ho3.alloc _) ⟨w3.heap.size, 0, none⟩ 1 1 [.int .i64 (k : Nat), .int .i64 (a : Nat)] rfl rfl ?c1 ?c2 ?c3 ?c4 ?c5 ?_)
    case c1 =>
     intro y u hy
     rw [Addr.add_lit, Nat.zero_add]
     exact (cell_of_row _ _ y _ _ _ (heap_alloc_new w3 _)).trans (by rw [List.getElem?_toArray]; exact hy)
    case c2 => intro u hu; simp at hu; rcases hu with rfl | rfl <;> rfl
    case c3 => unfold maxLen; omega
    case c4 => omega
    case c5 => simp only [World.alloc, Array.size_push]; omega
    intro v4 w4 ho4 hg4 hm4
    have hk4 : Kept (fun _ => False) w1 w4 := (HKA.out.alloc _).grown hg4 (fun x hx => .inl (ho3.lt x hx).1)
    have ho5 : w4.ownsRow w1.heap.size 73 2 v4 (Hm.plOf fs P.length (l.take (j + 1))).length (plcells (Hm.plOf fs P.length (l.take (j + 1)))) := by
     rw [HSU.out, List.length_append, plcells_append]; exact ho4
    obtain ⟨a4, c4, hv4, _⟩ := slice_shape ho5
    subst hv4
    have H4 : Hid _ := And.intro ho5 hk4
    clear ho4 hg4 hm4 ho5 hk4 ho3 HSU
    go_wp2_with fail
    go_roundw
    case rel => exact ⟨j + 1, by omega, by go_num, H4.out.1, H4.out.2⟩
    case measure => simp [intOf]; omega
   ·have hfI : ¬ (S.size : Int) ≤ (r : Int) := by omega
    have hd : decide ((S.size : Int) ≤ (r : Int)) = false := decide_eq_false hfI
    rw [decide_eq_false hfit, if_neg (by simp), List.append_nil] at HSU
    obtain ⟨a4, c4, hv4, _⟩ := slice_shape HH.out.1
    subst hv4
    have H4 : Hid (w3.ownsRow w1.heap.size 73 2 (.slice a4 (Hm.plOf fs P.length (l.take j)).length c4) (Hm.plOf fs P.length (l.take (j + 1))).length (plcells (Hm.plOf fs P.length (l.take (j + 1)))) ∧ Kept (fun _ => False) w1 w3) := by
     rw [HSU.out]; exact ⟨HK3.out.owns HH.out.1 (fun _ _ h => h), HH.out.2.1.trans HK3.out (fun _ _ h => h)⟩
    clear HSU HH
    go_wp2_with fail
    go_roundw
    case rel => exact ⟨j + 1, by omega, by go_num, H4.out.1, H4.out.2⟩
    case measure => simp [intOf]; omega
  ·have hltI : ¬ (j : Int) < (l.length : Int) := by omega
   have hjl : j = l.length := by omega
   obtain ⟨a4, c4, hv4, _⟩ := slice_shape hown
   subst hv4
   have HF : Hid (wr.ownsRow w.heap.size 73 2 (.slice a4 (Hm.plOf fs P.length (l.take j)).length c4) (Hm.plOf fs P.length l).length (plcells (Hm.plOf fs P.length l)) ∧ Kept (fun _ => False) w wr) := by
    have e : l.take j = l := by rw [hjl, List.take_length]
    rw [e] at hown ⊢
    exact ⟨ownsRow_low hown H1.out.2.2.size, H1.out.2.2.trans hkr (fun _ _ h => h)⟩
   clear hown hkr hjl
   go_wp2_with fail
   go_ret
   exact ⟨_, rfl, Hm.plOf fs P.length l, HF.out.1, Nat.le_trans (Hm.plOf_length _ _ _) hl6, Hm.plOf_is hP0 H1.out.2.1, HF.out.2⟩

end Go.Proofs.YtegnkfdbmmndaaaGreat
end
