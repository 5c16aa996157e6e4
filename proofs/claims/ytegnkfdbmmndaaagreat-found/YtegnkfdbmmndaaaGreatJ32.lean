import Derived.Test.YtegnkfdbmmndaaaGreatJ31

/- FndN -/
section
/- Count and Locate of an archive. -/
namespace Go.Proofs.YtegnkfdbmmndaaaGreat
open Go.RowKit

namespace Hm
theorem lexP_asymm {x y : Nat × Nat} (h : lexP x y) (h' : lexP y x) : False := by unfold lexP at h h'; omega
theorem lex_unique : ∀ (a b : List (Nat × Nat)), a.Pairwise lexP → b.Pairwise lexP → (∀ x, x ∈ a ↔ x ∈ b) → a = b
 | [], [], _, _, _ => rfl
 | [], y :: s, _, _, h => by have := (h y).2 (List.mem_cons_self ..); cases this
 | x :: r, [], _, _, h => by have := (h x).1 (List.mem_cons_self ..); cases this
 | x :: r, y :: s, ha, hb, h => by
  obtain ⟨a1, a2⟩ := List.pairwise_cons.1 ha
  obtain ⟨b1, b2⟩ := List.pairwise_cons.1 hb
  have e : x = y := by
   rcases List.mem_cons.1 ((h x).1 (List.mem_cons_self ..)) with e | e
   ·exact e
   ·rcases List.mem_cons.1 ((h y).2 (List.mem_cons_self ..)) with f | f
    ·exact f.symm
    ·exact (lexP_asymm (a1 y f) (b1 x e)).elim
  subst e
  rw [lex_unique r s a2 b2 fun z => ?_]
  constructor
  ·intro hz
   rcases List.mem_cons.1 ((h z).1 (List.mem_cons_of_mem _ hz)) with f | f
   ·subst f; exact (lexP_asymm (a1 z hz) (a1 z hz)).elim
   ·exact f
  ·intro hz
   rcases List.mem_cons.1 ((h z).2 (List.mem_cons_of_mem _ hz)) with f | f
   ·subst f; exact (lexP_asymm (b1 z hz) (b1 z hz)).elim
   ·exact f
theorem PlIs.unique {fs : List (ByteArray × ByteArray)} {P : List UInt8} {a b : List (Nat × Nat)} (ha : PlIs fs P a) (hb : PlIs fs P b) : a = b :=
 lex_unique a b ha.asc hb.asc fun ⟨k, q⟩ => (ha.iff k q).trans (hb.iff k q).symm
end Hm

theorem clonePl_any (g k c : Nat) (news : List Value) (w : World) (hl : news.length = k * 2) (hk : k ≤ 1000000) (hc : ∀ j u, news[j]? = some u → w.cell? ⟨g, j, none⟩ = some u) (h1 : ∀ u ∈ news, u.oneCell' = true) :
  Calls Tryz.prog 62 #[.slice (some ⟨g, 0, none⟩) k c] w fun e w' => ∃ v', e = .returned v' ∧ w'.ownsRow w.heap.size 73 2 v' k news ∧ Kept (fun _ => False) w w' := by
 obtain ⟨i0, hi, hz0, hz1, hz2⟩ := info_parts info_place
 have hnil := fun W => Lib.run_eql_slice_nil (P := Tryz.prog) W 69 73 (some ⟨g, 0, none⟩) k c 0 0 Tryz.underlying69
 have HC : Hid (∀ j u, news[j]? = some u → w.cell? ⟨g, j, none⟩ = some u) := hc
 clear hc
 go_enter Tryz.func62, Tryz.ntmps62
 go_wp2_with (at_builtin; refine wpList_append_own _ rfl (.tmp 5) (.tmp 6) 69 rfl w.heap.size 73 i0 (.agg #[.int .i64 0, .int .i64 0]) 2 16 Tryz.underlying69 hi hz0 hz1 hz2 rfl (by decide) _ _ _ rfl (World.ownsRow_made w #[] 0 (Nat.le_refl _) (Nat.zero_le _) (by simp)) ⟨g, 0, none⟩ k c news rfl ?qc1 ?qc2 ?qc3 ?qc4 ?qc5 ?qc6 ?_)
 case qc1 => exact hl
 case qc2 =>
  intro j u hj
  rw [Addr.add_lit, Nat.zero_add]
  exact Lib.cell?_alloc_some _ (HC.out j u hj)
 case qc3 => exact h1
 case qc4 => unfold maxLen; omega
 case qc5 => omega
 case qc6 => simp
 intro v' w1 hown hgrow hnil
 obtain ⟨a4, c4, hv4, _⟩ := slice_shape hown
 subst hv4
 have HO : Hid (w1.ownsRow w.heap.size 73 2 (.slice a4 k c4) k news ∧ Kept (fun _ => False) w w1) := ⟨by simpa using hown, ((Kept.refl _ _).alloc _).grown hgrow (fun j hj => .inl (by simp [Value.ownBlock] at hj; omega))⟩
 clear hown hgrow hnil
 go_wp2_with fail
 go_ret
 exact ⟨_, rfl, HO.out⟩
theorem clonePl_nil (w : World) :
  Calls Tryz.prog 62 #[.slice none 0 0] w fun e w' => e = .returned (.slice none 0 0) ∧ w' = w := by
 have hnil := fun W => Lib.run_eql_slice_nil (P := Tryz.prog) W 69 73 none 0 0 0 0 Tryz.underlying69
 go_enter Tryz.func62, Tryz.ntmps62
 go_wp2
 go_ret
 exact ⟨rfl, rfl⟩

section
variable (hones : OnesSays) (hLn : LenSays) (B pa : Nat) (s l6 : List UInt8) (L : List Nat) (l8 : List UInt8) (st : Hm.LaySt) (fs : List (ByteArray × ByteArray)) (ps : List Nat) (w : World) (hP : Hm.Parse s l6 L l8 st) (hA : ArchAt B w pa s l6 L l8 st) (hI : Hm.ArchIs fs s l6 l8 st ps) (P : List UInt8) (hPl : P.length ≤ 281474976710656) (hP0 : P ≠ [])
include hones hLn hP hA hI hPl hP0

theorem count_pl : Calls Tryz.prog 27 #[.pointer (some ⟨pa, 0, none⟩), .string ⟨P.toArray⟩] w fun e w' => ∃ pl : List (Nat × Nat), e = .returned (.tuple #[.int .i64 (pl.length : Nat), .int .i64 0]) ∧ pl.length ≤ 6001 ∧ Hm.PlIs fs P pl ∧ Kept (fun _ => False) w w' := by
 have hpl := places_any hones hLn B pa s l6 L l8 st fs ps w hP hA hI P hPl hP0
 obtain ⟨S, hS⟩ : ∃ S, S = (⟨P.toArray⟩ : ByteArray) := ⟨_, rfl⟩
 have hSE : S.toList.isEmpty = false := by
  rw [isEmpty_toList]
  refine decide_eq_false fun h => hP0 (List.eq_nil_of_length_eq_zero ?_)
  rw [← h, hS]; show _ = P.toArray.size; simp
 rw [← hS] at hpl ⊢
 clear hP hA hI hS
 go_enter Tryz.func27, Tryz.ntmps27
 go_wp2_with fail
 refine hpl.mono ?_
 rintro e w1 ⟨v, pl, rfl, hown, hl6, hpi, hk1⟩
 obtain ⟨a4, c4, hv4, _⟩ := slice_shape hown
 subst hv4
 have H1 : Hid (pl.length ≤ 6001 ∧ Hm.PlIs fs P pl ∧ Kept (fun _ => False) w w1) := ⟨hl6, hpi, hk1⟩
 clear hpl hown hpi hk1
 go_wp2_with fail
 go_ret2
 exact ⟨pl, rfl, H1.out⟩

set_option maxHeartbeats 1000000 in
theorem locate_pl (M : Nat) (hM : M ≤ 9223372036854775807) : Calls Tryz.prog 28 #[.pointer (some ⟨pa, 0, none⟩), .string ⟨P.toArray⟩, .int .i64 (M : Nat)] w fun e w' => ∃ (pl : List (Nat × Nat)) (v : Value), e = .returned (.tuple #[v, .int .i64 0]) ∧ w'.ownsRow w.heap.size 73 2 v (pl.take M).length (plcells (pl.take M)) ∧ pl.length ≤ 6001 ∧ Hm.PlIs fs P pl ∧ Kept (fun _ => False) w w' := by
 have hpl := places_any hones hLn B pa s l6 L l8 st fs ps w hP hA hI P hPl hP0
 obtain ⟨S, hS⟩ : ∃ S, S = (⟨P.toArray⟩ : ByteArray) := ⟨_, rfl⟩
 have hSE : S.toList.isEmpty = false := by
  rw [isEmpty_toList]
  refine decide_eq_false fun h => hP0 (List.eq_nil_of_length_eq_zero ?_)
  rw [← h, hS]; show _ = P.toArray.size; simp
 rw [← hS] at hpl ⊢
 clear hP hA hI hS
 go_enter Tryz.func28, Tryz.ntmps28
 go_wp2_with fail
 refine hpl.mono ?_
 rintro e w1 ⟨v, pl, rfl, hown, hl6, hpi, hk1⟩
 obtain ⟨k, hk⟩ : ∃ k, k = min M pl.length := ⟨_, rfl⟩
 have hkl : k ≤ pl.length := by omega
 have htl : (pl.take M).length = k := by rw [List.length_take, hk]
 have htk : pl.take M = pl.take k := by
  apply List.ext_getElem?
  intro i
  rw [List.getElem?_take, List.getElem?_take]
  by_cases c : i < pl.length
  ·by_cases d : i < M
   ·rw [if_pos d, if_pos (by omega)]
   ·rw [if_neg d, if_neg (by omega)]
  ·rw [List.getElem?_eq_none (by omega)]; split <;> split <;> rfl
 have zmin : min (M : Int) (pl.length : Int) = (k : Int) := by omega
 have H1 : Hid (pl.length ≤ 6001 ∧ Hm.PlIs fs P pl ∧ Kept (fun _ => False) w w1 ∧ (pl.take M).length = k ∧ pl.take M = pl.take k) := ⟨hl6, hpi, hk1, htl, htk⟩
 rcases hown.2 with ⟨rfl, h0⟩ | ⟨g, cap, cur, rfl, hg1, hg2, hg3, hg4, hg5, hg6⟩
 ·have hk0 : k = 0 := by omega
  subst hk0
  have hcl := clonePl_nil w1
  have zm0 : min (M : Int) 0 = 0 := by omega
  clear hpl hown hpi hk1 htl htk hk hkl zmin
  go_wp2_with fail
  refine hcl.mono ?_
  rintro e w2 ⟨rfl, rfl⟩
  clear hcl
  go_wp2_with fail
  go_ret2
  refine ⟨pl, _, rfl, ?_, H1.out.1, H1.out.2.1, H1.out.2.2.1⟩
  rw [H1.out.2.2.2.2]
  exact World.ownsRow_nil _ _ _ _
 ·have hcl := clonePl_any g k cap (plcells (pl.take k)) w1 (by rw [plcells_length, List.length_take]; omega) (by omega) (fun j u hj => by
   rw [hown.cellAt j (by
    have h2 := (List.getElem?_eq_some_iff.1 hj).1
    rw [plcells_length, List.length_take] at h2
    omega)]
   rw [← plcells_take, List.getElem?_take] at hj
   split at hj
   ·exact hj
   ·cases hj) (plcells_one _)
  have hkc : k ≤ cap := by omega
  clear hpl hown hpi hk1 htl htk hg1 hg2 hg3 hg4 hg5 hg6 hk
  go_wp2_with fail
  refine hcl.mono ?_
  rintro e w2 ⟨v', rfl, hown2, hk2⟩
  obtain ⟨a4, c4, hv4, _⟩ := slice_shape hown2
  subst hv4
  have H2 : Hid (w2.ownsRow w.heap.size 73 2 (.slice a4 k c4) (pl.take M).length (plcells (pl.take M)) ∧ Kept (fun _ => False) w w2) := by
   refine ⟨?_, H1.out.2.2.1.trans hk2 (fun _ _ h => h)⟩
   rw [H1.out.2.2.2.1, H1.out.2.2.2.2]
   exact ownsRow_low hown2 H1.out.2.2.1.size
  clear hcl hown2 hk2
  go_wp2_with fail
  go_ret2
  exact ⟨pl, _, rfl, H2.out.1, H1.out.1, H1.out.2.1, H2.out.2⟩
end

end Go.Proofs.YtegnkfdbmmndaaaGreat
end
