import Derived.Test.YtegnkfdbmmndaaaGreatJ28
import Derived.Test.YtegnkfdbmmndaaaGreatJ27
import Derived.Test.YtegnkfdbmmndaaaGreatJ22
import Derived.Deep.Cut
import Derived.Deep.CutRange

/- FndD -/
section
/- Rows whose endings begin with a pattern stand one behind the other. -/
namespace Go.Proofs.YtegnkfdbmmndaaaGreat
namespace Hm

/-- A place that has a byte ahead of it. -/
def hasB (t : List UInt8) (b : UInt8) (p : Nat) : Bool := decide (0 < p) && (t.getD (p - 1) 0 == b)
theorem count_colOf (t : List UInt8) (b : UInt8) (qs : List Nat) : (colOf t qs).count b = qs.countP (hasB t b) := by
 unfold colOf
 rw [List.count, List.countP_map, List.countP_filter]
 refine List.countP_congr fun p _ => ?_
 unfold hasB
 simp only [Function.comp, Bool.and_eq_true, decide_eq_true_eq]
 exact And.comm
theorem colOf_take_all {t : List UInt8} {ps : List Nat} (h : ps.Perm (List.range (t.length + 1))) (r : Nat) (hr : r ≤ ps.length) : (colOf t ps).take (colIx (rootOf ps) r) = colOf t (ps.take r) := by
 rcases Nat.lt_or_eq_of_le hr with h1 | h1
 ·exact colOf_take_ix h r h1
 ·have hl : ps.length = t.length + 1 := by have := h.length_eq; simpa using this
  have hroot := (rootOf_idx h).2
  have hc := colOf_length h
  have hx : colIx (rootOf ps) r = t.length := by unfold colIx; rw [if_pos (by omega)]; omega
  rw [hx, List.take_of_length_le (by omega), h1, List.take_length]
theorem bnd_is {t : List UInt8} {ps ws : List Nat} (h : ps.Perm (List.range (t.length + 1))) (b : UInt8) (r : Nat) (hr : r ≤ ps.length) : bnd (colOf t ps) ws (rootOf ps) b r = firstAt ws b.toNat + (ps.take r).countP (hasB t b) := by
 unfold bnd
 rw [colOf_take_all h r hr, count_colOf]
theorem countP_take_mono (g : Nat → Bool) (l : List Nat) {i j : Nat} (h : i ≤ j) : (l.take i).countP g ≤ (l.take j).countP g := by
 have : l.take i = (l.take j).take i := by rw [List.take_take, Nat.min_eq_left h]
 rw [this]
 exact (List.take_sublist i (l.take j)).countP_le
theorem countP_there (g : Nat → Bool) (l : List Nat) (c : Nat) : ∀ n, n ≤ l.length → c < (l.take n).countP g → ∃ j, ∃ hj : j < l.length, j < n ∧ g l[j] = true ∧ (l.take j).countP g = c
 | 0, _, h => by simp at h
 | n + 1, hn, h => by
  by_cases hh : c < (l.take n).countP g
  ·obtain ⟨j, hj, h1, h2⟩ := countP_there g l c n (by omega) hh
   exact ⟨j, hj, by omega, h2⟩
  ·rw [List.take_succ_eq_append_getElem (by omega), List.countP_append, List.countP_cons, List.countP_nil] at h
   cases hg : g l[n] with
   | false => rw [hg] at h; simp at h; omega
   | true =>
    rw [hg, if_pos rfl] at h
    exact ⟨n, by omega, by omega, hg, by omega⟩
/-- The rows of a pattern. -/
structure RowsOf (t : List UInt8) (ps : List Nat) (u : List UInt8) (lo hi : Nat) : Prop where
 le : lo ≤ hi
 in' : hi ≤ ps.length
 iff : ∀ i, (h : i < ps.length) → ((lo ≤ i ∧ i < hi) ↔ u <+: t.drop ps[i])
theorem RowsOf.start {t : List UInt8} {ps : List Nat} : RowsOf t ps [] 0 ps.length :=
 ⟨Nat.zero_le _, Nat.le_refl _, fun _ h => ⟨fun _ => List.nil_prefix, fun _ => ⟨Nat.zero_le _, h⟩⟩⟩
theorem longer_at {t : List UInt8} {ps ws : List Nat} (h : Sorted t ps) (hw : Weighs ws (colOf t ps)) (i j q : Nat) (hi : i < ps.length) (hj : j < ps.length) (e1 : ps[i] = q + 1) (e2 : ps[j] = q) : j = firstAt ws (t.getD q 0).toNat + (ps.take i).countP (hasB t (t.getD q 0)) := by
 have hl := longer_is h hw i j q hi hj e1 e2
 have hne : i ≠ rootOf ps := fun x => by have := (root_iff h.perm i hi).2 x; omega
 unfold longer at hl
 rw [if_neg hne] at hl
 obtain ⟨a1, a2⟩ := Prod.mk.inj hl
 rw [a1, colOf_take_all h.perm i (by omega), count_colOf] at a2
 exact a2.symm
theorem RowsOf.step {t : List UInt8} {ps ws : List Nat} {p : List UInt8} {lo hi : Nat} (h : Sorted t ps) (hw : Weighs ws (colOf t ps)) (b : UInt8) (hr : RowsOf t ps p lo hi) : RowsOf t ps (b :: p) (bnd (colOf t ps) ws (rootOf ps) b lo) (bnd (colOf t ps) ws (rootOf ps) b hi) := by
 have hl : ps.length = t.length + 1 := by have := h.perm.length_eq; simpa using this
 have hcl := colOf_length h.perm
 rw [bnd_is h.perm b lo (Nat.le_trans hr.le hr.in'), bnd_is h.perm b hi hr.in']
 refine ⟨Nat.add_le_add_left (countP_take_mono _ _ hr.le) _, ?_, fun i hi' => ?_⟩
 ·have h1 : (ps.take hi).countP (hasB t b) ≤ (colOf t ps).count b := by
   rw [count_colOf]; exact (List.take_sublist hi ps).countP_le
  have h2 := hw.first b.toNat (by have := b.toNat_lt; omega)
  have h3 : (colOf t ps).countP (fun x => decide (x.toNat < b.toNat)) + (colOf t ps).count b ≤ (colOf t ps).length := by
   generalize colOf t ps = l
   induction l with
   | nil => simp
   | cons x r ih =>
    rw [List.countP_cons, List.count_cons, List.length_cons]
    by_cases e : x = b
    ·subst e; simp; omega
    ·have : (x == b) = false := by simpa using e
     rw [this]
     split <;> simp <;> omega
  omega
 ·constructor
  ·rintro ⟨h1, h2⟩
   obtain ⟨j, hj, hjn, hg, hc⟩ := countP_there (hasB t b) ps (i - firstAt ws b.toNat) hi hr.in' (by omega)
   have hlo : lo ≤ j := by
    rcases Nat.lt_or_ge j lo with c | c
    ·have := countP_take_mono (hasB t b) ps (show j + 1 ≤ lo from c)
     rw [List.take_succ_eq_append_getElem hj, List.countP_append, List.countP_cons, List.countP_nil, hg, if_pos rfl] at this
     omega
    ·exact c
   have hp := (hr.iff j hj).1 ⟨hlo, hjn⟩
   unfold hasB at hg
   obtain ⟨g1, g2⟩ := Bool.and_eq_true_iff.1 hg
   have g1 : 0 < ps[j] := of_decide_eq_true g1
   have g2 : t.getD (ps[j] - 1) 0 = b := by simpa using g2
   have hmem : ps[j] ≤ t.length := by have := h.perm.subset (List.getElem_mem hj); have := List.mem_range.1 this; omega
   obtain ⟨i2, hi2, e2⟩ := row_of h (ps[j] - 1) (by omega)
   have hat := longer_at h hw j i2 (ps[j] - 1) hj hi2 (by omega) e2
   rw [g2] at hat
   have hii : i2 = i := by omega
   subst hii
   have hlt : ps[j] - 1 < t.length := by omega
   rw [e2, List.drop_eq_getElem_cons hlt]
   rw [List.getD_eq_getElem?_getD, List.getElem?_eq_getElem hlt] at g2
   have g3 : t[ps[j] - 1] = b := g2
   rw [g3, show ps[j] - 1 + 1 = ps[j] from by omega]
   exact List.cons_prefix_cons.2 ⟨rfl, hp⟩
  ·intro hp
   have hlt : ps[i] < t.length := by
    rcases Nat.lt_or_ge ps[i] t.length with c | c
    ·exact c
    ·rw [List.drop_eq_nil_of_le c] at hp
     have := hp.length_le
     simp at this
   rw [List.drop_eq_getElem_cons hlt] at hp
   obtain ⟨e1, hp2⟩ := List.cons_prefix_cons.1 hp
   obtain ⟨j, hj, ej⟩ := row_of h (ps[i] + 1) (by omega)
   have hrj := (hr.iff j hj).2 (by rw [ej]; exact hp2)
   have hat := longer_at h hw j i ps[i] hj hi' ej rfl
   have hb : t.getD ps[i] 0 = b := by rw [List.getD_eq_getElem?_getD, List.getElem?_eq_getElem hlt]; exact e1.symm
   rw [hb] at hat
   have hm1 := countP_take_mono (hasB t b) ps hrj.1
   have hm2 := countP_take_mono (hasB t b) ps (show j + 1 ≤ hi from hrj.2)
   have hg : hasB t b ps[j] = true := by
    unfold hasB
    rw [ej, Nat.add_sub_cancel, hb]; simp
   rw [List.take_succ_eq_append_getElem hj, List.countP_append, List.countP_cons, List.countP_nil, hg, if_pos rfl] at hm2
   omega
/-- Where no row is left, none has more of the pattern. -/
theorem RowsOf.none {t : List UInt8} {ps : List Nat} {v u : List UInt8} {lo hi : Nat} (h : Sorted t ps) (hr : RowsOf t ps u lo hi) (he : hi ≤ lo) : RowsOf t ps (v ++ u) lo hi := by
 refine ⟨hr.le, hr.in', fun i hi' => ⟨fun ⟨a, b⟩ => by omega, fun hp => ?_⟩⟩
 exfalso
 obtain ⟨z, hz⟩ := hp
 have hlen : ps[i] + v.length ≤ t.length := by
  have := congrArg List.length hz
  rw [List.length_append, List.length_append, List.length_drop] at this
  rcases Nat.lt_or_ge t.length ps[i] with c | c
  ·have := h.perm.subset (List.getElem_mem hi')
   have := List.mem_range.1 this
   omega
  ·omega
 obtain ⟨j, hj, ej⟩ := row_of h (ps[i] + v.length) hlen
 have := (hr.iff j hj).2 (by
  rw [ej, ← List.drop_drop, ← hz, List.append_assoc, List.drop_left]
  exact List.prefix_append _ _)
 omega

end Hm
end Go.Proofs.YtegnkfdbmmndaaaGreat
end

/- FndE -/
section
/- The rows of a pattern are found. -/
namespace Go.Proofs.YtegnkfdbmmndaaaGreat
open Go.RowKit

set_option maxHeartbeats 1000000 in
theorem find_any (pb o : Nat) (P : List UInt8) (t : List UInt8) (ps ws : List Nat) (w : World) (hst : Hm.Sorted t ps) (hw : Hm.Weighs ws (Hm.colOf t ps)) (hn : t.length ≤ 6000) (hP : P.length ≤ 281474976710656)
  (bounds : ∀ W b r1 r2, Kept (fun _ => False) w W → r1 ≤ ps.length → r2 ≤ ps.length → Calls Tryz.prog 160 #[.pointer (some ⟨pb, o, none⟩), .int .u8 (b.toNat : Nat), .int .i64 (r1 : Nat), .int .i64 (r2 : Nat)] W fun e w' => e = .returned (.tuple #[.int .i64 (Hm.bnd (Hm.colOf t ps) ws (Hm.rootOf ps) b r1 : Nat), .int .i64 (Hm.bnd (Hm.colOf t ps) ws (Hm.rootOf ps) b r2 : Nat)]) ∧ Kept (fun _ => False) W w') :
  Calls Tryz.prog 159 #[.func (.func 160) #[.pointer (some ⟨pb, o, none⟩)] #[], .int .i64 (ps.length : Nat), .string ⟨P.toArray⟩] w fun e w' => (∃ lo hi : Nat, e = .returned (.tuple #[.int .i64 (lo : Nat), .int .i64 (hi : Nat)]) ∧ Hm.RowsOf t ps P lo hi) ∧ Kept (fun _ => False) w w' := by
 obtain ⟨S, hS⟩ : ∃ S, S = (⟨P.toArray⟩ : ByteArray) := ⟨_, rfl⟩
 have hSs : S.size = P.length := by rw [hS]; show P.toArray.size = _; simp
 have hSd : S.data.toList = P := by rw [hS]
 rw [← hS]
 have hpl : ps.length = t.length + 1 := by have := hst.perm.length_eq; simpa using this
 have HB : Hid _ := bounds
 have HST : Hid (Hm.Sorted t ps ∧ Hm.Weighs ws (Hm.colOf t ps)) := ⟨hst, hw⟩
 obtain ⟨N, hN⟩ : ∃ N, N = ps.length := ⟨_, rfl⟩
 rw [← hN]
 have hN6 : N ≤ 6001 := by omega
 have HN : Hid (N = ps.length) := hN
 have HSD : Hid (S.data.toList = P) := hSd
 clear bounds hst hw hS hSd hpl hN
 go_enter Tryz.func159, Tryz.ntmps159
 go_wp2_with fail
 go_loopw [6, 7, 8] (fun vf vt vi wr => ∃ k lo hi : Nat, k ≤ P.length ∧ vi = .int .i64 ((k : Int) - 1) ∧ vf = .int .i64 lo ∧ vt = .int .i64 hi ∧ hi ≤ N ∧ lo ≤ hi ∧ Hid (Hm.RowsOf t ps (P.drop k) lo hi) ∧ Kept (fun _ => False) w wr) (fun _ _ vi _ => (intOf vi + 1).toNat)
 case atStart => exact ⟨P.length, 0, N, Nat.le_refl _, rfl, rfl, rfl, Nat.le_refl _, Nat.zero_le _, by rw [List.drop_length, HN.out]; exact Hm.RowsOf.start, Kept.refl _ _⟩
 case round =>
  obtain ⟨k, lo, hi, hk, rfl, rfl, rfl, hhi, hle, HRO, hkr⟩ := hrel
  have HKR : Hid (Kept (fun _ => False) w wr) := hkr
  cases k with
  | zero =>
   have hv : ((0 : Nat) : Int) - 1 = -1 := rfl
   rw [hv]
   clear hkr
   go_wp2_with fail
   go_ret2
   exact ⟨⟨lo, hi, rfl, by have := HRO.out; rwa [List.drop_zero] at this⟩, HKR.out⟩
  | succ j =>
   have hv : ((j + 1 : Nat) : Int) - 1 = (j : Int) := by omega
   rw [hv]
   by_cases hlt : lo < hi
   ·have hltI : (lo : Int) < (hi : Int) := by omega
    have hd : decide (lo < hi) = true := decide_eq_true hlt
    have hjS : j < S.size := by omega
    have hjI : (j : Int) < (S.size : Int) := by omega
    have hjP : j < P.length := by omega
    have hbd := HB.out wr P[j] lo hi hkr (by have := HN.out; omega) (by have := HN.out; omega)
    have HRS : Hid (Hm.RowsOf t ps (P.drop j) (Hm.bnd (Hm.colOf t ps) ws (Hm.rootOf ps) P[j] lo) (Hm.bnd (Hm.colOf t ps) ws (Hm.rootOf ps) P[j] hi)) := by
     have := HRO.out.step HST.out.1 HST.out.2 P[j]
     rwa [← List.drop_eq_getElem_cons hjP] at this
    have hSj : S[j] = P[j] := by
     have e : S.data.toList[j]? = P[j]? := by rw [HSD.out]
     rw [List.getElem?_eq_getElem hjP, Array.getElem?_toList, Array.getElem?_eq_getElem (show j < S.data.size from hjS)] at e
     exact Option.some.inj e
    rw [← hSj] at hbd HRS
    have hb2 := HRS.out.in'
    have hb3 := HRS.out.le
    rw [← HN.out] at hb2
    generalize Hm.bnd (Hm.colOf t ps) ws (Hm.rootOf ps) S[j] lo = lo2 at *
    generalize Hm.bnd (Hm.colOf t ps) ws (Hm.rootOf ps) S[j] hi = hi2 at *
    clear hkr hSj
    go_wp2_with fail
    refine hbd.mono ?_
    rintro e w2 ⟨rfl, hk2⟩
    have HK2 : Hid (Kept (fun _ => False) w w2) := HKR.out.trans hk2 (fun _ _ h => h)
    clear hbd hk2
    go_wp2_with fail
    go_roundw
    case rel => exact ⟨j, lo2, hi2, by omega, rfl, rfl, rfl, hb2, hb3, HRS, HK2.out⟩
    case measure => simp [intOf]
   ·have hltI : ¬ (lo : Int) < (hi : Int) := by omega
    have hd : decide (lo < hi) = false := decide_eq_false hlt
    have HRS : Hid (Hm.RowsOf t ps P lo hi) := by
     have := HRO.out.none (v := P.take (j + 1)) HST.out.1 (by omega)
     rwa [List.take_append_drop] at this
    clear hkr
    go_wp2_with fail
    go_ret2
    exact ⟨⟨lo, hi, rfl, HRS.out⟩, HKR.out⟩

end Go.Proofs.YtegnkfdbmmndaaaGreat
end

/- RndB -/
section
/- What the samples of an archive tell. -/
namespace Go.Proofs.YtegnkfdbmmndaaaGreat
namespace Hm

theorem filter_at (g : Nat → Bool) : ∀ (ps : List Nat) (p : Nat) (h : p < ps.length), g ps[p] = true → (ps.filter g).getD ((ps.take p).countP g) 0 = ps[p] ∧ (ps.take p).countP g < (ps.filter g).length
 | [], p, h, _ => by simp at h
 | x :: r, 0, _, hg => by
  have hx : g x = true := hg
  rw [List.filter_cons_of_pos hx]
  exact ⟨rfl, by simp⟩
 | x :: r, p + 1, h, hg => by
  have h' : p < r.length := by simpa using h
  obtain ⟨h1, h2⟩ := filter_at g r p h' hg
  rw [List.take_succ_cons, List.countP_cons]
  by_cases hx : g x = true
  ·rw [List.filter_cons_of_pos hx, if_pos hx, List.getD_cons_succ]
   exact ⟨h1, by rw [List.length_cons]; omega⟩
  ·rw [List.filter_cons_of_neg hx, if_neg hx, Nat.add_zero]
   exact ⟨h1, h2⟩
theorem bitLen_pow (x : Nat) : x < 18446744073709551616 → x < 2 ^ Lib.bitLen x := by
 induction x using Nat.strongRecOn with
 | ind x ih =>
  intro hx
  by_cases h0 : x = 0
  ·subst h0; exact Nat.pow_pos (by omega)
  ·rw [Lib.bitLen_half x h0 (by omega), Nat.add_comm, Nat.pow_succ]
   have := ih (x / 2) (by omega) (by omega)
   omega
/-- A row whose place is told. -/
theorem samp_told {n : Nat} {ps : List Nat} (hn : n ≤ 6000) (h : ps.Perm (List.range (n + 1))) (f : Nat → Bool) (hf : ∀ p, p < (samples ps).length → f p = (samples ps).getD p false) (j p : Nat) (hp : p < n + 1) (ho : IsOne f j p) :
  ∃ hp' : p < ps.length, numAt f (n + 1 + j * Lib.bitLen (n / 8)) (Lib.bitLen (n / 8)) * 8 = ps[p] := by
 have hl : ps.length = n + 1 := by have := h.length_eq; simpa using this
 have hs : (samples ps).length = sampLen n := samples_length h
 have hp' : p < ps.length := by omega
 refine ⟨hp', ?_⟩
 have hmap : ∀ q, q < ps.length → (samples ps).getD q false = decide (ps.getD q 0 % 8 = 0) := fun q hq => by
  unfold samples
  rw [List.getD_eq_getElem?_getD, List.getElem?_append_left (by rw [List.length_map]; exact hq), List.getElem?_map, List.getD_eq_getElem?_getD, List.getElem?_eq_getElem hq]; rfl
 have hbit := ho.is
 have hsl : ps.length ≤ (samples ps).length := by rw [hs]; unfold sampLen; omega
 rw [hf p (by omega), hmap p hp', List.getD_eq_getElem?_getD, List.getElem?_eq_getElem hp'] at hbit
 have h8 : ps[p] % 8 = 0 := of_decide_eq_true hbit
 have hrk := ho.nr
 rw [rk_list f ((samples ps).take ps.length) (fun q hq => by
  rw [List.length_take] at hq
  rw [hf q (by omega), List.getD_eq_getElem?_getD, List.getD_eq_getElem?_getD, List.getElem?_take, if_pos (by omega)]) p (by rw [List.length_take]; omega)] at hrk
 have e1 : (samples ps).take ps.length = ps.map fun p => decide (p % 8 = 0) := by
  unfold samples
  rw [List.take_left' (by rw [List.length_map])]
 rw [e1, ← List.map_take, List.countP_map] at hrk
 have hrk : (ps.take p).countP (fun p => decide (p % 8 = 0)) = j := hrk
 obtain ⟨g1, g2⟩ := filter_at (fun p => decide (p % 8 = 0)) ps p hp' (decide_eq_true h8)
 rw [hrk] at g1 g2
 obtain ⟨wd, hwd⟩ : ∃ wd, wd = Lib.bitLen (n / 8) := ⟨_, rfl⟩
 rw [← hwd]
 have hpm : ps[p] < n + 1 := by have := h.subset (List.getElem_mem hp'); simpa using this
 have hx : ps[p] / 8 < 2 ^ wd := by
  rw [hwd]
  refine Nat.lt_of_le_of_lt ?_ (bitLen_pow (n / 8) (by omega))
  exact Nat.div_le_div_right (by omega)
 have hlow : sampBits ps wd = endLow ((ps.filter fun p => decide (p % 8 = 0)).map (· / 8)) wd := by
  unfold sampBits endLow
  rw [List.flatMap_map]
 have hnum : numAt f (n + 1 + j * wd) wd = ps[p] / 8 := by
  rw [numAt_mod f (n + 1 + j * wd) (ps[p] / 8) wd ?_, Nat.mod_eq_of_lt hx]
  intro i hi
  have hg := endLow_get wd ((ps.filter fun p => decide (p % 8 = 0)).map (· / 8)) j i (by rw [List.length_map]; exact g2) hi
  have hge : ((ps.filter fun p => decide (p % 8 = 0)).map (· / 8)).getD j 0 = ps[p] / 8 := by
   rw [List.getD_eq_getElem?_getD, List.getElem?_map]
   rw [List.getD_eq_getElem?_getD, List.getElem?_eq_getElem g2] at g1
   rw [List.getElem?_eq_getElem g2]
   show _ / 8 = _
   rw [show (ps.filter fun p => decide (p % 8 = 0))[j] = ps[p] from g1]
  rw [hge, ← hlow] at hg
  have hlen : ((ps.map fun p => decide (p % 8 = 0)) : List Bool).length = n + 1 := by rw [List.length_map, hl]
  have hfl : (ps.filter fun p => decide (p % 8 = 0)).length = n / 8 + 1 := by rw [← List.countP_eq_length_filter, h.countP_eq, count_eights]
  have hin : n + 1 + j * wd + i < (samples ps).length := by
   rw [hs]; unfold sampLen; rw [← hwd]
   have : (j + 1) * wd ≤ (n / 8 + 1) * wd := Nat.mul_le_mul_right _ (by omega)
   rw [Nat.add_mul, Nat.one_mul] at this
   omega
  rw [hf _ hin, ← hg]
  unfold samples
  rw [List.getD_eq_getElem?_getD, List.getElem?_append_right (by rw [hlen]; omega), hlen, show ps.length - 1 = n from by omega, ← hwd, show n + 1 + j * wd + i - (n + 1) = j * wd + i from by omega, ← List.getD_eq_getElem?_getD]
 rw [hnum]
 omega

end Hm
end Go.Proofs.YtegnkfdbmmndaaaGreat
end

/- RndC -/
section
/- A row near a place. -/
namespace Go.Proofs.YtegnkfdbmmndaaaGreat
open Go.RowKit

/-- Samples in memory. -/
structure SampAt (w : World) (pb o : Nat) (T : ByteArray) (len g n : Nat) : Prop where
 bits : CountedAt w pb o T len g
 total : w.cell? ⟨pb, o + 3, none⟩ = some (.int .i64 (n : Nat))
theorem SampAt.kept {S : Nat → Prop} {w w' : World} {pb o len g n : Nat} {T : ByteArray} (h : SampAt w pb o T len g n) (hk : Kept S w w') (h1 : ¬ S pb) (h2 : ¬ S g) : SampAt w' pb o T len g n :=
 have hp : pb < w.heap.size := World.block_lt_of_cell? _ _ h.total
 ⟨h.bits.kept hk h1 h2, (hk.cell (p := ⟨pb, o + 3, none⟩) hp h1).trans h.total⟩

set_option maxHeartbeats 1000000 in
theorem told_any (hLn : LenSays) (pb o len g n j : Nat) (T : ByteArray) (w : World) (h : SampAt w pb o T len g n) (hn : n ≤ 6000) (hT : T.size ≤ 100000) (hj : j ≤ 6000) (hin : n + 1 + j * Lib.bitLen (n / 8) + Lib.bitLen (n / 8) ≤ 8 * T.size) :
  Calls Tryz.prog 158 #[.pointer (some ⟨pb, o, none⟩), .int .i64 j] w fun e w' => e = .returned (.int .i64 (Hm.numAt (Hm.bitB T.data.toList) (n + 1 + j * Lib.bitLen (n / 8)) (Lib.bitLen (n / 8)) * 8 : Nat)) ∧ Kept (fun _ => False) w w' := by
 have hpw := placeWidth_any hLn n w (by omega)
 have hbl : Lib.bitLen (n / 8) ≤ 10 := Lib.bitLen_le _ 10 (by omega) (by omega)
 have hnu := fun W h => numberAt_any pb o (n + 1 + j * Lib.bitLen (n / 8)) (Lib.bitLen (n / 8)) T W h hin (by omega) (by omega)
 have hlt := Hm.numAt_lt (Hm.bitB T.data.toList) (n + 1 + j * Lib.bitLen (n / 8)) (Lib.bitLen (n / 8))
 have hp2 : 2 ^ Lib.bitLen (n / 8) ≤ 2 ^ 10 := Nat.pow_le_pow_right (by omega) hbl
 have hmul : j * Lib.bitLen (n / 8) ≤ 6000 * 10 := Nat.mul_le_mul hj hbl
 have hnb : Hm.numAt (Hm.bitB T.data.toList) (n + 1 + j * Lib.bitLen (n / 8)) (Lib.bitLen (n / 8)) ≤ 1024 := by omega
 generalize Lib.bitLen (n / 8) = wd at *
 obtain ⟨v, hv⟩ : ∃ v, v = Hm.numAt (Hm.bitB T.data.toList) (n + 1 + j * wd) wd := ⟨_, rfl⟩
 rw [← hv] at hnu hnb ⊢
 clear hv hlt hp2
 obtain ⟨z, hz⟩ : ∃ z, z = j * wd := ⟨_, rfl⟩
 rw [← hz] at hnu hmul hin
 have hwz : IntKind.i64.wrap ((j : Int) * (wd : Int)) = (z : Int) := by rw [IntKind.wrap_i64, ← Int.natCast_mul, ← hz]; clear hz; omega
 have HNU : Hid (∀ W, W.cell? ⟨pb, o, none⟩ = some (.string T) → Calls Tryz.prog 128 #[.pointer (some ⟨pb, o, none⟩), .int .i64 ((n : Int) + 1 + (z : Int)), .int .i64 (wd : Nat)] W fun e w' => e = .returned (.int .i64 (v : Nat)) ∧ w' = W) := fun W h => by
  have := hnu W h
  rwa [show ((n + 1 + z : Nat) : Int) = (n : Int) + 1 + (z : Int) from by omega] at this
 have c3 := h.total
 have c0 := h.bits.str
 have hpb : pb < w.heap.size := World.block_lt_of_cell? _ _ c0
 have C0 : Hid (w.cell? ⟨pb, o, none⟩ = some (.string T)) := c0
 clear hnu hz h hin c0
 go_enter Tryz.func158, Tryz.ntmps158
 go_wp2_with fail
 refine hpw.mono ?_
 rintro e w1 ⟨rfl, rfl⟩
 go_wp2_with fail
 go_quiet (first | (go_at_call 128; refine Calls.quiet_of_same (HNU.out _ ?_); exact (((Kept.refl (fun _ => False) w).drewN _).cell (p := ⟨pb, o, none⟩) hpb id).trans C0.out))
 go_wp2_with fail
 go_ret
 exact ⟨by first | rfl | go_num, (Kept.refl _ _).drewN _⟩

end Go.Proofs.YtegnkfdbmmndaaaGreat
end

/- RndD -/
section
/- A part of the text. -/
namespace Go.Proofs.YtegnkfdbmmndaaaGreat
open Go.RowKit

theorem ArchAt.samp {B : Nat} {w : World} {pa : Nat} {s l6 : List UInt8} {L : List Nat} {l8 : List UInt8} {st : Hm.LaySt} (h : ArchAt B w pa s l6 L l8 st) (hp : Hm.Parse s l6 L l8 st) : ∃ gs, SampAt w pa 1036 ⟨((l8.drop (Hm.szB st.len)).take (Hm.szB (Hm.sampLen (Hm.rdN s).1))).toArray⟩ (Hm.sampLen (Hm.rdN s).1) gs (Hm.rdN s).1 := by
 obtain ⟨gn, ge, g, ng, nc, gs, b1, b2, b3, b4, b5, a2, a3, a4, a5, a6, a7⟩ := h
 refine ⟨gs, ?_⟩
 obtain ⟨col, c1, c2, cw⟩ := Hm.treeOk_tells hp.tree
 have hvs : (treeCells ⟨(l8.take (Hm.szB st.len)).toArray⟩ st.len g (Hm.tabOf L) (.slice (some ⟨ng, 0, none⟩) st.nds.length nc) st.ws (Hm.rdN s).1).toArray.size = 773 := by
  rw [List.size_toArray]; exact treeCells_length _ _ _ _ _ _ _ (Hm.tabTo_length _ _ _ _) cw.1
 have hel5 : (endsCells l6 (Hm.rdF s).1 (Hm.rdN s).1 ge).length = 5 := rfl
 have hrl := rowsL_length (treeCells ⟨(l8.take (Hm.szB st.len)).toArray⟩ st.len g (Hm.tabOf L) (.slice (some ⟨ng, 0, none⟩) st.nds.length nc) st.ws (Hm.rdN s).1).toArray (Hm.rdR s).1 (Hm.firsts st.ws) hvs (by unfold Hm.firsts; rw [List.length_map, List.length_range])
 have hc : ∀ j, w.cell? ⟨pa, 1036 + j, none⟩ = (sampCells (l8.drop (Hm.szB st.len)) (Hm.rdN s).1 gs)[j]? := fun j => by
  rw [cell_of_row _ _ (1036 + j) _ _ _ a2, List.getElem?_toArray, archL_samp _ _ _ _ hel5 hrl j]
 have hse : (⟨((l8.drop (Hm.szB st.len)).take (Hm.szB (Hm.sampLen (Hm.rdN s).1))).toArray⟩ : ByteArray).size = Hm.szB (Hm.sampLen (Hm.rdN s).1) := by
  show (List.take _ _).toArray.size = _
  have := hp.samp.fits
  rw [List.size_toArray, List.length_take]; omega
 refine ⟨⟨hc 0, hc 1, ?_, a7⟩, hc 3⟩
 rw [hse]; exact hc 2

end Go.Proofs.YtegnkfdbmmndaaaGreat
end

/- RndE -/
section
/- A part of the text of an archive. -/
namespace Go.Proofs.YtegnkfdbmmndaaaGreat
open Go.RowKit

end Go.Proofs.YtegnkfdbmmndaaaGreat
end

/- FndF -/
section
/- A row's place. -/
namespace Go.Proofs.YtegnkfdbmmndaaaGreat
open Go.RowKit

set_option maxHeartbeats 1000000 in
theorem sampPlace_any (hones : OnesSays) (hLn : LenSays) (pb o len g n row q : Nat) (T : ByteArray) (ps : List Nat) (w : World) (h : SampAt w pb o T len g n) (hn : n ≤ 6000) (hT : T.size ≤ 100000) (hps : ps.Perm (List.range (n + 1)))
  (hf : ∀ p, p < (Hm.samples ps).length → Hm.bitB T.data.toList p = (Hm.samples ps).getD p false) (hlen : Hm.sampLen n ≤ 8 * T.size) (hrk : Hm.rk (Hm.bitB T.data.toList) (n + 1) = n / 8 + 1) (hq : ps[row]? = some q) :
  Calls Tryz.prog 162 #[.pointer (some ⟨pb, o, none⟩), .int .i64 row] w fun e w' => e = .returned (if q % 8 = 0 then .tuple #[.int .i64 (q : Nat), .bool true] else .tuple #[.int .i64 0, .bool false]) ∧ Kept (fun _ => False) w w' := by
 have hpl : ps.length = n + 1 := by have := hps.length_eq; simpa using this
 have hr : row < ps.length := by
  rcases Nat.lt_or_ge row ps.length with h | h
  ·exact h
  ·rw [List.getElem?_eq_none h] at hq; cases hq
 rw [List.getElem?_eq_getElem hr] at hq
 have hq := Option.some.inj hq
 have hsl : (Hm.samples ps).length = Hm.sampLen n := Hm.samples_length hps
 have hsn : n + 1 ≤ Hm.sampLen n := by unfold Hm.sampLen; omega
 have hbit : Hm.bitB T.data.toList row = decide (q % 8 = 0) := by
  rw [hf row (by omega)]
  unfold Hm.samples
  rw [List.getD_eq_getElem?_getD, List.getElem?_append_left (by rw [List.length_map]; exact hr), List.getElem?_map, List.getElem?_eq_getElem hr, hq]; rfl
 have hbt := bit_any pb o row T w h.bits.str (by omega) (by omega)
 have hqn : q ≤ n := by have := hps.subset (List.getElem_mem hr); rw [hq] at this; have := List.mem_range.1 this; omega
 by_cases h8 : q % 8 = 0
 ·rw [decide_eq_true h8] at hbit
  rw [hbit] at hbt
  rw [if_pos h8]
  have hon := ones_any hones pb o g len row T w h.bits (by omega) (by omega)
  obtain ⟨j, hj⟩ : ∃ j, j = Hm.rk (Hm.bitB T.data.toList) row := ⟨_, rfl⟩
  obtain ⟨_, hv⟩ := Hm.samp_told hn hps _ hf j row (by omega) ⟨hbit, hj.symm⟩
  have hj2 : j ≤ n / 8 := by
   have h1 := Hm.rk_mono (Hm.bitB T.data.toList) (show row + 1 ≤ n + 1 by omega)
   rw [Hm.rk, hbit, hrk] at h1
   have : (true : Bool).toNat = 1 := rfl
   omega
  have hto := told_any hLn pb o len g n j T w h hn hT (by omega) (by
   have h1 : (j + 1) * Lib.bitLen (n / 8) ≤ (n / 8 + 1) * Lib.bitLen (n / 8) := Nat.mul_le_mul_right _ (by omega)
   unfold Hm.sampLen at hlen
   rw [Nat.add_mul, Nat.one_mul] at h1
   omega)
  rw [hv, hq] at hto
  rw [← hj] at hon
  clear hj hv hbit hf h hps hrk hlen hsl hsn hq
  go_enter Tryz.func162, Tryz.ntmps162
  go_wp2_with fail
  refine hbt.mono ?_
  rintro e w1 ⟨rfl, rfl⟩
  clear hbt
  go_wp2_with fail
  refine hon.mono ?_
  rintro e w2 ⟨rfl, rfl⟩
  clear hon
  go_wp2_with fail
  refine hto.mono ?_
  rintro e w3 ⟨rfl, hk3⟩
  have HK : Hid (Kept (fun _ => False) w2 w3) := hk3
  clear hto hk3
  go_wp2_with fail
  go_ret2
  exact ⟨rfl, HK.out⟩
 ·rw [decide_eq_false h8] at hbit
  rw [hbit] at hbt
  rw [if_neg h8]
  clear hbit hf h hps hrk hlen hsl hsn hq
  go_enter Tryz.func162, Tryz.ntmps162
  go_wp2_with fail
  refine hbt.mono ?_
  rintro e w1 ⟨rfl, rfl⟩
  clear hbt
  go_wp2_with fail
  go_ret2
  exact ⟨rfl, Kept.refl _ _⟩

set_option maxHeartbeats 1000000 in
theorem rowPlace_any (hones : OnesSays) (pb o o2 len g ng nc root row q : Nat) (s : ByteArray) (nds : List Hm.Nd) (ws : List Nat) (col : List UInt8) (ps : List Nat) (w : World) (h : RowsPart w pb o s len g ng nc nds root ws) (ht : Hm.Tells s.data.toList nds col) (hws : Hm.Weighs ws col) (hrt : root ≤ col.length) (hs : s.size ≤ 1000000) (hcl : col.length ≤ 6000)
  (told : ∀ W (r p : Nat), Kept (fun _ => False) w W → ps[r]? = some p → Calls Tryz.prog 162 #[.pointer (some ⟨pb, o2, none⟩), .int .i64 (r : Nat)] W fun e w' => e = .returned (if p % 8 = 0 then .tuple #[.int .i64 (p : Nat), .bool true] else .tuple #[.int .i64 0, .bool false]) ∧ Kept (fun _ => False) W w')
  (hback : ∀ row q k, ps[row]? = some q → k ≤ q → row ≤ col.length ∧ q ≤ 6000 ∧ ps[(Hm.backTo (Hm.longer col ws root) row k).2]? = some (q - k)) (hq : ps[row]? = some q) :
  Calls Tryz.prog 161 #[.func (.func 34) #[.pointer (some ⟨pb, o, none⟩)] #[], .func (.func 162) #[.pointer (some ⟨pb, o2, none⟩)] #[], .int .i64 row] w fun e w' => e = .returned (.int .i64 (q : Nat)) ∧ Kept (fun _ => False) w w' := by
 obtain ⟨hrw, hq6, _⟩ := hback row q 0 hq (Nat.zero_le _)
 have HLO : Hid (∀ k W, RowsPart W pb o s len g ng nc nds root ws → Calls Tryz.prog 34 #[.pointer (some ⟨pb, o, none⟩), .int .i64 ((Hm.backTo (Hm.longer col ws root) row k).2 : Nat)] W fun e w' => e = .returned (.tuple #[.int .u8 ((Hm.longer col ws root (Hm.backTo (Hm.longer col ws root) row k).2).1.toNat : Nat), .int .i64 ((Hm.longer col ws root (Hm.backTo (Hm.longer col ws root) row k).2).2 : Nat)]) ∧ Kept (fun _ => False) W w') :=
  fun k W hW => longer_any hones pb o len g ng nc root _ s nds ws col W hW ht hrt (Hm.backTo_le hws hrt hrw k) hs (by omega) (fun b hb => by have := hws.first_le b (by omega); omega)
 have HR : Hid (RowsPart w pb o s len g ng nc nds root ws) := h
 have HBK : Hid (∀ k, k ≤ q → ps[(Hm.backTo (Hm.longer col ws root) row k).2]? = some (q - k)) := fun k hk => (hback row q k hq hk).2.2
 have HTO : Hid _ := told
 clear h ht hws hback told
 generalize Hm.longer col ws root = stp at *
 go_enter Tryz.func161, Tryz.ntmps161
 go_wp2_with fail
 go_loopw [2, 7] (fun vr vi wr => ∃ k : Nat, k ≤ q ∧ vi = .int .i64 (k : Nat) ∧ vr = .int .i64 ((Hm.backTo stp row k).2 : Nat) ∧ Kept (fun _ => False) w wr) (fun _ vi _ => q - (intOf vi).toNat)
 case atStart => exact ⟨0, Nat.zero_le _, rfl, rfl, Kept.refl _ _⟩
 case round =>
  obtain ⟨k, hk, rfl, rfl, hkr⟩ := hrel
  have hto := HTO.out wr _ (q - k) hkr (HBK.out k hk)
  have HKR : Hid (Kept (fun _ => False) w wr) := hkr
  by_cases h8 : (q - k) % 8 = 0
  ·rw [if_pos h8] at hto
   obtain ⟨p, hp⟩ : ∃ p, p = q - k := ⟨_, rfl⟩
   rw [← hp] at hto
   have HP : Hid (p = q - k) := hp
   have hp6 : p ≤ 6000 := by omega
   clear hkr hp
   generalize (Hm.backTo stp row k).2 = r at *
   go_wp2_with fail
   refine hto.mono ?_
   rintro e w1 ⟨rfl, hk1⟩
   have HK1 : Hid (Kept (fun _ => False) w w1) := HKR.out.trans hk1 (fun _ _ h => h)
   clear hto hk1
   go_wp2_with fail
   go_ret
   exact ⟨ret_int (by have := HP.out; omega), HK1.out⟩
  ·rw [if_neg h8] at hto
   have hk2 : k < q := by
    rcases Nat.lt_or_ge k q with c | c
    ·exact c
    ·exact absurd (by rw [show q - k = 0 from by omega]) h8
   have hlo := HLO.out k
   have HN : Hid ((Hm.backTo stp row (k + 1)).2 = (stp (Hm.backTo stp row k).2).2) := rfl
   clear hkr h8
   generalize stp (Hm.backTo stp row k).2 = nx at *
   generalize (Hm.backTo stp row k).2 = r at *
   have HL2 : Hid _ := hlo
   clear hlo
   go_wp2_with fail
   refine hto.mono ?_
   rintro e w1 ⟨rfl, hk1⟩
   have HK1 : Hid (Kept (fun _ => False) w w1) := HKR.out.trans hk1 (fun _ _ h => h)
   have hlo := HL2.out w1 (HR.out.kept HK1.out id id id)
   clear hto hk1
   go_wp2_with fail
   refine hlo.mono ?_
   rintro e w2 ⟨rfl, hk2'⟩
   have HK2 : Hid (Kept (fun _ => False) w w2) := HK1.out.trans hk2' (fun _ _ h => h)
   clear hlo hk2'
   go_wp2_with fail
   go_roundw
   case rel => exact ⟨k + 1, by omega, by go_num, by rw [HN.out], HK2.out⟩
   case measure => simp [intOf]; omega

end Go.Proofs.YtegnkfdbmmndaaaGreat
end
