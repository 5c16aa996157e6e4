import Derived.Test.YtegnkfdbmmndaaaGreatProg
import Derived.WalkKit
import Derived.WalkSpells
import Derived.WalkLawsBesides
import Derived.Test.YtegnkfdbmmndaaaGreatJ28
import Derived.Test.YtegnkfdbmmndaaaGreatJ32
import Derived.Deep.Cut
import Derived.Deep.CutRange
import Derived.Test.YtegnkfdbmmndaaaGreatJ24
import Derived.ProofKit
import Derived.OpenShut
import Derived.Deep.SlicePairs
import Derived.SizedLaws
import Derived.Test.YtegnkfdbmmndaaaGreatJ26
import Derived.SliceStrings
import Derived.ChangeMaps5

/- PickG -/
section
/- What pick of the statements' package hands back. -/
namespace Go.Proofs.YtegnkfdbmmndaaaGreat
open Go.RowKit

set_option maxHeartbeats 400000 in
theorem pick_any (c n : Int) (w : World) (hc1 : -9223372036854775808 ≤ c) (hc2 : c ≤ 9223372036854775807) (hn : 1 ≤ n) (hn2 : n ≤ 281474976710656) :
  Calls Tryz.prog 22 #[.int .i64 c, .int .i64 n] w fun e w' => (∃ r : Int, e = .returned (.int .i64 r) ∧ 0 ≤ r ∧ r < n) ∧ w' = w := by
 by_cases h : c < 0
 ·go_enter Tryz.func22, Tryz.ntmps22
  go_wp2
  go_ret
  have e : -(c + 1).tmod n = (-(c + 1)) % n := by rw [← Int.neg_tmod, Int.tmod_eq_emod_of_nonneg (by omega)]
  refine ⟨⟨_, rfl, ?_⟩, rfl⟩
  rw [e]
  exact ⟨Int.emod_nonneg _ (by omega), Int.emod_lt_of_pos _ (by omega)⟩
 ·go_enter Tryz.func22, Tryz.ntmps22
  go_wp2
  go_ret
  exact ⟨⟨_, rfl, Int.emod_nonneg _ (by omega), Int.emod_lt_of_pos _ (by omega)⟩, rfl⟩

end Go.Proofs.YtegnkfdbmmndaaaGreat
end

/- FndO -/
section
/- What is found is there, and all of it. -/
namespace Go.Proofs.YtegnkfdbmmndaaaGreat
open Go.RowKit

theorem bytes_mid (C : ByteArray) (a b : Nat) : C.extract a b = ⟨((C.data.toList.drop a).take (b - a)).toArray⟩ := by
 apply ByteArray.ext
 apply Array.ext'
 simp only [ByteArray.data_extract, Array.toList_extract, List.extract_eq_take_drop]
namespace Hm
theorem PlIs.nil {P : List UInt8} {pl : List (Nat × Nat)} (h : PlIs [] P pl) : pl = [] := by
 cases pl with
 | nil => rfl
 | cons x r =>
  obtain ⟨k, a⟩ := x
  obtain ⟨hk, _⟩ := (h.iff k a).1 (List.mem_cons_self ..)
  simp at hk
theorem PlIs.at {fs : List (ByteArray × ByteArray)} {P : List UInt8} {pl : List (Nat × Nat)} (h : PlIs fs P pl) (i : Nat) (hi : i < pl.length) : ∃ hk : pl[i].1 < fs.length, pl[i].2 + P.length ≤ fs[pl[i].1].2.size ∨ P = [] := by
 obtain ⟨hk, hp⟩ := (h.iff pl[i].1 pl[i].2).1 (List.getElem_mem hi)
 refine ⟨hk, ?_⟩
 have := hp.length_le
 rw [List.length_drop] at this
 have hs : fs[pl[i].1].2.data.toList.length = fs[pl[i].1].2.size := by simp
 cases P with
 | nil => exact .inr rfl
 | cons x r => rw [List.length_cons] at this ⊢; exact .inl (by omega)
theorem prefix_take {P l : List UInt8} (h : P <+: l) : l.take P.length = P := by
 obtain ⟨z, rfl⟩ := h
 exact List.take_left
end Hm

set_option maxRecDepth 20000 in
set_option maxHeartbeats 8000000 in
theorem found_any (ao : Option Addr) (c : Nat) (raw : List ByteArray) (fi at' n mo : Int) (w : World) (h : StrsAt w ao raw) (hl : raw.length ≤ 140737488355328) (hsz : ∀ x ∈ raw, x.size ≤ 140737488355328)
  (hf1 : -9223372036854775808 ≤ fi) (hf2 : fi ≤ 9223372036854775807) (ha1 : -9223372036854775808 ≤ at') (ha2 : at' ≤ 9223372036854775807) (hn1 : -9223372036854775808 ≤ n) (hn2 : n ≤ 9223372036854775807) (hm1 : -9223372036854775808 ≤ mo) (hm2 : mo ≤ 9223372036854775807) :
  Calls Tryz.prog 9 #[.slice ao raw.length c, .int .i64 fi, .int .i64 at', .int .i64 n, .int .i64 mo] w fun e w' => e = .returned (.bool true) ∧ Kept (fun _ => False) w w' := by
 have hfl := filesK_any ao c raw w h hl hsz
 obtain ⟨fs, hfs⟩ : ∃ fs, fs = (Hm.keepTo raw (min raw.length 40)).1 := ⟨_, rfl⟩
 have hfn : fs.length = min raw.length 40 := by rw [hfs, Hm.keepTo_length]
 have hck : Hm.ckAll fs = 0 := by rw [hfs]; exact Hm.keepTo_ok raw _ (by omega)
 rw [← hfs, ← hfn] at hfl
 have hm40 : fs.length ≤ 40 := by omega
 have HC : Hid (Hm.ckAll fs = 0) := hck
 clear h hsz hfs hfn hck
 go_enter Tryz.func9, Tryz.ntmps9
 go_wp2_with fail
 refine hfl.mono ?_
 rintro e w1 ⟨v, rfl, hown, hk1⟩
 obtain ⟨ao1, c1, rfl, hat, hbl⟩ := ownsRow_files hown
 have hst := stored_any ones_says len_says ao1 c1 fs w1 hat hbl HC.out
 have H1 : Hid (Kept (fun _ => False) w w1 ∧ FilesAt w1 ao1 fs) := ⟨hk1, hat⟩
 clear hown hat hbl hk1 hfl
 go_wp2_with fail
 refine hst.mono ?_
 rintro e w2 ⟨hk2, s, B, pa, l6, L, l8, st, hS2, rfl⟩
 obtain ⟨ps, hIs⟩ := Hm.arch_whole HC.out hS2.is hS2.parse
 obtain ⟨S, hS⟩ : ∃ T, T = (⟨s.toArray⟩ : ByteArray) := ⟨_, rfl⟩
 rw [← hS]
 have H2 : Hid (Kept (fun _ => False) w w2 ∧ FilesAt w2 ao1 fs) := ⟨H1.out.1.trans hk2 (fun _ _ h => h), H1.out.2.kept hk2 (fun _ _ => id)⟩
 have HCO : Hid (∀ W, Kept (fun _ => False) w2 W → ∀ P : List UInt8, P.length ≤ 281474976710656 → P ≠ [] → Calls Tryz.prog 27 #[.pointer (some ⟨pa, 0, none⟩), .string ⟨P.toArray⟩] W fun e w' => ∃ pl : List (Nat × Nat), e = .returned (.tuple #[.int .i64 (pl.length : Nat), .int .i64 0]) ∧ pl.length ≤ 6001 ∧ Hm.PlIs fs P pl ∧ Kept (fun _ => False) W w') :=
  fun W hk P h1 h2 => count_pl ones_says len_says B pa s l6 L l8 st fs ps W hS2.parse (hS2.arch.kept hk (fun _ _ _ => id) id) hIs P h1 h2
 have HLO : Hid (∀ W, Kept (fun _ => False) w2 W → ∀ P : List UInt8, P.length ≤ 281474976710656 → P ≠ [] → ∀ M : Nat, M ≤ 9223372036854775807 → Calls Tryz.prog 28 #[.pointer (some ⟨pa, 0, none⟩), .string ⟨P.toArray⟩, .int .i64 (M : Nat)] W fun e w' => ∃ (pl : List (Nat × Nat)) (v : Value), e = .returned (.tuple #[v, .int .i64 0]) ∧ w'.ownsRow W.heap.size 73 2 v (pl.take M).length (plcells (pl.take M)) ∧ pl.length ≤ 6001 ∧ Hm.PlIs fs P pl ∧ Kept (fun _ => False) W w') :=
  fun W hk P h1 h2 M hM => locate_pl ones_says len_says B pa s l6 L l8 st fs ps W hS2.parse (hS2.arch.kept hk (fun _ _ _ => id) id) hIs P h1 h2 M hM
 clear hst hk2 hS2 hS H1 hIs
 by_cases hm0 : fs.length = 0
 ·have hfe : fs = [] := List.eq_nil_of_length_eq_zero hm0
  have hco := HCO.out w2 (Kept.refl _ _) [120] (by simp) (by simp)
  have hP1 : (⟨([120] : List UInt8).toArray⟩ : ByteArray) = ⟨#[120]⟩ := rfl
  rw [hP1] at hco
  rw [hm0]
  go_wp2_with fail
  refine hco.mono ?_
  rintro e w3 ⟨pl, rfl, _, hpi, hk3⟩
  rw [hfe] at hpi
  have hpe := hpi.nil
  subst hpe
  have H3 : Hid (Kept (fun _ => False) w w3) := H2.out.1.trans hk3 (fun _ _ h => h)
  clear hco hpi hk3
  go_wp2_with fail
  go_ret
  exact ⟨rfl, H3.out⟩
 ·have hpk := pick_any fi (fs.length : Nat) w2 hf1 hf2 (by omega) (by omega)
  have hm0I : ((fs.length : Int) == 0) = false := by rw [beq_eq_false_iff_ne]; omega
  have hm0N : ¬ (fs.length : Int) = 0 := by omega
  go_wp2_with fail
  refine hpk.mono ?_
  rintro e w3 ⟨⟨r, rfl, hr0, hr1⟩, rfl⟩
  obtain ⟨f, hf⟩ : ∃ f : Nat, r = (f : Int) := ⟨r.toNat, by omega⟩
  subst hf
  have hfm : f < fs.length := by omega
  obtain ⟨b, o, hao, hbw, _, c2⟩ := H2.out.2 f hfm
  subst hao
  have hcs := ((Hm.ckAll_ok HC.out).2.1 fs[f] (List.getElem_mem hfm)).2
  obtain ⟨K, hK⟩ : ∃ K, K = fs[f].2 := ⟨_, rfl⟩
  rw [← hK] at c2 hcs
  have HK : Hid (K = fs[f].2) := hK
  have hfI : (f : Int) < (fs.length : Int) := hr1
  clear hpk hK hr0
  go_upto_if 63 with fail
  go_cut [17] from 63 to 263 (fun v17 wx => (∃ C : ByteArray, C = (if K.size = 0 then ⟨#[122]⟩ else K) ∧ v17 = .string C) ∧ w3 = wx)
  case first =>
   as_aux_lemma =>
    by_cases hK0 : K.size = 0
    ·have hKE : K.toList.isEmpty = true := by rw [isEmpty_toList]; exact decide_eq_true hK0
     have HK0 : Hid (K.size = 0) := hK0
     rw [hKE]
     clear hK0
     go_wp2_with fail
     go_meet
     case rel => exact ⟨⟨_, (if_pos HK0.out).symm, rfl⟩, rfl⟩
    ·have hKE : K.toList.isEmpty = false := by rw [isEmpty_toList]; exact decide_eq_false hK0
     have HK0 : Hid (¬ K.size = 0) := hK0
     rw [hKE]
     clear hK0
     go_wp2_with fail
     go_meet
     case rel => exact ⟨⟨_, (if_neg HK0.out).symm, rfl⟩, rfl⟩
  case rest =>
   obtain ⟨⟨C, hC, rfl⟩, rfl⟩ := hcut
   have hC1 : 1 ≤ C.size ∧ C.size ≤ 3000 := by
    rw [hC]
    split
    ·exact ⟨by decide, by decide⟩
    ·omega
   have HCE : Hid (C = (if K.size = 0 then ⟨#[122]⟩ else K)) := hC
   have hpk := pick_any at' (C.size : Nat) w3 ha1 ha2 (by omega) (by omega)
   clear hC
   go_wp2_with fail
   refine hpk.mono ?_
   rintro e w4 ⟨⟨r, rfl, hr0, hr1'⟩, rfl⟩
   obtain ⟨fr, hfr⟩ : ∃ f : Nat, r = (f : Int) := ⟨r.toNat, by omega⟩
   subst hfr
   have hfrC : fr < C.size := by omega
   obtain ⟨d, hd⟩ : ∃ d, d = C.size - fr := ⟨_, rfl⟩
   have zd : (C.size : Int) - (fr : Int) = (d : Int) := by omega
   have hpk2 := pick_any n (d : Nat) w4 hn1 hn2 (by omega) (by omega)
   have HD : Hid (d = C.size - fr) := hd
   have hd3 : d ≤ 3000 := by omega
   clear hpk hr0 hr1' hd
   go_wp2_with fail
   refine hpk2.mono ?_
   rintro e w5 ⟨⟨r, rfl, hr0, hr1'⟩, rfl⟩
   obtain ⟨x, hx⟩ : ∃ f : Nat, r = (f : Int) := ⟨r.toNat, by omega⟩
   subst hx
   obtain ⟨to', hto⟩ : ∃ z, z = fr + 1 + x := ⟨_, rfl⟩
   have zto : (fr : Int) + 1 + (x : Int) = (to' : Int) := by omega
   have htoC : to' ≤ C.size := by have := HD.out; omega
   have hfrt : fr ≤ to' := by omega
   obtain ⟨P, hP⟩ : ∃ P, P = (C.data.toList.drop fr).take (to' - fr) := ⟨_, rfl⟩
   have hCl : C.data.toList.length = C.size := by simp
   have hPl : P.length = 1 + x := by rw [hP, List.length_take, List.length_drop]; omega
   have hP0 : P ≠ [] := fun e => by rw [e] at hPl; simp at hPl; omega
   have hPE : C.extract fr to' = (⟨P.toArray⟩ : ByteArray) := by rw [bytes_mid, hP]
   obtain ⟨Q, hQ⟩ : ∃ Q, Q = (⟨P.toArray⟩ : ByteArray) := ⟨_, rfl⟩
   have hQs : Q.size = 1 + x := by rw [hQ]; show P.toArray.size = _; rw [List.size_toArray, hPl]
   rw [← hQ] at hPE
   have HP : Hid (P = (C.data.toList.drop fr).take (to' - fr) ∧ Q = (⟨P.toArray⟩ : ByteArray) ∧ P ≠ [] ∧ P.length = 1 + x ∧ to' = fr + 1 + x) := ⟨hP, hQ, hP0, hPl, hto⟩
   have hx3 : x < 3000 := by omega
   have hco := HCO.out w5 (Kept.refl _ _) P (by omega) hP0
   rw [← hQ] at hco
   clear hpk2 hr0 hr1' hP hQ hP0 hPl hCl hto
   go_wp2_with fail
   refine hco.mono ?_
   rintro e w6 ⟨pl, rfl, hpl6, hpi, hk6⟩
   have hlo := HLO.out w6 hk6 P (by have := HP.out.2.2.2.1; omega) HP.out.2.2.1 1099511627776 (by omega)
   rw [← HP.out.2.1, show ((1099511627776 : Nat) : Int) = 1099511627776 from rfl] at hlo
   have H6 : Hid (Hm.PlIs fs P pl ∧ Kept (fun _ => False) w5 w6) := ⟨hpi, hk6⟩
   clear hco hpi hk6
   go_wp2_with fail
   refine hlo.mono ?_
   rintro e w7 ⟨pl2, va, rfl, hoa, _, hpi2, hk7⟩
   have hpe : pl2 = pl := hpi2.unique H6.out.1
   subst hpe
   rw [List.take_of_length_le (by omega)] at hoa
   obtain ⟨aa, ca, hva, _⟩ := slice_shape hoa
   subst hva
   have H7 : Hid (w7.ownsRow w6.heap.size 73 2 (.slice aa pl2.length ca) pl2.length (plcells pl2) ∧ Kept (fun _ => False) w5 w7) := ⟨hoa, H6.out.2.trans hk7 (fun _ _ h => h)⟩
   have hpk := pick_any mo ((pl2.length : Int) + 3) w7 hm1 hm2 (by omega) (by omega)
   clear hlo hoa hpi2 hk7
   go_wp2_with fail
   refine hpk.mono ?_
   rintro e w8 ⟨⟨r, rfl, hr0, hr1'⟩, rfl⟩
   obtain ⟨mm, hmm⟩ : ∃ f : Nat, r = (f : Int) := ⟨r.toNat, by omega⟩
   subst hmm
   have hlo := HLO.out w8 H7.out.2 P (by have := HP.out.2.2.2.1; omega) HP.out.2.2.1 mm (by omega)
   rw [← HP.out.2.1] at hlo
   clear hpk hr0 hr1'
   go_wp2_with fail
   refine hlo.mono ?_
   rintro e w9 ⟨pl3, vs, rfl, hos, _, hpi3, hk9⟩
   have hpe : pl3 = pl2 := hpi3.unique H6.out.1
   subst hpe
   obtain ⟨ms, hms⟩ : ∃ ms, ms = (pl3.take mm).length := ⟨_, rfl⟩
   have hms2 : ms = min mm pl3.length := by rw [hms, List.length_take]
   rw [← hms] at hos
   obtain ⟨az, cs, hvs, _⟩ := slice_shape hos
   subst hvs
   have H9 : Hid (w9.ownsRow w6.heap.size 73 2 (.slice aa pl3.length ca) pl3.length (plcells pl3) ∧ w9.ownsRow w8.heap.size 73 2 (.slice az ms cs) ms (plcells (pl3.take mm)) ∧ Kept (fun _ => False) w5 w9 ∧ ms = (pl3.take mm).length) := ⟨hk9.owns H7.out.1 (fun _ _ h => h), hos, H7.out.2.trans hk9 (fun _ _ h => h), hms⟩
   have hmsl : ms ≤ pl3.length := by omega
   have hmsm : ms ≤ mm := by omega
   have HMS : Hid (ms < mm → ms = pl3.length) := fun h => by omega
   clear hlo hos hpi3 hk9 H7 hms hms2
   go_upto_region 20 with fail
   go_cut [138] from 105 to 263 (fun v wx => v = .bool false ∧ w9 = wx)
   case first =>
    as_aux_lemma =>
     have h1 : decide ((mm : Int) < (ms : Int)) = false := decide_eq_false (by omega)
     have h1' : decide (mm < ms) = false := decide_eq_false (by omega)
     by_cases hlt : ms < mm
     ·have he := HMS.out hlt
      subst he
      have h2 : decide ((pl3.length : Int) < (mm : Int)) = true := decide_eq_true (by omega)
      have h2' : decide (pl3.length < mm) = true := decide_eq_true hlt
      go_wp2_with fail
      go_meet
      case rel => exact ⟨rfl, rfl⟩
     ·have h2 : decide ((ms : Int) < (mm : Int)) = false := decide_eq_false (by omega)
      have h2' : decide (ms < mm) = false := decide_eq_false hlt
      go_wp2_with fail
      go_meet
      case rel => exact ⟨rfl, rfl⟩
   case rest =>
    obtain ⟨rfl, rfl⟩ := hcut
    have cK : w9.cell? ⟨b, o + f * 2 + 1, none⟩ = some (.string K) := (H9.out.2.2.1.cell (p := ⟨b, o + f * 2 + 1, none⟩) hbw id).trans c2
    go_wp2_with fail
    go_loopw [27, 28] (fun v27 vi wr => ∃ i : Nat, i ≤ pl3.length ∧ vi = .int .i64 i ∧ v27 = .bool (decide (K.size = 0 ∨ (f, fr) ∈ pl3.take i)) ∧ Kept (fun _ => False) w9 wr) (fun _ vi _ => pl3.length - (intOf vi).toNat)
    case atStart => exact ⟨0, Nat.zero_le _, rfl, by rw [isEmpty_toList]; simp, Kept.refl _ _⟩
    case round =>
     obtain ⟨i, hi, rfl, rfl, hkr⟩ := hrel
     by_cases hlt : i < pl3.length
     ·obtain ⟨hk, hor⟩ := H6.out.1.at i hlt
      obtain ⟨_, hpre⟩ := (H6.out.1.iff pl3[i].1 pl3[i].2).1 (List.getElem_mem hlt)
      have hin : pl3[i].2 + P.length ≤ fs[pl3[i].1].2.size := hor.resolve_right HP.out.2.2.1
      have hk5 : Kept (fun _ => False) w5 wr := H9.out.2.2.1.trans hkr (fun _ _ h => h)
      obtain ⟨b', o', hbo, hbw', _, cX⟩ := (H2.out.2.kept hk5 (fun _ _ => id)) pl3[i].1 hk
      injection hbo with hbo
      injection hbo with hb1 ho1
      subst hb1 ho1
      have hoa := hkr.owns H9.out.1 (fun _ _ h => h)
      obtain ⟨ga, hga1⟩ : ∃ ga, aa = some ⟨ga, 0, none⟩ := by
       rcases hoa.2 with ⟨_, h0⟩ | ⟨ga, cap, cur, hga, _⟩
       ·omega
       ·injection hga with h1
        exact ⟨ga, h1⟩
      subst hga1
      have hgc := fun j (hj : j < pl3.length) => (⟨(hoa.cellAt (j * 2) (by omega)).trans (plcells_get pl3 j hj).1, (hoa.cellAt (j * 2 + 1) (by omega)).trans (plcells_get pl3 j hj).2⟩ : wr.cell? ⟨ga, j * 2, none⟩ = some (.int .i64 (pl3[j].1 : Nat)) ∧ wr.cell? ⟨ga, j * 2 + 1, none⟩ = some (.int .i64 (pl3[j].2 : Nat)))
      obtain ⟨e0, e1⟩ := hgc i hlt
      have HGC : Hid _ := hgc
      have hgaw : ga < wr.heap.size := (hoa.lt ga rfl).2
      have hXQ : fs[pl3[i].1].2.extract pl3[i].2 (pl3[i].2 + P.length) = Q := by
       rw [bytes_mid, Nat.add_sub_cancel_left, Hm.prefix_take hpre, HP.out.2.1]
      obtain ⟨X, hX⟩ : ∃ X, X = fs[pl3[i].1].2 := ⟨_, rfl⟩
      rw [← hX] at cX hin hXQ
      have HEQ : Hid (Q.size = P.length) := by show _ = _; rw [HP.out.2.1]; show P.toArray.size = _; simp
      rw [← HEQ.out] at hin hXQ
      obtain ⟨k, hke⟩ : ∃ k, k = pl3[i].1 := ⟨_, rfl⟩
      obtain ⟨a, hae⟩ : ∃ a, a = pl3[i].2 := ⟨_, rfl⟩
      rw [← hke] at hk cX e0
      rw [← hae] at hin hXQ e1
      have hXs : X.size ≤ 3000 := by rw [hX]; exact ((Hm.ckAll_ok HC.out).2.1 _ (List.getElem_mem _)).2
      have HKA : Hid (k = pl3[i].1 ∧ a = pl3[i].2) := ⟨hke, hae⟩
      have HKR : Hid (Kept (fun _ => False) w9 wr) := hkr
      have hltI : (i : Int) < (pl3.length : Int) := by omega
      have hil6 : i ≤ 6001 := by omega
      clear hkr hk5 hoa hgc hpre hor hX hke hae
      obtain ⟨T, hT⟩ : ∃ T, T = decide (K.size = 0 ∨ (f, fr) ∈ pl3.take i) := ⟨_, rfl⟩
      rw [← hT]
      have HT0 : Hid (T = decide (K.size = 0 ∨ (f, fr) ∈ pl3.take i)) := hT
      clear hT
      go_upto_region 27 with fail
      obtain ⟨W1, hW1⟩ : ∃ W1, W1 = wr.alloc (.cells #[.int .i64 (k : Nat), .int .i64 (a : Nat)] 73) := ⟨_, rfl⟩
      have hbx : W1.heap[wr.heap.size]? = some (.cells #[.int .i64 (k : Nat), .int .i64 (a : Nat)] 73 (0, 0)) := by rw [hW1]; exact heap_alloc_new wr _
      have hkW : Kept (fun _ => False) wr W1 := by rw [hW1]; exact (Kept.refl _ _).alloc _
      rw [← hW1]
      clear hW1
      obtain ⟨bx, hbxe⟩ : ∃ bx, bx = wr.heap.size := ⟨_, rfl⟩
      rw [← hbxe] at hbx ⊢
      obtain ⟨y, hy⟩ : ∃ y, y = a + Q.size := ⟨_, rfl⟩
      rw [← hy] at hXQ hin
      have hwy : IntKind.i64.wrap ((a : Int) + (Q.size : Int)) = (y : Int) := by rw [IntKind.wrap_i64]; omega
      have hay : a ≤ y := by omega
      have HW : Hid (Kept (fun _ => False) wr W1 ∧ W1.heap[bx]? = some (.cells #[.int .i64 (k : Nat), .int .i64 (a : Nat)] 73 (0, 0))) := ⟨hkW, hbx⟩
      have HX : Hid (W1.cell? ⟨b, o + k * 2 + 1, none⟩ = some (.string X)) := (hkW.cell (p := ⟨b, o + k * 2 + 1, none⟩) hbw' id).trans cX
      have hkI : (k : Int) < (fs.length : Int) := by omega
      clear hbx hkW hbxe hy e0 e1 cX cK c2 hQs hpl6 hPE
      go_cut [202] from 155 to 262 (fun v wx => v = .bool false ∧ Hid (Kept (fun _ => False) W1 wx))
      case first =>
       as_aux_lemma =>
        have q0 : W1.cell? ⟨bx, 0, none⟩ = some (.int .i64 (k : Nat)) := cell_of_row _ _ 0 _ _ _ HW.out.2
        have q1 : W1.cell? ⟨bx, 1, none⟩ = some (.int .i64 (a : Nat)) := cell_of_row _ _ 1 _ _ _ HW.out.2
        have cX := HX.out
        have d1 : decide ((k : Int) < 0) = false := decide_eq_false (by omega)
        have d2 : decide ((fs.length : Int) ≤ (k : Int)) = false := decide_eq_false (by omega)
        have d2' : decide (fs.length ≤ k) = false := decide_eq_false (by omega)
        have d3 : decide ((a : Int) < 0) = false := decide_eq_false (by omega)
        have d4 : decide ((X.size : Int) < (y : Int)) = false := decide_eq_false (by omega)
        have d4' : decide (X.size < y) = false := decide_eq_false (by omega)
        have hyI : (y : Int) ≤ (X.size : Int) := by omega
        have hayI : (a : Int) ≤ (y : Int) := by omega
        go_quiet (fail)
        go_wp2_with fail
        go_meet
        case rel => exact ⟨by first | rfl | (simp; done) | (simp; omega), (Kept.refl _ _).drewN _⟩
      case rest =>
       obtain ⟨rfl, HW2⟩ := hcut
       go_upto_region 29 with fail
       go_cut [237] from 203 to 262 (fun v wx => v = .bool false ∧ Hid (Kept (fun _ => False) W1 wx))
       case first =>
        as_aux_lemma =>
         have hbq := HW2.out.row HW.out.2 id
         have q0 : wc.cell? ⟨bx, 0, none⟩ = some (.int .i64 (k : Nat)) := cell_of_row _ _ 0 _ _ _ hbq
         have q1 : wc.cell? ⟨bx, 1, none⟩ = some (.int .i64 (a : Nat)) := cell_of_row _ _ 1 _ _ _ hbq
         clear hbq
         rcases Nat.eq_zero_or_pos i with hi0 | hi0
         ·have di : decide ((0 : Int) < (i : Int)) = false := decide_eq_false (by omega)
          have di2 : decide (0 < i) = false := decide_eq_false (by omega)
          clear hi0
          go_quiet (fail)
          go_wp2_with fail
          go_meet
          case rel => exact ⟨by first | rfl | (simp; done) | (simp; omega), HW2.out.drewN _⟩
         ·obtain ⟨j, hj⟩ : ∃ j, i = j + 1 := ⟨i - 1, by omega⟩
          have hjl : j < pl3.length := by omega
          have hwi : IntKind.i64.wrap ((i : Int) - 1) = (j : Int) := by rw [IntKind.wrap_i64]; omega
          have di : decide ((0 : Int) < (i : Int)) = true := decide_eq_true (by omega)
          have di2 : decide (0 < i) = true := decide_eq_true hi0
          have di3 : ¬ i = 0 := by omega
          have hjI : (j : Int) < (pl3.length : Int) := by omega
          obtain ⟨g0, g1⟩ := HGC.out j hjl
          have hkc : Kept (fun _ => False) wr wc := HW.out.1.trans HW2.out (fun _ _ h => h)
          have p0 := (hkc.cell (p := ⟨ga, j * 2, none⟩) hgaw id).trans g0
          have p1 := (hkc.cell (p := ⟨ga, j * 2 + 1, none⟩) hgaw id).trans g1
          have hlex : Hm.lexP pl3[j] pl3[i] := (List.pairwise_iff_getElem.1 H6.out.1.asc) j i hjl hlt (by omega)
          unfold Hm.lexP at hlex
          rw [← HKA.out.1, ← HKA.out.2] at hlex
          generalize pl3[j].1 = k' at *
          generalize pl3[j].2 = a' at *
          clear g0 g1 hkc hj
          have l1 : decide ((k : Int) < (k' : Int)) = false := decide_eq_false (by omega)
          have l1' : decide (k < k') = false := decide_eq_false (by omega)
          rcases hlex with hlx | ⟨hlx, hla⟩
          ·have l2 : ((k' : Int) == (k : Int)) = false := by rw [beq_eq_false_iff_ne]; omega
           go_quiet (fail)
           go_wp2_with fail
           go_meet
           case rel => exact ⟨by first | rfl | (simp; done) | (simp; omega), HW2.out.drewN _⟩
          ·have l2 : ((k' : Int) == (k : Int)) = true := by rw [beq_iff_eq]; omega
           have l3 : decide ((a : Int) ≤ (a' : Int)) = false := decide_eq_false (by omega)
           have l3' : decide (a ≤ a') = false := decide_eq_false (by omega)
           go_quiet (fail)
           go_wp2_with fail
           go_meet
           case rel => exact ⟨by first | rfl | (simp; done) | (simp; omega), HW2.out.drewN _⟩
       case rest =>
        obtain ⟨rfl, HW3⟩ := hcut
        clear HW2
        go_upto_region 31 with fail
        go_cut [249] from 238 to 262 (fun v wx => v = .bool false ∧ Hid (Kept (fun _ => False) W1 wx))
        case first =>
         as_aux_lemma =>
          have hbq := HW3.out.row HW.out.2 id
          have q0 : wc.cell? ⟨bx, 0, none⟩ = some (.int .i64 (k : Nat)) := cell_of_row _ _ 0 _ _ _ hbq
          have q1 : wc.cell? ⟨bx, 1, none⟩ = some (.int .i64 (a : Nat)) := cell_of_row _ _ 1 _ _ _ hbq
          clear hbq
          by_cases hims : i < ms
          ·have himI : (i : Int) < (ms : Int) := by omega
           have hdm : decide ((i : Int) < (ms : Int)) = true := decide_eq_true himI
           have hos := (HKR.out.trans (HW.out.1.trans HW3.out (fun _ _ h => h)) (fun _ _ h => h)).owns H9.out.2.1 (fun _ _ h => h)
           obtain ⟨gs, hgs⟩ : ∃ gs, az = some ⟨gs, 0, none⟩ := by
            rcases hos.2 with ⟨_, h0⟩ | ⟨gs, cap, cur, hga, _⟩
            ·omega
            ·injection hga with h1
             exact ⟨gs, h1⟩
           subst hgs
           have hit : i < (pl3.take mm).length := by rw [← H9.out.2.2.2]; exact hims
           have s0 := (hos.cellAt (i * 2) (by omega)).trans (plcells_get (pl3.take mm) i hit).1
           have s1 := (hos.cellAt (i * 2 + 1) (by omega)).trans (plcells_get (pl3.take mm) i hit).2
           rw [List.getElem_take] at s0 s1
           rw [← HKA.out.1] at s0
           rw [← HKA.out.2] at s1
           clear hos hit
           go_quiet (fail)
           go_wp2_with fail
           go_meet
           case rel => exact ⟨by first | rfl | (simp; done) | (simp; omega), HW3.out.drewN _⟩
          ·have himI : ¬ (i : Int) < (ms : Int) := by omega
           have hdm : decide ((i : Int) < (ms : Int)) = false := decide_eq_false himI
           go_quiet (fail)
           go_wp2_with fail
           go_meet
           case rel => exact ⟨by first | rfl | (simp; done) | (simp; omega), HW3.out.drewN _⟩
        case rest =>
         obtain ⟨rfl, HW4⟩ := hcut
         clear HW3
         have hbq := HW4.out.row HW.out.2 id
         have q0 : wc.cell? ⟨bx, 0, none⟩ = some (.int .i64 (k : Nat)) := cell_of_row _ _ 0 _ _ _ hbq
         have q1 : wc.cell? ⟨bx, 1, none⟩ = some (.int .i64 (a : Nat)) := cell_of_row _ _ 1 _ _ _ hbq
         have HTN : Hid (decide (K.size = 0 ∨ (f, fr) ∈ pl3.take (i + 1)) = (T || (decide (k = f) && decide (a = fr)))) := by
          show _ = _
          rw [HT0.out, List.take_succ_eq_append_getElem hlt, ← Bool.decide_and, ← Bool.decide_or]
          apply decide_eq_decide.2
          rw [List.mem_append, List.mem_singleton, HKA.out.1, HKA.out.2]
          constructor
          ·rintro (h | h | h)
           ·exact .inl (.inl h)
           ·exact .inl (.inr h)
           ·exact .inr ⟨by rw [← h], by rw [← h]⟩
          ·rintro ((h | h) | ⟨h1, h2⟩)
           ·exact .inl h
           ·exact .inr (.inl h)
           ·exact .inr (.inr (by rw [← h1, ← h2]))
         have HKE : Hid (Kept (fun _ => False) w9 wc) := HKR.out.trans (HW.out.1.trans HW4.out (fun _ _ h => h)) (fun _ _ h => h)
         clear hbq HT0
         cases T with
         | true =>
          go_wp2_with fail
          go_roundw
          case rel => exact ⟨i + 1, by omega, by go_num, by rw [HTN.out]; rfl, HKE.out⟩
          case measure => simp [intOf]; omega
         | false =>
          by_cases hkf : k = f
          ·have k1 : ((k : Int) == (f : Int)) = true := by rw [beq_iff_eq]; omega
           by_cases haf : a = fr
           ·have k2 : ((a : Int) == (fr : Int)) = true := by rw [beq_iff_eq]; omega
            have HKF : Hid (k = f ∧ a = fr) := ⟨hkf, haf⟩
            clear hkf haf
            go_wp2_with fail
            go_roundw
            case rel => exact ⟨i + 1, by omega, by go_num, by rw [HTN.out, decide_eq_true HKF.out.1, decide_eq_true HKF.out.2]; rfl, HKE.out⟩
            case measure => simp [intOf]; omega
           ·have k2 : ((a : Int) == (fr : Int)) = false := by rw [beq_eq_false_iff_ne]; omega
            have HKF : Hid (k = f ∧ ¬ a = fr) := ⟨hkf, haf⟩
            clear hkf haf
            go_wp2_with fail
            go_roundw
            case rel => exact ⟨i + 1, by omega, by go_num, by rw [HTN.out, decide_eq_true HKF.out.1, decide_eq_false HKF.out.2]; rfl, HKE.out⟩
            case measure => simp [intOf]; omega
          ·have k1 : ((k : Int) == (f : Int)) = false := by rw [beq_eq_false_iff_ne]; omega
           have HKF : Hid (¬ k = f) := hkf
           clear hkf
           go_wp2_with fail
           go_roundw
           case rel => exact ⟨i + 1, by omega, by go_num, by rw [HTN.out, decide_eq_false HKF.out]; rfl, HKE.out⟩
           case measure => simp [intOf]; omega
     ·have hltI : ¬ (i : Int) < (pl3.length : Int) := by omega
      have hil : i = pl3.length := by omega
      have HT : Hid (decide (K.size = 0 ∨ (f, fr) ∈ pl3.take i) = true) := by
       refine decide_eq_true ?_
       by_cases hK0 : K.size = 0
       ·exact .inl hK0
       ·right
        rw [hil, List.take_length]
        refine (H6.out.1.iff f fr).2 ⟨hfm, ?_⟩
        rw [← HK.out]
        have hCK : C = K := by rw [HCE.out, if_neg hK0]
        rw [← hCK, HP.out.1]
        exact List.take_prefix _ _
      have hT := HT.out
      have HKR : Hid (Kept (fun _ => False) w wr) := H2.out.1.trans (H9.out.2.2.1.trans hkr (fun _ _ h => h)) (fun _ _ h => h)
      rw [hT]
      clear hkr hil hT
      go_wp2_with fail
      go_ret
      exact ⟨rfl, HKR.out⟩

end Go.Proofs.YtegnkfdbmmndaaaGreat
end

/- OpenF -/
section
/- A list of files that came in: what lies there, and how great it is. -/
namespace Go.Proofs.YtegnkfdbmmndaaaGreat
open Go.ChangeShapes Go.WideShapes Go.ChangeAt Go.RowKit Go.Deep

theorem weightsAll_mem {H : Type} {P : Program} {e : TypeId} : ∀ {l : List (DataW H)} {d : DataW H}, d ∈ l → ∀ n ∈ d.weights P e, n ∈ DataW.weightsAll P e l
 | x :: r, d, h, n, hn => by
  simp only [DataW.weightsAll, List.mem_append]
  rcases List.mem_cons.1 h with rfl | h
  ·exact .inl hn
  ·exact .inr (weightsAll_mem h n hn)

end Go.Proofs.YtegnkfdbmmndaaaGreat
end

/- OpenS -/
section
/- Texts that came in: what lies there, and how great they are. -/
namespace Go.Proofs.YtegnkfdbmmndaaaGreat
open Go.ChangeShapes Go.WideShapes Go.ChangeAt Go.RowKit Go.Deep

set_option maxRecDepth 100000 in
theorem open_raw {H : Type} {enc : TypeId × Value → H} {W : World} {base : Nat} {v : Value} {d : DataW H} {ps : List MemPlace} (hv : Value.okWide Tryz.prog W .any base 26 v)
  (h : DataW.Trod enc Tryz.prog W 0 (fun _ => true) true 26 v d ps) :
  ∃ (ao : Option Addr) (c : Nat) (raw : List ByteArray), v = .slice ao raw.length c ∧ StrsAt W ao raw ∧
   ((∀ n ∈ d.weights Tryz.prog 26, n ≤ reachBytes) → raw.length ≤ 140737488355328 ∧ ∀ x ∈ raw, x.size ≤ 140737488355328) := by
 obtain ⟨a0, l0, c0, rfl⟩ := okWide_slice Tryz.underlying26 hv
 obtain ⟨fuel, hf⟩ := h
 rcases open_strings Tryz.underlying26 Tryz.underlying9 (by kernel_rfl) hf with ⟨hcs, _⟩ | ⟨a, len, cap, ss, hcs, _, hl, _, hz, hx, hc, _⟩
 ·refine ⟨none, 0, [], by simpa [Value.cells] using hcs, fun i hi => by simp at hi, fun _ => ⟨Nat.zero_le _, fun x hx => by cases hx⟩⟩
 ·have hz' : ss.length = cap := by simpa using hz
  have hlen : (ss.take len).length = len := by rw [List.length_take]; omega
  refine ⟨some a, cap, ss.take len, by rw [hlen]; simpa [Value.cells] using hcs, fun i hi => ?_, fun hw => ?_⟩
  ·have hi' : i < ss.length := by omega
   have k0 := hc i hi'
   obtain ⟨b, off, spot⟩ := a
   have hspot : spot = none := by
    have z0 := hc 0 (by omega)
    simpa [Addr.add] using World.cell?_spot z0
   subst hspot
   rw [add_plain] at k0
   refine ⟨b, off, rfl, World.block_lt_of_cell? _ _ k0, ?_⟩
   rw [k0, List.getElem_take, List.getD_eq_getElem?_getD, List.getElem?_eq_getElem hi']
   rfl
  ·obtain ⟨hd, _⟩ := Prod.mk.inj hx
   subst hd
   rw [DataW.weights, Tryz.underlying26] at hw
   have hb : Tryz.prog.bytesOf 9 = 16 := by kernel_rfl
   have h1 := hw _ (List.mem_cons_self ..)
   rw [hb] at h1
   unfold reachBytes at h1 hw
   simp only [strs, List.length_map, List.length_take, List.length_drop] at h1
   refine ⟨by omega, fun x hxm => ?_⟩
   have hin : (DataW.lit (.string x.data.toList) : DataW H) ∈ strs (ss.take len) := List.mem_map.2 ⟨x, hxm, rfl⟩
   have hsw := hw x.size (List.mem_cons_of_mem _ (List.mem_append_left _ (weightsAll_mem hin _ (by simp [DataW.weights]))))
   omega

end Go.Proofs.YtegnkfdbmmndaaaGreat
end
