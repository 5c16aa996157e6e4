import Derived.Test.YtegnkfdbmmndaaaGreatProg
import Derived.WalkKit
import Derived.WalkSpells
import Derived.WalkLawsBesides
import Derived.Test.YtegnkfdbmmndaaaGreatJ29
import Derived.Test.YtegnkfdbmmndaaaGreatJ30
import Derived.Deep.Cut
import Derived.Deep.CutRange
import Derived.Test.YtegnkfdbmmndaaaGreatJ25
import Derived.ProofKit
import Derived.OpenShut
import Derived.Deep.SlicePairs
import Derived.SizedLaws
import Derived.Test.YtegnkfdbmmndaaaGreatJ27
import Derived.SliceStrings
import Derived.ChangeMaps5
import Derived.ChangeSlices

/- PickG -/
section
/- What pick of the statements' package hands back. -/
namespace Go.Proofs.YtegnkfdbmmndaaaGreat
open Go.RowKit

set_option maxHeartbeats 400000 in
theorem pick_any (c n : Int) (w : World) (hc1 : -9223372036854775808 ≤ c) (hc2 : c ≤ 9223372036854775807) (hn : 1 ≤ n) (hn2 : n ≤ 281474976710656) :
    Calls Tryz.prog 22 #[.int .i64 c, .int .i64 n] w fun e w' => (∃ r : Int, e = .returned (.int .i64 r) ∧ 0 ≤ r ∧ r < n) ∧ w' = w := by
  by_cases h : c < 0
  · go_enter Tryz.func22, Tryz.ntmps22
    go_wp2
    go_ret
    have e : -(c + 1).tmod n = (-(c + 1)) % n := by rw [← Int.neg_tmod, Int.tmod_eq_emod_of_nonneg (by omega)]
    refine ⟨⟨_, rfl, ?_⟩, rfl⟩
    rw [e]
    exact ⟨Int.emod_nonneg _ (by omega), Int.emod_lt_of_pos _ (by omega)⟩
  · go_enter Tryz.func22, Tryz.ntmps22
    go_wp2
    go_ret
    exact ⟨⟨_, rfl, Int.emod_nonneg _ (by omega), Int.emod_lt_of_pos _ (by omega)⟩, rfl⟩

end Go.Proofs.YtegnkfdbmmndaaaGreat
end

/- RndG -/
section
/- What is packed comes back, whole and in parts. -/
namespace Go.Proofs.YtegnkfdbmmndaaaGreat
open Go.RowKit

/-- Numbers lie in memory from an address on. -/
def CutsAt (w : World) (ao : Option Addr) (zs : List Int) : Prop :=
  ∀ i, (h : i < zs.length) → ∃ b o, ao = some ⟨b, o, none⟩ ∧ b < w.heap.size ∧ w.cell? ⟨b, o + i, none⟩ = some (.int .i64 zs[i])
theorem CutsAt.kept {S : Nat → Prop} {w w' : World} {ao : Option Addr} {zs : List Int} (h : CutsAt w ao zs) (hk : Kept S w w') (hn : ∀ a, ao = some a → ¬ S a.block) : CutsAt w' ao zs := by
  intro i hi
  obtain ⟨b, o, e, hb, h1⟩ := h i hi
  have hs := hn _ e
  exact ⟨b, o, e, by have := hk.size; omega, (hk.cell (p := ⟨b, o + i, none⟩) hb hs).trans h1⟩

set_option maxHeartbeats 1000000 in
theorem sameK_any (ao bo : Option Addr) (c d : Nat) (fs : List Hm.Fl) (w : World) (ha : FilesAt w ao fs) (hb : FilesAt w bo fs) (hl : fs.length ≤ 1000000) :
    Calls Tryz.prog 25 #[.slice ao fs.length c, .slice bo fs.length d] w fun e w' => e = .returned (.bool true) ∧ Kept (fun _ => False) w w' := by
  have HA : Hid (FilesAt w ao fs ∧ FilesAt w bo fs) := ⟨ha, hb⟩
  clear ha hb
  go_enter Tryz.func25, Tryz.ntmps25
  go_wp2
  go_loopw [5] (fun vi wr => ∃ k : Nat, k ≤ fs.length ∧ vi = .int .i64 k ∧ Kept (fun _ => False) w wr) (fun vi _ => fs.length - (intOf vi).toNat)
  case atStart => exact ⟨0, by omega, rfl, Kept.refl _ _⟩
  case round =>
    obtain ⟨k, hk, rfl, hkr⟩ := hrel
    have HKR : Hid (Kept (fun _ => False) w wr) := hkr
    by_cases hlt : k < fs.length
    · have hki : (k : Int) < (fs.length : Int) := by omega
      obtain ⟨b, o, rfl, _, c1, c2⟩ := (HA.out.1.kept hkr (fun _ _ => id)) k hlt
      obtain ⟨b', o', rfl, _, c3, c4⟩ := (HA.out.2.kept hkr (fun _ _ => id)) k hlt
      generalize fs[k] = p at *
      obtain ⟨p1, p2⟩ := p
      clear hkr
      go_wp2
      go_quiet (fail)
      go_wp2
      go_roundw
      case rel => exact ⟨k + 1, by omega, by go_num, HKR.out.drewN _⟩
      case measure => simp [intOf]; omega
    · have hki : ¬ (k : Int) < (fs.length : Int) := by omega
      clear hkr
      go_wp2
      go_ret
      exact ⟨rfl, HKR.out⟩

end Go.Proofs.YtegnkfdbmmndaaaGreat
end

/- RndH -/
section
/- The law of what comes back. -/
namespace Go.Proofs.YtegnkfdbmmndaaaGreat
open Go.RowKit

theorem bytes_next (l : List UInt8) (a n : Nat) : (⟨(l.take a).toArray⟩ : ByteArray) ++ ⟨((l.drop a).take n).toArray⟩ = ⟨(l.take (a + n)).toArray⟩ := by
  apply ByteArray.ext
  rw [ByteArray.data_append]
  apply Array.ext'
  rw [Array.toList_append]
  show l.take a ++ (l.drop a).take n = l.take (a + n)
  rw [List.take_add]

set_option maxRecDepth 20000 in
set_option maxHeartbeats 2000000 in
theorem round_any (ao bo : Option Addr) (c d : Nat) (raw : List ByteArray) (zs : List Int) (w : World) (h : StrsAt w ao raw) (hl : raw.length ≤ 140737488355328) (hsz : ∀ x ∈ raw, x.size ≤ 140737488355328) (hz : CutsAt w bo zs) (hzl : zs.length ≤ 140737488355328) (hzr : ∀ z ∈ zs, -9223372036854775808 ≤ z ∧ z ≤ 9223372036854775807) :
    Calls Tryz.prog 8 #[.slice ao raw.length c, .slice bo zs.length d] w fun e w' => e = .returned (.bool true) ∧ Kept (fun _ => False) w w' := by
  have hfl := filesK_any ao c raw w h hl hsz
  obtain ⟨fs, hfs⟩ : ∃ fs, fs = (Hm.keepTo raw (min raw.length 40)).1 := ⟨_, rfl⟩
  have hfn : fs.length = min raw.length 40 := by rw [hfs, Hm.keepTo_length]
  have hck : Hm.ckAll fs = 0 := by rw [hfs]; exact Hm.keepTo_ok raw _ (by omega)
  rw [← hfs, ← hfn] at hfl
  have hm40 : fs.length ≤ 40 := by omega
  have HC : Hid (Hm.ckAll fs = 0) := hck
  have HZ : Hid (CutsAt w bo zs ∧ ∀ z ∈ zs, -9223372036854775808 ≤ z ∧ z ≤ 9223372036854775807) := ⟨hz, hzr⟩
  clear h hsz hfs hfn hck hz hzr
  go_enter Tryz.func8, Tryz.ntmps8
  go_wp2_with fail
  refine hfl.mono ?_
  rintro e w1 ⟨v, rfl, hown, hk1⟩
  obtain ⟨ao1, c1, rfl, hat, hbl⟩ := ownsRow_files hown
  have hst := stored_any ones_says len_says ao1 c1 fs w1 hat hbl HC.out
  have H1 : Hid (Kept (fun _ => False) w w1 ∧ FilesAt w1 ao1 fs) := ⟨hk1, hat⟩
  clear hown hat hbl hk1 hfl
  go_wp2_with fail
  refine hst.mono ?_
  rintro e w2 ⟨hk2, s, B, pa, l6, L, l8, st, hS2, rfl⟩
  obtain ⟨ps, hIs⟩ := Hm.arch_whole HC.out hS2.is hS2.parse
  have hun := unpack_any ones_says B pa s l6 L l8 st w2 hS2.parse hS2.arch
  rw [hS2.files, hIs.nF] at hun
  obtain ⟨S, hS⟩ : ∃ T, T = (⟨s.toArray⟩ : ByteArray) := ⟨_, rfl⟩
  rw [← hS]
  have H2 : Hid (Kept (fun _ => False) w w2 ∧ FilesAt w2 ao1 fs) := ⟨H1.out.1.trans hk2 (fun _ _ h => h), H1.out.2.kept hk2 (fun _ _ => id)⟩
  have HEX : Hid (∀ W, Kept (fun _ => False) w2 W → ∀ i a n : Nat, (hi : i < fs.length) → a + n ≤ fs[i].2.size → Calls Tryz.prog 26 #[.pointer (some ⟨pa, 0, none⟩), .int .i64 i, .int .i64 a, .int .i64 n] W fun e w' => e = .returned (.tuple #[.string ⟨((fs[i].2.data.toList.drop a).take n).toArray⟩, .int .i64 0]) ∧ Kept (fun _ => False) W w') :=
    fun W hk i a n hi h => extract_ok ones_says len_says B pa s l6 L l8 st fs ps W hS2.parse (hS2.arch.kept hk (fun _ _ _ => id) id) hIs i a n hi h
  have HNO : Hid (∀ W, Kept (fun _ => False) w2 W → ∀ i : Nat, (hi : i < fs.length) → Calls Tryz.prog 26 #[.pointer (some ⟨pa, 0, none⟩), .int .i64 i, .int .i64 (fs[i].2.size : Nat), .int .i64 1] W fun e w' => e = .returned (.tuple #[.string ⟨#[]⟩, .int .i64 7]) ∧ Kept (fun _ => False) W w') :=
    fun W hk i hi => extract_no ones_says B pa s l6 L l8 st fs ps W hS2.parse (hS2.arch.kept hk (fun _ _ _ => id) id) hIs i _ 1 (by omega) (by have := (Hm.ckAll_ok HC.out).2.1 fs[i] (List.getElem_mem hi); omega) (fun j hj hj2 => by
      have e : i = j := by omega
      subst e
      exact .inr (.inr (by omega)))
  clear hst hk2 hS2 hS H1 hIs
  go_wp2_with fail
  refine hun.mono ?_
  rintro e w3 ⟨gf, rfl, hgf, hrow, hk3⟩
  have hsm := sameK_any (some ⟨gf, 0, none⟩) ao1 fs.length c1 fs w3 (FRow.at (r := []) (by rw [List.append_nil]; exact hrow)) (H2.out.2.kept hk3 (fun _ _ => id)) (by omega)
  have HK3 : Hid (Kept (fun _ => False) w2 w3) := hk3
  clear hrow hk3 hun hgf
  go_wp2_with fail
  refine hsm.mono ?_
  rintro e w4 ⟨rfl, hk4⟩
  have HK4 : Hid (Kept (fun _ => False) w2 w4) := HK3.out.trans hk4 (fun _ _ h => h)
  clear hsm hk4 HK3
  go_wp2_with fail
  go_loopw [10] (fun vi wr => ∃ k : Nat, k ≤ fs.length ∧ vi = .int .i64 k ∧ Kept (fun _ => False) w2 wr) (fun vi _ => fs.length - (intOf vi).toNat)
  case atStart => exact ⟨0, by omega, rfl, HK4.out⟩
  case round =>
    obtain ⟨k, hk, rfl, hkr⟩ := hrel
    have HKR : Hid (Kept (fun _ => False) w2 wr) := hkr
    by_cases hlt : k < fs.length
    · have hki : (k : Int) < (fs.length : Int) := by omega
      obtain ⟨b, o, hao, _, c1', c2⟩ := (H2.out.2.kept hkr (fun _ _ => id)) k hlt
      subst hao
      have hcs := ((Hm.ckAll_ok HC.out).2.1 fs[k] (List.getElem_mem hlt)).2
      have HEX2 : Hid (∀ W, Kept (fun _ => False) w2 W → ∀ a n : Nat, a + n ≤ fs[k].2.size → Calls Tryz.prog 26 #[.pointer (some ⟨pa, 0, none⟩), .int .i64 k, .int .i64 a, .int .i64 n] W fun e w' => e = .returned (.tuple #[.string ⟨((fs[k].2.data.toList.drop a).take n).toArray⟩, .int .i64 0]) ∧ Kept (fun _ => False) W w') := fun W hW a n h => HEX.out W hW k a n hlt h
      have HNO2 : Hid (∀ W, Kept (fun _ => False) w2 W → Calls Tryz.prog 26 #[.pointer (some ⟨pa, 0, none⟩), .int .i64 k, .int .i64 (fs[k].2.size : Nat), .int .i64 1] W fun e w' => e = .returned (.tuple #[.string ⟨#[]⟩, .int .i64 7]) ∧ Kept (fun _ => False) W w') := fun W hW => HNO.out W hW k hlt
      generalize fs[k].2 = C at c2 hcs HEX2 HNO2
      have HCL : Hid (C.data.toList.length = C.size) := by show _ = _; simp
      have hcsI : (C.size : Int) ≤ 3000 := by omega
      clear hkr c1'
      go_wp2_with fail
      go_loopw [12, 13, 14] (fun va vt vk wr2 => ∃ a j : Nat, a ≤ C.size ∧ j ≤ zs.length + 1 ∧ (j ≤ zs.length ∨ a = C.size) ∧ vk = .int .i64 j ∧ vt = .int .i64 a ∧ va = .string ⟨(C.data.toList.take a).toArray⟩ ∧ Kept (fun _ => False) w2 wr2) (fun _ _ vk _ => zs.length + 2 - (intOf vk).toNat)
      case atStart => exact ⟨0, 0, Nat.zero_le _, Nat.zero_le _, .inl (Nat.zero_le _), rfl, rfl, rfl, HKR.out⟩
      case round =>
        obtain ⟨a, j, ha, hj, hor, rfl, rfl, rfl, hkr⟩ := hrel
        by_cases hac : a < C.size
        · have hj2 : j ≤ zs.length := by omega
          have hacI : (a : Int) < (C.size : Int) := by omega
          have HK5 : Hid (Kept (fun _ => False) w2 wr) := hkr
          have HA : Hid (Kept (fun _ => False) w wr) := H2.out.1.trans hkr (fun _ _ h => h)
          obtain ⟨A, hA⟩ : ∃ A, A = (⟨(C.data.toList.take a).toArray⟩ : ByteArray) := ⟨_, rfl⟩
          rw [← hA]
          have HAE : Hid (A = (⟨(C.data.toList.take a).toArray⟩ : ByteArray)) := hA
          obtain ⟨dd, hdd⟩ : ∃ dd, dd = C.size - a := ⟨_, rfl⟩
          have zd : (C.size : Int) - (a : Int) = (dd : Int) := by omega
          have hdd3 : dd ≤ 3000 := by omega
          have HDD : Hid (dd = C.size - a) := hdd
          have hA2 : A.size ≤ 3000 := by rw [hA]; show (C.data.toList.take a).toArray.size ≤ _; rw [List.size_toArray, List.length_take]; omega
          clear hkr hor hA hdd
          go_upto_if 60 with fail
          go_cut [15] from 60 to 89 (fun v15 wx => (∃ n : Nat, v15 = .int .i64 n ∧ a + n ≤ C.size ∧ (j < zs.length ∨ a + n = C.size)) ∧ wr = wx)
          case first =>
            by_cases hjz : j < zs.length
            · obtain ⟨b5, o5, hbo, _, c5⟩ := (HZ.out.1.kept HA.out (fun _ _ => id)) j hjz
              subst hbo
              have hzr := HZ.out.2 zs[j] (List.getElem_mem hjz)
              have hpk := pick_any zs[j] ((dd : Int) + 1) wr hzr.1 hzr.2 (by omega) (by omega)
              have hjI : (j : Int) < (zs.length : Int) := by omega
              have hdj : decide (j < zs.length) = true := decide_eq_true hjz
              have HJ : Hid (j < zs.length) := hjz
              generalize zs[j] = zj at *
              go_wp2_with fail
              refine hpk.mono ?_
              rintro e w6 ⟨⟨r, rfl, hr0, hr1⟩, rfl⟩
              obtain ⟨q, hq⟩ : ∃ q : Nat, r = (q : Int) := ⟨r.toNat, by omega⟩
              subst hq
              clear hpk
              go_wp2_with fail
              go_meet
              case rel => exact ⟨⟨q, rfl, by have := HDD.out; omega, .inl HJ.out⟩, rfl⟩
            · have hjI : ¬ (j : Int) < (zs.length : Int) := by omega
              have hdj : decide (j < zs.length) = false := decide_eq_false hjz
              go_wp2_with fail
              go_meet
              case rel => exact ⟨⟨dd, rfl, by have := HDD.out; omega, .inr (by have := HDD.out; omega)⟩, rfl⟩
          case rest =>
            obtain ⟨⟨n, rfl, hn1, hn2⟩, rfl⟩ := hcut
            have hex := HEX2.out wr HK5.out a n hn1
            obtain ⟨P, hP⟩ : ∃ P, P = (⟨((C.data.toList.drop a).take n).toArray⟩ : ByteArray) := ⟨_, rfl⟩
            have hPs : P.size = n := by rw [hP]; show ((C.data.toList.drop a).take n).toArray.size = _; rw [List.size_toArray, List.length_take, List.length_drop, HCL.out]; omega
            rw [← hP] at hex
            have HNX : Hid (A ++ P = (⟨(C.data.toList.take (a + n)).toArray⟩ : ByteArray)) := by show _ = _; rw [hP, HAE.out, bytes_next]
            have HN2 : Hid (j < zs.length ∨ a + n = C.size) := hn2
            clear hP hn2
            go_wp2_with fail
            refine hex.mono ?_
            rintro e w7 ⟨rfl, hk7⟩
            have HK7 : Hid (Kept (fun _ => False) w2 w7) := HK5.out.trans hk7 (fun _ _ h => h)
            clear hex hk7
            go_wp2_with fail
            go_roundw
            case rel =>
              refine ⟨a + n, j + 1, hn1, by omega, ?_, by go_num, by go_num, by rw [← HNX.out], HK7.out⟩
              rcases HN2.out with h | h
              · exact .inl (by omega)
              · exact .inr h
            case measure => simp [intOf]; omega
        · have hae : a = C.size := by omega
          have hAC : (⟨(C.data.toList.take a).toArray⟩ : ByteArray) = C := by
            apply ByteArray.ext
            apply Array.ext'
            show C.data.toList.take a = _
            rw [List.take_of_length_le (by rw [HCL.out]; omega)]
          rw [hAC]
          have hex := HNO2.out wr hkr
          have HK5 : Hid (Kept (fun _ => False) w2 wr) := hkr
          subst hae
          clear hkr hor hAC
          go_wp2_with fail
          refine hex.mono ?_
          rintro e w7 ⟨rfl, hk7⟩
          have HK7 : Hid (Kept (fun _ => False) w2 w7) := HK5.out.trans hk7 (fun _ _ h => h)
          clear hex hk7
          go_wp2_with fail
          go_roundw
          case rel => exact ⟨k + 1, by omega, by go_num, HK7.out⟩
          case measure => simp [intOf]; omega
    · have hki : ¬ (k : Int) < (fs.length : Int) := by omega
      clear hkr
      go_wp2_with fail
      go_ret
      exact ⟨rfl, H2.out.1.trans HKR.out (fun _ _ h => h)⟩

end Go.Proofs.YtegnkfdbmmndaaaGreat
end

/- OpenF -/
section
/- A list of files that came in: what lies there, and how great it is. -/
namespace Go.Proofs.YtegnkfdbmmndaaaGreat
open Go.ChangeShapes Go.WideShapes Go.ChangeAt Go.RowKit Go.Deep

theorem weightsAll_mem {H : Type} {P : Program} {e : TypeId} : ∀ {l : List (DataW H)} {d : DataW H}, d ∈ l → ∀ n ∈ d.weights P e, n ∈ DataW.weightsAll P e l
  | x :: r, d, h, n, hn => by
    simp only [DataW.weightsAll, List.mem_append]
    rcases List.mem_cons.1 h with rfl | h
    · exact .inl hn
    · exact .inr (weightsAll_mem h n hn)

/-- The text that a value is. -/
def strIn : Value → ByteArray
  | .string s => s
  | _ => ⟨#[]⟩

set_option maxRecDepth 100000 in
theorem open_files {H : Type} {enc : TypeId × Value → H} {W : World} {base : Nat} {v : Value} {d : DataW H} {ps : List MemPlace} (hv : Value.okWide Tryz.prog W .any base 22 v)
    (h : DataW.Trod enc Tryz.prog W 0 (fun _ => true) true 22 v d ps) :
    v = .slice none 0 0 ∨ ∃ (a : Addr) (c : Nat) (fs : List Hm.Fl), v = .slice (some a) fs.length c ∧ FilesAt W (some a) fs ∧
      ((∀ n ∈ d.weights Tryz.prog 22, n ≤ reachBytes) → fs.length ≤ 4398046511103 ∧ ∀ f ∈ fs, f.1.size ≤ 140737488355328 ∧ f.2.size ≤ 140737488355328) := by
  obtain ⟨a0, l0, c0, rfl⟩ := okWide_slice Tryz.underlying22 hv
  obtain ⟨fuel, hf⟩ := h
  rcases open_slice_pairs Tryz.underlying22 Tryz.underlying38 (by kernel_rfl) rfl rfl (by kernel_rfl) (by kernel_rfl) hf with ⟨hcs, _⟩ | ⟨a, len, cap, m, n, V0, V1, D0, D1, P0, P1, hcs, _, hl, _, hmm, hx, hc⟩
  · left
    simpa [Value.cells] using hcs
  · right
    have hm : len ≤ m := by rw [hmm]; simp; exact hl
    have hstr : ∀ i, i < len → ∃ s t : ByteArray, V0 i = .string s ∧ V1 i = .string t ∧ D0 i = .lit (.string s.data.toList) ∧ D1 i = .lit (.string t.data.toList) := fun i hi => by
      obtain ⟨_, _, t0, t1⟩ := hc i (by omega)
      obtain ⟨s, e1, e2, _⟩ := DataW.trod_string Tryz.underlying9 t0
      obtain ⟨t, g1, g2, _⟩ := DataW.trod_string Tryz.underlying9 t1
      exact ⟨s, t, by simpa using e1, by simpa using g1, (Prod.mk.inj e2).1, (Prod.mk.inj g2).1⟩
    obtain ⟨fs, hfs⟩ : ∃ fs : List Hm.Fl, fs = (List.range len).map fun i => (strIn (V0 i), strIn (V1 i)) := ⟨_, rfl⟩
    have hlen : fs.length = len := by rw [hfs]; simp
    have hget : ∀ i, (hi : i < fs.length) → V0 i = .string fs[i].1 ∧ V1 i = .string fs[i].2 := fun i hi => by
      obtain ⟨s, t, e1, e2, _⟩ := hstr i (by omega)
      have : fs[i] = (s, t) := by simp [hfs, strIn, e1, e2]
      rw [this, e1, e2]; exact ⟨rfl, rfl⟩
    refine ⟨a, cap, fs, by rw [hlen]; simpa [Value.cells] using hcs, fun i hi => ?_, fun hw => ?_⟩
    · obtain ⟨k0, k1, _⟩ := hc i (by omega)
      obtain ⟨b, off, spot⟩ := a
      have hspot : spot = none := by
        obtain ⟨z0, _⟩ := hc 0 (by omega)
        simpa [Addr.add] using World.cell?_spot z0
      subst hspot
      rw [add_plain] at k0 k1
      obtain ⟨e1, e2⟩ := hget i hi
      refine ⟨b, off, rfl, World.block_lt_of_cell? _ _ k0, by rw [k0, e1], ?_⟩
      rw [Nat.add_assoc, k1, e2]
    · obtain ⟨hd, _⟩ := Prod.mk.inj hx
      subst hd
      rw [DataW.weights, Tryz.underlying22] at hw
      have hb : Tryz.prog.bytesOf 38 = 32 := by kernel_rfl
      have h1 := hw _ (List.mem_cons_self ..)
      rw [hb] at h1
      unfold reachBytes at h1 hw
      simp only [List.length_map, List.length_range] at h1
      refine ⟨by omega, fun f hfm => ?_⟩
      obtain ⟨i, hi, rfl⟩ := List.getElem_of_mem hfm
      obtain ⟨s, t, e1, e2, e3, e4⟩ := hstr i (by omega)
      obtain ⟨g1, g2⟩ := hget i hi
      have hs : s = fs[i].1 := by rw [e1] at g1; cases g1; rfl
      have ht : t = fs[i].2 := by rw [e2] at g2; cases g2; rfl
      have hin : (DataW.agg [D0 i, D1 i]) ∈ (List.range len).map fun i => DataW.agg [D0 i, D1 i] := List.mem_map.2 ⟨i, List.mem_range.2 (by omega), rfl⟩
      have hsw := hw s.size (List.mem_cons_of_mem _ (List.mem_append_left _ (weightsAll_mem hin _ (by rw [DataW.weights, Tryz.underlying38]; simp [DataW.weightsEach, e3, e4, DataW.weights]))))
      have htw := hw t.size (List.mem_cons_of_mem _ (List.mem_append_left _ (weightsAll_mem hin _ (by rw [DataW.weights, Tryz.underlying38]; simp [DataW.weightsEach, e3, e4, DataW.weights]))))
      rw [← hs, ← ht]
      omega

end Go.Proofs.YtegnkfdbmmndaaaGreat
end

/- OpenS -/
section
/- Texts that came in: what lies there, and how great they are. -/
namespace Go.Proofs.YtegnkfdbmmndaaaGreat
open Go.ChangeShapes Go.WideShapes Go.ChangeAt Go.RowKit Go.Deep

set_option maxRecDepth 100000 in
theorem open_raw {H : Type} {enc : TypeId × Value → H} {W : World} {base : Nat} {v : Value} {d : DataW H} {ps : List MemPlace} (hv : Value.okWide Tryz.prog W .any base 26 v)
    (h : DataW.Trod enc Tryz.prog W 0 (fun _ => true) true 26 v d ps) :
    ∃ (ao : Option Addr) (c : Nat) (raw : List ByteArray), v = .slice ao raw.length c ∧ StrsAt W ao raw ∧
      ((∀ n ∈ d.weights Tryz.prog 26, n ≤ reachBytes) → raw.length ≤ 140737488355328 ∧ ∀ x ∈ raw, x.size ≤ 140737488355328) := by
  obtain ⟨a0, l0, c0, rfl⟩ := okWide_slice Tryz.underlying26 hv
  obtain ⟨fuel, hf⟩ := h
  rcases open_strings Tryz.underlying26 Tryz.underlying9 (by kernel_rfl) hf with ⟨hcs, _⟩ | ⟨a, len, cap, ss, hcs, _, hl, _, hz, hx, hc, _⟩
  · refine ⟨none, 0, [], by simpa [Value.cells] using hcs, fun i hi => by simp at hi, fun _ => ⟨Nat.zero_le _, fun x hx => by cases hx⟩⟩
  · have hz' : ss.length = cap := by simpa using hz
    have hlen : (ss.take len).length = len := by rw [List.length_take]; omega
    refine ⟨some a, cap, ss.take len, by rw [hlen]; simpa [Value.cells] using hcs, fun i hi => ?_, fun hw => ?_⟩
    · have hi' : i < ss.length := by omega
      have k0 := hc i hi'
      obtain ⟨b, off, spot⟩ := a
      have hspot : spot = none := by
        have z0 := hc 0 (by omega)
        simpa [Addr.add] using World.cell?_spot z0
      subst hspot
      rw [add_plain] at k0
      refine ⟨b, off, rfl, World.block_lt_of_cell? _ _ k0, ?_⟩
      rw [k0, List.getElem_take, List.getD_eq_getElem?_getD, List.getElem?_eq_getElem hi']
      rfl
    · obtain ⟨hd, _⟩ := Prod.mk.inj hx
      subst hd
      rw [DataW.weights, Tryz.underlying26] at hw
      have hb : Tryz.prog.bytesOf 9 = 16 := by kernel_rfl
      have h1 := hw _ (List.mem_cons_self ..)
      rw [hb] at h1
      unfold reachBytes at h1 hw
      simp only [strs, List.length_map, List.length_take, List.length_drop] at h1
      refine ⟨by omega, fun x hxm => ?_⟩
      have hin : (DataW.lit (.string x.data.toList) : DataW H) ∈ strs (ss.take len) := List.mem_map.2 ⟨x, hxm, rfl⟩
      have hsw := hw x.size (List.mem_cons_of_mem _ (List.mem_append_left _ (weightsAll_mem hin _ (by simp [DataW.weights]))))
      omega

set_option maxRecDepth 100000 in
theorem open_text {H : Type} {enc : TypeId × Value → H} {W : World} {base : Nat} {v : Value} {d : DataW H} {ps : List MemPlace} (hv : Value.okWide Tryz.prog W .any base 9 v)
    (h : DataW.Trod enc Tryz.prog W 0 (fun _ => true) true 9 v d ps) :
    ∃ s : List UInt8, v = .string ⟨s.toArray⟩ ∧ ((∀ n ∈ d.weights Tryz.prog 9, n ≤ reachBytes) → s.length ≤ 140737488355328) := by
  obtain ⟨s, rfl, rfl, _, _⟩ := Go.ChangeMaps.open_string Tryz.underlying9 hv h
  refine ⟨s.data.toList, by simp, fun hw => ?_⟩
  have := hw s.size (by simp [DataW.weights])
  unfold reachBytes at this
  have e : s.data.toList.length = s.size := by simp
  omega

end Go.Proofs.YtegnkfdbmmndaaaGreat
end

/- OpenI -/
section
/- Numbers that came in: what lies there, and how many. -/
namespace Go.Proofs.YtegnkfdbmmndaaaGreat
open Go.ChangeShapes Go.WideShapes Go.ChangeAt Go.RowKit Go.Deep

theorem fits_in {a : Int} (h : (Lit.int .i64 a).wf = true) : -9223372036854775808 ≤ a ∧ a ≤ 9223372036854775807 := by
  simpa [Lit.wf, IntKind.min, IntKind.max, IntKind.signed, IntKind.bits] using h

set_option maxRecDepth 100000 in
theorem open_cuts {H : Type} {enc : TypeId × Value → H} {W : World} {base : Nat} {v : Value} {d : DataW H} {ps : List MemPlace} (hv : Value.okWide Tryz.prog W .any base 64 v)
    (h : DataW.Trod enc Tryz.prog W 0 (fun _ => true) true 64 v d ps) :
    ∃ (ao : Option Addr) (c : Nat) (zs : List Int), v = .slice ao zs.length c ∧ CutsAt W ao zs ∧
      ((∀ n ∈ d.weights Tryz.prog 64, n ≤ reachBytes) → zs.length ≤ 140737488355328 ∧ ∀ z ∈ zs, -9223372036854775808 ≤ z ∧ z ≤ 9223372036854775807) := by
  obtain ⟨a0, l0, c0, rfl⟩ := okWide_slice Tryz.underlying64 hv
  obtain ⟨fuel, hf⟩ := h
  rcases open_ints Tryz.underlying64 Tryz.underlying3 (by kernel_rfl) hf with ⟨hcs, _⟩ | ⟨a, len, cap, ss, hcs, _, hl, _, hz, hx, hc, hwf⟩
  · refine ⟨none, 0, [], by simpa [Value.cells] using hcs, fun i hi => by simp at hi, fun _ => ⟨Nat.zero_le _, fun x hx => by cases hx⟩⟩
  · have hz' : ss.length = cap := by simpa using hz
    have hlen : (ss.take len).length = len := by rw [List.length_take]; omega
    refine ⟨some a, cap, ss.take len, by rw [hlen]; simpa [Value.cells] using hcs, fun i hi => ?_, fun hw => ?_⟩
    · have hi' : i < ss.length := by omega
      have k0 := hc i hi'
      obtain ⟨b, off, spot⟩ := a
      have hspot : spot = none := by
        have z0 := hc 0 (by omega)
        simpa [Addr.add] using World.cell?_spot z0
      subst hspot
      rw [add_plain] at k0
      refine ⟨b, off, rfl, World.block_lt_of_cell? _ _ k0, ?_⟩
      rw [k0, List.getElem_take, List.getD_eq_getElem?_getD, List.getElem?_eq_getElem hi']
      rfl
    · obtain ⟨hd, _⟩ := Prod.mk.inj hx
      subst hd
      rw [DataW.weights, Tryz.underlying64] at hw
      have hb : Tryz.prog.bytesOf 3 = 8 := by kernel_rfl
      have h1 := hw _ (List.mem_cons_self ..)
      rw [hb] at h1
      unfold reachBytes at h1
      simp only [lits, List.length_map, List.length_take, List.length_drop] at h1
      exact ⟨by omega, fun x hxm => fits_in (hwf x (List.mem_of_mem_take hxm))⟩

end Go.Proofs.YtegnkfdbmmndaaaGreat
end
