import Derived.Test.YtegnkfdbmmndaaaGreatProg
import Derived.WalkKit
import Derived.WalkSpells
import Derived.WalkLawsBesides
import Derived.Test.YtegnkfdbmmndaaaGreatJ29
import Derived.Deep.Cut
import Derived.Deep.CutRange
import Derived.Test.YtegnkfdbmmndaaaGreatJ25
import Derived.ProofKit
import Derived.OpenShut
import Derived.Deep.SlicePairs
import Derived.SizedLaws
import Derived.Test.YtegnkfdbmmndaaaGreatJ27
import Derived.SliceStrings
import Derived.ChangeMaps5

/- PickG -/
section
/- What pick of the statements' package hands back. -/
namespace Go.Proofs.YtegnkfdbmmndaaaGreat
open Go.RowKit

set_option maxHeartbeats 400000 in
theorem pick_any (c n : Int) (w : World) (hc1 : -9223372036854775808 ≤ c) (hc2 : c ≤ 9223372036854775807) (hn : 1 ≤ n) (hn2 : n ≤ 281474976710656) :
    Calls Tryz.prog 22 #[.int .i64 c, .int .i64 n] w fun e w' => (∃ r : Int, e = .returned (.int .i64 r) ∧ 0 ≤ r ∧ r < n) ∧ w' = w := by
  by_cases h : c < 0
  · go_enter Tryz.func22, Tryz.ntmps22
    go_wp2
    go_ret
    have e : -(c + 1).tmod n = (-(c + 1)) % n := by rw [← Int.neg_tmod, Int.tmod_eq_emod_of_nonneg (by omega)]
    refine ⟨⟨_, rfl, ?_⟩, rfl⟩
    rw [e]
    exact ⟨Int.emod_nonneg _ (by omega), Int.emod_lt_of_pos _ (by omega)⟩
  · go_enter Tryz.func22, Tryz.ntmps22
    go_wp2
    go_ret
    exact ⟨⟨_, rfl, Int.emod_nonneg _ (by omega), Int.emod_lt_of_pos _ (by omega)⟩, rfl⟩

end Go.Proofs.YtegnkfdbmmndaaaGreat
end

/- SpoE -/
section
/- An archive that is spoilt is none. -/
namespace Go.Proofs.YtegnkfdbmmndaaaGreat
open Go.RowKit

theorem load_none (s : List UInt8) (w : World) (hs : s.length ≤ 281474976710656) (hno : ∀ fs, Hm.ckAll fs = 0 → ¬ Hm.IsArch fs s) :
    Calls Tryz.prog 12 #[.string ⟨s.toArray⟩] w fun e w' => e = .returned (.tuple #[.pointer none, .int .i64 6]) ∧ Kept (fun _ => False) w w' := by
  refine (load_any ones_says len_says s w hs).mono fun e w' ⟨hk, hsay⟩ => ?_
  rcases hsay with ⟨pa, l6, L, l8, st, _, _, _, h1, h2, _⟩ | ⟨_, rfl⟩
  · exact absurd h2 (hno _ h1)
  · exact ⟨rfl, hk⟩
theorem load_some (s : List UInt8) (w : World) (hs : s.length ≤ 281474976710656) :
    Calls Tryz.prog 12 #[.string ⟨s.toArray⟩] w fun e w' => (∃ p k, e = .returned (.tuple #[.pointer p, .int .i64 k])) ∧ Kept (fun _ => False) w w' := by
  refine (load_any ones_says len_says s w hs).mono fun e w' ⟨hk, hsay⟩ => ?_
  rcases hsay with ⟨pa, l6, L, l8, st, _, _, _, _, _, rfl⟩ | ⟨_, rfl⟩
  · exact ⟨⟨_, _, rfl⟩, hk⟩
  · exact ⟨⟨_, _, rfl⟩, hk⟩

theorem bytes_cut (s : List UInt8) (q : Nat) : (⟨s.toArray⟩ : ByteArray).extract 0 q = ⟨(s.take q).toArray⟩ := by
  apply ByteArray.ext
  simp
theorem bytes_add (s t : List UInt8) : (⟨s.toArray⟩ : ByteArray) ++ ⟨t.toArray⟩ = ⟨(s ++ t).toArray⟩ := by
  apply ByteArray.ext
  simp

set_option maxRecDepth 20000 in
set_option maxHeartbeats 1000000 in
theorem spoilt_any (ao : Option Addr) (c : Nat) (raw : List ByteArray) (p mask n : Int) (tl : List UInt8) (w : World) (h : StrsAt w ao raw) (hl : raw.length ≤ 140737488355328) (hsz : ∀ x ∈ raw, x.size ≤ 140737488355328)
    (hp1 : -9223372036854775808 ≤ p) (hp2 : p ≤ 9223372036854775807) (hm1 : -9223372036854775808 ≤ mask) (hm2 : mask ≤ 9223372036854775807) (hn1 : -9223372036854775808 ≤ n) (hn2 : n ≤ 9223372036854775807) (htl : tl.length ≤ 140737488355328) :
    Calls Tryz.prog 6 #[.slice ao raw.length c, .int .i64 p, .int .i64 mask, .int .i64 n, .string ⟨tl.toArray⟩] w fun e w' => e = .returned (.bool true) ∧ Kept (fun _ => False) w w' := by
  have hfl := filesK_any ao c raw w h hl hsz
  obtain ⟨TL, hTL⟩ : ∃ S, S = (⟨tl.toArray⟩ : ByteArray) := ⟨_, rfl⟩
  rw [← hTL]
  have HTL : Hid (TL = (⟨tl.toArray⟩ : ByteArray)) := hTL
  obtain ⟨fs, hfs⟩ : ∃ fs, fs = (Hm.keepTo raw (min raw.length 40)).1 := ⟨_, rfl⟩
  have hfn : fs.length = min raw.length 40 := by rw [hfs, Hm.keepTo_length]
  have hck : Hm.ckAll fs = 0 := by rw [hfs]; exact Hm.keepTo_ok raw _ (by omega)
  rw [← hfs, ← hfn] at hfl
  have HC : Hid (Hm.ckAll fs = 0) := hck
  clear h hsz hTL hfs hfn hck
  go_enter Tryz.func6, Tryz.ntmps6
  go_wp2_with fail
  refine hfl.mono ?_
  rintro e w1 ⟨v, rfl, hown, hk1⟩
  obtain ⟨ao1, c1, rfl, hat, hbl⟩ := ownsRow_files hown
  have hst := stored_any ones_says len_says ao1 c1 fs w1 hat hbl HC.out
  have H1 : Hid (Kept (fun _ => False) w w1) := hk1
  clear hown hat hbl hk1 hfl
  go_wp2_with fail
  refine hst.mono ?_
  rintro e w2 ⟨hk2, s, B, pa, l6, L, l8, st, hS2, rfl⟩
  obtain ⟨hln, hln0⟩ := Hm.arch_length HC.out hS2.is
  obtain ⟨S, hS⟩ : ∃ T, T = (⟨s.toArray⟩ : ByteArray) := ⟨_, rfl⟩
  have hSs : S.size = s.length := by rw [hS]; show s.toArray.size = _; rw [List.size_toArray]
  have hSE : S.toList.isEmpty = false := by rw [isEmpty_toList]; exact decide_eq_false (by omega)
  rw [← hS]
  obtain ⟨m, hm⟩ : ∃ m, m = s.length := ⟨_, rfl⟩
  rw [← hm] at hln hln0 hSs
  have hpk := fun W => pick_any p (8 * (m : Int)) W hp1 hp2 (by omega) (by omega)
  have hpk2 := fun W => pick_any n ((m : Nat) : Int) W hn1 hn2 (by omega) (by omega)
  have HPK : Hid (∀ W, Calls Tryz.prog 22 #[.int .i64 n, .int .i64 (m : Nat)] W fun e w' => (∃ r : Int, e = .returned (.int .i64 r) ∧ 0 ≤ r ∧ r < ((m : Nat) : Int)) ∧ w' = W) := hpk2
  have H2 : Hid (Kept (fun _ => False) w w2 ∧ Hm.IsArch fs s ∧ S = (⟨s.toArray⟩ : ByteArray) ∧ m = s.length) := ⟨H1.out.trans hk2 (fun _ _ h => h), hS2.is, hS, hm⟩
  clear hst hk2 hS2 hS H1 hm hpk2
  have hpk := hpk w2
  go_wp2_with fail
  refine hpk.mono ?_
  rintro e w3 ⟨⟨r, rfl, hr0, hr1⟩, rfl⟩
  obtain ⟨q, hq⟩ : ∃ q : Nat, r = (q : Int) := ⟨r.toNat, by omega⟩
  subst hq
  have htn := turned_any s q mask w3 (by rw [← H2.out.2.2.2]; omega) (by rw [← H2.out.2.2.2]; omega) hm1 hm2
  rw [← H2.out.2.2.1] at htn
  clear hpk
  go_wp2_with fail
  refine htn.mono ?_
  rintro e w4 ⟨⟨t, mm, rfl, ht1, ht2, ht3⟩, hk4⟩
  obtain ⟨T, hT⟩ : ∃ T, T = (⟨t.toArray⟩ : ByteArray) := ⟨_, rfl⟩
  rw [← hT]
  have H4 : Hid (Kept (fun _ => False) w w4) := H2.out.1.trans hk4 (fun _ _ h => h)
  have HT : Hid (T = (⟨t.toArray⟩ : ByteArray) ∧ t.length = s.length) := ⟨hT, ht1⟩
  have HNO : Hid (t ≠ s → ∀ f, Hm.ckAll f = 0 → ¬ Hm.IsArch f t) := fun hne f _ hf => hne (Hm.arch_turned H2.out.2.1 hf ht1 (by rw [← H2.out.2.2.2]; omega) ht2 ht3)
  clear htn hk4 hT ht1 ht2 ht3 hr0 hr1
  go_upto_if 41 with fail
  go_cut [14, 15] from 41 to 52 (fun _ _ wx => Hid (Kept (fun _ => False) w wx))
  case first =>
    by_cases hts : t = s
    · have hTS : (T.toList == S.toList) = true := by rw [HT.out.1, H2.out.2.2.1, hts, beq_self_eq_true]
      rw [hTS]
      clear hTS
      go_wp2_with fail
      go_meet
      case rel => exact H4.out
    · have hTS : (T.toList == S.toList) = false := by
        rw [HT.out.1, H2.out.2.2.1, ByteArray.toList_eq, ByteArray.toList_eq, beq_eq_false_iff_ne]
        exact hts
      have hld := load_none t w4 (by rw [HT.out.2, ← H2.out.2.2.2]; omega) (HNO.out hts)
      rw [← HT.out.1] at hld
      rw [hTS]
      clear hts hTS
      go_wp2_with fail
      refine hld.mono ?_
      rintro e w5 ⟨rfl, hk5⟩
      have H5 : Hid (Kept (fun _ => False) w w5) := H4.out.trans hk5 (fun _ _ h => h)
      clear hld hk5
      go_wp2_with fail
      go_meet
      case rel => exact H5.out
  case rest =>
    have H5 := hcut
    clear hcut H4 HNO HT
    have hpk := HPK.out wc
    go_wp2_with fail
    refine hpk.mono ?_
    rintro e w6 ⟨⟨r2, rfl, hr0, hr1⟩, rfl⟩
    obtain ⟨q2, hq⟩ : ∃ q : Nat, r2 = (q : Int) := ⟨r2.toNat, by omega⟩
    subst hq
    have hlt : q2 < s.length := by rw [← H2.out.2.2.2]; omega
    have hld := load_none (s.take q2) w6 (by rw [List.length_take]; omega) (fun f hf ha => by
      have h1 := Hm.arch_prefix (s := s.take q2) (u := s.drop q2) hf ha HC.out (by rw [List.take_append_drop]; exact H2.out.2.1)
      have h2 := congrArg List.length h1
      rw [List.length_drop] at h2
      simp at h2
      omega)
    rw [← bytes_cut, ← H2.out.2.2.1] at hld
    have hq2 : q2 ≤ S.size := by omega
    clear hpk hlt
    go_wp2_with fail
    refine hld.mono ?_
    rintro e w7 ⟨rfl, hk7⟩
    have H7 : Hid (Kept (fun _ => False) w w7) := H5.out.trans hk7 (fun _ _ h => h)
    clear hld hk7 hq2 hr0 hr1 H5
    have hTLs : TL.size = tl.length := by rw [HTL.out]; show tl.toArray.size = _; rw [List.size_toArray]
    by_cases htn : tl = []
    · have hTE : TL.toList.isEmpty = true := by rw [isEmpty_toList, hTLs, htn]; rfl
      have hld := load_some (s ++ tl) w7 (by rw [List.length_append, ← H2.out.2.2.2]; omega)
      rw [← bytes_add, ← H2.out.2.2.1, ← HTL.out] at hld
      clear htn
      go_wp2_with fail
      refine hld.mono ?_
      rintro e w8 ⟨⟨pp, kk, rfl⟩, hk8⟩
      have H8 : Hid (Kept (fun _ => False) w w8) := H7.out.trans hk8 (fun _ _ h => h)
      clear hld hk8
      go_wp2_with fail
      go_ret
      exact ⟨by simp, H8.out⟩
    · have hTE : TL.toList.isEmpty = false := by
        rw [isEmpty_toList, hTLs]
        exact decide_eq_false (fun h => htn (List.eq_nil_of_length_eq_zero h))
      have hld := load_none (s ++ tl) w7 (by rw [List.length_append, ← H2.out.2.2.2]; omega) (fun f hf ha => htn (Hm.arch_prefix HC.out H2.out.2.1 hf ha))
      rw [← bytes_add, ← H2.out.2.2.1, ← HTL.out] at hld
      clear htn
      go_wp2_with fail
      refine hld.mono ?_
      rintro e w8 ⟨rfl, hk8⟩
      have H8 : Hid (Kept (fun _ => False) w w8) := H7.out.trans hk8 (fun _ _ h => h)
      clear hld hk8
      go_wp2_with fail
      go_ret
      exact ⟨by simp, H8.out⟩

end Go.Proofs.YtegnkfdbmmndaaaGreat
end

/- OpenF -/
section
/- A list of files that came in: what lies there, and how great it is. -/
namespace Go.Proofs.YtegnkfdbmmndaaaGreat
open Go.ChangeShapes Go.WideShapes Go.ChangeAt Go.RowKit Go.Deep

theorem weightsAll_mem {H : Type} {P : Program} {e : TypeId} : ∀ {l : List (DataW H)} {d : DataW H}, d ∈ l → ∀ n ∈ d.weights P e, n ∈ DataW.weightsAll P e l
  | x :: r, d, h, n, hn => by
    simp only [DataW.weightsAll, List.mem_append]
    rcases List.mem_cons.1 h with rfl | h
    · exact .inl hn
    · exact .inr (weightsAll_mem h n hn)

/-- The text that a value is. -/
def strIn : Value → ByteArray
  | .string s => s
  | _ => ⟨#[]⟩

set_option maxRecDepth 100000 in
theorem open_files {H : Type} {enc : TypeId × Value → H} {W : World} {base : Nat} {v : Value} {d : DataW H} {ps : List MemPlace} (hv : Value.okWide Tryz.prog W .any base 22 v)
    (h : DataW.Trod enc Tryz.prog W 0 (fun _ => true) true 22 v d ps) :
    v = .slice none 0 0 ∨ ∃ (a : Addr) (c : Nat) (fs : List Hm.Fl), v = .slice (some a) fs.length c ∧ FilesAt W (some a) fs ∧
      ((∀ n ∈ d.weights Tryz.prog 22, n ≤ reachBytes) → fs.length ≤ 4398046511103 ∧ ∀ f ∈ fs, f.1.size ≤ 140737488355328 ∧ f.2.size ≤ 140737488355328) := by
  obtain ⟨a0, l0, c0, rfl⟩ := okWide_slice Tryz.underlying22 hv
  obtain ⟨fuel, hf⟩ := h
  rcases open_slice_pairs Tryz.underlying22 Tryz.underlying38 (by kernel_rfl) rfl rfl (by kernel_rfl) (by kernel_rfl) hf with ⟨hcs, _⟩ | ⟨a, len, cap, m, n, V0, V1, D0, D1, P0, P1, hcs, _, hl, _, hmm, hx, hc⟩
  · left
    simpa [Value.cells] using hcs
  · right
    have hm : len ≤ m := by rw [hmm]; simp; exact hl
    have hstr : ∀ i, i < len → ∃ s t : ByteArray, V0 i = .string s ∧ V1 i = .string t ∧ D0 i = .lit (.string s.data.toList) ∧ D1 i = .lit (.string t.data.toList) := fun i hi => by
      obtain ⟨_, _, t0, t1⟩ := hc i (by omega)
      obtain ⟨s, e1, e2, _⟩ := DataW.trod_string Tryz.underlying9 t0
      obtain ⟨t, g1, g2, _⟩ := DataW.trod_string Tryz.underlying9 t1
      exact ⟨s, t, by simpa using e1, by simpa using g1, (Prod.mk.inj e2).1, (Prod.mk.inj g2).1⟩
    obtain ⟨fs, hfs⟩ : ∃ fs : List Hm.Fl, fs = (List.range len).map fun i => (strIn (V0 i), strIn (V1 i)) := ⟨_, rfl⟩
    have hlen : fs.length = len := by rw [hfs]; simp
    have hget : ∀ i, (hi : i < fs.length) → V0 i = .string fs[i].1 ∧ V1 i = .string fs[i].2 := fun i hi => by
      obtain ⟨s, t, e1, e2, _⟩ := hstr i (by omega)
      have : fs[i] = (s, t) := by simp [hfs, strIn, e1, e2]
      rw [this, e1, e2]; exact ⟨rfl, rfl⟩
    refine ⟨a, cap, fs, by rw [hlen]; simpa [Value.cells] using hcs, fun i hi => ?_, fun hw => ?_⟩
    · obtain ⟨k0, k1, _⟩ := hc i (by omega)
      obtain ⟨b, off, spot⟩ := a
      have hspot : spot = none := by
        obtain ⟨z0, _⟩ := hc 0 (by omega)
        simpa [Addr.add] using World.cell?_spot z0
      subst hspot
      rw [add_plain] at k0 k1
      obtain ⟨e1, e2⟩ := hget i hi
      refine ⟨b, off, rfl, World.block_lt_of_cell? _ _ k0, by rw [k0, e1], ?_⟩
      rw [Nat.add_assoc, k1, e2]
    · obtain ⟨hd, _⟩ := Prod.mk.inj hx
      subst hd
      rw [DataW.weights, Tryz.underlying22] at hw
      have hb : Tryz.prog.bytesOf 38 = 32 := by kernel_rfl
      have h1 := hw _ (List.mem_cons_self ..)
      rw [hb] at h1
      unfold reachBytes at h1 hw
      simp only [List.length_map, List.length_range] at h1
      refine ⟨by omega, fun f hfm => ?_⟩
      obtain ⟨i, hi, rfl⟩ := List.getElem_of_mem hfm
      obtain ⟨s, t, e1, e2, e3, e4⟩ := hstr i (by omega)
      obtain ⟨g1, g2⟩ := hget i hi
      have hs : s = fs[i].1 := by rw [e1] at g1; cases g1; rfl
      have ht : t = fs[i].2 := by rw [e2] at g2; cases g2; rfl
      have hin : (DataW.agg [D0 i, D1 i]) ∈ (List.range len).map fun i => DataW.agg [D0 i, D1 i] := List.mem_map.2 ⟨i, List.mem_range.2 (by omega), rfl⟩
      have hsw := hw s.size (List.mem_cons_of_mem _ (List.mem_append_left _ (weightsAll_mem hin _ (by rw [DataW.weights, Tryz.underlying38]; simp [DataW.weightsEach, e3, e4, DataW.weights]))))
      have htw := hw t.size (List.mem_cons_of_mem _ (List.mem_append_left _ (weightsAll_mem hin _ (by rw [DataW.weights, Tryz.underlying38]; simp [DataW.weightsEach, e3, e4, DataW.weights]))))
      rw [← hs, ← ht]
      omega

end Go.Proofs.YtegnkfdbmmndaaaGreat
end

/- OpenS -/
section
/- Texts that came in: what lies there, and how great they are. -/
namespace Go.Proofs.YtegnkfdbmmndaaaGreat
open Go.ChangeShapes Go.WideShapes Go.ChangeAt Go.RowKit Go.Deep

set_option maxRecDepth 100000 in
theorem open_raw {H : Type} {enc : TypeId × Value → H} {W : World} {base : Nat} {v : Value} {d : DataW H} {ps : List MemPlace} (hv : Value.okWide Tryz.prog W .any base 26 v)
    (h : DataW.Trod enc Tryz.prog W 0 (fun _ => true) true 26 v d ps) :
    ∃ (ao : Option Addr) (c : Nat) (raw : List ByteArray), v = .slice ao raw.length c ∧ StrsAt W ao raw ∧
      ((∀ n ∈ d.weights Tryz.prog 26, n ≤ reachBytes) → raw.length ≤ 140737488355328 ∧ ∀ x ∈ raw, x.size ≤ 140737488355328) := by
  obtain ⟨a0, l0, c0, rfl⟩ := okWide_slice Tryz.underlying26 hv
  obtain ⟨fuel, hf⟩ := h
  rcases open_strings Tryz.underlying26 Tryz.underlying9 (by kernel_rfl) hf with ⟨hcs, _⟩ | ⟨a, len, cap, ss, hcs, _, hl, _, hz, hx, hc, _⟩
  · refine ⟨none, 0, [], by simpa [Value.cells] using hcs, fun i hi => by simp at hi, fun _ => ⟨Nat.zero_le _, fun x hx => by cases hx⟩⟩
  · have hz' : ss.length = cap := by simpa using hz
    have hlen : (ss.take len).length = len := by rw [List.length_take]; omega
    refine ⟨some a, cap, ss.take len, by rw [hlen]; simpa [Value.cells] using hcs, fun i hi => ?_, fun hw => ?_⟩
    · have hi' : i < ss.length := by omega
      have k0 := hc i hi'
      obtain ⟨b, off, spot⟩ := a
      have hspot : spot = none := by
        have z0 := hc 0 (by omega)
        simpa [Addr.add] using World.cell?_spot z0
      subst hspot
      rw [add_plain] at k0
      refine ⟨b, off, rfl, World.block_lt_of_cell? _ _ k0, ?_⟩
      rw [k0, List.getElem_take, List.getD_eq_getElem?_getD, List.getElem?_eq_getElem hi']
      rfl
    · obtain ⟨hd, _⟩ := Prod.mk.inj hx
      subst hd
      rw [DataW.weights, Tryz.underlying26] at hw
      have hb : Tryz.prog.bytesOf 9 = 16 := by kernel_rfl
      have h1 := hw _ (List.mem_cons_self ..)
      rw [hb] at h1
      unfold reachBytes at h1 hw
      simp only [strs, List.length_map, List.length_take, List.length_drop] at h1
      refine ⟨by omega, fun x hxm => ?_⟩
      have hin : (DataW.lit (.string x.data.toList) : DataW H) ∈ strs (ss.take len) := List.mem_map.2 ⟨x, hxm, rfl⟩
      have hsw := hw x.size (List.mem_cons_of_mem _ (List.mem_append_left _ (weightsAll_mem hin _ (by simp [DataW.weights]))))
      omega

set_option maxRecDepth 100000 in
theorem open_text {H : Type} {enc : TypeId × Value → H} {W : World} {base : Nat} {v : Value} {d : DataW H} {ps : List MemPlace} (hv : Value.okWide Tryz.prog W .any base 9 v)
    (h : DataW.Trod enc Tryz.prog W 0 (fun _ => true) true 9 v d ps) :
    ∃ s : List UInt8, v = .string ⟨s.toArray⟩ ∧ ((∀ n ∈ d.weights Tryz.prog 9, n ≤ reachBytes) → s.length ≤ 140737488355328) := by
  obtain ⟨s, rfl, rfl, _, _⟩ := Go.ChangeMaps.open_string Tryz.underlying9 hv h
  refine ⟨s.data.toList, by simp, fun hw => ?_⟩
  have := hw s.size (by simp [DataW.weights])
  unfold reachBytes at this
  have e : s.data.toList.length = s.size := by simp
  omega

end Go.Proofs.YtegnkfdbmmndaaaGreat
end
