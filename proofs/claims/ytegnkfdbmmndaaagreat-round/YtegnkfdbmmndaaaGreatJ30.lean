import Derived.Test.YtegnkfdbmmndaaaGreatJ29
import Derived.Deep.Cut
import Derived.Deep.CutRange

/- RndE -/
section
/- A part of the text of an archive. -/
namespace Go.Proofs.YtegnkfdbmmndaaaGreat
open Go.RowKit

/-- All calls that find a place's row. -/
theorem rowOf_any (hones : OnesSays) (hLn : LenSays) (B pa : Nat) (s l6 : List UInt8) (L : List Nat) (l8 : List UInt8) (st : Hm.LaySt) (fs : List (ByteArray × ByteArray)) (ps : List Nat) (w : World) (hP : Hm.Parse s l6 L l8 st) (hA : ArchAt B w pa s l6 L l8 st) (hI : Hm.ArchIs fs s l6 l8 st ps) (pl : Nat) (hpl : pl ≤ (Hm.textOf fs).length) :
    Calls Tryz.prog 113 #[.func (.func 34) #[.pointer (some ⟨pa, 6, none⟩)] #[], .func (.func 114) #[.pointer (some ⟨pa, 1036, none⟩)] #[], .int .i64 pl] w fun e w' => (∃ row : Nat, e = .returned (.int .i64 (row : Nat)) ∧ ps[row]? = some pl) ∧ Kept (fun _ => False) w w' := by
  obtain ⟨gn, ge, g, ng, nc, gs, P⟩ := hA.parts hP
  obtain ⟨gs2, hS⟩ := hA.samp hP
  obtain ⟨hcl, hct, hcw⟩ := Hm.colRd_is hP.tree
  have hN := Hm.rdN_lt s
  have hroot := (Hm.rdM_inv hP.names).2
  have htl := Hm.treeOk_len hP.tree hN
  have hts : (⟨(l8.take (Hm.szB st.len)).toArray⟩ : ByteArray).size ≤ 1000000 := by show (l8.take _).toArray.size ≤ _; rw [List.size_toArray, List.length_take]; omega
  have hn := hI.small
  have hnN := hI.nN
  have hperm := hI.sorted.perm
  have hpl' : ps.length = (Hm.textOf fs).length + 1 := by have := hperm.length_eq; simpa using this
  have hsl : (Hm.samples ps).length = Hm.sampLen (Hm.textOf fs).length := Hm.samples_length hperm
  obtain ⟨X, hX⟩ := hI.samp
  have hT : (l8.drop (Hm.szB st.len)).take (Hm.szB (Hm.sampLen (Hm.rdN s).1)) = Hm.packBits (Hm.samples ps) := by
    rw [hX, hnN, ← hsl, ← Hm.szB_pack, List.take_left]
  have hrk := hP.samp.told
  rw [hT] at hS hrk
  obtain ⟨T, hTe⟩ : ∃ T, T = (⟨(Hm.packBits (Hm.samples ps)).toArray⟩ : ByteArray) := ⟨_, rfl⟩
  have hTl : T.data.toList = Hm.packBits (Hm.samples ps) := by rw [hTe]
  have hTs : T.size = Hm.szB (Hm.sampLen (Hm.textOf fs).length) := by rw [hTe]; show (Hm.packBits (Hm.samples ps)).toArray.size = _; rw [List.size_toArray, Hm.szB_pack, hsl]
  rw [← hTe] at hS
  rw [← hTl] at hrk
  have hbl : Lib.bitLen ((Hm.textOf fs).length / 8) ≤ 10 := Lib.bitLen_le _ 10 (by omega) (by omega)
  have hmul : ((Hm.textOf fs).length / 8 + 1) * Lib.bitLen ((Hm.textOf fs).length / 8) ≤ 751 * 10 := Nat.mul_le_mul (by omega) hbl
  have hsz : Hm.sampLen (Hm.textOf fs).length ≤ 100000 := by unfold Hm.sampLen; omega
  have hszb : Hm.szB (Hm.sampLen (Hm.textOf fs).length) = (Hm.sampLen (Hm.textOf fs).length + 7) / 8 := rfl
  rw [hnN] at hS hrk hroot hcl
  rw [hnN, hI.col] at hct hcw
  rw [hI.col] at hcl
  have hst := hI.sorted
  have hw := hcw
  refine placeRow_any hones pa 6 1036 st.len g ng nc (Hm.rdR s).1 pl _ st.nds st.ws (Hm.colOf (Hm.textOf fs) ps) ps w P.rows hct hcw (by omega) hts (by omega) (fun W hk => ?_) (fun row q k hq hkq => ?_)
  · refine near_any hones hLn pa 1036 _ gs2 (Hm.textOf fs).length pl T ps W (hS.kept hk id id) hn (by omega) hperm ?_ (fun p _ => by rw [hTl]; exact Hm.bitB_pack _ p) (by omega) hrk hpl
    rw [List.getElem?_eq_getElem (by omega), Hm.first_row hst (by omega)]
  · have hr : row < ps.length := by
      rcases Nat.lt_or_ge row ps.length with h | h
      · exact h
      · rw [List.getElem?_eq_none h] at hq; cases hq
    rw [List.getElem?_eq_getElem hr] at hq
    have hq' := Option.some.inj hq
    have hqn : q ≤ (Hm.textOf fs).length := by
      have := hperm.subset (List.getElem_mem hr)
      rw [hq'] at this
      have := List.mem_range.1 this
      omega
    obtain ⟨_, hj, e⟩ := Hm.backTo_from hst hw row q hr hq' hqn k hkq
    refine ⟨by omega, by omega, ?_⟩
    rw [hI.nR, List.getElem?_eq_getElem hj]
    exact congrArg some e

theorem backOf_any (hones : OnesSays) (B pa : Nat) (s l6 : List UInt8) (L : List Nat) (l8 : List UInt8) (st : Hm.LaySt) (fs : List (ByteArray × ByteArray)) (ps : List Nat) (w : World) (hP : Hm.Parse s l6 L l8 st) (hA : ArchAt B w pa s l6 L l8 st) (hI : Hm.ArchIs fs s l6 l8 st ps) (row q n : Nat) (hr : ps[row]? = some q) (hn : n ≤ q) :
    Calls Tryz.prog 33 #[.func (.func 34) #[.pointer (some ⟨pa, 6, none⟩)] #[], .int .i64 row, .int .i64 n] w fun e w' => e = .returned (.slice (some ⟨w.heap.size, 0, none⟩) n n) ∧
      w'.heap[w.heap.size]? = some (.cells (Hm.bcells (Hm.part (Hm.textOf fs) (q - n) q)).toArray 5 (0, 0)) ∧ Kept (fun _ => False) w w' := by
  obtain ⟨gn, ge, g, ng, nc, gs, P⟩ := hA.parts hP
  obtain ⟨hcl, hct, hcw⟩ := Hm.colRd_is hP.tree
  have hN := Hm.rdN_lt s
  have hroot := (Hm.rdM_inv hP.names).2
  have htl := Hm.treeOk_len hP.tree hN
  have hts : (⟨(l8.take (Hm.szB st.len)).toArray⟩ : ByteArray).size ≤ 1000000 := by show (l8.take _).toArray.size ≤ _; rw [List.size_toArray, List.length_take]; omega
  have hnN := hI.nN
  have hsm := hI.small
  have hst := hI.sorted
  have hpl : ps.length = (Hm.textOf fs).length + 1 := by have := hst.perm.length_eq; simpa using this
  rw [hnN] at hroot hcl
  rw [hnN, hI.col] at hct hcw
  rw [hI.col] at hcl
  have hlt : row < ps.length := by
    rcases Nat.lt_or_ge row ps.length with h | h
    · exact h
    · rw [List.getElem?_eq_none h] at hr; cases hr
  rw [List.getElem?_eq_getElem hlt] at hr
  have hq := Option.some.inj hr
  have hqn : q ≤ (Hm.textOf fs).length := by
    have := hst.perm.subset (List.getElem_mem hlt)
    rw [hq] at this
    have := List.mem_range.1 this
    omega
  have h := back_any hones pa 6 st.len g ng nc (Hm.rdR s).1 row n _ st.nds st.ws (Hm.colOf (Hm.textOf fs) ps) w P.rows hct hcw (by omega) (by omega) hts (by omega) (by omega)
  have hb := (Hm.backTo_from hst hcw row q hlt hq hqn n hn).1
  rw [← hI.nR] at hb
  rwa [hb] at h

set_option maxHeartbeats 1000000 in
theorem part_any (hones : OnesSays) (hLn : LenSays) (B pa : Nat) (s l6 : List UInt8) (L : List Nat) (l8 : List UInt8) (st : Hm.LaySt) (fs : List (ByteArray × ByteArray)) (ps : List Nat) (w : World) (hP : Hm.Parse s l6 L l8 st) (hA : ArchAt B w pa s l6 L l8 st) (hI : Hm.ArchIs fs s l6 l8 st ps) (q n : Nat) (hq : q ≤ (Hm.textOf fs).length) (hn : n ≤ q) :
    Calls Tryz.prog 60 #[.pointer (some ⟨pa, 0, none⟩), .int .i64 q, .int .i64 n] w fun e w' => e = .returned (.string ⟨(Hm.part (Hm.textOf fs) (q - n) q).toArray⟩) ∧ Kept (fun _ => False) w w' := by
  have HROW : Hid (∀ W, Kept (fun _ => False) w W → Calls Tryz.prog 113 #[.func (.func 34) #[.pointer (some ⟨pa, 6, none⟩)] #[], .func (.func 114) #[.pointer (some ⟨pa, 1036, none⟩)] #[], .int .i64 q] W fun e w' => (∃ row : Nat, e = .returned (.int .i64 (row : Nat)) ∧ ps[row]? = some q) ∧ Kept (fun _ => False) W w') :=
    fun W hk => rowOf_any hones hLn B pa s l6 L l8 st fs ps W hP (hA.kept hk (fun _ _ _ => id) id) hI q hq
  have HBK : Hid (∀ (row : Nat) W, ps[row]? = some q → Kept (fun _ => False) w W → Calls Tryz.prog 33 #[.func (.func 34) #[.pointer (some ⟨pa, 6, none⟩)] #[], .int .i64 row, .int .i64 n] W fun e w' => e = .returned (.slice (some ⟨W.heap.size, 0, none⟩) n n) ∧
      w'.heap[W.heap.size]? = some (.cells (Hm.bcells (Hm.part (Hm.textOf fs) (q - n) q)).toArray 5 (0, 0)) ∧ Kept (fun _ => False) W w') :=
    fun row W hr hk => backOf_any hones B pa s l6 L l8 st fs ps W hP (hA.kept hk (fun _ _ _ => id) id) hI row q n hr hn
  have hpl : (Hm.part (Hm.textOf fs) (q - n) q).length = n := by unfold Hm.part; rw [List.length_take, List.length_drop]; omega
  generalize Hm.part (Hm.textOf fs) (q - n) q = R at *
  have hpw : pa < w.heap.size := by
    obtain ⟨gn, ge, g, ng, nc, gs, P⟩ := hA.parts hP
    exact World.block_lt_of_cell? _ _ P.total
  clear hP hA hI
  go_enter Tryz.func60, Tryz.ntmps60
  go_wp2_with fail
  go_cut [7] from 8 (fun v7 wz => ∃ row : Nat, v7 = .int .i64 row ∧ Hid (ps[row]? = some q ∧ Kept (fun _ => False) w wz))
  case first =>
    go_region_held (fun X => Hid (Kept (fun _ => False) w X)) (first | exact k1 | exact (Kept.refl (fun _ => False) w).drew)
      (first | (go_at_call 113; (refine (HROW.out _ (Kept.refl (fun _ => False) w).drew).mono ?_; rintro e w1 ⟨⟨row, rfl, hrw⟩, hq1⟩; have k1 : Hid (Kept (fun _ => False) w w1) := (Kept.refl (fun _ => False) w).drew.trans hq1 (fun _ _ h => h); clear hq1)))
    all_goals (go_wp2_with fail; go_meet; case rel => exact ⟨_, rfl, hrw, k1.out⟩)
  case rest =>
    obtain ⟨row, rfl, HG⟩ := hcut
    have hbk := HBK.out row wc HG.out.1 HG.out.2
    clear HROW HBK
    go_wp2_with fail
    refine hbk.mono ?_
    rintro e w2 ⟨rfl, hrow, hk2⟩
    have hcv := convert_part hrow 0 n n (by omega)
    rw [List.drop_zero, List.take_of_length_le (by omega)] at hcv
    have HK : Hid (Kept (fun _ => False) w w2) := HG.out.2.trans hk2 (fun _ _ h => h)
    clear hbk hrow hk2
    go_wp2_with fail
    go_ret
    exact ⟨rfl, HK.out⟩

end Go.Proofs.YtegnkfdbmmndaaaGreat
end

/- RndF -/
section
/- Extract of an archive. -/
namespace Go.Proofs.YtegnkfdbmmndaaaGreat
open Go.RowKit

namespace Hm
theorem textOf_take_succ (fs : List (ByteArray × ByteArray)) (i : Nat) (hi : i < fs.length) : (textOf (fs.take (i + 1))).length = (textOf (fs.take i)).length + fs[i].2.size := by
  rw [List.take_succ_eq_append_getElem hi]
  unfold textOf
  rw [List.flatMap_append, List.length_append]; simp
theorem part_in (fs : List (ByteArray × ByteArray)) (i : Nat) (hi : i < fs.length) (a n : Nat) (h : a + n ≤ fs[i].2.size) : part (textOf fs) ((textOf (fs.take i)).length + a) ((textOf (fs.take i)).length + a + n) = (fs[i].2.data.toList.drop a).take n := by
  have h1 := part_text fs i hi
  rw [textOf_take_succ fs i hi] at h1
  rw [← h1]
  unfold part
  rw [List.drop_take, List.drop_drop, List.take_take]
  congr 1
  omega
theorem text_in (fs : List (ByteArray × ByteArray)) (i : Nat) (hi : i < fs.length) : (textOf (fs.take i)).length + fs[i].2.size ≤ (textOf fs).length := by
  have h1 := textOf_take_le fs (i := i + 1) (j := fs.length) (by omega)
  rw [textOf_take_succ fs i hi, List.take_length] at h1
  exact h1
end Hm

/-- A file's ends, called of an archive. -/
theorem fileOf_any (hones : OnesSays) (B pa : Nat) (s l6 : List UInt8) (L : List Nat) (l8 : List UInt8) (st : Hm.LaySt) (fs : List (ByteArray × ByteArray)) (ps : List Nat) (w : World) (hP : Hm.Parse s l6 L l8 st) (hA : ArchAt B w pa s l6 L l8 st) (hI : Hm.ArchIs fs s l6 l8 st ps) (i : Nat) (hi : i < fs.length) :
    Calls Tryz.prog 36 #[.pointer (some ⟨pa, 1, none⟩), .int .i64 (i : Nat)] w fun e w' => e = .returned (.tuple #[.int .i64 ((Hm.textOf (fs.take i)).length : Nat), .int .i64 ((Hm.textOf (fs.take i)).length + fs[i].2.size : Nat)]) ∧ Kept (fun _ => False) w w' := by
  obtain ⟨gn, ge, g, ng, nc, gs, P⟩ := hA.parts hP
  have h := fileRd_any hones pa ge i s l6 w P.ends hP.ends (by rw [hI.nF]; exact hi)
  rw [hI.froms i hi, hI.ends i hi, Hm.textOf_take_succ fs i hi] at h
  exact h

set_option maxHeartbeats 1000000 in
theorem extract_ok (hones : OnesSays) (hLn : LenSays) (B pa : Nat) (s l6 : List UInt8) (L : List Nat) (l8 : List UInt8) (st : Hm.LaySt) (fs : List (ByteArray × ByteArray)) (ps : List Nat) (w : World) (hP : Hm.Parse s l6 L l8 st) (hA : ArchAt B w pa s l6 L l8 st) (hI : Hm.ArchIs fs s l6 l8 st ps) (i a n : Nat) (hi : i < fs.length) (h : a + n ≤ fs[i].2.size) :
    Calls Tryz.prog 26 #[.pointer (some ⟨pa, 0, none⟩), .int .i64 i, .int .i64 a, .int .i64 n] w fun e w' => e = .returned (.tuple #[.string ⟨((fs[i].2.data.toList.drop a).take n).toArray⟩, .int .i64 0]) ∧ Kept (fun _ => False) w w' := by
  have hfi := fileOf_any hones B pa s l6 L l8 st fs ps w hP hA hI i hi
  have htx := Hm.text_in fs i hi
  have hsm := hI.small
  have hfw := hI.few
  have HPT : Hid (∀ W, Kept (fun _ => False) w W → Calls Tryz.prog 60 #[.pointer (some ⟨pa, 0, none⟩), .int .i64 (((Hm.textOf (fs.take i)).length : Int) + (a : Int) + (n : Int)), .int .i64 n] W fun e w' => e = .returned (.string ⟨((fs[i].2.data.toList.drop a).take n).toArray⟩) ∧ Kept (fun _ => False) W w') := fun W hk => by
    have hh := part_any hones hLn B pa s l6 L l8 st fs ps W hP (hA.kept hk (fun _ _ _ => id) id) hI ((Hm.textOf (fs.take i)).length + a + n) n (by omega) (by omega)
    rw [show (Hm.textOf (fs.take i)).length + a + n - n = (Hm.textOf (fs.take i)).length + a from by omega, Hm.part_in fs i hi a n h] at hh
    rwa [show (((Hm.textOf (fs.take i)).length + a + n : Nat) : Int) = ((Hm.textOf (fs.take i)).length : Int) + (a : Int) + (n : Int) from by omega] at hh
  obtain ⟨gn, c0⟩ : ∃ gn, w.cell? ⟨pa, 0, none⟩ = some (.slice (some ⟨gn, 0, none⟩) fs.length fs.length) := by
    obtain ⟨gn, ge, g, ng, nc, gs, P⟩ := hA.parts hP
    exact ⟨gn, by rw [← hI.nF]; exact P.names⟩
  obtain ⟨F, hF⟩ : ∃ F, F = (Hm.textOf (fs.take i)).length := ⟨_, rfl⟩
  obtain ⟨z, hz⟩ : ∃ z, z = fs[i].2.size := ⟨_, rfl⟩
  obtain ⟨m, hm⟩ : ∃ m, m = fs.length := ⟨_, rfl⟩
  rw [← hF, ← hz] at hfi htx
  rw [← hF] at HPT
  rw [← hz] at h
  rw [← hm] at hi c0 hfw
  obtain ⟨R, hR⟩ : ∃ R, R = (⟨((fs[i].2.data.toList.drop a).take n).toArray⟩ : ByteArray) := ⟨_, rfl⟩
  rw [← hR] at HPT ⊢
  clear hP hA hI hF hz hm hR
  have hiI : ¬ (m : Int) ≤ (i : Int) := by omega
  have hzt : ((F + z : Nat) : Int) - (F : Int) = (z : Int) := by omega
  have hna : ¬ ((z : Int) - (a : Int) < (n : Int)) := by omega
  go_enter Tryz.func26, Tryz.ntmps26
  go_wp2_with fail
  refine hfi.mono ?_
  rintro e w1 ⟨rfl, hk1⟩
  have hpt := HPT.out w1 hk1
  have HK : Hid (Kept (fun _ => False) w w1) := hk1
  clear hfi HPT hk1
  go_wp2_with fail
  refine hpt.mono ?_
  rintro e w2 ⟨rfl, hk2⟩
  have HK2 : Hid (Kept (fun _ => False) w w2) := HK.out.trans hk2 (fun _ _ h => h)
  clear hpt hk2
  go_wp2_with fail
  go_ret2
  exact ⟨rfl, HK2.out⟩

set_option maxHeartbeats 1000000 in
theorem extract_no (hones : OnesSays) (B pa : Nat) (s l6 : List UInt8) (L : List Nat) (l8 : List UInt8) (st : Hm.LaySt) (fs : List (ByteArray × ByteArray)) (ps : List Nat) (w : World) (hP : Hm.Parse s l6 L l8 st) (hA : ArchAt B w pa s l6 L l8 st) (hI : Hm.ArchIs fs s l6 l8 st ps) (f a n : Int) (ha1 : -9223372036854775808 ≤ a) (ha2 : a ≤ 9223372036854775807)
    (h : ∀ i : Nat, f = (i : Int) → (hi : i < fs.length) → a < 0 ∨ n < 0 ∨ (fs[i].2.size : Int) - a < n) :
    Calls Tryz.prog 26 #[.pointer (some ⟨pa, 0, none⟩), .int .i64 f, .int .i64 a, .int .i64 n] w fun e w' => e = .returned (.tuple #[.string ⟨#[]⟩, .int .i64 7]) ∧ Kept (fun _ => False) w w' := by
  obtain ⟨gn, c0⟩ : ∃ gn, w.cell? ⟨pa, 0, none⟩ = some (.slice (some ⟨gn, 0, none⟩) fs.length fs.length) := by
    obtain ⟨gn, ge, g, ng, nc, gs, P⟩ := hA.parts hP
    exact ⟨gn, by rw [← hI.nF]; exact P.names⟩
  have hfw := hI.few
  by_cases hf0 : f < 0
  · clear hP hA hI h
    go_enter Tryz.func26, Tryz.ntmps26
    go_wp2_with fail
    go_ret2
    exact ⟨rfl, Kept.refl _ _⟩
  by_cases hf1 : (fs.length : Int) ≤ f
  · clear hP hA hI h
    go_enter Tryz.func26, Tryz.ntmps26
    go_wp2_with fail
    go_ret2
    exact ⟨rfl, Kept.refl _ _⟩
  obtain ⟨i, rfl⟩ : ∃ i : Nat, f = (i : Int) := ⟨f.toNat, by omega⟩
  have hi : i < fs.length := by omega
  have hor := h i rfl hi
  have hfi := fileOf_any hones B pa s l6 L l8 st fs ps w hP hA hI i hi
  have htx := Hm.text_in fs i hi
  have hsm := hI.small
  obtain ⟨F, hF⟩ : ∃ F, F = (Hm.textOf (fs.take i)).length := ⟨_, rfl⟩
  obtain ⟨z, hz⟩ : ∃ z, z = fs[i].2.size := ⟨_, rfl⟩
  obtain ⟨m, hm⟩ : ∃ m, m = fs.length := ⟨_, rfl⟩
  rw [← hF, ← hz] at hfi htx
  rw [← hz] at hor
  rw [← hm] at hi c0 hfw hf1
  clear hP hA hI hF hz hm h
  have hzt : ((F + z : Nat) : Int) - (F : Int) = (z : Int) := by omega
  by_cases hcs : a < 0 ∨ n < 0
  · clear hor
    rcases hcs with hcs | hcs
    · go_enter Tryz.func26, Tryz.ntmps26
      go_wp2_with fail
      refine hfi.mono ?_
      rintro e w1 ⟨rfl, hk1⟩
      have HK : Hid (Kept (fun _ => False) w w1) := hk1
      clear hfi hk1
      go_wp2_with fail
      go_ret2
      exact ⟨rfl, HK.out⟩
    · go_enter Tryz.func26, Tryz.ntmps26
      go_wp2_with fail
      refine hfi.mono ?_
      rintro e w1 ⟨rfl, hk1⟩
      have HK : Hid (Kept (fun _ => False) w w1) := hk1
      clear hfi hk1
      go_wp2_with fail
      all_goals (
        go_ret2
        exact ⟨rfl, HK.out⟩)
  · have h1 : ¬ a < 0 := fun h => hcs (.inl h)
    have h2 : ¬ n < 0 := fun h => hcs (.inr h)
    have h3 : (z : Int) - a < n := by omega
    have hwz : IntKind.i64.wrap ((z : Int) - a) = (z : Int) - a := by rw [IntKind.wrap_i64]; omega
    have hwz2 : wrap64 ((z : Int) - a) = (z : Int) - a := by unfold wrap64; omega
    clear hor hcs
    go_enter Tryz.func26, Tryz.ntmps26
    go_wp2_with fail
    refine hfi.mono ?_
    rintro e w1 ⟨rfl, hk1⟩
    have HK : Hid (Kept (fun _ => False) w w1) := hk1
    clear hfi hk1
    go_wp2_with fail
    go_ret2
    exact ⟨rfl, HK.out⟩

end Go.Proofs.YtegnkfdbmmndaaaGreat
end
