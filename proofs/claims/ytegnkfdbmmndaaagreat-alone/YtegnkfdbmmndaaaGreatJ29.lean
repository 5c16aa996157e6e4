import Derived.Test.YtegnkfdbmmndaaaGreatJ25
import Derived.Test.YtegnkfdbmmndaaaGreatJ27
import Derived.Test.YtegnkfdbmmndaaaGreatJ28
import Derived.ProofKit
import Derived.OpenShut
import Derived.Deep.SlicePairs
import Derived.SizedLaws
import Derived.SliceStrings
import Derived.ChangeMaps5

/- UnpC -/
section
/- An archive is unpacked: the walk. -/
namespace Go.Proofs.YtegnkfdbmmndaaaGreat
open Go.RowKit

namespace Hm
def fileRow (fs : List Fl) (m k : Nat) : List Fl := fs.take k ++ List.replicate (m - k) (⟨#[]⟩, ⟨#[]⟩)
theorem cover_le {f : Nat → Bool} {len m low n : Nat} (h : Cover f len m low n) (i : Nat) (hi : i < m) : endAt f m low i ≤ n := by
  have key : ∀ d j, j + d = m → fromAt f m low j ≤ n := by
    intro d
    induction d with
    | zero => intro j e; rw [show j = m by omega, h.all]; exact Nat.le_refl _
    | succ d ih =>
      intro j e
      have h1 := ih (j + 1) (by omega)
      have h2 := h.asc j (by omega)
      have h3 : fromAt f m low (j + 1) = endAt f m low j := rfl
      omega
  have h1 := key (m - (i + 1)) (i + 1) (by omega)
  exact h1
theorem namesTo_size (st : Rd) : ∀ m k, ((namesTo m st).1.getD k ⟨#[]⟩).size ≤ 255
  | 0, k => by show (([] : List ByteArray).getD k ⟨#[]⟩).size ≤ 255; rw [List.getD_nil]; exact Nat.zero_le _
  | m + 1, k => by
    have ih := namesTo_size st m k
    show (((namesTo m st).1 ++ [_]).getD k ⟨#[]⟩).size ≤ 255
    rw [List.getD_eq_getElem?_getD] at ih ⊢
    by_cases h : k < (namesTo m st).1.length
    · rw [List.getElem?_append_left h]; exact ih
    · rw [List.getElem?_append_right (by omega)]
      by_cases h2 : k - (namesTo m st).1.length = 0
      · rw [h2]
        have hx : (numO (namesTo m st).2 1).1 < 256 := by have := numO_lt (namesTo m st).2 1; simpa using this
        have hl := takeO_length (numO (namesTo m st).2 1).2 (numO (namesTo m st).2 1).1
        show (takeO _ _).1.toArray.size ≤ 255
        rw [List.size_toArray]; omega
      · rw [List.getElem?_eq_none (by simp; omega)]; exact Nat.zero_le _
theorem fileRow_length (fs : List Fl) (m k : Nat) (hf : fs.length = m) (hk : k ≤ m) : (fileRow fs m k).length = m := by
  unfold fileRow; rw [List.length_append, List.length_take, List.length_replicate]; omega
theorem fileRow_succ (fs : List Fl) (m k : Nat) (hf : fs.length = m) (hk : k < m) (x : Fl) (hx : fs[k]? = some x) : (fileRow fs m k).set k x = fileRow fs m (k + 1) := by
  have e : List.replicate (m - k) ((⟨#[]⟩, ⟨#[]⟩) : Fl) = (⟨#[]⟩, ⟨#[]⟩) :: List.replicate (m - (k + 1)) (⟨#[]⟩, ⟨#[]⟩) := by rw [show m - k = (m - (k + 1)) + 1 from by omega, List.replicate_succ]
  unfold fileRow
  rw [e, List.set_append_right _ _ (by rw [List.length_take]; omega), List.length_take, Nat.min_eq_left (by omega), Nat.sub_self, List.set_cons_zero, List.take_add_one, hx, List.append_assoc]
  rfl
theorem fileRow_all (fs : List Fl) (m : Nat) (hf : fs.length = m) : fileRow fs m m = fs := by
  unfold fileRow; rw [Nat.sub_self, List.take_of_length_le (by omega)]; simp
end Hm

theorem fileRd_any (hones : OnesSays) (pa ge k : Nat) (s l6 : List UInt8) (W : World) (h : EndsAt W pa 1 ⟨(l6.take (Hm.szB (Hm.endsLen (Hm.rdF s).1 (Hm.rdN s).1))).toArray⟩ (Hm.endsLen (Hm.rdF s).1 (Hm.rdN s).1) ge (Hm.rdF s).1 (Hm.lowR (Hm.rdF s).1 (Hm.rdN s).1)) (ho : Hm.EndsOk l6 (Hm.rdF s).1 (Hm.rdN s).1) (hk : k < (Hm.rdF s).1) :
    Calls Tryz.prog 36 #[.pointer (some ⟨pa, 1, none⟩), .int .i64 (k : Nat)] W fun e w' => e = .returned (.tuple #[.int .i64 (Hm.fromRd s l6 k : Nat), .int .i64 (Hm.endRd s l6 k : Nat)]) ∧ Kept (fun _ => False) W w' := by
  have hF := Hm.rdF_lt s
  have hN := Hm.rdN_lt s
  have hel := ho.fits
  have hco := ho.cover.ones
  have hes : (⟨(l6.take (Hm.szB (Hm.endsLen (Hm.rdF s).1 (Hm.rdN s).1))).toArray⟩ : ByteArray).size = Hm.szB (Hm.endsLen (Hm.rdF s).1 (Hm.rdN s).1) := by
    show (l6.take _).toArray.size = _
    rw [List.size_toArray, List.length_take]; omega
  have hle := Hm.endsLen_le _ _ hF hN
  have hlo := Hm.lowR_le (Hm.rdF s).1 (Hm.rdN s).1 hN
  have hml : (Hm.rdF s).1 * Hm.lowR (Hm.rdF s).1 (Hm.rdN s).1 ≤ Hm.endsLen (Hm.rdF s).1 (Hm.rdN s).1 := Nat.le_add_right _ _
  have e1 : Hm.fromRd s l6 k = Hm.fromAt (Hm.bitB (l6.take (Hm.szB (Hm.endsLen (Hm.rdF s).1 (Hm.rdN s).1)))) (Hm.rdF s).1 (Hm.lowR (Hm.rdF s).1 (Hm.rdN s).1) k := rfl
  have e2 : Hm.endRd s l6 k = Hm.endAt (Hm.bitB (l6.take (Hm.szB (Hm.endsLen (Hm.rdF s).1 (Hm.rdN s).1)))) (Hm.rdF s).1 (Hm.lowR (Hm.rdF s).1 (Hm.rdN s).1) k := rfl
  have e3 : l6.take (Hm.szB (Hm.endsLen (Hm.rdF s).1 (Hm.rdN s).1)) = (⟨(l6.take (Hm.szB (Hm.endsLen (Hm.rdF s).1 (Hm.rdN s).1))).toArray⟩ : ByteArray).data.toList := rfl
  rw [e1, e2]
  generalize Hm.lowR (Hm.rdF s).1 (Hm.rdN s).1 = lo at *
  generalize Hm.endsLen (Hm.rdF s).1 (Hm.rdN s).1 = el at *
  rw [e3] at hco ⊢
  generalize (⟨(l6.take (Hm.szB el)).toArray⟩ : ByteArray) = E at *
  have h8 : el ≤ 8 * E.size := by rw [hes]; unfold Hm.szB; omega
  exact file_any hones pa 1 el ge (Hm.rdF s).1 lo k E W h (by omega) (by omega) hk hml h8 hco (by rw [hes]; omega)

set_option maxRecDepth 20000 in
set_option maxHeartbeats 2000000 in
theorem unpack_any (hones : OnesSays) (B pa : Nat) (s l6 : List UInt8) (L : List Nat) (l8 : List UInt8) (st : Hm.LaySt) (w : World) (hp : Hm.Parse s l6 L l8 st) (h : ArchAt B w pa s l6 L l8 st) :
    Calls Tryz.prog 14 #[.pointer (some ⟨pa, 0, none⟩)] w fun e w' => ∃ gf, e = .returned (.slice (some ⟨gf, 0, none⟩) (Hm.rdF s).1 (Hm.rdF s).1) ∧ w.heap.size ≤ gf ∧ FRow w' gf (Hm.filesRd s l6 l8 st) ∧ Kept (fun _ => False) w w' := by
  obtain ⟨gn, ge, g, ng, nc, gs, P⟩ := h.parts hp
  obtain ⟨hcl, hct, hcw⟩ := Hm.colRd_is hp.tree
  have hN := Hm.rdN_lt s
  have hF := Hm.rdF_lt s
  have hroot := (Hm.rdM_inv hp.names).2
  have htl := Hm.treeOk_len hp.tree hN
  have hts : (⟨(l8.take (Hm.szB st.len)).toArray⟩ : ByteArray).size ≤ 1000000 := by show (l8.take _).toArray.size ≤ _; rw [List.size_toArray, List.length_take]; omega
  have HBK : Hid (∀ W, RowsPart W pa 6 ⟨(l8.take (Hm.szB st.len)).toArray⟩ st.len g ng nc st.nds (Hm.rdR s).1 st.ws → Calls Tryz.prog 33 #[.func (.func 34) #[.pointer (some ⟨pa, 6, none⟩)] #[], .int .i64 0, .int .i64 ((Hm.rdN s).1 : Nat)] W fun e w' => e = .returned (.slice (some ⟨W.heap.size, 0, none⟩) (Hm.rdN s).1 (Hm.rdN s).1) ∧
      w'.heap[W.heap.size]? = some (.cells (Hm.bcells (Hm.textRd s l8 st)).toArray 5 (0, 0)) ∧ Kept (fun _ => False) W w') := fun W hW =>
    back_any hones pa 6 st.len g ng nc (Hm.rdR s).1 0 (Hm.rdN s).1 _ st.nds st.ws (Hm.colRd l8 (Hm.rdN s).1 st) W hW hct hcw (by omega) (Nat.zero_le _) hts (by omega) (by omega)
  have HP : Hid (ArchParts w pa s l6 L l8 st gn ge g ng nc gs) := P
  have hpw : pa < w.heap.size := World.block_lt_of_cell? _ _ P.total
  have hgw : gn < w.heap.size := lt_of_block P.nblock
  obtain ⟨n, hn⟩ : ∃ n, n = (Hm.rdN s).1 := ⟨_, rfl⟩
  rw [← hn] at HBK hN
  have htot := fun W (hW : W.cell? ⟨pa, 778, none⟩ = some (.int .i64 (n : Nat))) => total_any pa 6 n W hW
  have HT : Hid _ := htot
  have HPT : Hid (w.cell? ⟨pa, 778, none⟩ = some (.int .i64 (n : Nat)) ∧ RowsPart w pa 6 ⟨(l8.take (Hm.szB st.len)).toArray⟩ st.len g ng nc st.nds (Hm.rdR s).1 st.ws) := ⟨by rw [hn]; exact P.total, P.rows⟩
  have HN : Hid (n = (Hm.rdN s).1) := hn
  have HFI : Hid (∀ k W, k < (Hm.rdF s).1 → Kept (fun _ => False) w W → Calls Tryz.prog 36 #[.pointer (some ⟨pa, 1, none⟩), .int .i64 (k : Nat)] W fun e w' => e = .returned (.tuple #[.int .i64 (Hm.fromRd s l6 k : Nat), .int .i64 (Hm.endRd s l6 k : Nat)]) ∧ Kept (fun _ => False) W w') := fun k W hk hW => fileRd_any hones pa ge k s l6 W (P.ends.kept hW id id) hp.ends hk
  have HFT : Hid (∀ k, k < (Hm.rdF s).1 → Hm.fromRd s l6 k ≤ Hm.endRd s l6 k ∧ Hm.endRd s l6 k ≤ n) := fun k hk => ⟨hp.ends.cover.asc k hk, by rw [hn]; exact Hm.cover_le hp.ends.cover k hk⟩
  have HNS : Hid (∀ k nm, nm = (Hm.rdM s).1.getD k ⟨#[]⟩ → k < (Hm.rdF s).1 → nm.size ≤ 281474976710656) := fun k nm h1 h2 => by
    rw [h1]
    have := Hm.namesTo_size (Hm.rdB s) (Hm.rdF s).1 k
    exact Nat.le_trans this (by omega)
  clear P h hcl hct hcw htl hts htot hn hroot
  go_enter Tryz.func14, Tryz.ntmps14
  go_wp2_with fail
  go_cut [3] from 11 (fun v3 wz => ∃ gt : Nat, v3 = .slice (some ⟨gt, 0, none⟩) n n ∧ w.heap.size ≤ gt ∧ Hid (wz.heap[gt]? = some (.cells (Hm.bcells (Hm.textRd s l8 st)).toArray 5 (0, 0)) ∧ Kept (fun _ => False) w wz))
  case first =>
    go_region_held (fun X => Hid (Kept (fun _ => False) w X)) (first | exact k2 | exact k1 | exact (Kept.refl (fun _ => False) w).drew)
      (first
        | (go_at_call 35; (refine (HT.out _ ?_).mono ?_; (exact ((Kept.refl (fun _ => False) w).drew.cell hpw id).trans HPT.out.1); rintro e w1 ⟨rfl, hq1⟩; have k1 : Hid (Kept (fun _ => False) w w1) := (by rw [hq1]; exact (Kept.refl (fun _ => False) w).drew); clear hq1))
        | (go_at_call 33; (refine (HBK.out _ (HPT.out.2.kept k1.out id id id)).mono ?_; rintro e w2 ⟨rfl, hg2, hq2⟩; have k2 : Hid (Kept (fun _ => False) w w2) := k1.out.trans hq2 (fun _ _ h => h); clear hq2)))
    all_goals (go_wp2_with fail; go_meet; case rel => exact ⟨_, rfl, k1.out.size, hg2, k2.out⟩)
  case rest =>
    obtain ⟨gt, rfl, hgt, HG⟩ := hcut
    have c0 : wc.cell? ⟨pa, 0, none⟩ = some (.slice (some ⟨gn, 0, none⟩) (Hm.rdF s).1 (Hm.rdF s).1) := (HG.out.2.cell (p := ⟨pa, 0, none⟩) hpw id).trans HP.out.names
    obtain ⟨i0, hi, hz0, hz1, hz2⟩ := info_parts info_file
    obtain ⟨m, hm⟩ : ∃ m, m = (Hm.rdF s).1 := ⟨_, rfl⟩
    rw [← hm] at c0 hF
    have HM : Hid (m = (Hm.rdF s).1) := hm
    rw [← hm] at HFI HFT HNS
    clear hm HBK HT HPT
    have hpc : pa < wc.heap.size := by have := HG.out.2.size; omega
    have hgsz : gt < wc.heap.size := lt_of_block HG.out.1
    go_wp2_with (at_make; refine wpList_make_full _ rfl (.tmp 25) (.tmp 25) 22 rfl wc.heap.size 38 i0 (.agg #[.string ⟨#[]⟩, .string ⟨#[]⟩]) 2 Tryz.underlying22 hi hz0 hz1 .i64 .i64 _ _ m rfl rfl rfl rfl (by rw [hz2]; omega) (by unfold maxLen; omega) (Nat.le_refl _) ?_; intro w3 ho3 hg3; have hk3 : Kept (fun _ => False) wc w3 := (Kept.refl _ _).grown hg3 (fun k hk => by cases hk); have c03 : w3.cell? ⟨pa, 0, none⟩ = some (.slice (some ⟨gn, 0, none⟩) m m) := (hk3.cell (p := ⟨pa, 0, none⟩) hpc id).trans c0)
    have hr3 := FRow.made ho3
    obtain ⟨gf, hgf⟩ : ∃ x, x = wc.heap.size := ⟨_, rfl⟩
    rw [← hgf] at hr3 ⊢
    have H3 : Hid (FRow w3 gf (List.replicate m (⟨#[]⟩, ⟨#[]⟩)) ∧ Kept (fun _ => False) w w3 ∧ w3.heap[gt]? = some (.cells (Hm.bcells (Hm.textRd s l8 st)).toArray 5 (0, 0))) := ⟨hr3, HG.out.2.trans hk3 (fun _ _ h => h), hk3.row HG.out.1 id⟩
    have hwg : w.heap.size ≤ gf := by rw [hgf]; exact HG.out.2.size
    have hgg : gt < gf := by omega
    clear ho3 hg3 hk3 hr3 HG c0 hgsz hgf
    go_loopw [32] (fun vi wr => ∃ k : Nat, k ≤ m ∧ vi = .int .i64 k ∧ FRow wr gf (Hm.fileRow (Hm.filesRd s l6 l8 st) m k) ∧ Kept (fun _ => False) w wr ∧ wr.heap[gt]? = some (.cells (Hm.bcells (Hm.textRd s l8 st)).toArray 5 (0, 0))) (fun vi _ => m - (intOf vi).toNat)
    case atStart => exact ⟨0, Nat.zero_le _, rfl, by simpa [Hm.fileRow] using H3.out.1, H3.out.2.1, H3.out.2.2⟩
    case round =>
      obtain ⟨k, hk, rfl, hrow, hkr, htx⟩ := hrel
      by_cases hlt : k < m
      · obtain ⟨nm, hnm⟩ : ∃ x, x = (Hm.rdM s).1.getD k ⟨#[]⟩ := ⟨_, rfl⟩
        have hnl : (Hm.rdM s).1.length = m := by rw [HM.out]; exact Hm.namesTo_length _ _
        have cnm : wr.cell? ⟨gn, k, none⟩ = some (.string nm) := by
          rw [hkr.cell (p := ⟨gn, k, none⟩) hgw id, cell_of_row _ _ k _ _ _ HP.out.nblock, List.getElem?_toArray, hnm]
          unfold Hm.vstrs
          rw [List.getElem?_map, List.getD_eq_getElem?_getD, List.getElem?_eq_getElem (show k < (Hm.rdM s).1.length by omega)]; rfl
        have hfi := HFI.out k wr hlt hkr
        have hft := HFT.out k hlt
        have hcl := fun W => clone_any nm W (HNS.out k nm hnm hlt)
        have HFX : Hid ((Hm.filesRd s l6 l8 st)[k]? = some (nm, ⟨(Hm.part (Hm.textRd s l8 st) (Hm.fromRd s l6 k) (Hm.endRd s l6 k)).toArray⟩)) := by
          show _ = _
          unfold Hm.filesRd
          rw [List.getElem?_map, List.getElem?_range (by rw [← HM.out]; exact hlt), hnm]; rfl
        generalize Hm.fromRd s l6 k = fr at hfi hft HFX
        generalize Hm.endRd s l6 k = tz at hfi hft HFX
        have H4 : Hid (FRow wr gf (Hm.fileRow (Hm.filesRd s l6 l8 st) m k) ∧ Kept (fun _ => False) w wr ∧ wr.heap[gt]? = some (.cells (Hm.bcells (Hm.textRd s l8 st)).toArray 5 (0, 0))) := ⟨hrow, hkr, htx⟩
        have hkI : (k : Int) < (m : Int) := by omega
        clear hrow hkr htx hnm hnl
        go_wp2_with fail
        refine hfi.mono ?_
        rintro e w4 ⟨rfl, hk4⟩
        have H5 : Hid (FRow w4 gf (Hm.fileRow (Hm.filesRd s l6 l8 st) m k) ∧ Kept (fun _ => False) w w4 ∧ w4.heap[gt]? = some (.cells (Hm.bcells (Hm.textRd s l8 st)).toArray 5 (0, 0))) := ⟨H4.out.1.kept hk4 id, H4.out.2.1.trans hk4 (fun _ _ h => h), hk4.row H4.out.2.2 id⟩
        clear hfi hk4 H4
        go_wp2_with fail
        refine wp_region_held_drew (S := fun X => X.heap[gt]? = some (.cells (Hm.bcells (Hm.textRd s l8 st)).toArray 5 (0, 0))) (by kernel_rfl) H5.out.2.2 (fun hHeld => ?_)
        refine wpAnyH_take (i := 0) (oi := { dst := some 45, op := Op.move (Operand.tmp 4), type := 22, pos := "hoard.go:66", after := #[], guard := none }) (v := ?_) rfl (by kernel_rfl) (by kernel_rfl) (by kernel_rfl) (fun _ _ _ h => h) (Or.inl ⟨by kernel_rfl, ?_⟩) (by assumption) ?_
        rotate_left
        · intro X hSw
          try dsimp only at hSw
          go_simp
          with_reducible rfl
        simp only [Act.put, List.setIfInBounds_toArray, List.set_cons_zero, List.set_cons_succ]
        refine wpAnyH_take (i := 1) (oi := { dst := some 46, op := Op.move (Operand.tmp 5), type := 3, pos := "hoard.go:66", after := #[], guard := none }) (v := ?_) rfl (by kernel_rfl) (by kernel_rfl) (by kernel_rfl) (fun _ _ _ h => h) (Or.inl ⟨by kernel_rfl, ?_⟩) (by assumption) ?_
        rotate_left
        · intro X hSw
          try dsimp only at hSw
          go_simp
          with_reducible rfl
        simp only [Act.put, List.setIfInBounds_toArray, List.set_cons_zero, List.set_cons_succ]
        refine wpAnyH_take (i := 2) (oi := { dst := some 47, op := Op.move (Operand.tmp 6), type := 9, pos := "hoard.go:66", after := #[], guard := none }) (v := ?_) rfl (by kernel_rfl) (by kernel_rfl) (by kernel_rfl) (fun _ _ _ h => h) (Or.inl ⟨by kernel_rfl, ?_⟩) (by assumption) ?_
        rotate_left
        · intro X hSw
          try dsimp only at hSw
          go_simp
          with_reducible rfl
        simp only [Act.put, List.setIfInBounds_toArray, List.set_cons_zero, List.set_cons_succ]
        refine wpAnyH_take (i := 4) (oi := { dst := some 49, op := Op.move (Operand.tmp 3), type := 79, pos := "hoard.go:66", after := #[], guard := none }) (v := ?_) rfl (by kernel_rfl) (by kernel_rfl) (by kernel_rfl) (fun _ _ _ h => h) (Or.inl ⟨by kernel_rfl, ?_⟩) (by assumption) ?_
        rotate_left
        · intro X hSw
          try dsimp only at hSw
          go_simp
          with_reducible rfl
        simp only [Act.put, List.setIfInBounds_toArray, List.set_cons_zero, List.set_cons_succ]
        refine wpAnyH_take (i := 5) (oi := { dst := some 50, op := Op.move (Operand.tmp 7), type := 3, pos := "hoard.go:66", after := #[], guard := none }) (v := ?_) rfl (by kernel_rfl) (by kernel_rfl) (by kernel_rfl) (fun _ _ _ h => h) (Or.inl ⟨by kernel_rfl, ?_⟩) (by assumption) ?_
        rotate_left
        · intro X hSw
          try dsimp only at hSw
          go_simp
          with_reducible rfl
        simp only [Act.put, List.setIfInBounds_toArray, List.set_cons_zero, List.set_cons_succ]
        refine wpAnyH_take (i := 6) (oi := { dst := some 51, op := Op.move (Operand.tmp 8), type := 3, pos := "hoard.go:66", after := #[], guard := none }) (v := ?_) rfl (by kernel_rfl) (by kernel_rfl) (by kernel_rfl) (fun _ _ _ h => h) (Or.inl ⟨by kernel_rfl, ?_⟩) (by assumption) ?_
        rotate_left
        · intro X hSw
          try dsimp only at hSw
          go_simp
          with_reducible rfl
        simp only [Act.put, List.setIfInBounds_toArray, List.set_cons_zero, List.set_cons_succ]
        obtain ⟨hf1, hf2⟩ := hft
        have hfI : (fr : Int) ≤ (tz : Int) := by omega
        have htI : (tz : Int) ≤ (n : Int) := by omega
        refine wpAnyH_take (i := 7) (oi := { dst := some 52, op := Op.slice 79 (Operand.tmp 49) (some (Operand.tmp 50)) (some (Operand.tmp 51)) none, type := 79, pos := "hoard.go:66", after := #[{ on := 4, ground := Ground.data }, { on := 5, ground := Ground.data }, { on := 6, ground := Ground.data }], guard := none }) (v := .slice (if n = fr then some ⟨gt, 0, none⟩ else some ⟨gt, fr, none⟩) (tz - fr) (n - fr)) rfl (by kernel_rfl) (by kernel_rfl) (by kernel_rfl) (fun _ _ _ h => h) (Or.inl ⟨by kernel_rfl, ?_⟩) (by assumption) ?_
        · intro X hSw
          try dsimp only at hSw
          go_simp
        simp only [Act.put, List.setIfInBounds_toArray, List.set_cons_zero, List.set_cons_succ]
        obtain ⟨PT, hPT⟩ : ∃ x, x = (⟨(Hm.part (Hm.textRd s l8 st) fr tz).toArray⟩ : ByteArray) := ⟨_, rfl⟩
        have HPT : Hid (PT = (⟨(Hm.part (Hm.textRd s l8 st) fr tz).toArray⟩ : ByteArray)) := hPT
        clear hPT
        have htl : (Hm.textRd s l8 st).length = n := by rw [HN.out]; exact Hm.textRd_length s l8 st
        have HCV : Hid (∀ X : World, X.heap[gt]? = some (.cells (Hm.bcells (Hm.textRd s l8 st)).toArray 5 (0, 0)) → (convert 79 9 (.slice (if n = fr then some ⟨gt, 0, none⟩ else some ⟨gt, fr, none⟩) (tz - fr) (n - fr))).run Tryz.prog X = .ok (.string PT) X) := fun X hX => by
          rw [HPT.out]
          by_cases c : n = fr
          · rw [if_pos c, show tz - fr = 0 by omega]
            have := convert_part hX 0 0 (n - fr) (by omega)
            rw [this]; unfold Hm.part; rw [show tz - fr = 0 by omega, List.take_zero, List.take_zero]
          · rw [if_neg c]
            exact convert_part hX fr (tz - fr) (n - fr) (by omega)
        refine wpAnyH_take (i := 8) (oi := { dst := some 53, op := Op.convert 79 9 (Operand.tmp 52), type := 9, pos := "hoard.go:66", after := #[{ on := 7, ground := Ground.data }], guard := none }) (v := .string PT) rfl (by kernel_rfl) (by kernel_rfl) (by kernel_rfl) (fun _ _ _ h => h) (Or.inl ⟨by kernel_rfl, fun X hX => run_conv_op X 79 9 (.tmp 52) rfl _ _ rfl (HCV.out X hX)⟩) (by assumption) ?_
        simp only [Act.put, List.setIfInBounds_toArray, List.set_cons_zero, List.set_cons_succ]
        clear HCV
        refine wpAnyH_ready (rs := [3]) (by kernel_rfl) (by simp) ?_
        refine AllReadyH.cons rfl (fun K hK => ?_) AllReadyH.nil
        go_simp
        refine (hcl _).mono ?_
        rintro e w5 ⟨rfl, hk5⟩
        have hk45 : Kept (fun _ => False) w4 w5 := (Kept.refl (fun _ => False) w4).drew.trans hk5 (fun _ _ h => h)
        have hR := Hm.fileRow_length (Hm.filesRd s l6 l8 st) m k (by rw [HM.out]; exact Hm.filesRd_length s l6 l8 st) hk
        have HRS := Hm.fileRow_succ (Hm.filesRd s l6 l8 st) m k (by rw [HM.out]; exact Hm.filesRd_length s l6 l8 st) hlt _ HFX.out
        rw [← HPT.out] at HRS
        generalize Hm.fileRow (Hm.filesRd s l6 l8 st) m k = R at H5 hR HRS
        have HRS' : Hid (R.set k (nm, PT) = Hm.fileRow (Hm.filesRd s l6 l8 st) m (k + 1)) := HRS
        have hF5 := H5.out.1.kept hk45 id
        have q1 := hF5.fst (i := k) (by omega)
        have q2 := hF5.snd (i := k) (by omega)
        have fz1 := hF5.free (k * 2)
        have fz2 := hF5.free (k * 2 + 1)
        have H6 : Hid (FRow w5 gf R ∧ Kept (fun _ => False) w w5 ∧ w5.heap[gt]? = some (.cells (Hm.bcells (Hm.textRd s l8 st)).toArray 5 (0, 0))) := ⟨hF5, H5.out.2.1.trans hk45 (fun _ _ h => h), hk45.row H5.out.2.2 id⟩
        refine hK.out _ _ H6.out.2.2 (fun hHeld => ?_)
        clear hK K hk5 hk45 hF5 H5 HRS hcl htl HPT HFX
        refine wpAnyH_take (i := 9) (oi := { dst := some 54, op := Op.build 38 #[(0, Operand.tmp 48), (1, Operand.tmp 53)], type := 38, pos := "hoard.go:66", after := #[{ on := 3, ground := Ground.data }, { on := 8, ground := Ground.data }], guard := none }) (v := ?_) rfl (by kernel_rfl) (by kernel_rfl) (by kernel_rfl) (fun _ _ _ h => h) (Or.inl ⟨by kernel_rfl, ?_⟩) (by assumption) ?_
        rotate_left
        · intro X hSw
          try dsimp only at hSw
          go_simp
          with_reducible rfl
        simp only [Act.put, List.setIfInBounds_toArray, List.set_cons_zero, List.set_cons_succ]
        refine wpAnyH_take (i := 10) (oi := { dst := some 55, op := Op.indexAddr 22 (Operand.tmp 45) (Operand.tmp 46), type := 0, pos := "hoard.go:66", after := #[{ on := 0, ground := Ground.data }, { on := 1, ground := Ground.data }, { on := 0, ground := Ground.phase }, { on := 1, ground := Ground.phase }, { on := 2, ground := Ground.phase }, { on := 3, ground := Ground.phase }, { on := 4, ground := Ground.phase }, { on := 5, ground := Ground.phase }, { on := 6, ground := Ground.phase }, { on := 7, ground := Ground.phase }, { on := 8, ground := Ground.phase }, { on := 9, ground := Ground.phase }], guard := none }) (v := ?_) rfl (by kernel_rfl) (by kernel_rfl) (by kernel_rfl) (fun _ _ _ h => h) (Or.inl ⟨by kernel_rfl, ?_⟩) (by assumption) ?_
        rotate_left
        · intro X hSw
          try dsimp only at hSw
          go_simp
          with_reducible rfl
        simp only [Act.put, List.setIfInBounds_toArray, List.set_cons_zero, List.set_cons_succ]
        refine wpAnyH_ready (rs := [11]) (by kernel_rfl) (by simp) ?_
        refine AllReadyH.cons rfl (fun K hK => ?_) AllReadyH.nil
        go_simp
        have hne : gt ≠ gf := by omega
        have hkz : Kept (fun j => j = gf) w5 ((w5.setCell ⟨gf, k * 2, none⟩ (.string nm)).setCell ⟨gf, k * 2 + 1, none⟩ (.string PT)) := ((Kept.refl (fun j => j = gf) w5).setCell (p := ⟨gf, k * 2, none⟩) (.inr rfl) _).setCell (p := ⟨gf, k * 2 + 1, none⟩) (.inr rfl) _
        have H7 : Hid (FRow ((w5.setCell ⟨gf, k * 2, none⟩ (.string nm)).setCell ⟨gf, k * 2 + 1, none⟩ (.string PT)) gf (Hm.fileRow (Hm.filesRd s l6 l8 st) m (k + 1)) ∧ Kept (fun _ => False) w ((w5.setCell ⟨gf, k * 2, none⟩ (.string nm)).setCell ⟨gf, k * 2 + 1, none⟩ (.string PT)) ∧ ((w5.setCell ⟨gf, k * 2, none⟩ (.string nm)).setCell ⟨gf, k * 2 + 1, none⟩ (.string PT)).heap[gt]? = some (.cells (Hm.bcells (Hm.textRd s l8 st)).toArray 5 (0, 0))) :=
          ⟨by rw [← HRS'.out]; exact H6.out.1.put k nm PT (by omega), H6.out.2.1.trans hkz (fun j h1 h2 => by omega), hkz.row H6.out.2.2 hne⟩
        generalize (w5.setCell ⟨gf, k * 2, none⟩ (.string nm)).setCell ⟨gf, k * 2 + 1, none⟩ (.string PT) = wz at H7 ⊢
        refine hK.out _ _ H7.out.2.2 (fun hHeld => ?_)
        clear hK K hkz H6 q1 q2 fz1 fz2
        refine wpAnyH_done (by kernel_rfl) ?_ _
        go_wp2_with fail
        go_roundw
        case rel => exact ⟨k + 1, by omega, by go_num, H7.out.1, H7.out.2.1, H7.out.2.2⟩
        case measure => simp [intOf]; omega
      · obtain rfl : k = m := by omega
        have H4 : Hid (FRow wr gf (Hm.filesRd s l6 l8 st) ∧ Kept (fun _ => False) w wr) := ⟨by rw [Hm.fileRow_all _ _ (by rw [HM.out]; exact Hm.filesRd_length s l6 l8 st)] at hrow; exact hrow, hkr⟩
        clear hrow hkr htx
        go_wp2_with fail
        go_ret
        exact ⟨gf, by rw [← HM.out]; rfl, hwg, H4.out.1, H4.out.2⟩

end Go.Proofs.YtegnkfdbmmndaaaGreat
end

/- LoadMain -/
section
/- Load of any bytes. -/
namespace Go.Proofs.YtegnkfdbmmndaaaGreat
open Go.RowKit

/-- What Load hands back. -/
def LoadSays (B : Nat) (w' : World) (s : List UInt8) (e : Ending) : Prop :=
  (∃ pa l6 L l8 st, B ≤ pa ∧ Hm.Parse s l6 L l8 st ∧ ArchAt B w' pa s l6 L l8 st ∧ Hm.ckAll (Hm.filesRd s l6 l8 st) = 0 ∧ Hm.IsArch (Hm.filesRd s l6 l8 st) s ∧ e = .returned (.tuple #[.pointer (some ⟨pa, 0, none⟩), .int .i64 0])) ∨
  ((∀ l6 L l8 st, Hm.Parse s l6 L l8 st → Hm.ckAll (Hm.filesRd s l6 l8 st) = 0 → ¬ Hm.IsArch (Hm.filesRd s l6 l8 st) s) ∧ e = .returned (.tuple #[.pointer none, .int .i64 6]))

namespace Hm
theorem Parse.unique {s l6 l6' : List UInt8} {L L' : List Nat} {l8 l8' : List UInt8} {st st' : LaySt} (h : Parse s l6 L l8 st) (h' : Parse s l6' L' l8' st') : l6 = l6' ∧ L = L' ∧ l8 = l8' ∧ st = st' := by
  have e1 : l6 = l6' := Option.some.inj (h.names.symm.trans h'.names)
  subst e1
  have e2 := h.lens.symm.trans h'.lens
  injection e2 with e3 e4
  injection e4 with e4
  subst e3 e4
  exact ⟨rfl, rfl, rfl, Option.some.inj (h.tree.2.symm.trans h'.tree.2)⟩
theorem filesRd_sizes (s l6 l8 : List UInt8) (st : LaySt) : ∀ f ∈ filesRd s l6 l8 st, f.1.size ≤ 140737488355328 ∧ f.2.size ≤ 140737488355328 := by
  intro f hf
  obtain ⟨i, hi, rfl⟩ := List.mem_map.1 hf
  constructor
  · exact Nat.le_trans (namesTo_size (rdB s) (rdF s).1 i) (by omega)
  · show (part _ _ _).toArray.size ≤ _
    rw [List.size_toArray]
    unfold part
    have h1 := textRd_length s l8 st
    have h2 := rdN_lt s
    rw [List.length_take, List.length_drop]
    omega
end Hm

theorem load_any (hones : OnesSays) (hLn : LenSays) (s : List UInt8) (w : World) (hs : s.length ≤ 281474976710656) :
    Calls Tryz.prog 12 #[.string ⟨s.toArray⟩] w fun e w' => Kept (fun _ => False) w w' ∧ LoadSays w.heap.size w' s e := by
  have hrd := read_any hones hLn s w hs
  obtain ⟨S, hS⟩ : ∃ S, S = (⟨s.toArray⟩ : ByteArray) := ⟨_, rfl⟩
  rw [← hS] at hrd ⊢
  have HS : Hid (S = (⟨s.toArray⟩ : ByteArray)) := hS
  clear hS
  go_enter Tryz.func12, Tryz.ntmps12
  go_wp2_with fail
  refine hrd.mono ?_
  rintro e w1 ⟨hk1, pa, ok, hpa, rfl, hgot⟩
  rcases hgot.arch with ⟨rfl, l6, L, l8, st, hP, hA⟩ | ⟨rfl, hno⟩
  rotate_left
  · clear hrd
    have H : Hid (Kept (fun _ => False) w w1) := hk1
    have HN : Hid (∀ l6 L l8 st, ¬ Hm.Parse s l6 L l8 st) := hno
    clear hk1 hgot hno
    go_wp2_with fail
    go_ret2
    exact ⟨H.out, .inr ⟨fun l6 L l8 st h => absurd h (HN.out l6 L l8 st), rfl⟩⟩
  · have hun := unpack_any hones w.heap.size pa s l6 L l8 st w1 hP hA
    have H1 : Hid (Kept (fun _ => False) w w1 ∧ Hm.Parse s l6 L l8 st ∧ ArchAt w.heap.size w1 pa s l6 L l8 st) := ⟨hk1, hP, hA⟩
    have hfl := Hm.filesRd_length s l6 l8 st
    have hF := Hm.rdF_lt s
    have hsz := Hm.filesRd_sizes s l6 l8 st
    rw [← hfl] at hun
    have HSZ : Hid ((Hm.filesRd s l6 l8 st).length ≤ 255 ∧ ∀ f ∈ Hm.filesRd s l6 l8 st, f.1.size ≤ 140737488355328 ∧ f.2.size ≤ 140737488355328) := ⟨by omega, hsz⟩
    have HU : Hid (∀ l6' L' l8' st', Hm.Parse s l6' L' l8' st' → Hm.filesRd s l6' l8' st' = Hm.filesRd s l6 l8 st) := fun l6' L' l8' st' h => by
      obtain ⟨e1, _, e3, e4⟩ := Hm.Parse.unique h hP
      rw [e1, e3, e4]
    generalize hfs : Hm.filesRd s l6 l8 st = fs at hun HSZ HU
    have HFS : Hid (Hm.filesRd s l6 l8 st = fs) := hfs
    clear hk1 hP hA hgot hrd hfl hF hsz hfs
    go_wp2_with fail
    refine hun.mono ?_
    rintro e w2 ⟨gf, rfl, hgf, hrow, hk2⟩
    have hat : FilesAt w2 (some ⟨gf, 0, none⟩) fs := FRow.at (r := []) (by rw [List.append_nil]; exact hrow)
    have hpk := pack_any (some ⟨gf, 0, none⟩) fs.length fs w2 hat (fun a ha => by injection ha with ha; rw [← ha]; exact hrow.lt) (by have := HSZ.out.1; omega) HSZ.out.2
    have H2 : Hid (Kept (fun _ => False) w w2 ∧ Hm.Parse s l6 L l8 st ∧ ArchAt w.heap.size w2 pa s l6 L l8 st) := ⟨H1.out.1.trans hk2 (fun _ _ h => h), H1.out.2.1, H1.out.2.2.kept hk2 (fun _ _ _ => id) id⟩
    clear hat hrow hk2 H1 hun
    go_wp2_with fail
    refine hpk.mono ?_
    rintro e w3 ⟨hps, hk3⟩
    have H3 : Hid (Kept (fun _ => False) w w3 ∧ Hm.Parse s l6 L l8 st ∧ ArchAt w.heap.size w3 pa s l6 L l8 st) := ⟨H2.out.1.trans hk3 (fun _ _ h => h), H2.out.2.1, H2.out.2.2.kept hk3 (fun _ _ _ => id) id⟩
    clear hpk H2 hk3
    rcases hps with ⟨hck, rfl⟩ | ⟨hck, s', hIs, rfl⟩
    · have HC : Hid (Hm.ckAll fs ≠ 0) := hck
      have hne := hck
      clear hck
      generalize Hm.ckAll fs = c at hne ⊢
      have hd : (c == 0) = false := by simpa using hne
      have hd2 : (c != 0) = true := by simpa using hne
      clear hne
      go_wp2_with fail
      go_ret2
      exact ⟨H3.out.1, .inr ⟨fun l6' L' l8' st' h h0 => by rw [HU.out _ _ _ _ h] at h0; exact absurd h0 HC.out, rfl⟩⟩
    · obtain ⟨S', hS'⟩ : ∃ x, x = (⟨s'.toArray⟩ : ByteArray) := ⟨_, rfl⟩
      rw [← hS']
      have HI : Hid (Hm.ckAll fs = 0 ∧ Hm.IsArch fs s' ∧ S' = (⟨s'.toArray⟩ : ByteArray)) := ⟨hck, hIs, hS'⟩
      by_cases hse : s' = s
      · have hSS : S' = S := by rw [hS', HS.out, hse]
        rw [hSS]
        have HSE : Hid (s' = s) := hse
        clear hck hIs hS' hse hSS
        go_wp2_with fail
        go_ret2
        refine ⟨H3.out.1, .inl ⟨pa, l6, L, l8, st, hpa, H3.out.2.1, H3.out.2.2, by rw [HFS.out]; exact HI.out.1, ?_, rfl⟩⟩
        have := HI.out.2.1
        rw [HSE.out] at this
        rw [HFS.out]; exact this
      · have hSS : (S'.toList == S.toList) = false := by
          rw [hS', HS.out, ByteArray.toList_eq, ByteArray.toList_eq, beq_eq_false_iff_ne]
          exact hse
        have HSE : Hid (¬ s' = s) := hse
        clear hck hIs hS' hse
        go_wp2_with fail
        go_ret2
        refine ⟨H3.out.1, .inr ⟨fun l6' L' l8' st' h h0 h1 => ?_, rfl⟩⟩
        rw [HU.out _ _ _ _ h] at h1
        exact HSE.out (Hm.IsArch.unique (Hm.ckAll_ok HI.out.1).2.2 HI.out.2.1 h1)

end Go.Proofs.YtegnkfdbmmndaaaGreat
end

/- StoreA -/
section
/- The archive that the laws store. -/
namespace Go.Proofs.YtegnkfdbmmndaaaGreat
open Go.RowKit

theorem ownsRow_files {w : World} {base : Nat} {v : Value} {fs : List Hm.Fl} (h : w.ownsRow base 38 2 v fs.length (Hm.fcells fs)) : ∃ ao c, v = .slice ao fs.length c ∧ FilesAt w ao fs ∧ ∀ a, ao = some a → a.block < w.heap.size := by
  rcases h.2 with ⟨rfl, h0⟩ | ⟨g, cap, cur, rfl, _, hb, _⟩
  · exact ⟨none, 0, by rw [h0], fun i hi => by omega, by simp⟩
  · have hlt : g < w.heap.size := (h.lt g rfl).2
    refine ⟨_, cap, rfl, fun i hi => ⟨g, 0, rfl, hlt, ?_, ?_⟩, fun a ha => by cases ha; exact hlt⟩
    · rw [Nat.zero_add, h.cellAt _ (by omega)]; exact Hm.fcells_fst fs i hi
    · rw [Nat.zero_add, h.cellAt _ (by omega)]; exact Hm.fcells_snd fs i hi

/-- Files are stored: an archive of them, and what was loaded of it. -/
structure StoredAt (w w' : World) (fs : List Hm.Fl) (s : List UInt8) (B pa : Nat) (l6 : List UInt8) (L : List Nat) (l8 : List UInt8) (st : Hm.LaySt) : Prop where
  is : Hm.IsArch fs s
  ge : w.heap.size ≤ B
  le : B ≤ pa
  parse : Hm.Parse s l6 L l8 st
  files : Hm.filesRd s l6 l8 st = fs
  arch : ArchAt B w' pa s l6 L l8 st

theorem stored_any (hones : OnesSays) (hLn : LenSays) (ao : Option Addr) (c : Nat) (fs : List Hm.Fl) (w : World) (hf : FilesAt w ao fs) (hfb : ∀ a, ao = some a → a.block < w.heap.size) (hck : Hm.ckAll fs = 0) :
    Calls Tryz.prog 18 #[.slice ao fs.length c] w fun e w' => Kept (fun _ => False) w w' ∧ ∃ s B pa l6 L l8 st, StoredAt w w' fs s B pa l6 L l8 st ∧ e = .returned (.tuple #[.pointer (some ⟨pa, 0, none⟩), .string ⟨s.toArray⟩]) := by
  obtain ⟨hm, h32, hn⟩ := Hm.ckAll_ok hck
  have hpk := pack_any ao c fs w hf hfb (by omega) (fun f hf => ⟨by have := (h32 f hf).1; omega, by have := (h32 f hf).2; omega⟩)
  have HCK : Hid (Hm.ckAll fs = 0) := hck
  clear h32 hf hfb hck hn
  go_enter Tryz.func18, Tryz.ntmps18
  go_wp2_with fail
  refine hpk.mono ?_
  rintro e w1 ⟨hps, hk1⟩
  rcases hps with ⟨hne, _⟩ | ⟨_, s, hIs, rfl⟩
  · exact absurd HCK.out hne
  have hln := Hm.arch_length HCK.out hIs
  have hld := load_any hones hLn s w1 (by omega)
  obtain ⟨S, hS⟩ : ∃ S, S = (⟨s.toArray⟩ : ByteArray) := ⟨_, rfl⟩
  rw [← hS] at hld ⊢
  have H1 : Hid (Kept (fun _ => False) w w1 ∧ Hm.IsArch fs s ∧ S = (⟨s.toArray⟩ : ByteArray)) := ⟨hk1, hIs, hS⟩
  clear hpk hk1 hIs hS hln
  go_wp2_with fail
  refine hld.mono ?_
  rintro e w2 ⟨hk2, hsay⟩
  obtain ⟨l6', L', l8', st', hP', hfs'⟩ := Hm.arch_back HCK.out H1.out.2.1
  rcases hsay with ⟨pa, l6, L, l8, st, hpa, hP, hA, hck', hI', rfl⟩ | ⟨hno, _⟩
  · have H2 : Hid (Kept (fun _ => False) w w2 ∧ StoredAt w w2 fs s w1.heap.size pa l6 L l8 st) := by
      refine ⟨H1.out.1.trans hk2 (fun _ _ h => h), H1.out.2.1, H1.out.1.size, hpa, hP, ?_, hA⟩
      obtain ⟨rfl, _, rfl, rfl⟩ := Hm.Parse.unique hP' hP
      exact hfs'
    clear hld hk2 hP' hfs' hP hA hck' hI' hpa
    go_wp2_with fail
    go_ret2
    refine ⟨H2.out.1, s, w1.heap.size, pa, l6, L, l8, st, H2.out.2, ?_⟩
    rw [H1.out.2.2]; rfl
  · exact absurd (by rw [hfs']; exact H1.out.2.1) (hno l6' L' l8' st' hP' (by rw [hfs']; exact HCK.out))

end Go.Proofs.YtegnkfdbmmndaaaGreat
end

/- AloneA -/
section
/- What is loaded is the archive of what comes out. -/
namespace Go.Proofs.YtegnkfdbmmndaaaGreat
open Go.RowKit

set_option maxRecDepth 20000 in
set_option maxHeartbeats 1000000 in
theorem alone_any (s : List UInt8) (ao : Option Addr) (c : Nat) (raw : List ByteArray) (w : World) (h : StrsAt w ao raw) (hl : raw.length ≤ 140737488355328) (hsz : ∀ x ∈ raw, x.size ≤ 140737488355328) (hs : s.length ≤ 140737488355328) :
    Calls Tryz.prog 5 #[.string ⟨s.toArray⟩, .slice ao raw.length c] w fun e w' => e = .returned (.bool true) ∧ Kept (fun _ => False) w w' := by
  have hfl := filesK_any ao c raw w h hl hsz
  have HL : Hid (∀ W, Calls Tryz.prog 12 #[.string ⟨s.toArray⟩] W fun e w' => Kept (fun _ => False) W w' ∧ LoadSays W.heap.size w' s e) := fun W => load_any ones_says len_says s W (by omega)
  obtain ⟨S, hS⟩ : ∃ S, S = (⟨s.toArray⟩ : ByteArray) := ⟨_, rfl⟩
  rw [← hS] at HL ⊢
  have HS : Hid (S = (⟨s.toArray⟩ : ByteArray)) := hS
  obtain ⟨fs, hfs⟩ : ∃ fs, fs = (Hm.keepTo raw (min raw.length 40)).1 := ⟨_, rfl⟩
  have hfn : fs.length = min raw.length 40 := by rw [hfs, Hm.keepTo_length]
  have hck : Hm.ckAll fs = 0 := by rw [hfs]; exact Hm.keepTo_ok raw _ (by omega)
  rw [← hfs, ← hfn] at hfl
  have HC : Hid (Hm.ckAll fs = 0) := hck
  clear h hsz hs hS hfs hfn hck
  go_enter Tryz.func5, Tryz.ntmps5
  go_wp2_with fail
  refine hfl.mono ?_
  rintro e w1 ⟨v, rfl, hown, hk1⟩
  obtain ⟨ao1, c1, rfl, hat, hbl⟩ := ownsRow_files hown
  have hst := stored_any ones_says len_says ao1 c1 fs w1 hat hbl HC.out
  have H1 : Hid (Kept (fun _ => False) w w1) := hk1
  clear hown hat hbl hk1 hfl
  go_wp2_with fail
  refine hst.mono ?_
  rintro e w2 ⟨hk2, t, B, pa, l6, L, l8, st, hS2, rfl⟩
  have hln := Hm.arch_length HC.out hS2.is
  obtain ⟨T, hT⟩ : ∃ T, T = (⟨t.toArray⟩ : ByteArray) := ⟨_, rfl⟩
  have hTs : T.size = t.length := by rw [hT]; show t.toArray.size = _; rw [List.size_toArray]
  have hTE : T.toList.isEmpty = false := by rw [isEmpty_toList]; exact decide_eq_false (by omega)
  rw [← hT]
  have hld := HL.out w2
  have H2 : Hid (Kept (fun _ => False) w w2) := H1.out.trans hk2 (fun _ _ h => h)
  clear hst hk2 hS2 hln hT H1 HL
  go_wp2_with fail
  refine hld.mono ?_
  rintro e w3 ⟨hk3, hsay⟩
  have H3 : Hid (Kept (fun _ => False) w w3) := H2.out.trans hk3 (fun _ _ h => h)
  rcases hsay with ⟨pb, m6, M, m8, mt, hpb, hP, hA, hck', hI', rfl⟩ | ⟨hno, rfl⟩
  · have hun := unpack_any ones_says w2.heap.size pb s m6 M m8 mt w3 hP hA
    have hfl := Hm.filesRd_length s m6 m8 mt
    have hF := Hm.rdF_lt s
    have hsz := Hm.filesRd_sizes s m6 m8 mt
    rw [← hfl] at hun
    have HSZ : Hid ((Hm.filesRd s m6 m8 mt).length ≤ 255 ∧ ∀ f ∈ Hm.filesRd s m6 m8 mt, f.1.size ≤ 140737488355328 ∧ f.2.size ≤ 140737488355328) := ⟨by omega, hsz⟩
    have HI : Hid (Hm.ckAll (Hm.filesRd s m6 m8 mt) = 0 ∧ Hm.IsArch (Hm.filesRd s m6 m8 mt) s) := ⟨hck', hI'⟩
    clear hfl hF hsz hck' hI' hP hA hpb hk3 H2 hld
    generalize Hm.filesRd s m6 m8 mt = fu at hun HSZ HI
    go_wp2_with fail
    refine hun.mono ?_
    rintro e w4 ⟨gf, rfl, hgf, hrow, hk4⟩
    have hat : FilesAt w4 (some ⟨gf, 0, none⟩) fu := FRow.at (r := []) (by rw [List.append_nil]; exact hrow)
    have hpk := pack_any (some ⟨gf, 0, none⟩) fu.length fu w4 hat (fun a ha => by injection ha with ha; rw [← ha]; exact hrow.lt) (by have := HSZ.out.1; omega) HSZ.out.2
    have H4 : Hid (Kept (fun _ => False) w w4) := H3.out.trans hk4 (fun _ _ h => h)
    clear hat hrow hk4 H3 hun hgf
    go_wp2_with fail
    refine hpk.mono ?_
    rintro e w5 ⟨hps, hk5⟩
    rcases hps with ⟨hne, _⟩ | ⟨_, s', hIs, rfl⟩
    · exact absurd HI.out.1 hne
    have hse : s' = s := Hm.IsArch.unique (Hm.ckAll_ok HI.out.1).2.2 hIs HI.out.2
    have hSS : (⟨s'.toArray⟩ : ByteArray) = S := by rw [HS.out, hse]
    rw [hSS]
    have H5 : Hid (Kept (fun _ => False) w w5) := H4.out.trans hk5 (fun _ _ h => h)
    clear hIs hse hSS hk5 H4 hpk
    go_wp2_with fail
    go_ret
    exact ⟨by simp, H5.out⟩
  · clear hno hk3 H2 hld
    go_wp2_with fail
    go_ret
    exact ⟨rfl, H3.out⟩

end Go.Proofs.YtegnkfdbmmndaaaGreat
end

/- OpenF -/
section
/- A list of files that came in: what lies there, and how great it is. -/
namespace Go.Proofs.YtegnkfdbmmndaaaGreat
open Go.ChangeShapes Go.WideShapes Go.ChangeAt Go.RowKit Go.Deep

theorem weightsAll_mem {H : Type} {P : Program} {e : TypeId} : ∀ {l : List (DataW H)} {d : DataW H}, d ∈ l → ∀ n ∈ d.weights P e, n ∈ DataW.weightsAll P e l
  | x :: r, d, h, n, hn => by
    simp only [DataW.weightsAll, List.mem_append]
    rcases List.mem_cons.1 h with rfl | h
    · exact .inl hn
    · exact .inr (weightsAll_mem h n hn)

/-- The text that a value is. -/
def strIn : Value → ByteArray
  | .string s => s
  | _ => ⟨#[]⟩

set_option maxRecDepth 100000 in
theorem open_files {H : Type} {enc : TypeId × Value → H} {W : World} {base : Nat} {v : Value} {d : DataW H} {ps : List MemPlace} (hv : Value.okWide Tryz.prog W .any base 22 v)
    (h : DataW.Trod enc Tryz.prog W 0 (fun _ => true) true 22 v d ps) :
    v = .slice none 0 0 ∨ ∃ (a : Addr) (c : Nat) (fs : List Hm.Fl), v = .slice (some a) fs.length c ∧ FilesAt W (some a) fs ∧
      ((∀ n ∈ d.weights Tryz.prog 22, n ≤ reachBytes) → fs.length ≤ 4398046511103 ∧ ∀ f ∈ fs, f.1.size ≤ 140737488355328 ∧ f.2.size ≤ 140737488355328) := by
  obtain ⟨a0, l0, c0, rfl⟩ := okWide_slice Tryz.underlying22 hv
  obtain ⟨fuel, hf⟩ := h
  rcases open_slice_pairs Tryz.underlying22 Tryz.underlying38 (by kernel_rfl) rfl rfl (by kernel_rfl) (by kernel_rfl) hf with ⟨hcs, _⟩ | ⟨a, len, cap, m, n, V0, V1, D0, D1, P0, P1, hcs, _, hl, _, hmm, hx, hc⟩
  · left
    simpa [Value.cells] using hcs
  · right
    have hm : len ≤ m := by rw [hmm]; simp; exact hl
    have hstr : ∀ i, i < len → ∃ s t : ByteArray, V0 i = .string s ∧ V1 i = .string t ∧ D0 i = .lit (.string s.data.toList) ∧ D1 i = .lit (.string t.data.toList) := fun i hi => by
      obtain ⟨_, _, t0, t1⟩ := hc i (by omega)
      obtain ⟨s, e1, e2, _⟩ := DataW.trod_string Tryz.underlying9 t0
      obtain ⟨t, g1, g2, _⟩ := DataW.trod_string Tryz.underlying9 t1
      exact ⟨s, t, by simpa using e1, by simpa using g1, (Prod.mk.inj e2).1, (Prod.mk.inj g2).1⟩
    obtain ⟨fs, hfs⟩ : ∃ fs : List Hm.Fl, fs = (List.range len).map fun i => (strIn (V0 i), strIn (V1 i)) := ⟨_, rfl⟩
    have hlen : fs.length = len := by rw [hfs]; simp
    have hget : ∀ i, (hi : i < fs.length) → V0 i = .string fs[i].1 ∧ V1 i = .string fs[i].2 := fun i hi => by
      obtain ⟨s, t, e1, e2, _⟩ := hstr i (by omega)
      have : fs[i] = (s, t) := by simp [hfs, strIn, e1, e2]
      rw [this, e1, e2]; exact ⟨rfl, rfl⟩
    refine ⟨a, cap, fs, by rw [hlen]; simpa [Value.cells] using hcs, fun i hi => ?_, fun hw => ?_⟩
    · obtain ⟨k0, k1, _⟩ := hc i (by omega)
      obtain ⟨b, off, spot⟩ := a
      have hspot : spot = none := by
        obtain ⟨z0, _⟩ := hc 0 (by omega)
        simpa [Addr.add] using World.cell?_spot z0
      subst hspot
      rw [add_plain] at k0 k1
      obtain ⟨e1, e2⟩ := hget i hi
      refine ⟨b, off, rfl, World.block_lt_of_cell? _ _ k0, by rw [k0, e1], ?_⟩
      rw [Nat.add_assoc, k1, e2]
    · obtain ⟨hd, _⟩ := Prod.mk.inj hx
      subst hd
      rw [DataW.weights, Tryz.underlying22] at hw
      have hb : Tryz.prog.bytesOf 38 = 32 := by kernel_rfl
      have h1 := hw _ (List.mem_cons_self ..)
      rw [hb] at h1
      unfold reachBytes at h1 hw
      simp only [List.length_map, List.length_range] at h1
      refine ⟨by omega, fun f hfm => ?_⟩
      obtain ⟨i, hi, rfl⟩ := List.getElem_of_mem hfm
      obtain ⟨s, t, e1, e2, e3, e4⟩ := hstr i (by omega)
      obtain ⟨g1, g2⟩ := hget i hi
      have hs : s = fs[i].1 := by rw [e1] at g1; cases g1; rfl
      have ht : t = fs[i].2 := by rw [e2] at g2; cases g2; rfl
      have hin : (DataW.agg [D0 i, D1 i]) ∈ (List.range len).map fun i => DataW.agg [D0 i, D1 i] := List.mem_map.2 ⟨i, List.mem_range.2 (by omega), rfl⟩
      have hsw := hw s.size (List.mem_cons_of_mem _ (List.mem_append_left _ (weightsAll_mem hin _ (by rw [DataW.weights, Tryz.underlying38]; simp [DataW.weightsEach, e3, e4, DataW.weights]))))
      have htw := hw t.size (List.mem_cons_of_mem _ (List.mem_append_left _ (weightsAll_mem hin _ (by rw [DataW.weights, Tryz.underlying38]; simp [DataW.weightsEach, e3, e4, DataW.weights]))))
      rw [← hs, ← ht]
      omega

end Go.Proofs.YtegnkfdbmmndaaaGreat
end

/- OpenS -/
section
/- Texts that came in: what lies there, and how great they are. -/
namespace Go.Proofs.YtegnkfdbmmndaaaGreat
open Go.ChangeShapes Go.WideShapes Go.ChangeAt Go.RowKit Go.Deep

set_option maxRecDepth 100000 in
theorem open_raw {H : Type} {enc : TypeId × Value → H} {W : World} {base : Nat} {v : Value} {d : DataW H} {ps : List MemPlace} (hv : Value.okWide Tryz.prog W .any base 26 v)
    (h : DataW.Trod enc Tryz.prog W 0 (fun _ => true) true 26 v d ps) :
    ∃ (ao : Option Addr) (c : Nat) (raw : List ByteArray), v = .slice ao raw.length c ∧ StrsAt W ao raw ∧
      ((∀ n ∈ d.weights Tryz.prog 26, n ≤ reachBytes) → raw.length ≤ 140737488355328 ∧ ∀ x ∈ raw, x.size ≤ 140737488355328) := by
  obtain ⟨a0, l0, c0, rfl⟩ := okWide_slice Tryz.underlying26 hv
  obtain ⟨fuel, hf⟩ := h
  rcases open_strings Tryz.underlying26 Tryz.underlying9 (by kernel_rfl) hf with ⟨hcs, _⟩ | ⟨a, len, cap, ss, hcs, _, hl, _, hz, hx, hc, _⟩
  · refine ⟨none, 0, [], by simpa [Value.cells] using hcs, fun i hi => by simp at hi, fun _ => ⟨Nat.zero_le _, fun x hx => by cases hx⟩⟩
  · have hz' : ss.length = cap := by simpa using hz
    have hlen : (ss.take len).length = len := by rw [List.length_take]; omega
    refine ⟨some a, cap, ss.take len, by rw [hlen]; simpa [Value.cells] using hcs, fun i hi => ?_, fun hw => ?_⟩
    · have hi' : i < ss.length := by omega
      have k0 := hc i hi'
      obtain ⟨b, off, spot⟩ := a
      have hspot : spot = none := by
        have z0 := hc 0 (by omega)
        simpa [Addr.add] using World.cell?_spot z0
      subst hspot
      rw [add_plain] at k0
      refine ⟨b, off, rfl, World.block_lt_of_cell? _ _ k0, ?_⟩
      rw [k0, List.getElem_take, List.getD_eq_getElem?_getD, List.getElem?_eq_getElem hi']
      rfl
    · obtain ⟨hd, _⟩ := Prod.mk.inj hx
      subst hd
      rw [DataW.weights, Tryz.underlying26] at hw
      have hb : Tryz.prog.bytesOf 9 = 16 := by kernel_rfl
      have h1 := hw _ (List.mem_cons_self ..)
      rw [hb] at h1
      unfold reachBytes at h1 hw
      simp only [strs, List.length_map, List.length_take, List.length_drop] at h1
      refine ⟨by omega, fun x hxm => ?_⟩
      have hin : (DataW.lit (.string x.data.toList) : DataW H) ∈ strs (ss.take len) := List.mem_map.2 ⟨x, hxm, rfl⟩
      have hsw := hw x.size (List.mem_cons_of_mem _ (List.mem_append_left _ (weightsAll_mem hin _ (by simp [DataW.weights]))))
      omega

set_option maxRecDepth 100000 in
theorem open_text {H : Type} {enc : TypeId × Value → H} {W : World} {base : Nat} {v : Value} {d : DataW H} {ps : List MemPlace} (hv : Value.okWide Tryz.prog W .any base 9 v)
    (h : DataW.Trod enc Tryz.prog W 0 (fun _ => true) true 9 v d ps) :
    ∃ s : List UInt8, v = .string ⟨s.toArray⟩ ∧ ((∀ n ∈ d.weights Tryz.prog 9, n ≤ reachBytes) → s.length ≤ 140737488355328) := by
  obtain ⟨s, rfl, rfl, _, _⟩ := Go.ChangeMaps.open_string Tryz.underlying9 hv h
  refine ⟨s.data.toList, by simp, fun hw => ?_⟩
  have := hw s.size (by simp [DataW.weights])
  unfold reachBytes at this
  have e : s.data.toList.length = s.size := by simp
  omega

end Go.Proofs.YtegnkfdbmmndaaaGreat
end
