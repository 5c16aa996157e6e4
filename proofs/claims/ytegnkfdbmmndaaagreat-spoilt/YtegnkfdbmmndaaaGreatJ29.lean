import Derived.Test.YtegnkfdbmmndaaaGreatJ25
import Derived.Test.YtegnkfdbmmndaaaGreatJ27
import Derived.Test.YtegnkfdbmmndaaaGreatJ28
import Derived.Test.YtegnkfdbmmndaaaGreatJ04
import Derived.Test.YtegnkfdbmmndaaaGreatJ23
import Derived.Test.YtegnkfdbmmndaaaGreatJ05
import Derived.Lib.ConvBytes

/- UnpC -/
section
/- An archive is unpacked: the walk. -/
namespace Go.Proofs.YtegnkfdbmmndaaaGreat
open Go.RowKit

namespace Hm
def fileRow (fs : List Fl) (m k : Nat) : List Fl := fs.take k ++ List.replicate (m - k) (⟨#[]⟩, ⟨#[]⟩)
theorem cover_le {f : Nat → Bool} {len m low n : Nat} (h : Cover f len m low n) (i : Nat) (hi : i < m) : endAt f m low i ≤ n := by
  have key : ∀ d j, j + d = m → fromAt f m low j ≤ n := by
    intro d
    induction d with
    | zero => intro j e; rw [show j = m by omega, h.all]; exact Nat.le_refl _
    | succ d ih =>
      intro j e
      have h1 := ih (j + 1) (by omega)
      have h2 := h.asc j (by omega)
      have h3 : fromAt f m low (j + 1) = endAt f m low j := rfl
      omega
  have h1 := key (m - (i + 1)) (i + 1) (by omega)
  exact h1
theorem namesTo_size (st : Rd) : ∀ m k, ((namesTo m st).1.getD k ⟨#[]⟩).size ≤ 255
  | 0, k => by show (([] : List ByteArray).getD k ⟨#[]⟩).size ≤ 255; rw [List.getD_nil]; exact Nat.zero_le _
  | m + 1, k => by
    have ih := namesTo_size st m k
    show (((namesTo m st).1 ++ [_]).getD k ⟨#[]⟩).size ≤ 255
    rw [List.getD_eq_getElem?_getD] at ih ⊢
    by_cases h : k < (namesTo m st).1.length
    · rw [List.getElem?_append_left h]; exact ih
    · rw [List.getElem?_append_right (by omega)]
      by_cases h2 : k - (namesTo m st).1.length = 0
      · rw [h2]
        have hx : (numO (namesTo m st).2 1).1 < 256 := by have := numO_lt (namesTo m st).2 1; simpa using this
        have hl := takeO_length (numO (namesTo m st).2 1).2 (numO (namesTo m st).2 1).1
        show (takeO _ _).1.toArray.size ≤ 255
        rw [List.size_toArray]; omega
      · rw [List.getElem?_eq_none (by simp; omega)]; exact Nat.zero_le _
theorem fileRow_length (fs : List Fl) (m k : Nat) (hf : fs.length = m) (hk : k ≤ m) : (fileRow fs m k).length = m := by
  unfold fileRow; rw [List.length_append, List.length_take, List.length_replicate]; omega
theorem fileRow_succ (fs : List Fl) (m k : Nat) (hf : fs.length = m) (hk : k < m) (x : Fl) (hx : fs[k]? = some x) : (fileRow fs m k).set k x = fileRow fs m (k + 1) := by
  have e : List.replicate (m - k) ((⟨#[]⟩, ⟨#[]⟩) : Fl) = (⟨#[]⟩, ⟨#[]⟩) :: List.replicate (m - (k + 1)) (⟨#[]⟩, ⟨#[]⟩) := by rw [show m - k = (m - (k + 1)) + 1 from by omega, List.replicate_succ]
  unfold fileRow
  rw [e, List.set_append_right _ _ (by rw [List.length_take]; omega), List.length_take, Nat.min_eq_left (by omega), Nat.sub_self, List.set_cons_zero, List.take_add_one, hx, List.append_assoc]
  rfl
theorem fileRow_all (fs : List Fl) (m : Nat) (hf : fs.length = m) : fileRow fs m m = fs := by
  unfold fileRow; rw [Nat.sub_self, List.take_of_length_le (by omega)]; simp
end Hm

theorem fileRd_any (hones : OnesSays) (pa ge k : Nat) (s l6 : List UInt8) (W : World) (h : EndsAt W pa 1 ⟨(l6.take (Hm.szB (Hm.endsLen (Hm.rdF s).1 (Hm.rdN s).1))).toArray⟩ (Hm.endsLen (Hm.rdF s).1 (Hm.rdN s).1) ge (Hm.rdF s).1 (Hm.lowR (Hm.rdF s).1 (Hm.rdN s).1)) (ho : Hm.EndsOk l6 (Hm.rdF s).1 (Hm.rdN s).1) (hk : k < (Hm.rdF s).1) :
    Calls Tryz.prog 36 #[.pointer (some ⟨pa, 1, none⟩), .int .i64 (k : Nat)] W fun e w' => e = .returned (.tuple #[.int .i64 (Hm.fromRd s l6 k : Nat), .int .i64 (Hm.endRd s l6 k : Nat)]) ∧ Kept (fun _ => False) W w' := by
  have hF := Hm.rdF_lt s
  have hN := Hm.rdN_lt s
  have hel := ho.fits
  have hco := ho.cover.ones
  have hes : (⟨(l6.take (Hm.szB (Hm.endsLen (Hm.rdF s).1 (Hm.rdN s).1))).toArray⟩ : ByteArray).size = Hm.szB (Hm.endsLen (Hm.rdF s).1 (Hm.rdN s).1) := by
    show (l6.take _).toArray.size = _
    rw [List.size_toArray, List.length_take]; omega
  have hle := Hm.endsLen_le _ _ hF hN
  have hlo := Hm.lowR_le (Hm.rdF s).1 (Hm.rdN s).1 hN
  have hml : (Hm.rdF s).1 * Hm.lowR (Hm.rdF s).1 (Hm.rdN s).1 ≤ Hm.endsLen (Hm.rdF s).1 (Hm.rdN s).1 := Nat.le_add_right _ _
  have e1 : Hm.fromRd s l6 k = Hm.fromAt (Hm.bitB (l6.take (Hm.szB (Hm.endsLen (Hm.rdF s).1 (Hm.rdN s).1)))) (Hm.rdF s).1 (Hm.lowR (Hm.rdF s).1 (Hm.rdN s).1) k := rfl
  have e2 : Hm.endRd s l6 k = Hm.endAt (Hm.bitB (l6.take (Hm.szB (Hm.endsLen (Hm.rdF s).1 (Hm.rdN s).1)))) (Hm.rdF s).1 (Hm.lowR (Hm.rdF s).1 (Hm.rdN s).1) k := rfl
  have e3 : l6.take (Hm.szB (Hm.endsLen (Hm.rdF s).1 (Hm.rdN s).1)) = (⟨(l6.take (Hm.szB (Hm.endsLen (Hm.rdF s).1 (Hm.rdN s).1))).toArray⟩ : ByteArray).data.toList := rfl
  rw [e1, e2]
  generalize Hm.lowR (Hm.rdF s).1 (Hm.rdN s).1 = lo at *
  generalize Hm.endsLen (Hm.rdF s).1 (Hm.rdN s).1 = el at *
  rw [e3] at hco ⊢
  generalize (⟨(l6.take (Hm.szB el)).toArray⟩ : ByteArray) = E at *
  have h8 : el ≤ 8 * E.size := by rw [hes]; unfold Hm.szB; omega
  exact file_any hones pa 1 el ge (Hm.rdF s).1 lo k E W h (by omega) (by omega) hk hml h8 hco (by rw [hes]; omega)

set_option maxRecDepth 20000 in
set_option maxHeartbeats 2000000 in
theorem unpack_any (hones : OnesSays) (B pa : Nat) (s l6 : List UInt8) (L : List Nat) (l8 : List UInt8) (st : Hm.LaySt) (w : World) (hp : Hm.Parse s l6 L l8 st) (h : ArchAt B w pa s l6 L l8 st) :
    Calls Tryz.prog 14 #[.pointer (some ⟨pa, 0, none⟩)] w fun e w' => ∃ gf, e = .returned (.slice (some ⟨gf, 0, none⟩) (Hm.rdF s).1 (Hm.rdF s).1) ∧ w.heap.size ≤ gf ∧ FRow w' gf (Hm.filesRd s l6 l8 st) ∧ Kept (fun _ => False) w w' := by
  obtain ⟨gn, ge, g, ng, nc, gs, P⟩ := h.parts hp
  obtain ⟨hcl, hct, hcw⟩ := Hm.colRd_is hp.tree
  have hN := Hm.rdN_lt s
  have hF := Hm.rdF_lt s
  have hroot := (Hm.rdM_inv hp.names).2
  have htl := Hm.treeOk_len hp.tree hN
  have hts : (⟨(l8.take (Hm.szB st.len)).toArray⟩ : ByteArray).size ≤ 1000000 := by show (l8.take _).toArray.size ≤ _; rw [List.size_toArray, List.length_take]; omega
  have HBK : Hid (∀ W, RowsPart W pa 6 ⟨(l8.take (Hm.szB st.len)).toArray⟩ st.len g ng nc st.nds (Hm.rdR s).1 st.ws → Calls Tryz.prog 33 #[.func (.func 34) #[.pointer (some ⟨pa, 6, none⟩)] #[], .int .i64 0, .int .i64 ((Hm.rdN s).1 : Nat)] W fun e w' => e = .returned (.slice (some ⟨W.heap.size, 0, none⟩) (Hm.rdN s).1 (Hm.rdN s).1) ∧
      w'.heap[W.heap.size]? = some (.cells (Hm.bcells (Hm.textRd s l8 st)).toArray 5 (0, 0)) ∧ Kept (fun _ => False) W w') := fun W hW =>
    back_any hones pa 6 st.len g ng nc (Hm.rdR s).1 0 (Hm.rdN s).1 _ st.nds st.ws (Hm.colRd l8 (Hm.rdN s).1 st) W hW hct hcw (by omega) (Nat.zero_le _) hts (by omega) (by omega)
  have HP : Hid (ArchParts w pa s l6 L l8 st gn ge g ng nc gs) := P
  have hpw : pa < w.heap.size := World.block_lt_of_cell? _ _ P.total
  have hgw : gn < w.heap.size := lt_of_block P.nblock
  obtain ⟨n, hn⟩ : ∃ n, n = (Hm.rdN s).1 := ⟨_, rfl⟩
  rw [← hn] at HBK hN
  have htot := fun W (hW : W.cell? ⟨pa, 778, none⟩ = some (.int .i64 (n : Nat))) => total_any pa 6 n W hW
  have HT : Hid _ := htot
  have HPT : Hid (w.cell? ⟨pa, 778, none⟩ = some (.int .i64 (n : Nat)) ∧ RowsPart w pa 6 ⟨(l8.take (Hm.szB st.len)).toArray⟩ st.len g ng nc st.nds (Hm.rdR s).1 st.ws) := ⟨by rw [hn]; exact P.total, P.rows⟩
  have HN : Hid (n = (Hm.rdN s).1) := hn
  have HFI : Hid (∀ k W, k < (Hm.rdF s).1 → Kept (fun _ => False) w W → Calls Tryz.prog 36 #[.pointer (some ⟨pa, 1, none⟩), .int .i64 (k : Nat)] W fun e w' => e = .returned (.tuple #[.int .i64 (Hm.fromRd s l6 k : Nat), .int .i64 (Hm.endRd s l6 k : Nat)]) ∧ Kept (fun _ => False) W w') := fun k W hk hW => fileRd_any hones pa ge k s l6 W (P.ends.kept hW id id) hp.ends hk
  have HFT : Hid (∀ k, k < (Hm.rdF s).1 → Hm.fromRd s l6 k ≤ Hm.endRd s l6 k ∧ Hm.endRd s l6 k ≤ n) := fun k hk => ⟨hp.ends.cover.asc k hk, by rw [hn]; exact Hm.cover_le hp.ends.cover k hk⟩
  have HNS : Hid (∀ k nm, nm = (Hm.rdM s).1.getD k ⟨#[]⟩ → k < (Hm.rdF s).1 → nm.size ≤ 281474976710656) := fun k nm h1 h2 => by
    rw [h1]
    have := Hm.namesTo_size (Hm.rdB s) (Hm.rdF s).1 k
    exact Nat.le_trans this (by omega)
  clear P h hcl hct hcw htl hts htot hn hroot
  go_enter Tryz.func14, Tryz.ntmps14
  go_wp2_with fail
  go_cut [3] from 11 (fun v3 wz => ∃ gt : Nat, v3 = .slice (some ⟨gt, 0, none⟩) n n ∧ w.heap.size ≤ gt ∧ Hid (wz.heap[gt]? = some (.cells (Hm.bcells (Hm.textRd s l8 st)).toArray 5 (0, 0)) ∧ Kept (fun _ => False) w wz))
  case first =>
    go_region_held (fun X => Hid (Kept (fun _ => False) w X)) (first | exact k2 | exact k1 | exact (Kept.refl (fun _ => False) w).drew)
      (first
        | (go_at_call 35; (refine (HT.out _ ?_).mono ?_; (exact ((Kept.refl (fun _ => False) w).drew.cell hpw id).trans HPT.out.1); rintro e w1 ⟨rfl, hq1⟩; have k1 : Hid (Kept (fun _ => False) w w1) := (by rw [hq1]; exact (Kept.refl (fun _ => False) w).drew); clear hq1))
        | (go_at_call 33; (refine (HBK.out _ (HPT.out.2.kept k1.out id id id)).mono ?_; rintro e w2 ⟨rfl, hg2, hq2⟩; have k2 : Hid (Kept (fun _ => False) w w2) := k1.out.trans hq2 (fun _ _ h => h); clear hq2)))
    all_goals (go_wp2_with fail; go_meet; case rel => exact ⟨_, rfl, k1.out.size, hg2, k2.out⟩)
  case rest =>
    obtain ⟨gt, rfl, hgt, HG⟩ := hcut
    have c0 : wc.cell? ⟨pa, 0, none⟩ = some (.slice (some ⟨gn, 0, none⟩) (Hm.rdF s).1 (Hm.rdF s).1) := (HG.out.2.cell (p := ⟨pa, 0, none⟩) hpw id).trans HP.out.names
    obtain ⟨i0, hi, hz0, hz1, hz2⟩ := info_parts info_file
    obtain ⟨m, hm⟩ : ∃ m, m = (Hm.rdF s).1 := ⟨_, rfl⟩
    rw [← hm] at c0 hF
    have HM : Hid (m = (Hm.rdF s).1) := hm
    rw [← hm] at HFI HFT HNS
    clear hm HBK HT HPT
    have hpc : pa < wc.heap.size := by have := HG.out.2.size; omega
    have hgsz : gt < wc.heap.size := lt_of_block HG.out.1
    go_wp2_with (at_make; refine wpList_make_full _ rfl (.tmp 25) (.tmp 25) 22 rfl wc.heap.size 38 i0 (.agg #[.string ⟨#[]⟩, .string ⟨#[]⟩]) 2 Tryz.underlying22 hi hz0 hz1 .i64 .i64 _ _ m rfl rfl rfl rfl (by rw [hz2]; omega) (by unfold maxLen; omega) (Nat.le_refl _) ?_; intro w3 ho3 hg3; have hk3 : Kept (fun _ => False) wc w3 := (Kept.refl _ _).grown hg3 (fun k hk => by cases hk); have c03 : w3.cell? ⟨pa, 0, none⟩ = some (.slice (some ⟨gn, 0, none⟩) m m) := (hk3.cell (p := ⟨pa, 0, none⟩) hpc id).trans c0)
    have hr3 := FRow.made ho3
    obtain ⟨gf, hgf⟩ : ∃ x, x = wc.heap.size := ⟨_, rfl⟩
    rw [← hgf] at hr3 ⊢
    have H3 : Hid (FRow w3 gf (List.replicate m (⟨#[]⟩, ⟨#[]⟩)) ∧ Kept (fun _ => False) w w3 ∧ w3.heap[gt]? = some (.cells (Hm.bcells (Hm.textRd s l8 st)).toArray 5 (0, 0))) := ⟨hr3, HG.out.2.trans hk3 (fun _ _ h => h), hk3.row HG.out.1 id⟩
    have hwg : w.heap.size ≤ gf := by rw [hgf]; exact HG.out.2.size
    have hgg : gt < gf := by omega
    clear ho3 hg3 hk3 hr3 HG c0 hgsz hgf
    go_loopw [32] (fun vi wr => ∃ k : Nat, k ≤ m ∧ vi = .int .i64 k ∧ FRow wr gf (Hm.fileRow (Hm.filesRd s l6 l8 st) m k) ∧ Kept (fun _ => False) w wr ∧ wr.heap[gt]? = some (.cells (Hm.bcells (Hm.textRd s l8 st)).toArray 5 (0, 0))) (fun vi _ => m - (intOf vi).toNat)
    case atStart => exact ⟨0, Nat.zero_le _, rfl, by simpa [Hm.fileRow] using H3.out.1, H3.out.2.1, H3.out.2.2⟩
    case round =>
      obtain ⟨k, hk, rfl, hrow, hkr, htx⟩ := hrel
      by_cases hlt : k < m
      · obtain ⟨nm, hnm⟩ : ∃ x, x = (Hm.rdM s).1.getD k ⟨#[]⟩ := ⟨_, rfl⟩
        have hnl : (Hm.rdM s).1.length = m := by rw [HM.out]; exact Hm.namesTo_length _ _
        have cnm : wr.cell? ⟨gn, k, none⟩ = some (.string nm) := by
          rw [hkr.cell (p := ⟨gn, k, none⟩) hgw id, cell_of_row _ _ k _ _ _ HP.out.nblock, List.getElem?_toArray, hnm]
          unfold Hm.vstrs
          rw [List.getElem?_map, List.getD_eq_getElem?_getD, List.getElem?_eq_getElem (show k < (Hm.rdM s).1.length by omega)]; rfl
        have hfi := HFI.out k wr hlt hkr
        have hft := HFT.out k hlt
        have hcl := fun W => clone_any nm W (HNS.out k nm hnm hlt)
        have HFX : Hid ((Hm.filesRd s l6 l8 st)[k]? = some (nm, ⟨(Hm.part (Hm.textRd s l8 st) (Hm.fromRd s l6 k) (Hm.endRd s l6 k)).toArray⟩)) := by
          show _ = _
          unfold Hm.filesRd
          rw [List.getElem?_map, List.getElem?_range (by rw [← HM.out]; exact hlt), hnm]; rfl
        generalize Hm.fromRd s l6 k = fr at hfi hft HFX
        generalize Hm.endRd s l6 k = tz at hfi hft HFX
        have H4 : Hid (FRow wr gf (Hm.fileRow (Hm.filesRd s l6 l8 st) m k) ∧ Kept (fun _ => False) w wr ∧ wr.heap[gt]? = some (.cells (Hm.bcells (Hm.textRd s l8 st)).toArray 5 (0, 0))) := ⟨hrow, hkr, htx⟩
        have hkI : (k : Int) < (m : Int) := by omega
        clear hrow hkr htx hnm hnl
        go_wp2_with fail
        refine hfi.mono ?_
        rintro e w4 ⟨rfl, hk4⟩
        have H5 : Hid (FRow w4 gf (Hm.fileRow (Hm.filesRd s l6 l8 st) m k) ∧ Kept (fun _ => False) w w4 ∧ w4.heap[gt]? = some (.cells (Hm.bcells (Hm.textRd s l8 st)).toArray 5 (0, 0))) := ⟨H4.out.1.kept hk4 id, H4.out.2.1.trans hk4 (fun _ _ h => h), hk4.row H4.out.2.2 id⟩
        clear hfi hk4 H4
        go_wp2_with fail
        refine wp_region_held_drew (S := fun X => X.heap[gt]? = some (.cells (Hm.bcells (Hm.textRd s l8 st)).toArray 5 (0, 0))) (by kernel_rfl) H5.out.2.2 (fun hHeld => ?_)
        refine wpAnyH_take (i := 0) (oi := { dst := some 45, op := Op.move (Operand.tmp 4), type := 22, pos := "hoard.go:66", after := #[], guard := none }) (v := ?_) rfl (by kernel_rfl) (by kernel_rfl) (by kernel_rfl) (fun _ _ _ h => h) (Or.inl ⟨by kernel_rfl, ?_⟩) (by assumption) ?_
        rotate_left
        · intro X hSw
          try dsimp only at hSw
          go_simp
          with_reducible rfl
        simp only [Act.put, List.setIfInBounds_toArray, List.set_cons_zero, List.set_cons_succ]
        refine wpAnyH_take (i := 1) (oi := { dst := some 46, op := Op.move (Operand.tmp 5), type := 3, pos := "hoard.go:66", after := #[], guard := none }) (v := ?_) rfl (by kernel_rfl) (by kernel_rfl) (by kernel_rfl) (fun _ _ _ h => h) (Or.inl ⟨by kernel_rfl, ?_⟩) (by assumption) ?_
        rotate_left
        · intro X hSw
          try dsimp only at hSw
          go_simp
          with_reducible rfl
        simp only [Act.put, List.setIfInBounds_toArray, List.set_cons_zero, List.set_cons_succ]
        refine wpAnyH_take (i := 2) (oi := { dst := some 47, op := Op.move (Operand.tmp 6), type := 9, pos := "hoard.go:66", after := #[], guard := none }) (v := ?_) rfl (by kernel_rfl) (by kernel_rfl) (by kernel_rfl) (fun _ _ _ h => h) (Or.inl ⟨by kernel_rfl, ?_⟩) (by assumption) ?_
        rotate_left
        · intro X hSw
          try dsimp only at hSw
          go_simp
          with_reducible rfl
        simp only [Act.put, List.setIfInBounds_toArray, List.set_cons_zero, List.set_cons_succ]
        refine wpAnyH_take (i := 4) (oi := { dst := some 49, op := Op.move (Operand.tmp 3), type := 79, pos := "hoard.go:66", after := #[], guard := none }) (v := ?_) rfl (by kernel_rfl) (by kernel_rfl) (by kernel_rfl) (fun _ _ _ h => h) (Or.inl ⟨by kernel_rfl, ?_⟩) (by assumption) ?_
        rotate_left
        · intro X hSw
          try dsimp only at hSw
          go_simp
          with_reducible rfl
        simp only [Act.put, List.setIfInBounds_toArray, List.set_cons_zero, List.set_cons_succ]
        refine wpAnyH_take (i := 5) (oi := { dst := some 50, op := Op.move (Operand.tmp 7), type := 3, pos := "hoard.go:66", after := #[], guard := none }) (v := ?_) rfl (by kernel_rfl) (by kernel_rfl) (by kernel_rfl) (fun _ _ _ h => h) (Or.inl ⟨by kernel_rfl, ?_⟩) (by assumption) ?_
        rotate_left
        · intro X hSw
          try dsimp only at hSw
          go_simp
          with_reducible rfl
        simp only [Act.put, List.setIfInBounds_toArray, List.set_cons_zero, List.set_cons_succ]
        refine wpAnyH_take (i := 6) (oi := { dst := some 51, op := Op.move (Operand.tmp 8), type := 3, pos := "hoard.go:66", after := #[], guard := none }) (v := ?_) rfl (by kernel_rfl) (by kernel_rfl) (by kernel_rfl) (fun _ _ _ h => h) (Or.inl ⟨by kernel_rfl, ?_⟩) (by assumption) ?_
        rotate_left
        · intro X hSw
          try dsimp only at hSw
          go_simp
          with_reducible rfl
        simp only [Act.put, List.setIfInBounds_toArray, List.set_cons_zero, List.set_cons_succ]
        obtain ⟨hf1, hf2⟩ := hft
        have hfI : (fr : Int) ≤ (tz : Int) := by omega
        have htI : (tz : Int) ≤ (n : Int) := by omega
        refine wpAnyH_take (i := 7) (oi := { dst := some 52, op := Op.slice 79 (Operand.tmp 49) (some (Operand.tmp 50)) (some (Operand.tmp 51)) none, type := 79, pos := "hoard.go:66", after := #[{ on := 4, ground := Ground.data }, { on := 5, ground := Ground.data }, { on := 6, ground := Ground.data }], guard := none }) (v := .slice (if n = fr then some ⟨gt, 0, none⟩ else some ⟨gt, fr, none⟩) (tz - fr) (n - fr)) rfl (by kernel_rfl) (by kernel_rfl) (by kernel_rfl) (fun _ _ _ h => h) (Or.inl ⟨by kernel_rfl, ?_⟩) (by assumption) ?_
        · intro X hSw
          try dsimp only at hSw
          go_simp
        simp only [Act.put, List.setIfInBounds_toArray, List.set_cons_zero, List.set_cons_succ]
        obtain ⟨PT, hPT⟩ : ∃ x, x = (⟨(Hm.part (Hm.textRd s l8 st) fr tz).toArray⟩ : ByteArray) := ⟨_, rfl⟩
        have HPT : Hid (PT = (⟨(Hm.part (Hm.textRd s l8 st) fr tz).toArray⟩ : ByteArray)) := hPT
        clear hPT
        have htl : (Hm.textRd s l8 st).length = n := by rw [HN.out]; exact Hm.textRd_length s l8 st
        have HCV : Hid (∀ X : World, X.heap[gt]? = some (.cells (Hm.bcells (Hm.textRd s l8 st)).toArray 5 (0, 0)) → (convert 79 9 (.slice (if n = fr then some ⟨gt, 0, none⟩ else some ⟨gt, fr, none⟩) (tz - fr) (n - fr))).run Tryz.prog X = .ok (.string PT) X) := fun X hX => by
          rw [HPT.out]
          by_cases c : n = fr
          · rw [if_pos c, show tz - fr = 0 by omega]
            have := convert_part hX 0 0 (n - fr) (by omega)
            rw [this]; unfold Hm.part; rw [show tz - fr = 0 by omega, List.take_zero, List.take_zero]
          · rw [if_neg c]
            exact convert_part hX fr (tz - fr) (n - fr) (by omega)
        refine wpAnyH_take (i := 8) (oi := { dst := some 53, op := Op.convert 79 9 (Operand.tmp 52), type := 9, pos := "hoard.go:66", after := #[{ on := 7, ground := Ground.data }], guard := none }) (v := .string PT) rfl (by kernel_rfl) (by kernel_rfl) (by kernel_rfl) (fun _ _ _ h => h) (Or.inl ⟨by kernel_rfl, fun X hX => run_conv_op X 79 9 (.tmp 52) rfl _ _ rfl (HCV.out X hX)⟩) (by assumption) ?_
        simp only [Act.put, List.setIfInBounds_toArray, List.set_cons_zero, List.set_cons_succ]
        clear HCV
        refine wpAnyH_ready (rs := [3]) (by kernel_rfl) (by simp) ?_
        refine AllReadyH.cons rfl (fun K hK => ?_) AllReadyH.nil
        go_simp
        refine (hcl _).mono ?_
        rintro e w5 ⟨rfl, hk5⟩
        have hk45 : Kept (fun _ => False) w4 w5 := (Kept.refl (fun _ => False) w4).drew.trans hk5 (fun _ _ h => h)
        have hR := Hm.fileRow_length (Hm.filesRd s l6 l8 st) m k (by rw [HM.out]; exact Hm.filesRd_length s l6 l8 st) hk
        have HRS := Hm.fileRow_succ (Hm.filesRd s l6 l8 st) m k (by rw [HM.out]; exact Hm.filesRd_length s l6 l8 st) hlt _ HFX.out
        rw [← HPT.out] at HRS
        generalize Hm.fileRow (Hm.filesRd s l6 l8 st) m k = R at H5 hR HRS
        have HRS' : Hid (R.set k (nm, PT) = Hm.fileRow (Hm.filesRd s l6 l8 st) m (k + 1)) := HRS
        have hF5 := H5.out.1.kept hk45 id
        have q1 := hF5.fst (i := k) (by omega)
        have q2 := hF5.snd (i := k) (by omega)
        have fz1 := hF5.free (k * 2)
        have fz2 := hF5.free (k * 2 + 1)
        have H6 : Hid (FRow w5 gf R ∧ Kept (fun _ => False) w w5 ∧ w5.heap[gt]? = some (.cells (Hm.bcells (Hm.textRd s l8 st)).toArray 5 (0, 0))) := ⟨hF5, H5.out.2.1.trans hk45 (fun _ _ h => h), hk45.row H5.out.2.2 id⟩
        refine hK.out _ _ H6.out.2.2 (fun hHeld => ?_)
        clear hK K hk5 hk45 hF5 H5 HRS hcl htl HPT HFX
        refine wpAnyH_take (i := 9) (oi := { dst := some 54, op := Op.build 38 #[(0, Operand.tmp 48), (1, Operand.tmp 53)], type := 38, pos := "hoard.go:66", after := #[{ on := 3, ground := Ground.data }, { on := 8, ground := Ground.data }], guard := none }) (v := ?_) rfl (by kernel_rfl) (by kernel_rfl) (by kernel_rfl) (fun _ _ _ h => h) (Or.inl ⟨by kernel_rfl, ?_⟩) (by assumption) ?_
        rotate_left
        · intro X hSw
          try dsimp only at hSw
          go_simp
          with_reducible rfl
        simp only [Act.put, List.setIfInBounds_toArray, List.set_cons_zero, List.set_cons_succ]
        refine wpAnyH_take (i := 10) (oi := { dst := some 55, op := Op.indexAddr 22 (Operand.tmp 45) (Operand.tmp 46), type := 0, pos := "hoard.go:66", after := #[{ on := 0, ground := Ground.data }, { on := 1, ground := Ground.data }, { on := 0, ground := Ground.phase }, { on := 1, ground := Ground.phase }, { on := 2, ground := Ground.phase }, { on := 3, ground := Ground.phase }, { on := 4, ground := Ground.phase }, { on := 5, ground := Ground.phase }, { on := 6, ground := Ground.phase }, { on := 7, ground := Ground.phase }, { on := 8, ground := Ground.phase }, { on := 9, ground := Ground.phase }], guard := none }) (v := ?_) rfl (by kernel_rfl) (by kernel_rfl) (by kernel_rfl) (fun _ _ _ h => h) (Or.inl ⟨by kernel_rfl, ?_⟩) (by assumption) ?_
        rotate_left
        · intro X hSw
          try dsimp only at hSw
          go_simp
          with_reducible rfl
        simp only [Act.put, List.setIfInBounds_toArray, List.set_cons_zero, List.set_cons_succ]
        refine wpAnyH_ready (rs := [11]) (by kernel_rfl) (by simp) ?_
        refine AllReadyH.cons rfl (fun K hK => ?_) AllReadyH.nil
        go_simp
        have hne : gt ≠ gf := by omega
        have hkz : Kept (fun j => j = gf) w5 ((w5.setCell ⟨gf, k * 2, none⟩ (.string nm)).setCell ⟨gf, k * 2 + 1, none⟩ (.string PT)) := ((Kept.refl (fun j => j = gf) w5).setCell (p := ⟨gf, k * 2, none⟩) (.inr rfl) _).setCell (p := ⟨gf, k * 2 + 1, none⟩) (.inr rfl) _
        have H7 : Hid (FRow ((w5.setCell ⟨gf, k * 2, none⟩ (.string nm)).setCell ⟨gf, k * 2 + 1, none⟩ (.string PT)) gf (Hm.fileRow (Hm.filesRd s l6 l8 st) m (k + 1)) ∧ Kept (fun _ => False) w ((w5.setCell ⟨gf, k * 2, none⟩ (.string nm)).setCell ⟨gf, k * 2 + 1, none⟩ (.string PT)) ∧ ((w5.setCell ⟨gf, k * 2, none⟩ (.string nm)).setCell ⟨gf, k * 2 + 1, none⟩ (.string PT)).heap[gt]? = some (.cells (Hm.bcells (Hm.textRd s l8 st)).toArray 5 (0, 0))) :=
          ⟨by rw [← HRS'.out]; exact H6.out.1.put k nm PT (by omega), H6.out.2.1.trans hkz (fun j h1 h2 => by omega), hkz.row H6.out.2.2 hne⟩
        generalize (w5.setCell ⟨gf, k * 2, none⟩ (.string nm)).setCell ⟨gf, k * 2 + 1, none⟩ (.string PT) = wz at H7 ⊢
        refine hK.out _ _ H7.out.2.2 (fun hHeld => ?_)
        clear hK K hkz H6 q1 q2 fz1 fz2
        refine wpAnyH_done (by kernel_rfl) ?_ _
        go_wp2_with fail
        go_roundw
        case rel => exact ⟨k + 1, by omega, by go_num, H7.out.1, H7.out.2.1, H7.out.2.2⟩
        case measure => simp [intOf]; omega
      · obtain rfl : k = m := by omega
        have H4 : Hid (FRow wr gf (Hm.filesRd s l6 l8 st) ∧ Kept (fun _ => False) w wr) := ⟨by rw [Hm.fileRow_all _ _ (by rw [HM.out]; exact Hm.filesRd_length s l6 l8 st)] at hrow; exact hrow, hkr⟩
        clear hrow hkr htx
        go_wp2_with fail
        go_ret
        exact ⟨gf, by rw [← HM.out]; rfl, hwg, H4.out.1, H4.out.2⟩

end Go.Proofs.YtegnkfdbmmndaaaGreat
end

/- LoadMain -/
section
/- Load of any bytes. -/
namespace Go.Proofs.YtegnkfdbmmndaaaGreat
open Go.RowKit

/-- What Load hands back. -/
def LoadSays (B : Nat) (w' : World) (s : List UInt8) (e : Ending) : Prop :=
  (∃ pa l6 L l8 st, B ≤ pa ∧ Hm.Parse s l6 L l8 st ∧ ArchAt B w' pa s l6 L l8 st ∧ Hm.ckAll (Hm.filesRd s l6 l8 st) = 0 ∧ Hm.IsArch (Hm.filesRd s l6 l8 st) s ∧ e = .returned (.tuple #[.pointer (some ⟨pa, 0, none⟩), .int .i64 0])) ∨
  ((∀ l6 L l8 st, Hm.Parse s l6 L l8 st → Hm.ckAll (Hm.filesRd s l6 l8 st) = 0 → ¬ Hm.IsArch (Hm.filesRd s l6 l8 st) s) ∧ e = .returned (.tuple #[.pointer none, .int .i64 6]))

namespace Hm
theorem Parse.unique {s l6 l6' : List UInt8} {L L' : List Nat} {l8 l8' : List UInt8} {st st' : LaySt} (h : Parse s l6 L l8 st) (h' : Parse s l6' L' l8' st') : l6 = l6' ∧ L = L' ∧ l8 = l8' ∧ st = st' := by
  have e1 : l6 = l6' := Option.some.inj (h.names.symm.trans h'.names)
  subst e1
  have e2 := h.lens.symm.trans h'.lens
  injection e2 with e3 e4
  injection e4 with e4
  subst e3 e4
  exact ⟨rfl, rfl, rfl, Option.some.inj (h.tree.2.symm.trans h'.tree.2)⟩
theorem filesRd_sizes (s l6 l8 : List UInt8) (st : LaySt) : ∀ f ∈ filesRd s l6 l8 st, f.1.size ≤ 140737488355328 ∧ f.2.size ≤ 140737488355328 := by
  intro f hf
  obtain ⟨i, hi, rfl⟩ := List.mem_map.1 hf
  constructor
  · exact Nat.le_trans (namesTo_size (rdB s) (rdF s).1 i) (by omega)
  · show (part _ _ _).toArray.size ≤ _
    rw [List.size_toArray]
    unfold part
    have h1 := textRd_length s l8 st
    have h2 := rdN_lt s
    rw [List.length_take, List.length_drop]
    omega
end Hm

theorem load_any (hones : OnesSays) (hLn : LenSays) (s : List UInt8) (w : World) (hs : s.length ≤ 281474976710656) :
    Calls Tryz.prog 12 #[.string ⟨s.toArray⟩] w fun e w' => Kept (fun _ => False) w w' ∧ LoadSays w.heap.size w' s e := by
  have hrd := read_any hones hLn s w hs
  obtain ⟨S, hS⟩ : ∃ S, S = (⟨s.toArray⟩ : ByteArray) := ⟨_, rfl⟩
  rw [← hS] at hrd ⊢
  have HS : Hid (S = (⟨s.toArray⟩ : ByteArray)) := hS
  clear hS
  go_enter Tryz.func12, Tryz.ntmps12
  go_wp2_with fail
  refine hrd.mono ?_
  rintro e w1 ⟨hk1, pa, ok, hpa, rfl, hgot⟩
  rcases hgot.arch with ⟨rfl, l6, L, l8, st, hP, hA⟩ | ⟨rfl, hno⟩
  rotate_left
  · clear hrd
    have H : Hid (Kept (fun _ => False) w w1) := hk1
    have HN : Hid (∀ l6 L l8 st, ¬ Hm.Parse s l6 L l8 st) := hno
    clear hk1 hgot hno
    go_wp2_with fail
    go_ret2
    exact ⟨H.out, .inr ⟨fun l6 L l8 st h => absurd h (HN.out l6 L l8 st), rfl⟩⟩
  · have hun := unpack_any hones w.heap.size pa s l6 L l8 st w1 hP hA
    have H1 : Hid (Kept (fun _ => False) w w1 ∧ Hm.Parse s l6 L l8 st ∧ ArchAt w.heap.size w1 pa s l6 L l8 st) := ⟨hk1, hP, hA⟩
    have hfl := Hm.filesRd_length s l6 l8 st
    have hF := Hm.rdF_lt s
    have hsz := Hm.filesRd_sizes s l6 l8 st
    rw [← hfl] at hun
    have HSZ : Hid ((Hm.filesRd s l6 l8 st).length ≤ 255 ∧ ∀ f ∈ Hm.filesRd s l6 l8 st, f.1.size ≤ 140737488355328 ∧ f.2.size ≤ 140737488355328) := ⟨by omega, hsz⟩
    have HU : Hid (∀ l6' L' l8' st', Hm.Parse s l6' L' l8' st' → Hm.filesRd s l6' l8' st' = Hm.filesRd s l6 l8 st) := fun l6' L' l8' st' h => by
      obtain ⟨e1, _, e3, e4⟩ := Hm.Parse.unique h hP
      rw [e1, e3, e4]
    generalize hfs : Hm.filesRd s l6 l8 st = fs at hun HSZ HU
    have HFS : Hid (Hm.filesRd s l6 l8 st = fs) := hfs
    clear hk1 hP hA hgot hrd hfl hF hsz hfs
    go_wp2_with fail
    refine hun.mono ?_
    rintro e w2 ⟨gf, rfl, hgf, hrow, hk2⟩
    have hat : FilesAt w2 (some ⟨gf, 0, none⟩) fs := FRow.at (r := []) (by rw [List.append_nil]; exact hrow)
    have hpk := pack_any (some ⟨gf, 0, none⟩) fs.length fs w2 hat (fun a ha => by injection ha with ha; rw [← ha]; exact hrow.lt) (by have := HSZ.out.1; omega) HSZ.out.2
    have H2 : Hid (Kept (fun _ => False) w w2 ∧ Hm.Parse s l6 L l8 st ∧ ArchAt w.heap.size w2 pa s l6 L l8 st) := ⟨H1.out.1.trans hk2 (fun _ _ h => h), H1.out.2.1, H1.out.2.2.kept hk2 (fun _ _ _ => id) id⟩
    clear hat hrow hk2 H1 hun
    go_wp2_with fail
    refine hpk.mono ?_
    rintro e w3 ⟨hps, hk3⟩
    have H3 : Hid (Kept (fun _ => False) w w3 ∧ Hm.Parse s l6 L l8 st ∧ ArchAt w.heap.size w3 pa s l6 L l8 st) := ⟨H2.out.1.trans hk3 (fun _ _ h => h), H2.out.2.1, H2.out.2.2.kept hk3 (fun _ _ _ => id) id⟩
    clear hpk H2 hk3
    rcases hps with ⟨hck, rfl⟩ | ⟨hck, s', hIs, rfl⟩
    · have HC : Hid (Hm.ckAll fs ≠ 0) := hck
      have hne := hck
      clear hck
      generalize Hm.ckAll fs = c at hne ⊢
      have hd : (c == 0) = false := by simpa using hne
      have hd2 : (c != 0) = true := by simpa using hne
      clear hne
      go_wp2_with fail
      go_ret2
      exact ⟨H3.out.1, .inr ⟨fun l6' L' l8' st' h h0 => by rw [HU.out _ _ _ _ h] at h0; exact absurd h0 HC.out, rfl⟩⟩
    · obtain ⟨S', hS'⟩ : ∃ x, x = (⟨s'.toArray⟩ : ByteArray) := ⟨_, rfl⟩
      rw [← hS']
      have HI : Hid (Hm.ckAll fs = 0 ∧ Hm.IsArch fs s' ∧ S' = (⟨s'.toArray⟩ : ByteArray)) := ⟨hck, hIs, hS'⟩
      by_cases hse : s' = s
      · have hSS : S' = S := by rw [hS', HS.out, hse]
        rw [hSS]
        have HSE : Hid (s' = s) := hse
        clear hck hIs hS' hse hSS
        go_wp2_with fail
        go_ret2
        refine ⟨H3.out.1, .inl ⟨pa, l6, L, l8, st, hpa, H3.out.2.1, H3.out.2.2, by rw [HFS.out]; exact HI.out.1, ?_, rfl⟩⟩
        have := HI.out.2.1
        rw [HSE.out] at this
        rw [HFS.out]; exact this
      · have hSS : (S'.toList == S.toList) = false := by
          rw [hS', HS.out, ByteArray.toList_eq, ByteArray.toList_eq, beq_eq_false_iff_ne]
          exact hse
        have HSE : Hid (¬ s' = s) := hse
        clear hck hIs hS' hse
        go_wp2_with fail
        go_ret2
        refine ⟨H3.out.1, .inr ⟨fun l6' L' l8' st' h h0 h1 => ?_, rfl⟩⟩
        rw [HU.out _ _ _ _ h] at h1
        exact HSE.out (Hm.IsArch.unique (Hm.ckAll_ok HI.out.1).2.2 HI.out.2.1 h1)

end Go.Proofs.YtegnkfdbmmndaaaGreat
end

/- StoreA -/
section
/- The archive that the laws store. -/
namespace Go.Proofs.YtegnkfdbmmndaaaGreat
open Go.RowKit

theorem ownsRow_files {w : World} {base : Nat} {v : Value} {fs : List Hm.Fl} (h : w.ownsRow base 38 2 v fs.length (Hm.fcells fs)) : ∃ ao c, v = .slice ao fs.length c ∧ FilesAt w ao fs ∧ ∀ a, ao = some a → a.block < w.heap.size := by
  rcases h.2 with ⟨rfl, h0⟩ | ⟨g, cap, cur, rfl, _, hb, _⟩
  · exact ⟨none, 0, by rw [h0], fun i hi => by omega, by simp⟩
  · have hlt : g < w.heap.size := (h.lt g rfl).2
    refine ⟨_, cap, rfl, fun i hi => ⟨g, 0, rfl, hlt, ?_, ?_⟩, fun a ha => by cases ha; exact hlt⟩
    · rw [Nat.zero_add, h.cellAt _ (by omega)]; exact Hm.fcells_fst fs i hi
    · rw [Nat.zero_add, h.cellAt _ (by omega)]; exact Hm.fcells_snd fs i hi

/-- Files are stored: an archive of them, and what was loaded of it. -/
structure StoredAt (w w' : World) (fs : List Hm.Fl) (s : List UInt8) (B pa : Nat) (l6 : List UInt8) (L : List Nat) (l8 : List UInt8) (st : Hm.LaySt) : Prop where
  is : Hm.IsArch fs s
  ge : w.heap.size ≤ B
  le : B ≤ pa
  parse : Hm.Parse s l6 L l8 st
  files : Hm.filesRd s l6 l8 st = fs
  arch : ArchAt B w' pa s l6 L l8 st

theorem stored_any (hones : OnesSays) (hLn : LenSays) (ao : Option Addr) (c : Nat) (fs : List Hm.Fl) (w : World) (hf : FilesAt w ao fs) (hfb : ∀ a, ao = some a → a.block < w.heap.size) (hck : Hm.ckAll fs = 0) :
    Calls Tryz.prog 18 #[.slice ao fs.length c] w fun e w' => Kept (fun _ => False) w w' ∧ ∃ s B pa l6 L l8 st, StoredAt w w' fs s B pa l6 L l8 st ∧ e = .returned (.tuple #[.pointer (some ⟨pa, 0, none⟩), .string ⟨s.toArray⟩]) := by
  obtain ⟨hm, h32, hn⟩ := Hm.ckAll_ok hck
  have hpk := pack_any ao c fs w hf hfb (by omega) (fun f hf => ⟨by have := (h32 f hf).1; omega, by have := (h32 f hf).2; omega⟩)
  have HCK : Hid (Hm.ckAll fs = 0) := hck
  clear h32 hf hfb hck hn
  go_enter Tryz.func18, Tryz.ntmps18
  go_wp2_with fail
  refine hpk.mono ?_
  rintro e w1 ⟨hps, hk1⟩
  rcases hps with ⟨hne, _⟩ | ⟨_, s, hIs, rfl⟩
  · exact absurd HCK.out hne
  have hln := Hm.arch_length HCK.out hIs
  have hld := load_any hones hLn s w1 (by omega)
  obtain ⟨S, hS⟩ : ∃ S, S = (⟨s.toArray⟩ : ByteArray) := ⟨_, rfl⟩
  rw [← hS] at hld ⊢
  have H1 : Hid (Kept (fun _ => False) w w1 ∧ Hm.IsArch fs s ∧ S = (⟨s.toArray⟩ : ByteArray)) := ⟨hk1, hIs, hS⟩
  clear hpk hk1 hIs hS hln
  go_wp2_with fail
  refine hld.mono ?_
  rintro e w2 ⟨hk2, hsay⟩
  obtain ⟨l6', L', l8', st', hP', hfs'⟩ := Hm.arch_back HCK.out H1.out.2.1
  rcases hsay with ⟨pa, l6, L, l8, st, hpa, hP, hA, hck', hI', rfl⟩ | ⟨hno, _⟩
  · have H2 : Hid (Kept (fun _ => False) w w2 ∧ StoredAt w w2 fs s w1.heap.size pa l6 L l8 st) := by
      refine ⟨H1.out.1.trans hk2 (fun _ _ h => h), H1.out.2.1, H1.out.1.size, hpa, hP, ?_, hA⟩
      obtain ⟨rfl, _, rfl, rfl⟩ := Hm.Parse.unique hP' hP
      exact hfs'
    clear hld hk2 hP' hfs' hP hA hck' hI' hpa
    go_wp2_with fail
    go_ret2
    refine ⟨H2.out.1, s, w1.heap.size, pa, l6, L, l8, st, H2.out.2, ?_⟩
    rw [H1.out.2.2]; rfl
  · exact absurd (by rw [hfs']; exact H1.out.2.1) (hno l6' L' l8' st' hP' (by rw [hfs']; exact HCK.out))

end Go.Proofs.YtegnkfdbmmndaaaGreat
end

/- SpoA -/
section
/- Bits turned within 32 that follow one another change the sum. -/
namespace Go.Proofs.YtegnkfdbmmndaaaGreat
namespace Hm
/-- The shift and the sum of two registers. -/
theorem crcShift_xor (x y : Nat) : crcShift (x ^^^ y) = crcShift x ^^^ crcShift y := by
  have h1 : (x ^^^ y) / 2 = x / 2 ^^^ y / 2 := Nat.xor_div_two
  have h2 : (x ^^^ y) % 2 = (x + y) % 2 := by
    have h : (x ^^^ y) % 2 = (x % 2) ^^^ (y % 2) := Nat.xor_mod_two_pow (n := 1)
    rcases Nat.mod_two_eq_zero_or_one x with hx | hx <;> rcases Nat.mod_two_eq_zero_or_one y with hy | hy <;> rw [h, Nat.add_mod, hx, hy] <;> rfl
  unfold crcShift
  rw [h1, h2]
  rcases Nat.mod_two_eq_zero_or_one x with hx | hx <;> rcases Nat.mod_two_eq_zero_or_one y with hy | hy
  · rw [if_neg (by omega), if_neg (by omega), if_neg (by omega)]
  · rw [if_pos (by omega), if_neg (by omega), if_pos (by omega), Nat.xor_assoc]
  · rw [if_pos (by omega), if_pos (by omega), if_neg (by omega), Nat.xor_assoc, Nat.xor_assoc, Nat.xor_comm (y / 2)]
  · rw [if_neg (by omega), if_pos (by omega), if_pos (by omega), Nat.xor_assoc, Nat.xor_comm 3988292384, Nat.xor_assoc, Nat.xor_self, Nat.xor_zero]
theorem crcTimes_xor (k x y : Nat) : crcTimes k (x ^^^ y) = crcTimes k x ^^^ crcTimes k y := by
  induction k with
  | zero => rfl
  | succ k ih => rw [crcTimes, ih, crcShift_xor]; rfl
theorem crcShift_two (v : Nat) : crcShift (2 * v) = v := by
  unfold crcShift
  rw [if_neg (by omega)]; omega
theorem crcTimes_add (a b x : Nat) : crcTimes (a + b) x = crcTimes a (crcTimes b x) := by
  induction a with
  | zero => rw [Nat.zero_add]; rfl
  | succ a ih => rw [Nat.add_right_comm, crcTimes, ih]; rfl
theorem crcTimes_pow (k v : Nat) : crcTimes k (2 ^ k * v) = v := by
  induction k generalizing v with
  | zero => simp [crcTimes]
  | succ k ih => rw [crcTimes, Nat.pow_succ, Nat.mul_assoc, ih, crcShift_two]
theorem xor_up {b k v : Nat} (h : b < 2 ^ k) : b ^^^ (2 ^ k * v) = b + 2 ^ k * v := by
  apply Nat.eq_of_testBit_eq
  intro i
  rw [Nat.testBit_xor, Nat.add_comm, Nat.testBit_two_pow_mul_add _ h, Nat.testBit_two_pow_mul]
  by_cases c : i < k
  · rw [if_pos c]; simp [show ¬ k ≤ i from by omega]
  · rw [if_neg c, Nat.testBit_lt_two_pow (Nat.lt_of_lt_of_le h (Nat.pow_le_pow_right (by omega) (by omega)))]; simp [show k ≤ i from by omega]
/-- The sum's register, of all bytes as one number. -/
theorem crcFold_num (l : List UInt8) : ∀ s, l.foldl (fun s b => crcByte s b.toNat) s = crcTimes (8 * l.length) (s ^^^ leNum l) := by
  induction l with
  | nil => intro s; simp [leNum, crcTimes]
  | cons b r ih =>
    intro s
    have hb : b.toNat < 2 ^ 8 := by have := b.toNat_lt; omega
    rw [List.foldl_cons, ih, List.length_cons, Nat.mul_add, crcTimes_add, leNum]
    have e : b.toNat + 256 * leNum r = b.toNat ^^^ (2 ^ 8 * leNum r) := (xor_up hb).symm
    rw [e, ← Nat.xor_assoc, crcTimes_xor 8, crcTimes_pow]
    rfl
theorem crcShift_pos {m : Nat} (h0 : 0 < m) (h : m < 4294967296) : 0 < crcShift m := by
  unfold crcShift
  split
  · rename_i hm
    rcases Nat.eq_zero_or_pos (m / 2 ^^^ 3988292384) with e | e
    · have h2 : m / 2 = 3988292384 := by
        have h3 : (m / 2 ^^^ 3988292384) ^^^ 3988292384 = 0 ^^^ 3988292384 := by rw [e]
        rwa [Nat.xor_assoc, Nat.xor_self, Nat.xor_zero, Nat.zero_xor] at h3
      omega
    · exact e
  · omega
theorem crcTimes_pos (k : Nat) {m : Nat} (h0 : 0 < m) (h : m < 4294967296) : 0 < crcTimes k m := by
  induction k with
  | zero => exact h0
  | succ k ih => exact crcShift_pos ih (crcTimes_lt k h)
/-- Bytes, and their sum behind them. -/
theorem crcRun_whole (l : List UInt8) : crcRun (l ++ leBytes (crc l) 4) = crcTimes 32 4294967295 := by
  unfold crcRun
  rw [List.foldl_append]
  have e : l.foldl (fun s b => crcByte s b.toNat) 4294967295 = crcRun l := rfl
  rw [e, crcFold_num, leBytes_length, leNum_le, Nat.mod_eq_of_lt (by have := crc_lt l; omega)]
  unfold crc
  rw [← Nat.xor_assoc, Nat.xor_self, Nat.zero_xor]
/-- Bits turned within 32 that follow one another are told. -/
theorem burst_told {a b : List UInt8} {at' m : Nat} (hl : a.length = b.length) (hat : at' ≤ 8 * a.length) (hm : m < 4294967296) (h : leNum b = leNum a ^^^ (2 ^ at' * m)) (hr : crcRun a = crcRun b) : m = 0 := by
  rcases Nat.eq_zero_or_pos m with e | e
  · exact e
  exfalso
  unfold crcRun at hr
  rw [crcFold_num, crcFold_num, ← hl, h, ← Nat.xor_assoc, crcTimes_xor _ (4294967295 ^^^ leNum a) (2 ^ at' * m)] at hr
  have h0 : crcTimes (8 * a.length) (2 ^ at' * m) = 0 := by
    have h3 : crcTimes (8 * a.length) (4294967295 ^^^ leNum a) ^^^ crcTimes (8 * a.length) (4294967295 ^^^ leNum a) = crcTimes (8 * a.length) (4294967295 ^^^ leNum a) ^^^ (crcTimes (8 * a.length) (4294967295 ^^^ leNum a) ^^^ crcTimes (8 * a.length) (2 ^ at' * m)) := congrArg _ hr
    rw [Nat.xor_self, ← Nat.xor_assoc, Nat.xor_self, Nat.zero_xor] at h3
    exact h3.symm
  obtain ⟨q, hq⟩ : ∃ q, 8 * a.length = q + at' := ⟨8 * a.length - at', by omega⟩
  rw [hq, crcTimes_add, crcTimes_pow] at h0
  have := crcTimes_pos q e hm
  omega
/-- One bit turned. -/
theorem leNum_turn : ∀ (l : List UInt8) (i j : Nat) (h : i < l.length) (x : UInt8), x.toNat = l[i].toNat ^^^ 2 ^ j → leNum (l.set i x) = leNum l ^^^ 2 ^ (8 * i + j)
  | [], i, j, h, x, _ => by simp at h
  | b :: r, 0, j, h, x, e => by
    have e : x.toNat = b.toNat ^^^ 2 ^ j := e
    have hb : b.toNat < 2 ^ 8 := by have := b.toNat_lt; omega
    have hx : x.toNat < 2 ^ 8 := by have := x.toNat_lt; omega
    rw [List.set_cons_zero, leNum, leNum]
    rw [show 256 * leNum r = 2 ^ 8 * leNum r from rfl, ← xor_up hx, ← xor_up hb, e, Nat.mul_zero, Nat.zero_add, Nat.xor_assoc, Nat.xor_assoc, Nat.xor_comm (2 ^ j)]
  | b :: r, i + 1, j, h, x, e => by
    have hb : b.toNat < 2 ^ 8 := by have := b.toNat_lt; omega
    rw [List.set_cons_succ, leNum, leNum, leNum_turn r i j (by simpa using h) x (by simpa using e)]
    rw [show ∀ y, 256 * y = 2 ^ 8 * y from fun _ => rfl, show ∀ y, 256 * y = 2 ^ 8 * y from fun _ => rfl, ← xor_up hb, ← xor_up hb, Nat.xor_assoc]
    congr 1
    apply Nat.eq_of_testBit_eq
    intro q
    rw [Nat.testBit_two_pow_mul, Nat.testBit_xor, Nat.testBit_xor, Nat.testBit_two_pow_mul, Nat.testBit_two_pow, Nat.testBit_two_pow]
    by_cases c : 8 ≤ q
    · simp only [c, decide_true, Bool.true_and]
      congr 1
      apply decide_eq_decide.2; omega
    · simp only [c, decide_false, Bool.false_and, Bool.false_bne]
      symm
      apply decide_eq_false; omega
theorem leNum_inj : ∀ {a b : List UInt8}, a.length = b.length → leNum a = leNum b → a = b
  | [], [], _, _ => rfl
  | [], _ :: _, h, _ => by simp at h
  | _ :: _, [], h, _ => by simp at h
  | x :: a, y :: b, h, e => by
    rw [leNum, leNum] at e
    have hx := x.toNat_lt
    have hy := y.toNat_lt
    have e1 : x = y := UInt8.toNat_inj.1 (by omega)
    have e2 : a = b := leNum_inj (by simpa using h) (by omega)
    rw [e1, e2]
/-- One more bit turned. -/
theorem turn_step {s l : List UInt8} {p k m i j : Nat} (h : leNum l = leNum s ^^^ (2 ^ p * m)) (hm : m < 2 ^ k) (hi : i < l.length) (hij : 8 * i + j = p + k) (x : UInt8) (hx : x.toNat = l[i].toNat ^^^ 2 ^ j) :
    leNum (l.set i x) = leNum s ^^^ (2 ^ p * (2 ^ k + m)) ∧ 2 ^ k + m < 2 ^ (k + 1) := by
  refine ⟨?_, by rw [Nat.pow_succ]; omega⟩
  rw [leNum_turn l i j hi x hx, h, Nat.xor_assoc, hij]
  congr 1
  have e : 2 ^ k + m = m ^^^ (2 ^ k * 1) := by rw [xor_up hm]; omega
  rw [e]
  apply Nat.eq_of_testBit_eq
  intro q
  rw [Nat.mul_one, Nat.testBit_xor, Nat.testBit_two_pow_mul, Nat.testBit_two_pow_mul, Nat.testBit_xor, Nat.testBit_two_pow, Nat.testBit_two_pow]
  by_cases c : p ≤ q
  · simp only [c, decide_true, Bool.true_and]
    congr 1
    apply decide_eq_decide.2; omega
  · simp only [c, decide_false, Bool.false_and, Bool.false_bne]
    apply decide_eq_false; omega
end Hm
end Go.Proofs.YtegnkfdbmmndaaaGreat
end

/- SpoB -/
section
/- No archive begins another. -/
namespace Go.Proofs.YtegnkfdbmmndaaaGreat
namespace Hm

/-- An archive, whatever follows it: how far the reading goes. -/
theorem arch_parts {fs : List (ByteArray × ByteArray)} {s0 : List UInt8} (u : List UInt8) (hck : ckAll fs = 0) (hA : IsArch fs s0) : ∃ l6 L l8 st l9, (rdM (s0 ++ u)).2 = some l6 ∧ rdL (some (l6.drop (szB (endsLen (rdF (s0 ++ u)).1 (rdN (s0 ++ u)).1)))) = (L, some l8) ∧ TreeOk l8 (rdN (s0 ++ u)).1 L st ∧ (l8.drop (szB st.len)).drop (szB (sampLen (rdN (s0 ++ u)).1)) = l9 ++ u ∧ l9.length = 4 := by
  obtain ⟨hm, h32, hn⟩ := ckAll_ok hck
  obtain ⟨ps, N, hps, _, hE, es⟩ := hA.is
  have hC := lens_coded (textOf fs) hn
  have hmem : ∀ b ∈ colOf (textOf fs) ps, b ∈ orderOf (lens (textOf fs)) := fun b hb => (lens_mem _ hn b).2 (colOf_mem hps.perm b hb)
  have hroot := (rootOf_idx hps.perm).2
  have hcl := colOf_length hps.perm
  obtain ⟨tr, htr⟩ : ∃ tr, tr = trOf (lens (textOf fs)) N (colOf (textOf fs) ps) := ⟨_, rfl⟩
  obtain ⟨SB, hSB⟩ : ∃ x, x = leBytes (crc (archBody fs ps tr)) 4 := ⟨_, rfl⟩
  have hSl : SB.length = 4 := by rw [hSB, leBytes_length]
  obtain ⟨X9, hX9⟩ : ∃ x, x = packBits (samples ps) ++ (SB ++ u) := ⟨_, rfl⟩
  obtain ⟨X8, hX8⟩ : ∃ x, x = packBits tr ++ X9 := ⟨_, rfl⟩
  obtain ⟨X7, hX7⟩ : ∃ x, x = leBytes (codedOf (lens (textOf fs))).length 2 ++ (lenBytes (lens (textOf fs)) (codedOf (lens (textOf fs))) ++ X8) := ⟨_, rfl⟩
  obtain ⟨X6, hX6⟩ : ∃ x, x = packBits (endsBits (endsOf fs) (textOf fs).length) ++ X7 := ⟨_, rfl⟩
  have hs : s0 ++ u = [72, 79, 65, 82, 68, 49, UInt8.ofNat fs.length] ++ (leBytes (textOf fs).length 2 ++ (leBytes (rootOf ps) 2 ++ (nameBytes fs ++ X6))) := by
    rw [es, ← htr, hX6, hX7, hX8, hX9, hSB]
    unfold archOf archBody
    simp only [List.append_assoc]
  generalize s0 ++ u = s at hs
  have hhead := head_app fs (textOf fs).length (rootOf ps) X6 (by omega) (by omega) hroot (fun f hf => (h32 f hf).1)
  simp only at hhead
  rw [← hs] at hhead
  obtain ⟨eF, eN, eR, eM⟩ := hhead
  have hel := endsOf_length fs
  obtain ⟨q1, q2, q3⟩ := endsOk_app (endsOf fs) (textOf fs).length hn (endsOf_up fs) X7
  rw [← hX6, hel] at q1 q2 q3
  obtain ⟨st, t1, t2, t3⟩ := treeOk_app hC hE hmem X9
  rw [← htr, ← hX8, hcl] at t1
  rw [← htr] at t2
  obtain ⟨s1, s2⟩ := sampOk_app hps.perm (SB ++ u)
  rw [← hX9] at s1 s2
  have hd8 : X8.drop (szB st.len) = X9 := by rw [t2, hX8, List.drop_left]
  refine ⟨X6, lens (textOf fs), X8, st, SB, by rw [eM], ?_, by rw [eN]; exact t1, by rw [eN, hd8, s2], hSl⟩
  rw [eF, eN, q2, hX7]
  exact rdL_app _ _ hC.len (lens_le255 hC)

/-- Where two archives begin alike, they are one. -/
theorem arch_prefix {fs fs' : List (ByteArray × ByteArray)} {s u : List UInt8} (hck : ckAll fs = 0) (hA : IsArch fs s) (hck' : ckAll fs' = 0) (hA' : IsArch fs' (s ++ u)) : u = [] := by
  obtain ⟨l6, L, l8, st, l9, a1, a2, a3, a4, a5⟩ := arch_parts u hck hA
  obtain ⟨m6, M, m8, mt, m9, b1, b2, b3, b4, b5⟩ := arch_parts [] hck' hA'
  rw [List.append_nil] at b1 b2 b3 b4
  have e1 : l6 = m6 := Option.some.inj (a1.symm.trans b1)
  subst e1
  have e2 := a2.symm.trans b2
  injection e2 with e3 e4
  injection e4 with e4
  subst e3 e4
  have e5 : st = mt := Option.some.inj (a3.2.symm.trans b3.2)
  subst e5
  have h := congrArg List.length (a4.symm.trans b4)
  rw [List.length_append, List.append_nil, a5, b5] at h
  exact List.eq_nil_of_length_eq_zero (by omega)

/-- The sum of an archive, with its own bytes. -/
theorem arch_run {fs : List (ByteArray × ByteArray)} {s : List UInt8} (hA : IsArch fs s) : ∃ l, s = l ++ leBytes (crc l) 4 := by
  obtain ⟨ps, N, _, _, _, es⟩ := hA.is
  exact ⟨_, es⟩
end Hm
end Go.Proofs.YtegnkfdbmmndaaaGreat
end

/- SpoC -/
section
/- An archive with bits turned is none. -/
namespace Go.Proofs.YtegnkfdbmmndaaaGreat
namespace Hm
theorem arch_turned {fs fs' : List (ByteArray × ByteArray)} {s t : List UInt8} {p m : Nat} (hA : IsArch fs s) (hA' : IsArch fs' t) (hl : t.length = s.length) (hp : p ≤ 8 * s.length) (hm : m < 4294967296) (h : leNum t = leNum s ^^^ (2 ^ p * m)) : t = s := by
  obtain ⟨a, ha⟩ := arch_run hA
  obtain ⟨b, hb⟩ := arch_run hA'
  have hr : crcRun s = crcRun t := by rw [ha, hb, crcRun_whole, crcRun_whole]
  have h0 := burst_told hl.symm hp hm h hr
  rw [h0, Nat.mul_zero, Nat.xor_zero] at h
  exact leNum_inj hl h
end Hm
end Go.Proofs.YtegnkfdbmmndaaaGreat
end

/- SpoD -/
section
/- Bits are turned. -/
namespace Go.Proofs.YtegnkfdbmmndaaaGreat
open Go.RowKit

/-- Bytes lie in block g and may be written. -/
def BytesIn (w : World) (g : Nat) (l : List UInt8) : Prop := g < w.heap.size ∧ ∀ j, (h : j < l.length) → w.cell? ⟨g, j, none⟩ = some (.int .u8 (l[j].toNat : Nat)) ∧ w.frozen? ⟨g, j, none⟩ = false
theorem BytesIn.set {w : World} {g : Nat} {l : List UInt8} (h : BytesIn w g l) (i : Nat) (hi : i < l.length) (x : UInt8) : BytesIn (w.setCell ⟨g, i, none⟩ (.int .u8 (x.toNat : Nat))) g (l.set i x) := by
  refine ⟨by simpa using h.1, fun j hj => ⟨?_, by rw [World.frozen?_setCell]; exact (h.2 j (by simpa using hj)).2⟩⟩
  have hj' : j < l.length := by simpa using hj
  rw [List.getElem_set]
  by_cases e : i = j
  · subst e; rw [if_pos rfl]; exact World.cell?_setCell_same _ _ _ (h.2 i hi).1
  · rw [if_neg e, World.cell?_setCell_other _ _ _ _ (by intro e'; simp only [Addr.mk.injEq] at e'; omega)]; exact (h.2 j hj').1
theorem BytesIn.back {w : World} {g : Nat} {l : List UInt8} (h : BytesIn w g l) (c : Nat) : (convert 79 9 (.slice (some ⟨g, 0, none⟩) l.length c)).run Tryz.prog w = .ok (.string ⟨l.toArray⟩) w := by
  have hr := run_convert_bytes_arg w _ _ Tryz.underlying79 Tryz.underlying5 g 0 l.length c (l.map fun b => (b.toNat : Int)) (by simp) (fun i hi => by
    have hil : i < l.length := by simpa using hi
    rw [Nat.zero_add, (h.2 i hil).1, List.getD_eq_getElem?_getD, List.getElem?_map, List.getElem?_eq_getElem hil]; rfl) _ Tryz.underlying9
  have e : strOfNums (l.map fun b => (b.toNat : Int)) = ⟨l.toArray⟩ := by
    unfold strOfNums
    rw [List.map_map]
    have e2 : ((fun n : Int => UInt8.ofNat n.toNat) ∘ fun b : UInt8 => (b.toNat : Int)) = id := by funext b; simp
    rw [e2, List.map_id]
  rw [e] at hr
  exact hr
theorem BytesIn.made (w : World) (s : ByteArray) : BytesIn (Lib.bytesWorld w 5 s) w.heap.size s.data.toList := by
  refine ⟨by rw [Lib.bytesWorld_size]; omega, fun j hj => ?_⟩
  have hj' : j < s.size := by simpa using hj
  refine ⟨?_, ?_⟩
  · rw [Lib.bytesWorld_cell w 5 s j hj', List.getD_eq_getElem?_getD, List.getElem?_eq_getElem hj]; rfl
  · unfold World.frozen?
    rw [Lib.bytesWorld_at_new]
    simp [Lib.bytesCells]
    omega

theorem xor_bit_u8 (x : UInt8) (r : Nat) (hr : r < 8) : Go.bits .xor .u8 (x.toNat : Int) ((2 : Int) ^ r % 256) = ((x.toNat ^^^ 2 ^ r : Nat) : Int) := by
  have hx := x.toNat_lt
  have h2 : 2 ^ r < 2 ^ 8 := Nat.pow_lt_pow_right (by omega) hr
  have e : (2 : Int) ^ r % 256 = ((2 ^ r : Nat) : Int) := by
    have : ((2 ^ r : Nat) : Int) = (2 : Int) ^ r := by simp
    rw [← this]
    generalize 2 ^ r = z at h2 ⊢
    omega
  have h1 : (BitVec.ofInt 8 (x.toNat : Int)).toNat = x.toNat := by rw [BitVec.ofInt_natCast, BitVec.toNat_ofNat]; exact Nat.mod_eq_of_lt (by omega)
  have h3 : (BitVec.ofInt 8 ((2 ^ r : Nat) : Int)).toNat = 2 ^ r := by rw [BitVec.ofInt_natCast, BitVec.toNat_ofNat]; exact Nat.mod_eq_of_lt h2
  rw [e]
  show IntKind.u8.wrap ((BitVec.ofInt 8 (x.toNat : Int) ^^^ BitVec.ofInt 8 ((2 ^ r : Nat) : Int)).toNat : Int) = _
  rw [BitVec.toNat_xor, h1, h3]
  have h4 : x.toNat ^^^ 2 ^ r < 2 ^ 8 := Nat.xor_lt_two_pow (by omega) h2
  generalize x.toNat ^^^ 2 ^ r = z at h4 ⊢
  unfold IntKind.wrap; simp [IntKind.bits, IntKind.signed]; omega

set_option maxHeartbeats 1000000 in
theorem turned_any (s : List UInt8) (p : Nat) (mask : Int) (w : World) (hp : p < 8 * s.length) (hs : s.length ≤ 10000000) (_hm1 : -9223372036854775808 ≤ mask) (_hm2 : mask ≤ 9223372036854775807) :
    Calls Tryz.prog 21 #[.string ⟨s.toArray⟩, .int .i64 p, .int .i64 mask] w fun e w' => (∃ t m, e = .returned (.string ⟨t.toArray⟩) ∧ t.length = s.length ∧ m < 4294967296 ∧ Hm.leNum t = Hm.leNum s ^^^ (2 ^ p * m)) ∧ Kept (fun _ => False) w w' := by
  obtain ⟨S, hS⟩ : ∃ S, S = (⟨s.toArray⟩ : ByteArray) := ⟨_, rfl⟩
  have hsz : S.size = s.length := by rw [hS]; show s.toArray.size = _; simp
  have hsd : S.data.toList = s := by rw [hS]
  have hcw := Lib.run_convert_string_bytes (P := Tryz.prog) w 9 79 5 S Tryz.underlying9 Tryz.underlying79 Tryz.underlying5
  have hmd := BytesIn.made w S
  rw [hsd] at hmd
  have hk1 : Kept (fun _ => False) w (Lib.bytesWorld w 5 S) := by
    refine ⟨rfl, rfl, rfl, by rw [Lib.bytesWorld_size]; omega, fun k hk _ => Lib.bytesWorld_at_old w _ S k hk⟩
  rw [← hS]
  rw [hsz] at hcw
  obtain ⟨n, hn⟩ : ∃ n, n = s.length := ⟨_, rfl⟩
  obtain ⟨cp, hcp⟩ : ∃ c, c = grownCap w s.length 0 5 := ⟨_, rfl⟩
  rw [← hcp, ← hn] at hcw
  rw [← hn] at hp hs
  obtain ⟨W, hW⟩ : ∃ W, W = Lib.bytesWorld w 5 S := ⟨_, rfl⟩
  rw [← hW] at hmd hk1 hcw
  have HN : Hid (n = s.length) := hn
  clear hS hsd hcp hW hsz hn
  go_enter Tryz.func21, Tryz.ntmps21
  go_wp2_with fail
  go_loopw [8, 9] (fun vk _ wr => ∃ k : Nat, k ≤ 32 ∧ vk = .int .i64 k ∧ Hid (∃ l m, BytesIn wr w.heap.size l ∧ l.length = n ∧ m < 2 ^ k ∧ Hm.leNum l = Hm.leNum s ^^^ (2 ^ p * m)) ∧ Kept (fun _ => False) w wr) (fun vk _ _ => 32 - (intOf vk).toNat)
  case atStart => exact ⟨0, Nat.zero_le _, rfl, ⟨s, 0, hmd, HN.out.symm, by omega, by rw [Nat.mul_zero, Nat.xor_zero]⟩, hk1⟩
  case round =>
    clear hmd hk1 hcw
    obtain ⟨k, hk, rfl, HI, hkr⟩ := hrel
    obtain ⟨l, m, hb, hll, hm, hnum⟩ := HI.out
    by_cases hlt : k < 32
    · have hd1 : decide ((k : Int) < 32) = true := decide_eq_true (by omega)
      obtain ⟨q, hq⟩ : ∃ q, q = (p + k) / 8 := ⟨_, rfl⟩
      obtain ⟨r, hr⟩ : ∃ r, r = (p + k) % 8 := ⟨_, rfl⟩
      have zq : ((p : Int) + (k : Int)) / 8 = (q : Int) := by omega
      have zr : ((p : Int) + (k : Int)) % 8 = (r : Int) := by omega
      have hr8 : r < 8 := by omega
      have HQR : Hid (8 * q + r = p + k) := by show _ = _; omega
      by_cases hqn : q < n
      · have hql : q < l.length := by omega
        obtain ⟨c1, f1⟩ := hb.2 q hql
        obtain ⟨x, hx⟩ : ∃ x, x = l[q] := ⟨_, rfl⟩
        rw [← hx] at c1
        have hqI : (q : Int) < (n : Int) := by omega
        obtain ⟨y, hy⟩ : ∃ y, y = UInt8.ofNat (x.toNat ^^^ 2 ^ r) := ⟨_, rfl⟩
        have HT : Hid (BytesIn (wr.setCell ⟨w.heap.size, q, none⟩ (.int .u8 (y.toNat : Nat))) w.heap.size (l.set q y) ∧ Hm.leNum (l.set q y) = Hm.leNum s ^^^ (2 ^ p * (2 ^ k + m)) ∧ 2 ^ k + m < 2 ^ (k + 1) ∧ (l.set q y).length = n ∧ (y.toNat : Int) = ((x.toNat ^^^ 2 ^ r : Nat) : Int)) := by
          have hyn : y.toNat = x.toNat ^^^ 2 ^ r := by
            rw [hy, UInt8.toNat_ofNat']
            exact Nat.mod_eq_of_lt (Nat.xor_lt_two_pow (n := 8) (by have := x.toNat_lt; omega) (Nat.pow_lt_pow_right (by omega) hr8))
          have ht := Hm.turn_step hnum hm hql HQR.out y (by rw [← hx]; exact hyn)
          exact ⟨hb.set q hql y, ht.1, ht.2, by rw [List.length_set]; exact hll, by rw [hyn]⟩
        have HX : Hid (Go.bits .xor .u8 (x.toNat : Int) ((2 : Int) ^ r % 256) = ((x.toNat ^^^ 2 ^ r : Nat) : Int)) := xor_bit_u8 x r hr8
        have HM : Hid (l.length = n ∧ m < 2 ^ (k + 1) ∧ Hm.leNum l = Hm.leNum s ^^^ (2 ^ p * m) ∧ BytesIn wr w.heap.size l) := ⟨hll, by rw [Nat.pow_succ]; omega, hnum, hb⟩
        clear hq hr hql hx hb hy hm hnum hll
        go_wp2_with fail
        · go_region
          go_wp2_with fail
          go_roundw
          case rel =>
            refine ⟨k + 1, by omega, by go_num, ⟨l.set q y, 2 ^ k + m, ?_, HT.out.2.2.2.1, HT.out.2.2.1, HT.out.2.1⟩, ?_⟩
            · rw [HX.out, ← HT.out.2.2.2.2]; exact HT.out.1
            · exact (hkr.setCell (p := ⟨w.heap.size, q, none⟩) (.inl (Nat.le_refl _)) _).drew
          case measure => simp [intOf]; omega
        · go_roundw
          case rel => exact ⟨k + 1, by omega, by go_num, ⟨l, m, HM.out.2.2.2, HM.out.1, HM.out.2.1, HM.out.2.2.1⟩, hkr⟩
          case measure => simp [intOf]; omega
      · have hqI : ¬ (q : Int) < (n : Int) := by omega
        have HM : Hid (l.length = n ∧ m < 2 ^ (k + 1) ∧ Hm.leNum l = Hm.leNum s ^^^ (2 ^ p * m) ∧ BytesIn wr w.heap.size l) := ⟨hll, by rw [Nat.pow_succ]; omega, hnum, hb⟩
        clear hq hr hb hm hnum hll
        go_wp2_with fail
        all_goals (
          go_roundw
          case rel => exact ⟨k + 1, by omega, by go_num, ⟨l, m, HM.out.2.2.2, HM.out.1, HM.out.2.1, HM.out.2.2.1⟩, hkr⟩
          case measure => simp [intOf]; omega)
    · obtain rfl : k = 32 := by omega
      have hbk := hb.back cp
      rw [hll] at hbk
      have HF : Hid (l.length = n ∧ m < 2 ^ 32 ∧ Hm.leNum l = Hm.leNum s ^^^ (2 ^ p * m)) := ⟨hll, hm, hnum⟩
      clear hb hll hm hnum HI
      go_wp2_with fail
      go_ret
      obtain ⟨h1, h2, h3⟩ := HF.out
      exact ⟨⟨l, m, rfl, by rw [h1, HN.out], by omega, h3⟩, hkr⟩

end Go.Proofs.YtegnkfdbmmndaaaGreat
end
