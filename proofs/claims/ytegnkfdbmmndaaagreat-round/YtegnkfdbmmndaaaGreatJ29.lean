import Derived.Test.YtegnkfdbmmndaaaGreatJ25
import Derived.Test.YtegnkfdbmmndaaaGreatJ27
import Derived.Test.YtegnkfdbmmndaaaGreatJ28
import Derived.Test.YtegnkfdbmmndaaaGreatJ23

/- UnpC -/
section
/- An archive is unpacked: the walk. -/
namespace Go.Proofs.YtegnkfdbmmndaaaGreat
open Go.RowKit

namespace Hm
def fileRow (fs : List Fl) (m k : Nat) : List Fl := fs.take k ++ List.replicate (m - k) (⟨#[]⟩, ⟨#[]⟩)
theorem cover_le {f : Nat → Bool} {len m low n : Nat} (h : Cover f len m low n) (i : Nat) (hi : i < m) : endAt f m low i ≤ n := by
  have key : ∀ d j, j + d = m → fromAt f m low j ≤ n := by
    intro d
    induction d with
    | zero => intro j e; rw [show j = m by omega, h.all]; exact Nat.le_refl _
    | succ d ih =>
      intro j e
      have h1 := ih (j + 1) (by omega)
      have h2 := h.asc j (by omega)
      have h3 : fromAt f m low (j + 1) = endAt f m low j := rfl
      omega
  have h1 := key (m - (i + 1)) (i + 1) (by omega)
  exact h1
theorem namesTo_size (st : Rd) : ∀ m k, ((namesTo m st).1.getD k ⟨#[]⟩).size ≤ 255
  | 0, k => by show (([] : List ByteArray).getD k ⟨#[]⟩).size ≤ 255; rw [List.getD_nil]; exact Nat.zero_le _
  | m + 1, k => by
    have ih := namesTo_size st m k
    show (((namesTo m st).1 ++ [_]).getD k ⟨#[]⟩).size ≤ 255
    rw [List.getD_eq_getElem?_getD] at ih ⊢
    by_cases h : k < (namesTo m st).1.length
    · rw [List.getElem?_append_left h]; exact ih
    · rw [List.getElem?_append_right (by omega)]
      by_cases h2 : k - (namesTo m st).1.length = 0
      · rw [h2]
        have hx : (numO (namesTo m st).2 1).1 < 256 := by have := numO_lt (namesTo m st).2 1; simpa using this
        have hl := takeO_length (numO (namesTo m st).2 1).2 (numO (namesTo m st).2 1).1
        show (takeO _ _).1.toArray.size ≤ 255
        rw [List.size_toArray]; omega
      · rw [List.getElem?_eq_none (by simp; omega)]; exact Nat.zero_le _
theorem fileRow_length (fs : List Fl) (m k : Nat) (hf : fs.length = m) (hk : k ≤ m) : (fileRow fs m k).length = m := by
  unfold fileRow; rw [List.length_append, List.length_take, List.length_replicate]; omega
theorem fileRow_succ (fs : List Fl) (m k : Nat) (hf : fs.length = m) (hk : k < m) (x : Fl) (hx : fs[k]? = some x) : (fileRow fs m k).set k x = fileRow fs m (k + 1) := by
  have e : List.replicate (m - k) ((⟨#[]⟩, ⟨#[]⟩) : Fl) = (⟨#[]⟩, ⟨#[]⟩) :: List.replicate (m - (k + 1)) (⟨#[]⟩, ⟨#[]⟩) := by rw [show m - k = (m - (k + 1)) + 1 from by omega, List.replicate_succ]
  unfold fileRow
  rw [e, List.set_append_right _ _ (by rw [List.length_take]; omega), List.length_take, Nat.min_eq_left (by omega), Nat.sub_self, List.set_cons_zero, List.take_add_one, hx, List.append_assoc]
  rfl
theorem fileRow_all (fs : List Fl) (m : Nat) (hf : fs.length = m) : fileRow fs m m = fs := by
  unfold fileRow; rw [Nat.sub_self, List.take_of_length_le (by omega)]; simp
end Hm

theorem fileRd_any (hones : OnesSays) (pa ge k : Nat) (s l6 : List UInt8) (W : World) (h : EndsAt W pa 1 ⟨(l6.take (Hm.szB (Hm.endsLen (Hm.rdF s).1 (Hm.rdN s).1))).toArray⟩ (Hm.endsLen (Hm.rdF s).1 (Hm.rdN s).1) ge (Hm.rdF s).1 (Hm.lowR (Hm.rdF s).1 (Hm.rdN s).1)) (ho : Hm.EndsOk l6 (Hm.rdF s).1 (Hm.rdN s).1) (hk : k < (Hm.rdF s).1) :
    Calls Tryz.prog 36 #[.pointer (some ⟨pa, 1, none⟩), .int .i64 (k : Nat)] W fun e w' => e = .returned (.tuple #[.int .i64 (Hm.fromRd s l6 k : Nat), .int .i64 (Hm.endRd s l6 k : Nat)]) ∧ Kept (fun _ => False) W w' := by
  have hF := Hm.rdF_lt s
  have hN := Hm.rdN_lt s
  have hel := ho.fits
  have hco := ho.cover.ones
  have hes : (⟨(l6.take (Hm.szB (Hm.endsLen (Hm.rdF s).1 (Hm.rdN s).1))).toArray⟩ : ByteArray).size = Hm.szB (Hm.endsLen (Hm.rdF s).1 (Hm.rdN s).1) := by
    show (l6.take _).toArray.size = _
    rw [List.size_toArray, List.length_take]; omega
  have hle := Hm.endsLen_le _ _ hF hN
  have hlo := Hm.lowR_le (Hm.rdF s).1 (Hm.rdN s).1 hN
  have hml : (Hm.rdF s).1 * Hm.lowR (Hm.rdF s).1 (Hm.rdN s).1 ≤ Hm.endsLen (Hm.rdF s).1 (Hm.rdN s).1 := Nat.le_add_right _ _
  have e1 : Hm.fromRd s l6 k = Hm.fromAt (Hm.bitB (l6.take (Hm.szB (Hm.endsLen (Hm.rdF s).1 (Hm.rdN s).1)))) (Hm.rdF s).1 (Hm.lowR (Hm.rdF s).1 (Hm.rdN s).1) k := rfl
  have e2 : Hm.endRd s l6 k = Hm.endAt (Hm.bitB (l6.take (Hm.szB (Hm.endsLen (Hm.rdF s).1 (Hm.rdN s).1)))) (Hm.rdF s).1 (Hm.lowR (Hm.rdF s).1 (Hm.rdN s).1) k := rfl
  have e3 : l6.take (Hm.szB (Hm.endsLen (Hm.rdF s).1 (Hm.rdN s).1)) = (⟨(l6.take (Hm.szB (Hm.endsLen (Hm.rdF s).1 (Hm.rdN s).1))).toArray⟩ : ByteArray).data.toList := rfl
  rw [e1, e2]
  generalize Hm.lowR (Hm.rdF s).1 (Hm.rdN s).1 = lo at *
  generalize Hm.endsLen (Hm.rdF s).1 (Hm.rdN s).1 = el at *
  rw [e3] at hco ⊢
  generalize (⟨(l6.take (Hm.szB el)).toArray⟩ : ByteArray) = E at *
  have h8 : el ≤ 8 * E.size := by rw [hes]; unfold Hm.szB; omega
  exact file_any hones pa 1 el ge (Hm.rdF s).1 lo k E W h (by omega) (by omega) hk hml h8 hco (by rw [hes]; omega)

set_option maxRecDepth 20000 in
set_option maxHeartbeats 2000000 in
theorem unpack_any (hones : OnesSays) (B pa : Nat) (s l6 : List UInt8) (L : List Nat) (l8 : List UInt8) (st : Hm.LaySt) (w : World) (hp : Hm.Parse s l6 L l8 st) (h : ArchAt B w pa s l6 L l8 st) :
    Calls Tryz.prog 14 #[.pointer (some ⟨pa, 0, none⟩)] w fun e w' => ∃ gf, e = .returned (.slice (some ⟨gf, 0, none⟩) (Hm.rdF s).1 (Hm.rdF s).1) ∧ w.heap.size ≤ gf ∧ FRow w' gf (Hm.filesRd s l6 l8 st) ∧ Kept (fun _ => False) w w' := by
  obtain ⟨gn, ge, g, ng, nc, gs, P⟩ := h.parts hp
  obtain ⟨hcl, hct, hcw⟩ := Hm.colRd_is hp.tree
  have hN := Hm.rdN_lt s
  have hF := Hm.rdF_lt s
  have hroot := (Hm.rdM_inv hp.names).2
  have htl := Hm.treeOk_len hp.tree hN
  have hts : (⟨(l8.take (Hm.szB st.len)).toArray⟩ : ByteArray).size ≤ 1000000 := by show (l8.take _).toArray.size ≤ _; rw [List.size_toArray, List.length_take]; omega
  have HBK : Hid (∀ W, RowsPart W pa 6 ⟨(l8.take (Hm.szB st.len)).toArray⟩ st.len g ng nc st.nds (Hm.rdR s).1 st.ws → Calls Tryz.prog 33 #[.func (.func 34) #[.pointer (some ⟨pa, 6, none⟩)] #[], .int .i64 0, .int .i64 ((Hm.rdN s).1 : Nat)] W fun e w' => e = .returned (.slice (some ⟨W.heap.size, 0, none⟩) (Hm.rdN s).1 (Hm.rdN s).1) ∧
      w'.heap[W.heap.size]? = some (.cells (Hm.bcells (Hm.textRd s l8 st)).toArray 5 (0, 0)) ∧ Kept (fun _ => False) W w') := fun W hW =>
    back_any hones pa 6 st.len g ng nc (Hm.rdR s).1 0 (Hm.rdN s).1 _ st.nds st.ws (Hm.colRd l8 (Hm.rdN s).1 st) W hW hct hcw (by omega) (Nat.zero_le _) hts (by omega) (by omega)
  have HP : Hid (ArchParts w pa s l6 L l8 st gn ge g ng nc gs) := P
  have hpw : pa < w.heap.size := World.block_lt_of_cell? _ _ P.total
  have hgw : gn < w.heap.size := lt_of_block P.nblock
  obtain ⟨n, hn⟩ : ∃ n, n = (Hm.rdN s).1 := ⟨_, rfl⟩
  rw [← hn] at HBK hN
  have htot := fun W (hW : W.cell? ⟨pa, 778, none⟩ = some (.int .i64 (n : Nat))) => total_any pa 6 n W hW
  have HT : Hid _ := htot
  have HPT : Hid (w.cell? ⟨pa, 778, none⟩ = some (.int .i64 (n : Nat)) ∧ RowsPart w pa 6 ⟨(l8.take (Hm.szB st.len)).toArray⟩ st.len g ng nc st.nds (Hm.rdR s).1 st.ws) := ⟨by rw [hn]; exact P.total, P.rows⟩
  have HN : Hid (n = (Hm.rdN s).1) := hn
  have HFI : Hid (∀ k W, k < (Hm.rdF s).1 → Kept (fun _ => False) w W → Calls Tryz.prog 36 #[.pointer (some ⟨pa, 1, none⟩), .int .i64 (k : Nat)] W fun e w' => e = .returned (.tuple #[.int .i64 (Hm.fromRd s l6 k : Nat), .int .i64 (Hm.endRd s l6 k : Nat)]) ∧ Kept (fun _ => False) W w') := fun k W hk hW => fileRd_any hones pa ge k s l6 W (P.ends.kept hW id id) hp.ends hk
  have HFT : Hid (∀ k, k < (Hm.rdF s).1 → Hm.fromRd s l6 k ≤ Hm.endRd s l6 k ∧ Hm.endRd s l6 k ≤ n) := fun k hk => ⟨hp.ends.cover.asc k hk, by rw [hn]; exact Hm.cover_le hp.ends.cover k hk⟩
  have HNS : Hid (∀ k nm, nm = (Hm.rdM s).1.getD k ⟨#[]⟩ → k < (Hm.rdF s).1 → nm.size ≤ 281474976710656) := fun k nm h1 h2 => by
    rw [h1]
    have := Hm.namesTo_size (Hm.rdB s) (Hm.rdF s).1 k
    exact Nat.le_trans this (by omega)
  clear P h hcl hct hcw htl hts htot hn hroot
  go_enter Tryz.func14, Tryz.ntmps14
  go_wp2_with fail
  go_cut [3] from 11 (fun v3 wz => ∃ gt : Nat, v3 = .slice (some ⟨gt, 0, none⟩) n n ∧ w.heap.size ≤ gt ∧ Hid (wz.heap[gt]? = some (.cells (Hm.bcells (Hm.textRd s l8 st)).toArray 5 (0, 0)) ∧ Kept (fun _ => False) w wz))
  case first =>
    go_region_held (fun X => Hid (Kept (fun _ => False) w X)) (first | exact k2 | exact k1 | exact (Kept.refl (fun _ => False) w).drew)
      (first
        | (go_at_call 35; (refine (HT.out _ ?_).mono ?_; (exact ((Kept.refl (fun _ => False) w).drew.cell hpw id).trans HPT.out.1); rintro e w1 ⟨rfl, hq1⟩; have k1 : Hid (Kept (fun _ => False) w w1) := (by rw [hq1]; exact (Kept.refl (fun _ => False) w).drew); clear hq1))
        | (go_at_call 33; (refine (HBK.out _ (HPT.out.2.kept k1.out id id id)).mono ?_; rintro e w2 ⟨rfl, hg2, hq2⟩; have k2 : Hid (Kept (fun _ => False) w w2) := k1.out.trans hq2 (fun _ _ h => h); clear hq2)))
    all_goals (go_wp2_with fail; go_meet; case rel => exact ⟨_, rfl, k1.out.size, hg2, k2.out⟩)
  case rest =>
    obtain ⟨gt, rfl, hgt, HG⟩ := hcut
    have c0 : wc.cell? ⟨pa, 0, none⟩ = some (.slice (some ⟨gn, 0, none⟩) (Hm.rdF s).1 (Hm.rdF s).1) := (HG.out.2.cell (p := ⟨pa, 0, none⟩) hpw id).trans HP.out.names
    obtain ⟨i0, hi, hz0, hz1, hz2⟩ := info_parts info_file
    obtain ⟨m, hm⟩ : ∃ m, m = (Hm.rdF s).1 := ⟨_, rfl⟩
    rw [← hm] at c0 hF
    have HM : Hid (m = (Hm.rdF s).1) := hm
    rw [← hm] at HFI HFT HNS
    clear hm HBK HT HPT
    have hpc : pa < wc.heap.size := by have := HG.out.2.size; omega
    have hgsz : gt < wc.heap.size := lt_of_block HG.out.1
    go_wp2_with (at_make; refine wpList_make_full _ rfl (.tmp 25) (.tmp 25) 22 rfl wc.heap.size 38 i0 (.agg #[.string ⟨#[]⟩, .string ⟨#[]⟩]) 2 Tryz.underlying22 hi hz0 hz1 .i64 .i64 _ _ m rfl rfl rfl rfl (by rw [hz2]; omega) (by unfold maxLen; omega) (Nat.le_refl _) ?_; intro w3 ho3 hg3; have hk3 : Kept (fun _ => False) wc w3 := (Kept.refl _ _).grown hg3 (fun k hk => by cases hk); have c03 : w3.cell? ⟨pa, 0, none⟩ = some (.slice (some ⟨gn, 0, none⟩) m m) := (hk3.cell (p := ⟨pa, 0, none⟩) hpc id).trans c0)
    have hr3 := FRow.made ho3
    obtain ⟨gf, hgf⟩ : ∃ x, x = wc.heap.size := ⟨_, rfl⟩
    rw [← hgf] at hr3 ⊢
    have H3 : Hid (FRow w3 gf (List.replicate m (⟨#[]⟩, ⟨#[]⟩)) ∧ Kept (fun _ => False) w w3 ∧ w3.heap[gt]? = some (.cells (Hm.bcells (Hm.textRd s l8 st)).toArray 5 (0, 0))) := ⟨hr3, HG.out.2.trans hk3 (fun _ _ h => h), hk3.row HG.out.1 id⟩
    have hwg : w.heap.size ≤ gf := by rw [hgf]; exact HG.out.2.size
    have hgg : gt < gf := by omega
    clear ho3 hg3 hk3 hr3 HG c0 hgsz hgf
    go_loopw [32] (fun vi wr => ∃ k : Nat, k ≤ m ∧ vi = .int .i64 k ∧ FRow wr gf (Hm.fileRow (Hm.filesRd s l6 l8 st) m k) ∧ Kept (fun _ => False) w wr ∧ wr.heap[gt]? = some (.cells (Hm.bcells (Hm.textRd s l8 st)).toArray 5 (0, 0))) (fun vi _ => m - (intOf vi).toNat)
    case atStart => exact ⟨0, Nat.zero_le _, rfl, by simpa [Hm.fileRow] using H3.out.1, H3.out.2.1, H3.out.2.2⟩
    case round =>
      obtain ⟨k, hk, rfl, hrow, hkr, htx⟩ := hrel
      by_cases hlt : k < m
      · obtain ⟨nm, hnm⟩ : ∃ x, x = (Hm.rdM s).1.getD k ⟨#[]⟩ := ⟨_, rfl⟩
        have hnl : (Hm.rdM s).1.length = m := by rw [HM.out]; exact Hm.namesTo_length _ _
        have cnm : wr.cell? ⟨gn, k, none⟩ = some (.string nm) := by
          rw [hkr.cell (p := ⟨gn, k, none⟩) hgw id, cell_of_row _ _ k _ _ _ HP.out.nblock, List.getElem?_toArray, hnm]
          unfold Hm.vstrs
          rw [List.getElem?_map, List.getD_eq_getElem?_getD, List.getElem?_eq_getElem (show k < (Hm.rdM s).1.length by omega)]; rfl
        have hfi := HFI.out k wr hlt hkr
        have hft := HFT.out k hlt
        have hcl := fun W => clone_any nm W (HNS.out k nm hnm hlt)
        have HFX : Hid ((Hm.filesRd s l6 l8 st)[k]? = some (nm, ⟨(Hm.part (Hm.textRd s l8 st) (Hm.fromRd s l6 k) (Hm.endRd s l6 k)).toArray⟩)) := by
          show _ = _
          unfold Hm.filesRd
          rw [List.getElem?_map, List.getElem?_range (by rw [← HM.out]; exact hlt), hnm]; rfl
        generalize Hm.fromRd s l6 k = fr at hfi hft HFX
        generalize Hm.endRd s l6 k = tz at hfi hft HFX
        have H4 : Hid (FRow wr gf (Hm.fileRow (Hm.filesRd s l6 l8 st) m k) ∧ Kept (fun _ => False) w wr ∧ wr.heap[gt]? = some (.cells (Hm.bcells (Hm.textRd s l8 st)).toArray 5 (0, 0))) := ⟨hrow, hkr, htx⟩
        have hkI : (k : Int) < (m : Int) := by omega
        clear hrow hkr htx hnm hnl
        go_wp2_with fail
        refine hfi.mono ?_
        rintro e w4 ⟨rfl, hk4⟩
        have H5 : Hid (FRow w4 gf (Hm.fileRow (Hm.filesRd s l6 l8 st) m k) ∧ Kept (fun _ => False) w w4 ∧ w4.heap[gt]? = some (.cells (Hm.bcells (Hm.textRd s l8 st)).toArray 5 (0, 0))) := ⟨H4.out.1.kept hk4 id, H4.out.2.1.trans hk4 (fun _ _ h => h), hk4.row H4.out.2.2 id⟩
        clear hfi hk4 H4
        go_wp2_with fail
        refine wp_region_held_drew (S := fun X => X.heap[gt]? = some (.cells (Hm.bcells (Hm.textRd s l8 st)).toArray 5 (0, 0))) (by kernel_rfl) H5.out.2.2 (fun hHeld => ?_)
        refine wpAnyH_take (i := 0) (oi := { dst := some 45, op := Op.move (Operand.tmp 4), type := 22, pos := "hoard.go:66", after := #[], guard := none }) (v := ?_) rfl (by kernel_rfl) (by kernel_rfl) (by kernel_rfl) (fun _ _ _ h => h) (Or.inl ⟨by kernel_rfl, ?_⟩) (by assumption) ?_
        rotate_left
        · intro X hSw
          try dsimp only at hSw
          go_simp
          with_reducible rfl
        simp only [Act.put, List.setIfInBounds_toArray, List.set_cons_zero, List.set_cons_succ]
        refine wpAnyH_take (i := 1) (oi := { dst := some 46, op := Op.move (Operand.tmp 5), type := 3, pos := "hoard.go:66", after := #[], guard := none }) (v := ?_) rfl (by kernel_rfl) (by kernel_rfl) (by kernel_rfl) (fun _ _ _ h => h) (Or.inl ⟨by kernel_rfl, ?_⟩) (by assumption) ?_
        rotate_left
        · intro X hSw
          try dsimp only at hSw
          go_simp
          with_reducible rfl
        simp only [Act.put, List.setIfInBounds_toArray, List.set_cons_zero, List.set_cons_succ]
        refine wpAnyH_take (i := 2) (oi := { dst := some 47, op := Op.move (Operand.tmp 6), type := 9, pos := "hoard.go:66", after := #[], guard := none }) (v := ?_) rfl (by kernel_rfl) (by kernel_rfl) (by kernel_rfl) (fun _ _ _ h => h) (Or.inl ⟨by kernel_rfl, ?_⟩) (by assumption) ?_
        rotate_left
        · intro X hSw
          try dsimp only at hSw
          go_simp
          with_reducible rfl
        simp only [Act.put, List.setIfInBounds_toArray, List.set_cons_zero, List.set_cons_succ]
        refine wpAnyH_take (i := 4) (oi := { dst := some 49, op := Op.move (Operand.tmp 3), type := 79, pos := "hoard.go:66", after := #[], guard := none }) (v := ?_) rfl (by kernel_rfl) (by kernel_rfl) (by kernel_rfl) (fun _ _ _ h => h) (Or.inl ⟨by kernel_rfl, ?_⟩) (by assumption) ?_
        rotate_left
        · intro X hSw
          try dsimp only at hSw
          go_simp
          with_reducible rfl
        simp only [Act.put, List.setIfInBounds_toArray, List.set_cons_zero, List.set_cons_succ]
        refine wpAnyH_take (i := 5) (oi := { dst := some 50, op := Op.move (Operand.tmp 7), type := 3, pos := "hoard.go:66", after := #[], guard := none }) (v := ?_) rfl (by kernel_rfl) (by kernel_rfl) (by kernel_rfl) (fun _ _ _ h => h) (Or.inl ⟨by kernel_rfl, ?_⟩) (by assumption) ?_
        rotate_left
        · intro X hSw
          try dsimp only at hSw
          go_simp
          with_reducible rfl
        simp only [Act.put, List.setIfInBounds_toArray, List.set_cons_zero, List.set_cons_succ]
        refine wpAnyH_take (i := 6) (oi := { dst := some 51, op := Op.move (Operand.tmp 8), type := 3, pos := "hoard.go:66", after := #[], guard := none }) (v := ?_) rfl (by kernel_rfl) (by kernel_rfl) (by kernel_rfl) (fun _ _ _ h => h) (Or.inl ⟨by kernel_rfl, ?_⟩) (by assumption) ?_
        rotate_left
        · intro X hSw
          try dsimp only at hSw
          go_simp
          with_reducible rfl
        simp only [Act.put, List.setIfInBounds_toArray, List.set_cons_zero, List.set_cons_succ]
        obtain ⟨hf1, hf2⟩ := hft
        have hfI : (fr : Int) ≤ (tz : Int) := by omega
        have htI : (tz : Int) ≤ (n : Int) := by omega
        refine wpAnyH_take (i := 7) (oi := { dst := some 52, op := Op.slice 79 (Operand.tmp 49) (some (Operand.tmp 50)) (some (Operand.tmp 51)) none, type := 79, pos := "hoard.go:66", after := #[{ on := 4, ground := Ground.data }, { on := 5, ground := Ground.data }, { on := 6, ground := Ground.data }], guard := none }) (v := .slice (if n = fr then some ⟨gt, 0, none⟩ else some ⟨gt, fr, none⟩) (tz - fr) (n - fr)) rfl (by kernel_rfl) (by kernel_rfl) (by kernel_rfl) (fun _ _ _ h => h) (Or.inl ⟨by kernel_rfl, ?_⟩) (by assumption) ?_
        · intro X hSw
          try dsimp only at hSw
          go_simp
        simp only [Act.put, List.setIfInBounds_toArray, List.set_cons_zero, List.set_cons_succ]
        obtain ⟨PT, hPT⟩ : ∃ x, x = (⟨(Hm.part (Hm.textRd s l8 st) fr tz).toArray⟩ : ByteArray) := ⟨_, rfl⟩
        have HPT : Hid (PT = (⟨(Hm.part (Hm.textRd s l8 st) fr tz).toArray⟩ : ByteArray)) := hPT
        clear hPT
        have htl : (Hm.textRd s l8 st).length = n := by rw [HN.out]; exact Hm.textRd_length s l8 st
        have HCV : Hid (∀ X : World, X.heap[gt]? = some (.cells (Hm.bcells (Hm.textRd s l8 st)).toArray 5 (0, 0)) → (convert 79 9 (.slice (if n = fr then some ⟨gt, 0, none⟩ else some ⟨gt, fr, none⟩) (tz - fr) (n - fr))).run Tryz.prog X = .ok (.string PT) X) := fun X hX => by
          rw [HPT.out]
          by_cases c : n = fr
          · rw [if_pos c, show tz - fr = 0 by omega]
            have := convert_part hX 0 0 (n - fr) (by omega)
            rw [this]; unfold Hm.part; rw [show tz - fr = 0 by omega, List.take_zero, List.take_zero]
          · rw [if_neg c]
            exact convert_part hX fr (tz - fr) (n - fr) (by omega)
        refine wpAnyH_take (i := 8) (oi := { dst := some 53, op := Op.convert 79 9 (Operand.tmp 52), type := 9, pos := "hoard.go:66", after := #[{ on := 7, ground := Ground.data }], guard := none }) (v := .string PT) rfl (by kernel_rfl) (by kernel_rfl) (by kernel_rfl) (fun _ _ _ h => h) (Or.inl ⟨by kernel_rfl, fun X hX => run_conv_op X 79 9 (.tmp 52) rfl _ _ rfl (HCV.out X hX)⟩) (by assumption) ?_
        simp only [Act.put, List.setIfInBounds_toArray, List.set_cons_zero, List.set_cons_succ]
        clear HCV
        refine wpAnyH_ready (rs := [3]) (by kernel_rfl) (by simp) ?_
        refine AllReadyH.cons rfl (fun K hK => ?_) AllReadyH.nil
        go_simp
        refine (hcl _).mono ?_
        rintro e w5 ⟨rfl, hk5⟩
        have hk45 : Kept (fun _ => False) w4 w5 := (Kept.refl (fun _ => False) w4).drew.trans hk5 (fun _ _ h => h)
        have hR := Hm.fileRow_length (Hm.filesRd s l6 l8 st) m k (by rw [HM.out]; exact Hm.filesRd_length s l6 l8 st) hk
        have HRS := Hm.fileRow_succ (Hm.filesRd s l6 l8 st) m k (by rw [HM.out]; exact Hm.filesRd_length s l6 l8 st) hlt _ HFX.out
        rw [← HPT.out] at HRS
        generalize Hm.fileRow (Hm.filesRd s l6 l8 st) m k = R at H5 hR HRS
        have HRS' : Hid (R.set k (nm, PT) = Hm.fileRow (Hm.filesRd s l6 l8 st) m (k + 1)) := HRS
        have hF5 := H5.out.1.kept hk45 id
        have q1 := hF5.fst (i := k) (by omega)
        have q2 := hF5.snd (i := k) (by omega)
        have fz1 := hF5.free (k * 2)
        have fz2 := hF5.free (k * 2 + 1)
        have H6 : Hid (FRow w5 gf R ∧ Kept (fun _ => False) w w5 ∧ w5.heap[gt]? = some (.cells (Hm.bcells (Hm.textRd s l8 st)).toArray 5 (0, 0))) := ⟨hF5, H5.out.2.1.trans hk45 (fun _ _ h => h), hk45.row H5.out.2.2 id⟩
        refine hK.out _ _ H6.out.2.2 (fun hHeld => ?_)
        clear hK K hk5 hk45 hF5 H5 HRS hcl htl HPT HFX
        refine wpAnyH_take (i := 9) (oi := { dst := some 54, op := Op.build 38 #[(0, Operand.tmp 48), (1, Operand.tmp 53)], type := 38, pos := "hoard.go:66", after := #[{ on := 3, ground := Ground.data }, { on := 8, ground := Ground.data }], guard := none }) (v := ?_) rfl (by kernel_rfl) (by kernel_rfl) (by kernel_rfl) (fun _ _ _ h => h) (Or.inl ⟨by kernel_rfl, ?_⟩) (by assumption) ?_
        rotate_left
        · intro X hSw
          try dsimp only at hSw
          go_simp
          with_reducible rfl
        simp only [Act.put, List.setIfInBounds_toArray, List.set_cons_zero, List.set_cons_succ]
        refine wpAnyH_take (i := 10) (oi := { dst := some 55, op := Op.indexAddr 22 (Operand.tmp 45) (Operand.tmp 46), type := 0, pos := "hoard.go:66", after := #[{ on := 0, ground := Ground.data }, { on := 1, ground := Ground.data }, { on := 0, ground := Ground.phase }, { on := 1, ground := Ground.phase }, { on := 2, ground := Ground.phase }, { on := 3, ground := Ground.phase }, { on := 4, ground := Ground.phase }, { on := 5, ground := Ground.phase }, { on := 6, ground := Ground.phase }, { on := 7, ground := Ground.phase }, { on := 8, ground := Ground.phase }, { on := 9, ground := Ground.phase }], guard := none }) (v := ?_) rfl (by kernel_rfl) (by kernel_rfl) (by kernel_rfl) (fun _ _ _ h => h) (Or.inl ⟨by kernel_rfl, ?_⟩) (by assumption) ?_
        rotate_left
        · intro X hSw
          try dsimp only at hSw
          go_simp
          with_reducible rfl
        simp only [Act.put, List.setIfInBounds_toArray, List.set_cons_zero, List.set_cons_succ]
        refine wpAnyH_ready (rs := [11]) (by kernel_rfl) (by simp) ?_
        refine AllReadyH.cons rfl (fun K hK => ?_) AllReadyH.nil
        go_simp
        have hne : gt ≠ gf := by omega
        have hkz : Kept (fun j => j = gf) w5 ((w5.setCell ⟨gf, k * 2, none⟩ (.string nm)).setCell ⟨gf, k * 2 + 1, none⟩ (.string PT)) := ((Kept.refl (fun j => j = gf) w5).setCell (p := ⟨gf, k * 2, none⟩) (.inr rfl) _).setCell (p := ⟨gf, k * 2 + 1, none⟩) (.inr rfl) _
        have H7 : Hid (FRow ((w5.setCell ⟨gf, k * 2, none⟩ (.string nm)).setCell ⟨gf, k * 2 + 1, none⟩ (.string PT)) gf (Hm.fileRow (Hm.filesRd s l6 l8 st) m (k + 1)) ∧ Kept (fun _ => False) w ((w5.setCell ⟨gf, k * 2, none⟩ (.string nm)).setCell ⟨gf, k * 2 + 1, none⟩ (.string PT)) ∧ ((w5.setCell ⟨gf, k * 2, none⟩ (.string nm)).setCell ⟨gf, k * 2 + 1, none⟩ (.string PT)).heap[gt]? = some (.cells (Hm.bcells (Hm.textRd s l8 st)).toArray 5 (0, 0))) :=
          ⟨by rw [← HRS'.out]; exact H6.out.1.put k nm PT (by omega), H6.out.2.1.trans hkz (fun j h1 h2 => by omega), hkz.row H6.out.2.2 hne⟩
        generalize (w5.setCell ⟨gf, k * 2, none⟩ (.string nm)).setCell ⟨gf, k * 2 + 1, none⟩ (.string PT) = wz at H7 ⊢
        refine hK.out _ _ H7.out.2.2 (fun hHeld => ?_)
        clear hK K hkz H6 q1 q2 fz1 fz2
        refine wpAnyH_done (by kernel_rfl) ?_ _
        go_wp2_with fail
        go_roundw
        case rel => exact ⟨k + 1, by omega, by go_num, H7.out.1, H7.out.2.1, H7.out.2.2⟩
        case measure => simp [intOf]; omega
      · obtain rfl : k = m := by omega
        have H4 : Hid (FRow wr gf (Hm.filesRd s l6 l8 st) ∧ Kept (fun _ => False) w wr) := ⟨by rw [Hm.fileRow_all _ _ (by rw [HM.out]; exact Hm.filesRd_length s l6 l8 st)] at hrow; exact hrow, hkr⟩
        clear hrow hkr htx
        go_wp2_with fail
        go_ret
        exact ⟨gf, by rw [← HM.out]; rfl, hwg, H4.out.1, H4.out.2⟩

end Go.Proofs.YtegnkfdbmmndaaaGreat
end

/- LoadMain -/
section
/- Load of any bytes. -/
namespace Go.Proofs.YtegnkfdbmmndaaaGreat
open Go.RowKit

/-- What Load hands back. -/
def LoadSays (B : Nat) (w' : World) (s : List UInt8) (e : Ending) : Prop :=
  (∃ pa l6 L l8 st, B ≤ pa ∧ Hm.Parse s l6 L l8 st ∧ ArchAt B w' pa s l6 L l8 st ∧ Hm.ckAll (Hm.filesRd s l6 l8 st) = 0 ∧ Hm.IsArch (Hm.filesRd s l6 l8 st) s ∧ e = .returned (.tuple #[.pointer (some ⟨pa, 0, none⟩), .int .i64 0])) ∨
  ((∀ l6 L l8 st, Hm.Parse s l6 L l8 st → Hm.ckAll (Hm.filesRd s l6 l8 st) = 0 → ¬ Hm.IsArch (Hm.filesRd s l6 l8 st) s) ∧ e = .returned (.tuple #[.pointer none, .int .i64 6]))

namespace Hm
theorem Parse.unique {s l6 l6' : List UInt8} {L L' : List Nat} {l8 l8' : List UInt8} {st st' : LaySt} (h : Parse s l6 L l8 st) (h' : Parse s l6' L' l8' st') : l6 = l6' ∧ L = L' ∧ l8 = l8' ∧ st = st' := by
  have e1 : l6 = l6' := Option.some.inj (h.names.symm.trans h'.names)
  subst e1
  have e2 := h.lens.symm.trans h'.lens
  injection e2 with e3 e4
  injection e4 with e4
  subst e3 e4
  exact ⟨rfl, rfl, rfl, Option.some.inj (h.tree.2.symm.trans h'.tree.2)⟩
theorem filesRd_sizes (s l6 l8 : List UInt8) (st : LaySt) : ∀ f ∈ filesRd s l6 l8 st, f.1.size ≤ 140737488355328 ∧ f.2.size ≤ 140737488355328 := by
  intro f hf
  obtain ⟨i, hi, rfl⟩ := List.mem_map.1 hf
  constructor
  · exact Nat.le_trans (namesTo_size (rdB s) (rdF s).1 i) (by omega)
  · show (part _ _ _).toArray.size ≤ _
    rw [List.size_toArray]
    unfold part
    have h1 := textRd_length s l8 st
    have h2 := rdN_lt s
    rw [List.length_take, List.length_drop]
    omega
end Hm

theorem load_any (hones : OnesSays) (hLn : LenSays) (s : List UInt8) (w : World) (hs : s.length ≤ 281474976710656) :
    Calls Tryz.prog 12 #[.string ⟨s.toArray⟩] w fun e w' => Kept (fun _ => False) w w' ∧ LoadSays w.heap.size w' s e := by
  have hrd := read_any hones hLn s w hs
  obtain ⟨S, hS⟩ : ∃ S, S = (⟨s.toArray⟩ : ByteArray) := ⟨_, rfl⟩
  rw [← hS] at hrd ⊢
  have HS : Hid (S = (⟨s.toArray⟩ : ByteArray)) := hS
  clear hS
  go_enter Tryz.func12, Tryz.ntmps12
  go_wp2_with fail
  refine hrd.mono ?_
  rintro e w1 ⟨hk1, pa, ok, hpa, rfl, hgot⟩
  rcases hgot.arch with ⟨rfl, l6, L, l8, st, hP, hA⟩ | ⟨rfl, hno⟩
  rotate_left
  · clear hrd
    have H : Hid (Kept (fun _ => False) w w1) := hk1
    have HN : Hid (∀ l6 L l8 st, ¬ Hm.Parse s l6 L l8 st) := hno
    clear hk1 hgot hno
    go_wp2_with fail
    go_ret2
    exact ⟨H.out, .inr ⟨fun l6 L l8 st h => absurd h (HN.out l6 L l8 st), rfl⟩⟩
  · have hun := unpack_any hones w.heap.size pa s l6 L l8 st w1 hP hA
    have H1 : Hid (Kept (fun _ => False) w w1 ∧ Hm.Parse s l6 L l8 st ∧ ArchAt w.heap.size w1 pa s l6 L l8 st) := ⟨hk1, hP, hA⟩
    have hfl := Hm.filesRd_length s l6 l8 st
    have hF := Hm.rdF_lt s
    have hsz := Hm.filesRd_sizes s l6 l8 st
    rw [← hfl] at hun
    have HSZ : Hid ((Hm.filesRd s l6 l8 st).length ≤ 255 ∧ ∀ f ∈ Hm.filesRd s l6 l8 st, f.1.size ≤ 140737488355328 ∧ f.2.size ≤ 140737488355328) := ⟨by omega, hsz⟩
    have HU : Hid (∀ l6' L' l8' st', Hm.Parse s l6' L' l8' st' → Hm.filesRd s l6' l8' st' = Hm.filesRd s l6 l8 st) := fun l6' L' l8' st' h => by
      obtain ⟨e1, _, e3, e4⟩ := Hm.Parse.unique h hP
      rw [e1, e3, e4]
    generalize hfs : Hm.filesRd s l6 l8 st = fs at hun HSZ HU
    have HFS : Hid (Hm.filesRd s l6 l8 st = fs) := hfs
    clear hk1 hP hA hgot hrd hfl hF hsz hfs
    go_wp2_with fail
    refine hun.mono ?_
    rintro e w2 ⟨gf, rfl, hgf, hrow, hk2⟩
    have hat : FilesAt w2 (some ⟨gf, 0, none⟩) fs := FRow.at (r := []) (by rw [List.append_nil]; exact hrow)
    have hpk := pack_any (some ⟨gf, 0, none⟩) fs.length fs w2 hat (fun a ha => by injection ha with ha; rw [← ha]; exact hrow.lt) (by have := HSZ.out.1; omega) HSZ.out.2
    have H2 : Hid (Kept (fun _ => False) w w2 ∧ Hm.Parse s l6 L l8 st ∧ ArchAt w.heap.size w2 pa s l6 L l8 st) := ⟨H1.out.1.trans hk2 (fun _ _ h => h), H1.out.2.1, H1.out.2.2.kept hk2 (fun _ _ _ => id) id⟩
    clear hat hrow hk2 H1 hun
    go_wp2_with fail
    refine hpk.mono ?_
    rintro e w3 ⟨hps, hk3⟩
    have H3 : Hid (Kept (fun _ => False) w w3 ∧ Hm.Parse s l6 L l8 st ∧ ArchAt w.heap.size w3 pa s l6 L l8 st) := ⟨H2.out.1.trans hk3 (fun _ _ h => h), H2.out.2.1, H2.out.2.2.kept hk3 (fun _ _ _ => id) id⟩
    clear hpk H2 hk3
    rcases hps with ⟨hck, rfl⟩ | ⟨hck, s', hIs, rfl⟩
    · have HC : Hid (Hm.ckAll fs ≠ 0) := hck
      have hne := hck
      clear hck
      generalize Hm.ckAll fs = c at hne ⊢
      have hd : (c == 0) = false := by simpa using hne
      have hd2 : (c != 0) = true := by simpa using hne
      clear hne
      go_wp2_with fail
      go_ret2
      exact ⟨H3.out.1, .inr ⟨fun l6' L' l8' st' h h0 => by rw [HU.out _ _ _ _ h] at h0; exact absurd h0 HC.out, rfl⟩⟩
    · obtain ⟨S', hS'⟩ : ∃ x, x = (⟨s'.toArray⟩ : ByteArray) := ⟨_, rfl⟩
      rw [← hS']
      have HI : Hid (Hm.ckAll fs = 0 ∧ Hm.IsArch fs s' ∧ S' = (⟨s'.toArray⟩ : ByteArray)) := ⟨hck, hIs, hS'⟩
      by_cases hse : s' = s
      · have hSS : S' = S := by rw [hS', HS.out, hse]
        rw [hSS]
        have HSE : Hid (s' = s) := hse
        clear hck hIs hS' hse hSS
        go_wp2_with fail
        go_ret2
        refine ⟨H3.out.1, .inl ⟨pa, l6, L, l8, st, hpa, H3.out.2.1, H3.out.2.2, by rw [HFS.out]; exact HI.out.1, ?_, rfl⟩⟩
        have := HI.out.2.1
        rw [HSE.out] at this
        rw [HFS.out]; exact this
      · have hSS : (S'.toList == S.toList) = false := by
          rw [hS', HS.out, ByteArray.toList_eq, ByteArray.toList_eq, beq_eq_false_iff_ne]
          exact hse
        have HSE : Hid (¬ s' = s) := hse
        clear hck hIs hS' hse
        go_wp2_with fail
        go_ret2
        refine ⟨H3.out.1, .inr ⟨fun l6' L' l8' st' h h0 h1 => ?_, rfl⟩⟩
        rw [HU.out _ _ _ _ h] at h1
        exact HSE.out (Hm.IsArch.unique (Hm.ckAll_ok HI.out.1).2.2 HI.out.2.1 h1)

end Go.Proofs.YtegnkfdbmmndaaaGreat
end

/- StoreA -/
section
/- The archive that the laws store. -/
namespace Go.Proofs.YtegnkfdbmmndaaaGreat
open Go.RowKit

theorem ownsRow_files {w : World} {base : Nat} {v : Value} {fs : List Hm.Fl} (h : w.ownsRow base 38 2 v fs.length (Hm.fcells fs)) : ∃ ao c, v = .slice ao fs.length c ∧ FilesAt w ao fs ∧ ∀ a, ao = some a → a.block < w.heap.size := by
  rcases h.2 with ⟨rfl, h0⟩ | ⟨g, cap, cur, rfl, _, hb, _⟩
  · exact ⟨none, 0, by rw [h0], fun i hi => by omega, by simp⟩
  · have hlt : g < w.heap.size := (h.lt g rfl).2
    refine ⟨_, cap, rfl, fun i hi => ⟨g, 0, rfl, hlt, ?_, ?_⟩, fun a ha => by cases ha; exact hlt⟩
    · rw [Nat.zero_add, h.cellAt _ (by omega)]; exact Hm.fcells_fst fs i hi
    · rw [Nat.zero_add, h.cellAt _ (by omega)]; exact Hm.fcells_snd fs i hi

/-- Files are stored: an archive of them, and what was loaded of it. -/
structure StoredAt (w w' : World) (fs : List Hm.Fl) (s : List UInt8) (B pa : Nat) (l6 : List UInt8) (L : List Nat) (l8 : List UInt8) (st : Hm.LaySt) : Prop where
  is : Hm.IsArch fs s
  ge : w.heap.size ≤ B
  le : B ≤ pa
  parse : Hm.Parse s l6 L l8 st
  files : Hm.filesRd s l6 l8 st = fs
  arch : ArchAt B w' pa s l6 L l8 st

theorem stored_any (hones : OnesSays) (hLn : LenSays) (ao : Option Addr) (c : Nat) (fs : List Hm.Fl) (w : World) (hf : FilesAt w ao fs) (hfb : ∀ a, ao = some a → a.block < w.heap.size) (hck : Hm.ckAll fs = 0) :
    Calls Tryz.prog 18 #[.slice ao fs.length c] w fun e w' => Kept (fun _ => False) w w' ∧ ∃ s B pa l6 L l8 st, StoredAt w w' fs s B pa l6 L l8 st ∧ e = .returned (.tuple #[.pointer (some ⟨pa, 0, none⟩), .string ⟨s.toArray⟩]) := by
  obtain ⟨hm, h32, hn⟩ := Hm.ckAll_ok hck
  have hpk := pack_any ao c fs w hf hfb (by omega) (fun f hf => ⟨by have := (h32 f hf).1; omega, by have := (h32 f hf).2; omega⟩)
  have HCK : Hid (Hm.ckAll fs = 0) := hck
  clear h32 hf hfb hck hn
  go_enter Tryz.func18, Tryz.ntmps18
  go_wp2_with fail
  refine hpk.mono ?_
  rintro e w1 ⟨hps, hk1⟩
  rcases hps with ⟨hne, _⟩ | ⟨_, s, hIs, rfl⟩
  · exact absurd HCK.out hne
  have hln := Hm.arch_length HCK.out hIs
  have hld := load_any hones hLn s w1 (by omega)
  obtain ⟨S, hS⟩ : ∃ S, S = (⟨s.toArray⟩ : ByteArray) := ⟨_, rfl⟩
  rw [← hS] at hld ⊢
  have H1 : Hid (Kept (fun _ => False) w w1 ∧ Hm.IsArch fs s ∧ S = (⟨s.toArray⟩ : ByteArray)) := ⟨hk1, hIs, hS⟩
  clear hpk hk1 hIs hS hln
  go_wp2_with fail
  refine hld.mono ?_
  rintro e w2 ⟨hk2, hsay⟩
  obtain ⟨l6', L', l8', st', hP', hfs'⟩ := Hm.arch_back HCK.out H1.out.2.1
  rcases hsay with ⟨pa, l6, L, l8, st, hpa, hP, hA, hck', hI', rfl⟩ | ⟨hno, _⟩
  · have H2 : Hid (Kept (fun _ => False) w w2 ∧ StoredAt w w2 fs s w1.heap.size pa l6 L l8 st) := by
      refine ⟨H1.out.1.trans hk2 (fun _ _ h => h), H1.out.2.1, H1.out.1.size, hpa, hP, ?_, hA⟩
      obtain ⟨rfl, _, rfl, rfl⟩ := Hm.Parse.unique hP' hP
      exact hfs'
    clear hld hk2 hP' hfs' hP hA hck' hI' hpa
    go_wp2_with fail
    go_ret2
    refine ⟨H2.out.1, s, w1.heap.size, pa, l6, L, l8, st, H2.out.2, ?_⟩
    rw [H1.out.2.2]; rfl
  · exact absurd (by rw [hfs']; exact H1.out.2.1) (hno l6' L' l8' st' hP' (by rw [hfs']; exact HCK.out))

end Go.Proofs.YtegnkfdbmmndaaaGreat
end

/- RndA -/
section
/- All that is known of what was read of an archive; steps back from any row. -/
namespace Go.Proofs.YtegnkfdbmmndaaaGreat
namespace Hm

/-- What was read of an archive of files, and what it is. -/
structure ArchIs (fs : List (ByteArray × ByteArray)) (s l6 l8 : List UInt8) (st : LaySt) (ps : List Nat) : Prop where
  sorted : Sorted (textOf fs) ps
  few : fs.length ≤ 40
  small : (textOf fs).length ≤ 6000
  nF : (rdF s).1 = fs.length
  nN : (rdN s).1 = (textOf fs).length
  nR : (rdR s).1 = rootOf ps
  col : colRd l8 (textOf fs).length st = colOf (textOf fs) ps
  samp : ∃ X, l8.drop (szB st.len) = packBits (samples ps) ++ X
  ends : ∀ j, j < fs.length → endRd s l6 j = (textOf (fs.take (j + 1))).length
  froms : ∀ i, i < fs.length → fromRd s l6 i = (textOf (fs.take i)).length

theorem arch_whole0 {fs : List (ByteArray × ByteArray)} {s : List UInt8} (hck : ckAll fs = 0) (hA : IsArch fs s) : ∃ l6 L l8 st ps, Parse s l6 L l8 st ∧ ArchIs fs s l6 l8 st ps := by
  obtain ⟨hm, h32, hn⟩ := ckAll_ok hck
  obtain ⟨ps, N, hps, _, hE, es⟩ := hA.is
  have hC := lens_coded (textOf fs) hn
  have hmem : ∀ b ∈ colOf (textOf fs) ps, b ∈ orderOf (lens (textOf fs)) := fun b hb => (lens_mem _ hn b).2 (colOf_mem hps.perm b hb)
  have hroot := (rootOf_idx hps.perm).2
  have hcl := colOf_length hps.perm
  obtain ⟨t, ht⟩ : ∃ t, t = textOf fs := ⟨_, rfl⟩
  obtain ⟨tr, htr⟩ : ∃ tr, tr = trOf (lens (textOf fs)) N (colOf (textOf fs) ps) := ⟨_, rfl⟩
  obtain ⟨SB, hSB⟩ : ∃ x, x = leBytes (crc (archBody fs ps tr)) 4 := ⟨_, rfl⟩
  have hSl : SB.length = 4 := by rw [hSB, leBytes_length]
  obtain ⟨X9, hX9⟩ : ∃ x, x = packBits (samples ps) ++ SB := ⟨_, rfl⟩
  obtain ⟨X8, hX8⟩ : ∃ x, x = packBits tr ++ X9 := ⟨_, rfl⟩
  obtain ⟨X7, hX7⟩ : ∃ x, x = leBytes (codedOf (lens (textOf fs))).length 2 ++ (lenBytes (lens (textOf fs)) (codedOf (lens (textOf fs))) ++ X8) := ⟨_, rfl⟩
  obtain ⟨X6, hX6⟩ : ∃ x, x = packBits (endsBits (endsOf fs) (textOf fs).length) ++ X7 := ⟨_, rfl⟩
  have hs : s = [72, 79, 65, 82, 68, 49, UInt8.ofNat fs.length] ++ (leBytes (textOf fs).length 2 ++ (leBytes (rootOf ps) 2 ++ (nameBytes fs ++ X6))) := by
    rw [es, ← htr, hX6, hX7, hX8, hX9, hSB]
    unfold archOf archBody
    simp only [List.append_assoc]
  have hbody : s = archBody fs ps tr ++ SB := by rw [es, ← htr, hSB]; rfl
  have hhead := head_app fs (textOf fs).length (rootOf ps) X6 (by omega) (by omega) hroot (fun f hf => (h32 f hf).1)
  simp only at hhead
  rw [← hs] at hhead
  obtain ⟨eF, eN, eR, eM⟩ := hhead
  have hel := endsOf_length fs
  obtain ⟨q1, q2, q3⟩ := endsOk_app (endsOf fs) (textOf fs).length hn (endsOf_up fs) X7
  rw [← hX6, hel] at q1 q2 q3
  obtain ⟨st, t1, t2, t3⟩ := treeOk_app hC hE hmem X9
  rw [← htr, ← hX8, hcl] at t1
  rw [← htr] at t2
  rw [← htr, ← hX8] at t3
  obtain ⟨s1, s2⟩ := sampOk_app hps.perm SB
  rw [← hX9] at s1 s2
  have hd8 : X8.drop (szB st.len) = X9 := by rw [t2, hX8, List.drop_left]
  have hP : Parse s X6 (lens (textOf fs)) X8 st := by
    refine ⟨by rw [eM], by rw [eF, eN]; exact q1, ?_, by rw [eN]; exact t1, by rw [eN, hd8]; exact s1, ?_⟩
    · rw [eF, eN, q2, hX7]
      exact rdL_app _ _ hC.len (lens_le255 hC)
    · rw [eN, hd8, s2]
      have hlen : s.length - 4 = (archBody fs ps tr).length := by rw [hbody, List.length_append, hSl]; omega
      have htake : s.take (s.length - 4) = archBody fs ps tr := by rw [hlen, hbody, List.take_left]
      unfold sumO
      rw [htake, show numO (some SB) 4 = (crc (archBody fs ps tr), some []) from by
        have := numO_app (crc (archBody fs ps tr)) 4 [] (by have := crc_lt (archBody fs ps tr); omega)
        rwa [List.append_nil, ← hSB] at this]
      exact if_pos ⟨rfl, rfl⟩
  refine ⟨X6, lens (textOf fs), X8, st, ps, hP, ?_⟩
  have hcol : colRd X8 (textOf fs).length st = colOf (textOf fs) ps := by
    obtain ⟨c1, c2, _⟩ := colRd_is t1
    exact c2.unique t3 (by rw [c1, hcl])
  have hend : ∀ j, j < fs.length → endRd s X6 j = (textOf (fs.take (j + 1))).length := fun j hj => by
    unfold endRd
    rw [eF, eN, q3 j (by omega), endsOf_getD fs j hj]
  have hfrom : ∀ i, i < fs.length → fromRd s X6 i = (textOf (fs.take i)).length := fun i hi => by
    show (if i = 0 then 0 else _) = _
    by_cases c : i = 0
    · rw [if_pos c, c]; rfl
    · rw [if_neg c]
      have := hend (i - 1) (by omega)
      rw [show i - 1 + 1 = i from by omega] at this
      exact this
  exact ⟨hps, hm, hn, eF, eN, eR, hcol, ⟨SB, by rw [hd8, hX9]⟩, hend, hfrom⟩

theorem arch_whole {fs : List (ByteArray × ByteArray)} {s l6 : List UInt8} {L : List Nat} {l8 : List UInt8} {st : LaySt} (hck : ckAll fs = 0) (hA : IsArch fs s) (hP : Parse s l6 L l8 st) : ∃ ps, ArchIs fs s l6 l8 st ps := by
  obtain ⟨a, b, c, d, ps, h, hw⟩ := arch_whole0 hck hA
  obtain ⟨rfl, _, rfl, rfl⟩ := Parse.unique h hP
  exact ⟨ps, hw⟩

/-- Going back from any row. -/
theorem backTo_from {t : List UInt8} {ps ws : List Nat} (h : Sorted t ps) (hw : Weighs ws (colOf t ps)) (row q : Nat) (hr : row < ps.length) (e : ps[row] = q) (hq : q ≤ t.length) : ∀ k, k ≤ q → (backTo (longer (colOf t ps) ws (rootOf ps)) row k).1 = part t (q - k) q ∧ ∃ hj : (backTo (longer (colOf t ps) ws (rootOf ps)) row k).2 < ps.length, ps[(backTo (longer (colOf t ps) ws (rootOf ps)) row k).2] = q - k
  | 0, _ => by
    refine ⟨?_, hr, e⟩
    unfold part
    rw [Nat.sub_zero, Nat.sub_self]; rfl
  | k + 1, hk => by
    obtain ⟨h1, hj, h2⟩ := backTo_from h hw row q hr e hq k (by omega)
    obtain ⟨j, hj2, e2⟩ := row_of h (q - (k + 1)) (by omega)
    have hl := longer_is h hw _ j (q - (k + 1)) hj hj2 (by rw [h2]; omega) e2
    have e1 : backTo (longer (colOf t ps) ws (rootOf ps)) row (k + 1) = (t.getD (q - (k + 1)) 0 :: (backTo (longer (colOf t ps) ws (rootOf ps)) row k).1, j) := by
      rw [backTo, hl]
    rw [e1]
    refine ⟨?_, hj2, e2⟩
    show _ :: _ = _
    rw [h1]
    unfold part
    have hlt : q - (k + 1) < t.length := by omega
    rw [List.drop_eq_getElem_cons hlt, List.getD_eq_getElem?_getD, List.getElem?_eq_getElem hlt, show q - (k + 1) + 1 = q - k from by omega, show q - (q - (k + 1)) = k + 1 from by omega, show q - (q - k) = k from by omega, List.take_succ_cons]
    rfl

end Hm
end Go.Proofs.YtegnkfdbmmndaaaGreat
end

/- RndB -/
section
/- What the samples of an archive tell. -/
namespace Go.Proofs.YtegnkfdbmmndaaaGreat
namespace Hm

theorem filter_at (g : Nat → Bool) : ∀ (ps : List Nat) (p : Nat) (h : p < ps.length), g ps[p] = true → (ps.filter g).getD ((ps.take p).countP g) 0 = ps[p] ∧ (ps.take p).countP g < (ps.filter g).length
  | [], p, h, _ => by simp at h
  | x :: r, 0, _, hg => by
    have hx : g x = true := hg
    rw [List.filter_cons_of_pos hx]
    exact ⟨rfl, by simp⟩
  | x :: r, p + 1, h, hg => by
    have h' : p < r.length := by simpa using h
    obtain ⟨h1, h2⟩ := filter_at g r p h' hg
    rw [List.take_succ_cons, List.countP_cons]
    by_cases hx : g x = true
    · rw [List.filter_cons_of_pos hx, if_pos hx, List.getD_cons_succ]
      exact ⟨h1, by rw [List.length_cons]; omega⟩
    · rw [List.filter_cons_of_neg hx, if_neg hx, Nat.add_zero]
      exact ⟨h1, h2⟩
theorem bitLen_pow (x : Nat) : x < 18446744073709551616 → x < 2 ^ Lib.bitLen x := by
  induction x using Nat.strongRecOn with
  | ind x ih =>
    intro hx
    by_cases h0 : x = 0
    · subst h0; exact Nat.pow_pos (by omega)
    · rw [Lib.bitLen_half x h0 (by omega), Nat.add_comm, Nat.pow_succ]
      have := ih (x / 2) (by omega) (by omega)
      omega
/-- A row whose place is told. -/
theorem samp_told {n : Nat} {ps : List Nat} (hn : n ≤ 6000) (h : ps.Perm (List.range (n + 1))) (f : Nat → Bool) (hf : ∀ p, p < (samples ps).length → f p = (samples ps).getD p false) (j p : Nat) (hp : p < n + 1) (ho : IsOne f j p) :
    ∃ hp' : p < ps.length, numAt f (n + 1 + j * Lib.bitLen (n / 8)) (Lib.bitLen (n / 8)) * 8 = ps[p] := by
  have hl : ps.length = n + 1 := by have := h.length_eq; simpa using this
  have hs : (samples ps).length = sampLen n := samples_length h
  have hp' : p < ps.length := by omega
  refine ⟨hp', ?_⟩
  have hmap : ∀ q, q < ps.length → (samples ps).getD q false = decide (ps.getD q 0 % 8 = 0) := fun q hq => by
    unfold samples
    rw [List.getD_eq_getElem?_getD, List.getElem?_append_left (by rw [List.length_map]; exact hq), List.getElem?_map, List.getD_eq_getElem?_getD, List.getElem?_eq_getElem hq]; rfl
  have hbit := ho.is
  have hsl : ps.length ≤ (samples ps).length := by rw [hs]; unfold sampLen; omega
  rw [hf p (by omega), hmap p hp', List.getD_eq_getElem?_getD, List.getElem?_eq_getElem hp'] at hbit
  have h8 : ps[p] % 8 = 0 := of_decide_eq_true hbit
  have hrk := ho.nr
  rw [rk_list f ((samples ps).take ps.length) (fun q hq => by
    rw [List.length_take] at hq
    rw [hf q (by omega), List.getD_eq_getElem?_getD, List.getD_eq_getElem?_getD, List.getElem?_take, if_pos (by omega)]) p (by rw [List.length_take]; omega)] at hrk
  have e1 : (samples ps).take ps.length = ps.map fun p => decide (p % 8 = 0) := by
    unfold samples
    rw [List.take_left' (by rw [List.length_map])]
  rw [e1, ← List.map_take, List.countP_map] at hrk
  have hrk : (ps.take p).countP (fun p => decide (p % 8 = 0)) = j := hrk
  obtain ⟨g1, g2⟩ := filter_at (fun p => decide (p % 8 = 0)) ps p hp' (decide_eq_true h8)
  rw [hrk] at g1 g2
  obtain ⟨wd, hwd⟩ : ∃ wd, wd = Lib.bitLen (n / 8) := ⟨_, rfl⟩
  rw [← hwd]
  have hpm : ps[p] < n + 1 := by have := h.subset (List.getElem_mem hp'); simpa using this
  have hx : ps[p] / 8 < 2 ^ wd := by
    rw [hwd]
    refine Nat.lt_of_le_of_lt ?_ (bitLen_pow (n / 8) (by omega))
    exact Nat.div_le_div_right (by omega)
  have hlow : sampBits ps wd = endLow ((ps.filter fun p => decide (p % 8 = 0)).map (· / 8)) wd := by
    unfold sampBits endLow
    rw [List.flatMap_map]
  have hnum : numAt f (n + 1 + j * wd) wd = ps[p] / 8 := by
    rw [numAt_mod f (n + 1 + j * wd) (ps[p] / 8) wd ?_, Nat.mod_eq_of_lt hx]
    intro i hi
    have hg := endLow_get wd ((ps.filter fun p => decide (p % 8 = 0)).map (· / 8)) j i (by rw [List.length_map]; exact g2) hi
    have hge : ((ps.filter fun p => decide (p % 8 = 0)).map (· / 8)).getD j 0 = ps[p] / 8 := by
      rw [List.getD_eq_getElem?_getD, List.getElem?_map]
      rw [List.getD_eq_getElem?_getD, List.getElem?_eq_getElem g2] at g1
      rw [List.getElem?_eq_getElem g2]
      show _ / 8 = _
      rw [show (ps.filter fun p => decide (p % 8 = 0))[j] = ps[p] from g1]
    rw [hge, ← hlow] at hg
    have hlen : ((ps.map fun p => decide (p % 8 = 0)) : List Bool).length = n + 1 := by rw [List.length_map, hl]
    have hfl : (ps.filter fun p => decide (p % 8 = 0)).length = n / 8 + 1 := by rw [← List.countP_eq_length_filter, h.countP_eq, count_eights]
    have hin : n + 1 + j * wd + i < (samples ps).length := by
      rw [hs]; unfold sampLen; rw [← hwd]
      have : (j + 1) * wd ≤ (n / 8 + 1) * wd := Nat.mul_le_mul_right _ (by omega)
      rw [Nat.add_mul, Nat.one_mul] at this
      omega
    rw [hf _ hin, ← hg]
    unfold samples
    rw [List.getD_eq_getElem?_getD, List.getElem?_append_right (by rw [hlen]; omega), hlen, show ps.length - 1 = n from by omega, ← hwd, show n + 1 + j * wd + i - (n + 1) = j * wd + i from by omega, ← List.getD_eq_getElem?_getD]
  rw [hnum]
  omega

end Hm
end Go.Proofs.YtegnkfdbmmndaaaGreat
end

/- RndC -/
section
/- A row near a place. -/
namespace Go.Proofs.YtegnkfdbmmndaaaGreat
open Go.RowKit

/-- Samples in memory. -/
structure SampAt (w : World) (pb o : Nat) (T : ByteArray) (len g n : Nat) : Prop where
  bits : CountedAt w pb o T len g
  total : w.cell? ⟨pb, o + 3, none⟩ = some (.int .i64 (n : Nat))
theorem SampAt.kept {S : Nat → Prop} {w w' : World} {pb o len g n : Nat} {T : ByteArray} (h : SampAt w pb o T len g n) (hk : Kept S w w') (h1 : ¬ S pb) (h2 : ¬ S g) : SampAt w' pb o T len g n :=
  have hp : pb < w.heap.size := World.block_lt_of_cell? _ _ h.total
  ⟨h.bits.kept hk h1 h2, (hk.cell (p := ⟨pb, o + 3, none⟩) hp h1).trans h.total⟩

set_option maxHeartbeats 1000000 in
theorem told_any (hLn : LenSays) (pb o len g n j : Nat) (T : ByteArray) (w : World) (h : SampAt w pb o T len g n) (hn : n ≤ 6000) (hT : T.size ≤ 100000) (hj : j ≤ 6000) (hin : n + 1 + j * Lib.bitLen (n / 8) + Lib.bitLen (n / 8) ≤ 8 * T.size) :
    Calls Tryz.prog 158 #[.pointer (some ⟨pb, o, none⟩), .int .i64 j] w fun e w' => e = .returned (.int .i64 (Hm.numAt (Hm.bitB T.data.toList) (n + 1 + j * Lib.bitLen (n / 8)) (Lib.bitLen (n / 8)) * 8 : Nat)) ∧ Kept (fun _ => False) w w' := by
  have hpw := placeWidth_any hLn n w (by omega)
  have hbl : Lib.bitLen (n / 8) ≤ 10 := Lib.bitLen_le _ 10 (by omega) (by omega)
  have hnu := fun W h => numberAt_any pb o (n + 1 + j * Lib.bitLen (n / 8)) (Lib.bitLen (n / 8)) T W h hin (by omega) (by omega)
  have hlt := Hm.numAt_lt (Hm.bitB T.data.toList) (n + 1 + j * Lib.bitLen (n / 8)) (Lib.bitLen (n / 8))
  have hp2 : 2 ^ Lib.bitLen (n / 8) ≤ 2 ^ 10 := Nat.pow_le_pow_right (by omega) hbl
  have hmul : j * Lib.bitLen (n / 8) ≤ 6000 * 10 := Nat.mul_le_mul hj hbl
  have hnb : Hm.numAt (Hm.bitB T.data.toList) (n + 1 + j * Lib.bitLen (n / 8)) (Lib.bitLen (n / 8)) ≤ 1024 := by omega
  generalize Lib.bitLen (n / 8) = wd at *
  obtain ⟨v, hv⟩ : ∃ v, v = Hm.numAt (Hm.bitB T.data.toList) (n + 1 + j * wd) wd := ⟨_, rfl⟩
  rw [← hv] at hnu hnb ⊢
  clear hv hlt hp2
  obtain ⟨z, hz⟩ : ∃ z, z = j * wd := ⟨_, rfl⟩
  rw [← hz] at hnu hmul hin
  have hwz : IntKind.i64.wrap ((j : Int) * (wd : Int)) = (z : Int) := by rw [IntKind.wrap_i64, ← Int.natCast_mul, ← hz]; clear hz; omega
  have HNU : Hid (∀ W, W.cell? ⟨pb, o, none⟩ = some (.string T) → Calls Tryz.prog 128 #[.pointer (some ⟨pb, o, none⟩), .int .i64 ((n : Int) + 1 + (z : Int)), .int .i64 (wd : Nat)] W fun e w' => e = .returned (.int .i64 (v : Nat)) ∧ w' = W) := fun W h => by
    have := hnu W h
    rwa [show ((n + 1 + z : Nat) : Int) = (n : Int) + 1 + (z : Int) from by omega] at this
  have c3 := h.total
  have c0 := h.bits.str
  have hpb : pb < w.heap.size := World.block_lt_of_cell? _ _ c0
  have C0 : Hid (w.cell? ⟨pb, o, none⟩ = some (.string T)) := c0
  clear hnu hz h hin c0
  go_enter Tryz.func158, Tryz.ntmps158
  go_wp2_with fail
  refine hpw.mono ?_
  rintro e w1 ⟨rfl, rfl⟩
  go_wp2_with fail
  go_quiet (first | (go_at_call 128; refine Calls.quiet_of_same (HNU.out _ ?_); exact (((Kept.refl (fun _ => False) w).drewN _).cell (p := ⟨pb, o, none⟩) hpb id).trans C0.out))
  go_wp2_with fail
  go_ret
  exact ⟨by first | rfl | go_num, (Kept.refl _ _).drewN _⟩

set_option maxHeartbeats 1000000 in
theorem near_any (hones : OnesSays) (hLn : LenSays) (pb o len g n pl : Nat) (T : ByteArray) (ps : List Nat) (w : World) (h : SampAt w pb o T len g n) (hn : n ≤ 6000) (hT : T.size ≤ 100000) (hps : ps.Perm (List.range (n + 1))) (h0 : ps[0]? = some n)
    (hf : ∀ p, p < (Hm.samples ps).length → Hm.bitB T.data.toList p = (Hm.samples ps).getD p false) (hlen : Hm.sampLen n ≤ 8 * T.size) (hrk : Hm.rk (Hm.bitB T.data.toList) (n + 1) = n / 8 + 1) (hpl : pl ≤ n) :
    Calls Tryz.prog 114 #[.pointer (some ⟨pb, o, none⟩), .int .i64 pl] w fun e w' => (∃ row q : Nat, e = .returned (.tuple #[.int .i64 (row : Nat), .int .i64 (q : Nat)]) ∧ ps[row]? = some q ∧ pl ≤ q) ∧ Kept (fun _ => False) w w' := by
  have hbl : Lib.bitLen (n / 8) ≤ 10 := Lib.bitLen_le _ 10 (by omega) (by omega)
  have hsl : n + 1 ≤ Hm.sampLen n := by unfold Hm.sampLen; omega
  have hon := fun W hW => ones_any hones pb o g len (n + 1) T W hW (by omega) (by omega)
  rw [hrk] at hon
  obtain ⟨R, hR⟩ : ∃ R, R = n / 8 + 1 := ⟨_, rfl⟩
  have HON : Hid (∀ W, CountedAt W pb o T len g → Calls Tryz.prog 126 #[.pointer (some ⟨pb, o, none⟩), .int .i64 ((n : Int) + 1)] W fun e w' => e = .returned (.int .i64 (R : Nat)) ∧ w' = W) := fun W hW => by
    have := hon W hW
    rwa [← hR, show ((n + 1 : Nat) : Int) = (n : Int) + 1 from by omega] at this
  have HTO : Hid (∀ k W, k < R → SampAt W pb o T len g n → ∃ p v : Nat, p ≤ n ∧ ps[p]? = some v ∧ Calls Tryz.prog 158 #[.pointer (some ⟨pb, o, none⟩), .int .i64 k] W (fun e w' => e = .returned (.int .i64 (v : Nat)) ∧ Kept (fun _ => False) W w') ∧
      ∀ W', SampAt W' pb o T len g n → Calls Tryz.prog 125 #[.pointer (some ⟨pb, o, none⟩), .int .i64 k] W' fun e w' => e = .returned (.int .i64 (p : Nat)) ∧ Kept (fun _ => False) W' w') := fun k W hk hW => by
    obtain ⟨p, hp, hone⟩ := Hm.one_there (Hm.bitB T.data.toList) k (n + 1) (by omega)
    obtain ⟨hp', hv⟩ := Hm.samp_told hn hps _ hf k p hp hone
    have hto := told_any hLn pb o len g n k T W hW hn hT (by omega) (by
      have h1 : (k + 1) * Lib.bitLen (n / 8) ≤ (n / 8 + 1) * Lib.bitLen (n / 8) := Nat.mul_le_mul_right _ (by omega)
      unfold Hm.sampLen at hlen
      rw [Nat.add_mul, Nat.one_mul] at h1
      omega)
    rw [hv] at hto
    exact ⟨p, ps[p], by omega, List.getElem?_eq_getElem hp', hto, fun W' hW' => one_any hones pb o g len k p T W' hW'.bits (by omega) hone (by omega)⟩
  have HV : Hid (∀ p v : Nat, ps[p]? = some v → v ≤ n) := fun p v hp => by
    have := hps.subset (List.mem_of_getElem? hp)
    have := List.mem_range.1 this
    omega
  have c3 := h.total
  have hpb : pb < w.heap.size := World.block_lt_of_cell? _ _ c3
  have HS : Hid (SampAt w pb o T len g n) := h
  have H0 : Hid (ps[0]? = some n) := h0
  have hRb : R ≤ 6000 := by omega
  clear hon hf hlen hrk hps h h0 hR
  go_enter Tryz.func114, Tryz.ntmps114
  go_wp2_with fail
  go_quiet (first | (go_at_call 126; refine Calls.quiet_of_same (HON.out _ ?_); exact (HS.out.kept ((Kept.refl (fun _ => False) w).drewN _) id id).bits))
  go_wp2_with fail
  go_loopw [6, 7, 17] (fun _ _ vi wr => ∃ k : Nat, k ≤ R ∧ vi = .int .i64 k ∧ Kept (fun _ => False) w wr) (fun _ _ vi _ => R - (intOf vi).toNat)
  case atStart => exact ⟨0, Nat.zero_le _, rfl, (Kept.refl _ _).drewN _⟩
  case round =>
    obtain ⟨k, hk, rfl, hkr⟩ := hrel
    have hS2 := HS.out.kept hkr id id
    by_cases hlt : k < R
    · obtain ⟨p, v, hpn, hpv, hto, hone⟩ := HTO.out k wr hlt hS2
      have hvn := HV.out p v hpv
      have HP : Hid (ps[p]? = some v ∧ Kept (fun _ => False) w wr) := ⟨hpv, hkr⟩
      have HO : Hid (∀ W', SampAt W' pb o T len g n → Calls Tryz.prog 125 #[.pointer (some ⟨pb, o, none⟩), .int .i64 k] W' fun e w' => e = .returned (.int .i64 (p : Nat)) ∧ Kept (fun _ => False) W' w') := hone
      have hltI : (k : Int) < (R : Int) := by omega
      clear hpv hkr hone hS2
      go_wp2_with fail
      refine hto.mono ?_
      rintro e w1 ⟨rfl, hk1⟩
      have HK1 : Hid (Kept (fun _ => False) w w1) := HP.out.2.trans hk1 (fun _ _ h => h)
      have hone := HO.out w1 (HS.out.kept HK1.out id id)
      clear hto hk1 HO
      by_cases hyes : pl ≤ v ∧ v < pl + 8
      · have hy1 : decide ((pl : Int) ≤ (v : Int)) = true := decide_eq_true (by omega)
        have hy2 : decide ((v : Int) < (pl : Int) + 8) = true := decide_eq_true (by omega)
        have hy3 : (pl : Int) ≤ (v : Int) := by omega
        have hy4 : (v : Int) < (pl : Int) + 8 := by omega
        have HY : Hid (pl ≤ v) := hyes.1
        clear hyes
        go_wp2_with fail
        refine hone.mono ?_
        rintro e w2 ⟨rfl, hk2⟩
        have HK2 : Hid (Kept (fun _ => False) w w2) := HK1.out.trans hk2 (fun _ _ h => h)
        clear hk2 hone
        go_wp2_with fail
        go_ret2
        exact ⟨⟨p, v, rfl, HP.out.1, HY.out⟩, HK2.out⟩
      · have HN : Hid (¬ (pl ≤ v ∧ v < pl + 8)) := hyes
        clear hone
        have hd : ¬ ((pl : Int) ≤ (v : Int) ∧ (v : Int) < (pl : Int) + 8) := by omega
        clear hyes
        go_wp2_with fail
        all_goals (
          go_roundw
          case rel => exact ⟨k + 1, by omega, by go_num, HK1.out⟩
          case measure => simp [intOf]; omega)
    · obtain rfl : k = R := by omega
      have c3' := hS2.total
      have HK : Hid (Kept (fun _ => False) w wr) := hkr
      clear hkr hS2
      go_wp2_with fail
      go_quiet (fail)
      go_wp2_with fail
      go_ret2
      exact ⟨⟨0, n, rfl, H0.out, hpl⟩, HK.out.drewN _⟩

end Go.Proofs.YtegnkfdbmmndaaaGreat
end

/- RndD -/
section
/- A part of the text. -/
namespace Go.Proofs.YtegnkfdbmmndaaaGreat
open Go.RowKit

theorem ArchAt.samp {B : Nat} {w : World} {pa : Nat} {s l6 : List UInt8} {L : List Nat} {l8 : List UInt8} {st : Hm.LaySt} (h : ArchAt B w pa s l6 L l8 st) (hp : Hm.Parse s l6 L l8 st) : ∃ gs, SampAt w pa 1036 ⟨((l8.drop (Hm.szB st.len)).take (Hm.szB (Hm.sampLen (Hm.rdN s).1))).toArray⟩ (Hm.sampLen (Hm.rdN s).1) gs (Hm.rdN s).1 := by
  obtain ⟨gn, ge, g, ng, nc, gs, b1, b2, b3, b4, b5, a2, a3, a4, a5, a6, a7⟩ := h
  refine ⟨gs, ?_⟩
  obtain ⟨col, c1, c2, cw⟩ := Hm.treeOk_tells hp.tree
  have hvs : (treeCells ⟨(l8.take (Hm.szB st.len)).toArray⟩ st.len g (Hm.tabOf L) (.slice (some ⟨ng, 0, none⟩) st.nds.length nc) st.ws (Hm.rdN s).1).toArray.size = 773 := by
    rw [List.size_toArray]; exact treeCells_length _ _ _ _ _ _ _ (Hm.tabTo_length _ _ _ _) cw.1
  have hel5 : (endsCells l6 (Hm.rdF s).1 (Hm.rdN s).1 ge).length = 5 := rfl
  have hrl := rowsL_length (treeCells ⟨(l8.take (Hm.szB st.len)).toArray⟩ st.len g (Hm.tabOf L) (.slice (some ⟨ng, 0, none⟩) st.nds.length nc) st.ws (Hm.rdN s).1).toArray (Hm.rdR s).1 (Hm.firsts st.ws) hvs (by unfold Hm.firsts; rw [List.length_map, List.length_range])
  have hc : ∀ j, w.cell? ⟨pa, 1036 + j, none⟩ = (sampCells (l8.drop (Hm.szB st.len)) (Hm.rdN s).1 gs)[j]? := fun j => by
    rw [cell_of_row _ _ (1036 + j) _ _ _ a2, List.getElem?_toArray, archL_samp _ _ _ _ hel5 hrl j]
  have hse : (⟨((l8.drop (Hm.szB st.len)).take (Hm.szB (Hm.sampLen (Hm.rdN s).1))).toArray⟩ : ByteArray).size = Hm.szB (Hm.sampLen (Hm.rdN s).1) := by
    show (List.take _ _).toArray.size = _
    have := hp.samp.fits
    rw [List.size_toArray, List.length_take]; omega
  refine ⟨⟨hc 0, hc 1, ?_, a7⟩, hc 3⟩
  rw [hse]; exact hc 2

set_option maxHeartbeats 1000000 in
theorem placeRow_any (hones : OnesSays) (pb o o2 len g ng nc root pl : Nat) (s : ByteArray) (nds : List Hm.Nd) (ws : List Nat) (col : List UInt8) (ps : List Nat) (w : World) (h : RowsPart w pb o s len g ng nc nds root ws) (ht : Hm.Tells s.data.toList nds col) (hws : Hm.Weighs ws col) (hrt : root ≤ col.length) (hs : s.size ≤ 1000000) (hcl : col.length ≤ 6000)
    (near : ∀ W, Kept (fun _ => False) w W → Calls Tryz.prog 114 #[.pointer (some ⟨pb, o2, none⟩), .int .i64 pl] W fun e w' => (∃ row q : Nat, e = .returned (.tuple #[.int .i64 (row : Nat), .int .i64 (q : Nat)]) ∧ ps[row]? = some q ∧ pl ≤ q) ∧ Kept (fun _ => False) W w')
    (hback : ∀ row q k, ps[row]? = some q → k ≤ q → row ≤ col.length ∧ q ≤ 6000 ∧ ps[(Hm.backTo (Hm.longer col ws root) row k).2]? = some (q - k)) :
    Calls Tryz.prog 113 #[.func (.func 34) #[.pointer (some ⟨pb, o, none⟩)] #[], .func (.func 114) #[.pointer (some ⟨pb, o2, none⟩)] #[], .int .i64 pl] w fun e w' => (∃ row : Nat, e = .returned (.int .i64 (row : Nat)) ∧ ps[row]? = some pl) ∧ Kept (fun _ => False) w w' := by
  have hnr := near w (Kept.refl _ _)
  have HLO : Hid (∀ row, row ≤ col.length → ∀ k W, RowsPart W pb o s len g ng nc nds root ws → Calls Tryz.prog 34 #[.pointer (some ⟨pb, o, none⟩), .int .i64 ((Hm.backTo (Hm.longer col ws root) row k).2 : Nat)] W fun e w' => e = .returned (.tuple #[.int .u8 ((Hm.longer col ws root (Hm.backTo (Hm.longer col ws root) row k).2).1.toNat : Nat), .int .i64 ((Hm.longer col ws root (Hm.backTo (Hm.longer col ws root) row k).2).2 : Nat)]) ∧ Kept (fun _ => False) W w') :=
    fun row hrw k W hW => longer_any hones pb o len g ng nc root _ s nds ws col W hW ht hrt (Hm.backTo_le hws hrt hrw k) hs (by omega) (fun b hb => by have := hws.first_le b (by omega); omega)
  have HR : Hid (RowsPart w pb o s len g ng nc nds root ws) := h
  have HBK : Hid (∀ row q k, ps[row]? = some q → k ≤ q → row ≤ col.length ∧ q ≤ 6000 ∧ ps[(Hm.backTo (Hm.longer col ws root) row k).2]? = some (q - k)) := hback
  clear h ht hws near hback
  generalize Hm.longer col ws root = stp at *
  go_enter Tryz.func113, Tryz.ntmps113
  go_wp2_with fail
  refine hnr.mono ?_
  rintro e w1 ⟨⟨row, q, rfl, hrq, hpq⟩, hk1⟩
  obtain ⟨hrw, hq6, _⟩ := HBK.out row q 0 hrq (Nat.zero_le _)
  have HK1 : Hid (Kept (fun _ => False) w w1 ∧ ps[row]? = some q) := ⟨hk1, hrq⟩
  clear hnr hk1 hrq
  go_wp2_with fail
  go_loopw [7, 8] (fun vr va wr => ∃ k : Nat, pl + k ≤ q ∧ va = .int .i64 ((q - k : Nat) : Int) ∧ vr = .int .i64 ((Hm.backTo stp row k).2 : Nat) ∧ Kept (fun _ => False) w wr) (fun _ va _ => (intOf va).toNat)
  case atStart => exact ⟨0, by omega, rfl, rfl, HK1.out.1⟩
  case round =>
    obtain ⟨k, hk, rfl, rfl, hkr⟩ := hrel
    obtain ⟨a, ha⟩ : ∃ a, a = q - k := ⟨_, rfl⟩
    rw [← ha]
    by_cases hlt : pl < a
    · have hlo := HLO.out row hrw k wr (HR.out.kept hkr id id id)
      have HN : Hid ((Hm.backTo stp row (k + 1)).2 = (stp (Hm.backTo stp row k).2).2) := rfl
      have HA : Hid (a = q - k) := ha
      have hd : decide ((pl : Int) < (a : Int)) = true := decide_eq_true (by omega)
      have hgt : (pl : Int) < (a : Int) := by omega
      have HKR : Hid (Kept (fun _ => False) w wr) := hkr
      have hwa : IntKind.i64.wrap ((a : Int) - 1) = (a : Int) - 1 := by rw [IntKind.wrap_i64]; omega
      clear hkr ha
      generalize stp (Hm.backTo stp row k).2 = nx at *
      generalize (Hm.backTo stp row k).2 = r at *
      go_wp2_with fail
      refine hlo.mono ?_
      rintro e w2 ⟨rfl, hk2⟩
      have HK2 : Hid (Kept (fun _ => False) w w2) := HKR.out.trans hk2 (fun _ _ h => h)
      clear hlo hk2
      go_wp2_with fail
      go_roundw
      case rel =>
        have := HA.out
        exact ⟨k + 1, by omega, by congr 1; omega, by rw [HN.out], HK2.out⟩
      case measure => simp [intOf]; omega
    · have hae : a = pl := by omega
      have HE : Hid (ps[(Hm.backTo stp row k).2]? = some pl ∧ Kept (fun _ => False) w wr) := by
        refine ⟨?_, hkr⟩
        rw [(HBK.out row q k HK1.out.2 (by omega)).2.2, ← ha, hae]
      have hgt : ¬ (pl : Int) < (a : Int) := by omega
      clear hkr ha
      generalize (Hm.backTo stp row k).2 = r at *
      go_wp2_with fail
      go_ret
      exact ⟨⟨r, rfl, HE.out.1⟩, HE.out.2⟩

end Go.Proofs.YtegnkfdbmmndaaaGreat
end
