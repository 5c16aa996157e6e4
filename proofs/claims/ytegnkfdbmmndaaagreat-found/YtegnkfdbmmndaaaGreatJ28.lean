import Derived.Test.YtegnkfdbmmndaaaGreatJ24
import Derived.Test.YtegnkfdbmmndaaaGreatJ26
import Derived.Test.YtegnkfdbmmndaaaGreatJ27
import Derived.Test.YtegnkfdbmmndaaaGreatJ17
import Derived.Deep.RegionWith
import Derived.Deep.Cut
import Derived.Deep.CutRange

/- UnpC -/
section
/- An archive is unpacked: the walk. -/
namespace Go.Proofs.YtegnkfdbmmndaaaGreat
open Go.RowKit

namespace Hm
def fileRow (fs : List Fl) (m k : Nat) : List Fl := fs.take k ++ List.replicate (m - k) (⟨#[]⟩, ⟨#[]⟩)
theorem cover_le {f : Nat → Bool} {len m low n : Nat} (h : Cover f len m low n) (i : Nat) (hi : i < m) : endAt f m low i ≤ n := by
 have key : ∀ d j, j + d = m → fromAt f m low j ≤ n := by
  intro d
  induction d with
  | zero => intro j e; rw [show j = m by omega, h.all]; exact Nat.le_refl _
  | succ d ih =>
   intro j e
   have h1 := ih (j + 1) (by omega)
   have h2 := h.asc j (by omega)
   have h3 : fromAt f m low (j + 1) = endAt f m low j := rfl
   omega
 have h1 := key (m - (i + 1)) (i + 1) (by omega)
 exact h1
theorem namesTo_size (st : Rd) : ∀ m k, ((namesTo m st).1.getD k ⟨#[]⟩).size ≤ 255
 | 0, k => by show (([] : List ByteArray).getD k ⟨#[]⟩).size ≤ 255; rw [List.getD_nil]; exact Nat.zero_le _
 | m + 1, k => by
  have ih := namesTo_size st m k
  show (((namesTo m st).1 ++ [_]).getD k ⟨#[]⟩).size ≤ 255
  rw [List.getD_eq_getElem?_getD] at ih ⊢
  by_cases h : k < (namesTo m st).1.length
  ·rw [List.getElem?_append_left h]; exact ih
  ·rw [List.getElem?_append_right (by omega)]
   by_cases h2 : k - (namesTo m st).1.length = 0
   ·rw [h2]
    have hx : (numO (namesTo m st).2 1).1 < 256 := by have := numO_lt (namesTo m st).2 1; simpa using this
    have hl := takeO_length (numO (namesTo m st).2 1).2 (numO (namesTo m st).2 1).1
    show (takeO _ _).1.toArray.size ≤ 255
    rw [List.size_toArray]; omega
   ·rw [List.getElem?_eq_none (by simp; omega)]; exact Nat.zero_le _
theorem fileRow_length (fs : List Fl) (m k : Nat) (hf : fs.length = m) (hk : k ≤ m) : (fileRow fs m k).length = m := by
 unfold fileRow; rw [List.length_append, List.length_take, List.length_replicate]; omega
theorem fileRow_succ (fs : List Fl) (m k : Nat) (hf : fs.length = m) (hk : k < m) (x : Fl) (hx : fs[k]? = some x) : (fileRow fs m k).set k x = fileRow fs m (k + 1) := by
 have e : List.replicate (m - k) ((⟨#[]⟩, ⟨#[]⟩) : Fl) = (⟨#[]⟩, ⟨#[]⟩) :: List.replicate (m - (k + 1)) (⟨#[]⟩, ⟨#[]⟩) := by rw [show m - k = (m - (k + 1)) + 1 from by omega, List.replicate_succ]
 unfold fileRow
 rw [e, List.set_append_right _ _ (by rw [List.length_take]; omega), List.length_take, Nat.min_eq_left (by omega), Nat.sub_self, List.set_cons_zero, List.take_add_one, hx, List.append_assoc]
 rfl
theorem fileRow_all (fs : List Fl) (m : Nat) (hf : fs.length = m) : fileRow fs m m = fs := by
 unfold fileRow; rw [Nat.sub_self, List.take_of_length_le (by omega)]; simp
end Hm

theorem fileRd_any (hones : OnesSays) (pa ge k : Nat) (s l6 : List UInt8) (W : World) (h : EndsAt W pa 1 ⟨(l6.take (Hm.szB (Hm.endsLen (Hm.rdF s).1 (Hm.rdN s).1))).toArray⟩ (Hm.endsLen (Hm.rdF s).1 (Hm.rdN s).1) ge (Hm.rdF s).1 (Hm.lowR (Hm.rdF s).1 (Hm.rdN s).1)) (ho : Hm.EndsOk l6 (Hm.rdF s).1 (Hm.rdN s).1) (hk : k < (Hm.rdF s).1) :
  Calls Tryz.prog 36 #[.pointer (some ⟨pa, 1, none⟩), .int .i64 (k : Nat)] W fun e w' => e = .returned (.tuple #[.int .i64 (Hm.fromRd s l6 k : Nat), .int .i64 (Hm.endRd s l6 k : Nat)]) ∧ Kept (fun _ => False) W w' := by
 have hF := Hm.rdF_lt s
 have hN := Hm.rdN_lt s
 have hel := ho.fits
 have hco := ho.cover.ones
 have hes : (⟨(l6.take (Hm.szB (Hm.endsLen (Hm.rdF s).1 (Hm.rdN s).1))).toArray⟩ : ByteArray).size = Hm.szB (Hm.endsLen (Hm.rdF s).1 (Hm.rdN s).1) := by
  show (l6.take _).toArray.size = _
  rw [List.size_toArray, List.length_take]; omega
 have hle := Hm.endsLen_le _ _ hF hN
 have hlo := Hm.lowR_le (Hm.rdF s).1 (Hm.rdN s).1 hN
 have hml : (Hm.rdF s).1 * Hm.lowR (Hm.rdF s).1 (Hm.rdN s).1 ≤ Hm.endsLen (Hm.rdF s).1 (Hm.rdN s).1 := Nat.le_add_right _ _
 have e1 : Hm.fromRd s l6 k = Hm.fromAt (Hm.bitB (l6.take (Hm.szB (Hm.endsLen (Hm.rdF s).1 (Hm.rdN s).1)))) (Hm.rdF s).1 (Hm.lowR (Hm.rdF s).1 (Hm.rdN s).1) k := rfl
 have e2 : Hm.endRd s l6 k = Hm.endAt (Hm.bitB (l6.take (Hm.szB (Hm.endsLen (Hm.rdF s).1 (Hm.rdN s).1)))) (Hm.rdF s).1 (Hm.lowR (Hm.rdF s).1 (Hm.rdN s).1) k := rfl
 have e3 : l6.take (Hm.szB (Hm.endsLen (Hm.rdF s).1 (Hm.rdN s).1)) = (⟨(l6.take (Hm.szB (Hm.endsLen (Hm.rdF s).1 (Hm.rdN s).1))).toArray⟩ : ByteArray).data.toList := rfl
 rw [e1, e2]
 generalize Hm.lowR (Hm.rdF s).1 (Hm.rdN s).1 = lo at *
 generalize Hm.endsLen (Hm.rdF s).1 (Hm.rdN s).1 = el at *
 rw [e3] at hco ⊢
 generalize (⟨(l6.take (Hm.szB el)).toArray⟩ : ByteArray) = E at *
 have h8 : el ≤ 8 * E.size := by rw [hes]; unfold Hm.szB; omega
 exact file_any hones pa 1 el ge (Hm.rdF s).1 lo k E W h (by omega) (by omega) hk hml h8 hco (by rw [hes]; omega)

set_option maxRecDepth 20000 in
set_option maxHeartbeats 2000000 in
theorem unpack_any (hones : OnesSays) (B pa : Nat) (s l6 : List UInt8) (L : List Nat) (l8 : List UInt8) (st : Hm.LaySt) (w : World) (hp : Hm.Parse s l6 L l8 st) (h : ArchAt B w pa s l6 L l8 st) :
  Calls Tryz.prog 14 #[.pointer (some ⟨pa, 0, none⟩)] w fun e w' => ∃ gf, e = .returned (.slice (some ⟨gf, 0, none⟩) (Hm.rdF s).1 (Hm.rdF s).1) ∧ w.heap.size ≤ gf ∧ FRow w' gf (Hm.filesRd s l6 l8 st) ∧ Kept (fun _ => False) w w' := by
 obtain ⟨gn, ge, g, ng, nc, gs, P⟩ := h.parts hp
 obtain ⟨hcl, hct, hcw⟩ := Hm.colRd_is hp.tree
 have hN := Hm.rdN_lt s
 have hF := Hm.rdF_lt s
 have hroot := (Hm.rdM_inv hp.names).2
 have htl := Hm.treeOk_len hp.tree hN
 have hts : (⟨(l8.take (Hm.szB st.len)).toArray⟩ : ByteArray).size ≤ 1000000 := by show (l8.take _).toArray.size ≤ _; rw [List.size_toArray, List.length_take]; omega
 have HBK : Hid (∀ W, RowsPart W pa 6 ⟨(l8.take (Hm.szB st.len)).toArray⟩ st.len g ng nc st.nds (Hm.rdR s).1 st.ws → Calls Tryz.prog 33 #[.func (.func 34) #[.pointer (some ⟨pa, 6, none⟩)] #[], .int .i64 0, .int .i64 ((Hm.rdN s).1 : Nat)] W fun e w' => e = .returned (.slice (some ⟨W.heap.size, 0, none⟩) (Hm.rdN s).1 (Hm.rdN s).1) ∧
   w'.heap[W.heap.size]? = some (.cells (Hm.bcells (Hm.textRd s l8 st)).toArray 5 (0, 0)) ∧ Kept (fun _ => False) W w') := fun W hW =>
  back_any hones pa 6 st.len g ng nc (Hm.rdR s).1 0 (Hm.rdN s).1 _ st.nds st.ws (Hm.colRd l8 (Hm.rdN s).1 st) W hW hct hcw (by omega) (Nat.zero_le _) hts (by omega) (by omega)
 have HP : Hid (ArchParts w pa s l6 L l8 st gn ge g ng nc gs) := P
 have hpw : pa < w.heap.size := World.block_lt_of_cell? _ _ P.total
 have hgw : gn < w.heap.size := lt_of_block P.nblock
 obtain ⟨n, hn⟩ : ∃ n, n = (Hm.rdN s).1 := ⟨_, rfl⟩
 rw [← hn] at HBK hN
 have htot := fun W (hW : W.cell? ⟨pa, 778, none⟩ = some (.int .i64 (n : Nat))) => total_any pa 6 n W hW
 have HT : Hid _ := htot
 have HPT : Hid (w.cell? ⟨pa, 778, none⟩ = some (.int .i64 (n : Nat)) ∧ RowsPart w pa 6 ⟨(l8.take (Hm.szB st.len)).toArray⟩ st.len g ng nc st.nds (Hm.rdR s).1 st.ws) := ⟨by rw [hn]; exact P.total, P.rows⟩
 have HN : Hid (n = (Hm.rdN s).1) := hn
 have HFI : Hid (∀ k W, k < (Hm.rdF s).1 → Kept (fun _ => False) w W → Calls Tryz.prog 36 #[.pointer (some ⟨pa, 1, none⟩), .int .i64 (k : Nat)] W fun e w' => e = .returned (.tuple #[.int .i64 (Hm.fromRd s l6 k : Nat), .int .i64 (Hm.endRd s l6 k : Nat)]) ∧ Kept (fun _ => False) W w') := fun k W hk hW => fileRd_any hones pa ge k s l6 W (P.ends.kept hW id id) hp.ends hk
 have HFT : Hid (∀ k, k < (Hm.rdF s).1 → Hm.fromRd s l6 k ≤ Hm.endRd s l6 k ∧ Hm.endRd s l6 k ≤ n) := fun k hk => ⟨hp.ends.cover.asc k hk, by rw [hn]; exact Hm.cover_le hp.ends.cover k hk⟩
 have HNS : Hid (∀ k nm, nm = (Hm.rdM s).1.getD k ⟨#[]⟩ → k < (Hm.rdF s).1 → nm.size ≤ 281474976710656) := fun k nm h1 h2 => by
  rw [h1]
  have := Hm.namesTo_size (Hm.rdB s) (Hm.rdF s).1 k
  exact Nat.le_trans this (by omega)
 clear P h hcl hct hcw htl hts htot hn hroot
 go_enter Tryz.func14, Tryz.ntmps14
 go_wp2_with fail
 go_cut [3] from 11 (fun v3 wz => ∃ gt : Nat, v3 = .slice (some ⟨gt, 0, none⟩) n n ∧ w.heap.size ≤ gt ∧ Hid (wz.heap[gt]? = some (.cells (Hm.bcells (Hm.textRd s l8 st)).toArray 5 (0, 0)) ∧ Kept (fun _ => False) w wz))
 case first =>
  go_region_held (fun X => Hid (Kept (fun _ => False) w X)) (first | exact k2 | exact k1 | exact (Kept.refl (fun _ => False) w).drew)
   (first
    | (go_at_call 35; (refine (HT.out _ ?_).mono ?_; (exact ((Kept.refl (fun _ => False) w).drew.cell hpw id).trans HPT.out.1); rintro e w1 ⟨rfl, hq1⟩; have k1 : Hid (Kept (fun _ => False) w w1) := (by rw [hq1]; exact (Kept.refl (fun _ => False) w).drew); clear hq1))
    | (go_at_call 33; (refine (HBK.out _ (HPT.out.2.kept k1.out id id id)).mono ?_; rintro e w2 ⟨rfl, hg2, hq2⟩; have k2 : Hid (Kept (fun _ => False) w w2) := k1.out.trans hq2 (fun _ _ h => h); clear hq2)))
  all_goals (go_wp2_with fail; go_meet; case rel => exact ⟨_, rfl, k1.out.size, hg2, k2.out⟩)
 case rest =>
  obtain ⟨gt, rfl, hgt, HG⟩ := hcut
  have c0 : wc.cell? ⟨pa, 0, none⟩ = some (.slice (some ⟨gn, 0, none⟩) (Hm.rdF s).1 (Hm.rdF s).1) := (HG.out.2.cell (p := ⟨pa, 0, none⟩) hpw id).trans HP.out.names
  obtain ⟨i0, hi, hz0, hz1, hz2⟩ := info_parts info_file
  obtain ⟨m, hm⟩ : ∃ m, m = (Hm.rdF s).1 := ⟨_, rfl⟩
  rw [← hm] at c0 hF
  have HM : Hid (m = (Hm.rdF s).1) := hm
  rw [← hm] at HFI HFT HNS
  clear hm HBK HT HPT
  have hpc : pa < wc.heap.size := by have := HG.out.2.size; omega
  have hgsz : gt < wc.heap.size := lt_of_block HG.out.1
  go_wp2_with (at_make; refine wpList_make_full _ rfl (.tmp 25) (.tmp 25) 22 rfl wc.heap.size 38 i0 (.agg #[.string ⟨#[]⟩, .string ⟨#[]⟩]) 2 Tryz.underlying22 hi hz0 hz1 .i64 .i64 _ _ m rfl rfl rfl rfl (by rw [hz2]; omega) (by unfold maxLen; omega) (Nat.le_refl _) ?_; intro w3 ho3 hg3; have hk3 : Kept (fun _ => False) wc w3 := (Kept.refl _ _).grown hg3 (fun k hk => by cases hk); have c03 : w3.cell? ⟨pa, 0, none⟩ = some (.slice (some ⟨gn, 0, none⟩) m m) := (hk3.cell (p := ⟨pa, 0, none⟩) hpc id).trans c0)
  have hr3 := FRow.made ho3
  obtain ⟨gf, hgf⟩ : ∃ x, x = wc.heap.size := ⟨_, rfl⟩
  rw [← hgf] at hr3 ⊢
  have H3 : Hid (FRow w3 gf (List.replicate m (⟨#[]⟩, ⟨#[]⟩)) ∧ Kept (fun _ => False) w w3 ∧ w3.heap[gt]? = some (.cells (Hm.bcells (Hm.textRd s l8 st)).toArray 5 (0, 0))) := ⟨hr3, HG.out.2.trans hk3 (fun _ _ h => h), hk3.row HG.out.1 id⟩
  have hwg : w.heap.size ≤ gf := by rw [hgf]; exact HG.out.2.size
  have hgg : gt < gf := by omega
  clear ho3 hg3 hk3 hr3 HG c0 hgsz hgf
  go_loopw [32] (fun vi wr => ∃ k : Nat, k ≤ m ∧ vi = .int .i64 k ∧ FRow wr gf (Hm.fileRow (Hm.filesRd s l6 l8 st) m k) ∧ Kept (fun _ => False) w wr ∧ wr.heap[gt]? = some (.cells (Hm.bcells (Hm.textRd s l8 st)).toArray 5 (0, 0))) (fun vi _ => m - (intOf vi).toNat)
  case atStart => exact ⟨0, Nat.zero_le _, rfl, by simpa [Hm.fileRow] using H3.out.1, H3.out.2.1, H3.out.2.2⟩
  case round =>
   obtain ⟨k, hk, rfl, hrow, hkr, htx⟩ := hrel
   by_cases hlt : k < m
   ·obtain ⟨nm, hnm⟩ : ∃ x, x = (Hm.rdM s).1.getD k ⟨#[]⟩ := ⟨_, rfl⟩
    have hnl : (Hm.rdM s).1.length = m := by rw [HM.out]; exact Hm.namesTo_length _ _
    have cnm : wr.cell? ⟨gn, k, none⟩ = some (.string nm) := by
     rw [hkr.cell (p := ⟨gn, k, none⟩) hgw id, cell_of_row _ _ k _ _ _ HP.out.nblock, List.getElem?_toArray, hnm]
     unfold Hm.vstrs
     rw [List.getElem?_map, List.getD_eq_getElem?_getD, List.getElem?_eq_getElem (show k < (Hm.rdM s).1.length by omega)]; rfl
    have hfi := HFI.out k wr hlt hkr
    have hft := HFT.out k hlt
    have hcl := fun W => clone_any nm W (HNS.out k nm hnm hlt)
    have HFX : Hid ((Hm.filesRd s l6 l8 st)[k]? = some (nm, ⟨(Hm.part (Hm.textRd s l8 st) (Hm.fromRd s l6 k) (Hm.endRd s l6 k)).toArray⟩)) := by
     show _ = _
     unfold Hm.filesRd
     rw [List.getElem?_map, List.getElem?_range (by rw [← HM.out]; exact hlt), hnm]; rfl
    generalize Hm.fromRd s l6 k = fr at hfi hft HFX
    generalize Hm.endRd s l6 k = tz at hfi hft HFX
    have H4 : Hid (FRow wr gf (Hm.fileRow (Hm.filesRd s l6 l8 st) m k) ∧ Kept (fun _ => False) w wr ∧ wr.heap[gt]? = some (.cells (Hm.bcells (Hm.textRd s l8 st)).toArray 5 (0, 0))) := ⟨hrow, hkr, htx⟩
    have hkI : (k : Int) < (m : Int) := by omega
    clear hrow hkr htx hnm hnl
    go_wp2_with fail
    refine hfi.mono ?_
    rintro e w4 ⟨rfl, hk4⟩
    have H5 : Hid (FRow w4 gf (Hm.fileRow (Hm.filesRd s l6 l8 st) m k) ∧ Kept (fun _ => False) w w4 ∧ w4.heap[gt]? = some (.cells (Hm.bcells (Hm.textRd s l8 st)).toArray 5 (0, 0))) := ⟨H4.out.1.kept hk4 id, H4.out.2.1.trans hk4 (fun _ _ h => h), hk4.row H4.out.2.2 id⟩
    clear hfi hk4 H4
    go_wp2_with fail
    refine wp_region_held_drew (S := fun X => X.heap[gt]? = some (.cells (Hm.bcells (Hm.textRd s l8 st)).toArray 5 (0, 0))) (by kernel_rfl) H5.out.2.2 (fun hHeld => ?_)
    refine wpAnyH_take (i := 0) (oi := { dst := some 45, op := Op.move (Operand.tmp 4), type := 22, pos := "hoard.go:66", after := #[], guard := none }) (v := ?_) rfl (by kernel_rfl) (by kernel_rfl) (by kernel_rfl) (fun _ _ _ h => h) (Or.inl ⟨by kernel_rfl, ?_⟩) (by assumption) ?_
    rotate_left
    ·intro X hSw
     try dsimp only at hSw
     go_simp
     with_reducible rfl
    simp only [Act.put, List.setIfInBounds_toArray, List.set_cons_zero, List.set_cons_succ]
    refine wpAnyH_take (i := 1) (oi := { dst := some 46, op := Op.move (Operand.tmp 5), type := 3, pos := "hoard.go:66", after := #[], guard := none }) (v := ?_) rfl (by kernel_rfl) (by kernel_rfl) (by kernel_rfl) (fun _ _ _ h => h) (Or.inl ⟨by kernel_rfl, ?_⟩) (by assumption) ?_
    rotate_left
    ·intro X hSw
     try dsimp only at hSw
     go_simp
     with_reducible rfl
    simp only [Act.put, List.setIfInBounds_toArray, List.set_cons_zero, List.set_cons_succ]
    refine wpAnyH_take (i := 2) (oi := { dst := some 47, op := Op.move (Operand.tmp 6), type := 9, pos := "hoard.go:66", after := #[], guard := none }) (v := ?_) rfl (by kernel_rfl) (by kernel_rfl) (by kernel_rfl) (fun _ _ _ h => h) (Or.inl ⟨by kernel_rfl, ?_⟩) (by assumption) ?_
    rotate_left
    ·intro X hSw
     try dsimp only at hSw
     go_simp
     with_reducible rfl
    simp only [Act.put, List.setIfInBounds_toArray, List.set_cons_zero, List.set_cons_succ]
    refine wpAnyH_take (i := 4) (oi := { dst := some 49, op := Op.move (Operand.tmp 3), type := 79, pos := "hoard.go:66", after := #[], guard := none }) (v := ?_) rfl (by kernel_rfl) (by kernel_rfl) (by kernel_rfl) (fun _ _ _ h => h) (Or.inl ⟨by kernel_rfl, ?_⟩) (by assumption) ?_
    rotate_left
    ·intro X hSw
     try dsimp only at hSw
     go_simp
     with_reducible rfl
    simp only [Act.put, List.setIfInBounds_toArray, List.set_cons_zero, List.set_cons_succ]
    refine wpAnyH_take (i := 5) (oi := { dst := some 50, op := Op.move (Operand.tmp 7), type := 3, pos := "hoard.go:66", after := #[], guard := none }) (v := ?_) rfl (by kernel_rfl) (by kernel_rfl) (by kernel_rfl) (fun _ _ _ h => h) (Or.inl ⟨by kernel_rfl, ?_⟩) (by assumption) ?_
    rotate_left
    ·intro X hSw
     try dsimp only at hSw
     go_simp
     with_reducible rfl
    simp only [Act.put, List.setIfInBounds_toArray, List.set_cons_zero, List.set_cons_succ]
    refine wpAnyH_take (i := 6) (oi := { dst := some 51, op := Op.move (Operand.tmp 8), type := 3, pos := "hoard.go:66", after := #[], guard := none }) (v := ?_) rfl (by kernel_rfl) (by kernel_rfl) (by kernel_rfl) (fun _ _ _ h => h) (Or.inl ⟨by kernel_rfl, ?_⟩) (by assumption) ?_
    rotate_left
    ·intro X hSw
     try dsimp only at hSw
     go_simp
     with_reducible rfl
    simp only [Act.put, List.setIfInBounds_toArray, List.set_cons_zero, List.set_cons_succ]
    obtain ⟨hf1, hf2⟩ := hft
    have hfI : (fr : Int) ≤ (tz : Int) := by omega
    have htI : (tz : Int) ≤ (n : Int) := by omega
    refine wpAnyH_take (i := 7) (oi := { dst := some 52, op := Op.slice 79 (Operand.tmp 49) (some (Operand.tmp 50)) (some (Operand.tmp 51)) none, type := 79, pos := "hoard.go:66", after := #[{ on := 4, ground := Ground.data }, { on := 5, ground := Ground.data }, { on := 6, ground := Ground.data }], guard := none }) (v := .slice (if n = fr then some ⟨gt, 0, none⟩ else some ⟨gt, fr, none⟩) (tz - fr) (n - fr)) rfl (by kernel_rfl) (by kernel_rfl) (by kernel_rfl) (fun _ _ _ h => h) (Or.inl ⟨by kernel_rfl, ?_⟩) (by assumption) ?_
    ·intro X hSw
     try dsimp only at hSw
     go_simp
    simp only [Act.put, List.setIfInBounds_toArray, List.set_cons_zero, List.set_cons_succ]
    obtain ⟨PT, hPT⟩ : ∃ x, x = (⟨(Hm.part (Hm.textRd s l8 st) fr tz).toArray⟩ : ByteArray) := ⟨_, rfl⟩
    have HPT : Hid (PT = (⟨(Hm.part (Hm.textRd s l8 st) fr tz).toArray⟩ : ByteArray)) := hPT
    clear hPT
    have htl : (Hm.textRd s l8 st).length = n := by rw [HN.out]; exact Hm.textRd_length s l8 st
    have HCV : Hid (∀ X : World, X.heap[gt]? = some (.cells (Hm.bcells (Hm.textRd s l8 st)).toArray 5 (0, 0)) → (convert 79 9 (.slice (if n = fr then some ⟨gt, 0, none⟩ else some ⟨gt, fr, none⟩) (tz - fr) (n - fr))).run Tryz.prog X = .ok (.string PT) X) := fun X hX => by
     rw [HPT.out]
     by_cases c : n = fr
     ·rw [if_pos c, show tz - fr = 0 by omega]
      have := convert_part hX 0 0 (n - fr) (by omega)
      rw [this]; unfold Hm.part; rw [show tz - fr = 0 by omega, List.take_zero, List.take_zero]
     ·rw [if_neg c]
      exact convert_part hX fr (tz - fr) (n - fr) (by omega)
    refine wpAnyH_take (i := 8) (oi := { dst := some 53, op := Op.convert 79 9 (Operand.tmp 52), type := 9, pos := "hoard.go:66", after := #[{ on := 7, ground := Ground.data }], guard := none }) (v := .string PT) rfl (by kernel_rfl) (by kernel_rfl) (by kernel_rfl) (fun _ _ _ h => h) (Or.inl ⟨by kernel_rfl, fun X hX => run_conv_op X 79 9 (.tmp 52) rfl _ _ rfl (HCV.out X hX)⟩) (by assumption) ?_
    simp only [Act.put, List.setIfInBounds_toArray, List.set_cons_zero, List.set_cons_succ]
    clear HCV
    refine wpAnyH_ready (rs := [3]) (by kernel_rfl) (by simp) ?_
    refine AllReadyH.cons rfl (fun K hK => ?_) AllReadyH.nil
    go_simp
    refine (hcl _).mono ?_
    rintro e w5 ⟨rfl, hk5⟩
    have hk45 : Kept (fun _ => False) w4 w5 := (Kept.refl (fun _ => False) w4).drew.trans hk5 (fun _ _ h => h)
    have hR := Hm.fileRow_length (Hm.filesRd s l6 l8 st) m k (by rw [HM.out]; exact Hm.filesRd_length s l6 l8 st) hk
    have HRS := Hm.fileRow_succ (Hm.filesRd s l6 l8 st) m k (by rw [HM.out]; exact Hm.filesRd_length s l6 l8 st) hlt _ HFX.out
    rw [← HPT.out] at HRS
    generalize Hm.fileRow (Hm.filesRd s l6 l8 st) m k = R at H5 hR HRS
    have HRS' : Hid (R.set k (nm, PT) = Hm.fileRow (Hm.filesRd s l6 l8 st) m (k + 1)) := HRS
    have hF5 := H5.out.1.kept hk45 id
    have q1 := hF5.fst (i := k) (by omega)
    have q2 := hF5.snd (i := k) (by omega)
    have fz1 := hF5.free (k * 2)
    have fz2 := hF5.free (k * 2 + 1)
    have H6 : Hid (FRow w5 gf R ∧ Kept (fun _ => False) w w5 ∧ w5.heap[gt]? = some (.cells (Hm.bcells (Hm.textRd s l8 st)).toArray 5 (0, 0))) := ⟨hF5, H5.out.2.1.trans hk45 (fun _ _ h => h), hk45.row H5.out.2.2 id⟩
    refine hK.out _ _ H6.out.2.2 (fun hHeld => ?_)
    clear hK K hk5 hk45 hF5 H5 HRS hcl htl HPT HFX
    refine wpAnyH_take (i := 9) (oi := { dst := some 54, op := Op.build 38 #[(0, Operand.tmp 48), (1, Operand.tmp 53)], type := 38, pos := "hoard.go:66", after := #[{ on := 3, ground := Ground.data }, { on := 8, ground := Ground.data }], guard := none }) (v := ?_) rfl (by kernel_rfl) (by kernel_rfl) (by kernel_rfl) (fun _ _ _ h => h) (Or.inl ⟨by kernel_rfl, ?_⟩) (by assumption) ?_
    rotate_left
    ·intro X hSw
     try dsimp only at hSw
     go_simp
     with_reducible rfl
    simp only [Act.put, List.setIfInBounds_toArray, List.set_cons_zero, List.set_cons_succ]
    refine wpAnyH_take (i := 10) (oi := { dst := some 55, op := Op.indexAddr 22 (Operand.tmp 45) (Operand.tmp 46), type := 0, pos := "hoard.go:66", after := #[{ on := 0, ground := Ground.data }, { on := 1, ground := Ground.data }, { on := 0, ground := Ground.phase }, { on := 1, ground := Ground.phase }, { on := 2, ground := Ground.phase }, { on := 3, ground := Ground.phase }, { on := 4, ground := Ground.phase }, { on := 5, ground := Ground.phase }, { on := 6, ground := Ground.phase }, { on := 7, ground := Ground.phase }, { on := 8, ground := Ground.phase }, { on := 9, ground := Ground.phase }], guard := none }) (v := ?_) rfl (by kernel_rfl) (by kernel_rfl) (by kernel_rfl) (fun _ _ _ h => h) (Or.inl ⟨by kernel_rfl, ?_⟩) (by assumption) ?_
    rotate_left
    ·intro X hSw
     try dsimp only at hSw
     go_simp
     with_reducible rfl
    simp only [Act.put, List.setIfInBounds_toArray, List.set_cons_zero, List.set_cons_succ]
    refine wpAnyH_ready (rs := [11]) (by kernel_rfl) (by simp) ?_
    refine AllReadyH.cons rfl (fun K hK => ?_) AllReadyH.nil
    go_simp
    have hne : gt ≠ gf := by omega
    have hkz : Kept (fun j => j = gf) w5 ((w5.setCell ⟨gf, k * 2, none⟩ (.string nm)).setCell ⟨gf, k * 2 + 1, none⟩ (.string PT)) := ((Kept.refl (fun j => j = gf) w5).setCell (p := ⟨gf, k * 2, none⟩) (.inr rfl) _).setCell (p := ⟨gf, k * 2 + 1, none⟩) (.inr rfl) _
    have H7 : Hid (FRow ((w5.setCell ⟨gf, k * 2, none⟩ (.string nm)).setCell ⟨gf, k * 2 + 1, none⟩ (.string PT)) gf (Hm.fileRow (Hm.filesRd s l6 l8 st) m (k + 1)) ∧ Kept (fun _ => False) w ((w5.setCell ⟨gf, k * 2, none⟩ (.string nm)).setCell ⟨gf, k * 2 + 1, none⟩ (.string PT)) ∧ ((w5.setCell ⟨gf, k * 2, none⟩ (.string nm)).setCell ⟨gf, k * 2 + 1, none⟩ (.string PT)).heap[gt]? = some (.cells (Hm.bcells (Hm.textRd s l8 st)).toArray 5 (0, 0))) :=
     ⟨by rw [← HRS'.out]; exact H6.out.1.put k nm PT (by omega), H6.out.2.1.trans hkz (fun j h1 h2 => by omega), hkz.row H6.out.2.2 hne⟩
    generalize (w5.setCell ⟨gf, k * 2, none⟩ (.string nm)).setCell ⟨gf, k * 2 + 1, none⟩ (.string PT) = wz at H7 ⊢
    refine hK.out _ _ H7.out.2.2 (fun hHeld => ?_)
    clear hK K hkz H6 q1 q2 fz1 fz2
    refine wpAnyH_done (by kernel_rfl) ?_ _
    go_wp2_with fail
    go_roundw
    case rel => exact ⟨k + 1, by omega, by go_num, H7.out.1, H7.out.2.1, H7.out.2.2⟩
    case measure => simp [intOf]; omega
   ·obtain rfl : k = m := by omega
    have H4 : Hid (FRow wr gf (Hm.filesRd s l6 l8 st) ∧ Kept (fun _ => False) w wr) := ⟨by rw [Hm.fileRow_all _ _ (by rw [HM.out]; exact Hm.filesRd_length s l6 l8 st)] at hrow; exact hrow, hkr⟩
    clear hrow hkr htx
    go_wp2_with fail
    go_ret
    exact ⟨gf, by rw [← HM.out]; rfl, hwg, H4.out.1, H4.out.2⟩

end Go.Proofs.YtegnkfdbmmndaaaGreat
end

/- LoadMain -/
section
/- Load of any bytes. -/
namespace Go.Proofs.YtegnkfdbmmndaaaGreat
open Go.RowKit

/-- What Load hands back. -/
def LoadSays (B : Nat) (w' : World) (s : List UInt8) (e : Ending) : Prop :=
 (∃ pa l6 L l8 st, B ≤ pa ∧ Hm.Parse s l6 L l8 st ∧ ArchAt B w' pa s l6 L l8 st ∧ Hm.ckAll (Hm.filesRd s l6 l8 st) = 0 ∧ Hm.IsArch (Hm.filesRd s l6 l8 st) s ∧ e = .returned (.tuple #[.pointer (some ⟨pa, 0, none⟩), .int .i64 0])) ∨
 ((∀ l6 L l8 st, Hm.Parse s l6 L l8 st → Hm.ckAll (Hm.filesRd s l6 l8 st) = 0 → ¬ Hm.IsArch (Hm.filesRd s l6 l8 st) s) ∧ e = .returned (.tuple #[.pointer none, .int .i64 6]))

namespace Hm
theorem Parse.unique {s l6 l6' : List UInt8} {L L' : List Nat} {l8 l8' : List UInt8} {st st' : LaySt} (h : Parse s l6 L l8 st) (h' : Parse s l6' L' l8' st') : l6 = l6' ∧ L = L' ∧ l8 = l8' ∧ st = st' := by
 have e1 : l6 = l6' := Option.some.inj (h.names.symm.trans h'.names)
 subst e1
 have e2 := h.lens.symm.trans h'.lens
 injection e2 with e3 e4
 injection e4 with e4
 subst e3 e4
 exact ⟨rfl, rfl, rfl, Option.some.inj (h.tree.2.symm.trans h'.tree.2)⟩
theorem filesRd_sizes (s l6 l8 : List UInt8) (st : LaySt) : ∀ f ∈ filesRd s l6 l8 st, f.1.size ≤ 140737488355328 ∧ f.2.size ≤ 140737488355328 := by
 intro f hf
 obtain ⟨i, hi, rfl⟩ := List.mem_map.1 hf
 constructor
 ·exact Nat.le_trans (namesTo_size (rdB s) (rdF s).1 i) (by omega)
 ·show (part _ _ _).toArray.size ≤ _
  rw [List.size_toArray]
  unfold part
  have h1 := textRd_length s l8 st
  have h2 := rdN_lt s
  rw [List.length_take, List.length_drop]
  omega
end Hm

theorem load_any (hones : OnesSays) (hLn : LenSays) (s : List UInt8) (w : World) (hs : s.length ≤ 281474976710656) :
  Calls Tryz.prog 12 #[.string ⟨s.toArray⟩] w fun e w' => Kept (fun _ => False) w w' ∧ LoadSays w.heap.size w' s e := by
 have hrd := read_any hones hLn s w hs
 obtain ⟨S, hS⟩ : ∃ S, S = (⟨s.toArray⟩ : ByteArray) := ⟨_, rfl⟩
 rw [← hS] at hrd ⊢
 have HS : Hid (S = (⟨s.toArray⟩ : ByteArray)) := hS
 clear hS
 go_enter Tryz.func12, Tryz.ntmps12
 go_wp2_with fail
 refine hrd.mono ?_
 rintro e w1 ⟨hk1, pa, ok, hpa, rfl, hgot⟩
 rcases hgot.arch with ⟨rfl, l6, L, l8, st, hP, hA⟩ | ⟨rfl, hno⟩
 rotate_left
 ·clear hrd
  have H : Hid (Kept (fun _ => False) w w1) := hk1
  have HN : Hid (∀ l6 L l8 st, ¬ Hm.Parse s l6 L l8 st) := hno
  clear hk1 hgot hno
  go_wp2_with fail
  go_ret2
  exact ⟨H.out, .inr ⟨fun l6 L l8 st h => absurd h (HN.out l6 L l8 st), rfl⟩⟩
 ·have hun := unpack_any hones w.heap.size pa s l6 L l8 st w1 hP hA
  have H1 : Hid (Kept (fun _ => False) w w1 ∧ Hm.Parse s l6 L l8 st ∧ ArchAt w.heap.size w1 pa s l6 L l8 st) := ⟨hk1, hP, hA⟩
  have hfl := Hm.filesRd_length s l6 l8 st
  have hF := Hm.rdF_lt s
  have hsz := Hm.filesRd_sizes s l6 l8 st
  rw [← hfl] at hun
  have HSZ : Hid ((Hm.filesRd s l6 l8 st).length ≤ 255 ∧ ∀ f ∈ Hm.filesRd s l6 l8 st, f.1.size ≤ 140737488355328 ∧ f.2.size ≤ 140737488355328) := ⟨by omega, hsz⟩
  have HU : Hid (∀ l6' L' l8' st', Hm.Parse s l6' L' l8' st' → Hm.filesRd s l6' l8' st' = Hm.filesRd s l6 l8 st) := fun l6' L' l8' st' h => by
   obtain ⟨e1, _, e3, e4⟩ := Hm.Parse.unique h hP
   rw [e1, e3, e4]
  generalize hfs : Hm.filesRd s l6 l8 st = fs at hun HSZ HU
  have HFS : Hid (Hm.filesRd s l6 l8 st = fs) := hfs
  clear hk1 hP hA hgot hrd hfl hF hsz hfs
  go_wp2_with fail
  refine hun.mono ?_
  rintro e w2 ⟨gf, rfl, hgf, hrow, hk2⟩
  have hat : FilesAt w2 (some ⟨gf, 0, none⟩) fs := FRow.at (r := []) (by rw [List.append_nil]; exact hrow)
  have hpk := pack_any (some ⟨gf, 0, none⟩) fs.length fs w2 hat (fun a ha => by injection ha with ha; rw [← ha]; exact hrow.lt) (by have := HSZ.out.1; omega) HSZ.out.2
  have H2 : Hid (Kept (fun _ => False) w w2 ∧ Hm.Parse s l6 L l8 st ∧ ArchAt w.heap.size w2 pa s l6 L l8 st) := ⟨H1.out.1.trans hk2 (fun _ _ h => h), H1.out.2.1, H1.out.2.2.kept hk2 (fun _ _ _ => id) id⟩
  clear hat hrow hk2 H1 hun
  go_wp2_with fail
  refine hpk.mono ?_
  rintro e w3 ⟨hps, hk3⟩
  have H3 : Hid (Kept (fun _ => False) w w3 ∧ Hm.Parse s l6 L l8 st ∧ ArchAt w.heap.size w3 pa s l6 L l8 st) := ⟨H2.out.1.trans hk3 (fun _ _ h => h), H2.out.2.1, H2.out.2.2.kept hk3 (fun _ _ _ => id) id⟩
  clear hpk H2 hk3
  rcases hps with ⟨hck, rfl⟩ | ⟨hck, s', hIs, rfl⟩
  ·have HC : Hid (Hm.ckAll fs ≠ 0) := hck
   have hne := hck
   clear hck
   generalize Hm.ckAll fs = c at hne ⊢
   have hd : (c == 0) = false := by simpa using hne
   have hd2 : (c != 0) = true := by simpa using hne
   clear hne
   go_wp2_with fail
   go_ret2
   exact ⟨H3.out.1, .inr ⟨fun l6' L' l8' st' h h0 => by rw [HU.out _ _ _ _ h] at h0; exact absurd h0 HC.out, rfl⟩⟩
  ·obtain ⟨S', hS'⟩ : ∃ x, x = (⟨s'.toArray⟩ : ByteArray) := ⟨_, rfl⟩
   rw [← hS']
   have HI : Hid (Hm.ckAll fs = 0 ∧ Hm.IsArch fs s' ∧ S' = (⟨s'.toArray⟩ : ByteArray)) := ⟨hck, hIs, hS'⟩
   by_cases hse : s' = s
   ·have hSS : S' = S := by rw [hS', HS.out, hse]
    rw [hSS]
    have HSE : Hid (s' = s) := hse
    clear hck hIs hS' hse hSS
    go_wp2_with fail
    go_ret2
    refine ⟨H3.out.1, .inl ⟨pa, l6, L, l8, st, hpa, H3.out.2.1, H3.out.2.2, by rw [HFS.out]; exact HI.out.1, ?_, rfl⟩⟩
    have := HI.out.2.1
    rw [HSE.out] at this
    rw [HFS.out]; exact this
   ·have hSS : (S'.toList == S.toList) = false := by
     rw [hS', HS.out, ByteArray.toList_eq, ByteArray.toList_eq, beq_eq_false_iff_ne]
     exact hse
    have HSE : Hid (¬ s' = s) := hse
    clear hck hIs hS' hse
    go_wp2_with fail
    go_ret2
    refine ⟨H3.out.1, .inr ⟨fun l6' L' l8' st' h h0 h1 => ?_, rfl⟩⟩
    rw [HU.out _ _ _ _ h] at h1
    exact HSE.out (Hm.IsArch.unique (Hm.ckAll_ok HI.out.1).2.2 HI.out.2.1 h1)

end Go.Proofs.YtegnkfdbmmndaaaGreat
end

/- StoreA -/
section
/- The archive that the laws store. -/
namespace Go.Proofs.YtegnkfdbmmndaaaGreat
open Go.RowKit

theorem ownsRow_files {w : World} {base : Nat} {v : Value} {fs : List Hm.Fl} (h : w.ownsRow base 38 2 v fs.length (Hm.fcells fs)) : ∃ ao c, v = .slice ao fs.length c ∧ FilesAt w ao fs ∧ ∀ a, ao = some a → a.block < w.heap.size := by
 rcases h.2 with ⟨rfl, h0⟩ | ⟨g, cap, cur, rfl, _, hb, _⟩
 ·exact ⟨none, 0, by rw [h0], fun i hi => by omega, by simp⟩
 ·have hlt : g < w.heap.size := (h.lt g rfl).2
  refine ⟨_, cap, rfl, fun i hi => ⟨g, 0, rfl, hlt, ?_, ?_⟩, fun a ha => by cases ha; exact hlt⟩
  ·rw [Nat.zero_add, h.cellAt _ (by omega)]; exact Hm.fcells_fst fs i hi
  ·rw [Nat.zero_add, h.cellAt _ (by omega)]; exact Hm.fcells_snd fs i hi

/-- Files are stored: an archive of them, and what was loaded of it. -/
structure StoredAt (w w' : World) (fs : List Hm.Fl) (s : List UInt8) (B pa : Nat) (l6 : List UInt8) (L : List Nat) (l8 : List UInt8) (st : Hm.LaySt) : Prop where
 is : Hm.IsArch fs s
 ge : w.heap.size ≤ B
 le : B ≤ pa
 parse : Hm.Parse s l6 L l8 st
 files : Hm.filesRd s l6 l8 st = fs
 arch : ArchAt B w' pa s l6 L l8 st

theorem stored_any (hones : OnesSays) (hLn : LenSays) (ao : Option Addr) (c : Nat) (fs : List Hm.Fl) (w : World) (hf : FilesAt w ao fs) (hfb : ∀ a, ao = some a → a.block < w.heap.size) (hck : Hm.ckAll fs = 0) :
  Calls Tryz.prog 18 #[.slice ao fs.length c] w fun e w' => Kept (fun _ => False) w w' ∧ ∃ s B pa l6 L l8 st, StoredAt w w' fs s B pa l6 L l8 st ∧ e = .returned (.tuple #[.pointer (some ⟨pa, 0, none⟩), .string ⟨s.toArray⟩]) := by
 obtain ⟨hm, h32, hn⟩ := Hm.ckAll_ok hck
 have hpk := pack_any ao c fs w hf hfb (by omega) (fun f hf => ⟨by have := (h32 f hf).1; omega, by have := (h32 f hf).2; omega⟩)
 have HCK : Hid (Hm.ckAll fs = 0) := hck
 clear h32 hf hfb hck hn
 go_enter Tryz.func18, Tryz.ntmps18
 go_wp2_with fail
 refine hpk.mono ?_
 rintro e w1 ⟨hps, hk1⟩
 rcases hps with ⟨hne, _⟩ | ⟨_, s, hIs, rfl⟩
 ·exact absurd HCK.out hne
 have hln := Hm.arch_length HCK.out hIs
 have hld := load_any hones hLn s w1 (by omega)
 obtain ⟨S, hS⟩ : ∃ S, S = (⟨s.toArray⟩ : ByteArray) := ⟨_, rfl⟩
 rw [← hS] at hld ⊢
 have H1 : Hid (Kept (fun _ => False) w w1 ∧ Hm.IsArch fs s ∧ S = (⟨s.toArray⟩ : ByteArray)) := ⟨hk1, hIs, hS⟩
 clear hpk hk1 hIs hS hln
 go_wp2_with fail
 refine hld.mono ?_
 rintro e w2 ⟨hk2, hsay⟩
 obtain ⟨l6', L', l8', st', hP', hfs'⟩ := Hm.arch_back HCK.out H1.out.2.1
 rcases hsay with ⟨pa, l6, L, l8, st, hpa, hP, hA, hck', hI', rfl⟩ | ⟨hno, _⟩
 ·have H2 : Hid (Kept (fun _ => False) w w2 ∧ StoredAt w w2 fs s w1.heap.size pa l6 L l8 st) := by
   refine ⟨H1.out.1.trans hk2 (fun _ _ h => h), H1.out.2.1, H1.out.1.size, hpa, hP, ?_, hA⟩
   obtain ⟨rfl, _, rfl, rfl⟩ := Hm.Parse.unique hP' hP
   exact hfs'
  clear hld hk2 hP' hfs' hP hA hck' hI' hpa
  go_wp2_with fail
  go_ret2
  refine ⟨H2.out.1, s, w1.heap.size, pa, l6, L, l8, st, H2.out.2, ?_⟩
  rw [H1.out.2.2]; rfl
 ·exact absurd (by rw [hfs']; exact H1.out.2.1) (hno l6' L' l8' st' hP' (by rw [hfs']; exact HCK.out))

end Go.Proofs.YtegnkfdbmmndaaaGreat
end

/- RndA -/
section
/- All that is known of what was read of an archive; steps back from any row. -/
namespace Go.Proofs.YtegnkfdbmmndaaaGreat
namespace Hm

/-- What was read of an archive of files, and what it is. -/
structure ArchIs (fs : List (ByteArray × ByteArray)) (s l6 l8 : List UInt8) (st : LaySt) (ps : List Nat) : Prop where
 sorted : Sorted (textOf fs) ps
 few : fs.length ≤ 40
 small : (textOf fs).length ≤ 6000
 nF : (rdF s).1 = fs.length
 nN : (rdN s).1 = (textOf fs).length
 nR : (rdR s).1 = rootOf ps
 col : colRd l8 (textOf fs).length st = colOf (textOf fs) ps
 samp : ∃ X, l8.drop (szB st.len) = packBits (samples ps) ++ X
 ends : ∀ j, j < fs.length → endRd s l6 j = (textOf (fs.take (j + 1))).length
 froms : ∀ i, i < fs.length → fromRd s l6 i = (textOf (fs.take i)).length

theorem arch_whole0 {fs : List (ByteArray × ByteArray)} {s : List UInt8} (hck : ckAll fs = 0) (hA : IsArch fs s) : ∃ l6 L l8 st ps, Parse s l6 L l8 st ∧ ArchIs fs s l6 l8 st ps := by
 obtain ⟨hm, h32, hn⟩ := ckAll_ok hck
 obtain ⟨ps, N, hps, _, hE, es⟩ := hA.is
 have hC := lens_coded (textOf fs) hn
 have hmem : ∀ b ∈ colOf (textOf fs) ps, b ∈ orderOf (lens (textOf fs)) := fun b hb => (lens_mem _ hn b).2 (colOf_mem hps.perm b hb)
 have hroot := (rootOf_idx hps.perm).2
 have hcl := colOf_length hps.perm
 obtain ⟨t, ht⟩ : ∃ t, t = textOf fs := ⟨_, rfl⟩
 obtain ⟨tr, htr⟩ : ∃ tr, tr = trOf (lens (textOf fs)) N (colOf (textOf fs) ps) := ⟨_, rfl⟩
 obtain ⟨SB, hSB⟩ : ∃ x, x = leBytes (crc (archBody fs ps tr)) 4 := ⟨_, rfl⟩
 have hSl : SB.length = 4 := by rw [hSB, leBytes_length]
 obtain ⟨X9, hX9⟩ : ∃ x, x = packBits (samples ps) ++ SB := ⟨_, rfl⟩
 obtain ⟨X8, hX8⟩ : ∃ x, x = packBits tr ++ X9 := ⟨_, rfl⟩
 obtain ⟨X7, hX7⟩ : ∃ x, x = leBytes (codedOf (lens (textOf fs))).length 2 ++ (lenBytes (lens (textOf fs)) (codedOf (lens (textOf fs))) ++ X8) := ⟨_, rfl⟩
 obtain ⟨X6, hX6⟩ : ∃ x, x = packBits (endsBits (endsOf fs) (textOf fs).length) ++ X7 := ⟨_, rfl⟩
 have hs : s = [72, 79, 65, 82, 68, 49, UInt8.ofNat fs.length] ++ (leBytes (textOf fs).length 2 ++ (leBytes (rootOf ps) 2 ++ (nameBytes fs ++ X6))) := by
  rw [es, ← htr, hX6, hX7, hX8, hX9, hSB]
  unfold archOf archBody
  simp only [List.append_assoc]
 have hbody : s = archBody fs ps tr ++ SB := by rw [es, ← htr, hSB]; rfl
 have hhead := head_app fs (textOf fs).length (rootOf ps) X6 (by omega) (by omega) hroot (fun f hf => (h32 f hf).1)
 simp only at hhead
 rw [← hs] at hhead
 obtain ⟨eF, eN, eR, eM⟩ := hhead
 have hel := endsOf_length fs
 obtain ⟨q1, q2, q3⟩ := endsOk_app (endsOf fs) (textOf fs).length hn (endsOf_up fs) X7
 rw [← hX6, hel] at q1 q2 q3
 obtain ⟨st, t1, t2, t3⟩ := treeOk_app hC hE hmem X9
 rw [← htr, ← hX8, hcl] at t1
 rw [← htr] at t2
 rw [← htr, ← hX8] at t3
 obtain ⟨s1, s2⟩ := sampOk_app hps.perm SB
 rw [← hX9] at s1 s2
 have hd8 : X8.drop (szB st.len) = X9 := by rw [t2, hX8, List.drop_left]
 have hP : Parse s X6 (lens (textOf fs)) X8 st := by
  refine ⟨by rw [eM], by rw [eF, eN]; exact q1, ?_, by rw [eN]; exact t1, by rw [eN, hd8]; exact s1, ?_⟩
  ·rw [eF, eN, q2, hX7]
   exact rdL_app _ _ hC.len (lens_le255 hC)
  ·rw [eN, hd8, s2]
   have hlen : s.length - 4 = (archBody fs ps tr).length := by rw [hbody, List.length_append, hSl]; omega
   have htake : s.take (s.length - 4) = archBody fs ps tr := by rw [hlen, hbody, List.take_left]
   unfold sumO
   rw [htake, show numO (some SB) 4 = (crc (archBody fs ps tr), some []) from by
    have := numO_app (crc (archBody fs ps tr)) 4 [] (by have := crc_lt (archBody fs ps tr); omega)
    rwa [List.append_nil, ← hSB] at this]
   exact if_pos ⟨rfl, rfl⟩
 refine ⟨X6, lens (textOf fs), X8, st, ps, hP, ?_⟩
 have hcol : colRd X8 (textOf fs).length st = colOf (textOf fs) ps := by
  obtain ⟨c1, c2, _⟩ := colRd_is t1
  exact c2.unique t3 (by rw [c1, hcl])
 have hend : ∀ j, j < fs.length → endRd s X6 j = (textOf (fs.take (j + 1))).length := fun j hj => by
  unfold endRd
  rw [eF, eN, q3 j (by omega), endsOf_getD fs j hj]
 have hfrom : ∀ i, i < fs.length → fromRd s X6 i = (textOf (fs.take i)).length := fun i hi => by
  show (if i = 0 then 0 else _) = _
  by_cases c : i = 0
  ·rw [if_pos c, c]; rfl
  ·rw [if_neg c]
   have := hend (i - 1) (by omega)
   rw [show i - 1 + 1 = i from by omega] at this
   exact this
 exact ⟨hps, hm, hn, eF, eN, eR, hcol, ⟨SB, by rw [hd8, hX9]⟩, hend, hfrom⟩

theorem arch_whole {fs : List (ByteArray × ByteArray)} {s l6 : List UInt8} {L : List Nat} {l8 : List UInt8} {st : LaySt} (hck : ckAll fs = 0) (hA : IsArch fs s) (hP : Parse s l6 L l8 st) : ∃ ps, ArchIs fs s l6 l8 st ps := by
 obtain ⟨a, b, c, d, ps, h, hw⟩ := arch_whole0 hck hA
 obtain ⟨rfl, _, rfl, rfl⟩ := Parse.unique h hP
 exact ⟨ps, hw⟩

/-- Going back from any row. -/
theorem backTo_from {t : List UInt8} {ps ws : List Nat} (h : Sorted t ps) (hw : Weighs ws (colOf t ps)) (row q : Nat) (hr : row < ps.length) (e : ps[row] = q) (hq : q ≤ t.length) : ∀ k, k ≤ q → (backTo (longer (colOf t ps) ws (rootOf ps)) row k).1 = part t (q - k) q ∧ ∃ hj : (backTo (longer (colOf t ps) ws (rootOf ps)) row k).2 < ps.length, ps[(backTo (longer (colOf t ps) ws (rootOf ps)) row k).2] = q - k
 | 0, _ => by
  refine ⟨?_, hr, e⟩
  unfold part
  rw [Nat.sub_zero, Nat.sub_self]; rfl
 | k + 1, hk => by
  obtain ⟨h1, hj, h2⟩ := backTo_from h hw row q hr e hq k (by omega)
  obtain ⟨j, hj2, e2⟩ := row_of h (q - (k + 1)) (by omega)
  have hl := longer_is h hw _ j (q - (k + 1)) hj hj2 (by rw [h2]; omega) e2
  have e1 : backTo (longer (colOf t ps) ws (rootOf ps)) row (k + 1) = (t.getD (q - (k + 1)) 0 :: (backTo (longer (colOf t ps) ws (rootOf ps)) row k).1, j) := by
   rw [backTo, hl]
  rw [e1]
  refine ⟨?_, hj2, e2⟩
  show _ :: _ = _
  rw [h1]
  unfold part
  have hlt : q - (k + 1) < t.length := by omega
  rw [List.drop_eq_getElem_cons hlt, List.getD_eq_getElem?_getD, List.getElem?_eq_getElem hlt, show q - (k + 1) + 1 = q - k from by omega, show q - (q - (k + 1)) = k + 1 from by omega, show q - (q - k) = k from by omega, List.take_succ_cons]
  rfl

end Hm
end Go.Proofs.YtegnkfdbmmndaaaGreat
end

/- FndA -/
section
/- How one goes down the tree by a code. -/
namespace Go.Proofs.YtegnkfdbmmndaaaGreat
namespace Hm

/-- What is laid out of bytes tells a column. -/
theorem treeOk_tellsBy {l : List UInt8} {n : Nat} {L : List Nat} {st : LaySt} (h : TreeOk l n L st) :
  ∃ col : List UInt8, col.length = n ∧ TellsBy 32 (lnB L) (numB L) (orderOf L) (l.take (szB st.len)) st.nds col ∧ Weighs st.ws col := by
 obtain ⟨hC, hl⟩ := h
 obtain ⟨h0, hE⟩ := nodeN_is hC
 have hsh := hE.nodes
 have hlk := layTo_like hl
 have hinv := layTo_inv hsh hC.nodup rfl (Nat.le_refl _) hl
 have hle := layTo_len hl
 have hs2 := hsh.like hlk.1
 have hll0 : (nodesOf L).length = st.nds.length := hlk.1.1.symm
 replace hinv : LayInv (bitB (l.take (szB (mostOf l n L)))) n (nodesOf L).length st := hinv
 rw [hll0] at hinv
 obtain ⟨col, c1, c2, c3, c4⟩ := laid_rep hinv rfl hs2 hC.numk hC.num_lt hC.pos
 have hm : mostOf l n L ≤ 8 * l.length := Nat.min_le_left _ _
 have hsz : st.len ≤ 8 * szB st.len := by unfold szB; omega
 have hll : (l.take (szB st.len)).length = szB st.len := by rw [List.length_take]; unfold szB; omega
 have fits : ∀ j, j < st.nds.length → (ndAt st.nds j).frm + (ndAt st.nds j).siz ≤ st.len := fun j hj => by
  rw [c3.frm j hj, hinv.len]
  exact startOf_mono st.nds (show j + 1 ≤ st.nds.length by omega)
 refine ⟨col, c1, ⟨⟨c3.siz, c3.frm, fun j p hj hp => ?_⟩, hs2, hC.numk, c2, hC.pos, hC.num_lt, fun j hj => ?_⟩, hinv.wl, c4⟩
 ·have hf := fits j hj
  rw [← c3.bit j p hj hp, bitB_pre l _ _ (by omega), bitB_pre l _ _ (by unfold szB; omega)]
 ·rw [hll]
  have hf := fits j hj
  omega
/-- The column that was read, told by its own codes. -/
theorem colRd_by {l : List UInt8} {n : Nat} {L : List Nat} {st : LaySt} (h : TreeOk l n L st) : TellsBy 32 (lnB L) (numB L) (orderOf L) (l.take (szB st.len)) st.nds (colRd l n st) := by
 obtain ⟨col, c1, c2, _⟩ := treeOk_tellsBy h
 obtain ⟨e1, e2, _⟩ := colRd_is h
 have e : colRd l n st = col := e2.unique ⟨_, _, _, _, c2⟩ (by rw [e1, c1])
 rw [e]; exact c2

section
variable {M : Nat} {ln num : UInt8 → Nat} {o : List UInt8} {nds : List Nd} {f : Nat → Bool} {col : List UInt8}
/-- Where one is on the way by a byte's code, with what stands ahead of a place of the column. -/
structure Goes (ln num : UInt8 → Nat) (nds : List Nd) (col : List UInt8) (b : UInt8) (a d n q : Nat) : Prop where
 lt : n < nds.length
 dep : (ndAt nds n).depth = d
 und : under ln num (ndAt nds n) b = true
 cnt : q = (colAt ln num nds (col.take a) n).length
theorem Goes.start (h : Shaped M ln o nds) (hc : ∀ b ∈ col, b ∈ o) (hpos : ∀ b ∈ o, 0 < ln b) (hnum : ∀ b ∈ o, num b < 2 ^ ln b) {b : UInt8} (hb : b ∈ o) {a : Nat} (ha : a ≤ col.length) : Goes ln num nds col b a 0 0 a := by
 have hu : ∀ x ∈ o, under ln num (ndAt nds 0) x = true := fun x hx => decide_eq_true ⟨by rw [h.root.1]; exact hpos x hx, by rw [h.root.1, h.root.2, Nat.sub_zero]; exact Nat.div_eq_of_lt (hnum x hx)⟩
 refine ⟨h.more, h.root.1, hu b hb, ?_⟩
 unfold colAt
 rw [List.filter_eq_self.2 fun x hx => hu x (hc x (List.mem_of_mem_take hx)), List.length_take]
 omega
theorem colAt_pre (p : UInt8 → Bool) (col : List UInt8) (a : Nat) : (col.filter p).take ((col.take a).filter p).length = (col.take a).filter p := by
 rw [← List.countP_eq_length_filter]; exact filter_take_count p col a
theorem Goes.le {b : UInt8} {a d n q : Nat} (g : Goes ln num nds col b a d n q) (hr : Rep ln num f nds col) : q ≤ (ndAt nds n).siz := by
 rw [hr.siz n g.lt, g.cnt]
 exact ((List.take_sublist a col).filter _).length_le
theorem Goes.step (hr : Rep ln num f nds col) (h : Shaped M ln o nds) (hk : NumK M ln num o) (hc : ∀ b ∈ col, b ∈ o) {b : UInt8} (hb : b ∈ o) {a d n q : Nat} (g : Goes ln num nds col b a d n q) :
  (((ndAt nds n).br (bitAt ln num d b) = { whole := true, val := b } ∧ d + 1 = ln b ∧ aheadOf f nds n (bitAt ln num d b) q = (col.take a).count b) ∨
    ∃ m, (ndAt nds n).br (bitAt ln num d b) = { node := m } ∧ d + 1 < ln b ∧ Goes ln num nds col b a (d + 1) m (aheadOf f nds n (bitAt ln num d b) q)) := by
 have hct : ∀ x ∈ col.take a, x ∈ o := fun x hx => hc x (List.mem_of_mem_take hx)
 have hu := bitAt_lt ln num d b
 have ea := hr.ahead g.lt (g.le hr) hu
 rw [g.dep] at ea
 have epre : (colAt ln num nds col n).take q = colAt ln num nds (col.take a) n := by
  rw [g.cnt]; exact colAt_pre _ col a
 rw [epre] at ea
 obtain ⟨u, hue⟩ : ∃ u, u = bitAt ln num d b := ⟨_, rfl⟩
 rw [← hue] at hu ea ⊢
 have hue2 : u = bitAt ln num (ndAt nds n).depth b := by rw [g.dep]; exact hue
 cases h.good n u g.lt hu with
 | leaf kk hkk e1 e2 e3 =>
  have ev : b = o.getD kk 0 := child_leaf hk hb g.und hkk e2 (by rw [← hue2]; exact e3)
  refine .inl ⟨by rw [ev]; exact e1, by rw [ev, e2, g.dep], ?_⟩
  have e4 : (col.take a).count b = (colAt ln num nds (col.take a) n).count b := by
   unfold colAt
   rw [List.count_filter g.und]
  rw [ea, e4, List.count]
  refine List.countP_congr fun x hx => ?_
  obtain ⟨q1, q2⟩ := List.mem_filter.1 hx
  constructor
  ·intro hy
   have hx2 : bitAt ln num (ndAt nds n).depth x = u := by rw [g.dep]; simpa using hy
   have := child_leaf hk (hct _ q1) q2 hkk e2 (by rw [hx2]; exact e3)
   rw [this, ev]; exact beq_self_eq_true _
  ·intro hy
   have hx2 : x = b := by simpa using hy
   rw [hx2, hue]; exact beq_self_eq_true _
 | node m e1 q1 q2 q3 q4 =>
  have ec := h.col_child hk hct g.lt hu (by omega) e1
  have eb := h.col_child (col := [b]) hk (by simpa using hb) g.lt hu (by omega) e1
  have hub : under ln num (ndAt nds m) b = true := by
   have e5 : colAt ln num nds [b] n = [b] := List.filter_cons_of_pos g.und
   rw [e5, List.filter_cons_of_pos (by rw [← hue2]; exact beq_self_eq_true _)] at eb
   have hm : b ∈ colAt ln num nds [b] m := by rw [eb]; exact List.mem_cons_self ..
   exact (List.mem_filter.1 hm).2
  refine .inr ⟨m, e1, ?_, q2, by rw [q3, g.dep], hub, ?_⟩
  ·have := (of_decide_eq_true hub).1
   rw [q3, g.dep] at this; exact this
  ·rw [ec, ea, List.countP_eq_length_filter, g.dep]
 | none e1 q1 =>
  exact (child_none hk hb g.und (by rw [← hue2]; exact q1)).elim
end

end Hm
end Go.Proofs.YtegnkfdbmmndaaaGreat
end

/- FndB -/
section
/- How many bytes of a kind stand ahead. -/
namespace Go.Proofs.YtegnkfdbmmndaaaGreat
open Go.RowKit

set_option maxRecDepth 20000 in
set_option maxHeartbeats 4000000 in
theorem ahead_any (hones : OnesSays) (pb o len g ng nc a cn cl : Nat) (b : UInt8) (s : ByteArray) (nds : List Hm.Nd) (col : List UInt8) (L : List Nat) (w : World) (h : TreePart w pb o s len g ng nc nds) (hC : Hm.Coded L) (ht : Hm.TellsBy 32 (Hm.lnB L) (Hm.numB L) (Hm.orderOf L) s.data.toList nds col) (ha : a ≤ col.length) (hs : s.size ≤ 1000000) (hcl : col.length ≤ 1000000)
  (t0 : w.cell? ⟨pb, o + 3 + b.toNat * 2, none⟩ = some (.int .u64 (cn : Nat))) (t1 : w.cell? ⟨pb, o + 3 + b.toNat * 2 + 1, none⟩ = some (.int .i64 (cl : Nat))) (hcn : cn = Hm.numB L b) (hcl2 : cl = (Hm.codeOf L b).2) :
  Calls Tryz.prog 184 #[.pointer (some ⟨pb, o, none⟩), .int .u8 (b.toNat : Nat), .int .i64 a] w fun e w' => e = .returned (.int .i64 (((col.take a).count b : Nat) : Nat)) ∧ Kept (fun _ => False) w w' := by
 have hbn := b.toNat_lt
 obtain ⟨bn, hbe⟩ : ∃ bn, bn = b.toNat := ⟨_, rfl⟩
 rw [← hbe] at t0 t1 hbn ⊢
 have hbI : (bn : Int) < 256 := by omega
 have HBE : Hid (bn = b.toNat) := hbe
 clear hbe
 by_cases hbo : b ∈ Hm.orderOf L
 rotate_left
 ·rw [Hm.codeOf_no L b hbo] at hcl2
  have hcl0 : cl = 0 := hcl2
  have hz : (col.take a).count b = 0 := List.count_eq_zero.2 fun hm => hbo (ht.mem b (List.mem_of_mem_take hm))
  rw [hz]
  subst hcl0
  clear h ht hcn hcl2
  go_enter Tryz.func184, Tryz.ntmps184
  go_wp2_with fail
  go_ret
  exact ⟨rfl, (Kept.refl _ _).alloc _⟩
 ·have hln : cl = Hm.lnB L b := by rw [hcl2]; exact Hm.codeOf_len L (fun x => hC.le255 x) b
  have hpos := ht.pos b hbo
  have h32 := hC.short b
  have hnl := ht.num b hbo
  have hsl : s.data.toList.length = s.size := by simp
  have hg0 := Hm.Goes.start ht.shp ht.mem ht.pos ht.num hbo ha
  have hst := fun d n q (x : Hm.Goes (Hm.lnB L) (Hm.numB L) nds col b a d n q) => x.step ht.rep ht.shp ht.numk ht.mem hbo
  have hle := fun d n q (x : Hm.Goes (Hm.lnB L) (Hm.numB L) nds col b a d n q) => x.le ht.rep
  have hbt := fun d (hd : d < cl) W => codeBit_any cn cl d W (by rw [hcn]; exact Nat.lt_of_lt_of_le hnl (Nat.pow_le_pow_right (by omega) h32)) (by omega) hd
  have HBT : Hid (∀ d, d < cl → ∀ W, Calls Tryz.prog 151 #[.agg #[.int .u64 cn, .int .i64 cl], .int .i64 d] W fun e w' => e = .returned (.int .i64 ((Hm.bitAt (Hm.lnB L) (Hm.numB L) d b : Nat) : Int)) ∧ Kept (fun _ => False) W w') := fun d hd W => by
   have := hbt d hd W
   rw [hcn, hln] at this
   rw [hcn, hln]; exact this
  have hcl32 : cl ≤ 32 := by omega
  have hcl0 : 0 < cl := by omega
  obtain ⟨R, hR⟩ : ∃ R, R = (col.take a).count b := ⟨_, rfl⟩
  rw [← hln, ← hR] at hst
  rw [← hR]
  have HST : Hid _ := hst
  have HLE : Hid _ := hle
  have HT : Hid (Hm.TellsBy 32 (Hm.lnB L) (Hm.numB L) (Hm.orderOf L) s.data.toList nds col) := ht
  have HH : Hid (TreePart w pb o s len g ng nc nds) := h
  have HG0 : Hid (Hm.Goes (Hm.lnB L) (Hm.numB L) nds col b a 0 0 a) := hg0
  have hcle : (cl : Int) ≤ 32 := by omega
  have hne0 : ((cl : Int) == 0) = false := by rw [beq_eq_false_iff_ne]; omega
  clear h ht hst hle hg0 hbt hln hcn hcl2 hR hpos h32 hnl
  go_enter Tryz.func184, Tryz.ntmps184
  go_wp2_with fail
  go_loopw [2, 9, 21] (fun v2 _ v21 wr => ∃ (br : Hm.Br) (d q : Nat), v2 = .int .i64 q ∧ v21 = .int .i64 d ∧ wr.heap[w.heap.size]? = some (.cells #[.int .u64 cn, .int .i64 cl] 90 (0, 0)) ∧ wr.heap[w.heap.size + 1]? = some (.cells (brCells br).toArray 192 (0, 0)) ∧ Kept (fun _ => False) w wr ∧ ((d < cl ∧ br.whole = false ∧ Hm.Goes (Hm.lnB L) (Hm.numB L) nds col b a d br.node q) ∨ (d = cl ∧ q = R))) (fun _ _ vi _ => cl - (intOf vi).toNat)
  case atStart => exact ⟨{}, 0, a, rfl, rfl, heap_alloc2_old w _ _, heap_alloc2_new w _ _, ((Kept.refl _ _).alloc _).alloc _, .inl ⟨hcl0, rfl, HG0.out⟩⟩
  case round =>
   obtain ⟨br, d, q, rfl, rfl, hcb, hbb, hkr, hcase⟩ := hrel
   rcases hcase with ⟨hdl, hbw, hgo⟩ | ⟨rfl, rfl⟩
   ·have hdI : (d : Int) < (cl : Int) := by omega
    have hdd : decide (d < cl) = true := decide_eq_true hdl
    obtain ⟨bw, bv, bn2⟩ := br
    obtain rfl : bw = false := hbw
    replace hgo : Hm.Goes (Hm.lnB L) (Hm.numB L) nds col b a d bn2 q := hgo
    have hnx := HST.out d bn2 q hgo
    have hq := HLE.out d bn2 q hgo
    have hfits := HT.out.fits bn2 hgo.lt
    have hq2 : q ≤ 1000000 := by
     have h3 := HT.out.rep.siz bn2 hgo.lt
     have h4 := Hm.colAt_le (Hm.lnB L) (Hm.numB L) nds col bn2
     omega
    rw [hsl] at hfits
    obtain ⟨u, hu⟩ : ∃ u, u = Hm.bitAt (Hm.lnB L) (Hm.numB L) d b := ⟨_, rfl⟩
    have hu2 : u < 2 := by rw [hu]; exact Hm.bitAt_lt _ _ _ _
    have hbit := HBT.out d hdl
    rw [← hu] at hnx hbit
    have hfol := follow_any hones pb o len g ng nc s nds ⟨false, bv, bn2⟩ u q
    replace hfol : ∀ W, TreePart W pb o s len g ng nc nds → _ := fun W hW => hfol W hW hgo.lt hu2 (by show (Hm.ndAt nds bn2).frm + q ≤ _; omega) hs HT.out.shp.few
    have HKR : Hid (Kept (fun _ => False) w wr) := hkr
    have HR : Hid (wr.heap[w.heap.size]? = some (.cells #[.int .u64 cn, .int .i64 cl] 90 (0, 0)) ∧ wr.heap[w.heap.size + 1]? = some (.cells #[.bool false, .int .u8 (bv.toNat : Nat), .int .i64 (bn2 : Nat)] 192 (0, 0))) := ⟨hcb, hbb⟩
    have e0 : wr.cell? ⟨w.heap.size, 0, none⟩ = some (.int .u64 (cn : Nat)) := cell_of_row _ _ 0 _ _ _ hcb
    have e1 : wr.cell? ⟨w.heap.size, 1, none⟩ = some (.int .i64 (cl : Nat)) := cell_of_row _ _ 1 _ _ _ hcb
    have c0 : wr.cell? ⟨w.heap.size + 1, 0, none⟩ = some (.bool false) := cell_of_row _ _ 0 _ _ _ hbb
    have c1 : wr.cell? ⟨w.heap.size + 1, 1, none⟩ = some (.int .u8 (bv.toNat : Nat)) := cell_of_row _ _ 1 _ _ _ hbb
    have c2 : wr.cell? ⟨w.heap.size + 1, 2, none⟩ = some (.int .i64 (bn2 : Nat)) := cell_of_row _ _ 2 _ _ _ hbb
    have HTP : Hid (TreePart wr pb o s len g ng nc nds) := HH.out.kept hkr id id id
    obtain ⟨bw', bv', bn', q', hfo2, hrl2⟩ : ∃ (bw' : Bool) (bv' : UInt8) (bn' q' : Nat), (∀ W, TreePart W pb o s len g ng nc nds → Calls Tryz.prog 124 #[.pointer (some ⟨pb, o, none⟩), .agg #[.bool false, .int .u8 (bv.toNat : Nat), .int .i64 (bn2 : Nat)], .int .i64 u, .int .i64 q] W fun e w' => e = .returned (.tuple #[.agg #[.bool bw', .int .u8 (bv'.toNat : Nat), .int .i64 (bn' : Nat)], .int .i64 (q' : Nat)]) ∧ Kept (fun _ => False) W w') ∧
      ((d + 1 < cl ∧ bw' = false ∧ Hm.Goes (Hm.lnB L) (Hm.numB L) nds col b a (d + 1) bn' q') ∨ (d + 1 = cl ∧ q' = R)) := by
     rcases hnx with ⟨x1, x2, x3⟩ | ⟨m, x1, x2, x3⟩
     ·refine ⟨true, b, 0, R, fun W hW => ?_, .inr ⟨x2, rfl⟩⟩
      have hf := hfol W hW
      rw [x1, show Hm.aheadOf (Hm.bitB s.data.toList) nds (Hm.Br.mk false bv bn2).node u q = R from x3] at hf
      exact hf
     ·refine ⟨false, 0, m, _, fun W hW => ?_, .inl ⟨x2, rfl, x3⟩⟩
      have hf := hfol W hW
      rw [x1] at hf
      exact hf
    have HFO : Hid _ := hfo2
    have HBI : Hid _ := hbit
    have HRL : Hid _ := hrl2
    clear hcb hbb hkr hgo hnx hq hfits hu hbit hfol hfo2 hrl2
    go_wp2_with fail
    go_region_with (first
     | (go_at_call 151; (refine (HBI.out _).mono ?_; rintro e w6 ⟨rfl, hk6⟩; have k6 : Hid (Kept (fun _ => False) wr w6) := (Kept.refl (fun _ => False) wr).drew.trans hk6 (fun _ _ h => h); have r6 := hk6.row HR.out.2 id; have c3 : w6.cell? ⟨w.heap.size + 1, 0, none⟩ = some (.bool false) := cell_of_row _ _ 0 _ _ _ r6; have c4 : w6.cell? ⟨w.heap.size + 1, 1, none⟩ = some (.int .u8 (bv.toNat : Nat)) := cell_of_row _ _ 1 _ _ _ r6; have c5 : w6.cell? ⟨w.heap.size + 1, 2, none⟩ = some (.int .i64 (bn2 : Nat)) := cell_of_row _ _ 2 _ _ _ r6; clear r6 hk6))
     | (go_at_call 124; (refine (HFO.out _ (HTP.out.kept k6.out id id id)).mono ?_; rintro e w7 ⟨rfl, hk7⟩; have k7 : Hid (Kept (fun _ => False) wr w7) := k6.out.trans hk7 (fun _ _ h => h); have r7 := k7.out.row HR.out.2 id; have f0 : w7.frozen? ⟨w.heap.size + 1, 0, none⟩ = false := frozen_of_row _ _ 0 _ _ r7; have f1 : w7.frozen? ⟨w.heap.size + 1, 1, none⟩ = false := frozen_of_row _ _ 1 _ _ r7; have f2 : w7.frozen? ⟨w.heap.size + 1, 2, none⟩ = false := frozen_of_row _ _ 2 _ _ r7; have d0 : w7.cell? ⟨w.heap.size + 1, 0, none⟩ = some (.bool false) := cell_of_row _ _ 0 _ _ _ r7; have d1 : w7.cell? ⟨w.heap.size + 1, 1, none⟩ = some (.int .u8 (bv.toNat : Nat)) := cell_of_row _ _ 1 _ _ _ r7; have d2 : w7.cell? ⟨w.heap.size + 1, 2, none⟩ = some (.int .i64 (bn2 : Nat)) := cell_of_row _ _ 2 _ _ _ r7; clear r7 hk7)))
    all_goals (
     go_wp2_with fail
     go_roundw
     case rel =>
      have hkk : Kept (fun j => j = w.heap.size + 1) w7 (((w7.setCell ⟨w.heap.size + 1, 0, none⟩ (.bool bw')).setCell ⟨w.heap.size + 1, 1, none⟩ (.int .u8 (bv'.toNat : Nat))).setCell ⟨w.heap.size + 1, 2, none⟩ (.int .i64 (bn' : Nat))) := (((Kept.refl (fun j => j = w.heap.size + 1) w7).setCell (p := ⟨w.heap.size + 1, 0, none⟩) (.inr rfl) _).setCell (p := ⟨w.heap.size + 1, 1, none⟩) (.inr rfl) _).setCell (p := ⟨w.heap.size + 1, 2, none⟩) (.inr rfl) _
      have hk8 : Kept (fun _ => False) w w7 := HKR.out.trans k7.out (fun _ _ h => h)
      exact ⟨⟨bw', bv', bn'⟩, d + 1, q', rfl, by go_num, hkk.row (k7.out.row HR.out.1 id) (by omega), heap_setCell_same _ _ 2 _ _ (.int .i64 (bn' : Nat)) (heap_setCell_same _ _ 1 _ _ (.int .u8 (bv'.toNat : Nat)) (heap_setCell_same _ _ 0 _ _ (.bool bw') (k7.out.row HR.out.2 id))), ((hk8.setCell (p := ⟨w.heap.size + 1, 0, none⟩) (.inl (Nat.le_succ _)) _).setCell (p := ⟨w.heap.size + 1, 1, none⟩) (.inl (Nat.le_succ _)) _).setCell (p := ⟨w.heap.size + 1, 2, none⟩) (.inl (Nat.le_succ _)) _, HRL.out⟩
     case measure => simp [intOf]; omega)
   ·have hdI : ¬ (d : Int) < (d : Int) := by omega
    have HKR : Hid (Kept (fun _ => False) w wr) := hkr
    clear hcb hbb hkr
    go_wp2_with fail
    go_ret
    exact ⟨rfl, HKR.out⟩

end Go.Proofs.YtegnkfdbmmndaaaGreat
end

/- FndC -/
section
/- Which rows have a byte ahead. -/
namespace Go.Proofs.YtegnkfdbmmndaaaGreat
open Go.RowKit

namespace Hm
/-- From which row on the rows stand that have a byte ahead of a row. -/
def bnd (col : List UInt8) (ws : List Nat) (root : Nat) (b : UInt8) (r : Nat) : Nat := firstAt ws b.toNat + (col.take (colIx root r)).count b
end Hm

set_option maxHeartbeats 2000000 in
theorem bounds_any (pb o len g ng nc root r1 r2 : Nat) (b : UInt8) (s : ByteArray) (nds : List Hm.Nd) (ws : List Nat) (col : List UInt8) (w : World) (h : RowsPart w pb o s len g ng nc nds root ws) (hrt : root ≤ col.length) (h1 : r1 ≤ col.length + 1) (h2 : r2 ≤ col.length + 1) (hcl : col.length ≤ 100000) (hfs : ∀ b, b < 256 → Hm.firstAt ws b ≤ 1000000000)
  (ahead : ∀ W a, Kept (fun _ => False) w W → a ≤ col.length → Calls Tryz.prog 184 #[.pointer (some ⟨pb, o, none⟩), .int .u8 (b.toNat : Nat), .int .i64 a] W fun e w' => e = .returned (.int .i64 (((col.take a).count b : Nat) : Nat)) ∧ Kept (fun _ => False) W w') :
  Calls Tryz.prog 160 #[.pointer (some ⟨pb, o, none⟩), .int .u8 (b.toNat : Nat), .int .i64 r1, .int .i64 r2] w fun e w' => e = .returned (.tuple #[.int .i64 (Hm.bnd col ws root b r1 : Nat), .int .i64 (Hm.bnd col ws root b r2 : Nat)]) ∧ Kept (fun _ => False) w w' := by
 have hbn := b.toNat_lt
 have hfb := hfs b.toNat hbn
 have hfc := h.firsts b.toNat hbn
 have hpw : pb < w.heap.size := World.block_lt_of_cell? _ _ h.root
 have hx : ∀ r, r ≤ col.length + 1 → Hm.colIx root r ≤ col.length := fun r hr => by unfold Hm.colIx; split <;> omega
 have hcnt : ∀ r, (col.take (Hm.colIx root r)).count b ≤ 100000 := fun r => Nat.le_trans List.count_le_length (by rw [List.length_take]; omega)
 have HC : Hid (∀ W r, Kept (fun _ => False) w W → r ≤ col.length + 1 → Calls Tryz.prog 80 #[.pointer (some ⟨pb, o, none⟩), .int .i64 (r : Nat)] W fun e w' => e = .returned (.int .i64 (Hm.colIx root r : Nat)) ∧ w' = W) := fun W r hk hr => rowsColumn_any pb o root r W ((hk.cell (p := ⟨pb, o + 773, none⟩) hpw id).trans h.root) (by omega)
 have hc1 := fun W hk => HC.out W r1 hk h1
 have hc2 := fun W hk => HC.out W r2 hk h2
 have ha1 := fun W hk => ahead W (Hm.colIx root r1) hk (hx r1 h1)
 have ha2 := fun W hk => ahead W (Hm.colIx root r2) hk (hx r2 h2)
 have n1 := hcnt r1
 have n2 := hcnt r2
 unfold Hm.bnd
 generalize (col.take (Hm.colIx root r1)).count b = q1 at *
 generalize (col.take (Hm.colIx root r2)).count b = q2 at *
 generalize Hm.colIx root r1 = x1 at *
 generalize Hm.colIx root r2 = x2 at *
 generalize Hm.firstAt ws b.toNat = fb at *
 generalize b.toNat = bn at *
 have hbI : (bn : Int) < 256 := by omega
 have hw1 : IntKind.i64.wrap ((fb : Int) + (q1 : Int)) = ((fb + q1 : Nat) : Int) := by rw [IntKind.wrap_i64]; omega
 have hw2 : IntKind.i64.wrap ((fb : Int) + (q2 : Int)) = ((fb + q2 : Nat) : Int) := by rw [IntKind.wrap_i64]; omega
 have C1 : Hid _ := hc1
 have C2 : Hid _ := hc2
 have A1 : Hid _ := ha1
 have A2 : Hid _ := ha2
 clear hc1 hc2 ha1 ha2 HC hx hcnt ahead h hfs h1 h2
 go_enter Tryz.func160, Tryz.ntmps160
 go_wp2_with fail
 go_region_held (fun X => Hid (Kept (fun _ => False) w X)) (first | exact k4 | exact k3 | exact k2 | exact k1 | exact (Kept.refl (fun _ => False) w).drew)
  (first
   | (go_at_call_of 80 (Value.int .i64 (r1 : Int)); (refine (C1.out _ (by first | exact k2.out | exact k1.out | exact (Kept.refl (fun _ => False) w).drew)).mono ?_; rintro e w1 ⟨rfl, hq1⟩; have k1 : Hid (Kept (fun _ => False) w w1) := (by rw [hq1]; first | exact k2.out | exact k1.out | exact (Kept.refl (fun _ => False) w).drew); clear hq1))
   | (go_at_call_of 80 (Value.int .i64 (r2 : Int)); (refine (C2.out _ (by first | exact k2.out | exact k1.out | exact (Kept.refl (fun _ => False) w).drew)).mono ?_; rintro e w3 ⟨rfl, hq3⟩; have k3 : Hid (Kept (fun _ => False) w w3) := (by rw [hq3]; first | exact k2.out | exact k1.out | exact (Kept.refl (fun _ => False) w).drew); clear hq3))
   | (go_at_call_of 184 (Value.int .i64 (x1 : Int)); (refine (A1.out _ (by first | exact k3.out | exact k1.out)).mono ?_; rintro e w2 ⟨rfl, hq2⟩; have k2 : Hid (Kept (fun _ => False) w w2) := (by first | exact k3.out.trans hq2 (fun _ _ h => h) | exact k1.out.trans hq2 (fun _ _ h => h)); clear hq2))
   | (go_at_call_of 184 (Value.int .i64 (x2 : Int)); (refine (A2.out _ (by first | exact k3.out | exact k2.out)).mono ?_; rintro e w4 ⟨rfl, hq4⟩; have k4 : Hid (Kept (fun _ => False) w w4) := (by first | exact k3.out.trans hq4 (fun _ _ h => h) | exact k2.out.trans hq4 (fun _ _ h => h)); clear hq4)))
 all_goals (
  go_wp2_with fail
  go_ret2
  exact ⟨by first | rfl | (rw [hw1, hw2]; rfl) | go_num, k4.out⟩)

end Go.Proofs.YtegnkfdbmmndaaaGreat
end
