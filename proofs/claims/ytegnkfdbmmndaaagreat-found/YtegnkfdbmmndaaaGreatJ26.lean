import Derived.Test.YtegnkfdbmmndaaaGreatJ24
import Derived.Test.YtegnkfdbmmndaaaGreatJ19
import Derived.Test.YtegnkfdbmmndaaaGreatJ25
import Derived.Test.YtegnkfdbmmndaaaGreatJ22
import Derived.Lib.SlBytesConst
import Derived.Deep.LoopGhost
import Derived.Deep.Cut
import Derived.Deep.CutRange

/- ArchG -/
section
/- The archive of files that may be packed. -/
namespace Go.Proofs.YtegnkfdbmmndaaaGreat
open Go.RowKit

set_option maxHeartbeats 4000000 in
set_option maxRecDepth 100000 in
theorem archive_any (ao : Option Addr) (c : Nat) (fs : List (ByteArray × ByteArray)) (N : Nat) (w : World) (hf : FilesAt w ao fs) (hfb : ∀ a, ao = some a → a.block < w.heap.size) (hm : fs.length ≤ 40) (h32 : ∀ f ∈ fs, f.1.size ≤ 32)
  (hn : (Hm.textOf fs).length ≤ 6000) (h0 : 0 < N) (hE : Hm.Ends 32 (Hm.lnB (Hm.lens (Hm.textOf fs))) (Hm.orderOf (Hm.lens (Hm.textOf fs))) N) :
  Calls Tryz.prog 51 #[.slice ao fs.length c] w fun e w' => ∃ ps : List Nat, Hm.Sorted (Hm.textOf fs) ps ∧ e = .returned (.string ⟨(Hm.archOf fs ps (Hm.trOf (Hm.lens (Hm.textOf fs)) N (Hm.colOf (Hm.textOf fs) ps))).toArray⟩) ∧ Kept (fun _ => False) w w' := by
 have hjf := joinFiles_any ao c fs w hf hm hn
 obtain ⟨st, hst⟩ : ∃ st, st = (⟨(Hm.textOf fs).toArray⟩ : ByteArray) := ⟨_, rfl⟩
 have hsl : st.data.toList = Hm.textOf fs := by rw [hst]
 have hsz : st.size = (Hm.textOf fs).length := by rw [hst]; rfl
 rw [← hst] at hjf
 obtain ⟨n, hnn⟩ : ∃ n, n = (Hm.textOf fs).length := ⟨_, rfl⟩
 rw [← hnn] at hn hsz
 have hC := Hm.lens_coded (Hm.textOf fs) (by omega)
 have hLm := Hm.lens_mem (Hm.textOf fs) (by omega)
 have hes : ∀ e ∈ Hm.endsOf fs, e ≤ n := fun e he => by rw [hnn]; exact Hm.endsOf_le fs e he
 have HF : Aside (FilesAt w ao fs ∧ (∀ a, ao = some a → a.block < w.heap.size) ∧ (∀ f ∈ fs, f.1.size ≤ 32) ∧ st.data.toList = Hm.textOf fs ∧ n = (Hm.textOf fs).length ∧ Hm.Coded (Hm.lens (Hm.textOf fs)) ∧ (∀ b, b ∈ Hm.orderOf (Hm.lens (Hm.textOf fs)) ↔ b ∈ Hm.textOf fs) ∧ Hm.Ends 32 (Hm.lnB (Hm.lens (Hm.textOf fs))) (Hm.orderOf (Hm.lens (Hm.textOf fs))) N ∧ ∀ e ∈ Hm.endsOf fs, e ≤ n) := ⟨hf, hfb, h32, hsl, hnn, hC, hLm, hE, hes⟩
 clear hf hfb h32 hsl hnn hC hLm hE hes hst
 go_enter Tryz.func51, Tryz.ntmps51
 go_wp2_with fail
 refine hjf.mono ?_
 rintro e w1 ⟨rfl, he1, hk1⟩
 clear hjf
 have hso := sort_any st w1 (by omega)
 go_wp2_with fail
 refine hso.mono ?_
 rintro e w2 ⟨ps, rfl, hpl2, hp2, hk2⟩
 clear hso
 have hsrt := hpl2.sorted
 rw [HF.out.2.2.2.1] at hsrt
 clear hpl2
 have hme := measure_any st w2 (by omega)
 rw [HF.out.2.2.2.1] at hme
 have he2 := he1.kept hk2 id
 have hk02 : Kept (fun _ => False) w w2 := hk1.trans hk2 (fun _ _ h => h)
 clear hk1 hk2 he1
 go_wp2_with fail
 refine hme.mono ?_
 rintro e w3 ⟨rfl, hk3⟩
 clear hme
 have he3 := he2.kept hk3 id
 have hp3 := hp2.kept hk3 id
 have hk03 := hk02.trans hk3 (fun _ _ h => h)
 clear hk02 hk3 he2 hp2
 obtain ⟨L, hLe⟩ : ∃ L, L = Hm.lens (Hm.textOf fs) := ⟨_, rfl⟩
 rw [← hLe]
 have HLE : Aside (L = Hm.lens (Hm.textOf fs)) := hLe
 have hL256 : L.length = 256 := by rw [hLe]; exact HF.out.2.2.2.2.2.1.len
 have hasz : (icells L).toArray.size = 256 := by rw [icells_size, hL256]
 have hall := icells_one L
 have hzs : Tryz.zeroCells139.size = (icells L).toArray.size := by rw [hasz, zero_len, icells_size, List.length_replicate]
 clear hLe
 obtain ⟨arr, harr⟩ : ∃ arr, arr = (icells L).toArray := ⟨_, rfl⟩
 rw [← harr] at hasz hall hzs ⊢
 have HA : Aside (arr = (icells L).toArray ∧ arr.all (·.oneCell') = true ∧ Tryz.zeroCells139.size = arr.size) := ⟨harr, hall, hzs⟩
 clear harr hall hzs
 have HP : Aside (IntRow w3 (w.heap.size + 1) (Hm.endsOf fs) ∧ IntRow w3 w1.heap.size ps ∧ Kept (fun _ => False) w w3 ∧ Hm.Sorted (Hm.textOf fs) ps) := ⟨he3, hp3, hk03, hsrt⟩
 clear he3 hp3 hk03 hsrt
 go_wp2_with (first
  | (refine wpList_store_row _ rfl 139 _ _ rfl w3.heap.size 139 Tryz.zeroCells139 arr rfl rfl (heap_alloc_new w3 _) (by rw [hasz]; exact info_len) HA.out.2.2 HA.out.2.1 ?_; intro w4 hw4 hk4))
 obtain ⟨he3, hp3, hk03, hsrt⟩ := HP.out
 have hk34 : Kept (fun _ => False) w3 w4 := ((Kept.refl (fun _ => False) w3).alloc _).trans hk4 (fun j h1 h2 => by omega)
 have he4 := he3.kept hk34 id
 have hp4 := hp3.kept hk34 id
 have hk04 := hk03.trans hk34 (fun _ _ h => h)
 clear he3 hp3 hk03 HP hk4 hk34
 obtain ⟨b6, hb6⟩ : ∃ b, b = w3.heap.size := ⟨_, rfl⟩
 rw [← hb6] at hw4 ⊢
 clear hb6
 have hen := makeEnds_any ones_says (some ⟨w.heap.size + 1, 0, none⟩) fs.length (Hm.endsOf fs) n w4 he4.at (by rw [Hm.endsOf_length]; exact hm) hn HF.out.2.2.2.2.2.2.2.2
 rw [Hm.endsOf_length] at hen
 obtain ⟨EB, hEB⟩ : ∃ EB, EB = Hm.endsBits (Hm.endsOf fs) n := ⟨_, rfl⟩
 rw [← hEB] at hen
 have hEBl : EB.length ≤ 100000 := by
  rw [hEB, Hm.endsBits_length, Hm.endsOf_length]
  have h1 := Hm.lowW_le fs.length n hn
  have h2 : fs.length * Hm.lowW fs.length n ≤ 40 * 12 := Nat.mul_le_mul hm h1
  have h3 : n / 2 ^ Hm.lowW fs.length n ≤ n := Nat.div_le_self _ _
  omega
 obtain ⟨sE, hsE⟩ : ∃ sE, sE = (⟨(Hm.packBits EB).toArray⟩ : ByteArray) := ⟨_, rfl⟩
 have hsEz : sE.size = (EB.length + 7) / 8 := by rw [hsE]; show (Hm.packBits EB).toArray.size = _; rw [List.size_toArray, Hm.packBits_length]
 rw [← hsE] at hen
 have HEB : Aside (EB = Hm.endsBits (Hm.endsOf fs) n ∧ sE = (⟨(Hm.packBits EB).toArray⟩ : ByteArray) ∧ sE.size ≤ 20000) := ⟨hEB, hsE, by omega⟩
 have HP : Aside (IntRow w4 w1.heap.size ps ∧ Kept (fun _ => False) w w4 ∧ Hm.Sorted (Hm.textOf fs) ps ∧ w4.heap[b6]? = some (.cells arr 139 (0, 0))) := ⟨hp4, hk04, hsrt, hw4⟩
 clear hp4 hk04 hsrt hw4 he4 hEB hEBl hsE hsEz
 generalize (Hm.packBits EB).length = lE at *
 generalize Hm.lowW fs.length n = lw at *
 refine hen.mono ?_
 rintro e w5 ⟨gE, hgE, rfl, hrE, hk5⟩
 clear hen hgE hrE
 obtain ⟨hp4, hk04, hsrt, hw4⟩ := HP.out
 have hp5 := hp4.kept hk5 id
 have hk05 := hk04.trans hk5 (fun _ _ h => h)
 have hw5 := hk5.row hw4 id
 have HP5 : Aside (IntRow w5 w1.heap.size ps ∧ Kept (fun _ => False) w w5 ∧ Hm.Sorted (Hm.textOf fs) ps ∧ w5.heap[b6]? = some (.cells arr 139 (0, 0))) := ⟨hp5, hk05, hsrt, hw5⟩
 clear hp4 hk04 hsrt hw4 hp5 hk05 hw5 HP hk5
 go_wp2_with fail
 have hbE0 : (w5.alloc (.cells #[.string sE, .int .i64 (EB.length : Nat), .slice (some ⟨gE, 0, none⟩) (lE + 1) (lE + 1), .int .i64 (fs.length : Nat), .int .i64 (lw : Nat)] 87)).cell? ⟨w5.heap.size, 0, none⟩ = some (.string sE) := cell_of_row _ _ 0 _ _ _ (heap_alloc_new w5 _)
 have hk56 : Kept (fun _ => False) w5 (w5.alloc (.cells #[.string sE, .int .i64 (EB.length : Nat), .slice (some ⟨gE, 0, none⟩) (lE + 1) (lE + 1), .int .i64 (fs.length : Nat), .int .i64 (lw : Nat)] 87)) := (Kept.refl _ _).alloc _
 generalize w5.alloc (.cells #[.string sE, .int .i64 (EB.length : Nat), .slice (some ⟨gE, 0, none⟩) (lE + 1) (lE + 1), .int .i64 (fs.length : Nat), .int .i64 (lw : Nat)] 87) = w6 at *
 obtain ⟨bE, hbEe⟩ : ∃ b, b = w5.heap.size := ⟨_, rfl⟩
 rw [← hbEe] at hbE0 ⊢
 clear hbEe
 obtain ⟨hp5, hk05, hsrt, hw5⟩ := HP5.out
 have hp6 := hp5.kept hk56 id
 have hk06 := hk05.trans hk56 (fun _ _ h => h)
 have hw6 := hk56.row hw5 id
 have hperm := hsrt.perm
 have hpsl : ps.length = n + 1 := by have := hperm.length_eq; rw [← HF.out.2.2.2.2.1] at this; simpa using this
 have hpx : ∀ x ∈ ps, x ≤ n := fun x hx => by have := hperm.subset hx; rw [← HF.out.2.2.2.2.1] at this; have := List.mem_range.1 this; omega
 have hco := fun (X : World) (hX : IntRow X w1.heap.size ps) => column_any w1.heap.size (n + 1) st ps X hX (by omega) (by omega) (fun x hx => by have := hpx x hx; omega)
 rw [HF.out.2.2.2.1, hpsl] at hco
 have hcl : (Hm.colOf (Hm.textOf fs) ps).length = n := by rw [Hm.colOf_length hperm]; exact HF.out.2.2.2.2.1.symm
 have hcm : ∀ b ∈ Hm.colOf (Hm.textOf fs) ps, b ∈ Hm.orderOf L := fun b hb => by rw [HLE.out]; exact (HF.out.2.2.2.2.2.2.1 b).2 (Hm.colOf_mem hperm b hb)
 obtain ⟨col, hcol⟩ : ∃ col, col = Hm.colOf (Hm.textOf fs) ps := ⟨_, rfl⟩
 rw [← hcol] at hco hcl hcm
 rw [hcl] at hco
 have hmt := fun (ca : Option Addr) (cc : Nat) (X : World) (hX : X.ownsRow 0 5 1 (.slice ca col.length cc) col.length (Hm.bcells col)) => makeTree_any L N col ca cc X (by rw [HLE.out]; exact HF.out.2.2.2.2.2.1) (by rw [HLE.out]; exact HF.out.2.2.2.2.2.2.2.1) h0 hX (by omega) hcm
 rw [hcl, ← HA.out.1] at hmt
 obtain ⟨tbits, htbits⟩ : ∃ x, x = Hm.treeBits (Hm.lnB L) (Hm.numB L) (Hm.shapeTo (Hm.lnB L) (Hm.orderOf L) (2 * N)).1 col N := ⟨_, rfl⟩
 have htle : tbits.length ≤ 2000000 := by
  rw [htbits]
  have h1 := Hm.treeBits_le (Hm.lnB L) (Hm.numB L) (Hm.shapeTo (Hm.lnB L) (Hm.orderOf L) (2 * N)).1 col N
  have h3 : N ≤ 255 := by have h4 := HF.out.2.2.2.2.2.2.2.1.len; have h5 := HF.out.2.2.2.2.2.2.2.1.few (2 * N) (Nat.le_refl _); omega
  have h2 : N * col.length ≤ 255 * 6000 := Nat.mul_le_mul h3 (by omega)
  omega
 rw [← htbits] at hmt
 obtain ⟨sT, hsT⟩ : ∃ sT, sT = (⟨(Hm.packBits (tbits.map fun x => decide (x = 1))).toArray⟩ : ByteArray) := ⟨_, rfl⟩
 have hsTz : sT.size ≤ 260000 := by rw [hsT]; show (Hm.packBits _).toArray.size ≤ _; rw [List.size_toArray, Hm.packBits_length, List.length_map]; omega
 rw [← hsT] at hmt
 have HTR : Aside (sT = (⟨(Hm.packBits (Hm.trOf L N (Hm.colOf (Hm.textOf fs) ps))).toArray⟩ : ByteArray) ∧ sT.size ≤ 260000) := ⟨by rw [hsT, htbits, hcol]; rfl, hsTz⟩
 have HMT : Aside _ := hmt
 have HCO : Aside _ := hco
 have H6 : Aside (IntRow w6 w1.heap.size ps ∧ Kept (fun _ => False) w w6 ∧ Hm.Sorted (Hm.textOf fs) ps ∧ w6.cell? ⟨bE, 0, none⟩ = some (.string sE) ∧ w6.heap[b6]? = some (.cells arr 139 (0, 0)) ∧ ps.length = n + 1 ∧ ∀ x ∈ ps, x ≤ n) := ⟨hp6, hk06, hsrt, hbE0, hw6, hpsl, hpx⟩
 clear hp5 hk05 hsrt hw5 hp6 hk06 hbE0 HP5 hk56 hperm hpx hpsl hco hcl hcm hcol hmt htbits hsT htle hsTz
 generalize tbits.length = tl at *
 go_cut [8] from 11 (fun v8 wz => ∃ (tb : Nat) (TA : Array Value), v8 = .pointer (some ⟨tb, 0, none⟩) ∧ Aside (wz.heap[tb]? = some (.cells TA 96 (0, 0)) ∧ TA[0]? = some (.string sT) ∧ Kept (fun _ => False) w6 wz))
 case first =>
  refine wp_region_held_drew (S := fun X => X.heap[b6]? = some (.cells arr 139 (0, 0))) (by kernel_rfl) ?_ (fun hHeld => ?_)
  ·exact hw6
  refine wpAnyH_take (i := 0) (oi := { dst := some 24, op := Op.move (Operand.tmp 3), type := 9, pos := "archive.go:21", after := #[], guard := none }) (v := ?_) rfl (by kernel_rfl) (by kernel_rfl) (by kernel_rfl) (fun _ _ _ h => h) (Or.inl ⟨by kernel_rfl, ?_⟩) (by assumption) ?_
  rotate_left
  ·intro X hSw
   try dsimp only at hSw
   go_simp
   with_reducible rfl
  simp only [Act.put, List.setIfInBounds_toArray, List.set_cons_zero, List.set_cons_succ]
  refine wpAnyH_take (i := 1) (oi := { dst := some 25, op := Op.move (Operand.tmp 5), type := 64, pos := "archive.go:21", after := #[], guard := none }) (v := ?_) rfl (by kernel_rfl) (by kernel_rfl) (by kernel_rfl) (fun _ _ _ h => h) (Or.inl ⟨by kernel_rfl, ?_⟩) (by assumption) ?_
  rotate_left
  ·intro X hSw
   try dsimp only at hSw
   go_simp
   with_reducible rfl
  simp only [Act.put, List.setIfInBounds_toArray, List.set_cons_zero, List.set_cons_succ]
  refine wpAnyH_take (i := 3) (oi := { dst := some 27, op := Op.load 139 (Operand.tmp 6), type := 139, pos := "archive.go:21", after := #[], guard := none }) (v := .agg arr) rfl (by kernel_rfl) (by kernel_rfl) (by kernel_rfl) (fun _ _ _ h => h) (Or.inl ⟨by kernel_rfl, fun X hX => run_load_op X 139 (.tmp 6) rfl b6 rfl 139 arr (0, 0) _ hX Tryz.underlying139 rfl (by rw [hasz]; exact info_len)⟩) (by assumption) ?_
  simp only [Act.put, List.setIfInBounds_toArray, List.set_cons_zero, List.set_cons_succ]
  refine wpAnyH_ready (rs := [2, 5]) (by kernel_rfl) (by simp) ?_
  refine AllReadyH.cons (o := { dst := some 26, op := Op.call { callee := Callee.value (Operand.func 99), args := #[Operand.tmp 24, Operand.tmp 25], argTypes := #[9, 64] }, type := 79, pos := "archive.go:21", after := #[{ on := 0, ground := Ground.data }, { on := 1, ground := Ground.data }], guard := none }) rfl (fun K hK => ?_) (AllReadyH.cons (o := { dst := some 8, op := Op.alloc 96, type := 0, pos := "archive.go:21", after := #[], guard := none }) rfl (fun K hK => ?_) AllReadyH.nil)
  ·go_simp
   refine (HCO.out _ (H6.out.1.kept (Kept.refl (fun _ => False) w6).drew id)).mono ?_
   rintro e wa ⟨vc, rfl, hoc, hka⟩
   have hkA : Kept (fun _ => False) w6 wa := (Kept.refl (fun _ => False) w6).drew.trans hka (fun _ _ h => h)
   have hoc0 := owns_zero hoc
   obtain ⟨ca, cc, hvc, _⟩ := slice_shape hoc0
   subst hvc
   refine hK.out _ _ (hkA.row H6.out.2.2.2.2.1 id) (fun hHeld => ?_)
   clear hK K hka hoc
   refine wpAnyH_ready (rs := [4, 5]) (by kernel_rfl) (by simp) ?_
   refine AllReadyH.cons (o := { dst := some 28, op := Op.call { callee := Callee.value (Operand.func 98), args := #[Operand.tmp 26, Operand.tmp 27], argTypes := #[79, 139] }, type := 96, pos := "archive.go:21", after := #[{ on := 2, ground := Ground.data }, { on := 3, ground := Ground.data }, { on := 2, ground := Ground.chain }], guard := none }) rfl (fun K hK => ?_) (AllReadyH.cons (o := { dst := some 8, op := Op.alloc 96, type := 0, pos := "archive.go:21", after := #[], guard := none }) rfl (fun K hK => ?_) AllReadyH.nil)
   ·go_simp
    refine (HMT.out ca cc wa hoc0).mono ?_
    rintro e wb ⟨g, v, ws, rfl, hwl, hv1, hkb⟩
    have hkB : Kept (fun _ => False) w6 wb := hkA.trans hkb (fun _ _ h => h)
    obtain ⟨TA, hTAe⟩ : ∃ TA, TA = (treeCells sT tl g (Hm.tabOf L) v ws n).toArray := ⟨_, rfl⟩
    have hTAs0 : TA.size = 773 := by rw [hTAe, List.size_toArray, treeCells_length sT tl g (Hm.tabOf L) v ws n (Hm.tabTo_length _ _ _ _) hwl]
    have hTA1 : TA.all (·.oneCell') = true := by rw [hTAe]; exact treeCells_one sT tl g n (Hm.tabOf L) v ws hv1
    have hTA0 : TA[0]? = some (.string sT) := by rw [hTAe, List.getElem?_toArray]; rfl
    rw [← hTAe]
    clear hTAe
    refine hK.out _ _ (hkB.row H6.out.2.2.2.2.1 id) (fun hHeld => ?_)
    clear hK K hkb
    refine wpAnyH_ready (rs := [5]) (by kernel_rfl) (by simp) ?_
    refine AllReadyH.cons (o := { dst := some 8, op := Op.alloc 96, type := 0, pos := "archive.go:21", after := #[], guard := none }) rfl (fun K hK => ?_) AllReadyH.nil
    go_simp
    have hkX : Kept (fun _ => False) w6 (wb.alloc (.cells Tryz.zeroCells96 96)) := hkB.alloc _
    have htb := heap_alloc_new wb (.cells Tryz.zeroCells96 96)
    have htw : w6.heap.size ≤ wb.heap.size := hkB.size
    refine hK.out _ _ (hkX.row H6.out.2.2.2.2.1 id) (fun hHeld => ?_)
    clear hK K hkB hkA hoc0
    generalize wb.alloc (.cells Tryz.zeroCells96 96) = X at *
    generalize wb.heap.size = tb at *
    have hTAs : TA.size = 773 := hTAs0
    refine wpAnyH_ready (rs := [6]) (by kernel_rfl) (by simp) ?_
    refine AllReadyH.cons (o := { dst := none, op := Op.store 96 (Operand.tmp 8) (Operand.tmp 28), type := 0, pos := "archive.go:21", after := #[{ on := 5, ground := Ground.data }, { on := 4, ground := Ground.data }, { on := 4, ground := Ground.chain }, { on := 0, ground := Ground.phase }, { on := 1, ground := Ground.phase }, { on := 2, ground := Ground.phase }, { on := 3, ground := Ground.phase }, { on := 4, ground := Ground.phase }, { on := 5, ground := Ground.phase }], guard := none }) rfl (fun K hK => ?_) AllReadyH.nil
    refine step_store_row X (op := { dst := none, op := Op.store 96 (Operand.tmp 8) (Operand.tmp 28), type := 0, pos := "archive.go:21", after := #[{ on := 5, ground := Ground.data }, { on := 4, ground := Ground.data }, { on := 4, ground := Ground.chain }, { on := 0, ground := Ground.phase }, { on := 1, ground := Ground.phase }, { on := 2, ground := Ground.phase }, { on := 3, ground := Ground.phase }, { on := 4, ground := Ground.phase }, { on := 5, ground := Ground.phase }], guard := none }) rfl 96 (.tmp 8) (.tmp 28) rfl tb 96 Tryz.zeroCells96 TA rfl rfl htb (by rw [hTAs]; exact info_tree) (by rw [hTAs]; exact zero_tree_size) hTA1 ?_
    intro wz hwz hkz
    have hb6l : b6 < w6.heap.size := lt_of_block H6.out.2.2.2.2.1
    refine hK.out _ _ (hkz.row (hkX.row H6.out.2.2.2.2.1 id) (by omega)) (fun hHeld => ?_)
    clear hK K
    refine wpAnyH_done (by kernel_rfl) ?_ _
    have H4 : Aside (wz.heap[tb]? = some (.cells TA 96 (0, 0)) ∧ TA[0]? = some (.string sT) ∧ Kept (fun _ => False) w6 wz) := ⟨hwz, hTA0, hkX.trans hkz (fun j h1 h2 => by omega)⟩
    go_wp2_with fail
    go_meet
    case rel => exact ⟨tb, TA, rfl, H4⟩
   ·go_simp
    have hkY : Kept (fun _ => False) w6 (wa.alloc (.cells Tryz.zeroCells96 96)) := hkA.alloc _
    have htbY := heap_alloc_new wa (.cells Tryz.zeroCells96 96)
    have htw : w6.heap.size ≤ wa.heap.size := hkA.size
    refine hK.out _ _ (hkY.row H6.out.2.2.2.2.1 id) (fun hHeld => ?_)
    clear hK K
    refine wpAnyH_ready (rs := [4]) (by kernel_rfl) (by simp) ?_
    refine AllReadyH.cons (o := { dst := some 28, op := Op.call { callee := Callee.value (Operand.func 98), args := #[Operand.tmp 26, Operand.tmp 27], argTypes := #[79, 139] }, type := 96, pos := "archive.go:21", after := #[{ on := 2, ground := Ground.data }, { on := 3, ground := Ground.data }, { on := 2, ground := Ground.chain }], guard := none }) rfl (fun K hK => ?_) AllReadyH.nil
    go_simp
    refine (HMT.out ca cc _ (hoc0.alloc _)).mono ?_
    rintro e X ⟨g, v, ws, rfl, hwl, hv1, hkb⟩
    have hkX : Kept (fun _ => False) w6 X := hkY.trans hkb (fun _ _ h => h)
    have htb := hkb.row htbY id
    obtain ⟨TA, hTAe⟩ : ∃ TA, TA = (treeCells sT tl g (Hm.tabOf L) v ws n).toArray := ⟨_, rfl⟩
    have hTAs0 : TA.size = 773 := by rw [hTAe, List.size_toArray, treeCells_length sT tl g (Hm.tabOf L) v ws n (Hm.tabTo_length _ _ _ _) hwl]
    have hTA1 : TA.all (·.oneCell') = true := by rw [hTAe]; exact treeCells_one sT tl g n (Hm.tabOf L) v ws hv1
    have hTA0 : TA[0]? = some (.string sT) := by rw [hTAe, List.getElem?_toArray]; rfl
    rw [← hTAe]
    clear hTAe
    refine hK.out _ _ (hkX.row H6.out.2.2.2.2.1 id) (fun hHeld => ?_)
    clear hK K hkb hkY htbY hkA hoc0
    generalize wa.heap.size = tb at *
    have hTAs : TA.size = 773 := hTAs0
    refine wpAnyH_ready (rs := [6]) (by kernel_rfl) (by simp) ?_
    refine AllReadyH.cons (o := { dst := none, op := Op.store 96 (Operand.tmp 8) (Operand.tmp 28), type := 0, pos := "archive.go:21", after := #[{ on := 5, ground := Ground.data }, { on := 4, ground := Ground.data }, { on := 4, ground := Ground.chain }, { on := 0, ground := Ground.phase }, { on := 1, ground := Ground.phase }, { on := 2, ground := Ground.phase }, { on := 3, ground := Ground.phase }, { on := 4, ground := Ground.phase }, { on := 5, ground := Ground.phase }], guard := none }) rfl (fun K hK => ?_) AllReadyH.nil
    refine step_store_row X (op := { dst := none, op := Op.store 96 (Operand.tmp 8) (Operand.tmp 28), type := 0, pos := "archive.go:21", after := #[{ on := 5, ground := Ground.data }, { on := 4, ground := Ground.data }, { on := 4, ground := Ground.chain }, { on := 0, ground := Ground.phase }, { on := 1, ground := Ground.phase }, { on := 2, ground := Ground.phase }, { on := 3, ground := Ground.phase }, { on := 4, ground := Ground.phase }, { on := 5, ground := Ground.phase }], guard := none }) rfl 96 (.tmp 8) (.tmp 28) rfl tb 96 Tryz.zeroCells96 TA rfl rfl htb (by rw [hTAs]; exact info_tree) (by rw [hTAs]; exact zero_tree_size) hTA1 ?_
    intro wz hwz hkz
    have hb6l : b6 < w6.heap.size := lt_of_block H6.out.2.2.2.2.1
    refine hK.out _ _ (hkz.row (hkX.row H6.out.2.2.2.2.1 id) (by omega)) (fun hHeld => ?_)
    clear hK K
    refine wpAnyH_done (by kernel_rfl) ?_ _
    have H4 : Aside (wz.heap[tb]? = some (.cells TA 96 (0, 0)) ∧ TA[0]? = some (.string sT) ∧ Kept (fun _ => False) w6 wz) := ⟨hwz, hTA0, hkX.trans hkz (fun j h1 h2 => by omega)⟩
    go_wp2_with fail
    go_meet
    case rel => exact ⟨tb, TA, rfl, H4⟩
  ·go_simp
   have hkY : Kept (fun _ => False) w6 (w6.alloc (.cells Tryz.zeroCells96 96)).drew := ((Kept.refl (fun _ => False) w6).alloc _).drew
   have htbY : (w6.alloc (.cells Tryz.zeroCells96 96)).drew.heap[w6.heap.size]? = some (.cells Tryz.zeroCells96 96 (0, 0)) := heap_alloc_new w6 _
   refine hK.out _ _ (hkY.row H6.out.2.2.2.2.1 id) (fun hHeld => ?_)
   clear hK K
   refine wpAnyH_ready (rs := [2]) (by kernel_rfl) (by simp) ?_
   refine AllReadyH.cons (o := { dst := some 26, op := Op.call { callee := Callee.value (Operand.func 99), args := #[Operand.tmp 24, Operand.tmp 25], argTypes := #[9, 64] }, type := 79, pos := "archive.go:21", after := #[{ on := 0, ground := Ground.data }, { on := 1, ground := Ground.data }], guard := none }) rfl (fun K hK => ?_) AllReadyH.nil
   go_simp
   refine (HCO.out _ (H6.out.1.kept hkY id)).mono ?_
   rintro e wa ⟨vc, rfl, hoc, hka⟩
   have hkA : Kept (fun _ => False) w6 wa := hkY.trans hka (fun _ _ h => h)
   have htbA := hka.row htbY id
   have hoc0 := owns_zero hoc
   obtain ⟨ca, cc, hvc, _⟩ := slice_shape hoc0
   subst hvc
   refine hK.out _ _ (hkA.row H6.out.2.2.2.2.1 id) (fun hHeld => ?_)
   clear hK K hka hoc htbY hkY
   refine wpAnyH_ready (rs := [4]) (by kernel_rfl) (by simp) ?_
   refine AllReadyH.cons (o := { dst := some 28, op := Op.call { callee := Callee.value (Operand.func 98), args := #[Operand.tmp 26, Operand.tmp 27], argTypes := #[79, 139] }, type := 96, pos := "archive.go:21", after := #[{ on := 2, ground := Ground.data }, { on := 3, ground := Ground.data }, { on := 2, ground := Ground.chain }], guard := none }) rfl (fun K hK => ?_) AllReadyH.nil
   go_simp
   refine (HMT.out ca cc wa hoc0).mono ?_
   rintro e X ⟨g, v, ws, rfl, hwl, hv1, hkb⟩
   have hkX : Kept (fun _ => False) w6 X := hkA.trans hkb (fun _ _ h => h)
   have htb := hkb.row htbA id
   obtain ⟨TA, hTAe⟩ : ∃ TA, TA = (treeCells sT tl g (Hm.tabOf L) v ws n).toArray := ⟨_, rfl⟩
   have hTAs0 : TA.size = 773 := by rw [hTAe, List.size_toArray, treeCells_length sT tl g (Hm.tabOf L) v ws n (Hm.tabTo_length _ _ _ _) hwl]
   have hTA1 : TA.all (·.oneCell') = true := by rw [hTAe]; exact treeCells_one sT tl g n (Hm.tabOf L) v ws hv1
   have hTA0 : TA[0]? = some (.string sT) := by rw [hTAe, List.getElem?_toArray]; rfl
   rw [← hTAe]
   clear hTAe
   refine hK.out _ _ (hkX.row H6.out.2.2.2.2.1 id) (fun hHeld => ?_)
   clear hK K hkb htbA hkA hoc0
   obtain ⟨tb, htbe⟩ : ∃ tb, tb = w6.heap.size := ⟨_, rfl⟩
   rw [← htbe] at htb ⊢
   have htw : w6.heap.size ≤ tb := by omega
   have hTAs : TA.size = 773 := hTAs0
   refine wpAnyH_ready (rs := [6]) (by kernel_rfl) (by simp) ?_
   refine AllReadyH.cons (o := { dst := none, op := Op.store 96 (Operand.tmp 8) (Operand.tmp 28), type := 0, pos := "archive.go:21", after := #[{ on := 5, ground := Ground.data }, { on := 4, ground := Ground.data }, { on := 4, ground := Ground.chain }, { on := 0, ground := Ground.phase }, { on := 1, ground := Ground.phase }, { on := 2, ground := Ground.phase }, { on := 3, ground := Ground.phase }, { on := 4, ground := Ground.phase }, { on := 5, ground := Ground.phase }], guard := none }) rfl (fun K hK => ?_) AllReadyH.nil
   refine step_store_row X (op := { dst := none, op := Op.store 96 (Operand.tmp 8) (Operand.tmp 28), type := 0, pos := "archive.go:21", after := #[{ on := 5, ground := Ground.data }, { on := 4, ground := Ground.data }, { on := 4, ground := Ground.chain }, { on := 0, ground := Ground.phase }, { on := 1, ground := Ground.phase }, { on := 2, ground := Ground.phase }, { on := 3, ground := Ground.phase }, { on := 4, ground := Ground.phase }, { on := 5, ground := Ground.phase }], guard := none }) rfl 96 (.tmp 8) (.tmp 28) rfl tb 96 Tryz.zeroCells96 TA rfl rfl htb (by rw [hTAs]; exact info_tree) (by rw [hTAs]; exact zero_tree_size) hTA1 ?_
   intro wz hwz hkz
   have hb6l : b6 < w6.heap.size := lt_of_block H6.out.2.2.2.2.1
   refine hK.out _ _ (hkz.row (hkX.row H6.out.2.2.2.2.1 id) (by omega)) (fun hHeld => ?_)
   clear hK K
   refine wpAnyH_done (by kernel_rfl) ?_ _
   have H4 : Aside (wz.heap[tb]? = some (.cells TA 96 (0, 0)) ∧ TA[0]? = some (.string sT) ∧ Kept (fun _ => False) w6 wz) := ⟨hwz, hTA0, hkX.trans hkz (fun j h1 h2 => by omega)⟩
   go_wp2_with fail
   go_meet
   case rel => exact ⟨tb, TA, rfl, H4⟩
 case rest =>
  obtain ⟨tb, TA, rfl, H7⟩ := hcut
  clear HMT HCO hw6
  obtain ⟨hwt, hTA0, hk67⟩ := H7.out
  obtain ⟨hp6, hk06, hsrt, hbE0, hw6, hpsl, hpx⟩ := H6.out
  have hp7 := hp6.kept hk67 id
  have hk07 := hk06.trans hk67 (fun _ _ h => h)
  have hw7 := hk67.row hw6 id
  have hbE7 := (hk67.cell (p := ⟨bE, 0, none⟩) (World.block_lt_of_cell? _ _ hbE0) id).trans hbE0
  have hbT7 : wc.cell? ⟨tb, 0, none⟩ = some (.string sT) := (cell_of_row _ _ 0 _ _ _ hwt).trans hTA0
  have hsm := makeSamples_any ones_says len_says (some ⟨w1.heap.size, 0, none⟩) (n + 1) ps wc hp7.at (by omega) (by omega) (fun x hx => by have := hpx x hx; omega)
  rw [hpsl, Nat.add_sub_cancel] at hsm
  obtain ⟨SB, hSB⟩ : ∃ SB, SB = Hm.samples ps := ⟨_, rfl⟩
  have hSBl : SB.length ≤ 100000 := by
   rw [hSB, Hm.samples_length (n := n) (by have h2 := hsrt.perm; rw [← HF.out.2.2.2.2.1] at h2; exact h2)]
   have hbl : Lib.bitLen (n / 8) ≤ 10 := Lib.bitLen_le _ 10 (by omega) (by omega)
   have : (n / 8 + 1) * Lib.bitLen (n / 8) ≤ 751 * 10 := Nat.mul_le_mul (by omega) hbl
   omega
  obtain ⟨sS, hsS⟩ : ∃ sS, sS = (⟨(Hm.packBits SB).toArray⟩ : ByteArray) := ⟨_, rfl⟩
  have hsSz : sS.size ≤ 20000 := by rw [hsS]; show (Hm.packBits SB).toArray.size ≤ _; rw [List.size_toArray, Hm.packBits_length]; omega
  rw [← hSB, ← hsS] at hsm
  have HSB : Aside (SB = Hm.samples ps ∧ sS = (⟨(Hm.packBits SB).toArray⟩ : ByteArray) ∧ sS.size ≤ 20000) := ⟨hSB, hsS, hsSz⟩
  have H8 : Aside (IntRow wc w1.heap.size ps ∧ Kept (fun _ => False) w wc ∧ wc.cell? ⟨bE, 0, none⟩ = some (.string sE) ∧ wc.cell? ⟨tb, 0, none⟩ = some (.string sT) ∧ wc.heap[b6]? = some (.cells arr 139 (0, 0)) ∧ Hm.Sorted (Hm.textOf fs) ps ∧ ps.length = n + 1) := ⟨hp7, hk07, hbE7, hbT7, hw7, hsrt, hpsl⟩
  clear hwt hTA0 hk67 hp6 hk06 hsrt hbE0 hw6 hpsl hpx hp7 hk07 hw7 hbE7 hbT7 H7 H6 hSB hSBl hsS hsSz
  generalize (Hm.packBits SB).length = lS at *
  generalize SB.length = lSB at *
  go_wp2_with fail
  refine hsm.mono ?_
  rintro e w12 ⟨gS, hgS, rfl, hrS, hk12⟩
  clear hsm hgS hrS
  have hal : Kept (fun _ => False) wc (w12.alloc (.cells #[.string sS, .int .i64 (lSB : Nat), .slice (some ⟨gS, 0, none⟩) (lS + 1) (lS + 1), .int .i64 (n : Nat)] 100)) := hk12.alloc _
  have hbS : (w12.alloc (.cells #[.string sS, .int .i64 (lSB : Nat), .slice (some ⟨gS, 0, none⟩) (lS + 1) (lS + 1), .int .i64 (n : Nat)] 100)).cell? ⟨w12.heap.size, 0, none⟩ = some (.string sS) := cell_of_row _ _ 0 _ _ _ (heap_alloc_new w12 _)
  go_upto_region 7 with fail
  generalize w12.alloc (.cells #[.string sS, .int .i64 (lSB : Nat), .slice (some ⟨gS, 0, none⟩) (lS + 1) (lS + 1), .int .i64 (n : Nat)] 100) = W at *
  obtain ⟨bS, hbSe⟩ : ∃ b, b = w12.heap.size := ⟨_, rfl⟩
  rw [← hbSe] at hbS ⊢
  clear hbSe hk12
  obtain ⟨hp8, hk08, hbE8, hbT8, hw8, hsrt, hpsl⟩ := H8.out
  have HB : Aside (IntRow W w1.heap.size ps ∧ Kept (fun _ => False) w W ∧ W.cell? ⟨bE, 0, none⟩ = some (.string sE) ∧ W.cell? ⟨tb, 0, none⟩ = some (.string sT) ∧ W.cell? ⟨bS, 0, none⟩ = some (.string sS) ∧ W.heap[b6]? = some (.cells arr 139 (0, 0)) ∧ Hm.Sorted (Hm.textOf fs) ps ∧ ps.length = n + 1) :=
   ⟨hp8.kept hal id, hk08.trans hal (fun _ _ h => h), (hal.cell (p := ⟨bE, 0, none⟩) (World.block_lt_of_cell? _ _ hbE8) id).trans hbE8, (hal.cell (p := ⟨tb, 0, none⟩) (World.block_lt_of_cell? _ _ hbT8) id).trans hbT8, hbS, hal.row hw8 id, hsrt, hpsl⟩
  clear hp8 hk08 hbE8 hbT8 hw8 hsrt hpsl H8 hal hbS
  obtain ⟨i0, hi, hz0, hz1, hz2⟩ := info_parts info_u8
  have kc := fun (C : Array Value) (n c : Nat) => Lib.run_convert_bytes_const (P := Tryz.prog) W 79 5 C n c Tryz.underlying79 Tryz.underlying5
  go_wp2_with (at_builtin; refine wpList_append_grows _ rfl (.tmp 33) (.tmp 37) 79 rfl 5 i0 (.int .u8 0) 1 1 Tryz.underlying79 hi hz0 hz1 hz2 rfl (by decide) (some ⟨W.heap.size, 0, none⟩) 6 6 [.int .u8 72, .int .u8 79, .int .u8 65, .int .u8 82, .int .u8 68, .int .u8 49] rfl (fun h => by cases h) rfl ?d1 ⟨W.heap.size + 1, 0, none⟩ 1 1 [.int .u8 (fs.length : Int)] rfl rfl ?d2 ?d3 (by decide) (by unfold maxLen; decide) (by decide) ?_)
  case d1 =>
   intro b hb j u hj
   cases hb
   have hz := heap_alloc2_old W (.cells #[.int .u8 72, .int .u8 79, .int .u8 65, .int .u8 82, .int .u8 68, .int .u8 49] 5 (6, 7)) (.cells #[.int .u8 (fs.length : Int)] 5)
   rw [Addr.add_lit, Nat.zero_add, cell_of_row _ _ j _ _ _ hz]
   simpa using hj
  case d2 =>
   intro j u hj
   have hz := heap_alloc_new (W.alloc (.cells #[.int .u8 72, .int .u8 79, .int .u8 65, .int .u8 82, .int .u8 68, .int .u8 49] 5 (6, 7))) (.cells #[.int .u8 (fs.length : Int)] 5)
   rw [show (W.alloc (.cells #[.int .u8 72, .int .u8 79, .int .u8 65, .int .u8 82, .int .u8 68, .int .u8 49] 5 (6, 7))).heap.size = W.heap.size + 1 from by simp] at hz
   rw [Addr.add_lit, Nat.zero_add, cell_of_row _ _ j _ _ _ hz]
   simpa using hj
  case d3 => intro u hu; simp at hu; subst hu; rfl
  intro v14 w14 ho14 hg14
  clear kc
  have hkW14 : Kept (fun _ => False) W w14 := (((Kept.refl (fun _ => False) W).alloc _).alloc _).grown hg14 (fun k hk => by cases hk)
  obtain ⟨BB, hBB⟩ : ∃ BB, BB = W.heap.size := ⟨_, rfl⟩
  have hB14 : BB + 1 + 1 ≤ w14.heap.size := by have := hg14.size; simp at this; omega
  obtain ⟨hp13, hk013, hE13, hT13, hS13, hlen13, hsrt, hpsl⟩ := HB.out
  have hbp : w1.heap.size < BB := by rw [hBB]; exact hp13.lt
  have hbb6 : b6 < BB := by rw [hBB]; exact lt_of_block hlen13
  have hbbE : bE < BB := by rw [hBB]; exact World.block_lt_of_cell? _ _ hE13
  have hbbT : tb < BB := by rw [hBB]; exact World.block_lt_of_cell? _ _ hT13
  have hbbS : bS < BB := by rw [hBB]; exact World.block_lt_of_cell? _ _ hS13
  have hbw : w.heap.size ≤ BB := by rw [hBB]; exact hk013.size
  have hK14 : Kept (fun j => BB ≤ j) W w14 := hkW14.wider (fun _ _ h => h.elim)
  have ho14' : w14.ownsRow BB 5 1 v14 7 (Hm.bcells [72, 79, 65, 82, 68, 49, UInt8.ofNat fs.length]) := by
   have e : Hm.bcells [72, 79, 65, 82, 68, 49, UInt8.ofNat fs.length] = [.int .u8 72, .int .u8 79, .int .u8 65, .int .u8 82, .int .u8 68, .int .u8 49, .int .u8 (fs.length : Int)] := by
    unfold Hm.bcells
    simp only [List.map_cons, List.map_nil]
    rw [Hm.u8cell (by omega)]
    rfl
   rw [e]
   exact owns_base ho14 (fun k hk => by have := ho14.lt k hk; omega)
  have HK : Aside (∀ X, Kept (fun j => BB ≤ j) W X → IntRow X w1.heap.size ps ∧ Kept (fun _ => False) w X ∧ X.cell? ⟨bE, 0, none⟩ = some (.string sE) ∧ X.cell? ⟨tb, 0, none⟩ = some (.string sT) ∧ X.cell? ⟨bS, 0, none⟩ = some (.string sS) ∧ X.heap[b6]? = some (.cells arr 139 (0, 0))) := fun X hX =>
   ⟨hp13.kept hX (by omega), hk013.trans hX (fun j h1 h2 => by omega), (hX.cell (p := ⟨bE, 0, none⟩) (World.block_lt_of_cell? _ _ hE13) (by show ¬ BB ≤ bE; omega)).trans hE13, (hX.cell (p := ⟨tb, 0, none⟩) (World.block_lt_of_cell? _ _ hT13) (by show ¬ BB ≤ tb; omega)).trans hT13, (hX.cell (p := ⟨bS, 0, none⟩) (World.block_lt_of_cell? _ _ hS13) (by show ¬ BB ≤ bS; omega)).trans hS13, hX.row hlen13 (by omega)⟩
  have HSR : Aside (Hm.Sorted (Hm.textOf fs) ps ∧ ps.length = n + 1) := ⟨hsrt, hpsl⟩
  clear hp13 hk013 hE13 hT13 hS13 hlen13 hsrt hpsl HB ho14 hg14 hkW14 hBB
  generalize hl14 : [72, 79, 65, 82, 68, 49, UInt8.ofNat fs.length] = l14 at ho14'
  have hll14 : l14.length = 7 := by rw [← hl14]; rfl
  have HL14 : Aside ([72, 79, 65, 82, 68, 49, UInt8.ofNat fs.length] = l14) := hl14
  clear hl14
  have ha1 := addNumber_any BB v14 7 n 2 l14 w14 ho14' (by omega) (by omega) (by omega) (by omega)
  go_wp2_with fail
  refine ha1.mono ?_
  rintro e w15 ⟨v15, rfl, ho15, hk15, hm15⟩
  clear ha1
  have hK15 : Kept (fun j => BB ≤ j) W w15 := hK14.trans hk15 (fun j _ hj => (ho14'.lt j hj).1)
  have hs15 : BB + 1 + 1 ≤ w15.heap.size := by have := hk15.size; omega
  clear ho14' hk15 hm15 hK14 hB14
  obtain ⟨hre, hrn⟩ := Hm.rootOf_idx (n := n) (ps := ps) (by have h2 := HSR.out.1.perm; rw [← HF.out.2.2.2.2.1] at h2; exact h2)
  have hro := root_any w1.heap.size (n + 1) ps w15 (HK.out w15 hK15).1 (by have := HSR.out.2; omega)
  rw [hre, HSR.out.2] at hro
  obtain ⟨r, hr⟩ : ∃ r, r = Hm.rootOf ps := ⟨_, rfl⟩
  rw [← hr] at hro hrn
  have HR : Aside (r = Hm.rootOf ps) := hr
  have ha2 := addNumber_any BB v15 9 r 2 (l14 ++ Hm.leBytes n 2) w15 ho15 (by omega) (by omega) (by omega) (by omega)
  clear hre hr
  go_wp2_with fail
  refine hro.mono ?_
  rintro e w16 ⟨rfl, rfl⟩
  clear hro
  go_wp2_with fail
  refine ha2.mono ?_
  rintro e w17 ⟨v17, rfl, ho17, hk17, hm17⟩
  clear ha2
  have hK17 : Kept (fun j => BB ≤ j) W w17 := hK15.trans hk17 (fun j _ hj => (ho15.lt j hj).1)
  have hs17 : BB + 1 + 1 ≤ w17.heap.size := by have := hk17.size; omega
  clear ho15 hk17 hm17 hK15 hs15
  obtain ⟨l17, hl17⟩ : ∃ l, l = l14 ++ Hm.leBytes n 2 ++ Hm.leBytes r 2 := ⟨_, rfl⟩
  rw [← hl17] at ho17
  have hll17 : l17.length = 11 := by rw [hl17, List.length_append, List.length_append, hll14, Hm.leBytes_length, Hm.leBytes_length]
  have HL17 : Aside (l17 = l14 ++ Hm.leBytes n 2 ++ Hm.leBytes r 2) := hl17
  clear hl17 hll14
  have ha3 := addNames_any BB v17 11 c ao fs l17 w17 ho17 (by omega) (HF.out.1.kept (HK.out w17 hK17).2.1 (fun _ _ => id)) (fun a ha h => by have h2 := (ho17.lt _ h).1; have := HF.out.2.1 a ha; omega) hm HF.out.2.2.1 (by omega)
  have hnb := Hm.nameBytes_le fs HF.out.2.2.1
  go_wp2_with fail
  refine ha3.mono ?_
  rintro e w18 ⟨v18, rfl, ho18, hk18, hm18⟩
  clear ha3
  have hK18 : Kept (fun j => BB ≤ j) W w18 := hK17.trans hk18 (fun j _ hj => (ho17.lt j hj).1)
  have hs18 : BB + 1 + 1 ≤ w18.heap.size := by have := hk18.size; omega
  clear ho17 hk18 hm18 hK17 hs17
  obtain ⟨NB, hNB⟩ : ∃ NB, NB = (Hm.nameBytes fs).length := ⟨_, rfl⟩
  obtain ⟨l18, hl18⟩ : ∃ l, l = l17 ++ Hm.nameBytes fs := ⟨_, rfl⟩
  rw [← hl18, ← hNB] at ho18
  rw [← hNB] at hnb
  have hll18 : l18.length = 11 + NB := by rw [hl18, List.length_append, hll17, hNB]
  have HL18 : Aside (l18 = l17 ++ Hm.nameBytes fs) := hl18
  clear hl18 hll17 hNB
  have hpk1 := packed_any bE 0 sE w18 (HK.out w18 hK18).2.2.1
  have hsEl := HEB.out.2.2
  go_upto_region 13 with (first
   | (go_at_call 104; refine hpk1.mono ?_; rintro e w19 ⟨rfl, rfl⟩)
   | (at_builtin; refine wpList_append_mv_string _ rfl (.tmp 50) (.tmp 53) 79 9 rfl BB 5 i0 Tryz.underlying79 Tryz.underlying9 hi hz0 hz1 hz2 _ _ _ rfl ho18 sE rfl (by unfold maxLen; omega) (by omega) (by omega) ?_; intro v20 w20 ho20 hg20 hm20 _))
  have hK20 : Kept (fun j => BB ≤ j) W w20 := hK18.trans ((Kept.refl (fun j => v18.ownBlock = some j) _).grown hg20 (fun k hk => .inr hk)) (fun j _ hj => (ho18.lt j hj).1)
  have eb20 : Hm.bcells l18 ++ Lib.strCells sE = Hm.bcells (l18 ++ sE.data.toList) := by simp [Hm.bcells, Lib.strCells]
  rw [eb20] at ho20
  obtain ⟨l20, hl20⟩ : ∃ l, l = l18 ++ sE.data.toList := ⟨_, rfl⟩
  rw [← hl20] at ho20
  have hll20 : l20.length = 11 + NB + sE.size := by rw [hl20, List.length_append, hll18]; simp
  have HL20 : Aside (l20 = l18 ++ sE.data.toList) := hl20
  have hs20 : BB + 1 + 1 ≤ w20.heap.size := by have := hg20.size; omega
  clear ho18 hl20 hll18 hg20 hm20 hK18 hpk1 eb20 hs18
  have hrow20 := (HK.out w20 hK20).2.2.2.2.2
  have hx255 : ∀ x ∈ L, x ≤ 255 := fun x hx => by
   obtain ⟨k, hk, e⟩ := List.getElem_of_mem hx
   have h1 : Hm.Coded L := by rw [HLE.out]; exact HF.out.2.2.2.2.2.1
   have := h1.short (UInt8.ofNat k)
   have e1 : (UInt8.ofNat k).toNat = k := by rw [UInt8.toNat_ofNat', Nat.mod_eq_of_lt (by omega)]
   rw [Hm.lnB, e1, List.getD_eq_getElem?_getD, List.getElem?_eq_getElem hk] at this
   have e2 : L[k] ≤ 32 := this
   omega
  have ha4 := addLengths_any BB v20 (11 + NB + sE.size) l20 L w20 ho20 (by omega) hL256 hx255 (by omega)
  rw [← HA.out.1] at ha4
  have hcdl : (Hm.codedOf L).length ≤ 256 := Hm.codedTo_le L 256
  go_wp2_with (first
   | (refine wpList_load_row rfl 139 _ rfl b6 rfl 139 arr (0, 0) _ hrow20 Tryz.underlying139 rfl (by rw [hasz]; exact info_len) ?_))
  refine ha4.mono ?_
  rintro e w21 ⟨v21, rfl, ho21, hk21, hm21⟩
  clear ha4 hrow20 hx255
  have hK21 : Kept (fun j => BB ≤ j) W w21 := hK20.trans hk21 (fun j _ hj => (ho20.lt j hj).1)
  have hs21 : BB + 1 + 1 ≤ w21.heap.size := by have := hk21.size; omega
  obtain ⟨cl, hcle⟩ : ∃ cl, cl = (Hm.codedOf L).length := ⟨_, rfl⟩
  obtain ⟨l21, hl21⟩ : ∃ l, l = l20 ++ Hm.leBytes (Hm.codedOf L).length 2 ++ Hm.lenBytes L (Hm.codedOf L) := ⟨_, rfl⟩
  rw [← hl21, ← hcle] at ho21
  rw [← hcle] at hcdl
  have hll21 : l21.length = 11 + NB + sE.size + 2 + 2 * cl := by
   rw [hl21, List.length_append, List.length_append, hll20, Hm.leBytes_length, Hm.lenBytes_length, hcle]
  have HL21 : Aside (l21 = l20 ++ Hm.leBytes (Hm.codedOf L).length 2 ++ Hm.lenBytes L (Hm.codedOf L)) := hl21
  clear ho20 hl21 hll20 hk21 hm21 hK20 hs20 hcle
  obtain ⟨N21, hN21⟩ : ∃ x, x = 11 + NB + sE.size + 2 + 2 * cl := ⟨_, rfl⟩
  rw [← hN21] at ho21 hll21
  have hN21l : N21 ≤ 30000 := by omega
  clear hN21
  have hpk2 := packed_any tb 0 sT w21 (HK.out w21 hK21).2.2.2.1
  have hsTl := HTR.out.2
  go_upto_region 15 with (first
   | (go_at_call 104; refine hpk2.mono ?_; rintro e w22 ⟨rfl, rfl⟩)
   | (at_builtin; refine wpList_append_mv_string _ rfl (.tmp 58) (.tmp 61) 79 9 rfl BB 5 i0 Tryz.underlying79 Tryz.underlying9 hi hz0 hz1 hz2 _ _ _ rfl ho21 sT rfl (by unfold maxLen; omega) (by omega) (by omega) ?_; intro v23 w23 ho23 hg23 hm23 _))
  have hK23 : Kept (fun j => BB ≤ j) W w23 := hK21.trans ((Kept.refl (fun j => v21.ownBlock = some j) _).grown hg23 (fun k hk => .inr hk)) (fun j _ hj => (ho21.lt j hj).1)
  have eb23 : Hm.bcells l21 ++ Lib.strCells sT = Hm.bcells (l21 ++ sT.data.toList) := by simp [Hm.bcells, Lib.strCells]
  rw [eb23] at ho23
  obtain ⟨l23, hl23⟩ : ∃ l, l = l21 ++ sT.data.toList := ⟨_, rfl⟩
  rw [← hl23] at ho23
  have hll23 : l23.length = N21 + sT.size := by rw [hl23, List.length_append, hll21]; simp
  have HL23 : Aside (l23 = l21 ++ sT.data.toList) := hl23
  have hs23 : BB + 1 + 1 ≤ w23.heap.size := by have := hg23.size; omega
  clear ho21 hl23 hll21 hg23 hm23 hK21 hpk2 eb23 hs21
  have hpk3 := packed_any bS 0 sS w23 (HK.out w23 hK23).2.2.2.2.1
  have hsSl := HSB.out.2.2
  go_upto_region 16 with (first
   | (go_at_call 104; refine hpk3.mono ?_; rintro e w24 ⟨rfl, rfl⟩)
   | (at_builtin; refine wpList_append_mv_string _ rfl (.tmp 63) (.tmp 66) 79 9 rfl BB 5 i0 Tryz.underlying79 Tryz.underlying9 hi hz0 hz1 hz2 _ _ _ rfl ho23 sS rfl (by unfold maxLen; omega) (by omega) (by omega) ?_; intro v25 w25 ho25 hg25 hm25 _))
  have hK25 : Kept (fun j => BB ≤ j) W w25 := hK23.trans ((Kept.refl (fun j => v23.ownBlock = some j) _).grown hg25 (fun k hk => .inr hk)) (fun j _ hj => (ho23.lt j hj).1)
  have eb25 : Hm.bcells l23 ++ Lib.strCells sS = Hm.bcells (l23 ++ sS.data.toList) := by simp [Hm.bcells, Lib.strCells]
  rw [eb25] at ho25
  obtain ⟨l25, hl25⟩ : ∃ l, l = l23 ++ sS.data.toList := ⟨_, rfl⟩
  rw [← hl25] at ho25
  have hll25 : l25.length = N21 + sT.size + sS.size := by rw [hl25, List.length_append, hll23]; simp
  have HL25 : Aside (l25 = l23 ++ sS.data.toList) := hl25
  have hs25 : BB + 1 + 1 ≤ w25.heap.size := by have := hg25.size; omega
  clear ho23 hl25 hll23 hg25 hm25 hK23 hpk3 eb25 hs23
  obtain ⟨N25, hN25⟩ : ∃ x, x = N21 + sT.size + sS.size := ⟨_, rfl⟩
  rw [← hN25] at ho25 hll25
  have hN25l : N25 ≤ 400000 := by omega
  have hN25p : 0 < N25 := by
   have h1 := HL25.out; have h2 := HL23.out; have h3 := HL21.out; have h4 := HL20.out; have h5 := HL18.out; have h6 := HL17.out; have h7 := HL14.out
   rw [← hll25, h1, h2, h3, h4, h5, h6, ← h7]; simp
  clear hN25
  obtain ⟨g25, c25, hv25, _, _⟩ := owns_some ho25 hN25p
  subst hv25
  have hsu := sum_any g25 0 N25 c25 l25 w25 hll25.symm (by omega) (fun j hj => by
   have hjl : j < l25.length := by omega
   rw [Nat.zero_add, ho25.cellAt j (by omega), Hm.bcells, List.getElem?_map, List.getElem?_eq_getElem hjl, List.getD_eq_getElem?_getD, List.getElem?_eq_getElem hjl]; rfl)
  have hcr := Hm.crc_lt l25
  obtain ⟨cr, hcre⟩ : ∃ cr, cr = Hm.crc l25 := ⟨_, rfl⟩
  rw [← hcre] at hsu hcr
  have HCR : Aside (cr = Hm.crc l25) := hcre
  have ha5 := addNumber_any BB _ N25 cr 4 l25 w25 ho25 (by omega) hcr (by omega) (by omega)
  have hll : Aside (l25.length = N25) := hll25
  clear hcre hll25
  go_wp2_with fail
  refine hsu.mono ?_
  rintro e w26 ⟨rfl, hw26⟩
  subst hw26
  clear hsu
  go_wp2_with fail
  refine ha5.mono ?_
  rintro e w27 ⟨v27, rfl, ho27, hk27, hm27⟩
  clear ha5
  have hK27 : Kept (fun j => BB ≤ j) W w27 := hK25.trans hk27 (fun j _ hj => (ho25.lt j hj).1)
  have hcv := convert_own ho27
  have hF27 : Aside (Kept (fun _ => False) w w27) := (HK.out w27 hK27).2.1
  have hR27 : Aside (l25 ++ Hm.leBytes cr 4 = Hm.archOf fs ps (Hm.trOf L N (Hm.colOf (Hm.textOf fs) ps))) := by
   have hbody : l25 = Hm.archBody fs ps (Hm.trOf L N (Hm.colOf (Hm.textOf fs) ps)) := by
    rw [HL25.out, HL23.out, HL21.out, HL20.out, HL18.out, HL17.out, ← HL14.out, HR.out, HEB.out.2.1, HEB.out.1, HTR.out.1, HSB.out.2.1, HSB.out.1, HF.out.2.2.2.2.1]
    unfold Hm.archBody
    rw [← HLE.out]
   show _ = _
   unfold Hm.archOf
   rw [← hbody, HCR.out]
  obtain ⟨s27, hs27⟩ : ∃ s, s = (⟨(l25 ++ Hm.leBytes cr 4).toArray⟩ : ByteArray) := ⟨_, rfl⟩
  rw [← hs27] at hcv
  have HS27 : Aside (s27 = (⟨(l25 ++ Hm.leBytes cr 4).toArray⟩ : ByteArray)) := hs27
  clear ho25 ho27 hK25 hK27 hk27 hm27 hs27
  go_wp2
  go_ret
  refine ⟨ps, HSR.out.1, ?_, hF27.out⟩
  rw [← HLE.out, ← hR27.out, ← HS27.out]
  rfl

end Go.Proofs.YtegnkfdbmmndaaaGreat
end

/- PackG -/
section
/- Pack of any files. -/
namespace Go.Proofs.YtegnkfdbmmndaaaGreat
open Go.RowKit

namespace Hm
theorem ckLoop_ok : ∀ (fs : List (ByteArray × ByteArray)) (ah : ByteArray) (tot : Nat), ckLoop ah tot fs = 0 → (∀ f ∈ fs, f.1.size ≤ 32 ∧ f.2.size ≤ 3000) ∧ tot + (textOf fs).length ≤ 6000
 | [], ah, tot, h => by
  unfold ckLoop at h
  split at h
  ·omega
  ·exact ⟨fun f hf => (by simp at hf), by simp [textOf]; omega⟩
 | f :: r, ah, tot, h => by
  rw [ckLoop] at h
  split at h
  ·rename_i h1
   have h2 := ckFile_small h1
   obtain ⟨h3, h4⟩ := ckLoop_ok r f.1 (tot + f.2.size) h
   refine ⟨fun g hg => ?_, ?_⟩
   ·rcases List.mem_cons.1 hg with e | e
    ·subst e; exact ⟨h2.2.1, h2.1⟩
    ·exact h3 g e
   ·have e : (textOf (f :: r)).length = f.2.size + (textOf r).length := by
     unfold textOf
     rw [List.flatMap_cons, List.length_append]; simp
    omega
  ·omega
theorem ckAll_ok {fs : List (ByteArray × ByteArray)} (h : ckAll fs = 0) : fs.length ≤ 40 ∧ (∀ f ∈ fs, f.1.size ≤ 32 ∧ f.2.size ≤ 3000) ∧ (textOf fs).length ≤ 6000 := by
 unfold ckAll at h
 split at h
 ·omega
 ·have := ckLoop_ok fs _ 0 h
  exact ⟨by omega, this.1, by omega⟩
/-- The archive of files, with what it is made of. -/
structure IsArch (fs : List (ByteArray × ByteArray)) (s : List UInt8) : Prop where
 is : ∃ ps N, Sorted (textOf fs) ps ∧ 0 < N ∧ Ends 32 (lnB (lens (textOf fs))) (orderOf (lens (textOf fs))) N ∧ s = archOf fs ps (trOf (lens (textOf fs)) N (colOf (textOf fs) ps))
/-- What Pack hands back. -/
def PackSays (fs : List (ByteArray × ByteArray)) (e : Ending) : Prop :=
 (ckAll fs ≠ 0 ∧ e = .returned (.tuple #[.string ⟨#[]⟩, .int .i64 (ckAll fs)])) ∨ (ckAll fs = 0 ∧ ∃ s : List UInt8, IsArch fs s ∧ e = .returned (.tuple #[.string ⟨s.toArray⟩, .int .i64 0]))
end Hm

set_option maxHeartbeats 1000000 in
theorem pack_any (ao : Option Addr) (c : Nat) (fs : List (ByteArray × ByteArray)) (w : World) (hf : FilesAt w ao fs) (hfb : ∀ a, ao = some a → a.block < w.heap.size) (hl : fs.length ≤ 140737488355328) (hsz : ∀ f ∈ fs, f.1.size ≤ 140737488355328 ∧ f.2.size ≤ 140737488355328) :
  Calls Tryz.prog 20 #[.slice ao fs.length c] w fun e w' => Hm.PackSays fs e ∧ Kept (fun _ => False) w w' := by
 have hck := check_any ao c fs w hf hl hsz
 by_cases he : Hm.ckAll fs = 0
 ·obtain ⟨hm, h32, hn⟩ := Hm.ckAll_ok he
  obtain ⟨N, h0, hE⟩ := (Hm.lens_coded (Hm.textOf fs) hn).ends
  have har := fun W (hk : Kept (fun _ => False) w W) => archive_any ao c fs N W (hf.kept hk (fun _ _ => id)) (fun a ha => by have := hfb a ha; have := hk.size; omega) hm (fun f hf => (h32 f hf).1) hn h0 hE
  have HAR : Aside _ := har
  have HE : Aside (Hm.ckAll fs = 0 ∧ 0 < N ∧ Hm.Ends 32 (Hm.lnB (Hm.lens (Hm.textOf fs))) (Hm.orderOf (Hm.lens (Hm.textOf fs))) N) := ⟨he, h0, hE⟩
  rw [he] at hck
  clear hf hfb hsz h32 hn hE har he hl
  go_enter Tryz.func20, Tryz.ntmps20
  go_wp2_with fail
  refine hck.mono ?_
  rintro e w2 ⟨rfl, hk⟩
  clear hck
  go_wp2_with fail
  refine (HAR.out w2 hk).mono ?_
  rintro e w3 ⟨ps, hps, rfl, hk3⟩
  have hk03 := hk.trans hk3 (fun _ _ h => h)
  obtain ⟨s, hs⟩ : ∃ s, s = (⟨(Hm.archOf fs ps (Hm.trOf (Hm.lens (Hm.textOf fs)) N (Hm.colOf (Hm.textOf fs) ps))).toArray⟩ : ByteArray) := ⟨_, rfl⟩
  rw [← hs]
  have HS : Aside _ := hs
  have HPS : Aside _ := hps
  clear hs hk3 HAR hps
  go_wp2
  go_ret2
  exact ⟨.inr ⟨HE.out.1, _, ⟨ps, N, HPS.out, HE.out.2.1, HE.out.2.2, rfl⟩, by rw [← HS.out]; rfl⟩, hk03⟩
 ·have hb : (Hm.ckAll fs != 0) = true := by rw [bne_iff_ne]; exact he
  have HE : Aside (Hm.ckAll fs ≠ 0) := he
  clear hf hfb hsz he hl
  obtain ⟨e0, he0⟩ : ∃ e0, e0 = Hm.ckAll fs := ⟨_, rfl⟩
  rw [← he0] at hck hb
  have HE0 : Aside (e0 = Hm.ckAll fs) := he0
  clear he0
  go_enter Tryz.func20, Tryz.ntmps20
  go_wp2_with (go_at_call 50; refine hck.mono ?_; rintro e w2 ⟨rfl, hk⟩)
  go_ret2
  exact ⟨.inl ⟨HE.out, by rw [← HE0.out]; rfl⟩, hk⟩

end Go.Proofs.YtegnkfdbmmndaaaGreat
end

/- KeepB -/
section
/- The files that the law packs. -/
namespace Go.Proofs.YtegnkfdbmmndaaaGreat
open Go.RowKit

/-- Texts lie in memory from an address on. -/
def StrsAt (w : World) (ao : Option Addr) (raw : List ByteArray) : Prop :=
 ∀ i, (h : i < raw.length) → ∃ b o, ao = some ⟨b, o, none⟩ ∧ b < w.heap.size ∧ w.cell? ⟨b, o + i, none⟩ = some (.string raw[i])

namespace Hm
/-- A text cut to what may be. -/
def cutK (c : ByteArray) (tot : Nat) : ByteArray := c.extract 0 (min c.size (min 3000 (6000 - tot)))
def keepTo (raw : List ByteArray) : Nat → List Fl × Nat
 | 0 => ([], 0)
 | k + 1 => ((keepTo raw k).1 ++ [(nameK k, cutK (raw.getD k ⟨#[]⟩) (keepTo raw k).2)], (keepTo raw k).2 + (cutK (raw.getD k ⟨#[]⟩) (keepTo raw k).2).size)
theorem cutK_size (c : ByteArray) (tot : Nat) : (cutK c tot).size = min c.size (min 3000 (6000 - tot)) := by
 unfold cutK; rw [ByteArray.size_extract]; omega
theorem keepTo_length (raw : List ByteArray) : ∀ k, (keepTo raw k).1.length = k
 | 0 => rfl
 | k + 1 => by rw [keepTo, List.length_append, keepTo_length raw k]; rfl
theorem keepTo_tot (raw : List ByteArray) : ∀ k, (keepTo raw k).2 ≤ 6000
 | 0 => Nat.zero_le _
 | k + 1 => by
  have ih := keepTo_tot raw k
  have := cutK_size (raw.getD k ⟨#[]⟩) (keepTo raw k).2
  show _ + _ ≤ _
  omega
theorem extract_all (c : ByteArray) : c.extract 0 c.size = c := by
 apply ByteArray.ext
 simp
theorem extract_two (c : ByteArray) (a b : Nat) (h : b ≤ a) : (c.extract 0 a).extract 0 b = c.extract 0 b := by
 apply ByteArray.ext
 apply Array.ext'
 simp only [ByteArray.data_extract, Array.toList_extract, List.extract_eq_take_drop, Nat.sub_zero, List.drop_zero, List.take_take]
 congr 1; omega
theorem cutK_is (c : ByteArray) (tot : Nat) (C1 C2 : ByteArray) (h1 : C1 = if 3000 < c.size then c.extract 0 3000 else c) (h2 : C2 = if 6000 - tot < C1.size then C1.extract 0 (6000 - tot) else C1) : C2 = cutK c tot := by
 unfold cutK
 by_cases a : 3000 < c.size
 ·rw [if_pos a] at h1
  have hs : C1.size = 3000 := by rw [h1, ByteArray.size_extract]; omega
  by_cases b : 6000 - tot < C1.size
  ·rw [if_pos b] at h2
   rw [h2, h1, extract_two _ _ _ (by omega)]
   congr 1; omega
  ·rw [if_neg b] at h2
   rw [h2, h1]; congr 1; omega
 ·rw [if_neg a] at h1
  by_cases b : 6000 - tot < C1.size
  ·rw [if_pos b] at h2
   rw [h1] at b h2
   rw [h2]; congr 1; omega
  ·rw [if_neg b] at h2
   rw [h1] at b h2
   rw [h2]
   conv => lhs; rw [← extract_all c]
   congr 1; omega
end Hm

end Go.Proofs.YtegnkfdbmmndaaaGreat
end

/- KeepC -/
section
/- The files that the law packs: the walk. -/
namespace Go.Proofs.YtegnkfdbmmndaaaGreat
open Go.RowKit

set_option maxRecDepth 20000 in
set_option maxHeartbeats 1000000 in
theorem filesK_any (ao : Option Addr) (c : Nat) (raw : List ByteArray) (w : World) (h : StrsAt w ao raw) (hl : raw.length ≤ 140737488355328) (hsz : ∀ x ∈ raw, x.size ≤ 140737488355328) :
  Calls Tryz.prog 19 #[.slice ao raw.length c] w fun e w' => ∃ v, e = .returned v ∧ w'.ownsRow w.heap.size 38 2 v (min raw.length 40) (Hm.fcells (Hm.keepTo raw (min raw.length 40)).1) ∧ Kept (fun _ => False) w w' := by
 obtain ⟨i0, hi, hz0, hz1, hz2⟩ := info_parts info_file
 have HS : Hid (StrsAt w ao raw ∧ ∀ x ∈ raw, x.size ≤ 140737488355328) := ⟨h, hsz⟩
 clear h hsz
 go_enter Tryz.func19, Tryz.ntmps19
 go_wp2
 go_loopw [3, 4, 5] (fun v vt vi wr => ∃ k : Nat, k ≤ min raw.length 40 ∧ vi = .int .i64 k ∧ vt = .int .i64 ((Hm.keepTo raw k).2 : Nat) ∧ wr.ownsRow w.heap.size 38 2 v k (Hm.fcells (Hm.keepTo raw k).1) ∧ Kept (fun _ => False) w wr) (fun _ _ vi _ => 40 - (intOf vi).toNat)
 case atStart => exact ⟨0, Nat.zero_le _, rfl, rfl, ⟨rfl, .inl ⟨rfl, rfl⟩⟩, Kept.refl _ _⟩
 case round =>
  obtain ⟨k, hk, rfl, rfl, hown, hkr⟩ := hrel
  have htot := Hm.keepTo_tot raw k
  by_cases hlt : k < min raw.length 40
  ·have hkl : k < raw.length := by omega
   have hk40 : k < 40 := by omega
   obtain ⟨b, o, rfl, hb, hc⟩ := HS.out.1 k hkl
   have hc2 := (hkr.cell (p := ⟨b, o + k, none⟩) hb id).trans hc
   have hcs := HS.out.2 _ (List.getElem_mem hkl)
   have hgd : raw.getD k ⟨#[]⟩ = raw[k] := by rw [List.getD_eq_getElem?_getD, List.getElem?_eq_getElem hkl]; rfl
   have HNX : Hid (Hm.keepTo raw (k + 1) = ((Hm.keepTo raw k).1 ++ [(Hm.nameK k, Hm.cutK raw[k] (Hm.keepTo raw k).2)], (Hm.keepTo raw k).2 + (Hm.cutK raw[k] (Hm.keepTo raw k).2).size)) := by show _ = _; rw [Hm.keepTo, hgd]
   have hd1 : decide (k < raw.length) = true := decide_eq_true hkl
   have hd2 : decide (k < 40) = true := decide_eq_true hk40
   have hd3 : decide ((k : Int) < (raw.length : Int)) = true := decide_eq_true (by omega)
   have hd4 : decide ((k : Int) < 40) = true := decide_eq_true (by omega)
   have hkI : (k : Int) < (raw.length : Int) := by omega
   generalize raw[k] = C at hc hc2 hcs HNX
   have H0 : Hid (wr.ownsRow w.heap.size 38 2 u3 k (Hm.fcells (Hm.keepTo raw k).1) ∧ Kept (fun _ => False) w wr) := ⟨hown, hkr⟩
   obtain ⟨tot, htote⟩ : ∃ x, x = (Hm.keepTo raw k).2 := ⟨_, rfl⟩
   rw [← htote] at htot HNX ⊢
   clear hown hkr hc hgd htote
   have hcsI : (C.size : Int) ≤ 140737488355328 := by omega
   go_upto_if 23 with fail
   go_cut [6] from 21 to 45 (fun v6 wx => (∃ C1, C1 = (if 3000 < C.size then C.extract 0 3000 else C) ∧ v6 = .string C1) ∧ wr = wx)
   case first =>
    by_cases hb3 : 3000 < C.size
    ·have hd5 : decide (3000 < C.size) = true := decide_eq_true hb3
     have hd6 : decide ((3000 : Int) < (C.size : Int)) = true := decide_eq_true (by omega)
     have HB : Hid (3000 < C.size) := hb3
     go_wp2_with fail
     go_meet
     case rel => exact ⟨⟨_, (if_pos HB.out).symm, rfl⟩, rfl⟩
    ·have hd5 : decide (3000 < C.size) = false := decide_eq_false hb3
     have hd6 : decide ((3000 : Int) < (C.size : Int)) = false := decide_eq_false (by omega)
     have HB : Hid (¬ 3000 < C.size) := hb3
     go_wp2_with fail
     go_meet
     case rel => exact ⟨⟨_, (if_neg HB.out).symm, rfl⟩, rfl⟩
   case rest =>
    obtain ⟨⟨C1, hC1, rfl⟩, rfl⟩ := hcut
    have hs1 : C1.size ≤ 3000 := by
     rw [hC1]
     split
     ·rw [ByteArray.size_extract]; omega
     ·omega
    have HC1 : Hid (C1 = (if 3000 < C.size then C.extract 0 3000 else C)) := hC1
    clear hC1
    obtain ⟨d, hd⟩ : ∃ d, d = 6000 - tot := ⟨_, rfl⟩
    have zd : (6000 : Int) - (tot : Int) = (d : Int) := by omega
    have hsz1 : (C1.size : Int) ≤ 3000 := by omega
    have HD : Hid (d = 6000 - tot) := hd
    clear hd
    go_upto_if 30 with fail
    go_cut [6] from 31 to 45 (fun v6 wx => (∃ C2, C2 = Hm.cutK C tot ∧ v6 = .string C2) ∧ wr = wx)
    case first =>
     by_cases hb3 : d < C1.size
     ·have hd5 : decide ((d : Int) < (C1.size : Int)) = true := decide_eq_true (by omega)
      have hdI : (d : Int) ≤ (C1.size : Int) := by omega
      have HB : Hid (6000 - tot < C1.size) := by rw [← HD.out]; exact hb3
      go_wp2_with fail
      go_meet
      case rel => exact ⟨⟨_, Hm.cutK_is C tot C1 _ HC1.out (by rw [if_pos HB.out, ← HD.out]), rfl⟩, rfl⟩
     ·have hd5 : decide ((d : Int) < (C1.size : Int)) = false := decide_eq_false (by omega)
      have HB : Hid (¬ 6000 - tot < C1.size) := by rw [← HD.out]; exact hb3
      go_wp2_with fail
      go_meet
      case rel => exact ⟨⟨_, Hm.cutK_is C tot C1 _ HC1.out (if_neg HB.out).symm, rfl⟩, rfl⟩
    case rest =>
     obtain ⟨⟨C2, hC2, rfl⟩, rfl⟩ := hcut
     have hs2 : C2.size ≤ 3000 := by rw [hC2, Hm.cutK_size]; omega
     rw [← hC2] at HNX
     have hnm := nameK_any k wr (by omega)
     clear hC2 HC1 hs1 hsz1
     go_wp2_with fail
     refine hnm.mono ?_
     rintro e w1 ⟨rfl, hk1⟩
     have HK1 : Hid (Kept (fun _ => False) w w1) := H0.out.2.trans hk1 (fun _ _ h => h)
     have ho1 : w1.ownsRow w.heap.size 38 2 u3 k (Hm.fcells (Hm.keepTo raw k).1) := hk1.owns H0.out.1 (fun _ _ h => h)
     have hw1 := HK1.out.size
     clear hnm hk1
     obtain ⟨nm, hnm⟩ : ∃ nm, nm = Hm.nameK k := ⟨_, rfl⟩
     rw [← hnm] at HNX ⊢
     clear hnm
     go_wp2_with (at_builtin; refine wpList_append_mv _ rfl (.tmp 39) (.tmp 44) 22 rfl w.heap.size 38 i0 (.agg #[.string ⟨#[]⟩, .string ⟨#[]⟩]) 2 32 Tryz.underlying22 hi hz0 hz1 hz2 rfl (by decide) _ _ _ rfl (ho1.alloc _) ⟨w1.heap.size, 0, none⟩ 1 1 [.string nm, .string C2] rfl rfl ?c1 ?c2 ?c3 ?c4 ?c5 ?_)
     case c1 =>
      intro j u hj
      rw [Addr.add_lit, Nat.zero_add]
      exact (cell_of_row _ _ j _ _ _ (heap_alloc_new w1 _)).trans (by rw [List.getElem?_toArray]; exact hj)
     case c2 => intro u hu; simp at hu; rcases hu with rfl | rfl <;> rfl
     case c3 => unfold maxLen; omega
     case c4 => omega
     case c5 => simp only [World.alloc, Array.size_push]; omega
     intro v4 w4 ho4 hg4 hm4
     have hk4 : Kept (fun _ => False) w w4 := (HK1.out.alloc _).grown hg4 (fun j hj => .inl (ho1.lt j hj).1)
     have ho5 : w4.ownsRow w.heap.size 38 2 v4 (k + 1) (Hm.fcells (Hm.keepTo raw (k + 1)).1) := by
      rw [HNX.out]
      show w4.ownsRow _ _ _ _ _ (Hm.fcells ((Hm.keepTo raw k).1 ++ [(nm, C2)]))
      rw [Hm.fcells_append]; exact ho4
     have HT : Hid (tot + C2.size = (Hm.keepTo raw (k + 1)).2) := by show _ = _; rw [HNX.out]
     obtain ⟨a4, c4, hv4, _⟩ := slice_shape ho5
     subst hv4
     have H4 : Hid _ := And.intro ho5 hk4
     clear ho4 hg4 hm4 ho5 hk4 HK1 ho1 H0 HNX
     go_wp2_with fail
     go_roundw
     case rel => exact ⟨k + 1, by omega, by go_num, by rw [← HT.out]; go_num, H4.out.1, H4.out.2⟩
     case measure => simp [intOf]; omega
  ·have hke : k = min raw.length 40 := by omega
   have hno : ¬ ((k : Int) < (raw.length : Int) ∧ (k : Int) < 40) := by omega
   obtain ⟨a4, c4, hv4, _⟩ := slice_shape hown
   subst hv4
   have H4 : Hid (wr.ownsRow w.heap.size 38 2 (.slice a4 k c4) (min raw.length 40) (Hm.fcells (Hm.keepTo raw (min raw.length 40)).1) ∧ Kept (fun _ => False) w wr) := by
    rw [← hke]; exact ⟨hown, hkr⟩
   clear hown hkr htot hke
   by_cases h1 : (k : Int) < (raw.length : Int)
   ·have h2 : ¬ (k : Int) < 40 := by omega
    clear hno
    go_wp2_with fail
    go_ret
    exact ⟨_, rfl, H4.out⟩
   ·clear hno
    go_wp2_with fail
    go_ret
    exact ⟨_, rfl, H4.out⟩

end Go.Proofs.YtegnkfdbmmndaaaGreat
end
