import Derived.Test.YtegnkfdbmmndaaaGreatJ20
import Derived.Test.YtegnkfdbmmndaaaGreatJ08
import Derived.Deep.MidRow
import Derived.Test.YtegnkfdbmmndaaaGreatJ07

/- LoadO -/
section
/- The reader takes the tree. -/
namespace Go.Proofs.YtegnkfdbmmndaaaGreat
open Go.RowKit

/-- What reading a tree gives: its cells, its bits' bytes, whether it is there. -/
structure TreeGot (B : Nat) (w' : World) (l : List UInt8) (n : Nat) (L : List Nat) (VA : Array Value) (T : ByteArray) (ok : Bool) : Prop where
 size : VA.size = 773
 one : VA.all (·.oneCell') = true
 str : VA[0]? = some (.string T)
 few : T.size ≤ l.length
 said : (ok = true ∧ ∃ st g ng nc, Hm.TreeOk l n L st ∧ B ≤ g ∧ B ≤ ng ∧ g ≠ ng ∧ T.size = Hm.szB st.len ∧ VA = (treeCells ⟨(l.take (Hm.szB st.len)).toArray⟩ st.len g (Hm.tabOf L) (.slice (some ⟨ng, 0, none⟩) st.nds.length nc) st.ws n).toArray ∧ st.ws.length = 256 ∧
   IntRow w' g (Hm.counts (l.take (Hm.szB st.len))) ∧ w'.ownsRow 0 195 9 (.slice (some ⟨ng, 0, none⟩) st.nds.length nc) st.nds.length (ncells st.nds)) ∨
  (ok = false ∧ (∀ st, ¬ Hm.TreeOk l n L st) ∧ VA = Tryz.zeroCells96)
theorem TreeGot.kept {B : Nat} {w' w2 : World} {l : List UInt8} {n : Nat} {L : List Nat} {VA : Array Value} {T : ByteArray} {ok : Bool} (h : TreeGot B w' l n L VA T ok) {S : Nat → Prop} (hk : Kept S w' w2) (hn : ∀ j, B ≤ j → j < w'.heap.size → ¬ S j) : TreeGot B w2 l n L VA T ok := by
 refine ⟨h.size, h.one, h.str, h.few, ?_⟩
 rcases h.said with ⟨h1, st, g, ng, nc, a1, a2, a3, a4, a5, a6, a7, a8, a9⟩ | h1
 ·exact .inl ⟨h1, st, g, ng, nc, a1, a2, a3, a4, a5, a6, a7, a8.kept hk (hn g a2 a8.lt), hk.owns a9 (fun j hj => by have e1 : ng = j := Option.some.inj hj; rw [← e1]; exact hn ng a3 (a9.lt ng rfl).2)⟩
 ·exact .inr h1
theorem TreeGot.le {B B' : Nat} {w' : World} {l : List UInt8} {n : Nat} {L : List Nat} {VA : Array Value} {T : ByteArray} {ok : Bool} (h : TreeGot B w' l n L VA T ok) (hb : B' ≤ B) : TreeGot B' w' l n L VA T ok := by
 refine ⟨h.size, h.one, h.str, h.few, ?_⟩
 rcases h.said with ⟨h1, st, g, ng, nc, a1, a2, a3, a4⟩ | h1
 ·exact .inl ⟨h1, st, g, ng, nc, a1, Nat.le_trans hb a2, Nat.le_trans hb a3, a4⟩
 ·exact .inr h1
theorem zeroTree_str : Tryz.zeroCells96[0]? = some (.string ⟨#[]⟩) := by kernel_rfl

theorem readTree_got (hones : OnesSays) (l : List UInt8) (n : Nat) (L : List Nat) (w : World) (hn : n ≤ 65535) (hL : L.length = 256) (hx : ∀ x ∈ L, x ≤ 255) (hll : l.length ≤ 281474976710656) :
  Calls Tryz.prog 118 #[.string ⟨l.toArray⟩, .int .i64 n, .agg (icells L).toArray] w fun e w' => Kept (fun _ => False) w w' ∧ ∃ VA T ok, e = .returned (.tuple #[.agg VA, .bool ok]) ∧ TreeGot w.heap.size w' l n L VA T ok := by
 refine (readTree_any hones l n L w hn hL hx hll).mono ?_
 rintro e w' ⟨hk, ⟨st, g, ng, nc, a1, a2, a3, a4, rfl, a6, a7, a8⟩ | ⟨h1, rfl⟩⟩
 ·refine ⟨hk, _, ⟨(l.take (Hm.szB st.len)).toArray⟩, _, rfl, ?_, treeCells_one _ _ _ _ _ _ _ rfl, rfl, ?_, .inl ⟨rfl, st, g, ng, nc, a1, a2, a3, a4, ?_, rfl, a6, a7, a8⟩⟩
  ·rw [List.size_toArray, treeCells_length _ _ g (Hm.tabOf L) _ st.ws n (Hm.tabTo_length _ _ _ _) a6]
  ·show (l.take _).toArray.size ≤ _; simp; omega
  ·have h2 := Hm.layTo_len a1.2
   have h3 := Nat.min_le_left (8 * l.length) (n * Hm.maxL L)
   show (l.take _).toArray.size = _
   unfold Hm.mostOf at h2
   unfold Hm.szB
   simp
   omega
 ·exact ⟨hk, _, ⟨#[]⟩, _, rfl, zeroTree_size, zeroTree_one, zeroTree_str, Nat.zero_le _, .inr ⟨rfl, h1, rfl⟩⟩

set_option maxRecDepth 100000 in
set_option maxHeartbeats 4000000 in
theorem rdTree_any (hones : OnesSays) (p : Nat) (st : Hm.Rd) (n : Nat) (L : List Nat) (w : World) (hr : RdAt w p st) (hn : n ≤ 65535) (hL : L.length = 256) (hx : ∀ x ∈ L, x ≤ 255) (hll : Hm.restLen st ≤ 281474976710656) :
  Calls Tryz.prog 69 #[.pointer (some ⟨p, 0, none⟩), .int .i64 n, .agg (icells L).toArray] w fun e w' => Kept (fun j => j = p) w w' ∧ ∃ VA T ok, e = .returned (.agg VA) ∧ TreeGot w.heap.size w' (st.getD []) n L VA T ok ∧ RdAt w' p (Hm.takeO (Hm.needO st ok) T.size).2 := by
 obtain ⟨l, hl⟩ : ∃ l, l = st.getD [] := ⟨_, rfl⟩
 have HRT : Hid (∀ W, Calls Tryz.prog 118 #[.string ⟨l.toArray⟩, .int .i64 n, .agg (icells L).toArray] W fun e w' => Kept (fun _ => False) W w' ∧ ∃ VA T ok, e = .returned (.tuple #[.agg VA, .bool ok]) ∧ TreeGot W.heap.size w' l n L VA T ok) := fun W => readTree_got hones l n L W hn hL hx (by rw [hl]; exact hll)
 obtain ⟨arr, harr⟩ : ∃ a, a = (icells L).toArray := ⟨_, rfl⟩
 have hasz : arr.size = 256 := by rw [harr, icells_size, hL]
 obtain ⟨S, hS⟩ : ∃ S, S = (⟨l.toArray⟩ : ByteArray) := ⟨_, rfl⟩
 rw [← harr, ← hS] at HRT
 rw [← harr, ← hl]
 have hp := hr.lt
 have hrest := hr.rest
 rw [← hl, ← hS] at hrest
 obtain ⟨W0, hW0⟩ : ∃ W0, W0 = (w.alloc (.cells arr 139)).alloc (.cells Tryz.zeroCells96 96) := ⟨_, rfl⟩
 have hk0 : Kept (fun _ => False) w W0 := by rw [hW0]; exact ((Kept.refl _ _).alloc _).alloc _
 have hb0 : W0.heap[w.heap.size]? = some (.cells arr 139 (0, 0)) := by rw [hW0]; exact heap_alloc2_old w _ _
 have hb1 : W0.heap[w.heap.size + 1]? = some (.cells Tryz.zeroCells96 96 (0, 0)) := by rw [hW0]; exact heap_alloc2_new w _ _
 have hc0 : W0.cell? ⟨p, 0, none⟩ = some (.string S) := (hk0.cell (p := ⟨p, 0, none⟩) hp id).trans hrest
 have HW : Hid ((w.alloc (.cells arr 139)).alloc (.cells Tryz.zeroCells96 96) = W0) := hW0.symm
 have HR : Hid (RdAt w p st ∧ l = st.getD [] ∧ Hm.restLen st ≤ 281474976710656 ∧ Kept (fun _ => False) w W0) := ⟨hr, hl, hll, hk0⟩
 have hzt : Tryz.zeroCells96.size = 773 := zeroTree_size
 clear hW0 harr hS hL hx hl hr hll hrest hk0
 go_enter Tryz.func69, Tryz.ntmps69
 go_upto_region 1 with fail
 rw [HW.out]
 clear HW
 have hnd := fun W (h : RdAt W p st) ok => need_any p st ok W h
 have HND : Hid _ := hnd
 clear hnd
 have hw0 := lt_of_block hb0
 have hw1 : w.heap.size + 1 < W0.heap.size := lt_of_block hb1
 go_cut [7, 8] from 9 (fun v7 v8 wz => ∃ tb VA T ok, v7 = .pointer (some ⟨tb, 0, none⟩) ∧ v8 = .bool ok ∧ Aside (wz.heap[tb]? = some (.cells VA 96 (0, 0)) ∧ TreeGot W0.heap.size wz l n L VA T ok ∧ Kept (fun _ => False) W0 wz ∧ W0.heap.size ≤ tb ∧ RdAt wz p st))
 case first =>
  refine wp_region_held_drew (S := fun X => X.cell? ⟨p, 0, none⟩ = some (.string S) ∧ X.heap[w.heap.size]? = some (.cells arr 139 (0, 0))) (by kernel_rfl) ?_ (fun hHeld => ?_)
  ·exact ⟨hc0, hb0⟩
  refine wpAnyH_take (i := 0) (oi := { dst := some 10, op := Op.move (Operand.tmp 0), type := 183, pos := "read.go:89", after := #[], guard := none }) (v := ?_) rfl (by kernel_rfl) (by kernel_rfl) (by kernel_rfl) (fun _ _ _ h => h) (Or.inl ⟨by kernel_rfl, ?_⟩) (by assumption) ?_
  rotate_left
  ·intro X hSw
   try dsimp only at hSw
   go_simp
   with_reducible rfl
  simp only [Act.put, List.setIfInBounds_toArray, List.set_cons_zero, List.set_cons_succ]
  refine wpAnyH_take (i := 1) (oi := { dst := some 11, op := Op.nilCheck (Operand.tmp 10), type := 0, pos := "read.go:89", after := #[{ on := 0, ground := Ground.data }], guard := none }) (v := ?_) rfl (by kernel_rfl) (by kernel_rfl) (by kernel_rfl) (fun _ _ _ h => h) (Or.inl ⟨by kernel_rfl, ?_⟩) (by assumption) ?_
  rotate_left
  ·intro X hSw
   try dsimp only at hSw
   go_simp
   with_reducible rfl
  simp only [Act.put, List.setIfInBounds_toArray, List.set_cons_zero, List.set_cons_succ]
  refine wpAnyH_take (i := 2) (oi := { dst := some 12, op := Op.fieldAddr 132 (Operand.tmp 11) 0, type := 0, pos := "read.go:89", after := #[{ on := 1, ground := Ground.data }], guard := none }) (v := ?_) rfl (by kernel_rfl) (by kernel_rfl) (by kernel_rfl) (fun _ _ _ h => h) (Or.inl ⟨by kernel_rfl, ?_⟩) (by assumption) ?_
  rotate_left
  ·intro X hSw
   try dsimp only at hSw
   go_simp
   with_reducible rfl
  simp only [Act.put, List.setIfInBounds_toArray, List.set_cons_zero, List.set_cons_succ]
  refine wpAnyH_take (i := 3) (oi := { dst := some 13, op := Op.load 9 (Operand.tmp 12), type := 9, pos := "read.go:89", after := #[{ on := 2, ground := Ground.data }], guard := none }) (v := ?_) rfl (by kernel_rfl) (by kernel_rfl) (by kernel_rfl) (fun _ _ _ h => h) (Or.inl ⟨by kernel_rfl, ?_⟩) (by assumption) ?_
  rotate_left
  ·intro X hSw
   try dsimp only at hSw
   go_simp
   with_reducible rfl
  simp only [Act.put, List.setIfInBounds_toArray, List.set_cons_zero, List.set_cons_succ]
  refine wpAnyH_take (i := 4) (oi := { dst := some 14, op := Op.move (Operand.tmp 1), type := 3, pos := "read.go:89", after := #[], guard := none }) (v := ?_) rfl (by kernel_rfl) (by kernel_rfl) (by kernel_rfl) (fun _ _ _ h => h) (Or.inl ⟨by kernel_rfl, ?_⟩) (by assumption) ?_
  rotate_left
  ·intro X hSw
   try dsimp only at hSw
   go_simp
   with_reducible rfl
  simp only [Act.put, List.setIfInBounds_toArray, List.set_cons_zero, List.set_cons_succ]
  refine wpAnyH_take (i := 5) (oi := { dst := some 15, op := Op.load 139 (Operand.tmp 5), type := 139, pos := "read.go:89", after := #[], guard := none }) (v := .agg arr) rfl (by kernel_rfl) (by kernel_rfl) (by kernel_rfl) (fun _ _ _ h => h) (Or.inl ⟨by kernel_rfl, fun X hX => run_load_op X 139 (.tmp 5) rfl w.heap.size rfl 139 arr (0, 0) _ hX.2 Tryz.underlying139 rfl (by rw [hasz]; exact info_len)⟩) (by assumption) ?_
  simp only [Act.put, List.setIfInBounds_toArray, List.set_cons_zero, List.set_cons_succ]
  have HS : Hid (∀ X, Kept (fun _ => False) W0 X → X.cell? ⟨p, 0, none⟩ = some (.string S) ∧ X.heap[w.heap.size]? = some (.cells arr 139 (0, 0))) := fun X hk => ⟨(hk.cell (p := ⟨p, 0, none⟩) (World.block_lt_of_cell? _ _ hc0) id).trans hc0, hk.row hb0 id⟩
  refine wpAnyH_ready (rs := [6, 10]) (by kernel_rfl) (by simp) ?_
  refine AllReadyH.cons rfl (fun K hK => ?_) (AllReadyH.cons rfl (fun K hK => ?_) AllReadyH.nil)
  ·go_simp
   refine (HRT.out _).mono ?_
   rintro e xa ⟨hka, VA, T, ok, rfl, hgot⟩
   have kA : Kept (fun _ => False) W0 xa := (Kept.refl (fun _ => False) W0).drew.trans hka (fun _ _ h => h)
   refine hK.out _ _ (HS.out _ kA) (fun hHeld => ?_)
   clear hK K
   refine wpAnyH_take (i := 7) (oi := { dst := some 9, op := Op.move (Operand.tmp 16), type := 186, pos := "read.go:89", after := #[{ on := 6, ground := Ground.data }], guard := none }) (v := ?_) rfl (by kernel_rfl) (by kernel_rfl) (by kernel_rfl) (fun _ _ _ h => h) (Or.inl ⟨by kernel_rfl, ?_⟩) (by assumption) ?_
   rotate_left
   ·intro X hSw
    try dsimp only at hSw
    go_simp
    with_reducible rfl
   simp only [Act.put, List.setIfInBounds_toArray, List.set_cons_zero, List.set_cons_succ]
   refine wpAnyH_take (i := 8) (oi := { dst := some 17, op := Op.extract (Operand.tmp 9) 0, type := 96, pos := "read.go:89", after := #[{ on := 7, ground := Ground.data }], guard := none }) (v := ?_) rfl (by kernel_rfl) (by kernel_rfl) (by kernel_rfl) (fun _ _ _ h => h) (Or.inl ⟨by kernel_rfl, ?_⟩) (by assumption) ?_
   rotate_left
   ·intro X hSw
    try dsimp only at hSw
    go_simp
    with_reducible rfl
   simp only [Act.put, List.setIfInBounds_toArray, List.set_cons_zero, List.set_cons_succ]
   refine wpAnyH_take (i := 9) (oi := { dst := some 18, op := Op.extract (Operand.tmp 9) 1, type := 4, pos := "read.go:89", after := #[{ on := 7, ground := Ground.data }, { on := 11, ground := Ground.gcOnly Departure.lateStores }], guard := none }) (v := ?_) rfl (by kernel_rfl) (by kernel_rfl) (by kernel_rfl) (fun _ _ _ h => h) (Or.inl ⟨by kernel_rfl, ?_⟩) (by assumption) ?_
   rotate_left
   ·intro X hSw
    try dsimp only at hSw
    go_simp
    with_reducible rfl
   simp only [Act.put, List.setIfInBounds_toArray, List.set_cons_zero, List.set_cons_succ]
   refine wpAnyH_ready (rs := [10]) (by kernel_rfl) (by simp) ?_
   refine AllReadyH.cons rfl (fun K hK => ?_) AllReadyH.nil
   go_simp
   obtain ⟨xb, hxb⟩ : ∃ X, X = xa.alloc (.cells Tryz.zeroCells96 96) := ⟨_, rfl⟩
   have hkb : Kept (fun _ => False) xa xb := by rw [hxb]; exact (Kept.refl _ _).alloc _
   have htb : xb.heap[xa.heap.size]? = some (.cells Tryz.zeroCells96 96 (0, 0)) := by rw [hxb]; exact heap_alloc_new xa _
   obtain ⟨tb, htbe⟩ : ∃ t, t = xa.heap.size := ⟨_, rfl⟩
   rw [← htbe] at htb ⊢
   rw [← hxb]
   have hta := Nat.le_of_eq htbe
   have hta2 := Nat.le_of_eq htbe.symm
   have hsa := kA.size
   have kB := kA.trans hkb (fun _ _ h => h)
   refine hK.out _ _ (HS.out _ kB) (fun hHeld => ?_)
   clear hK K hxb htbe
   refine wpAnyH_ready (rs := [11]) (by kernel_rfl) (by simp) ?_
   refine AllReadyH.cons rfl (fun K hK => ?_) AllReadyH.nil
   refine step_store_row xb rfl 96 (.tmp 7) (.tmp 17) rfl tb 96 Tryz.zeroCells96 VA rfl rfl htb (by rw [hgot.size]; exact info_tree) (by rw [hgot.size]; exact hzt) hgot.one ?_
   intro wz hwz hkz
   have kZ : Kept (fun _ => False) W0 wz := kB.trans hkz (fun j h1 h2 => by omega)
   have hgz : TreeGot W0.heap.size wz l n L VA T ok := (hgot.kept ((hkb.wider (T := fun j => j = tb) (fun _ _ h => h.elim)).trans hkz (fun _ _ h => h)) (fun j h1 h2 h3 => by omega)).le (Nat.le_refl _)
   refine hK.out _ _ (HS.out _ kZ) (fun hHeld => ?_)
   clear hK K
   refine wpAnyH_ready (rs := [12]) (by kernel_rfl) (by simp) ?_
   refine AllReadyH.cons rfl (fun K hK => ?_) AllReadyH.nil
   go_simp
   refine hK.out _ _ (HS.out _ kZ) (fun hHeld => ?_)
   clear hK K
   refine wpAnyH_done (by kernel_rfl) ?_ _
   have H4 : Aside (wz.heap[tb]? = some (.cells VA 96 (0, 0)) ∧ TreeGot W0.heap.size wz l n L VA T ok ∧ Kept (fun _ => False) W0 wz ∧ W0.heap.size ≤ tb ∧ RdAt wz p st) := ⟨hwz, hgz, kZ, by omega, (HR.out.1.kept HR.out.2.2.2 id).kept kZ id⟩
   go_wp2_with fail
   go_meet
   case rel => exact ⟨tb, VA, T, ok, rfl, rfl, H4⟩
  ·go_simp
   obtain ⟨xb, hxb⟩ : ∃ X, X = (W0.alloc (.cells Tryz.zeroCells96 96)).drew := ⟨_, rfl⟩
   have hkb : Kept (fun _ => False) W0 xb := by rw [hxb]; exact ((Kept.refl _ _).alloc _).drew
   have htb : xb.heap[W0.heap.size]? = some (.cells Tryz.zeroCells96 96 (0, 0)) := by rw [hxb]; exact heap_alloc_new W0 _
   obtain ⟨tb, htbe⟩ : ∃ t, t = W0.heap.size := ⟨_, rfl⟩
   rw [← htbe] at htb ⊢
   rw [← hxb]
   have hta := Nat.le_of_eq htbe
   have hta2 := Nat.le_of_eq htbe.symm
   have htl := lt_of_block htb
   refine hK.out _ _ (HS.out _ hkb) (fun hHeld => ?_)
   clear hK K hxb htbe
   refine wpAnyH_ready (rs := [6]) (by kernel_rfl) (by simp) ?_
   refine AllReadyH.cons rfl (fun K hK => ?_) AllReadyH.nil
   go_simp
   refine (HRT.out _).mono ?_
   rintro e xa ⟨hka, VA, T, ok, rfl, hgot⟩
   have kA : Kept (fun _ => False) W0 xa := hkb.trans hka (fun _ _ h => h)
   have htb := hka.row htb id
   have hs6 := hkb.size
   refine hK.out _ _ (HS.out _ kA) (fun hHeld => ?_)
   clear hK K
   refine wpAnyH_take (i := 7) (oi := { dst := some 9, op := Op.move (Operand.tmp 16), type := 186, pos := "read.go:89", after := #[{ on := 6, ground := Ground.data }], guard := none }) (v := ?_) rfl (by kernel_rfl) (by kernel_rfl) (by kernel_rfl) (fun _ _ _ h => h) (Or.inl ⟨by kernel_rfl, ?_⟩) (by assumption) ?_
   rotate_left
   ·intro X hSw
    try dsimp only at hSw
    go_simp
    with_reducible rfl
   simp only [Act.put, List.setIfInBounds_toArray, List.set_cons_zero, List.set_cons_succ]
   refine wpAnyH_take (i := 8) (oi := { dst := some 17, op := Op.extract (Operand.tmp 9) 0, type := 96, pos := "read.go:89", after := #[{ on := 7, ground := Ground.data }], guard := none }) (v := ?_) rfl (by kernel_rfl) (by kernel_rfl) (by kernel_rfl) (fun _ _ _ h => h) (Or.inl ⟨by kernel_rfl, ?_⟩) (by assumption) ?_
   rotate_left
   ·intro X hSw
    try dsimp only at hSw
    go_simp
    with_reducible rfl
   simp only [Act.put, List.setIfInBounds_toArray, List.set_cons_zero, List.set_cons_succ]
   refine wpAnyH_take (i := 9) (oi := { dst := some 18, op := Op.extract (Operand.tmp 9) 1, type := 4, pos := "read.go:89", after := #[{ on := 7, ground := Ground.data }, { on := 11, ground := Ground.gcOnly Departure.lateStores }], guard := none }) (v := ?_) rfl (by kernel_rfl) (by kernel_rfl) (by kernel_rfl) (fun _ _ _ h => h) (Or.inl ⟨by kernel_rfl, ?_⟩) (by assumption) ?_
   rotate_left
   ·intro X hSw
    try dsimp only at hSw
    go_simp
    with_reducible rfl
   simp only [Act.put, List.setIfInBounds_toArray, List.set_cons_zero, List.set_cons_succ]
   refine wpAnyH_ready (rs := [11]) (by kernel_rfl) (by simp) ?_
   refine AllReadyH.cons rfl (fun K hK => ?_) AllReadyH.nil
   refine step_store_row xa rfl 96 (.tmp 7) (.tmp 17) rfl tb 96 Tryz.zeroCells96 VA rfl rfl htb (by rw [hgot.size]; exact info_tree) (by rw [hgot.size]; exact hzt) hgot.one ?_
   intro wz hwz hkz
   have kZ : Kept (fun _ => False) W0 wz := kA.trans hkz (fun j h1 h2 => by omega)
   have hgz : TreeGot W0.heap.size wz l n L VA T ok := (hgot.kept hkz (fun j h1 h2 h3 => by omega)).le (by omega)
   refine hK.out _ _ (HS.out _ kZ) (fun hHeld => ?_)
   clear hK K
   refine wpAnyH_ready (rs := [12]) (by kernel_rfl) (by simp) ?_
   refine AllReadyH.cons rfl (fun K hK => ?_) AllReadyH.nil
   go_simp
   refine hK.out _ _ (HS.out _ kZ) (fun hHeld => ?_)
   clear hK K
   refine wpAnyH_done (by kernel_rfl) ?_ _
   have H4 : Aside (wz.heap[tb]? = some (.cells VA 96 (0, 0)) ∧ TreeGot W0.heap.size wz l n L VA T ok ∧ Kept (fun _ => False) W0 wz ∧ W0.heap.size ≤ tb ∧ RdAt wz p st) := ⟨hwz, hgz, kZ, by omega, (HR.out.1.kept HR.out.2.2.2 id).kept kZ id⟩
   go_wp2_with fail
   go_meet
   case rel => exact ⟨tb, VA, T, ok, rfl, rfl, H4⟩
 case rest =>
  obtain ⟨tb, VA, T, ok, rfl, rfl, H3⟩ := hcut
  have hn1 := HND.out wc H3.out.2.2.2.2 ok
  have hres := H3.out.2.2.1.row hb1 id
  have hkw : Kept (fun _ => False) w wc := HR.out.2.2.2.trans H3.out.2.2.1 (fun _ _ h => h)
  have hst : T.size ≤ 281474976710656 := by
   have h1 := H3.out.2.1.few
   have h2 := HR.out.2.2.1
   rw [HR.out.2.1] at h1
   exact Nat.le_trans h1 h2
  have HTK : Hid (∀ W, RdAt W p (Hm.needO st ok) → Calls Tryz.prog 64 #[.pointer (some ⟨p, 0, none⟩), .int .i64 (T.size : Nat)] W fun e w' => e = .returned (.string ⟨(Hm.takeO (Hm.needO st ok) T.size).1.toArray⟩) ∧ RdAt w' p (Hm.takeO (Hm.needO st ok) T.size).2 ∧ Kept (fun j => j = p) W w') :=
   fun W h => take_any p (Hm.needO st ok) T.size W h (by have h1 := Hm.restLen_need st ok; have h2 := HR.out.2.2.1; omega) (by omega)
  have hpt : p ≠ tb := by have := H3.out.2.2.2.1; omega
  have hp1 : p ≠ w.heap.size + 1 := by omega
  have hpb : p < w.heap.size := hp
  have H5 : Hid (wc.heap[tb]? = some (.cells VA 96 (0, 0)) ∧ TreeGot W0.heap.size wc l n L VA T ok ∧ wc.heap[w.heap.size + 1]? = some (.cells Tryz.zeroCells96 96 (0, 0)) ∧ Kept (fun _ => False) w wc ∧ w.heap.size + 1 < tb) := ⟨H3.out.1, H3.out.2.1, hres, hkw, by have := H3.out.2.2.2.1; omega⟩
  clear HND HRT hres hkw H3
  go_wp2_with fail
  refine hn1.mono ?_
  rintro e w2 ⟨rfl, hr2, hk2⟩
  have hrow2 := hk2.row H5.out.1 (fun h => hpt h.symm)
  have c0 : w2.cell? ⟨tb, 0, none⟩ = some (.string T) := (cell_of_row _ _ 0 _ _ _ hrow2).trans H5.out.2.1.str
  have hpk := packed_any tb 0 T w2 c0
  have ht1 := HTK.out w2 hr2
  have H6 : Hid (Kept (fun j => j = p) wc w2) := hk2
  clear hn1 hr2 hk2 HTK hrow2
  go_wp2_with fail
  refine hpk.mono ?_
  rintro e w3 ⟨rfl, hw3⟩
  subst hw3
  clear hpk
  go_wp2_with fail
  refine ht1.mono ?_
  rintro e w4 ⟨rfl, hr4, hk4⟩
  have hk14 : Kept (fun j => j = p) wc w4 := H6.out.trans hk4 (fun _ _ h => h)
  have hrow4 := hk14.row H5.out.1 (fun h => hpt h.symm)
  have hres4 := hk14.row H5.out.2.2.1 (fun h => hp1 h.symm)
  have hgot4 := H5.out.2.1.kept hk14 (fun j h1 h2 h3 => by omega)
  have H7 : Hid (w4.heap[tb]? = some (.cells VA 96 (0, 0)) ∧ TreeGot W0.heap.size w4 l n L VA T ok ∧ w4.heap[w.heap.size + 1]? = some (.cells Tryz.zeroCells96 96 (0, 0)) ∧ Kept (fun j => j = p) w w4 ∧ RdAt w4 p (Hm.takeO (Hm.needO st ok) T.size).2) :=
   ⟨hrow4, hgot4, hres4, (H5.out.2.2.2.1.wider (fun _ _ h => h.elim)).trans hk14 (fun _ _ h => h), hr4⟩
  have hvs := hgot4.size
  have hv1 := hgot4.one
  clear hk14 hrow4 hres4 hgot4 ht1 hr4 hk4 H6 c0
  go_wp2_with (first
   | (refine wpList_load_row rfl 96 _ rfl tb rfl 96 VA (0, 0) _ H7.out.1 Tryz.underlying96 rfl (by rw [hvs]; exact info_tree) ?_)
   | (refine wpList_store_row _ rfl 96 _ _ rfl (w.heap.size + 1) 96 _ VA rfl rfl H7.out.2.2.1 (by rw [hvs]; exact info_tree) (by rw [hvs]; exact hzt) hv1 ?_; intro w9 hw9 hk9))
  refine bodyPost_ret (v := .agg VA) (results_cell_row Tryz.results69 _ w9 (w.heap.size + 1) 96 VA (0, 0) _ rfl hw9 Tryz.underlying96 rfl (by rw [hvs]; exact info_tree)) rfl ⟨H7.out.2.2.2.1.trans hk9 (fun j h1 h2 => by omega), VA, T, ok, rfl, ?_, H7.out.2.2.2.2.kept hk9 (fun h => hp1 h)⟩
  exact (H7.out.2.1.kept hk9 (fun j h1 h2 h3 => by omega)).le (by omega)

end Go.Proofs.YtegnkfdbmmndaaaGreat
end

/- LoadP -/
section
/- What goes from row to row is made. -/
namespace Go.Proofs.YtegnkfdbmmndaaaGreat
open Go.RowKit

namespace Hm
/-- The first row of each byte. -/
def firstAt (ws : List Nat) (b : Nat) : Nat := 1 + (ws.take b).sum
def firsts (ws : List Nat) : List Nat := (List.range 256).map (firstAt ws)
def firstsTo (ws : List Nat) (k : Nat) : List Nat := (List.range 256).map fun b => if b < k then firstAt ws b else 0
theorem firstsTo_length (ws : List Nat) (k : Nat) : (firstsTo ws k).length = 256 := by unfold firstsTo; rw [List.length_map, List.length_range]
theorem firstsTo_get (ws : List Nat) (k b : Nat) (hb : b < 256) : (firstsTo ws k)[b]? = some (if b < k then firstAt ws b else 0) := by
 unfold firstsTo; rw [List.getElem?_map, List.getElem?_range hb]; rfl
theorem firstsTo_zero (ws : List Nat) : firstsTo ws 0 = List.replicate 256 0 := by
 apply List.ext_getElem?
 intro i
 by_cases hi : i < 256
 ·rw [firstsTo_get ws 0 i hi, if_neg (by omega), List.getElem?_replicate, if_pos hi]
 ·rw [List.getElem?_eq_none (by rw [firstsTo_length]; omega), List.getElem?_eq_none (by rw [List.length_replicate]; omega)]
theorem firstsTo_all (ws : List Nat) : firstsTo ws 256 = firsts ws := by
 unfold firstsTo firsts
 refine List.map_congr_left fun b hb => ?_
 rw [if_pos (List.mem_range.1 hb)]
theorem firstsTo_succ (ws : List Nat) (k : Nat) (hk : k < 256) : (firstsTo ws k).set k (firstAt ws k) = firstsTo ws (k + 1) := by
 apply List.ext_getElem?
 intro i
 by_cases hi : i < 256
 ·rw [firstsTo_get ws (k + 1) i hi, List.getElem?_set]
  by_cases e : k = i
  ·subst e; rw [if_pos rfl, if_pos (by rw [firstsTo_length]; exact hk), if_pos (by omega)]
  ·rw [if_neg e, firstsTo_get ws k i hi]
   by_cases h2 : i < k
   ·rw [if_pos h2, if_pos (by omega)]
   ·rw [if_neg h2, if_neg (by omega)]
 ·rw [List.getElem?_eq_none (by rw [List.length_set, firstsTo_length]; omega), List.getElem?_eq_none (by rw [firstsTo_length]; omega)]
theorem firstAt_succ (ws : List Nat) (k : Nat) (h : k < ws.length) : firstAt ws (k + 1) = firstAt ws k + ws[k] := by
 unfold firstAt
 rw [List.take_succ_eq_append_getElem h, List.sum_append]
 simp; omega
theorem sum_le (l : List Nat) (B : Nat) (h : ∀ x ∈ l, x ≤ B) : l.sum ≤ l.length * B := by
 induction l with
 | nil => simp
 | cons a r ih =>
  have h1 := h a (List.mem_cons_self ..)
  have h2 := ih fun x hx => h x (List.mem_cons_of_mem _ hx)
  rw [List.sum_cons, List.length_cons, Nat.add_mul]
  omega
end Hm

/-- The cells of what goes from row to row. -/
def rowsL (VA : Array Value) (root : Nat) (fs : List Nat) : List Value := VA.toList ++ (.int .i64 (root : Nat) :: icells fs)
theorem rowsL_length (VA : Array Value) (root : Nat) (fs : List Nat) (hv : VA.size = 773) (hf : fs.length = 256) : (rowsL VA root fs).length = 1030 := by
 unfold rowsL
 rw [List.length_append, List.length_cons, Array.length_toList, hv]
 simp [icells, hf]
theorem rowsL_set (VA : Array Value) (root : Nat) (fs : List Nat) (hv : VA.size = 773) (b x : Nat) : (rowsL VA root fs).set (774 + b) (.int .i64 (x : Nat)) = rowsL VA root (fs.set b x) := by
 unfold rowsL
 rw [List.set_append_right _ _ (by rw [Array.length_toList, hv]; omega), Array.length_toList, hv, show 774 + b - 773 = b + 1 from by omega, List.set_cons_succ]
 simp [icells, List.map_set]
theorem rowsL_get (VA : Array Value) (root : Nat) (fs : List Nat) (hv : VA.size = 773) (b : Nat) (hb : b < fs.length) : (rowsL VA root fs)[774 + b]? = some (.int .i64 (fs.getD b 0 : Nat)) := by
 unfold rowsL
 rw [List.getElem?_append_right (by rw [Array.length_toList, hv]; omega), Array.length_toList, hv, show 774 + b - 773 = b + 1 from by omega, List.getElem?_cons_succ]
 simp [icells, hb]
theorem rowsL_one (VA : Array Value) (root : Nat) (fs : List Nat) (hv : VA.all (·.oneCell') = true) : (rowsL VA root fs).toArray.all (·.oneCell') = true := by
 have h2 := icells_one fs
 rw [Array.all_eq_true_iff_forall_mem] at *
 intro x hx
 have hx' : x ∈ rowsL VA root fs := by simpa using hx
 unfold rowsL at hx'
 rcases List.mem_append.1 hx' with h | h
 ·exact hv x (by simpa using h)
 rcases List.mem_cons.1 h with rfl | h
 ·rfl
 ·exact h2 x (by simpa using h)

theorem info_rows : (Tryz.prog.info? 98).map (·.size) = some 1030 := by kernel_rfl
theorem places_rows : (Tryz.prog.underlying 98).bind (fun d => match d with | .struct fields => fields.toList.mapM (fun f => (Tryz.prog.info? f.type).map fun i => (f.offset, i.size)) | _ => none) = some [(0, 773), (773, 1), (774, 256)] := by kernel_rfl
theorem zero_rows : ((Tryz.prog.info? 98).bind (·.zero)) = some (.agg (rowsL Tryz.zeroCells96 0 (List.replicate 256 0)).toArray) := by kernel_rfl

theorem zeroRows_is : Tryz.zeroCells98 = (rowsL Tryz.zeroCells96 0 (List.replicate 256 0)).toArray := by kernel_rfl

theorem built_rows (VA : Array Value) (root : Nat) (hv : VA.size = 773) :
  Tryz.prog.built 98 [(0, .agg VA), (1, .int .i64 (root : Nat))] = some (rowsL VA root (List.replicate 256 0)).toArray := by
 unfold Program.built
 have hz := zero_rows
 have hp := places_rows
 cases h1 : Tryz.prog.info? 98 with
 | none => rw [h1] at hz; cases hz
 | some it =>
  cases h2 : Tryz.prog.underlying 98 with
  | none => rw [h2] at hp; cases hp
  | some d =>
   rw [h1] at hz
   rw [h2] at hp
   have hz' : it.zero = some (.agg (rowsL Tryz.zeroCells96 0 (List.replicate 256 0)).toArray) := hz
   cases d <;> try (cases hp; done)
   rename_i fields
   have hp' : fields.toList.mapM (fun f => (Tryz.prog.info? f.type).map fun i => (f.offset, i.size)) = some [(0, 773), (773, 1), (774, 256)] := hp
   simp only [hz', hp']
   have e0 : (Value.agg (rowsL Tryz.zeroCells96 0 (List.replicate 256 0)).toArray).cells = (rowsL Tryz.zeroCells96 0 (List.replicate 256 0)).toArray := rfl
   rw [e0]
   have hzl : Tryz.zeroCells96.toList.length = 773 := by rw [Array.length_toList]; exact zeroTree_size
   unfold rowsL
   generalize Tryz.zeroCells96.toList = Z at *
   generalize icells (List.replicate 256 0) = R at *
   have s1 := fill_step ([(0, 773), (773, 1), (774, 256)].toArray[·]?) 0 0 773 (.agg VA) [(1, .int .i64 (root : Nat))] [] Z (.int .i64 ((0 : Nat) : Int) :: R) VA.toList rfl (by simp [Value.cells]) (by rw [Array.length_toList]; exact hv) rfl hzl
   have s2 := fill_step ([(0, 773), (773, 1), (774, 256)].toArray[·]?) 1 773 1 (.int .i64 (root : Nat)) [] VA.toList [.int .i64 ((0 : Nat) : Int)] R [.int .i64 (root : Nat)] rfl rfl rfl (by rw [Array.length_toList]; exact hv) rfl
   rw [List.nil_append, List.nil_append] at s1
   rw [s1]
   rw [show VA.toList ++ (.int .i64 ((0 : Nat) : Int) :: R) = VA.toList ++ ([.int .i64 ((0 : Nat) : Int)] ++ R) from rfl, s2, Instr.fill]
   rfl

theorem wpList_build_two {P : Program} {w : World} {ops : Array Oper} {rest : List Oper} {o : Oper} {a : Act} {Q : Exit → Act → World → Prop} (hgd : o.guard = none) (t : TypeId) (i0 i1 : Nat) (x0 x1 : Operand) (ho : o.op = .build t #[(i0, x0), (i1, x1)]) (v0 v1 : Value) (h0 : a.eval x0 = v0) (h1 : a.eval x1 = v1) (cells : Array Value) (hb : P.built t [(i0, v0), (i1, v1)] = some cells)
  (h : wpList P ops Q rest (a.put o.dst (.agg cells)) w) : wpList P ops Q (o :: rest) a w := by
 refine wpList_plain hgd fun K hK => ?_
 unfold Oper.wp
 rw [run_build_op w t _ ho cells (by simp only [List.map_toArray, List.map_cons, List.map_nil, h0, h1]; exact hb)]
 exact hK _ _ h

end Go.Proofs.YtegnkfdbmmndaaaGreat
end

/- LoadW -/
section
/- From row to row. -/
namespace Go.Proofs.YtegnkfdbmmndaaaGreat
open Go.RowKit

namespace Hm
/-- Which byte of the column is a row's. -/
def colIx (root row : Nat) : Nat := if root < row then row - 1 else row
/-- A row's byte, and the next row. -/
def longer (col : List UInt8) (ws : List Nat) (root row : Nat) : UInt8 × Nat :=
 if row = root then (0, 0) else (col.getD (colIx root row) 0, firstAt ws (col.getD (colIx root row) 0).toNat + (col.take (colIx root row)).count (col.getD (colIx root row) 0))
theorem colIx_lt {root row n : Nat} (h1 : root ≤ n) (h2 : row ≤ n) (h3 : row ≠ root) : colIx root row < n := by
 unfold colIx; split <;> omega
end Hm

structure RowsPart (w : World) (pb o : Nat) (s : ByteArray) (len g ng nc : Nat) (nds : List Hm.Nd) (root : Nat) (ws : List Nat) : Prop where
 tree : TreePart w pb o s len g ng nc nds
 root : w.cell? ⟨pb, o + 773, none⟩ = some (.int .i64 (root : Nat))
 firsts : ∀ b, b < 256 → w.cell? ⟨pb, o + 774 + b, none⟩ = some (.int .i64 (Hm.firstAt ws b : Nat))
theorem RowsPart.kept {S : Nat → Prop} {w w' : World} {pb o len g ng nc root : Nat} {s : ByteArray} {nds : List Hm.Nd} {ws : List Nat} (h : RowsPart w pb o s len g ng nc nds root ws) (hk : Kept S w w') (h1 : ¬ S pb) (h2 : ¬ S g) (h3 : ¬ S ng) : RowsPart w' pb o s len g ng nc nds root ws :=
 have hp : pb < w.heap.size := World.block_lt_of_cell? _ _ h.root
 ⟨h.tree.kept hk h1 h2 h3, (hk.cell (p := ⟨pb, o + 773, none⟩) hp h1).trans h.root, fun b hb => (hk.cell (p := ⟨pb, o + 774 + b, none⟩) hp h1).trans (h.firsts b hb)⟩

theorem rowsColumn_any (pb o root row : Nat) (w : World) (h : w.cell? ⟨pb, o + 773, none⟩ = some (.int .i64 (root : Nat))) (hr : row ≤ 1000000) :
  Calls Tryz.prog 80 #[.pointer (some ⟨pb, o, none⟩), .int .i64 row] w fun e w' => e = .returned (.int .i64 (Hm.colIx root row : Nat)) ∧ w' = w := by
 by_cases hlt : root < row
 ·have hd : decide (root < row) = true := decide_eq_true hlt
  have hd2 : decide ((root : Int) < (row : Int)) = true := decide_eq_true (by omega)
  have e : Hm.colIx root row = row - 1 := if_pos hlt
  rw [e]
  go_enter Tryz.func80, Tryz.ntmps80
  go_wp2
  go_ret
  exact ⟨by go_num, rfl⟩
 ·have hd : decide (root < row) = false := decide_eq_false hlt
  have hd2 : decide ((root : Int) < (row : Int)) = false := decide_eq_false (by omega)
  have e : Hm.colIx root row = row := if_neg hlt
  rw [e]
  go_enter Tryz.func80, Tryz.ntmps80
  go_wp2
  go_ret
  exact ⟨rfl, rfl⟩

theorem longer_any (hones : OnesSays) (pb o len g ng nc root row : Nat) (s : ByteArray) (nds : List Hm.Nd) (ws : List Nat) (col : List UInt8) (w : World) (h : RowsPart w pb o s len g ng nc nds root ws) (ht : Hm.Tells s.data.toList nds col) (hrt : root ≤ col.length) (hrw : row ≤ col.length) (hs : s.size ≤ 1000000) (hcl : col.length ≤ 1000000) (hfs : ∀ b, b < 256 → Hm.firstAt ws b ≤ 1000000000) :
  Calls Tryz.prog 34 #[.pointer (some ⟨pb, o, none⟩), .int .i64 row] w fun e w' => e = .returned (.tuple #[.int .u8 ((Hm.longer col ws root row).1.toNat : Nat), .int .i64 ((Hm.longer col ws root row).2 : Nat)]) ∧ Kept (fun _ => False) w w' := by
 have hroot := h.root
 by_cases hr : row = root
 ·have e : Hm.longer col ws root row = (0, 0) := if_pos hr
  rw [e]
  have hd : ((row : Int) == (root : Int)) = true := by simp; omega
  clear h
  go_enter Tryz.func34, Tryz.ntmps34
  go_wp2_with fail
  go_ret2
  exact ⟨rfl, Kept.refl _ _⟩
 ·have hd : ((row : Int) == (root : Int)) = false := by simp; omega
  have hx := Hm.colIx_lt hrt hrw hr
  have e : Hm.longer col ws root row = (col.getD (Hm.colIx root row) 0, Hm.firstAt ws (col.getD (Hm.colIx root row) 0).toNat + (col.take (Hm.colIx root row)).count (col.getD (Hm.colIx root row) 0)) := if_neg hr
  rw [e]
  have hcol := fun W (hW : RowsPart W pb o s len g ng nc nds root ws) => rowsColumn_any pb o root row W hW.root (by omega)
  have hby := fun W (hW : RowsPart W pb o s len g ng nc nds root ws) => byte_any hones pb o len g ng nc (Hm.colIx root row) s nds col W hW.tree ht hx hs hcl
  generalize Hm.colIx root row = ix at *
  have hcn : (col.take ix).count (col.getD ix 0) ≤ 1000000 := Nat.le_trans List.count_le_length (by rw [List.length_take]; omega)
  generalize hct : (col.take ix).count (col.getD ix 0) = ct at *
  generalize hxe : col.getD ix 0 = x at *
  have hxl : x.toNat < 256 := x.toNat_lt
  have hfb := hfs _ hxl
  have HFC : Hid (∀ W, RowsPart W pb o s len g ng nc nds root ws → W.cell? ⟨pb, o + 774 + x.toNat, none⟩ = some (.int .i64 (Hm.firstAt ws x.toNat : Nat))) := fun W hW => hW.firsts _ hxl
  generalize Hm.firstAt ws x.toNat = fb at *
  generalize x.toNat = xn at *
  have HC : Hid _ := hcol
  have HB : Hid _ := hby
  have HR : Hid (RowsPart w pb o s len g ng nc nds root ws) := h
  clear h hcol hby hx e hct hxe hfs ht
  go_enter Tryz.func34, Tryz.ntmps34
  go_wp2_with fail
  go_region_held (fun X => RowsPart X pb o s len g ng nc nds root ws) (first | exact k2 | exact k1 | exact HR.out.kept (Kept.refl (fun _ => False) w).drew id id id)
   (first
    | (go_at_call 80; (refine (HC.out _ (HR.out.kept (Kept.refl (fun _ => False) w).drew id id id)).mono ?_; rintro e w1 ⟨rfl, hq1⟩; have hk1 : Kept (fun _ => False) w w1 := (by rw [hq1]; exact (Kept.refl (fun _ => False) w).drew); have k1 := HR.out.kept hk1 id id id; clear hq1))
    | (go_at_call 79; (refine (HB.out _ k1).mono ?_; rintro e w2 ⟨rfl, hq2⟩; have hk2 : Kept (fun _ => False) w w2 := hk1.trans hq2 (fun _ _ h => h); have k2 := HR.out.kept hk2 id id id; clear hq2)))
  have hfc := HFC.out _ k2
  have hK2 : Hid (Kept (fun _ => False) w w2) := hk2
  clear k1 k2 hk1 hk2 HC HB HFC
  go_wp2_with fail
  go_quiet (fail)
  go_wp2_with fail
  go_ret2
  exact ⟨by go_num, hK2.out.drewN _⟩

end Go.Proofs.YtegnkfdbmmndaaaGreat
end

/- LoadJ -/
section
/- The reader takes names. -/
namespace Go.Proofs.YtegnkfdbmmndaaaGreat
open Go.RowKit

theorem info_str : (Tryz.prog.info? 9).map (fun i => (i.zero, i.size, i.bytes)) = some (some (.string ⟨#[]⟩), 1, 16) := by kernel_rfl

namespace Hm
def vstrs (l : List ByteArray) : List Value := l.map Value.string
/-- The first k names, and what is left. -/
def namesTo : Nat → Rd → List ByteArray × Rd
 | 0, st => ([], st)
 | k + 1, st => ((namesTo k st).1 ++ [⟨(takeO (numO (namesTo k st).2 1).2 (numO (namesTo k st).2 1).1).1.toArray⟩], (takeO (numO (namesTo k st).2 1).2 (numO (namesTo k st).2 1).1).2)
theorem namesTo_length (st : Rd) : ∀ k, (namesTo k st).1.length = k
 | 0 => rfl
 | k + 1 => by rw [namesTo]; simp [namesTo_length st k]
theorem namesTo_rest (st : Rd) : ∀ k, restLen (namesTo k st).2 ≤ restLen st
 | 0 => Nat.le_refl _
 | k + 1 => by
  have h1 := namesTo_rest st k
  have h2 := restLen_take (namesTo k st).2 1
  have h3 : restLen (takeO (takeO (namesTo k st).2 1).2 (leNum (takeO (namesTo k st).2 1).1)).2 ≤ restLen (takeO (namesTo k st).2 1).2 := restLen_take _ _
  show restLen (takeO (takeO (namesTo k st).2 1).2 (leNum (takeO (namesTo k st).2 1).1)).2 ≤ _
  omega
/-- A row of m names of which k are read. -/
def nameRow (st : Rd) (m k : Nat) : List Value := vstrs ((namesTo k st).1 ++ List.replicate (m - k) ⟨#[]⟩)
theorem nameRow_length (st : Rd) (m k : Nat) (h : k ≤ m) : (nameRow st m k).length = m := by
 unfold nameRow vstrs
 rw [List.length_map, List.length_append, namesTo_length, List.length_replicate]; omega
theorem nameRow_succ (st : Rd) (m k : Nat) (h : k < m) : nameRow st m (k + 1) = (nameRow st m k).set k (.string ⟨(takeO (numO (namesTo k st).2 1).2 (numO (namesTo k st).2 1).1).1.toArray⟩) := by
 have e : List.replicate (m - k) (⟨#[]⟩ : ByteArray) = ⟨#[]⟩ :: List.replicate (m - (k + 1)) ⟨#[]⟩ := by rw [show m - k = (m - (k + 1)) + 1 from by omega, List.replicate_succ]
 unfold nameRow vstrs
 rw [namesTo, e, ← List.map_set, List.set_append_right _ _ (by rw [namesTo_length]; omega), namesTo_length, Nat.sub_self, List.set_cons_zero, List.append_assoc]
 rfl
theorem nameRow_get (st : Rd) (m k : Nat) (h : k < m) : (nameRow st m k)[k]? = some (.string ⟨#[]⟩) := by
 unfold nameRow vstrs
 rw [List.getElem?_map, List.getElem?_append_right (by rw [namesTo_length]; omega), namesTo_length, Nat.sub_self]
 rw [show m - k = (m - (k + 1)) + 1 from by omega, List.replicate_succ]; rfl
end Hm

set_option maxHeartbeats 1000000 in
theorem names_any (p : Nat) (st : Hm.Rd) (m : Nat) (w : World) (hr : RdAt w p st) (hm : m ≤ 255) (hll : Hm.restLen st ≤ 281474976710656) :
  Calls Tryz.prog 66 #[.pointer (some ⟨p, 0, none⟩), .int .i64 m] w fun e w' => e = .returned (.slice (some ⟨w.heap.size, 0, none⟩) m m) ∧
   w'.heap[w.heap.size]? = some (.cells (Hm.vstrs (Hm.namesTo m st).1).toArray 9 (0, 0)) ∧ RdAt w' p (Hm.namesTo m st).2 ∧ Kept (fun j => j = p) w w' := by
 obtain ⟨i0, hi, hz0, hz1, hz2⟩ := info_parts info_str
 have hp := hr.lt
 have HR : Hid (RdAt w p st ∧ Hm.restLen st ≤ 281474976710656) := ⟨hr, hll⟩
 clear hr
 go_enter Tryz.func66, Tryz.ntmps66
 go_wp2_with (at_make; refine wpList_make_full _ rfl (.tmp 7) (.tmp 7) 26 rfl w.heap.size 9 i0 (.string ⟨#[]⟩) 1 Tryz.underlying26 hi hz0 hz1 .i64 .i64 _ _ m rfl rfl rfl rfl (by rw [hz2]; omega) (by unfold maxLen; omega) (Nat.le_refl _) ?_; intro w1 ho1 hg1)
 have hk1 : Kept (fun _ => False) w w1 := (Kept.refl _ _).grown hg1 (fun k hk => by cases hk)
 have hr1 : w1.heap[w.heap.size]? = some (.cells (Hm.nameRow st m 0).toArray 9 (0, 0)) := by
  rw [Nat.mul_one, show (Value.string ⟨#[]⟩).cells = #[Value.string ⟨#[]⟩] from rfl, toList_madeCells_one] at ho1
  rcases ho1.2 with ⟨h1, _⟩ | ⟨g2, cap, cur, h1, _, hg, _, _, hs, ht⟩
  ·cases h1
  ·cases h1
   have e : cur.toList.take (m * 1) = cur.toList := List.take_of_length_le (by simp; omega)
   have e2 : cur = (Hm.nameRow st m 0).toArray := by
    apply Array.ext'
    rw [← e, ht]
    simp [Hm.nameRow, Hm.namesTo, Hm.vstrs]
   rw [hg, e2]
 clear ho1 hg1
 have HX : Hid (w1.heap[w.heap.size]? = some (.cells (Hm.nameRow st m 0).toArray 9 (0, 0)) ∧ Kept (fun _ => False) w w1) := ⟨hr1, hk1⟩
 clear hr1 hk1
 go_wp2
 go_loopw [11] (fun vi wr => ∃ k : Nat, k ≤ m ∧ vi = .int .i64 k ∧ wr.heap[w.heap.size]? = some (.cells (Hm.nameRow st m k).toArray 9 (0, 0)) ∧ RdAt wr p (Hm.namesTo k st).2 ∧ Kept (fun j => j = p) w wr) (fun vi _ => m - (intOf vi).toNat)
 case atStart => exact ⟨0, by omega, rfl, HX.out.1, HR.out.1.kept HX.out.2 id, HX.out.2.wider (fun _ _ h => h.elim)⟩
 case round =>
  obtain ⟨k, hk, rfl, hrow, hrd, hkr⟩ := hrel
  by_cases hlt : k < m
  ·have hrs := Hm.namesTo_rest st k
   have hnu := number_any p (Hm.namesTo k st).2 1 wr hrd (by have := HR.out.2; omega) (by omega)
   have hx := Hm.numO_lt (Hm.namesTo k st).2 1
   have hrs2 := Hm.restLen_take (Hm.namesTo k st).2 1
   have HTK : Hid (∀ W, RdAt W p (Hm.numO (Hm.namesTo k st).2 1).2 → Calls Tryz.prog 64 #[.pointer (some ⟨p, 0, none⟩), .int .i64 ((Hm.numO (Hm.namesTo k st).2 1).1 : Nat)] W fun e w' => e = .returned (.string ⟨(Hm.takeO (Hm.numO (Hm.namesTo k st).2 1).2 (Hm.numO (Hm.namesTo k st).2 1).1).1.toArray⟩) ∧ RdAt w' p (Hm.takeO (Hm.numO (Hm.namesTo k st).2 1).2 (Hm.numO (Hm.namesTo k st).2 1).1).2 ∧ Kept (fun j => j = p) W w') :=
    fun W h => take_any p _ _ W h (by have := HR.out.2; show Hm.restLen (Hm.takeO (Hm.namesTo k st).2 1).2 ≤ _; omega) (by simp at hx; omega)
   have HNX : Hid (Hm.nameRow st m (k + 1) = (Hm.nameRow st m k).set k (.string ⟨(Hm.takeO (Hm.numO (Hm.namesTo k st).2 1).2 (Hm.numO (Hm.namesTo k st).2 1).1).1.toArray⟩) ∧ (Hm.namesTo (k + 1) st).2 = (Hm.takeO (Hm.numO (Hm.namesTo k st).2 1).2 (Hm.numO (Hm.namesTo k st).2 1).1).2) := ⟨Hm.nameRow_succ st m k hlt, rfl⟩
   have hbl := Hm.takeO_length (Hm.numO (Hm.namesTo k st).2 1).2 (Hm.numO (Hm.namesTo k st).2 1).1
   have hrl := Hm.nameRow_length st m k hk
   have hrg := Hm.nameRow_get st m k hlt
   generalize (Hm.numO (Hm.namesTo k st).2 1).1 = x at *
   generalize Hm.takeO (Hm.numO (Hm.namesTo k st).2 1).2 x = tk at *
   obtain ⟨S, hS⟩ : ∃ S, S = (⟨tk.1.toArray⟩ : ByteArray) := ⟨_, rfl⟩
   have hSz : S.size ≤ 281474976710656 := by rw [hS]; show tk.1.toArray.size ≤ _; simp at hx ⊢; omega
   rw [← hS] at HTK HNX
   have hcl := fun W => clone_any S W hSz
   have H0 : Hid (wr.heap[w.heap.size]? = some (.cells (Hm.nameRow st m k).toArray 9 (0, 0)) ∧ Kept (fun j => j = p) w wr) := ⟨hrow, hkr⟩
   have hkI : (k : Int) < (m : Int) := by omega
   clear hS hrow hkr hrd hrs hrs2 hSz hbl hx
   go_wp2_with fail
   refine hnu.mono ?_
   rintro e w2 ⟨rfl, hr2, hk2⟩
   have htk := HTK.out w2 hr2
   have H2 : Hid (Kept (fun j => j = p) wr w2) := hk2
   clear hnu hr2 hk2 HTK
   go_wp2_with fail
   refine htk.mono ?_
   rintro e w3 ⟨rfl, hr3, hk3⟩
   have H3 : Hid (Kept (fun j => j = p) wr w3 ∧ RdAt w3 p tk.2) := ⟨H2.out.trans hk3 (fun _ _ h => h), hr3⟩
   clear htk hr3 hk3 H2
   go_wp2_with fail
   refine (hcl _).mono ?_
   rintro e w4 ⟨rfl, hk4⟩
   have hk04 : Kept (fun j => j = p) wr w4 := H3.out.1.trans hk4 (fun _ _ h => h.elim)
   have hne : p ≠ w.heap.size := by omega
   have hrow4 := hk04.row H0.out.1 (fun h => hne h.symm)
   have c1 : w4.cell? ⟨w.heap.size, k, none⟩ = some (.string ⟨#[]⟩) := by rw [cell_of_row _ _ k _ _ _ hrow4]; simpa using hrg
   have f1 : w4.frozen? ⟨w.heap.size, k, none⟩ = false := frozen_of_row _ _ k _ _ hrow4
   have H4 : Hid (w4.heap[w.heap.size]? = some (.cells (Hm.nameRow st m k).toArray 9 (0, 0)) ∧ Kept (fun j => j = p) w w4 ∧ RdAt w4 p tk.2) := ⟨hrow4, H0.out.2.trans hk04 (fun _ _ h => h), H3.out.2.kept hk4 id⟩
   clear hcl hk4 hk04 hrow4 H3 H0
   go_wp2_with fail
   go_roundw
   case rel =>
    refine ⟨k + 1, by omega, by go_num, ?_, ?_, H4.out.2.1.setCell (.inl (Nat.le_refl _)) _⟩
    ·have e3 : (Hm.nameRow st m k).toArray.setIfInBounds k (.string S) = ((Hm.nameRow st m k).set k (.string S)).toArray := by apply Array.ext'; simp
     rw [heap_setCell_same _ _ k _ _ (.string S) H4.out.1, HNX.out.1, e3]
    ·rw [HNX.out.2]
     have hks : Kept (fun j => j = w.heap.size) w4 (w4.setCell ⟨w.heap.size, k, none⟩ (.string S)) := (Kept.refl (fun j => j = w.heap.size) w4).setCell (p := ⟨w.heap.size, k, none⟩) (.inr rfl) _
     exact H4.out.2.2.kept hks hne
   case measure => simp [intOf]; omega
  ·obtain rfl : k = m := by omega
   have HRW : Hid (wr.heap[w.heap.size]? = some (.cells (Hm.vstrs (Hm.namesTo k st).1).toArray 9 (0, 0)) ∧ RdAt wr p (Hm.namesTo k st).2 ∧ Kept (fun j => j = p) w wr) := by
    refine ⟨?_, hrd, hkr⟩
    rw [hrow]
    simp [Hm.nameRow]
   clear hrow hrd hkr
   go_wp2_with fail
   go_ret
   exact ⟨rfl, HRW.out⟩

end Go.Proofs.YtegnkfdbmmndaaaGreat
end

/- LoadX -/
section
/- Back from a row, byte by byte. -/
namespace Go.Proofs.YtegnkfdbmmndaaaGreat
open Go.RowKit

namespace Hm
/-- The weights are those of the column. -/
def Weighs (ws : List Nat) (col : List UInt8) : Prop := ws.length = 256 ∧ ∀ v : UInt8, ws.getD v.toNat 0 = col.count v
theorem countP_lt_succ (col : List UInt8) (b : Nat) (hb : b < 256) : col.countP (fun x => decide (x.toNat < b + 1)) = col.countP (fun x => decide (x.toNat < b)) + col.count (UInt8.ofNat b) := by
 induction col with
 | nil => rfl
 | cons y r ih =>
  rw [List.countP_cons, List.countP_cons, List.count_cons, ih]
  have e : (UInt8.ofNat b).toNat = b := by simp; omega
  rcases Nat.lt_trichotomy y.toNat b with h | h | h
  ·rw [decide_eq_true (show y.toNat < b + 1 by omega), decide_eq_true h, show (y == UInt8.ofNat b) = false from by
    rw [beq_eq_false_iff_ne]; intro x; rw [x, e] at h; omega]
   simp; omega
  ·rw [decide_eq_true (show y.toNat < b + 1 by omega), decide_eq_false (show ¬ y.toNat < b by omega), show (y == UInt8.ofNat b) = true from by
    rw [beq_iff_eq]; exact UInt8.toNat_inj.1 (by rw [e]; exact h)]
   simp; omega
  ·rw [decide_eq_false (show ¬ y.toNat < b + 1 by omega), decide_eq_false (show ¬ y.toNat < b by omega), show (y == UInt8.ofNat b) = false from by
    rw [beq_eq_false_iff_ne]; intro x; rw [x, e] at h; omega]
   simp
theorem Weighs.first {ws : List Nat} {col : List UInt8} (h : Weighs ws col) : ∀ b, b ≤ 256 → firstAt ws b = 1 + col.countP fun x => decide (x.toNat < b)
 | 0, _ => by unfold firstAt; simp
 | b + 1, hb => by
  have ih := h.first b (by omega)
  have h1 := h.1
  have e : (UInt8.ofNat b).toNat = b := by simp; omega
  have h2 := h.2 (UInt8.ofNat b)
  rw [e, List.getD_eq_getElem?_getD, List.getElem?_eq_getElem (by omega), Option.getD_some] at h2
  rw [firstAt_succ ws b (by omega), ih, countP_lt_succ col b (by omega), h2]; omega
theorem Weighs.first_le {ws : List Nat} {col : List UInt8} (h : Weighs ws col) (b : Nat) (hb : b ≤ 256) : firstAt ws b ≤ col.length + 1 := by
 rw [h.first b hb]
 have := List.countP_le_length (p := fun x : UInt8 => decide (x.toNat < b)) (l := col)
 omega
theorem lt_eq_le (col : List UInt8) (x : UInt8) : col.countP (fun y => decide (y.toNat < x.toNat)) + col.count x ≤ col.length := by
 induction col with
 | nil => simp
 | cons y r ih =>
  rw [List.countP_cons, List.count_cons, List.length_cons]
  by_cases e : y = x
  ·subst e; simp; omega
  ·rw [show (y == x) = false from by rw [beq_eq_false_iff_ne]; exact e]
   simp only [Bool.false_eq_true, if_false]
   split <;> omega
theorem count_take_lt (col : List UInt8) (p : Nat) (hp : p < col.length) : (col.take p).count (col.getD p 0) < col.count (col.getD p 0) := by
 obtain ⟨x, hx⟩ : ∃ x, x = col.getD p 0 := ⟨_, rfl⟩
 have e : col = col.take p ++ x :: col.drop (p + 1) := by
  rw [hx, List.getD_eq_getElem?_getD, List.getElem?_eq_getElem hp, Option.getD_some, ← List.drop_eq_getElem_cons hp, List.take_append_drop]
 rw [← hx]
 have e2 : col.count x = (col.take p).count x + (x :: col.drop (p + 1)).count x := by rw [← List.count_append, ← e]
 rw [e2, List.count_cons_self]
 omega
theorem longer_le {col : List UInt8} {ws : List Nat} (h : Weighs ws col) {root row : Nat} (h1 : root ≤ col.length) (h2 : row ≤ col.length) : (longer col ws root row).2 ≤ col.length := by
 unfold longer
 split
 ·exact Nat.zero_le _
 ·rename_i hne
  have hx := colIx_lt h1 h2 hne
  have a := count_take_lt col (colIx root row) hx
  have b := lt_eq_le col (col.getD (colIx root row) 0)
  have c := (col.getD (colIx root row) 0).toNat_lt
  show firstAt _ _ + _ ≤ _
  rw [h.first _ (by omega)]
  omega

/-- The bytes ahead of a row's ending, and the row of the longer ending. -/
def backTo (stp : Nat → UInt8 × Nat) (row : Nat) : Nat → List UInt8 × Nat
 | 0 => ([], row)
 | k + 1 => ((stp (backTo stp row k).2).1 :: (backTo stp row k).1, (stp (backTo stp row k).2).2)
theorem backTo_length (stp : Nat → UInt8 × Nat) (row : Nat) : ∀ k, (backTo stp row k).1.length = k
 | 0 => rfl
 | k + 1 => by show ((_ :: _ : List UInt8)).length = _; rw [List.length_cons, backTo_length stp row k]
theorem backTo_le {col : List UInt8} {ws : List Nat} (h : Weighs ws col) {root row : Nat} (h1 : root ≤ col.length) (h2 : row ≤ col.length) : ∀ k, (backTo (longer col ws root) row k).2 ≤ col.length
 | 0 => h2
 | k + 1 => longer_le h h1 (backTo_le h h1 h2 k)
/-- A row of n bytes of which the last k are written. -/
def backRow (l : List UInt8) (j : Nat) : List Value := bcells (List.replicate j 0 ++ l)
theorem backRow_set (l : List UInt8) (j : Nat) (x : UInt8) : (backRow l (j + 1)).set j (.int .u8 (x.toNat : Int)) = backRow (x :: l) j := by
 unfold backRow bcells
 rw [show (Value.int .u8 (x.toNat : Int)) = (fun b : UInt8 => Value.int .u8 (b.toNat : Int)) x from rfl, ← List.map_set, List.replicate_succ', List.append_assoc, List.set_append_right _ _ (by rw [List.length_replicate]; omega), List.length_replicate, Nat.sub_self]
 rfl
theorem backRow_get (l : List UInt8) (j : Nat) : (backRow l (j + 1))[j]? = some (.int .u8 0) := by
 unfold backRow bcells
 rw [List.getElem?_map, List.replicate_succ', List.append_assoc, List.getElem?_append_right (by rw [List.length_replicate]; omega), List.length_replicate, Nat.sub_self]
 rfl
end Hm

theorem info_byte : (Tryz.prog.info? 5).map (fun i => (i.zero, i.size, i.bytes)) = some (some (.int .u8 0), 1, 1) := by kernel_rfl

theorem back_any (hones : OnesSays) (pb o len g ng nc root row n : Nat) (s : ByteArray) (nds : List Hm.Nd) (ws : List Nat) (col : List UInt8) (w : World) (h : RowsPart w pb o s len g ng nc nds root ws) (ht : Hm.Tells s.data.toList nds col) (hws : Hm.Weighs ws col) (hrt : root ≤ col.length) (hrw : row ≤ col.length) (hs : s.size ≤ 1000000) (hcl : col.length ≤ 1000000) (hn : n ≤ 1000000) :
  Calls Tryz.prog 33 #[.func (.func 34) #[.pointer (some ⟨pb, o, none⟩)] #[], .int .i64 row, .int .i64 n] w fun e w' => e = .returned (.slice (some ⟨w.heap.size, 0, none⟩) n n) ∧
   w'.heap[w.heap.size]? = some (.cells (Hm.bcells (Hm.backTo (Hm.longer col ws root) row n).1).toArray 5 (0, 0)) ∧ Kept (fun _ => False) w w' := by
 obtain ⟨i0, hi, hz0, hz1, hz2⟩ := info_parts info_byte
 have hpw : pb < w.heap.size := World.block_lt_of_cell? _ _ h.root
 have HLO : Hid (∀ k W, RowsPart W pb o s len g ng nc nds root ws → Calls Tryz.prog 34 #[.pointer (some ⟨pb, o, none⟩), .int .i64 ((Hm.backTo (Hm.longer col ws root) row k).2 : Nat)] W fun e w' => e = .returned (.tuple #[.int .u8 ((Hm.longer col ws root (Hm.backTo (Hm.longer col ws root) row k).2).1.toNat : Nat), .int .i64 ((Hm.longer col ws root (Hm.backTo (Hm.longer col ws root) row k).2).2 : Nat)]) ∧ Kept (fun _ => False) W w') :=
  fun k W hW => longer_any hones pb o len g ng nc root _ s nds ws col W hW ht hrt (Hm.backTo_le hws hrt hrw k) hs hcl (fun b hb => by have := hws.first_le b (by omega); omega)
 have HBL : Hid (∀ k, (Hm.backTo (Hm.longer col ws root) row k).2 ≤ 1000000) := fun k => Nat.le_trans (Hm.backTo_le hws hrt hrw k) hcl
 have HR : Hid (RowsPart w pb o s len g ng nc nds root ws) := h
 clear h ht hws
 generalize Hm.longer col ws root = stp at *
 go_enter Tryz.func33, Tryz.ntmps33
 go_wp2_with (at_make; refine wpList_make_full _ rfl (.tmp 9) (.tmp 9) 79 rfl w.heap.size 5 i0 (.int .u8 0) 1 Tryz.underlying79 hi hz0 hz1 .i64 .i64 _ _ n rfl rfl rfl rfl (by rw [hz2]; omega) (by unfold maxLen; omega) (Nat.le_refl _) ?_; intro w1 ho1 hg1)
 have hk1 : Kept (fun _ => False) w w1 := (Kept.refl _ _).grown hg1 (fun k hk => by cases hk)
 have hr1 : w1.heap[w.heap.size]? = some (.cells (Hm.backRow [] n).toArray 5 (0, 0)) := by
  rw [Nat.mul_one, show (Value.int .u8 0).cells = #[Value.int .u8 0] from rfl, toList_madeCells_one] at ho1
  rcases ho1.2 with ⟨h1, _⟩ | ⟨g2, cap, cur, h1, _, hg, _, _, hs, ht⟩
  ·cases h1
  ·cases h1
   have e : cur.toList.take (n * 1) = cur.toList := List.take_of_length_le (by simp; omega)
   have e2 : cur = (Hm.backRow [] n).toArray := by
    apply Array.ext'
    rw [← e, ht]
    simp [Hm.backRow, Hm.bcells]
   rw [hg, e2]
 clear ho1 hg1
 have HX : Hid (w1.heap[w.heap.size]? = some (.cells (Hm.backRow [] n).toArray 5 (0, 0)) ∧ Kept (fun _ => False) w w1) := ⟨hr1, hk1⟩
 clear hr1 hk1
 have hwn : IntKind.i64.wrap ((n : Int) - 1) = (n : Int) - 1 := by rw [IntKind.wrap_i64]; omega
 go_wp2
 go_loopw [1, 8] (fun vr vi wr => ∃ j k : Nat, j + k = n ∧ vi = .int .i64 ((j : Int) - 1) ∧ vr = .int .i64 ((Hm.backTo stp row k).2 : Nat) ∧ wr.heap[w.heap.size]? = some (.cells (Hm.backRow (Hm.backTo stp row k).1 j).toArray 5 (0, 0)) ∧ Kept (fun _ => False) w wr) (fun _ vi _ => (intOf vi + 1).toNat)
 case atStart => exact ⟨n, 0, rfl, rfl, rfl, HX.out.1, HX.out.2⟩
 case round =>
  obtain ⟨j, k, hjk, rfl, rfl, hrow, hkr⟩ := hrel
  cases j with
  | zero =>
   have hk : k = n := by omega
   subst hk
   have hv : ((0 : Nat) : Int) - 1 = -1 := rfl
   rw [hv]
   have HF : Hid (wr.heap[w.heap.size]? = some (.cells (Hm.bcells (Hm.backTo stp row k).1).toArray 5 (0, 0)) ∧ Kept (fun _ => False) w wr) := ⟨hrow, hkr⟩
   clear hrow hkr
   go_wp2_with fail
   go_ret
   exact ⟨rfl, HF.out⟩
  | succ j =>
   have hv : ((j + 1 : Nat) : Int) - 1 = (j : Int) := by omega
   rw [hv]
   have hne : pb ≠ w.heap.size := by omega
   have hlo := HLO.out k wr (HR.out.kept hkr id id id)
   have hbl := HBL.out (k + 1)
   have HN : Hid (Hm.backTo stp row (k + 1) = ((stp (Hm.backTo stp row k).2).1 :: (Hm.backTo stp row k).1, (stp (Hm.backTo stp row k).2).2)) := rfl
   have HST := Hm.backRow_set (Hm.backTo stp row k).1 j (stp (Hm.backTo stp row k).2).1
   have hgt := Hm.backRow_get (Hm.backTo stp row k).1 j
   have H0 : Hid (wr.heap[w.heap.size]? = some (.cells (Hm.backRow (Hm.backTo stp row k).1 (j + 1)).toArray 5 (0, 0)) ∧ Kept (fun _ => False) w wr) := ⟨hrow, hkr⟩
   have hd : decide ((0 : Int) ≤ (j : Int)) = true := decide_eq_true (by omega)
   have hjn : j < n := by omega
   have hjI : (j : Int) < (n : Int) := by omega
   have hwj : IntKind.i64.wrap ((j : Int) - 1) = (j : Int) - 1 := by rw [IntKind.wrap_i64]; omega
   generalize stp (Hm.backTo stp row k).2 = nx at *
   generalize (Hm.backTo stp row k).2 = r at *
   generalize Hm.backRow (Hm.backTo stp row k).1 (j + 1) = R at *
   have HST' : Hid (R.set j (.int .u8 (nx.1.toNat : Int)) = Hm.backRow (nx.1 :: (Hm.backTo stp row k).1) j) := HST
   clear hrow hkr HST
   go_wp2_with fail
   refine hlo.mono ?_
   rintro e w2 ⟨rfl, hk2⟩
   have hrow2 := hk2.row H0.out.1 id
   have c1 : w2.cell? ⟨w.heap.size, j, none⟩ = some (.int .u8 0) := by rw [cell_of_row _ _ j _ _ _ hrow2]; simpa using hgt
   have f1 : w2.frozen? ⟨w.heap.size, j, none⟩ = false := frozen_of_row _ _ j _ _ hrow2
   have H2 : Hid (w2.heap[w.heap.size]? = some (.cells R.toArray 5 (0, 0)) ∧ Kept (fun _ => False) w w2) := ⟨hrow2, H0.out.2.trans hk2 (fun _ _ h => h)⟩
   clear hlo hk2 hrow2 hgt
   go_wp2_with fail
   go_roundw
   case rel =>
    refine ⟨j, k + 1, by omega, rfl, by rw [HN.out], ?_, H2.out.2.setCell (.inl (Nat.le_refl _)) _⟩
    rw [HN.out]
    show _ = some (Obj.cells (Hm.backRow (nx.1 :: (Hm.backTo stp row k).1) j).toArray _ _)
    rw [← HST'.out]
    rw [← List.setIfInBounds_toArray]
    exact heap_setCell_same _ _ j _ _ _ H2.out.1
   case measure => simp [intOf]

end Go.Proofs.YtegnkfdbmmndaaaGreat
end

/- LoadY -/
section
/- A tree that is read tells a column. -/
namespace Go.Proofs.YtegnkfdbmmndaaaGreat
namespace Hm

theorem startOf_mono (nds : List Nd) {i j : Nat} (h : i ≤ j) : startOf nds i ≤ startOf nds j := by
 induction j with
 | zero => rw [show i = 0 by omega]; exact Nat.le_refl _
 | succ j ih =>
  by_cases e : i = j + 1
  ·subst e; exact Nat.le_refl _
  ·have := ih (by omega)
   show _ ≤ startOf nds j + _
   omega
theorem bitB_pre (l : List UInt8) (a k : Nat) (h : k < 8 * a) : bitB (l.take a) k = bitB l k := by
 unfold bitB
 rw [List.getD_eq_getElem?_getD, List.getElem?_take_of_lt (by omega), List.getD_eq_getElem?_getD]

/-- What is laid out of bytes tells a column. -/
theorem treeOk_tells {l : List UInt8} {n : Nat} {L : List Nat} {st : LaySt} (h : TreeOk l n L st) :
  ∃ col : List UInt8, col.length = n ∧ Tells (l.take (szB st.len)) st.nds col ∧ Weighs st.ws col := by
 obtain ⟨hC, hl⟩ := h
 obtain ⟨h0, hE⟩ := nodeN_is hC
 have hsh := hE.nodes
 have hlk := layTo_like hl
 have hinv := layTo_inv hsh hC.nodup rfl (Nat.le_refl _) hl
 have hle := layTo_len hl
 have hs2 := hsh.like hlk.1
 have hll0 : (nodesOf L).length = st.nds.length := hlk.1.1.symm
 replace hinv : LayInv (bitB (l.take (szB (mostOf l n L)))) n (nodesOf L).length st := hinv
 rw [hll0] at hinv
 obtain ⟨col, c1, c2, c3, c4⟩ := laid_rep hinv rfl hs2 hC.numk hC.num_lt hC.pos
 have hm : mostOf l n L ≤ 8 * l.length := Nat.min_le_left _ _
 have hsz : st.len ≤ 8 * szB st.len := by unfold szB; omega
 have hll : (l.take (szB st.len)).length = szB st.len := by rw [List.length_take]; unfold szB; omega
 have fits : ∀ j, j < st.nds.length → (ndAt st.nds j).frm + (ndAt st.nds j).siz ≤ st.len := fun j hj => by
  rw [c3.frm j hj, hinv.len]
  exact startOf_mono st.nds (show j + 1 ≤ st.nds.length by omega)
 refine ⟨col, c1, ⟨32, lnB L, numB L, orderOf L, ⟨c3.siz, c3.frm, fun j p hj hp => ?_⟩, hs2, hC.numk, c2, hC.pos, hC.num_lt, fun j hj => ?_⟩, hinv.wl, c4⟩
 ·have hf := fits j hj
  rw [← c3.bit j p hj hp, bitB_pre l _ _ (by omega), bitB_pre l _ _ (by unfold szB; omega)]
 ·rw [hll]
  have hf := fits j hj
  omega
theorem treeOk_ws {l : List UInt8} {n : Nat} {L : List Nat} {st : LaySt} (h : TreeOk l n L st) (x : Nat) (hx : x ∈ st.ws) : x ≤ n := by
 obtain ⟨col, c1, _, c3, c4⟩ := treeOk_tells h
 obtain ⟨i, hi, e⟩ := List.getElem_of_mem hx
 have h1 := c4 (UInt8.ofNat i)
 rw [show (UInt8.ofNat i).toNat = i from by simp; omega, List.getD_eq_getElem?_getD, List.getElem?_eq_getElem hi, Option.getD_some, e] at h1
 rw [h1, ← c1]
 exact List.count_le_length
end Hm
end Go.Proofs.YtegnkfdbmmndaaaGreat
end
