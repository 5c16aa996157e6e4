import Derived.Test.YtegnkfdbmmndaaaGreatJ13
import Derived.Test.YtegnkfdbmmndaaaGreatJ15
import Derived.Deep.Cut
import Derived.Test.YtegnkfdbmmndaaaGreatJ04

/- AssignG -/
section
/- The table of codes. -/
namespace Go.Proofs.YtegnkfdbmmndaaaGreat
open Go.RowKit

def tcells : List (Nat × Nat) → List Value
  | [] => []
  | p :: r => .int .u64 (p.1 : Nat) :: .int .i64 (p.2 : Nat) :: tcells r
theorem tcells_length (l : List (Nat × Nat)) : (tcells l).length = l.length * 2 := by
  induction l with
  | nil => rfl
  | cons p r ih => simp [tcells, ih]; omega
theorem tcells_get (l : List (Nat × Nat)) : ∀ i, (h : i < l.length) → (tcells l)[i * 2]? = some (.int .u64 (l[i].1 : Nat)) ∧ (tcells l)[i * 2 + 1]? = some (.int .i64 (l[i].2 : Nat)) := by
  induction l with
  | nil => intro i h; simp at h
  | cons p r ih =>
    intro i h
    cases i with
    | zero => exact ⟨rfl, rfl⟩
    | succ i =>
      have := ih i (by simpa using h)
      rw [show (i + 1) * 2 = i * 2 + 1 + 1 from by omega]
      simpa [tcells] using this
theorem tcells_set (l : List (Nat × Nat)) (p : Nat × Nat) : ∀ i, (h : i < l.length) → ((tcells l).set (i * 2) (.int .u64 (p.1 : Nat))).set (i * 2 + 1) (.int .i64 (p.2 : Nat)) = tcells (l.set i p) := by
  induction l with
  | nil => intro i h; simp at h
  | cons q r ih =>
    intro i h
    cases i with
    | zero => rfl
    | succ i =>
      have := ih i (by simpa using h)
      rw [show (i + 1) * 2 = i * 2 + 1 + 1 from by omega]
      simp [tcells, this]
theorem tcells_zero (n : Nat) : tcells (List.replicate n (0, 0)) = pairs0 n := by
  induction n with
  | zero => rfl
  | succ n ih => rw [List.replicate_succ, tcells, ih]; simp [pairs0, List.replicate_succ]
theorem tcells_one (l : List (Nat × Nat)) : (tcells l).toArray.all (·.oneCell') = true := by
  rw [Array.all_eq_true_iff_forall_mem]
  intro v hv
  have hv' : v ∈ tcells l := by simpa using hv
  clear hv
  induction l with
  | nil => simp [tcells] at hv'
  | cons p r ih =>
    simp only [tcells, List.mem_cons] at hv'
    rcases hv' with rfl | rfl | h
    · rfl
    · rfl
    · exact ih h
/-- Block g is a table of codes. -/
def TabRow (w : World) (g : Nat) (T : List (Nat × Nat)) : Prop := w.heap[g]? = some (.cells (tcells T).toArray 92 (0, 0))
theorem TabRow.set {w : World} {g : Nat} {T : List (Nat × Nat)} (h : TabRow w g T) (i : Nat) (hi : i < T.length) (p : Nat × Nat) : TabRow ((w.setCell ⟨g, i * 2, none⟩ (.int .u64 (p.1 : Nat))).setCell ⟨g, i * 2 + 1, none⟩ (.int .i64 (p.2 : Nat))) g (T.set i p) := by
  have h2 := heap_setCell_same _ g (i * 2 + 1) _ _ (.int .i64 (p.2 : Nat)) (heap_setCell_same w g (i * 2) _ _ (.int .u64 (p.1 : Nat)) h)
  unfold TabRow
  rw [h2, ← tcells_set T p i hi]
  congr 2
  simp

theorem assign_store {wr : World} {b2 b3 bn : Nat} {T : List (Nat × Nat)} {x y : Value} (ht : TabRow wr b2 T) (hn : wr.heap[b3]? = some (.cells #[x, y] 90 (0, 0))) (hne : b2 ≠ b3) (hb : bn < T.length) (p : Nat × Nat) :
    TabRow ((((wr.setCell ⟨b3, 0, none⟩ (.int .u64 (p.1 : Nat))).setCell ⟨b3, 1, none⟩ (.int .i64 (p.2 : Nat))).setCell ⟨b2, bn * 2, none⟩ (.int .u64 (p.1 : Nat))).setCell ⟨b2, bn * 2 + 1, none⟩ (.int .i64 (p.2 : Nat))) b2 (T.set bn p) ∧
    ((((wr.setCell ⟨b3, 0, none⟩ (.int .u64 (p.1 : Nat))).setCell ⟨b3, 1, none⟩ (.int .i64 (p.2 : Nat))).setCell ⟨b2, bn * 2, none⟩ (.int .u64 (p.1 : Nat))).setCell ⟨b2, bn * 2 + 1, none⟩ (.int .i64 (p.2 : Nat))).heap[b3]? = some (.cells #[.int .u64 (p.1 : Nat), .int .i64 (p.2 : Nat)] 90 (0, 0)) ∧
    Kept (fun j => j = b2 ∨ j = b3) wr ((((wr.setCell ⟨b3, 0, none⟩ (.int .u64 (p.1 : Nat))).setCell ⟨b3, 1, none⟩ (.int .i64 (p.2 : Nat))).setCell ⟨b2, bn * 2, none⟩ (.int .u64 (p.1 : Nat))).setCell ⟨b2, bn * 2 + 1, none⟩ (.int .i64 (p.2 : Nat))) := by
  have h1 := heap_setCell_same _ b3 1 _ _ (.int .i64 (p.2 : Nat)) (heap_setCell_same wr b3 0 _ _ (.int .u64 (p.1 : Nat)) hn)
  have h2 : TabRow ((wr.setCell ⟨b3, 0, none⟩ (.int .u64 (p.1 : Nat))).setCell ⟨b3, 1, none⟩ (.int .i64 (p.2 : Nat))) b2 T := by
    unfold TabRow
    rw [Below.heap_setCell _ _ _ _ hne, Below.heap_setCell _ _ _ _ hne]; exact ht
  refine ⟨h2.set bn hb p, ?_, ?_⟩
  · rw [Below.heap_setCell _ _ _ _ (fun e => hne e.symm), Below.heap_setCell _ _ _ _ (fun e => hne e.symm)]; exact h1
  · exact ((((Kept.refl (fun j => j = b2 ∨ j = b3) wr).setCell (p := ⟨b3, 0, none⟩) (.inr (.inr rfl)) _).setCell (p := ⟨b3, 1, none⟩) (.inr (.inr rfl)) _).setCell (p := ⟨b2, bn * 2, none⟩) (.inr (.inl rfl)) _).setCell (p := ⟨b2, bn * 2 + 1, none⟩) (.inr (.inl rfl)) _

set_option maxHeartbeats 4000000 in
set_option maxRecDepth 100000 in
theorem assign_any (L : List Nat) (w : World) (hL : L.length = 256) (hx : ∀ x ∈ L, x ≤ 255) (hF : Hm.Fits L (Hm.orderOf L)) :
    Calls Tryz.prog 149 #[.agg (icells L).toArray] w fun e w' => e = .returned (.agg (tcells (Hm.tabOf L)).toArray) ∧ Kept (fun _ => False) w w' := by
  have hasz : (icells L).toArray.size = 256 := by rw [icells_size, hL]
  have HT0 : Aside (Tryz.zeroCells92 = (tcells (Hm.tabTo L (Hm.orderOf L) 256 0)).toArray) := by show _ = _; rw [zero_tab, Hm.tabTo, tcells_zero]
  have hor := fun W => order_any L W hL hx
  have hcell : ∀ W : World, W.heap[w.heap.size]? = some (.cells (icells L).toArray 139 (0, 0)) → ∀ b : UInt8, W.cell? ⟨w.heap.size, b.toNat, none⟩ = some (.int .i64 (Hm.lnB L b : Nat)) := by
    intro W hW b
    have hb := b.toNat_lt
    rw [cell_of_row _ _ _ _ _ _ hW]
    simp [icells, Hm.lnB, List.getD_eq_getElem?_getD, List.getElem?_eq_getElem (show b.toNat < L.length from by omega)]
  have hol : (Hm.orderOf L).length ≤ 256 := by
    have hxb : ∀ b : UInt8, Hm.lnB L b ≤ 255 := fun b => by
      have hb := b.toNat_lt
      rw [Hm.lnB, List.getD_eq_getElem?_getD, List.getElem?_eq_getElem (show b.toNat < L.length from by omega)]; exact hx _ (List.getElem_mem _)
    rw [Hm.orderOf_length L hxb]; exact Hm.codedTo_le L 256
  have HCELL : Aside _ := hcell
  have HF : Aside _ := hF
  have HR : Hid (Hm.tabOf L = Hm.tabTo L (Hm.orderOf L) 256 (Hm.orderOf L).length) := rfl
  rw [HR.out]
  have hbox0 : (((((w.alloc (.cells (icells L).toArray 139)).alloc (.cells Tryz.zeroCells92 92)).alloc (.cells Tryz.zeroCells92 92))).alloc (.cells #[.int .u64 0, .int .i64 0] 90)).heap[w.heap.size]? = some (.cells (icells L).toArray 139 (0, 0)) :=
    ((((Kept.refl (fun _ => False) (w.alloc (.cells (icells L).toArray 139))).alloc _).alloc _).alloc _).row (heap_alloc_new w _) id
  have hres0 : (((((w.alloc (.cells (icells L).toArray 139)).alloc (.cells Tryz.zeroCells92 92)).alloc (.cells Tryz.zeroCells92 92))).alloc (.cells #[.int .u64 0, .int .i64 0] 90)).heap[w.heap.size + 1]? = some (.cells Tryz.zeroCells92 92 (0, 0)) :=
    (((Kept.refl (fun _ => False) ((w.alloc (.cells (icells L).toArray 139)).alloc (.cells Tryz.zeroCells92 92))).alloc _).alloc _).row (heap_alloc2_new w _ _) id
  have htab0 : (((((w.alloc (.cells (icells L).toArray 139)).alloc (.cells Tryz.zeroCells92 92)).alloc (.cells Tryz.zeroCells92 92))).alloc (.cells #[.int .u64 0, .int .i64 0] 90)).heap[w.heap.size + 1 + 1]? = some (.cells Tryz.zeroCells92 92 (0, 0)) := by
    have := ((Kept.refl (fun _ => False) (((w.alloc (.cells (icells L).toArray 139)).alloc (.cells Tryz.zeroCells92 92)).alloc (.cells Tryz.zeroCells92 92))).alloc (.cells #[.int .u64 0, .int .i64 0] 90)).row (heap_alloc_new _ _) id
    simpa using this
  have hnx0 : (((((w.alloc (.cells (icells L).toArray 139)).alloc (.cells Tryz.zeroCells92 92)).alloc (.cells Tryz.zeroCells92 92))).alloc (.cells #[.int .u64 0, .int .i64 0] 90)).heap[w.heap.size + 1 + 1 + 1]? = some (.cells #[.int .u64 0, .int .i64 0] 90 (0, 0)) := by
    have := heap_alloc_new (((w.alloc (.cells (icells L).toArray 139)).alloc (.cells Tryz.zeroCells92 92)).alloc (.cells Tryz.zeroCells92 92)) (.cells #[.int .u64 0, .int .i64 0] 90)
    simpa using this
  have hk0 : Kept (fun _ => False) w (((((w.alloc (.cells (icells L).toArray 139)).alloc (.cells Tryz.zeroCells92 92)).alloc (.cells Tryz.zeroCells92 92))).alloc (.cells #[.int .u64 0, .int .i64 0] 90)) := ((((Kept.refl _ _).alloc _).alloc _).alloc _).alloc _
  clear hcell hF
  generalize (icells L).toArray = arr at *
  go_enter Tryz.func149, Tryz.ntmps149
  go_upto_region 3 with fail
  generalize ((((w.alloc (.cells arr 139)).alloc (.cells Tryz.zeroCells92 92)).alloc (.cells Tryz.zeroCells92 92))).alloc (.cells #[.int .u64 0, .int .i64 0] 90) = W at *
  obtain ⟨b3, hb3⟩ : ∃ b, b = w.heap.size + 1 + 1 + 1 := ⟨_, rfl⟩
  rw [← hb3] at hnx0 ⊢
  obtain ⟨b2, hb2⟩ : ∃ b, b = w.heap.size + 1 + 1 := ⟨_, rfl⟩
  rw [← hb2] at htab0 ⊢
  obtain ⟨b1, hb1⟩ : ∃ b, b = w.heap.size + 1 := ⟨_, rfl⟩
  rw [← hb1] at hres0 ⊢
  have n1 : w.heap.size ≠ b3 := by omega
  have n2 : w.heap.size ≠ b2 := by omega
  have n3 : b1 ≠ b2 := by omega
  have n4 : b1 ≠ b3 := by omega
  have n5 : b2 ≠ b3 := by omega
  have HB : Aside (b1 = w.heap.size + 1 ∧ b2 = w.heap.size + 1 + 1 ∧ b3 = w.heap.size + 1 + 1 + 1) := ⟨hb1, hb2, hb3⟩
  have hWs : b3 < W.heap.size := lt_of_block hnx0
  have hor1 := hor W
  clear hb1 hb2 hb3
  go_wp2_with (first
    | (refine wpList_load_row rfl 139 _ rfl w.heap.size rfl 139 arr (0, 0) _ hbox0 Tryz.underlying139 rfl (by rw [hasz]; exact info_len) ?_))
  refine hor1.mono ?_
  rintro e w2 ⟨v, rfl, ho, hk2⟩
  have hbox := hk2.row hbox0 id
  have hres := hk2.row hres0 id
  have htab := hk2.row htab0 id
  have hnx := hk2.row hnx0 id
  have hkw2 := hk0.trans hk2 (fun _ _ h => h)
  rw [HT0.out] at htab
  have hvg : ∀ k, v.ownBlock = some k → b3 < k := fun k hk => by have := ho.lt k hk; omega
  obtain ⟨ao, cp, hv, _⟩ := slice_shape ho
  subst hv
  have HX : Aside (w2.ownsRow W.heap.size 5 1 (.slice ao (Hm.orderOf L).length cp) (Hm.orderOf L).length (Hm.bcells (Hm.orderOf L)) ∧ w2.heap[w.heap.size]? = some (.cells arr 139 (0, 0)) ∧ w2.heap[b1]? = some (.cells Tryz.zeroCells92 92 (0, 0)) ∧ TabRow w2 b2 (Hm.tabTo L (Hm.orderOf L) 256 0) ∧ w2.heap[b3]? = some (.cells #[.int .u64 0, .int .i64 0] 90 (0, 0)) ∧ Kept (fun _ => False) w w2 ∧ ∀ k, (Value.slice ao (Hm.orderOf L).length cp).ownBlock = some k → b3 < k) := ⟨ho, hbox, hres, htab, hnx, hkw2, hvg⟩
  have hs2 : b3 < w2.heap.size := lt_of_block hnx
  clear hor hor1 ho hbox hres htab hnx hkw2 hvg hbox0 hres0 htab0 hnx0 hk0 hk2 HT0
  generalize hO : Hm.orderOf L = o at *
  go_wp2_with fail
  go_loopw [11] (fun i wr => ∃ k : Nat, k ≤ o.length ∧ i = .int .i64 k ∧ TabRow wr b2 (Hm.tabTo L o 256 k) ∧ wr.heap[b3]? = some (.cells #[.int .u64 ((Hm.codeTo L o k).1 : Nat), .int .i64 ((Hm.codeTo L o k).2 : Nat)] 90 (0, 0)) ∧ Kept (fun j => j = b2 ∨ j = b3) w2 wr) (fun i _ => o.length - (intOf i).toNat)
  case atStart => exact ⟨0, Nat.zero_le _, rfl, HX.out.2.2.2.1, HX.out.2.2.2.2.1, Kept.refl _ _⟩
  case round =>
    obtain ⟨k, hk, rfl, htb, hnx, hkr⟩ := hrel
    by_cases hlt : k < o.length
    · obtain ⟨b, hbd⟩ : ∃ b, b = o.getD k 0 := ⟨_, rfl⟩
      have hor := hkr.owns HX.out.1 (fun j hj e => by have := HX.out.2.2.2.2.2.2 j hj; have := HB.out; rcases e with e | e <;> omega)
      have hbx := hkr.row HX.out.2.1 (fun e => by rcases e with e | e <;> omega)
      obtain ⟨g, cap, hv, _, hgw⟩ := owns_some hor (by omega)
      simp only [Value.slice.injEq] at hv
      obtain ⟨hao, _, hcp⟩ := hv
      subst hao
      subst hcp
      have hcb : wr.cell? ⟨g, k, none⟩ = some (.int .u8 (b.toNat : Nat)) := by
        rw [hor.cellAt k (by omega), hbd]
        simp [Hm.bcells, hlt]
      have hcl := HCELL.out wr hbx b
      have hl17 := HF.out.short b (by rw [hbd]; exact Hm.getD_mem hlt)
      have hstep := HF.out.step_le k hlt
      have hnum := HF.out.num_le k hk
      have hnum2 := HF.out.num_le (k + 1) hlt
      have e1 : Hm.codeTo L o (k + 1) = (((Hm.codeTo L o k).1 + if k = 0 then 0 else 1) * 2 ^ (Hm.lnB L b - (Hm.codeTo L o k).2), Hm.lnB L b) := by rw [hbd]; rfl
      have e2 : Hm.tabTo L o 256 (k + 1) = (Hm.tabTo L o 256 k).set b.toNat (Hm.codeTo L o (k + 1)) := by rw [hbd]; rfl
      rw [← hbd] at hstep
      have hbn := b.toNat_lt
      have hT := Hm.tabTo_length L o 256 k
      have htg := tcells_get (Hm.tabTo L o 256 k) b.toNat (by omega)
      have c0 : wr.cell? ⟨b3, 0, none⟩ = some (.int .u64 ((Hm.codeTo L o k).1 : Nat)) := cell_of_row _ _ 0 _ _ _ hnx
      have c1 : wr.cell? ⟨b3, 1, none⟩ = some (.int .i64 ((Hm.codeTo L o k).2 : Nat)) := cell_of_row _ _ 1 _ _ _ hnx
      have f0 : wr.frozen? ⟨b3, 0, none⟩ = false := frozen_of_row _ _ 0 _ _ hnx
      have f1 : wr.frozen? ⟨b3, 1, none⟩ = false := frozen_of_row _ _ 1 _ _ hnx
      obtain ⟨x0, t0⟩ : ∃ x, wr.cell? ⟨b2, b.toNat * 2, none⟩ = some x := ⟨_, (cell_of_row _ _ _ _ _ _ htb).trans (by rw [List.getElem?_toArray]; exact htg.1)⟩
      obtain ⟨x1, t1⟩ : ∃ x, wr.cell? ⟨b2, b.toNat * 2 + 1, none⟩ = some x := ⟨_, (cell_of_row _ _ _ _ _ _ htb).trans (by rw [List.getElem?_toArray]; exact htg.2)⟩
      have g0 : wr.frozen? ⟨b2, b.toNat * 2, none⟩ = false := frozen_of_row _ _ _ _ _ htb
      have g1 : wr.frozen? ⟨b2, b.toNat * 2 + 1, none⟩ = false := frozen_of_row _ _ _ _ _ htb
      obtain ⟨lg, hlg⟩ : ∃ lg, Hm.lnB L b = (Hm.codeTo L o k).2 + lg := ⟨Hm.lnB L b - (Hm.codeTo L o k).2, by omega⟩
      rw [show Hm.lnB L b - (Hm.codeTo L o k).2 = lg from by omega] at e1
      have H : Aside (TabRow wr b2 (Hm.tabTo L o 256 k) ∧ wr.heap[b3]? = some (.cells #[.int .u64 ((Hm.codeTo L o k).1 : Nat), .int .i64 ((Hm.codeTo L o k).2 : Nat)] 90 (0, 0)) ∧ Hm.codeTo L o (k + 1) = (((Hm.codeTo L o k).1 + if k = 0 then 0 else 1) * 2 ^ lg, Hm.lnB L b) ∧ Hm.tabTo L o 256 (k + 1) = (Hm.tabTo L o 256 k).set b.toNat (Hm.codeTo L o (k + 1)) ∧ (Hm.tabTo L o 256 k).length = 256 ∧ b.toNat < 256) := ⟨htb, hnx, e1, e2, hT, hbn⟩
      rw [e1] at hnum2
      clear hor hbx htb hnx e1 e2 hT htg hbd
      obtain ⟨c, hc⟩ : ∃ c, c = (Hm.codeTo L o k).1 := ⟨_, rfl⟩
      obtain ⟨l0, hl0⟩ : ∃ c, c = (Hm.codeTo L o k).2 := ⟨_, rfl⟩
      obtain ⟨l, hl⟩ : ∃ c, c = Hm.lnB L b := ⟨_, rfl⟩
      obtain ⟨bn, hbe⟩ : ∃ c, c = b.toNat := ⟨_, rfl⟩
      have HE : Aside (c = (Hm.codeTo L o k).1 ∧ l0 = (Hm.codeTo L o k).2 ∧ l = Hm.lnB L b ∧ bn = b.toNat) := ⟨hc, hl0, hl, hbe⟩
      rw [← hc, ← hl0] at hnum
      rw [← hc] at c0 hnum2
      rw [← hl0] at c1 hstep hlg
      rw [← hl] at hcl hl17 hstep hlg
      rw [← hbe] at hcb hcl t0 t1 g0 g1 hbn
      clear hc hl0 hl hbe
      have zl : (l : Int) - (l0 : Int) = (lg : Int) := by omega
      have hbI : (bn : Int) < 256 := by omega
      have hkI : decide ((k : Int) < (o.length : Int)) = true := decide_eq_true (by omega)
      have hgl : lg ≤ 64 := by omega
      have m1 : g ≠ b3 := by have := HX.out.2.2.2.2.2.2 g rfl; omega
      have m2 : g ≠ b2 := by have := HX.out.2.2.2.2.2.2 g rfl; have := HB.out; omega
      by_cases hk0 : k = 0
      · subst hk0
        rw [if_pos rfl, Nat.add_zero] at hnum2
        obtain ⟨c2, hc2⟩ : ∃ c2, c2 = c * 2 ^ lg := ⟨_, rfl⟩
        rw [← hc2] at hnum2
        have zs : IntKind.u64.wrap ((c : Int) * 2 ^ lg) = (c2 : Int) := by
          have e : (c : Int) * 2 ^ lg = (c2 : Int) := by rw [hc2]; simp
          rw [e, IntKind.wrap_u64]; have := hnum2.1; omega
        have HN : Aside (Hm.codeTo L o (0 + 1) = (c2, l)) := by
          obtain ⟨q1, q2, q3, q4⟩ := HE.out
          show _ = _
          rw [H.out.2.2.1, if_pos rfl, Nat.add_zero, ← q1, ← q3, hc2]
        have HS := assign_store H.out.1 H.out.2.1 n5 (bn := bn) (by rw [H.out.2.2.2.2.1]; exact hbn) (c2, l)
        have HS2 : Aside _ := HS
        have hst : Aside (Hm.tabTo L o 256 (0 + 1) = (Hm.tabTo L o 256 0).set bn (c2, l)) := by
          show _ = _
          rw [H.out.2.2.2.1, HN.out, HE.out.2.2.2]
        clear hlg hc2 HS H HE hnum hnum2 hstep
        go_wp2_with fail
        go_region
        go_wp2_with fail
        go_region
        go_wp2
        go_roundw
        case rel =>
          obtain ⟨s1, s2, s3⟩ := HS2.out
          refine ⟨0 + 1, by omega, by go_num, ?_, ?_, ?_⟩
          · rw [hst.out]; exact s1
          · rw [HN.out]; exact s2
          · exact (hkr.trans s3 (fun _ _ h => h)).drew.drew
        case measure => simp [intOf]; omega
      · have hkd : decide ((k : Int) > 0) = true := decide_eq_true (by omega)
        have hkd2 : decide (0 < k) = true := decide_eq_true (by omega)
        rw [if_neg hk0] at hnum2
        obtain ⟨c2, hc2⟩ : ∃ c2, c2 = (c + 1) * 2 ^ lg := ⟨_, rfl⟩
        rw [← hc2] at hnum2
        have zs : IntKind.u64.wrap (((c : Int) + 1) * 2 ^ lg) = (c2 : Int) := by
          have e : ((c : Int) + 1) * 2 ^ lg = (c2 : Int) := by rw [hc2]; simp
          rw [e, IntKind.wrap_u64]; have := hnum2.1; omega
        have HN : Aside (Hm.codeTo L o (k + 1) = (c2, l)) := by
          obtain ⟨q1, q2, q3, q4⟩ := HE.out
          show _ = _
          rw [H.out.2.2.1, if_neg hk0, ← q1, ← q3, hc2]
        have htb2 : TabRow (wr.setCell ⟨b3, 0, none⟩ (.int .u64 ((c : Int) + 1))) b2 (Hm.tabTo L o 256 k) := by
          unfold TabRow
          rw [Below.heap_setCell _ _ _ _ n5]; exact H.out.1
        have hnx2 := heap_setCell_same wr b3 0 _ _ (.int .u64 ((c : Int) + 1)) H.out.2.1
        have HS := assign_store htb2 hnx2 n5 (bn := bn) (by rw [H.out.2.2.2.2.1]; exact hbn) (c2, l)
        have HS2 : Aside _ := HS
        have hst : Aside (Hm.tabTo L o 256 (k + 1) = (Hm.tabTo L o 256 k).set bn (c2, l)) := by
          show _ = _
          rw [H.out.2.2.2.1, HN.out, HE.out.2.2.2]
        have hc131 : (c : Int) < 4294967296 := by have := hnum.1; omega
        clear hlg hc2 HS H HE hnum hnum2 hstep htb2 hnx2
        go_wp2_with fail
        go_region
        go_wp2_with fail
        go_region
        go_wp2
        go_roundw
        case rel =>
          obtain ⟨s1, s2, s3⟩ := HS2.out
          refine ⟨k + 1, by omega, by go_num, ?_, ?_, ?_⟩
          · rw [hst.out]; exact s1
          · rw [HN.out]; exact s2
          · exact ((hkr.setCell (p := ⟨b3, 0, none⟩) (.inr (.inr rfl)) _).trans s3 (fun _ _ h => h)).drew.drew
        case measure => simp [intOf]; omega
    · obtain rfl : k = o.length := by omega
      have hkI : decide ((o.length : Int) < (o.length : Int)) = false := decide_eq_false (by omega)
      have hts : (tcells (Hm.tabTo L o 256 o.length)).toArray.size = 512 := by rw [List.size_toArray, tcells_length, Hm.tabTo_length]
      have hres := hkr.row HX.out.2.2.1 (fun e => by have := HB.out; rcases e with e | e <;> omega)
      have hkw := HX.out.2.2.2.2.2.1.trans hkr (fun j h1 h2 => by have := HB.out; rcases h2 with h2 | h2 <;> omega)
      have hta := tcells_one (Hm.tabTo L o 256 o.length)
      have HZ : Aside (wr.heap[b1]? = some (.cells Tryz.zeroCells92 92 (0, 0)) ∧ Kept (fun _ => False) w wr ∧ wr.heap[b2]? = some (.cells (tcells (Hm.tabTo L o 256 o.length)).toArray 92 (0, 0)) ∧ (tcells (Hm.tabTo L o 256 o.length)).toArray.size = 512 ∧ (tcells (Hm.tabTo L o 256 o.length)).toArray.all (·.oneCell') = true) := ⟨hres, hkw, htb, hts, hta⟩
      clear hres hkw htb hts hta hnx hkr HX HF HCELL
      have hb1w : w.heap.size ≤ b1 := by have := HB.out; omega
      obtain ⟨TT, hTT⟩ : ∃ TT, TT = (tcells (Hm.tabTo L o 256 o.length)).toArray := ⟨_, rfl⟩
      rw [← hTT] at HZ
      have HTT : Aside (TT = (tcells (Hm.tabTo L o 256 o.length)).toArray) := hTT
      clear hTT
      go_wp2_with (first
        | (refine wpList_load_row rfl 92 _ rfl b2 rfl 92 TT (0, 0) _ HZ.out.2.2.1 Tryz.underlying92 rfl (by rw [HZ.out.2.2.2.1]; exact info_tab) ?_)
        | (refine wpList_store_row _ rfl 92 _ _ rfl b1 92 Tryz.zeroCells92 TT rfl rfl HZ.out.1 (by rw [HZ.out.2.2.2.1]; exact info_tab) (by rw [HZ.out.2.2.2.1]; exact zero_tab_size) HZ.out.2.2.2.2 ?_; intro w5 hw5 hk5))
      refine bodyPost_ret (v := .agg TT) (results_cell_row Tryz.results149 _ w5 b1 92 _ (0, 0) _ rfl hw5 Tryz.underlying92 rfl (by rw [HZ.out.2.2.2.1]; exact info_tab)) rfl ⟨by rw [HTT.out, hO], ?_⟩
      exact HZ.out.2.1.trans hk5 (fun j h1 h2 => by omega)

end Go.Proofs.YtegnkfdbmmndaaaGreat
end

/- Share -/
section
/- The tree in memory; a branch is given so many bytes. -/
namespace Go.Proofs.YtegnkfdbmmndaaaGreat
open Go.RowKit

def treeCells (s : ByteArray) (len g : Nat) (T : List (Nat × Nat)) (v : Value) (ws : List Nat) (total : Nat) : List Value :=
  [.string s, .int .i64 (len : Nat), .slice (some ⟨g, 0, none⟩) (s.size + 1) (s.size + 1)] ++ (tcells T ++ (v :: (icells ws ++ [.int .i64 (total : Nat)])))
theorem treeCells_tab (s : ByteArray) (len g : Nat) (T : List (Nat × Nat)) (v : Value) (ws : List Nat) (total i : Nat) (h : i < T.length * 2) : (treeCells s len g T v ws total)[3 + i]? = (tcells T)[i]? := by
  unfold treeCells
  rw [List.getElem?_append_right (by simp), show 3 + i - [Value.string s, .int .i64 (len : Nat), .slice (some ⟨g, 0, none⟩) (s.size + 1) (s.size + 1)].length = i from by simp, List.getElem?_append_left (by rw [tcells_length]; exact h)]
theorem treeCells_nodes (s : ByteArray) (len g : Nat) (T : List (Nat × Nat)) (v : Value) (ws : List Nat) (total : Nat) (h : T.length = 256) : (treeCells s len g T v ws total)[515]? = some v := by
  unfold treeCells
  rw [List.getElem?_append_right (by simp), List.getElem?_append_right (by rw [tcells_length, h]; simp), tcells_length, h]
  rw [show 515 - [Value.string s, .int .i64 (len : Nat), .slice (some ⟨g, 0, none⟩) (s.size + 1) (s.size + 1)].length - 256 * 2 = 0 from by simp, List.getElem?_cons_zero]
theorem treeCells_ws (s : ByteArray) (len g : Nat) (T : List (Nat × Nat)) (v : Value) (ws : List Nat) (total i : Nat) (h : T.length = 256) (hi : i < ws.length) : (treeCells s len g T v ws total)[516 + i]? = some (.int .i64 (ws.getD i 0 : Nat)) := by
  unfold treeCells
  rw [List.getElem?_append_right (by simp; omega), List.getElem?_append_right (by rw [tcells_length, h]; simp; omega), tcells_length, h]
  rw [show 516 + i - [Value.string s, .int .i64 (len : Nat), .slice (some ⟨g, 0, none⟩) (s.size + 1) (s.size + 1)].length - 256 * 2 = i + 1 from by simp; omega, List.getElem?_cons_succ, List.getElem?_append_left (by simp [icells]; exact hi)]
  simp [icells, List.getElem?_map, List.getD_eq_getElem?_getD, List.getElem?_eq_getElem hi]
theorem treeCells_total (s : ByteArray) (len g : Nat) (T : List (Nat × Nat)) (v : Value) (ws : List Nat) (total : Nat) (h : T.length = 256) (hw : ws.length = 256) : (treeCells s len g T v ws total)[772]? = some (.int .i64 (total : Nat)) := by
  unfold treeCells
  rw [List.getElem?_append_right (by simp), List.getElem?_append_right (by rw [tcells_length, h]; simp), tcells_length, h]
  rw [show 772 - [Value.string s, .int .i64 (len : Nat), .slice (some ⟨g, 0, none⟩) (s.size + 1) (s.size + 1)].length - 256 * 2 = 256 + 1 from by simp, List.getElem?_cons_succ, List.getElem?_append_right (by simp [icells, hw])]
  simp [icells, hw]
theorem treeCells_setWs (s : ByteArray) (len g : Nat) (T : List (Nat × Nat)) (v : Value) (ws : List Nat) (total i x : Nat) (h : T.length = 256) (hi : i < ws.length) : (treeCells s len g T v ws total).set (516 + i) (.int .i64 (x : Nat)) = treeCells s len g T v (ws.set i x) total := by
  unfold treeCells
  rw [List.set_append_right _ _ (by simp; omega), List.set_append_right _ _ (by rw [tcells_length, h]; simp; omega), tcells_length, h]
  rw [show 516 + i - [Value.string s, .int .i64 (len : Nat), .slice (some ⟨g, 0, none⟩) (s.size + 1) (s.size + 1)].length - 256 * 2 = i + 1 from by simp; omega, List.set_cons_succ, List.set_append_left _ _ (by simp [icells]; exact hi)]
  congr 4
  simp [icells, List.map_set]
theorem treeCells_length (s : ByteArray) (len g : Nat) (T : List (Nat × Nat)) (v : Value) (ws : List Nat) (total : Nat) (h : T.length = 256) (hw : ws.length = 256) : (treeCells s len g T v ws total).length = 773 := by
  unfold treeCells
  simp [tcells_length, h, icells, hw]

/-- A tree in block tb. -/
structure TreeAt (w : World) (tb : Nat) (s : ByteArray) (len g : Nat) (T : List (Nat × Nat)) (v : Value) (nds : List Hm.Nd) (ws : List Nat) (total : Nat) : Prop where
  blk : w.heap[tb]? = some (.cells (treeCells s len g T v ws total).toArray 96 (0, 0))
  row : IntRow w g (Hm.counts s.data.toList)
  nod : w.ownsRow 0 195 9 v nds.length (ncells nds)
  tl : T.length = 256
  wl : ws.length = 256
  n1 : v.ownBlock ≠ some tb
  n2 : g ≠ tb
  n3 : v.ownBlock ≠ some g

section
variable {w w' : World} {tb len g total : Nat} {s : ByteArray} {T : List (Nat × Nat)} {v : Value} {nds : List Hm.Nd} {ws : List Nat} {S : Nat → Prop}
theorem TreeAt.kept (h : TreeAt w tb s len g T v nds ws total) (hk : Kept S w w') (h1 : ¬ S tb) (h2 : ¬ S g) (h3 : ∀ j, v.ownBlock = some j → ¬ S j) : TreeAt w' tb s len g T v nds ws total :=
  ⟨hk.row h.blk h1, h.row.kept hk h2, hk.owns h.nod h3, h.tl, h.wl, h.n1, h.n2, h.n3⟩
theorem TreeAt.drew (h : TreeAt w tb s len g T v nds ws total) : TreeAt w.drew tb s len g T v nds ws total := ⟨h.blk, h.row, h.nod, h.tl, h.wl, h.n1, h.n2, h.n3⟩
theorem TreeAt.drewN (h : TreeAt w tb s len g T v nds ws total) (k : Nat) : TreeAt (w.drewN k) tb s len g T v nds ws total := ⟨h.blk, h.row, h.nod, h.tl, h.wl, h.n1, h.n2, h.n3⟩
theorem TreeAt.cellAt (h : TreeAt w tb s len g T v nds ws total) (i : Nat) : w.cell? ⟨tb, i, none⟩ = (treeCells s len g T v ws total)[i]? := by
  rw [cell_of_row _ _ i _ _ _ h.blk, List.getElem?_toArray]
theorem TreeAt.counted (h : TreeAt w tb s len g T v nds ws total) : CountedAt w tb 0 s len g := ⟨h.cellAt 0, h.cellAt 1, h.cellAt 2, h.row⟩
theorem TreeAt.nodes (h : TreeAt w tb s len g T v nds ws total) : w.cell? ⟨tb, 515, none⟩ = some v := (h.cellAt 515).trans (treeCells_nodes s len g T v ws total h.tl)
theorem TreeAt.tot (h : TreeAt w tb s len g T v nds ws total) : w.cell? ⟨tb, 772, none⟩ = some (.int .i64 (total : Nat)) := (h.cellAt 772).trans (treeCells_total s len g T v ws total h.tl h.wl)
theorem TreeAt.weight (h : TreeAt w tb s len g T v nds ws total) (i : Nat) (hi : i < 256) : w.cell? ⟨tb, 516 + i, none⟩ = some (.int .i64 (ws.getD i 0 : Nat)) := (h.cellAt (516 + i)).trans (treeCells_ws s len g T v ws total i h.tl (by rw [h.wl]; exact hi))
theorem TreeAt.free (h : TreeAt w tb s len g T v nds ws total) (i : Nat) : w.frozen? ⟨tb, i, none⟩ = false := frozen_of_row _ _ i _ _ h.blk
theorem TreeAt.lt (h : TreeAt w tb s len g T v nds ws total) : tb < w.heap.size := lt_of_block h.blk
/-- A weight is set. -/
theorem TreeAt.setW (h : TreeAt w tb s len g T v nds ws total) (i x : Nat) (hi : i < 256) : TreeAt (w.setCell ⟨tb, 516 + i, none⟩ (.int .i64 (x : Nat))) tb s len g T v nds (ws.set i x) total := by
  have hk : Kept (fun j => j = tb) w (w.setCell ⟨tb, 516 + i, none⟩ (.int .i64 (x : Nat))) := (Kept.refl (fun j => j = tb) w).setCell (p := ⟨tb, 516 + i, none⟩) (.inr rfl) _
  refine ⟨?_, h.row.kept hk h.n2, hk.owns h.nod (fun j hj e => h.n1 (by rw [hj, e])), h.tl, by rw [List.length_set]; exact h.wl, h.n1, h.n2, h.n3⟩
  have := heap_setCell_same w tb (516 + i) _ _ (.int .i64 (x : Nat)) h.blk
  rw [this, ← treeCells_setWs s len g T v ws total i x h.tl (by rw [h.wl]; exact hi)]
  simp
/-- A cell of a node is set. -/
theorem TreeAt.setN (h : TreeAt w tb s len g T v nds ws total) {ng cap n : Nat} (hv : v = .slice (some ⟨ng, 0, none⟩) n cap) (i : Nat) (x : Value) {nds' : List Hm.Nd} (hl : nds'.length = nds.length) (he : (ncells nds).set i x = ncells nds') : TreeAt (w.setCell ⟨ng, i, none⟩ x) tb s len g T v nds' ws total := by
  subst hv
  have hk : Kept (fun j => j = ng) w (w.setCell ⟨ng, i, none⟩ x) := (Kept.refl (fun j => j = ng) w).setCell (p := ⟨ng, i, none⟩) (.inr rfl) _
  have hno := h.nod
  obtain ⟨a, c, e, _⟩ := slice_shape hno
  simp only [Value.slice.injEq] at e
  obtain ⟨-, e, -⟩ := e
  subst e
  have e1 : tb ≠ ng := fun e => h.n1 (by rw [e]; rfl)
  have e2 : g ≠ ng := fun e => h.n3 (by rw [e]; rfl)
  refine ⟨hk.row h.blk e1, h.row.kept hk e2, ?_, h.tl, h.wl, h.n1, h.n2, h.n3⟩
  rw [hl, ← he]
  exact (hno.stored i x).1
end

/-- What share turns. -/
abbrev Tk (tb : Nat) (v : Value) : Nat → Prop := fun j => j = tb ∨ v.ownBlock = some j

set_option maxHeartbeats 400000 in
theorem share_any (tb g len total size l n cap ng : Nat) (s : ByteArray) (T : List (Nat × Nat)) (nds : List Hm.Nd) (ws : List Nat) (b : Hm.Br) (w : World) (h : TreeAt w tb s len g T (.slice (some ⟨ng, 0, none⟩) n cap) nds ws total) (hn : n = nds.length) (_hnl : n ≤ 255) (hb : b.node < n) (hz : size ≤ 100000) :
    Calls Tryz.prog 183 #[.pointer (some ⟨tb, 0, none⟩), .agg (brCells b).toArray, .int .i64 size] w fun e w' =>
      e = .returned (.bool (Hm.shareM b size ⟨l, nds, ws⟩).isSome) ∧ TreeAt w' tb s len g T (.slice (some ⟨ng, 0, none⟩) n cap) ((Hm.shareM b size ⟨l, nds, ws⟩).getD ⟨l, nds, ws⟩).nds ((Hm.shareM b size ⟨l, nds, ws⟩).getD ⟨l, nds, ws⟩).ws total ∧ Kept (Tk tb (.slice (some ⟨ng, 0, none⟩) n cap)) w w' := by
  have hk0 : Kept (fun _ => False) w (w.alloc (.cells (brCells b).toArray 192)) := (Kept.refl _ _).alloc _
  have h1 := h.kept hk0 id id (fun _ _ => id)
  have hbx := heap_alloc_new w (.cells (brCells b).toArray 192)
  have c0 : (w.alloc (.cells (brCells b).toArray 192)).cell? ⟨w.heap.size, 0, none⟩ = some (.bool b.whole) := cell_of_row _ _ 0 _ _ _ hbx
  have c1 : (w.alloc (.cells (brCells b).toArray 192)).cell? ⟨w.heap.size, 1, none⟩ = some (.int .u8 (b.val.toNat : Nat)) := cell_of_row _ _ 1 _ _ _ hbx
  have c2 : (w.alloc (.cells (brCells b).toArray 192)).cell? ⟨w.heap.size, 2, none⟩ = some (.int .i64 (b.node : Nat)) := cell_of_row _ _ 2 _ _ _ hbx
  have htw : tb < w.heap.size := h.lt
  obtain ⟨bw, bv, bn⟩ := b
  have c0' : (w.alloc (.cells #[.bool bw, .int .u8 (bv.toNat : Nat), .int .i64 (bn : Nat)] 192)).cell? ⟨w.heap.size, 0, none⟩ = some (.bool bw) := c0
  have c1' : (w.alloc (.cells #[.bool bw, .int .u8 (bv.toNat : Nat), .int .i64 (bn : Nat)] 192)).cell? ⟨w.heap.size, 1, none⟩ = some (.int .u8 (bv.toNat : Nat)) := c1
  have c2' : (w.alloc (.cells #[.bool bw, .int .u8 (bv.toNat : Nat), .int .i64 (bn : Nat)] 192)).cell? ⟨w.heap.size, 2, none⟩ = some (.int .i64 (bn : Nat)) := c2
  have hT : TreeAt (w.alloc (.cells #[.bool bw, .int .u8 (bv.toNat : Nat), .int .i64 (bn : Nat)] 192)) tb s len g T (.slice (some ⟨ng, 0, none⟩) n cap) nds ws total := h1
  have hK : Kept (Tk tb (.slice (some ⟨ng, 0, none⟩) n cap)) w (w.alloc (.cells #[.bool bw, .int .u8 (bv.toNat : Nat), .int .i64 (bn : Nat)] 192)) := hk0.wider (fun _ _ h => h.elim)
  have hbv := bv.toNat_lt
  clear hk0 h1 hbx c0 c1 c2 h
  show Calls Tryz.prog 183 #[.pointer (some ⟨tb, 0, none⟩), .agg #[.bool bw, .int .u8 (bv.toNat : Nat), .int .i64 (bn : Nat)], .int .i64 size] w _
  cases bw with
  | true =>
    have e : Hm.shareM { whole := true, val := bv, node := bn } size ⟨l, nds, ws⟩ = some ⟨l, nds, ws.set bv.toNat size⟩ := rfl
    rw [e]
    clear e
    go_enter Tryz.func183, Tryz.ntmps183
    go_wp2_with fail
    generalize w.alloc (.cells #[.bool true, .int .u8 (bv.toNat : Nat), .int .i64 (bn : Nat)] 192) = W at *
    have HF : Aside (TreeAt (W.setCell ⟨tb, 516 + bv.toNat, none⟩ (.int .i64 (size : Nat))) tb s len g T (.slice (some ⟨ng, 0, none⟩) n cap) nds (ws.set bv.toNat size) total ∧ Kept (Tk tb (.slice (some ⟨ng, 0, none⟩) n cap)) w (W.setCell ⟨tb, 516 + bv.toNat, none⟩ (.int .i64 (size : Nat)))) := ⟨hT.setW bv.toNat size (by omega), hK.setCell (.inr (.inl rfl)) _⟩
    obtain ⟨old, hold⟩ : ∃ old, W.cell? ⟨tb, 516 + bv.toNat, none⟩ = some old := ⟨_, hT.weight bv.toNat (by omega)⟩
    have hf := hT.free (516 + bv.toNat)
    have hbI : (bv.toNat : Int) < 256 := by omega
    clear hT hK hbv
    go_region
    go_wp2
    go_ret
    exact ⟨rfl, HF.out.1.drew, HF.out.2.drew⟩
  | false =>
    by_cases hn0 : 0 < bn
    · have e : Hm.shareM { whole := false, val := bv, node := bn } size ⟨l, nds, ws⟩ = some ⟨l, Hm.setSiz nds bn size, ws⟩ := by
        unfold Hm.shareM; rw [if_neg (by simp), if_pos hn0]
      rw [e]
      clear e
      have hnd : decide (0 < bn) = true := decide_eq_true hn0
      have hbl : bn < n := hb
      have HN : Aside (n = nds.length) := hn
      have hbI : (bn : Int) < (n : Int) := by omega
      clear hn hb
      go_enter Tryz.func183, Tryz.ntmps183
      go_wp2_with fail
      generalize w.alloc (.cells #[.bool false, .int .u8 (bv.toNat : Nat), .int .i64 (bn : Nat)] 192) = W at *
      have HF : Aside (TreeAt (W.setCell ⟨ng, bn * 9 + 2, none⟩ (.int .i64 (size : Nat))) tb s len g T (.slice (some ⟨ng, 0, none⟩) n cap) (Hm.setSiz nds bn size) ws total ∧ Kept (Tk tb (.slice (some ⟨ng, 0, none⟩) n cap)) w (W.setCell ⟨ng, bn * 9 + 2, none⟩ (.int .i64 (size : Nat)))) :=
        ⟨hT.setN rfl (bn * 9 + 2) _ (Hm.setSiz_length _ _ _) (ncells_siz nds bn size (by have := HN.out; omega)), hK.setCell (p := ⟨ng, bn * 9 + 2, none⟩) (.inr (.inr rfl)) _⟩
      have hno := hT.nod
      rw [← HN.out] at hno
      obtain ⟨old, hold⟩ : ∃ old, W.cell? ⟨ng, bn * 9 + 2, none⟩ = some old := ⟨_, node_siz hno HN.out (by have := HN.out; omega)⟩
      have hf := hno.frozenAt (bn * 9 + 2)
      have hnv := hT.nodes
      clear hT hK hbv hno
      go_region
      go_wp2
      go_ret
      exact ⟨rfl, HF.out.1.drew, HF.out.2.drew⟩
    · obtain rfl : bn = 0 := by omega
      clear hn
      by_cases hz0 : size = 0
      · subst hz0
        have e : Hm.shareM { whole := false, val := bv, node := 0 } 0 ⟨l, nds, ws⟩ = some ⟨l, nds, ws⟩ := rfl
        rw [e]
        clear e
        go_enter Tryz.func183, Tryz.ntmps183
        go_wp2
        go_ret
        exact ⟨rfl, hT, hK⟩
      · have e : Hm.shareM { whole := false, val := bv, node := 0 } size ⟨l, nds, ws⟩ = none := by
          unfold Hm.shareM; rw [if_neg (by simp), if_neg (by simp), if_neg hz0]
        rw [e]
        clear e
        have hzd : ((size : Int) == 0) = false := by rw [beq_eq_false_iff_ne]; omega
        clear hz0
        go_enter Tryz.func183, Tryz.ntmps183
        go_wp2
        go_ret
        exact ⟨rfl, hT, hK⟩

end Go.Proofs.YtegnkfdbmmndaaaGreat
end
