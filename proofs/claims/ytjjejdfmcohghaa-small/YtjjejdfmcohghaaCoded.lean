/- The bytes that have a code; the lengths of the codes, added to a row of bytes. -/
import Derived.Test.YtjjejdfmcohghaaMeasure
namespace Go.Proofs.Ytjjejdfmcohghaa
open Go.RowKit

namespace Hm
def codedTo (L : List Nat) (k : Nat) : List UInt8 := ((List.range k).filter fun b => decide (0 < L.getD b 0)).map UInt8.ofNat
def codedOf (L : List Nat) : List UInt8 := codedTo L 256
theorem codedTo_succ (L : List Nat) (k : Nat) : codedTo L (k + 1) = codedTo L k ++ if 0 < L.getD k 0 then [UInt8.ofNat k] else [] := by
  unfold codedTo
  rw [List.range_succ, List.filter_append, List.map_append]
  congr 1
  rw [List.filter_cons, List.filter_nil]
  by_cases e : 0 < L.getD k 0
  · rw [if_pos (by simpa using e), if_pos e]; rfl
  · rw [if_neg (by simpa using e), if_neg e]; rfl
theorem codedTo_le (L : List Nat) (k : Nat) : (codedTo L k).length ≤ k := by
  unfold codedTo
  rw [List.length_map]
  have := List.length_filter_le (fun b => decide (0 < L.getD b 0)) (List.range k)
  simpa using this
def lenBytes (L : List Nat) (l : List UInt8) : List UInt8 := l.flatMap fun b => [b, UInt8.ofNat (L.getD b.toNat 0)]
theorem lenBytes_take (L : List Nat) (l : List UInt8) (k : Nat) (h : k < l.length) : lenBytes L (l.take (k + 1)) = lenBytes L (l.take k) ++ [l[k], UInt8.ofNat (L.getD l[k].toNat 0)] := by
  rw [List.take_succ_eq_append_getElem h]; unfold lenBytes; rw [List.flatMap_append]; congr 1
theorem lenBytes_length (L : List Nat) (l : List UInt8) : (lenBytes L l).length = 2 * l.length := by
  unfold lenBytes
  induction l with
  | nil => rfl
  | cons b r ih => rw [List.flatMap_cons, List.length_append, ih]; simp; try omega
end Hm

set_option maxHeartbeats 1000000 in
theorem bytes_any (L : List Nat) (w : World) (hL : L.length = 256) (hx : ∀ x ∈ L, x ≤ 100000) :
    Calls Try.prog 35 #[.agg (icells L).toArray] w fun e w' => ∃ v, e = .returned v ∧ w'.ownsRow w.heap.size 5 1 v (Hm.codedOf L).length (Hm.bcells (Hm.codedOf L)) ∧ Kept (fun _ => False) w w' := by
  obtain ⟨i0, hi, hz0, hz1, hz2⟩ := info_parts info_u8
  have hasz : (icells L).toArray.size = 256 := by rw [icells_size, hL]
  have hix : ∀ b, (h : b < 256) → ∃ x : Nat, x ≤ 100000 ∧ L.getD b 0 = x ∧ ∀ W, (Instr.index 39 (.agg (icells L).toArray) (.int .i64 (b : Nat))).run Try.prog W = .ok (.int .i64 (x : Nat)) W := by
    intro b hb
    refine ⟨L[b], hx _ (List.getElem_mem _), by rw [List.getD_eq_getElem?_getD, List.getElem?_eq_getElem (by omega)]; rfl, fun W => ?_⟩
    exact run_index_arr 39 256 Try.underlying39 L b (by omega) hL W
  have hbox : (w.alloc (.cells (icells L).toArray 39)).heap[w.heap.size]? = some (.cells (icells L).toArray 39 (0, 0)) := heap_alloc_new w _
  generalize (icells L).toArray = arr at *
  clear hL hx
  go_enter Try.func35, Try.ntmps35
  go_wp2_with (refine wpList_load_row rfl 39 _ rfl w.heap.size rfl 39 arr (0, 0) _ hbox Try.underlying39 rfl (by rw [hasz]; exact info_len) ?_)
  clear hbox hasz
  go_loopw [3, 7] (fun u i wr => ∃ b : Nat, b ≤ 256 ∧ i = .int .i64 b ∧ wr.ownsRow w.heap.size 5 1 u (Hm.codedTo L b).length (Hm.bcells (Hm.codedTo L b)) ∧ Kept (fun _ => False) w wr) (fun _ i _ => 256 - (intOf i).toNat)
  case atStart => exact ⟨0, by omega, rfl, by simpa [Hm.codedTo, Hm.bcells] using World.ownsRow_nil _ w.heap.size 5 1, (Kept.refl _ _).alloc _⟩
  case round =>
    obtain ⟨b, hb, rfl, hor, hkr⟩ := hrel
    have hcl := Hm.codedTo_le L b
    by_cases hlt : b < 256
    · obtain ⟨x, hx, hLx, hixb⟩ := hix b hlt
      have HT : Hid (Hm.codedTo L (b + 1) = Hm.codedTo L b ++ if 0 < x then [UInt8.ofNat b] else []) := by rw [← hLx]; exact Hm.codedTo_succ L b
      have hdec : decide ((b : Int) < 256) = true := by simp; omega
      clear hix hLx
      by_cases hpos : 0 < x
      · have hdec2 : decide (0 < x) = true := by simp; omega
        have HT2 : Hid (Hm.bcells (Hm.codedTo L (b + 1)) = Hm.bcells (Hm.codedTo L b) ++ [.int .u8 (b : Nat)] ∧ (Hm.codedTo L (b + 1)).length = (Hm.codedTo L b).length + 1) := by
          constructor
          · rw [HT.out, if_pos hpos]
            unfold Hm.bcells
            rw [List.map_append, List.map_cons, List.map_nil, Hm.u8cell hlt]
          · rw [HT.out, if_pos hpos]; simp
        clear HT
        go_wp2_with (at_builtin; refine wpList_append_mv _ rfl (.tmp 13) (.tmp 16) 23 rfl w.heap.size 5 i0 (.int .u8 0) 1 1 Try.underlying23 hi hz0 hz1 hz2 rfl (by decide) _ _ _ rfl (hor.alloc _) ⟨wr.heap.size, 0, none⟩ 1 1 [.int .u8 (b : Nat)] rfl rfl ?c1 ?c2 ?c3 ?c4 ?c5 ?_)
        case c1 => exact cell_one_new _ _ _
        case c2 => intro u hu; simp at hu; subst hu; rfl
        case c3 => unfold maxLen; omega
        case c4 => omega
        case c5 => have := hkr.size; simp; omega
        intro v' w2 ho2 hg2 hm2
        have hk2 : Kept (fun _ => False) w w2 := (hkr.alloc _).grown hg2 (fun j hj => .inl (hor.lt j hj).1)
        clear hg2 hm2 hor hkr
        go_wp2
        go_roundw
        case rel => exact ⟨b + 1, by omega, by go_num, by rw [HT2.out.1, HT2.out.2]; exact ho2, hk2⟩
        case measure => simp [intOf]; omega
      · have hx0 : x = 0 := by omega
        subst hx0
        have HT2 : Hid (Hm.codedTo L (b + 1) = Hm.codedTo L b) := by
          show _ = _
          rw [HT.out, if_neg hpos, List.append_nil]
        clear HT
        go_wp2
        go_roundw
        case rel => exact ⟨b + 1, by omega, by go_num, by rw [HT2.out]; exact hor, hkr⟩
        case measure => simp [intOf]; omega
    · have hdec : decide ((b : Int) < 256) = false := by simp; omega
      obtain rfl : b = 256 := by omega
      clear hix
      go_wp2
      go_ret
      exact ⟨_, rfl, hor, hkr⟩

set_option maxHeartbeats 2000000 in
theorem addLengths_any (base : Nat) (v : Value) (n : Nat) (l : List UInt8) (L : List Nat) (w : World) (ho : w.ownsRow base 5 1 v n (Hm.bcells l)) (hb : base ≤ w.heap.size) (hL : L.length = 256) (hx : ∀ x ∈ L, x ≤ 255) (hn : n ≤ 100000) :
    Calls Try.prog 21 #[v, .agg (icells L).toArray] w fun e w' => ∃ v', e = .returned v' ∧ w'.ownsRow base 5 1 v' (n + 2 + 2 * (Hm.codedOf L).length) (Hm.bcells (l ++ Hm.leBytes (Hm.codedOf L).length 2 ++ Hm.lenBytes L (Hm.codedOf L))) ∧ Kept (fun j => v.ownBlock = some j) w w' ∧ Moved w v v' := by
  obtain ⟨i0, hi, hz0, hz1, hz2⟩ := info_parts info_u8
  have hasz : (icells L).toArray.size = 256 := by rw [icells_size, hL]
  have hcl := Hm.codedTo_le L 256
  have hv0 : ∀ j, v.ownBlock = some j → j < w.heap.size := fun j hj => (ho.lt j hj).2
  have hby := bytes_any L (w.alloc (.cells (icells L).toArray 39)) hL (fun x hxm => by have := hx x hxm; omega)
  have hbox : (w.alloc (.cells (icells L).toArray 39)).heap[w.heap.size]? = some (.cells (icells L).toArray 39 (0, 0)) := heap_alloc_new w _
  have hcell : ∀ W : World, W.heap[w.heap.size]? = some (.cells (icells L).toArray 39 (0, 0)) → ∀ b : Nat, b < 256 → W.cell? ⟨w.heap.size, b, none⟩ = some (.int .i64 (L.getD b 0 : Nat)) := by
    intro W hW b hb
    rw [cell_of_row _ _ b _ _ _ hW]
    simp [icells, List.getD_eq_getElem?_getD, List.getElem?_eq_getElem (show b < L.length from by omega)]
  have hgx : ∀ b : Nat, b < 256 → L.getD b 0 ≤ 255 := fun b hb => by
    rw [List.getD_eq_getElem?_getD, List.getElem?_eq_getElem (show b < L.length from by omega)]; exact hx _ (List.getElem_mem _)
  change (Hm.codedOf L).length ≤ 256 at hcl
  generalize hC : Hm.codedOf L = C at *
  generalize (icells L).toArray = arr at *
  clear hx hL hC
  go_enter Try.func21, Try.ntmps21
  go_wp2_with (first
    | (refine wpList_load_row rfl 39 _ rfl w.heap.size rfl 39 arr (0, 0) _ hbox Try.underlying39 rfl (by rw [hasz]; exact info_len) ?_)
    | (go_at_call 35; fail))
  refine hby.mono ?_
  rintro e w2 ⟨vc, rfl, hoc, hk2⟩
  clear hby
  have hs2 : w.heap.size + 1 ≤ w2.heap.size := by have := hk2.size; simpa using this
  have hbox2 := hk2.row hbox id
  have hvc : ∀ j, vc.ownBlock = some j → w.heap.size < j ∧ j < w2.heap.size := fun j hj => by have := hoc.lt j hj; simp at this; omega
  have ho2 : w2.ownsRow base 5 1 v n (Hm.bcells l) := (((Kept.refl (fun _ => False) w).alloc _).trans hk2 (fun _ _ h => h)).owns ho (fun _ _ h => h)
  have hkw2 : Kept (fun j => v.ownBlock = some j) w w2 := (((Kept.refl (fun _ => False) w).alloc _).trans hk2 (fun _ _ h => h)).wider (fun _ _ h => h.elim)
  obtain ⟨ac, cc, hvce, hcc⟩ := slice_shape hoc
  subst hvce
  have han := addNumber_any base v n C.length 2 l w2 ho2 (by omega) (by omega) (by omega) (by omega)
  clear hbox hk2 ho
  go_wp2_with (first | (go_at_call 17; fail))
  refine han.mono ?_
  rintro e w3 ⟨v3, rfl, ho3, hk3, hm3⟩
  clear han
  have hbox3 := hk3.row hbox2 (fun e => by have := hv0 _ e; omega)
  have hoc3 := hk3.owns hoc (fun j hj e => by have := hv0 _ e; have := hvc j hj; omega)
  go_wp2
  go_loopw [0, 16] (fun u i wr => ∃ k : Nat, k ≤ C.length ∧ i = .int .i64 k ∧ wr.ownsRow base 5 1 u (n + 2 + 2 * k) (Hm.bcells (l ++ Hm.leBytes C.length 2 ++ Hm.lenBytes L (C.take k))) ∧ Kept (fun j => v.ownBlock = some j) w2 wr ∧ Moved w2 v u) (fun _ i _ => C.length - (intOf i).toNat)
  case atStart => exact ⟨0, Nat.zero_le _, rfl, by simpa [Hm.lenBytes] using ho3, hk3, hm3⟩
  case round =>
    clear ho3 hk3 hm3 hbox3 hoc3 ho2
    obtain ⟨k, hk, rfl, hor, hkr, hmr⟩ := hrel
    have hocr := hkr.owns hoc (fun j hj e => by have := hv0 _ e; have := hvc j hj; omega)
    have hboxr := hkr.row hbox2 (fun e => by have := hv0 _ e; omega)
    by_cases hlt : k < C.length
    · obtain ⟨g, cap, hv, _, hgw⟩ := owns_some hocr (by omega)
      simp only [Value.slice.injEq] at hv
      obtain ⟨hac, _, hcap⟩ := hv
      subst hac
      subst hcap
      have hck : wr.cell? ⟨g, k, none⟩ = some (.int .u8 (C[k].toNat : Nat)) := by
        rw [hocr.cellAt k (by omega)]
        simp [Hm.bcells, hlt]
      have HT : Hid (Hm.lenBytes L (C.take (k + 1)) = Hm.lenBytes L (C.take k) ++ [C[k], UInt8.ofNat (L.getD C[k].toNat 0)]) := Hm.lenBytes_take L C k hlt
      have hb256 : C[k].toNat < 256 := C[k].toNat_lt
      have hcb := hcell wr hboxr C[k].toNat hb256
      have hgb := hgx C[k].toNat hb256
      generalize hCk : C[k] = ck at *
      generalize hLk : L.getD ck.toNat 0 = x at *
      generalize hcn : ck.toNat = cn at *
      have HC : Hid (ck.toNat = cn) := hcn
      have hdec : decide ((k : Int) < (C.length : Int)) = true := by simp; omega
      clear hocr hboxr hcell hgx hoc hbox2 hcn hLk hCk
      go_wp2_with (at_builtin; refine wpList_append_mv _ rfl (.tmp 20) (.tmp 26) 23 rfl base 5 i0 (.int .u8 0) 1 1 Try.underlying23 hi hz0 hz1 hz2 rfl (by decide) _ _ _ rfl (hor.alloc _) ⟨wr.heap.size, 0, none⟩ 2 2 [.int .u8 (cn : Nat), .int .u8 (x : Nat)] rfl rfl ?c1 ?c2 ?c3 ?c4 ?c5 ?_)
      case c1 => exact cell_two_new _ _ _ _
      case c2 => first | exact ⟨rfl, rfl⟩ | (intro u hu; simp at hu; rcases hu with rfl | rfl <;> rfl)
      case c3 => unfold maxLen; omega
      case c4 => omega
      case c5 => have := hkr.size; simp; omega
      intro v' w5 ho5 hg5 hm5
      have hk5 : Kept (fun j => v.ownBlock = some j) w2 w5 := (hkr.alloc _).grown hg5 (fun j hj => (hmr j hj).elim (fun h => .inr h) .inl)
      have hmv5 : Moved w2 v v' := hmr.trans hm5 (by have := hkr.size; simp; omega)
      clear hg5 hm5 hor hkr hmr
      go_wp2
      go_roundw
      case rel =>
        refine ⟨k + 1, by omega, by go_num, ?_, hk5, hmv5⟩
        have e : Hm.bcells (l ++ Hm.leBytes C.length 2 ++ Hm.lenBytes L (C.take (k + 1))) = Hm.bcells (l ++ Hm.leBytes C.length 2 ++ Hm.lenBytes L (C.take k)) ++ [.int .u8 (cn : Nat), .int .u8 (x : Nat)] := by
          rw [HT.out, ← List.append_assoc]
          unfold Hm.bcells
          rw [List.map_append (l₂ := [ck, UInt8.ofNat x]), List.map_cons, List.map_cons, List.map_nil, Hm.u8cell (by omega), HC.out]
        rw [e, show n + 2 + 2 * (k + 1) = n + 2 + 2 * k + 2 from by omega]; simpa [List.append_assoc] using ho5
      case measure => simp [intOf]; omega
    · obtain rfl : k = C.length := by omega
      rw [List.take_length] at hor
      have hdec : decide ((C.length : Int) < (C.length : Int)) = false := by simp
      clear hcell hgx
      go_wp2
      go_ret
      refine ⟨_, rfl, hor, hkw2.trans hkr (fun _ _ h => h), fun j hj => ?_⟩
      rcases hmr j hj with h | h
      · exact .inl h
      · exact .inr (by omega)

end Go.Proofs.Ytjjejdfmcohghaa
