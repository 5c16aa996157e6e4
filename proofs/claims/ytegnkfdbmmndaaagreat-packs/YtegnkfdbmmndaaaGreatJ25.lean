import Derived.Test.YtegnkfdbmmndaaaGreatJ24
import Derived.Laws.CopyOwn
import Derived.Laws.BitsLemmas
import Derived.Test.YtegnkfdbmmndaaaGreatJ11

/- RefU -/
section
/- The document's answer: the beginnings of codes that are no whole codes. -/
namespace Go.Proofs.YtegnkfdbmmndaaaGreat
open Go.RowKit

theorem info_str : (Tryz.prog.info? 9).map (fun i => (i.zero, i.size, i.bytes)) = some (some (.string ⟨#[]⟩), 1, 16) := by kernel_rfl
/-- A cell is put in between. -/
theorem ins_row (cur xs : List Value) (e H : Value) (m a : Nat) (hm : xs.length = m) (ha : a ≤ m) (hc : cur.take (m + 1) = xs ++ [e]) (hl : m + 1 ≤ cur.length) : ((splice cur (a + 1) (xs.drop a)).set a H).take (m + 1) = xs.take a ++ H :: xs.drop a := by
  have hcur : ∀ i, i < m → cur[i]? = xs[i]? := fun i hi => by
    have h1 : (cur.take (m + 1))[i]? = cur[i]? := List.getElem?_take_of_lt (by omega)
    rw [← h1, hc, List.getElem?_append_left (by omega)]
  have hdl : (xs.drop a).length = m - a := by rw [List.length_drop, hm]
  have htl : (cur.take (a + 1)).length = a + 1 := by rw [List.length_take]; omega
  have hxt : (xs.take a).length = a := by rw [List.length_take]; omega
  apply List.ext_getElem?
  intro i
  rcases Nat.lt_or_ge i (m + 1) with k | k
  · rw [List.getElem?_take_of_lt k]
    rcases Nat.lt_trichotomy i a with q | q | q
    · rw [List.getElem?_set_ne (by omega), splice, List.getElem?_append_left (by omega), List.getElem?_take_of_lt (by omega), hcur i (by omega), List.getElem?_append_left (by omega), List.getElem?_take_of_lt q]
    · subst q
      rw [List.getElem?_set_self (by rw [length_splice _ _ _ (by rw [hdl]; omega)]; omega), List.getElem?_append_right (by omega), hxt, Nat.sub_self]
      rfl
    · obtain ⟨j, rfl⟩ : ∃ j, i = a + 1 + j := ⟨i - a - 1, by omega⟩
      rw [List.getElem?_set_ne (by omega), splice, List.getElem?_append_right (by omega), htl, show a + 1 + j - (a + 1) = j from by omega, List.getElem?_append_left (by omega), List.getElem?_append_right (by omega), hxt, show a + 1 + j - a = j + 1 from by omega, List.getElem?_cons_succ]
  · rw [List.getElem?_eq_none (by rw [List.length_take]; omega), List.getElem?_eq_none (by rw [List.length_append, List.length_cons, hdl, hxt]; omega)]

namespace Hm
def cdL (o : List (List Bool)) (b : UInt8) : List Bool := o.getD b.toNat []
theorem bitStr_extract (x : List Bool) (n : Nat) : (⟨(bitStr x).toArray⟩ : ByteArray).extract 0 n = ⟨(bitStr (x.take n)).toArray⟩ := by
  apply ByteArray.ext
  rw [ByteArray.data_extract]
  apply Array.ext'
  rw [Array.toList_extract, List.extract_eq_take_drop]
  simp [bitStr, List.map_take]
theorem bitStr_inj : ∀ x y : List Bool, bitStr x = bitStr y → x = y
  | [], [], _ => rfl
  | [], _ :: _, h => by simp [bitStr] at h
  | _ :: _, [], h => by simp [bitStr] at h
  | a :: x, b :: y, h => by
    have h1 : (if a then (49 : UInt8) else 48) = (if b then 49 else 48) ∧ bitStr x = bitStr y := by
      have := List.cons.inj h
      exact this
    rw [bitStr_inj x y h1.2]
    have h2 := h1.1
    cases a <;> cases b <;> first | rfl | simp at h2
end Hm

set_option maxRecDepth 20000 in
set_option maxHeartbeats 4000000 in
theorem refHeads_any (o : List (List Bool)) (w : World) (hol : o.length = 256) (hox : ∀ x ∈ o, x.length ≤ 255) :
    Calls Tryz.prog 90 #[.agg (Hm.scells o).toArray] w fun e w' => ∃ (v : Value) (hs : List (List Bool)), e = .returned v ∧ Hm.HeadsOf (Hm.cdL o) hs ∧ hs.length ≤ 65792 ∧ w'.ownsRow w.heap.size 9 1 v hs.length (Hm.scells hs) ∧ Kept (fun _ => False) w w' := by
  obtain ⟨i0, hi, hz0, hz1, hz2⟩ := info_parts info_str
  have hgx : ∀ b : Nat, b < 256 → (o.getD b []).length ≤ 255 := fun b hb => by
    rw [List.getD_eq_getElem?_getD, List.getElem?_eq_getElem (show b < o.length from by omega)]; exact hox _ (List.getElem_mem _)
  have HG : Aside (∀ b : Nat, b < 256 → (o.getD b []).length ≤ 255) := hgx
  have HOL : Aside (o.length = 256) := hol
  clear hgx hox hol
  go_enter Tryz.func90, Tryz.ntmps90
  go_upto_region 1 with fail
  have g0 : TR (w.alloc (.cells (Hm.scells o).toArray 113)) w.heap.size o := heap_alloc_new w _
  have hk0 : Kept (fun _ => False) w (w.alloc (.cells (Hm.scells o).toArray 113)) := (Kept.refl _ _).alloc _
  have hB : w.heap.size < (w.alloc (.cells (Hm.scells o).toArray 113)).heap.size := by simp
  generalize w.alloc (.cells (Hm.scells o).toArray 113) = W at *
  have HW : Aside (TR W w.heap.size o ∧ Kept (fun _ => False) w W ∧ w.heap.size < W.heap.size) := ⟨g0, hk0, hB⟩
  clear g0 hk0 hB
  go_wp2_with fail
  go_loopw [3, 4] (fun vo vn wr => ∃ (n : Nat) (out : List (List Bool)), n ≤ 256 ∧ vn = .int .i64 n ∧ Hid (Hm.HS (Hm.cdL o) n 0 out.length out) ∧ Aside (wr.ownsRow W.heap.size 9 1 vo out.length (Hm.scells out)) ∧ Kept (fun _ => False) W wr) (fun _ vn _ => 256 - (intOf vn).toNat)
  case atStart => exact ⟨0, [], by omega, rfl, Hm.HS.start, ⟨rfl, .inl ⟨rfl, rfl⟩⟩, Kept.refl _ _⟩
  case round =>
    obtain ⟨n, out, hn, rfl, HS, HO, hkr⟩ := hrel
    have hfew : out.length ≤ 65792 := by have := HS.out.few; omega
    have HKR : Aside (Kept (fun _ => False) W wr) := hkr
    clear hkr
    by_cases hlt : n < 256
    · have hdec : decide ((n : Int) < 256) = true := decide_eq_true (by omega)
      obtain ⟨ao, co, hvo, _⟩ := slice_shape HO.out
      subst hvo
      go_wp2_with fail
      obtain ⟨fr, hfr⟩ : ∃ fr, fr = out.length := ⟨_, rfl⟩
      rw [← hfr]
      have HFR : Aside (fr = out.length) := hfr
      clear hfr
      go_loopw [3, 6] (fun vo vc wx => ∃ (c : Nat) (out2 : List (List Bool)), c ≤ 256 ∧ vc = .int .i64 c ∧ Hid (Hm.HS (Hm.cdL o) n c fr out2) ∧ Aside (wx.ownsRow W.heap.size 9 1 vo out2.length (Hm.scells out2)) ∧ Kept (fun _ => False) W wx) (fun _ vc _ => 256 - (intOf vc).toNat)
      case atStart => exact ⟨0, out, by omega, rfl, by rw [HFR.out]; exact HS.out, by rw [HFR.out]; exact HO, HKR.out⟩
      case round =>
        obtain ⟨c, out2, hc, rfl, HS2, HO2, hkr2⟩ := hrel
        have hfew2 : out2.length ≤ 65792 := by have := HS2.out.few; omega
        have HKR2 : Aside (Kept (fun _ => False) W wr) := hkr2
        obtain ⟨ao2, co2, hvo2, _⟩ := slice_shape HO2.out
        subst hvo2
        clear HO
        by_cases hlc : c < 256
        · have hdec : decide ((c : Int) < 256) = true := decide_eq_true (by omega)
          have hcI : (c : Int) < 256 := by omega
          have hcc := (HW.out.1.kept hkr2 id).cell (i := c) (by rw [HOL.out]; exact hlc)
          clear hkr2
          obtain ⟨b, hb⟩ : ∃ b : UInt8, b.toNat = c := ⟨UInt8.ofNat c, by rw [UInt8.toNat_ofNat']; omega⟩
          obtain ⟨x, hx⟩ : ∃ x, x = o.getD c [] := ⟨_, rfl⟩
          have HX : Aside (Hm.cdL o b = x ∧ b.toNat = c) := ⟨by rw [hx]; unfold Hm.cdL; rw [hb], hb⟩
          rw [← hx] at hcc
          have hxl : x.length ≤ 255 := by rw [hx]; exact HG.out c hlc
          obtain ⟨S, hS⟩ : ∃ S, S = (⟨(Hm.bitStr x).toArray⟩ : ByteArray) := ⟨_, rfl⟩
          rw [← hS] at hcc
          have hsz : S.size = x.length := by rw [hS]; show (Hm.bitStr x).toArray.size = _; simp [Hm.bitStr]
          have HSS : Aside (S = (⟨(Hm.bitStr x).toArray⟩ : ByteArray)) := hS
          clear hx hS hb
          by_cases hle : x.length ≤ n
          · have hdl : decide ((S.size : Int) ≤ (n : Int)) = true := decide_eq_true (by omega)
            have HSk : Aside (Hm.HS (Hm.cdL o) n (c + 1) fr out2) := HS2.out.skip b HX.out.2 (by rw [HX.out.1]; exact hle)
            go_wp2_with fail
            go_roundw
            case rel => exact ⟨c + 1, out2, by omega, by go_num, HSk.out, HO2, HKR2.out⟩
            case measure => simp [intOf]; omega
          · have hdl : decide ((S.size : Int) ≤ (n : Int)) = false := decide_eq_false (by omega)
            have hnI : (n : Int) ≤ (S.size : Int) := by omega
            go_wp2_with fail
            obtain ⟨H, hH⟩ : ∃ H, H = S.extract 0 n := ⟨_, rfl⟩
            rw [← hH]
            obtain ⟨y, hy⟩ : ∃ y, y = x.take n := ⟨_, rfl⟩
            have HHs : Aside (H = (⟨(Hm.bitStr y).toArray⟩ : ByteArray) ∧ y = x.take n ∧ y.length = n) := ⟨by rw [hH, HSS.out, hy]; exact Hm.bitStr_extract x n, hy, by rw [hy, List.length_take]; omega⟩
            clear hH hy hcc
            go_loopw [8] (fun va wy => ∃ a : Nat, va = .int .i64 a ∧ fr ≤ a ∧ a ≤ out2.length ∧ Hid (∀ i, fr ≤ i → i < a → Hm.bval (out2.getD i []) < Hm.bval y) ∧ wr = wy) (fun va _ => out2.length - (intOf va).toNat)
            case atStart => exact ⟨fr, rfl, Nat.le_refl _, HS2.out.le, fun i h1 h2 => by omega, rfl⟩
            case round =>
              obtain ⟨a, rfl, hfa, hal, HLO, rfl⟩ := hrel
              by_cases haL : a < out2.length
              · have hda : decide ((a : Int) < (out2.length : Int)) = true := decide_eq_true (by omega)
                have haI0 : (a : Int) < (out2.length : Int) := by omega
                obtain ⟨g, hg⟩ : ∃ g, ao2 = some ⟨g, 0, none⟩ := by
                  rcases HO2.out.2 with ⟨e, h0⟩ | ⟨g, cap, cur, e, _⟩
                  · omega
                  · exact ⟨g, (Value.slice.inj e).1⟩
                subst hg
                obtain ⟨Z, hZ⟩ : ∃ Z, Z = (⟨(Hm.bitStr (out2.getD a [])).toArray⟩ : ByteArray) := ⟨_, rfl⟩
                have hca : wr.cell? ⟨g, a, none⟩ = some (.string Z) := by
                  rw [HO2.out.cellAt a (by omega), hZ]
                  simp [Hm.scells, List.getD_eq_getElem?_getD, List.getElem?_eq_getElem haL]
                have hzl : (out2.getD a []).length = n := HS2.out.high a hfa haL
                have hbl : Op.bytesLess Z.toList H.toList = decide (Hm.bval (out2.getD a []) < Hm.bval y) := by
                  rw [hZ, HHs.out.1, ByteArray.toList_eq, ByteArray.toList_eq]
                  exact Hm.less_bits _ _ (by rw [hzl, HHs.out.2.2])
                have hqe : (Z.toList == H.toList) = decide (out2.getD a [] = y) := by
                  rw [hZ, HHs.out.1, ByteArray.toList_eq, ByteArray.toList_eq]
                  by_cases e : out2.getD a [] = y
                  · rw [decide_eq_true e, e]; simp
                  · rw [decide_eq_false e, beq_eq_false_iff_ne]; exact fun k => e (Hm.bitStr_inj _ _ k)
                clear hZ hzl
                by_cases hless : Hm.bval (out2.getD a []) < Hm.bval y
                · rw [decide_eq_true hless] at hbl
                  have HL2 : Aside (∀ i, fr ≤ i → i < a + 1 → Hm.bval (out2.getD i []) < Hm.bval y) := fun i h1 h2 => by
                    rcases Nat.lt_or_ge i a with k | k
                    · exact HLO.out i h1 k
                    · obtain rfl : i = a := by omega
                      exact hless
                  clear hless hqe
                  go_wp2_with fail
                  go_roundw
                  case rel => exact ⟨a + 1, by go_num, by omega, by omega, HL2.out, by first | rfl | trivial⟩
                  case measure => simp [intOf]; omega
                · rw [decide_eq_false hless] at hbl
                  by_cases heq : out2.getD a [] = y
                  · rw [decide_eq_true heq] at hqe
                    have HSk : Aside (Hm.HS (Hm.cdL o) n (c + 1) fr out2) := HS2.out.same b HX.out.2 (by rw [HX.out.1]; omega) (by rw [HX.out.1, ← HHs.out.2.1, ← heq]; exact Hm.getDl_mem haL)
                    clear heq hless
                    go_wp2_with fail
                    go_roundw
                    case rel => exact ⟨c + 1, out2, by omega, by go_num, HSk.out, HO2, HKR2.out⟩
                    case measure => simp [intOf]; omega
                  · rw [decide_eq_false heq] at hqe
                    have HSk : Aside (Hm.HS (Hm.cdL o) n (c + 1) fr (out2.take a ++ y :: out2.drop a)) := by
                      have := HS2.out.put b HX.out.2 (by rw [HX.out.1]; omega) hfa hal (by rw [HX.out.1, ← HHs.out.2.1]; exact HLO.out) (fun _ => by rw [HX.out.1, ← HHs.out.2.1]; exact ⟨hless, heq⟩)
                      rwa [HX.out.1, ← HHs.out.2.1] at this
                    clear heq hless
                    go_wp2_with (at_builtin; refine wpList_append_mv _ rfl (.tmp 57) (.tmp 58) 26 rfl W.heap.size 9 i0 (.string ⟨#[]⟩) 1 16 Tryz.underlying26 hi hz0 hz1 hz2 rfl (by decide) _ _ _ rfl (HO2.out.alloc _) ⟨wr.heap.size, 0, none⟩ 1 1 [.string ⟨#[]⟩] rfl rfl ?c1 ?c2 ?c3 ?c4 ?c5 ?_)
                    case c1 => exact cell_one_new _ _ _
                    case c2 => intro u hu; simp at hu; subst hu; rfl
                    case c3 => unfold maxLen; omega
                    case c4 => omega
                    case c5 => have := HKR2.out.size; simp; omega
                    intro v5 w5 ho5 hg5 hm5
                    have hk5 : Kept (fun _ => False) W w5 := (HKR2.out.alloc _).grown hg5 (fun j hj => .inl (HO2.out.lt j hj).1)
                    obtain ⟨g5, cap, cur, hv5, hbg, hgr, hnc, hcm, hcs, hct⟩ : ∃ g cap cur, v5 = .slice (some ⟨g, 0, none⟩) (out2.length + 1) cap ∧ W.heap.size ≤ g ∧ w5.heap[g]? = some (.cells cur 9 (0, 0)) ∧ out2.length + 1 ≤ cap ∧ cap ≤ maxLen ∧ cur.size = cap * 1 ∧ cur.toList.take ((out2.length + 1) * 1) = Hm.scells out2 ++ [.string ⟨#[]⟩] := by
                      rcases ho5.2 with ⟨_, h⟩ | h
                      · omega
                      · exact h
                    subst hv5
                    rw [Nat.mul_one] at hcs hct
                    obtain ⟨cl, hcl⟩ : ∃ cl : List Value, cl = cur.toList := ⟨_, rfl⟩
                    have hcu : cur = cl.toArray := by rw [hcl]
                    rw [hcu] at hgr hcs hct
                    rw [List.size_toArray] at hcs
                    clear hg5 hm5 ho5 hcl hcu
                    have H5 : Aside (W.heap.size ≤ g5 ∧ w5.heap[g5]? = some (.cells cl.toArray 9 (0, 0)) ∧ Kept (fun _ => False) W w5 ∧ cap ≤ maxLen ∧ cl.take (out2.length + 1) = Hm.scells out2 ++ [.string ⟨#[]⟩]) := ⟨hbg, hgr, hk5, hcm, by simpa using hct⟩
                    clear hbg hgr hk5 hcm hct
                    have haI : (a : Int) ≤ (out2.length : Int) := by omega
                    have hncI : (out2.length : Int) + 1 ≤ (cap : Int) := by omega
                    go_wp2_with fail
                    have hwr : IntKind.i64.wrap ((a : Int) + 1) = (a : Int) + 1 := by rw [IntKind.wrap_i64]; omega
                    have hto : ((a : Int) + 1).toNat = a + 1 := by omega
                    have hca2 : ¬ cap = a := by omega
                    refine wp_region_held_drew (S := fun _ => True) (by kernel_rfl) trivial (fun hHeld => ?_)
                    refine wpAnyH_take (i := 0) (oi := { dst := some 60, op := Op.move (Operand.tmp 3), type := 26, pos := "hoardref.go:202", after := #[], guard := none }) (v := ?_) rfl (by kernel_rfl) (by kernel_rfl) (by kernel_rfl) (fun _ _ _ h => h) (Or.inl ⟨by kernel_rfl, ?_⟩) (by assumption) ?_
                    rotate_left
                    · intro X hSw
                      go_simp
                      with_reducible rfl
                    simp only [Act.put, List.setIfInBounds_toArray, List.set_cons_zero, List.set_cons_succ]
                    refine wpAnyH_take (i := 1) (oi := { dst := some 61, op := Op.move (Operand.tmp 8), type := 3, pos := "hoardref.go:202", after := #[], guard := none }) (v := ?_) rfl (by kernel_rfl) (by kernel_rfl) (by kernel_rfl) (fun _ _ _ h => h) (Or.inl ⟨by kernel_rfl, ?_⟩) (by assumption) ?_
                    rotate_left
                    · intro X hSw
                      go_simp
                      with_reducible rfl
                    simp only [Act.put, List.setIfInBounds_toArray, List.set_cons_zero, List.set_cons_succ]
                    refine wpAnyH_take (i := 2) (oi := { dst := some 62, op := Op.binOp BinOp.add 3 (Operand.tmp 61) (Operand.const (Value.int IntKind.i64 1)) 3, type := 3, pos := "hoardref.go:202", after := #[{ on := 1, ground := Ground.data }], guard := none }) (v := .int .i64 ((a : Int) + 1)) rfl (by kernel_rfl) (by kernel_rfl) (by kernel_rfl) (fun _ _ _ h => h) (Or.inl ⟨by kernel_rfl, ?_⟩) (by assumption) ?_
                    · intro X hSw
                      go_simp
                      all_goals (try rw [hwr])
                      all_goals (try rfl)
                    simp only [Act.put, List.setIfInBounds_toArray, List.set_cons_zero, List.set_cons_succ]
                    refine wpAnyH_take (i := 3) (oi := { dst := some 63, op := Op.slice 26 (Operand.tmp 60) (some (Operand.tmp 62)) none none, type := 26, pos := "hoardref.go:202", after := #[{ on := 0, ground := Ground.data }, { on := 2, ground := Ground.data }], guard := none }) (v := .slice (if cap = a + 1 then some ⟨g5, 0, none⟩ else some ⟨g5, a + 1, none⟩) (out2.length + 1 - (a + 1)) (cap - (a + 1))) rfl (by kernel_rfl) (by kernel_rfl) (by kernel_rfl) (fun _ _ _ h => h) (Or.inl ⟨by kernel_rfl, ?_⟩) (by assumption) ?_
                    · intro X hSw
                      go_simp
                      all_goals (try rw [if_pos (by omega)])
                      all_goals (try simp only [hto])
                      all_goals (try rfl)
                      all_goals (try (intro hneg; exfalso; omega))
                    simp only [Act.put, List.setIfInBounds_toArray, List.set_cons_zero, List.set_cons_succ]
                    refine wpAnyH_take (i := 4) (oi := { dst := some 64, op := Op.move (Operand.tmp 3), type := 26, pos := "hoardref.go:202", after := #[], guard := none }) (v := ?_) rfl (by kernel_rfl) (by kernel_rfl) (by kernel_rfl) (fun _ _ _ h => h) (Or.inl ⟨by kernel_rfl, ?_⟩) (by assumption) ?_
                    rotate_left
                    · intro X hSw
                      go_simp
                      with_reducible rfl
                    simp only [Act.put, List.setIfInBounds_toArray, List.set_cons_zero, List.set_cons_succ]
                    refine wpAnyH_take (i := 5) (oi := { dst := some 65, op := Op.move (Operand.tmp 8), type := 3, pos := "hoardref.go:202", after := #[], guard := none }) (v := ?_) rfl (by kernel_rfl) (by kernel_rfl) (by kernel_rfl) (fun _ _ _ h => h) (Or.inl ⟨by kernel_rfl, ?_⟩) (by assumption) ?_
                    rotate_left
                    · intro X hSw
                      go_simp
                      with_reducible rfl
                    simp only [Act.put, List.setIfInBounds_toArray, List.set_cons_zero, List.set_cons_succ]
                    refine wpAnyH_take (i := 6) (oi := { dst := some 66, op := Op.slice 26 (Operand.tmp 64) (some (Operand.tmp 65)) none none, type := 26, pos := "hoardref.go:202", after := #[{ on := 4, ground := Ground.data }, { on := 5, ground := Ground.data }], guard := none }) (v := .slice (some ⟨g5, a, none⟩) (out2.length + 1 - a) (cap - a)) rfl (by kernel_rfl) (by kernel_rfl) (by kernel_rfl) (fun _ _ _ h => h) (Or.inl ⟨by kernel_rfl, ?_⟩) (by assumption) ?_
                    · intro X hSw
                      go_simp
                      all_goals (try rw [if_pos (by omega)])
                      all_goals (try rw [if_neg hca2])
                      all_goals (try rfl)
                      all_goals (try (intro hneg; exfalso; omega))
                    simp only [Act.put, List.setIfInBounds_toArray, List.set_cons_zero, List.set_cons_succ]
                    refine wpAnyH_ready (rs := [7]) (by kernel_rfl) (by simp) ?_
                    refine AllReadyH.cons (o := { dst := some 67, op := Op.call { callee := Callee.builtin Builtin.copy, args := #[Operand.tmp 63, Operand.tmp 66], argTypes := #[26, 26] }, type := 3, pos := "hoardref.go:202", after := #[{ on := 3, ground := Ground.data }, { on := 6, ground := Ground.data }], guard := none }) rfl (fun K hK => ?_) AllReadyH.nil
                    have hdl : ((Hm.scells out2).drop a).length = out2.length - a := by rw [List.length_drop, Hm.scells_length]
                    have hci : ∀ i, i < out2.length → cl[i]? = (Hm.scells out2)[i]? := fun i hi => by
                      have h1 : (cl.take (out2.length + 1))[i]? = cl[i]? := List.getElem?_take_of_lt (by omega)
                      rw [← h1, H5.out.2.2.2.2, List.getElem?_append_left (by rw [Hm.scells_length]; omega)]
                    refine step_copy_splice (o := { dst := some 67, op := Op.call { callee := Callee.builtin Builtin.copy, args := #[Operand.tmp 63, Operand.tmp 66], argTypes := #[26, 26] }, type := 3, pos := "hoardref.go:202", after := #[{ on := 3, ground := Ground.data }, { on := 6, ground := Ground.data }], guard := none }) rfl (.tmp 63) (.tmp 66) 26 26 rfl 9 Tryz.underlying26 (by rw [hi]; simp [hz1]) _ _ _ _ _ _ rfl rfl g5 (a + 1) cl 9 H5.out.2.1 ((Hm.scells out2).drop a) ?d1 ?d2 ?d3 ?d4 g5 w5.drew (Below.refl _ _) (Nat.le_refl _) ?d5
                    case d1 => rw [hdl]; show _ = min (out2.length + 1 - a) (out2.length + 1 - (a + 1)); omega
                    case d2 =>
                      intro hp
                      rw [hdl] at hp
                      refine ⟨by rw [if_neg (by omega)], _, rfl, fun j v hj => ?_⟩
                      rw [List.getElem?_drop] at hj
                      have hjl : a + j < out2.length := by
                        have := (List.getElem?_eq_some_iff.1 hj).1
                        rw [Hm.scells_length] at this; exact this
                      have had : (⟨g5, a, none⟩ : Addr).add j = ⟨g5, a + j, none⟩ := by cases j <;> simp [Addr.add]
                      rw [had]
                      rw [cell_of_row _ _ (a + j) _ _ _ (show w5.drew.heap[g5]? = _ from H5.out.2.1), List.getElem?_toArray, hci _ hjl, hj]
                    case d3 => rw [hdl]; omega
                    case d4 =>
                      intro v hv
                      have h1 := Hm.scells_one out2
                      rw [Array.all_eq_true_iff_forall_mem] at h1
                      exact h1 v (by simpa using List.mem_of_mem_drop hv)
                    case d5 =>
                      intro w6 hw6 hb6
                      refine hK.out _ _ trivial (fun hHeld => ?_)
                      clear hK K
                      refine wpAnyH_done (by kernel_rfl) ?_ _
                      have hsl : (splice cl (a + 1) ((Hm.scells out2).drop a)).length = cap := by rw [length_splice _ _ _ (by rw [hdl]; omega)]; exact hcs
                      have hk6 : Kept (fun j => g5 ≤ j) w5.drew w6 := ⟨hb6.os, hb6.tape, hb6.output, hb6.size, fun j _ hn => hb6.block j (by omega)⟩
                      have hK6 : Kept (fun _ => False) W w6 := (H5.out.2.2.1.drew).trans hk6 (fun j h1 h2 => by have := H5.out.1; omega)
                      have HR6 : Aside (w6.heap[g5]? = some (.cells (splice cl (a + 1) ((Hm.scells out2).drop a)).toArray 9 (0, 0)) ∧ Kept (fun _ => False) W w6) := ⟨hw6.out, hK6⟩
                      obtain ⟨old, hold⟩ : ∃ old, (splice cl (a + 1) ((Hm.scells out2).drop a))[a]? = some old := ⟨_, List.getElem?_eq_getElem (by rw [hsl]; omega)⟩
                      have co6 : w6.cell? ⟨g5, a, none⟩ = some old := by rw [cell_of_row _ _ a _ _ _ HR6.out.1, List.getElem?_toArray, hold]
                      have fo6 : w6.frozen? ⟨g5, a, none⟩ = false := frozen_of_row _ _ a _ _ HR6.out.1
                      have haI2 : (a : Int) < (out2.length : Int) + 1 := by omega
                      have HIN : Aside (((splice cl (a + 1) ((Hm.scells out2).drop a)).set a (.string H)).take (out2.length + 1) = (Hm.scells out2).take a ++ .string H :: (Hm.scells out2).drop a) := ins_row cl (Hm.scells out2) _ (.string H) out2.length a (Hm.scells_length _) hal H5.out.2.2.2.2 (by omega)
                      clear hb6 hk6 hK6 hw6 hold hci
                      go_wp2_with fail
                      go_roundw
                      case rel =>
                        have hlen : (out2.take a ++ y :: out2.drop a).length = out2.length + 1 := by rw [List.length_append, List.length_cons, List.length_take, List.length_drop]; omega
                        refine ⟨c + 1, out2.take a ++ y :: out2.drop a, by omega, by go_num, HSk.out, ?_, ?_⟩
                        · show World.ownsRow _ _ _ _ _ _ _
                          rw [hlen]
                          refine ⟨by rw [Hm.scells_length, hlen, Nat.mul_one], .inr ⟨g5, cap, ((splice cl (a + 1) ((Hm.scells out2).drop a)).set a (.string H)).toArray, rfl, H5.out.1, ?_, hnc, H5.out.2.2.2.1, ?_, ?_⟩⟩
                          · rw [heap_setCell_same _ g5 a _ _ (.string H) HR6.out.1]
                            congr 2
                            apply Array.ext'
                            simp
                          · rw [List.size_toArray, List.length_set, hsl, Nat.mul_one]
                          · rw [Nat.mul_one, HIN.out, HHs.out.1]
                            simp [Hm.scells, List.map_take, List.map_drop]
                        · exact HR6.out.2.setCell (p := ⟨g5, a, none⟩) (.inl H5.out.1) _
                      case measure => simp [intOf]; omega
              · have hda : decide ((a : Int) < (out2.length : Int)) = false := decide_eq_false (by omega)
                have HSk : Aside (Hm.HS (Hm.cdL o) n (c + 1) fr (out2.take a ++ y :: out2.drop a)) := by
                  have := HS2.out.put b HX.out.2 (by rw [HX.out.1]; omega) hfa hal (by rw [HX.out.1, ← HHs.out.2.1]; exact HLO.out) (fun k => absurd k haL)
                  rwa [HX.out.1, ← HHs.out.2.1] at this
                go_wp2_with (at_builtin; refine wpList_append_mv _ rfl (.tmp 57) (.tmp 58) 26 rfl W.heap.size 9 i0 (.string ⟨#[]⟩) 1 16 Tryz.underlying26 hi hz0 hz1 hz2 rfl (by decide) _ _ _ rfl (HO2.out.alloc _) ⟨wr.heap.size, 0, none⟩ 1 1 [.string ⟨#[]⟩] rfl rfl ?c1 ?c2 ?c3 ?c4 ?c5 ?_)
                case c1 => exact cell_one_new _ _ _
                case c2 => intro u hu; simp at hu; subst hu; rfl
                case c3 => unfold maxLen; omega
                case c4 => omega
                case c5 => have := HKR2.out.size; simp; omega
                intro v5 w5 ho5 hg5 hm5
                have hk5 : Kept (fun _ => False) W w5 := (HKR2.out.alloc _).grown hg5 (fun j hj => .inl (HO2.out.lt j hj).1)
                obtain ⟨g5, cap, cur, hv5, hbg, hgr, hnc, hcm, hcs, hct⟩ : ∃ g cap cur, v5 = .slice (some ⟨g, 0, none⟩) (out2.length + 1) cap ∧ W.heap.size ≤ g ∧ w5.heap[g]? = some (.cells cur 9 (0, 0)) ∧ out2.length + 1 ≤ cap ∧ cap ≤ maxLen ∧ cur.size = cap * 1 ∧ cur.toList.take ((out2.length + 1) * 1) = Hm.scells out2 ++ [.string ⟨#[]⟩] := by
                  rcases ho5.2 with ⟨_, h⟩ | h
                  · omega
                  · exact h
                subst hv5
                rw [Nat.mul_one] at hcs hct
                obtain ⟨cl, hcl⟩ : ∃ cl : List Value, cl = cur.toList := ⟨_, rfl⟩
                have hcu : cur = cl.toArray := by rw [hcl]
                rw [hcu] at hgr hcs hct
                rw [List.size_toArray] at hcs
                clear hg5 hm5 ho5 hcl hcu
                have H5 : Aside (W.heap.size ≤ g5 ∧ w5.heap[g5]? = some (.cells cl.toArray 9 (0, 0)) ∧ Kept (fun _ => False) W w5 ∧ cap ≤ maxLen ∧ cl.take (out2.length + 1) = Hm.scells out2 ++ [.string ⟨#[]⟩]) := ⟨hbg, hgr, hk5, hcm, by simpa using hct⟩
                clear hbg hgr hk5 hcm hct
                have haI : (a : Int) ≤ (out2.length : Int) := by omega
                have hncI : (out2.length : Int) + 1 ≤ (cap : Int) := by omega
                go_wp2_with fail
                have hwr : IntKind.i64.wrap ((a : Int) + 1) = (a : Int) + 1 := by rw [IntKind.wrap_i64]; omega
                have hto : ((a : Int) + 1).toNat = a + 1 := by omega
                have hca2 : ¬ cap = a := by omega
                refine wp_region_held_drew (S := fun _ => True) (by kernel_rfl) trivial (fun hHeld => ?_)
                refine wpAnyH_take (i := 0) (oi := { dst := some 60, op := Op.move (Operand.tmp 3), type := 26, pos := "hoardref.go:202", after := #[], guard := none }) (v := ?_) rfl (by kernel_rfl) (by kernel_rfl) (by kernel_rfl) (fun _ _ _ h => h) (Or.inl ⟨by kernel_rfl, ?_⟩) (by assumption) ?_
                rotate_left
                · intro X hSw
                  go_simp
                  with_reducible rfl
                simp only [Act.put, List.setIfInBounds_toArray, List.set_cons_zero, List.set_cons_succ]
                refine wpAnyH_take (i := 1) (oi := { dst := some 61, op := Op.move (Operand.tmp 8), type := 3, pos := "hoardref.go:202", after := #[], guard := none }) (v := ?_) rfl (by kernel_rfl) (by kernel_rfl) (by kernel_rfl) (fun _ _ _ h => h) (Or.inl ⟨by kernel_rfl, ?_⟩) (by assumption) ?_
                rotate_left
                · intro X hSw
                  go_simp
                  with_reducible rfl
                simp only [Act.put, List.setIfInBounds_toArray, List.set_cons_zero, List.set_cons_succ]
                refine wpAnyH_take (i := 2) (oi := { dst := some 62, op := Op.binOp BinOp.add 3 (Operand.tmp 61) (Operand.const (Value.int IntKind.i64 1)) 3, type := 3, pos := "hoardref.go:202", after := #[{ on := 1, ground := Ground.data }], guard := none }) (v := .int .i64 ((a : Int) + 1)) rfl (by kernel_rfl) (by kernel_rfl) (by kernel_rfl) (fun _ _ _ h => h) (Or.inl ⟨by kernel_rfl, ?_⟩) (by assumption) ?_
                · intro X hSw
                  go_simp
                  all_goals (try rw [hwr])
                  all_goals (try rfl)
                simp only [Act.put, List.setIfInBounds_toArray, List.set_cons_zero, List.set_cons_succ]
                refine wpAnyH_take (i := 3) (oi := { dst := some 63, op := Op.slice 26 (Operand.tmp 60) (some (Operand.tmp 62)) none none, type := 26, pos := "hoardref.go:202", after := #[{ on := 0, ground := Ground.data }, { on := 2, ground := Ground.data }], guard := none }) (v := .slice (if cap = a + 1 then some ⟨g5, 0, none⟩ else some ⟨g5, a + 1, none⟩) (out2.length + 1 - (a + 1)) (cap - (a + 1))) rfl (by kernel_rfl) (by kernel_rfl) (by kernel_rfl) (fun _ _ _ h => h) (Or.inl ⟨by kernel_rfl, ?_⟩) (by assumption) ?_
                · intro X hSw
                  go_simp
                  all_goals (try rw [if_pos (by omega)])
                  all_goals (try simp only [hto])
                  all_goals (try rfl)
                  all_goals (try (intro hneg; exfalso; omega))
                simp only [Act.put, List.setIfInBounds_toArray, List.set_cons_zero, List.set_cons_succ]
                refine wpAnyH_take (i := 4) (oi := { dst := some 64, op := Op.move (Operand.tmp 3), type := 26, pos := "hoardref.go:202", after := #[], guard := none }) (v := ?_) rfl (by kernel_rfl) (by kernel_rfl) (by kernel_rfl) (fun _ _ _ h => h) (Or.inl ⟨by kernel_rfl, ?_⟩) (by assumption) ?_
                rotate_left
                · intro X hSw
                  go_simp
                  with_reducible rfl
                simp only [Act.put, List.setIfInBounds_toArray, List.set_cons_zero, List.set_cons_succ]
                refine wpAnyH_take (i := 5) (oi := { dst := some 65, op := Op.move (Operand.tmp 8), type := 3, pos := "hoardref.go:202", after := #[], guard := none }) (v := ?_) rfl (by kernel_rfl) (by kernel_rfl) (by kernel_rfl) (fun _ _ _ h => h) (Or.inl ⟨by kernel_rfl, ?_⟩) (by assumption) ?_
                rotate_left
                · intro X hSw
                  go_simp
                  with_reducible rfl
                simp only [Act.put, List.setIfInBounds_toArray, List.set_cons_zero, List.set_cons_succ]
                refine wpAnyH_take (i := 6) (oi := { dst := some 66, op := Op.slice 26 (Operand.tmp 64) (some (Operand.tmp 65)) none none, type := 26, pos := "hoardref.go:202", after := #[{ on := 4, ground := Ground.data }, { on := 5, ground := Ground.data }], guard := none }) (v := .slice (some ⟨g5, a, none⟩) (out2.length + 1 - a) (cap - a)) rfl (by kernel_rfl) (by kernel_rfl) (by kernel_rfl) (fun _ _ _ h => h) (Or.inl ⟨by kernel_rfl, ?_⟩) (by assumption) ?_
                · intro X hSw
                  go_simp
                  all_goals (try rw [if_pos (by omega)])
                  all_goals (try rw [if_neg hca2])
                  all_goals (try rfl)
                  all_goals (try (intro hneg; exfalso; omega))
                simp only [Act.put, List.setIfInBounds_toArray, List.set_cons_zero, List.set_cons_succ]
                refine wpAnyH_ready (rs := [7]) (by kernel_rfl) (by simp) ?_
                refine AllReadyH.cons (o := { dst := some 67, op := Op.call { callee := Callee.builtin Builtin.copy, args := #[Operand.tmp 63, Operand.tmp 66], argTypes := #[26, 26] }, type := 3, pos := "hoardref.go:202", after := #[{ on := 3, ground := Ground.data }, { on := 6, ground := Ground.data }], guard := none }) rfl (fun K hK => ?_) AllReadyH.nil
                have hdl : ((Hm.scells out2).drop a).length = out2.length - a := by rw [List.length_drop, Hm.scells_length]
                have hci : ∀ i, i < out2.length → cl[i]? = (Hm.scells out2)[i]? := fun i hi => by
                  have h1 : (cl.take (out2.length + 1))[i]? = cl[i]? := List.getElem?_take_of_lt (by omega)
                  rw [← h1, H5.out.2.2.2.2, List.getElem?_append_left (by rw [Hm.scells_length]; omega)]
                refine step_copy_splice (o := { dst := some 67, op := Op.call { callee := Callee.builtin Builtin.copy, args := #[Operand.tmp 63, Operand.tmp 66], argTypes := #[26, 26] }, type := 3, pos := "hoardref.go:202", after := #[{ on := 3, ground := Ground.data }, { on := 6, ground := Ground.data }], guard := none }) rfl (.tmp 63) (.tmp 66) 26 26 rfl 9 Tryz.underlying26 (by rw [hi]; simp [hz1]) _ _ _ _ _ _ rfl rfl g5 (a + 1) cl 9 H5.out.2.1 ((Hm.scells out2).drop a) ?d1 ?d2 ?d3 ?d4 g5 w5.drew (Below.refl _ _) (Nat.le_refl _) ?d5
                case d1 => rw [hdl]; show _ = min (out2.length + 1 - a) (out2.length + 1 - (a + 1)); omega
                case d2 =>
                  intro hp
                  rw [hdl] at hp
                  refine ⟨by rw [if_neg (by omega)], _, rfl, fun j v hj => ?_⟩
                  rw [List.getElem?_drop] at hj
                  have hjl : a + j < out2.length := by
                    have := (List.getElem?_eq_some_iff.1 hj).1
                    rw [Hm.scells_length] at this; exact this
                  have had : (⟨g5, a, none⟩ : Addr).add j = ⟨g5, a + j, none⟩ := by cases j <;> simp [Addr.add]
                  rw [had]
                  rw [cell_of_row _ _ (a + j) _ _ _ (show w5.drew.heap[g5]? = _ from H5.out.2.1), List.getElem?_toArray, hci _ hjl, hj]
                case d3 => rw [hdl]; omega
                case d4 =>
                  intro v hv
                  have h1 := Hm.scells_one out2
                  rw [Array.all_eq_true_iff_forall_mem] at h1
                  exact h1 v (by simpa using List.mem_of_mem_drop hv)
                case d5 =>
                  intro w6 hw6 hb6
                  refine hK.out _ _ trivial (fun hHeld => ?_)
                  clear hK K
                  refine wpAnyH_done (by kernel_rfl) ?_ _
                  have hsl : (splice cl (a + 1) ((Hm.scells out2).drop a)).length = cap := by rw [length_splice _ _ _ (by rw [hdl]; omega)]; exact hcs
                  have hk6 : Kept (fun j => g5 ≤ j) w5.drew w6 := ⟨hb6.os, hb6.tape, hb6.output, hb6.size, fun j _ hn => hb6.block j (by omega)⟩
                  have hK6 : Kept (fun _ => False) W w6 := (H5.out.2.2.1.drew).trans hk6 (fun j h1 h2 => by have := H5.out.1; omega)
                  have HR6 : Aside (w6.heap[g5]? = some (.cells (splice cl (a + 1) ((Hm.scells out2).drop a)).toArray 9 (0, 0)) ∧ Kept (fun _ => False) W w6) := ⟨hw6.out, hK6⟩
                  obtain ⟨old, hold⟩ : ∃ old, (splice cl (a + 1) ((Hm.scells out2).drop a))[a]? = some old := ⟨_, List.getElem?_eq_getElem (by rw [hsl]; omega)⟩
                  have co6 : w6.cell? ⟨g5, a, none⟩ = some old := by rw [cell_of_row _ _ a _ _ _ HR6.out.1, List.getElem?_toArray, hold]
                  have fo6 : w6.frozen? ⟨g5, a, none⟩ = false := frozen_of_row _ _ a _ _ HR6.out.1
                  have haI2 : (a : Int) < (out2.length : Int) + 1 := by omega
                  have HIN : Aside (((splice cl (a + 1) ((Hm.scells out2).drop a)).set a (.string H)).take (out2.length + 1) = (Hm.scells out2).take a ++ .string H :: (Hm.scells out2).drop a) := ins_row cl (Hm.scells out2) _ (.string H) out2.length a (Hm.scells_length _) hal H5.out.2.2.2.2 (by omega)
                  clear hb6 hk6 hK6 hw6 hold hci
                  go_wp2_with fail
                  go_roundw
                  case rel =>
                    have hlen : (out2.take a ++ y :: out2.drop a).length = out2.length + 1 := by rw [List.length_append, List.length_cons, List.length_take, List.length_drop]; omega
                    refine ⟨c + 1, out2.take a ++ y :: out2.drop a, by omega, by go_num, HSk.out, ?_, ?_⟩
                    · show World.ownsRow _ _ _ _ _ _ _
                      rw [hlen]
                      refine ⟨by rw [Hm.scells_length, hlen, Nat.mul_one], .inr ⟨g5, cap, ((splice cl (a + 1) ((Hm.scells out2).drop a)).set a (.string H)).toArray, rfl, H5.out.1, ?_, hnc, H5.out.2.2.2.1, ?_, ?_⟩⟩
                      · rw [heap_setCell_same _ g5 a _ _ (.string H) HR6.out.1]
                        congr 2
                        apply Array.ext'
                        simp
                      · rw [List.size_toArray, List.length_set, hsl, Nat.mul_one]
                      · rw [Nat.mul_one, HIN.out, HHs.out.1]
                        simp [Hm.scells, List.map_take, List.map_drop]
                    · exact HR6.out.2.setCell (p := ⟨g5, a, none⟩) (.inl H5.out.1) _
                  case measure => simp [intOf]; omega
        · have hc256 : c = 256 := by omega
          have hdec : decide ((c : Int) < 256) = false := decide_eq_false (by omega)
          have HS3 : Aside (Hm.HS (Hm.cdL o) n 256 fr out2) := by rw [← hc256]; exact HS2.out
          clear hkr2 hc256
          by_cases hsame : out2.length = fr
          · have hbq : ((out2.length : Int) == (fr : Int)) = true := by rw [hsame]; simp
            have HH : Aside (Hm.HeadsOf (Hm.cdL o) out2) := HS3.out.stop hsame
            have HOW : Aside (wr.ownsRow w.heap.size 9 1 (.slice ao2 out2.length co2) out2.length (Hm.scells out2)) := owns_base HO2.out fun k hk => by
              have h1 := (HO2.out.lt k hk).1
              have h2 := HW.out.2.2
              omega
            have HKW : Aside (Kept (fun _ => False) w wr) := HW.out.2.1.trans HKR2.out (fun _ _ h => h)
            clear hsame
            go_wp2_with fail
            go_ret
            exact ⟨_, out2, rfl, HH.out, hfew2, HOW.out, HKW.out⟩
          · have hbq : ((out2.length : Int) == (fr : Int)) = false := by rw [beq_eq_false_iff_ne]; omega
            have HS4 : Aside (Hm.HS (Hm.cdL o) (n + 1) 0 out2.length out2) := HS3.out.next
            go_wp2_with fail
            go_roundw
            case rel => exact ⟨n + 1, out2, by omega, by go_num, HS4.out, HO2, HKR2.out⟩
            case measure => simp [intOf]; omega
    · have hn256 : n = 256 := by omega
      have hdec : decide ((n : Int) < 256) = false := decide_eq_false (by omega)
      have HH : Aside (Hm.HeadsOf (Hm.cdL o) out) := HS.out.last fun b => by
        have := HG.out b.toNat b.toNat_lt
        show (o.getD b.toNat []).length ≤ n
        omega
      obtain ⟨ao, co, hvo, _⟩ := slice_shape HO.out
      subst hvo
      have HOW : Aside (wr.ownsRow w.heap.size 9 1 (.slice ao out.length co) out.length (Hm.scells out)) := owns_base HO.out fun k hk => by
        have h1 := (HO.out.lt k hk).1
        have h2 := HW.out.2.2
        omega
      have HKW : Aside (Kept (fun _ => False) w wr) := HW.out.2.1.trans HKR.out (fun _ _ h => h)
      go_wp2_with fail
      go_ret
      exact ⟨_, out, rfl, HH.out, hfew, HOW.out, HKW.out⟩

end Go.Proofs.YtegnkfdbmmndaaaGreat
end

/- RefV -/
section
/- The document's answer: the tree's bits. -/
namespace Go.Proofs.YtegnkfdbmmndaaaGreat
open Go.RowKit

namespace Hm
/-- The bits that one beginning gives. -/
def colBits (cd : UInt8 → List Bool) (h : List Bool) (col : List UInt8) : List Bool := (col.filter fun b => begB (cd b) h).map fun b => (cd b).getD h.length false
theorem colBits_snoc (cd : UInt8 → List Bool) (h : List Bool) (col : List UInt8) (b : UInt8) : colBits cd h (col ++ [b]) = colBits cd h col ++ if begB (cd b) h then [(cd b).getD h.length false] else [] := by
  unfold colBits
  rw [List.filter_append, List.map_append]
  congr 1
  cases e : begB (cd b) h <;> simp [e]
theorem colBits_le (cd : UInt8 → List Bool) (h : List Bool) (col : List UInt8) : (colBits cd h col).length ≤ col.length := by
  unfold colBits
  rw [List.length_map]; exact List.length_filter_le _ _
theorem treeRef_take (cd : UInt8 → List Bool) (hs : List (List Bool)) (col : List UInt8) (i : Nat) (hi : i < hs.length) : treeRef cd (hs.take (i + 1)) col = treeRef cd (hs.take i) col ++ colBits cd (hs.getD i []) col := by
  unfold treeRef colBits
  rw [List.take_succ_eq_append_getElem hi, List.flatMap_append, List.getD_eq_getElem?_getD, List.getElem?_eq_getElem hi]
  simp
theorem treeRef_le (cd : UInt8 → List Bool) (hs : List (List Bool)) (col : List UInt8) : ∀ i, i ≤ hs.length → (treeRef cd (hs.take i) col).length ≤ i * col.length
  | 0, _ => by simp [treeRef]
  | i + 1, h => by
    have h1 := treeRef_le cd hs col i (by omega)
    have h2 := colBits_le cd (hs.getD i []) col
    rw [treeRef_take cd hs col i h, List.length_append, Nat.add_mul]
    omega
theorem pre_beg (c h : List Bool) : pre (bitStr h) (bitStr c) = begB c h := by
  unfold pre begB
  have e1 : (bitStr h).length = h.length := by simp [bitStr]
  have e2 : (bitStr c).length = c.length := by simp [bitStr]
  have e3 : (bitStr c).take h.length = bitStr (c.take h.length) := by simp [bitStr, List.map_take]
  rw [e1, e2, e3]
  by_cases k : h.length ≤ c.length
  · by_cases q : c.take h.length = h
    · rw [decide_eq_true k, decide_eq_true ⟨k, q⟩, q]; simp
    · rw [decide_eq_true k, decide_eq_false (fun z => q z.2), Bool.true_and, beq_eq_false_iff_ne]
      exact fun z => q (bitStr_inj _ _ z)
  · rw [decide_eq_false k, decide_eq_false (fun z => k z.1)]; rfl
end Hm

set_option maxRecDepth 20000 in
set_option maxHeartbeats 4000000 in
theorem refTree_any (s : ByteArray) (o : List (List Bool)) (w : World) (hol : o.length = 256) (hox : ∀ x ∈ o, x.length ≤ 255) (hs : s.size ≤ 6001)
    (hpf : ∀ b ∈ s.data.toList, ∀ b' h, h.length < (Hm.cdL o b').length → (Hm.cdL o b').take h.length = h → Hm.begB (Hm.cdL o b) h = true → h.length < (Hm.cdL o b).length) :
    Calls Tryz.prog 46 #[.string s, .agg (Hm.scells o).toArray] w fun e w' => ∃ hs : List (List Bool), Hm.HeadsOf (Hm.cdL o) hs ∧ e = .returned (.string ⟨(Hm.bitStr (Hm.treeRef (Hm.cdL o) hs s.data.toList)).toArray⟩) ∧ Kept (fun _ => False) w w' := by
  obtain ⟨i0, hi, hz0, hz1, hz2⟩ := info_parts info_u8
  have HSL : Aside (s.data.toList.length = s.size) := by show _ = _; simp
  have hgx : ∀ b : Nat, b < 256 → (o.getD b []).length ≤ 255 := fun b hb => by
    rw [List.getD_eq_getElem?_getD, List.getElem?_eq_getElem (show b < o.length from by omega)]; exact hox _ (List.getElem_mem _)
  have HG : Aside (∀ b : Nat, b < 256 → (o.getD b []).length ≤ 255) := hgx
  have HOL : Aside (o.length = 256) := hol
  have HPF : Aside _ := hpf
  have HHD := fun W => refHeads_any o W hol hox
  have HHE : Aside _ := HHD
  clear hgx hox hol hpf HHD
  go_enter Tryz.func46, Tryz.ntmps46
  go_upto_region 2 with fail
  have g0 : TR (w.alloc (.cells (Hm.scells o).toArray 113)) w.heap.size o := heap_alloc_new w _
  have hk0 : Kept (fun _ => False) w (w.alloc (.cells (Hm.scells o).toArray 113)) := (Kept.refl _ _).alloc _
  generalize w.alloc (.cells (Hm.scells o).toArray 113) = W at *
  have HW : Aside (TR W w.heap.size o ∧ Kept (fun _ => False) w W) := ⟨g0, hk0⟩
  obtain ⟨TT, hTT⟩ : ∃ a, a = (Hm.scells o).toArray := ⟨_, rfl⟩
  have hts : TT.size = 256 := by rw [hTT, List.size_toArray, Hm.scells_length]; exact HOL.out
  have hrow : W.heap[w.heap.size]? = some (.cells TT 113 (0, 0)) := by rw [hTT]; exact g0
  have hhe := HHE.out W
  rw [← hTT] at hhe ⊢
  clear g0 hk0 hTT
  go_wp2_with (first
    | (refine wpList_load_row rfl 113 _ rfl w.heap.size rfl 113 TT (0, 0) _ hrow Tryz.underlying113 rfl (by rw [hts]; exact info_sarr) ?_))
  refine hhe.mono ?_
  rintro e W2 ⟨v, hd, rfl, hho, hhl, hown, hkh⟩
  obtain ⟨ah, ch, hv, _⟩ := slice_shape hown
  subst hv
  have H2 : Aside (Hm.HeadsOf (Hm.cdL o) hd ∧ W2.ownsRow W.heap.size 9 1 (.slice ah hd.length ch) hd.length (Hm.scells hd) ∧ TR W2 w.heap.size o ∧ Kept (fun _ => False) w W2) := ⟨hho, hown, HW.out.1.kept hkh id, HW.out.2.trans hkh (fun _ _ h => h)⟩
  clear hho hown hkh hhe hrow hts
  go_wp2_with fail
  go_loopw [5, 7] (fun vs vi wr => ∃ i : Nat, i ≤ hd.length ∧ vi = .int .i64 i ∧ vs = .string ⟨(Hm.bitStr (Hm.treeRef (Hm.cdL o) (hd.take i) s.data.toList)).toArray⟩ ∧ Kept (fun _ => False) W2 wr) (fun _ vi _ => hd.length - (intOf vi).toNat)
  case atStart => exact ⟨0, by omega, rfl, by simp [Hm.treeRef, Hm.bitStr], Kept.refl _ _⟩
  case round =>
    obtain ⟨i, hil, rfl, rfl, hkr⟩ := hrel
    have HKR : Aside (Kept (fun _ => False) W2 wr) := hkr
    have HTL : Aside (∀ i, i ≤ hd.length → (Hm.treeRef (Hm.cdL o) (hd.take i) s.data.toList).length ≤ i * s.data.toList.length) := Hm.treeRef_le _ _ _
    by_cases hlt : i < hd.length
    · have hdec : decide ((i : Int) < (hd.length : Int)) = true := decide_eq_true (by omega)
      have hiI : (i : Int) < (hd.length : Int) := by omega
      obtain ⟨g, hg⟩ : ∃ g, ah = some ⟨g, 0, none⟩ := by
        rcases H2.out.2.1.2 with ⟨e, h0⟩ | ⟨g, cap, cur, e, _⟩
        · omega
        · exact ⟨g, (Value.slice.inj e).1⟩
      subst hg
      obtain ⟨h, hh⟩ : ∃ h, h = hd.getD i [] := ⟨_, rfl⟩
      obtain ⟨H, hH⟩ : ∃ H, H = (⟨(Hm.bitStr h).toArray⟩ : ByteArray) := ⟨_, rfl⟩
      have hca : wr.cell? ⟨g, i, none⟩ = some (.string H) := by
        have ho := hkr.owns H2.out.2.1 (fun _ _ h => h)
        rw [ho.cellAt i (by omega), hH, hh]
        simp [Hm.scells, List.getD_eq_getElem?_getD, List.getElem?_eq_getElem hlt]
      have hhm : h ∈ hd := by rw [hh]; exact Hm.getDl_mem hlt
      obtain ⟨b', hb1, hb2⟩ := (H2.out.1.mem h).1 hhm
      have hb255 : (Hm.cdL o b').length ≤ 255 := HG.out b'.toNat b'.toNat_lt
      have HH : Aside (H = (⟨(Hm.bitStr h).toArray⟩ : ByteArray) ∧ h = hd.getD i [] ∧ h.length < (Hm.cdL o b').length ∧ (Hm.cdL o b').take h.length = h) := ⟨hH, hh, hb1, hb2⟩
      have hHz : H.size = h.length := by rw [hH]; show (Hm.bitStr h).toArray.size = _; simp [Hm.bitStr]
      have hHl : h.length ≤ 255 := by omega
      clear hH hh hhm hb1 hb2 hb255 hkr
      obtain ⟨ts, hts⟩ : ∃ ts, ts = (⟨(Hm.bitStr (Hm.treeRef (Hm.cdL o) (hd.take i) s.data.toList)).toArray⟩ : ByteArray) := ⟨_, rfl⟩
      rw [← hts]
      have HTS : Aside (ts = (⟨(Hm.bitStr (Hm.treeRef (Hm.cdL o) (hd.take i) s.data.toList)).toArray⟩ : ByteArray)) := hts
      have htz : ts.size ≤ 400000000 := by
        have h1 := HTL.out i hil
        have h2 : ts.size = (Hm.treeRef (Hm.cdL o) (hd.take i) s.data.toList).length := by rw [hts]; show (Hm.bitStr _).toArray.size = _; simp [Hm.bitStr]
        rw [HSL.out] at h1
        have h3 : i * s.size ≤ 65792 * 6001 := Nat.mul_le_mul (by omega) hs
        omega
      clear hts
      go_wp2_with (at_make; refine wpList_make_own _ rfl _ _ 79 rfl W2.heap.size 5 i0 (.int .u8 0) 1 Tryz.underlying79 hi hz0 hz1 .i64 .i64 _ s.size rfl rfl rfl (by rw [hz2]; omega) (by unfold maxLen; omega) HKR.out.size ?_; intro w3 ho3 hg3)
      have hk3 : Kept (fun _ => False) W2 w3 := HKR.out.grown hg3 (fun k hk => by cases hk)
      clear hg3
      go_loopw [9, 10] (fun vb vk wx => ∃ k : Nat, k ≤ s.size ∧ vk = .int .i64 k ∧ Aside (wx.ownsRow W2.heap.size 5 1 vb (Hm.colBits (Hm.cdL o) h (s.data.toList.take k)).length (Hm.bcells (Hm.bitStr (Hm.colBits (Hm.cdL o) h (s.data.toList.take k))))) ∧ Kept (fun _ => False) W2 wx) (fun _ vk _ => s.size - (intOf vk).toNat)
      case atStart => exact ⟨0, by omega, rfl, ho3, hk3⟩
      case round =>
        clear ho3 hk3
        obtain ⟨k, hk, rfl, HOB, hkx⟩ := hrel
        have HKX : Aside (Kept (fun _ => False) W2 wr) := hkx
        obtain ⟨ab, cb, hvb, _⟩ := slice_shape HOB.out
        subst hvb
        have hcz : (Hm.colBits (Hm.cdL o) h (s.data.toList.take k)).length ≤ 6001 := by
          have h1 := Hm.colBits_le (Hm.cdL o) h (s.data.toList.take k)
          rw [List.length_take, HSL.out] at h1
          omega
        by_cases hlk : k < s.size
        · have hdec : decide ((k : Int) < (s.size : Int)) = true := decide_eq_true (by omega)
          have h8 := (s[k]'hlk).toNat_lt
          have hbI : ((s[k]'hlk).toNat : Int) < 256 := by omega
          have hkl : k < s.data.toList.length := by rw [HSL.out]; exact hlk
          have hge : s.data.toList[k]'hkl = s[k]'hlk := rfl
          have hmem : s[k]'hlk ∈ s.data.toList := by rw [← hge]; exact List.getElem_mem _
          obtain ⟨c, hc⟩ : ∃ c, c = Hm.cdL o (s[k]'hlk) := ⟨_, rfl⟩
          obtain ⟨C, hC⟩ : ∃ C, C = (⟨(Hm.bitStr c).toArray⟩ : ByteArray) := ⟨_, rfl⟩
          have hcc : wr.cell? ⟨w.heap.size, (s[k]'hlk).toNat, none⟩ = some (.string C) := by
            rw [(H2.out.2.2.1.kept hkx id).cell (by rw [HOL.out]; exact h8), hC, hc]; rfl
          have hcl : c.length ≤ 255 := by rw [hc]; exact HG.out _ h8
          have hCz : C.size = c.length := by rw [hC]; show (Hm.bitStr c).toArray.size = _; simp [Hm.bitStr]
          have hbg := fun W => refBegins_any C H W (by omega) (by omega)
          have hpb : Hm.pre H.data.toList C.data.toList = Hm.begB c h := by rw [HH.out.1, hC]; exact Hm.pre_beg c h
          rw [hpb] at hbg
          have HSN : Aside (Hm.colBits (Hm.cdL o) h (s.data.toList.take (k + 1)) = Hm.colBits (Hm.cdL o) h (s.data.toList.take k) ++ if Hm.begB c h then [c.getD h.length false] else []) := by
            show _ = _
            rw [List.take_succ_eq_append_getElem hkl, Hm.colBits_snoc, hge, ← hc]
          have HPL : Aside (Hm.begB c h = true → h.length < c.length) := fun hb => by
            rw [hc] at hb ⊢; exact HPF.out _ hmem b' h HH.out.2.2.1 HH.out.2.2.2 hb
          have HC : Aside (C = (⟨(Hm.bitStr c).toArray⟩ : ByteArray)) := hC
          clear hkx hpb hge hmem hkl hC hc
          cases hb : Hm.begB c h with
          | true =>
            rw [hb] at hbg
            have hlc : h.length < c.length := HPL.out hb
            have hlC : h.length < C.size := by omega
            have hlI : (h.length : Int) < (C.size : Int) := by omega
            have HBY : Aside (Hm.bcells (Hm.bitStr (Hm.colBits (Hm.cdL o) h (s.data.toList.take (k + 1)))) = Hm.bcells (Hm.bitStr (Hm.colBits (Hm.cdL o) h (s.data.toList.take k))) ++ [.int .u8 ((C[h.length]'hlC).toNat : Nat)] ∧ (Hm.colBits (Hm.cdL o) h (s.data.toList.take (k + 1))).length = (Hm.colBits (Hm.cdL o) h (s.data.toList.take k)).length + 1) := by
              have e := HSN.out
              rw [hb, if_pos rfl] at e
              rw [e]
              refine ⟨?_, by simp⟩
              have e2 : C[h.length]'hlC = if c.getD h.length false then 49 else 48 := by
                have hC := HC.out
                subst hC
                show (Hm.bitStr c).toArray[h.length]'_ = _
                rw [List.getElem_toArray]
                simp [Hm.bitStr, List.getD_eq_getElem?_getD, List.getElem?_eq_getElem hlc]
              rw [e2]
              simp [Hm.bcells, Hm.bitStr]
            clear HSN HPL hb hlc
            go_wp2_with fail
            refine (hbg _).mono ?_
            rintro e w4 ⟨rfl, hq⟩
            have HO4 : Aside (w4.ownsRow W2.heap.size 5 1 (.slice ab (Hm.colBits (Hm.cdL o) h (s.data.toList.take k)).length cb) (Hm.colBits (Hm.cdL o) h (s.data.toList.take k)).length (Hm.bcells (Hm.bitStr (Hm.colBits (Hm.cdL o) h (s.data.toList.take k))))) := by
              obtain ⟨q, rfl⟩ := hq
              exact HOB.out
            have hk4 : Kept (fun _ => False) W2 w4 := by
              obtain ⟨q, rfl⟩ := hq
              exact HKX.out.drewN q
            clear hq hbg HOB hcc
            go_wp2_with (at_builtin; refine wpList_append_mv _ rfl (.tmp 43) (.tmp 48) 79 rfl W2.heap.size 5 i0 (.int .u8 0) 1 1 Tryz.underlying79 hi hz0 hz1 hz2 rfl (by decide) _ _ _ rfl (HO4.out.alloc _) ⟨w4.heap.size, 0, none⟩ 1 1 [.int .u8 ((C[h.length]'hlC).toNat : Nat)] rfl rfl ?c1 ?c2 ?c3 ?c4 ?c5 ?_)
            case c1 => exact cell_one_new _ _ _
            case c2 => intro u hu; simp at hu; subst hu; rfl
            case c3 => unfold maxLen; omega
            case c4 => omega
            case c5 => have := hk4.size; simp; omega
            intro v5 w5 ho5 hg5 hm5
            have hk5 : Kept (fun _ => False) W2 w5 := (hk4.alloc _).grown hg5 (fun j hj => .inl (HO4.out.lt j hj).1)
            have HO5 : Aside (w5.ownsRow W2.heap.size 5 1 v5 ((Hm.colBits (Hm.cdL o) h (s.data.toList.take k)).length + 1) (Hm.bcells (Hm.bitStr (Hm.colBits (Hm.cdL o) h (s.data.toList.take k))) ++ [.int .u8 ((C[h.length]'hlC).toNat : Nat)])) := ho5
            clear ho5 hg5 hm5 HO4 hk4
            go_wp2_with fail
            go_roundw
            case rel =>
              refine ⟨k + 1, by omega, by go_num, ?_, hk5⟩
              show World.ownsRow _ _ _ _ _ _ _
              rw [HBY.out.1, HBY.out.2]; exact HO5.out
            case measure => simp [intOf]; omega
          | false =>
            rw [hb] at hbg
            have HSN2 : Aside (Hm.colBits (Hm.cdL o) h (s.data.toList.take (k + 1)) = Hm.colBits (Hm.cdL o) h (s.data.toList.take k)) := by
              show _ = _
              rw [HSN.out, hb]; simp
            clear HSN HPL hb
            go_wp2_with fail
            refine (hbg _).mono ?_
            rintro e w4 ⟨rfl, hq⟩
            have HO4 : Aside (w4.ownsRow W2.heap.size 5 1 (.slice ab (Hm.colBits (Hm.cdL o) h (s.data.toList.take k)).length cb) (Hm.colBits (Hm.cdL o) h (s.data.toList.take k)).length (Hm.bcells (Hm.bitStr (Hm.colBits (Hm.cdL o) h (s.data.toList.take k))))) := by
              obtain ⟨q, rfl⟩ := hq
              exact HOB.out
            have hk4 : Kept (fun _ => False) W2 w4 := by
              obtain ⟨q, rfl⟩ := hq
              exact HKX.out.drewN q
            clear hq hbg HOB hcc
            go_wp2_with fail
            go_roundw
            case rel =>
              refine ⟨k + 1, by omega, by go_num, ?_, hk4⟩
              show World.ownsRow _ _ _ _ _ _ _
              rw [HSN2.out]; exact HO4.out
            case measure => simp [intOf]; omega
        · have hks : k = s.size := by omega
          have hdec : decide ((k : Int) < (s.size : Int)) = false := decide_eq_false (by omega)
          have hcv := convert_own HOB.out
          obtain ⟨B, hB⟩ : ∃ B, B = (⟨(Hm.bitStr (Hm.colBits (Hm.cdL o) h (s.data.toList.take k))).toArray⟩ : ByteArray) := ⟨_, rfl⟩
          have hBz : B.size ≤ 6001 := by
            have : B.size = (Hm.colBits (Hm.cdL o) h (s.data.toList.take k)).length := by rw [hB]; show (Hm.bitStr _).toArray.size = _; simp [Hm.bitStr]
            omega
          rw [← hB] at hcv
          have HR : Aside (ts ++ B = (⟨(Hm.bitStr (Hm.treeRef (Hm.cdL o) (hd.take (i + 1)) s.data.toList)).toArray⟩ : ByteArray)) := by
            show _ = _
            have hT : s.data.toList.take k = s.data.toList := List.take_of_length_le (by rw [HSL.out]; omega)
            rw [HTS.out, hB, hT, str_two, Hm.treeRef_take _ _ _ _ hlt, Hm.bitStr_append, ← HH.out.2.1]
          have hsm : ¬ 9223372036854775807 < ts.size + B.size := by omega
          clear hB hkx hks
          go_wp2_with fail
          go_roundw
          case rel => exact ⟨i + 1, by omega, by go_num, by rw [HR.out], HKX.out⟩
          case measure => simp [intOf]; omega
    · have hih : i = hd.length := by omega
      have hdec : decide ((i : Int) < (hd.length : Int)) = false := decide_eq_false (by omega)
      have HR : Aside (hd.take i = hd) := by show _ = _; rw [hih, List.take_length]
      have HKW : Aside (Kept (fun _ => False) w wr) := H2.out.2.2.2.trans hkr (fun _ _ h => h)
      clear hih hkr
      go_wp2_with fail
      go_ret
      exact ⟨hd, H2.out.1, by rw [HR.out]; rfl, HKW.out⟩

end Go.Proofs.YtegnkfdbmmndaaaGreat
end

/- RefW -/
section
/- No code begins another: what the document's tree wants; and its bits are the nodes' bits. -/
namespace Go.Proofs.YtegnkfdbmmndaaaGreat
namespace Hm

theorem Coded.prefixes {L : List Nat} (hC : Coded L) {b : UInt8} (hb : b ∈ orderOf L) {b' : UInt8} {h : List Bool} (h1 : h.length < (cdOf (lnB L) (numB L) b').length) (h2 : (cdOf (lnB L) (numB L) b').take h.length = h) (hg : begB (cdOf (lnB L) (numB L) b) h = true) : h.length < (cdOf (lnB L) (numB L) b).length := by
  obtain ⟨N, _, hE⟩ := hC.ends
  have h0 : orderOf L ≠ [] := fun e => by rw [e] at hb; simp at hb
  have hsh := hE.nodes
  have hlen := hE.len
  have hz := hE.side0 h0
  have hk := hC.numk
  have hh := hsh.heads hk (fun j hj => hz j (by rw [hlen] at hj; exact hj)) hC.num_lt (fun b hb => (hC.mem b).2 hb)
  have hm := (hh.mem h).2 ⟨b', h1, h2⟩
  unfold headsOf at hm
  obtain ⟨j, hj, rfl⟩ := List.mem_map.1 hm
  have hj' : j < (shapeTo (lnB L) (orderOf L) (2 * N)).1.length := by simpa using hj
  rw [hsh.begins hk hC.num_lt hj' hb (hC.pos b hb)] at hg
  have := (of_decide_eq_true hg).1
  rw [headBits_length]
  show _ < (headBits _ _).length
  rw [headBits_length]
  exact this
theorem HeadsOf.congr {cd cd' : UInt8 → List Bool} (e : ∀ b, cd b = cd' b) {hs : List (List Bool)} (h : HeadsOf cd hs) : HeadsOf cd' hs := by
  have : cd = cd' := funext e
  rw [← this]; exact h
/-- The codes that the document makes, byte by byte. -/
theorem cdL_coded {L : List Nat} (hC : Coded L) {o : List (List Bool)} {ok : Bool} (h : CodesAre L o ok) : cdL o = cdOf (lnB L) (numB L) := funext (codes_coded hC h).2
theorem cdL_short {L : List Nat} (hC : Coded L) {o : List (List Bool)} {ok : Bool} (h : CodesAre L o ok) (ho : o.length = 256) : ∀ x ∈ o, x.length ≤ 255 := by
  intro x hx
  obtain ⟨i, hi, rfl⟩ := List.getElem_of_mem hx
  have h1 := congrFun (cdL_coded hC h) (UInt8.ofNat i)
  have h2 : (UInt8.ofNat i).toNat = i := by rw [UInt8.toNat_ofNat']; omega
  unfold cdL at h1
  rw [h2, List.getD_eq_getElem?_getD, List.getElem?_eq_getElem hi] at h1
  simp only [Option.getD_some] at h1
  rw [h1]
  show (headBits _ _).length ≤ 255
  rw [headBits_length]
  exact hC.le255 _
/-- How many bits the tree has: no more than codes of 32 bits each. -/
theorem begB_take (c h : List Bool) (k : begB c h = true) : h.length ≤ c.length ∧ c.take h.length = h := of_decide_eq_true k
end Hm
open Go.RowKit

/-- The document's tree, of codes that the document makes of a text's lengths. -/
theorem refTree_coded (s : ByteArray) (L : List Nat) (o : List (List Bool)) (ok : Bool) (N : Nat) (w : World) (hC : Hm.Coded L) (hE : Hm.Ends 32 (Hm.lnB L) (Hm.orderOf L) N) (ho : o.length = 256) (h : Hm.CodesAre L o ok) (hs : s.size ≤ 6001) (hm : ∀ b ∈ s.data.toList, b ∈ Hm.orderOf L) :
    Calls Tryz.prog 46 #[.string s, .agg (Hm.scells o).toArray] w fun e w' => e = .returned (.string ⟨(Hm.bitStr (Hm.trOf L N s.data.toList)).toArray⟩) ∧ Kept (fun _ => False) w w' := by
  have e := Hm.cdL_coded hC h
  refine (refTree_any s o w ho (Hm.cdL_short hC h ho) hs ?_).mono ?_
  · intro b hb b' hd h1 h2 h3
    rw [e] at h1 h2 h3 ⊢
    exact hC.prefixes (hm b hb) h1 h2 h3
  · rintro en w' ⟨hd, hh, rfl, hk⟩
    rw [e] at hh ⊢
    rw [Hm.trOf_ref hC hE hm hh]
    exact ⟨rfl, hk⟩

end Go.Proofs.YtegnkfdbmmndaaaGreat
end
