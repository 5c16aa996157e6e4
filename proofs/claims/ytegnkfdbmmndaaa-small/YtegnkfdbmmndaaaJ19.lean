import Derived.Test.YtegnkfdbmmndaaaJ18

/- Small -/
section
/- The walk of Small: a file of one byte again and again is packed into at most half of it and a hundred bytes, and one that is too big is refused. -/
namespace Go.Proofs.Ytegnkfdbmmndaaa
open Go.RowKit

namespace Hm
/-- k times a byte, then noughts. -/
def fillTo (m cn k : Nat) : List UInt8 := List.replicate k (UInt8.ofNat cn) ++ List.replicate (m - k) 0
theorem fillTo_length (m cn k : Nat) (h : k ≤ m) : (fillTo m cn k).length = m := by simp [fillTo]; omega
theorem fillTo_succ (m cn k : Nat) (h : k < m) : fillTo m cn (k + 1) = (fillTo m cn k).set k (UInt8.ofNat cn) := by
  have hl : (List.replicate k (UInt8.ofNat cn)).length = k := by simp
  unfold fillTo
  rw [List.set_append_right _ _ (by omega), hl, Nat.sub_self, show m - k = (m - (k + 1)) + 1 from by omega, List.replicate_succ (n := m - (k + 1)), List.replicate_succ', List.append_assoc]
  rfl
theorem shape_one_len (ln : UInt8 → Nat) (b : UInt8) (hb : ln b = 1) : ∀ t, (shapeTo ln [b] (t + 1)).1.length = 1 ∧ (shapeTo ln [b] (t + 1)).2 = []
  | 0 => by
    have e1 : shapeTo ln [b] 1 = ([{ b0 := { whole := true, val := b } }], []) := by
      show slotStep ln 0 0 [{}] [b] = _
      show (if ln b = (ndAt [{}] 0).depth + 1 then (putBr [{}] 0 0 { whole := true, val := b }, ([] : List UInt8)) else _) = _
      rw [if_pos (by exact hb)]; rfl
    rw [e1]; exact ⟨rfl, rfl⟩
  | t + 1 => by
    obtain ⟨h1, h2⟩ := shape_one_len ln b hb t
    have e : shapeTo ln [b] (t + 1 + 1) = ((shapeTo ln [b] (t + 1)).1, []) := by
      show slotStep ln ((t + 1) / 2) ((t + 1) % 2) (shapeTo ln [b] (t + 1)).1 (shapeTo ln [b] (t + 1)).2 = _
      rw [h2]; rfl
    rw [e]; exact ⟨h1, rfl⟩
theorem arch_size {m : Nat} {nm ct : ByteArray} {b : UInt8} (h1 : 1000 ≤ m) (h2 : m ≤ 3000) (hn : nm.size = 1) (ht : textOf [(nm, ct)] = List.replicate m b) {s : List UInt8} (hs : IsArch [(nm, ct)] s) : s.length ≤ m / 2 + 100 := by
  obtain ⟨ps, N, hsrt, h0, hE, rfl⟩ := hs.is
  have htl : (textOf [(nm, ct)]).length = m := by rw [ht, List.length_replicate]
  have hC := lens_coded (textOf [(nm, ct)]) (by omega)
  have hmem := lens_mem (textOf [(nm, ct)]) (by omega)
  have hall : ∀ x ∈ orderOf (lens (textOf [(nm, ct)])), x = b := fun x hx => by
    have := (hmem x).1 hx
    rw [ht] at this
    exact List.eq_of_mem_replicate this
  have hb : b ∈ orderOf (lens (textOf [(nm, ct)])) := (hmem b).2 (by rw [ht]; exact List.mem_replicate.2 ⟨by omega, rfl⟩)
  have hnd := hC.nodup
  have ho : orderOf (lens (textOf [(nm, ct)])) = [b] := by
    generalize orderOf (lens (textOf [(nm, ct)])) = o at *
    cases o with
    | nil => simp at hb
    | cons x r =>
      have hx := hall x (List.mem_cons_self ..)
      cases r with
      | nil => rw [hx]
      | cons y q =>
        have hy := hall y (by simp)
        rw [hx, hy] at hnd
        simp at hnd
  have hln : lnB (lens (textOf [(nm, ct)])) b = 1 := by
    rcases hC.kind with c | ⟨_, c⟩ | ⟨c, _⟩
    · rw [ho] at c; simp at c
    · exact c b (by rw [ho]; simp)
    · rw [ho] at c; simp at c
  have hN : N = 1 := by
    have := hE.len
    rw [ho] at this
    have h3 := (shape_one_len (lnB (lens (textOf [(nm, ct)]))) b hln (2 * N - 1)).1
    rw [show 2 * N - 1 + 1 = 2 * N from by omega] at h3
    omega
  have hcl := colOf_length hsrt.perm
  rw [htl] at hcl
  have htr : (trOf (lens (textOf [(nm, ct)])) N (colOf (textOf [(nm, ct)]) ps)).length ≤ m := by
    unfold trOf
    rw [List.length_map]
    have := treeBits_le (lnB (lens (textOf [(nm, ct)]))) (numB (lens (textOf [(nm, ct)]))) (shapeTo (lnB (lens (textOf [(nm, ct)]))) (orderOf (lens (textOf [(nm, ct)]))) (2 * N)).1 (colOf (textOf [(nm, ct)]) ps) N
    rw [hcl, hN] at this
    rw [hN]
    omega
  have hcd : (codedOf (lens (textOf [(nm, ct)]))).length = 1 := by rw [← orderOf_length _ hC.le255, ho]; rfl
  have e1 : (nameBytes [(nm, ct)]).length = 2 := by
    have : nm.data.toList.length = nm.size := by simp
    simp only [nameBytes, List.flatMap_cons, List.flatMap_nil, List.append_nil, List.length_cons]
    omega
  have e2 : (endsBits (endsOf [(nm, ct)]) m).length ≤ m + 20 := by
    rw [endsBits_length, endsOf_length]
    have h3 := lowW_le 1 m (by omega)
    have h4 : m / 2 ^ lowW 1 m ≤ m := Nat.div_le_self _ _
    simp only [List.length_cons, List.length_nil, Nat.zero_add, Nat.one_mul]
    omega
  have e3 : Lib.bitLen (m / 8) ≤ 9 := Lib.bitLen_le _ 9 (by omega) (by omega)
  have e4 : (m / 8 + 1) * Lib.bitLen (m / 8) ≤ (m / 8 + 1) * 9 := Nat.mul_le_mul_left _ e3
  have e5 : (samples ps).length = m + 1 + (m / 8 + 1) * Lib.bitLen (m / 8) := samples_length (by have := hsrt.perm; rwa [htl] at this)
  unfold archOf archBody
  simp only [List.length_append, leBytes_length, packBits_length, lenBytes_length, e1, hcd, htl, e5, List.length_cons, List.length_nil]
  omega
end Hm

theorem made_bytes (m : Nat) : (madeCells (Value.int .u8 0).cells (m * 1)).toList = Hm.bcells (Hm.fillTo m 0 0) := by
  rw [Nat.mul_one, show (Value.int .u8 0).cells = #[Value.int .u8 0] from rfl, toList_madeCells_one]
  simp [Hm.bcells, Hm.fillTo]
theorem made_fill (m cn : Nat) : Hm.fillTo m 0 0 = Hm.fillTo m cn 0 := by simp [Hm.fillTo]

def nmA : ByteArray := ⟨#[97]⟩
def nmB : ByteArray := ⟨#[98]⟩
theorem ck_a (ct : ByteArray) (h : ct.size ≤ 3000) : Hm.ckFile nmA ct ⟨#[]⟩ = 0 := by
  have h1 : Hm.leB nmA ⟨#[]⟩ = false := by decide +kernel
  have h2 : nmA.size = 1 := rfl
  rw [Hm.ckFile, if_neg (by omega), h1, if_neg (by simp), if_neg (by omega)]
theorem ck_b (ct : ByteArray) (h : 3000 < ct.size) : Hm.ckFile nmB ct nmA = 4 := by
  have h1 : Hm.leB nmB nmA = false := by decide +kernel
  have h2 : nmB.size = 1 := rfl
  rw [Hm.ckFile, if_neg (by omega), h1, if_neg (by simp), if_pos h]
theorem ckAll_one (ct : ByteArray) (h : ct.size ≤ 3000) : Hm.ckAll [(nmA, ct)] = 0 := by
  rw [Hm.ckAll, if_neg (by simp), Hm.ckLoop, if_pos (ck_a ct h), Hm.ckLoop, if_neg (show ¬ 6000 < 0 + ct.size by omega)]
theorem ckAll_two (cx ct : ByteArray) (hx : cx.size ≤ 3000) (h : 3000 < ct.size) : Hm.ckAll [(nmA, cx), (nmB, ct)] = 4 := by
  rw [Hm.ckAll, if_neg (by simp), Hm.ckLoop, if_pos (ck_a cx hx), Hm.ckLoop, ck_b ct h, if_neg (by decide)]

theorem files_one (T : TypeId) (ct : ByteArray) (W : World) : FilesAt (W.alloc (.cells #[.string ⟨#[97]⟩, .string ct] T)) (some ⟨W.heap.size, 0, none⟩) [(nmA, ct)] := by
  intro i hi
  obtain rfl : i = 0 := by simp at hi; exact hi
  have h := heap_alloc_new W (.cells #[.string ⟨#[97]⟩, .string ct] T)
  exact ⟨_, 0, rfl, lt_of_block h, cell_of_row _ _ 0 _ _ _ h, cell_of_row _ _ 1 _ _ _ h⟩
theorem files_two (T : TypeId) (ct : ByteArray) (W : World) : FilesAt (W.alloc (.cells #[.string ⟨#[97]⟩, .string ⟨#[120]⟩, .string ⟨#[98]⟩, .string ct] T)) (some ⟨W.heap.size, 0, none⟩) [(nmA, ⟨#[120]⟩), (nmB, ct)] := by
  intro i hi
  have h := heap_alloc_new W (.cells #[.string ⟨#[97]⟩, .string ⟨#[120]⟩, .string ⟨#[98]⟩, .string ct] T)
  obtain rfl | rfl : i = 0 ∨ i = 1 := by simp at hi; omega
  · exact ⟨_, 0, rfl, lt_of_block h, cell_of_row _ _ 0 _ _ _ h, cell_of_row _ _ 1 _ _ _ h⟩
  · exact ⟨_, 0, rfl, lt_of_block h, cell_of_row _ _ 2 _ _ _ h, cell_of_row _ _ 3 _ _ _ h⟩

theorem fillTo_all (m cn : Nat) : Hm.fillTo m cn m = List.replicate m (UInt8.ofNat cn) := by simp [Hm.fillTo]
theorem pack_first (T : TypeId) (m cn : Nat) (hm1 : 1000 ≤ m) (hm2 : m ≤ 3000) (_hcn : cn < 256) (W : World) :
    Calls Try.prog 5 #[.slice (some ⟨W.heap.size, 0, none⟩) 1 1] (W.alloc (.cells #[.string ⟨#[97]⟩, .string ⟨(Hm.fillTo m cn m).toArray⟩] T)) fun e w' =>
      ∃ s : ByteArray, e = .returned (.tuple #[.string s, .int .i64 0]) ∧ s.size ≤ m / 2 + 100 ∧ Kept (fun _ => False) W w' := by
  have hcs : (⟨(Hm.fillTo m cn m).toArray⟩ : ByteArray).size = m := by
    show (Hm.fillTo m cn m).toArray.size = m
    rw [List.size_toArray, Hm.fillTo_length _ _ _ (Nat.le_refl _)]
  have ht : Hm.textOf [(nmA, ⟨(Hm.fillTo m cn m).toArray⟩)] = List.replicate m (UInt8.ofNat cn) := by
    rw [← fillTo_all]; simp [Hm.textOf]
  have hck := ckAll_one ⟨(Hm.fillTo m cn m).toArray⟩ (by omega)
  refine (pack_any (some ⟨W.heap.size, 0, none⟩) 1 [(nmA, ⟨(Hm.fillTo m cn m).toArray⟩)] _ (files_one T _ W) (fun a ha => ?_) (by simp) (fun f hf => ?_)).mono ?_
  · cases ha; exact lt_of_block (heap_alloc_new W _)
  · rw [List.mem_singleton] at hf; subst hf; exact ⟨show (1 : Nat) ≤ _ by omega, by show (⟨(Hm.fillTo m cn m).toArray⟩ : ByteArray).size ≤ _; omega⟩
  · rintro e w' ⟨hsay, hk⟩
    rcases hsay with ⟨hne, _⟩ | ⟨_, s, hs, rfl⟩
    · exact absurd hck hne
    · refine ⟨⟨s.toArray⟩, rfl, ?_, ((Kept.refl _ W).alloc _).trans hk (fun _ _ h => h)⟩
      have := Hm.arch_size hm1 hm2 (nm := nmA) rfl ht hs
      show s.toArray.size ≤ _
      rw [List.size_toArray]; exact this
theorem pack_second (T : TypeId) (ct : ByteArray) (h : 3000 < ct.size) (h2 : ct.size ≤ 100000) (W : World) :
    Calls Try.prog 5 #[.slice (some ⟨W.heap.size, 0, none⟩) 2 2] (W.alloc (.cells #[.string ⟨#[97]⟩, .string ⟨#[120]⟩, .string ⟨#[98]⟩, .string ct] T)) fun e w' =>
      e = .returned (.tuple #[.string ⟨#[]⟩, .int .i64 4]) ∧ Kept (fun _ => False) W w' := by
  have hck := ckAll_two ⟨#[120]⟩ ct (show (1 : Nat) ≤ 3000 by omega) h
  refine (pack_any (some ⟨W.heap.size, 0, none⟩) 2 [(nmA, ⟨#[120]⟩), (nmB, ct)] _ (files_two T _ W) (fun a ha => ?_) (by simp) (fun f hf => ?_)).mono ?_
  · cases ha; exact lt_of_block (heap_alloc_new W _)
  · simp only [List.mem_cons, List.not_mem_nil, or_false] at hf
    rcases hf with rfl | rfl
    · exact ⟨show (1 : Nat) ≤ _ by omega, show (1 : Nat) ≤ _ by omega⟩
    · exact ⟨show (1 : Nat) ≤ _ by omega, show ct.size ≤ _ by omega⟩
  · rintro e w' ⟨hsay, hk⟩
    rcases hsay with ⟨_, rfl⟩ | ⟨h0, _⟩
    · exact ⟨by rw [hck], ((Kept.refl _ W).alloc _).trans hk (fun _ _ h => h)⟩
    · rw [hck] at h0; cases h0

set_option maxHeartbeats 4000000 in
set_option maxRecDepth 100000 in
theorem small_walk (c n over : Int) (w : World) (_hc1 : -9223372036854775808 ≤ c) (_hc2 : c ≤ 9223372036854775807) (hn1 : -9223372036854775808 ≤ n) (hn2 : n ≤ 9223372036854775807) (ho1 : -9223372036854775808 ≤ over) (ho2 : over ≤ 9223372036854775807) :
    Calls Try.prog 3 #[.int .i64 c, .int .i64 n, .int .i64 over] w fun e w' => e = .returned (.bool true) ∧ Kept (fun _ => False) w w' := by
  obtain ⟨i0, hi, hz0, hz1, hz2⟩ := info_parts info_u8
  obtain ⟨cn, hcn, hcE⟩ : ∃ cn : Nat, cn < 256 ∧ c % 256 = (cn : Int) := ⟨(c % 256).toNat, by omega, by omega⟩
  have hp1 := pick_any n 2001 w hn1 hn2 (by omega) (by omega)
  go_enter Try.func3, Try.ntmps3
  go_wp2_with fail
  refine hp1.mono ?_
  rintro e w1 ⟨⟨r, rfl, hr0, hr1⟩, hw⟩
  subst hw
  clear hp1
  obtain ⟨m, hm⟩ : ∃ m : Nat, (m : Int) = 1000 + r := ⟨(1000 + r).toNat, by omega⟩
  have hm1 : 1000 ≤ m := by omega
  have hm2 : m ≤ 3000 := by omega
  have hmr : 1000 + r = (m : Int) := hm.symm
  clear hm hr0 hr1
  go_wp2_with (at_make; refine wpList_make_full _ rfl (.tmp 18) (.tmp 18) 23 rfl w1.heap.size 5 i0 (.int .u8 0) 1 Try.underlying23 hi hz0 hz1 .i64 .i64 _ _ m rfl rfl (by omega) (by omega) (by rw [hz2]; omega) (by unfold maxLen; omega) (Nat.le_refl _) ?_; intro w2 ho2' hg2)
  have hr1 : w2.ownsRow w1.heap.size 5 1 (.slice (some ⟨w1.heap.size, 0, none⟩) m m) m (Hm.bcells (Hm.fillTo m cn 0)) := by
    rw [← made_fill, ← made_bytes]; exact ho2'
  have hk1 : Kept (fun _ => False) w1 w2 := (Kept.refl _ _).grown hg2 (fun k hk => by cases hk)
  clear ho2' hg2
  go_loopw [9] (fun i wr => ∃ k : Nat, k ≤ m ∧ i = .int .i64 k ∧ wr.ownsRow w1.heap.size 5 1 (.slice (some ⟨w1.heap.size, 0, none⟩) m m) m (Hm.bcells (Hm.fillTo m cn k)) ∧ Kept (fun _ => False) w1 wr) (fun i _ => m - (intOf i).toNat)
  case atStart => exact ⟨0, Nat.zero_le _, rfl, hr1, hk1⟩
  case round =>
    clear hr1 hk1
    obtain ⟨k, hk, rfl, hr, hkr⟩ := hrel
    by_cases hlt : k < m
    · have hdec : decide ((k : Int) < (m : Int)) = true := by simp; omega
      have hc : wr.cell? ⟨w1.heap.size, k, none⟩ = some (.int .u8 0) := by
        rw [hr.cellAt k (by omega)]
        simp only [Hm.bcells, List.getElem?_map, Hm.fillTo]
        rw [List.getElem?_append_right (by simp), List.length_replicate, Nat.sub_self, List.getElem?_replicate, if_pos (by omega)]
        rfl
      have hf : wr.frozen? ⟨w1.heap.size, k, none⟩ = false := hr.frozenAt _
      have HS := (hr.stored k (.int .u8 (cn : Nat))).1
      have H2 : Hid ((wr.setCell ⟨w1.heap.size, k, none⟩ (.int .u8 (cn : Nat))).ownsRow w1.heap.size 5 1 (.slice (some ⟨w1.heap.size, 0, none⟩) m m) m (Hm.bcells (Hm.fillTo m cn (k + 1)))) := by
        show World.ownsRow _ _ _ _ _ _ _
        rw [Hm.fillTo_succ _ _ _ hlt]
        have e2 : Hm.bcells ((Hm.fillTo m cn k).set k (UInt8.ofNat cn)) = (Hm.bcells (Hm.fillTo m cn k)).set k (.int .u8 (cn : Nat)) := by
          rw [Hm.bcells, List.map_set, Hm.u8cell hcn]; rfl
        rw [e2]; exact HS
      clear HS hr
      go_wp2
      go_roundw
      case rel => exact ⟨k + 1, by omega, by go_num, H2.out, hkr.setCell (.inl (Nat.le_refl _)) _⟩
      case measure => simp [intOf]; omega
    · obtain rfl : k = m := by omega
      have hdec : decide ((k : Int) < (k : Int)) = false := by simp
      have hcv := convert_own hr
      go_wp2_with fail
      refine (pack_first 28 k cn hm1 hm2 hcn wr).mono ?_
      rintro e w3 ⟨s, rfl, hs, hk3⟩
      have hk13 := hkr.trans hk3 (fun _ _ h => h)
      have hlen : decide (((k : Int) / 2) + 100 < (s.size : Int)) = false := by simp; omega
      have hp2 := pick_any over 100 w3 ho1 ho2 (by omega) (by omega)
      clear hr hcv hkr hk3 hs hdec hk
      go_wp2_with fail
      refine hp2.mono ?_
      rintro e w4 ⟨⟨r2, rfl, hr20, hr21⟩, hw4⟩
      subst hw4
      clear hp2
      obtain ⟨q, hq⟩ : ∃ q : Nat, (q : Int) = 3001 + r2 := ⟨(3001 + r2).toNat, by omega⟩
      have hq1 : 3001 ≤ q := by omega
      have hq2 : q ≤ 3100 := by omega
      have hqr : 3001 + r2 = (q : Int) := hq.symm
      clear hq hr20 hr21
      go_wp2_with (at_make; refine wpList_make_full _ rfl (.tmp 50) (.tmp 50) 23 rfl w4.heap.size 5 i0 (.int .u8 0) 1 Try.underlying23 hi hz0 hz1 .i64 .i64 _ _ q rfl rfl (by omega) (by omega) (by rw [hz2]; omega) (by unfold maxLen; omega) (Nat.le_refl _) ?_; intro w5 ho5 hg5; rw [made_bytes] at ho5; have hcv5 := convert_own ho5)
      refine (pack_second 28 ⟨(Hm.fillTo q 0 0).toArray⟩ ?_ ?_ w5).mono ?_
      · show 3000 < (Hm.fillTo q 0 0).toArray.size
        rw [List.size_toArray, Hm.fillTo_length _ _ _ (Nat.zero_le _)]; omega
      · show (Hm.fillTo q 0 0).toArray.size ≤ 100000
        rw [List.size_toArray, Hm.fillTo_length _ _ _ (Nat.zero_le _)]; omega
      rintro e w6 ⟨rfl, hk6⟩
      have hk15 : Kept (fun _ => False) w1 w5 := hk13.trans ((Kept.refl (fun _ => False) _).grown hg5 (fun k hk => by cases hk)) (fun _ _ h => h)
      have hk16 := hk15.trans hk6 (fun _ _ h => h)
      clear ho5 hg5 hcv5 hk15 hk6 hk13
      go_wp2
      go_ret
      exact ⟨rfl, hk16⟩

end Go.Proofs.Ytegnkfdbmmndaaa
end
