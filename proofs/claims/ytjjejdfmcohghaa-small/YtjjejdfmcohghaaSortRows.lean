/- The rows in order: the rounds of the sort by doubling. -/
import Derived.Test.YtjjejdfmcohghaaSortCall
import Derived.Test.YtjjejdfmcohghaaRank
namespace Go.Proofs.Ytjjejdfmcohghaa
open Go.RowKit

namespace Hm
/-- What stands in the two rows behind k rounds. -/
def SortSt (s : List UInt8) : Nat → List Nat → List Nat → Prop
  | 0, ps, rs => ps = List.range (s.length + 1) ∧ rs = ranks0 s
  | k + 1, ps, rs => ∃ ps0 rs0, SortSt s k ps0 rs0 ∧ ps.Perm ps0 ∧ InOrder (pairsOf rs0 (2 ^ k)) ps ∧ rs = rankBy ps (pairsOf rs0 (2 ^ k))
/-- The places of the rows, as the program has them. -/
def Places (s : List UInt8) (ps : List Nat) : Prop := ∃ k rs, s.length < 2 ^ k ∧ SortSt s k ps rs
theorem SortSt.perm {s : List UInt8} {k : Nat} : ∀ {ps rs : List Nat}, SortSt s k ps rs → ps.Perm (List.range (s.length + 1)) := by
  induction k with
  | zero => intro ps rs h; rw [h.1]
  | succ k ih => rintro ps rs ⟨ps0, rs0, h, hp, _⟩; exact hp.trans (ih h)
theorem SortSt.mem {s : List UInt8} {k : Nat} {ps rs : List Nat} (h : SortSt s k ps rs) : ∀ x ∈ ps, x < s.length + 1 := fun x hx => by
  have := h.perm.subset hx
  simpa using this
theorem SortSt.len {s : List UInt8} {k : Nat} {ps rs : List Nat} (h : SortSt s k ps rs) : ps.length = s.length + 1 := by
  have := h.perm.length_eq; simpa using this
theorem SortSt.ranks {s : List UInt8} {k : Nat} {ps rs : List Nat} (h : SortSt s k ps rs) : rs.length = s.length + 1 ∧ ∀ x ∈ rs, x ≤ s.length + 256 := by
  cases k with
  | zero =>
    obtain ⟨_, rfl⟩ := h
    refine ⟨by simp [ranks0], fun x hx => ?_⟩
    unfold ranks0 at hx
    rcases List.mem_append.1 hx with h | h
    · obtain ⟨b, _, rfl⟩ := List.mem_map.1 h
      have := b.toNat_lt; omega
    · simp at h; omega
  | succ k =>
    have hl := h.len
    obtain ⟨ps0, rs0, _, _, _, rfl⟩ := h
    refine ⟨by rw [rankBy, rankTo_length, hl], fun x hx => ?_⟩
    have := rankTo_le _ _ _ x hx
    omega
theorem Places.perm {s : List UInt8} {ps : List Nat} (h : Places s ps) : ps.Perm (List.range (s.length + 1)) := by
  obtain ⟨k, rs, _, h⟩ := h; exact h.perm
theorem range_set (n k : Nat) (h : k < n) : (List.range k ++ List.replicate (n - k) 0).set k k = List.range (k + 1) ++ List.replicate (n - (k + 1)) 0 := by
  have hl : (List.range k).length = k := by simp
  rw [List.set_append_right _ _ (by omega), hl, Nat.sub_self, show n - k = (n - (k + 1)) + 1 from by omega, List.replicate_succ, List.range_succ, List.append_assoc]
  rfl
end Hm

set_option maxHeartbeats 2000000 in
theorem sort_any (s : ByteArray) (w : World) (hs : s.size ≤ 6000) :
    Calls Try.prog 10 #[.string s] w fun e w' => ∃ ps : List Nat, e = .returned (.slice (some ⟨w.heap.size, 0, none⟩) (s.size + 1) (s.size + 1)) ∧ Hm.Places s.data.toList ps ∧ IntRow w' w.heap.size ps ∧ Kept (fun _ => False) w w' := by
  obtain ⟨i0, hi, hz0, hz1, hz2⟩ := info_parts info_int
  have hsl : s.data.toList.length = s.size := by simp
  go_enter Try.func10, Try.ntmps10
  go_wp2_with (at_make; refine wpList_make_full _ rfl (.tmp 10) (.tmp 10) 34 rfl w.heap.size 3 i0 (.int .i64 0) 1 Try.underlying34 hi hz0 hz1 .i64 .i64 _ _ (s.size + 1) rfl rfl (by omega) (by omega) (by rw [hz2]; omega) (by unfold maxLen; omega) (Nat.le_refl _) ?_; intro w1 ho1 hg1)
  have hr1 : IntRow w1 w.heap.size (List.range 0 ++ List.replicate (s.size + 1 - 0) 0) := IntRow.made ho1
  have hk1 : Kept (fun _ => False) w w1 := (Kept.refl _ _).grown hg1 (fun k hk => by cases hk)
  clear ho1 hg1
  go_loopw [14] (fun i wr => ∃ k : Nat, k ≤ s.size + 1 ∧ i = .int .i64 k ∧ IntRow wr w.heap.size (List.range k ++ List.replicate (s.size + 1 - k) 0) ∧ Kept (fun _ => False) w wr) (fun i _ => s.size + 1 - (intOf i).toNat)
  case atStart => exact ⟨0, Nat.zero_le _, rfl, hr1, hk1⟩
  case round =>
    clear hr1 hk1
    obtain ⟨k, hk, rfl, hr, hkr⟩ := hrel
    by_cases hlt : k < s.size + 1
    · have hdec : decide ((k : Int) < (s.size : Int) + 1) = true := by simp; omega
      have hl : (List.range k ++ List.replicate (s.size + 1 - k) 0).length = s.size + 1 := by simp; omega
      have hc := hr.cell (i := k) (by omega)
      have hf := hr.free k
      have HS := hr.set k k
      rw [Hm.range_set _ _ hlt] at HS
      have H2 : Hid (IntRow _ w.heap.size (List.range (k + 1) ++ List.replicate (s.size + 1 - (k + 1)) 0)) := HS
      generalize (List.range k ++ List.replicate (s.size + 1 - k) 0)[k]'(by omega) = old at hc
      clear HS hr hl hsl
      go_wp2
      go_roundw
      case rel => exact ⟨k + 1, by omega, by go_num, H2.out, hkr.setCell (.inl (Nat.le_refl _)) _⟩
      case measure => simp [intOf]; omega
    · obtain rfl : k = s.size + 1 := by omega
      have hdec : decide ((s.size : Int) + 1 < (s.size : Int) + 1) = false := by simp
      rw [Nat.sub_self, List.replicate_zero, List.append_nil] at hr
      have hfr := firstRanks_any s wr hs
      have hgw := hr.lt
      have HR : Hid (IntRow wr w.heap.size (List.range (s.size + 1))) := hr
      clear hr hlt hk
      go_wp2_with fail
      refine hfr.mono ?_
      rintro e w2 ⟨rfl, hr2, hk2⟩
      clear hfr
      go_wp2
      go_loopw [5, 6] (fun u i W => ∃ (k g : Nat) (ps rs : List Nat), 2 ^ k ≤ 12000 ∧ i = .int .i64 ((2 ^ k : Nat) : Int) ∧ u = .slice (some ⟨g, 0, none⟩) (s.size + 1) (s.size + 1) ∧ Hm.SortSt s.data.toList k ps rs ∧ IntRow W w.heap.size ps ∧ IntRow W g rs ∧ w.heap.size < g ∧ Kept (fun _ => False) w W) (fun _ i _ => 13000 - (intOf i).toNat)
      case atStart => exact ⟨0, wr.heap.size, _, _, by omega, rfl, rfl, ⟨rfl, rfl⟩, by rw [hsl]; exact HR.out.kept hk2 id, hr2, hgw, hkr.trans hk2 (fun _ _ h => h)⟩
      case round =>
        clear hr2 hk2 hkr HR
        obtain ⟨k, g, ps, rs, hk2, rfl, rfl, hst, hp, hr, hg, hkr⟩ := hrel
        have hrk := hst.ranks
        have hpl := hst.len
        rw [hsl] at hrk hpl
        generalize hW : 2 ^ k = wd at hk2 ⊢
        have hwd1 : 1 ≤ wd := by rw [← hW]; exact Nat.one_le_two_pow
        by_cases hle : wd ≤ s.size
        · have hdec : decide ((wd : Int) ≤ (s.size : Int)) = true := by simp; omega
          have hpu := pairUp_any g (s.size + 1) rs wd wr hr (by omega) (by omega) (fun x hx => by have := hrk.2 x hx; omega)
          rw [hrk.1] at hpu
          go_wp2_with fail
          refine hpu.mono ?_
          rintro e w3 ⟨rfl, hq3, hk3⟩
          clear hpu
          have hql : (Hm.pairsOf rs wd).length = s.size + 1 := by rw [Hm.pairsOf_length, hrk.1]
          have hw3 : wr.heap.size < w3.heap.size := hq3.lt
          have hwr : w.heap.size < wr.heap.size := hp.lt
          have hp4 : IntRow (w3.alloc (.cells #[.slice (some ⟨wr.heap.size, 0, none⟩) (s.size + 1) (s.size + 1)] 73)) w.heap.size ps := by
            unfold IntRow; rw [Below.heap_alloc _ _ _ (by omega)]; exact hp.kept hk3 id
          have hq4 : PairRow (w3.alloc (.cells #[.slice (some ⟨wr.heap.size, 0, none⟩) (s.size + 1) (s.size + 1)] 73)) wr.heap.size (Hm.pairsOf rs wd) := by
            unfold PairRow; rw [Below.heap_alloc _ _ _ hq3.lt]; exact hq3
          have hb4 : (w3.alloc (.cells #[.slice (some ⟨wr.heap.size, 0, none⟩) (s.size + 1) (s.size + 1)] 73)).heap[w3.heap.size]? = some (.cells #[.slice (some ⟨wr.heap.size, 0, none⟩) (s.size + 1) (s.size + 1)] 73 (0, 0)) := heap_alloc_new w3 _
          have hsc := sortCall_any s.size w3.heap.size w.heap.size wr.heap.size (s.size + 1) (s.size + 1) ps (Hm.pairsOf rs wd) _ hp4 hq4 (by rw [hql]; exact cell_of_row _ _ 0 _ _ _ hb4) hpl hql hs (fun x hx => by have := hst.mem x hx; rw [hsl] at this; exact this) (by omega) (by omega)
          rw [hpl] at hsc
          have hk4 : Kept (fun _ => False) w (w3.alloc (.cells #[.slice (some ⟨wr.heap.size, 0, none⟩) (s.size + 1) (s.size + 1)] 73)) := (hkr.trans hk3 (fun _ _ h => h)).alloc _
          have HST : Hid (Hm.SortSt s.data.toList k ps rs ∧ 2 ^ k = wd ∧ Kept (fun _ => False) w (w3.alloc (.cells #[.slice (some ⟨wr.heap.size, 0, none⟩) (s.size + 1) (s.size + 1)] 73)) ∧ PairRow (w3.alloc (.cells #[.slice (some ⟨wr.heap.size, 0, none⟩) (s.size + 1) (s.size + 1)] 73)) wr.heap.size (Hm.pairsOf rs wd)) := ⟨hst, hW, hk4, hq4⟩
          clear hst hW hp hr hq3 hk3 hp4 hq4 hk4 hkr hrk
          go_wp2_with fail
          refine hsc.mono ?_
          rintro e w5 ⟨rfl, ps5, hperm5, hord5, hp5, hk5⟩
          clear hsc
          obtain ⟨hst, hW, hk4, hq4⟩ := HST.out
          have hq5 := hq4.kept hk5 (by omega)
          have hb5 := hk5.row hb4 (by omega)
          have hc5 : w5.cell? ⟨w3.heap.size, 0, none⟩ = some (.slice (some ⟨wr.heap.size, 0, none⟩) (s.size + 1) (s.size + 1)) := cell_of_row _ _ 0 _ _ _ hb5
          have hpl5 : ps5.length = s.size + 1 := by rw [hperm5.length_eq, hpl]
          have hrb := rankBy_any w.heap.size (s.size + 1) wr.heap.size (s.size + 1) ps5 (Hm.pairsOf rs wd) w5 hp5 hq5 (by omega) (by omega) (fun x hx => by have := hst.mem x (hperm5.subset hx); omega) (by omega)
          rw [hpl5] at hrb
          have hw5 : w.heap.size < w5.heap.size := hp5.lt
          have HN : Hid (Hm.SortSt s.data.toList (k + 1) ps5 (Hm.rankBy ps5 (Hm.pairsOf rs wd)) ∧ 2 ^ (k + 1) = wd * 2 ∧ Kept (fun _ => False) w w5 ∧ IntRow w5 w.heap.size ps5) := by
            refine ⟨⟨ps, rs, hst, hperm5, by rw [hW]; exact hord5, by rw [hW]⟩, by rw [Nat.pow_succ, hW], hk4.trans hk5 (fun j h1 h2 => by omega), hp5⟩
          clear hst hW hk4 hq4 hq5 hb5 hb4 hp5 hk5 hord5 hperm5 HST
          go_wp2_with fail
          refine hrb.mono ?_
          rintro e w6 ⟨rfl, hr6, hk6⟩
          clear hrb
          go_wp2
          go_roundw
          case rel =>
            obtain ⟨h1, h2, h3, h4⟩ := HN.out
            exact ⟨k + 1, w5.heap.size, ps5, _, by omega, by rw [h2]; go_num, rfl, h1, h4.kept hk6 id, hr6, hw5, h3.trans hk6 (fun _ _ h => h)⟩
          case measure => simp [intOf]; omega
        · have hdec : decide ((wd : Int) ≤ (s.size : Int)) = false := by simp; omega
          have HF : Hid (Hm.Places s.data.toList ps ∧ IntRow wr w.heap.size ps ∧ Kept (fun _ => False) w wr) := ⟨⟨k, rs, by rw [hsl, hW]; omega, hst⟩, hp, hkr⟩
          clear hst hp hr hkr hrk hW
          go_wp2
          go_ret
          obtain ⟨h1, h2, h3⟩ := HF.out
          exact ⟨ps, rfl, h1, h2, h3⟩

end Go.Proofs.Ytjjejdfmcohghaa
