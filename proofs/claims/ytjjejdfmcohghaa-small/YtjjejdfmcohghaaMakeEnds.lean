/- The row of the files' ends is made. -/
import Derived.Test.YtjjejdfmcohghaaEnds
namespace Go.Proofs.Ytjjejdfmcohghaa
open Go.RowKit

/-- Numbers that are not negative lie in memory from an address on. -/
def IntsAt (w : World) (ao : Option Addr) (es : List Nat) : Prop :=
  ∀ i, (h : i < es.length) → ∃ b o, ao = some ⟨b, o, none⟩ ∧ b < w.heap.size ∧ w.cell? ⟨b, o + i, none⟩ = some (.int .i64 (es[i] : Nat))
theorem IntsAt.kept {S : Nat → Prop} {w w' : World} {ao : Option Addr} {es : List Nat} (h : IntsAt w ao es) (hk : Kept S w w') (hn : ∀ a, ao = some a → ¬ S a.block) : IntsAt w' ao es := by
  intro i hi
  obtain ⟨b, o, e, hb, h1⟩ := h i hi
  have hs := hn _ e
  exact ⟨b, o, e, by have := hk.size; omega, (hk.cell (p := ⟨b, o + i, none⟩) hb hs).trans h1⟩
theorem IntsAt.lt {w : World} {ao : Option Addr} {es : List Nat} (h : IntsAt w ao es) (hp : 0 < es.length) : ∀ a, ao = some a → a.block < w.heap.size := by
  intro a ha
  obtain ⟨b, o, e, hb, _⟩ := h 0 hp
  rw [ha] at e; cases e; exact hb

theorem bits_new (w : World) (T : Nat) (o : Obj) : BitsAt ((w.alloc o).alloc (.cells #[.slice none 0 0, .int .i64 0] T)) T (w.heap.size + 1) (.slice none 0 0) [] :=
  ⟨heap_alloc2_new w _ _, World.ownsRow_nil _ _ _ _, by simp [Value.ownBlock]⟩

set_option maxHeartbeats 1000000 in
theorem makeEnds_any (ao : Option Addr) (c : Nat) (es : List Nat) (n : Nat) (w : World) (hi : IntsAt w ao es) (hm : es.length ≤ 40) (hn : n ≤ 6000) (he : ∀ e ∈ es, e ≤ n) :
    Calls Try.prog 13 #[.slice ao es.length c, .int .i64 n] w fun e w' => ∃ v', e = .returned (.agg #[v', .int .i64 ((Hm.endsBits es n).length : Nat)]) ∧
      w'.ownsRow w.heap.size 5 1 v' (((Hm.endsBits es n).length + 7) / 8) (Hm.bcells (Hm.packBits (Hm.endsBits es n))) ∧ Kept (fun _ => False) w w' := by
  have hL := Hm.lowW_le es.length n hn
  have HR : Hid (Hm.endsBits es n = Hm.endSets es (Hm.lowW es.length n) (Hm.endLow es (Hm.lowW es.length n)).length (Hm.endLow es (Hm.lowW es.length n) ++ List.replicate (es.length + n / 2 ^ Hm.lowW es.length n + 1) false) es.length) := rfl
  generalize Hm.endsBits es n = R at HR ⊢
  have hlw := fun W => lowWidth_any es.length n W (by omega) hn
  generalize Hm.lowW es.length n = L at hL hlw HR
  have hel := Hm.endLow_length es L
  have hmul : es.length * L ≤ 480 := by have := Nat.mul_le_mul hm hL; omega
  generalize hB : Hm.endLow es L = B at HR hel
  have hpow : n / 2 ^ L ≤ n := Nat.div_le_self _ _
  go_enter Try.func13, Try.ntmps13
  go_wp2_with fail
  refine (hlw _).mono ?_
  rintro e w1 ⟨rfl, rfl⟩
  clear hlw
  go_wp2
  go_loopw [18] (fun i wr => ∃ (k : Nat) (v' : Value), k ≤ es.length ∧ i = .int .i64 k ∧ BitsAt wr 50 (w.heap.size + 1) v' (Hm.endLow (es.take k) L) ∧ Kept (fun j => w.heap.size + 1 ≤ j) ((w.alloc (.cells #[.slice none 0 0, .int .i64 0] 50)).alloc (.cells #[.slice none 0 0, .int .i64 0] 50)) wr ∧ (∀ j, v'.ownBlock = some j → w.heap.size + 2 ≤ j)) (fun i _ => es.length - (intOf i).toNat)
  case atStart => exact ⟨0, .slice none 0 0, Nat.zero_le _, rfl, by simpa [Hm.endLow] using bits_new w _ _, Kept.refl _ _, fun j h => by cases h⟩
  case round =>
    obtain ⟨k, v', hk, rfl, hb, hkr, hmr⟩ := hrel
    have hkw : Kept (fun _ => False) w wr := (((Kept.refl (fun _ => False) w).alloc _).alloc _).trans hkr (fun j h1 h2 => by omega)
    by_cases hlt : k < es.length
    · obtain ⟨b, o, hao, hbw, hc1⟩ := (hi.kept hkw (fun a ha => id)) k hlt
      have hek := he es[k] (List.getElem_mem _)
      have HT : Hid (Hm.endLow (es.take (k + 1)) L = Hm.endLow (es.take k) L ++ Hm.numBits es[k] L) := Hm.endLow_take es L k hlt
      have hlk : (Hm.endLow (es.take k) L).length ≤ 480 := by
        rw [Hm.endLow_length]
        have : (es.take k).length * L ≤ es.length * L := Nat.mul_le_mul_right _ (by simp; omega)
        omega
      generalize es[k] = x at *
      have hcon := addNum_any 50 (w.heap.size + 1) v' (Hm.endLow (es.take k) L) x L wr hb (by omega) (by omega) (by omega)
      rw [hao]
      clear hao hi hb he
      go_wp2_with (go_at_call 40; refine hcon.mono ?_; rintro e w2 ⟨v2, rfl, hb2, hk2, hm2⟩)
      go_roundw
      case rel =>
        refine ⟨k + 1, v2, by omega, by go_num, by rw [HT.out]; exact hb2, hkr.trans hk2 (fun j h1 h2 => ?_), fun j h => ?_⟩
        · rcases h2 with h2 | h2
          · omega
          · have := hmr j h2; omega
        · rcases hm2 j h with h2 | h2
          · exact hmr j h2
          · have := hkr.size; simp at this; omega
      case measure => simp [intOf]; omega
    · obtain rfl : k = es.length := by omega
      rw [List.take_length, hB] at hb
      obtain ⟨q, hq, HQ⟩ : ∃ q : Nat, (n : Int) / 2 ^ L = (q : Int) ∧ Hid (q = n / 2 ^ L) := ⟨n / 2 ^ L, by simp, rfl⟩
      have hqn : q ≤ n := by have := HQ.out; omega
      have hBl : B.length ≤ 480 := by omega
      have hlen := len_any 50 (w.heap.size + 1) v' B wr hb
      have hgr := grow_any 50 (w.heap.size + 1) v' B (es.length + q + 1) wr hb (by omega) (by omega)
      have ec : ((es.length + q + 1 : Nat) : Int) = (es.length : Int) + (q : Int) + 1 := by omega
      rw [ec] at hgr
      have HH : Hid (IntsAt w ao es ∧ BitsAt wr 50 (w.heap.size + 1) v' B) := ⟨hi, hb⟩
      have HEL : Hid (B.length = es.length * L) := hel
      clear hi hb hel hB hlt hk hmul
      go_wp2_with fail
      refine hlen.mono ?_
      rintro e w2 ⟨rfl, rfl⟩
      go_wp2_with fail
      refine hgr.mono ?_
      rintro e w3 ⟨v3, rfl, hb3, hk3, hm3⟩
      clear hlen hgr
      have hkr3 : Kept (fun j => w.heap.size + 1 ≤ j) ((w.alloc (.cells #[.slice none 0 0, .int .i64 0] 50)).alloc (.cells #[.slice none 0 0, .int .i64 0] 50)) w3 := hkr.trans hk3 (fun j h1 h2 => by
        rcases h2 with h2 | h2
        · omega
        · have := hmr j h2; omega)
      have hmr3 : ∀ j, v3.ownBlock = some j → w.heap.size + 2 ≤ j := fun j h => by
        rcases hm3 j h with h2 | h2
        · exact hmr j h2
        · have := hkr.size; simp at this; omega
      generalize hR0 : B ++ List.replicate (es.length + q + 1) false = R0 at hb3
      have hR0l : R0.length = B.length + (es.length + q + 1) := by rw [← hR0]; simp
      have HR0 : Hid (B ++ List.replicate (es.length + q + 1) false = R0) := hR0
      clear hR0 hk3 hm3 hkr hkw
      go_wp2
      go_loopw [40] (fun i wr => ∃ (k : Nat), k ≤ es.length ∧ i = .int .i64 k ∧ BitsAt wr 50 (w.heap.size + 1) v3 (Hm.endSets es L B.length R0 k) ∧ Kept (fun j => w.heap.size + 1 ≤ j) ((w.alloc (.cells #[.slice none 0 0, .int .i64 0] 50)).alloc (.cells #[.slice none 0 0, .int .i64 0] 50)) wr) (fun i _ => es.length - (intOf i).toNat)
      case atStart => exact ⟨0, Nat.zero_le _, rfl, hb3, hkr3⟩
      case round =>
        clear hb3 hkr3
        obtain ⟨k, hk, rfl, hb, hkr⟩ := hrel
        obtain ⟨hi, _⟩ := HH.out
        have hsl := Hm.endSets_length es L B.length R0 k
        have hkw : Kept (fun _ => False) w wr := (((Kept.refl (fun _ => False) w).alloc _).alloc _).trans hkr (fun j h1 h2 => by omega)
        by_cases hlt : k < es.length
        · obtain ⟨b, o, hao, hbw, hc1⟩ := (hi.kept hkw (fun a ha => id)) k hlt
          have hek := he es[k] (List.getElem_mem _)
          have HT : Hid (Hm.endSets es L B.length R0 (k + 1) = (Hm.endSets es L B.length R0 k).set (B.length + es[k] / 2 ^ L + k) true) := by
            show _ = _
            simp [Hm.endSets, hlt]
          have hdl : es[k] / 2 ^ L ≤ q := by rw [HQ.out]; exact Nat.div_le_div_right hek
          generalize es[k] = x at *
          obtain ⟨y, hy, HY⟩ : ∃ y : Nat, (x : Int) / 2 ^ L = (y : Int) ∧ Hid (y = x / 2 ^ L) := ⟨x / 2 ^ L, by simp, rfl⟩
          have hyq : y ≤ q := by rw [HY.out]; exact hdl
          rw [← HY.out] at HT
          have hcon := set_any 50 (w.heap.size + 1) v3 (Hm.endSets es L B.length R0 k) (B.length + y + k) wr hb (by omega) (by omega)
          have ec2 : ((B.length + y + k : Nat) : Int) = (B.length : Int) + (y : Int) + (k : Int) := by omega
          rw [ec2] at hcon
          rw [hao]
          clear hao hi hb he hdl hsl hR0l hek
          go_wp2_with (go_at_call 43; refine hcon.mono ?_; rintro e w5 ⟨rfl, hb5, hk5⟩)
          go_roundw
          case rel =>
            refine ⟨k + 1, by omega, by go_num, by rw [HT.out]; exact hb5, hkr.trans hk5 (fun j h1 h2 => ?_)⟩
            rcases h2 with h2 | h2
            · omega
            · have := hmr3 j h2; omega
          case measure => simp [intOf]; omega
        · obtain rfl : k = es.length := by omega
          have HF : Hid (R = Hm.endSets es L B.length R0 es.length) := by
            show _ = _
            rw [HR.out, ← HR0.out, HQ.out]
          rw [← HF.out] at hb
          have hd0 : wr.cell? ⟨w.heap.size + 1, 0, none⟩ = some v3 := cell_of_row _ _ 0 _ _ _ hb.blk
          have hd1 : wr.cell? ⟨w.heap.size + 1, 1, none⟩ = some (.int .i64 (R.length : Nat)) := cell_of_row _ _ 1 _ _ _ hb.blk
          have hr0 : wr.heap[w.heap.size]? = some (.cells #[.slice none 0 0, .int .i64 0] 50 (0, 0)) := hkr.row (heap_alloc2_old w _ _) (by omega)
          have he0 : wr.cell? ⟨w.heap.size, 0, none⟩ = some (.slice none 0 0) := cell_of_row _ _ 0 _ _ _ hr0
          have he1 : wr.cell? ⟨w.heap.size, 1, none⟩ = some (.int .i64 0) := cell_of_row _ _ 1 _ _ _ hr0
          have hf0 : wr.frozen? ⟨w.heap.size, 0, none⟩ = false := frozen_of_row _ _ 0 _ _ hr0
          have hf1 : wr.frozen? ⟨w.heap.size, 1, none⟩ = false := frozen_of_row _ _ 1 _ _ hr0
          obtain ⟨a3, c3, hv3, _⟩ := slice_shape hb.own
          subst hv3
          have HB : Hid (BitsAt wr 50 (w.heap.size + 1) (.slice a3 ((R.length + 7) / 8) c3) R) := hb
          clear hb hi he hsl hR0l HR HR0 HF
          go_wp2
          refine bodyPost_ret (v := .agg #[.slice a3 ((R.length + 7) / 8) c3, .int .i64 (R.length : Nat)]) (by simp [results, Try.results13, go_sem, he0, he1]) rfl ⟨_, rfl, ?_, ?_⟩
          · refine owns_base (base := 0) (ownsRow_setCell_other (ownsRow_setCell_other HB.out.own ?_ _) ?_ _) ?_
            · intro h; have := hmr3 w.heap.size h; omega
            · intro h; have := hmr3 w.heap.size h; omega
            · intro k hk; have := hmr3 k hk; omega
          · exact (hkw.setCell (.inl (Nat.le_refl _)) _).setCell (.inl (Nat.le_refl _)) _

end Go.Proofs.Ytjjejdfmcohghaa
