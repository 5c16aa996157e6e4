/- Rows of bits in memory: what the methods of the plain bits do. -/
import Derived.Test.YtjjejdfmcohghaaAdd
import Derived.Test.YtjjejdfmcohghaaBits
import Derived.Deep.LoopGhost
import Derived.Deep.QuietTactic
import Derived.BigQuiet
namespace Go.Proofs.Ytjjejdfmcohghaa
open Go.RowKit

/-- A row of bits lies in block pb; its bytes are v's. -/
structure BitsAt (w : World) (T pb : Nat) (v : Value) (bits : List Bool) : Prop where
  blk : w.heap[pb]? = some (.cells #[v, .int .i64 (bits.length : Nat)] T (0, 0))
  own : w.ownsRow 0 5 1 v ((bits.length + 7) / 8) (Hm.bcells (Hm.packBits bits))
  ne : v.ownBlock ≠ some pb

theorem BitsAt.kept {S : Nat → Prop} {w w' : World} {T pb : Nat} {v : Value} {bits : List Bool} (h : BitsAt w T pb v bits) (hk : Kept S w w') (h1 : ¬ S pb) (h2 : ∀ j, v.ownBlock = some j → ¬ S j) : BitsAt w' T pb v bits :=
  ⟨hk.row h.blk h1, hk.owns h.own h2, h.ne⟩

/-- What a method may turn. -/
abbrev Bk (pb : Nat) (v : Value) : Nat → Prop := fun j => j = pb ∨ v.ownBlock = some j

theorem slice_shape {w : World} {base : Nat} {e : TypeId} {size : Nat} {v : Value} {n : Nat} {xs : List Value} (h : w.ownsRow base e size v n xs) : ∃ a c, v = .slice a n c ∧ n ≤ c := by
  rcases h.2 with ⟨rfl, rfl⟩ | ⟨g, cap, cur, rfl, _, _, hnc, hcm, _⟩
  · exact ⟨none, 0, rfl, Nat.le_refl _⟩
  · exact ⟨_, cap, rfl, hnc⟩

set_option maxHeartbeats 400000 in
theorem grow_any (T pb : Nat) (v : Value) (bits : List Bool) (c : Nat) (w : World) (h : BitsAt w T pb v bits) (hl : bits.length ≤ 1000000) (hc : c ≤ 1000000) :
    Calls Try.prog 42 #[.pointer (some ⟨pb, 0, none⟩), .int .i64 c] w fun e w' => ∃ v', e = .returned (.tuple #[]) ∧ BitsAt w' T pb v' (bits ++ List.replicate c false) ∧ Kept (Bk pb v) w w' ∧ Moved w v v' := by
  obtain ⟨i0, hi, hz0, hz1, hz2⟩ := info_parts info_u8
  have hblk := h.blk
  have hc0 : w.cell? ⟨pb, 0, none⟩ = some v := cell_of_row _ _ 0 _ _ _ hblk
  have hc1 : w.cell? ⟨pb, 1, none⟩ = some (.int .i64 (bits.length : Nat)) := cell_of_row _ _ 1 _ _ _ hblk
  have hf1 : w.frozen? ⟨pb, 1, none⟩ = false := frozen_of_row _ _ 1 _ _ hblk
  have hb1 := heap_setCell_same w pb 1 #[v, .int .i64 (bits.length : Nat)] T (.int .i64 ((bits.length : Int) + c)) hblk
  have HB : Hid ((w.setCell ⟨pb, 1, none⟩ (.int .i64 ((bits.length : Int) + c))).heap[pb]? = some (.cells #[v, .int .i64 ((bits.length : Int) + c)] T (0, 0))) := by
    show _ = _
    simpa using hb1
  clear hblk hb1
  go_enter Try.func42, Try.ntmps42
  go_wp2
  go_loopg [12] ((bits.length + c + 7) / 8 - (bits.length + 7) / 8) (fun k _ wr => ∃ (v' : Value) (m : Nat), m + k = (bits.length + c + 7) / 8 ∧ (bits.length + 7) / 8 ≤ m ∧ wr.heap[pb]? = some (.cells #[v', .int .i64 ((bits.length : Int) + c)] T (0, 0)) ∧
    wr.ownsRow 0 5 1 v' m (Hm.bcells (Hm.packBits bits ++ List.replicate (m - (bits.length + 7) / 8) 0)) ∧ v'.ownBlock ≠ some pb ∧ Kept (Bk pb v) w wr ∧ Moved w v v')
  case atStart => exact ⟨v, (bits.length + 7) / 8, by omega, Nat.le_refl _, HB.out, by simpa using ownsRow_setCell_other h.own h.ne _, h.ne, (Kept.refl _ _).setCell (.inr (.inl rfl)) _, Moved.refl _ _⟩
  case round =>
    obtain ⟨v', m, hm, hm0, hbr, hor, hne, hkr, hmr⟩ := hrel
    have hd0 : wr.cell? ⟨pb, 0, none⟩ = some v' := cell_of_row _ _ 0 _ _ _ hbr
    have hd1 : wr.cell? ⟨pb, 1, none⟩ = some (.int .i64 ((bits.length : Int) + c)) := cell_of_row _ _ 1 _ _ _ hbr
    have hf0 : wr.frozen? ⟨pb, 0, none⟩ = false := frozen_of_row _ _ 0 _ _ hbr
    obtain ⟨ao, cp, hv', hcp⟩ := slice_shape hor
    have HV : Hid (v' = .slice ao m cp) := hv'
    rw [hv'] at hd0
    have HBr : Hid (wr.heap[pb]? = some (.cells #[v', .int .i64 ((bits.length : Int) + c)] T (0, 0))) := hbr
    have hmle : m ≤ 300000 := by omega
    clear hv' hc0 hc1 hf1 HB h hbr
    by_cases hlt : 0 < gk
    · have hor2 : wr.ownsRow 0 5 1 (.slice ao m cp) m (Hm.bcells (Hm.packBits bits ++ List.replicate (m - (bits.length + 7) / 8) 0)) := by rw [← HV.out]; exact hor
      have hu0 : ∀ j, (Value.slice ao m cp).ownBlock = some j → j < wr.heap.size := fun j hj => (hor2.lt j hj).2
      have hne2 : (Value.slice ao m cp).ownBlock ≠ some pb := by rw [← HV.out]; exact hne
      have hmr2 : Moved w v (.slice ao m cp) := by rw [← HV.out]; exact hmr
      have hpw : pb < wr.heap.size := lt_of_block HBr.out
      have HH : Hid (wr.ownsRow 0 5 1 (.slice ao m cp) m (Hm.bcells (Hm.packBits bits ++ List.replicate (m - (bits.length + 7) / 8) 0)) ∧ (∀ j, (Value.slice ao m cp).ownBlock = some j → j < wr.heap.size) ∧ (Value.slice ao m cp).ownBlock ≠ some pb ∧ Moved w v (.slice ao m cp)) := ⟨hor2, hu0, hne2, hmr2⟩
      have hdec : decide ((m : Int) * 8 < (bits.length : Int) + (c : Int)) = true := by simp; omega
      have HM : Hid (m + gk = (bits.length + c + 7) / 8 ∧ (bits.length + 7) / 8 ≤ m ∧ 0 < gk) := ⟨hm, hm0, hlt⟩
      clear hor hmr hne hor2 hu0 hne2 hmr2 hm hm0 hlt
      go_wp2
      go_region
      obtain ⟨hor2, hu0, hne2, hmr2⟩ := HH.out
      clear hu0
      go_wp2_with (at_builtin; refine wpList_append_mv _ rfl (.tmp 27) (.tmp 28) 23 rfl 0 5 i0 (.int .u8 0) 1 1 Try.underlying23 hi hz0 hz1 hz2 rfl (by decide) _ _ _ rfl (by exact (hor2.alloc _)) ⟨wr.heap.size, 0, none⟩ 1 1 [.int .u8 0] rfl rfl ?c1 ?c2 ?c3 ?c4 ?c5 ?_)
      case c1 => exact cell_one_new _ _ _
      case c2 => intro u hu; simp at hu; subst hu; rfl
      case c3 => unfold maxLen; omega
      case c4 => omega
      case c5 => exact Nat.zero_le _
      intro v2 w1 ho1 hg1 hm1
      have hk1 : Kept (Bk pb v) w w1 := (hkr.alloc _).drew.grown hg1 (fun k hk => (hmr2 k hk).elim (fun h => .inr (.inr h)) .inl)
      have hmv1 : Moved w v v2 := hmr2.trans hm1 (by have := hkr.size; simp; omega)
      have hpb1 : w1.heap[pb]? = some (.cells #[.slice ao m cp, .int .i64 ((bits.length : Int) + c)] T (0, 0)) := by
        rw [hg1.block pb (by simp; omega) (fun e => hne2 e.symm)]
        show ((wr.alloc _).heap[pb]?) = _
        rw [Below.heap_alloc _ _ _ hpw, HBr.out, HV.out]
      have hne3 : v2.ownBlock ≠ some pb := fun e => by
        rcases hm1 pb e with h | h
        · exact hne2 h
        · simp at h; omega
      have he0 : w1.cell? ⟨pb, 0, none⟩ = some (.slice ao m cp) := cell_of_row _ _ 0 _ _ _ hpb1
      have hfr1 : w1.frozen? ⟨pb, 0, none⟩ = false := frozen_of_row _ _ 0 _ _ hpb1
      have hb2 := heap_setCell_same w1 pb 0 _ T v2 hpb1
      obtain ⟨ao2, cp2, hv2, hcp2⟩ := slice_shape ho1
      subst hv2
      have R : Hid (∃ (v' : Value) (m' : Nat), m' + (gk - 1) = (bits.length + c + 7) / 8 ∧ (bits.length + 7) / 8 ≤ m' ∧ (w1.setCell ⟨pb, 0, none⟩ (.slice ao2 (m + 1) cp2)).heap[pb]? = some (.cells #[v', .int .i64 ((bits.length : Int) + c)] T (0, 0)) ∧
          (w1.setCell ⟨pb, 0, none⟩ (.slice ao2 (m + 1) cp2)).ownsRow 0 5 1 v' m' (Hm.bcells (Hm.packBits bits ++ List.replicate (m' - (bits.length + 7) / 8) 0)) ∧ v'.ownBlock ≠ some pb ∧ Kept (Bk pb v) w (w1.setCell ⟨pb, 0, none⟩ (.slice ao2 (m + 1) cp2)) ∧ Moved w v v') := by
        obtain ⟨hm, hm0, hlt⟩ := HM.out
        refine ⟨.slice ao2 (m + 1) cp2, m + 1, by omega, by omega, by simpa using hb2, ?_, hne3, hk1.setCell (.inr (.inl rfl)) _, hmv1⟩
        have e : Hm.bcells (Hm.packBits bits ++ List.replicate (m + 1 - (bits.length + 7) / 8) 0) = Hm.bcells (Hm.packBits bits ++ List.replicate (m - (bits.length + 7) / 8) 0) ++ [.int .u8 0] := by
          rw [show m + 1 - (bits.length + 7) / 8 = m - (bits.length + 7) / 8 + 1 from by omega, List.replicate_succ', ← List.append_assoc]
          simp [Hm.bcells]
        rw [e]
        exact ownsRow_setCell_other ho1 hne3 _
      clear ho1 hg1 hm1 hk1 hmv1 hpb1 hb2 hor2 hne2 hmr2 hne3
      go_wp2
      go_roundg (gk - 1)
      case measure => have := HM.out; omega
      case rel => exact R.out
    · have HM : Hid (m = (bits.length + c + 7) / 8) := (by omega : m = (bits.length + c + 7) / 8)
      have hdec : decide ((m : Int) * 8 < (bits.length : Int) + (c : Int)) = false := by simp; omega
      clear hlt hm hm0
      have HH : Hid (wr.ownsRow 0 5 1 v' m (Hm.bcells (Hm.packBits bits ++ List.replicate (m - (bits.length + 7) / 8) 0)) ∧ v'.ownBlock ≠ some pb ∧ Kept (Bk pb v) w wr ∧ Moved w v v') := ⟨hor, hne, hkr, hmr⟩
      clear hor hmr hne hkr
      go_wp2
      go_region
      go_wp2
      go_end0
      obtain ⟨hor, hne, hkr, hmr⟩ := HH.out
      refine ⟨v', rfl, ⟨?_, ?_, hne⟩, hkr.drew, hmr⟩
      · have e : ((bits ++ List.replicate c false).length : Int) = (bits.length : Int) + c := by simp
        rw [e]; exact HBr.out
      · rw [Hm.packBits_grow]
        have e : (bits ++ List.replicate c false).length = bits.length + c := by simp
        rw [e, ← HM.out]; exact hor

end Go.Proofs.Ytjjejdfmcohghaa
