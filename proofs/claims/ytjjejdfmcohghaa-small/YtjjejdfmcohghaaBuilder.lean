/- A strings.Builder that a call has made: what its methods do, and which blocks they turn. -/
import Derived.Test.YtjjejdfmcohghaaAddBits
import Derived.Lib.Builder
import Derived.Lib.UnsafeStr
namespace Go.Proofs.Ytjjejdfmcohghaa
open Go.RowKit

/-- A builder lies in block b; its bytes are v's. -/
structure BuilderIs (w : World) (b : Nat) (p v : Value) (l : List UInt8) : Prop where
  blk : w.heap[b]? = some (.cells #[p, v] 67 (0, 0))
  own : w.ownsRow 0 5 1 v l.length (Hm.bcells l)
  ne : v.ownBlock ≠ some b
  adr : p = .pointer none ∨ p = .pointer (some ⟨b, 0, none⟩)
  nil : l = [] → v = .slice none 0 0

set_option maxHeartbeats 1000000 in
set_option maxRecDepth 100000 in
theorem copyCheck_any (b : Nat) (p v : Value) (l : List UInt8) (w : World) (h : BuilderIs w b p v l) :
    Calls Try.prog 49 #[.pointer (some ⟨b, 0, none⟩)] w fun e w' => e = .returned (.tuple #[]) ∧ BuilderIs w' b (.pointer (some ⟨b, 0, none⟩)) v l ∧ Kept (fun j => j = b) w w' := by
  have hj : ∃ j, Try.prog.info? 67 = some j ∧ j.size = 2 := by
    have h1 : (Try.prog.info? 67).map (·.size) = some 2 := by kernel_rfl
    obtain ⟨j, hj, hs⟩ := Option.map_eq_some_iff.1 h1
    exact ⟨j, hj, hs⟩
  obtain ⟨j, hj, hjs⟩ := hj
  have hc0 : w.cell? ⟨b, 0, none⟩ = some p := cell_of_row _ _ 0 _ _ _ h.blk
  have hf0 : w.frozen? ⟨b, 0, none⟩ = false := frozen_of_row _ _ 0 _ _ h.blk
  have hsh : w.shape? b = some (67, 2) := by simp [World.shape?, h.blk]
  rcases h.adr with hp | hp
  · subst hp
    have hset : BuilderIs (w.setCell ⟨b, 0, none⟩ (.pointer (some ⟨b, 0, none⟩))) b (.pointer (some ⟨b, 0, none⟩)) v l :=
      ⟨by have := heap_setCell_same w b 0 _ _ (.pointer (some ⟨b, 0, none⟩)) h.blk; simpa using this, ownsRow_setCell_other h.own h.ne _, h.ne, .inr rfl, h.nil⟩
    have HS : Hid (BuilderIs (w.setCell ⟨b, 0, none⟩ (.pointer (some ⟨b, 0, none⟩))) b (.pointer (some ⟨b, 0, none⟩)) v l) := hset
    clear h hset
    go_enter Try.func49, Try.ntmps49
    go_wp2
    rw [Lib.run_to_unsafe w ⟨b, 0, none⟩ Try.underlying65 Try.underlying111 hj (by rw [hjs]; decide) hsh (Nat.zero_lt_succ 1)]
    simp only [Result.andThen]
    rw [Oper.upon_value]
    go_wp2
    rw [run_callFunc_extern Try.func59 (by kernel_rfl) (by kernel_rfl) (by kernel_rfl) (e := Extern.AbiNoEscape.same) (by kernel_rfl)]
    rw [Lib.run_noEscape]
    simp only [Result.andThen]
    rw [Oper.upon_value]
    go_wp2
    rw [Lib.run_from_unsafe w ⟨b, 0, none⟩ Try.underlying111 Try.underlying65 hj hsh (by kernel_rfl)]
    simp only [Result.andThen]
    rw [Oper.upon_value]
    go_wp2
    go_end0
    exact ⟨rfl, HS.out, (Kept.refl (fun j => j = b) w).setCell (p := ⟨b, 0, none⟩) (.inr rfl) _⟩
  · subst hp
    have HS : Hid (BuilderIs w b (.pointer (some ⟨b, 0, none⟩)) v l) := h
    clear h
    go_enter Try.func49, Try.ntmps49
    go_wp2
    rw [Lib.run_neq_ptr_same w _ Try.underlying65 hj]
    go_wp2
    go_end0
    exact ⟨rfl, HS.out, Kept.refl _ _⟩

set_option maxHeartbeats 1000000 in
theorem writeString_any (b : Nat) (p v : Value) (l : List UInt8) (s : ByteArray) (w : World) (h : BuilderIs w b p v l) (hl : l.length + s.size ≤ 1000000) :
    Calls Try.prog 23 #[.pointer (some ⟨b, 0, none⟩), .string s] w fun e w' => ∃ v', e = .returned (.tuple #[.int .i64 s.size, .nilIface]) ∧ BuilderIs w' b (.pointer (some ⟨b, 0, none⟩)) v' (l ++ s.data.toList) ∧ Kept (Bk b v) w w' ∧ Moved w v v' := by
  obtain ⟨i0, hi, hz0, hz1, hz2⟩ := info_parts info_u8
  have hcc := copyCheck_any b p v l w h
  clear h
  go_enter Try.func23, Try.ntmps23
  go_wp2_with fail
  refine hcc.mono ?_
  rintro e w1 ⟨rfl, h1, hk1⟩
  clear hcc
  obtain ⟨a1, c1, hv1, _⟩ := slice_shape h1.own
  subst hv1
  have hd1 : w1.cell? ⟨b, 1, none⟩ = some (.slice a1 l.length c1) := cell_of_row _ _ 1 _ _ _ h1.blk
  have hsz := h1.own
  go_wp2_with (at_builtin; refine wpList_append_mv_string _ rfl (.tmp 12) (.tmp 13) 23 9 rfl 0 5 i0 Try.underlying23 Try.underlying9 hi hz0 hz1 hz2 _ _ _ rfl hsz s rfl ?c6 ?c7 ?c8 ?_)
  case c6 => unfold maxLen; omega
  case c7 => omega
  case c8 => exact Nat.zero_le _
  intro v2 w2 ho2 hg2 hm2 hnil2
  have hblk2 : w2.heap[b]? = some (.cells #[.pointer (some ⟨b, 0, none⟩), .slice a1 l.length c1] 67 (0, 0)) := by
    rw [hg2.block b (lt_of_block h1.blk) (fun e => h1.ne e.symm)]; exact h1.blk
  have hne2 : v2.ownBlock ≠ some b := fun e => by
    rcases hm2 b e with h | h
    · exact h1.ne h
    · have := lt_of_block h1.blk; omega
  have hk2 : Kept (Bk b (.slice a1 l.length c1)) w w2 := (hk1.wider (fun j _ h => .inl h)).grown hg2 (fun k hk => .inr (.inr hk))
  have hmv2 : Moved w (.slice a1 l.length c1) v2 := (Moved.refl w _).trans hm2 hk1.size
  obtain ⟨a2, c2, hv2, _⟩ := slice_shape ho2
  have HN : Hid (l ++ s.data.toList = [] → v2 = .slice none 0 0) := fun e => by
    have e1 := List.append_eq_nil_iff.1 e
    have hs0 : s = ByteArray.empty := by
      apply ByteArray.ext
      apply Array.ext'
      rw [e1.2]; rfl
    have hv0 := h1.nil e1.1
    simp only [Value.slice.injEq] at hv0
    exact hnil2.2 ⟨by simpa using ⟨hv0.1, e1.1, hv0.2.2⟩, hs0⟩
  subst hv2
  have hf1 : w2.frozen? ⟨b, 1, none⟩ = false := frozen_of_row _ _ 1 _ _ hblk2
  have hd2 : w2.cell? ⟨b, 1, none⟩ = some (.slice a1 l.length c1) := cell_of_row _ _ 1 _ _ _ hblk2
  have HR : Hid (BuilderIs (w2.setCell ⟨b, 1, none⟩ (.slice a2 (l.length + s.size) c2)) b (.pointer (some ⟨b, 0, none⟩)) (.slice a2 (l.length + s.size) c2) (l ++ s.data.toList)) := by
    refine ⟨?_, ?_, hne2, .inr rfl, HN.out⟩
    · have := heap_setCell_same w2 b 1 _ _ (.slice a2 (l.length + s.size) c2) hblk2; simpa using this
    · have e1 : (l ++ s.data.toList).length = l.length + s.size := by simp
      have e2 : Hm.bcells (l ++ s.data.toList) = Hm.bcells l ++ Lib.strCells s := by simp [Hm.bcells, Lib.strCells]
      rw [e1, e2]
      exact ownsRow_setCell_other ho2 hne2 _
  clear ho2 hg2 hm2 hnil2 hblk2 h1 hk1 hsz hd1 hne2
  go_wp2
  go_ret2
  exact ⟨_, rfl, HR.out, hk2.setCell (.inr (.inl rfl)) _, hmv2⟩

set_option maxHeartbeats 400000 in
theorem builderLen_any (b : Nat) (p v : Value) (l : List UInt8) (w : World) (h : BuilderIs w b p v l) :
    Calls Try.prog 24 #[.pointer (some ⟨b, 0, none⟩)] w fun e w' => e = .returned (.int .i64 (l.length : Nat)) ∧ w = w' := by
  obtain ⟨a1, c1, hv1, _⟩ := slice_shape h.own
  subst hv1
  have hd1 : w.cell? ⟨b, 1, none⟩ = some (.slice a1 l.length c1) := cell_of_row _ _ 1 _ _ _ h.blk
  clear h
  go_enter Try.func24, Try.ntmps24
  go_wp2
  go_ret
  exact ⟨rfl, rfl⟩

theorem Kept.freeze {S : Nat → Prop} {a b : World} (h : Kept S a b) {p : Addr} (hp : a.heap.size ≤ p.block ∨ S p.block) (n : Nat) : Kept S a (b.freeze p n) := by
  have h0 := Lib.below_freeze (Below.refl 0 b) (p := p) (Nat.zero_le _) n
  refine ⟨h0.os.trans h.os, h0.tape.trans h.tape, h0.output.trans h.output, Nat.le_trans h.size h0.size, fun j hj hn => ?_⟩
  have hne : p.block ≠ j := by
    rintro rfl
    rcases hp with hp | hp
    · omega
    · exact hn hp
  refine Eq.trans ?_ (h.block j hj hn)
  unfold World.freeze
  split
  · rfl
  · simp only [Array.getElem?_modify]
    rw [if_neg hne]

set_option maxHeartbeats 1000000 in
set_option maxRecDepth 100000 in
theorem builderString_any (b : Nat) (p v : Value) (l : List UInt8) (w : World) (h : BuilderIs w b p v l) (hl : l.length ≤ 1000000) :
    Calls Try.prog 25 #[.pointer (some ⟨b, 0, none⟩)] w fun e w' => e = .returned (.string ⟨l.toArray⟩) ∧ Kept (Bk b v) w w' := by
  by_cases h0 : l = []
  · have hv := h.nil h0
    subst hv
    subst h0
    have hd1 : w.drew.cell? ⟨b, 1, none⟩ = some (.slice none 0 0) := cell_of_row _ _ 1 _ _ _ h.blk
    have hSD : (Builtin.unsafeSliceData_ #[23] 102 #[.slice none 0 0]).run Try.prog w.drew = .ok (.pointer none) w.drew := rfl
    have hUS : ∀ W, (Builtin.unsafeString_ #[102, 3] 9 #[.pointer none, .int .i64 0]).run Try.prog W = .ok (.string .empty) W := fun W => Lib.run_unsafeString_none W _ _ _ none
    clear h
    go_enter Try.func25, Try.ntmps25
    go_wp2
    go_region
    all_goals (go_wp2; go_ret; exact ⟨rfl, (Kept.refl _ _).drew⟩)
  · have hl0 : 0 < l.length := List.length_pos_iff.2 h0
    obtain ⟨g, cap, hv, hnc, hgw⟩ := owns_some h.own hl0
    subst hv
    have hown := h.own
    have hd1 : w.drew.cell? ⟨b, 1, none⟩ = some (.slice (some ⟨g, 0, none⟩) l.length cap) := cell_of_row _ _ 1 _ _ _ h.blk
    have hSD : (Builtin.unsafeSliceData_ #[23] 102 #[.slice (some ⟨g, 0, none⟩) l.length cap]).run Try.prog w.drew = .ok (.pointer (some ⟨g, 0, none⟩)) w.drew := Lib.run_unsafeSliceData_row _ _ _ _ _ _ (by omega)
    have hUS : (Builtin.unsafeString_ #[102, 3] 9 #[.pointer (some ⟨g, 0, none⟩), .int .i64 l.length]).run Try.prog w.drew = .ok (.string ⟨l.toArray⟩) (w.drew.freeze ⟨g, 0, none⟩ l.length) := by
      rcases hown.2 with ⟨hx, _⟩ | ⟨g2, cap2, cur, hx, _, hg, _, hcm, hcs, ht⟩
      · cases hx
      · cases hx
        refine Lib.run_unsafeString_row w.drew 102 3 9 5 Try.underlying102 (by kernel_rfl) g cur.size (by have hg' : w.drew.heap[g]? = some (.cells cur 5 (0, 0)) := hg; simp [World.shape?, hg']) l h0 (by omega) (by omega) ?_
        intro j x hx
        exact hown.cells (g := g) rfl j (.int .u8 x.toNat) (by simp [Hm.bcells, hx])
    clear h hown
    go_enter Try.func25, Try.ntmps25
    go_wp2
    go_region
    all_goals (go_wp2; go_ret; exact ⟨rfl, (Kept.refl _ _).drew.freeze (p := ⟨g, 0, none⟩) (.inr (.inr rfl)) _⟩)

end Go.Proofs.Ytjjejdfmcohghaa
