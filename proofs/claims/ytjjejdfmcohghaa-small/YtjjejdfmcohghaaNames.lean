/- The names of the files, added to a row of bytes. -/
import Derived.Test.YtjjejdfmcohghaaAdd
namespace Go.Proofs.Ytjjejdfmcohghaa
open Go.RowKit

/-- The files lie in memory from an address on. -/
def FilesAt (w : World) (ao : Option Addr) (fs : List (ByteArray × ByteArray)) : Prop :=
  ∀ i, (h : i < fs.length) → ∃ b o, ao = some ⟨b, o, none⟩ ∧ b < w.heap.size ∧ w.cell? ⟨b, o + i * 2, none⟩ = some (.string fs[i].1) ∧ w.cell? ⟨b, o + i * 2 + 1, none⟩ = some (.string fs[i].2)
theorem FilesAt.kept {S : Nat → Prop} {w w' : World} {ao : Option Addr} {fs : List (ByteArray × ByteArray)} (h : FilesAt w ao fs) (hk : Kept S w w') (hn : ∀ a, ao = some a → ¬ S a.block) : FilesAt w' ao fs := by
  intro i hi
  obtain ⟨b, o, e, hb, h1, h2⟩ := h i hi
  have hs := hn _ e
  exact ⟨b, o, e, by have := hk.size; omega, (hk.cell (p := ⟨b, o + i * 2, none⟩) hb hs).trans h1, (hk.cell (p := ⟨b, o + i * 2 + 1, none⟩) hb hs).trans h2⟩

namespace Hm
def nameBytes (fs : List (ByteArray × ByteArray)) : List UInt8 := fs.flatMap fun f => UInt8.ofNat f.1.size :: f.1.data.toList
theorem nameBytes_take (fs : List (ByteArray × ByteArray)) (k : Nat) (h : k < fs.length) : nameBytes (fs.take (k + 1)) = nameBytes (fs.take k) ++ (UInt8.ofNat fs[k].1.size :: fs[k].1.data.toList) := by
  rw [List.take_succ_eq_append_getElem h]; unfold nameBytes; rw [List.flatMap_append]; congr 1; simp
theorem nameBytes_le (fs : List (ByteArray × ByteArray)) (h : ∀ f ∈ fs, f.1.size ≤ 32) : (nameBytes fs).length ≤ 33 * fs.length := by
  induction fs with
  | nil => simp [nameBytes]
  | cons f r ih =>
    have h1 := h f (by simp)
    have h2 := ih (fun x hx => h x (by simp [hx]))
    have h3 : f.1.data.toList.length = f.1.size := by simp
    simp only [nameBytes, List.flatMap_cons, List.length_append, List.length_cons] at h2 ⊢
    omega
end Hm

set_option maxHeartbeats 400000 in
theorem addNames_any (base : Nat) (v : Value) (n c : Nat) (ao : Option Addr) (fs : List (ByteArray × ByteArray)) (l : List UInt8) (w : World) (ho : w.ownsRow base 5 1 v n (Hm.bcells l)) (hb : base ≤ w.heap.size)
    (hf : FilesAt w ao fs) (hne : ∀ a, ao = some a → v.ownBlock ≠ some a.block) (hm : fs.length ≤ 40) (h32 : ∀ f ∈ fs, f.1.size ≤ 32) (hn : n ≤ 1000000) :
    Calls Try.prog 19 #[v, .slice ao fs.length c] w fun e w' => ∃ v', e = .returned v' ∧ w'.ownsRow base 5 1 v' (n + (Hm.nameBytes fs).length) (Hm.bcells (l ++ Hm.nameBytes fs)) ∧ Kept (fun j => v.ownBlock = some j) w w' ∧ Moved w v v' := by
  obtain ⟨i0, hi, hz0, hz1, hz2⟩ := info_parts info_u8
  go_enter Try.func19, Try.ntmps19
  go_wp2
  go_loopw [0, 9] (fun u i wr => ∃ k : Nat, k ≤ fs.length ∧ i = .int .i64 k ∧ wr.ownsRow base 5 1 u (n + (Hm.nameBytes (fs.take k)).length) (Hm.bcells (l ++ Hm.nameBytes (fs.take k))) ∧ Kept (fun j => v.ownBlock = some j) w wr ∧ Moved w v u) (fun _ i _ => fs.length - (intOf i).toNat)
  case atStart => exact ⟨0, Nat.zero_le _, rfl, by simpa [Hm.nameBytes] using ho, Kept.refl _ _, Moved.refl _ _⟩
  case round =>
    obtain ⟨k, hk, rfl, hor, hkr, hmr⟩ := hrel
    have hle := Hm.nameBytes_le (fs.take k) (fun f hf => h32 f (List.mem_of_mem_take hf))
    have hlt2 : (fs.take k).length ≤ 40 := by simp; omega
    generalize hnk : (Hm.nameBytes (fs.take k)).length = nk at hle hor
    by_cases hlt : k < fs.length
    · obtain ⟨b, o, hao, hbw, hc1, hc2⟩ := (hf.kept hkr (fun a ha => hne a ha)) k hlt
      have h32k := h32 fs[k] (List.getElem_mem _)
      have HT : Hid (Hm.nameBytes (fs.take (k + 1)) = Hm.nameBytes (fs.take k) ++ (UInt8.ofNat fs[k].1.size :: fs[k].1.data.toList)) := Hm.nameBytes_take fs k hlt
      generalize fs[k].1 = nm at *
      generalize fs[k].2 = ct at *
      rw [hao]
      have HA : Hid (ao = some ⟨b, o, none⟩) := hao
      have HNK : Hid ((Hm.nameBytes (fs.take k)).length = nk) := hnk
      clear hao hnk hf
      go_wp2_with (at_builtin; refine wpList_append_mv _ rfl (.tmp 13) (.tmp 18) 23 rfl base 5 i0 (.int .u8 0) 1 1 Try.underlying23 hi hz0 hz1 hz2 rfl (by decide) _ _ _ rfl ((hor.alloc _).alloc _) ⟨wr.heap.size + 1, 0, none⟩ 1 1 [.int .u8 (nm.size : Int)] rfl rfl ?c1 ?c2 ?c3 ?c4 ?c5 ?_)
      case c1 => have h := cell_one_new (wr.alloc (.cells #[.string nm, .string ct] 28)) (.int .u8 (nm.size : Int)) 5; simpa using h
      case c2 => intro u hu; simp at hu; subst hu; rfl
      case c3 => unfold maxLen; omega
      case c4 => omega
      case c5 => have := hkr.size; simp; omega
      intro v' w1 ho1 hg1 hm1
      have hu0 : ∀ j, u0.ownBlock = some j → j < wr.heap.size := fun j hj => (hor.lt j hj).2
      have hbx : w1.cell? ⟨wr.heap.size, 0, none⟩ = some (.string nm) :=
        hg1.cell (cell_of_row _ _ 0 _ _ _ (heap_alloc2_old wr _ _)) (fun e => by have := hu0 _ e.symm; simp at this)
      have hz : wr.heap.size + 2 ≤ w1.heap.size := by have := hg1.size; simp at this; omega
      have hk1 : Kept (fun j => v.ownBlock = some j) w w1 := ((hkr.alloc _).alloc _).grown hg1 (fun k hk => (hmr k hk).elim (fun h => .inr h) .inl)
      have hmv1 : Moved w v v' := hmr.trans hm1 (by have := hkr.size; simp; omega)
      clear hg1 hm1 hor hkr hmr hu0
      go_wp2_with (at_builtin; refine wpList_append_mv_string _ rfl (.tmp 20) (.tmp 22) 23 9 rfl base 5 i0 Try.underlying23 Try.underlying9 hi hz0 hz1 hz2 _ _ _ rfl ho1 nm rfl ?c6 ?c7 ?c8 ?_)
      case c6 => unfold maxLen; omega
      case c7 => omega
      case c8 => have := hk1.size; omega
      intro v2 w2 ho2 hg2 hm2 _
      go_wp2
      go_roundw
      case rel =>
        have e : Hm.bcells (l ++ Hm.nameBytes (fs.take (k + 1))) = Hm.bcells (l ++ Hm.nameBytes (fs.take k)) ++ [.int .u8 (nm.size : Int)] ++ Lib.strCells nm := by
          rw [HT.out]; simp [Hm.bcells, Lib.strCells]; omega
        have e2 : n + (Hm.nameBytes (fs.take (k + 1))).length = n + nk + 1 + nm.size := by
          have e3 : nm.data.toList.length = nm.size := by simp
          rw [HT.out, List.length_append, HNK.out, List.length_cons, e3]; omega
        refine ⟨k + 1, by omega, by go_num, ?_, ?_, ?_⟩
        · rw [e, e2]; simpa using ho2
        · exact hk1.grown hg2 (fun k hk => (hmv1 k hk).elim (fun h => .inr h) .inl)
        · exact hmv1.trans hm2 (by have := hk1.size; omega)
      case measure => simp [intOf]; omega
    · clear hf
      go_wp2
      go_ret
      obtain rfl : k = fs.length := by omega
      have e : fs.take fs.length = fs := List.take_length
      rw [e] at hor hnk
      rw [hnk]
      exact ⟨_, rfl, hor, hkr, hmr⟩

end Go.Proofs.Ytjjejdfmcohghaa
