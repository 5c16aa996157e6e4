/- Why files may not be packed. -/
import Derived.Test.YtjjejdfmcohghaaNames
namespace Go.Proofs.Ytjjejdfmcohghaa
open Go.RowKit

namespace Hm
def leB (a b : ByteArray) : Bool := Op.bytesLess a.toList b.toList || a.toList == b.toList
def ckFile (nm ct ahead : ByteArray) : Int :=
  if nm.size = 0 ∨ 32 < nm.size then 2 else if leB nm ahead then 3 else if 3000 < ct.size then 4 else 0
def ckLoop (ah : ByteArray) (tot : Nat) : List (ByteArray × ByteArray) → Int
  | [] => if 6000 < tot then 5 else 0
  | f :: r => if Hm.ckFile f.1 f.2 ah = 0 then ckLoop f.1 (tot + f.2.size) r else Hm.ckFile f.1 f.2 ah
def ckAll (fs : List (ByteArray × ByteArray)) : Int := if 40 < fs.length then 1 else ckLoop ⟨#[]⟩ 0 fs
theorem ckLoop_drop (fs : List (ByteArray × ByteArray)) (k : Nat) (h : k < fs.length) (ah : ByteArray) (tot : Nat) :
    ckLoop ah tot (fs.drop k) = if Hm.ckFile fs[k].1 fs[k].2 ah = 0 then ckLoop fs[k].1 (tot + fs[k].2.size) (fs.drop (k + 1)) else Hm.ckFile fs[k].1 fs[k].2 ah := by
  rw [List.drop_eq_getElem_cons h]; rfl
theorem ckFile_small {nm ct ah : ByteArray} (h : ckFile nm ct ah = 0) : ct.size ≤ 3000 ∧ nm.size ≤ 32 ∧ nm.size ≠ 0 ∧ leB nm ah = false := by
  unfold ckFile at h
  split at h
  · omega
  split at h
  · omega
  split at h
  · omega
  rename_i h1 h2 h3
  exact ⟨by omega, by omega, by omega, by simpa using h2⟩
theorem ckFile_range (nm ct ah : ByteArray) : 0 ≤ ckFile nm ct ah ∧ ckFile nm ct ah ≤ 4 := by
  unfold ckFile; split
  · omega
  split
  · omega
  split <;> omega
end Hm

theorem isEmpty_toList (s : ByteArray) : s.toList.isEmpty = decide (s.size = 0) := by
  have hl : s.data.toList.length = s.size := by simp
  rw [ByteArray.toList_eq, ← hl]
  cases s.data.toList <;> simp

theorem ck_name {nm ct ah : ByteArray} (h : nm.size = 0 ∨ 32 < nm.size) : Hm.ckFile nm ct ah = 2 := by rw [Hm.ckFile, if_pos h]
theorem ck_order {nm ct ah : ByteArray} (h0 : ¬ nm.size = 0) (h : (nm.size : Int) ≤ 32) (h2 : Op.bytesLess nm.toList ah.toList = true ∨ (nm.toList == ah.toList) = true) : Hm.ckFile nm ct ah = 3 := by
  rw [Hm.ckFile, if_neg (by omega), if_pos (by simpa [Hm.leB] using h2)]
theorem ck_big {nm ct ah : ByteArray} (h0 : ¬ nm.size = 0) (h : (nm.size : Int) ≤ 32) (h2 : Op.bytesLess nm.toList ah.toList = false ∧ (nm.toList == ah.toList) = false) (h3 : 3000 < (ct.size : Int)) : Hm.ckFile nm ct ah = 4 := by
  rw [Hm.ckFile, if_neg (by omega), if_neg (by simp [Hm.leB, h2.1]; simpa using h2.2), if_pos (by omega)]
theorem ck_ok {nm ct ah : ByteArray} (h0 : ¬ nm.size = 0) (h : (nm.size : Int) ≤ 32) (h2 : Op.bytesLess nm.toList ah.toList = false ∧ (nm.toList == ah.toList) = false) (h3 : (ct.size : Int) ≤ 3000) : Hm.ckFile nm ct ah = 0 := by
  rw [Hm.ckFile, if_neg (by omega), if_neg (by simp [Hm.leB, h2.1]; simpa using h2.2), if_neg (by omega)]
theorem ret_int {k : IntKind} {a b : Int} (h : a = b) : Ending.returned (.int k a) = .returned (.int k b) := by rw [h]

set_option maxHeartbeats 400000 in
theorem checkFile_any (nm ct ah : ByteArray) (w : World) (h1 : nm.size ≤ 140737488355328) (_h2 : ct.size ≤ 140737488355328) :
    Calls Try.prog 8 #[.agg #[.string nm, .string ct], .string ah] w fun e w' => e = .returned (.int .i64 (Hm.ckFile nm ct ah)) ∧ Kept (fun _ => False) w w' := by
  by_cases a0 : nm.size = 0
  · have hE : nm.toList.isEmpty = true := by rw [isEmpty_toList]; simpa using a0
    go_enter Try.func8, Try.ntmps8
    go_wp2
    go_ret
    exact ⟨ret_int (ck_name (.inl a0)).symm, (Kept.refl _ _).alloc _⟩
  · have hE : nm.toList.isEmpty = false := by rw [isEmpty_toList]; simpa using a0
    go_enter Try.func8, Try.ntmps8
    go_wp2
    all_goals go_ret
    · exact ⟨ret_int (ck_name (.inr (by omega))).symm, (Kept.refl _ _).alloc _⟩
    · exact ⟨ret_int (ck_order a0 ‹_› ‹_›).symm, (Kept.refl _ _).alloc _⟩
    · exact ⟨ret_int (ck_big a0 ‹_› ‹_› ‹_›).symm, (Kept.refl _ _).alloc _⟩
    · exact ⟨ret_int (ck_ok a0 ‹_› ‹_› ‹_›).symm, (Kept.refl _ _).alloc _⟩

set_option maxHeartbeats 400000 in
theorem check_any (ao : Option Addr) (c : Nat) (fs : List (ByteArray × ByteArray)) (w : World) (hf : FilesAt w ao fs) (hl : fs.length ≤ 140737488355328) (hsz : ∀ f ∈ fs, f.1.size ≤ 140737488355328 ∧ f.2.size ≤ 140737488355328) :
    Calls Try.prog 6 #[.slice ao fs.length c] w fun e w' => e = .returned (.int .i64 (Hm.ckAll fs)) ∧ Kept (fun _ => False) w w' := by
  by_cases h40 : 40 < fs.length
  · clear hf
    go_enter Try.func6, Try.ntmps6
    go_wp2
    go_ret
    exact ⟨ret_int (by rw [Hm.ckAll, if_pos h40]), Kept.refl _ _⟩
  have HE : Hid (Hm.ckAll fs = Hm.ckLoop ⟨#[]⟩ 0 (fs.drop 0)) := by rw [Hm.ckAll, if_neg h40]; rfl
  generalize Hm.ckAll fs = E at HE ⊢
  go_enter Try.func6, Try.ntmps6
  go_wp2
  go_loopw [3, 4, 13] (fun t a i wr => ∃ (k : Nat) (tot : Nat) (ah : ByteArray), k ≤ fs.length ∧ i = .int .i64 k ∧ t = .int .i64 tot ∧ a = .string ah ∧ tot ≤ 3000 * k ∧ E = Hm.ckLoop ah tot (fs.drop k) ∧ Kept (fun _ => False) w wr) (fun _ _ i _ => fs.length - (intOf i).toNat)
  case atStart => exact ⟨0, 0, _, Nat.zero_le _, rfl, rfl, rfl, by omega, HE.out, Kept.refl _ _⟩
  case round =>
    clear HE
    obtain ⟨k, tot, ah, hk, rfl, rfl, rfl, ht, hE, hkr⟩ := hrel
    have HE : Hid (E = Hm.ckLoop ah tot (fs.drop k)) := hE
    clear hE
    by_cases hlt : k < fs.length
    · obtain ⟨b, o, hao, hbw, hc1, hc2⟩ := (hf.kept hkr (fun a ha => id)) k hlt
      have hs := hsz fs[k] (List.getElem_mem _)
      obtain ⟨hs1, hs2⟩ := hs
      have HT : Hid (E = if Hm.ckFile fs[k].1 fs[k].2 ah = 0 then Hm.ckLoop fs[k].1 (tot + fs[k].2.size) (fs.drop (k + 1)) else Hm.ckFile fs[k].1 fs[k].2 ah) := HE.out.trans (Hm.ckLoop_drop fs k hlt ah tot)
      generalize fs[k].1 = nm at *
      generalize fs[k].2 = ct at *
      rw [hao]
      clear hao hf HE hsz
      by_cases h0 : Hm.ckFile nm ct ah = 0
      · have hsm := (Hm.ckFile_small h0).1
        have hcon := checkFile_any nm ct ah (wr.alloc (.cells #[.string nm, .string ct] 28)) hs1 hs2
        rw [h0] at hcon
        have HT2 : Hid (E = Hm.ckLoop nm (tot + ct.size) (fs.drop (k + 1))) := by rw [HT.out, if_pos h0]; rfl
        clear h0 HT
        go_wp2_with (go_at_call 8; refine hcon.mono ?_; rintro e w1 ⟨rfl, hk1⟩; have hx0 := hk1.cell (p := ⟨wr.heap.size, 0, none⟩) (by simp) id; have hx1 := hk1.cell (p := ⟨wr.heap.size, 1, none⟩) (by simp) id; simp at hx0 hx1)
        go_roundw
        case rel => exact ⟨k + 1, tot + ct.size, nm, by omega, by go_num, by go_num, rfl, by omega, HT2.out, (hkr.alloc _).trans hk1 (fun _ _ h => h)⟩
        case measure => simp [intOf]; omega
      · have hcon := checkFile_any nm ct ah (wr.alloc (.cells #[.string nm, .string ct] 28)) hs1 hs2
        have hrg := Hm.ckFile_range nm ct ah
        have HT2 : Hid (E = Hm.ckFile nm ct ah) := by rw [HT.out, if_neg h0]; rfl
        clear HT
        generalize Hm.ckFile nm ct ah = r at *
        have h0' : (r != 0) = true := by rw [bne_iff_ne]; exact h0
        go_wp2_with (go_at_call 8; refine hcon.mono ?_; rintro e w1 ⟨rfl, hk1⟩)
        go_ret
        exact ⟨ret_int HT2.out.symm, (hkr.alloc _).trans hk1 (fun _ _ h => h)⟩
    · obtain rfl : k = fs.length := by omega
      have HT2 : Hid (E = if 6000 < tot then 5 else 0) := by have h := HE.out; rw [List.drop_length] at h; exact h
      clear HE hf
      by_cases h6 : 6000 < tot
      · go_wp2
        go_ret
        exact ⟨ret_int (by rw [HT2.out, if_pos h6]), hkr⟩
      · go_wp2
        go_ret
        exact ⟨ret_int (by rw [HT2.out, if_neg h6]), hkr⟩

end Go.Proofs.Ytjjejdfmcohghaa
