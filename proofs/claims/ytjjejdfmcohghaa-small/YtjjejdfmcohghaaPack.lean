/- Pack: refused files, and files whose text is of one byte. -/
import Derived.Test.YtjjejdfmcohghaaArchive
namespace Go.Proofs.Ytjjejdfmcohghaa
open Go.RowKit

set_option maxHeartbeats 1000000 in
theorem pack_err (ao : Option Addr) (c : Nat) (fs : List (ByteArray × ByteArray)) (e0 : Int) (w : World) (hf : FilesAt w ao fs) (hl : fs.length ≤ 1000) (hsz : ∀ f ∈ fs, f.1.size ≤ 140737488355328 ∧ f.2.size ≤ 140737488355328) (he : Hm.ckAll fs = e0) (h0 : e0 ≠ 0) :
    Calls Try.prog 5 #[.slice ao fs.length c] w fun e w' => e = .returned (.tuple #[.string ⟨#[]⟩, .int .i64 e0]) ∧ Kept (fun _ => False) w w' := by
  have hck := check_any ao c fs w hf (by omega) hsz
  rw [he] at hck
  have hb : (e0 != 0) = true := by rw [bne_iff_ne]; exact h0
  clear hf hsz he
  go_enter Try.func5, Try.ntmps5
  go_wp2_with (go_at_call 6; refine hck.mono ?_; rintro e w2 ⟨rfl, hk⟩)
  go_ret2
  exact ⟨rfl, hk⟩

set_option maxHeartbeats 1000000 in
theorem pack_one (ao : Option Addr) (c cn : Nat) (fs : List (ByteArray × ByteArray)) (w : World) (hf : FilesAt w ao fs) (hfb : ∀ a, ao = some a → a.block < w.heap.size) (hm : fs.length ≤ 40) (h32 : ∀ f ∈ fs, f.1.size ≤ 32) (h3000 : ∀ f ∈ fs, f.2.size ≤ 3000)
    (n : Nat) (hnt : (Hm.textOf fs).length = n) (hn1 : 1 ≤ n) (hn : n ≤ 6000) (hcn : cn < 256) (hc : ∀ b ∈ Hm.textOf fs, b.toNat = cn) (he : Hm.ckAll fs = 0) :
    Calls Try.prog 5 #[.slice ao fs.length c] w fun e w' => ∃ s : ByteArray, e = .returned (.tuple #[.string s, .int .i64 0]) ∧
      s.size = 19 + (Hm.nameBytes fs).length + ((Hm.endsBits (Hm.endsOf fs) n).length + 7) / 8 + (n + 7) / 8 + (n + 1 + (n / 8 + 1) * Lib.bitLen (n / 8) + 7) / 8 ∧ Kept (fun _ => False) w w' := by
  have hck := check_any ao c fs w hf (by omega) (fun f hfm => by have := h32 f hfm; have := h3000 f hfm; omega)
  rw [he] at hck
  have har := fun W (hk : Kept (fun _ => False) w W) => archive_one ao c cn fs W (hf.kept hk (fun _ _ => id)) (fun a ha => by have := hfb a ha; have := hk.size; omega) hm h32 n hnt hn1 hn hcn hc
  generalize 19 + (Hm.nameBytes fs).length + ((Hm.endsBits (Hm.endsOf fs) n).length + 7) / 8 + (n + 7) / 8 + (n + 1 + (n / 8 + 1) * Lib.bitLen (n / 8) + 7) / 8 = L at har ⊢
  have HR : Hid (∀ W, Kept (fun _ => False) w W → Calls Try.prog 7 #[.slice ao fs.length c] W fun e w' => ∃ s : ByteArray, e = .returned (.string s) ∧ s.size = L ∧ Kept (fun _ => False) W w') := har
  clear hf hfb h32 h3000 hnt hc he har
  go_enter Try.func5, Try.ntmps5
  go_wp2_with fail
  refine hck.mono ?_
  rintro e w2 ⟨rfl, hk⟩
  clear hck
  go_wp2_with fail
  refine (HR.out w2 hk).mono ?_
  rintro e w3 ⟨s, rfl, hs, hk3⟩
  have HS : Hid (s.size = L) := hs
  clear hs
  go_wp2
  go_ret2
  exact ⟨s, rfl, HS.out, hk.trans hk3 (fun _ _ h => h)⟩

end Go.Proofs.Ytjjejdfmcohghaa
