/- A row of bytes as a string. -/
import Derived.Test.YtjjejdfmcohghaaAddBits
namespace Go.Proofs.Ytjjejdfmcohghaa
open Go.RowKit

theorem convert_own {w : World} {base : Nat} {v : Value} {n : Nat} {l : List UInt8} (h : w.ownsRow base 5 1 v n (Hm.bcells l)) :
    (convert 23 9 v).run Try.prog w = .ok (.string ⟨l.toArray⟩) w := by
  have hl : l.length = n := by have := h.1; simpa [Hm.bcells] using this
  rcases h.2 with ⟨rfl, rfl⟩ | ⟨g, cap, cur, rfl, _⟩
  · have : l = [] := List.eq_nil_of_length_eq_zero hl
    subst this
    exact run_convert_bytes_nil w _ _ Try.underlying23 Try.underlying5 0 0 _ Try.underlying9
  · have hr := run_convert_bytes_arg w _ _ Try.underlying23 Try.underlying5 g 0 n cap (l.map fun b => (b.toNat : Int)) (by simpa using hl) (fun i hi => by
      have hc := h.cellAt i (by omega)
      have hil : i < l.length := by omega
      simp only [Nat.zero_add]
      rw [hc, Hm.bcells, List.getElem?_map, List.getElem?_eq_getElem hil, List.getD_eq_getElem?_getD, List.getElem?_map, List.getElem?_eq_getElem hil]; rfl) _ Try.underlying9
    have e : strOfNums (l.map fun b => (b.toNat : Int)) = ⟨l.toArray⟩ := by
      unfold strOfNums
      rw [List.map_map]
      have e2 : ((fun n : Int => UInt8.ofNat n.toNat) ∘ fun b : UInt8 => (b.toNat : Int)) = id := by funext b; simp
      rw [e2, List.map_id]
    rw [e] at hr
    exact hr

set_option maxHeartbeats 400000 in
theorem packed_any (T pb : Nat) (v : Value) (bits : List Bool) (w : World) (h : BitsAt w T pb v bits) :
    Calls Try.prog 20 #[.pointer (some ⟨pb, 0, none⟩)] w fun e w' => e = .returned (.string ⟨(Hm.packBits bits).toArray⟩) ∧ w = w' := by
  have hc0 : w.cell? ⟨pb, 0, none⟩ = some v := cell_of_row _ _ 0 _ _ _ h.blk
  have hcv := convert_own h.own
  clear h
  generalize (⟨(Hm.packBits bits).toArray⟩ : ByteArray) = s at *
  go_enter Try.func20, Try.ntmps20
  go_wp2
  go_ret
  exact ⟨rfl, rfl⟩

end Go.Proofs.Ytjjejdfmcohghaa
