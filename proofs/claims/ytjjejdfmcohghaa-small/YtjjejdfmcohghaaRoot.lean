/- The root's row. -/
import Derived.Test.YtjjejdfmcohghaaSortRows
namespace Go.Proofs.Ytjjejdfmcohghaa
open Go.RowKit

set_option maxHeartbeats 400000 in
theorem root_any (gp c : Nat) (ps : List Nat) (w : World) (hp : IntRow w gp ps) (hl : ps.length ≤ 6001) :
    Calls Try.prog 18 #[.slice (some ⟨gp, 0, none⟩) ps.length c] w fun e w' => e = .returned (.int .i64 (Lib.idxOf (ps.map fun x : Nat => (x : Int)) 0)) ∧ w = w' := by
  have hc := Try.slices_Index_int gp 0 ps.length c (ps.map fun x : Nat => (x : Int)) 0 w (by simp) (by omega) (fun j hj => by
    have hjl : j < ps.length := by simpa using hj
    rw [Nat.zero_add, hp.cell hjl]
    simp [List.getD_eq_getElem?_getD, hjl])
  rw [show (ps.map fun x : Nat => (x : Int)).take ps.length = ps.map fun x : Nat => (x : Int) from List.take_of_length_le (by simp)] at hc
  generalize Lib.idxOf (ps.map fun x : Nat => (x : Int)) 0 = r at *
  clear hp
  go_enter Try.func18, Try.ntmps18
  go_wp2_with (go_at_call 48; refine hc.mono ?_; rintro e w2 ⟨rfl, rfl⟩)
  go_ret
  exact ⟨rfl, rfl⟩

end Go.Proofs.Ytjjejdfmcohghaa
