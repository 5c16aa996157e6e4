import Derived.Test.YtegnkfdbmmndaaaGreatShelf
import Derived.Test.YtegnkfdbmmndaaaGreatJ17

/- Says -/
section
/- What the library's small functions hand back, as the texts ask for it. -/
namespace Go.Proofs.YtegnkfdbmmndaaaGreat
open Go.RowKit

theorem ones_says : OnesSays := fun b W => by
 have h := Tryz.bits_OnesCount8 (b.toNat : Nat) W (by omega) (by have := b.toNat_lt; omega)
 rw [Int.toNat_natCast, ← Hm.on8_eq] at h
 exact h
theorem len_says : LenSays := fun x W h0 h1 => (Tryz.bits_Len x W h0 h1).mono fun _ _ h => ⟨h.1, h.2.symm⟩

end Go.Proofs.YtegnkfdbmmndaaaGreat
end
