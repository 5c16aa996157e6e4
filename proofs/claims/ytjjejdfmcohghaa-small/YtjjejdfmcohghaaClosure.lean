/- The comparison that the sort of the endings is given. -/
import Derived.Test.YtjjejdfmcohghaaCmp
namespace Go.Proofs.Ytjjejdfmcohghaa
open Go.RowKit Go.Sort

theorem Grew.cell {w w' : World} (h : Grew w w') {p : Addr} {v : Value} (hc : w.cell? p = some v) : w'.cell? p = some v := by
  obtain ⟨q, os, rfl⟩ := h
  have hb := World.block_lt_of_cell? _ _ hc
  rw [← hc]
  refine World.cell?_of_block ?_
  show (w.heap ++ os)[p.block]? = _
  rw [Array.getElem?_append_left hb]

set_option maxHeartbeats 2000000 in
theorem closure_any (pb gq c : Nat) (prs : List (Nat × Nat)) (i j : Nat) (w : World) (h0 : w.cell? ⟨pb, 0, none⟩ = some (.slice (some ⟨gq, 0, none⟩) prs.length c)) (hq : PairRow w gq prs) (hi : i < prs.length) (hj : j < prs.length) (_hl : prs.length ≤ 6001) :
    Calls Try.prog 29 #[.int .i64 (i : Nat), .int .i64 (j : Nat), .pointer (some ⟨pb, 0, none⟩)] w fun e w' => e = .returned (.int .i64 (Hm.cmpP prs[i] prs[j])) ∧ Grew w w' := by
  have h1 := hq.fst hi
  have h2 := hq.snd hi
  have h3 := hq.fst hj
  have h4 := hq.snd hj
  clear hq
  generalize prs[i] = pi at *
  generalize prs[j] = pj at *
  obtain ⟨a, b⟩ := pi
  obtain ⟨cc, d⟩ := pj
  simp only at h1 h2 h3 h4
  have hcmp := fun W => comparePairs_any a b cc d W
  generalize Hm.cmpP (a, b) (cc, d) = r at hcmp ⊢
  have hi' : (i : Int) < (prs.length : Int) := by omega
  have hj' : (j : Int) < (prs.length : Int) := by omega
  go_enter Try.func29, Try.ntmps29
  go_wp2
  go_region_held (fun W => W.cell? ⟨pb, 0, none⟩ = some (.slice (some ⟨gq, 0, none⟩) prs.length c) ∧ W.cell? ⟨gq, i * 2, none⟩ = some (.int .i64 (a : Nat)) ∧ W.cell? ⟨gq, i * 2 + 1, none⟩ = some (.int .i64 (b : Nat)) ∧ W.cell? ⟨gq, j * 2, none⟩ = some (.int .i64 (cc : Nat)) ∧ W.cell? ⟨gq, j * 2 + 1, none⟩ = some (.int .i64 (d : Nat))) (go_keep)
    (first
    | (go_at_call 30; refine (hcmp _).mono ?_; rintro e w' ⟨rfl, hg⟩; have k0 := hg.cell h0; have k1 := hg.cell h1; have k2 := hg.cell h2; have k3 := hg.cell h3; have k4 := hg.cell h4))
  go_wp2
  go_ret
  exact ⟨rfl, (Grew.refl w).drew.trans hg⟩

end Go.Proofs.Ytjjejdfmcohghaa
