import Derived.Test.YtegnkfdbmmndaaaGreatJ26
import Derived.Test.YtegnkfdbmmndaaaGreatJ27
import Derived.Test.YtegnkfdbmmndaaaGreatRows
import Derived.Carry

/- PacksSaid -/
section
/- Packs is proved whole: for every list of files the call returns true, never panics, and leaves the list as it was; no condition. -/
namespace Go.Proofs.YtegnkfdbmmndaaaGreat.packs
open Go.ChangeShapes Go.WideShapes Go.ChangeAt Go.RowKit

theorem own : ownKnob Tryz.prog.godebug = none := by kernel_rfl
theorem laidOut : laidOutB Tryz.prog = true := by kernel_rfl

theorem packs_nil (w : World) : Calls Tryz.prog 3 #[.slice none 0 0] w fun e w' => e = .returned (.bool true) ∧ Kept (fun _ => False) w w' :=
  packs_of _ w (lawPacked_nil w fun W => refPack_any none 0 [] W (fun i hi => by simp at hi) (by simp) (fun f hf => by cases hf))

theorem packs_any (a : Addr) (c : Nat) (fs : List Hm.Fl) (w : World) (hf : FilesAt w (some a) fs) (hl : fs.length ≤ 4398046511103) (hsz : ∀ f ∈ fs, f.1.size ≤ 140737488355328 ∧ f.2.size ≤ 140737488355328) :
    Calls Tryz.prog 3 #[.slice (some a) fs.length c] w fun e w' => e = .returned (.bool true) ∧ Kept (fun _ => False) w w' :=
  packs_of _ w (lawPacked_any a c fs w hf hl hsz fun W h => refPack_any (some a) c fs W h (by omega) hsz)

set_option maxRecDepth 100000 in
theorem lifted (os : Os) (started : os.Started) (H : Type) (enc : TypeId × Value → H) :
    ReturnsInHanded {} Tryz.checked os 3 .any (Rows.packsSpec.pre6 enc Tryz.prog Tryz.f3 Rows.packsRow.domain false) (Rows.packsSpec.post enc Tryz.prog Tryz.f3 false true false false) := by
  refine returnsInHanded_of_change_sized (C := Tryz.checked) own started (by kernel_rfl) Tryz.func3
    (ChangeSpec.witness6 (enc := enc) (C := Tryz.checked) false ⟨#[], #[.slice none 0 0], []⟩ 8 (by kernel_rfl) (by kernel_rfl) (by kernel_rfl) (by kernel_rfl)) ?_
  intro W base args ds gs before hval0 hW hcnd hsz0 _
  have hval : ∀ (j : Nat) t v, Tryz.f3.params[j]? = some t → args[j]? = some v → Value.okWide Tryz.prog W .any base t v := hval0
  have hW' := hW
  obtain ⟨p, q, hA0, hV, rfl, hfz, hnd⟩ := hW
  have hA : DataW.TrodAll enc Tryz.prog W 0 (fun _ => true) true Tryz.f3.params.toList args.toList ds p := hA0
  have hsz : (DataW.weightsEach Tryz.prog (Tryz.f3.params.toList ++ Rows.packsSpec.plain.varTypes Tryz.prog) (ds ++ gs)).all (· ≤ reachBytes) = true := hsz0
  rw [Tryz.params3] at hA hval hsz
  obtain ⟨v0, vs0, d0, ds0, p0, q0, hargs, rfl, rfl, h0, r0⟩ := trodAll_cons hA
  obtain ⟨rfl, rfl, rfl⟩ := trodAll_nil r0
  obtain rfl : args = #[v0] := by cases args; simp_all
  obtain ⟨rfl, rfl⟩ := trodVars_none hV
  have hlt : ∀ x ∈ p0, x.block < W.heap.size := fun x hx => by simpa using hW'.lt x (by simpa using hx)
  have hw : ∀ n ∈ d0.weights Tryz.prog 22, n ≤ reachBytes := fun n hn => by
    have := List.all_eq_true.1 hsz n (DataW.weights_mem_each (j := 0) rfl rfl n hn)
    simpa using this
  have walk : Calls Tryz.prog 3 #[v0] W fun e w' => e = .returned (.bool true) ∧ Kept (fun _ => False) W w' := by
    rcases open_files (hval 0 22 v0 rfl rfl) h0 with rfl | ⟨a, c, fs, rfl, hf, hs⟩
    · exact packs_nil W
    · exact packs_any a c fs W hf (hs hw).1 (hs hw).2
  clear hA0 hval0 hsz0
  simp only [List.append_nil] at hW'
  refine walk.mono fun e W' ⟨he, hg⟩ => ?_
  subst he
  have hb := hg.below (Nat.le_refl _) (fun _ _ => id)
  have hback : DataW.TrodAll enc Tryz.prog W' 0 (fun b => decide (b < W.heap.size)) true [22] [v0] [d0] p0 := by
    have h := trodAll_cons_mk (Below.trod laidOut (by kernel_rfl) (of_decide_eq_true (by kernel_rfl)) h0 hb hlt) trodAll_mk0
    rwa [List.append_nil] at h
  exact ⟨_, rfl, _, _, _, [], p0, [], hW', trodAll_cons_mk (shut_bool Tryz.underlying4 _) trodAll_mk0, hback, rfl, hb.frame _, fun h => by cases h⟩

theorem over : Rows.packsRow.holds Tryz.pinned (OpenSpec.ofChange Rows.packsSpec) :=
  OpenClaim.holds_of_wide 3 Tryz.f3 rfl rfl rfl rfl rfl rfl rfl ⟨rfl, rfl, rfl, rfl, rfl⟩ rfl rfl rfl rfl rfl (by kernel_rfl) Tryz.func3 (by kernel_rfl)
    (of_decide_eq_true (by kernel_rfl)) (by unfold Func.isWrapper; first | (rw [if_pos (by decide +kernel)]; kernel_rfl) | (rw [if_neg (by decide +kernel)]; exact ⟨rfl, rfl⟩))
    (fun os started H enc _ => lifted os started H enc)

theorem proved : Rows.PacksSaid :=
  over
#print axioms proved
end Go.Proofs.YtegnkfdbmmndaaaGreat.packs
end
