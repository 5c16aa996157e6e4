import Derived.Test.YtegnkfdbmmndaaaGreatJ01
import Derived.ProofKit
import Derived.OpenShut
import Derived.Deep.SlicePairs
import Derived.SizedLaws

/- OpenF -/
section
/- A list of files that came in: what lies there, and how great it is. -/
namespace Go.Proofs.YtegnkfdbmmndaaaGreat
open Go.ChangeShapes Go.WideShapes Go.ChangeAt Go.RowKit Go.Deep

theorem weightsAll_mem {H : Type} {P : Program} {e : TypeId} : ∀ {l : List (DataW H)} {d : DataW H}, d ∈ l → ∀ n ∈ d.weights P e, n ∈ DataW.weightsAll P e l
  | x :: r, d, h, n, hn => by
    simp only [DataW.weightsAll, List.mem_append]
    rcases List.mem_cons.1 h with rfl | h
    · exact .inl hn
    · exact .inr (weightsAll_mem h n hn)

/-- The text that a value is. -/
def strIn : Value → ByteArray
  | .string s => s
  | _ => ⟨#[]⟩

set_option maxRecDepth 100000 in
theorem open_files {H : Type} {enc : TypeId × Value → H} {W : World} {base : Nat} {v : Value} {d : DataW H} {ps : List MemPlace} (hv : Value.okWide Tryz.prog W .any base 22 v)
    (h : DataW.Trod enc Tryz.prog W 0 (fun _ => true) true 22 v d ps) :
    v = .slice none 0 0 ∨ ∃ (a : Addr) (c : Nat) (fs : List Hm.Fl), v = .slice (some a) fs.length c ∧ FilesAt W (some a) fs ∧
      ((∀ n ∈ d.weights Tryz.prog 22, n ≤ reachBytes) → fs.length ≤ 4398046511103 ∧ ∀ f ∈ fs, f.1.size ≤ 140737488355328 ∧ f.2.size ≤ 140737488355328) := by
  obtain ⟨a0, l0, c0, rfl⟩ := okWide_slice Tryz.underlying22 hv
  obtain ⟨fuel, hf⟩ := h
  rcases open_slice_pairs Tryz.underlying22 Tryz.underlying38 (by kernel_rfl) rfl rfl (by kernel_rfl) (by kernel_rfl) hf with ⟨hcs, _⟩ | ⟨a, len, cap, m, n, V0, V1, D0, D1, P0, P1, hcs, _, hl, _, hmm, hx, hc⟩
  · left
    simpa [Value.cells] using hcs
  · right
    have hm : len ≤ m := by rw [hmm]; simp; exact hl
    have hstr : ∀ i, i < len → ∃ s t : ByteArray, V0 i = .string s ∧ V1 i = .string t ∧ D0 i = .lit (.string s.data.toList) ∧ D1 i = .lit (.string t.data.toList) := fun i hi => by
      obtain ⟨_, _, t0, t1⟩ := hc i (by omega)
      obtain ⟨s, e1, e2, _⟩ := DataW.trod_string Tryz.underlying9 t0
      obtain ⟨t, g1, g2, _⟩ := DataW.trod_string Tryz.underlying9 t1
      exact ⟨s, t, by simpa using e1, by simpa using g1, (Prod.mk.inj e2).1, (Prod.mk.inj g2).1⟩
    obtain ⟨fs, hfs⟩ : ∃ fs : List Hm.Fl, fs = (List.range len).map fun i => (strIn (V0 i), strIn (V1 i)) := ⟨_, rfl⟩
    have hlen : fs.length = len := by rw [hfs]; simp
    have hget : ∀ i, (hi : i < fs.length) → V0 i = .string fs[i].1 ∧ V1 i = .string fs[i].2 := fun i hi => by
      obtain ⟨s, t, e1, e2, _⟩ := hstr i (by omega)
      have : fs[i] = (s, t) := by simp [hfs, strIn, e1, e2]
      rw [this, e1, e2]; exact ⟨rfl, rfl⟩
    refine ⟨a, cap, fs, by rw [hlen]; simpa [Value.cells] using hcs, fun i hi => ?_, fun hw => ?_⟩
    · obtain ⟨k0, k1, _⟩ := hc i (by omega)
      obtain ⟨b, off, spot⟩ := a
      have hspot : spot = none := by
        obtain ⟨z0, _⟩ := hc 0 (by omega)
        simpa [Addr.add] using World.cell?_spot z0
      subst hspot
      rw [add_plain] at k0 k1
      obtain ⟨e1, e2⟩ := hget i hi
      refine ⟨b, off, rfl, World.block_lt_of_cell? _ _ k0, by rw [k0, e1], ?_⟩
      rw [Nat.add_assoc, k1, e2]
    · obtain ⟨hd, _⟩ := Prod.mk.inj hx
      subst hd
      rw [DataW.weights, Tryz.underlying22] at hw
      have hb : Tryz.prog.bytesOf 38 = 32 := by kernel_rfl
      have h1 := hw _ (List.mem_cons_self ..)
      rw [hb] at h1
      unfold reachBytes at h1 hw
      simp only [List.length_map, List.length_range] at h1
      refine ⟨by omega, fun f hfm => ?_⟩
      obtain ⟨i, hi, rfl⟩ := List.getElem_of_mem hfm
      obtain ⟨s, t, e1, e2, e3, e4⟩ := hstr i (by omega)
      obtain ⟨g1, g2⟩ := hget i hi
      have hs : s = fs[i].1 := by rw [e1] at g1; cases g1; rfl
      have ht : t = fs[i].2 := by rw [e2] at g2; cases g2; rfl
      have hin : (DataW.agg [D0 i, D1 i]) ∈ (List.range len).map fun i => DataW.agg [D0 i, D1 i] := List.mem_map.2 ⟨i, List.mem_range.2 (by omega), rfl⟩
      have hsw := hw s.size (List.mem_cons_of_mem _ (List.mem_append_left _ (weightsAll_mem hin _ (by rw [DataW.weights, Tryz.underlying38]; simp [DataW.weightsEach, e3, e4, DataW.weights]))))
      have htw := hw t.size (List.mem_cons_of_mem _ (List.mem_append_left _ (weightsAll_mem hin _ (by rw [DataW.weights, Tryz.underlying38]; simp [DataW.weightsEach, e3, e4, DataW.weights]))))
      rw [← hs, ← ht]
      omega

end Go.Proofs.YtegnkfdbmmndaaaGreat
end
