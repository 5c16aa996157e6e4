import Derived.Test.YtegnkfdbmmndaaaGreatJ23
import Derived.Test.YtegnkfdbmmndaaaGreatJ26
import Derived.Test.YtegnkfdbmmndaaaGreatJ17
import Derived.Test.YtegnkfdbmmndaaaGreatJ24
import Derived.Test.YtegnkfdbmmndaaaGreatJ01

/- BackA -/
section
/- What an archive has at its front is read as it was written. -/
namespace Go.Proofs.YtegnkfdbmmndaaaGreat
namespace Hm

theorem leNum_leBytes_mod (x : Nat) : ∀ k, leNum (leBytes x k) = x % 256 ^ k
 | 0 => by simp [leBytes, leNum, Nat.mod_one]
 | k + 1 => by
  rw [leBytes, leNum_append, leNum_leBytes_mod x k, leBytes_length, Nat.mod_pow_succ]
  have : leNum [UInt8.ofNat (x / 256 ^ k)] = x / 256 ^ k % 256 := by simp [leNum]
  rw [this]
theorem leNum_leBytes (x k : Nat) (h : x < 256 ^ k) : leNum (leBytes x k) = x := by rw [leNum_leBytes_mod, Nat.mod_eq_of_lt h]
theorem takeO_app (a b : List UInt8) (k : Nat) (h : a.length = k) : takeO (some (a ++ b)) k = (a, some b) := by
 subst h
 rw [takeO_some (by rw [List.length_append]; omega), List.take_left, List.drop_left]
theorem numO_app (x k : Nat) (b : List UInt8) (h : x < 256 ^ k) : numO (some (leBytes x k ++ b)) k = (x, some b) := by
 unfold numO
 rw [takeO_app _ _ _ (leBytes_length x k), leNum_leBytes x k h]
theorem leBytes_one (x : Nat) : leBytes x 1 = [UInt8.ofNat x] := by simp [leBytes]
theorem namesTo_app (fs : List (ByteArray × ByteArray)) (b : List UInt8) (hs : ∀ f ∈ fs, f.1.size ≤ 32) : ∀ k, k ≤ fs.length → namesTo k (some (nameBytes fs ++ b)) = ((fs.take k).map (·.1), some (nameBytes (fs.drop k) ++ b))
 | 0, _ => by simp [namesTo]
 | k + 1, hk => by
  have ih := namesTo_app fs b hs k (by omega)
  have hkl : k < fs.length := by omega
  have hsz := hs fs[k] (List.getElem_mem hkl)
  have e : nameBytes (fs.drop k) = leBytes fs[k].1.size 1 ++ (fs[k].1.data.toList ++ nameBytes (fs.drop (k + 1))) := by
   rw [List.drop_eq_getElem_cons hkl, leBytes_one]
   unfold nameBytes
   rw [List.flatMap_cons]; simp
  rw [namesTo, ih, e, List.append_assoc, numO_app _ _ _ (by omega), List.append_assoc, takeO_app _ _ _ (by simp)]
  rw [List.take_succ_eq_append_getElem hkl, List.map_append]
  rfl
/-- The lengths of the first k bytes that are told. -/
def lensOn (L : List Nat) (l : List UInt8) : List Nat := (List.range 256).map fun j => if UInt8.ofNat j ∈ l then L.getD j 0 else 0
theorem lensOn_length (L : List Nat) (l : List UInt8) : (lensOn L l).length = 256 := by unfold lensOn; rw [List.length_map, List.length_range]
theorem lensOn_snoc (L : List Nat) (l : List UInt8) (b : UInt8) : (lensOn L l).set b.toNat (L.getD b.toNat 0) = lensOn L (l ++ [b]) := by
 apply List.ext_getElem (by rw [List.length_set, lensOn_length, lensOn_length])
 intro j h1 h2
 rw [lensOn_length] at h2
 rw [List.getElem_set]
 unfold lensOn
 simp only [List.getElem_map, List.getElem_range, List.mem_append, List.mem_singleton]
 by_cases e : b.toNat = j
 ·subst e
  simp
 ·have : ¬ UInt8.ofNat j = b := fun x => e (by rw [← x]; simp; omega)
  rw [if_neg e]
  simp [this]
theorem lensTo_app (L : List Nat) (l b : List UInt8) (hL : ∀ x ∈ L, x ≤ 255) : ∀ k, k ≤ l.length → lensTo (some (lenBytes L l ++ b)) k = (lensOn L (l.take k), some (lenBytes L (l.drop k) ++ b))
 | 0, _ => by
  have : lensOn L [] = List.replicate 256 0 := by
   apply List.ext_getElem (by rw [lensOn_length, List.length_replicate])
   intro j h1 h2
   unfold lensOn
   simp only [List.getElem_map, List.getElem_replicate, List.not_mem_nil, if_false]
  rw [lensTo, List.take_zero, List.drop_zero, this]
 | k + 1, hk => by
  have ih := lensTo_app L l b hL k (by omega)
  have hkl : k < l.length := by omega
  have hx : L.getD l[k].toNat 0 ≤ 255 := by
   rw [List.getD_eq_getElem?_getD]
   cases h : L[l[k].toNat]? with
   | none => simp
   | some y => exact hL y (List.mem_of_getElem? h)
  have e : lenBytes L (l.drop k) = [l[k], UInt8.ofNat (L.getD l[k].toNat 0)] ++ lenBytes L (l.drop (k + 1)) := by
   rw [List.drop_eq_getElem_cons hkl]; rfl
  rw [lensTo, ih, lenStep]
  simp only
  rw [e, List.append_assoc, takeO_app _ _ 2 rfl]
  simp only [List.getD_cons_zero, List.getD_cons_succ]
  rw [List.take_succ_eq_append_getElem hkl, ← lensOn_snoc]
  simp only [Prod.mk.injEq, and_true]
  congr 1
  rw [UInt8.toNat_ofNat']; omega

end Hm
end Go.Proofs.YtegnkfdbmmndaaaGreat
end

/- BackB -/
section
/- The head of an archive, and its lengths. -/
namespace Go.Proofs.YtegnkfdbmmndaaaGreat
namespace Hm

theorem mem_codedNat (L : List Nat) (j : Nat) (hj : j < 256) : UInt8.ofNat j ∈ codedOf L ↔ 0 < L.getD j 0 := by
 unfold codedOf codedTo
 rw [List.mem_map]
 constructor
 ·rintro ⟨i, hi, e⟩
  obtain ⟨h1, h2⟩ := List.mem_filter.1 hi
  have h1' := List.mem_range.1 h1
  have e2 := congrArg UInt8.toNat e
  rw [UInt8.toNat_ofNat', UInt8.toNat_ofNat', Nat.mod_eq_of_lt (by omega), Nat.mod_eq_of_lt (by omega)] at e2
  subst e2
  exact of_decide_eq_true h2
 ·intro h
  exact ⟨j, List.mem_filter.2 ⟨List.mem_range.2 hj, decide_eq_true h⟩, rfl⟩
theorem lensOn_get (L : List Nat) (l : List UInt8) (j : Nat) (hj : j < 256) : (lensOn L l)[j]? = some (if UInt8.ofNat j ∈ l then L.getD j 0 else 0) := by
 unfold lensOn
 rw [List.getElem?_map, List.getElem?_range hj]; rfl
theorem lensOn_coded (L : List Nat) (hL : L.length = 256) : lensOn L (codedOf L) = L := by
 apply List.ext_getElem?
 intro j
 by_cases hj : j < 256
 ·have hm := mem_codedNat L j hj
  have e : L.getD j 0 = L[j] := by rw [List.getD_eq_getElem?_getD, List.getElem?_eq_getElem (by omega)]; rfl
  rw [lensOn_get L _ j hj, List.getElem?_eq_getElem (by omega), ← e]
  split
  ·rfl
  ·rename_i hn
   rw [hm] at hn
   rw [show L.getD j 0 = 0 by omega]
 ·rw [List.getElem?_eq_none (by rw [lensOn_length]; omega), List.getElem?_eq_none (by omega)]
theorem rdL_app (L : List Nat) (b : List UInt8) (hL : L.length = 256) (hx : ∀ x ∈ L, x ≤ 255) : rdL (some (leBytes (codedOf L).length 2 ++ (lenBytes L (codedOf L) ++ b))) = (L, some b) := by
 have hc := codedTo_le L 256
 have hc' : (codedOf L).length ≤ 256 := hc
 unfold rdL
 rw [numO_app _ _ _ (by omega)]
 show lensTo (some (lenBytes L (codedOf L) ++ b)) (codedOf L).length = _
 rw [lensTo_app L (codedOf L) b hx _ (Nat.le_refl _), List.take_length, List.drop_length, lensOn_coded L hL]
 rfl

/-- The head is read as it was written. -/
theorem head_app (fs : List (ByteArray × ByteArray)) (n r : Nat) (X : List UInt8) (hm : fs.length ≤ 255) (hn : n < 65536) (hr : r ≤ n) (hs : ∀ f ∈ fs, f.1.size ≤ 32) :
  let s := [72, 79, 65, 82, 68, 49, UInt8.ofNat fs.length] ++ (leBytes n 2 ++ (leBytes r 2 ++ (nameBytes fs ++ X)))
  (rdF s).1 = fs.length ∧ (rdN s).1 = n ∧ (rdR s).1 = r ∧ rdM s = (fs.map (·.1), some X) := by
 intro s
 have e0 : s = [72, 79, 65, 82, 68, 49] ++ (leBytes fs.length 1 ++ (leBytes n 2 ++ (leBytes r 2 ++ (nameBytes fs ++ X)))) := by rw [leBytes_one]; rfl
 have e1 : rdA s = some (leBytes fs.length 1 ++ (leBytes n 2 ++ (leBytes r 2 ++ (nameBytes fs ++ X)))) := by
  unfold rdA
  rw [e0, takeO_app _ _ 6 rfl, ByteArray.toList_eq]
  rfl
 have e2 : rdF s = (fs.length, some (leBytes n 2 ++ (leBytes r 2 ++ (nameBytes fs ++ X)))) := by
  unfold rdF; rw [e1, numO_app _ _ _ (by omega)]
 have e3 : rdN s = (n, some (leBytes r 2 ++ (nameBytes fs ++ X))) := by
  unfold rdN; rw [e2]; exact numO_app _ _ _ (by omega)
 have e4 : rdR s = (r, some (nameBytes fs ++ X)) := by
  unfold rdR; rw [e3]; exact numO_app _ _ _ (by omega)
 have e5 : rdB s = some (nameBytes fs ++ X) := by
  unfold rdB; rw [e4, e3]; exact if_pos (decide_eq_true hr)
 refine ⟨by rw [e2], by rw [e3], by rw [e4], ?_⟩
 unfold rdM
 rw [e2, e5]
 show namesTo fs.length _ = _
 rw [namesTo_app fs X hs _ (Nat.le_refl _), List.take_length, List.drop_length]
 rfl

end Hm
end Go.Proofs.YtegnkfdbmmndaaaGreat
end

/- BackC -/
section
/- The samples of an archive are read. -/
namespace Go.Proofs.YtegnkfdbmmndaaaGreat
namespace Hm

theorem rk_list (f : Nat → Bool) (bs : List Bool) (h : ∀ p, p < bs.length → f p = bs.getD p false) : ∀ q, q ≤ bs.length → rk f q = (bs.take q).countP id
 | 0, _ => by simp [rk]
 | q + 1, hq => by
  have ih := rk_list f bs h q (by omega)
  have e : rk f (q + 1) = rk f q + (f q).toNat := rfl
  have h1 := h q (by omega)
  have e2 : bs.take (q + 1) = bs.take q ++ [bs.getD q false] := by
   rw [List.take_add_one, List.getD_eq_getElem?_getD, List.getElem?_eq_getElem (show q < bs.length by omega)]; rfl
  rw [e, e2, List.countP_append, ← ih, h1]
  cases bs.getD q false <;> rfl
theorem count_eights (n : Nat) : (List.range (n + 1)).countP (fun p => decide (p % 8 = 0)) = n / 8 + 1 := by
 induction n with
 | zero => rfl
 | succ n ih =>
  rw [List.range_succ, List.countP_append, ih, List.countP_cons, List.countP_nil]
  by_cases h : (n + 1) % 8 = 0
  ·rw [decide_eq_true h]; simp; omega
  ·rw [decide_eq_false h]; simp; omega
theorem szB_pack (bits : List Bool) : (packBits bits).length = szB bits.length := packBits_length bits
theorem sampOk_app {n : Nat} {ps : List Nat} (h : ps.Perm (List.range (n + 1))) (X : List UInt8) : SampOk (packBits (samples ps) ++ X) n ∧ (packBits (samples ps) ++ X).drop (szB (sampLen n)) = X := by
 have hl : ps.length = n + 1 := by have := h.length_eq; simpa using this
 have hc : ps.countP (fun p => decide (p % 8 = 0)) = n / 8 + 1 := by rw [h.countP_eq, count_eights]
 have hs : (samples ps).length = sampLen n := samples_length h
 have hz : (packBits (samples ps)).length = szB (sampLen n) := by rw [szB_pack, hs]
 have ht : (packBits (samples ps) ++ X).take (szB (sampLen n)) = packBits (samples ps) := by rw [← hz, List.take_left]
 refine ⟨⟨by rw [List.length_append]; omega, ?_⟩, by rw [← hz, List.drop_left]⟩
 rw [ht, rk_list _ (samples ps) (fun p _ => bitB_pack _ p) (n + 1) (by rw [hs]; unfold sampLen; omega)]
 unfold samples
 rw [List.take_left' (by rw [List.length_map, hl]), List.countP_map, ← hc]
 rfl

end Hm
end Go.Proofs.YtegnkfdbmmndaaaGreat
end

/- ArchU -/
section
/- The archive of files is one; where the whole text's row lies. -/
namespace Go.Proofs.YtegnkfdbmmndaaaGreat
namespace Hm

theorem IsArch.unique {fs : List (ByteArray × ByteArray)} (hn : (textOf fs).length ≤ 6000) {s s' : List UInt8} (h : IsArch fs s) (h' : IsArch fs s') : s = s' := by
 obtain ⟨ps, N, hps, _, hE, rfl⟩ := h.is
 obtain ⟨ps', N', hps', _, hE', rfl⟩ := h'.is
 obtain rfl := hps.unique hps'
 have hC := lens_coded (textOf fs) hn
 have hm : ∀ b ∈ colOf (textOf fs) ps, b ∈ orderOf (lens (textOf fs)) := fun b hb => (lens_mem _ hn b).2 (colOf_mem hps.perm b hb)
 by_cases h0 : orderOf (lens (textOf fs)) = []
 ·have hc : colOf (textOf fs) ps = [] := by
   cases e : colOf (textOf fs) ps with
   | nil => rfl
   | cons b r => have := hm b (by rw [e]; exact List.mem_cons_self ..); rw [h0] at this; simp at this
  rw [hc]
  unfold trOf
  rw [treeBits_nil, treeBits_nil]
 ·have hh := hE.nodes.heads hC.numk (fun j hj => hE.side0 h0 j (by rw [hE.len] at hj; exact hj)) hC.num_lt (fun b hb => (hC.mem b).2 hb)
  rw [trOf_ref hC hE hm hh, trOf_ref hC hE' hm hh]
theorem root_iff {n : Nat} {ps : List Nat} (h : ps.Perm (List.range (n + 1))) (i : Nat) (hi : i < ps.length) : ps[i] = 0 ↔ i = rootOf ps := by
 have hnd : ps.Nodup := h.symm.nodup List.nodup_range
 have hmem : 0 ∈ ps := h.symm.subset (by simp)
 have hr : rootOf ps < ps.length := List.findIdx_lt_length_of_exists ⟨0, hmem, by simp⟩
 have hz : ps[rootOf ps] = 0 := by
  have := List.findIdx_getElem (p := fun x : Nat => x == 0) (xs := ps) (w := hr)
  exact eq_of_beq this
 constructor
 ·intro e
  have hp := List.pairwise_iff_getElem.1 (List.nodup_iff_pairwise_ne.1 hnd)
  rcases Nat.lt_trichotomy i (rootOf ps) with c | c | c
  ·exact absurd (e.trans hz.symm) (hp i _ hi hr c)
  ·exact c
  ·exact absurd (hz.trans e.symm) (hp _ i hr hi c)
 ·rintro rfl; exact hz
end Hm
end Go.Proofs.YtegnkfdbmmndaaaGreat
end

/- BackD -/
section
/- The tree of an archive is read. -/
namespace Go.Proofs.YtegnkfdbmmndaaaGreat
namespace Hm

theorem trOf_same {L : List Nat} {N N' : Nat} {col : List UInt8} (hC : Coded L) (hE : Ends 32 (lnB L) (orderOf L) N) (hE' : Ends 32 (lnB L) (orderOf L) N') (hm : ∀ b ∈ col, b ∈ orderOf L) : trOf L N col = trOf L N' col := by
 by_cases h0 : orderOf L = []
 ·have hc : col = [] := by
   cases e : col with
   | nil => rfl
   | cons b r => have := hm b (by rw [e]; exact List.mem_cons_self ..); rw [h0] at this; simp at this
  rw [hc]
  unfold trOf
  rw [treeBits_nil, treeBits_nil]
 ·have hh := hE.nodes.heads hC.numk (fun j hj => hE.side0 h0 j (by rw [hE.len] at hj; exact hj)) hC.num_lt (fun b hb => (hC.mem b).2 hb)
  rw [trOf_ref hC hE hm hh, trOf_ref hC hE' hm hh]

section
variable {M : Nat} {ln num : UInt8 → Nat} {o : List UInt8} {nds : List Nd}
/-- A byte goes through at most as many nodes as its code is long. -/
theorem under_few (h : Shaped M ln o nds) (b : UInt8) : ∀ k, k ≤ nds.length → ∀ d, (∀ j, j < k → under ln num (ndAt nds j) b = true → (ndAt nds j).depth < d) → (List.range k).countP (fun j => under ln num (ndAt nds j) b) ≤ d
 | 0, _, d, _ => Nat.zero_le _
 | k + 1, hk, d, hd => by
  rw [List.range_succ, List.countP_append, List.countP_cons, List.countP_nil]
  by_cases hu : under ln num (ndAt nds k) b = true
  ·have h1 := hd k (by omega) hu
   have h2 := under_few h b k (by omega) (ndAt nds k).depth (fun j hj hj2 => by
    have hs := h.sorted j k hj (by omega)
    have e1 := (of_decide_eq_true hj2).2
    have e2 := (of_decide_eq_true hu).2
    rcases hs with c | ⟨c1, c2⟩
    ·exact c
    ·rw [c1] at e1; omega)
   rw [if_pos hu]; omega
  ·have h2 := under_few h b k (by omega) d (fun j hj hj2 => hd j (by omega) hj2)
   rw [if_neg hu]; omega
theorem treeBits_len (ln num : UInt8 → Nat) (nds : List Nd) (N B : Nat) (hB : ∀ b : UInt8, (List.range N).countP (fun j => under ln num (ndAt nds j) b) ≤ B) : ∀ col : List UInt8, (treeBits ln num nds col N).length ≤ col.length * B
 | [] => by rw [treeBits_nil]; simp
 | b :: r => by
  have ih := treeBits_len ln num nds N B hB r
  have hb := hB b
  have key : ∀ n, (treeBits ln num nds (b :: r) n).length = (List.range n).countP (fun j => under ln num (ndAt nds j) b) + (treeBits ln num nds r n).length := by
   intro n
   induction n with
   | zero => simp [treeBits]
   | succ n ih2 =>
    rw [treeBits_succ, treeBits_succ, List.length_append, List.length_append, ih2, List.range_succ, List.countP_append, List.countP_cons, List.countP_nil]
    unfold nodeBits colAt
    rw [List.length_map, List.length_map, List.filter_cons]
    by_cases hu : under ln num (ndAt nds n) b = true
    ·rw [if_pos hu, if_pos hu, List.length_cons]; omega
    ·rw [if_neg hu, if_neg hu]; omega
  rw [key, List.length_cons, Nat.add_mul]
  omega
end

theorem lnB_maxL {L : List Nat} (hL : L.length = 256) (b : UInt8) : lnB L b ≤ maxL L := by
 have hb := b.toNat_lt
 have e : lnB L b = L[b.toNat] := by
  show L.getD b.toNat 0 = _
  rw [List.getD_eq_getElem?_getD, List.getElem?_eq_getElem (by omega)]; rfl
 rw [e]
 exact maxL_le L _ (List.getElem_mem _)

/-- What is laid and tells a column by all the bits tells it by its own. -/
theorem tells_of {l : List UInt8} {n : Nat} {L : List Nat} {st : LaySt} {col : List UInt8} (h : TreeOk l n L st) (c3 : Rep (lnB L) (numB L) (bitB (l.take (szB (mostOf l n L)))) st.nds col) (c2 : ∀ b ∈ col, b ∈ orderOf L) : Tells (l.take (szB st.len)) st.nds col := by
 obtain ⟨hC, hl⟩ := h
 obtain ⟨h0, hE⟩ := nodeN_is hC
 have hsh := hE.nodes
 have hlk := layTo_like hl
 have hinv := layTo_inv hsh hC.nodup rfl (Nat.le_refl _) hl
 have hle := layTo_len hl
 have hs2 := hsh.like hlk.1
 have hll0 : (nodesOf L).length = st.nds.length := hlk.1.1.symm
 replace hinv : LayInv (bitB (l.take (szB (mostOf l n L)))) n (nodesOf L).length st := hinv
 rw [hll0] at hinv
 have hm : mostOf l n L ≤ 8 * l.length := Nat.min_le_left _ _
 have hsz : st.len ≤ 8 * szB st.len := by unfold szB; omega
 have hll : (l.take (szB st.len)).length = szB st.len := by rw [List.length_take]; unfold szB; omega
 have fits : ∀ j, j < st.nds.length → (ndAt st.nds j).frm + (ndAt st.nds j).siz ≤ st.len := fun j hj => by
  rw [c3.frm j hj, hinv.len]
  exact startOf_mono st.nds (show j + 1 ≤ st.nds.length by omega)
 refine ⟨32, lnB L, numB L, orderOf L, ⟨c3.siz, c3.frm, fun j p hj hp => ?_⟩, hs2, hC.numk, c2, hC.pos, hC.num_lt, fun j hj => ?_⟩
 ·have hf := fits j hj
  rw [← c3.bit j p hj hp, bitB_pre l _ _ (by omega), bitB_pre l _ _ (by unfold szB; omega)]
 ·rw [hll]
  have hf := fits j hj
  omega

/-- The same nodes and bits tell one column only. -/
theorem way_same {M M' : Nat} {ln num ln' num' : UInt8 → Nat} {o o' l col col' : List UInt8} {nds : List Nd} (h : TellsBy M ln num o l nds col) (h' : TellsBy M' ln' num' o' l nds col') {a : Nat} : ∀ d n q, nds.length - n ≤ d → Way ln num nds col a n q → Way ln' num' nds col' a n q → col.getD a 0 = col'.getD a 0
 | 0, n, q, hd, w, _ => by have := w.lt; omega
 | d + 1, n, q, hd, w, w' => by
  obtain ⟨u, hu, hf, hc⟩ := w.step h.rep h.shp h.numk h.mem
  obtain ⟨u', hu', hf', hc'⟩ := w'.step h'.rep h'.shp h'.numk h'.mem
  have e : u = u' := by
   rw [hf] at hf'
   have := decide_eq_decide.1 hf'
   omega
  subst e
  rcases hc with ⟨b1, _⟩ | ⟨m, hm0, hm1, b1, w2⟩
  ·rcases hc' with ⟨b2, _⟩ | ⟨m', _, _, b2, _⟩
   ·rw [b1] at b2; injection b2
   ·rw [b1] at b2; cases b2
  ·rcases hc' with ⟨b2, _⟩ | ⟨m', _, _, b2, w2'⟩
   ·rw [b1] at b2; cases b2
   ·rw [b1] at b2
    have em : m = m' := by injection b2
    subst em
    exact way_same h h' d m _ (by omega) w2 w2'
theorem Tells.unique {l col col' : List UInt8} {nds : List Nd} (h : Tells l nds col) (h' : Tells l nds col') (hl : col.length = col'.length) : col = col' := by
 obtain ⟨M, ln, num, o, h⟩ := h
 obtain ⟨M', ln', num', o', h'⟩ := h'
 apply List.ext_getElem hl
 intro a h1 h2
 have e := way_same h h' _ 0 a (Nat.le_refl _) (Way.start h.shp h.mem h.pos h.num h1) (Way.start h'.shp h'.mem h'.pos h'.num h2)
 rw [List.getD_eq_getElem?_getD, List.getElem?_eq_getElem h1, List.getD_eq_getElem?_getD, List.getElem?_eq_getElem h2] at e
 exact e

/-- A tree is read as it was written; and it tells the column. -/
theorem treeOk_app {L : List Nat} {N : Nat} {col : List UInt8} (hC : Coded L) (hE : Ends 32 (lnB L) (orderOf L) N) (hm : ∀ b ∈ col, b ∈ orderOf L) (X : List UInt8) :
  ∃ st, TreeOk (packBits (trOf L N col) ++ X) col.length L st ∧ szB st.len = (packBits (trOf L N col)).length ∧ Tells ((packBits (trOf L N col) ++ X).take (szB st.len)) st.nds col := by
 obtain ⟨h0, hE'⟩ := nodeN_is hC
 rw [trOf_same hC hE hE' hm]
 have hlen : (nodesOf L).length = nodeN L := hE'.len
 have htl : (trOf L (nodeN L) col).length = (treeBits (lnB L) (numB L) (nodesOf L) col (nodesOf L).length).length := by
  unfold trOf; rw [List.length_map, hlen]; rfl
 have hfew := treeBits_len (lnB L) (numB L) (nodesOf L) (nodesOf L).length (maxL L) (fun b => by
  refine Nat.le_trans (under_few hE'.nodes b _ (Nat.le_refl _) (lnB L b) (fun j _ hj => (of_decide_eq_true hj).1)) (lnB_maxL hC.len b)) col
 have hmost : (treeBits (lnB L) (numB L) (nodesOf L) col (nodesOf L).length).length ≤ mostOf (packBits (trOf L (nodeN L) col) ++ X) col.length L := by
  unfold mostOf
  refine Nat.le_min.2 ⟨?_, hfew⟩
  rw [List.length_append, packBits_length, htl]; omega
 obtain ⟨st, q1, q2, q3, q4, -⟩ := own_rep (f := bitB ((packBits (trOf L (nodeN L) col) ++ X).take (szB (mostOf (packBits (trOf L (nodeN L) col) ++ X) col.length L)))) hE'.nodes hC.nodup hC.numk hm hC.pos hC.num_lt (fun k hk => by
  have hk' : k < (trOf L (nodeN L) col).length := by rw [htl]; exact hk
  rw [bitB_pre _ _ _ (by unfold szB; have := hmost; have hk2 : k < (treeBits (lnB L) (numB L) (nodesOf L) col (nodesOf L).length).length := hk; omega)]
  have e1 : bitB (packBits (trOf L (nodeN L) col) ++ X) k = bitB (packBits (trOf L (nodeN L) col)) k := by
   rw [← bitB_pre (packBits (trOf L (nodeN L) col) ++ X) (packBits (trOf L (nodeN L) col)).length k (by rw [packBits_length]; omega), List.take_left]
  rw [e1, bitB_pack]
  unfold trOf
  rw [List.getD_eq_getElem?_getD, List.getElem?_map, hE'.len]
  have hk3 : k < (treeBits (lnB L) (numB L) (shapeTo (lnB L) (orderOf L) (2 * nodeN L)).1 col (nodeN L)).length := by
   have hk2 : k < (treeBits (lnB L) (numB L) (nodesOf L) col (nodesOf L).length).length := hk
   rw [hlen] at hk2; exact hk2
  rw [List.getD_eq_getElem?_getD, List.getElem?_eq_getElem hk3]; rfl) hmost
 have q2' : st.len = (treeBits (lnB L) (numB L) (nodesOf L) col (nodesOf L).length).length := q2
 have hok : TreeOk (packBits (trOf L (nodeN L) col) ++ X) col.length L st := ⟨hC, q1⟩
 refine ⟨st, hok, by rw [szB_pack, htl, q2'], tells_of hok q4 hm⟩

end Hm
end Go.Proofs.YtegnkfdbmmndaaaGreat
end

/- BackE -/
section
/- The ends of an archive are read. -/
namespace Go.Proofs.YtegnkfdbmmndaaaGreat
namespace Hm

theorem rk_flat (f : Nat → Bool) (a : Nat) : ∀ d, (∀ p, a ≤ p → p < a + d → f p = false) → rk f (a + d) = rk f a
 | 0, _ => rfl
 | d + 1, h => by
  have ih := rk_flat f a d (fun p h1 h2 => h p h1 (by omega))
  have e : rk f (a + (d + 1)) = rk f (a + d) + (f (a + d)).toNat := rfl
  rw [e, ih, h (a + d) (by omega) (by omega)]; rfl
theorem rk_flat' (f : Nat → Bool) (a b : Nat) (hab : a ≤ b) (h : ∀ p, a ≤ p → p < b → f p = false) : rk f b = rk f a := by
 have := rk_flat f a (b - a) (fun p h1 h2 => h p h1 (by omega))
 rwa [show a + (b - a) = b from by omega] at this
/-- Ones that stand at these places only are counted. -/
theorem rk_marks (f : Nat → Bool) (h len m : Nat) (pos : Nat → Nat) (hinc : ∀ i j, i < j → j < m → pos i < pos j) (hin : ∀ i, i < m → h ≤ pos i ∧ pos i < len) (hhl : h ≤ len) (hf : ∀ p, h ≤ p → p < len → (f p = true ↔ ∃ i, i < m ∧ p = pos i)) :
  (∀ i, i < m → f (pos i) = true ∧ rk f (pos i) = rk f h + i) ∧ rk f len = rk f h + m := by
 have hone : ∀ i, i < m → f (pos i) = true := fun i hi => (hf _ (hin i hi).1 (hin i hi).2).2 ⟨i, hi, rfl⟩
 have no : ∀ p, h ≤ p → p < len → (∀ i, i < m → p ≠ pos i) → f p = false := fun p h1 h2 h3 => by
  cases e : f p with
  | false => rfl
  | true =>
   obtain ⟨i, hi, e2⟩ := (hf p h1 h2).1 e
   exact absurd e2 (h3 i hi)
 have ranks : ∀ i, i < m → rk f (pos i) = rk f h + i := by
  intro i
  induction i with
  | zero =>
   intro hi
   have := rk_flat' f h (pos 0) (hin 0 hi).1 (fun p h1 h2 => no p h1 (by have := (hin 0 hi).2; omega) (fun j hj e => by
    rcases Nat.eq_zero_or_pos j with c | c
    ·subst c; omega
    ·have := hinc 0 j c hj; omega))
   omega
  | succ i ih =>
   intro hi
   have ih' := ih (by omega)
   have e : rk f (pos i + 1) = rk f (pos i) + (f (pos i)).toNat := rfl
   rw [hone i (by omega)] at e
   have hlt := hinc i (i + 1) (by omega) hi
   have := rk_flat' f (pos i + 1) (pos (i + 1)) hlt (fun p h1 h2 => no p (by have := (hin i (by omega)).1; omega) (by have := (hin (i + 1) hi).2; omega) (fun j hj e => by
    rcases Nat.lt_trichotomy j i with c | c | c
    ·have := hinc j i c (by omega); omega
    ·subst c; omega
    ·by_cases c2 : j = i + 1
     ·subst c2; omega
     ·have := hinc (i + 1) j (by omega) hj; omega))
   simp at e
   omega
 refine ⟨fun i hi => ⟨hone i hi, ranks i hi⟩, ?_⟩
 rcases Nat.eq_zero_or_pos m with c | c
 ·subst c
  have := rk_flat' f h len hhl (fun p h1 h2 => no p h1 h2 (fun i hi => by omega))
  omega
 ·have hr := ranks (m - 1) (by omega)
  have e : rk f (pos (m - 1) + 1) = rk f (pos (m - 1)) + (f (pos (m - 1))).toNat := rfl
  rw [hone (m - 1) (by omega)] at e
  have := rk_flat' f (pos (m - 1) + 1) len (hin (m - 1) (by omega)).2 (fun p h1 h2 => no p (by have := (hin (m - 1) (by omega)).1; omega) h2 (fun j hj e => by
   by_cases c2 : j = m - 1
   ·subst c2; omega
   ·have := hinc j (m - 1) (by omega) (by omega); omega))
  simp at e
  omega
theorem getD_set_bool (l : List Bool) (q p : Nat) (hq : q < l.length) : (l.set q true).getD p false = (decide (p = q) || l.getD p false) := by
 rw [List.getD_eq_getElem?_getD, List.getD_eq_getElem?_getD, List.getElem?_set]
 by_cases e : q = p
 ·subst e; simp [hq]
 ·rw [if_neg e, decide_eq_false (fun x => e x.symm)]; rfl
theorem endSets_get (es : List Nat) (l h : Nat) (R : List Bool) (p : Nat) : ∀ k, (∀ i, i < k → h + es.getD i 0 / 2 ^ l + i < R.length) → (endSets es l h R k).getD p false = ((List.range k).any (fun i => decide (p = h + es.getD i 0 / 2 ^ l + i)) || R.getD p false)
 | 0, _ => by simp [endSets]
 | k + 1, hk => by
  rw [endSets, getD_set_bool _ _ _ (by rw [endSets_length]; exact hk k (by omega)), endSets_get es l h R p k (fun i hi => hk i (by omega)), List.range_succ, List.any_append]
  simp only [List.any_cons, List.any_nil, Bool.or_false]
  cases decide (p = h + es.getD k 0 / 2 ^ l + k) <;> simp
theorem endLow_get (l : Nat) : ∀ (es : List Nat) (i j : Nat), i < es.length → j < l → (endLow es l).getD (i * l + j) false = decide (es.getD i 0 / 2 ^ j % 2 = 1)
 | [], i, j, hi, _ => by simp at hi
 | e :: r, 0, j, _, hj => by
  unfold endLow
  rw [List.flatMap_cons, Nat.zero_mul, Nat.zero_add, List.getD_eq_getElem?_getD, List.getElem?_append_left (by rw [numBits_length]; exact hj)]
  unfold numBits
  rw [List.getElem?_map, List.getElem?_range hj]; rfl
 | e :: r, i + 1, j, hi, hj => by
  have ih := endLow_get l r i j (by simpa using hi) hj
  unfold endLow at ih ⊢
  rw [List.flatMap_cons, List.getD_eq_getElem?_getD, List.getElem?_append_right (by rw [numBits_length, Nat.add_mul]; omega), numBits_length, show (i + 1) * l + j - l = i * l + j from by rw [Nat.add_mul]; omega, ← List.getD_eq_getElem?_getD, ih]
  rfl
theorem numAt_mod (f : Nat → Bool) (a x : Nat) : ∀ k, (∀ j, j < k → f (a + j) = decide (x / 2 ^ j % 2 = 1)) → numAt f a k = x % 2 ^ k
 | 0, _ => by simp [numAt, Nat.mod_one]
 | k + 1, h => by
  rw [numAt, numAt_mod f a x k (fun j hj => h j (by omega)), h k (by omega), Nat.mod_pow_succ]
  have := Nat.mod_lt (x / 2 ^ k) (show 0 < 2 by omega)
  rcases (show x / 2 ^ k % 2 = 0 ∨ x / 2 ^ k % 2 = 1 by omega) with e | e
  ·rw [e]; simp
  ·rw [e]; simp

end Hm
end Go.Proofs.YtegnkfdbmmndaaaGreat
end

/- BackF -/
section
/- The ends of an archive are read as they were written. -/
namespace Go.Proofs.YtegnkfdbmmndaaaGreat
namespace Hm

theorem endsBits_len (es : List Nat) (n : Nat) (hn : n ≤ 6000) : (endsBits es n).length = endsLen es.length n := by
 unfold endsBits endsLen
 rw [endSets_length, List.length_append, endLow_length, List.length_replicate, lowR_lowW _ _ hn]
/-- Ends that ascend, up to the total. -/
structure EndsUp (es : List Nat) (n : Nat) : Prop where
 asc : ∀ i j, i < j → j < es.length → es.getD i 0 ≤ es.getD j 0
 le : ∀ i, i < es.length → es.getD i 0 ≤ n
 last : (if es.length = 0 then 0 else es.getD (es.length - 1) 0) = n
theorem ends_at (es : List Nat) (n : Nat) (hn : n ≤ 6000) (h : EndsUp es n) : let f := fun p => (endsBits es n).getD p false
  rk f (endsLen es.length n) = rk f (es.length * lowR es.length n) + es.length ∧ ∀ i, i < es.length → endAt f es.length (lowR es.length n) i = es.getD i 0 := by
 intro f
 obtain ⟨m, hm⟩ : ∃ m, m = es.length := ⟨_, rfl⟩
 obtain ⟨lo, hlo⟩ : ∃ lo, lo = lowR m n := ⟨_, rfl⟩
 rw [← hm, ← hlo]
 have hlw : lowW m n = lo := by rw [hlo, lowR_lowW _ _ hn]
 have hh : (endLow es lo).length = m * lo := by rw [endLow_length, hm]
 obtain ⟨dv, hdv⟩ : ∃ dv : Nat → Nat, ∀ i, es.getD i 0 / 2 ^ lo = dv i := ⟨_, fun _ => rfl⟩
 obtain ⟨dn, hdn⟩ : ∃ dn, n / 2 ^ lo = dn := ⟨_, rfl⟩
 have hdiv : ∀ i, i < m → dv i ≤ dn := fun i hi => by rw [← hdv, ← hdn]; exact Nat.div_le_div_right (h.le i (by omega))
 have hdas : ∀ i j, i < j → j < m → dv i ≤ dv j := fun i j hij hj => by rw [← hdv, ← hdv]; exact Nat.div_le_div_right (h.asc i j hij (by omega))
 have hfd : ∀ p, f p = ((List.range m).any (fun i => decide (p = m * lo + dv i + i)) || (endLow es lo ++ List.replicate (m + dn + 1) false).getD p false) := by
  intro p
  show (endsBits es n).getD p false = _
  unfold endsBits
  rw [← hm, hlw, hdn, endSets_get es lo _ _ p m (fun i hi => by rw [hh, List.length_append, hh, List.length_replicate, hdv]; have := hdiv i hi; omega), hh]
  simp only [hdv]
 have hlen : endsLen m n = m * lo + (m + dn + 1) := by unfold endsLen; rw [← hlo, hdn]
 have hhi : ∀ p, m * lo ≤ p → (endLow es lo ++ List.replicate (m + dn + 1) false).getD p false = false := fun p hp => by
  rw [List.getD_eq_getElem?_getD, List.getElem?_append_right (by omega), List.getElem?_replicate]
  split <;> rfl
 have key := rk_marks f (m * lo) (endsLen m n) m (fun i => m * lo + dv i + i)
  (fun i j hij hj => by
   have := hdas i j hij hj
   show m * lo + dv i + i < m * lo + dv j + j
   omega)
  (fun i hi => by have := hdiv i hi; rw [hlen]; exact ⟨by show _ ≤ m * lo + dv i + i; omega, by show m * lo + dv i + i < _; omega⟩)
  (by rw [hlen]; omega)
  (fun p h1 h2 => by
   rw [hfd p, hhi p h1, Bool.or_false, List.any_eq_true]
   constructor
   ·rintro ⟨i, hi, e⟩
    exact ⟨i, List.mem_range.1 hi, of_decide_eq_true e⟩
   ·rintro ⟨i, hi, e⟩
    exact ⟨i, List.mem_range.2 hi, decide_eq_true e⟩)
 refine ⟨key.2, fun i hi => ?_⟩
 have hi1 := key.1 i hi
 unfold endAt
 rw [posOf_eq (p := m * lo + dv i + i) ⟨hi1.1, hi1.2⟩]
 unfold endV
 have hnum : numAt f (i * lo) lo = es.getD i 0 % 2 ^ lo := numAt_mod f (i * lo) (es.getD i 0) lo (fun j hj => by
  have hlt : i * lo + j < m * lo := by
   have h1 : (i + 1) * lo ≤ m * lo := Nat.mul_le_mul_right _ (by omega)
   rw [Nat.add_mul] at h1
   omega
  rw [hfd, show (List.range m).any (fun k => decide (i * lo + j = m * lo + dv k + k)) = false from by
   rw [List.any_eq_false]
   intro k _ hk
   have := of_decide_eq_true hk
   omega, Bool.false_or, List.getD_eq_getElem?_getD, List.getElem?_append_left (by omega), ← List.getD_eq_getElem?_getD]
  exact endLow_get lo es i j (by omega) hj)
 rw [hnum, show m * lo + dv i + i - m * lo - i = dv i from by omega, ← hdv, Nat.mul_comm]
 exact Nat.div_add_mod _ _
theorem endsOk_app (es : List Nat) (n : Nat) (hn : n ≤ 6000) (h : EndsUp es n) (X : List UInt8) : EndsOk (packBits (endsBits es n) ++ X) es.length n ∧ (packBits (endsBits es n) ++ X).drop (szB (endsLen es.length n)) = X ∧
  ∀ i, i < es.length → endAt (bitB ((packBits (endsBits es n) ++ X).take (szB (endsLen es.length n)))) es.length (lowR es.length n) i = es.getD i 0 := by
 have hl := endsBits_len es n hn
 have hz : (packBits (endsBits es n)).length = szB (endsLen es.length n) := by rw [szB_pack, hl]
 have ht : (packBits (endsBits es n) ++ X).take (szB (endsLen es.length n)) = packBits (endsBits es n) := by rw [← hz, List.take_left]
 have hf : bitB (packBits (endsBits es n)) = fun p => (endsBits es n).getD p false := by funext p; exact bitB_pack _ p
 have key := ends_at es n hn h
 simp only at key
 rw [← hf] at key
 have hfrom : ∀ i, i ≤ es.length → fromAt (bitB (packBits (endsBits es n))) es.length (lowR es.length n) i = if i = 0 then 0 else es.getD (i - 1) 0 := fun i hi => by
  unfold fromAt
  split
  ·rfl
  ·exact key.2 (i - 1) (by omega)
 refine ⟨⟨by rw [List.length_append]; omega, ?_⟩, by rw [← hz, List.drop_left], fun i hi => by rw [ht]; exact key.2 i hi⟩
 rw [ht]
 refine ⟨key.1, fun i hi => ?_, ?_⟩
 ·rw [hfrom i (by omega), key.2 i hi]
  split
  ·exact Nat.zero_le _
  ·exact h.asc (i - 1) i (by omega) hi
 ·rw [hfrom _ (Nat.le_refl _)]; exact h.last

end Hm
end Go.Proofs.YtegnkfdbmmndaaaGreat
end

/- BackG -/
section
/- Back from the first row: the text comes out. -/
namespace Go.Proofs.YtegnkfdbmmndaaaGreat
namespace Hm

noncomputable def ltB (a b : List UInt8) : Bool := @decide (lexLt a b) (Classical.propDecidable _)
theorem ltB_true {a b : List UInt8} (h : lexLt a b) : ltB a b = true := by unfold ltB; exact @decide_eq_true _ (Classical.propDecidable _) h
theorem ltB_false {a b : List UInt8} (h : ¬ lexLt a b) : ltB a b = false := by unfold ltB; exact @decide_eq_false _ (Classical.propDecidable _) h
theorem ltB_cons (a b : UInt8) (l m : List UInt8) : ltB (a :: l) (b :: m) = (decide (a.toNat < b.toNat) || ((a == b) && ltB l m)) := by
 by_cases h : lexLt (a :: l) (b :: m)
 ·rw [ltB_true h]
  rcases h with h | ⟨h1, h2⟩
  ·rw [decide_eq_true h]; rfl
  ·rw [h1, ltB_true h2]; simp
 ·rw [ltB_false h]
  have h1 : ¬ a.toNat < b.toNat := fun x => h (.inl x)
  rw [decide_eq_false h1, Bool.false_or]
  by_cases e : a = b
  ·have h2 : ¬ lexLt l m := fun x => h (.inr ⟨e, x⟩)
   rw [ltB_false h2, Bool.and_false]
  ·rw [show (a == b) = false from by rw [beq_eq_false_iff_ne]; exact e]; rfl
theorem sorted_count {t : List UInt8} {ps : List Nat} (h : Sorted t ps) (g : Nat → Bool) (i : Nat) (hi : i < ps.length) : ps.countP (fun p => g p && ltB (t.drop p) (t.drop ps[i])) = (ps.take i).countP g := by
 have e : ps = ps.take i ++ ps[i] :: ps.drop (i + 1) := by rw [← List.drop_eq_getElem_cons hi, List.take_append_drop]
 have hp := h.ord
 rw [e] at hp
 obtain ⟨_, h2, h3⟩ := List.pairwise_append.1 hp
 have h4 := (List.pairwise_cons.1 h2).1
 have key : (ps.take i ++ ps[i] :: ps.drop (i + 1)).countP (fun p => g p && ltB (t.drop p) (t.drop ps[i])) = (ps.take i).countP g := by
  rw [List.countP_append, List.countP_cons]
  have z1 : (ps.drop (i + 1)).countP (fun p => g p && ltB (t.drop p) (t.drop ps[i])) = 0 := by
   rw [List.countP_eq_zero]
   intro p hpm hx
   have hl := h4 p hpm
   rw [ltB_false (fun x => lexLt_irrefl _ (lexLt_trans hl x)), Bool.and_false] at hx
   cases hx
  have z2 : (g ps[i] && ltB (t.drop ps[i]) (t.drop ps[i])) = false := by rw [ltB_false (lexLt_irrefl _), Bool.and_false]
  have z3 : (ps.take i).countP (fun p => g p && ltB (t.drop p) (t.drop ps[i])) = (ps.take i).countP g := by
   refine List.countP_congr fun p hpm => ?_
   rw [ltB_true (h3 p hpm _ (List.mem_cons_self ..)), Bool.and_true]
  rw [z1, z2, z3]; simp
 rw [← e] at key
 exact key
theorem sorted_index {t : List UInt8} {ps : List Nat} (h : Sorted t ps) (i : Nat) (hi : i < ps.length) : ps.countP (fun p => ltB (t.drop p) (t.drop ps[i])) = i := by
 have := sorted_count h (fun _ => true) i hi
 simp only [Bool.true_and] at this
 rw [this, List.countP_true, List.length_take]; omega
theorem map_getD_range (t : List UInt8) : (List.range t.length).map (fun p => t.getD p 0) = t := by
 apply List.ext_getElem (by simp)
 intro i h1 h2
 rw [List.getElem_map, List.getElem_range, List.getD_eq_getElem?_getD, List.getElem?_eq_getElem h2]; rfl
theorem colOf_perm {t : List UInt8} {ps : List Nat} (h : ps.Perm (List.range (t.length + 1))) : (colOf t ps).Perm t := by
 have h1 : (colOf t ps).Perm (colOf t (List.range (t.length + 1))) := (h.filter _).map _
 have h2 : colOf t (List.range (t.length + 1)) = t := by
  unfold colOf
  rw [List.range_succ_eq_map, List.filter_cons, if_neg (by simp), List.filter_map, List.map_map]
  conv => rhs; rw [← map_getD_range t]
  rw [List.filter_eq_self.2 (fun p _ => by simp)]
  rfl
 rw [h2] at h1
 exact h1
theorem countP_or_disj {α : Type} (p q : α → Bool) : ∀ l : List α, (∀ x ∈ l, ¬ (p x = true ∧ q x = true)) → l.countP (fun x => p x || q x) = l.countP p + l.countP q
 | [], _ => rfl
 | x :: r, h => by
  have ih := countP_or_disj p q r (fun y hy => h y (List.mem_cons_of_mem _ hy))
  have hx := h x (List.mem_cons_self ..)
  rw [List.countP_cons, List.countP_cons, List.countP_cons, ih]
  cases e1 : p x <;> cases e2 : q x <;> simp_all <;> omega

end Hm
end Go.Proofs.YtegnkfdbmmndaaaGreat
end

/- BackH -/
section
/- One step back, and all of them. -/
namespace Go.Proofs.YtegnkfdbmmndaaaGreat
namespace Hm

theorem colOf_count (t : List UInt8) (b : UInt8) : ∀ ps : List Nat, (colOf t ps).count b = ps.countP (fun p => decide (0 < p) && (t.getD (p - 1) 0 == b))
 | [] => rfl
 | p :: r => by
  have ih := colOf_count t b r
  unfold colOf at ih ⊢
  rw [List.filter_cons, List.countP_cons]
  by_cases h : 0 < p
  ·rw [decide_eq_true h, if_pos rfl, List.map_cons, List.count_cons, ih, Bool.true_and]
  ·rw [decide_eq_false h, if_neg (by simp), ih]; simp
theorem colOf_take_ix {t : List UInt8} {ps : List Nat} (h : ps.Perm (List.range (t.length + 1))) (i : Nat) (hi : i < ps.length) : (colOf t ps).take (colIx (rootOf ps) i) = colOf t (ps.take i) := by
 have e : colOf t ps = colOf t (ps.take i) ++ colOf t (ps.drop i) := by
  unfold colOf
  rw [← List.map_append, ← List.filter_append, List.take_append_drop]
 have hl : (colOf t (ps.take i)).length = colIx (rootOf ps) i := by
  unfold colOf
  rw [List.length_map, ← List.countP_eq_length_filter]
  have hnd : ps.Nodup := h.symm.nodup List.nodup_range
  have key : ∀ k, k ≤ ps.length → (ps.take k).countP (fun p => decide (0 < p)) = colIx (rootOf ps) k := by
   intro k
   induction k with
   | zero => intro _; simp [colIx]
   | succ k ih =>
    intro hk
    have hr := root_iff h k (by omega)
    rw [List.take_succ_eq_append_getElem (by omega), List.countP_append, ih (by omega), List.countP_cons, List.countP_nil]
    by_cases c : ps[k] = 0
    ·have hk0 := hr.1 c
     have a1 : colIx (rootOf ps) k = k := if_neg (by omega)
     have a2 : colIx (rootOf ps) (k + 1) = k + 1 - 1 := if_pos (by omega)
     rw [decide_eq_false (by omega), a1, a2]; rfl
    ·have c2 : k ≠ rootOf ps := fun x => c (hr.2 x)
     rw [decide_eq_true (by omega)]
     rcases Nat.lt_or_gt_of_ne c2 with c3 | c3
     ·have a1 : colIx (rootOf ps) k = k := if_neg (by omega)
      have a2 : colIx (rootOf ps) (k + 1) = k + 1 := if_neg (by omega)
      rw [a1, a2]; rfl
     ·have a1 : colIx (rootOf ps) k = k - 1 := if_pos (by omega)
      have a2 : colIx (rootOf ps) (k + 1) = k + 1 - 1 := if_pos (by omega)
      rw [a1, a2, if_pos rfl]; omega
  exact key i (by omega)
 rw [e, ← hl, List.take_left]
/-- A row's step: its byte, and the row of the ending that is longer by it. -/
theorem longer_is {t : List UInt8} {ps ws : List Nat} (h : Sorted t ps) (hw : Weighs ws (colOf t ps)) (i j q : Nat) (hi : i < ps.length) (hj : j < ps.length) (e1 : ps[i] = q + 1) (e2 : ps[j] = q) : longer (colOf t ps) ws (rootOf ps) i = (t.getD q 0, j) := by
 have hpl : ps.length = t.length + 1 := by have := h.perm.length_eq; simpa using this
 have hne : i ≠ rootOf ps := fun x => by have := (root_iff h.perm i hi).2 x; omega
 have hq : q < t.length := by
  have := List.mem_range.1 (h.perm.subset (List.getElem_mem hi)); omega
 have hbyte : (colOf t ps).getD (colIx (rootOf ps) i) 0 = t.getD q 0 := by
  have ht := colOf_take_ix h.perm i hi
  have e : colOf t ps = colOf t (ps.take i) ++ t.getD q 0 :: colOf t (ps.drop (i + 1)) := by
   conv => lhs; rw [← List.take_append_drop i ps, List.drop_eq_getElem_cons hi]
   unfold colOf
   rw [List.filter_append, List.map_append, List.filter_cons, e1, decide_eq_true (by omega : 0 < q + 1), if_pos rfl, List.map_cons, show q + 1 - 1 = q from by omega]
  have hl := congrArg List.length ht
  rw [List.length_take] at hl
  have hlen := colOf_length h.perm
  have hroot := (rootOf_idx h.perm).2
  have hix := colIx_lt hroot (show i ≤ t.length by omega) hne
  have hl2 : (colOf t (ps.take i)).length = colIx (rootOf ps) i := by omega
  rw [e, ← hl2, List.getD_eq_getElem?_getD, List.getElem?_append_right (Nat.le_refl _), Nat.sub_self]; rfl
 unfold longer
 rw [if_neg hne, hbyte]
 obtain ⟨b, hb⟩ : ∃ b, b = t.getD q 0 := ⟨_, rfl⟩
 rw [← hb]
 congr 1
 have hdq : t.drop q = b :: t.drop (q + 1) := by
  rw [List.drop_eq_getElem_cons hq, hb, List.getD_eq_getElem?_getD, List.getElem?_eq_getElem hq]; rfl
 rw [colOf_take_ix h.perm i hi, colOf_count, hw.first _ (by have := b.toNat_lt; omega), (colOf_perm h.perm).countP_eq]
 have hj1 := sorted_index h j hj
 rw [e2] at hj1
 rw [h.perm.countP_eq, List.range_succ, List.countP_append, List.countP_cons, List.countP_nil, List.drop_length, hdq, ltB_true (show lexLt [] (b :: t.drop (q + 1)) from trivial)] at hj1
 have hA : (List.range t.length).countP (fun p => ltB (t.drop p) (b :: t.drop (q + 1))) = (List.range t.length).countP (fun p => decide ((t.getD p 0).toNat < b.toNat)) + (List.range t.length).countP (fun p => (t.getD p 0 == b) && ltB (t.drop (p + 1)) (t.drop (q + 1))) := by
  rw [← countP_or_disj _ _ _ (fun p _ hx => by
   obtain ⟨x1, x2⟩ := hx
   have x3 := of_decide_eq_true x1
   have x4 := (Bool.and_eq_true _ _ ▸ x2 : _ ∧ _).1
   rw [eq_of_beq x4] at x3
   omega)]
  refine List.countP_congr fun p hp => ?_
  have hp' := List.mem_range.1 hp
  have hdp : t.drop p = t.getD p 0 :: t.drop (p + 1) := by
   rw [List.drop_eq_getElem_cons hp', List.getD_eq_getElem?_getD, List.getElem?_eq_getElem hp']; rfl
  rw [hdp, ltB_cons]
 have hB : (List.range t.length).countP (fun p => decide ((t.getD p 0).toNat < b.toNat)) = t.countP (fun x => decide (x.toNat < b.toNat)) := by
  conv => rhs; rw [← map_getD_range t]
  rw [List.countP_map]; rfl
 have hC : (List.range t.length).countP (fun p => (t.getD p 0 == b) && ltB (t.drop (p + 1)) (t.drop (q + 1))) = (ps.take i).countP (fun p => decide (0 < p) && (t.getD (p - 1) 0 == b)) := by
  have hs := sorted_count h (fun p => decide (0 < p) && (t.getD (p - 1) 0 == b)) i hi
  rw [e1, h.perm.countP_eq, List.range_succ_eq_map, List.countP_cons, List.countP_map] at hs
  rw [← hs]
  simp
  rfl
 rw [hA, hB, hC, if_pos rfl] at hj1
 omega

end Hm
end Go.Proofs.YtegnkfdbmmndaaaGreat
end

/- BackI -/
section
/- All steps back: the text. -/
namespace Go.Proofs.YtegnkfdbmmndaaaGreat
namespace Hm

theorem row_of {t : List UInt8} {ps : List Nat} (h : Sorted t ps) (q : Nat) (hq : q ≤ t.length) : ∃ j, ∃ hj : j < ps.length, ps[j] = q := by
 have hm : q ∈ ps := h.perm.symm.subset (List.mem_range.2 (by omega))
 exact List.getElem_of_mem hm
theorem first_row {t : List UInt8} {ps : List Nat} (h : Sorted t ps) (hj : 0 < ps.length) : ps[0] = t.length := by
 obtain ⟨j, hj2, e⟩ := row_of h t.length (Nat.le_refl _)
 have hx := sorted_index h j hj2
 rw [e, List.drop_length] at hx
 have hz : ps.countP (fun p => ltB (t.drop p) []) = 0 := by
  rw [List.countP_eq_zero]
  intro p _ hp
  rw [ltB_false (lexLt_nil _)] at hp
  cases hp
 rw [hz] at hx
 subst hx
 exact e
/-- Going back from the first row gives the text. -/
theorem backTo_text {t : List UInt8} {ps ws : List Nat} (h : Sorted t ps) (hw : Weighs ws (colOf t ps)) : ∀ k, k ≤ t.length → (backTo (longer (colOf t ps) ws (rootOf ps)) 0 k).1 = t.drop (t.length - k) ∧ ∃ hj : (backTo (longer (colOf t ps) ws (rootOf ps)) 0 k).2 < ps.length, ps[(backTo (longer (colOf t ps) ws (rootOf ps)) 0 k).2] = t.length - k
 | 0, _ => by
  have hpl : ps.length = t.length + 1 := by have := h.perm.length_eq; simpa using this
  refine ⟨by rw [Nat.sub_zero, List.drop_length]; rfl, by show 0 < _; omega, ?_⟩
  exact first_row h (by omega)
 | k + 1, hk => by
  obtain ⟨h1, hj, h2⟩ := backTo_text h hw k (by omega)
  obtain ⟨j, hj2, e⟩ := row_of h (t.length - (k + 1)) (by omega)
  have hl := longer_is h hw _ j (t.length - (k + 1)) hj hj2 (by rw [h2]; omega) e
  have e1 : backTo (longer (colOf t ps) ws (rootOf ps)) 0 (k + 1) = (t.getD (t.length - (k + 1)) 0 :: (backTo (longer (colOf t ps) ws (rootOf ps)) 0 k).1, j) := by
   rw [backTo, hl]
  rw [e1]
  refine ⟨?_, hj2, e⟩
  show _ :: _ = _
  rw [h1, List.drop_eq_getElem_cons (show t.length - (k + 1) < t.length by omega), List.getD_eq_getElem?_getD, List.getElem?_eq_getElem (show t.length - (k + 1) < t.length by omega), show t.length - (k + 1) + 1 = t.length - k from by omega]
  rfl
theorem backTo_all {t : List UInt8} {ps ws : List Nat} (h : Sorted t ps) (hw : Weighs ws (colOf t ps)) : (backTo (longer (colOf t ps) ws (rootOf ps)) 0 t.length).1 = t := by
 rw [(backTo_text h hw t.length (Nat.le_refl _)).1, Nat.sub_self]; rfl

end Hm
end Go.Proofs.YtegnkfdbmmndaaaGreat
end

/- BackJ -/
section
/- An archive is read back as its files. -/
namespace Go.Proofs.YtegnkfdbmmndaaaGreat
namespace Hm

theorem endsOf_getD (fs : List (ByteArray × ByteArray)) (i : Nat) (hi : i < fs.length) : (endsOf fs).getD i 0 = (textOf (fs.take (i + 1))).length := by
 unfold endsOf
 rw [List.getD_eq_getElem?_getD, List.getElem?_map, List.getElem?_range hi]; rfl
theorem textOf_take_le (fs : List (ByteArray × ByteArray)) {i j : Nat} (h : i ≤ j) : (textOf (fs.take i)).length ≤ (textOf (fs.take j)).length := by
 have := textOf_le (fs.take j) i
 rwa [List.take_take, Nat.min_eq_left h] at this
theorem endsOf_up (fs : List (ByteArray × ByteArray)) : EndsUp (endsOf fs) (textOf fs).length := by
 have hl := endsOf_length fs
 refine ⟨fun i j hij hj => ?_, fun i hi => ?_, ?_⟩
 ·rw [endsOf_getD fs i (by omega), endsOf_getD fs j (by omega)]
  exact textOf_take_le fs (by omega)
 ·rw [endsOf_getD fs i (by omega)]; exact textOf_le fs _
 ·rw [hl]
  by_cases c : fs.length = 0
  ·rw [if_pos c, List.eq_nil_of_length_eq_zero c]; rfl
  ·rw [if_neg c, endsOf_getD fs _ (by omega), show fs.length - 1 + 1 = fs.length from by omega, List.take_length]
theorem part_text (fs : List (ByteArray × ByteArray)) (i : Nat) (hi : i < fs.length) : part (textOf fs) (textOf (fs.take i)).length (textOf (fs.take (i + 1))).length = fs[i].2.data.toList := by
 have e : textOf fs = textOf (fs.take i) ++ (fs[i].2.data.toList ++ textOf (fs.drop (i + 1))) := by
  conv => lhs; rw [← List.take_append_drop i fs, List.drop_eq_getElem_cons hi]
  unfold textOf
  rw [List.flatMap_append, List.flatMap_cons]
 have hl : (textOf (fs.take (i + 1))).length = (textOf (fs.take i)).length + fs[i].2.data.toList.length := by rw [textOf_take fs i hi, List.length_append]
 unfold part
 rw [hl, Nat.add_sub_cancel_left, e, List.drop_left, List.take_left]
theorem lens_le255 {L : List Nat} (h : Coded L) : ∀ x ∈ L, x ≤ 255 := fun x hx => by
 have h1 := maxL_le L x hx
 have h2 := maxL_coded h
 omega

/-- An archive can be read, and its files come out. -/
theorem arch_back {fs : List (ByteArray × ByteArray)} {s : List UInt8} (hck : ckAll fs = 0) (hA : IsArch fs s) : ∃ l6 L l8 st, Parse s l6 L l8 st ∧ filesRd s l6 l8 st = fs := by
 obtain ⟨hm, h32, hn⟩ := ckAll_ok hck
 obtain ⟨ps, N, hps, _, hE, es⟩ := hA.is
 have hC := lens_coded (textOf fs) hn
 have hmem : ∀ b ∈ colOf (textOf fs) ps, b ∈ orderOf (lens (textOf fs)) := fun b hb => (lens_mem _ hn b).2 (colOf_mem hps.perm b hb)
 have hroot := (rootOf_idx hps.perm).2
 have hcl := colOf_length hps.perm
 obtain ⟨t, ht⟩ : ∃ t, t = textOf fs := ⟨_, rfl⟩
 obtain ⟨tr, htr⟩ : ∃ tr, tr = trOf (lens (textOf fs)) N (colOf (textOf fs) ps) := ⟨_, rfl⟩
 obtain ⟨SB, hSB⟩ : ∃ x, x = leBytes (crc (archBody fs ps tr)) 4 := ⟨_, rfl⟩
 have hSl : SB.length = 4 := by rw [hSB, leBytes_length]
 obtain ⟨X9, hX9⟩ : ∃ x, x = packBits (samples ps) ++ SB := ⟨_, rfl⟩
 obtain ⟨X8, hX8⟩ : ∃ x, x = packBits tr ++ X9 := ⟨_, rfl⟩
 obtain ⟨X7, hX7⟩ : ∃ x, x = leBytes (codedOf (lens (textOf fs))).length 2 ++ (lenBytes (lens (textOf fs)) (codedOf (lens (textOf fs))) ++ X8) := ⟨_, rfl⟩
 obtain ⟨X6, hX6⟩ : ∃ x, x = packBits (endsBits (endsOf fs) (textOf fs).length) ++ X7 := ⟨_, rfl⟩
 have hs : s = [72, 79, 65, 82, 68, 49, UInt8.ofNat fs.length] ++ (leBytes (textOf fs).length 2 ++ (leBytes (rootOf ps) 2 ++ (nameBytes fs ++ X6))) := by
  rw [es, ← htr, hX6, hX7, hX8, hX9, hSB]
  unfold archOf archBody
  simp only [List.append_assoc]
 have hbody : s = archBody fs ps tr ++ SB := by rw [es, ← htr, hSB]; rfl
 have hhead := head_app fs (textOf fs).length (rootOf ps) X6 (by omega) (by omega) hroot (fun f hf => (h32 f hf).1)
 simp only at hhead
 rw [← hs] at hhead
 obtain ⟨eF, eN, eR, eM⟩ := hhead
 have hel := endsOf_length fs
 obtain ⟨q1, q2, q3⟩ := endsOk_app (endsOf fs) (textOf fs).length hn (endsOf_up fs) X7
 rw [← hX6, hel] at q1 q2 q3
 obtain ⟨st, t1, t2, t3⟩ := treeOk_app hC hE hmem X9
 rw [← htr, ← hX8, hcl] at t1
 rw [← htr] at t2
 rw [← htr, ← hX8] at t3
 obtain ⟨s1, s2⟩ := sampOk_app hps.perm SB
 rw [← hX9] at s1 s2
 have hd8 : X8.drop (szB st.len) = X9 := by rw [t2, hX8, List.drop_left]
 have hP : Parse s X6 (lens (textOf fs)) X8 st := by
  refine ⟨by rw [eM], by rw [eF, eN]; exact q1, ?_, by rw [eN]; exact t1, by rw [eN, hd8]; exact s1, ?_⟩
  ·rw [eF, eN, q2, hX7]
   exact rdL_app _ _ hC.len (lens_le255 hC)
  ·rw [eN, hd8, s2]
   have hlen : s.length - 4 = (archBody fs ps tr).length := by rw [hbody, List.length_append, hSl]; omega
   have htake : s.take (s.length - 4) = archBody fs ps tr := by rw [hlen, hbody, List.take_left]
   unfold sumO
   rw [htake, show numO (some SB) 4 = (crc (archBody fs ps tr), some []) from by
    have := numO_app (crc (archBody fs ps tr)) 4 [] (by have := crc_lt (archBody fs ps tr); omega)
    rwa [List.append_nil, ← hSB] at this]
   exact if_pos ⟨rfl, rfl⟩
 refine ⟨X6, lens (textOf fs), X8, st, hP, ?_⟩
 have hcol : colRd X8 (textOf fs).length st = colOf (textOf fs) ps := by
  obtain ⟨c1, c2, _⟩ := colRd_is t1
  exact c2.unique t3 (by rw [c1, hcl])
 have hwe := (colRd_is t1).2.2
 rw [hcol] at hwe
 have htext : textRd s X8 st = textOf fs := by
  unfold textRd
  rw [eN, eR, hcol]
  exact backTo_all hps hwe
 unfold filesRd
 rw [eF]
 apply List.ext_getElem (by simp)
 intro i h1 h2
 rw [List.getElem_map, List.getElem_range]
 unfold fileRd
 have hi : i < fs.length := h2
 have hend : ∀ j, j < fs.length → endRd s X6 j = (textOf (fs.take (j + 1))).length := fun j hj => by
  unfold endRd
  rw [eF, eN, q3 j (by omega), endsOf_getD fs j hj]
 have hfrom : fromRd s X6 i = (textOf (fs.take i)).length := by
  show (if i = 0 then 0 else _) = _
  by_cases c : i = 0
  ·rw [if_pos c, c]; rfl
  ·rw [if_neg c]
   have := hend (i - 1) (by omega)
   rw [show i - 1 + 1 = i from by omega] at this
   exact this
 rw [htext, hend i hi, hfrom, part_text fs i hi, eM]
 show (((fs.map (·.1)).getD i ⟨#[]⟩), _) = _
 rw [List.getD_eq_getElem?_getD, List.getElem?_map, List.getElem?_eq_getElem hi]
 rfl

end Hm
end Go.Proofs.YtegnkfdbmmndaaaGreat
end

/- KeepD -/
section
/- The files of the law may be packed; how long an archive is. -/
namespace Go.Proofs.YtegnkfdbmmndaaaGreat
open Go.RowKit
namespace Hm

/-- The last name of a list, or the name ahead of it. -/
def lastN (ah : ByteArray) : List Fl → ByteArray
 | [] => ah
 | f :: r => lastN f.1 r
theorem lastN_snoc : ∀ (fs : List Fl) (f : Fl) (ah : ByteArray), lastN ah (fs ++ [f]) = f.1
 | [], _, _ => rfl
 | g :: r, f, _ => lastN_snoc r f g.1
theorem textOf_cons (f : Fl) (r : List Fl) : (textOf (f :: r)).length = f.2.size + (textOf r).length := by
 unfold textOf
 rw [List.flatMap_cons, List.length_append]; simp
theorem textOf_snoc (fs : List Fl) (f : Fl) : (textOf (fs ++ [f])).length = (textOf fs).length + f.2.size := by
 unfold textOf
 rw [List.flatMap_append, List.length_append]; simp
theorem ckLoop_snoc : ∀ (fs : List Fl) (f : Fl) (ah : ByteArray) (tot : Nat), ckLoop ah tot fs = 0 → ckFile f.1 f.2 (lastN ah fs) = 0 → tot + (textOf fs).length + f.2.size ≤ 6000 → ckLoop ah tot (fs ++ [f]) = 0
 | [], f, ah, tot, _, h2, h3 => by
  have h2' : ckFile f.1 f.2 ah = 0 := h2
  show (if ckFile f.1 f.2 ah = 0 then (if 6000 < tot + f.2.size then (5 : Int) else 0) else ckFile f.1 f.2 ah) = 0
  rw [if_pos h2', if_neg]
  have : (textOf ([] : List Fl)).length = 0 := rfl
  omega
 | g :: r, f, ah, tot, h1, h2, h3 => by
  rw [ckLoop] at h1
  split at h1
  ·rename_i hg
   rw [textOf_cons] at h3
   rw [List.cons_append, ckLoop, if_pos hg]
   exact ckLoop_snoc r f g.1 (tot + g.2.size) h1 h2 (by omega)
  ·rename_i hg; exact absurd h1 hg
theorem nameK_size (k : Nat) : (nameK k).size = 2 := rfl
theorem nameK_up : ∀ k, k < 40 → leB (nameK (k + 1)) (nameK k) = false := by
 intro k hk
 unfold leB
 rw [ByteArray.toList_eq, ByteArray.toList_eq]
 show (Op.bytesLess [102, UInt8.ofNat (k + 1)] [102, UInt8.ofNat k] || ([102, UInt8.ofNat (k + 1)] == [102, UInt8.ofNat k])) = false
 revert k
 decide +kernel
theorem nameK_empty (k : Nat) : leB (nameK k) ⟨#[]⟩ = false := by
 unfold leB
 rw [ByteArray.toList_eq, ByteArray.toList_eq]
 rfl
theorem keepTo_ck (raw : List ByteArray) : ∀ k, k ≤ 40 → ckLoop ⟨#[]⟩ 0 (keepTo raw k).1 = 0 ∧ (textOf (keepTo raw k).1).length = (keepTo raw k).2 ∧ leB (nameK k) (lastN ⟨#[]⟩ (keepTo raw k).1) = false
 | 0, _ => ⟨rfl, rfl, nameK_empty 0⟩
 | k + 1, h => by
  obtain ⟨h1, h2, h3⟩ := keepTo_ck raw k (by omega)
  have ht := keepTo_tot raw (k + 1)
  have hs := cutK_size (raw.getD k ⟨#[]⟩) (keepTo raw k).2
  rw [keepTo] at ht ⊢
  dsimp only at ht ⊢
  refine ⟨ckLoop_snoc _ _ _ _ h1 ?_ ?_, ?_, ?_⟩
  ·show ckFile (nameK k) _ _ = 0
   rw [ckFile, if_neg (by rw [nameK_size]; omega), if_neg (by rw [h3]; simp), if_neg]
   show ¬ 3000 < (cutK _ _).size
   omega
  ·show 0 + _ + (cutK _ _).size ≤ 6000
   omega
  ·rw [textOf_snoc, h2]
  ·rw [lastN_snoc]
   exact nameK_up k (by omega)
/-- They pass. -/
theorem keepTo_ok (raw : List ByteArray) (k : Nat) (h : k ≤ 40) : ckAll (keepTo raw k).1 = 0 := by
 unfold ckAll
 rw [if_neg (by rw [keepTo_length]; omega)]
 exact (keepTo_ck raw k h).1

/-- An archive is not long, and not empty. -/
theorem arch_length {fs : List Fl} {s : List UInt8} (hck : ckAll fs = 0) (hA : IsArch fs s) : s.length ≤ 10000000 ∧ 0 < s.length := by
 obtain ⟨hm, h32, hn⟩ := ckAll_ok hck
 obtain ⟨ps, N, hps, _, hE, es⟩ := hA.is
 have hN : N ≤ 255 := by have h1 := hE.len; have h2 := hE.few (2 * N) (Nat.le_refl _); omega
 have hcl := colOf_length hps.perm
 have htr : (trOf (lens (textOf fs)) N (colOf (textOf fs) ps)).length ≤ 255 * 6000 := by
  unfold trOf
  rw [List.length_map]
  refine Nat.le_trans (treeBits_le _ _ _ _ _) (Nat.mul_le_mul hN ?_)
  rw [hcl]; exact hn
 have hsm := samples_length hps.perm
 have hbl : Lib.bitLen ((textOf fs).length / 8) ≤ 10 := Lib.bitLen_le _ 10 (by omega) (by omega)
 have hmul : ((textOf fs).length / 8 + 1) * Lib.bitLen ((textOf fs).length / 8) ≤ 751 * 10 := Nat.mul_le_mul (by omega) hbl
 have hel := endsBits_length (endsOf fs) (textOf fs).length
 have hlw := lowW_le (endsOf fs).length (textOf fs).length hn
 have hq : (textOf fs).length / 2 ^ lowW (endsOf fs).length (textOf fs).length ≤ (textOf fs).length := Nat.div_le_self _ _
 have hel2 := endsOf_length fs
 have hm2 : (endsOf fs).length * lowW (endsOf fs).length (textOf fs).length ≤ 40 * 12 := Nat.mul_le_mul (by omega) hlw
 have hnb := nameBytes_le fs (fun f hf => (h32 f hf).1)
 have hco : (codedOf (lens (textOf fs))).length ≤ 256 := codedTo_le _ 256
 have hlb := lenBytes_length (lens (textOf fs)) (codedOf (lens (textOf fs)))
 rw [es]
 unfold archOf archBody
 simp only [List.length_append, List.length_cons, List.length_nil, leBytes_length, packBits_length]
 omega
end Hm

end Go.Proofs.YtegnkfdbmmndaaaGreat
end
