import Derived.Test.YtegnkfdbmmndaaaGreatJ23
import Derived.Test.YtegnkfdbmmndaaaGreatJ10

/- RefS -/
section
/- The document's codes are the codes of the lengths. -/
namespace Go.Proofs.YtegnkfdbmmndaaaGreat
namespace Hm

theorem headBits_num (l c : Nat) : headBits l c = (numBits c l).reverse := rfl
theorem numBits_shift (x : Nat) : ∀ d l, numBits (x * 2 ^ d) (l + d) = List.replicate d false ++ numBits x l
  | 0, l => by simp
  | d + 1, l => by
    rw [← Nat.add_assoc, numBits_cons, List.replicate_succ, List.cons_append, ← numBits_shift x d l]
    have e : x * 2 ^ (d + 1) = 2 * (x * 2 ^ d) := by rw [Nat.pow_succ]; ac_rfl
    rw [e, show 2 * (x * 2 ^ d) / 2 = x * 2 ^ d from by omega]
    congr 1
    exact decide_eq_false (by omega)
theorem padR_num (x l n : Nat) (h : l ≤ n) : padR n (numBits x l) = numBits (x * 2 ^ (n - l)) n := by
  unfold padR
  rw [numBits_length, ← numBits_shift x (n - l) l, show l + (n - l) = n from by omega]

/-- How far the codes are made: those of the first k bytes. -/
structure Far (L : List Nat) (t k : Nat) (s : CS) : Prop where
  le : k ≤ (orderOf L).length
  less : ∀ i, i < k → keyB L ((orderOf L).getD i 0) < 256 + t
  more : ∀ i, k ≤ i → i < (orderOf L).length → 256 + t ≤ keyB L ((orderOf L).getD i 0)
  on : s.on = decide (0 < k)
  code : s.code = numBits (codeTo L (orderOf L) k).1 (codeTo L (orderOf L) k).2
  len : s.out.length = 256
  made : ∀ i, i < k → s.out.getD ((orderOf L).getD i 0).toNat [] = (numBits (codeTo L (orderOf L) (i + 1)).1 (codeTo L (orderOf L) (i + 1)).2).reverse
  none : ∀ b : UInt8, (∀ i, i < k → (orderOf L).getD i 0 ≠ b) → s.out.getD b.toNat [] = []

theorem getDl_set_self (l : List (List Bool)) (i : Nat) (x : List Bool) (h : i < l.length) : (l.set i x).getD i [] = x := by
  rw [List.getD_eq_getElem?_getD, List.getElem?_set_self h]; rfl
theorem getDl_set_ne (l : List (List Bool)) (i j : Nat) (x : List Bool) (h : i ≠ j) : (l.set i x).getD j [] = l.getD j [] := by
  rw [List.getD_eq_getElem?_getD, List.getElem?_set_ne h, ← List.getD_eq_getElem?_getD]

theorem Coded.key_lt {L : List Nat} {i j : Nat} (hij : i < j) (hj : j < (orderOf L).length) : keyB L ((orderOf L).getD i 0) < keyB L ((orderOf L).getD j 0) := by
  rw [List.getD_eq_getElem?_getD, List.getElem?_eq_getElem (by omega : i < (orderOf L).length), List.getD_eq_getElem?_getD, List.getElem?_eq_getElem hj]
  exact List.pairwise_iff_getElem.1 (orderOf_sorted L) i j (by omega) hj hij
theorem lnB_get (L : List Nat) (b : UInt8) : lnB L b = L.getD b.toNat 0 := rfl

theorem Far.step {L : List Nat} (hC : Coded L) {t k : Nat} {s : CS} (h : Far L t k s) : ∃ k' s', cStep L (t / 256 + 1) (t % 256) s = some s' ∧ Far L (t + 1) k' s' := by
  have hc : t % 256 < 256 := Nat.mod_lt _ (by omega)
  obtain ⟨b, hb⟩ : ∃ b : UInt8, b.toNat = t % 256 := ⟨UInt8.ofNat (t % 256), by rw [UInt8.toNat_ofNat']; omega⟩
  by_cases he : L.getD (t % 256) 0 = t / 256 + 1
  · have hlb : lnB L b = t / 256 + 1 := by rw [lnB_get, hb, he]
    have hkey : keyB L b = 256 + t := by unfold keyB; rw [hlb, hb]; omega
    have hmem : b ∈ orderOf L := (hC.mem b).2 (by omega)
    obtain ⟨i, hi, hib⟩ := exists_at hmem
    have hik : i = k := by
      rcases Nat.lt_trichotomy i k with c | c | c
      · have := h.less i c; rw [hib, hkey] at this; omega
      · exact c
      · have h1 := Coded.key_lt (L := L) c hi
        have h2 := h.more k (Nat.le_refl _) (by omega)
        rw [hib, hkey] at h1; omega
    subst hik
    have hct : codeTo L (orderOf L) (i + 1) = codeStep L (codeTo L (orderOf L) i) i b := by rw [codeTo, hib]
    have hnx : ∃ R, cNext s = some R ∧ padR (t / 256 + 1) R = numBits (codeTo L (orderOf L) (i + 1)).1 (codeTo L (orderOf L) (i + 1)).2 := by
      rw [hct]
      unfold codeStep
      rw [hlb]
      cases i with
      | zero =>
        refine ⟨s.code, ?_, ?_⟩
        · unfold cNext; rw [h.on]; rfl
        · rw [h.code]
          show padR (t / 256 + 1) (numBits 0 0) = _
          rw [padR_num _ _ _ (by omega)]
          simp [codeTo]
      | succ i =>
        have hlt := hC.fits.lt i (by omega)
        have hlt2 := hC.fits.lt (i + 1) hi
        have hasc := hC.fits.asc_get (i := i) (j := i + 1) (by omega) hi
        have hl2 : (codeTo L (orderOf L) (i + 1)).2 = lnB L ((orderOf L).getD i 0) := codeTo_len L _ i
        rw [hct, hib] at hlt2
        rw [hib, hlb] at hasc
        unfold codeStep at hlt2
        rw [hlb, if_neg (by omega), hl2] at hlt2
        simp only at hlt2
        obtain ⟨m, hm⟩ : ∃ m, m = (codeTo L (orderOf L) (i + 1)).1 := ⟨_, rfl⟩
        obtain ⟨l, hl⟩ : ∃ l, l = lnB L ((orderOf L).getD i 0) := ⟨_, rfl⟩
        rw [← hm, ← hl] at hlt hlt2
        rw [← hl] at hasc hl2
        have hm1 : m + 1 < 2 ^ l := by
          have e : 2 ^ (t / 256 + 1) = 2 ^ l * 2 ^ (t / 256 + 1 - l) := by rw [← Nat.pow_add]; congr 1; omega
          rw [e] at hlt2
          exact Nat.lt_of_mul_lt_mul_right hlt2
        refine ⟨numBits (m + 1) l, ?_, ?_⟩
        · unfold cNext
          rw [h.on, h.code, hl2, ← hm]
          show incR _ = _
          rw [incR_num l m hlt, if_pos hm1]
        · rw [padR_num _ _ _ hasc, ← hm, hl2, if_neg (by omega)]
    obtain ⟨R, hR, hpad⟩ := hnx
    refine ⟨i + 1, ⟨s.out.set (t % 256) (padR (t / 256 + 1) R).reverse, padR (t / 256 + 1) R, true⟩, ?_, ?_⟩
    · unfold cStep; rw [if_pos he, hR]; rfl
    · refine ⟨hi, fun j hj => ?_, fun j hj hjl => ?_, ?_, hpad, ?_, fun j hj => ?_, fun b' hb' => ?_⟩
      · rcases Nat.lt_or_ge j i with c | c
        · have := h.less j c; omega
        · obtain rfl : j = i := by omega
          rw [hib, hkey]; omega
      · have h1 := Coded.key_lt (L := L) (i := i) (j := j) (by omega) hjl
        rw [hib, hkey] at h1; omega
      · show true = _; rw [decide_eq_true (by omega)]
      · show (s.out.set _ _).length = 256; rw [List.length_set, h.len]
      · show (s.out.set (t % 256) _).getD _ [] = _
        rcases Nat.lt_or_ge j i with c | c
        · rw [getDl_set_ne _ _ _ _ (fun e => by
            have e2 : (orderOf L).getD j 0 = b := UInt8.toNat_inj.1 (by rw [hb]; exact e.symm)
            have := h.less j c; rw [e2, hkey] at this; omega)]
          exact h.made j c
        · obtain rfl : j = i := by omega
          rw [hib, hb, getDl_set_self _ _ _ (by rw [h.len]; exact hc), hpad]
      · show (s.out.set (t % 256) _).getD _ [] = _
        rw [getDl_set_ne _ _ _ _ (fun e => hb' i (by omega) (by rw [hib]; exact UInt8.toNat_inj.1 (by rw [hb]; exact e)))]
        exact h.none b' (fun j hj => hb' j (by omega))
  · refine ⟨k, s, by unfold cStep; rw [if_neg he], h.le, fun i hi => by have := h.less i hi; omega, fun i hi hil => ?_, h.on, h.code, h.len, h.made, h.none⟩
    have h1 := h.more i hi hil
    rcases Nat.lt_or_ge (256 + t) (keyB L ((orderOf L).getD i 0)) with c | c
    · omega
    · exfalso
      have e : keyB L ((orderOf L).getD i 0) = 256 + t := by omega
      unfold keyB at e
      have := ((orderOf L).getD i 0).toNat_lt
      apply he
      have e1 : ((orderOf L).getD i 0).toNat = t % 256 := by omega
      have e2 : lnB L ((orderOf L).getD i 0) = t / 256 + 1 := by omega
      rw [← e1, ← lnB_get, e2]
theorem far_to {L : List Nat} (hC : Coded L) : ∀ t, ∃ k s, cTo L t = some s ∧ Far L t k s
  | 0 => by
    refine ⟨0, _, rfl, Nat.zero_le _, fun i hi => by omega, fun i _ hi => ?_, rfl, rfl, List.length_replicate, fun i hi => by omega, fun b _ => ?_⟩
    · have := hC.pos _ (getD_mem hi)
      unfold keyB
      omega
    · rw [List.getD_eq_getElem?_getD, List.getElem?_replicate_of_lt b.toNat_lt]; rfl
  | t + 1 => by
    obtain ⟨k, s, hs, hf⟩ := far_to hC t
    obtain ⟨k', s', hs', hf'⟩ := hf.step hC
    exact ⟨k', s', by rw [cTo, hs, Option.bind_some, hs'], hf'⟩
theorem far_last {L : List Nat} {s : CS} {k t : Nat} (hC : Coded L) (hf : Far L t k s) (ht : 32 * 256 ≤ t) : k = (orderOf L).length := by
  rcases Nat.lt_or_ge k (orderOf L).length with c | c
  · exfalso
    have h1 := hf.more k (Nat.le_refl _) c
    have h2 := hC.short ((orderOf L).getD k 0)
    unfold keyB at h1
    have := ((orderOf L).getD k 0).toNat_lt
    omega
  · have := hf.le; omega
/-- The codes of lengths of which codes are made. -/
theorem codes_coded {L : List Nat} (hC : Coded L) {o : List (List Bool)} {ok : Bool} (h : CodesAre L o ok) : ok = true ∧ ∀ b : UInt8, o.getD b.toNat [] = cdOf (lnB L) (numB L) b := by
  obtain ⟨k, s, hs, hf⟩ := far_to hC 65280
  obtain ⟨rfl, rfl⟩ := CodesAre.to (some s) hs h
  have hk : k = (orderOf L).length := far_last hC hf (by omega)
  clear h hs
  generalize 65280 = T at hf
  refine ⟨?_, fun b => ?_⟩
  · rw [hf.on, hf.code]
    rcases hC.kind with h0 | ⟨h1, h2⟩ | ⟨h1, h2⟩
    · rw [decide_eq_false (by omega)]; rfl
    · have hk1 : k = 1 := by omega
      have hl1 : lnB L ((orderOf L).getD 0 0) = 1 := h2 _ (getD_mem (by omega))
      have hc1 : (codedOf L).length = 1 := by rw [← orderOf_length L hC.le255]; exact h1
      have hcd : codeTo L (orderOf L) k = (0, 1) := by rw [hk1, codeTo, codeStep, hl1]; simp [codeTo]
      rw [hcd, decide_eq_true hc1]
      have : (numBits 0 1 == [false]) = true := by decide
      simp [this]
    · have hi : (orderOf L).length - 1 < (orderOf L).length := by omega
      have hnum := hC.fits.num _ hi
      have hkr := kr_take_succ 32 L (orderOf L) _ hi
      have hsh := hC.short ((orderOf L).getD ((orderOf L).length - 1) 0)
      have hlt := hC.fits.lt _ hi
      rw [show (orderOf L).length - 1 + 1 = (orderOf L).length from by omega, List.take_length, h2, ← hnum, show (orderOf L).length - 1 + 1 = (orderOf L).length from by omega] at hkr
      rw [show (orderOf L).length - 1 + 1 = (orderOf L).length from by omega] at hlt
      have hlen : (codeTo L (orderOf L) (orderOf L).length).2 = lnB L ((orderOf L).getD ((orderOf L).length - 1) 0) := by
        have := codeTo_len L (orderOf L) ((orderOf L).length - 1)
        rwa [show (orderOf L).length - 1 + 1 = (orderOf L).length from by omega] at this
      rw [hk, hlen, incR_num _ _ hlt, if_neg]
      · simp
      · intro c
        have e : (2 : Nat) ^ 32 = 2 ^ lnB L ((orderOf L).getD ((orderOf L).length - 1) 0) * 2 ^ (32 - lnB L ((orderOf L).getD ((orderOf L).length - 1) 0)) := by rw [← Nat.pow_add, Nat.add_sub_cancel' hsh]
        have hp : 0 < (2 : Nat) ^ (32 - lnB L ((orderOf L).getD ((orderOf L).length - 1) 0)) := Nat.two_pow_pos _
        have h3 := Nat.mul_lt_mul_of_pos_right c hp
        rw [← e, Nat.add_mul, Nat.one_mul] at h3
        omega
  · by_cases hb : b ∈ orderOf L
    · obtain ⟨i, hi, rfl⟩ := exists_at hb
      rw [hf.made i (by omega)]
      unfold cdOf numB
      rw [headBits_num, codeOf_at L i hi, codeTo_len]
    · rw [hf.none b (fun i hi e => hb (by rw [← e]; exact getD_mem (by omega)))]
      have h0 : lnB L b = 0 := by have := mt (hC.mem b).2 hb; omega
      unfold cdOf
      rw [h0]; rfl

end Hm
end Go.Proofs.YtegnkfdbmmndaaaGreat
end

/- RefT -/
section
/- The beginnings of codes, found one by one: as plain lists. -/
namespace Go.Proofs.YtegnkfdbmmndaaaGreat
namespace Hm

theorem bval_acc (l : List Bool) : ∀ x : Nat, l.foldl (fun a b => 2 * a + b.toNat) x = x * 2 ^ l.length + bval l := by
  induction l with
  | nil => intro x; simp [bval]
  | cons b t ih =>
    intro x
    rw [List.foldl_cons, ih, List.length_cons, Nat.pow_succ]
    unfold bval
    rw [List.foldl_cons, ih (2 * 0 + b.toNat)]
    unfold bval
    rw [Nat.add_mul, Nat.mul_zero, Nat.zero_add, Nat.add_assoc]
    congr 1
    rw [Nat.mul_assoc, Nat.mul_left_comm, Nat.mul_comm 2]
theorem bval_cons (b : Bool) (t : List Bool) : bval (b :: t) = b.toNat * 2 ^ t.length + bval t := by
  show List.foldl _ (2 * 0 + b.toNat) t = _
  rw [bval_acc, Nat.mul_zero, Nat.zero_add]
theorem bval_lt : ∀ l : List Bool, bval l < 2 ^ l.length
  | [] => by decide
  | b :: t => by
    have := bval_lt t
    rw [bval_cons, List.length_cons, Nat.pow_succ]
    cases b
    · simp; omega
    · simp; omega
theorem bval_inj : ∀ a b : List Bool, a.length = b.length → bval a = bval b → a = b
  | [], [], _, _ => rfl
  | [], _ :: _, h, _ => by simp at h
  | _ :: _, [], h, _ => by simp at h
  | x :: a, y :: b, h, e => by
    have hl : a.length = b.length := by simpa using h
    have h1 := bval_lt a
    have h2 := bval_lt b
    rw [bval_cons, bval_cons, hl] at e
    rw [hl] at h1
    cases x <;> cases y
    · rw [bval_inj a b hl (by simpa using e)]
    · simp at e; omega
    · simp at e; omega
    · rw [bval_inj a b hl (by simpa using e)]
/-- Texts of 0 and 1, one as long as the other, stand as their numbers do. -/
theorem less_bits : ∀ a b : List Bool, a.length = b.length → Op.bytesLess (bitStr a) (bitStr b) = decide (bval a < bval b)
  | [], [], _ => rfl
  | [], _ :: _, h => by simp at h
  | _ :: _, [], h => by simp at h
  | x :: a, y :: b, h => by
    have hl : a.length = b.length := by simpa using h
    have h1 := bval_lt a
    have h2 := bval_lt b
    have ih := less_bits a b hl
    have e : Op.bytesLess (bitStr (x :: a)) (bitStr (y :: b)) = (decide ((if x then (49 : UInt8) else 48) < (if y then 49 else 48)) || ((if x then (49 : UInt8) else 48) == (if y then 49 else 48) && Op.bytesLess (bitStr a) (bitStr b))) := rfl
    rw [e, ih, bval_cons, bval_cons, hl]
    rw [hl] at h1
    cases x <;> cases y
    · simp
    · simp; omega
    · simp; omega
    · simp

/-- The beginnings found so far: all that are shorter than n, and those of length n of the codes of the first c bytes. -/
structure HS (cd : UInt8 → List Bool) (n c fr : Nat) (out : List (List Bool)) : Prop where
  srt : out.Pairwise hdLt
  le : fr ≤ out.length
  low : ∀ i, i < fr → (out.getD i []).length < n
  high : ∀ i, fr ≤ i → i < out.length → (out.getD i []).length = n
  mem : ∀ h, h ∈ out ↔ ∃ b : UInt8, h.length < (cd b).length ∧ (cd b).take h.length = h ∧ (h.length < n ∨ (h.length = n ∧ b.toNat < c))
  few : out.length ≤ n * 256 + c

section
variable {cd : UInt8 → List Bool} {n c fr : Nat} {out : List (List Bool)}
theorem HS.start : HS cd 0 0 0 [] := ⟨List.Pairwise.nil, Nat.le_refl _, fun i h => by omega, fun i _ h => by simp at h, fun h => by simp, Nat.zero_le _⟩
theorem HS.skip (h : HS cd n c fr out) (b : UInt8) (hb : b.toNat = c) (hl : (cd b).length ≤ n) : HS cd n (c + 1) fr out := by
  refine ⟨h.srt, h.le, h.low, h.high, fun x => ?_, by have := h.few; omega⟩
  rw [h.mem]
  constructor
  · rintro ⟨b', h1, h2, h3⟩
    exact ⟨b', h1, h2, by omega⟩
  · rintro ⟨b', h1, h2, h3⟩
    refine ⟨b', h1, h2, ?_⟩
    rcases h3 with h3 | ⟨h3, h4⟩
    · exact .inl h3
    · rcases Nat.lt_or_ge b'.toNat c with k | k
      · exact .inr ⟨h3, k⟩
      · have : b' = b := UInt8.toNat_inj.1 (by omega)
        subst this; omega
theorem HS.next (h : HS cd n 256 fr out) : HS cd (n + 1) 0 out.length out := by
  refine ⟨h.srt, Nat.le_refl _, fun i hi => ?_, fun i h1 h2 => by omega, fun x => ?_, by have := h.few; omega⟩
  · rcases Nat.lt_or_ge i fr with k | k
    · have := h.low i k; omega
    · have := h.high i k hi; omega
  · rw [h.mem]
    constructor
    · rintro ⟨b', h1, h2, h3⟩
      exact ⟨b', h1, h2, by omega⟩
    · rintro ⟨b', h1, h2, h3⟩
      have := b'.toNat_lt
      exact ⟨b', h1, h2, by omega⟩
theorem HS.last (h : HS cd n 0 fr out) (hl : ∀ b, (cd b).length ≤ n) : HeadsOf cd out := by
  refine ⟨h.srt, fun x => ?_⟩
  rw [h.mem]
  constructor
  · rintro ⟨b', h1, h2, _⟩
    exact ⟨b', h1, h2⟩
  · rintro ⟨b', h1, h2⟩
    have := hl b'
    exact ⟨b', h1, h2, by omega⟩
theorem getDl_mem {l : List (List Bool)} {i : Nat} (h : i < l.length) : l.getD i [] ∈ l := by
  rw [List.getD_eq_getElem?_getD, List.getElem?_eq_getElem h]; exact List.getElem_mem _
/-- None was found: there are no more. -/
theorem HS.stop (h : HS cd n 256 fr out) (he : out.length = fr) : HeadsOf cd out := by
  have hs : ∀ b, (cd b).length ≤ n := by
    intro b
    rcases Nat.lt_or_ge n (cd b).length with k | k
    · exfalso
      have hl : ((cd b).take n).length = n := by rw [List.length_take]; omega
      have hm : (cd b).take n ∈ out := (h.mem _).2 ⟨b, by omega, by rw [hl], .inr ⟨hl, b.toNat_lt⟩⟩
      obtain ⟨i, hi, e⟩ := List.getElem_of_mem hm
      have h1 := h.low i (by omega)
      rw [List.getD_eq_getElem?_getD, List.getElem?_eq_getElem hi] at h1
      simp only [Option.getD_some] at h1
      rw [e, hl] at h1
      omega
    · exact k
  refine ⟨h.srt, fun x => ?_⟩
  rw [h.mem]
  constructor
  · rintro ⟨b', h1, h2, _⟩
    exact ⟨b', h1, h2⟩
  · rintro ⟨b', h1, h2⟩
    have := hs b'
    exact ⟨b', h1, h2, by omega⟩
/-- It is there already. -/
theorem HS.same (h : HS cd n c fr out) (b : UInt8) (hb : b.toNat = c) (hl : n < (cd b).length) (hm : (cd b).take n ∈ out) : HS cd n (c + 1) fr out := by
  refine ⟨h.srt, h.le, h.low, h.high, fun x => ?_, by have := h.few; omega⟩
  constructor
  · intro hx
    obtain ⟨b', h1, h2, h3⟩ := (h.mem x).1 hx
    exact ⟨b', h1, h2, by omega⟩
  · rintro ⟨b', h1, h2, h3⟩
    rcases h3 with h3 | ⟨h3, h4⟩
    · exact (h.mem x).2 ⟨b', h1, h2, .inl h3⟩
    · rcases Nat.lt_or_ge b'.toNat c with k | k
      · exact (h.mem x).2 ⟨b', h1, h2, .inr ⟨h3, k⟩⟩
      · have : b' = b := UInt8.toNat_inj.1 (by omega)
        subst this
        rw [← h2, h3]; exact hm
theorem HS.put (h : HS cd n c fr out) (b : UInt8) (hb : b.toNat = c) (hl : n < (cd b).length) {a : Nat} (hf : fr ≤ a) (ha : a ≤ out.length) (hlo : ∀ i, fr ≤ i → i < a → bval (out.getD i []) < bval ((cd b).take n)) (hhi : a < out.length → ¬ bval (out.getD a []) < bval ((cd b).take n) ∧ out.getD a [] ≠ (cd b).take n) :
    HS cd n (c + 1) fr (out.take a ++ (cd b).take n :: out.drop a) := by
  have hx : ((cd b).take n).length = n := by rw [List.length_take]; omega
  obtain ⟨x, hxe⟩ : ∃ x, x = (cd b).take n := ⟨_, rfl⟩
  rw [← hxe] at hx hlo hhi ⊢
  have hget : ∀ i, i < out.length → out[i]? = some (out.getD i []) := fun i hi => by rw [List.getD_eq_getElem?_getD, List.getElem?_eq_getElem hi]; rfl
  have hlow : ∀ y ∈ out.take a, hdLt y x := by
    intro y hy
    obtain ⟨i, hi, rfl⟩ := List.getElem_of_mem hy
    have hia : i < a := by rw [List.length_take] at hi; omega
    have e : (out.take a)[i] = out.getD i [] := by
      rw [List.getElem_take, List.getD_eq_getElem?_getD, List.getElem?_eq_getElem (by omega)]; rfl
    rw [e]
    rcases Nat.lt_or_ge i fr with k | k
    · exact .inl (by rw [hx]; exact h.low i k)
    · exact .inr ⟨by rw [hx]; exact h.high i k (by omega), hlo i k hia⟩
  have hhigh : ∀ y ∈ out.drop a, hdLt x y := by
    intro y hy
    obtain ⟨i, hi, rfl⟩ := List.getElem_of_mem hy
    have hil : a + i < out.length := by rw [List.length_drop] at hi; omega
    have e : (out.drop a)[i] = out.getD (a + i) [] := by
      rw [List.getElem_drop, List.getD_eq_getElem?_getD, List.getElem?_eq_getElem hil]; rfl
    rw [e]
    have h1 := h.high (a + i) (by omega) hil
    obtain ⟨q1, q2⟩ := hhi (by omega)
    have h0 := h.high a hf (by omega)
    have hva : bval x < bval (out.getD a []) := by
      rcases Nat.lt_trichotomy (bval (out.getD a [])) (bval x) with k | k | k
      · exact absurd k q1
      · exact absurd (bval_inj _ _ (by rw [h0, hx]) k) q2
      · exact k
    refine .inr ⟨by rw [hx, h1], ?_⟩
    rcases Nat.eq_zero_or_pos i with k | k
    · subst k; exact hva
    · have hp := List.pairwise_iff_getElem.1 h.srt a (a + i) (by omega) hil (by omega)
      have e1 : out[a] = out.getD a [] := by rw [List.getD_eq_getElem?_getD, List.getElem?_eq_getElem (by omega)]; rfl
      have e2 : out[a + i] = out.getD (a + i) [] := by rw [List.getD_eq_getElem?_getD, List.getElem?_eq_getElem hil]; rfl
      rw [e1, e2] at hp
      unfold hdLt at hp
      omega
  refine ⟨?_, ?_, fun i hi => ?_, fun i h1 h2 => ?_, fun y => ?_, ?_⟩
  · rw [List.pairwise_append, List.pairwise_cons]
    refine ⟨h.srt.sublist (List.take_sublist _ _), ⟨hhigh, h.srt.sublist (List.drop_sublist _ _)⟩, fun y hy z hz => ?_⟩
    rcases List.mem_cons.1 hz with rfl | hz
    · exact hlow y hy
    · have q1 := hlow y hy
      have q2 := hhigh z hz
      unfold hdLt at *; omega
  · simp; have := h.le; omega
  · have e : (out.take a ++ x :: out.drop a).getD i [] = out.getD i [] := by
      rw [List.getD_eq_getElem?_getD, List.getElem?_append_left (by rw [List.length_take]; have := h.le; omega), List.getElem?_take_of_lt (by omega), ← List.getD_eq_getElem?_getD]
    rw [e]; exact h.low i hi
  · have hl2 : i < out.length + 1 := by simp at h2; omega
    rcases Nat.lt_trichotomy i a with k | k | k
    · have e : (out.take a ++ x :: out.drop a).getD i [] = out.getD i [] := by
        rw [List.getD_eq_getElem?_getD, List.getElem?_append_left (by rw [List.length_take]; omega), List.getElem?_take_of_lt k, ← List.getD_eq_getElem?_getD]
      rw [e]; exact h.high i h1 (by omega)
    · subst k
      rw [List.getD_eq_getElem?_getD, List.getElem?_append_right (by rw [List.length_take]; omega), List.length_take, Nat.min_eq_left ha, Nat.sub_self]
      exact hx
    · obtain ⟨j, rfl⟩ : ∃ j, i = a + j + 1 := ⟨i - a - 1, by omega⟩
      rw [List.getD_eq_getElem?_getD, List.getElem?_append_right (by rw [List.length_take]; omega), List.length_take, Nat.min_eq_left ha, show a + j + 1 - a = j + 1 from by omega, List.getElem?_cons_succ, List.getElem?_drop, ← List.getD_eq_getElem?_getD]
      exact h.high (a + j) (by omega) (by omega)
  · have e : y ∈ out.take a ++ x :: out.drop a ↔ y = x ∨ y ∈ out := by
      rw [List.mem_append, List.mem_cons]
      constructor
      · rintro (k | k | k)
        · exact .inr (List.mem_of_mem_take k)
        · exact .inl k
        · exact .inr (List.mem_of_mem_drop k)
      · rintro (k | k)
        · exact .inr (.inl k)
        · rw [← List.take_append_drop a out, List.mem_append] at k
          rcases k with k | k
          · exact .inl k
          · exact .inr (.inr k)
    rw [e]
    constructor
    · rintro (rfl | k)
      · exact ⟨b, by omega, by rw [hx, hxe], .inr ⟨hx, by omega⟩⟩
      · obtain ⟨b', h1, h2, h3⟩ := (h.mem y).1 k
        exact ⟨b', h1, h2, by omega⟩
    · rintro ⟨b', h1, h2, h3⟩
      rcases h3 with h3 | ⟨h3, h4⟩
      · exact .inr ((h.mem y).2 ⟨b', h1, h2, .inl h3⟩)
      · rcases Nat.lt_or_ge b'.toNat c with k | k
        · exact .inr ((h.mem y).2 ⟨b', h1, h2, .inr ⟨h3, k⟩⟩)
        · have : b' = b := UInt8.toNat_inj.1 (by omega)
          subst this
          exact .inl (by rw [hxe, ← h2, h3])
  · simp; have := h.few; omega
end

end Hm
end Go.Proofs.YtegnkfdbmmndaaaGreat
end
