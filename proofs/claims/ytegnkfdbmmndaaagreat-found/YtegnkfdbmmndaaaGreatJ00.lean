import Derived.Laws.BitsAllLaws
import Init.Data.List.Lemmas

/- Bits -/
section
/- Rows of bits in bytes, as plain lists. -/
namespace Go.Proofs.YtegnkfdbmmndaaaGreat
namespace Hm

def byte8 (f : Nat → Bool) : Nat := (f 0).toNat + 2 * (f 1).toNat + 4 * (f 2).toNat + 8 * (f 3).toNat + 16 * (f 4).toNat + 32 * (f 5).toNat + 64 * (f 6).toNat + 128 * (f 7).toNat
theorem byte8_lt (f : Nat → Bool) : byte8 f < 256 := by
 have h : ∀ b : Bool, b.toNat ≤ 1 := fun b => by cases b <;> decide
 have := h (f 0); have := h (f 1); have := h (f 2); have := h (f 3); have := h (f 4); have := h (f 5); have := h (f 6); have := h (f 7)
 unfold byte8; omega
theorem byte8_zero (f : Nat → Bool) (h : ∀ j, j < 8 → f j = false) : byte8 f = 0 := by
 unfold byte8; rw [h 0 (by omega), h 1 (by omega), h 2 (by omega), h 3 (by omega), h 4 (by omega), h 5 (by omega), h 6 (by omega), h 7 (by omega)]; rfl
theorem byte8_congr (f g : Nat → Bool) (h : ∀ j, j < 8 → f j = g j) : byte8 f = byte8 g := by
 unfold byte8; rw [h 0 (by omega), h 1 (by omega), h 2 (by omega), h 3 (by omega), h 4 (by omega), h 5 (by omega), h 6 (by omega), h 7 (by omega)]
def byteB (a b c d e f g h : Bool) : Nat := a.toNat + 2 * b.toNat + 4 * c.toNat + 8 * d.toNat + 16 * e.toNat + 32 * f.toNat + 64 * g.toNat + 128 * h.toNat
theorem or0 : ∀ a b c d e f g h, byteB a b c d e f g h ||| 1 = byteB true b c d e f g h := by decide
theorem or1 : ∀ a b c d e f g h, byteB a b c d e f g h ||| 2 = byteB a true c d e f g h := by decide
theorem or2 : ∀ a b c d e f g h, byteB a b c d e f g h ||| 4 = byteB a b true d e f g h := by decide
theorem or3 : ∀ a b c d e f g h, byteB a b c d e f g h ||| 8 = byteB a b c true e f g h := by decide
theorem or4 : ∀ a b c d e f g h, byteB a b c d e f g h ||| 16 = byteB a b c d true f g h := by decide
theorem or5 : ∀ a b c d e f g h, byteB a b c d e f g h ||| 32 = byteB a b c d e true g h := by decide
theorem or6 : ∀ a b c d e f g h, byteB a b c d e f g h ||| 64 = byteB a b c d e f true h := by decide
theorem or7 : ∀ a b c d e f g h, byteB a b c d e f g h ||| 128 = byteB a b c d e f g true := by decide
theorem byte8_or (f : Nat → Bool) (j : Nat) (hj : j < 8) : byte8 f ||| 2 ^ j = byte8 (fun k => if k = j then true else f k) := by
 show byteB (f 0) (f 1) (f 2) (f 3) (f 4) (f 5) (f 6) (f 7) ||| 2 ^ j = _
 match j, hj with
 | 0, _ => exact or0 _ _ _ _ _ _ _ _
 | 1, _ => exact or1 _ _ _ _ _ _ _ _
 | 2, _ => exact or2 _ _ _ _ _ _ _ _
 | 3, _ => exact or3 _ _ _ _ _ _ _ _
 | 4, _ => exact or4 _ _ _ _ _ _ _ _
 | 5, _ => exact or5 _ _ _ _ _ _ _ _
 | 6, _ => exact or6 _ _ _ _ _ _ _ _
 | 7, _ => exact or7 _ _ _ _ _ _ _ _

def byteN (bits : List Bool) (i : Nat) : Nat := byte8 fun j => bits.getD (8 * i + j) false
def packBits (bits : List Bool) : List UInt8 := (List.range ((bits.length + 7) / 8)).map fun i => UInt8.ofNat (byteN bits i)
theorem packBits_length (bits : List Bool) : (packBits bits).length = (bits.length + 7) / 8 := by simp [packBits]
theorem byteN_lt (bits : List Bool) (i : Nat) : byteN bits i < 256 := byte8_lt _
theorem packBits_get (bits : List Bool) (i : Nat) (h : i < (packBits bits).length) : (packBits bits)[i] = UInt8.ofNat (byteN bits i) := by simp [packBits]
theorem getD_grow (bits : List Bool) (c k : Nat) : (bits ++ List.replicate c false).getD k false = bits.getD k false := by
 simp only [List.getD_eq_getElem?_getD]
 by_cases h : k < bits.length
 ·rw [List.getElem?_append_left h]
 ·rw [List.getElem?_append_right (by omega), List.getElem?_eq_none (by omega : bits.length ≤ k)]
  by_cases h2 : k - bits.length < c
  ·rw [List.getElem?_replicate_of_lt h2]; rfl
  ·rw [List.getElem?_eq_none (by simp; omega)]
theorem packBits_grow (bits : List Bool) (c : Nat) : packBits (bits ++ List.replicate c false) = packBits bits ++ List.replicate ((bits.length + c + 7) / 8 - (bits.length + 7) / 8) 0 := by
 apply List.ext_getElem
 ·simp [packBits_length]; omega
 ·intro i h1 h2
  have hl : i < (bits.length + c + 7) / 8 := by simpa [packBits_length] using h1
  rw [packBits_get]
  by_cases h : i < (bits.length + 7) / 8
  ·rw [List.getElem_append_left (by rw [packBits_length]; exact h), packBits_get]
   congr 1
   exact byte8_congr _ _ fun j hj => getD_grow bits c _
  ·rw [List.getElem_append_right (by rw [packBits_length]; omega), List.getElem_replicate]
   have : byteN (bits ++ List.replicate c false) i = 0 := byte8_zero _ fun j hj => by
    rw [getD_grow]
    simp only [List.getD_eq_getElem?_getD]
    rw [List.getElem?_eq_none (by omega)]; rfl
   rw [this]; rfl
theorem getD_set (bits : List Bool) (at_ k : Nat) (h : at_ < bits.length) : (bits.set at_ true).getD k false = if k = at_ then true else bits.getD k false := by
 simp only [List.getD_eq_getElem?_getD, List.getElem?_set]
 by_cases e : at_ = k
 ·subst e; simp [h]
 ·rw [if_neg e, if_neg (fun x => e x.symm)]
theorem packBits_set (bits : List Bool) (at_ : Nat) (h : at_ < bits.length) : packBits (bits.set at_ true) = (packBits bits).set (at_ / 8) (UInt8.ofNat (byteN bits (at_ / 8) ||| 2 ^ (at_ % 8))) := by
 apply List.ext_getElem
 ·simp [packBits_length]
 ·intro i h1 h2
  have hl : i < (bits.length + 7) / 8 := by simpa [packBits_length] using h1
  rw [packBits_get, List.getElem_set]
  by_cases e : at_ / 8 = i
  ·rw [if_pos e, e]
   congr 1
   rw [byteN, byteN, byte8_or _ _ (by omega)]
   refine byte8_congr _ _ fun j hj => ?_
   rw [getD_set _ _ _ h]
   by_cases e2 : j = at_ % 8
   ·rw [if_pos (by omega), if_pos e2]
   ·rw [if_neg (by omega), if_neg e2]
  ·rw [if_neg e, packBits_get]
   congr 1
   refine byte8_congr _ _ fun j hj => ?_
   rw [getD_set _ _ _ h, if_neg (by omega)]
theorem set_snoc (bits : List Bool) (b : Bool) : (bits ++ [false]).set bits.length b = bits ++ [b] := by
 simp

end Hm
end Go.Proofs.YtegnkfdbmmndaaaGreat
end

/- RankM -/
section
/- Bits of bytes, and how many ones stand ahead of one. -/
namespace Go.Proofs.YtegnkfdbmmndaaaGreat
namespace Hm

/-- A bit of some bytes. -/
def bitB (bs : List UInt8) (k : Nat) : Bool := decide ((bs.getD (k / 8) 0).toNat / 2 ^ (k % 8) % 2 = 1)
/-- How many ones stand ahead of k. -/
def rk (f : Nat → Bool) : Nat → Nat
 | 0 => 0
 | k + 1 => rk f k + (f k).toNat
theorem toNat_le1 (b : Bool) : b.toNat ≤ 1 := by cases b <;> decide
theorem rk_le (f : Nat → Bool) : ∀ k, rk f k ≤ k
 | 0 => Nat.le_refl _
 | k + 1 => by have := rk_le f k; have := toNat_le1 (f k); rw [rk]; omega
theorem rk_add (f : Nat → Bool) (a : Nat) : ∀ b, rk f (a + b) = rk f a + rk (fun j => f (a + j)) b
 | 0 => rfl
 | b + 1 => by
  show rk f (a + b) + (f (a + b)).toNat = rk f a + (rk (fun j => f (a + j)) b + (f (a + b)).toNat)
  rw [rk_add f a b]; omega
theorem rk_mono (f : Nat → Bool) {a b : Nat} (h : a ≤ b) : rk f a ≤ rk f b := by
 obtain ⟨c, rfl⟩ := Nat.le.dest h
 rw [rk_add]; omega
theorem rk_part (f : Nat → Bool) {a b : Nat} (h : a ≤ b) : rk f b + a ≤ rk f a + b := by
 obtain ⟨c, rfl⟩ := Nat.le.dest h
 rw [rk_add]
 have := rk_le (fun j => f (a + j)) c
 omega
theorem rk_congr {f g : Nat → Bool} : ∀ {k : Nat}, (∀ j, j < k → f j = g j) → rk f k = rk g k
 | 0, _ => rfl
 | k + 1, h => by rw [rk, rk, rk_congr (fun j hj => h j (by omega)), h k (by omega)]
theorem bitB_in (bs : List UInt8) (k j : Nat) (hj : j < 8) : bitB bs (8 * k + j) = decide ((bs.getD k 0).toNat / 2 ^ j % 2 = 1) := by
 unfold bitB
 rw [show (8 * k + j) / 8 = k from by omega, show (8 * k + j) % 8 = j from by omega]
theorem bt0 : ∀ a b c d e f g h, decide (byteB a b c d e f g h / 2 ^ 0 % 2 = 1) = a := by decide
theorem bt1 : ∀ a b c d e f g h, decide (byteB a b c d e f g h / 2 ^ 1 % 2 = 1) = b := by decide
theorem bt2 : ∀ a b c d e f g h, decide (byteB a b c d e f g h / 2 ^ 2 % 2 = 1) = c := by decide
theorem bt3 : ∀ a b c d e f g h, decide (byteB a b c d e f g h / 2 ^ 3 % 2 = 1) = d := by decide
theorem bt4 : ∀ a b c d e f g h, decide (byteB a b c d e f g h / 2 ^ 4 % 2 = 1) = e := by decide
theorem bt5 : ∀ a b c d e f g h, decide (byteB a b c d e f g h / 2 ^ 5 % 2 = 1) = f := by decide
theorem bt6 : ∀ a b c d e f g h, decide (byteB a b c d e f g h / 2 ^ 6 % 2 = 1) = g := by decide
theorem bt7 : ∀ a b c d e f g h, decide (byteB a b c d e f g h / 2 ^ 7 % 2 = 1) = h := by decide
theorem byte8_bit (f : Nat → Bool) (j : Nat) (hj : j < 8) : decide (byte8 f / 2 ^ j % 2 = 1) = f j := by
 show decide (byteB (f 0) (f 1) (f 2) (f 3) (f 4) (f 5) (f 6) (f 7) / 2 ^ j % 2 = 1) = _
 match j, hj with
 | 0, _ => exact bt0 _ _ _ _ _ _ _ _
 | 1, _ => exact bt1 _ _ _ _ _ _ _ _
 | 2, _ => exact bt2 _ _ _ _ _ _ _ _
 | 3, _ => exact bt3 _ _ _ _ _ _ _ _
 | 4, _ => exact bt4 _ _ _ _ _ _ _ _
 | 5, _ => exact bt5 _ _ _ _ _ _ _ _
 | 6, _ => exact bt6 _ _ _ _ _ _ _ _
 | 7, _ => exact bt7 _ _ _ _ _ _ _ _
/-- Bits that stand in bytes read as they are. -/
theorem bitB_pack (bits : List Bool) (k : Nat) : bitB (packBits bits) k = bits.getD k false := by
 unfold bitB
 by_cases h : k / 8 < (packBits bits).length
 ·rw [List.getD_eq_getElem?_getD, List.getElem?_eq_getElem h]
  show decide (((packBits bits)[k / 8]).toNat / 2 ^ (k % 8) % 2 = 1) = _
  rw [packBits_get, UInt8.toNat_ofNat', Nat.mod_eq_of_lt (byteN_lt bits (k / 8))]
  unfold byteN
  rw [byte8_bit _ _ (by omega), show 8 * (k / 8) + k % 8 = k from by omega]
 ·rw [List.getD_eq_getElem?_getD, List.getElem?_eq_none (by omega)]
  rw [packBits_length] at h
  rw [List.getD_eq_getElem?_getD, List.getElem?_eq_none (by omega : bits.length ≤ k)]
  simp

end Hm
end Go.Proofs.YtegnkfdbmmndaaaGreat
end

/- ShapeM -/
section
/- The shape of the tree of codes: nodes in the order in which they are found, and what goes on behind each bit. -/
namespace Go.Proofs.YtegnkfdbmmndaaaGreat
namespace Hm

/-- What goes on behind a bit. -/
structure Br where
 whole : Bool := false
 val : UInt8 := 0
 node : Nat := 0
/-- A node: how deep, with what number; where its bits stand. -/
structure Nd where
 depth : Nat := 0
 num : Nat := 0
 frm : Nat := 0
 siz : Nat := 0
 b0 : Br := {}
 b1 : Br := {}
def Nd.put (n : Nd) (s : Nat) (b : Br) : Nd := if s = 0 then { n with b0 := b } else { n with b1 := b }
def Nd.br (n : Nd) (s : Nat) : Br := if s = 0 then n.b0 else n.b1
def ndAt (nds : List Nd) (i : Nat) : Nd := nds.getD i {}
def putBr (nds : List Nd) (i s : Nat) (b : Br) : List Nd := nds.set i ((ndAt nds i).put s b)
/-- One side of a node. -/
def slotStep (ln : UInt8 → Nat) (i s : Nat) (nds : List Nd) : List UInt8 → List Nd × List UInt8
 | [] => (nds, [])
 | b :: r => if ln b = (ndAt nds i).depth + 1 then (putBr nds i s { whole := true, val := b }, r)
  else (putBr nds i s { node := nds.length } ++ [{ depth := (ndAt nds i).depth + 1, num := 2 * (ndAt nds i).num + s }], b :: r)
/-- So many sides of nodes, one behind the other. -/
def shapeTo (ln : UInt8 → Nat) (o : List UInt8) : Nat → List Nd × List UInt8
 | 0 => ([{}], o)
 | t + 1 => slotStep ln (t / 2) (t % 2) (shapeTo ln o t).1 (shapeTo ln o t).2

theorem ndAt_set_ne (nds : List Nd) (i j : Nat) (x : Nd) (h : i ≠ j) : ndAt (nds.set i x) j = ndAt nds j := by
 unfold ndAt
 rw [List.getD_eq_getElem?_getD, List.getElem?_set_ne h, ← List.getD_eq_getElem?_getD]
theorem ndAt_set_self (nds : List Nd) (i : Nat) (x : Nd) (h : i < nds.length) : ndAt (nds.set i x) i = x := by
 unfold ndAt
 rw [List.getD_eq_getElem?_getD, List.getElem?_set_self h]; rfl
theorem ndAt_append_lt (nds l : List Nd) (i : Nat) (h : i < nds.length) : ndAt (nds ++ l) i = ndAt nds i := by
 unfold ndAt
 rw [List.getD_eq_getElem?_getD, List.getElem?_append_left h, ← List.getD_eq_getElem?_getD]
theorem ndAt_append_new (nds : List Nd) (x : Nd) : ndAt (nds ++ [x]) nds.length = x := by
 unfold ndAt
 rw [List.getD_eq_getElem?_getD, List.getElem?_append_right (Nat.le_refl _)]; simp
theorem putBr_length (nds : List Nd) (i s : Nat) (b : Br) : (putBr nds i s b).length = nds.length := by simp [putBr]
theorem put_depth (n : Nd) (s : Nat) (b : Br) : (n.put s b).depth = n.depth := by unfold Nd.put; split <;> rfl
theorem put_num (n : Nd) (s : Nat) (b : Br) : (n.put s b).num = n.num := by unfold Nd.put; split <;> rfl
theorem put_br_self (n : Nd) (s : Nat) (b : Br) : (n.put s b).br s = b := by unfold Nd.put Nd.br; split <;> simp_all
theorem put_br_ne (n : Nd) (s u : Nat) (b : Br) (hs : s < 2) (hu : u < 2) (h : s ≠ u) : (n.put s b).br u = n.br u := by
 unfold Nd.put Nd.br
 rcases (show s = 0 ∧ u = 1 ∨ s = 1 ∧ u = 0 by omega) with ⟨rfl, rfl⟩ | ⟨rfl, rfl⟩ <;> rfl
theorem putBr_depth (nds : List Nd) (i s : Nat) (b : Br) (hi : i < nds.length) (j : Nat) : (ndAt (putBr nds i s b) j).depth = (ndAt nds j).depth := by
 unfold putBr
 by_cases e : i = j
 ·subst e; rw [ndAt_set_self _ _ _ hi, put_depth]
 ·rw [ndAt_set_ne _ _ _ _ e]
theorem putBr_num (nds : List Nd) (i s : Nat) (b : Br) (hi : i < nds.length) (j : Nat) : (ndAt (putBr nds i s b) j).num = (ndAt nds j).num := by
 unfold putBr
 by_cases e : i = j
 ·subst e; rw [ndAt_set_self _ _ _ hi, put_num]
 ·rw [ndAt_set_ne _ _ _ _ e]
theorem putBr_br_self (nds : List Nd) (i s : Nat) (b : Br) (hi : i < nds.length) : (ndAt (putBr nds i s b) i).br s = b := by
 unfold putBr
 rw [ndAt_set_self _ _ _ hi, put_br_self]
theorem putBr_br_ne (nds : List Nd) (i s j u : Nat) (b : Br) (hi : i < nds.length) (hs : s < 2) (hu : u < 2) (h : ¬ (i = j ∧ s = u)) : (ndAt (putBr nds i s b) j).br u = (ndAt nds j).br u := by
 unfold putBr
 by_cases e : i = j
 ·subst e; rw [ndAt_set_self _ _ _ hi, put_br_ne _ _ _ _ hs hu (fun e => h ⟨rfl, e⟩)]
 ·rw [ndAt_set_ne _ _ _ _ e]

/-- What codes of such lengths take of all that can follow. -/
def krf (M : Nat) (ln : UInt8 → Nat) (o : List UInt8) : Nat := (o.map fun b => 2 ^ (M - ln b)).sum
theorem krf_append (M : Nat) (ln : UInt8 → Nat) (a b : List UInt8) : krf M ln (a ++ b) = krf M ln a + krf M ln b := by simp [krf]
theorem krf_take (M : Nat) (ln : UInt8 → Nat) (o : List UInt8) (k : Nat) (h : k < o.length) : krf M ln (o.take (k + 1)) = krf M ln (o.take k) + 2 ^ (M - ln (o.getD k 0)) := by
 rw [List.take_succ_eq_append_getElem h, krf_append]
 congr 1
 rw [List.getD_eq_getElem?_getD, List.getElem?_eq_getElem h]
 simp [krf]
theorem krf_mono (M : Nat) (ln : UInt8 → Nat) (o : List UInt8) {k k' : Nat} (h : k ≤ k') : krf M ln (o.take k) ≤ krf M ln (o.take k') := by
 have e : o.take k = (o.take k').take k := by rw [List.take_take, Nat.min_eq_left h]
 rw [e]
 conv => rhs; rw [← List.take_append_drop k (o.take k'), krf_append]
 omega
theorem krf_lt (M : Nat) (ln : UInt8 → Nat) (o : List UInt8) {k k' : Nat} (h : k < k') (hk : k < o.length) : krf M ln (o.take k) < krf M ln (o.take k') := by
 have h1 := krf_take M ln o k hk
 have h2 := krf_mono M ln o (k := k + 1) (k' := k') h
 have := Nat.two_pow_pos (M - ln (o.getD k 0))
 omega
theorem krf_rest (M : Nat) (ln : UInt8 → Nat) (o : List UInt8) (k : Nat) : krf M ln (o.take k) + krf M ln (o.drop k) = krf M ln o := by
 rw [← krf_append, List.take_append_drop]
theorem krf_le (M e : Nat) (ln : UInt8 → Nat) : ∀ o : List UInt8, (∀ b ∈ o, e ≤ ln b) → krf M ln o ≤ o.length * 2 ^ (M - e)
 | [], _ => by simp [krf]
 | b :: r, h => by
  have h1 := krf_le M e ln r (fun x hx => h x (List.mem_cons_of_mem _ hx))
  have h2 := h b (List.mem_cons_self ..)
  have h3 : 2 ^ (M - ln b) ≤ 2 ^ (M - e) := Nat.pow_le_pow_right (by omega) (by omega)
  have e1 : krf M ln (b :: r) = 2 ^ (M - ln b) + krf M ln r := by simp [krf]
  rw [e1, List.length_cons, Nat.add_mul]
  omega

/-- Lengths of codes that take up all that can follow, none of it twice. -/
structure FullK (M : Nat) (ln : UInt8 → Nat) (o : List UInt8) : Prop where
 asc : o.Pairwise fun a b => ln a ≤ ln b
 pos : ∀ b ∈ o, 0 < ln b
 short : ∀ b ∈ o, ln b ≤ M
 sum : krf M ln o = 2 ^ M

/-- What is said of a bit of a node. -/
inductive GoodB (M : Nat) (ln : UInt8 → Nat) (o : List UInt8) (nds : List Nd) (j u : Nat) : Prop
 | leaf (k : Nat) (hk : k < o.length) (h : (ndAt nds j).br u = { whole := true, val := o.getD k 0 }) (hd : ln (o.getD k 0) = (ndAt nds j).depth + 1) (hn : (2 * (ndAt nds j).num + u) * 2 ^ (M - ln (o.getD k 0)) = krf M ln (o.take k))
 | node (n : Nat) (h : (ndAt nds j).br u = { node := n }) (h1 : j < n) (h2 : n < nds.length) (hd : (ndAt nds n).depth = (ndAt nds j).depth + 1) (hn : (ndAt nds n).num = 2 * (ndAt nds j).num + u) (hno : ∀ k, k < o.length → ln (o.getD k 0) = (ndAt nds n).depth → krf M ln (o.take k) ≠ (ndAt nds n).num * 2 ^ (M - (ndAt nds n).depth)) (hM : (ndAt nds n).depth < M)
 | none (h : (ndAt nds j).br u = {}) (hno : ∀ k, k < o.length → (ndAt nds j).depth + 1 ≤ ln (o.getD k 0) → (2 * (ndAt nds j).num + u) * 2 ^ (M - ((ndAt nds j).depth + 1)) ≤ krf M ln (o.take k) → (2 * (ndAt nds j).num + u + 1) * 2 ^ (M - ((ndAt nds j).depth + 1)) ≤ krf M ln (o.take k))

def NdLt (a b : Nd) : Prop := a.depth < b.depth ∨ a.depth = b.depth ∧ a.num < b.num
theorem NdLt.trans {a b c : Nd} (h1 : NdLt a b) (h2 : NdLt b c) : NdLt a c := by
 unfold NdLt at *; omega

structure ShInv (M : Nat) (ln : UInt8 → Nat) (o : List UInt8) (t : Nat) (nds : List Nd) (left : List UInt8) (i s d jp k F : Nat) : Prop where
 ht : t = 2 * i + s
 hs : s < 2
 hleft : left = o.drop k
 hk : k ≤ o.length
 ij : i ≤ jp
 ij0 : i = jp → s = 0
 jn : jp ≤ nds.length
 lo : ∀ j, i ≤ j → j < jp → (ndAt nds j).depth = d ∧ (ndAt nds j).num + (jp - j) = 2 ^ d
 hi : ∀ j, jp ≤ j → j < nds.length → (ndAt nds j).depth = d + 1 ∧ (ndAt nds j).num = F + (j - jp)
 hF : F * 2 ^ (M - (d + 1)) = krf M ln (o.take k)
 dM : d + 1 ≤ M
 bal : 2 * 2 ^ d + s = F + (nds.length - jp) + 2 * (jp - i)
 deep : ∀ b ∈ left, d < ln b
 deep2 : jp < nds.length → d + 2 ≤ M ∧ ∀ b ∈ left, d + 1 < ln b
 count : 2 * i + s + 1 = k + nds.length
 good : ∀ j u, u < 2 → 2 * j + u < t → GoodB M ln o nds j u
 sorted : ∀ j j', j < j' → j' < nds.length → NdLt (ndAt nds j) (ndAt nds j')
 root : (ndAt nds 0).depth = 0 ∧ (ndAt nds 0).num = 0
 more : 0 < nds.length
 par : ∀ n, 0 < n → n < nds.length → ∃ j u, u < 2 ∧ 2 * j + u < t ∧ j < n ∧ (ndAt nds j).br u = { node := n }
 full : ∀ j u, u < 2 → 2 * j + u < t → (ndAt nds j).br u ≠ {}

theorem ShInv.start {M : Nat} {ln : UInt8 → Nat} {o : List UInt8} (h : FullK M ln o) (hM : 1 ≤ M) : ShInv M ln o 0 [{}] o 0 0 0 1 0 0 where
 ht := rfl
 hs := by omega
 hleft := by simp
 hk := Nat.zero_le _
 ij := by omega
 ij0 := by omega
 jn := by simp
 lo := fun j h1 h2 => by
  obtain rfl : j = 0 := by omega
  exact ⟨rfl, rfl⟩
 hi := fun j h1 h2 => by simp at h2; omega
 hF := by simp [krf]
 dM := by omega
 bal := by simp
 deep := h.pos
 deep2 := fun h => by simp at h
 count := by simp
 good := fun j u _ h => by omega
 sorted := fun j j' h1 h2 => by simp at h2; omega
 root := ⟨rfl, rfl⟩
 more := by simp
 par := fun n h1 h2 => by simp at h2; omega
 full := fun j u _ h => by omega

theorem pow_split {M d : Nat} (h : d + 1 ≤ M) : (2 : Nat) ^ M = 2 * 2 ^ d * 2 ^ (M - (d + 1)) := by
 rw [← Nat.pow_succ', ← Nat.pow_add]; congr 1; omega

/-- Ahead of a side there is always something to be taken. -/
theorem ShInv.norm {M : Nat} {ln : UInt8 → Nat} {o left : List UInt8} {t i s d jp k F : Nat} {nds : List Nd} (h : ShInv M ln o t nds left i s d jp k F) (hi : i < nds.length) : ∃ d jp F, i < jp ∧ ShInv M ln o t nds left i s d jp k F := by
 by_cases e : i = jp
 ·have hs := h.ij0 e
  subst e hs
  obtain ⟨h1, h2⟩ := h.deep2 hi
  have hb := h.bal
  refine ⟨d + 1, nds.length, 2 * F, hi, ?_⟩
  exact { h with
   ij := Nat.le_of_lt hi
   ij0 := fun e => by omega
   jn := Nat.le_refl _
   lo := fun j h3 h4 => by
    obtain ⟨h5, h6⟩ := h.hi j h3 h4
    refine ⟨h5, ?_⟩
    rw [h6, Nat.pow_succ]; omega
   hi := fun j h3 h4 => by omega
   hF := by
    rw [← h.hF, show M - (d + 1) = (M - (d + 1 + 1)) + 1 from by omega, Nat.pow_succ, Nat.mul_comm 2 F, Nat.mul_assoc, Nat.mul_comm 2]
   dM := h1
   bal := by rw [Nat.pow_succ]; omega
   deep := h2
   deep2 := fun h => by omega }
 ·exact ⟨d, jp, F, by have := h.ij; omega, h⟩

theorem ShInv.left_ne {M : Nat} {ln : UInt8 → Nat} {o left : List UInt8} {t i s d jp k F : Nat} {nds : List Nd} (h : ShInv M ln o t nds left i s d jp k F) (hf : FullK M ln o) (hi : i < jp) : k < o.length := by
 refine Nat.lt_of_le_of_ne h.hk fun e => ?_
 have h1 := h.hF
 rw [e, List.take_length, hf.sum, pow_split h.dM] at h1
 have h2 := Nat.eq_of_mul_eq_mul_right (Nat.two_pow_pos _) h1
 have := h.bal
 have := h.hs
 omega

theorem ShInv.bound {M : Nat} {ln : UInt8 → Nat} {o left : List UInt8} {t i s d jp k F : Nat} {nds : List Nd} (h : ShInv M ln o t nds left i s d jp k F) (hf : FullK M ln o) : nds.length + 1 ≤ o.length := by
 have h1 := krf_rest M ln o k
 rw [hf.sum, ← h.hF, pow_split h.dM] at h1
 have hlen : (o.drop k).length = o.length - k := List.length_drop ..
 have hb := h.bal
 have hk := h.hk
 have hs := h.hs
 have hc := h.count
 have hij := h.ij
 have hjn := h.jn
 by_cases e : jp < nds.length
 ·obtain ⟨hM, h2⟩ := h.deep2 e
  rw [h.hleft] at h2
  have h3 := krf_le M (d + 2) ln (o.drop k) h2
  have e2 : 2 ^ (M - (d + 1)) = 2 * 2 ^ (M - (d + 2)) := by rw [← Nat.pow_succ']; congr 1; omega
  rw [e2] at h1
  have h4 : (2 * 2 ^ d * 2) * 2 ^ (M - (d + 2)) ≤ (F * 2 + (o.length - k)) * 2 ^ (M - (d + 2)) := by
   rw [Nat.add_mul, ← hlen]
   calc _ = 2 * 2 ^ d * (2 * 2 ^ (M - (d + 2))) := by rw [Nat.mul_assoc]
    _ = F * (2 * 2 ^ (M - (d + 2))) + krf M ln (o.drop k) := h1.symm
    _ ≤ _ := by rw [Nat.mul_assoc F 2]; exact Nat.add_le_add_left h3 _
  have h5 := Nat.le_of_mul_le_mul_right h4 (Nat.two_pow_pos _)
  have : i = jp → s = 0 := h.ij0
  omega
 ·have h2 := h.deep
  rw [h.hleft] at h2
  have h3 := krf_le M (d + 1) ln (o.drop k) h2
  have h4 : (2 * 2 ^ d) * 2 ^ (M - (d + 1)) ≤ (F + (o.length - k)) * 2 ^ (M - (d + 1)) := by
   rw [Nat.add_mul, ← hlen, ← h1]; exact Nat.add_le_add_left h3 _
  have h5 := Nat.le_of_mul_le_mul_right h4 (Nat.two_pow_pos _)
  omega

theorem getD_drop_zero (o : List UInt8) (k : Nat) (h : k < o.length) : o.drop k = o.getD k 0 :: o.drop (k + 1) := by
 rw [List.drop_eq_getElem_cons h, List.getD_eq_getElem?_getD, List.getElem?_eq_getElem h]; rfl

theorem GoodB.mono {M : Nat} {ln : UInt8 → Nat} {o : List UInt8} {nds nds' : List Nd} {j u : Nat} (hd : ∀ j, j < nds.length → (ndAt nds' j).depth = (ndAt nds j).depth) (hn : ∀ j, j < nds.length → (ndAt nds' j).num = (ndAt nds j).num) (hb : (ndAt nds' j).br u = (ndAt nds j).br u) (hl : nds.length ≤ nds'.length) (hj : j < nds.length) (h : GoodB M ln o nds j u) : GoodB M ln o nds' j u := by
 cases h with
 | leaf k hk h1 h2 h3 => exact .leaf k hk (hb.trans h1) (by rw [hd j hj]; exact h2) (by rw [hn j hj]; exact h3)
 | node n h1 h2 h3 h4 h5 h6 h7 => exact .node n (hb.trans h1) h2 (by omega) (by rw [hd j hj, hd n h3]; exact h4) (by rw [hn j hj, hn n h3]; exact h5) (by rw [hd n h3, hn n h3]; exact h6) (by rw [hd n h3]; exact h7)
 | none h1 h2 => exact .none (hb.trans h1) (by rw [hd j hj, hn j hj]; exact h2)

theorem asc_getD {o : List UInt8} {ln : UInt8 → Nat} (h : o.Pairwise fun a b => ln a ≤ ln b) {i j : Nat} (hij : i ≤ j) (hj : j < o.length) : ln (o.getD i 0) ≤ ln (o.getD j 0) := by
 rcases Nat.lt_or_ge i j with c | c
 ·rw [List.getD_eq_getElem?_getD, List.getElem?_eq_getElem (by omega : i < o.length), List.getD_eq_getElem?_getD, List.getElem?_eq_getElem hj]
  exact List.pairwise_iff_getElem.1 h i j (by omega) hj c
 ·obtain rfl : i = j := by omega
  exact Nat.le_refl _
theorem of_mem_drop {o : List UInt8} {k : Nat} {b : UInt8} (h : b ∈ o.drop k) : ∃ k', k ≤ k' ∧ k' < o.length ∧ b = o.getD k' 0 := by
 obtain ⟨n, hn, e⟩ := List.getElem_of_mem h
 rw [List.length_drop] at hn
 refine ⟨k + n, by omega, by omega, ?_⟩
 rw [List.getD_eq_getElem?_getD, List.getElem?_eq_getElem (by omega)]
 rw [List.getElem_drop] at e
 exact e.symm
theorem getD_mem' {o : List UInt8} {k : Nat} (h : k < o.length) : o.getD k 0 ∈ o := by
 rw [List.getD_eq_getElem?_getD, List.getElem?_eq_getElem h]; exact List.getElem_mem _

theorem ShInv.step {M : Nat} {ln : UInt8 → Nat} {o left : List UInt8} {t i s d jp k F : Nat} {nds : List Nd} (h : ShInv M ln o t nds left i s d jp k F) (hf : FullK M ln o) (hi : i < jp) :
  ∃ k' F', ShInv M ln o (t + 1) (slotStep ln i s nds left).1 (slotStep ln i s nds left).2 (i + (s + 1) / 2) ((s + 1) % 2) d jp k' F' := by
 have hk := h.left_ne hf hi
 have hs := h.hs
 have hiN : i < nds.length := by have := h.jn; omega
 obtain ⟨hd, hnum⟩ := h.lo i (Nat.le_refl _) hi
 have hl : left = o.getD k 0 :: o.drop (k + 1) := by rw [h.hleft]; exact getD_drop_zero o k hk
 have hbl : o.getD k 0 ∈ left := by rw [hl]; exact List.mem_cons_self ..
 have hlong := h.deep _ hbl
 have hshort := hf.short _ (getD_mem' hk)
 have hbal := h.bal
 have hcount := h.count
 have hij := h.ij
 have hjn := h.jn
 have e1 : slotStep ln i s nds left = if ln (o.getD k 0) = (ndAt nds i).depth + 1 then (putBr nds i s { whole := true, val := o.getD k 0 }, o.drop (k + 1))
  else (putBr nds i s { node := nds.length } ++ [{ depth := (ndAt nds i).depth + 1, num := 2 * (ndAt nds i).num + s }], o.getD k 0 :: o.drop (k + 1)) := by rw [hl]; rfl
 rw [e1]
 by_cases c : ln (o.getD k 0) = d + 1
 ·rw [if_pos (by rw [hd]; exact c)]
  have hjp : jp = nds.length := by
   rcases Nat.lt_or_ge jp nds.length with x | x
   ·have := (h.deep2 x).2 _ hbl; omega
   ·omega
  have hF : krf M ln (o.take (k + 1)) = (F + 1) * 2 ^ (M - (d + 1)) := by
   rw [krf_take M ln o k hk, ← h.hF, c, Nat.add_mul, Nat.one_mul]
  have hnF : 2 * (ndAt nds i).num + s = F := by omega
  refine ⟨k + 1, F + 1, ?_⟩
  exact {
   ht := by have := h.ht; omega
   hs := by omega
   hleft := rfl
   hk := hk
   ij := by omega
   ij0 := by omega
   jn := by rw [putBr_length]; omega
   lo := fun j h1 h2 => by
    rw [putBr_depth _ _ _ _ hiN, putBr_num _ _ _ _ hiN]; exact h.lo j (by omega) h2
   hi := fun j h1 h2 => by rw [putBr_length] at h2; omega
   hF := hF.symm
   dM := h.dM
   bal := by rw [putBr_length]; omega
   deep := fun b hb => h.deep b (by rw [hl]; exact List.mem_cons_of_mem _ hb)
   deep2 := fun x => by rw [putBr_length] at x; omega
   count := by rw [putBr_length]; omega
   good := fun j u hu hju => by
    by_cases e : j = i ∧ u = s
    ·obtain ⟨rfl, rfl⟩ := e
     refine .leaf k hk (putBr_br_self _ _ _ _ hiN) (by rw [putBr_depth _ _ _ _ hiN, hd]; exact c) ?_
     rw [putBr_num _ _ _ _ hiN, hnF, c, h.hF]
    ·have ht := h.ht
     refine (h.good j u hu (by omega)).mono (fun j _ => putBr_depth _ _ _ _ hiN j) (fun j _ => putBr_num _ _ _ _ hiN j) (putBr_br_ne _ _ _ _ _ _ hiN hs hu (fun x => e ⟨x.1.symm, x.2.symm⟩)) (by rw [putBr_length]; omega) (by omega)
   sorted := fun j j' h1 h2 => by
    rw [putBr_length] at h2
    unfold NdLt
    rw [putBr_depth _ _ _ _ hiN, putBr_num _ _ _ _ hiN, putBr_depth _ _ _ _ hiN, putBr_num _ _ _ _ hiN]
    exact h.sorted j j' h1 h2
   root := by rw [putBr_depth _ _ _ _ hiN, putBr_num _ _ _ _ hiN]; exact h.root
   more := by rw [putBr_length]; exact h.more
   par := fun n h1 h2 => by
    rw [putBr_length] at h2
    obtain ⟨j, u, h3, h4, h5, h6⟩ := h.par n h1 h2
    have ht := h.ht
    exact ⟨j, u, h3, by omega, h5, (putBr_br_ne _ _ _ _ _ _ hiN hs h3 (by omega)).trans h6⟩
   full := fun j u hu hju => by
    have ht := h.ht
    by_cases e : j = i ∧ u = s
    ·obtain ⟨rfl, rfl⟩ := e
     rw [putBr_br_self _ _ _ _ hiN]
     intro c; cases c
    ·rw [putBr_br_ne _ _ _ _ _ _ hiN hs hu (fun x => e ⟨x.1.symm, x.2.symm⟩)]
     exact h.full j u hu (by omega) }
 ·rw [if_neg (by rw [hd]; exact c)]
  obtain ⟨x, hx⟩ : ∃ x : Nd, x = { depth := (ndAt nds i).depth + 1, num := 2 * (ndAt nds i).num + s } := ⟨_, rfl⟩
  have xd : x.depth = d + 1 := by rw [hx, ← hd]
  have xn : x.num = F + (nds.length - jp) := by rw [hx]; show 2 * (ndAt nds i).num + s = _; omega
  have xn2 : x.num = 2 * (ndAt nds i).num + s := by rw [hx]
  rw [← hx]
  have hlen : (putBr nds i s { node := nds.length } ++ [x]).length = nds.length + 1 := by rw [List.length_append, putBr_length]; rfl
  have old : ∀ j, j < nds.length → ndAt (putBr nds i s { node := nds.length } ++ [x]) j = ndAt (putBr nds i s { node := nds.length }) j := fun j hj => ndAt_append_lt _ _ _ (by rw [putBr_length]; exact hj)
  have new : ndAt (putBr nds i s { node := nds.length } ++ [x]) nds.length = x := by
   have := ndAt_append_new (putBr nds i s { node := nds.length }) x
   rwa [putBr_length] at this
  have od : ∀ j, j < nds.length → (ndAt (putBr nds i s { node := nds.length } ++ [x]) j).depth = (ndAt nds j).depth := fun j hj => by rw [old j hj, putBr_depth _ _ _ _ hiN]
  have on : ∀ j, j < nds.length → (ndAt (putBr nds i s { node := nds.length } ++ [x]) j).num = (ndAt nds j).num := fun j hj => by rw [old j hj, putBr_num _ _ _ _ hiN]
  have hno : ∀ k', k' < o.length → ln (o.getD k' 0) = x.depth → krf M ln (o.take k') ≠ x.num * 2 ^ (M - x.depth) := by
   intro k' hk' hl' e
   rcases Nat.lt_or_ge k' k with y | y
   ·have h1 := krf_lt M ln o y hk'
    rw [e, ← h.hF, xd, xn] at h1
    have := Nat.mul_le_mul_right (2 ^ (M - (d + 1))) (show F ≤ F + (nds.length - jp) by omega)
    omega
   ·have := asc_getD hf.asc y hk'
    omega
  refine ⟨k, F, ?_⟩
  generalize hG : putBr nds i s { node := nds.length } ++ [x] = G at *
  show ShInv M ln o (t + 1) G (o.getD k 0 :: o.drop (k + 1)) (i + (s + 1) / 2) ((s + 1) % 2) d jp k F
  exact {
   ht := by have := h.ht; omega
   hs := by omega
   hleft := by rw [← hl, h.hleft]
   hk := h.hk
   ij := by omega
   ij0 := by omega
   jn := by omega
   lo := fun j h1 h2 => by
    rw [od j (by omega), on j (by omega)]; exact h.lo j (by omega) h2
   hi := fun j h1 h2 => by
    by_cases e : j = nds.length
    ·subst e; rw [new]; exact ⟨xd, xn⟩
    ·rw [od j (by omega), on j (by omega)]; exact h.hi j h1 (by omega)
   hF := h.hF
   dM := h.dM
   bal := by omega
   deep := by rw [← hl]; exact h.deep
   deep2 := fun _ => by
    refine ⟨by omega, fun b hb => ?_⟩
    rw [← hl, h.hleft] at hb
    obtain ⟨k', h1, h2, rfl⟩ := of_mem_drop hb
    have := asc_getD hf.asc h1 h2
    omega
   count := by omega
   good := fun j u hu hju => by
    by_cases e : j = i ∧ u = s
    ·obtain ⟨rfl, rfl⟩ := e
     refine .node nds.length ?_ hiN (by omega) (by rw [new, od j hiN, xd, hd]) (by rw [new, on j hiN, xn2]) (by rw [new]; exact hno) (by rw [new]; omega)
     rw [old j hiN]; exact putBr_br_self _ _ _ _ hiN
    ·have ht := h.ht
     refine (h.good j u hu (by omega)).mono od on ?_ (by omega) (by omega)
     rw [old j (by omega)]
     exact putBr_br_ne _ _ _ _ _ _ hiN hs hu (fun x => e ⟨x.1.symm, x.2.symm⟩)
   sorted := fun j j' h1 h2 => by
    by_cases e : j' = nds.length
    ·subst e
     rw [new]
     have last : NdLt (ndAt nds (nds.length - 1)) x := by
      unfold NdLt
      rcases Nat.lt_or_ge jp nds.length with y | y
      ·obtain ⟨h3, h4⟩ := h.hi (nds.length - 1) (by omega) (by omega)
       omega
      ·obtain ⟨h3, h4⟩ := h.lo (nds.length - 1) (by omega) (by omega)
       omega
     have l2 : NdLt (ndAt G (nds.length - 1)) x := by
      unfold NdLt at *
      rw [od _ (by omega), on _ (by omega)]; exact last
     by_cases e2 : j = nds.length - 1
     ·rw [e2]; exact l2
     ·refine NdLt.trans ?_ l2
      unfold NdLt
      rw [od _ (by omega), on _ (by omega), od _ (by omega), on _ (by omega)]
      exact h.sorted j _ (by omega) (by omega)
    ·unfold NdLt
     rw [od _ (by omega), on _ (by omega), od _ (by omega), on _ (by omega)]
     exact h.sorted j j' h1 (by omega)
   root := by rw [od 0 h.more, on 0 h.more]; exact h.root
   more := by omega
   par := fun n h1 h2 => by
    have ht := h.ht
    by_cases e : n = nds.length
    ·refine ⟨i, s, hs, by omega, by omega, ?_⟩
     rw [old i hiN, putBr_br_self _ _ _ _ hiN, e]
    ·obtain ⟨j, u, h3, h4, h5, h6⟩ := h.par n h1 (by omega)
     refine ⟨j, u, h3, by omega, h5, ?_⟩
     rw [old j (by omega)]
     exact (putBr_br_ne _ _ _ _ _ _ hiN hs h3 (by omega)).trans h6
   full := fun j u hu hju => by
    have ht := h.ht
    by_cases e : j = i ∧ u = s
    ·obtain ⟨rfl, rfl⟩ := e
     rw [old j hiN, putBr_br_self _ _ _ _ hiN]
     intro c
     injection c with _ _ c
     omega
    ·rw [old j (by omega), putBr_br_ne _ _ _ _ _ _ hiN hs hu (fun x => e ⟨x.1.symm, x.2.symm⟩)]
     exact h.full j u hu (by omega) }

/-- What is said of all nodes. -/
structure Shaped (M : Nat) (ln : UInt8 → Nat) (o : List UInt8) (nds : List Nd) : Prop where
 more : 0 < nds.length
 few : nds.length ≤ 255
 root : (ndAt nds 0).depth = 0 ∧ (ndAt nds 0).num = 0
 good : ∀ j u, j < nds.length → u < 2 → GoodB M ln o nds j u
 sorted : ∀ j j', j < j' → j' < nds.length → NdLt (ndAt nds j) (ndAt nds j')
 par : ∀ n, 0 < n → n < nds.length → ∃ j u, u < 2 ∧ j < n ∧ (ndAt nds j).br u = { node := n }
/-- The nodes are found, one after the other, and then there is none more. -/
structure Ends (M : Nat) (ln : UInt8 → Nat) (o : List UInt8) (N : Nat) : Prop where
 len : (shapeTo ln o (2 * N)).1.length = N
 more : ∀ i, i < N → i < (shapeTo ln o (2 * i)).1.length
 few : ∀ t, t ≤ 2 * N → (shapeTo ln o t).1.length ≤ 255
 left : (shapeTo ln o (2 * N)).2 = []
 nodes : Shaped M ln o (shapeTo ln o (2 * N)).1
 side0 : o ≠ [] → ∀ j, j < N → (ndAt (shapeTo ln o (2 * N)).1 j).br 0 ≠ {}

theorem shape_inv {M : Nat} {ln : UInt8 → Nat} {o : List UInt8} (hf : FullK M ln o) (hM : 1 ≤ M) (N : Nat) (h : ∀ i, i < N → i < (shapeTo ln o (2 * i)).1.length) : ∀ t, t ≤ 2 * N → ∃ d jp k F, ShInv M ln o t (shapeTo ln o t).1 (shapeTo ln o t).2 (t / 2) (t % 2) d jp k F
 | 0, _ => ⟨0, 1, 0, 0, ShInv.start hf hM⟩
 | t + 1, ht => by
  obtain ⟨d, jp, k, F, ih⟩ := shape_inv hf hM N h t (by omega)
  have hi : t / 2 < (shapeTo ln o t).1.length := by
   rcases (show t % 2 = 0 ∨ t % 2 = 1 by omega) with c | c
   ·have := h (t / 2) (by omega)
    rwa [show 2 * (t / 2) = t from by omega] at this
   ·have h1 := ih.ij0
    have h2 := ih.ij
    have h3 := ih.jn
    omega
  obtain ⟨d', jp', F', h1, h2⟩ := ih.norm hi
  obtain ⟨k2, F2, h3⟩ := h2.step hf h1
  refine ⟨d', jp', k2, F2, ?_⟩
  rw [show (t + 1) / 2 = t / 2 + (t % 2 + 1) / 2 from by omega, show (t + 1) % 2 = (t % 2 + 1) % 2 from by omega]
  exact h3

theorem shape_full {M : Nat} {ln : UInt8 → Nat} {o : List UInt8} (hf : FullK M ln o) (hM : 1 ≤ M) (ho : o.length ≤ 256) : ∃ N, 0 < N ∧ Ends M ln o N := by
 have key : ∃ N, (shapeTo ln o (2 * N)).1.length ≤ N ∧ ∀ i, i < N → i < (shapeTo ln o (2 * i)).1.length := by
  have : ∀ m, (∃ N, (shapeTo ln o (2 * N)).1.length ≤ N ∧ ∀ i, i < N → i < (shapeTo ln o (2 * i)).1.length) ∨ ∀ i, i < m → i < (shapeTo ln o (2 * i)).1.length := by
   intro m
   induction m with
   | zero => exact .inr fun i h => by omega
   | succ m ih =>
    rcases ih with ih | ih
    ·exact .inl ih
    ·rcases Nat.lt_or_ge m (shapeTo ln o (2 * m)).1.length with c | c
     ·refine .inr fun i hi => ?_
      by_cases e : i = m
      ·rw [e]; exact c
      ·exact ih i (by omega)
     ·exact .inl ⟨m, c, ih⟩
  rcases this 257 with h | h
  ·exact h
  ·exfalso
   obtain ⟨d, jp, k, F, h1⟩ := shape_inv hf hM 257 h (2 * 256) (by omega)
   have h2 := h1.bound hf
   have h3 := h 256 (by omega)
   omega
 obtain ⟨N, h1, h2⟩ := key
 have inv := shape_inv hf hM N h2
 obtain ⟨d, jp, k, F, h3⟩ := inv (2 * N) (Nat.le_refl _)
 have hN : (shapeTo ln o (2 * N)).1.length = N := by
  have := h3.ij; have := h3.jn; omega
 have hpos : 0 < N := by have := h3.more; omega
 have ebal := h3.bal
 have e1 : 2 * N / 2 = N := by omega
 have e2 : 2 * N % 2 = 0 := by omega
 have hij := h3.ij
 have hjn := h3.jn
 rw [e1] at ebal hij
 rw [e2] at ebal
 have hk : k = o.length := by
  refine Classical.byContradiction fun c => ?_
  have hk2 : k < o.length := by have := h3.hk; omega
  have h4 := krf_lt M ln o (k := k) (k' := o.length) hk2 hk2
  rw [← h3.hF, List.take_length, hf.sum, pow_split h3.dM] at h4
  have h5 := Nat.lt_of_mul_lt_mul_right h4
  omega
 refine ⟨N, hpos, hN, h2, fun t ht => ?_, ?_, ⟨h3.more, ?_, h3.root, fun j u hj hu => h3.good j u hu (by omega), h3.sorted, fun n h4 h5 => ?_⟩, fun _ j hj => h3.full j 0 (by omega) (by omega)⟩
 ·obtain ⟨d', jp', k', F', h6⟩ := inv t ht
  have := h6.bound hf
  omega
 ·rw [h3.hleft, hk, List.drop_length]
 ·have := h3.bound hf; omega
 ·obtain ⟨j, u, h6, _, h7, h8⟩ := h3.par n h4 h5
  exact ⟨j, u, h6, h7, h8⟩

theorem shape_none (M : Nat) (ln : UInt8 → Nat) : Ends M ln [] 1 := by
 refine ⟨rfl, fun i hi => ?_, fun t ht => ?_, rfl, ?_, fun c => absurd rfl c⟩
 ·obtain rfl : i = 0 := by omega
  exact Nat.zero_lt_one
 ·have : ∀ t, (shapeTo ln [] t) = ([{}], []) := fun t => by
   induction t with
   | zero => rfl
   | succ t ih => rw [shapeTo, ih]; rfl
  rw [this]; exact (by decide : 1 ≤ 255)
 ·refine ⟨Nat.zero_lt_one, (by decide : 1 ≤ 255), ⟨rfl, rfl⟩, fun j u hj hu => ?_, fun j j' h1 h2 => ?_, fun n h1 h2 => ?_⟩
  ·have hj' : j < 1 := hj
   obtain rfl : j = 0 := by omega
   refine .none ?_ fun k hk => by simp at hk
   rcases (show u = 0 ∨ u = 1 by omega) with rfl | rfl <;> rfl
  ·have : j' < 1 := h2
   omega
  ·have : n < 1 := h2
   omega
theorem shape_one (M : Nat) (ln : UInt8 → Nat) (b : UInt8) (hb : ln b = 1) : Ends M ln [b] 1 := by
 have e1 : shapeTo ln [b] 1 = ([{ b0 := { whole := true, val := b } }], []) := by
  show slotStep ln 0 0 [{}] [b] = _
  show (if ln b = (ndAt [{}] 0).depth + 1 then (putBr [{}] 0 0 { whole := true, val := b }, ([] : List UInt8)) else _) = _
  rw [if_pos (by exact hb)]; rfl
 have e2 : shapeTo ln [b] 2 = ([{ b0 := { whole := true, val := b } }], []) := by
  show slotStep ln 0 1 (shapeTo ln [b] 1).1 (shapeTo ln [b] 1).2 = _
  rw [e1]; rfl
 refine ⟨by rw [e2]; rfl, fun i hi => ?_, fun t ht => ?_, by rw [e2], ?_, fun _ j hj => ?_⟩
 ·obtain rfl : i = 0 := by omega
  exact Nat.zero_lt_one
 ·rcases (show t = 0 ∨ t = 1 ∨ t = 2 by omega) with rfl | rfl | rfl
  ·exact (by decide : 1 ≤ 255)
  ·rw [e1]; exact (by decide : 1 ≤ 255)
  ·rw [e2]; exact (by decide : 1 ≤ 255)
 ·rw [show 2 * 1 = 2 from rfl, e2]
  refine ⟨Nat.zero_lt_one, (by decide : 1 ≤ 255), ⟨rfl, rfl⟩, fun j u hj hu => ?_, fun j j' h1 h2 => ?_, fun n h1 h2 => ?_⟩
  ·have hj' : j < 1 := hj
   obtain rfl : j = 0 := by omega
   rcases (show u = 0 ∨ u = 1 by omega) with rfl | rfl
   ·refine .leaf 0 (by simp) rfl hb ?_
    show (2 * 0 + 0) * _ = _
    simp [krf]
   ·refine .none rfl fun k hk h1 h2 => ?_
    have hk' : k < 1 := hk
    obtain rfl : k = 0 := by omega
    exfalso
    have h3 : (2 * 0 + 1) * 2 ^ (M - (0 + 1)) ≤ krf M ln [] := h2
    have h4 : krf M ln [] = 0 := rfl
    have := Nat.two_pow_pos (M - (0 + 1))
    omega
  ·have : j' < 1 := h2
   omega
  ·have : n < 1 := h2
   omega
 ·rw [show 2 * 1 = 2 from rfl, e2]
  obtain rfl : j = 0 := by omega
  intro c
  cases c

end Hm
end Go.Proofs.YtegnkfdbmmndaaaGreat
end

/- TreeM -/
section
/- The tree's bits, node by node. -/
namespace Go.Proofs.YtegnkfdbmmndaaaGreat
namespace Hm

/-- Codes as numbers: a code's number is what the codes ahead of it take. -/
structure NumK (M : Nat) (ln num : UInt8 → Nat) (o : List UInt8) : Prop where
 num : ∀ k, k < o.length → num (o.getD k 0) * 2 ^ (M - ln (o.getD k 0)) = krf M ln (o.take k)
 short : ∀ b ∈ o, ln b ≤ M
/-- Whether a byte's code begins with a node's head. -/
def under (ln num : UInt8 → Nat) (nd : Nd) (b : UInt8) : Bool := decide (nd.depth < ln b ∧ num b / 2 ^ (ln b - nd.depth) = nd.num)
/-- A bit of a byte's code. -/
def bitAt (ln num : UInt8 → Nat) (d : Nat) (b : UInt8) : Nat := num b / 2 ^ (ln b - 1 - d) % 2
theorem bitAt_lt (ln num : UInt8 → Nat) (d : Nat) (b : UInt8) : bitAt ln num d b < 2 := Nat.mod_lt _ (by omega)
theorem under_bit {ln num : UInt8 → Nat} {nd : Nd} {b : UInt8} (h : under ln num nd b = true) : num b / 2 ^ (ln b - (nd.depth + 1)) = 2 * nd.num + bitAt ln num nd.depth b := by
 obtain ⟨h1, h2⟩ := of_decide_eq_true h
 unfold bitAt
 rw [show ln b - 1 - nd.depth = ln b - (nd.depth + 1) from by omega]
 rw [show ln b - nd.depth = (ln b - (nd.depth + 1)) + 1 from by omega, Nat.pow_succ, ← Nat.div_div_eq_div_mul] at h2
 omega
theorem exists_at {o : List UInt8} {b : UInt8} (h : b ∈ o) : ∃ k, k < o.length ∧ o.getD k 0 = b := by
 obtain ⟨k, hk, e⟩ := List.getElem_of_mem h
 exact ⟨k, hk, by rw [List.getD_eq_getElem?_getD, List.getElem?_eq_getElem hk]; exact e⟩
theorem NumK.span {M : Nat} {ln num : UInt8 → Nat} {o : List UInt8} (h : NumK M ln num o) {k e y : Nat} (hk : k < o.length) (he : e ≤ ln (o.getD k 0)) (hy : num (o.getD k 0) / 2 ^ (ln (o.getD k 0) - e) = y) : y * 2 ^ (M - e) ≤ krf M ln (o.take k) ∧ krf M ln (o.take k) < (y + 1) * 2 ^ (M - e) := by
 have hs := h.short _ (getD_mem' hk)
 rw [← h.num k hk]
 generalize ln (o.getD k 0) = l at *
 generalize num (o.getD k 0) = x at *
 have ep : (2 : Nat) ^ (M - e) = 2 ^ (l - e) * 2 ^ (M - l) := by rw [← Nat.pow_add]; congr 1; omega
 have hp := Nat.two_pow_pos (l - e)
 have hq := Nat.two_pow_pos (M - l)
 rw [ep, ← Nat.mul_assoc, ← Nat.mul_assoc]
 constructor
 ·exact Nat.mul_le_mul_right _ (by rw [← hy]; exact Nat.div_mul_le_self _ _)
 ·refine Nat.mul_lt_mul_of_pos_right ?_ hq
  rw [← hy]
  exact (Nat.div_lt_iff_lt_mul hp).1 (Nat.lt_succ_self _)

/-- Where the bit of a byte's code leads. -/
theorem child_leaf {M : Nat} {ln num : UInt8 → Nat} {o : List UInt8} (h : NumK M ln num o) {nd : Nd} {b : UInt8} (hb : b ∈ o) (hu : under ln num nd b = true) {k : Nat} (hk : k < o.length) (hd : ln (o.getD k 0) = nd.depth + 1) (hn : (2 * nd.num + bitAt ln num nd.depth b) * 2 ^ (M - ln (o.getD k 0)) = krf M ln (o.take k)) : b = o.getD k 0 := by
 obtain ⟨k2, hk2, rfl⟩ := exists_at hb
 have h1 := (of_decide_eq_true hu).1
 have hs := h.span hk2 (e := nd.depth + 1) h1 (under_bit hu)
 rw [hd] at hn
 rw [hn] at hs
 have h2 := krf_take M ln o k hk
 rw [hd] at h2
 have h3 : krf M ln (o.take k2) < krf M ln (o.take (k + 1)) := by
  rw [h2, ← hn]
  have := hs.2
  rw [Nat.add_mul, Nat.one_mul, hn] at this
  rw [hn]; exact this
 have : k2 = k := by
  rcases Nat.lt_trichotomy k2 k with c | c | c
  ·have := krf_lt M ln o c hk2; omega
  ·exact c
  ·have := krf_mono M ln o (k := k + 1) (k' := k2) c; omega
 rw [this]
theorem child_node {M : Nat} {ln num : UInt8 → Nat} {o : List UInt8} (h : NumK M ln num o) {nd nc : Nd} {b : UInt8} (hb : b ∈ o) (hu : under ln num nd b = true) (hd : nc.depth = nd.depth + 1) (hn : nc.num = 2 * nd.num + bitAt ln num nd.depth b)
  (hno : ∀ k, k < o.length → ln (o.getD k 0) = nc.depth → krf M ln (o.take k) ≠ nc.num * 2 ^ (M - nc.depth)) : under ln num nc b = true := by
 have h1 := (of_decide_eq_true hu).1
 have h2 := under_bit hu
 refine decide_eq_true ⟨?_, by rw [hd, hn]; exact h2⟩
 rw [hd]
 refine Nat.lt_of_le_of_ne h1 fun e => ?_
 obtain ⟨k2, hk2, rfl⟩ := exists_at hb
 refine hno k2 hk2 (by omega) ?_
 rw [← h.num k2 hk2, hn, ← h2, hd, ← e]
 simp
theorem child_none {M : Nat} {ln num : UInt8 → Nat} {o : List UInt8} (h : NumK M ln num o) {nd : Nd} {b : UInt8} (hb : b ∈ o) (hu : under ln num nd b = true)
  (hno : ∀ k, k < o.length → nd.depth + 1 ≤ ln (o.getD k 0) → (2 * nd.num + bitAt ln num nd.depth b) * 2 ^ (M - (nd.depth + 1)) ≤ krf M ln (o.take k) → (2 * nd.num + bitAt ln num nd.depth b + 1) * 2 ^ (M - (nd.depth + 1)) ≤ krf M ln (o.take k)) : False := by
 have h1 := (of_decide_eq_true hu).1
 obtain ⟨k2, hk2, rfl⟩ := exists_at hb
 have hs := h.span hk2 (e := nd.depth + 1) h1 (under_bit hu)
 have := hno k2 hk2 h1 hs.1
 omega
theorem under_parent {ln num : UInt8 → Nat} {nd nc : Nd} {u : Nat} {b : UInt8} (hu : u < 2) (hd : nc.depth = nd.depth + 1) (hn : nc.num = 2 * nd.num + u) (h : under ln num nc b = true) : under ln num nd b = true ∧ bitAt ln num nd.depth b = u := by
 obtain ⟨h1, h2⟩ := of_decide_eq_true h
 rw [hd] at h1 h2
 rw [hn] at h2
 have e : num b / 2 ^ (ln b - nd.depth) = nd.num := by
  rw [show ln b - nd.depth = (ln b - (nd.depth + 1)) + 1 from by omega, Nat.pow_succ, ← Nat.div_div_eq_div_mul, h2]; omega
 refine ⟨decide_eq_true ⟨by omega, e⟩, ?_⟩
 unfold bitAt
 rw [show ln b - 1 - nd.depth = ln b - (nd.depth + 1) from by omega, h2]; omega

/-- The column's bytes whose code begins with a node's head. -/
def colAt (ln num : UInt8 → Nat) (nds : List Nd) (col : List UInt8) (n : Nat) : List UInt8 := col.filter (under ln num (ndAt nds n))
def nodeBits (ln num : UInt8 → Nat) (nds : List Nd) (col : List UInt8) (n : Nat) : List Nat := (colAt ln num nds col n).map (bitAt ln num (ndAt nds n).depth)
/-- The tree's bits. -/
def treeBits (ln num : UInt8 → Nat) (nds : List Nd) (col : List UInt8) (N : Nat) : List Nat := (List.range N).flatMap (nodeBits ln num nds col)
theorem colAt_le (ln num : UInt8 → Nat) (nds : List Nd) (col : List UInt8) (n : Nat) : (colAt ln num nds col n).length ≤ col.length := List.length_filter_le _ _
theorem treeBits_succ (ln num : UInt8 → Nat) (nds : List Nd) (col : List UInt8) (N : Nat) : treeBits ln num nds col (N + 1) = treeBits ln num nds col N ++ nodeBits ln num nds col N := by
 unfold treeBits; rw [List.range_succ, List.flatMap_append, List.flatMap_singleton]
theorem treeBits_le (ln num : UInt8 → Nat) (nds : List Nd) (col : List UInt8) (N : Nat) : (treeBits ln num nds col N).length ≤ N * col.length := by
 induction N with
 | zero => simp [treeBits]
 | succ N ih =>
  have h := colAt_le ln num nds col N
  rw [treeBits_succ, List.length_append, Nat.add_mul, Nat.one_mul]
  simp only [nodeBits, List.length_map]
  omega

/-- The columns of the nodes, with the nodes ahead of i done, and so many bytes of i's. -/
structure Cols (ln num : UInt8 → Nat) (nds : List Nd) (col : List UInt8) (i p : Nat) (cs : List (List UInt8)) : Prop where
 len : cs.length = nds.length
 root : cs.getD 0 [] = col
 at_ : ∀ n j u, n < nds.length → 0 < n → u < 2 → j < nds.length → (ndAt nds j).br u = { node := n } →
  (j < i → cs.getD n [] = colAt ln num nds col n) ∧ (j = i → cs.getD n [] = ((colAt ln num nds col i).take p).filter fun b => bitAt ln num (ndAt nds i).depth b == u) ∧ (i < j → cs.getD n [] = [])

theorem getD_set_l (cs : List (List UInt8)) (i j : Nat) (x : List UInt8) (h : i < cs.length) : (cs.set i x).getD j [] = if i = j then x else cs.getD j [] := by
 rw [List.getD_eq_getElem?_getD, List.getElem?_set]
 by_cases e : i = j
 ·rw [if_pos e, if_pos e, if_pos h]; rfl
 ·rw [if_neg e, if_neg e, ← List.getD_eq_getElem?_getD]

section
variable {M : Nat} {ln num : UInt8 → Nat} {o : List UInt8} {nds : List Nd} {col : List UInt8} {i p : Nat} {cs : List (List UInt8)}
theorem Shaped.child (h : Shaped M ln o nds) {j u n : Nat} (hj : j < nds.length) (hu : u < 2) (hn : 0 < n) (e : (ndAt nds j).br u = { node := n }) : j < n ∧ n < nds.length ∧ (ndAt nds n).depth = (ndAt nds j).depth + 1 ∧ (ndAt nds n).num = 2 * (ndAt nds j).num + u ∧ ∀ k, k < o.length → ln (o.getD k 0) = (ndAt nds n).depth → krf M ln (o.take k) ≠ (ndAt nds n).num * 2 ^ (M - (ndAt nds n).depth) := by
 cases h.good j u hj hu with
 | leaf k hk h1 => rw [h1] at e; cases e
 | node n' h1 h2 h3 h4 h5 h6 =>
  rw [h1] at e
  obtain rfl : n' = n := by injection e
  exact ⟨h2, h3, h4, h5, h6⟩
 | none h1 => rw [h1] at e; injection e with _ _ e; omega
theorem Shaped.same (h : Shaped M ln o nds) {j j' : Nat} (hj : j < nds.length) (hj' : j' < nds.length) (hd : (ndAt nds j).depth = (ndAt nds j').depth) (hn : (ndAt nds j).num = (ndAt nds j').num) : j = j' := by
 rcases Nat.lt_trichotomy j j' with c | c | c
 ·have := h.sorted j j' c hj'; unfold NdLt at this; omega
 ·exact c
 ·have := h.sorted j' j c hj; unfold NdLt at this; omega
theorem Shaped.parent (h : Shaped M ln o nds) {j u j' u' n : Nat} (hj : j < nds.length) (hu : u < 2) (hj' : j' < nds.length) (hu' : u' < 2) (hn : 0 < n) (e : (ndAt nds j).br u = { node := n }) (e' : (ndAt nds j').br u' = { node := n }) : j = j' ∧ u = u' := by
 obtain ⟨_, _, h1, h2, _⟩ := h.child hj hu hn e
 obtain ⟨_, _, h3, h4, _⟩ := h.child hj' hu' hn e'
 exact ⟨h.same hj hj' (by omega) (by omega), by omega⟩
theorem Shaped.col_child (h : Shaped M ln o nds) (hk : NumK M ln num o) (hc : ∀ b ∈ col, b ∈ o) {j u n : Nat} (hj : j < nds.length) (hu : u < 2) (hn : 0 < n) (e : (ndAt nds j).br u = { node := n }) :
  colAt ln num nds col n = (colAt ln num nds col j).filter fun b => bitAt ln num (ndAt nds j).depth b == u := by
 obtain ⟨_, _, h1, h2, h3⟩ := h.child hj hu hn e
 unfold colAt
 rw [List.filter_filter]
 refine List.filter_congr fun b hb => ?_
 rw [Bool.eq_iff_iff, Bool.and_eq_true, beq_iff_eq]
 constructor
 ·intro hx
  obtain ⟨h4, h5⟩ := under_parent hu h1 h2 hx
  exact ⟨h5, h4⟩
 ·rintro ⟨h4, h5⟩
  exact child_node hk (hc b hb) h5 h1 (by rw [h2, h4]) h3
theorem Cols.start (h : Shaped M ln o nds) : Cols ln num nds col 0 0 (col :: List.replicate (nds.length - 1) []) := by
 have hm := h.more
 refine ⟨by simp; omega, rfl, fun n j u hn h0 hu hj e => ?_⟩
 have e0 : (col :: List.replicate (nds.length - 1) []).getD n [] = [] := by
  obtain ⟨m, rfl⟩ : ∃ m, n = m + 1 := ⟨n - 1, by omega⟩
  rw [List.getD_cons_succ, List.getD_eq_getElem?_getD, List.getElem?_replicate_of_lt (by omega)]; rfl
 exact ⟨fun x => by omega, fun x => by rw [e0]; simp, fun _ => e0⟩
theorem Cols.here (h : Cols ln num nds col i p cs) (hs : Shaped M ln o nds) (hp : ∀ b ∈ col, b ∈ o) (hpos : ∀ b ∈ o, 0 < ln b) (hnum : ∀ b ∈ o, num b < 2 ^ ln b) (hi : i < nds.length) : cs.getD i [] = colAt ln num nds col i := by
 by_cases e : i = 0
 ·subst e
  rw [h.root]
  unfold colAt
  rw [List.filter_eq_self.2]
  intro b hb
  refine decide_eq_true ⟨by rw [hs.root.1]; exact hpos b (hp b hb), ?_⟩
  rw [hs.root.1, hs.root.2, Nat.sub_zero]
  exact Nat.div_eq_of_lt (hnum b (hp b hb))
 ·obtain ⟨j, u, h1, h2, h3⟩ := hs.par i (by omega) hi
  exact (h.at_ i j u hi (by omega) h1 (by omega) h3).1 h2
theorem Cols.leaf (h : Cols ln num nds col i p cs) (hp : p < (colAt ln num nds col i).length) {v : UInt8} (hb : (ndAt nds i).br (bitAt ln num (ndAt nds i).depth ((colAt ln num nds col i).getD p 0)) = { whole := true, val := v }) : Cols ln num nds col i (p + 1) cs := by
 refine ⟨h.len, h.root, fun n j u hn h0 hu hj e => ?_⟩
 obtain ⟨h1, h2, h3⟩ := h.at_ n j u hn h0 hu hj e
 refine ⟨h1, fun x => ?_, h3⟩
 subst x
 rw [h2 rfl, List.take_succ_eq_append_getElem hp, List.filter_append]
 have ep : (colAt ln num nds col j).getD p 0 = (colAt ln num nds col j)[p] := by rw [List.getD_eq_getElem?_getD, List.getElem?_eq_getElem hp]; rfl
 rw [ep] at hb
 have : (bitAt ln num (ndAt nds j).depth (colAt ln num nds col j)[p] == u) = false := by
  rw [beq_eq_false_iff_ne]
  intro x
  rw [x, e] at hb
  cases hb
 rw [List.filter_cons, this]
 simp
theorem Cols.node (h : Cols ln num nds col i p cs) (hs : Shaped M ln o nds) (hi : i < nds.length) (hp : p < (colAt ln num nds col i).length) {n : Nat} (h0 : 0 < n) (hb : (ndAt nds i).br (bitAt ln num (ndAt nds i).depth ((colAt ln num nds col i).getD p 0)) = { node := n }) : Cols ln num nds col i (p + 1) (cs.set n (cs.getD n [] ++ [(colAt ln num nds col i).getD p 0])) := by
 have hu := bitAt_lt ln num (ndAt nds i).depth ((colAt ln num nds col i).getD p 0)
 obtain ⟨c1, c2, _⟩ := hs.child hi hu h0 hb
 have hl : n < cs.length := by rw [h.len]; exact c2
 refine ⟨by rw [List.length_set]; exact h.len, by rw [getD_set_l _ _ _ _ hl, if_neg (by omega)]; exact h.root, fun m j u hm hm0 hu' hj e => ?_⟩
 obtain ⟨h1, h2, h3⟩ := h.at_ m j u hm hm0 hu' hj e
 have ep : (colAt ln num nds col i).getD p 0 = (colAt ln num nds col i)[p] := by rw [List.getD_eq_getElem?_getD, List.getElem?_eq_getElem hp]; rfl
 by_cases x : n = m
 ·subst x
  obtain ⟨rfl, rfl⟩ := hs.parent hj hu' hi hu h0 e hb
  refine ⟨fun c => by omega, fun _ => ?_, fun c => by omega⟩
  rw [getD_set_l _ _ _ _ hl, if_pos rfl, h2 rfl, List.take_succ_eq_append_getElem hp, List.filter_append, List.filter_cons, ep, if_pos (by simp)]
  rfl
 ·rw [getD_set_l _ _ _ _ hl, if_neg x]
  refine ⟨h1, fun c => ?_, h3⟩
  subst c
  rw [h2 rfl, List.take_succ_eq_append_getElem hp, List.filter_append]
  have : (bitAt ln num (ndAt nds j).depth (colAt ln num nds col j)[p] == u) = false := by
   rw [beq_eq_false_iff_ne]
   intro y
   rw [ep, y, e] at hb
   injection hb with _ _ hb
   exact x hb.symm
  rw [List.filter_cons, this]
  simp
theorem Cols.next (h : Cols ln num nds col i (colAt ln num nds col i).length cs) (hs : Shaped M ln o nds) (hk : NumK M ln num o) (hc : ∀ b ∈ col, b ∈ o) : Cols ln num nds col (i + 1) 0 cs := by
 refine ⟨h.len, h.root, fun n j u hn h0 hu hj e => ?_⟩
 obtain ⟨h1, h2, h3⟩ := h.at_ n j u hn h0 hu hj e
 refine ⟨fun x => ?_, fun x => ?_, fun x => h3 (by omega)⟩
 ·by_cases y : j = i
  ·subst y
   rw [h2 rfl, List.take_length]
   exact (hs.col_child hk hc hj hu h0 e).symm
  ·exact h1 (by omega)
 ·rw [h3 (by omega)]; simp
/-- Behind a bit of a byte that is there something goes on. -/
theorem Shaped.goes (h : Shaped M ln o nds) (hk : NumK M ln num o) (hc : ∀ b ∈ col, b ∈ o) (hi : i < nds.length) (hp : p < (colAt ln num nds col i).length) :
  (∃ v, (ndAt nds i).br (bitAt ln num (ndAt nds i).depth ((colAt ln num nds col i).getD p 0)) = { whole := true, val := v }) ∨ ∃ n, 0 < n ∧ n < nds.length ∧ i < n ∧ (ndAt nds i).br (bitAt ln num (ndAt nds i).depth ((colAt ln num nds col i).getD p 0)) = { node := n } := by
 have ep : (colAt ln num nds col i).getD p 0 = (colAt ln num nds col i)[p] := by rw [List.getD_eq_getElem?_getD, List.getElem?_eq_getElem hp]; rfl
 have hm : (colAt ln num nds col i)[p] ∈ colAt ln num nds col i := List.getElem_mem _
 rw [ep]
 generalize (colAt ln num nds col i)[p] = b at *
 obtain ⟨h1, h2⟩ := List.mem_filter.1 hm
 cases h.good i (bitAt ln num (ndAt nds i).depth b) hi (bitAt_lt _ _ _ _) with
 | leaf k hk h3 => exact .inl ⟨_, h3⟩
 | node n h3 h4 h5 => exact .inr ⟨n, by omega, h5, h4, h3⟩
 | none h3 h4 => exact (child_none hk (hc b h1) h2 h4).elim
end

end Hm
end Go.Proofs.YtegnkfdbmmndaaaGreat
end
