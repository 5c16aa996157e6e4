import Derived.Test.YtegnkfdbmmndaaaGreatRows
import Derived.WalkKit
import Derived.WalkSpells
import Derived.WalkLawsBesides
import Derived.Lib.AppendStr
import Derived.ArgAppend
import Derived.Laws.CopyOwn
import Derived.Lib.SliceRun
import Derived.BigQuiet
import Derived.Laws.BitsAllLaws
import Derived.Deep.LoopGhost
import Derived.Deep.QuietTactic

/- Mem -/
section
/- Memory that a call leaves as it was but for some blocks, and an append that tells which block its row then has. -/
namespace Go.Proofs.YtegnkfdbmmndaaaGreat
open Go.RowKit

/-- All blocks of w but those of S are in w' as they were. -/
structure Kept (S : Nat → Prop) (w w' : World) : Prop where
  os : w'.os = w.os
  tape : w'.tape = w.tape
  output : w'.output = w.output
  size : w.heap.size ≤ w'.heap.size
  block : ∀ k, k < w.heap.size → ¬ S k → w'.heap[k]? = w.heap[k]?

theorem Kept.refl (S : Nat → Prop) (w : World) : Kept S w w := ⟨rfl, rfl, rfl, Nat.le_refl _, fun _ _ _ => rfl⟩
theorem Kept.trans {S T : Nat → Prop} {a b c : World} (h : Kept S a b) (k : Kept T b c) (hT : ∀ j, j < a.heap.size → T j → S j) : Kept S a c :=
  ⟨k.os.trans h.os, k.tape.trans h.tape, k.output.trans h.output, Nat.le_trans h.size k.size, fun j hj hn => (k.block j (Nat.lt_of_lt_of_le hj h.size) (fun x => hn (hT j hj x))).trans (h.block j hj hn)⟩
theorem Kept.wider {S T : Nat → Prop} {a b : World} (h : Kept S a b) (hT : ∀ j, j < a.heap.size → S j → T j) : Kept T a b :=
  ⟨h.os, h.tape, h.output, h.size, fun j hj hn => h.block j hj (fun x => hn (hT j hj x))⟩
theorem Kept.drew {S : Nat → Prop} {a b : World} (h : Kept S a b) : Kept S a b.drew := ⟨h.os, h.tape, h.output, h.size, h.block⟩
theorem Kept.drewN {S : Nat → Prop} {a b : World} (h : Kept S a b) (n : Nat) : Kept S a (b.drewN n) := ⟨h.os, h.tape, h.output, h.size, h.block⟩
theorem Kept.alloc {S : Nat → Prop} {a b : World} (h : Kept S a b) (o : Obj) : Kept S a (b.alloc o) :=
  ⟨h.os, h.tape, h.output, by have := h.size; simp; omega, fun j hj hn => (Below.heap_alloc b o j (by have := h.size; omega)).trans (h.block j hj hn)⟩
theorem Kept.setCell {S : Nat → Prop} {a b : World} (h : Kept S a b) {p : Addr} (hp : a.heap.size ≤ p.block ∨ S p.block) (u : Value) : Kept S a (b.setCell p u) := by
  have hb := (Below.refl 0 b).setCell (p := p) (Nat.zero_le _) u
  refine ⟨hb.os.trans h.os, hb.tape.trans h.tape, hb.output.trans h.output, Nat.le_trans h.size hb.size, fun j hj hn => ?_⟩
  have hne : j ≠ p.block := by rintro rfl; rcases hp with hp | hp; · omega
                               · exact hn hp
  exact (Below.heap_setCell b p u j hne).trans (h.block j hj hn)
theorem Kept.grown {S : Nat → Prop} {a b c : World} {row : Option Nat} (h : Kept S a b) (hg : b.grownBy c row) (hr : ∀ k, row = some k → a.heap.size ≤ k ∨ S k) : Kept S a c :=
  ⟨hg.os.trans h.os, hg.tape.trans h.tape, hg.output.trans h.output, Nat.le_trans h.size hg.size, fun j hj hn => (hg.block j (Nat.lt_of_lt_of_le hj h.size) (fun e => by
    rcases hr j e.symm with x | x
    · omega
    · exact hn x)).trans (h.block j hj hn)⟩
theorem Kept.ofBelow {S : Nat → Prop} {B : Nat} {a b : World} (h : Below B a b) (hS : ∀ j, j < a.heap.size → B ≤ j → S j) : Kept S a b :=
  ⟨h.os, h.tape, h.output, h.size, fun j hj hn => h.block j (by
    rcases Nat.lt_or_ge j B with x | x
    · exact x
    · exact absurd (hS j hj x) hn)⟩
theorem Kept.below {S : Nat → Prop} {B : Nat} {a b : World} (h : Kept S a b) (hB : B ≤ a.heap.size) (hS : ∀ j, j < B → ¬ S j) : Below B a b :=
  ⟨h.os, h.tape, h.output, h.size, fun j hj => h.block j (by omega) (hS j hj)⟩
theorem Kept.cell {S : Nat → Prop} {a b : World} (h : Kept S a b) {p : Addr} (hp : p.block < a.heap.size) (hn : ¬ S p.block) : b.cell? p = a.cell? p := World.cell?_of_block (h.block _ hp hn)
theorem Kept.frozen {S : Nat → Prop} {a b : World} (h : Kept S a b) {p : Addr} (hp : p.block < a.heap.size) (hn : ¬ S p.block) : b.frozen? p = a.frozen? p := World.frozen?_of_block (h.block _ hp hn)
theorem Kept.row {S : Nat → Prop} {a b : World} (h : Kept S a b) {g : Nat} {o : Obj} (hg : a.heap[g]? = some o) (hn : ¬ S g) : b.heap[g]? = some o := (h.block g (lt_of_block hg) hn).trans hg
theorem Kept.owns {S : Nat → Prop} {a b : World} (h : Kept S a b) {base : Nat} {e : TypeId} {size : Nat} {v : Value} {n : Nat} {xs : List Value} (ho : a.ownsRow base e size v n xs) (hn : ∀ k, v.ownBlock = some k → ¬ S k) : b.ownsRow base e size v n xs := by
  obtain ⟨hl, hr⟩ := ho
  refine ⟨hl, ?_⟩
  rcases hr with hr | ⟨g, cap, cur, rfl, h1, h2, h3, h4, h5, h6⟩
  · exact .inl hr
  · exact .inr ⟨g, cap, cur, rfl, h1, h.row h2 (hn g rfl), h3, h4, h5, h6⟩

/-- v' begins where v began, or in a block that w has not. -/
def Moved (w : World) (v v' : Value) : Prop := ∀ k, v'.ownBlock = some k → v.ownBlock = some k ∨ w.heap.size ≤ k
theorem Moved.refl (w : World) (v : Value) : Moved w v v := fun _ h => .inl h
theorem Moved.trans {w w1 : World} {a b c : Value} (h : Moved w a b) (k : Moved w1 b c) (hs : w.heap.size ≤ w1.heap.size) : Moved w a c := fun j hj => by
  rcases k j hj with x | x
  · exact h j x
  · exact .inr (by omega)
theorem owns_moved {w w' : World} {base : Nat} {e : TypeId} {size : Nat} {v v' : Value} {n : Nat} {xs : List Value} (ho : w'.ownsRow base e size v' n xs) (hb : base = w.heap.size) : Moved w v v' := fun k hk => .inr (by have := ho.lt k hk; omega)
theorem owns_base {w : World} {base base' : Nat} {e : TypeId} {size : Nat} {v : Value} {n : Nat} {xs : List Value} (ho : w.ownsRow base e size v n xs) (hb : ∀ k, v.ownBlock = some k → base' ≤ k) : w.ownsRow base' e size v n xs := by
  obtain ⟨hl, hr⟩ := ho
  refine ⟨hl, ?_⟩
  rcases hr with hr | ⟨g, cap, cur, rfl, h1, h2⟩
  · exact .inl hr
  · exact .inr ⟨g, cap, cur, rfl, hb g rfl, h2⟩
theorem owns_zero {w : World} {base : Nat} {e : TypeId} {size : Nat} {v : Value} {n : Nat} {xs : List Value} (ho : w.ownsRow base e size v n xs) : w.ownsRow 0 e size v n xs := owns_base ho fun _ _ => Nat.zero_le _

variable {P : Program} (w : World)

/-- An append of elements that lie in memory. -/
theorem run_append_mv (base : Nat) (t ty e : TypeId) (i : TypeInfo) (z : Value) (size bytes : Nat) (ht : P.underlying t = some (.slice e)) (hi : P.info? e = some i) (hz : i.zero = some z)
    (hsize : i.size = size) (hby : i.bytes = bytes) (hzs : z.cells.size = size) (hsz : 0 < size)
    (v : Value) (n : Nat) (xs : List Value) (hown : w.ownsRow base e size v n xs)
    (a : Addr) (m c : Nat) (news : List Value) (hl : news.length = m * size) (hnews : ∀ j u, news[j]? = some u → w.cell? (a.add j) = some u) (h1 : ∀ u ∈ news, u.oneCell' = true)
    (h63 : n + m ≤ maxLen) (hbytes : (n + m) * bytes ≤ 140737488355328) (hbase : base ≤ w.heap.size) :
    ∃ v' w', (Builtin.append_ #[t, t] ty #[v, .slice (some a) m c]).run P w = .ok v' w' ∧ w'.ownsRow base e size v' (n + m) (xs ++ news) ∧ w.grownBy w' v.ownBlock ∧ Moved w v v' := by
  have hown2 := hown.2
  rcases hown2 with ⟨hv, hn⟩ | ⟨g, cap, cur, hv, hbg, hg, hnc, hcm, hcs, htake⟩
  · obtain ⟨v', w', hr, ho, hgr, _⟩ := run_append_own (P := P) w w.heap.size t ty e i z size bytes ht hi hz hsize hby hzs hsz v n xs (by rw [hv, hn] at hown ⊢; exact owns_base hown (fun k hk => by cases hk)) a m c news hl hnews h1 h63 hbytes (Nat.le_refl _)
    exact ⟨v', w', hr, owns_base ho (fun k hk => by have := ho.lt k hk; omega), hgr, owns_moved ho rfl⟩
  · subst hv
    by_cases hroom : n + m ≤ cap
    · obtain ⟨w', hr, ho, hgr⟩ := run_append_fits (P := P) w base t ty e i size ht hi hsize g n cap xs hown a m c news hl hnews h1 hroom
      exact ⟨_, w', hr, ho, hgr, fun k hk => .inl hk⟩
    · obtain ⟨v', w', hr, ho, hgr⟩ := run_append_arg_grows (P := P) w t ty e i z size bytes ht hi hz hsize hby hzs hsz ⟨g, 0, none⟩ n cap xs hown.1 (hown.cells (g := g) rfl) a m c news hl hnews (by omega) h63 hbytes
      exact ⟨v', w', hr, owns_base ho (fun k hk => by have := ho.lt k hk; omega), ⟨hgr.os, hgr.tape, hgr.output, hgr.size, fun k hk _ => hgr.block k hk (by simp)⟩, owns_moved ho rfl⟩

theorem wpList_append_mv {ops : Array Oper} {rest : List Oper} {o : Oper} {a : Act} {Q : Exit → Act → World → Prop} (hgd : o.guard = none) (s x : Operand) (t : TypeId)
    (ho : o.op = .call { callee := .builtin .append, args := #[s, x], argTypes := #[t, t] })
    (base : Nat) (e : TypeId) (i : TypeInfo) (z : Value) (size bytes : Nat) (ht : P.underlying t = some (.slice e)) (hi : P.info? e = some i) (hz : i.zero = some z)
    (hsize : i.size = size) (hby : i.bytes = bytes) (hzs : z.cells.size = size) (hsz : 0 < size)
    (v : Value) (n : Nat) (xs : List Value) (hs : a.eval s = v) (hown : w.ownsRow base e size v n xs)
    (ad : Addr) (m c : Nat) (news : List Value) (hx : a.eval x = .slice (some ad) m c) (hl : news.length = m * size) (hnews : ∀ j u, news[j]? = some u → w.cell? (ad.add j) = some u) (h1 : ∀ u ∈ news, u.oneCell' = true)
    (h63 : n + m ≤ maxLen) (hbytes : (n + m) * bytes ≤ 140737488355328) (hbase : base ≤ w.heap.size)
    (h : ∀ v' w', w'.ownsRow base e size v' (n + m) (xs ++ news) → w.grownBy w' v.ownBlock → Moved w v v' → wpList P ops Q rest (a.put o.dst v') w') : wpList P ops Q (o :: rest) a w := by
  refine wpList_plain hgd fun K hK => ?_
  obtain ⟨v', w', hr, h2, h3, h4⟩ := run_append_mv (P := P) w base t o.type e i z size bytes ht hi hz hsize hby hzs hsz v n xs hown ad m c news hl hnews h1 h63 hbytes hbase
  unfold Oper.wp execOp
  simp only [ho, resolve, invoke, builtin, Sem.run_bind, Sem.run_pure, Result.andThen_ok, List.map_toArray, List.map_cons, List.map_nil, hs, hx, hr]
  exact hK _ _ (h v' w' h2 h3 h4)

/-- An append of a string's bytes. -/
theorem run_append_mv_string (base : Nat) (t u ty e : TypeId) (i : TypeInfo) (ht : P.underlying t = some (.slice e)) (hu : P.underlying u = some .string) (hi : P.info? e = some i) (hz : i.zero = some (.int .u8 0))
    (hsize : i.size = 1) (hby : i.bytes = 1)
    (v : Value) (n : Nat) (xs : List Value) (hown : w.ownsRow base e 1 v n xs) (s : ByteArray)
    (h63 : n + s.size ≤ maxLen) (hbytes : n + s.size ≤ 140737488355328) (hbase : base ≤ w.heap.size) :
    ∃ v' w', (Builtin.append_ #[t, u] ty #[v, .string s]).run P w = .ok v' w' ∧ w'.ownsRow base e 1 v' (n + s.size) (xs ++ Lib.strCells s) ∧ w.grownBy w' v.ownBlock ∧ Moved w v v' ∧ (v' = .slice none 0 0 ↔ v = .slice none 0 0 ∧ s.size = 0) := by
  have hsmall : n + s.size ≤ 9223372036854775807 := by simp only [maxLen] at h63; omega
  obtain ⟨v', w', hr, ho, hgr, hnil⟩ := Lib.run_append_own_string (P := P) w base t u ty e i ht hu hi hz hsize hby v n xs hown s h63 hbytes hbase
  refine ⟨v', w', hr, ho, hgr, ?_, hnil⟩
  have hown2 := hown.2
  rcases hown2 with ⟨hv, hn⟩ | ⟨g, cap, cur, hv, hbg, hg, hnc, hcm, hcs, htake⟩
  · obtain ⟨v2, w2, hr2, ho2, _, _⟩ := Lib.run_append_own_string (P := P) w w.heap.size t u ty e i ht hu hi hz hsize hby v n xs (by rw [hv, hn] at hown ⊢; exact owns_base hown (fun k hk => by cases hk)) s h63 hbytes (Nat.le_refl _)
    rw [hr] at hr2
    cases hr2
    exact owns_moved ho2 rfl
  · subst hv
    have hcs' : cur.size = cap := by simpa using hcs
    by_cases hroom : n + s.size ≤ cap
    · have hr2 := Lib.run_append_room_string (P := P) w t u ty e i ht hu hi hsize g n cap cur hg s hroom (by omega)
      rw [hr] at hr2
      cases hr2
      exact fun k hk => .inl hk
    · have hr2 := Lib.run_append_grow_string (P := P) w t u ty e i (.int .u8 0) ht hu hi hz ⟨g, 0, none⟩ n cap xs (by rw [hsize]; exact hown.1) (hown.cells (g := g) rfl) s (by omega) (by omega) (by rw [hby]; exact growslice_fits (by omega) (by omega))
      rw [hr] at hr2
      cases hr2
      exact fun k hk => .inr (by simp [Value.ownBlock] at hk; omega)

theorem wpList_append_mv_string {ops : Array Oper} {rest : List Oper} {o : Oper} {a : Act} {Q : Exit → Act → World → Prop} (hgd : o.guard = none) (sl x : Operand) (t u : TypeId)
    (ho : o.op = .call { callee := .builtin .append, args := #[sl, x], argTypes := #[t, u] })
    (base : Nat) (e : TypeId) (i : TypeInfo) (ht : P.underlying t = some (.slice e)) (hu : P.underlying u = some .string) (hi : P.info? e = some i) (hz : i.zero = some (.int .u8 0))
    (hsize : i.size = 1) (hby : i.bytes = 1)
    (v : Value) (n : Nat) (xs : List Value) (hs : a.eval sl = v) (hown : w.ownsRow base e 1 v n xs) (s : ByteArray) (hx : a.eval x = .string s)
    (h63 : n + s.size ≤ maxLen) (hbytes : n + s.size ≤ 140737488355328) (hbase : base ≤ w.heap.size)
    (h : ∀ v' w', w'.ownsRow base e 1 v' (n + s.size) (xs ++ Lib.strCells s) → w.grownBy w' v.ownBlock → Moved w v v' → (v' = .slice none 0 0 ↔ v = .slice none 0 0 ∧ s.size = 0) → wpList P ops Q rest (a.put o.dst v') w') : wpList P ops Q (o :: rest) a w := by
  refine wpList_plain hgd fun K hK => ?_
  obtain ⟨v', w', hr, h2, h3, h4, h5⟩ := run_append_mv_string (P := P) w base t u o.type e i ht hu hi hz hsize hby v n xs hown s h63 hbytes hbase
  unfold Oper.wp execOp
  simp only [ho, resolve, invoke, builtin, Sem.run_bind, Sem.run_pure, Result.andThen_ok, List.map_toArray, List.map_cons, List.map_nil, hs, hx, hr]
  exact hK _ _ (h v' w' h2 h3 h4 h5)

end Go.Proofs.YtegnkfdbmmndaaaGreat
end

/- Add -/
section
/- Numbers, names and lengths that are added to a row of bytes. -/
namespace Go.Proofs.YtegnkfdbmmndaaaGreat
open Go.RowKit

theorem info_u8 : (Tryz.prog.info? 5).map (fun i => (i.zero, i.size, i.bytes)) = some (some (.int .u8 0), 1, 1) := by kernel_rfl

namespace Hm
def bcells (l : List UInt8) : List Value := l.map fun b => Value.int .u8 (b.toNat : Int)
def leBytes (x : Nat) : Nat → List UInt8
  | 0 => []
  | k + 1 => leBytes x k ++ [UInt8.ofNat (x / 256 ^ k)]
theorem leBytes_length (x k : Nat) : (leBytes x k).length = k := by
  induction k with
  | zero => rfl
  | succ k ih => simp [leBytes, ih]
end Hm

set_option maxHeartbeats 400000 in
theorem addNumber_any (base : Nat) (v : Value) (n x k : Nat) (l : List UInt8) (w : World) (ho : w.ownsRow base 5 1 v n (Hm.bcells l)) (hb : base ≤ w.heap.size) (hx : x < 4294967296) (hk : k ≤ 4) (hn : n ≤ 1000000) :
    Calls Tryz.prog 101 #[v, .int .i64 x, .int .i64 k] w fun e w' => ∃ v', e = .returned v' ∧ w'.ownsRow base 5 1 v' (n + k) (Hm.bcells (l ++ Hm.leBytes x k)) ∧ Kept (fun j => v.ownBlock = some j) w w' ∧ Moved w v v' := by
  obtain ⟨i0, hi, hz0, hz1, hz2⟩ := info_parts info_u8
  go_enter Tryz.func101, Tryz.ntmps101
  go_wp2
  go_loopw [0, 9] (fun u i wr => ∃ j : Nat, j ≤ k ∧ i = .int .i64 j ∧ wr.ownsRow base 5 1 u (n + j) (Hm.bcells (l ++ Hm.leBytes x j)) ∧ Kept (fun j => v.ownBlock = some j) w wr ∧ Moved w v u) (fun _ i _ => k - (intOf i).toNat)
  case atStart => exact ⟨0, Nat.zero_le _, rfl, by simpa [Hm.leBytes] using ho, Kept.refl _ _, Moved.refl _ _⟩
  case round =>
    obtain ⟨j, hj, rfl, hor, hkr, hmr⟩ := hrel
    by_cases hlt : j < k
    · obtain ⟨y, hy, hsh, HY⟩ : ∃ y : Nat, y < 4294967296 ∧ (x : Int) / 2 ^ (8 * j) = (y : Int) ∧ Hid (y = x / 256 ^ j) := by
        refine ⟨x / 256 ^ j, Nat.lt_of_le_of_lt (Nat.div_le_self _ _) hx, ?_, rfl⟩
        have e2 : (256 : Nat) ^ j = 2 ^ (8 * j) := by rw [Nat.pow_mul]
        rw [e2]; simp
      go_wp2_with (at_builtin; refine wpList_append_mv _ rfl (.tmp 12) (.tmp 18) 79 rfl base 5 i0 (.int .u8 0) 1 1 Tryz.underlying79 hi hz0 hz1 hz2 rfl (by decide) _ _ _ rfl (hor.alloc _) ⟨wr.heap.size, 0, none⟩ 1 1 [.int .u8 ((y : Int) % 256)] rfl rfl ?c1 ?c2 ?c3 ?c4 ?c5 ?_)
      case c1 => exact cell_one_new _ _ _
      case c2 => intro u hu; simp at hu; subst hu; rfl
      case c3 => unfold maxLen; omega
      case c4 => omega
      case c5 => have := hkr.size; simp; omega
      intro v' w1 ho1 hg1 hm1
      go_wp2
      go_roundw
      case rel =>
        have e : Hm.bcells (l ++ Hm.leBytes x (j + 1)) = Hm.bcells (l ++ Hm.leBytes x j) ++ [.int .u8 ((y : Int) % 256)] := by
          simp [Hm.bcells, Hm.leBytes, HY.out]
        refine ⟨j + 1, by omega, by go_num, ?_, ?_, ?_⟩
        · rw [e]; exact ho1
        · exact (hkr.alloc _).grown hg1 (fun k hk => (hmr k hk).elim (fun h => .inr h) .inl)
        · exact hmr.trans hm1 (by have := hkr.size; simp; omega)
      case measure => simp [intOf]; omega
    · go_wp2
      go_ret
      obtain rfl : j = k := by omega
      exact ⟨_, rfl, hor, hkr, hmr⟩

end Go.Proofs.YtegnkfdbmmndaaaGreat
end

/- Names -/
section
/- The names of the files, added to a row of bytes. -/
namespace Go.Proofs.YtegnkfdbmmndaaaGreat
open Go.RowKit

/-- The files lie in memory from an address on. -/
def FilesAt (w : World) (ao : Option Addr) (fs : List (ByteArray × ByteArray)) : Prop :=
  ∀ i, (h : i < fs.length) → ∃ b o, ao = some ⟨b, o, none⟩ ∧ b < w.heap.size ∧ w.cell? ⟨b, o + i * 2, none⟩ = some (.string fs[i].1) ∧ w.cell? ⟨b, o + i * 2 + 1, none⟩ = some (.string fs[i].2)
theorem FilesAt.kept {S : Nat → Prop} {w w' : World} {ao : Option Addr} {fs : List (ByteArray × ByteArray)} (h : FilesAt w ao fs) (hk : Kept S w w') (hn : ∀ a, ao = some a → ¬ S a.block) : FilesAt w' ao fs := by
  intro i hi
  obtain ⟨b, o, e, hb, h1, h2⟩ := h i hi
  have hs := hn _ e
  exact ⟨b, o, e, by have := hk.size; omega, (hk.cell (p := ⟨b, o + i * 2, none⟩) hb hs).trans h1, (hk.cell (p := ⟨b, o + i * 2 + 1, none⟩) hb hs).trans h2⟩

namespace Hm
def nameBytes (fs : List (ByteArray × ByteArray)) : List UInt8 := fs.flatMap fun f => UInt8.ofNat f.1.size :: f.1.data.toList
theorem nameBytes_take (fs : List (ByteArray × ByteArray)) (k : Nat) (h : k < fs.length) : nameBytes (fs.take (k + 1)) = nameBytes (fs.take k) ++ (UInt8.ofNat fs[k].1.size :: fs[k].1.data.toList) := by
  rw [List.take_succ_eq_append_getElem h]; unfold nameBytes; rw [List.flatMap_append]; congr 1; simp
theorem nameBytes_le (fs : List (ByteArray × ByteArray)) (h : ∀ f ∈ fs, f.1.size ≤ 32) : (nameBytes fs).length ≤ 33 * fs.length := by
  induction fs with
  | nil => simp [nameBytes]
  | cons f r ih =>
    have h1 := h f (by simp)
    have h2 := ih (fun x hx => h x (by simp [hx]))
    have h3 : f.1.data.toList.length = f.1.size := by simp
    simp only [nameBytes, List.flatMap_cons, List.length_append, List.length_cons] at h2 ⊢
    omega
end Hm

set_option maxHeartbeats 400000 in
theorem addNames_any (base : Nat) (v : Value) (n c : Nat) (ao : Option Addr) (fs : List (ByteArray × ByteArray)) (l : List UInt8) (w : World) (ho : w.ownsRow base 5 1 v n (Hm.bcells l)) (hb : base ≤ w.heap.size)
    (hf : FilesAt w ao fs) (hne : ∀ a, ao = some a → v.ownBlock ≠ some a.block) (hm : fs.length ≤ 40) (h32 : ∀ f ∈ fs, f.1.size ≤ 32) (hn : n ≤ 1000000) :
    Calls Tryz.prog 103 #[v, .slice ao fs.length c] w fun e w' => ∃ v', e = .returned v' ∧ w'.ownsRow base 5 1 v' (n + (Hm.nameBytes fs).length) (Hm.bcells (l ++ Hm.nameBytes fs)) ∧ Kept (fun j => v.ownBlock = some j) w w' ∧ Moved w v v' := by
  obtain ⟨i0, hi, hz0, hz1, hz2⟩ := info_parts info_u8
  go_enter Tryz.func103, Tryz.ntmps103
  go_wp2
  go_loopw [0, 9] (fun u i wr => ∃ k : Nat, k ≤ fs.length ∧ i = .int .i64 k ∧ wr.ownsRow base 5 1 u (n + (Hm.nameBytes (fs.take k)).length) (Hm.bcells (l ++ Hm.nameBytes (fs.take k))) ∧ Kept (fun j => v.ownBlock = some j) w wr ∧ Moved w v u) (fun _ i _ => fs.length - (intOf i).toNat)
  case atStart => exact ⟨0, Nat.zero_le _, rfl, by simpa [Hm.nameBytes] using ho, Kept.refl _ _, Moved.refl _ _⟩
  case round =>
    obtain ⟨k, hk, rfl, hor, hkr, hmr⟩ := hrel
    have hle := Hm.nameBytes_le (fs.take k) (fun f hf => h32 f (List.mem_of_mem_take hf))
    have hlt2 : (fs.take k).length ≤ 40 := by simp; omega
    generalize hnk : (Hm.nameBytes (fs.take k)).length = nk at hle hor
    by_cases hlt : k < fs.length
    · obtain ⟨b, o, hao, hbw, hc1, hc2⟩ := (hf.kept hkr (fun a ha => hne a ha)) k hlt
      have h32k := h32 fs[k] (List.getElem_mem _)
      have HT : Hid (Hm.nameBytes (fs.take (k + 1)) = Hm.nameBytes (fs.take k) ++ (UInt8.ofNat fs[k].1.size :: fs[k].1.data.toList)) := Hm.nameBytes_take fs k hlt
      generalize fs[k].1 = nm at *
      generalize fs[k].2 = ct at *
      rw [hao]
      have HA : Hid (ao = some ⟨b, o, none⟩) := hao
      have HNK : Hid ((Hm.nameBytes (fs.take k)).length = nk) := hnk
      clear hao hnk hf
      go_wp2_with (at_builtin; refine wpList_append_mv _ rfl (.tmp 13) (.tmp 18) 79 rfl base 5 i0 (.int .u8 0) 1 1 Tryz.underlying79 hi hz0 hz1 hz2 rfl (by decide) _ _ _ rfl ((hor.alloc _).alloc _) ⟨wr.heap.size + 1, 0, none⟩ 1 1 [.int .u8 (nm.size : Int)] rfl rfl ?c1 ?c2 ?c3 ?c4 ?c5 ?_)
      case c1 => have h := cell_one_new (wr.alloc (.cells #[.string nm, .string ct] 38)) (.int .u8 (nm.size : Int)) 5; simpa using h
      case c2 => intro u hu; simp at hu; subst hu; rfl
      case c3 => unfold maxLen; omega
      case c4 => omega
      case c5 => have := hkr.size; simp; omega
      intro v' w1 ho1 hg1 hm1
      have hu0 : ∀ j, u0.ownBlock = some j → j < wr.heap.size := fun j hj => (hor.lt j hj).2
      have hbx : w1.cell? ⟨wr.heap.size, 0, none⟩ = some (.string nm) :=
        hg1.cell (cell_of_row _ _ 0 _ _ _ (heap_alloc2_old wr _ _)) (fun e => by have := hu0 _ e.symm; simp at this)
      have hz : wr.heap.size + 2 ≤ w1.heap.size := by have := hg1.size; simp at this; omega
      have hk1 : Kept (fun j => v.ownBlock = some j) w w1 := ((hkr.alloc _).alloc _).grown hg1 (fun k hk => (hmr k hk).elim (fun h => .inr h) .inl)
      have hmv1 : Moved w v v' := hmr.trans hm1 (by have := hkr.size; simp; omega)
      clear hg1 hm1 hor hkr hmr hu0
      go_wp2_with (at_builtin; refine wpList_append_mv_string _ rfl (.tmp 20) (.tmp 22) 79 9 rfl base 5 i0 Tryz.underlying79 Tryz.underlying9 hi hz0 hz1 hz2 _ _ _ rfl ho1 nm rfl ?c6 ?c7 ?c8 ?_)
      case c6 => unfold maxLen; omega
      case c7 => omega
      case c8 => have := hk1.size; omega
      intro v2 w2 ho2 hg2 hm2 _
      go_wp2
      go_roundw
      case rel =>
        have e : Hm.bcells (l ++ Hm.nameBytes (fs.take (k + 1))) = Hm.bcells (l ++ Hm.nameBytes (fs.take k)) ++ [.int .u8 (nm.size : Int)] ++ Lib.strCells nm := by
          rw [HT.out]; simp [Hm.bcells, Lib.strCells]; omega
        have e2 : n + (Hm.nameBytes (fs.take (k + 1))).length = n + nk + 1 + nm.size := by
          have e3 : nm.data.toList.length = nm.size := by simp
          rw [HT.out, List.length_append, HNK.out, List.length_cons, e3]; omega
        refine ⟨k + 1, by omega, by go_num, ?_, ?_, ?_⟩
        · rw [e, e2]; simpa using ho2
        · exact hk1.grown hg2 (fun k hk => (hmv1 k hk).elim (fun h => .inr h) .inl)
        · exact hmv1.trans hm2 (by have := hk1.size; omega)
      case measure => simp [intOf]; omega
    · clear hf
      go_wp2
      go_ret
      obtain rfl : k = fs.length := by omega
      have e : fs.take fs.length = fs := List.take_length
      rw [e] at hor hnk
      rw [hnk]
      exact ⟨_, rfl, hor, hkr, hmr⟩

end Go.Proofs.YtegnkfdbmmndaaaGreat
end

/- LawA -/
section
/- Rows of files that a call has made; the list with spare room behind it. -/
namespace Go.Proofs.YtegnkfdbmmndaaaGreat
open Go.RowKit

theorem info_file : (Tryz.prog.info? 38).map (fun i => (i.zero, i.size, i.bytes)) = some (some (.agg #[.string ⟨#[]⟩, .string ⟨#[]⟩]), 2, 32) := by kernel_rfl
theorem size_file : (Tryz.prog.info? 38).map (·.size) = some 2 := by kernel_rfl

section
variable {P : Program}
theorem run_copy_two (w : World) (dT sT ty elem : TypeId) (g o dLen dCap : Nat) (a : Addr) (sLen sCap : Nat) (cur : Array Value) (t : TypeId) (cs : List Value)
    (hu : P.underlying dT = some (.slice elem)) (hs : (P.info? elem).map (·.size) = some 2)
    (hg : w.heap[g]? = some (.cells cur t (0, 0))) (hn : cs.length = Nat.min sLen dLen * 2)
    (hsrc : ∀ j v, cs[j]? = some v → w.cell? (a.add j) = some v) (hfit : o + cs.length ≤ cur.size) (h1 : ∀ v ∈ cs, v.oneCell' = true) :
    (Builtin.copy_ #[dT, sT] ty #[.slice (some ⟨g, o, none⟩) dLen dCap, .slice (some a) sLen sCap]).run P w =
      .ok (goInt (Nat.min sLen dLen)) (w.setRow g (cur.toList.take o ++ cs ++ cur.toList.drop (o + cs.length)).toArray) := by
  have hl := run_loadCells_list (P := P) w a cs hsrc
  have hst := run_storeCells_at P g o t cs 0 cur w hg (by simpa using hfit) h1
  cases hq : P.info? elem with
  | none => simp [hq] at hs
  | some i =>
    have hi : i.size = 2 := by simpa [hq] using hs
    simp [Builtin.copy_, run_underlying hu, Builtin.lenOf, Builtin.firstCells, sizeOf, typeInfo, hq, hi, ← hn, hl, hst]
/-- 'copy' where an element has two cells. -/
theorem copy_two_run (w : World) (dT sT ty elem : TypeId) (g dLen dCap : Nat) (a : Addr) (sLen sCap : Nat) (cur : List Value) (t : TypeId) (cs : List Value)
    (hu : P.underlying dT = some (.slice elem)) (hs : (P.info? elem).map (·.size) = some 2)
    (hg : w.heap[g]? = some (.cells cur.toArray t (0, 0))) (hn : cs.length = Nat.min sLen dLen * 2)
    (hsrc : ∀ j v, cs[j]? = some v → w.cell? (a.add j) = some v) (hfit : cs.length ≤ cur.length) (h1 : ∀ v ∈ cs, v.oneCell' = true) :
    ∃ w', (Builtin.copy_ #[dT, sT] ty #[.slice (some ⟨g, 0, none⟩) dLen dCap, .slice (some a) sLen sCap]).run P w = .ok (goInt (Nat.min sLen dLen)) w' ∧
      w'.heap[g]? = some (.cells (cs ++ cur.drop cs.length).toArray t (0, 0)) ∧ Kept (fun j => j = g) w w' := by
  have hrun := run_copy_two (P := P) w dT sT ty elem g 0 dLen dCap a sLen sCap cur.toArray t cs hu hs hg hn hsrc (by simpa using hfit) h1
  refine ⟨_, hrun, ?_, ⟨rfl, rfl, rfl, by simp [World.setRow], fun k hk hn => setRow_other w g k _ (by omega)⟩⟩
  rw [setRow_heap w g _ _ t _ hg]
  simp
end

theorem files_nil (w : World) (a : Option Addr) (n c : Nat) : (binOp .eql 22 (.slice a n c) (.slice none 0 0)).run Tryz.prog w = .ok (.bool a.isNone) w := Lib.run_eql_slice_nil w _ _ a n c 0 0 Tryz.underlying22

namespace Hm
abbrev Fl := ByteArray × ByteArray
def fcells : List Fl → List Value
  | [] => []
  | p :: r => .string p.1 :: .string p.2 :: fcells r
theorem fcells_length (l : List Fl) : (fcells l).length = l.length * 2 := by
  induction l with
  | nil => rfl
  | cons p r ih => simp [fcells, ih]; omega
theorem fcells_append (l r : List Fl) : fcells (l ++ r) = fcells l ++ fcells r := by
  induction l with
  | nil => rfl
  | cons p t ih => simp [fcells, ih]
theorem fcells_fst (l : List Fl) : ∀ i, (h : i < l.length) → (fcells l)[i * 2]? = some (.string l[i].1) := by
  induction l with
  | nil => intro i h; simp at h
  | cons p r ih =>
    intro i h
    cases i with
    | zero => rfl
    | succ i =>
      have := ih i (by simpa using h)
      rw [show (i + 1) * 2 = i * 2 + 1 + 1 from by omega]
      simpa [fcells] using this
theorem fcells_snd (l : List Fl) : ∀ i, (h : i < l.length) → (fcells l)[i * 2 + 1]? = some (.string l[i].2) := by
  induction l with
  | nil => intro i h; simp at h
  | cons p r ih =>
    intro i h
    cases i with
    | zero => rfl
    | succ i =>
      have := ih i (by simpa using h)
      rw [show (i + 1) * 2 + 1 = i * 2 + 1 + 1 + 1 from by omega]
      simpa [fcells] using this
theorem fcells_set1 (l : List Fl) (x : ByteArray) : ∀ i, (h : i < l.length) → (fcells l).set (i * 2) (.string x) = fcells (l.set i (x, l[i].2)) := by
  induction l with
  | nil => intro i h; simp at h
  | cons p r ih =>
    intro i h
    cases i with
    | zero => rfl
    | succ i =>
      have := ih i (by simpa using h)
      rw [show (i + 1) * 2 = i * 2 + 1 + 1 from by omega]
      simp [fcells, this]
theorem fcells_one (l : List Fl) : ∀ v ∈ fcells l, v.oneCell' = true := by
  induction l with
  | nil => intro v h; cases h
  | cons p r ih =>
    intro v h
    rcases List.mem_cons.1 h with rfl | h
    · rfl
    rcases List.mem_cons.1 h with rfl | h
    · rfl
    exact ih v h
end Hm

/-- Block g is a row of these files. -/
def FRow (w : World) (g : Nat) (l : List Hm.Fl) : Prop := w.heap[g]? = some (.cells (Hm.fcells l).toArray 38 (0, 0))
theorem FRow.fst {w : World} {g : Nat} {l : List Hm.Fl} (h : FRow w g l) {i : Nat} (hi : i < l.length) : w.cell? ⟨g, i * 2, none⟩ = some (.string l[i].1) := by
  rw [cell_of_row _ _ _ _ _ _ h]; simpa using Hm.fcells_fst l i hi
theorem FRow.snd {w : World} {g : Nat} {l : List Hm.Fl} (h : FRow w g l) {i : Nat} (hi : i < l.length) : w.cell? ⟨g, i * 2 + 1, none⟩ = some (.string l[i].2) := by
  rw [cell_of_row _ _ _ _ _ _ h]; simpa using Hm.fcells_snd l i hi
theorem FRow.free {w : World} {g : Nat} {l : List Hm.Fl} (h : FRow w g l) (i : Nat) : w.frozen? ⟨g, i, none⟩ = false := frozen_of_row _ _ i _ _ h
theorem FRow.set1 {w : World} {g : Nat} {l : List Hm.Fl} (h : FRow w g l) (i : Nat) (x : ByteArray) (hi : i < l.length) : FRow (w.setCell ⟨g, i * 2, none⟩ (.string x)) g (l.set i (x, l[i].2)) := by
  have h2 := heap_setCell_same w g (i * 2) _ _ (.string x) h
  unfold FRow
  rw [h2, ← Hm.fcells_set1 l x i hi]
  congr 2
  apply Array.ext'
  simp
theorem FRow.lt {w : World} {g : Nat} {l : List Hm.Fl} (h : FRow w g l) : g < w.heap.size := lt_of_block h
theorem FRow.kept {S : Nat → Prop} {w w' : World} {g : Nat} {l : List Hm.Fl} (h : FRow w g l) (hk : Kept S w w') (hn : ¬ S g) : FRow w' g l := hk.row h hn
/-- Its first files lie there as files. -/
theorem FRow.at {w : World} {g : Nat} {l r : List Hm.Fl} (h : FRow w g (l ++ r)) : FilesAt w (some ⟨g, 0, none⟩) l := fun i hi => by
  have h1 := h.fst (i := i) (by simp; omega)
  have h2 := h.snd (i := i) (by simp; omega)
  rw [List.getElem_append_left hi] at h1 h2
  exact ⟨g, 0, rfl, h.lt, by rw [Nat.zero_add]; exact h1, by rw [Nat.zero_add]; exact h2⟩
theorem made_files (n : Nat) : (madeCells (Value.agg #[.string ⟨#[]⟩, .string ⟨#[]⟩]).cells (n * 2)).toList = Hm.fcells (List.replicate n (⟨#[]⟩, ⟨#[]⟩)) := by
  have hl : (Hm.fcells (List.replicate n (⟨#[]⟩, ⟨#[]⟩))).length = n * 2 := by rw [Hm.fcells_length]; simp
  apply List.ext_getElem
  · rw [hl]; simp [madeCells]
  · intro i h1 h2
    have hz : (Value.agg #[.string ⟨#[]⟩, .string ⟨#[]⟩]).cells = #[.string ⟨#[]⟩, .string ⟨#[]⟩] := rfl
    have e1 : (madeCells (Value.agg #[.string ⟨#[]⟩, .string ⟨#[]⟩]).cells (n * 2)).toList[i] = .string ⟨#[]⟩ := by
      simp [madeCells, hz]
      rcases Nat.mod_two_eq_zero_or_one i with h | h <;> simp [h]
    rw [e1]
    have hil : i < n * 2 := by omega
    rcases Nat.mod_two_eq_zero_or_one i with h | h
    · have h3 := Hm.fcells_fst (List.replicate n (⟨#[]⟩, ⟨#[]⟩)) (i / 2) (by simp; omega)
      rw [show i / 2 * 2 = i from by omega, List.getElem?_eq_getElem h2] at h3
      simp at h3; exact h3.symm
    · have h3 := Hm.fcells_snd (List.replicate n (⟨#[]⟩, ⟨#[]⟩)) (i / 2) (by simp; omega)
      rw [show i / 2 * 2 + 1 = i from by omega, List.getElem?_eq_getElem h2] at h3
      simp at h3; exact h3.symm
theorem FRow.made {w' : World} {g n : Nat} {base : Nat} (h : w'.ownsRow base 38 2 (.slice (some ⟨g, 0, none⟩) n n) n (madeCells (Value.agg #[.string ⟨#[]⟩, .string ⟨#[]⟩]).cells (n * 2)).toList) : FRow w' g (List.replicate n (⟨#[]⟩, ⟨#[]⟩)) := by
  rcases h.2 with ⟨h1, _⟩ | ⟨g2, cap, cur, h1, _, hg, _, _, hs, ht⟩
  · cases h1
  · cases h1
    unfold FRow
    rw [hg]
    congr 2
    apply Array.ext'
    have e : cur.toList.take (n * 2) = cur.toList := List.take_of_length_le (by simp; omega)
    rw [← e, ht, made_files]
/-- What lies at an address as files, cell by cell. -/
theorem FilesAt.src {w : World} {a : Addr} {fs : List Hm.Fl} (h : FilesAt w (some a) fs) : ∀ j v, (Hm.fcells fs)[j]? = some v → w.cell? (a.add j) = some v := by
  intro j v hj
  have hl : j < fs.length * 2 := by
    rw [← Hm.fcells_length]
    exact (List.getElem?_eq_some_iff.1 hj).1
  obtain ⟨b, o, e, _, h1, h2⟩ := h (j / 2) (by omega)
  cases e
  have ea : (⟨b, o, none⟩ : Addr).add j = ⟨b, o + j, none⟩ := by unfold Addr.add; split <;> simp_all
  rw [ea]
  rcases Nat.mod_two_eq_zero_or_one j with hm | hm
  · have h3 := Hm.fcells_fst fs (j / 2) (by omega)
    rw [show j / 2 * 2 = j from by omega] at h1 h3
    rw [h1, ← h3, hj]
  · have h3 := Hm.fcells_snd fs (j / 2) (by omega)
    rw [show j / 2 * 2 + 1 = j from by omega] at h3
    rw [show o + j / 2 * 2 + 1 = o + j from by omega] at h2
    rw [h2, ← h3, hj]

namespace Hm
def beyond : ByteArray := ⟨#[98, 101, 121, 111, 110, 100]⟩
/-- The files, then k places that are named, the rest of eight empty. -/
def roomTo (fs : List Fl) (k : Nat) : List Fl := fs ++ (List.replicate k (beyond, ⟨#[]⟩) ++ List.replicate (8 - k) (⟨#[]⟩, ⟨#[]⟩))
theorem roomTo_length (fs : List Fl) (k : Nat) (hk : k ≤ 8) : (roomTo fs k).length = fs.length + 8 := by simp [roomTo]; omega
theorem roomTo_get (fs : List Fl) (k : Nat) (hk : k < 8) (h : fs.length + k < (roomTo fs k).length) : (roomTo fs k)[fs.length + k] = (⟨#[]⟩, ⟨#[]⟩) := by
  have h2 : (roomTo fs k)[fs.length + k]? = some (⟨#[]⟩, ⟨#[]⟩) := by
    unfold roomTo
    rw [List.getElem?_append_right (by omega), List.getElem?_append_right (by simp)]
    have h8 : 0 < 8 - k := by omega
    simp [h8]
  rw [List.getElem?_eq_getElem h] at h2
  exact Option.some.inj h2
theorem roomTo_succ (fs : List Fl) (k : Nat) (hk : k < 8) : (roomTo fs k).set (fs.length + k) (beyond, ⟨#[]⟩) = roomTo fs (k + 1) := by
  unfold roomTo
  rw [List.set_append_right _ _ (by omega), List.set_append_right _ _ (by simp)]
  congr 1
  rw [show fs.length + k - fs.length - (List.replicate k (beyond, (⟨#[]⟩ : ByteArray))).length = 0 from by simp, show 8 - k = (8 - (k + 1)) + 1 from by omega, List.replicate_succ (n := 8 - (k + 1)), List.set_cons_zero, List.replicate_succ' (n := k)]
  simp
end Hm

set_option maxRecDepth 100000 in
/-- No list: none. -/
theorem roomy_nil (w : World) : Calls Tryz.prog 29 #[.slice none 0 0] w fun e w' => e = .returned (.slice none 0 0) ∧ w' = w := by
  have hnil := fun W => files_nil W none 0 0
  go_enter Tryz.func29, Tryz.ntmps29
  go_wp2
  go_ret
  exact ⟨rfl, rfl⟩

set_option maxRecDepth 100000 in
set_option maxHeartbeats 1000000 in
theorem roomy_any (a : Addr) (c : Nat) (fs : List Hm.Fl) (w : World) (hf : FilesAt w (some a) fs) (hl : fs.length ≤ 4398046511103) :
    Calls Tryz.prog 29 #[.slice (some a) fs.length c] w fun e w' => e = .returned (.slice (some ⟨w.heap.size, 0, none⟩) fs.length (fs.length + 8)) ∧ FRow w' w.heap.size (Hm.roomTo fs 8) ∧ Kept (fun _ => False) w w' := by
  have hnil := fun W => files_nil W (some a) fs.length c
  obtain ⟨i0, hi, hz0, hz1, hz2⟩ := info_parts info_file
  have HF : Hid (FilesAt w (some a) fs) := hf
  have hmn : Nat.min fs.length (fs.length + 8) = fs.length := Nat.min_eq_left (by omega)
  clear hf
  go_enter Tryz.func29, Tryz.ntmps29
  go_wp2_with (at_make; refine wpList_make_full _ rfl (.tmp 11) (.tmp 11) 22 rfl w.heap.size 38 i0 (.agg #[.string ⟨#[]⟩, .string ⟨#[]⟩]) 2 Tryz.underlying22 hi hz0 hz1 .i64 .i64 _ _ (fs.length + 8) rfl rfl (by simp) (by simp) (by rw [hz2]; omega) (by unfold maxLen; omega) (Nat.le_refl _) ?_; intro w1 ho1 hg1)
  have hr1 : FRow w1 w.heap.size (List.replicate (fs.length + 8) (⟨#[]⟩, ⟨#[]⟩)) := FRow.made ho1
  have hk1 : Kept (fun _ => False) w w1 := (Kept.refl _ _).grown hg1 (fun k hk => by cases hk)
  have HF1 : Hid (FilesAt w1 (some a) fs) := HF.out.kept hk1 (fun _ _ => id)
  clear ho1 hg1
  obtain ⟨w2, hcp, hw2, hk2⟩ := copy_two_run w1 22 22 3 38 w.heap.size (fs.length + 8) (fs.length + 8) a fs.length c _ _ (Hm.fcells fs) Tryz.underlying22 size_file hr1 (by rw [hmn, Hm.fcells_length]) HF1.out.src (by rw [Hm.fcells_length, Hm.fcells_length]; simp; omega) (Hm.fcells_one fs)
  have hr2 : FRow w2 w.heap.size (Hm.roomTo fs 0) := by
    unfold FRow Hm.roomTo
    rw [hw2, Hm.fcells_append]
    congr 2
    rw [Hm.fcells_length, ← List.replicate_append_replicate, Hm.fcells_append, List.drop_left' (by rw [Hm.fcells_length]; simp)]
    simp
  have hk02 : Kept (fun _ => False) w w2 := hk1.trans hk2 (fun j h1 h2 => by omega)
  rw [hmn] at hcp
  clear hw2 hk2 hr1 hk1
  go_wp2_with fail
  rw [hcp]
  go_wp2_with fail
  go_loopw [5] (fun vi wr => ∃ k : Nat, k ≤ 8 ∧ vi = .int .i64 ((fs.length + k : Nat) : Int) ∧ FRow wr w.heap.size (Hm.roomTo fs k) ∧ Kept (fun _ => False) w wr) (fun vi _ => fs.length + 8 - (intOf vi).toNat)
  case atStart => exact ⟨0, by omega, rfl, hr2, hk02⟩
  case round =>
    clear hr2 hk02
    obtain ⟨k, hk, rfl, hr, hkr⟩ := hrel
    by_cases hlt : k < 8
    · have hll := Hm.roomTo_length fs k hk
      have hc1 := hr.fst (i := fs.length + k) (by omega)
      have hf1 := hr.free ((fs.length + k) * 2)
      have HS := hr.set1 (fs.length + k) Hm.beyond (by omega)
      rw [Hm.roomTo_get fs k hlt] at hc1 HS
      rw [Hm.roomTo_succ fs k hlt] at HS
      have H2 : Hid (FRow _ w.heap.size (Hm.roomTo fs (k + 1))) := HS
      have HKR : Hid (Kept (fun _ => False) w wr) := hkr
      clear HS hr hkr hll
      go_wp2
      go_roundw
      case rel => exact ⟨k + 1, by omega, by go_num, H2.out, HKR.out.setCell (.inl (Nat.le_refl _)) _⟩
      case measure => simp [intOf]; omega
    · obtain rfl : k = 8 := by omega
      go_wp2
      go_ret
      exact ⟨rfl, hr, hkr⟩

end Go.Proofs.YtegnkfdbmmndaaaGreat
end

/- LawB -/
section
/- The list with spare room reads as it was made. -/
namespace Go.Proofs.YtegnkfdbmmndaaaGreat
open Go.RowKit

set_option maxRecDepth 100000 in
theorem whole_nil (w : World) : Calls Tryz.prog 30 #[.slice none 0 0, .slice none 0 0] w fun e w' => e = .returned (.bool true) ∧ w' = w := by
  have hnil := fun W => files_nil W none 0 0
  go_enter Tryz.func30, Tryz.ntmps30
  go_wp2
  go_ret
  exact ⟨rfl, rfl⟩

set_option maxRecDepth 100000 in
set_option maxHeartbeats 1000000 in
theorem whole_any (g : Nat) (a : Addr) (c : Nat) (fs : List Hm.Fl) (w : World) (hr : FRow w g (Hm.roomTo fs 8)) (hf : FilesAt w (some a) fs) (hl : fs.length ≤ 4398046511103) :
    Calls Tryz.prog 30 #[.slice (some ⟨g, 0, none⟩) fs.length (fs.length + 8), .slice (some a) fs.length c] w fun e w' => e = .returned (.bool true) ∧ Kept (fun _ => False) w w' := by
  have hnil := fun W => files_nil W (some a) fs.length c
  have HF : Hid (FilesAt w (some a) fs) := hf
  have HR : Hid (FRow w g (Hm.roomTo fs 8)) := hr
  have hll := Hm.roomTo_length fs 8 (Nat.le_refl _)
  clear hf hr
  go_enter Tryz.func30, Tryz.ntmps30
  go_wp2
  go_loopw [7] (fun vi wr => ∃ k : Nat, k ≤ fs.length + 8 ∧ vi = .int .i64 k ∧ Kept (fun _ => False) w wr) (fun vi _ => fs.length + 8 - (intOf vi).toNat)
  case atStart => exact ⟨0, by omega, rfl, Kept.refl _ _⟩
  case round =>
    obtain ⟨k, hk, rfl, hkr⟩ := hrel
    by_cases hlt : k < fs.length + 8
    · have hdec : decide ((k : Int) < (fs.length : Int) + 8) = true := decide_eq_true (by omega)
      have hk8 : (k : Int) < (fs.length : Int) + 8 := by omega
      have h1 := (HR.out.kept hkr id).fst (i := k) (by omega)
      have h2 := (HR.out.kept hkr id).snd (i := k) (by omega)
      have HKR : Hid (Kept (fun _ => False) w wr) := hkr
      by_cases hin : k < fs.length
      · obtain ⟨b, o, hb, _, c1, c2⟩ := (HF.out.kept hkr (fun _ _ => id)) k hin
        cases hb
        have hki : (k : Int) < (fs.length : Int) := by omega
        have hd1 : decide (k < fs.length) = true := decide_eq_true (by omega)
        have hd2 : decide (fs.length ≤ k) = false := decide_eq_false (by omega)
        have e : (Hm.roomTo fs 8)[k]'(by omega) = fs[k] := by
          have h3 : (Hm.roomTo fs 8)[k]? = some fs[k] := by
            unfold Hm.roomTo
            rw [List.getElem?_append_left hin, List.getElem?_eq_getElem hin]
          rw [List.getElem?_eq_getElem (by omega)] at h3
          exact Option.some.inj h3
        rw [e] at h1 h2
        generalize fs[k] = p at *
        obtain ⟨p1, p2⟩ := p
        clear e hkr hll
        go_wp2
        go_quiet (fail)
        go_wp2
        go_roundw
        case rel => exact ⟨k + 1, by omega, by go_num, HKR.out.drewN _⟩
        case measure => simp [intOf]; omega
      · have hd1 : decide (k < fs.length) = false := decide_eq_false (by omega)
        have hd2 : decide (fs.length ≤ k) = true := decide_eq_true (by omega)
        have e : (Hm.roomTo fs 8)[k]'(by omega) = (Hm.beyond, ⟨#[]⟩) := by
          have h3 : (Hm.roomTo fs 8)[k]? = some (Hm.beyond, ⟨#[]⟩) := by
            unfold Hm.roomTo
            rw [List.getElem?_append_right (by omega), List.getElem?_append_left (by simp; omega), List.getElem?_replicate, if_pos (by omega)]
          rw [List.getElem?_eq_getElem (by omega)] at h3
          exact Option.some.inj h3
        rw [e] at h1 h2
        have hb : Hm.beyond = (⟨#[98, 101, 121, 111, 110, 100]⟩ : ByteArray) := rfl
        rw [hb] at h1 h2
        clear e hkr hll hb
        go_wp2
        go_quiet (fail)
        go_wp2
        go_roundw
        case rel => exact ⟨k + 1, by omega, by go_num, HKR.out.drewN _⟩
        case measure => simp [intOf]; omega
    · have hdec : decide ((k : Int) < (fs.length : Int) + 8) = false := decide_eq_false (by omega)
      go_wp2
      go_ret
      exact ⟨rfl, hkr⟩

end Go.Proofs.YtegnkfdbmmndaaaGreat
end

/- Bits -/
section
/- Rows of bits in bytes, as plain lists. -/
namespace Go.Proofs.YtegnkfdbmmndaaaGreat
namespace Hm

def byte8 (f : Nat → Bool) : Nat := (f 0).toNat + 2 * (f 1).toNat + 4 * (f 2).toNat + 8 * (f 3).toNat + 16 * (f 4).toNat + 32 * (f 5).toNat + 64 * (f 6).toNat + 128 * (f 7).toNat
theorem byte8_lt (f : Nat → Bool) : byte8 f < 256 := by
  have h : ∀ b : Bool, b.toNat ≤ 1 := fun b => by cases b <;> decide
  have := h (f 0); have := h (f 1); have := h (f 2); have := h (f 3); have := h (f 4); have := h (f 5); have := h (f 6); have := h (f 7)
  unfold byte8; omega
theorem byte8_zero (f : Nat → Bool) (h : ∀ j, j < 8 → f j = false) : byte8 f = 0 := by
  unfold byte8; rw [h 0 (by omega), h 1 (by omega), h 2 (by omega), h 3 (by omega), h 4 (by omega), h 5 (by omega), h 6 (by omega), h 7 (by omega)]; rfl
theorem byte8_congr (f g : Nat → Bool) (h : ∀ j, j < 8 → f j = g j) : byte8 f = byte8 g := by
  unfold byte8; rw [h 0 (by omega), h 1 (by omega), h 2 (by omega), h 3 (by omega), h 4 (by omega), h 5 (by omega), h 6 (by omega), h 7 (by omega)]
def byteB (a b c d e f g h : Bool) : Nat := a.toNat + 2 * b.toNat + 4 * c.toNat + 8 * d.toNat + 16 * e.toNat + 32 * f.toNat + 64 * g.toNat + 128 * h.toNat
theorem or0 : ∀ a b c d e f g h, byteB a b c d e f g h ||| 1 = byteB true b c d e f g h := by decide
theorem or1 : ∀ a b c d e f g h, byteB a b c d e f g h ||| 2 = byteB a true c d e f g h := by decide
theorem or2 : ∀ a b c d e f g h, byteB a b c d e f g h ||| 4 = byteB a b true d e f g h := by decide
theorem or3 : ∀ a b c d e f g h, byteB a b c d e f g h ||| 8 = byteB a b c true e f g h := by decide
theorem or4 : ∀ a b c d e f g h, byteB a b c d e f g h ||| 16 = byteB a b c d true f g h := by decide
theorem or5 : ∀ a b c d e f g h, byteB a b c d e f g h ||| 32 = byteB a b c d e true g h := by decide
theorem or6 : ∀ a b c d e f g h, byteB a b c d e f g h ||| 64 = byteB a b c d e f true h := by decide
theorem or7 : ∀ a b c d e f g h, byteB a b c d e f g h ||| 128 = byteB a b c d e f g true := by decide
theorem byte8_or (f : Nat → Bool) (j : Nat) (hj : j < 8) : byte8 f ||| 2 ^ j = byte8 (fun k => if k = j then true else f k) := by
  show byteB (f 0) (f 1) (f 2) (f 3) (f 4) (f 5) (f 6) (f 7) ||| 2 ^ j = _
  match j, hj with
  | 0, _ => exact or0 _ _ _ _ _ _ _ _
  | 1, _ => exact or1 _ _ _ _ _ _ _ _
  | 2, _ => exact or2 _ _ _ _ _ _ _ _
  | 3, _ => exact or3 _ _ _ _ _ _ _ _
  | 4, _ => exact or4 _ _ _ _ _ _ _ _
  | 5, _ => exact or5 _ _ _ _ _ _ _ _
  | 6, _ => exact or6 _ _ _ _ _ _ _ _
  | 7, _ => exact or7 _ _ _ _ _ _ _ _

def byteN (bits : List Bool) (i : Nat) : Nat := byte8 fun j => bits.getD (8 * i + j) false
def packBits (bits : List Bool) : List UInt8 := (List.range ((bits.length + 7) / 8)).map fun i => UInt8.ofNat (byteN bits i)
theorem packBits_length (bits : List Bool) : (packBits bits).length = (bits.length + 7) / 8 := by simp [packBits]
theorem byteN_lt (bits : List Bool) (i : Nat) : byteN bits i < 256 := byte8_lt _
theorem packBits_get (bits : List Bool) (i : Nat) (h : i < (packBits bits).length) : (packBits bits)[i] = UInt8.ofNat (byteN bits i) := by simp [packBits]
theorem getD_grow (bits : List Bool) (c k : Nat) : (bits ++ List.replicate c false).getD k false = bits.getD k false := by
  simp only [List.getD_eq_getElem?_getD]
  by_cases h : k < bits.length
  · rw [List.getElem?_append_left h]
  · rw [List.getElem?_append_right (by omega), List.getElem?_eq_none (by omega : bits.length ≤ k)]
    by_cases h2 : k - bits.length < c
    · rw [List.getElem?_replicate_of_lt h2]; rfl
    · rw [List.getElem?_eq_none (by simp; omega)]
theorem packBits_grow (bits : List Bool) (c : Nat) : packBits (bits ++ List.replicate c false) = packBits bits ++ List.replicate ((bits.length + c + 7) / 8 - (bits.length + 7) / 8) 0 := by
  apply List.ext_getElem
  · simp [packBits_length]; omega
  · intro i h1 h2
    have hl : i < (bits.length + c + 7) / 8 := by simpa [packBits_length] using h1
    rw [packBits_get]
    by_cases h : i < (bits.length + 7) / 8
    · rw [List.getElem_append_left (by rw [packBits_length]; exact h), packBits_get]
      congr 1
      exact byte8_congr _ _ fun j hj => getD_grow bits c _
    · rw [List.getElem_append_right (by rw [packBits_length]; omega), List.getElem_replicate]
      have : byteN (bits ++ List.replicate c false) i = 0 := byte8_zero _ fun j hj => by
        rw [getD_grow]
        simp only [List.getD_eq_getElem?_getD]
        rw [List.getElem?_eq_none (by omega)]; rfl
      rw [this]; rfl
theorem getD_set (bits : List Bool) (at_ k : Nat) (h : at_ < bits.length) : (bits.set at_ true).getD k false = if k = at_ then true else bits.getD k false := by
  simp only [List.getD_eq_getElem?_getD, List.getElem?_set]
  by_cases e : at_ = k
  · subst e; simp [h]
  · rw [if_neg e, if_neg (fun x => e x.symm)]
theorem packBits_set (bits : List Bool) (at_ : Nat) (h : at_ < bits.length) : packBits (bits.set at_ true) = (packBits bits).set (at_ / 8) (UInt8.ofNat (byteN bits (at_ / 8) ||| 2 ^ (at_ % 8))) := by
  apply List.ext_getElem
  · simp [packBits_length]
  · intro i h1 h2
    have hl : i < (bits.length + 7) / 8 := by simpa [packBits_length] using h1
    rw [packBits_get, List.getElem_set]
    by_cases e : at_ / 8 = i
    · rw [if_pos e, e]
      congr 1
      rw [byteN, byteN, byte8_or _ _ (by omega)]
      refine byte8_congr _ _ fun j hj => ?_
      rw [getD_set _ _ _ h]
      by_cases e2 : j = at_ % 8
      · rw [if_pos (by omega), if_pos e2]
      · rw [if_neg (by omega), if_neg e2]
    · rw [if_neg e, packBits_get]
      congr 1
      refine byte8_congr _ _ fun j hj => ?_
      rw [getD_set _ _ _ h, if_neg (by omega)]
theorem set_snoc (bits : List Bool) (b : Bool) : (bits ++ [false]).set bits.length b = bits ++ [b] := by
  simp

end Hm
end Go.Proofs.YtegnkfdbmmndaaaGreat
end

/- Row -/
section
/- Rows of bits in memory: what the methods of the plain bits do. -/
namespace Go.Proofs.YtegnkfdbmmndaaaGreat
open Go.RowKit

/-- A row of bits lies in block pb; its bytes are v's. -/
structure BitsAt (w : World) (T pb : Nat) (v : Value) (bits : List Bool) : Prop where
  blk : w.heap[pb]? = some (.cells #[v, .int .i64 (bits.length : Nat)] T (0, 0))
  own : w.ownsRow 0 5 1 v ((bits.length + 7) / 8) (Hm.bcells (Hm.packBits bits))
  ne : v.ownBlock ≠ some pb

theorem BitsAt.kept {S : Nat → Prop} {w w' : World} {T pb : Nat} {v : Value} {bits : List Bool} (h : BitsAt w T pb v bits) (hk : Kept S w w') (h1 : ¬ S pb) (h2 : ∀ j, v.ownBlock = some j → ¬ S j) : BitsAt w' T pb v bits :=
  ⟨hk.row h.blk h1, hk.owns h.own h2, h.ne⟩

/-- What a method may turn. -/
abbrev Bk (pb : Nat) (v : Value) : Nat → Prop := fun j => j = pb ∨ v.ownBlock = some j

theorem slice_shape {w : World} {base : Nat} {e : TypeId} {size : Nat} {v : Value} {n : Nat} {xs : List Value} (h : w.ownsRow base e size v n xs) : ∃ a c, v = .slice a n c ∧ n ≤ c := by
  rcases h.2 with ⟨rfl, rfl⟩ | ⟨g, cap, cur, rfl, _, _, hnc, hcm, _⟩
  · exact ⟨none, 0, rfl, Nat.le_refl _⟩
  · exact ⟨_, cap, rfl, hnc⟩

set_option maxHeartbeats 400000 in
theorem size_any (n : Nat) (w : World) (hn : n ≤ 100000000) : Calls Tryz.prog 166 #[.int .i64 n] w fun e w' => e = .returned (.int .i64 ((n + 7) / 8 : Nat)) ∧ w' = w := by
  go_enter Tryz.func166, Tryz.ntmps166
  go_wp2
  go_ret
  exact ⟨by first | rfl | go_num, rfl⟩

set_option maxHeartbeats 400000 in
theorem grow_any (T pb : Nat) (v : Value) (bits : List Bool) (c : Nat) (w : World) (h : BitsAt w T pb v bits) (hl : bits.length ≤ 10000000) (hc : c ≤ 10000000) :
    Calls Tryz.prog 144 #[.pointer (some ⟨pb, 0, none⟩), .int .i64 c] w fun e w' => ∃ v', e = .returned (.tuple #[]) ∧ BitsAt w' T pb v' (bits ++ List.replicate c false) ∧ Kept (Bk pb v) w w' ∧ Moved w v v' := by
  obtain ⟨i0, hi, hz0, hz1, hz2⟩ := info_parts info_u8
  have hblk := h.blk
  have hc0 : w.cell? ⟨pb, 0, none⟩ = some v := cell_of_row _ _ 0 _ _ _ hblk
  have hc1 : w.cell? ⟨pb, 1, none⟩ = some (.int .i64 (bits.length : Nat)) := cell_of_row _ _ 1 _ _ _ hblk
  have hf1 : w.frozen? ⟨pb, 1, none⟩ = false := frozen_of_row _ _ 1 _ _ hblk
  have hb1 := heap_setCell_same w pb 1 #[v, .int .i64 (bits.length : Nat)] T (.int .i64 ((bits.length : Int) + c)) hblk
  have HB : Hid ((w.setCell ⟨pb, 1, none⟩ (.int .i64 ((bits.length : Int) + c))).heap[pb]? = some (.cells #[v, .int .i64 ((bits.length : Int) + c)] T (0, 0))) := by
    show _ = _
    simpa using hb1
  clear hblk hb1
  have hsize : ∀ W, Calls Tryz.prog 166 #[.int .i64 ((bits.length : Int) + (c : Int))] W fun e w' => e = .returned (.int .i64 ((bits.length + c + 7) / 8 : Nat)) ∧ w' = W := fun W => by
    have := size_any (bits.length + c) W (by omega)
    rw [show ((bits.length + c : Nat) : Int) = (bits.length : Int) + (c : Int) from by omega] at this; exact this
  generalize hK : (bits.length + c + 7) / 8 = K at *
  go_enter Tryz.func144, Tryz.ntmps144
  go_wp2
  go_loopg [12] (K - (bits.length + 7) / 8) (fun k _ wr => ∃ (v' : Value) (m : Nat), m + k = K ∧ (bits.length + 7) / 8 ≤ m ∧ wr.heap[pb]? = some (.cells #[v', .int .i64 ((bits.length : Int) + c)] T (0, 0)) ∧
    wr.ownsRow 0 5 1 v' m (Hm.bcells (Hm.packBits bits ++ List.replicate (m - (bits.length + 7) / 8) 0)) ∧ v'.ownBlock ≠ some pb ∧ Kept (Bk pb v) w wr ∧ Moved w v v')
  case atStart => exact ⟨v, (bits.length + 7) / 8, by omega, Nat.le_refl _, HB.out, by simpa using ownsRow_setCell_other h.own h.ne _, h.ne, (Kept.refl _ _).setCell (.inr (.inl rfl)) _, Moved.refl _ _⟩
  case round =>
    obtain ⟨v', m, hm, hm0, hbr, hor, hne, hkr, hmr⟩ := hrel
    have hd0 : wr.cell? ⟨pb, 0, none⟩ = some v' := cell_of_row _ _ 0 _ _ _ hbr
    have hd1 : wr.cell? ⟨pb, 1, none⟩ = some (.int .i64 ((bits.length : Int) + c)) := cell_of_row _ _ 1 _ _ _ hbr
    have hf0 : wr.frozen? ⟨pb, 0, none⟩ = false := frozen_of_row _ _ 0 _ _ hbr
    obtain ⟨ao, cp, hv', hcp⟩ := slice_shape hor
    have HV : Hid (v' = .slice ao m cp) := hv'
    rw [hv'] at hd0
    have HBr : Hid (wr.heap[pb]? = some (.cells #[v', .int .i64 ((bits.length : Int) + c)] T (0, 0))) := hbr
    have hmle : m ≤ 3000000 := by omega
    clear hv' hc0 hc1 hf1 HB h hbr
    by_cases hlt : 0 < gk
    · have hor2 : wr.ownsRow 0 5 1 (.slice ao m cp) m (Hm.bcells (Hm.packBits bits ++ List.replicate (m - (bits.length + 7) / 8) 0)) := by rw [← HV.out]; exact hor
      have hu0 : ∀ j, (Value.slice ao m cp).ownBlock = some j → j < wr.heap.size := fun j hj => (hor2.lt j hj).2
      have hne2 : (Value.slice ao m cp).ownBlock ≠ some pb := by rw [← HV.out]; exact hne
      have hmr2 : Moved w v (.slice ao m cp) := by rw [← HV.out]; exact hmr
      have hpw : pb < wr.heap.size := lt_of_block HBr.out
      have HH : Hid (wr.ownsRow 0 5 1 (.slice ao m cp) m (Hm.bcells (Hm.packBits bits ++ List.replicate (m - (bits.length + 7) / 8) 0)) ∧ (∀ j, (Value.slice ao m cp).ownBlock = some j → j < wr.heap.size) ∧ (Value.slice ao m cp).ownBlock ≠ some pb ∧ Moved w v (.slice ao m cp)) := ⟨hor2, hu0, hne2, hmr2⟩
      have hdec : decide (m < K) = true := decide_eq_true (by omega)
      have HM : Hid (m + gk = K ∧ (bits.length + 7) / 8 ≤ m ∧ 0 < gk) := ⟨hm, hm0, hlt⟩
      clear hor hmr hne hor2 hu0 hne2 hmr2 hm hm0 hlt
      clear hK
      go_wp2_with fail
      go_quiet (first | (refine Calls.quiet_of_same (hsize _)))
      obtain ⟨hor2, hu0, hne2, hmr2⟩ := HH.out
      clear hu0
      go_wp2_with (at_builtin; refine wpList_append_mv _ rfl (.tmp 27) (.tmp 28) 79 rfl 0 5 i0 (.int .u8 0) 1 1 Tryz.underlying79 hi hz0 hz1 hz2 rfl (by decide) _ _ _ rfl (by exact (hor2.alloc _)) ⟨wr.heap.size, 0, none⟩ 1 1 [.int .u8 0] rfl rfl ?c1 ?c2 ?c3 ?c4 ?c5 ?_)
      case c1 => exact cell_one_new _ _ _
      case c2 => intro u hu; simp at hu; subst hu; rfl
      case c3 => unfold maxLen; omega
      case c4 => omega
      case c5 => exact Nat.zero_le _
      intro v2 w1 ho1 hg1 hm1
      have hk1 : Kept (Bk pb v) w w1 := ((hkr.drewN nq).alloc _).grown hg1 (fun k hk => (hmr2 k hk).elim (fun h => .inr (.inr h)) .inl)
      have hmv1 : Moved w v v2 := hmr2.trans hm1 (by have := hkr.size; simp; omega)
      have hpb1 : w1.heap[pb]? = some (.cells #[.slice ao m cp, .int .i64 ((bits.length : Int) + c)] T (0, 0)) := by
        rw [hg1.block pb (by simp; omega) (fun e => hne2 e.symm)]
        show ((wr.alloc _).heap[pb]?) = _
        rw [Below.heap_alloc _ _ _ hpw, HBr.out, HV.out]
      have hne3 : v2.ownBlock ≠ some pb := fun e => by
        rcases hm1 pb e with h | h
        · exact hne2 h
        · simp at h; omega
      have he0 : w1.cell? ⟨pb, 0, none⟩ = some (.slice ao m cp) := cell_of_row _ _ 0 _ _ _ hpb1
      have hfr1 : w1.frozen? ⟨pb, 0, none⟩ = false := frozen_of_row _ _ 0 _ _ hpb1
      have hb2 := heap_setCell_same w1 pb 0 _ T v2 hpb1
      obtain ⟨ao2, cp2, hv2, hcp2⟩ := slice_shape ho1
      subst hv2
      have R : Hid (∃ (v' : Value) (m' : Nat), m' + (gk - 1) = K ∧ (bits.length + 7) / 8 ≤ m' ∧ (w1.setCell ⟨pb, 0, none⟩ (.slice ao2 (m + 1) cp2)).heap[pb]? = some (.cells #[v', .int .i64 ((bits.length : Int) + c)] T (0, 0)) ∧
          (w1.setCell ⟨pb, 0, none⟩ (.slice ao2 (m + 1) cp2)).ownsRow 0 5 1 v' m' (Hm.bcells (Hm.packBits bits ++ List.replicate (m' - (bits.length + 7) / 8) 0)) ∧ v'.ownBlock ≠ some pb ∧ Kept (Bk pb v) w (w1.setCell ⟨pb, 0, none⟩ (.slice ao2 (m + 1) cp2)) ∧ Moved w v v') := by
        obtain ⟨hm, hm0, hlt⟩ := HM.out
        refine ⟨.slice ao2 (m + 1) cp2, m + 1, by omega, by omega, by simpa using hb2, ?_, hne3, hk1.setCell (.inr (.inl rfl)) _, hmv1⟩
        have e : Hm.bcells (Hm.packBits bits ++ List.replicate (m + 1 - (bits.length + 7) / 8) 0) = Hm.bcells (Hm.packBits bits ++ List.replicate (m - (bits.length + 7) / 8) 0) ++ [.int .u8 0] := by
          rw [show m + 1 - (bits.length + 7) / 8 = m - (bits.length + 7) / 8 + 1 from by omega, List.replicate_succ', ← List.append_assoc]
          simp [Hm.bcells]
        rw [e]
        exact ownsRow_setCell_other ho1 hne3 _
      clear ho1 hg1 hm1 hk1 hmv1 hpb1 hb2 hor2 hne2 hmr2 hne3
      go_wp2
      go_roundg (gk - 1)
      case measure => have := HM.out; omega
      case rel => exact R.out
    · have HM : Hid (m = K ∧ (bits.length + c + 7) / 8 = K) := ⟨by omega, hK⟩
      have hdec : decide (m < K) = false := decide_eq_false (by omega)
      clear hlt hm hm0
      have HH : Hid (wr.ownsRow 0 5 1 v' m (Hm.bcells (Hm.packBits bits ++ List.replicate (m - (bits.length + 7) / 8) 0)) ∧ v'.ownBlock ≠ some pb ∧ Kept (Bk pb v) w wr ∧ Moved w v v') := ⟨hor, hne, hkr, hmr⟩
      clear hor hmr hne hkr hK
      go_wp2_with fail
      go_quiet (first | (refine Calls.quiet_of_same (hsize _)))
      go_wp2
      go_end0
      obtain ⟨hor, hne, hkr, hmr⟩ := HH.out
      refine ⟨v', rfl, ⟨?_, ?_, hne⟩, hkr.drewN _, hmr⟩
      · have e : ((bits ++ List.replicate c false).length : Int) = (bits.length : Int) + c := by simp
        rw [e]; exact HBr.out
      · rw [Hm.packBits_grow]
        have e : (bits ++ List.replicate c false).length = bits.length + c := by simp
        rw [e, HM.out.2, ← HM.out.1]; exact hor

end Go.Proofs.YtegnkfdbmmndaaaGreat
end
