import Derived.Test.YtegnkfdbmmndaaaGreatJ18
import Derived.Test.YtegnkfdbmmndaaaGreatJ02
import Derived.Test.YtegnkfdbmmndaaaGreatJ01
import Derived.Test.YtegnkfdbmmndaaaGreatJ17
import Derived.Test.YtegnkfdbmmndaaaGreatJ11
import Derived.Test.YtegnkfdbmmndaaaGreatJ05

/- RefC -/
section
/- The document's answer: numbers in bits. -/
namespace Go.Proofs.YtegnkfdbmmndaaaGreat
open Go.RowKit

namespace Hm
def bitStr (l : List Bool) : List UInt8 := l.map fun b => if b then 49 else 48
end Hm
theorem str_snoc (l : List UInt8) (b : UInt8) : (⟨l.toArray⟩ : ByteArray) ++ ⟨#[b]⟩ = ⟨(l ++ [b]).toArray⟩ := by
  apply ByteArray.ext
  simp [ByteArray.data_append]
set_option maxHeartbeats 400000 in
theorem refNumber_any (n k : Nat) (w : World) (hk : k ≤ 60) (hn : n ≤ 1000000) : Calls Tryz.prog 85 #[.int .i64 n, .int .i64 k] w fun e w' => e = .returned (.string ⟨(Hm.bitStr (Hm.numBits n k)).toArray⟩) ∧ w' = w := by
  go_enter Tryz.func85, Tryz.ntmps85
  go_wp2
  go_loop [0, 5, 6] (fun x s i => ∃ j : Nat, j ≤ k ∧ i = .int .i64 j ∧ x = .int .i64 ((n / 2 ^ j : Nat) : Int) ∧ s = .string ⟨(Hm.bitStr (Hm.numBits n j)).toArray⟩) (fun _ _ i => k - (intOf i).toNat)
  case atStart => exact ⟨0, Nat.zero_le _, rfl, by simp, rfl⟩
  case round =>
    obtain ⟨j, hj, rfl, rfl, rfl⟩ := hrel
    have hyl : n / 2 ^ j ≤ 1000000 := Nat.le_trans (Nat.div_le_self _ _) hn
    have HP : Hid (n / 2 ^ (j + 1) = n / 2 ^ j / 2) := by show _ = _; rw [Nat.pow_succ, Nat.div_div_eq_div_mul]
    have hsl : (Hm.bitStr (Hm.numBits n j)).length = j := by simp [Hm.bitStr, Hm.numBits_length]
    have hsm : ¬ 9223372036854775807 < (Hm.bitStr (Hm.numBits n j)).length + 1 := by omega
    clear hsl
    by_cases hlt : j < k
    · have hdec : decide ((j : Int) < (k : Int)) = true := by simp; omega
      generalize hy : n / 2 ^ j = y at *
      by_cases hb : y % 2 = 1
      · have hb1 : (y : Int) % 2 = 1 := by omega
        have HS : Hid (Hm.bitStr (Hm.numBits n (j + 1)) = Hm.bitStr (Hm.numBits n j) ++ [49]) := by
          show _ = _
          rw [Hm.numBits_succ, hy, Hm.bitStr, List.map_append]; simp [Hm.bitStr, hb]
        have HY : Hid (n / 2 ^ j = y) := hy
        clear hy
        generalize Hm.bitStr (Hm.numBits n j) = l at *
        go_wp2
        go_round
        case rel => exact ⟨j + 1, by omega, by go_num, by rw [HP.out]; go_num, by rw [HS.out, str_snoc]⟩
        case measure => simp [intOf]; omega
      · have hb1 : ((y : Int) % 2 == 1) = false := by rw [beq_eq_false_iff_ne]; omega
        have HS : Hid (Hm.bitStr (Hm.numBits n (j + 1)) = Hm.bitStr (Hm.numBits n j) ++ [48]) := by
          show _ = _
          rw [Hm.numBits_succ, hy, Hm.bitStr, List.map_append]; simp [Hm.bitStr, hb]
        have HY : Hid (n / 2 ^ j = y) := hy
        clear hy
        generalize Hm.bitStr (Hm.numBits n j) = l at *
        go_wp2
        go_round
        case rel => exact ⟨j + 1, by omega, by go_num, by rw [HP.out]; go_num, by rw [HS.out, str_snoc]⟩
        case measure => simp [intOf]; omega
    · have hdec : decide ((j : Int) < (k : Int)) = false := by simp; omega
      have hje : j = k := by omega
      subst hje
      generalize n / 2 ^ j = y at *
      generalize hl : Hm.bitStr (Hm.numBits n j) = l at *
      have HL : Hid (Hm.bitStr (Hm.numBits n j) = l) := hl
      clear hl
      go_wp2
      go_ret
      exact ⟨by rw [HL.out]; rfl, rfl⟩
end Go.Proofs.YtegnkfdbmmndaaaGreat
end

/- RefD -/
section
/- The document's answer: numbers in bytes. -/
namespace Go.Proofs.YtegnkfdbmmndaaaGreat
open Go.RowKit

namespace Hm
def leTo (n k j : Nat) : List UInt8 := leBytes n j ++ List.replicate (k - j) 0
theorem leTo_succ (n k j : Nat) (h : j < k) : leTo n k (j + 1) = (leTo n k j).set j (UInt8.ofNat (n / 256 ^ j)) := by
  unfold leTo
  rw [List.set_append_right _ _ (by rw [leBytes_length]; omega), leBytes_length, Nat.sub_self, show k - j = (k - (j + 1)) + 1 from by omega, List.replicate_succ (n := k - (j + 1)), leBytes, List.append_assoc]
  rfl
end Hm
theorem made_bytes0 (m : Nat) : (madeCells (Value.int .u8 0).cells (m * 1)).toList = Hm.bcells (List.replicate m 0) := by
  rw [Nat.mul_one, show (Value.int .u8 0).cells = #[Value.int .u8 0] from rfl, toList_madeCells_one]
  simp [Hm.bcells]

set_option maxHeartbeats 1000000 in
theorem refBytes_any (n k : Nat) (w : World) (hk : k ≤ 8) (hk1 : 1 ≤ k) (hn : n ≤ 4294967296) : Calls Tryz.prog 41 #[.int .i64 n, .int .i64 k] w fun e w' => e = .returned (.string ⟨(Hm.leBytes n k).toArray⟩) ∧ Kept (fun _ => False) w w' := by
  obtain ⟨i0, hi, hz0, hz1, hz2⟩ := info_parts info_u8
  go_enter Tryz.func41, Tryz.ntmps41
  go_wp2_with (at_make; refine wpList_make_full _ rfl (.tmp 7) (.tmp 7) 79 rfl w.heap.size 5 i0 (.int .u8 0) 1 Tryz.underlying79 hi hz0 hz1 .i64 .i64 _ _ k rfl rfl (by omega) (by omega) (by rw [hz2]; omega) (by unfold maxLen; omega) (Nat.le_refl _) ?_; intro w2 ho2 hg2)
  have hr1 : w2.ownsRow w.heap.size 5 1 (.slice (some ⟨w.heap.size, 0, none⟩) k k) k (Hm.bcells (Hm.leTo n k 0)) := by
    have e : Hm.leTo n k 0 = List.replicate k 0 := by simp [Hm.leTo, Hm.leBytes]
    rw [e, ← made_bytes0]; exact ho2
  have hk1' : Kept (fun _ => False) w w2 := (Kept.refl _ _).grown hg2 (fun k hk => by cases hk)
  clear ho2 hg2
  go_loopw [0, 6] (fun x i wr => ∃ j : Nat, j ≤ k ∧ i = .int .i64 j ∧ x = .int .i64 ((n / 256 ^ j : Nat) : Int) ∧ wr.ownsRow w.heap.size 5 1 (.slice (some ⟨w.heap.size, 0, none⟩) k k) k (Hm.bcells (Hm.leTo n k j)) ∧ Kept (fun _ => False) w wr) (fun _ i _ => k - (intOf i).toNat)
  case atStart => exact ⟨0, Nat.zero_le _, rfl, by simp, hr1, hk1'⟩
  case round =>
    clear hr1 hk1'
    obtain ⟨j, hj, rfl, rfl, hr, hkr⟩ := hrel
    have hyl : n / 256 ^ j ≤ 4294967296 := Nat.le_trans (Nat.div_le_self _ _) hn
    have HP : Hid (n / 256 ^ (j + 1) = n / 256 ^ j / 256) := by show _ = _; rw [Nat.pow_succ, Nat.div_div_eq_div_mul]
    have hll : (Hm.leTo n k j).length = k := by simp [Hm.leTo, Hm.leBytes_length]; omega
    by_cases hlt : j < k
    · have hdec : decide ((j : Int) < (k : Int)) = true := by simp; omega
      have hc : wr.cell? ⟨w.heap.size, j, none⟩ = some (.int .u8 ((Hm.leTo n k j)[j]'(by omega)).toNat) := by
        rw [hr.cellAt j (by omega)]
        simp only [Hm.bcells, List.getElem?_map, List.getElem?_eq_getElem (show j < (Hm.leTo n k j).length by omega)]
        rfl
      have hf : wr.frozen? ⟨w.heap.size, j, none⟩ = false := hr.frozenAt _
      have HS := (hr.stored j (.int .u8 ((n / 256 ^ j % 256 : Nat) : Nat))).1
      have H2 : Hid ((wr.setCell ⟨w.heap.size, j, none⟩ (.int .u8 ((n / 256 ^ j % 256 : Nat) : Nat))).ownsRow w.heap.size 5 1 (.slice (some ⟨w.heap.size, 0, none⟩) k k) k (Hm.bcells (Hm.leTo n k (j + 1)))) := by
        show World.ownsRow _ _ _ _ _ _ _
        rw [Hm.leTo_succ _ _ _ hlt]
        have e2 : Hm.bcells ((Hm.leTo n k j).set j (UInt8.ofNat (n / 256 ^ j))) = (Hm.bcells (Hm.leTo n k j)).set j (.int .u8 ((n / 256 ^ j % 256 : Nat) : Nat)) := by
          rw [Hm.bcells, List.map_set, UInt8.toNat_ofNat']; rfl
        rw [e2]; exact HS
      generalize ((Hm.leTo n k j)[j]'(by omega)).toNat = old at hc
      clear HS hr hll
      generalize n / 256 ^ j = y at *
      go_wp2
      go_roundw
      case rel => exact ⟨j + 1, by omega, by go_num, by rw [HP.out]; go_num, by simpa using H2.out, hkr.setCell (.inl (Nat.le_refl _)) _⟩
      case measure => simp [intOf]; omega
    · have hdec : decide ((j : Int) < (k : Int)) = false := by simp; omega
      have hje : j = k := by omega
      subst hje
      have hcv := convert_own hr
      have e : Hm.leTo n j j = Hm.leBytes n j := by simp [Hm.leTo]
      rw [e] at hcv
      clear hr hll HP e
      generalize n / 256 ^ j = y at *
      generalize hl : Hm.leBytes n j = l at *
      have HL : Hid (Hm.leBytes n j = l) := hl
      clear hl
      go_wp2
      go_ret
      exact ⟨by rw [HL.out]; rfl, hkr⟩
end Go.Proofs.YtegnkfdbmmndaaaGreat
end

/- RefE -/
section
/- The document's answer: why files may not be packed. -/
namespace Go.Proofs.YtegnkfdbmmndaaaGreat
open Go.RowKit

theorem less_not : ∀ (a b : List UInt8), Op.bytesLess a b = !(Op.bytesLess b a || b == a)
  | [], [] => rfl
  | [], b :: y => rfl
  | a :: x, [] => rfl
  | a :: x, b :: y => by
    have ih := less_not x y
    simp only [Op.bytesLess, List.cons_beq_cons]
    rcases Nat.lt_trichotomy a.toNat b.toNat with h | h | h
    · have h1 : a < b := UInt8.lt_iff_toNat_lt.2 h
      have h2 : ¬ b < a := fun e => by have := UInt8.lt_iff_toNat_lt.1 e; omega
      have h3 : (b == a) = false := by rw [beq_eq_false_iff_ne]; rintro rfl; omega
      simp [h1, h2, h3]
    · have h1 : a = b := UInt8.toNat_inj.1 h
      subst h1
      have h2 : ¬ a < a := fun e => by have := UInt8.lt_iff_toNat_lt.1 e; omega
      simp [h2, ih]
    · have h1 : b < a := UInt8.lt_iff_toNat_lt.2 h
      have h2 : ¬ a < b := fun e => by have := UInt8.lt_iff_toNat_lt.1 e; omega
      have h3 : (a == b) = false := by rw [beq_eq_false_iff_ne]; rintro rfl; omega
      simp [h1, h2, h3]
theorem leB_empty (nm : ByteArray) (h : nm.size ≠ 0) : Hm.leB nm ⟨#[]⟩ = false := by
  have hl : nm.data.toList.length = nm.size := by simp
  unfold Hm.leB
  rw [ByteArray.toList_eq, ByteArray.toList_eq]
  cases e : nm.data.toList with
  | nil => rw [e] at hl; simp at hl; omega
  | cons x l => rfl
set_option maxHeartbeats 1000000 in
theorem refCheck_any (ao : Option Addr) (c : Nat) (fs : List (ByteArray × ByteArray)) (w : World) (hf : FilesAt w ao fs) (hl : fs.length ≤ 140737488355328) (hsz : ∀ f ∈ fs, f.1.size ≤ 140737488355328 ∧ f.2.size ≤ 140737488355328) :
    Calls Tryz.prog 38 #[.slice ao fs.length c] w fun e w' => e = .returned (.int .i64 (Hm.ckAll fs)) ∧ Kept (fun _ => False) w w' := by
  by_cases h40 : 40 < fs.length
  · clear hf
    go_enter Tryz.func38, Tryz.ntmps38
    go_wp2
    go_ret
    exact ⟨ret_int (by rw [Hm.ckAll, if_pos h40]), Kept.refl _ _⟩
  have HE : Hid (Hm.ckAll fs = Hm.ckLoop ⟨#[]⟩ 0 (fs.drop 0)) := by rw [Hm.ckAll, if_neg h40]; rfl
  generalize Hm.ckAll fs = E at HE ⊢
  go_enter Tryz.func38, Tryz.ntmps38
  go_wp2
  go_loopw [3, 4] (fun t i wr => ∃ (k : Nat) (tot : Nat) (ah : ByteArray), k ≤ fs.length ∧ i = .int .i64 k ∧ t = .int .i64 tot ∧ tot ≤ 3000 * k ∧ E = Hm.ckLoop ah tot (fs.drop k) ∧ (ah = if k = 0 then ⟨#[]⟩ else (fs.getD (k - 1) (⟨#[]⟩, ⟨#[]⟩)).1) ∧ Kept (fun _ => False) w wr) (fun _ i _ => fs.length - (intOf i).toNat)
  case atStart => exact ⟨0, 0, _, Nat.zero_le _, rfl, rfl, by omega, HE.out, rfl, Kept.refl _ _⟩
  case round =>
    clear HE
    obtain ⟨k, tot, ah, hk, rfl, rfl, ht, hE, hah, hkr⟩ := hrel
    have HE : Hid (E = Hm.ckLoop ah tot (fs.drop k)) := hE
    clear hE
    by_cases hlt : k < fs.length
    · obtain ⟨b, o, hao, hbw, hc1, hc2⟩ := (hf.kept hkr (fun a ha => id)) k hlt
      obtain ⟨hs1, hs2⟩ := hsz fs[k] (List.getElem_mem _)
      have HT : Hid (E = if Hm.ckFile fs[k].1 fs[k].2 ah = 0 then Hm.ckLoop fs[k].1 (tot + fs[k].2.size) (fs.drop (k + 1)) else Hm.ckFile fs[k].1 fs[k].2 ah) := HE.out.trans (Hm.ckLoop_drop fs k hlt ah tot)
      have hnx : (fs.getD (k + 1 - 1) (⟨#[]⟩, ⟨#[]⟩)).1 = fs[k].1 := by rw [Nat.add_sub_cancel, List.getD_eq_getElem?_getD, List.getElem?_eq_getElem hlt]; rfl
      have HNX : Hid (fs[k].1 = if k + 1 = 0 then ⟨#[]⟩ else (fs.getD (k + 1 - 1) (⟨#[]⟩, ⟨#[]⟩)).1) := by show _ = _; rw [if_neg (by omega), hnx]
      have hdec : decide ((k : Int) < (fs.length : Int)) = true := by simp; omega
      have hprev : ∀ k', k = k' + 1 → wr.cell? ⟨b, o + k' * 2, none⟩ = some (.string ah) := by
        intro k' hk'
        obtain ⟨b', o', hao', _, hd1, _⟩ := (hf.kept hkr (fun a ha => id)) k' (by omega)
        rw [hao'] at hao
        cases hao
        rw [hd1, hah, if_neg (by omega), show k - 1 = k' from by omega, List.getD_eq_getElem?_getD, List.getElem?_eq_getElem (by omega)]; rfl
      have h00 : k = 0 → ah = ⟨#[]⟩ := fun e => by rw [hah, if_pos e]
      generalize fs[k].1 = nm at *
      generalize fs[k].2 = ct at *
      subst hao
      clear hf HE hsz hah hnx
      by_cases b1 : nm.size = 0 ∨ 32 < nm.size
      · have HC : Hid (E = 2) := by show _ = _; rw [HT.out, ck_name b1]; rfl
        clear hprev h00
        rcases b1 with b1 | b1
        · have hd1 : decide (nm.size < 1) = true := decide_eq_true (by omega)
          have hd2 : decide ((nm.size : Int) < 1) = true := decide_eq_true (by omega)
          go_wp2
          go_ret
          exact ⟨ret_int HC.out.symm, hkr⟩
        · have hd1 : decide (nm.size < 1) = false := decide_eq_false (by omega)
          have hd2 : decide ((nm.size : Int) < 1) = false := decide_eq_false (by omega)
          have hd3 : decide (32 < (nm.size : Int)) = true := decide_eq_true (by omega)
          go_wp2
          go_ret
          exact ⟨ret_int HC.out.symm, hkr⟩
      · have hd1 : decide (nm.size < 1) = false := decide_eq_false (by omega)
        have hd2 : decide ((nm.size : Int) < 1) = false := decide_eq_false (by omega)
        have hd3 : decide (32 < (nm.size : Int)) = false := decide_eq_false (by omega)
        cases k with
        | zero =>
          simp only [Nat.zero_mul, Nat.add_zero] at hc1 hc2
          have hlt' : (0 : Int) < (fs.length : Int) := by omega
          have hlt2 : decide (0 < fs.length) = true := decide_eq_true hlt
          have hle0 : Hm.leB nm ah = false := by rw [h00 rfl]; exact leB_empty nm (by omega)
          clear hprev h00
          by_cases hbig : 3000 < ct.size
          · have HC : Hid (E = 4) := by
              show _ = _
              have hcf : Hm.ckFile nm ct ah = 4 := by rw [Hm.ckFile, if_neg b1, hle0, if_neg (show ¬ (false = true) by decide), if_pos hbig]
              rw [HT.out, hcf]; rfl
            have hd4 : decide (3000 < (ct.size : Int)) = true := decide_eq_true (by omega)
            go_wp2
            go_region
            go_wp2
            go_ret
            exact ⟨ret_int HC.out.symm, hkr.drew⟩
          · have HC : Hid (E = Hm.ckLoop nm (tot + ct.size) (fs.drop (0 + 1))) := by
              show _ = _
              have hcf : Hm.ckFile nm ct ah = 0 := by rw [Hm.ckFile, if_neg b1, hle0, if_neg (show ¬ (false = true) by decide), if_neg hbig]
              rw [HT.out, if_pos hcf]
            have hd4 : decide (3000 < (ct.size : Int)) = false := decide_eq_false (by omega)
            go_wp2
            go_region
            go_wp2
            go_roundw
            case rel => exact ⟨1, tot + ct.size, nm, by omega, by go_num, by go_num, by omega, HC.out, HNX.out, hkr.drew⟩
            case measure => simp [intOf]; omega
        | succ k' =>
          have hp1 := hprev k' rfl
          clear hprev h00
          have hk63 : k' ≤ 140737488355328 := by omega
          have hkl : (k' : Int) + 1 < (fs.length : Int) := by omega
          have hkl2 : (k' : Int) < (fs.length : Int) := by omega
          by_cases hle : Hm.leB nm ah = true
          · have HC : Hid (E = 3) := by
              show _ = _
              have hcf : Hm.ckFile nm ct ah = 3 := by rw [Hm.ckFile, if_neg b1, hle, if_pos rfl]
              rw [HT.out, hcf]; rfl
            have hbl : Op.bytesLess ah.toList nm.toList = false := by
              rw [less_not]; unfold Hm.leB at hle; rw [hle]; rfl
            clear hle
            go_wp2
            go_region
            go_wp2
            go_ret
            exact ⟨ret_int HC.out.symm, hkr.drew⟩
          · have hle0 : Hm.leB nm ah = false := by simpa using hle
            have hbl : Op.bytesLess ah.toList nm.toList = true := by
              rw [less_not]; unfold Hm.leB at hle0; rw [hle0]; rfl
            clear hle
            by_cases hbig : 3000 < ct.size
            · have HC : Hid (E = 4) := by
                show _ = _
                have hcf : Hm.ckFile nm ct ah = 4 := by rw [Hm.ckFile, if_neg b1, hle0, if_neg (show ¬ (false = true) by decide), if_pos hbig]
                rw [HT.out, hcf]; rfl
              have hd4 : decide (3000 < (ct.size : Int)) = true := decide_eq_true (by omega)
              clear hle0
              go_wp2
              go_region
              go_wp2
              go_ret
              exact ⟨ret_int HC.out.symm, hkr.drew⟩
            · have HC : Hid (E = Hm.ckLoop nm (tot + ct.size) (fs.drop (k' + 1 + 1))) := by
                show _ = _
                have hcf : Hm.ckFile nm ct ah = 0 := by rw [Hm.ckFile, if_neg b1, hle0, if_neg (show ¬ (false = true) by decide), if_neg hbig]
                rw [HT.out, if_pos hcf]
              have hd4 : decide (3000 < (ct.size : Int)) = false := decide_eq_false (by omega)
              clear hle0
              go_wp2
              go_region
              go_wp2
              go_roundw
              case rel => exact ⟨k' + 1 + 1, tot + ct.size, nm, by omega, by go_num, by go_num, by omega, HC.out, HNX.out, hkr.drew⟩
              case measure => simp [intOf]; omega
    · obtain rfl : k = fs.length := by omega
      have HT2 : Hid (E = if 6000 < tot then 5 else 0) := by have h := HE.out; rw [List.drop_length] at h; exact h
      have hdec : decide ((fs.length : Int) < (fs.length : Int)) = false := by simp
      clear HE hf hah
      by_cases h6 : 6000 < tot
      · go_wp2
        go_ret
        exact ⟨ret_int (by rw [HT2.out, if_pos h6]), hkr⟩
      · go_wp2
        go_ret
        exact ⟨ret_int (by rw [HT2.out, if_neg h6]), hkr⟩
end Go.Proofs.YtegnkfdbmmndaaaGreat
end

/- RefF -/
section
/- The document's answer: the text. -/
namespace Go.Proofs.YtegnkfdbmmndaaaGreat
open Go.RowKit

namespace Hm
/-- All contents, file behind file. -/
def refText (fs : List (ByteArray × ByteArray)) : List UInt8 := fs.flatMap fun f => f.2.data.toList
theorem refText_take (fs : List (ByteArray × ByteArray)) (k : Nat) (h : k < fs.length) : refText (fs.take (k + 1)) = refText (fs.take k) ++ fs[k].2.data.toList := by
  rw [List.take_succ_eq_append_getElem h]; unfold refText; rw [List.flatMap_append]; congr 1; simp
theorem refText_le (fs : List (ByteArray × ByteArray)) (M : Nat) (h : ∀ f ∈ fs, f.2.size ≤ M) : ∀ k, k ≤ fs.length → (refText (fs.take k)).length ≤ M * k
  | 0, _ => by simp [refText]
  | k + 1, hk => by
    have ih := refText_le fs M h k (by omega)
    have h2 := h fs[k] (List.getElem_mem _)
    have h3 : fs[k].2.data.toList.length = fs[k].2.size := by simp
    rw [refText_take fs k (by omega), List.length_append, Nat.mul_succ]; omega
end Hm
theorem str_app (l : List UInt8) (s : ByteArray) : (⟨l.toArray⟩ : ByteArray) ++ s = ⟨(l ++ s.data.toList).toArray⟩ := by
  apply ByteArray.ext
  simp [ByteArray.data_append]

set_option maxHeartbeats 1000000 in
theorem refText_any (ao : Option Addr) (c : Nat) (fs : List (ByteArray × ByteArray)) (w : World) (hf : FilesAt w ao fs) (hl : fs.length ≤ 40) (hsz : ∀ f ∈ fs, f.2.size ≤ 3000) :
    Calls Tryz.prog 39 #[.slice ao fs.length c] w fun e w' => e = .returned (.string ⟨(Hm.refText fs).toArray⟩) ∧ w' = w := by
  go_enter Tryz.func39, Tryz.ntmps39
  go_wp2
  go_loop [3, 4] (fun t i => ∃ k : Nat, k ≤ fs.length ∧ i = .int .i64 k ∧ t = .string ⟨(Hm.refText (fs.take k)).toArray⟩) (fun _ i => fs.length - (intOf i).toNat)
  case atStart => exact ⟨0, Nat.zero_le _, rfl, rfl⟩
  case round =>
    obtain ⟨k, hk, rfl, rfl⟩ := hrel
    have hle := Hm.refText_le fs 3000 hsz k hk
    by_cases hlt : k < fs.length
    · obtain ⟨b, o, hao, hbw, hc1, hc2⟩ := hf k hlt
      have hs2 := hsz fs[k] (List.getElem_mem _)
      have HT : Hid (Hm.refText (fs.take (k + 1)) = Hm.refText (fs.take k) ++ fs[k].2.data.toList) := Hm.refText_take fs k hlt
      have hdec : decide ((k : Int) < (fs.length : Int)) = true := decide_eq_true (by omega)
      generalize fs[k].2 = ct at *
      subst hao
      clear hf hsz
      have hsm : ¬ 9223372036854775807 < (Hm.refText (fs.take k)).length + ct.size := by omega
      generalize Hm.refText (fs.take k) = l at *
      go_wp2
      go_round
      case rel => exact ⟨k + 1, by omega, by go_num, by rw [HT.out, str_app]⟩
      case measure => simp [intOf]; omega
    · have hke : k = fs.length := by omega
      subst hke
      have hdec : decide ((fs.length : Int) < (fs.length : Int)) = false := by simp
      rw [List.take_length]
      generalize hl' : Hm.refText fs = l at *
      have HL : Hid (Hm.refText fs = l) := hl'
      clear hl' hf hsz hle
      go_wp2
      go_ret
      exact ⟨by rw [HL.out]; rfl, rfl⟩
end Go.Proofs.YtegnkfdbmmndaaaGreat
end

/- RefG -/
section
/- The document's answer: bits in bytes. -/
namespace Go.Proofs.YtegnkfdbmmndaaaGreat
open Go.RowKit

namespace Hm
theorem byte8_add (f : Nat → Bool) (j : Nat) (hj : j < 8) (h : f j = false) : byte8 f + 2 ^ j = byte8 (fun k => if k = j then true else f k) := by
  unfold byte8
  match j, hj with
  | 0, _ => simp [h]; omega
  | 1, _ => simp [h]; omega
  | 2, _ => simp [h]; omega
  | 3, _ => simp [h]; omega
  | 4, _ => simp [h]; omega
  | 5, _ => simp [h]; omega
  | 6, _ => simp [h]; omega
  | 7, _ => simp [h]
theorem packBits_add (bits : List Bool) (k : Nat) (h : k < bits.length) (h0 : bits.getD k false = false) : packBits (bits.set k true) = (packBits bits).set (k / 8) (UInt8.ofNat (byteN bits (k / 8) + 2 ^ (k % 8))) := by
  rw [packBits_set bits k h]
  congr 2
  rw [byteN, byte8_or _ _ (by omega), byte8_add _ _ (by omega) (by rw [show 8 * (k / 8) + k % 8 = k from by omega]; exact h0)]
theorem byteN_add_lt (bits : List Bool) (k : Nat) (h0 : bits.getD k false = false) : byteN bits (k / 8) + 2 ^ (k % 8) < 256 := by
  rw [byteN, byte8_add _ _ (by omega) (by rw [show 8 * (k / 8) + k % 8 = k from by omega]; exact h0)]
  exact byte8_lt _
def padTo (bits : List Bool) (k : Nat) : List Bool := bits.take k ++ List.replicate (bits.length - k) false
theorem padTo_length (bits : List Bool) (k : Nat) (h : k ≤ bits.length) : (padTo bits k).length = bits.length := by simp [padTo]; omega
theorem padTo_get (bits : List Bool) (k : Nat) (h : k ≤ bits.length) : (padTo bits k).getD k false = false := by
  unfold padTo
  rw [List.getD_eq_getElem?_getD, List.getElem?_append_right (by simp; omega), List.getElem?_replicate]
  split <;> rfl
theorem padTo_succ (bits : List Bool) (k : Nat) (h : k < bits.length) : padTo bits (k + 1) = (padTo bits k).set k bits[k] := by
  unfold padTo
  have hl : (bits.take k).length = k := by simp; omega
  rw [List.set_append_right _ _ (by omega), hl, Nat.sub_self, show bits.length - k = (bits.length - (k + 1)) + 1 from by omega, List.replicate_succ, List.take_succ_eq_append_getElem h, List.append_assoc]
  rfl
theorem padTo_same (bits : List Bool) (k : Nat) (h : k < bits.length) (h0 : bits[k] = false) : padTo bits (k + 1) = padTo bits k := by
  rw [padTo_succ bits k h, h0]
  apply List.ext_getElem
  · simp
  · intro i h1 h2
    rw [List.getElem_set]
    split
    · rename_i e
      have := padTo_get bits k (by omega)
      subst e
      rw [List.getD_eq_getElem?_getD, List.getElem?_eq_getElem h2] at this
      simpa using this.symm
    · rfl
theorem padTo_zero (bits : List Bool) : packBits (padTo bits 0) = List.replicate ((bits.length + 7) / 8) 0 := by
  have e : padTo bits 0 = [] ++ List.replicate bits.length false := by simp [padTo]
  rw [e, packBits_grow]
  simp [packBits]
theorem padTo_all (bits : List Bool) : padTo bits bits.length = bits := by simp [padTo]
end Hm

set_option maxHeartbeats 2000000 in
theorem refFilled_any (bits : List Bool) (w : World) (hl : bits.length ≤ 100000000) : Calls Tryz.prog 42 #[.string ⟨(Hm.bitStr bits).toArray⟩] w fun e w' => e = .returned (.string ⟨(Hm.packBits bits).toArray⟩) ∧ Kept (fun _ => False) w w' := by
  obtain ⟨i0, hi, hz0, hz1, hz2⟩ := info_parts info_u8
  obtain ⟨s, hs⟩ : ∃ s, s = (⟨(Hm.bitStr bits).toArray⟩ : ByteArray) := ⟨_, rfl⟩
  have hsz : s.size = bits.length := by rw [hs]; show (Hm.bitStr bits).toArray.size = _; simp [Hm.bitStr]
  have hget : ∀ k, (h : k < s.size) → (h2 : k < bits.length) → s[k] = if bits[k] then 49 else 48 := fun k h h2 => by
    subst hs
    show (Hm.bitStr bits).toArray[k]'_ = _
    simp [Hm.bitStr]
  rw [← hs]
  have HS : Aside (s.size = bits.length) := hsz
  have HG : Aside _ := hget
  have hsl : s.size ≤ 100000000 := by omega
  clear hget hs hsz
  go_enter Tryz.func42, Tryz.ntmps42
  go_wp2_with (at_make; refine wpList_make_full _ rfl (.tmp 8) (.tmp 8) 79 rfl w.heap.size 5 i0 (.int .u8 0) 1 Tryz.underlying79 hi hz0 hz1 .i64 .i64 _ _ ((s.size + 7) / 8) rfl rfl (by omega) (by omega) (by rw [hz2]; omega) (by unfold maxLen; omega) (Nat.le_refl _) ?_; intro w2 ho2 hg2)
  have hr1 : w2.ownsRow w.heap.size 5 1 (.slice (some ⟨w.heap.size, 0, none⟩) ((s.size + 7) / 8) ((s.size + 7) / 8)) ((s.size + 7) / 8) (Hm.bcells (Hm.packBits (Hm.padTo bits 0))) := by
    rw [Hm.padTo_zero, ← HS.out, ← made_bytes0]; exact ho2
  have hk1 : Kept (fun _ => False) w w2 := (Kept.refl _ _).grown hg2 (fun k hk => by cases hk)
  clear ho2 hg2
  go_loopw [4] (fun i wr => ∃ k : Nat, k ≤ s.size ∧ i = .int .i64 k ∧ wr.ownsRow w.heap.size 5 1 (.slice (some ⟨w.heap.size, 0, none⟩) ((s.size + 7) / 8) ((s.size + 7) / 8)) ((s.size + 7) / 8) (Hm.bcells (Hm.packBits (Hm.padTo bits k))) ∧ Kept (fun _ => False) w wr) (fun i _ => s.size - (intOf i).toNat)
  case atStart => exact ⟨0, Nat.zero_le _, rfl, hr1, hk1⟩
  case round =>
    clear hr1 hk1
    obtain ⟨k, hk, rfl, hr, hkr⟩ := hrel
    by_cases hlt : k < s.size
    · have hdec : decide ((k : Int) < (s.size : Int)) = true := decide_eq_true (by omega)
      have hkb : k < bits.length := by have := HS.out; omega
      have hsk := HG.out k hlt hkb
      by_cases hb : bits[k] = true
      · rw [if_pos hb] at hsk
        have hpl := Hm.padTo_length bits k (by omega)
        have h0 := Hm.padTo_get bits k (by omega)
        have hlt8 := Hm.byteN_add_lt (Hm.padTo bits k) k h0
        have hby := Hm.byteN_lt (Hm.padTo bits k) (k / 8)
        have hc1 : wr.cell? ⟨w.heap.size, k / 8, none⟩ = some (.int .u8 (Hm.byteN (Hm.padTo bits k) (k / 8) : Nat)) := by
          rw [hr.cellAt (k / 8) (by omega)]
          simp only [Hm.bcells, List.getElem?_map]
          rw [List.getElem?_eq_getElem (by rw [Hm.packBits_length, hpl]; omega), Hm.packBits_get]
          simp; omega
        have hf1 : wr.frozen? ⟨w.heap.size, k / 8, none⟩ = false := hr.frozenAt _
        have HST := (hr.stored (k / 8) (.int .u8 ((Hm.byteN (Hm.padTo bits k) (k / 8) + 2 ^ (k % 8) : Nat) : Int))).1
        have e2 : Hm.packBits (Hm.padTo bits (k + 1)) = (Hm.packBits (Hm.padTo bits k)).set (k / 8) (UInt8.ofNat (Hm.byteN (Hm.padTo bits k) (k / 8) + 2 ^ (k % 8))) := by
          rw [Hm.padTo_succ _ _ hkb, hb]; exact Hm.packBits_add _ _ (by omega) h0
        have e3 : Hm.bcells ((Hm.packBits (Hm.padTo bits k)).set (k / 8) (UInt8.ofNat (Hm.byteN (Hm.padTo bits k) (k / 8) + 2 ^ (k % 8)))) = (Hm.bcells (Hm.packBits (Hm.padTo bits k))).set (k / 8) (.int .u8 ((Hm.byteN (Hm.padTo bits k) (k / 8) + 2 ^ (k % 8) : Nat) : Int)) := by
          rw [Hm.bcells, List.map_set, Hm.u8cell hlt8]; rfl
        have H2 : Hid ((wr.setCell ⟨w.heap.size, k / 8, none⟩ (.int .u8 ((Hm.byteN (Hm.padTo bits k) (k / 8) + 2 ^ (k % 8) : Nat) : Int))).ownsRow w.heap.size 5 1 (.slice (some ⟨w.heap.size, 0, none⟩) ((s.size + 7) / 8) ((s.size + 7) / 8)) ((s.size + 7) / 8) (Hm.bcells (Hm.packBits (Hm.padTo bits (k + 1))))) := by
          show World.ownsRow _ _ _ _ _ _ _
          rw [e2, e3]; exact HST
        have hp : 2 ^ (k % 8) < 256 := Nat.pow_lt_pow_right (a := 2) (by omega) (by omega : k % 8 < 8)
        generalize Hm.byteN (Hm.padTo bits k) (k / 8) = y at *
        have hp2 : ((2 : Int) ^ (k % 8)) = ((2 ^ (k % 8) : Nat) : Int) := by simp
        obtain ⟨z, hz⟩ : ∃ z, z = 2 ^ (k % 8) := ⟨_, rfl⟩
        rw [← hz] at H2 hp2 hlt8 hp
        have hz2 : IntKind.u8.wrap ((y : Int) + (z : Int)) = (y : Int) + (z : Int) := by rw [IntKind.wrap_u8]; omega
        have H3 : Hid ((wr.setCell ⟨w.heap.size, k / 8, none⟩ (.int .u8 ((y : Int) + (z : Int)))).ownsRow w.heap.size 5 1 (.slice (some ⟨w.heap.size, 0, none⟩) ((s.size + 7) / 8) ((s.size + 7) / 8)) ((s.size + 7) / 8) (Hm.bcells (Hm.packBits (Hm.padTo bits (k + 1))))) := by
          have := H2.out
          rw [show ((y + z : Nat) : Int) = (y : Int) + (z : Int) from by omega] at this
          exact this
        have hki : (k : Int) / 8 < ((s.size : Int) + 7) / 8 := by omega
        have hzm : (z : Int) % 256 = (z : Int) := by omega
        clear HST hr hpl h0 e2 e3 hb H2 HG hz
        go_wp2_with fail
        go_region
        go_wp2
        go_roundw
        case rel => exact ⟨k + 1, by omega, by go_num, H3.out, (hkr.setCell (.inl (Nat.le_refl _)) _).drew⟩
        case measure => simp [intOf]; omega
      · have hb' : bits[k] = false := by simpa using hb
        rw [if_neg hb] at hsk
        rw [← Hm.padTo_same bits k hkb hb'] at hr
        have HR : Hid (wr.ownsRow w.heap.size 5 1 (.slice (some ⟨w.heap.size, 0, none⟩) ((s.size + 7) / 8) ((s.size + 7) / 8)) ((s.size + 7) / 8) (Hm.bcells (Hm.packBits (Hm.padTo bits (k + 1))))) := hr
        clear hr hb hb' HG
        go_wp2
        go_roundw
        case rel => exact ⟨k + 1, by omega, by go_num, HR.out, hkr⟩
        case measure => simp [intOf]; omega
    · obtain rfl : k = s.size := by omega
      have hdec : decide ((s.size : Int) < (s.size : Int)) = false := decide_eq_false (by omega)
      rw [HS.out, Hm.padTo_all, ← HS.out] at hr
      have hcv := convert_own hr
      obtain ⟨q, hq⟩ : ∃ q, q = (⟨(Hm.packBits bits).toArray⟩ : ByteArray) := ⟨_, rfl⟩
      rw [← hq] at hcv
      have HQ : Aside (q = (⟨(Hm.packBits bits).toArray⟩ : ByteArray)) := hq
      clear hr HG hq
      go_wp2
      go_ret
      exact ⟨by rw [HQ.out]; rfl, hkr⟩

end Go.Proofs.YtegnkfdbmmndaaaGreat
end

/- RefH -/
section
/- The document's answer: the samples. -/
namespace Go.Proofs.YtegnkfdbmmndaaaGreat
open Go.RowKit

namespace Hm
theorem bitStr_append (a b : List Bool) : bitStr (a ++ b) = bitStr a ++ bitStr b := by simp [bitStr]
theorem bitStr_length (a : List Bool) : (bitStr a).length = a.length := by simp [bitStr]
end Hm
theorem str_two (a b : List UInt8) : (⟨a.toArray⟩ : ByteArray) ++ ⟨b.toArray⟩ = ⟨(a ++ b).toArray⟩ := by
  apply ByteArray.ext
  simp [ByteArray.data_append]

set_option maxHeartbeats 2000000 in
theorem refSamples_any (ao : Option Addr) (c : Nat) (ps : List Nat) (w : World) (hi : IntsAt w ao ps) (hm1 : 1 ≤ ps.length) (hm : ps.length ≤ 6001) (he : ∀ p ∈ ps, p ≤ 6000) :
    Calls Tryz.prog 47 #[.slice ao ps.length c] w fun e w' => e = .returned (.string ⟨(Hm.bitStr (Hm.samples ps)).toArray⟩) ∧ ∃ q, w' = w.drewN q := by
  have hw10 : Lib.bitLen ((ps.length - 1) / 8) ≤ 10 := Lib.bitLen_le _ 10 (by omega) (by omega)
  have HR : Hid (Hm.samples ps = (ps.map fun p => decide (p % 8 = 0)) ++ Hm.sampBits ps (Lib.bitLen ((ps.length - 1) / 8))) := rfl
  rw [HR.out, Hm.bitStr_append, ← str_two]
  have hwd := fun W => refWide_any (ps.length - 1) W (by omega)
  rw [show ((ps.length - 1 : Nat) : Int) = (ps.length : Int) - 1 from by omega] at hwd
  generalize Lib.bitLen ((ps.length - 1) / 8) = L at *
  clear HR
  go_enter Tryz.func47, Tryz.ntmps47
  go_wp2_with fail
  go_loopw [4, 5, 6] (fun ms rs i wr => ∃ k : Nat, k ≤ ps.length ∧ i = .int .i64 k ∧ ms = .string ⟨(Hm.bitStr ((ps.take k).map fun p => decide (p % 8 = 0))).toArray⟩ ∧ rs = .string ⟨(Hm.bitStr (Hm.sampBits (ps.take k) L)).toArray⟩ ∧ ∃ q, wr = w.drewN q) (fun _ _ i _ => ps.length - (intOf i).toNat)
  case atStart => exact ⟨0, Nat.zero_le _, rfl, rfl, rfl, 0, rfl⟩
  case round =>
    obtain ⟨k, hk, rfl, rfl, rfl, hq⟩ := hrel
    have HW : Aside (∃ q, wr = w.drewN q) := hq
    have hcw : ∀ p, wr.cell? p = w.cell? p := fun p => by obtain ⟨q, e⟩ := hq; rw [e]; rfl
    clear hq
    have hl1 : (Hm.bitStr ((ps.take k).map fun p => decide (p % 8 = 0))).length ≤ 6001 := by rw [Hm.bitStr_length]; simp; omega
    have hl2 : (Hm.bitStr (Hm.sampBits (ps.take k) L)).length ≤ 60010 := by
      rw [Hm.bitStr_length]
      have h1 := Hm.sampBits_le (ps.take k) L
      have h2 : (ps.take k).length * L ≤ 6001 * 10 := Nat.mul_le_mul (by simp; omega) hw10
      omega
    by_cases hlt : k < ps.length
    · obtain ⟨b, o, hao, hbw, hc1⟩ := hi k hlt
      have hek := he ps[k] (List.getElem_mem _)
      have HT : Hid (Hm.bitStr ((ps.take (k + 1)).map fun p => decide (p % 8 = 0)) = Hm.bitStr ((ps.take k).map fun p => decide (p % 8 = 0)) ++ [if ps[k] % 8 = 0 then 49 else 48]) := by
        show _ = _
        rw [List.take_succ_eq_append_getElem hlt, List.map_append, Hm.bitStr_append]
        by_cases e : ps[k] % 8 = 0 <;> simp [Hm.bitStr, e]
      have HT2 : Hid (Hm.sampBits (ps.take (k + 1)) L = Hm.sampBits (ps.take k) L ++ if ps[k] % 8 = 0 then Hm.numBits (ps[k] / 8) L else []) := Hm.sampBits_take ps L k hlt
      have hdec : decide ((k : Int) < (ps.length : Int)) = true := decide_eq_true (by omega)
      generalize ps[k] = x at *
      subst hao
      have hc : wr.cell? ⟨b, o + k, none⟩ = some (.int .i64 (x : Nat)) := by rw [hcw]; exact hc1
      clear hc1 hcw
      have hsm1 : ¬ 9223372036854775807 < (Hm.bitStr ((ps.take k).map fun p => decide (p % 8 = 0))).length + 1 := by omega
      clear hi he
      by_cases hx8 : x % 8 = 0
      · have hnum := fun W => refNumber_any (x / 8) L W (by omega) (by omega)
        rw [show ((x / 8 : Nat) : Int) = (x : Int) / 8 from by omega] at hnum
        have hx1 : ((x : Int) % 8 == 0) = true := by simp; omega
        rw [if_pos hx8] at HT HT2
        have HT3 : Hid (Hm.bitStr (Hm.sampBits (ps.take (k + 1)) L) = Hm.bitStr (Hm.sampBits (ps.take k) L) ++ Hm.bitStr (Hm.numBits (x / 8) L)) := by
          show _ = _
          rw [HT2.out, Hm.bitStr_append]
        have hnl : (Hm.bitStr (Hm.numBits (x / 8) L)).length ≤ 10 := by rw [Hm.bitStr_length, Hm.numBits_length]; exact hw10
        have hsm2 : ¬ 9223372036854775807 < (Hm.bitStr (Hm.sampBits (ps.take k) L)).length + (Hm.bitStr (Hm.numBits (x / 8) L)).length := by omega
        clear HT2 hl1 hl2 hnl
        generalize Hm.bitStr ((ps.take k).map fun p => decide (p % 8 = 0)) = A at *
        generalize Hm.bitStr (Hm.sampBits (ps.take k) L) = B at *
        generalize Hm.bitStr (Hm.numBits (x / 8) L) = C at *
        go_wp2_with fail
        go_quiet (first | (refine Calls.quiet_of_same (hwd _)) | (refine Calls.quiet_of_same (hnum _)))
        go_wp2
        go_roundw
        case rel =>
          obtain ⟨q, e⟩ := HW.out
          exact ⟨k + 1, by omega, by go_num, by rw [HT.out, str_snoc], by rw [HT3.out, str_two], q + nq, by rw [e, World.drewN_drewN]⟩
        case measure => simp [intOf]; omega
      · have hx1 : ((x : Int) % 8 == 0) = false := by simp; omega
        rw [if_neg hx8] at HT HT2
        rw [List.append_nil] at HT2
        clear hl1 hl2
        generalize Hm.bitStr ((ps.take k).map fun p => decide (p % 8 = 0)) = A at *
        obtain ⟨B, hB⟩ : ∃ B, B = Hm.bitStr (Hm.sampBits (ps.take k) L) := ⟨_, rfl⟩
        rw [← hB]
        have HB : Aside (B = Hm.bitStr (Hm.sampBits (ps.take k) L)) := hB
        clear hB
        go_wp2
        go_roundw
        case rel => exact ⟨k + 1, by omega, by go_num, by rw [HT.out, str_snoc], by rw [HT2.out, HB.out], HW.out⟩
        case measure => simp [intOf]; omega
    · obtain rfl : k = ps.length := by omega
      have hdec : decide ((ps.length : Int) < (ps.length : Int)) = false := decide_eq_false (by omega)
      rw [List.take_length] at hl1 hl2 ⊢
      have hsm : ¬ 9223372036854775807 < (Hm.bitStr (ps.map fun p => decide (p % 8 = 0))).length + (Hm.bitStr (Hm.sampBits ps L)).length := by omega
      obtain ⟨A, hA⟩ : ∃ A, A = Hm.bitStr (ps.map fun p => decide (p % 8 = 0)) := ⟨_, rfl⟩
      obtain ⟨B, hB⟩ : ∃ B, B = Hm.bitStr (Hm.sampBits ps L) := ⟨_, rfl⟩
      rw [← hA, ← hB] at hsm
      rw [← hA, ← hB]
      have HAB : Aside (A = Hm.bitStr (ps.map fun p => decide (p % 8 = 0)) ∧ B = Hm.bitStr (Hm.sampBits ps L)) := ⟨hA, hB⟩
      clear hA hB hl1 hl2 hi he hcw
      go_wp2
      go_ret
      exact ⟨by rw [← HAB.out.1, ← HAB.out.2]; rfl, HW.out⟩

end Go.Proofs.YtegnkfdbmmndaaaGreat
end

/- RefI -/
section
/- The document's answer: the files' ends. -/
namespace Go.Proofs.YtegnkfdbmmndaaaGreat
open Go.RowKit

namespace Hm
def hiSets (es : List Nat) (l : Nat) (R : List Bool) : Nat → List Bool
  | 0 => R
  | k + 1 => (hiSets es l R k).set (es.getD k 0 / 2 ^ l + k) true
theorem hiSets_length (es : List Nat) (l : Nat) (R : List Bool) (k : Nat) : (hiSets es l R k).length = R.length := by
  induction k with
  | zero => rfl
  | succ k ih => simp [hiSets, ih]
theorem endSets_split (es : List Nat) (l : Nat) (B R : List Bool) (k : Nat) : endSets es l B.length (B ++ R) k = B ++ hiSets es l R k := by
  induction k with
  | zero => rfl
  | succ k ih =>
    rw [endSets, ih, hiSets, Nat.add_assoc, List.set_append_right _ _ (Nat.le_add_right _ _), Nat.add_sub_cancel_left]
theorem endsBits_split (es : List Nat) (n : Nat) : endsBits es n = endLow es (lowW es.length n) ++ hiSets es (lowW es.length n) (List.replicate (es.length + n / 2 ^ lowW es.length n + 1) false) es.length := endSets_split _ _ _ _ _
theorem numBits_mod (x k : Nat) : numBits (x % 2 ^ k) k = numBits x k := by
  unfold numBits
  refine List.map_congr_left fun i hi => ?_
  have h : i < k := by simpa using hi
  rw [← Nat.testBit_eq_decide_div_mod_eq, ← Nat.testBit_eq_decide_div_mod_eq, Nat.testBit_mod_two_pow]
  simp [h]
theorem bitStr_set (l : List Bool) (i : Nat) : bitStr (l.set i true) = (bitStr l).set i 49 := by
  unfold bitStr; rw [List.map_set]; rfl
theorem endsOf_getD (fs : List (ByteArray × ByteArray)) (k : Nat) (h : k < fs.length) : (endsOf fs).getD k 0 = (textOf (fs.take (k + 1))).length := by
  unfold endsOf
  rw [List.getD_eq_getElem?_getD, List.getElem?_map, List.getElem?_range h]; rfl
theorem textOf_next (fs : List (ByteArray × ByteArray)) (k : Nat) (h : k < fs.length) : (textOf (fs.take (k + 1))).length = (textOf (fs.take k)).length + fs[k].2.size := by
  rw [List.take_succ_eq_append_getElem h]; unfold textOf; rw [List.flatMap_append, List.length_append]; simp
theorem textOf_part (fs : List (ByteArray × ByteArray)) (k : Nat) : (textOf (fs.take k)).length ≤ (textOf fs).length := by
  conv => rhs; rw [← List.take_append_drop k fs]
  unfold textOf; rw [List.flatMap_append, List.length_append]; omega
end Hm

set_option maxHeartbeats 400000 in
theorem refEnds_any (ao : Option Addr) (c : Nat) (fs : List (ByteArray × ByteArray)) (n : Nat) (w : World) (hf : FilesAt w ao fs) (hm : fs.length ≤ 40) (hn : n = (Hm.textOf fs).length) (hn6 : n ≤ 6000) :
    Calls Tryz.prog 43 #[.slice ao fs.length c, .int .i64 n] w fun e w' => e = .returned (.string ⟨(Hm.bitStr (Hm.endsBits (Hm.endsOf fs) n)).toArray⟩) ∧ Kept (fun _ => False) w w' := by
  obtain ⟨i0, hi, hz0, hz1, hz2⟩ := info_parts info_u8
  have hlow := fun W => refLow_any fs.length n W (by omega) hn6
  have hL := Hm.lowW_le fs.length n hn6
  have hpw := fun W => refPower_any (Hm.lowW fs.length n) W (by omega)
  have HR : Aside (Hm.bitStr (Hm.endsBits (Hm.endsOf fs) n) = Hm.bitStr (Hm.endLow (Hm.endsOf fs) (Hm.lowW fs.length n)) ++ Hm.bitStr (Hm.hiSets (Hm.endsOf fs) (Hm.lowW fs.length n) (List.replicate (fs.length + n / 2 ^ Hm.lowW fs.length n + 1) false) fs.length)) := by
    show _ = _
    rw [Hm.endsBits_split, Hm.bitStr_append, Hm.endsOf_length]
  generalize Hm.lowW fs.length n = L at *
  obtain ⟨p, hp⟩ : ∃ p, p = 2 ^ L := ⟨_, rfl⟩
  rw [← hp] at hpw HR
  have hp1 : 1 ≤ p := by rw [hp]; exact Nat.two_pow_pos _
  have HP : Aside (p = 2 ^ L) := hp
  have HN : Aside (n = (Hm.textOf fs).length) := hn
  have HF : Aside _ := hf
  clear hn hf hp
  obtain ⟨q, hq⟩ : ∃ q, q = n / p := ⟨_, rfl⟩
  have hqn : q ≤ n := by rw [hq]; exact Nat.div_le_self _ _
  have zq : (n : Int) / (p : Int) = (q : Int) := by rw [hq]; simp
  have HQ : Aside (q = n / p) := hq
  clear hq
  obtain ⟨NN, hNN⟩ : ∃ N, N = fs.length + q + 1 := ⟨_, rfl⟩
  have HNN : Aside (NN = fs.length + q + 1) := hNN
  have zN : (fs.length : Int) + (q : Int) + 1 = (NN : Int) := by omega
  have hN1 : fs.length + q < NN := by omega
  have hN2 : NN ≤ 6100 := by omega
  rw [← HQ.out, ← hNN] at HR
  clear hNN
  have hqw : IntKind.i64.wrap (q : Int) = (q : Int) := by rw [IntKind.wrap_i64]; omega
  have HP1 : Aside (1 ≤ p) := hp1
  have hp00 : ¬ p = 0 := by omega
  go_enter Tryz.func43, Tryz.ntmps43
  go_wp2_with fail
  refine (hlow _).mono ?_
  rintro e w1 ⟨rfl, hw1⟩
  subst w1
  go_wp2_with fail
  refine (hpw _).mono ?_
  rintro e w1 ⟨rfl, hw1⟩
  subst w1
  clear hlow hpw hp1
  go_wp2_with (at_make; refine wpList_make_full _ rfl (.tmp 25) (.tmp 25) 79 rfl w.heap.size 5 i0 (.int .u8 0) 1 Tryz.underlying79 hi hz0 hz1 .i64 .i64 _ _ NN rfl rfl (by omega) (by omega) (by rw [hz2]; omega) (by unfold maxLen; omega) (Nat.le_refl _) ?_; intro w2 ho2 hg2)
  have hr1 : w2.ownsRow w.heap.size 5 1 (.slice (some ⟨w.heap.size, 0, none⟩) NN NN) NN (Hm.bcells (List.replicate 0 48 ++ List.replicate (NN - 0) 0)) := by
    rw [List.replicate_zero, List.nil_append, Nat.sub_zero, ← made_bytes0]; exact ho2
  have hk1 : Kept (fun _ => False) w w2 := (Kept.refl _ _).grown hg2 (fun k hk => by cases hk)
  clear ho2 hg2
  go_loopw [10] (fun i wr => ∃ k : Nat, k ≤ NN ∧ i = .int .i64 k ∧ wr.ownsRow w.heap.size 5 1 (.slice (some ⟨w.heap.size, 0, none⟩) NN NN) NN (Hm.bcells (List.replicate k 48 ++ List.replicate (NN - k) 0)) ∧ Kept (fun _ => False) w wr) (fun i _ => NN - (intOf i).toNat)
  case atStart => exact ⟨0, Nat.zero_le _, rfl, hr1, hk1⟩
  case round =>
    clear hr1 hk1
    obtain ⟨k, hk, rfl, hr, hkr⟩ := hrel
    by_cases hlt : k < NN
    · have hdec : decide ((k : Int) < (NN : Int)) = true := decide_eq_true (by omega)
      obtain ⟨x, hc⟩ : ∃ x, wr.cell? ⟨w.heap.size, k, none⟩ = some x := ⟨_, (hr.cellAt k (by omega)).trans (List.getElem?_eq_getElem (by simp [Hm.bcells]; omega))⟩
      have hf : wr.frozen? ⟨w.heap.size, k, none⟩ = false := hr.frozenAt _
      have HST := (hr.stored k (.int .u8 48)).1
      have e2 : (Hm.bcells (List.replicate k 48 ++ List.replicate (NN - k) 0)).set k (.int .u8 48) = Hm.bcells (List.replicate (k + 1) 48 ++ List.replicate (NN - (k + 1)) 0) := by
        have e3 : (List.replicate k (48 : UInt8) ++ List.replicate (NN - k) 0).set k 48 = List.replicate (k + 1) 48 ++ List.replicate (NN - (k + 1)) 0 := by
          have hl : (List.replicate k (48 : UInt8)).length = k := by simp
          rw [List.set_append_right _ _ (by omega), hl, Nat.sub_self, show NN - k = (NN - (k + 1)) + 1 from by omega, List.replicate_succ (n := NN - (k + 1)), List.replicate_succ' (n := k), List.append_assoc]
          rfl
        rw [← e3, Hm.bcells, Hm.bcells, List.map_set]; rfl
      rw [e2] at HST
      have H2 : Hid (World.ownsRow _ w.heap.size 5 1 (.slice (some ⟨w.heap.size, 0, none⟩) NN NN) NN (Hm.bcells (List.replicate (k + 1) 48 ++ List.replicate (NN - (k + 1)) 0))) := HST
      clear HST hr e2
      go_wp2
      go_roundw
      case rel => exact ⟨k + 1, by omega, by go_num, H2.out, hkr.setCell (.inl (Nat.le_refl _)) _⟩
      case measure => simp [intOf]; omega
    · obtain rfl : NN = k := by omega
      have hdec : decide ((NN : Int) < (NN : Int)) = false := decide_eq_false (by omega)
      rw [Nat.sub_self, List.replicate_zero, List.append_nil] at hr
      have e0 : List.replicate NN (48 : UInt8) = Hm.bitStr (Hm.hiSets (Hm.endsOf fs) L (List.replicate NN false) 0) := by simp [Hm.hiSets, Hm.bitStr]
      rw [e0] at hr
      have hN6 : (Hm.textOf fs).length ≤ 6000 := by have := HN.out; omega
      go_wp2
      go_loopw [8, 11, 12] (fun s e i wr => ∃ k : Nat, k ≤ fs.length ∧ i = .int .i64 k ∧ e = .int .i64 ((Hm.textOf (fs.take k)).length : Nat) ∧ s = .string ⟨(Hm.bitStr (Hm.endLow ((Hm.endsOf fs).take k) L)).toArray⟩ ∧ wr.ownsRow w.heap.size 5 1 (.slice (some ⟨w.heap.size, 0, none⟩) NN NN) NN (Hm.bcells (Hm.bitStr (Hm.hiSets (Hm.endsOf fs) L (List.replicate NN false) k))) ∧ Kept (fun _ => False) w wr) (fun _ _ i _ => fs.length - (intOf i).toNat)
      case atStart => exact ⟨0, Nat.zero_le _, rfl, rfl, rfl, hr, hkr⟩
      case round =>
        clear hr hkr e0 hdec hk hlt
        obtain ⟨k, hk, rfl, rfl, rfl, hr, hkr⟩ := hrel
        have hel := Hm.endsOf_length fs
        have hsl : (Hm.bitStr (Hm.endLow ((Hm.endsOf fs).take k) L)).length ≤ 480 := by
          rw [Hm.bitStr_length, Hm.endLow_length]
          have : ((Hm.endsOf fs).take k).length * L ≤ 40 * 12 := Nat.mul_le_mul (by simp; omega) hL
          omega
        by_cases hlt : k < fs.length
        · obtain ⟨b, o, hao, hbw, _, hc2⟩ := (FilesAt.kept HF.out hkr (fun _ _ h => h)) k hlt
          have htn := Hm.textOf_next fs k hlt
          have htl := Hm.textOf_part fs (k + 1)
          have hek : (Hm.endsOf fs)[k]'(by omega) = (Hm.textOf (fs.take (k + 1))).length := by
            have := Hm.endsOf_getD fs k hlt
            rw [List.getD_eq_getElem?_getD, List.getElem?_eq_getElem (by omega)] at this
            simpa using this
          have HT : Aside (Hm.bitStr (Hm.endLow ((Hm.endsOf fs).take (k + 1)) L) = Hm.bitStr (Hm.endLow ((Hm.endsOf fs).take k) L) ++ Hm.bitStr (Hm.numBits (Hm.textOf (fs.take (k + 1))).length L)) := by
            show _ = _
            rw [Hm.endLow_take _ _ _ (by omega), hek, Hm.bitStr_append]
          have HH : Aside (Hm.bitStr (Hm.hiSets (Hm.endsOf fs) L (List.replicate NN false) (k + 1)) = (Hm.bitStr (Hm.hiSets (Hm.endsOf fs) L (List.replicate NN false) k)).set ((Hm.textOf (fs.take (k + 1))).length / p + k) 49) := by
            show _ = _
            rw [Hm.hiSets, Hm.bitStr_set, Hm.endsOf_getD fs k hlt, HP.out]
          rw [← HN.out] at htl
          generalize fs[k].2 = ct at *
          obtain ⟨e1, he1⟩ : ∃ e, e = (Hm.textOf (fs.take (k + 1))).length := ⟨_, rfl⟩
          have HE1 : Aside (e1 = (Hm.textOf (fs.take (k + 1))).length) := he1
          rw [← he1] at htn htl HT HH
          obtain ⟨e0, he0⟩ : ∃ e, e = (Hm.textOf (fs.take k)).length := ⟨_, rfl⟩
          rw [← he0] at htn
          rw [← he0]
          clear he0 he1 hek
          have zs : (e0 : Int) + (ct.size : Int) = (e1 : Int) := by omega
          have hnum := fun W => refNumber_any (e1 % p) L W (by omega) (by have := Nat.mod_le e1 p; omega)
          have hnb : Aside (Hm.numBits (e1 % p) L = Hm.numBits e1 L) := by show _ = _; rw [HP.out]; exact Hm.numBits_mod e1 L
          rw [hnb.out] at hnum
          rw [show ((e1 % p : Nat) : Int) = (e1 : Int) % (p : Int) from by simp] at hnum
          obtain ⟨r, hr0⟩ : ∃ r, r = e1 / p := ⟨_, rfl⟩
          have hrq : r ≤ q := by rw [hr0, HQ.out]; exact Nat.div_le_div_right htl
          have zr : (e1 : Int) / (p : Int) = (r : Int) := by rw [hr0]; simp
          rw [← hr0] at HH
          clear hr0
          obtain ⟨md, hmd⟩ : ∃ md, md = e1 % p := ⟨_, rfl⟩
          have zm : (e1 : Int) % (p : Int) = (md : Int) := by rw [hmd]; simp
          have hmdl : md ≤ 6000 := by rw [hmd]; have := Nat.mod_le e1 p; omega
          rw [zm] at hnum
          clear hmd
          have hmw : IntKind.i64.wrap (md : Int) = (md : Int) := by rw [IntKind.wrap_i64]; omega
          have hrw : IntKind.i64.wrap (r : Int) = (r : Int) := by rw [IntKind.wrap_i64]; omega
          have hnl : (Hm.bitStr (Hm.numBits e1 L)).length ≤ 12 := by rw [Hm.bitStr_length, Hm.numBits_length]; exact hL
          have hsm : ¬ 9223372036854775807 < (Hm.bitStr (Hm.endLow ((Hm.endsOf fs).take k) L)).length + (Hm.bitStr (Hm.numBits e1 L)).length := by omega
          have hhl : (Hm.bitStr (Hm.hiSets (Hm.endsOf fs) L (List.replicate NN false) k)).length = NN := by rw [Hm.bitStr_length, Hm.hiSets_length]; simp
          obtain ⟨x, hc⟩ : ∃ x, wr.cell? ⟨w.heap.size, r + k, none⟩ = some x := ⟨_, (hr.cellAt (r + k) (by omega)).trans (List.getElem?_eq_getElem (by simp only [Hm.bcells, List.length_map, hhl]; omega))⟩
          have hf : wr.frozen? ⟨w.heap.size, r + k, none⟩ = false := hr.frozenAt _
          have HST := (hr.stored (r + k) (.int .u8 49)).1
          have e2 : (Hm.bcells (Hm.bitStr (Hm.hiSets (Hm.endsOf fs) L (List.replicate NN false) k))).set (r + k) (.int .u8 49) = Hm.bcells (Hm.bitStr (Hm.hiSets (Hm.endsOf fs) L (List.replicate NN false) (k + 1))) := by
            rw [HH.out, Hm.bcells, Hm.bcells, List.map_set]; rfl
          rw [e2] at HST
          have H2 : Hid (World.ownsRow _ w.heap.size 5 1 (.slice (some ⟨w.heap.size, 0, none⟩) NN NN) NN (Hm.bcells (Hm.bitStr (Hm.hiSets (Hm.endsOf fs) L (List.replicate NN false) (k + 1))))) := HST
          have hb3 : (r : Int) + (k : Int) < (NN : Int) := by omega
          have hdec : decide ((k : Int) < (fs.length : Int)) = true := decide_eq_true (by omega)
          have he6 : e1 ≤ 6000 := by omega
          have hp1 := HP1.out
          rw [hao]
          clear HST hr e2 hhl hao hsl hel htn hnl HF htl
          generalize Hm.bitStr (Hm.endLow ((Hm.endsOf fs).take k) L) = A at *
          generalize Hm.bitStr (Hm.numBits e1 L) = B at *
          go_wp2_with fail
          refine (hnum _).mono ?_
          rintro e w3 ⟨rfl, hw3⟩
          subst w3
          clear hnum
          go_wp2
          go_roundw
          case rel => exact ⟨k + 1, by omega, by go_num, by rw [HE1.out], by rw [HT.out, str_two], H2.out, hkr.setCell (.inl (Nat.le_refl _)) _⟩
          case measure => simp [intOf]; omega
        · obtain rfl : fs.length = k := by omega
          have hdec : decide ((fs.length : Int) < (fs.length : Int)) = false := decide_eq_false (by omega)
          rw [← hel, List.take_length] at hsl
          have eT : (Hm.endsOf fs).take fs.length = Hm.endsOf fs := by rw [← hel, List.take_length]
          rw [eT]
          have hcv := convert_own hr
          have hhl : (Hm.bitStr (Hm.hiSets (Hm.endsOf fs) L (List.replicate NN false) fs.length)).length = NN := by rw [Hm.bitStr_length, Hm.hiSets_length]; simp
          obtain ⟨A, hA⟩ : ∃ A, A = Hm.bitStr (Hm.endLow (Hm.endsOf fs) L) := ⟨_, rfl⟩
          obtain ⟨B, hB⟩ : ∃ B, B = Hm.bitStr (Hm.hiSets (Hm.endsOf fs) L (List.replicate NN false) fs.length) := ⟨_, rfl⟩
          have HAB : Aside (A = Hm.bitStr (Hm.endLow (Hm.endsOf fs) L) ∧ B = Hm.bitStr (Hm.hiSets (Hm.endsOf fs) L (List.replicate NN false) fs.length)) := ⟨hA, hB⟩
          rw [← hA] at hsl
          rw [← hA]
          rw [← hB] at hcv hhl
          have hsm : ¬ 9223372036854775807 < A.length + B.length := by omega
          clear hA hB hr hhl eT hel hsl
          generalize (Hm.textOf (fs.take fs.length)).length = te at *
          go_wp2
          go_ret
          exact ⟨by rw [HR.out, ← HAB.out.1, ← HAB.out.2, ← str_two]; rfl, hkr⟩

end Go.Proofs.YtegnkfdbmmndaaaGreat
end

/- RefJ -/
section
/- The document's answer: the rows' places, merged from halves. -/
namespace Go.Proofs.YtegnkfdbmmndaaaGreat
open Go.RowKit

namespace Hm
theorem bytesLess_lex : ∀ (a b : List UInt8), Op.bytesLess a b = true ↔ lexLt a b
  | [], [] => by simp [Op.bytesLess, lexLt]
  | [], _ :: _ => by simp [Op.bytesLess, lexLt]
  | _ :: _, [] => by simp [Op.bytesLess, lexLt]
  | a :: l, b :: m => by
    have ih := bytesLess_lex l m
    simp only [Op.bytesLess, lexLt]
    by_cases h : a < b
    · have h' : a.toNat < b.toNat := UInt8.lt_iff_toNat_lt.1 h
      simp [h, h']
    · have h' : ¬ a.toNat < b.toNat := fun k => h (UInt8.lt_iff_toNat_lt.2 k)
      by_cases e : a = b
      · subst e; simp [ih]
      · simp [h, h', e]
/-- Which of two endings comes first. -/
abbrev lt (s : List UInt8) (i j : Nat) : Prop := lexLt (s.drop i) (s.drop j)
theorem lt_total (s : List UInt8) {i j : Nat} (hi : i ≤ s.length) (hj : j ≤ s.length) (h : i ≠ j) : lt s i j ∨ lt s j i := by
  rcases lexLt_total (s.drop i) (s.drop j) with c | c | c
  · exact .inl c
  · have e := congrArg List.length c
    simp at e
    omega
  · exact .inr c
/-- Rows merged so far. -/
structure Merged (s : List UInt8) (a b : List Nat) (i k : Nat) (out : List Nat) : Prop where
  perm : out.Perm (a.take i ++ b.take k)
  srt : out.Pairwise (lt s)
  la : ∀ x ∈ out, ∀ y ∈ a.drop i, lt s x y
  lb : ∀ x ∈ out, ∀ y ∈ b.drop k, lt s x y
theorem Merged.none (s : List UInt8) (a b : List Nat) : Merged s a b 0 0 [] := ⟨by simp, List.Pairwise.nil, fun x h => by simp at h, fun x h => by simp at h⟩
theorem Merged.left {s : List UInt8} {a b out : List Nat} {i k : Nat} (h : Merged s a b i k out) (ha : a.Pairwise (lt s)) (hi : i < a.length) (hb : ∀ y ∈ b.drop k, lt s a[i] y) : Merged s a b (i + 1) k (out ++ [a[i]]) := by
  have hd : a.drop i = a[i] :: a.drop (i + 1) := List.drop_eq_getElem_cons hi
  have hp := (ha.sublist (List.drop_sublist i a))
  rw [hd, List.pairwise_cons] at hp
  refine ⟨?_, ?_, fun x hx y hy => ?_, fun x hx y hy => ?_⟩
  · rw [List.take_succ_eq_append_getElem hi]
    refine (h.perm.append_right [a[i]]).trans ?_
    rw [List.append_assoc, List.append_assoc]
    exact List.Perm.append_left _ (List.perm_append_comm)
  · rw [List.pairwise_append]
    exact ⟨h.srt, List.pairwise_singleton _ _, fun x hx y hy => by rw [List.mem_singleton.1 hy]; exact h.la x hx _ (by rw [hd]; exact List.mem_cons_self)⟩
  · rcases List.mem_append.1 hx with hx | hx
    · exact h.la x hx y (by rw [hd]; exact List.mem_cons_of_mem _ hy)
    · rw [List.mem_singleton.1 hx]; exact hp.1 y hy
  · rcases List.mem_append.1 hx with hx | hx
    · exact h.lb x hx y hy
    · rw [List.mem_singleton.1 hx]; exact hb y hy
theorem Merged.right {s : List UInt8} {a b out : List Nat} {i k : Nat} (h : Merged s a b i k out) (hb : b.Pairwise (lt s)) (hk : k < b.length) (ha : ∀ y ∈ a.drop i, lt s b[k] y) : Merged s a b i (k + 1) (out ++ [b[k]]) := by
  have hd : b.drop k = b[k] :: b.drop (k + 1) := List.drop_eq_getElem_cons hk
  have hp := (hb.sublist (List.drop_sublist k b))
  rw [hd, List.pairwise_cons] at hp
  refine ⟨?_, ?_, fun x hx y hy => ?_, fun x hx y hy => ?_⟩
  · rw [List.take_succ_eq_append_getElem hk, ← List.append_assoc]
    exact h.perm.append_right _
  · rw [List.pairwise_append]
    exact ⟨h.srt, List.pairwise_singleton _ _, fun x hx y hy => by rw [List.mem_singleton.1 hy]; exact h.lb x hx _ (by rw [hd]; exact List.mem_cons_self)⟩
  · rcases List.mem_append.1 hx with hx | hx
    · exact h.la x hx y hy
    · rw [List.mem_singleton.1 hx]; exact ha y hy
  · rcases List.mem_append.1 hx with hx | hx
    · exact h.lb x hx y (by rw [hd]; exact List.mem_cons_of_mem _ hy)
    · rw [List.mem_singleton.1 hx]; exact hp.1 y hy
/-- The least of what is left is less than all that is left. -/
theorem lt_rest {s : List UInt8} {b : List Nat} {k x : Nat} (hb : b.Pairwise (lt s)) (hk : k < b.length) (h : lt s x b[k]) : ∀ y ∈ b.drop k, lt s x y := fun y hy => by
  have hd : b.drop k = b[k] :: b.drop (k + 1) := List.drop_eq_getElem_cons hk
  have hp := (hb.sublist (List.drop_sublist k b))
  rw [hd, List.pairwise_cons] at hp
  rw [hd] at hy
  rcases List.mem_cons.1 hy with rfl | hy
  · exact h
  · exact lexLt_trans h (hp.1 y hy)
/-- The places from one on up to another, in order. -/
structure Part (s : List UInt8) (f t : Nat) (ps : List Nat) : Prop where
  perm : ps.Perm (List.range' f (t - f))
  srt : ps.Pairwise (lt s)
theorem Part.mem {s : List UInt8} {f t : Nat} {ps : List Nat} (h : Part s f t ps) (x : Nat) (hx : x ∈ ps) : f ≤ x ∧ x < t := by
  have := h.perm.mem_iff.1 hx
  rw [List.mem_range'_1] at this
  omega
theorem Part.len {s : List UInt8} {f t : Nat} {ps : List Nat} (h : Part s f t ps) : ps.length = t - f := by have := h.perm.length_eq; simpa using this
theorem Part.one (s : List UInt8) (f : Nat) : Part s f (f + 1) [f] := ⟨by rw [Nat.add_sub_cancel_left]; exact List.Perm.refl _, List.pairwise_singleton _ _⟩
theorem Merged.done {s : List UInt8} {a b out : List Nat} {f m t : Nat} (h : Merged s a b a.length b.length out) (ha : Part s f m a) (hb : Part s m t b) (h1 : f ≤ m) (h2 : m ≤ t) : Part s f t out := by
  refine ⟨?_, h.srt⟩
  have := h.perm
  rw [List.take_length, List.take_length] at this
  refine this.trans ((ha.perm.append hb.perm).trans ?_)
  have e : List.range' f (t - f) = List.range' f (m - f) ++ List.range' m (t - m) := by
    rw [show t - f = (m - f) + (t - m) from by omega, ← List.range'_append_1, show f + (m - f) = m from by omega]
  rw [e]
theorem Part.sorted {s : List UInt8} {ps : List Nat} (h : Part s 0 (s.length + 1) ps) : Sorted s ps := ⟨by have := h.perm; rw [Nat.sub_zero, ← List.range_eq_range'] at this; exact this, h.srt⟩
end Hm

end Go.Proofs.YtegnkfdbmmndaaaGreat
end
