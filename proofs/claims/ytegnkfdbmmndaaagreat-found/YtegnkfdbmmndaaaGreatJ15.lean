import Derived.Test.YtegnkfdbmmndaaaGreatJ14
import Derived.Deep.Cut
import Derived.Test.YtegnkfdbmmndaaaGreatJ11
import Derived.Test.YtegnkfdbmmndaaaGreatShelf
import Derived.Test.YtegnkfdbmmndaaaGreatJ09
import Derived.Deep.QuietTactic
import Derived.BigQuiet
import Derived.Test.YtegnkfdbmmndaaaGreatJ13

/- StabE -/
section
/- slices.SortStableFunc at bytes: a merge, by turning its middle about and merging both halves. -/
namespace Go.Proofs.YtegnkfdbmmndaaaGreat
open Go.RowKit Go.Sort Go.Shelf Go.Lib

set_option maxHeartbeats 8000000 in
set_option maxRecDepth 100000 in
theorem symMerge_mid {cf : UInt8 → UInt8 → Int} {key : UInt8 → Nat} {Rl : UInt8 → UInt8 → Prop} (O : Hm.Ord cf key Rl) (g : Nat) (cb : Array Value) (eg : ∀ args w, (callFunc g args).run Tryz.prog w = .ok (.enter g args) w)
  (w0 : World) (blk cap a m b : Nat) (d0 d : Array UInt8) (w : World) (hcmp : CmpLays1 Tryz.prog g cb enc8 cf blk 0 d0.size w0) (R : Row1 enc8 w0 blk 0 d0) (hs : d0.size = d.size) (S : SW enc8 w0 blk 0 d w) (hma : a + 1 < m) (hmb : m + 1 < b) (hb : b ≤ d.size) (hsz : d.size ≤ 256)
  (hs1 : Hm.Srt key d a m) (hs2 : Hm.Srt key d m b) (hlr : Hm.LR Rl d a m b)
  (IH : ∀ (a' m' b' : Nat) (d' : Array UInt8) (w' : World), b' - a' < b - a → d'.size = d.size → Aside (SW enc8 w0 blk 0 d' w') → a' < m' → m' < b' → b' ≤ d.size → Hm.Srt key d' a' m' → Hm.Srt key d' m' b' → Hm.LR Rl d' a' m' b' →
   Calls Tryz.prog 224 #[.slice (some ⟨blk, 0, none⟩) d.size cap, .int .i64 a', .int .i64 m', .int .i64 b', .func (.func g) #[] cb] w' fun e w'' => e = .returned (.tuple #[]) ∧ ∃ e', Hm.Same d' e' a' b' ∧ Hm.Srt key e' a' b' ∧ SW enc8 w0 blk 0 e' w'') :
  Calls Tryz.prog 224 #[.slice (some ⟨blk, 0, none⟩) d.size cap, .int .i64 a, .int .i64 m, .int .i64 b, .func (.func g) #[] cb] w fun e w' => e = .returned (.tuple #[]) ∧ ∃ d', Hm.Same d d' a b ∧ Hm.Srt key d' a b ∧ SW enc8 w0 blk 0 d' w' := by
 have mixed := mixed_all
 have HC : Aside _ := hcmp
 have H1 : Aside _ := hs1
 have H2 : Aside _ := hs2
 have HL : Aside _ := hlr
 have HI : Aside _ := IH
 have S0 : Aside (SW enc8 w0 blk 0 d w) := S
 clear S hcmp hs1 hs2 hlr IH
 have hz0 : (((m : Int) - (a : Int)) == 1) = false := by simp; omega
 have hz1 : (((b : Int) - (m : Int)) == 1) = false := by simp; omega
 obtain ⟨mid, hmid⟩ : ∃ c, c = (a + b) / 2 := ⟨_, rfl⟩
 have zmid : ((a : Int) + (b : Int)) / 2 = (mid : Int) := by omega
 have hma1 : a < mid := by omega
 have hmb1 : mid < b := by omega
 have hmb2 : 2 * mid ≤ a + b := by omega
 have hmb3 : a + b ≤ 2 * mid + 1 := by omega
 clear hmid
 obtain ⟨p, hp⟩ : ∃ p, p + 1 = mid + m := ⟨mid + m - 1, by omega⟩
 have zp : (mid : Int) + (m : Int) - 1 = (p : Int) := by omega
 go_enter Tryz.func224, Tryz.ntmps224
 go_upto_if 140 with fail
 go_cut [20, 21] from 25 (fun vs vr wx => ∃ s0 r0 : Nat, vs = .int .i64 s0 ∧ vr = .int .i64 r0 ∧ w = wx ∧ a ≤ s0 ∧ s0 ≤ r0 ∧ r0 ≤ m ∧ r0 ≤ mid ∧ mid + m ≤ b + s0 ∧ Hid ((s0 = a ∨ s0 + b = mid + m) ∧ (r0 = m ∨ r0 = mid)))
 case first => as_aux_lemma =>
  by_cases c : mid < m
  ·have hd : decide ((m : Int) > (mid : Int)) = true := decide_eq_true (by omega)
   have hd' : (mid : Int) < (m : Int) := by omega
   go_wp2_with fail
   go_meet
   case rel => exact ⟨mid + m - b, mid, by first | go_num | (congr 1; omega), rfl, rfl, by omega, by omega, by omega, by omega, by omega, .inr (by omega), .inr rfl⟩
  ·have hd : decide ((m : Int) > (mid : Int)) = false := decide_eq_false (by omega)
   have hd' : ¬ (mid : Int) < (m : Int) := by omega
   go_wp2_with fail
   go_meet
   case rel => exact ⟨a, m, rfl, rfl, rfl, by omega, by omega, by omega, by omega, by omega, .inl rfl, .inl rfl⟩
 case rest => as_aux_lemma =>
  obtain ⟨s0, r0, rfl, rfl, rfl, ha0, hsr, hrm, hrd, hsb, HZ⟩ := hcut
  go_wp2_with fail
  go_loopg [20, 21] (r0 - s0) (fun g1 vi vj wr => ∃ s r : Nat, vi = .int .i64 s ∧ vj = .int .i64 r ∧ s + g1 = r ∧ r ≤ r0 ∧ s0 ≤ s ∧ Aside (SW enc8 w0 blk 0 d wr) ∧ Hid (Hm.Seek key d p s0 r0 s r))
  case atStart => exact ⟨s0, r0, rfl, rfl, by omega, Nat.le_refl _, Nat.le_refl _, S0, Hm.Seek.start hsr⟩
  case round => as_aux_lemma =>
   clear S0
   obtain ⟨s, r, rfl, rfl, hgk, hrr, hss, S1, HO⟩ := hrel
   by_cases hlt : s < r
   ·have hltz : decide ((s : Int) < (r : Int)) = true := decide_eq_true (by omega)
    obtain ⟨c, hc0⟩ : ∃ c, c = (s + r) / 2 := ⟨_, rfl⟩
    have hci : s ≤ c := by omega
    have hcj : c < r := by omega
    have zc : ((s : Int) + (r : Int)) / 2 = (c : Int) := by omega
    obtain ⟨q, hq⟩ : ∃ q, q = p - c := ⟨_, rfl⟩
    have zq : IntKind.i64.wrap ((p : Int) - (c : Int)) = (q : Int) := by rw [IntKind.wrap_i64]; omega
    have rel := HL.out c q (by omega) (by omega) (by omega) (by omega)
    have hlt2 := O.lt _ _ rel
    have hne2 := O.ne _ _ rel
    have l1 := S1.out.cl R hs.symm q (by omega)
    have l2 := S1.out.cl R hs.symm c (by omega)
    rw [Nat.zero_add] at l1 l2
    have hcl := S1.out.cmp HC.out hs.symm d[q]! d[c]!
    have b1 : (c : Int) < (d.size : Int) := by omega
    have b2 : (q : Int) < (d.size : Int) := by omega
    clear hc0
    by_cases hlv : cf d[q]! d[c]! < 0
    ·have HN : Hid (Hm.Seek key d p s0 r0 s c) := HO.out.down H1.out H2.out ha0 hrm (by omega) (by omega) hci hcj (by rw [← hq]; exact hlt2.1 hlv)
     have hd : decide (cf d[q]! d[c]! < 0) = true := decide_eq_true hlv
     clear hlt2 hne2 rel HO hq
     generalize d[c]! = x at *
     generalize d[q]! = y at *
     unfold enc8 at l1 l2 hcl
     go_wp2_with fail
     go_quiet_grown (first | (go_at_fn g; refine Calls.grown_of (hcl _ _)))
     have S2 : Aside (SW enc8 w0 blk 0 d (grow (wr.drewN nq) osq)) := S1.out.grown nq osq
     clear l1 l2 hcl S1
     generalize grow (wr.drewN nq) osq = w2 at S2 ⊢
     clear nq osq
     go_wp2
     go_roundg (c - s)
     case measure => omega
     case rel => exact ⟨s, c, rfl, rfl, by omega, by omega, hss, S2, HN⟩
    ·have HN : Hid (Hm.Seek key d p s0 r0 (c + 1) r) := HO.out.up H1.out H2.out ha0 hrm (by omega) (by omega) hci hcj (by rw [← hq]; exact Nat.lt_of_le_of_ne (Nat.le_of_not_lt (mt hlt2.2 hlv)) hne2)
     have hd : decide (cf d[q]! d[c]! < 0) = false := decide_eq_false hlv
     clear hlt2 hne2 rel HO hq
     generalize d[c]! = x at *
     generalize d[q]! = y at *
     unfold enc8 at l1 l2 hcl
     go_wp2_with fail
     go_quiet_grown (first | (go_at_fn g; refine Calls.grown_of (hcl _ _)))
     have S2 : Aside (SW enc8 w0 blk 0 d (grow (wr.drewN nq) osq)) := S1.out.grown nq osq
     clear l1 l2 hcl S1
     generalize grow (wr.drewN nq) osq = w2 at S2 ⊢
     clear nq osq
     go_wp2
     go_roundg (r - (c + 1))
     case measure => omega
     case rel => exact ⟨c + 1, r, by go_num, rfl, by omega, hrr, by omega, S2, HN⟩
   ·have hltz : decide ((s : Int) < (r : Int)) = false := decide_eq_false (by omega)
    obtain rfl : s = r := by omega
    obtain ⟨e, he⟩ : ∃ e, e + s = mid + m := ⟨mid + m - s, by omega⟩
    have ze : (mid : Int) + (m : Int) - (s : Int) = (e : Int) := by omega
    have hem : m ≤ e := by omega
    have heb : e ≤ b := by omega
    have hpe : p = mid + m - 1 := by omega
    have HO2 := HO.out
    rw [hpe] at HO2
    obtain ⟨F1, F2⟩ := HO2.found H1.out H2.out ha0 hrm (by omega) hrd HZ.out.1 HZ.out.2 hsb
    rw [show mid + m - s = e from by omega] at F1 F2
    have HH : Aside (∀ d1, Hm.Rot d d1 s m e → Hm.Halves key Rl d d1 a s mid e b) := fun d1 r => Hm.Halves.of H1.out H2.out HL.out (by omega) (by omega) (by omega) he heb F1 F2 r
    clear F1 F2 HO HO2 hpe HZ HL H1 H2 HC
    go_upto_region 39 with fail
    go_cut [185] from 25 (fun v wx => v = .bool (decide (s < m ∧ m < e)) ∧ wr = wx)
    case first => as_aux_lemma =>
     by_cases c1 : s < m
     ·have e1 : decide ((s : Int) < (m : Int)) = true := decide_eq_true (by omega)
      have e1' : (s : Int) < (m : Int) := by omega
      by_cases c2 : m < e
      ·have e2 : decide ((m : Int) < (e : Int)) = true := decide_eq_true (by omega)
       have e2' : (m : Int) < (e : Int) := by omega
       go_wp2_with fail
       go_meet
       case rel => exact ⟨by simp [c1, c2], rfl⟩
      ·have e2 : decide ((m : Int) < (e : Int)) = false := decide_eq_false (by omega)
       have e2' : ¬ (m : Int) < (e : Int) := by omega
       go_wp2_with fail
       go_meet
       case rel => exact ⟨by simp [c2], rfl⟩
     ·have e1 : decide ((s : Int) < (m : Int)) = false := decide_eq_false (by omega)
      have e1' : ¬ (s : Int) < (m : Int) := by omega
      go_wp2_with fail
      go_meet
      case rel => exact ⟨by simp [c1], rfl⟩
    case rest => as_aux_lemma =>
     obtain ⟨rfl, rfl⟩ := hcut
     go_upto_if 185 with fail
     go_cut [] from 25 (fun wx => ∃ d1, d1.size = d.size ∧ Aside (SW enc8 w0 blk 0 d1 wx) ∧ Hid (Hm.Halves key Rl d d1 a s mid e b))
     case first => as_aux_lemma =>
      by_cases c1 : s < m ∧ m < e
      ·have hd : decide (s < m ∧ m < e) = true := decide_eq_true c1
       have hr := rotate_any w0 blk cap s m e d0 d (.func (.func g) #[] cb) wr R hs S1.out c1.1 c1.2 (by omega) hsz
       go_wp2_with fail
       refine hr.mono ?_
       rintro e2 w2 ⟨rfl, d1, hrot, S2⟩
       have HN : Hid (Hm.Halves key Rl d d1 a s mid e b) := HH.out d1 hrot
       have hsn : d1.size = d.size := hrot.size
       have SS : Aside (SW enc8 w0 blk 0 d1 w2) := S2
       clear hr hrot S2 HH
       go_wp2_with fail
       go_meet
       case rel => exact ⟨d1, hsn, SS, HN⟩
      ·have hd : decide (s < m ∧ m < e) = false := decide_eq_false c1
       have HN : Hid (Hm.Halves key Rl d d a s mid e b) := HH.out d (by
        by_cases c2 : s < m
        ·obtain rfl : e = m := by omega
         exact Hm.Rot.id_right d s e
        ·obtain rfl : s = m := by omega
         exact Hm.Rot.id_left d s e hem)
       clear HH
       go_wp2_with fail
       go_meet
       case rel => exact ⟨d, rfl, S1, HN⟩
     case rest => as_aux_lemma =>
      clear S1 HH
      obtain ⟨d1, hsd1, S1, HV⟩ := hcut
      go_upto_region 41 with fail
      go_cut [199] from 25 (fun v wx => v = .bool (decide (a < s ∧ s < mid)) ∧ wc = wx)
      case first => as_aux_lemma =>
       by_cases c1 : a < s
       ·have e1 : decide ((a : Int) < (s : Int)) = true := decide_eq_true (by omega)
        have e1' : (a : Int) < (s : Int) := by omega
        by_cases c2 : s < mid
        ·have e2 : decide ((s : Int) < (mid : Int)) = true := decide_eq_true (by omega)
         have e2' : (s : Int) < (mid : Int) := by omega
         go_wp2_with fail
         go_meet
         case rel => exact ⟨by simp [c1, c2], rfl⟩
        ·have e2 : decide ((s : Int) < (mid : Int)) = false := decide_eq_false (by omega)
         have e2' : ¬ (s : Int) < (mid : Int) := by omega
         go_wp2_with fail
         go_meet
         case rel => exact ⟨by simp [c2], rfl⟩
       ·have e1 : decide ((a : Int) < (s : Int)) = false := decide_eq_false (by omega)
        have e1' : ¬ (a : Int) < (s : Int) := by omega
        go_wp2_with fail
        go_meet
        case rel => exact ⟨by simp [c1], rfl⟩
      case rest => as_aux_lemma =>
       obtain ⟨rfl, rfl⟩ := hcut
       go_upto_if 199 with fail
       go_cut [] from 25 (fun wx => ∃ d2, d2.size = d.size ∧ Aside (SW enc8 w0 blk 0 d2 wx) ∧ Hid (Hm.Same d1 d2 a mid ∧ Hm.Srt key d2 a mid))
       case first => as_aux_lemma =>
        by_cases c1 : a < s ∧ s < mid
        ·have hd : decide (a < s ∧ s < mid) = true := decide_eq_true c1
         have hr := HI.out a s mid d1 wc (by omega) hsd1 S1 c1.1 c1.2 (by omega) HV.out.s1 HV.out.s2 HV.out.lr1
         clear HI
         go_wp2_with fail
         refine hr.mono ?_
         rintro e2 w2 ⟨rfl, d2, hsm, hsr, S2⟩
         have HN : Hid (Hm.Same d1 d2 a mid ∧ Hm.Srt key d2 a mid) := ⟨hsm, hsr⟩
         have hsn : d2.size = d.size := hsm.size.trans hsd1
         have SS : Aside (SW enc8 w0 blk 0 d2 w2) := S2
         clear hr hsm hsr S2
         go_wp2_with fail
         go_meet
         case rel => exact ⟨d2, hsn, SS, HN⟩
        ·have hd : decide (a < s ∧ s < mid) = false := decide_eq_false c1
         have HN : Hid (Hm.Same d1 d1 a mid ∧ Hm.Srt key d1 a mid) := ⟨Hm.Same.refl _ _ _, HV.out.s1.whole HV.out.s2 (by omega)⟩
         clear HI
         go_wp2_with fail
         go_meet
         case rel => exact ⟨d1, hsd1, S1, HN⟩
       case rest => as_aux_lemma =>
        clear S1
        obtain ⟨d2, hsd2, S1, HW⟩ := hcut
        go_upto_region 43 with fail
        go_cut [213] from 25 (fun v wx => v = .bool (decide (mid < e ∧ e < b)) ∧ wc = wx)
        case first => as_aux_lemma =>
         by_cases c1 : mid < e
         ·have e1 : decide ((mid : Int) < (e : Int)) = true := decide_eq_true (by omega)
          have e1' : (mid : Int) < (e : Int) := by omega
          by_cases c2 : e < b
          ·have e2 : decide ((e : Int) < (b : Int)) = true := decide_eq_true (by omega)
           have e2' : (e : Int) < (b : Int) := by omega
           go_wp2_with fail
           go_meet
           case rel => exact ⟨by simp [c1, c2], rfl⟩
          ·have e2 : decide ((e : Int) < (b : Int)) = false := decide_eq_false (by omega)
           have e2' : ¬ (e : Int) < (b : Int) := by omega
           go_wp2_with fail
           go_meet
           case rel => exact ⟨by simp [c2], rfl⟩
         ·have e1 : decide ((mid : Int) < (e : Int)) = false := decide_eq_false (by omega)
          have e1' : ¬ (mid : Int) < (e : Int) := by omega
          go_wp2_with fail
          go_meet
          case rel => exact ⟨by simp [c1], rfl⟩
        case rest => as_aux_lemma =>
         obtain ⟨rfl, rfl⟩ := hcut
         by_cases c1 : mid < e ∧ e < b
         ·have hd : decide (mid < e ∧ e < b) = true := decide_eq_true c1
          have hr := HI.out mid e b d2 wc (by omega) hsd2 S1 c1.1 c1.2 hb (HV.out.s3.out HW.out.1 (.inr (Nat.le_refl _))) (HV.out.s4.out HW.out.1 (.inr (by omega))) (HV.out.lr2.out HW.out.1 (.inr (Nat.le_refl _)))
          clear HI
          go_wp2_with fail
          refine hr.mono ?_
          rintro e2 w2 ⟨rfl, d3, hsm, hsr, S2⟩
          have HN : Hid (Hm.Same d d3 a b ∧ Hm.Srt key d3 a b) := HV.out.done (by omega) (by omega) HW.out.1 HW.out.2 hsm hsr
          have SS : Aside (SW enc8 w0 blk 0 d3 w2) := S2
          clear hr hsm hsr S2
          go_wp2
          go_end0
          exact ⟨rfl, d3, HN.out.1, HN.out.2, SS.out⟩
         ·have hd : decide (mid < e ∧ e < b) = false := decide_eq_false c1
          have HN : Hid (Hm.Same d d2 a b ∧ Hm.Srt key d2 a b) := HV.out.done (by omega) (by omega) HW.out.1 HW.out.2 (Hm.Same.refl _ _ _) ((HV.out.s3.out HW.out.1 (.inr (Nat.le_refl _))).whole (HV.out.s4.out HW.out.1 (.inr (by omega))) (by omega))
          clear HI
          go_wp2
          go_end0
          exact ⟨rfl, d2, HN.out.1, HN.out.2, S1.out⟩

theorem symMerge_any {cf : UInt8 → UInt8 → Int} {key : UInt8 → Nat} {Rl : UInt8 → UInt8 → Prop} (O : Hm.Ord cf key Rl) (g : Nat) (cb : Array Value) (eg : ∀ args w, (callFunc g args).run Tryz.prog w = .ok (.enter g args) w)
  (w0 : World) (blk cap : Nat) (d0 : Array UInt8) (hcmp : CmpLays1 Tryz.prog g cb enc8 cf blk 0 d0.size w0) (R : Row1 enc8 w0 blk 0 d0) (hsz : d0.size ≤ 256) :
  ∀ (N a m b : Nat) (d : Array UInt8) (w : World), b - a < N → d.size = d0.size → Aside (SW enc8 w0 blk 0 d w) → a < m → m < b → b ≤ d0.size → Hm.Srt key d a m → Hm.Srt key d m b → Hm.LR Rl d a m b →
   Calls Tryz.prog 224 #[.slice (some ⟨blk, 0, none⟩) d0.size cap, .int .i64 a, .int .i64 m, .int .i64 b, .func (.func g) #[] cb] w fun e w' => e = .returned (.tuple #[]) ∧ ∃ d', Hm.Same d d' a b ∧ Hm.Srt key d' a b ∧ SW enc8 w0 blk 0 d' w'
 | 0, a, m, b, d, w, h, _, _, _, _, _, _, _, _ => absurd h (Nat.not_lt_zero _)
 | N + 1, a, m, b, d, w, h, hs, S, ham, hmb, hb, s1, s2, lr => by
  have ih := symMerge_any O g cb eg w0 blk cap d0 hcmp R hsz N
  rw [← hs]
  by_cases c1 : m = a + 1
  ·exact symMerge_left O g cb eg w0 blk cap a m b d0 d w hcmp R hs.symm S.out c1 hmb (by omega) (by omega) s2 lr
  by_cases c2 : b = m + 1
  ·exact symMerge_right O g cb eg w0 blk cap a m b d0 d w hcmp R hs.symm S.out (by omega) c2 (by omega) (by omega) s1 lr
  refine symMerge_mid O g cb eg w0 blk cap a m b d0 d w hcmp R hs.symm S.out (by omega) (by omega) (by omega) (by omega) s1 s2 lr ?_
  intro a' m' b' d' w' h1 h2 h3 h4 h5 h6 h7 h8 h9
  rw [hs]
  exact ih a' m' b' d' w' (by omega) (by omega) h3 h4 h5 (by omega) h7 h8 h9

end Go.Proofs.YtegnkfdbmmndaaaGreat
end

/- StabF -/
section
/- slices.SortStableFunc at bytes: the whole. -/
namespace Go.Proofs.YtegnkfdbmmndaaaGreat
open Go.RowKit Go.Sort Go.Shelf Go.Lib

theorem Hm.Good.of_agree {key : UInt8 → Nat} {d0 d e : Array UInt8} {a b : Nat} (hs : Hm.Same d e a b) (hk : Hm.Srt key e a b) (h : ∀ k, a ≤ k → k < b → d[k]! = d0[k]!) : Hm.Good key d0 e a b :=
 ⟨fun x => by
  rw [hs.mem]
  exact ⟨fun ⟨k, h1, h2, h3⟩ => ⟨k, h1, h2, by rw [← h k h1 h2]; exact h3⟩, fun ⟨k, h1, h2, h3⟩ => ⟨k, h1, h2, by rw [h k h1 h2]; exact h3⟩⟩, hk⟩

set_option maxHeartbeats 8000000 in
set_option maxRecDepth 100000 in
theorem stable_any {cf : UInt8 → UInt8 → Int} {key : UInt8 → Nat} {Rl : UInt8 → UInt8 → Prop} (O : Hm.Ord cf key Rl) (g : Nat) (cb : Array Value) (eg : ∀ args w, (callFunc g args).run Tryz.prog w = .ok (.enter g args) w)
  (w0 : World) (blk cap : Nat) (d0 : Array UInt8) (w : World) (hcmp : CmpLays1 Tryz.prog g cb enc8 cf blk 0 d0.size w0) (R : Row1 enc8 w0 blk 0 d0) (hsz : d0.size ≤ 256) (S : SW enc8 w0 blk 0 d0 w) (hp : ∀ i j, i < j → j < d0.size → Rl d0[i]! d0[j]!) :
  Calls Tryz.prog 218 #[.slice (some ⟨blk, 0, none⟩) d0.size cap, .int .i64 d0.size, .func (.func g) #[] cb] w fun e w' => e = .returned (.tuple #[]) ∧ ∃ d', d'.size = d0.size ∧ Hm.Good key d0 d' 0 d0.size ∧ SW enc8 w0 blk 0 d' w' := by
 have hins : ∀ (a b : Nat) (d : Array UInt8) (W : World), d.size = d0.size → Aside (SW enc8 w0 blk 0 d W) → a ≤ b → b ≤ d0.size → (∀ k, a ≤ k → d[k]! = d0[k]!) →
   Calls Tryz.prog 223 #[.slice (some ⟨blk, 0, none⟩) d0.size cap, .int .i64 a, .int .i64 b, .func (.func g) #[] cb] W fun e w' => e = .returned (.tuple #[]) ∧ ∃ d', Hm.Same d d' a b ∧ Hm.Srt key d' a b ∧ SW enc8 w0 blk 0 d' w' := fun a b d W h1 h2 h3 h4 h5 => by
  rw [← h1]
  exact insertion_any O g cb eg w0 blk cap a b d0 d W hcmp R h1.symm h2.out h3 (by omega) (by omega) (fun p q h6 h7 h8 => by rw [h5 p h6, h5 q (by omega)]; exact hp p q h7 (by omega))
 have hmrg : ∀ (a m b : Nat) (d : Array UInt8) (W : World), d.size = d0.size → Aside (SW enc8 w0 blk 0 d W) → a < m → m < b → b ≤ d0.size → Hm.Good key d0 d a m → Hm.Good key d0 d m b →
   Calls Tryz.prog 224 #[.slice (some ⟨blk, 0, none⟩) d0.size cap, .int .i64 a, .int .i64 m, .int .i64 b, .func (.func g) #[] cb] W fun e w' => e = .returned (.tuple #[]) ∧ ∃ d', Hm.Same d d' a b ∧ Hm.Srt key d' a b ∧ SW enc8 w0 blk 0 d' w' := fun a m b d W h1 h2 h3 h4 h5 g1 g2 =>
  symMerge_any O g cb eg w0 blk cap d0 hcmp R hsz (b - a + 1) a m b d W (by omega) h1 h2 h3 h4 h5 g1.srt g2.srt (g1.lr g2 hp h5)
 have HIns : Aside _ := hins
 have HMrg : Aside _ := hmrg
 have S0 : Aside (SW enc8 w0 blk 0 d0 w) := S
 clear S hcmp hins hmrg hp
 go_enter Tryz.func218, Tryz.ntmps218
 go_wp2_with fail
 go_loopg [7, 8] d0.size (fun g1 va vb wr => ∃ (a : Nat) (dk : Array UInt8), va = .int .i64 a ∧ vb = .int .i64 ((a + 20 : Nat) : Int) ∧ a + g1 = d0.size ∧ dk.size = d0.size ∧ Aside (SW enc8 w0 blk 0 dk wr) ∧ Hid (Hm.Ahead key d0 dk d0.size 20 a ∧ ∀ k, a ≤ k → dk[k]! = d0[k]!))
 case atStart => exact ⟨0, d0, rfl, rfl, by omega, rfl, S0, Hm.Ahead.none _ _ _ _ _, fun _ _ => rfl⟩
 case round =>
  clear S0
  obtain ⟨a, dk, rfl, rfl, hgk, hsk, S1, HO⟩ := hrel
  by_cases hlt : a + 20 ≤ d0.size
  ·have hd : decide (((a + 20 : Nat) : Int) ≤ (d0.size : Int)) = true := decide_eq_true (by omega)
   have hd' : (a : Int) + 20 ≤ (d0.size : Int) := by omega
   have hr := HIns.out a (a + 20) dk wr hsk S1 (by omega) hlt HO.out.2
   clear HIns HMrg
   go_wp2_with fail
   refine hr.mono ?_
   rintro e2 w2 ⟨rfl, d2, hsm, hsr, S2⟩
   have HN : Hid (Hm.Ahead key d0 d2 d0.size 20 (a + 20) ∧ ∀ k, a + 20 ≤ k → d2[k]! = d0[k]!) :=
    ⟨HO.out.1.step hsm hlt (Hm.Good.of_agree hsm hsr (fun k h1 _ => HO.out.2 k h1)), fun k hk => by rw [hsm.out k (.inr hk)]; exact HO.out.2 k (by omega)⟩
   have hsn : d2.size = d0.size := hsm.size.trans hsk
   have SS : Aside (SW enc8 w0 blk 0 d2 w2) := S2
   clear hr hsm hsr S2 HO S1
   go_wp2_with fail
   go_roundg (d0.size - (a + 20))
   case measure => omega
   case rel => exact ⟨a + 20, d2, by go_num, by first | go_num | (congr 1; omega), by omega, hsn, SS, HN⟩
  ·have hd : decide (((a + 20 : Nat) : Int) ≤ (d0.size : Int)) = false := decide_eq_false (by omega)
   have hd' : ¬ (a : Int) + 20 ≤ (d0.size : Int) := by omega
   have hr := HIns.out a d0.size dk wr hsk S1 (by omega) (Nat.le_refl _) HO.out.2
   clear HIns
   go_wp2_with fail
   refine hr.mono ?_
   rintro e2 w2 ⟨rfl, d2, hsm, hsr, S2⟩
   have HN : Hid (Hm.Blocks key d0 d2 d0.size 20 0) :=
    HO.out.1 d2 (fun k hk => hsm.out k (.inl hk)) (.last a (by omega) (by omega) (Hm.Good.of_agree hsm hsr (fun k h1 _ => HO.out.2 k h1)))
   have hsn : d2.size = d0.size := hsm.size.trans hsk
   have SS : Aside (SW enc8 w0 blk 0 d2 w2) := S2
   clear hr hsm hsr S2 HO S1 hgk hsk hlt hd hd'
   go_wp2_with fail
   go_loopg [6] d0.size (fun g1 vs wr => ∃ (bs : Nat) (dk : Array UInt8), vs = .int .i64 bs ∧ 0 < bs ∧ bs ≤ 1024 ∧ d0.size - bs ≤ g1 ∧ dk.size = d0.size ∧ Aside (SW enc8 w0 blk 0 dk wr) ∧ Hid (Hm.Blocks key d0 dk d0.size bs 0))
   case atStart => exact ⟨20, d2, rfl, by omega, by omega, by omega, hsn, SS, HN⟩
   case round =>
    clear SS HN hsn d2
    obtain ⟨bs, dk, rfl, hb0, hb1, hgk, hsk, S1, HO⟩ := hrel
    by_cases hlt : bs < d0.size
    ·have hd : decide ((bs : Int) < (d0.size : Int)) = true := decide_eq_true (by omega)
     have hd' : (bs : Int) < (d0.size : Int) := by omega
     go_wp2_with fail
     go_loopg [7, 8] d0.size (fun g2 va vb wr2 => ∃ (a : Nat) (de : Array UInt8), va = .int .i64 a ∧ vb = .int .i64 ((a + 2 * bs : Nat) : Int) ∧ a + g2 = d0.size ∧ de.size = d0.size ∧ Aside (SW enc8 w0 blk 0 de wr2) ∧ Hid (Hm.Ahead key d0 de d0.size (2 * bs) a ∧ Hm.Blocks key d0 de d0.size bs a))
     case atStart => exact ⟨0, dk, rfl, by first | rfl | go_num | (congr 1; omega), by omega, hsk, S1, Hm.Ahead.none _ _ _ _ _, HO.out⟩
     case round =>
      clear S1 HO hsk dk
      obtain ⟨a, dk, rfl, rfl, hg2, hsk, S1, HO⟩ := hrel
      by_cases hle : a + 2 * bs ≤ d0.size
      ·have hd2 : decide (((a + 2 * bs : Nat) : Int) ≤ (d0.size : Int)) = true := decide_eq_true (by omega)
       have hd2' : (a : Int) + 2 * (bs : Int) ≤ (d0.size : Int) := by omega
       obtain ⟨g1, g3, g4⟩ := HO.out.2.two hb0 hle
       have hr := HMrg.out a (a + bs) (a + 2 * bs) dk wr hsk S1 (by omega) (by omega) hle g1 g3
       rw [show ((a + bs : Nat) : Int) = (a : Int) + (bs : Int) from by omega, show ((a + 2 * bs : Nat) : Int) = (a : Int) + 2 * (bs : Int) from by omega] at hr
       have HG : Aside (Hm.Good key d0 dk a (a + bs) ∧ Hm.Good key d0 dk (a + bs) (a + 2 * bs) ∧ Hm.Blocks key d0 dk d0.size bs (a + 2 * bs)) := ⟨g1, g3, g4⟩
       clear HMrg g1 g3 g4
       go_wp2_with fail
       refine hr.mono ?_
       rintro e2 w2 ⟨rfl, d2, hsm, hsr, S2⟩
       have HN : Hid (Hm.Ahead key d0 d2 d0.size (2 * bs) (a + 2 * bs) ∧ Hm.Blocks key d0 d2 d0.size bs (a + 2 * bs)) :=
        ⟨HO.out.1.step hsm hle (HG.out.1.merged HG.out.2.1 (by omega) (by omega) hsm hsr), HG.out.2.2.agree fun k h1 _ => hsm.out k (.inr h1)⟩
       have hsn : d2.size = d0.size := hsm.size.trans hsk
       have SS : Aside (SW enc8 w0 blk 0 d2 w2) := S2
       clear hr hsm hsr S2 HO S1 HG
       go_wp2_with fail
       go_roundg (d0.size - (a + 2 * bs))
       case measure => omega
       case rel => exact ⟨a + 2 * bs, d2, by first | rfl | go_num | (congr 1; omega), by first | rfl | go_num | (congr 1; omega), by omega, hsn, SS, HN⟩
      ·have hd2 : decide (((a + 2 * bs : Nat) : Int) ≤ (d0.size : Int)) = false := decide_eq_false (by omega)
       have hd2' : ¬ (a : Int) + 2 * (bs : Int) ≤ (d0.size : Int) := by omega
       by_cases hm : a + bs < d0.size
       ·have hd3 : decide ((a : Int) + (bs : Int) < (d0.size : Int)) = true := decide_eq_true (by omega)
        have hd3' : (a : Int) + (bs : Int) < (d0.size : Int) := by omega
        obtain ⟨g1, g3⟩ := HO.out.2.rest hm (by omega)
        have hr := HMrg.out a (a + bs) d0.size dk wr hsk S1 (by omega) (by omega) (Nat.le_refl _) g1 g3
        rw [show ((a + bs : Nat) : Int) = (a : Int) + (bs : Int) from by omega] at hr
        have HG : Aside (Hm.Good key d0 dk a (a + bs) ∧ Hm.Good key d0 dk (a + bs) d0.size) := ⟨g1, g3⟩
        clear HMrg g1 g3
        go_wp2_with fail
        refine hr.mono ?_
        rintro e2 w2 ⟨rfl, d2, hsm, hsr, S2⟩
        have HN : Hid (Hm.Blocks key d0 d2 d0.size (2 * bs) 0) :=
         HO.out.1 d2 (fun k hk => hsm.out k (.inl hk)) (.last a (by omega) (by omega) (HG.out.1.merged HG.out.2 (by omega) (by omega) hsm hsr))
        have hsn : d2.size = d0.size := hsm.size.trans hsk
        have SS : Aside (SW enc8 w0 blk 0 d2 w2) := S2
        clear hr hsm hsr S2 HO S1 HG
        go_wp2_with fail
        go_roundg (d0.size - 2 * bs)
        case measure => omega
        case rel => exact ⟨2 * bs, d2, by first | rfl | go_num | (congr 1; omega), by omega, by omega, by omega, hsn, SS, HN⟩
       ·have hd3 : decide ((a : Int) + (bs : Int) < (d0.size : Int)) = false := decide_eq_false (by omega)
        have hd3' : ¬ (a : Int) + (bs : Int) < (d0.size : Int) := by omega
        have HN : Hid (Hm.Blocks key d0 dk d0.size (2 * bs) 0) := HO.out.1.all (HO.out.2.one (by omega) (by omega))
        clear HMrg HO
        go_wp2_with fail
        go_roundg (d0.size - 2 * bs)
        case measure => omega
        case rel => exact ⟨2 * bs, dk, by first | rfl | go_num | (congr 1; omega), by omega, by omega, by omega, hsk, S1, HN⟩
    ·have hd : decide ((bs : Int) < (d0.size : Int)) = false := decide_eq_false (by omega)
     have hd' : ¬ (bs : Int) < (d0.size : Int) := by omega
     clear HMrg
     go_wp2
     go_end0
     exact ⟨rfl, dk, hsk, HO.out.whole (by omega), S1.out⟩

set_option maxHeartbeats 400000 in
theorem sortStable_any {cf : UInt8 → UInt8 → Int} {key : UInt8 → Nat} {Rl : UInt8 → UInt8 → Prop} (O : Hm.Ord cf key Rl) (g : Nat) (cb : Array Value) (eg : ∀ args w, (callFunc g args).run Tryz.prog w = .ok (.enter g args) w)
  (blk cap : Nat) (d0 : Array UInt8) (w : World) (hcmp : CmpLays1 Tryz.prog g cb enc8 cf blk 0 d0.size w) (R : Row1 enc8 w blk 0 d0) (hsz : d0.size ≤ 256) (hp : ∀ i j, i < j → j < d0.size → Rl d0[i]! d0[j]!) :
  Calls Tryz.prog 201 #[.slice (some ⟨blk, 0, none⟩) d0.size cap, .func (.func g) #[] cb] w fun e w' => e = .returned (.tuple #[]) ∧ ∃ d', d'.size = d0.size ∧ Hm.Good key d0 d' 0 d0.size ∧ SW enc8 w blk 0 d' w' := by
 have hin := stable_any O g cb eg w blk cap d0 w hcmp R hsz (SW.start R.hH) hp
 clear hcmp R hp
 go_enter Tryz.func201, Tryz.ntmps201
 go_wp2_with fail
 refine hin.mono ?_
 rintro e w2 ⟨rfl, d', h1, h2, h3⟩
 have HX : Aside (d'.size = d0.size ∧ Hm.Good key d0 d' 0 d0.size ∧ SW enc8 w blk 0 d' w2) := ⟨h1, h2, h3⟩
 clear h1 h2 h3 hin
 go_wp2
 go_end0
 exact ⟨rfl, d', HX.out⟩

end Go.Proofs.YtegnkfdbmmndaaaGreat
end

/- OrderA -/
section
/- The bytes that have a code, in the codes' order. -/
namespace Go.Proofs.YtegnkfdbmmndaaaGreat
open Go.RowKit Go.Sort Go.Shelf

set_option maxHeartbeats 400000 in
theorem order1_any (lb : Nat) (L : List Nat) (x y : UInt8) (w : World) (hL : L.length = 256) (h : w.heap[lb]? = some (.cells (icells L).toArray 139 (0, 0))) :
  Calls Tryz.prog 202 #[.int .u8 (x.toNat : Nat), .int .u8 (y.toNat : Nat), .pointer (some ⟨lb, 0, none⟩)] w fun e w' => e = .returned (.int .i64 (Hm.cmpB L x y)) ∧ ∃ q, w' = w.drewN q := by
 have hc : ∀ b : UInt8, w.cell? ⟨lb, b.toNat, none⟩ = some (.int .i64 (Hm.lnB L b : Nat)) := fun b => by
  rw [cell_of_row _ _ _ _ _ _ h]
  have hb := b.toNat_lt
  simp [icells, Hm.lnB, List.getD_eq_getElem?_getD, List.getElem?_eq_getElem (show b.toNat < L.length from by omega)]
 have c1 := hc x
 have c2 := hc y
 have hcm := fun W => Tryz.cmp_Compare_int (Hm.lnB L x : Nat) (Hm.lnB L y : Nat) W
 have HR : Hid (Hm.cmpB L x y = Lib.compareInt (Hm.lnB L x : Nat) (Hm.lnB L y : Nat)) := rfl
 rw [HR.out]
 generalize Lib.compareInt (Hm.lnB L x : Nat) (Hm.lnB L y : Nat) = r at *
 generalize Hm.lnB L x = lx at *
 generalize Hm.lnB L y = ly at *
 have h1 := x.toNat_lt
 have h2 := y.toNat_lt
 generalize x.toNat = xn at *
 generalize y.toNat = yn at *
 have h3 : (xn : Int) < 256 := by omega
 have h4 : (yn : Int) < 256 := by omega
 clear hc h hL HR
 go_enter Tryz.func202, Tryz.ntmps202
 go_wp2_with fail
 go_quiet (first | (refine Calls.quiet_of_same (hcm _)))
 go_wp2
 go_ret
 exact ⟨rfl, _, rfl⟩

set_option maxHeartbeats 400000 in
theorem insertion_zero (v f : Value) (w : World) : Calls Tryz.prog 223 #[v, .int .i64 0, .int .i64 0, f] w fun e w' => e = .returned (.tuple #[]) ∧ w = w' := by
 go_enter Tryz.func223, Tryz.ntmps223
 go_wp2
 refine wp_loop_rounds 1 ?_
 rw [rounds_succ]
 go_wp2
 go_end0
 exact ⟨rfl, rfl⟩

set_option maxHeartbeats 400000 in
theorem stable_zero (v f : Value) (w : World) : Calls Tryz.prog 218 #[v, .int .i64 0, f] w fun e w' => e = .returned (.tuple #[]) ∧ w = w' := by
 have hin := insertion_zero v f w
 go_enter Tryz.func218, Tryz.ntmps218
 go_wp2
 refine wp_loop_rounds 1 ?_
 rw [rounds_succ]
 go_wp2_with (go_at_call 223; refine hin.mono ?_; rintro e w2 ⟨rfl, rfl⟩)
 refine wp_loop_rounds 1 ?_
 rw [rounds_succ]
 go_wp2
 go_end0
 exact ⟨rfl, rfl⟩

set_option maxHeartbeats 400000 in
theorem sortStable_zero (a : Option Addr) (c : Nat) (f : Value) (w : World) : Calls Tryz.prog 201 #[.slice a 0 c, f] w fun e w' => e = .returned (.tuple #[]) ∧ w = w' := by
 have hin := stable_zero (.slice a 0 c) f w
 go_enter Tryz.func201, Tryz.ntmps201
 go_wp2_with (go_at_call 218; refine hin.mono ?_; rintro e w2 ⟨rfl, rfl⟩)
 go_end0
 exact ⟨rfl, rfl⟩

/-- A row of bytes that was sorted is owned as it was. -/
theorem owns_sorted {w : World} {base g n cap : Nat} {e : TypeId} {xs : List Value} (h : w.ownsRow base e 1 (.slice (some ⟨g, 0, none⟩) n cap) n xs) (m : Nat) (d : Array UInt8) (os : Array Obj) (hd : d.size = n) :
  (sortWorld enc8 w g 0 m d os).ownsRow base e 1 (.slice (some ⟨g, 0, none⟩) n cap) n (Hm.bcells d.toList) := by
 rcases h.2 with ⟨h1, _⟩ | ⟨g2, cap2, cur, h1, h2, h3, h4, h5, h6, h7⟩
 ·cases h1
 ·cases h1
  refine ⟨by simp [Hm.bcells, hd], .inr ⟨g, cap, putCells enc8 0 d cur, rfl, h2, ?_, h4, h5, by rw [← h6]; simp [putCells], ?_⟩⟩
  ·show ((putRow enc8 (Sort.ahead w m) g 0 d).heap ++ os)[g]? = _
   rw [Array.getElem?_append_left (by rw [size_putRow]; exact lt_of_block h3)]
   show (w.heap.modify g _)[g]? = _
   rw [Array.getElem?_modify, if_pos rfl, h3]
   rfl
  ·apply List.ext_getElem
   ·simp [Hm.bcells, putCells, hd, h6]; omega
   ·intro i h8 h9
    have hi : i < d.size := by simpa [Hm.bcells] using h9
    simp [putCells, Hm.bcells, hi, enc8]

theorem cmp_lays (L : List Nat) (hL : L.length = 256) (lb g n : Nat) (w : World) (h : w.heap[lb]? = some (.cells (icells L).toArray 139 (0, 0))) (hne : lb ≠ g) :
  CmpLays1 Tryz.prog 202 #[.pointer (some ⟨lb, 0, none⟩)] enc8 (Hm.cmpB L) g 0 n w := fun m os dk _ x y => by
 have hb : (sortWorld enc8 w g 0 m dk os).heap[lb]? = some (.cells (icells L).toArray 139 (0, 0)) := by
  rw [sortWorld_other enc8 w g 0 m dk os lb (lt_of_block h) hne]; exact h
 refine (order1_any lb L x y _ hL hb).mono ?_
 rintro e w' ⟨he, q, rfl⟩
 exact ⟨he, q, #[], by rw [grow_empty]⟩

set_option maxHeartbeats 2000000 in
theorem order_any (L : List Nat) (w : World) (hL : L.length = 256) (hx : ∀ x ∈ L, x ≤ 255) :
  Calls Tryz.prog 181 #[.agg (icells L).toArray] w fun e w' => ∃ v, e = .returned v ∧ w'.ownsRow w.heap.size 5 1 v (Hm.orderOf L).length (Hm.bcells (Hm.orderOf L)) ∧ Kept (fun _ => False) w w' := by
 have hasz : (icells L).toArray.size = 256 := by rw [icells_size, hL]
 have hxb : ∀ b : UInt8, Hm.lnB L b ≤ 255 := fun b => by
  have hb := b.toNat_lt
  rw [Hm.lnB, List.getD_eq_getElem?_getD, List.getElem?_eq_getElem (show b.toNat < L.length from by omega)]; exact hx _ (List.getElem_mem _)
 have hby := bytes_any L (w.alloc (.cells (icells L).toArray 139)) hL (fun x h => by have := hx x h; omega)
 have hbox : (w.alloc (.cells (icells L).toArray 139)).heap[w.heap.size]? = some (.cells (icells L).toArray 139 (0, 0)) := heap_alloc_new w _
 have hlay := fun g n W h hne => cmp_lays L hL w.heap.size g n W h hne
 have HLY : Aside _ := hlay
 have hol := Hm.orderOf_length L hxb
 have hcl := Hm.codedTo_le L 256
 change (Hm.codedOf L).length ≤ 256 at hcl
 have HXB : Aside _ := hxb
 clear hlay hxb
 generalize hA : (icells L).toArray = arr at *
 go_enter Tryz.func181, Tryz.ntmps181
 go_wp2_with (first
  | (refine wpList_load_row rfl 139 _ rfl w.heap.size rfl 139 arr (0, 0) _ hbox Tryz.underlying139 rfl (by rw [hasz]; exact info_len) ?_))
 refine hby.mono ?_
 rintro e w2 ⟨v, rfl, ho, hk⟩
 have hb2 := hk.row hbox id
 have hkw : Kept (fun _ => False) w w2 := ((Kept.refl (fun _ => False) w).alloc _).trans hk (fun _ _ h => h)
 have hob := owns_base (base' := w.heap.size) ho (fun k hk => by have := ho.lt k hk; simp at this; omega)
 have hgt : ∀ k, v.ownBlock = some k → w.heap.size < k := fun k hk => by have := ho.lt k hk; simp at this; omega
 by_cases h0 : (Hm.codedOf L).length = 0
 ·obtain ⟨ao, cp, hv, _⟩ := slice_shape hob
  rw [h0] at hv
  subst hv
  have hst := fun f W => sortStable_zero ao cp f W
  have HX : Aside (w2.ownsRow w.heap.size 5 1 (.slice ao 0 cp) (Hm.orderOf L).length (Hm.bcells (Hm.orderOf L)) ∧ Kept (fun _ => False) w w2) := by
   have e1 : Hm.codedOf L = [] := List.eq_nil_of_length_eq_zero h0
   have e2 : Hm.orderOf L = [] := List.eq_nil_of_length_eq_zero (by omega)
   rw [e1] at hob
   rw [e2]
   exact ⟨hob, hkw⟩
  clear hby hbox ho hk hb2 hkw hob hgt HLY HXB hol hcl
  go_wp2_with fail
  refine (hst _ _).mono ?_
  rintro e w3 ⟨rfl, rfl⟩
  go_wp2
  go_ret
  exact ⟨_, rfl, HX.out⟩
 ·obtain ⟨g, cap, hv, hnc, hgw⟩ := owns_some hob (by omega)
  subst hv
  have hgg := hgt g rfl
  have hd0 : (Hm.codedOf L).toArray.size = (Hm.codedOf L).length := by simp
  have hR : Row1 enc8 w2 g 0 (Hm.codedOf L).toArray := ⟨enc8_one, fun j hj => by
   have hj' : j < (Hm.codedOf L).length := by simpa using hj
   refine ⟨?_, by rw [Nat.zero_add]; exact hob.frozenAt _⟩
   rw [Nat.zero_add, hob.cellAt j (by omega)]
   simp [Hm.bcells, enc8, hj'], hgw⟩
  have hss := sortStable_any (Hm.ordB L) 202 #[.pointer (some ⟨w.heap.size, 0, none⟩)] (fun args W => by kernel_rfl) g cap (Hm.codedOf L).toArray w2 (HLY.out g _ w2 hb2 (by omega)) hR (by omega) (fun i j h1 h2 => by
   have hj' : j < (Hm.codedOf L).length := by simpa using h2
   have hi' : i < (Hm.codedOf L).length := by omega
   have := List.pairwise_iff_getElem.1 (Hm.codedOf_asc L) i j hi' hj' h1
   intro _
   simpa [hi', hj'] using this)
  rw [hd0] at hss
  have HX : Aside (w2.ownsRow w.heap.size 5 1 (.slice (some ⟨g, 0, none⟩) (Hm.codedOf L).length cap) (Hm.codedOf L).length (Hm.bcells (Hm.codedOf L)) ∧ Kept (fun _ => False) w w2) := ⟨hob, hkw⟩
  clear hby hbox ho hk hb2 hkw hob hgt HLY hR hd0
  go_wp2_with fail
  refine hss.mono ?_
  rintro e w3 ⟨rfl, d', hds, hgd, m, os, rfl⟩
  have HY : Aside ((sortWorld enc8 w2 g 0 m d' os).ownsRow w.heap.size 5 1 (.slice (some ⟨g, 0, none⟩) (Hm.codedOf L).length cap) (Hm.orderOf L).length (Hm.bcells (Hm.orderOf L)) ∧ Kept (fun _ => False) w (sortWorld enc8 w2 g 0 m d' os)) := by
   have e1 := hgd.order HXB.out hds
   have h1 := owns_sorted HX.out.1 m d' os hds
   rw [e1] at h1
   rw [hol]
   exact ⟨h1, HX.out.2.trans (kept_sortWorld enc8 w2 g 0 m d' os) (fun j h1 h2 => by omega)⟩
  clear hss hgd hds HX
  generalize sortWorld enc8 w2 g 0 m d' os = w4 at *
  go_wp2
  go_ret
  exact ⟨_, rfl, HY.out⟩

end Go.Proofs.YtegnkfdbmmndaaaGreat
end

/- Assign -/
section
/- The one code of a text of one byte. -/
namespace Go.Proofs.YtegnkfdbmmndaaaGreat
open Go.RowKit

theorem zero_tab_size : Tryz.zeroCells92.size = 512 := by kernel_rfl
def pairs0 (n : Nat) : List Value := (List.replicate n ()).flatMap fun _ => [.int .u64 0, .int .i64 0]
theorem zero_tab : Tryz.zeroCells92 = (pairs0 256).toArray := by kernel_rfl
theorem info_tab : (Tryz.prog.info? 92).map (·.size) = some 512 := by kernel_rfl

end Go.Proofs.YtegnkfdbmmndaaaGreat
end

/- AssignG -/
section
/- The table of codes. -/
namespace Go.Proofs.YtegnkfdbmmndaaaGreat
open Go.RowKit

def tcells : List (Nat × Nat) → List Value
 | [] => []
 | p :: r => .int .u64 (p.1 : Nat) :: .int .i64 (p.2 : Nat) :: tcells r
theorem tcells_length (l : List (Nat × Nat)) : (tcells l).length = l.length * 2 := by
 induction l with
 | nil => rfl
 | cons p r ih => simp [tcells, ih]; omega
theorem tcells_get (l : List (Nat × Nat)) : ∀ i, (h : i < l.length) → (tcells l)[i * 2]? = some (.int .u64 (l[i].1 : Nat)) ∧ (tcells l)[i * 2 + 1]? = some (.int .i64 (l[i].2 : Nat)) := by
 induction l with
 | nil => intro i h; simp at h
 | cons p r ih =>
  intro i h
  cases i with
  | zero => exact ⟨rfl, rfl⟩
  | succ i =>
   have := ih i (by simpa using h)
   rw [show (i + 1) * 2 = i * 2 + 1 + 1 from by omega]
   simpa [tcells] using this
theorem tcells_set (l : List (Nat × Nat)) (p : Nat × Nat) : ∀ i, (h : i < l.length) → ((tcells l).set (i * 2) (.int .u64 (p.1 : Nat))).set (i * 2 + 1) (.int .i64 (p.2 : Nat)) = tcells (l.set i p) := by
 induction l with
 | nil => intro i h; simp at h
 | cons q r ih =>
  intro i h
  cases i with
  | zero => rfl
  | succ i =>
   have := ih i (by simpa using h)
   rw [show (i + 1) * 2 = i * 2 + 1 + 1 from by omega]
   simp [tcells, this]
theorem tcells_zero (n : Nat) : tcells (List.replicate n (0, 0)) = pairs0 n := by
 induction n with
 | zero => rfl
 | succ n ih => rw [List.replicate_succ, tcells, ih]; simp [pairs0, List.replicate_succ]
theorem tcells_one (l : List (Nat × Nat)) : (tcells l).toArray.all (·.oneCell') = true := by
 rw [Array.all_eq_true_iff_forall_mem]
 intro v hv
 have hv' : v ∈ tcells l := by simpa using hv
 clear hv
 induction l with
 | nil => simp [tcells] at hv'
 | cons p r ih =>
  simp only [tcells, List.mem_cons] at hv'
  rcases hv' with rfl | rfl | h
  ·rfl
  ·rfl
  ·exact ih h
/-- Block g is a table of codes. -/
def TabRow (w : World) (g : Nat) (T : List (Nat × Nat)) : Prop := w.heap[g]? = some (.cells (tcells T).toArray 92 (0, 0))
theorem TabRow.set {w : World} {g : Nat} {T : List (Nat × Nat)} (h : TabRow w g T) (i : Nat) (hi : i < T.length) (p : Nat × Nat) : TabRow ((w.setCell ⟨g, i * 2, none⟩ (.int .u64 (p.1 : Nat))).setCell ⟨g, i * 2 + 1, none⟩ (.int .i64 (p.2 : Nat))) g (T.set i p) := by
 have h2 := heap_setCell_same _ g (i * 2 + 1) _ _ (.int .i64 (p.2 : Nat)) (heap_setCell_same w g (i * 2) _ _ (.int .u64 (p.1 : Nat)) h)
 unfold TabRow
 rw [h2, ← tcells_set T p i hi]
 congr 2
 simp

theorem assign_store {wr : World} {b2 b3 bn : Nat} {T : List (Nat × Nat)} {x y : Value} (ht : TabRow wr b2 T) (hn : wr.heap[b3]? = some (.cells #[x, y] 90 (0, 0))) (hne : b2 ≠ b3) (hb : bn < T.length) (p : Nat × Nat) :
  TabRow ((((wr.setCell ⟨b3, 0, none⟩ (.int .u64 (p.1 : Nat))).setCell ⟨b3, 1, none⟩ (.int .i64 (p.2 : Nat))).setCell ⟨b2, bn * 2, none⟩ (.int .u64 (p.1 : Nat))).setCell ⟨b2, bn * 2 + 1, none⟩ (.int .i64 (p.2 : Nat))) b2 (T.set bn p) ∧
  ((((wr.setCell ⟨b3, 0, none⟩ (.int .u64 (p.1 : Nat))).setCell ⟨b3, 1, none⟩ (.int .i64 (p.2 : Nat))).setCell ⟨b2, bn * 2, none⟩ (.int .u64 (p.1 : Nat))).setCell ⟨b2, bn * 2 + 1, none⟩ (.int .i64 (p.2 : Nat))).heap[b3]? = some (.cells #[.int .u64 (p.1 : Nat), .int .i64 (p.2 : Nat)] 90 (0, 0)) ∧
  Kept (fun j => j = b2 ∨ j = b3) wr ((((wr.setCell ⟨b3, 0, none⟩ (.int .u64 (p.1 : Nat))).setCell ⟨b3, 1, none⟩ (.int .i64 (p.2 : Nat))).setCell ⟨b2, bn * 2, none⟩ (.int .u64 (p.1 : Nat))).setCell ⟨b2, bn * 2 + 1, none⟩ (.int .i64 (p.2 : Nat))) := by
 have h1 := heap_setCell_same _ b3 1 _ _ (.int .i64 (p.2 : Nat)) (heap_setCell_same wr b3 0 _ _ (.int .u64 (p.1 : Nat)) hn)
 have h2 : TabRow ((wr.setCell ⟨b3, 0, none⟩ (.int .u64 (p.1 : Nat))).setCell ⟨b3, 1, none⟩ (.int .i64 (p.2 : Nat))) b2 T := by
  unfold TabRow
  rw [Below.heap_setCell _ _ _ _ hne, Below.heap_setCell _ _ _ _ hne]; exact ht
 refine ⟨h2.set bn hb p, ?_, ?_⟩
 ·rw [Below.heap_setCell _ _ _ _ (fun e => hne e.symm), Below.heap_setCell _ _ _ _ (fun e => hne e.symm)]; exact h1
 ·exact ((((Kept.refl (fun j => j = b2 ∨ j = b3) wr).setCell (p := ⟨b3, 0, none⟩) (.inr (.inr rfl)) _).setCell (p := ⟨b3, 1, none⟩) (.inr (.inr rfl)) _).setCell (p := ⟨b2, bn * 2, none⟩) (.inr (.inl rfl)) _).setCell (p := ⟨b2, bn * 2 + 1, none⟩) (.inr (.inl rfl)) _

set_option maxHeartbeats 4000000 in
set_option maxRecDepth 100000 in
theorem assign_any (L : List Nat) (w : World) (hL : L.length = 256) (hx : ∀ x ∈ L, x ≤ 255) (hF : Hm.Fits L (Hm.orderOf L)) :
  Calls Tryz.prog 149 #[.agg (icells L).toArray] w fun e w' => e = .returned (.agg (tcells (Hm.tabOf L)).toArray) ∧ Kept (fun _ => False) w w' := by
 have hasz : (icells L).toArray.size = 256 := by rw [icells_size, hL]
 have HT0 : Aside (Tryz.zeroCells92 = (tcells (Hm.tabTo L (Hm.orderOf L) 256 0)).toArray) := by show _ = _; rw [zero_tab, Hm.tabTo, tcells_zero]
 have hor := fun W => order_any L W hL hx
 have hcell : ∀ W : World, W.heap[w.heap.size]? = some (.cells (icells L).toArray 139 (0, 0)) → ∀ b : UInt8, W.cell? ⟨w.heap.size, b.toNat, none⟩ = some (.int .i64 (Hm.lnB L b : Nat)) := by
  intro W hW b
  have hb := b.toNat_lt
  rw [cell_of_row _ _ _ _ _ _ hW]
  simp [icells, Hm.lnB, List.getD_eq_getElem?_getD, List.getElem?_eq_getElem (show b.toNat < L.length from by omega)]
 have hol : (Hm.orderOf L).length ≤ 256 := by
  have hxb : ∀ b : UInt8, Hm.lnB L b ≤ 255 := fun b => by
   have hb := b.toNat_lt
   rw [Hm.lnB, List.getD_eq_getElem?_getD, List.getElem?_eq_getElem (show b.toNat < L.length from by omega)]; exact hx _ (List.getElem_mem _)
  rw [Hm.orderOf_length L hxb]; exact Hm.codedTo_le L 256
 have HCELL : Aside _ := hcell
 have HF : Aside _ := hF
 have HR : Hid (Hm.tabOf L = Hm.tabTo L (Hm.orderOf L) 256 (Hm.orderOf L).length) := rfl
 rw [HR.out]
 have hbox0 : (((((w.alloc (.cells (icells L).toArray 139)).alloc (.cells Tryz.zeroCells92 92)).alloc (.cells Tryz.zeroCells92 92))).alloc (.cells #[.int .u64 0, .int .i64 0] 90)).heap[w.heap.size]? = some (.cells (icells L).toArray 139 (0, 0)) :=
  ((((Kept.refl (fun _ => False) (w.alloc (.cells (icells L).toArray 139))).alloc _).alloc _).alloc _).row (heap_alloc_new w _) id
 have hres0 : (((((w.alloc (.cells (icells L).toArray 139)).alloc (.cells Tryz.zeroCells92 92)).alloc (.cells Tryz.zeroCells92 92))).alloc (.cells #[.int .u64 0, .int .i64 0] 90)).heap[w.heap.size + 1]? = some (.cells Tryz.zeroCells92 92 (0, 0)) :=
  (((Kept.refl (fun _ => False) ((w.alloc (.cells (icells L).toArray 139)).alloc (.cells Tryz.zeroCells92 92))).alloc _).alloc _).row (heap_alloc2_new w _ _) id
 have htab0 : (((((w.alloc (.cells (icells L).toArray 139)).alloc (.cells Tryz.zeroCells92 92)).alloc (.cells Tryz.zeroCells92 92))).alloc (.cells #[.int .u64 0, .int .i64 0] 90)).heap[w.heap.size + 1 + 1]? = some (.cells Tryz.zeroCells92 92 (0, 0)) := by
  have := ((Kept.refl (fun _ => False) (((w.alloc (.cells (icells L).toArray 139)).alloc (.cells Tryz.zeroCells92 92)).alloc (.cells Tryz.zeroCells92 92))).alloc (.cells #[.int .u64 0, .int .i64 0] 90)).row (heap_alloc_new _ _) id
  simpa using this
 have hnx0 : (((((w.alloc (.cells (icells L).toArray 139)).alloc (.cells Tryz.zeroCells92 92)).alloc (.cells Tryz.zeroCells92 92))).alloc (.cells #[.int .u64 0, .int .i64 0] 90)).heap[w.heap.size + 1 + 1 + 1]? = some (.cells #[.int .u64 0, .int .i64 0] 90 (0, 0)) := by
  have := heap_alloc_new (((w.alloc (.cells (icells L).toArray 139)).alloc (.cells Tryz.zeroCells92 92)).alloc (.cells Tryz.zeroCells92 92)) (.cells #[.int .u64 0, .int .i64 0] 90)
  simpa using this
 have hk0 : Kept (fun _ => False) w (((((w.alloc (.cells (icells L).toArray 139)).alloc (.cells Tryz.zeroCells92 92)).alloc (.cells Tryz.zeroCells92 92))).alloc (.cells #[.int .u64 0, .int .i64 0] 90)) := ((((Kept.refl _ _).alloc _).alloc _).alloc _).alloc _
 clear hcell hF
 generalize (icells L).toArray = arr at *
 go_enter Tryz.func149, Tryz.ntmps149
 go_upto_region 3 with fail
 generalize ((((w.alloc (.cells arr 139)).alloc (.cells Tryz.zeroCells92 92)).alloc (.cells Tryz.zeroCells92 92))).alloc (.cells #[.int .u64 0, .int .i64 0] 90) = W at *
 obtain ⟨b3, hb3⟩ : ∃ b, b = w.heap.size + 1 + 1 + 1 := ⟨_, rfl⟩
 rw [← hb3] at hnx0 ⊢
 obtain ⟨b2, hb2⟩ : ∃ b, b = w.heap.size + 1 + 1 := ⟨_, rfl⟩
 rw [← hb2] at htab0 ⊢
 obtain ⟨b1, hb1⟩ : ∃ b, b = w.heap.size + 1 := ⟨_, rfl⟩
 rw [← hb1] at hres0 ⊢
 have n1 : w.heap.size ≠ b3 := by omega
 have n2 : w.heap.size ≠ b2 := by omega
 have n3 : b1 ≠ b2 := by omega
 have n4 : b1 ≠ b3 := by omega
 have n5 : b2 ≠ b3 := by omega
 have HB : Aside (b1 = w.heap.size + 1 ∧ b2 = w.heap.size + 1 + 1 ∧ b3 = w.heap.size + 1 + 1 + 1) := ⟨hb1, hb2, hb3⟩
 have hWs : b3 < W.heap.size := lt_of_block hnx0
 have hor1 := hor W
 clear hb1 hb2 hb3
 go_wp2_with (first
  | (refine wpList_load_row rfl 139 _ rfl w.heap.size rfl 139 arr (0, 0) _ hbox0 Tryz.underlying139 rfl (by rw [hasz]; exact info_len) ?_))
 refine hor1.mono ?_
 rintro e w2 ⟨v, rfl, ho, hk2⟩
 have hbox := hk2.row hbox0 id
 have hres := hk2.row hres0 id
 have htab := hk2.row htab0 id
 have hnx := hk2.row hnx0 id
 have hkw2 := hk0.trans hk2 (fun _ _ h => h)
 rw [HT0.out] at htab
 have hvg : ∀ k, v.ownBlock = some k → b3 < k := fun k hk => by have := ho.lt k hk; omega
 obtain ⟨ao, cp, hv, _⟩ := slice_shape ho
 subst hv
 have HX : Aside (w2.ownsRow W.heap.size 5 1 (.slice ao (Hm.orderOf L).length cp) (Hm.orderOf L).length (Hm.bcells (Hm.orderOf L)) ∧ w2.heap[w.heap.size]? = some (.cells arr 139 (0, 0)) ∧ w2.heap[b1]? = some (.cells Tryz.zeroCells92 92 (0, 0)) ∧ TabRow w2 b2 (Hm.tabTo L (Hm.orderOf L) 256 0) ∧ w2.heap[b3]? = some (.cells #[.int .u64 0, .int .i64 0] 90 (0, 0)) ∧ Kept (fun _ => False) w w2 ∧ ∀ k, (Value.slice ao (Hm.orderOf L).length cp).ownBlock = some k → b3 < k) := ⟨ho, hbox, hres, htab, hnx, hkw2, hvg⟩
 have hs2 : b3 < w2.heap.size := lt_of_block hnx
 clear hor hor1 ho hbox hres htab hnx hkw2 hvg hbox0 hres0 htab0 hnx0 hk0 hk2 HT0
 generalize hO : Hm.orderOf L = o at *
 go_wp2_with fail
 go_loopw [11] (fun i wr => ∃ k : Nat, k ≤ o.length ∧ i = .int .i64 k ∧ TabRow wr b2 (Hm.tabTo L o 256 k) ∧ wr.heap[b3]? = some (.cells #[.int .u64 ((Hm.codeTo L o k).1 : Nat), .int .i64 ((Hm.codeTo L o k).2 : Nat)] 90 (0, 0)) ∧ Kept (fun j => j = b2 ∨ j = b3) w2 wr) (fun i _ => o.length - (intOf i).toNat)
 case atStart => exact ⟨0, Nat.zero_le _, rfl, HX.out.2.2.2.1, HX.out.2.2.2.2.1, Kept.refl _ _⟩
 case round =>
  obtain ⟨k, hk, rfl, htb, hnx, hkr⟩ := hrel
  by_cases hlt : k < o.length
  ·obtain ⟨b, hbd⟩ : ∃ b, b = o.getD k 0 := ⟨_, rfl⟩
   have hor := hkr.owns HX.out.1 (fun j hj e => by have := HX.out.2.2.2.2.2.2 j hj; have := HB.out; rcases e with e | e <;> omega)
   have hbx := hkr.row HX.out.2.1 (fun e => by rcases e with e | e <;> omega)
   obtain ⟨g, cap, hv, _, hgw⟩ := owns_some hor (by omega)
   simp only [Value.slice.injEq] at hv
   obtain ⟨hao, _, hcp⟩ := hv
   subst hao
   subst hcp
   have hcb : wr.cell? ⟨g, k, none⟩ = some (.int .u8 (b.toNat : Nat)) := by
    rw [hor.cellAt k (by omega), hbd]
    simp [Hm.bcells, hlt]
   have hcl := HCELL.out wr hbx b
   have hl17 := HF.out.short b (by rw [hbd]; exact Hm.getD_mem hlt)
   have hstep := HF.out.step_le k hlt
   have hnum := HF.out.num_le k hk
   have hnum2 := HF.out.num_le (k + 1) hlt
   have e1 : Hm.codeTo L o (k + 1) = (((Hm.codeTo L o k).1 + if k = 0 then 0 else 1) * 2 ^ (Hm.lnB L b - (Hm.codeTo L o k).2), Hm.lnB L b) := by rw [hbd]; rfl
   have e2 : Hm.tabTo L o 256 (k + 1) = (Hm.tabTo L o 256 k).set b.toNat (Hm.codeTo L o (k + 1)) := by rw [hbd]; rfl
   rw [← hbd] at hstep
   have hbn := b.toNat_lt
   have hT := Hm.tabTo_length L o 256 k
   have htg := tcells_get (Hm.tabTo L o 256 k) b.toNat (by omega)
   have c0 : wr.cell? ⟨b3, 0, none⟩ = some (.int .u64 ((Hm.codeTo L o k).1 : Nat)) := cell_of_row _ _ 0 _ _ _ hnx
   have c1 : wr.cell? ⟨b3, 1, none⟩ = some (.int .i64 ((Hm.codeTo L o k).2 : Nat)) := cell_of_row _ _ 1 _ _ _ hnx
   have f0 : wr.frozen? ⟨b3, 0, none⟩ = false := frozen_of_row _ _ 0 _ _ hnx
   have f1 : wr.frozen? ⟨b3, 1, none⟩ = false := frozen_of_row _ _ 1 _ _ hnx
   obtain ⟨x0, t0⟩ : ∃ x, wr.cell? ⟨b2, b.toNat * 2, none⟩ = some x := ⟨_, (cell_of_row _ _ _ _ _ _ htb).trans (by rw [List.getElem?_toArray]; exact htg.1)⟩
   obtain ⟨x1, t1⟩ : ∃ x, wr.cell? ⟨b2, b.toNat * 2 + 1, none⟩ = some x := ⟨_, (cell_of_row _ _ _ _ _ _ htb).trans (by rw [List.getElem?_toArray]; exact htg.2)⟩
   have g0 : wr.frozen? ⟨b2, b.toNat * 2, none⟩ = false := frozen_of_row _ _ _ _ _ htb
   have g1 : wr.frozen? ⟨b2, b.toNat * 2 + 1, none⟩ = false := frozen_of_row _ _ _ _ _ htb
   obtain ⟨lg, hlg⟩ : ∃ lg, Hm.lnB L b = (Hm.codeTo L o k).2 + lg := ⟨Hm.lnB L b - (Hm.codeTo L o k).2, by omega⟩
   rw [show Hm.lnB L b - (Hm.codeTo L o k).2 = lg from by omega] at e1
   have H : Aside (TabRow wr b2 (Hm.tabTo L o 256 k) ∧ wr.heap[b3]? = some (.cells #[.int .u64 ((Hm.codeTo L o k).1 : Nat), .int .i64 ((Hm.codeTo L o k).2 : Nat)] 90 (0, 0)) ∧ Hm.codeTo L o (k + 1) = (((Hm.codeTo L o k).1 + if k = 0 then 0 else 1) * 2 ^ lg, Hm.lnB L b) ∧ Hm.tabTo L o 256 (k + 1) = (Hm.tabTo L o 256 k).set b.toNat (Hm.codeTo L o (k + 1)) ∧ (Hm.tabTo L o 256 k).length = 256 ∧ b.toNat < 256) := ⟨htb, hnx, e1, e2, hT, hbn⟩
   rw [e1] at hnum2
   clear hor hbx htb hnx e1 e2 hT htg hbd
   obtain ⟨c, hc⟩ : ∃ c, c = (Hm.codeTo L o k).1 := ⟨_, rfl⟩
   obtain ⟨l0, hl0⟩ : ∃ c, c = (Hm.codeTo L o k).2 := ⟨_, rfl⟩
   obtain ⟨l, hl⟩ : ∃ c, c = Hm.lnB L b := ⟨_, rfl⟩
   obtain ⟨bn, hbe⟩ : ∃ c, c = b.toNat := ⟨_, rfl⟩
   have HE : Aside (c = (Hm.codeTo L o k).1 ∧ l0 = (Hm.codeTo L o k).2 ∧ l = Hm.lnB L b ∧ bn = b.toNat) := ⟨hc, hl0, hl, hbe⟩
   rw [← hc, ← hl0] at hnum
   rw [← hc] at c0 hnum2
   rw [← hl0] at c1 hstep hlg
   rw [← hl] at hcl hl17 hstep hlg
   rw [← hbe] at hcb hcl t0 t1 g0 g1 hbn
   clear hc hl0 hl hbe
   have zl : (l : Int) - (l0 : Int) = (lg : Int) := by omega
   have hbI : (bn : Int) < 256 := by omega
   have hkI : decide ((k : Int) < (o.length : Int)) = true := decide_eq_true (by omega)
   have hgl : lg ≤ 64 := by omega
   have m1 : g ≠ b3 := by have := HX.out.2.2.2.2.2.2 g rfl; omega
   have m2 : g ≠ b2 := by have := HX.out.2.2.2.2.2.2 g rfl; have := HB.out; omega
   by_cases hk0 : k = 0
   ·subst hk0
    rw [if_pos rfl, Nat.add_zero] at hnum2
    obtain ⟨c2, hc2⟩ : ∃ c2, c2 = c * 2 ^ lg := ⟨_, rfl⟩
    rw [← hc2] at hnum2
    have zs : IntKind.u64.wrap ((c : Int) * 2 ^ lg) = (c2 : Int) := by
     have e : (c : Int) * 2 ^ lg = (c2 : Int) := by rw [hc2]; simp
     rw [e, IntKind.wrap_u64]; have := hnum2.1; omega
    have HN : Aside (Hm.codeTo L o (0 + 1) = (c2, l)) := by
     obtain ⟨q1, q2, q3, q4⟩ := HE.out
     show _ = _
     rw [H.out.2.2.1, if_pos rfl, Nat.add_zero, ← q1, ← q3, hc2]
    have HS := assign_store H.out.1 H.out.2.1 n5 (bn := bn) (by rw [H.out.2.2.2.2.1]; exact hbn) (c2, l)
    have HS2 : Aside _ := HS
    have hst : Aside (Hm.tabTo L o 256 (0 + 1) = (Hm.tabTo L o 256 0).set bn (c2, l)) := by
     show _ = _
     rw [H.out.2.2.2.1, HN.out, HE.out.2.2.2]
    clear hlg hc2 HS H HE hnum hnum2 hstep
    go_wp2_with fail
    go_region
    go_wp2_with fail
    go_region
    go_wp2
    go_roundw
    case rel =>
     obtain ⟨s1, s2, s3⟩ := HS2.out
     refine ⟨0 + 1, by omega, by go_num, ?_, ?_, ?_⟩
     ·rw [hst.out]; exact s1
     ·rw [HN.out]; exact s2
     ·exact (hkr.trans s3 (fun _ _ h => h)).drew.drew
    case measure => simp [intOf]; omega
   ·have hkd : decide ((k : Int) > 0) = true := decide_eq_true (by omega)
    have hkd2 : decide (0 < k) = true := decide_eq_true (by omega)
    rw [if_neg hk0] at hnum2
    obtain ⟨c2, hc2⟩ : ∃ c2, c2 = (c + 1) * 2 ^ lg := ⟨_, rfl⟩
    rw [← hc2] at hnum2
    have zs : IntKind.u64.wrap (((c : Int) + 1) * 2 ^ lg) = (c2 : Int) := by
     have e : ((c : Int) + 1) * 2 ^ lg = (c2 : Int) := by rw [hc2]; simp
     rw [e, IntKind.wrap_u64]; have := hnum2.1; omega
    have HN : Aside (Hm.codeTo L o (k + 1) = (c2, l)) := by
     obtain ⟨q1, q2, q3, q4⟩ := HE.out
     show _ = _
     rw [H.out.2.2.1, if_neg hk0, ← q1, ← q3, hc2]
    have htb2 : TabRow (wr.setCell ⟨b3, 0, none⟩ (.int .u64 ((c : Int) + 1))) b2 (Hm.tabTo L o 256 k) := by
     unfold TabRow
     rw [Below.heap_setCell _ _ _ _ n5]; exact H.out.1
    have hnx2 := heap_setCell_same wr b3 0 _ _ (.int .u64 ((c : Int) + 1)) H.out.2.1
    have HS := assign_store htb2 hnx2 n5 (bn := bn) (by rw [H.out.2.2.2.2.1]; exact hbn) (c2, l)
    have HS2 : Aside _ := HS
    have hst : Aside (Hm.tabTo L o 256 (k + 1) = (Hm.tabTo L o 256 k).set bn (c2, l)) := by
     show _ = _
     rw [H.out.2.2.2.1, HN.out, HE.out.2.2.2]
    have hc131 : (c : Int) < 4294967296 := by have := hnum.1; omega
    clear hlg hc2 HS H HE hnum hnum2 hstep htb2 hnx2
    go_wp2_with fail
    go_region
    go_wp2_with fail
    go_region
    go_wp2
    go_roundw
    case rel =>
     obtain ⟨s1, s2, s3⟩ := HS2.out
     refine ⟨k + 1, by omega, by go_num, ?_, ?_, ?_⟩
     ·rw [hst.out]; exact s1
     ·rw [HN.out]; exact s2
     ·exact ((hkr.setCell (p := ⟨b3, 0, none⟩) (.inr (.inr rfl)) _).trans s3 (fun _ _ h => h)).drew.drew
    case measure => simp [intOf]; omega
  ·obtain rfl : k = o.length := by omega
   have hkI : decide ((o.length : Int) < (o.length : Int)) = false := decide_eq_false (by omega)
   have hts : (tcells (Hm.tabTo L o 256 o.length)).toArray.size = 512 := by rw [List.size_toArray, tcells_length, Hm.tabTo_length]
   have hres := hkr.row HX.out.2.2.1 (fun e => by have := HB.out; rcases e with e | e <;> omega)
   have hkw := HX.out.2.2.2.2.2.1.trans hkr (fun j h1 h2 => by have := HB.out; rcases h2 with h2 | h2 <;> omega)
   have hta := tcells_one (Hm.tabTo L o 256 o.length)
   have HZ : Aside (wr.heap[b1]? = some (.cells Tryz.zeroCells92 92 (0, 0)) ∧ Kept (fun _ => False) w wr ∧ wr.heap[b2]? = some (.cells (tcells (Hm.tabTo L o 256 o.length)).toArray 92 (0, 0)) ∧ (tcells (Hm.tabTo L o 256 o.length)).toArray.size = 512 ∧ (tcells (Hm.tabTo L o 256 o.length)).toArray.all (·.oneCell') = true) := ⟨hres, hkw, htb, hts, hta⟩
   clear hres hkw htb hts hta hnx hkr HX HF HCELL
   have hb1w : w.heap.size ≤ b1 := by have := HB.out; omega
   obtain ⟨TT, hTT⟩ : ∃ TT, TT = (tcells (Hm.tabTo L o 256 o.length)).toArray := ⟨_, rfl⟩
   rw [← hTT] at HZ
   have HTT : Aside (TT = (tcells (Hm.tabTo L o 256 o.length)).toArray) := hTT
   clear hTT
   go_wp2_with (first
    | (refine wpList_load_row rfl 92 _ rfl b2 rfl 92 TT (0, 0) _ HZ.out.2.2.1 Tryz.underlying92 rfl (by rw [HZ.out.2.2.2.1]; exact info_tab) ?_)
    | (refine wpList_store_row _ rfl 92 _ _ rfl b1 92 Tryz.zeroCells92 TT rfl rfl HZ.out.1 (by rw [HZ.out.2.2.2.1]; exact info_tab) (by rw [HZ.out.2.2.2.1]; exact zero_tab_size) HZ.out.2.2.2.2 ?_; intro w5 hw5 hk5))
   refine bodyPost_ret (v := .agg TT) (results_cell_row Tryz.results149 _ w5 b1 92 _ (0, 0) _ rfl hw5 Tryz.underlying92 rfl (by rw [HZ.out.2.2.2.1]; exact info_tab)) rfl ⟨by rw [HTT.out, hO], ?_⟩
   exact HZ.out.2.1.trans hk5 (fun j h1 h2 => by omega)

end Go.Proofs.YtegnkfdbmmndaaaGreat
end
