/- The archive of files whose text is of one byte. -/
import Derived.Test.YtjjejdfmcohghaaSizes
import Derived.Test.YtjjejdfmcohghaaTree
import Derived.Test.YtjjejdfmcohghaaAssignOne
import Derived.Test.YtjjejdfmcohghaaCheck
import Derived.Test.YtjjejdfmcohghaaLeaf
import Derived.Lib.SlBytesConst
namespace Go.Proofs.Ytjjejdfmcohghaa
open Go.RowKit

theorem lenSays : LenSays := fun x W h0 h1 => (Try.bits_Len x W h0 h1).mono fun _ _ ⟨he, hw⟩ => ⟨he, hw.symm⟩

set_option maxHeartbeats 4000000 in
set_option maxRecDepth 100000 in
theorem archive_one (ao : Option Addr) (c cn : Nat) (fs : List (ByteArray × ByteArray)) (w : World) (hf : FilesAt w ao fs) (hfb : ∀ a, ao = some a → a.block < w.heap.size) (hm : fs.length ≤ 40) (h32 : ∀ f ∈ fs, f.1.size ≤ 32)
    (n : Nat) (hnt : (Hm.textOf fs).length = n) (hn1 : 1 ≤ n) (hn : n ≤ 6000) (hcn : cn < 256) (hc : ∀ b ∈ Hm.textOf fs, b.toNat = cn) :
    Calls Try.prog 7 #[.slice ao fs.length c] w fun e w' => ∃ s : ByteArray, e = .returned (.string s) ∧
      s.size = 19 + (Hm.nameBytes fs).length + ((Hm.endsBits (Hm.endsOf fs) n).length + 7) / 8 + (n + 7) / 8 + (n + 1 + (n / 8 + 1) * Lib.bitLen (n / 8) + 7) / 8 ∧ Kept (fun _ => False) w w' := by
  have hjf := joinFiles_any ao c fs w hf hm (by omega)
  have hsz : (⟨(Hm.textOf fs).toArray⟩ : ByteArray).size = n := by rw [← hnt]; rfl
  have hsl : (⟨(Hm.textOf fs).toArray⟩ : ByteArray).data.toList = Hm.textOf fs := rfl
  have hcs : ∀ k, (h : k < (⟨(Hm.textOf fs).toArray⟩ : ByteArray).size) → (⟨(Hm.textOf fs).toArray⟩ : ByteArray)[k].toNat = cn := fun k h => hc _ (by
    show (Hm.textOf fs).toArray[k] ∈ _
    simp)
  have HF : Hid (FilesAt w ao fs ∧ (∀ a, ao = some a → a.block < w.heap.size) ∧ (∀ f ∈ fs, f.1.size ≤ 32) ∧ (⟨(Hm.textOf fs).toArray⟩ : ByteArray).data.toList = Hm.textOf fs ∧ (∀ b ∈ Hm.textOf fs, b.toNat = cn) ∧ (Hm.textOf fs).length = n) := ⟨hf, hfb, h32, hsl, hc, hnt⟩
  generalize hst : (⟨(Hm.textOf fs).toArray⟩ : ByteArray) = st at *
  clear hf hfb h32 hsl hc hnt hst
  go_enter Try.func7, Try.ntmps7
  go_wp2_with fail
  refine hjf.mono ?_
  rintro e w1 ⟨rfl, he1, hk1⟩
  clear hjf
  have hso := sort_any st w1 (by omega)
  go_wp2_with fail
  refine hso.mono ?_
  rintro e w2 ⟨ps, rfl, hpl2, hp2, hk2⟩
  clear hso
  have hme := measure_one st cn w2 (by omega) (by omega) hcn hcs
  have he2 := he1.kept hk2 id
  have hk02 : Kept (fun _ => False) w w2 := hk1.trans hk2 (fun _ _ h => h)
  clear hk1 hk2 he1
  go_wp2_with fail
  refine hme.mono ?_
  rintro e w3 ⟨rfl, hk3⟩
  clear hme
  have he3 := he2.kept hk3 id
  have hp3 := hp2.kept hk3 id
  have hk03 := hk02.trans hk3 (fun _ _ h => h)
  clear hk02 hk3 he2 hp2
  have hasz : (icells (Hm.oneAt 256 cn 1)).toArray.size = 256 := by rw [icells_size, Hm.oneAt_length]
  have hall := icells_one (Hm.oneAt 256 cn 1)
  have hzs : Try.zeroCells39.size = (icells (Hm.oneAt 256 cn 1)).toArray.size := by rw [hasz, zero_len, icells_size, List.length_replicate]
  have has := fun W => assign_one cn W hcn
  generalize hA : (icells (Hm.oneAt 256 cn 1)).toArray = arr at *
  have HA : Hid (arr = (icells (Hm.oneAt 256 cn 1)).toArray ∧ arr.all (·.oneCell') = true ∧ Try.zeroCells39.size = arr.size) := ⟨hA.symm, hall, hzs⟩
  clear hA hall hzs
  have HP : Hid (IntRow w3 (w.heap.size + 1) (Hm.endsOf fs) ∧ IntRow w3 w1.heap.size ps ∧ Kept (fun _ => False) w w3 ∧ Hm.Places st.data.toList ps) := ⟨he3, hp3, hk03, hpl2⟩
  clear he3 hp3 hk03 hpl2 hcs
  go_wp2_with (first
    | (refine wpList_store_row _ rfl 39 _ _ rfl w3.heap.size 39 Try.zeroCells39 arr rfl rfl (heap_alloc_new w3 _) (by rw [hasz]; exact info_len) HA.out.2.2 HA.out.2.1 ?_; intro w4 hw4 hk4)
    | (refine wpList_load_row rfl 39 _ rfl w3.heap.size rfl 39 arr (0, 0) _ hw4 Try.underlying39 rfl (by rw [hasz]; exact info_len) ?_))
  refine (has w4).mono ?_
  rintro e w5 ⟨rfl, hk5⟩
  clear has
  obtain ⟨he3, hp3, hk03, hpl⟩ := HP.out
  have hs3 : w.heap.size + 1 < w3.heap.size := he3.lt
  have hs3' : w1.heap.size < w3.heap.size := hp3.lt
  have hs4 : w3.heap.size < w4.heap.size := lt_of_block hw4
  have hk35 : Kept (fun _ => False) w3 w5 := (((Kept.refl (fun _ => False) w3).alloc _).trans hk4 (fun j h1 h2 => by omega)).trans hk5 (fun _ _ h => h)
  have hlen5 := hk5.row hw4 id
  have he5 := he3.kept hk35 id
  have hp5 := hp3.kept hk35 id
  have hk05 := hk03.trans hk35 (fun _ _ h => h)
  have hperm := hpl.perm
  have HPL : Hid (Hm.Places st.data.toList ps ∧ ps.Perm (List.range (st.data.toList.length + 1))) := ⟨hpl, hperm⟩
  clear he3 hp3 hk03 hpl HP hk4 hk5 hw4 hperm
  have hts := tab1_size zero_tab_size cn
  have hta := tab1_all zero_tab_all cn
  have htn := tab1_num zero_tab_size cn hcn
  have htl := tab1_len zero_tab_size cn hcn
  generalize tab1 Try.zeroCells45 cn = tab at *
  have HTB : Hid (tab.all (·.oneCell') = true ∧ Try.zeroCells45.size = tab.size ∧ tab[cn * 2]? = some (.int .u64 0) ∧ tab[cn * 2 + 1]? = some (.int .i64 1)) := ⟨hta, by rw [hts]; exact zero_tab_size, htn, htl⟩
  clear hta htn htl
  have HP : Hid (IntRow w5 (w.heap.size + 1) (Hm.endsOf fs) ∧ IntRow w5 w1.heap.size ps ∧ Kept (fun _ => False) w w5 ∧ w5.heap[w3.heap.size]? = some (.cells arr 39 (0, 0))) := ⟨he5, hp5, hk05, hlen5⟩
  have hs5 : w3.heap.size < w5.heap.size := lt_of_block hlen5
  clear he5 hp5 hk05 hlen5 hk35
  go_wp2_with (first
    | (refine wpList_store_row _ rfl 45 _ _ rfl w5.heap.size 45 Try.zeroCells45 tab rfl rfl (heap_alloc_new w5 _) (by rw [hts]; exact info_tab) HTB.out.2.1 HTB.out.1 ?_; intro w6 hw6 hk6))
  obtain ⟨he5, hp5, hk05, hlen5⟩ := HP.out
  have hk56 : Kept (fun _ => False) w5 w6 := ((Kept.refl (fun _ => False) w5).alloc _).trans hk6 (fun j h1 h2 => by omega)
  have he6 := he5.kept hk56 id
  have hp6 := hp5.kept hk56 id
  have hk06 := hk05.trans hk56 (fun _ _ h => h)
  have hlen6 := hk56.row hlen5 id
  clear he5 hp5 hk05 hlen5 HP hk6 hk56
  have hs6 : w5.heap.size < w6.heap.size := lt_of_block hw6
  have hen := makeEnds_any (some ⟨w.heap.size + 1, 0, none⟩) fs.length (Hm.endsOf fs) n w6 he6.at (by rw [Hm.endsOf_length]; exact hm) hn (fun e he => by have := Hm.endsOf_le fs e he; have h3 := HF.out.2.2.2.2.2; omega)
  rw [Hm.endsOf_length] at hen
  have HP : Hid (IntRow w6 w1.heap.size ps ∧ Kept (fun _ => False) w w6 ∧ w6.heap[w3.heap.size]? = some (.cells arr 39 (0, 0)) ∧ w6.heap[w5.heap.size]? = some (.cells tab 45 (0, 0))) := ⟨hp6, hk06, hlen6, hw6⟩
  clear he6 hp6 hk06 hlen6 hw6
  generalize hEB : Hm.endsBits (Hm.endsOf fs) n = EB at hen
  have HEB : Hid (Hm.endsBits (Hm.endsOf fs) n = EB) := hEB
  clear hEB
  refine hen.mono ?_
  rintro e w7 ⟨ve, rfl, hoe7, hk7⟩
  clear hen
  obtain ⟨ae, ce, hve, _⟩ := slice_shape hoe7
  subst hve
  obtain ⟨hp6, hk06, hlen6, hw6⟩ := HP.out
  have hp7 := hp6.kept hk7 id
  have hk07 := hk06.trans hk7 (fun _ _ h => h)
  have hlen7 := hk7.row hlen6 id
  have htab7 := hk7.row hw6 id
  have hs7 : w6.heap.size ≤ w7.heap.size := hk7.size
  clear hp6 hk06 hlen6 hw6 hk7 HP
  have hk8 : Kept (fun _ => False) w7 (w7.alloc (.cells #[.slice ae ((EB.length + 7) / 8) ce, .int .i64 (EB.length : Nat)] 50)) := (Kept.refl _ _).alloc _
  have hE8 : BitsAt (w7.alloc (.cells #[.slice ae ((EB.length + 7) / 8) ce, .int .i64 (EB.length : Nat)] 50)) 50 w7.heap.size (.slice ae ((EB.length + 7) / 8) ce) EB :=
    ⟨heap_alloc_new w7 _, owns_zero (hoe7.alloc _), fun h => by have := hoe7.lt _ h; omega⟩
  have hco := column_any w1.heap.size (n + 1) st ps (w7.alloc (.cells #[.slice ae ((EB.length + 7) / 8) ce, .int .i64 (EB.length : Nat)] 50)) (hp7.kept hk8 id) (by omega) (by have := HPL.out.2.length_eq; have h3 := HF.out.2.2.2; rw [h3.1] at this; simp at this; omega) (fun x hx => by have := HPL.out.2.subset hx; have h3 := HF.out.2.2.2; rw [h3.1] at this; simp at this; omega)
  have hpsl : ps.length = n + 1 := by have := HPL.out.2.length_eq; have h3 := HF.out.2.2.2; rw [h3.1] at this; simp at this; omega
  rw [hpsl] at hco
  have hcl : (Hm.colOf st.data.toList ps).length = n := by rw [Hm.colOf_length HPL.out.2, HF.out.2.2.2.1]; exact HF.out.2.2.2.2.2
  have hca := Hm.colOf_all (s := st.data.toList) cn (by rw [HF.out.2.2.2.1]; exact HF.out.2.2.2.2.1) HPL.out.2
  generalize Hm.colOf st.data.toList ps = C at hco hcl hca
  have HC : Hid (∀ b ∈ C, b.toNat = cn) := hca
  have HPSL : Hid (ps.length = n + 1) := hpsl
  have HP : Hid (IntRow w7 w1.heap.size ps ∧ Kept (fun _ => False) w w7 ∧ w7.heap[w3.heap.size]? = some (.cells arr 39 (0, 0)) ∧ w7.heap[w5.heap.size]? = some (.cells tab 45 (0, 0)) ∧ BitsAt (w7.alloc (.cells #[.slice ae ((EB.length + 7) / 8) ce, .int .i64 (EB.length : Nat)] 50)) 50 w7.heap.size (.slice ae ((EB.length + 7) / 8) ce) EB ∧ Kept (fun _ => False) w7 (w7.alloc (.cells #[.slice ae ((EB.length + 7) / 8) ce, .int .i64 (EB.length : Nat)] 50))) := ⟨hp7, hk07, hlen7, htab7, hE8, hk8⟩
  clear hp7 hk07 hlen7 htab7 hE8 hk8 hoe7 hca hpsl
  go_wp2_with fail
  refine hco.mono ?_
  rintro e w9 ⟨vc, rfl, hoc, hk9⟩
  clear hco
  obtain ⟨hp7, hk07, hlen7, htab7, hE8, hk8⟩ := HP.out
  have hk79 := hk8.trans hk9 (fun _ _ h => h)
  have hp9 := hp7.kept hk79 id
  have hk09 := hk07.trans hk79 (fun _ _ h => h)
  have hlen9 := hk79.row hlen7 id
  have htab9 := hk79.row htab7 id
  have hE9 := hE8.kept hk9 id (fun _ _ => id)
  clear hp7 hk07 hlen7 htab7 hE8 hk8 hk9 HP hk79
  rw [hcl] at hoc
  obtain ⟨gc, cc, hvc, _, hgcw⟩ := owns_some hoc (by omega)
  subst hvc
  have hcolc : ∀ k, k < n → w9.cell? ⟨gc, k, none⟩ = some (.int .u8 (cn : Nat)) := fun k hk => by
    rw [hoc.cellAt k (by omega), Hm.bcells, List.getElem?_map, List.getElem?_eq_getElem (by omega)]
    show some (Value.int .u8 ((C[k]'(by omega)).toNat : Int)) = _
    rw [HC.out _ (List.getElem_mem _)]
  have hmt := makeTree_one gc cc w5.heap.size n cn w9 hcolc (by rw [cell_of_row _ _ _ _ _ _ htab9]; exact HTB.out.2.2.1) (by rw [cell_of_row _ _ _ _ _ _ htab9]; exact HTB.out.2.2.2) hcn hn hn1
  have hs9 : w7.heap.size < w9.heap.size := lt_of_block hE9.blk
  have HP : Hid (IntRow w9 w1.heap.size ps ∧ Kept (fun _ => False) w w9 ∧ w9.heap[w3.heap.size]? = some (.cells arr 39 (0, 0)) ∧ BitsAt w9 50 w7.heap.size (.slice ae ((EB.length + 7) / 8) ce) EB) := ⟨hp9, hk09, hlen9, hE9⟩
  clear hp9 hk09 hlen9 hE9 htab9 hcolc hoc HC hcl
  go_wp2_with fail
  refine hmt.mono ?_
  rintro e w10 ⟨vt, rfl, hot, hk10⟩
  clear hmt
  obtain ⟨at_, ct_, hvt, _⟩ := slice_shape hot
  subst hvt
  obtain ⟨hp9, hk09, hlen9, hE9⟩ := HP.out
  have hk11 : Kept (fun _ => False) w9 (w10.alloc (.cells #[.slice at_ ((n + 7) / 8) ct_, .int .i64 (n : Nat)] 52)) := hk10.alloc _
  have hT11 : BitsAt (w10.alloc (.cells #[.slice at_ ((n + 7) / 8) ct_, .int .i64 (n : Nat)] 52)) 52 w10.heap.size (.slice at_ ((n + 7) / 8) ct_) (List.replicate n false) :=
    ⟨by rw [List.length_replicate]; exact heap_alloc_new w10 _, by rw [List.length_replicate]; exact owns_zero (hot.alloc _), fun h => by have := hot.lt _ h; omega⟩
  have hp11 := hp9.kept hk11 id
  have hE11 := hE9.kept hk11 id (fun _ _ => id)
  have hlen11 := hk11.row hlen9 id
  have hk011 := hk09.trans hk11 (fun _ _ h => h)
  have hs10 : w9.heap.size ≤ w10.heap.size := hk10.size
  have hsm := makeSamples_any lenSays (some ⟨w1.heap.size, 0, none⟩) (n + 1) ps (w10.alloc (.cells #[.slice at_ ((n + 7) / 8) ct_, .int .i64 (n : Nat)] 52)) hp11.at (by have := HPSL.out; omega) (by have := HPSL.out; omega) (fun x hx => by have := HPL.out.2.subset hx; have h3 := HF.out.2.2.2; rw [h3.1] at this; simp at this; omega)
  rw [HPSL.out] at hsm
  have hSL : (Hm.samples ps).length = n + 1 + (n / 8 + 1) * Lib.bitLen (n / 8) := Hm.samples_length (by have h2 := HPL.out.2; rw [HF.out.2.2.2.1, HF.out.2.2.2.2.2] at h2; exact h2)
  generalize Hm.samples ps = SB at hsm hSL
  have HSL : Hid (SB.length = n + 1 + (n / 8 + 1) * Lib.bitLen (n / 8)) := hSL
  have hbl : Lib.bitLen (n / 8) ≤ 10 := Lib.bitLen_le _ 10 (by omega) (by omega)
  have hSLb : SB.length ≤ 100000 := by
    have : (n / 8 + 1) * Lib.bitLen (n / 8) ≤ 751 * 10 := Nat.mul_le_mul (by omega) hbl
    omega
  have HP2 : Hid (IntRow (w10.alloc (.cells #[.slice at_ ((n + 7) / 8) ct_, .int .i64 (n : Nat)] 52)) w1.heap.size ps ∧ Kept (fun _ => False) w (w10.alloc (.cells #[.slice at_ ((n + 7) / 8) ct_, .int .i64 (n : Nat)] 52)) ∧ (w10.alloc (.cells #[.slice at_ ((n + 7) / 8) ct_, .int .i64 (n : Nat)] 52)).heap[w3.heap.size]? = some (.cells arr 39 (0, 0)) ∧ BitsAt (w10.alloc (.cells #[.slice at_ ((n + 7) / 8) ct_, .int .i64 (n : Nat)] 52)) 50 w7.heap.size (.slice ae ((EB.length + 7) / 8) ce) EB ∧ BitsAt (w10.alloc (.cells #[.slice at_ ((n + 7) / 8) ct_, .int .i64 (n : Nat)] 52)) 52 w10.heap.size (.slice at_ ((n + 7) / 8) ct_) (List.replicate n false)) := ⟨hp11, hk011, hlen11, hE11, hT11⟩
  clear hp9 hk09 hlen9 hE9 HP hk10 hk11 hT11 hp11 hE11 hlen11 hk011 hot hSL hbl
  go_wp2_with fail
  refine hsm.mono ?_
  rintro e w12 ⟨vs, rfl, hos, hk12⟩
  clear hsm
  obtain ⟨as_, cs_, hvs, _⟩ := slice_shape hos
  subst hvs
  obtain ⟨hp11, hk011, hlen11, hE11, hT11⟩ := HP2.out
  have hk13 : Kept (fun _ => False) (w10.alloc (.cells #[.slice at_ ((n + 7) / 8) ct_, .int .i64 (n : Nat)] 52)) (w12.alloc (.cells #[.slice as_ ((SB.length + 7) / 8) cs_, .int .i64 (SB.length : Nat)] 56)) := hk12.alloc _
  have hS13 : BitsAt (w12.alloc (.cells #[.slice as_ ((SB.length + 7) / 8) cs_, .int .i64 (SB.length : Nat)] 56)) 56 w12.heap.size (.slice as_ ((SB.length + 7) / 8) cs_) SB :=
    ⟨heap_alloc_new w12 _, owns_zero (hos.alloc _), fun h => by have := hos.lt _ h; omega⟩
  have hp13 := hp11.kept hk13 id
  have hE13 := hE11.kept hk13 id (fun _ _ => id)
  have hT13 := hT11.kept hk13 id (fun _ _ => id)
  have hlen13 := hk13.row hlen11 id
  have hk013 := hk011.trans hk13 (fun _ _ h => h)
  have hs12 : w10.heap.size < w12.heap.size := by have := hk12.size; simp at this; omega
  clear hp11 hk011 hlen11 hE11 hT11 HP2 hk12 hk13 hos
  have hsz13 : (w12.alloc (.cells #[.slice as_ ((SB.length + 7) / 8) cs_, .int .i64 (SB.length : Nat)] 56)).heap.size = w12.heap.size + 1 := by simp
  have HB : Hid (IntRow (w12.alloc (.cells #[.slice as_ ((SB.length + 7) / 8) cs_, .int .i64 (SB.length : Nat)] 56)) w1.heap.size ps ∧ Kept (fun _ => False) w (w12.alloc (.cells #[.slice as_ ((SB.length + 7) / 8) cs_, .int .i64 (SB.length : Nat)] 56)) ∧ (w12.alloc (.cells #[.slice as_ ((SB.length + 7) / 8) cs_, .int .i64 (SB.length : Nat)] 56)).heap[w3.heap.size]? = some (.cells arr 39 (0, 0)) ∧ BitsAt (w12.alloc (.cells #[.slice as_ ((SB.length + 7) / 8) cs_, .int .i64 (SB.length : Nat)] 56)) 50 w7.heap.size (.slice ae ((EB.length + 7) / 8) ce) EB ∧ BitsAt (w12.alloc (.cells #[.slice as_ ((SB.length + 7) / 8) cs_, .int .i64 (SB.length : Nat)] 56)) 52 w10.heap.size (.slice at_ ((n + 7) / 8) ct_) (List.replicate n false) ∧ BitsAt (w12.alloc (.cells #[.slice as_ ((SB.length + 7) / 8) cs_, .int .i64 (SB.length : Nat)] 56)) 56 w12.heap.size (.slice as_ ((SB.length + 7) / 8) cs_) SB) := ⟨hp13, hk013, hlen13, hE13, hT13, hS13⟩
  clear hp13 hk013 hlen13 hE13 hT13 hS13
  obtain ⟨i0, hi, hz0, hz1, hz2⟩ := info_parts info_u8
  have kc := fun (C : Array Value) (n c : Nat) => Lib.run_convert_bytes_const (P := Try.prog) (w12.alloc (.cells #[.slice as_ ((SB.length + 7) / 8) cs_, .int .i64 (SB.length : Nat)] 56)) 23 5 C n c Try.underlying23 Try.underlying5
  rw [hsz13] at kc
  go_wp2_with (at_builtin; refine wpList_append_grows _ rfl (.tmp 35) (.tmp 39) 23 rfl 5 i0 (.int .u8 0) 1 1 Try.underlying23 hi hz0 hz1 hz2 rfl (by decide) (some ⟨w12.heap.size + 1, 0, none⟩) 6 6 [.int .u8 72, .int .u8 79, .int .u8 65, .int .u8 82, .int .u8 68, .int .u8 49] rfl (fun h => by cases h) rfl ?d1 ⟨w12.heap.size + 1 + 1, 0, none⟩ 1 1 [.int .u8 (fs.length : Int)] rfl rfl ?d2 ?d3 (by decide) (by unfold maxLen; decide) (by decide) ?_)
  case d1 =>
    intro b hb j u hj
    cases hb
    have hz := heap_alloc2_old (w12.alloc (.cells #[.slice as_ ((SB.length + 7) / 8) cs_, .int .i64 (SB.length : Nat)] 56)) (.cells #[.int .u8 72, .int .u8 79, .int .u8 65, .int .u8 82, .int .u8 68, .int .u8 49] 5 (6, 7)) (.cells #[.int .u8 (fs.length : Int)] 5)
    rw [hsz13] at hz
    rw [Addr.add_lit, Nat.zero_add, cell_of_row _ _ j _ _ _ hz]
    simpa using hj
  case d2 =>
    intro j u hj
    have hz := heap_alloc_new ((w12.alloc (.cells #[.slice as_ ((SB.length + 7) / 8) cs_, .int .i64 (SB.length : Nat)] 56)).alloc (.cells #[.int .u8 72, .int .u8 79, .int .u8 65, .int .u8 82, .int .u8 68, .int .u8 49] 5 (6, 7))) (.cells #[.int .u8 (fs.length : Int)] 5)
    rw [show ((w12.alloc (.cells #[.slice as_ ((SB.length + 7) / 8) cs_, .int .i64 (SB.length : Nat)] 56)).alloc (.cells #[.int .u8 72, .int .u8 79, .int .u8 65, .int .u8 82, .int .u8 68, .int .u8 49] 5 (6, 7))).heap.size = w12.heap.size + 1 + 1 from by simp] at hz
    rw [Addr.add_lit, Nat.zero_add, cell_of_row _ _ j _ _ _ hz]
    simpa using hj
  case d3 => intro u hu; simp at hu; subst hu; rfl
  intro v14 w14 ho14 hg14
  clear kc
  obtain ⟨hp13, hk013, hlen13, hE13, hT13, hS13⟩ := HB.out
  have hk1314 : Kept (fun _ => False) (w12.alloc (.cells #[.slice as_ ((SB.length + 7) / 8) cs_, .int .i64 (SB.length : Nat)] 56)) w14 := (((Kept.refl (fun _ => False) _).alloc _).alloc _).grown hg14 (fun k hk => by cases hk)
  have hB14 : w12.heap.size + 3 ≤ w14.heap.size := by have := hg14.size; simp at this; omega
  have hp14 := hp13.kept hk1314 id
  have hk014 := hk013.trans hk1314 (fun _ _ h => h)
  have hlen14 := hk1314.row hlen13 id
  have hE14 := hE13.kept hk1314 id (fun _ _ => id)
  have hT14 := hT13.kept hk1314 id (fun _ _ => id)
  have hS14 := hS13.kept hk1314 id (fun _ _ => id)
  have hEb : ∀ j, (Value.slice ae ((EB.length + 7) / 8) ce).ownBlock = some j → ¬ w12.heap.size + 1 + 1 + 1 ≤ j := fun j hj => by have := (hE13.own.lt j hj).2; omega
  have hTb : ∀ j, (Value.slice at_ ((n + 7) / 8) ct_).ownBlock = some j → ¬ w12.heap.size + 1 + 1 + 1 ≤ j := fun j hj => by have := (hT13.own.lt j hj).2; omega
  have hSb : ∀ j, (Value.slice as_ ((SB.length + 7) / 8) cs_).ownBlock = some j → ¬ w12.heap.size + 1 + 1 + 1 ≤ j := fun j hj => by have := (hS13.own.lt j hj).2; omega
  clear hp13 hk013 hlen13 hE13 hT13 hS13 HB hk1314 hg14
  have HB : Hid (IntRow w14 w1.heap.size ps ∧ Kept (fun _ => False) w w14 ∧ w14.heap[w3.heap.size]? = some (.cells arr 39 (0, 0)) ∧ (∀ X, Kept (fun j => w12.heap.size + 1 + 1 + 1 ≤ j) w14 X → BitsAt X 50 w7.heap.size (.slice ae ((EB.length + 7) / 8) ce) EB ∧ BitsAt X 52 w10.heap.size (.slice at_ ((n + 7) / 8) ct_) (List.replicate n false) ∧ BitsAt X 56 w12.heap.size (.slice as_ ((SB.length + 7) / 8) cs_) SB)) :=
    ⟨hp14, hk014, hlen14, fun X hX => ⟨hE14.kept hX (by omega) hEb, hT14.kept hX (by omega) hTb, hS14.kept hX (by omega) hSb⟩⟩
  clear hp14 hk014 hlen14 hE14 hT14 hS14 hEb hTb hSb
  -- the length so far, and what is written
  obtain ⟨l14, hl14, ho14'⟩ : ∃ l : List UInt8, l.length = 7 ∧ w14.ownsRow (w12.heap.size + 1 + 1 + 1) 5 1 v14 7 (Hm.bcells l) := by
    refine ⟨[72, 79, 65, 82, 68, 49, UInt8.ofNat fs.length], rfl, ?_⟩
    have e : Hm.bcells [72, 79, 65, 82, 68, 49, UInt8.ofNat fs.length] = [.int .u8 72, .int .u8 79, .int .u8 65, .int .u8 82, .int .u8 68, .int .u8 49, .int .u8 (fs.length : Int)] := by
      unfold Hm.bcells
      simp only [List.map_cons, List.map_nil]
      rw [Hm.u8cell (by omega)]
      rfl
    rw [e]; exact ho14
  clear ho14
  have ha1 := addNumber_any (w12.heap.size + 1 + 1 + 1) v14 7 n 2 l14 w14 ho14' (by omega) (by omega) (by omega) (by omega)
  go_wp2_with fail
  refine ha1.mono ?_
  rintro e w15 ⟨v15, rfl, ho15, hk15, hm15⟩
  clear ha1
  have hK15 : Kept (fun j => w12.heap.size + 1 + 1 + 1 ≤ j) w14 w15 := hk15.wider (fun j _ hj => (ho14'.lt j hj).1)
  have hl15 : (l14 ++ Hm.leBytes n 2).length = 9 := by rw [List.length_append, hl14, Hm.leBytes_length]
  generalize l14 ++ Hm.leBytes n 2 = l15 at ho15 hl15
  clear ho14' hl14 hk15 hm15
  obtain ⟨r, hre, hrn⟩ := Hm.idx_nat (n := n) (ps := ps) (by have h2 := HPL.out.2; rw [HF.out.2.2.2.1, HF.out.2.2.2.2.2] at h2; exact h2)
  have hro := root_any w1.heap.size (n + 1) ps w15 (HB.out.1.kept hK15 (by omega)) (by have := HPSL.out; omega)
  rw [hre, HPSL.out] at hro
  have hs15 : w12.heap.size + 3 ≤ w15.heap.size := by have := hK15.size; omega
  have ha2 := addNumber_any (w12.heap.size + 1 + 1 + 1) v15 9 r 2 l15 w15 ho15 (by omega) (by omega) (by omega) (by omega)
  clear hre
  go_wp2_with fail
  refine hro.mono ?_
  rintro e w16 ⟨rfl, rfl⟩
  clear hro
  go_wp2_with fail
  refine ha2.mono ?_
  rintro e w17 ⟨v17, rfl, ho17, hk17, hm17⟩
  clear ha2
  have hK17 : Kept (fun j => w12.heap.size + 1 + 1 + 1 ≤ j) w14 w17 := hK15.trans hk17 (fun j _ hj => (ho15.lt j hj).1)
  have hl17 : (l15 ++ Hm.leBytes r 2).length = 11 := by rw [List.length_append, hl15, Hm.leBytes_length]
  generalize l15 ++ Hm.leBytes r 2 = l17 at ho17 hl17
  clear ho15 hl15 hk17 hm17 hK15
  have hs17 : w12.heap.size + 3 ≤ w17.heap.size := by have := hK17.size; omega
  have hKw17 : Kept (fun j => w12.heap.size + 1 + 1 + 1 ≤ j) w w17 := (HB.out.2.1.wider (fun _ _ h => h.elim)).trans hK17 (fun _ _ h => h)
  have ha3 := addNames_any (w12.heap.size + 1 + 1 + 1) v17 11 c ao fs l17 w17 ho17 (by omega) (HF.out.1.kept hKw17 (fun a ha => by have := HF.out.2.1 a ha; omega)) (fun a ha h => by have h2 := (ho17.lt _ h).1; have := HF.out.2.1 a ha; omega) hm HF.out.2.2.1 (by omega)
  have hnb := Hm.nameBytes_le fs HF.out.2.2.1
  clear hKw17
  go_wp2_with fail
  refine ha3.mono ?_
  rintro e w18 ⟨v18, rfl, ho18, hk18, hm18⟩
  clear ha3
  have hK18 : Kept (fun j => w12.heap.size + 1 + 1 + 1 ≤ j) w14 w18 := hK17.trans hk18 (fun j _ hj => (ho17.lt j hj).1)
  have hl18 : (l17 ++ Hm.nameBytes fs).length = 11 + (Hm.nameBytes fs).length := by rw [List.length_append, hl17]
  generalize l17 ++ Hm.nameBytes fs = l18 at ho18 hl18
  generalize hNB : (Hm.nameBytes fs).length = NB at *
  have HNB : Hid ((Hm.nameBytes fs).length = NB) := hNB
  clear ho17 hl17 hk18 hm18 hK17 hNB
  have hpk1 := packed_any _ _ _ _ w18 (HB.out.2.2.2 w18 hK18).1
  have hsE : (⟨(Hm.packBits EB).toArray⟩ : ByteArray).size = (EB.length + 7) / 8 := by show (Hm.packBits EB).toArray.size = _; rw [List.size_toArray, Hm.packBits_length]
  generalize (⟨(Hm.packBits EB).toArray⟩ : ByteArray) = sE at hpk1 hsE
  have hEBl : EB.length ≤ 100000 := by
    rw [← HEB.out, Hm.endsBits_length, Hm.endsOf_length]
    have h1 := Hm.lowW_le fs.length n hn
    have h2 : fs.length * Hm.lowW fs.length n ≤ 40 * 12 := Nat.mul_le_mul hm h1
    have h3 : n / 2 ^ Hm.lowW fs.length n ≤ n := Nat.div_le_self _ _
    omega
  have HsE : Hid (sE.size = (EB.length + 7) / 8) := hsE
  have hsEl : sE.size ≤ 20000 := by omega
  clear hsE
  go_wp2_with (first
    | (go_at_call 20; refine hpk1.mono ?_; rintro e w19 ⟨rfl, rfl⟩)
    | (at_builtin; refine wpList_append_mv_string _ rfl (.tmp 52) (.tmp 54) 23 9 rfl (w12.heap.size + 1 + 1 + 1) 5 i0 Try.underlying23 Try.underlying9 hi hz0 hz1 hz2 _ _ _ rfl ho18 sE rfl (by unfold maxLen; omega) (by omega) (by have := hK18.size; omega) ?_; intro v20 w20 ho20 hg20 hm20 _)
    | (refine wpList_load_row rfl 39 _ rfl w3.heap.size rfl 39 arr (0, 0) _ ?hld Try.underlying39 rfl ?hsz ?_; (exact (hK18.trans ((Kept.refl (fun j => v18.ownBlock = some j) w18).grown hg20 (fun k hk => .inr hk)) (fun j _ hj => (ho18.lt j hj).1)).row HB.out.2.2.1 (by omega)); (rw [hasz]; exact info_len)))
  have hK20 : Kept (fun j => w12.heap.size + 1 + 1 + 1 ≤ j) w14 w20 := hK18.trans ((Kept.refl (fun j => v18.ownBlock = some j) w18).grown hg20 (fun k hk => .inr hk)) (fun j _ hj => (ho18.lt j hj).1)
  have eb20 : Hm.bcells l18 ++ Lib.strCells sE = Hm.bcells (l18 ++ sE.data.toList) := by simp [Hm.bcells, Lib.strCells]
  rw [eb20] at ho20
  have hl20 : (l18 ++ sE.data.toList).length = 11 + NB + sE.size := by rw [List.length_append, hl18]; simp
  generalize l18 ++ sE.data.toList = l20 at ho20 hl20
  clear ho18 hl18 hg20 hm20 hK18 hpk1 eb20
  have hs20 : w12.heap.size + 3 ≤ w20.heap.size := by have := hK20.size; omega
  have ha4 := addLengths_any (w12.heap.size + 1 + 1 + 1) v20 (11 + NB + sE.size) l20 (Hm.oneAt 256 cn 1) w20 ho20 (by omega) (Hm.oneAt_length _ _ _) (fun x hx => by
    obtain ⟨i, hi, rfl⟩ := List.getElem_of_mem hx
    rw [Hm.oneAt_get]; split <;> omega) (by omega)
  rw [← HA.out.1, coded_one cn hcn] at ha4
  refine ha4.mono ?_
  rintro e w21 ⟨v21, rfl, ho21, hk21, hm21⟩
  clear ha4
  have hK21 : Kept (fun j => w12.heap.size + 1 + 1 + 1 ≤ j) w14 w21 := hK20.trans hk21 (fun j _ hj => (ho20.lt j hj).1)
  have hl21 : (l20 ++ Hm.leBytes [UInt8.ofNat cn].length 2 ++ Hm.lenBytes (Hm.oneAt 256 cn 1) [UInt8.ofNat cn]).length = 15 + NB + sE.size := by
    rw [List.length_append, List.length_append, hl20, Hm.leBytes_length, Hm.lenBytes_length, List.length_singleton]; omega
  generalize l20 ++ Hm.leBytes [UInt8.ofNat cn].length 2 ++ Hm.lenBytes (Hm.oneAt 256 cn 1) [UInt8.ofNat cn] = l21 at ho21 hl21
  have eN21 : 11 + NB + sE.size + 2 + 2 * [UInt8.ofNat cn].length = 15 + NB + sE.size := by rw [List.length_singleton]; omega
  rw [eN21] at ho21
  clear ho20 hl20 hk21 hm21 hK20 eN21
  have hpk2 := packed_any _ _ _ _ w21 (HB.out.2.2.2 w21 hK21).2.1
  have hsT : (⟨(Hm.packBits (List.replicate n false)).toArray⟩ : ByteArray).size = (n + 7) / 8 := by show (Hm.packBits (List.replicate n false)).toArray.size = _; rw [List.size_toArray, Hm.packBits_length, List.length_replicate]
  generalize (⟨(Hm.packBits (List.replicate n false)).toArray⟩ : ByteArray) = sT at hpk2 hsT
  have HsT : Hid (sT.size = (n + 7) / 8) := hsT
  have hsTl : sT.size ≤ 1000 := by omega
  clear hsT
  have hs21 : w12.heap.size + 3 ≤ w21.heap.size := by have := hK21.size; omega
  go_wp2_with (first
    | (go_at_call 20; refine hpk2.mono ?_; rintro e w22 ⟨rfl, rfl⟩)
    | (at_builtin; refine wpList_append_mv_string _ rfl (.tmp 59) (.tmp 61) 23 9 rfl (w12.heap.size + 1 + 1 + 1) 5 i0 Try.underlying23 Try.underlying9 hi hz0 hz1 hz2 _ _ _ rfl ho21 sT rfl (by unfold maxLen; omega) (by omega) (by omega) ?_; intro v23 w23 ho23 hg23 hm23 _))
  have hK23 : Kept (fun j => w12.heap.size + 1 + 1 + 1 ≤ j) w14 w23 := hK21.trans ((Kept.refl (fun j => v21.ownBlock = some j) w21).grown hg23 (fun k hk => .inr hk)) (fun j _ hj => (ho21.lt j hj).1)
  have eb23 : Hm.bcells l21 ++ Lib.strCells sT = Hm.bcells (l21 ++ sT.data.toList) := by simp [Hm.bcells, Lib.strCells]
  rw [eb23] at ho23
  have hl23 : (l21 ++ sT.data.toList).length = 15 + NB + sE.size + sT.size := by rw [List.length_append, hl21]; simp
  generalize l21 ++ sT.data.toList = l23 at ho23 hl23
  clear ho21 hl21 hg23 hm23 hK21 hpk2 eb23
  have hpk3 := packed_any _ _ _ _ w23 (HB.out.2.2.2 w23 hK23).2.2
  have hsS : (⟨(Hm.packBits SB).toArray⟩ : ByteArray).size = (SB.length + 7) / 8 := by show (Hm.packBits SB).toArray.size = _; rw [List.size_toArray, Hm.packBits_length]
  generalize (⟨(Hm.packBits SB).toArray⟩ : ByteArray) = sS at hpk3 hsS
  have HsS : Hid (sS.size = (SB.length + 7) / 8) := hsS
  have hsSl : sS.size ≤ 20000 := by omega
  clear hsS
  have hs23 : w12.heap.size + 3 ≤ w23.heap.size := by have := hK23.size; omega
  refine hpk3.mono ?_
  rintro e w24 ⟨rfl, rfl⟩
  clear hpk3
  go_wp2_with (first
    | (at_builtin; refine wpList_append_mv_string _ rfl (.tmp 63) (.tmp 65) 23 9 rfl (w12.heap.size + 1 + 1 + 1) 5 i0 Try.underlying23 Try.underlying9 hi hz0 hz1 hz2 _ _ _ rfl ho23 sS rfl (by unfold maxLen; omega) (by omega) (by omega) ?_; intro v25 w25 ho25 hg25 hm25 _))
  have hK25 : Kept (fun j => w12.heap.size + 1 + 1 + 1 ≤ j) w14 w25 := hK23.trans ((Kept.refl (fun j => v23.ownBlock = some j) w23).grown hg25 (fun k hk => .inr hk)) (fun j _ hj => (ho23.lt j hj).1)
  have eb25 : Hm.bcells l23 ++ Lib.strCells sS = Hm.bcells (l23 ++ sS.data.toList) := by simp [Hm.bcells, Lib.strCells]
  rw [eb25] at ho25
  have hl25 : (l23 ++ sS.data.toList).length = 15 + NB + sE.size + sT.size + sS.size := by rw [List.length_append, hl23]; simp
  generalize l23 ++ sS.data.toList = l25 at ho25 hl25
  clear ho23 hl23 hg25 hm25 hK23 eb25
  have hs25 : w12.heap.size + 3 ≤ w25.heap.size := by have := hK25.size; omega
  obtain ⟨g25, c25, hv25, _, _⟩ := owns_some ho25 (by omega)
  subst hv25
  have hsu := sum_any g25 0 (15 + NB + sE.size + sT.size + sS.size) c25 l25 w25 (by omega) (by omega) (fun j hj => by
    have hjl : j < l25.length := by omega
    rw [Nat.zero_add, ho25.cellAt j (by omega), Hm.bcells, List.getElem?_map, List.getElem?_eq_getElem hjl, List.getD_eq_getElem?_getD, List.getElem?_eq_getElem hjl]; rfl)
  have hcr := Hm.crc_lt l25
  generalize Hm.crc l25 = cr at hsu hcr
  have ha5 := addNumber_any (w12.heap.size + 1 + 1 + 1) _ (15 + NB + sE.size + sT.size + sS.size) cr 4 l25 w25 ho25 (by omega) hcr (by omega) (by omega)
  refine hsu.mono ?_
  rintro e w26 ⟨rfl, hw26⟩
  subst hw26
  clear hsu
  go_wp2_with fail
  refine ha5.mono ?_
  rintro e w27 ⟨v27, rfl, ho27, hk27, hm27⟩
  clear ha5
  have hK27 : Kept (fun j => w12.heap.size + 1 + 1 + 1 ≤ j) w14 w27 := hK25.trans hk27 (fun j _ hj => (ho25.lt j hj).1)
  have hl27 : (l25 ++ Hm.leBytes cr 4).length = 19 + NB + sE.size + sT.size + sS.size := by rw [List.length_append, hl25, Hm.leBytes_length]; omega
  generalize l25 ++ Hm.leBytes cr 4 = l27 at ho27 hl27
  have hcv := convert_own ho27
  have hKw : Kept (fun _ => False) w w27 := HB.out.2.1.trans hK27 (fun j h1 h2 => by omega)
  have hsz27 : (⟨l27.toArray⟩ : ByteArray).size = l27.length := rfl
  have HF27 : Hid ((⟨l27.toArray⟩ : ByteArray).size = 19 + (Hm.nameBytes fs).length + ((Hm.endsBits (Hm.endsOf fs) n).length + 7) / 8 + (n + 7) / 8 + (n + 1 + (n / 8 + 1) * Lib.bitLen (n / 8) + 7) / 8 ∧ Kept (fun _ => False) w w27) := by
    refine ⟨?_, hKw⟩
    rw [hsz27, hl27, HNB.out, HEB.out, HsE.out, HsT.out, HsS.out, HSL.out]
  generalize (⟨l27.toArray⟩ : ByteArray) = s27 at hcv HF27
  clear ho25 ho27 hK25 hK27 hk27 hm27 hKw hl25 hl27 hsz27
  go_wp2
  go_ret
  exact ⟨s27, rfl, HF27.out.1, HF27.out.2⟩

end Go.Proofs.Ytjjejdfmcohghaa
