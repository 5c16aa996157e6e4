import Derived.Test.YtegnkfdbmmndaaaGreatProg
import Derived.Laws.BitsAllLaws
import Init.Data.List.Lemmas
import Derived.WalkKit
import Derived.WalkSpells
import Derived.WalkLawsBesides
import Derived.Lib.AppendStr
import Derived.ArgAppend
import Derived.Deep.LoopGhost
import Derived.Deep.QuietTactic
import Derived.BigQuiet
import Derived.Laws.BytesArg
import Derived.Lib.BitFns
import Derived.Deep.Cut
import Derived.Deep.RegionHeld
import Derived.Lib.ConvBytes
import Derived.Laws.Tables
import Derived.Sort.Lot0
import Derived.Laws.StructEq
import Derived.Deep.RegionLaw
import Derived.Lib.SliceRun
import Derived.Shelf.RegionOpenPlain
import Derived.Lib.AppendZerosOnto
import Derived.Shelf.SlSortCmp.Kit1
import Derived.Deep.AppendLies
import Derived.Deep.MidRow
import Derived.Lib.Builder
import Derived.Lib.UnsafeStr
import Derived.Lib.SlBytesConst
import Derived.Laws.CopyOwn
import Derived.Deep.RegionWith
import Derived.Deep.CutRange
import Derived.Shelf.Sort.Plain
import Derived.ProofKit
import Derived.OpenShut
import Derived.Deep.SlicePairs
import Derived.SizedLaws
import Derived.ChangeArms
import Derived.Laws.ResultCell
import Derived.Laws.BitsLemmas
import Derived.SliceStrings
import Derived.ChangeMaps5
import Derived.Carry
import Derived.Deep.CondSized

/- Short names for lemmas of the core library. -/
namespace Go.Proofs.YtegnkfdbmmndaaaGreat
namespace Hm
end Hm
theorem zG:type_of% @List.getD_eq_getElem?_getD:=@List.getD_eq_getElem?_getD
theorem zH:type_of% @List.getElem?_eq_getElem:=@List.getElem?_eq_getElem
theorem zI:type_of% @Go.heap_setCell_same:=@Go.heap_setCell_same
theorem zJ:type_of% @decide_eq_true:=@decide_eq_true
theorem zK:type_of% @Nat.le_refl:=@Nat.le_refl
theorem zL:type_of% @List.length_append:=@List.length_append
theorem zM:type_of% @decide_eq_false:=@decide_eq_false
theorem zO:type_of% @List.setIfInBounds_toArray:=@List.setIfInBounds_toArray
theorem zP:type_of% @Go.cell_of_row:=@Go.cell_of_row
theorem zQ:type_of% @List.take_succ_eq_append_getElem:=@List.take_succ_eq_append_getElem
theorem zR:type_of% @Go.frozen_of_row:=@Go.frozen_of_row
theorem zS:type_of% @List.length_take:=@List.length_take
theorem zV:type_of% @List.length_replicate:=@List.length_replicate
theorem zW:type_of% @List.set_cons_zero:=@List.set_cons_zero
theorem zY:type_of% @Go.heap_alloc_new:=@Go.heap_alloc_new
theorem zZ:type_of% @Nat.zero_le:=@Nat.zero_le
theorem z5:type_of% @List.set_cons_succ:=@List.set_cons_succ
theorem z6:type_of% @List.getElem_mem:=@List.getElem_mem
theorem z7:type_of% @List.getElem?_append_right:=@List.getElem?_append_right
theorem z9:type_of% @Go.World.block_lt_of_cell?:=@Go.World.block_lt_of_cell?
theorem Aaa:type_of% @List.size_toArray:=@List.size_toArray
theorem Aab:type_of% @List.mem_cons_self:=@List.mem_cons_self
theorem Aac:type_of% @Go.lt_of_block:=@Go.lt_of_block
theorem Aad:type_of% @Go.AllReadyH.cons:=@Go.AllReadyH.cons
theorem Aae:type_of% @List.mem_cons_of_mem:=@List.mem_cons_of_mem
theorem Aaf:type_of% @Nat.le_trans:=@Nat.le_trans
theorem Aag:type_of% @List.getElem?_toArray:=@List.getElem?_toArray
theorem Aah:type_of% @List.getElem?_map:=@List.getElem?_map
theorem Aai:type_of% @List.length_map:=@List.length_map
theorem Aaj:type_of% @List.append_assoc:=@List.append_assoc
theorem Aak:type_of% @Option.some.inj:=@Option.some.inj
theorem Aal:type_of% @Go.AllReadyH.nil:=@Go.AllReadyH.nil
theorem Aam:type_of% @List.getElem?_eq_none:=@List.getElem?_eq_none
theorem Aan:type_of% @List.drop_eq_getElem_cons:=@List.drop_eq_getElem_cons
theorem Aao:type_of% @Nat.zero_add:=@Nat.zero_add
theorem Aap:type_of% @List.take_of_length_le:=@List.take_of_length_le
theorem Aaq:type_of% @Go.wpAnyH_ready:=@Go.wpAnyH_ready
theorem Aar:type_of% @Go.IntKind.wrap_i64:=@Go.IntKind.wrap_i64
theorem Aas:type_of% @List.length_drop:=@List.length_drop
theorem Aat:type_of% @beq_eq_false_iff_ne:=@beq_eq_false_iff_ne
theorem Aau:type_of% @List.length_cons:=@List.length_cons
theorem Aav:type_of% @List.getElem?_append_left:=@List.getElem?_append_left
theorem Aaw:type_of% @List.take_length:=@List.take_length
theorem Aax:type_of% @UInt8.toNat_ofNat':=@UInt8.toNat_ofNat'
theorem Aay:type_of% @of_decide_eq_true:=@of_decide_eq_true
theorem Aaz:type_of% @List.eq_nil_of_length_eq_zero:=@List.eq_nil_of_length_eq_zero
theorem Aa0:type_of% @Go.wpList_load_row:=@Go.wpList_load_row
theorem Aa1:type_of% @List.ext_getElem:=@List.ext_getElem
theorem Aa2:type_of% @Go.ByteArray.toList_eq:=@Go.ByteArray.toList_eq
theorem Aa3:type_of% @List.flatMap_cons:=@List.flatMap_cons
theorem Aa4:type_of% @Nat.mul_le_mul:=@Nat.mul_le_mul
theorem Aa5:type_of% @List.getElem_of_mem:=@List.getElem_of_mem
theorem Aa6:type_of% @Go.info_parts:=@Go.info_parts
theorem Aa7:type_of% @Nat.lt_trichotomy:=@Nat.lt_trichotomy
theorem Aa8:type_of% @Go.bodyPost_ret:=@Go.bodyPost_ret
theorem Aa9:type_of% @Nat.lt_of_lt_of_le:=@Nat.lt_of_lt_of_le
theorem Aba:type_of% @List.set_append_right:=@List.set_append_right
theorem Abb:type_of% @List.length_set:=@List.length_set
theorem Abc:type_of% @Go.Calls.quiet_of_same:=@Go.Calls.quiet_of_same
theorem Abd:type_of% @Nat.sub_self:=@Nat.sub_self
theorem Abe:type_of% @List.append_nil:=@List.append_nil
theorem Abf:type_of% @Nat.lt_or_ge:=@Nat.lt_or_ge
theorem Abg:type_of% @List.map_cons:=@List.map_cons
theorem Abh:type_of% @List.take_append_drop:=@List.take_append_drop
theorem Abi:type_of% @List.countP_cons:=@List.countP_cons
theorem Abj:type_of% @Go.results_cell_row:=@Go.results_cell_row
theorem Abk:type_of% @Nat.pow_le_pow_right:=@Nat.pow_le_pow_right
theorem Abl:type_of% @Nat.pow_succ:=@Nat.pow_succ
theorem Abm:type_of% @Nat.lt_of_le_of_lt:=@Nat.lt_of_le_of_lt
theorem Abn:type_of% @List.getElem?_range:=@List.getElem?_range
theorem Abo:type_of% @List.flatMap_append:=@List.flatMap_append
theorem Abp:type_of% @List.getElem?_replicate_of_lt:=@List.getElem?_replicate_of_lt
theorem Abq:type_of% @List.filter_cons:=@List.filter_cons
theorem Abr:type_of% @Array.ext':=@Array.ext'
theorem Abs:type_of% @Nat.mul_le_mul_right:=@Nat.mul_le_mul_right
theorem Abt:type_of% @List.map_append:=@List.map_append
theorem Abu:type_of% @List.getElem_map:=@List.getElem_map
theorem Abv:type_of% @Go.wpList_make_full:=@Go.wpList_make_full
theorem Abw:type_of% @Nat.add_assoc:=@Nat.add_assoc
theorem Abx:type_of% @List.replicate_succ:=@List.replicate_succ
theorem Aby:type_of% @Nat.mod_eq_of_lt:=@Nat.mod_eq_of_lt
theorem Abz:type_of% @List.filter_append:=@List.filter_append
theorem Ab0:type_of% @List.countP_append:=@List.countP_append
theorem Ab1:type_of% @Array.length_toList:=@Array.length_toList
theorem Ab2:type_of% @Go.heap_alloc2_old:=@Go.heap_alloc2_old
theorem Ab3:type_of% @Go.heap_alloc2_new:=@Go.heap_alloc2_new
theorem Ab4:type_of% @Nat.add_mul:=@Nat.add_mul
theorem Ab5:type_of% @List.extract_eq_take_drop:=@List.extract_eq_take_drop
theorem Ab6:type_of% @Array.getElem?_eq_getElem:=@Array.getElem?_eq_getElem
theorem Ab7:type_of% @List.drop_length:=@List.drop_length
theorem Ab8:type_of% @Nat.min_eq_left:=@Nat.min_eq_left
theorem Ab9:type_of% @List.getElem?_take_of_lt:=@List.getElem?_take_of_lt
theorem Aca:type_of% @Go.wp_region_held_drew:=@Go.wp_region_held_drew
theorem Acb:type_of% @List.length_range:=@List.length_range
theorem Acd:type_of% @Nat.div_le_self:=@Nat.div_le_self
theorem Ace:type_of% @List.map_set:=@List.map_set
theorem Acf:type_of% @List.countP_eq_length_filter:=@List.countP_eq_length_filter
theorem Acg:type_of% @Go.RowKit.Below.heap_setCell:=@Go.RowKit.Below.heap_setCell
theorem Ach:type_of% @Go.wpAnyH_done:=@Go.wpAnyH_done
theorem Aci:type_of% @Go.World.cell?_setCell_other:=@Go.World.cell?_setCell_other
theorem Acj:type_of% @ByteArray.ext:=@ByteArray.ext
theorem Ack:type_of% @Option.getD_some:=@Option.getD_some
theorem Acl:type_of% @Nat.two_pow_pos:=@Nat.two_pow_pos
theorem Acm:type_of% @List.range_succ:=@List.range_succ
theorem Acn:type_of% @Nat.add_sub_cancel:=@Nat.add_sub_cancel
theorem Aco:type_of% @Go.World.ownsRow_nil:=@Go.World.ownsRow_nil
theorem Acp:type_of% @ByteArray.data_append:=@ByteArray.data_append
theorem Acq:type_of% @Nat.add_sub_cancel_left:=@Nat.add_sub_cancel_left
theorem Acr:type_of% @beq_self_eq_true:=@beq_self_eq_true
theorem Acs:type_of% @List.mem_append_left:=@List.mem_append_left
theorem Acu:type_of% @ByteArray.data_extract:=@ByteArray.data_extract
theorem Acv:type_of% @Array.all_eq_true_iff_forall_mem:=@Array.all_eq_true_iff_forall_mem
theorem Acw:type_of% @Nat.mul_one:=@Nat.mul_one
theorem Acx:type_of% @Nat.le_of_eq:=@Nat.le_of_eq
theorem Acy:type_of% @List.map_congr_left:=@List.map_congr_left
theorem Acz:type_of% @List.getElem?_cons_succ:=@List.getElem?_cons_succ
theorem Ac0:type_of% @Nat.mod_two_eq_zero_or_one:=@Nat.mod_two_eq_zero_or_one
theorem Ac1:type_of% @Array.toList_extract:=@Array.toList_extract
theorem Ac2:type_of% @Nat.add_zero:=@Nat.add_zero
theorem Ac3:type_of% @List.mem_or_eq_of_mem_set:=@List.mem_or_eq_of_mem_set
theorem Ac4:type_of% @Go.toList_madeCells_one:=@Go.toList_madeCells_one
theorem Ac5:type_of% @List.getElem_set:=@List.getElem_set
theorem Ac6:type_of% @Go.cell_one_new:=@Go.cell_one_new
theorem Ac7:type_of% @List.length_filter_le:=@List.length_filter_le
theorem Ac8:type_of% @List.eq_of_mem_replicate:=@List.eq_of_mem_replicate
theorem Ac9:type_of% @Go.Result.andThen_ok:=@Go.Result.andThen_ok
theorem Ada:type_of% @List.getElem?_replicate:=@List.getElem?_replicate
theorem Adb:type_of% @Int.natCast_mul:=@Int.natCast_mul
theorem Adc:type_of% @List.getElem?_set_ne:=@List.getElem?_set_ne
theorem Ade:type_of% @Nat.mul_comm:=@Nat.mul_comm
theorem Adf:type_of% @List.cons_append:=@List.cons_append
theorem Adg:type_of% @List.getElem?_set_self:=@List.getElem?_set_self
theorem Adh:type_of% @List.drop_eq_nil_of_le:=@List.drop_eq_nil_of_le
theorem Adi:type_of% @List.take_left:=@List.take_left
theorem Adj:type_of% @Nat.sub_zero:=@Nat.sub_zero
theorem Adk:type_of% @List.nil_append:=@List.nil_append
theorem Adl:type_of% @List.length_singleton:=@List.length_singleton
theorem Adm:type_of% @List.countP_nil:=@List.countP_nil
theorem Adn:type_of% @Nat.eq_zero_or_pos:=@Nat.eq_zero_or_pos
theorem Ado:type_of% @List.set_eq_of_length_le:=@List.set_eq_of_length_le
theorem Adp:type_of% @List.getElem_range:=@List.getElem_range
theorem Adq:type_of% @List.getElem?_drop:=@List.getElem?_drop
theorem Adr:type_of% @List.replicate_succ':=@List.replicate_succ'
theorem Ads:type_of% @List.mem_of_mem_take:=@List.mem_of_mem_take
theorem Adt:type_of% @Nat.mul_assoc:=@Nat.mul_assoc
theorem Adu:type_of% @List.sum_cons:=@List.sum_cons
theorem Adv:type_of% @List.map_nil:=@List.map_nil
theorem Adw:type_of% @List.take_succ_cons:=@List.take_succ_cons
theorem Adx:type_of% @List.replicate_zero:=@List.replicate_zero
theorem Ady:type_of% @Nat.div_div_eq_div_mul:=@Nat.div_div_eq_div_mul
theorem Adz:type_of% @Nat.le_add_right:=@Nat.le_add_right
theorem Ad0:type_of% @List.pairwise_cons:=@List.pairwise_cons
theorem Ad1:type_of% @List.getElem?_take:=@List.getElem?_take
theorem Ad2:type_of% @trivial:=@trivial
theorem Ad3:type_of% @List.drop_zero:=@List.drop_zero
theorem Ad4:type_of% @List.drop_left:=@List.drop_left
theorem Ad5:type_of% @Classical.byContradiction:=@Classical.byContradiction
theorem Ad6:type_of% @BitVec.ofInt_natCast:=@BitVec.ofInt_natCast
theorem Ad7:type_of% @List.mem_append:=@List.mem_append
theorem Ad8:type_of% @List.foldl_cons:=@List.foldl_cons
theorem Ad9:type_of% @Array.getElem?_setIfInBounds_ne:=@Array.getElem?_setIfInBounds_ne
theorem Aea:type_of% @List.getD_cons_succ:=@List.getD_cons_succ
theorem Aeb:type_of% @List.filter_cons_of_pos:=@List.filter_cons_of_pos
theorem Aec:type_of% @Nat.le_of_not_lt:=@Nat.le_of_not_lt
theorem Aed:type_of% @List.take_zero:=@List.take_zero
abbrev Aef:=List (ByteArray × ByteArray)
abbrev Aeg:=List UInt8
abbrev Aeh:=List Nat
abbrev Aei:=List Value
abbrev Aej:=Option Addr
theorem dT (a b:Nat) (h:a<b:=by omega):(a:Int)<(b:Int)∧decide ((a:Int)<(b:Int))=true:=⟨Int.ofNat_lt.2 h,decide_eq_true (Int.ofNat_lt.2 h)⟩
theorem dF (a b:Nat) (h:¬a<b:=by omega):¬(a:Int)<(b:Int)∧decide ((a:Int)<(b:Int))=false:=⟨fun k=>h (Int.ofNat_lt.1 k),decide_eq_false fun k=>h (Int.ofNat_lt.1 k)⟩
theorem gx {α:Sort _} (a:α):∃b,b=a:=⟨a,rfl⟩
theorem hZ {p:Prop} (h:p):Go.RowKit.Hid p:=h
theorem aZ {p:Prop} (h:p):Go.Aside p:=h
theorem iN {c:Prop} [Decidable c] {α:Sort _} {a b:α} (h:¬c:=by omega):(if c then a else b)=b:=if_neg h
theorem iP {c:Prop} [Decidable c] {α:Sort _} {a b:α} (h:c:=by omega):(if c then a else b)=a:=if_pos h
theorem aI {p q:Prop} (a:p) (b:q):p∧q:=⟨a,b⟩
abbrev J (b o:Nat):Go.Addr:=⟨b,o,none⟩
abbrev I (x:Int):Go.Value:=.int .i64 x
abbrev S0 (b n c:Nat):Go.Value:=.slice (some ⟨b,0,none⟩) n c
theorem cO {w:World} {g:Nat} {A:Array Value} {e:TypeId} {x:Value} (i:Nat) (h:w.heap[g]?=some (.cells A e (0,0))) (hx:A[i]?=some x:=by rfl):w.cell? ⟨g,i,none⟩=some x:=(cell_of_row _ _ i _ _ _ h).trans hx
theorem tV {P:Program} {ops:Array Oper} {Q:Exit→Act→World→Prop} {md:Region.Mode} {S:World→Prop} (i:Nat) (oi:Oper) (v:Value) {fuel:Nat} {listed:Array Bool} {a:Act} {w:World} (h:wpAnyH P md ops Q S fuel (listed.setIfInBounds i true) (a.put oi.dst v) w) (hy:∀ w,S w→(execOp a.eval oi).run P w=.ok (.value v) w:=by intro X hSw; (try dsimp only at hSw); go_simp; (try with_reducible rfl); (try rfl)) (hi:ops[i]?=some oi:=by exact rfl) (hs:Region.noSelect ops=true:=by kernel_rfl) (hf:Region.free md ops listed i=true:=by kernel_rfl) (hr:(Region.ready md ops listed).contains i=true:=by kernel_rfl) (hQ:∀ c a w,Q (.panic c) (a.put oi.dst v) w→Q (.panic c) a w:=by exact fun _ _ _ h => h) (hw:Region.wanted oi (yielded ops a.tmps)=true:=by kernel_rfl) (hS:S w:=by assumption):wpAnyH P md ops Q S (fuel+1) listed a w:=wpAnyH_take hi hs hf hr hQ (.inl ⟨hw,hy⟩) hS h
theorem tW {P:Program} {ops:Array Oper} {Q:Exit→Act→World→Prop} {md:Region.Mode} {S:World→Prop} (i:Nat) (oi:Oper) (v:Value) {fuel:Nat} {listed:Array Bool} {a:Act} {w:World} {a':Act} {l':Array Bool} (h:wpAnyH P md ops Q S fuel l' a' w) (hy:∀ w,S w→(execOp a.eval oi).run P w=.ok (.value v) w:=by intro X hSw; (try dsimp only at hSw); go_simp; (try with_reducible rfl); (try rfl)) (ha:a.put oi.dst v=a':=by ((try simp only [Act.put, List.setIfInBounds_toArray, List.set_cons_zero, List.set_cons_succ]); rfl)) (hl:listed.setIfInBounds i true=l':=by ((try simp only [List.setIfInBounds_toArray, List.set_cons_zero, List.set_cons_succ]); rfl)) (hi:ops[i]?=some oi:=by exact rfl) (hs:Region.noSelect ops=true:=by kernel_rfl) (hf:Region.free md ops listed i=true:=by kernel_rfl) (hr:(Region.ready md ops listed).contains i=true:=by kernel_rfl) (hQ:∀ c a w,Q (.panic c) (a.put oi.dst v) w→Q (.panic c) a w:=by exact fun _ _ _ h => h) (hw:Region.wanted oi (yielded ops a.tmps)=true:=by kernel_rfl) (hS:S w:=by assumption):wpAnyH P md ops Q S (fuel+1) listed a w:=wpAnyH_take hi hs hf hr hQ (.inl ⟨hw,hy⟩) hS (by rw [ha,hl]; exact h)
theorem tK {P:Program} {ops:Array Oper} {Q:Exit→Act→World→Prop} {md:Region.Mode} {S:World→Prop} (i:Nat) (oi:Oper) (v:Value) {fuel:Nat} {listed:Array Bool} {a:Act} {w:World} (hy:∀ w,S w→(execOp a.eval oi).run P w=.ok (.value v) w) (h:wpAnyH P md ops Q S fuel (listed.setIfInBounds i true) (a.put oi.dst v) w) (hi:ops[i]?=some oi:=by exact rfl) (hs:Region.noSelect ops=true:=by kernel_rfl) (hf:Region.free md ops listed i=true:=by kernel_rfl) (hr:(Region.ready md ops listed).contains i=true:=by kernel_rfl) (hQ:∀ c a w,Q (.panic c) (a.put oi.dst v) w→Q (.panic c) a w:=by exact fun _ _ _ h => h) (hw:Region.wanted oi (yielded ops a.tmps)=true:=by kernel_rfl) (hS:S w:=by assumption):wpAnyH P md ops Q S (fuel+1) listed a w:=wpAnyH_take hi hs hf hr hQ (.inl ⟨hw,hy⟩) hS h
theorem tU {P:Program} {ops:Array Oper} {Q:Exit→Act→World→Prop} {md:Region.Mode} {S:World→Prop} (i:Nat) (oi:Oper) {fuel:Nat} {listed:Array Bool} {a:Act} {w:World} (h:wpAnyH P md ops Q S fuel (listed.setIfInBounds i true) (a.put oi.dst undef) w) (hi:ops[i]?=some oi:=by exact rfl) (hs:Region.noSelect ops=true:=by kernel_rfl) (hf:Region.free md ops listed i=true:=by kernel_rfl) (hr:(Region.ready md ops listed).contains i=true:=by kernel_rfl) (hQ:∀ c a w,Q (.panic c) (a.put oi.dst undef) w→Q (.panic c) a w:=by exact fun _ _ _ h => h) (hw:Region.wanted oi (yielded ops a.tmps)=false:=by kernel_rfl) (hS:S w:=by assumption):wpAnyH P md ops Q S (fuel+1) listed a w:=wpAnyH_take hi hs hf hr hQ (.inr ⟨hw,rfl⟩) hS h
end Go.Proofs.YtegnkfdbmmndaaaGreat
namespace Go
theorem RowKit.Hid.o {p:Prop} (h:RowKit.Hid p):p:=h
theorem Aside.o {p:Prop} (h:Aside p):p:=h
theorem Shut.o {p:Prop} (h:Shut p):p:=h
end Go
