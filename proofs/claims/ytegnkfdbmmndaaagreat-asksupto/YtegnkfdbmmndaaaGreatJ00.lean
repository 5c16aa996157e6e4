import Derived.Test.YtegnkfdbmmndaaaGreatProg
import Derived.Laws.BitsAllLaws
import Init.Data.List.Lemmas
import Derived.WalkKit
import Derived.WalkSpells
import Derived.WalkLawsBesides
import Derived.Lib.AppendStr
import Derived.ArgAppend
import Derived.Deep.LoopGhost
import Derived.Deep.QuietTactic
import Derived.BigQuiet
import Derived.Laws.BytesArg
import Derived.Lib.BitFns
import Derived.Deep.Cut
import Derived.Deep.RegionHeld
import Derived.Lib.ConvBytes
import Derived.Laws.Tables
import Derived.Sort.Lot0
import Derived.Laws.StructEq
import Derived.Deep.RegionLaw
import Derived.Lib.SliceRun
import Derived.Shelf.RegionOpenPlain
import Derived.Lib.AppendZerosOnto
import Derived.Shelf.SlSortCmp.Kit1
import Derived.Deep.AppendLies
import Derived.Deep.MidRow
import Derived.Lib.Builder
import Derived.Lib.UnsafeStr
import Derived.Lib.SlBytesConst
import Derived.Laws.CopyOwn
import Derived.Deep.RegionWith
import Derived.Deep.CutRange
import Derived.Shelf.Sort.Plain
import Derived.ProofKit
import Derived.OpenShut
import Derived.Deep.SlicePairs
import Derived.SizedLaws
import Derived.ChangeArms
import Derived.Laws.ResultCell
import Derived.Laws.BitsLemmas
import Derived.Carry
import Derived.Deep.CondSized

/- Short names for lemmas of the core library. -/
namespace Go.Proofs.YtegnkfdbmmndaaaGreat
namespace Hm
end Hm
theorem Am4:type_of% @List.getD_eq_getElem?_getD:=@List.getD_eq_getElem?_getD
theorem Am5:type_of% @List.getElem?_eq_getElem:=@List.getElem?_eq_getElem
theorem Am6:type_of% @List.setIfInBounds_toArray:=@List.setIfInBounds_toArray
theorem Am7:type_of% @Go.cell_of_row:=@Go.cell_of_row
theorem Am8:type_of% @List.set_cons_zero:=@List.set_cons_zero
theorem Am9:type_of% @List.set_cons_succ:=@List.set_cons_succ
theorem Ana:type_of% @decide_eq_true:=@decide_eq_true
theorem Anb:type_of% @Go.heap_setCell_same:=@Go.heap_setCell_same
theorem Anc:type_of% @decide_eq_false:=@decide_eq_false
theorem Ane:type_of% @Nat.le_refl:=@Nat.le_refl
theorem Anf:type_of% @List.length_append:=@List.length_append
theorem Ang:type_of% @Go.frozen_of_row:=@Go.frozen_of_row
theorem Anh:type_of% @List.take_succ_eq_append_getElem:=@List.take_succ_eq_append_getElem
theorem Ani:type_of% @List.length_replicate:=@List.length_replicate
theorem Anj:type_of% @Go.heap_alloc_new:=@Go.heap_alloc_new
theorem Ank:type_of% @Go.World.block_lt_of_cell?:=@Go.World.block_lt_of_cell?
theorem Anl:type_of% @List.mem_cons_self:=@List.mem_cons_self
theorem Anm:type_of% @List.getElem_mem:=@List.getElem_mem
theorem Ann:type_of% @Nat.zero_le:=@Nat.zero_le
theorem Ano:type_of% @Go.AllReadyH.cons:=@Go.AllReadyH.cons
theorem Anp:type_of% @List.length_take:=@List.length_take
theorem Anq:type_of% @List.size_toArray:=@List.size_toArray
theorem Anr:type_of% @List.mem_cons_of_mem:=@List.mem_cons_of_mem
theorem Ans:type_of% @List.getElem?_append_right:=@List.getElem?_append_right
theorem Ant:type_of% @Nat.le_trans:=@Nat.le_trans
theorem Anu:type_of% @Go.lt_of_block:=@Go.lt_of_block
theorem Anv:type_of% @Go.AllReadyH.nil:=@Go.AllReadyH.nil
theorem Anw:type_of% @List.getElem?_toArray:=@List.getElem?_toArray
theorem Anx:type_of% @List.getElem?_eq_none:=@List.getElem?_eq_none
theorem Anz:type_of% @List.length_map:=@List.length_map
theorem An0:type_of% @Option.some.inj:=@Option.some.inj
theorem An1:type_of% @Go.wpAnyH_ready:=@Go.wpAnyH_ready
theorem An2:type_of% @List.getElem?_map:=@List.getElem?_map
theorem An3:type_of% @Nat.zero_add:=@Nat.zero_add
theorem An4:type_of% @List.append_assoc:=@List.append_assoc
theorem An5:type_of% @List.take_of_length_le:=@List.take_of_length_le
theorem An6:type_of% @List.getElem?_append_left:=@List.getElem?_append_left
theorem An7:type_of% @List.drop_eq_getElem_cons:=@List.drop_eq_getElem_cons
theorem An8:type_of% @List.length_cons:=@List.length_cons
theorem An9:type_of% @Go.IntKind.wrap_i64:=@Go.IntKind.wrap_i64
theorem Aoa:type_of% @UInt8.toNat_ofNat':=@UInt8.toNat_ofNat'
theorem Aob:type_of% @List.eq_nil_of_length_eq_zero:=@List.eq_nil_of_length_eq_zero
theorem Aoc:type_of% @of_decide_eq_true:=@of_decide_eq_true
theorem Aod:type_of% @beq_eq_false_iff_ne:=@beq_eq_false_iff_ne
theorem Aoe:type_of% @List.flatMap_cons:=@List.flatMap_cons
theorem Aof:type_of% @List.take_length:=@List.take_length
theorem Aog:type_of% @List.getElem_of_mem:=@List.getElem_of_mem
theorem Aoh:type_of% @Go.wpList_load_row:=@Go.wpList_load_row
theorem Aoi:type_of% @List.length_drop:=@List.length_drop
theorem Aoj:type_of% @Nat.mul_le_mul:=@Nat.mul_le_mul
theorem Aok:type_of% @Go.bodyPost_ret:=@Go.bodyPost_ret
theorem Aol:type_of% @Go.Calls.quiet_of_same:=@Go.Calls.quiet_of_same
theorem Aom:type_of% @Nat.lt_of_lt_of_le:=@Nat.lt_of_lt_of_le
theorem Aon:type_of% @List.ext_getElem:=@List.ext_getElem
theorem Aoo:type_of% @Go.info_parts:=@Go.info_parts
theorem Aop:type_of% @Nat.lt_trichotomy:=@Nat.lt_trichotomy
theorem Aoq:type_of% @Nat.lt_or_ge:=@Nat.lt_or_ge
theorem Aor:type_of% @Go.ByteArray.toList_eq:=@Go.ByteArray.toList_eq
theorem Aos:type_of% @List.map_cons:=@List.map_cons
theorem Aot:type_of% @List.set_append_right:=@List.set_append_right
theorem Aou:type_of% @List.length_set:=@List.length_set
theorem Aov:type_of% @Nat.lt_of_le_of_lt:=@Nat.lt_of_le_of_lt
theorem Aow:type_of% @List.append_nil:=@List.append_nil
theorem Aox:type_of% @List.countP_cons:=@List.countP_cons
theorem Aoy:type_of% @Nat.sub_self:=@Nat.sub_self
theorem Aoz:type_of% @Nat.pow_succ:=@Nat.pow_succ
theorem Ao0:type_of% @Go.results_cell_row:=@Go.results_cell_row
theorem Ao1:type_of% @List.getElem?_replicate_of_lt:=@List.getElem?_replicate_of_lt
theorem Ao2:type_of% @List.getElem?_range:=@List.getElem?_range
theorem Ao3:type_of% @List.filter_cons:=@List.filter_cons
theorem Ao4:type_of% @List.flatMap_append:=@List.flatMap_append
theorem Ao5:type_of% @List.take_append_drop:=@List.take_append_drop
theorem Ao6:type_of% @Array.length_toList:=@Array.length_toList
theorem Ao7:type_of% @Nat.mod_eq_of_lt:=@Nat.mod_eq_of_lt
theorem Ao8:type_of% @List.filter_append:=@List.filter_append
theorem Ao9:type_of% @Nat.pow_le_pow_right:=@Nat.pow_le_pow_right
theorem Apa:type_of% @Nat.mul_le_mul_right:=@Nat.mul_le_mul_right
theorem Apb:type_of% @Go.heap_alloc2_old:=@Go.heap_alloc2_old
theorem Apc:type_of% @Go.heap_alloc2_new:=@Go.heap_alloc2_new
theorem Apd:type_of% @List.countP_append:=@List.countP_append
theorem Ape:type_of% @Nat.add_mul:=@Nat.add_mul
theorem Apf:type_of% @List.replicate_succ:=@List.replicate_succ
theorem Apg:type_of% @List.getElem?_take_of_lt:=@List.getElem?_take_of_lt
theorem Aph:type_of% @Go.wp_region_held_drew:=@Go.wp_region_held_drew
theorem Api:type_of% @Array.ext':=@Array.ext'
theorem Apj:type_of% @Nat.add_assoc:=@Nat.add_assoc
theorem Apk:type_of% @List.map_append:=@List.map_append
theorem Apl:type_of% @Array.getElem?_eq_getElem:=@Array.getElem?_eq_getElem
theorem Apm:type_of% @Go.RowKit.Below.heap_setCell:=@Go.RowKit.Below.heap_setCell
theorem Apn:type_of% @Go.wpAnyH_done:=@Go.wpAnyH_done
theorem Apo:type_of% @Go.World.cell?_setCell_other:=@Go.World.cell?_setCell_other
theorem App:type_of% @Nat.two_pow_pos:=@Nat.two_pow_pos
theorem Apq:type_of% @List.length_range:=@List.length_range
theorem Apr:type_of% @Go.wpList_make_full:=@Go.wpList_make_full
theorem Aps:type_of% @Option.getD_some:=@Option.getD_some
theorem Apt:type_of% @Nat.div_le_self:=@Nat.div_le_self
theorem Apu:type_of% @List.range_succ:=@List.range_succ
theorem Apv:type_of% @List.countP_eq_length_filter:=@List.countP_eq_length_filter
theorem Apw:type_of% @Array.all_eq_true_iff_forall_mem:=@Array.all_eq_true_iff_forall_mem
theorem Apx:type_of% @Nat.le_of_eq:=@Nat.le_of_eq
theorem Apy:type_of% @List.drop_length:=@List.drop_length
theorem Apz:type_of% @List.getElem?_cons_succ:=@List.getElem?_cons_succ
theorem Ap0:type_of% @List.mem_append_left:=@List.mem_append_left
theorem Ap1:type_of% @Nat.add_sub_cancel:=@Nat.add_sub_cancel
theorem Ap2:type_of% @List.map_set:=@List.map_set
theorem Ap3:type_of% @Nat.add_zero:=@Nat.add_zero
theorem Ap4:type_of% @List.length_filter_le:=@List.length_filter_le
theorem Ap5:type_of% @ByteArray.data_append:=@ByteArray.data_append
theorem Ap6:type_of% @Go.Result.andThen_ok:=@Go.Result.andThen_ok
theorem Ap7:type_of% @Nat.min_eq_left:=@Nat.min_eq_left
theorem Ap8:type_of% @Nat.add_sub_cancel_left:=@Nat.add_sub_cancel_left
theorem Ap9:type_of% @List.getElem?_set_ne:=@List.getElem?_set_ne
theorem Aqa:type_of% @beq_self_eq_true:=@beq_self_eq_true
theorem Aqb:type_of% @List.getElem_map:=@List.getElem_map
theorem Aqc:type_of% @Nat.mod_two_eq_zero_or_one:=@Nat.mod_two_eq_zero_or_one
theorem Aqd:type_of% @List.drop_eq_nil_of_le:=@List.drop_eq_nil_of_le
theorem Aqe:type_of% @List.map_congr_left:=@List.map_congr_left
theorem Aqf:type_of% @List.extract_eq_take_drop:=@List.extract_eq_take_drop
theorem Aqg:type_of% @ByteArray.ext:=@ByteArray.ext
theorem Aqh:type_of% @Nat.mul_comm:=@Nat.mul_comm
theorem Aqi:type_of% @Nat.eq_zero_or_pos:=@Nat.eq_zero_or_pos
theorem Aqj:type_of% @List.set_eq_of_length_le:=@List.set_eq_of_length_le
theorem Aqk:type_of% @Nat.mul_one:=@Nat.mul_one
theorem Aql:type_of% @List.getElem_set:=@List.getElem_set
theorem Aqm:type_of% @List.mem_of_mem_take:=@List.mem_of_mem_take
theorem Aqn:type_of% @Nat.mul_assoc:=@Nat.mul_assoc
theorem Aqo:type_of% @List.sum_cons:=@List.sum_cons
theorem Aqp:type_of% @Nat.sub_zero:=@Nat.sub_zero
theorem Aqq:type_of% @List.take_left:=@List.take_left
theorem Aqr:type_of% @List.take_succ_cons:=@List.take_succ_cons
theorem Aqs:type_of% @List.nil_append:=@List.nil_append
theorem Aqt:type_of% @Nat.div_div_eq_div_mul:=@Nat.div_div_eq_div_mul
theorem Aqu:type_of% @List.getElem?_set_self:=@List.getElem?_set_self
theorem Aqv:type_of% @Nat.le_add_right:=@Nat.le_add_right
theorem Aqw:type_of% @List.cons_append:=@List.cons_append
theorem Aqx:type_of% @List.pairwise_cons:=@List.pairwise_cons
theorem Aqy:type_of% @List.map_nil:=@List.map_nil
theorem Aqz:type_of% @List.getElem?_drop:=@List.getElem?_drop
theorem Aq0:type_of% @Classical.byContradiction:=@Classical.byContradiction
theorem Aq1:type_of% @List.replicate_succ':=@List.replicate_succ'
theorem Aq2:type_of% @BitVec.ofInt_natCast:=@BitVec.ofInt_natCast
theorem Aq3:type_of% @List.mem_append:=@List.mem_append
theorem Aq4:type_of% @List.foldl_cons:=@List.foldl_cons
theorem Aq5:type_of% @List.countP_nil:=@List.countP_nil
theorem Aq6:type_of% @Int.natCast_mul:=@Int.natCast_mul
theorem Aq7:type_of% @Array.getElem?_setIfInBounds_ne:=@Array.getElem?_setIfInBounds_ne
theorem Aq8:type_of% @List.getD_cons_succ:=@List.getD_cons_succ
theorem Aq9:type_of% @List.filter_cons_of_pos:=@List.filter_cons_of_pos
abbrev Arb:=List (ByteArray × ByteArray)
abbrev Arc:=List UInt8
abbrev Ard:=List Nat
abbrev Are:=List Value
abbrev Arf:=Option Addr
theorem tK {P:Program} {ops:Array Oper} {Q:Exit→Act→World→Prop} {md:Region.Mode} {S:World→Prop} (i:Nat) (oi:Oper) (v:Value) {fuel:Nat} {listed:Array Bool} {a:Act} {w:World} (hy:∀ w,S w→(execOp a.eval oi).run P w=.ok (.value v) w) (h:wpAnyH P md ops Q S fuel (listed.setIfInBounds i true) (a.put oi.dst v) w) (hi:ops[i]?=some oi:=by exact rfl) (hs:Region.noSelect ops=true:=by kernel_rfl) (hf:Region.free md ops listed i=true:=by kernel_rfl) (hr:(Region.ready md ops listed).contains i=true:=by kernel_rfl) (hQ:∀ c a w,Q (.panic c) (a.put oi.dst v) w→Q (.panic c) a w:=by exact fun _ _ _ h => h) (hw:Region.wanted oi (yielded ops a.tmps)=true:=by kernel_rfl) (hS:S w:=by assumption):wpAnyH P md ops Q S (fuel+1) listed a w:=wpAnyH_take hi hs hf hr hQ (.inl ⟨hw,hy⟩) hS h
theorem tU {P:Program} {ops:Array Oper} {Q:Exit→Act→World→Prop} {md:Region.Mode} {S:World→Prop} (i:Nat) (oi:Oper) {fuel:Nat} {listed:Array Bool} {a:Act} {w:World} (h:wpAnyH P md ops Q S fuel (listed.setIfInBounds i true) (a.put oi.dst undef) w) (hi:ops[i]?=some oi:=by exact rfl) (hs:Region.noSelect ops=true:=by kernel_rfl) (hf:Region.free md ops listed i=true:=by kernel_rfl) (hr:(Region.ready md ops listed).contains i=true:=by kernel_rfl) (hQ:∀ c a w,Q (.panic c) (a.put oi.dst undef) w→Q (.panic c) a w:=by exact fun _ _ _ h => h) (hw:Region.wanted oi (yielded ops a.tmps)=false:=by kernel_rfl) (hS:S w:=by assumption):wpAnyH P md ops Q S (fuel+1) listed a w:=wpAnyH_take hi hs hf hr hQ (.inr ⟨hw,rfl⟩) hS h
end Go.Proofs.YtegnkfdbmmndaaaGreat
namespace Go
theorem RowKit.Hid.o {p:Prop} (h:RowKit.Hid p):p:=h
theorem Aside.o {p:Prop} (h:Aside p):p:=h
theorem Shut.o {p:Prop} (h:Shut p):p:=h
end Go
