import Derived.Test.YtegnkfdbmmndaaaGreatProg
import Derived.WalkKit
import Derived.WalkSpells
import Derived.WalkLawsBesides
import Derived.Lib.AppendStr
import Derived.ArgAppend
import Derived.Laws.BitsAllLaws
import Derived.Deep.LoopGhost
import Derived.Deep.QuietTactic
import Derived.BigQuiet
import Derived.Laws.BytesArg
import Derived.Lib.BitFns
import Derived.Deep.Cut
import Derived.Deep.RegionHeld
import Derived.Lib.ConvBytes
import Init.Data.List.Lemmas
import Derived.Laws.Tables
import Derived.Sort.Lot0
import Derived.Laws.StructEq
import Derived.Deep.RegionLaw
import Derived.Lib.SliceRun
import Derived.Shelf.RegionOpenPlain
import Derived.Lib.AppendZerosOnto
import Derived.Shelf.SlSortCmp.Kit1
import Derived.Deep.AppendLies
import Derived.Deep.MidRow
import Derived.Laws.CopyOwn
import Derived.Lib.Builder
import Derived.Lib.UnsafeStr
import Derived.Lib.SlBytesConst
import Derived.Deep.CutRange
import Derived.Laws.ResultCell
import Derived.Laws.BitsLemmas
import Derived.ProofKit
import Derived.OpenShut
import Derived.Deep.SlicePairs
import Derived.SizedLaws
import Derived.SliceStrings
import Derived.ChangeMaps5
import Derived.Carry

/- Short names for lemmas of the core library. -/
namespace Go.Proofs.YtegnkfdbmmndaaaGreat
namespace Hm
end Hm
theorem Ak6:type_of% @List.getD_eq_getElem?_getD:=@List.getD_eq_getElem?_getD
theorem Ak7:type_of% @List.getElem?_eq_getElem:=@List.getElem?_eq_getElem
theorem Ak8:type_of% @List.setIfInBounds_toArray:=@List.setIfInBounds_toArray
theorem Ak9:type_of% @List.set_cons_zero:=@List.set_cons_zero
theorem Ala:type_of% @List.set_cons_succ:=@List.set_cons_succ
theorem Alb:type_of% @decide_eq_true:=@decide_eq_true
theorem Alc:type_of% @Go.cell_of_row:=@Go.cell_of_row
theorem Ald:type_of% @decide_eq_false:=@decide_eq_false
theorem Ale:type_of% @Nat.le_refl:=@Nat.le_refl
theorem Alf:type_of% @Go.heap_setCell_same:=@Go.heap_setCell_same
theorem Alg:type_of% @List.length_append:=@List.length_append
theorem Alh:type_of% @Go.wpAnyH_take:=@Go.wpAnyH_take
theorem Ali:type_of% @List.take_succ_eq_append_getElem:=@List.take_succ_eq_append_getElem
theorem Alj:type_of% @List.length_replicate:=@List.length_replicate
theorem Alk:type_of% @Go.frozen_of_row:=@Go.frozen_of_row
theorem All:type_of% @Go.heap_alloc_new:=@Go.heap_alloc_new
theorem Alm:type_of% @Go.AllReadyH.cons:=@Go.AllReadyH.cons
theorem Aln:type_of% @List.length_take:=@List.length_take
theorem Alo:type_of% @List.getElem_mem:=@List.getElem_mem
theorem Alp:type_of% @List.mem_cons_self:=@List.mem_cons_self
theorem Alq:type_of% @List.size_toArray:=@List.size_toArray
theorem Alr:type_of% @Nat.zero_le:=@Nat.zero_le
theorem Als:type_of% @List.mem_cons_of_mem:=@List.mem_cons_of_mem
theorem Alt:type_of% @List.getElem?_append_right:=@List.getElem?_append_right
theorem Alu:type_of% @List.getElem?_map:=@List.getElem?_map
theorem Alv:type_of% @Go.AllReadyH.nil:=@Go.AllReadyH.nil
theorem Alw:type_of% @Go.lt_of_block:=@Go.lt_of_block
theorem Alx:type_of% @List.append_assoc:=@List.append_assoc
theorem Aly:type_of% @Go.World.block_lt_of_cell?:=@Go.World.block_lt_of_cell?
theorem Alz:type_of% @List.getElem?_toArray:=@List.getElem?_toArray
theorem Al0:type_of% @Go.wpAnyH_ready:=@Go.wpAnyH_ready
theorem Al1:type_of% @Option.some.inj:=@Option.some.inj
theorem Al2:type_of% @Nat.le_trans:=@Nat.le_trans
theorem Al3:type_of% @List.getElem?_eq_none:=@List.getElem?_eq_none
theorem Al4:type_of% @List.drop_eq_getElem_cons:=@List.drop_eq_getElem_cons
theorem Al5:type_of% @beq_eq_false_iff_ne:=@beq_eq_false_iff_ne
theorem Al6:type_of% @List.length_map:=@List.length_map
theorem Al7:type_of% @Nat.zero_add:=@Nat.zero_add
theorem Al8:type_of% @List.take_of_length_le:=@List.take_of_length_le
theorem Al9:type_of% @Go.IntKind.wrap_i64:=@Go.IntKind.wrap_i64
theorem Ama:type_of% @List.take_length:=@List.take_length
theorem Amb:type_of% @List.length_drop:=@List.length_drop
theorem Amc:type_of% @List.length_cons:=@List.length_cons
theorem Amd:type_of% @Go.wpList_load_row:=@Go.wpList_load_row
theorem Ame:type_of% @UInt8.toNat_ofNat':=@UInt8.toNat_ofNat'
theorem Amf:type_of% @List.ext_getElem:=@List.ext_getElem
theorem Amg:type_of% @List.flatMap_cons:=@List.flatMap_cons
theorem Amh:type_of% @List.getElem?_append_left:=@List.getElem?_append_left
theorem Ami:type_of% @Nat.lt_trichotomy:=@Nat.lt_trichotomy
theorem Amj:type_of% @List.eq_nil_of_length_eq_zero:=@List.eq_nil_of_length_eq_zero
theorem Amk:type_of% @Nat.mul_le_mul:=@Nat.mul_le_mul
theorem Aml:type_of% @List.getElem_of_mem:=@List.getElem_of_mem
theorem Amm:type_of% @of_decide_eq_true:=@of_decide_eq_true
theorem Amn:type_of% @List.length_set:=@List.length_set
theorem Amo:type_of% @Go.bodyPost_ret:=@Go.bodyPost_ret
theorem Amp:type_of% @Nat.lt_of_lt_of_le:=@Nat.lt_of_lt_of_le
theorem Amq:type_of% @Go.ByteArray.toList_eq:=@Go.ByteArray.toList_eq
theorem Amr:type_of% @Nat.sub_self:=@Nat.sub_self
theorem Ams:type_of% @Go.Calls.quiet_of_same:=@Go.Calls.quiet_of_same
theorem Amt:type_of% @List.set_append_right:=@List.set_append_right
theorem Amu:type_of% @List.map_cons:=@List.map_cons
theorem Amv:type_of% @Nat.pow_succ:=@Nat.pow_succ
theorem Amw:type_of% @List.getElem?_range:=@List.getElem?_range
theorem Amx:type_of% @Nat.lt_of_le_of_lt:=@Nat.lt_of_le_of_lt
theorem Amy:type_of% @List.take_append_drop:=@List.take_append_drop
theorem Amz:type_of% @Go.info_parts:=@Go.info_parts
theorem Am0:type_of% @List.getElem?_replicate_of_lt:=@List.getElem?_replicate_of_lt
theorem Am1:type_of% @List.filter_cons:=@List.filter_cons
theorem Am2:type_of% @Nat.pow_le_pow_right:=@Nat.pow_le_pow_right
theorem Am3:type_of% @Go.results_cell_row:=@Go.results_cell_row
theorem Am4:type_of% @List.append_nil:=@List.append_nil
theorem Am5:type_of% @List.getElem_map:=@List.getElem_map
theorem Am6:type_of% @Array.ext':=@Array.ext'
theorem Am7:type_of% @Nat.lt_or_ge:=@Nat.lt_or_ge
theorem Am8:type_of% @List.countP_cons:=@List.countP_cons
theorem Am9:type_of% @List.map_append:=@List.map_append
theorem Ana:type_of% @List.flatMap_append:=@List.flatMap_append
theorem Anb:type_of% @Nat.mod_eq_of_lt:=@Nat.mod_eq_of_lt
theorem Anc:type_of% @Nat.add_assoc:=@Nat.add_assoc
theorem Ane:type_of% @Go.wpList_make_full:=@Go.wpList_make_full
theorem Anf:type_of% @List.replicate_succ:=@List.replicate_succ
theorem Ang:type_of% @List.filter_append:=@List.filter_append
theorem Anh:type_of% @Array.length_toList:=@Array.length_toList
theorem Ani:type_of% @List.getElem?_take_of_lt:=@List.getElem?_take_of_lt
theorem Anj:type_of% @Nat.mul_le_mul_right:=@Nat.mul_le_mul_right
theorem Ank:type_of% @Go.wp_region_held_drew:=@Go.wp_region_held_drew
theorem Anl:type_of% @List.drop_length:=@List.drop_length
theorem Anm:type_of% @List.map_set:=@List.map_set
theorem Ann:type_of% @List.countP_append:=@List.countP_append
theorem Ano:type_of% @Go.RowKit.Below.heap_setCell:=@Go.RowKit.Below.heap_setCell
theorem Anp:type_of% @Go.wpAnyH_done:=@Go.wpAnyH_done
theorem Anq:type_of% @Go.World.cell?_setCell_other:=@Go.World.cell?_setCell_other
theorem Anr:type_of% @Option.getD_some:=@Option.getD_some
theorem Ans:type_of% @Nat.two_pow_pos:=@Nat.two_pow_pos
theorem Ant:type_of% @Nat.min_eq_left:=@Nat.min_eq_left
theorem Anu:type_of% @Nat.div_le_self:=@Nat.div_le_self
theorem Anv:type_of% @Nat.add_mul:=@Nat.add_mul
theorem Anw:type_of% @Go.heap_alloc2_old:=@Go.heap_alloc2_old
theorem Anx:type_of% @Go.heap_alloc2_new:=@Go.heap_alloc2_new
theorem Anz:type_of% @List.extract_eq_take_drop:=@List.extract_eq_take_drop
theorem An0:type_of% @Nat.add_sub_cancel:=@Nat.add_sub_cancel
theorem An1:type_of% @ByteArray.ext:=@ByteArray.ext
theorem An2:type_of% @Array.all_eq_true_iff_forall_mem:=@Array.all_eq_true_iff_forall_mem
theorem An3:type_of% @Nat.mul_one:=@Nat.mul_one
theorem An4:type_of% @List.range_succ:=@List.range_succ
theorem An5:type_of% @ByteArray.data_append:=@ByteArray.data_append
theorem An6:type_of% @List.mem_or_eq_of_mem_set:=@List.mem_or_eq_of_mem_set
theorem An7:type_of% @Go.toList_madeCells_one:=@Go.toList_madeCells_one
theorem An8:type_of% @List.getElem_set:=@List.getElem_set
theorem An9:type_of% @Go.cell_one_new:=@Go.cell_one_new
theorem Aoa:type_of% @List.map_congr_left:=@List.map_congr_left
theorem Aob:type_of% @Nat.le_of_eq:=@Nat.le_of_eq
theorem Aoc:type_of% @List.length_range:=@List.length_range
theorem Aod:type_of% @List.eq_of_mem_replicate:=@List.eq_of_mem_replicate
theorem Aoe:type_of% @Go.World.ownsRow_nil:=@Go.World.ownsRow_nil
theorem Aof:type_of% @Nat.add_sub_cancel_left:=@Nat.add_sub_cancel_left
theorem Aog:type_of% @List.getElem?_cons_succ:=@List.getElem?_cons_succ
theorem Aoh:type_of% @List.getElem?_set_ne:=@List.getElem?_set_ne
theorem Aoi:type_of% @beq_self_eq_true:=@beq_self_eq_true
theorem Aoj:type_of% @Nat.mul_comm:=@Nat.mul_comm
theorem Aok:type_of% @List.cons_append:=@List.cons_append
theorem Aol:type_of% @List.getElem?_set_self:=@List.getElem?_set_self
theorem Aom:type_of% @ByteArray.data_extract:=@ByteArray.data_extract
theorem Aon:type_of% @Nat.add_zero:=@Nat.add_zero
theorem Aoo:type_of% @List.nil_append:=@List.nil_append
theorem Aop:type_of% @Int.natCast_mul:=@Int.natCast_mul
theorem Aoq:type_of% @List.set_eq_of_length_le:=@List.set_eq_of_length_le
theorem Aor:type_of% @List.getElem_range:=@List.getElem_range
theorem Aos:type_of% @Array.toList_extract:=@Array.toList_extract
theorem Aot:type_of% @Nat.mul_assoc:=@Nat.mul_assoc
theorem Aou:type_of% @List.sum_cons:=@List.sum_cons
theorem Aov:type_of% @List.getElem?_replicate:=@List.getElem?_replicate
theorem Aow:type_of% @List.countP_eq_length_filter:=@List.countP_eq_length_filter
theorem Aox:type_of% @Nat.div_div_eq_div_mul:=@Nat.div_div_eq_div_mul
theorem Aoy:type_of% @Nat.mod_two_eq_zero_or_one:=@Nat.mod_two_eq_zero_or_one
theorem Aoz:type_of% @Nat.sub_zero:=@Nat.sub_zero
theorem Ao0:type_of% @List.pairwise_cons:=@List.pairwise_cons
theorem Ao1:type_of% @List.map_nil:=@List.map_nil
theorem Ao2:type_of% @List.length_filter_le:=@List.length_filter_le
theorem Ao3:type_of% @Classical.byContradiction:=@Classical.byContradiction
theorem Ao4:type_of% @List.replicate_succ':=@List.replicate_succ'
theorem Ao5:type_of% @List.mem_append_left:=@List.mem_append_left
theorem Ao6:type_of% @BitVec.ofInt_natCast:=@BitVec.ofInt_natCast
theorem Ao7:type_of% @List.mem_append:=@List.mem_append
theorem Ao8:type_of% @List.foldl_cons:=@List.foldl_cons
theorem Ao9:type_of% @List.replicate_zero:=@List.replicate_zero
theorem Apa:type_of% @Nat.le_add_right:=@Nat.le_add_right
theorem Apb:type_of% @List.take_zero:=@List.take_zero
theorem Apc:type_of% @List.take_left:=@List.take_left
end Go.Proofs.YtegnkfdbmmndaaaGreat
