import Derived.Test.YtegnkfdbmmndaaaGreatJ00
import Derived.Test.YtegnkfdbmmndaaaGreatJ02
import Derived.Test.YtegnkfdbmmndaaaGreatJ03
import Derived.Test.YtegnkfdbmmndaaaGreatJ22
import Derived.Test.YtegnkfdbmmndaaaGreatJ17
import Derived.Test.YtegnkfdbmmndaaaGreatJ13
import Derived.Test.YtegnkfdbmmndaaaGreatJ08

namespace Go.Proofs.YtegnkfdbmmndaaaGreat
open Hm
open Go.RowKit
structure Ep(w:World)(b:Nat)(p v:Value)(l:List UInt8):Prop where
 blk:w.heap[b]?=some (.cells #[p,v] 201 (0,0))
 own:w.ownsRow 0 5 1 v l.length (Ag l)
 ne:v.ownBlock≠some b
 adr:p= .pointer none∨p= .pointer (some ⟨b,0,none⟩)
 nil:l=[]→v= .slice none 0 0
set_option maxHeartbeats 1000000 in
set_option maxRecDepth 100000 in
theorem Z5(b:Nat)(p v:Value)(l:List UInt8)(w:World)(h:Ep w b p v l):
  Calls Tryz.prog 173 #[.pointer (some ⟨b,0,none⟩)] w fun e w'=>e= .returned (.tuple #[])∧Ep w' b (.pointer (some ⟨b,0,none⟩)) v l∧Aa (fun j=>j=b) w w':=by
 have hj: ∃j,Tryz.prog.info? 201=some j∧j.size=2:=by
  have h1:(Tryz.prog.info? 201).map (·.size)=some 2:=by kernel_rfl
  obtain⟨j,hj,hs⟩:=Option.map_eq_some_iff.1 h1;exact⟨j,hj,hs⟩
 obtain⟨j,hj,hjs⟩:=hj;have hc0:w.cell? ⟨b,0,none⟩=some p:=Alc _ _ 0 _ _ _ h.blk;have hf0:w.frozen? ⟨b,0,none⟩=false:=Alk _ _ 0 _ _ h.blk;have hsh:w.shape? b=some (201,2):=by simp[World.shape?,h.blk]
 rcases h.adr with hp|hp
 ·subst hp;have hset:Ep (w.setCell ⟨b,0,none⟩ (.pointer (some ⟨b,0,none⟩))) b (.pointer (some ⟨b,0,none⟩)) v l:=
   ⟨by have:=Alf w b 0 _ _ (.pointer (some ⟨b,0,none⟩)) h.blk;simpa using this,ownsRow_setCell_other h.own h.ne _,h.ne,.inr rfl,h.nil⟩
  have HS:Hid (Ep (w.setCell ⟨b,0,none⟩ (.pointer (some ⟨b,0,none⟩))) b (.pointer (some ⟨b,0,none⟩)) v l):=hset;clear h hset
  go_enter Tryz.func173,Tryz.ntmps173
  go_wp2;rw[Lib.run_to_unsafe w ⟨b,0,none⟩ Tryz.underlying199 Tryz.underlying262 hj (by rw[hjs];decide) hsh (Nat.zero_lt_succ 1)];simp only[Result.andThen];rw[Oper.upon_value];go_wp2;rw[run_callFunc_extern Tryz.func187 (by kernel_rfl) (by kernel_rfl) (by kernel_rfl) (e:=Extern.AbiNoEscape.same) (by kernel_rfl)];rw[Lib.run_noEscape];simp only[Result.andThen];rw[Oper.upon_value];go_wp2;rw[Lib.run_from_unsafe w ⟨b,0,none⟩ Tryz.underlying262 Tryz.underlying199 hj hsh (by kernel_rfl)];simp only[Result.andThen];rw[Oper.upon_value];go_wp2
  go_end0
  exact⟨rfl,HS.out,(Aa.refl (fun j=>j=b) w).setCell (p:=⟨b,0,none⟩) (.inr rfl) _⟩
 ·subst hp;have HS:Hid (Ep w b (.pointer (some ⟨b,0,none⟩)) v l):=h;clear h
  go_enter Tryz.func173,Tryz.ntmps173
  go_wp2;rw[Lib.run_neq_ptr_same w _ Tryz.underlying199 hj];go_wp2
  go_end0
  exact⟨rfl,HS.out,Aa.refl _ _⟩
set_option maxHeartbeats 1000000 in
theorem Wi(b:Nat)(p v:Value)(l:List UInt8)(s:ByteArray)(w:World)(h:Ep w b p v l)(hl:l.length+s.size≤1000000):
  Calls Tryz.prog 129 #[.pointer (some ⟨b,0,none⟩),.string s] w fun e w'=> ∃v',e= .returned (.tuple #[.int .i64 s.size,.nilIface])∧Ep w' b (.pointer (some ⟨b,0,none⟩)) v' (l++s.data.toList)∧Aa (Bk b v) w w'∧Cc w v v':=by
 obtain⟨i0,hi,hz0,hz1,hz2⟩:=Amz Ft;have hcc:=Z5 b p v l w h;clear h
 go_enter Tryz.func129,Tryz.ntmps129
 go_wp2_with fail;refine hcc.mono ?_;rintro e w1 ⟨rfl,h1,hk1⟩;clear hcc;obtain⟨a1,c1,hv1,_⟩:=Ay h1.own;subst hv1;have hd1:w1.cell? ⟨b,1,none⟩=some (.slice a1 l.length c1):=Alc _ _ 1 _ _ _ h1.blk;have hsz:=h1.own
 go_wp2_with(at_builtin;refine Eg _ rfl (.tmp 12) (.tmp 13) 79 9 rfl 0 5 i0 Tryz.underlying79 Tryz.underlying9 hi hz0 hz1 hz2 _ _ _ rfl hsz s rfl ?c6 ?c7 ?c8 ?_)
 case c6=>unfold maxLen;omega
 case c7=>omega
 case c8=>exact Alr _
 intro v2 w2 ho2 hg2 hm2 hnil2;have hblk2:w2.heap[b]?=some (.cells #[.pointer (some ⟨b,0,none⟩),.slice a1 l.length c1] 201 (0,0)):=by
  rw[hg2.block b (Alw h1.blk) (fun e=>h1.ne e.symm)];exact h1.blk
 have hne2:v2.ownBlock≠some b:=fun e=>by
  rcases hm2 b e with h|h
  ·exact h1.ne h
  ·have:=Alw h1.blk;omega
 have hk2:Aa (Bk b (.slice a1 l.length c1)) w w2:=(hk1.wider (fun j _ h=> .inl h)).grown hg2 (fun k hk=> .inr (.inr hk));have hmv2:Cc w (.slice a1 l.length c1) v2:=(Cc.refl w _).trans hm2 hk1.size;obtain⟨a2,c2,hv2,_⟩:=Ay ho2;have HN:Hid (l++s.data.toList=[]→v2= .slice none 0 0):=fun e=>by
  have e1:=List.append_eq_nil_iff.1 e;have hs0:s=ByteArray.empty:=by
   apply An1;apply Am6;rw[e1.2];rfl
  have hv0:=h1.nil e1.1;simp only[Value.slice.injEq]at hv0;exact hnil2.2 ⟨by simpa using⟨hv0.1,e1.1,hv0.2.2⟩,hs0⟩
 subst hv2;have hf1:w2.frozen? ⟨b,1,none⟩=false:=Alk _ _ 1 _ _ hblk2;have hd2:w2.cell? ⟨b,1,none⟩=some (.slice a1 l.length c1):=Alc _ _ 1 _ _ _ hblk2;have HR:Hid (Ep (w2.setCell ⟨b,1,none⟩ (.slice a2 (l.length+s.size) c2)) b (.pointer (some ⟨b,0,none⟩)) (.slice a2 (l.length+s.size) c2) (l++s.data.toList)):=by
  refine⟨?_,?_,hne2,.inr rfl,HN.out⟩
  ·have:=Alf w2 b 1 _ _ (.slice a2 (l.length+s.size) c2) hblk2;simpa using this
  ·have e1:(l++s.data.toList).length=l.length+s.size:=by simp
   have e2:Ag (l++s.data.toList)=Ag l++Lib.strCells s:=by simp[Ag,Lib.strCells]
   rw[e1,e2];exact ownsRow_setCell_other ho2 hne2 _
 clear ho2 hg2 hm2 hnil2 hblk2 h1 hk1 hsz hd1 hne2;go_wp2;go_ret2;exact⟨_,rfl,HR.out,hk2.setCell (.inr (.inl rfl)) _,hmv2⟩
set_option maxHeartbeats 400000 in
theorem X0(b:Nat)(p v:Value)(l:List UInt8)(w:World)(h:Ep w b p v l):
  Calls Tryz.prog 130 #[.pointer (some ⟨b,0,none⟩)] w fun e w'=>e= .returned (.int .i64 (l.length:Nat))∧w=w':=by
 obtain⟨a1,c1,hv1,_⟩:=Ay h.own;subst hv1;have hd1:w.cell? ⟨b,1,none⟩=some (.slice a1 l.length c1):=Alc _ _ 1 _ _ _ h.blk;clear h
 go_enter Tryz.func130,Tryz.ntmps130
 go_wp2;go_ret;exact⟨rfl,rfl⟩
theorem Aa.freeze{S:Nat→Prop}{a b:World}(h:Aa S a b){p:Addr}(hp:a.heap.size≤p.block∨S p.block)(n:Nat):Aa S a (b.freeze p n):=by
 have h0:=Lib.below_freeze (Below.refl 0 b) (p:=p) (Alr _) n;refine⟨h0.os.trans h.os,h0.tape.trans h.tape,h0.output.trans h.output,Al2 h.size h0.size,fun j hj hn=>?_⟩;have hne:p.block≠j:=by
  rintro rfl;rcases hp with hp|hp
  ·omega
  ·exact hn hp
 refine Eq.trans ?_ (h.block j hj hn);unfold World.freeze;split
 ·rfl
 ·simp only[Array.getElem?_modify];rw[if_neg hne]
set_option maxHeartbeats 1000000 in
set_option maxRecDepth 100000 in
theorem Tl(b:Nat)(p v:Value)(l:List UInt8)(w:World)(h:Ep w b p v l)(hl:l.length≤1000000):
  Calls Tryz.prog 131 #[.pointer (some ⟨b,0,none⟩)] w fun e w'=>e= .returned (.string ⟨l.toArray⟩)∧Aa (Bk b v) w w':=by
 by_cases h0:l=[]
 ·have hv:=h.nil h0;subst hv;subst h0;have hd1:w.drew.cell? ⟨b,1,none⟩=some (.slice none 0 0):=Alc _ _ 1 _ _ _ h.blk;have hSD:(Builtin.unsafeSliceData_ #[79] 198 #[.slice none 0 0]).run Tryz.prog w.drew= .ok (.pointer none) w.drew:=rfl;have hUS: ∀W,(Builtin.unsafeString_ #[198,3] 9 #[.pointer none,.int .i64 0]).run Tryz.prog W= .ok (.string .empty) W:=fun W=>Lib.run_unsafeString_none W _ _ _ none;clear h
  go_enter Tryz.func131,Tryz.ntmps131
  go_wp2
  go_region
  all_goals(go_wp2;go_ret;exact⟨rfl,(Aa.refl _ _).drew⟩)
 ·have hl0:0<l.length:=List.length_pos_iff.2 h0;obtain⟨g,cap,hv,hnc,hgw⟩:=Cf h.own hl0;subst hv;have hown:=h.own;have hd1:w.drew.cell? ⟨b,1,none⟩=some (.slice (some ⟨g,0,none⟩) l.length cap):=Alc _ _ 1 _ _ _ h.blk;have hSD:(Builtin.unsafeSliceData_ #[79] 198 #[.slice (some ⟨g,0,none⟩) l.length cap]).run Tryz.prog w.drew= .ok (.pointer (some ⟨g,0,none⟩)) w.drew:=Lib.run_unsafeSliceData_row _ _ _ _ _ _ (by omega);have hUS:(Builtin.unsafeString_ #[198,3] 9 #[.pointer (some ⟨g,0,none⟩),.int .i64 l.length]).run Tryz.prog w.drew= .ok (.string ⟨l.toArray⟩) (w.drew.freeze ⟨g,0,none⟩ l.length):=by
   rcases hown.2 with⟨hx,_⟩|⟨g2,cap2,cur,hx,_,hg,_,hcm,hcs,ht⟩
   ·cases hx
   ·cases hx;refine Lib.run_unsafeString_row w.drew 198 3 9 5 Tryz.underlying198 (by kernel_rfl) g cur.size (by have hg':w.drew.heap[g]?=some (.cells cur 5 (0,0)):=hg;simp[World.shape?,hg']) l h0 (by omega) (by omega) ?_;intro j x hx;exact hown.cells (g:=g) rfl j (.int .u8 x.toNat) (by simp[Ag,hx])
  clear h hown
  go_enter Tryz.func131,Tryz.ntmps131
  go_wp2
  go_region
  all_goals(go_wp2;go_ret;exact⟨rfl,(Aa.refl _ _).drew.freeze (p:=⟨g,0,none⟩) (.inr (.inr rfl)) _⟩)
namespace Hm
def Ae(fs:List (ByteArray×ByteArray)):List UInt8:=fs.flatMap fun f=>f.2.data.toList
def Ew(fs:List (ByteArray×ByteArray))(k:Nat):List Nat:=(List.range fs.length).map fun i=>if i<k then(Ae (fs.take (i+1))).length else 0
def Az(fs:List (ByteArray×ByteArray)):List Nat:=(List.range fs.length).map fun i=>(Ae (fs.take (i+1))).length
theorem Ud(fs:List (ByteArray×ByteArray))(k:Nat)(h:k<fs.length):Ae (fs.take (k+1))=Ae (fs.take k)++fs[k].2.data.toList:=by
 rw[Ali h];unfold Ae;rw[Ana];congr 1;simp
theorem Mq(fs:List (ByteArray×ByteArray))(k:Nat):(Ae (fs.take k)).length≤(Ae fs).length:=by
 have e:Ae fs=Ae (fs.take k)++Ae (fs.drop k):=by
  unfold Ae;rw[←Ana,Amy]
 rw[e,Alg];omega
theorem Z6(fs:List (ByteArray×ByteArray))(k:Nat):(Ew fs k).length=fs.length:=by simp[Ew]
theorem Ds(fs:List (ByteArray×ByteArray)):(Az fs).length=fs.length:=by simp[Az]
theorem Adx(fs:List (ByteArray×ByteArray)):Ew fs 0=List.replicate fs.length 0:=by
 apply Amf<;>simp[Ew]
theorem Agj(fs:List (ByteArray×ByteArray)):Ew fs fs.length=Az fs:=by
 apply Amf
 ·simp[Ew,Az]
 ·intro i h1 h2;have:i<fs.length:=by simpa[Ew]using h1
  simp[Ew,Az,this]
theorem Wj(fs:List (ByteArray×ByteArray))(k i:Nat)(h:i<(Ew fs k).length):(Ew fs k)[i]=if i<k then(Ae (fs.take (i+1))).length else 0:=by simp[Ew]
theorem Ady(fs:List (ByteArray×ByteArray))(k:Nat)(_h:k<fs.length):Ew fs (k+1)=(Ew fs k).set k (Ae (fs.take (k+1))).length:=by
 apply Amf
 ·simp[Ew]
 ·intro i h1 h2;rw[An8,Wj,Wj]
  by_cases e:k=i
  ·subst e;simp
  ·rw[if_neg e]
   by_cases h3:i<k
   ·rw[if_pos h3,if_pos (by omega)]
   ·rw[if_neg h3,if_neg (by omega)]
theorem Ah3(fs:List (ByteArray×ByteArray)): ∀e∈Az fs,e≤(Ae fs).length:=by
 intro e he;obtain⟨i,_,rfl⟩:=List.mem_map.1 he;exact Mq fs _
end Hm
set_option maxHeartbeats 1000000 in
theorem Z7(ao:Option Addr)(c:Nat)(fs:List (ByteArray×ByteArray))(w:World)(hf:Cx w ao fs)(hm:fs.length≤40)(ht:(Ae fs).length≤6000):
  Calls Tryz.prog 94 #[.slice ao fs.length c] w fun e w'=>e= .returned (.tuple #[.string ⟨(Ae fs).toArray⟩,.slice (some ⟨w.heap.size+1,0,none⟩) fs.length fs.length])∧IntRow w' (w.heap.size+1) (Az fs)∧Apd w w':=by
 obtain⟨i0,hi,hz0,hz1,hz2⟩:=Amz Jo
 go_enter Tryz.func94,Tryz.ntmps94
 go_wp2_with(at_make;refine Ane _ rfl (.tmp 9) (.tmp 9) 64 rfl w.heap.size 3 i0 (.int .i64 0) 1 Tryz.underlying64 hi hz0 hz1 .i64 .i64 _ _ fs.length rfl rfl rfl rfl (by rw[hz2];omega) (by unfold maxLen;omega) (by simp) ?_;intro w1 ho1 hg1)
 have hsz1:(w.alloc (.cells #[.pointer none,.slice none 0 0] 201)).heap.size=w.heap.size+1:=by simp
 try rw[hsz1]at ho1
 have hr1:IntRow w1 (w.heap.size+1) (Ew fs 0):=by rw[Adx];exact IntRow.made ho1
 have hb1:Ep w1 w.heap.size (.pointer none) (.slice none 0 0) (Ae (fs.take 0)):=
  ⟨by rw[hg1.block _ (by simp) (by simp)];exact All w _,by simpa[Ae,Ag]using Aoe w1 0 5 1,by simp[Value.ownBlock],.inl rfl,fun _=>rfl⟩
 have hk1:Apd w w1:=((Aa.refl (fun _=>False) w).alloc _).grown hg1 (fun k hk=>by cases hk);clear ho1 hg1
 go_loopw[13] (fun i wr=> ∃(k:Nat) (p v:Value),k≤fs.length∧i= .int .i64 k∧Ep wr w.heap.size p v (Ae (fs.take k))∧IntRow wr (w.heap.size+1) (Ew fs k)∧Apd w wr∧(∀j,v.ownBlock=some j→w.heap.size+1<j)) (fun i _=>fs.length-(intOf i).toNat)
 case atStart=>exact⟨0,_,_,Alr _,rfl,hb1,hr1,hk1,fun j h=>by cases h⟩
 case round=>
  clear hr1 hb1 hk1;obtain⟨k,p,v,hk,rfl,hb,hr,hkr,hmr⟩:=hrel;have hle1:=Mq fs k
  by_cases hlt:k<fs.length
  ·obtain⟨b,o,hao,hbw,hc1,hc2⟩:=(hf.kept hkr (fun a ha=>id)) k hlt;have hle2:=Mq fs (k+1);have HT:Hid (Ae (fs.take (k+1))=Ae (fs.take k)++fs[k].2.data.toList):=Ud fs k hlt;have hel:(Ae (fs.take k)).length+fs[k].2.size≤6000:=by
    have:=congrArg List.length HT.out;have e3:fs[k].2.data.toList.length=fs[k].2.size:=by simp
    rw[Alg,e3]at this;omega
   have HE:Hid (Ew fs (k+1)=(Ew fs k).set k (Ae (fs.take (k+1))).length):=Ady fs k hlt;have hetl:=Z6 fs k;generalize fs[k].1=nm at*;generalize fs[k].2=ct at*;have hbx:Ep (wr.alloc (.cells #[.string nm,.string ct] 38)) w.heap.size p v (Ae (fs.take k)):=
    ⟨by rw[Below.heap_alloc _ _ _ (Alw hb.blk)];exact hb.blk,hb.own.alloc _,hb.ne,hb.adr,hb.nil⟩
   have hws:=Wi w.heap.size p v _ ct _ hbx (by omega);rw[hao];clear hao hf hb hbx;go_wp2_with fail;refine hws.mono ?_;rintro e w2 ⟨v2,rfl,hb2,hk2,hm2⟩;have hln:=X0 _ _ _ _ w2 hb2;rw[←HT.out]at hb2 hln;have hr2:IntRow w2 (w.heap.size+1) (Ew fs k):=by
    refine IntRow.kept (w:=wr.alloc (.cells #[.string nm,.string ct] 38)) ?_ hk2 ?_
    ·unfold IntRow;rw[Below.heap_alloc _ _ _ hr.lt];exact hr
    ·rintro(h|h)
     ·omega
     ·have:=hmr _ h;omega
   have hd:=hr2.cell (i:=k) (by omega);have hfr:=hr2.free k;have HR:Hid (IntRow (w2.setCell ⟨w.heap.size+1,k,none⟩ (.int .i64 ((Ae (fs.take (k+1))).length:Nat))) (w.heap.size+1) (Ew fs (k+1))):=by
    show IntRow _ _ _;rw[HE.out];exact hr2.set k _
   have hkw2:Apd w w2:=(hkr.alloc _).trans hk2 (fun j h1 h2=>by
    rcases h2 with h2|h2
    ·omega
    ·have:=hmr _ h2;omega)
   have hmr2: ∀j,v2.ownBlock=some j→w.heap.size+1<j:=fun j h=>by
    rcases hm2 j h with h2|h2
    ·exact hmr j h2
    ·have:=Alw hr;simp at h2;omega
   generalize(Ew fs k)[k]'(by omega)=old at hd;have HB2:Hid (Ep w2 w.heap.size (.pointer (some ⟨w.heap.size,0,none⟩)) v2 (Ae (fs.take (k+1)))):=hb2;clear hws hr hr2 hb2 hk2 hm2 hkr hmr;generalize(Ae (fs.take (k+1))).length=el at*
   go_wp2_with(go_at_call 130;refine hln.mono ?_;rintro e w3 ⟨rfl,rfl⟩)
   go_roundw
   case rel=>
    have hb:=HB2.out;refine⟨k+1,_,v2,by omega,by go_num,⟨?_,?_,hb.ne,hb.adr,hb.nil⟩,HR.out,hkw2.setCell (.inl (by simp)) _,hmr2⟩
    ·rw[Ano _ _ _ _ (by simp)];exact hb.blk
    ·exact ownsRow_setCell_other hb.own (fun e=>by have:=hmr2 _ e;simp at this) _
   case measure=>simp[intOf];omega
  ·obtain rfl:k=fs.length:=by omega
   rw[Ama]at hb;rw[Agj]at hr;have hst:=Tl _ _ _ _ wr hb (by omega);have HR:Hid (IntRow wr (w.heap.size+1) (Az fs)):=hr;clear hf hb hr;generalize htx:(⟨(Ae fs).toArray⟩:ByteArray)=txt at hst;have HX:Hid ((⟨(Ae fs).toArray⟩:ByteArray)=txt):=htx;clear htx
   go_wp2_with(go_at_call 131;refine hst.mono ?_;rintro e w2 ⟨rfl,hk2⟩)
   go_ret2;rw[HX.out];refine⟨rfl,HR.out.kept hk2 ?_,hkr.trans hk2 (fun j h1 h2=>?_)⟩
   ·rintro(h|h)
    ·omega
    ·have:=hmr _ h;omega
   ·rcases h2 with h2|h2
    ·omega
    ·have:=hmr _ h2;omega
end Go.Proofs.YtegnkfdbmmndaaaGreat
namespace Go.Proofs.YtegnkfdbmmndaaaGreat
open Hm
namespace Hm
theorem Ah4(n:Nat):((List.range (n+1)).filter fun p=>decide (0<p)).length=n:=by
 induction n with
 |zero=>rfl
 |succ n ih=>rw[An4,Ang,Alg,ih];simp
theorem Ab4(n:Nat):((List.range (n+1)).filter fun p=>decide (p%8=0)).length=n/8+1:=by
 induction n with
 |zero=>rfl
 |succ n ih=>
  rw[An4,Ang,Alg,ih]
  by_cases h:(n+1)%8=0
  ·simp[h];omega
  ·simp[h];omega
theorem F7{s:List UInt8}{ps:List Nat}(h:ps.Perm (List.range (s.length+1))):(Ap s ps).length=s.length:=by
 unfold Ap;rw[Al6,(h.filter _).length_eq,Ah4]
theorem Wk(ps:List Nat)(wd:Nat):(Bv ps wd).length=(ps.filter fun p=>decide (p%8=0)).length*wd:=by
 unfold Bv;generalize(ps.filter fun p=>decide (p%8=0))=l;induction l with
 |nil=>simp
 |cons p r ih=>rw[Amg,Alg,Dg,ih,Amc,Anv];omega
theorem Kf{n:Nat}{ps:List Nat}(h:ps.Perm (List.range (n+1))):(Da ps).length=n+1+(n/8+1)*Lib.bitLen (n/8):=by
 have hl:ps.length=n+1:=by have:=h.length_eq;simpa using this
 unfold Da;rw[Alg,Al6,Wk,(h.filter _).length_eq,Ab4,hl,An0]
theorem Lq(es:List Nat)(n:Nat):(Bf es n).length=es.length*By es.length n+(es.length+n/2^By es.length n+1):=by
 unfold Bf;rw[J6,Alg,Hc,Alj]
end Hm
namespace Hm
def Bn(ps:List Nat):Nat:=ps.findIdx fun x=>x==0
def Bw(cd:UInt8→List Bool)(hs:List (List Bool))(col:List UInt8):List Bool:=hs.flatMap fun h=>(col.filter fun b=>Ea (cd b) h).map fun b=>(cd b).getD h.length false
def Dt(L:List Nat)(N:Nat)(col:List UInt8):List Bool:=(A0 (lnB L) (Bm L) (Al (lnB L) (Af L) (2*N)).1 col N).map fun x=>decide (x=1)
def D0(fs:List (ByteArray×ByteArray))(ps:List Nat)(tr:List Bool):List UInt8:=
 [72,79,65,82,68,49,UInt8.ofNat fs.length]++leBytes (Ae fs).length 2++leBytes (Bn ps) 2++nameBytes fs++Ah (Bf (Az fs) (Ae fs).length)++leBytes (Ai (lens (Ae fs))).length 2++Bo (lens (Ae fs)) (Ai (lens (Ae fs)))++Ah tr++Ah (Da ps)
def Kr(fs:List (ByteArray×ByteArray))(ps:List Nat)(tr:List Bool):List UInt8:=D0 fs ps tr++leBytes (crc (D0 fs ps tr)) 4
theorem Kg{n:Nat}{ps:List Nat}(h:ps.Perm (List.range (n+1))):Lib.idxOf (ps.map fun x:Nat=>(x:Int)) 0=(Bn ps:Int)∧Bn ps≤n:=by
 have hl:ps.length=n+1:=by have:=h.length_eq;simpa using this
 have hmem:0∈ps:=h.symm.subset (by simp);have hk:ps.findIdx (fun x=>x==0)<ps.length:=List.findIdx_lt_length_of_exists ⟨0,hmem,by simp⟩;have hz:ps[ps.findIdx (fun x=>x==0)]=0:=by
  have:=List.findIdx_getElem (p:=fun x:Nat=>x==0) (xs:=ps) (w:=hk);simpa using this
 refine⟨?_,by unfold Bn;omega⟩;have hh:=Lib.idxOf_hit (ps.map fun x:Nat=>(x:Int)) ps.length (ps.findIdx (fun x=>x==0)) 0 hk (by simp)
  (by simp[List.getD_eq_getElem?_getD,hk,hz])
  (fun j hj=>by
   have hjl:j<ps.length:=by omega
   have hne:=List.not_of_lt_findIdx hj;simp[List.getD_eq_getElem?_getD,hjl];simpa using hne)
 rw[Al8 (by simp)]at hh;exact hh
theorem Mr{s:List UInt8}{ps:List Nat}(h:ps.Perm (List.range (s.length+1))): ∀b∈Ap s ps,b∈s:=by
 intro b hb;unfold Ap at hb;obtain⟨p,hp,rfl⟩:=List.mem_map.1 hb;have hp2:=List.mem_filter.1 hp;have h0:0<p:=by simpa using hp2.2
 have h1:=h.subset hp2.1;have h2:p<s.length+1:=by simpa using h1
 rw[Ak6,Ak7 (by omega)];exact Alo _
theorem Ab5(ln num:UInt8→Nat)(nds:List Nd)(n:Nat):Gy ln num nds [] n=[]:=rfl
theorem Ir(ln num:UInt8→Nat)(nds:List Nd)(N:Nat):A0 ln num nds [] N=[]:=by
 induction N with
 |zero=>rfl
 |succ N ih=>rw[Ez,ih,Ab5];rfl
theorem Ma{L:List Nat}{N:Nat}{col:List UInt8}{hs:List (List Bool)}(hC:Bj L)(hE:Ends 32 (lnB L) (Af L) N)(hm: ∀b∈col,b∈Af L)(hh:Er (G9 (lnB L) (Bm L)) hs):Dt L N col=Bw (G9 (lnB L) (Bm L)) hs col:=by
 by_cases h0:Af L=[]
 ·have hc:col=[]:=by
   cases col with
   |nil=>rfl
   |cons b r=>have:=hm b (Alp ..);rw[h0]at this;simp at this
  subst hc;unfold Dt Bw;rw[Ir];simp
 ·have hsh:=hE.nodes;have hlen:=hE.len;have hz:=hE.side0 h0;have hk:=hC.numk;have hu:=hh.unique (hsh.heads hk (fun j hj=>hz j (by rw[hlen]at hj;exact hj)) hC.num_lt (fun b hb=>(hC.mem b).2 hb));rw[hu];unfold Dt Bw Pc;generalize(Al (lnB L) (Af L) (2*N)).1=nds at*;rw[←hlen];unfold A0;rw[List.map_flatMap,List.flatMap_map];rw[List.flatMap_def,List.flatMap_def];congr 1;refine Aoa fun j hj=>?_;have hj':j<nds.length:=by simpa using hj
  unfold Gy Ao;rw[List.map_map];have e1:(col.filter fun b=>Ea (G9 (lnB L) (Bm L) b) (C7 (Ab nds j).depth (Ab nds j).num))=col.filter (El (lnB L) (Bm L) (Ab nds j)):=
   List.filter_congr fun b hb=>hsh.begins hk hC.num_lt hj' (hm b hb) (hC.pos b (hm b hb))
  rw[e1,Bs];refine Aoa fun b hb=>?_;have hb2:=List.mem_filter.1 hb;exact(Ahb b _ (Amm hb2.2).1).symm
end Hm
end Go.Proofs.YtegnkfdbmmndaaaGreat
namespace Go.Proofs.YtegnkfdbmmndaaaGreat
open Hm
open Go.RowKit
structure Ei(w wr:World)(pb:Nat)(gs:List Hm.Grp)(L:List Nat)(v:Value)(vs:List Value):Prop where
 grp:C8 wr (w.heap.size+1) v gs vs
 row:wr.heap[pb]?=some (.cells #[v] 213 (0,0))
 len:Eh wr 139 (pb+1) L
 res:wr.heap[w.heap.size]?=some (.cells Tryz.zeroCells139 139 (0,0))
 kept:Apd w wr
 own: ∀k,v.ownBlock=some k→k≠pb∧k≠pb+1
 mem: ∀m,(h:m<vs.length)→ ∀k,vs[m].ownBlock=some k→k≠pb∧k≠pb+1
 hpb:w.heap.size<pb
theorem Ei.grew{w wr wr':World}{pb:Nat}{gs:List Hm.Grp}{L:List Nat}{v:Value}{vs:List Value}(h:Ei w wr pb gs L v vs)(hk:Apd wr wr'):Ei w wr' pb gs L v vs:=
 ⟨⟨h.grp.len,hk.owns h.grp.own (fun _ _=>id),fun i h1 h2=>⟨(h.grp.mem i h1 h2).1.kept hk (fun _ _=>id),(h.grp.mem i h1 h2).2⟩⟩,hk.row h.row id,h.len.kept hk id,hk.row h.res id,h.kept.trans hk (fun _ _ h=>h),h.own,h.mem,h.hpb⟩
theorem Ei.take{w wr w2:World}{pb:Nat}{gs:List Hm.Grp}{L:List Nat}{v v2:Value}{vs:List Value}(h:Ei w wr pb gs L v vs)(h0:0<gs.length)
  (hr:w2.heap[pb]?=some (.cells #[v2] 213 (0,0))) (hG:C8 w2 (w.heap.size+1) v2 (gs.eraseIdx (Hm.first gs)) (vs.eraseIdx (Hm.first gs))) (ho:v2.ownBlock=v.ownBlock) (hk:Aa (fun k=>k=pb∨v.ownBlock=some k) wr w2):
  Ei w w2 pb (Hm.left gs) L v2 (vs.eraseIdx (Hm.first gs))∧Fc w2 (vs.getD (Hm.first gs) undef) (Aq gs).2.2∧ ∀k,(vs.getD (Hm.first gs) undef).ownBlock=some k→k≠pb∧k≠pb+1∧v2.ownBlock≠some k:=by
 have hfl:=Gg gs h0;have hvl:=h.grp.len;have hM:=h.grp.memD hfl;have hmm: ∀k,(vs.getD (Hm.first gs) undef).ownBlock=some k→k≠pb∧k≠pb+1:=fun k hk'=>by
  rw[Ak6,Ak7 (by omega)]at hk';exact h.mem _ _ k hk'
 have hlen1:pb+1≠pb:=by omega
 refine⟨⟨hG,hr,h.len.kept hk ?_,hk.row h.res ?_,h.kept.trans hk ?_,fun k hk'=>h.own k (by rw[←ho];exact hk'),?_,h.hpb⟩,hM.1.kept hk ?_,fun k hk'=>⟨(hmm k hk').1,(hmm k hk').2,by rw[ho];exact hM.2 k hk'⟩⟩
 ·rintro(e|e)
  ·omega
  ·exact(h.own _ e).2 rfl
 ·rintro(e|e)
  ·have:=h.hpb;omega
  ·have:=(h.grp.own.lt _ e).1;omega
 ·rintro j hj (e|e)
  ·have:=h.hpb;omega
  ·have:=(h.grp.own.lt _ e).1;omega
 ·intro m hm k hk';rw[List.getElem_eraseIdx]at hk'
  by_cases hlt:m<Hm.first gs
  ·rw[dif_pos hlt]at hk';exact h.mem _ _ k hk'
  ·rw[dif_neg hlt]at hk';exact h.mem _ _ k hk'
 ·rintro k hk' (e|e)
  ·exact(hmm k hk').1 e
  ·exact hM.2 k hk' e
theorem Ei.bump{w wr:World}{pb:Nat}{gs:List Hm.Grp}{L:List Nat}{v:Value}{vs:List Value}(h:Ei w wr pb gs L v vs)(i x:Nat):Ei w (wr.setCell ⟨pb+1,i,none⟩ (.int .i64 (x:Nat))) pb gs (L.set i x) v vs:=by
 have hk:Aa (fun k=>k=pb+1) wr (wr.setCell ⟨pb+1,i,none⟩ (.int .i64 (x:Nat))):=(Aa.refl (fun k=>k=pb+1) wr).setCell (p:=⟨pb+1,i,none⟩) (.inr rfl) _;have hp:=h.hpb;exact⟨⟨h.grp.len,hk.owns h.grp.own (fun k hk' e=>(h.own k hk').2 e),fun m h1 h2=>⟨(h.grp.mem m h1 h2).1.kept hk (fun k hk' e=>(h.mem m h2 k hk').2 e),(h.grp.mem m h1 h2).2⟩⟩,hk.row h.row (by omega),h.len.set i x,hk.row h.res (by omega),h.kept.setCell (.inl (show w.heap.size≤pb+1 by omega)) _,h.own,h.mem,h.hpb⟩
theorem Ei.app{w wr wa w8:World}{pb:Nat}{gs:List Hm.Grp}{L:List Nat}{v v8 mv:Value}{vs:List Value}{g:Hm.Grp}(h:Ei w wr pb gs L v vs)(hka:Apd wr wa)(hm:Fc wa mv g.2.2)
  (hmv: ∀k,mv.ownBlock=some k→v.ownBlock≠some k∧k≠pb∧k≠pb+1) (ho:w8.ownsRow (w.heap.size+1) 216 3 v8 (gs.length+1) (Ct gs vs++Ct [g] [mv])) (hg:wa.grownBy w8 v.ownBlock) (hmo:Cc wa v v8):
  Ei w (w8.setCell ⟨pb,0,none⟩ v8) pb (gs++[g]) L v8 (vs++[mv]):=by
 have hp:=h.hpb;have hlen:=h.len.lt;have hsa:=hka.size;have G8:=h.grp.append hka (by omega) hm (fun k hk=>(hmv k hk).1) ho hg hmo;have k8:Aa (fun k=>v.ownBlock=some k) wa w8:=(Aa.refl _ _).grown hg (fun j hj=> .inr hj);have kp:Aa (fun k=>k=pb) w8 (w8.setCell ⟨pb,0,none⟩ v8):=(Aa.refl (fun k=>k=pb) w8).setCell (p:=⟨pb,0,none⟩) (.inr rfl) _;have hown: ∀k,v8.ownBlock=some k→k≠pb∧k≠pb+1:=fun k hk=>by
  rcases hmo k hk with y|y
  ·exact h.own k y
  ·omega
 have hmem: ∀m,(hm:m<(vs++[mv]).length)→ ∀k,(vs++[mv])[m].ownBlock=some k→k≠pb∧k≠pb+1:=by
  intro m hm' k hk
  by_cases hlt:m<vs.length
  ·rw[List.getElem_append_left hlt]at hk;exact h.mem m hlt k hk
  ·rw[List.getElem_append_right (by omega)]at hk;simp at hk;exact⟨(hmv k hk).2.1,(hmv k hk).2.2⟩
 have r8:w8.heap[pb]?=some (.cells #[v] 213 (0,0)):=k8.row (hka.row h.row id) (fun e=>(h.own _ e).1 rfl);have hbase: ∀k,v.ownBlock=some k→w.heap.size+1≤k:=fun k hk=>(h.grp.own.lt k hk).1;refine⟨⟨G8.len,kp.owns G8.own (fun k hk e=>(hown k hk).1 e),fun m h1 h2=>⟨(G8.mem m h1 h2).1.kept kp (fun k hk e=>(hmem m h2 k hk).1 e),(G8.mem m h1 h2).2⟩⟩,Alf _ _ 0 _ _ _ r8,((h.len.kept hka id).kept k8 (fun e=>(h.own _ e).2 rfl)).kept kp (by omega),kp.row (k8.row (hka.row h.res id) (fun e=>by have:=hbase _ e;omega)) (by omega),?_,hown,hmem,hp⟩;exact((h.kept.trans hka (fun _ _ h=>h)).trans k8 (fun j hj e=>by have:=hbase _ e;omega)).setCell (.inl (show w.heap.size≤pb by omega)) _
set_option maxHeartbeats 2000000 in
theorem X1(s:ByteArray)(cn:Nat)(w:World)(hs:s.size≤6000)(gs:List Hm.Grp)(hgs:Aj s.data.toList 256=gs)(h1:gs.length=1)(hcn:cn<256)(hc:(gs.getD 0 (0,0,[])).2.1.toNat=cn):
  Calls Tryz.prog 96 #[.string s] w fun e w'=>e= .returned (.agg (Ac (F5 256 cn 1)).toArray)∧Apd w w':=by
 have hsg:=Tx s (w.alloc (.cells Tryz.zeroCells139 139)) hs;rw[hgs]at hsg
 go_enter Tryz.func96,Tryz.ntmps96
 go_wp2_with fail;refine hsg.mono ?_;rintro e w1 ⟨v,vs,rfl,hG,hk1⟩;clear hsg hgs;have ho1:=hG.own;rw[h1]at ho1;obtain⟨g,cap,hv,hnc,hgw⟩:=Cf ho1 (by omega);subst hv;have hs1:w.heap.size+1≤w1.heap.size:=by have:=hk1.size;simpa using this
 have hg0:w.heap.size<g:=by have:=ho1.lt g rfl;simp at this;omega
 have hl1:w1.cell? ⟨g,1,none⟩=some (.int .u8 (cn:Nat)):=by
  have h2:=(hG.cellsD (i:=0) (by omega)).2.1;rw[hc,Nat.zero_mul]at h2;exact h2
 have hres1:w1.heap[w.heap.size]?=some (.cells Tryz.zeroCells139 139 (0,0)):=hk1.row (All w _) id;have hkw1:Apd w w1:=((Aa.refl (fun _=>False) w).alloc _).trans hk1 (fun _ _ h=>h);clear ho1 hk1 hG hc h1;have hgr:((w1.alloc (.cells #[.slice (some ⟨g,0,none⟩) 1 cap] 213)).alloc (.cells (Ac (F5 256 cn 1)).toArray 139)).cell? ⟨w1.heap.size,0,none⟩=some (.slice (some ⟨g,0,none⟩) 1 cap):=Alc _ _ 0 _ _ _ (Anw w1 _ _);have hlen0:((w1.alloc (.cells #[.slice (some ⟨g,0,none⟩) 1 cap] 213)).alloc (.cells (Ac (F5 256 cn 1)).toArray 139)).heap[w1.heap.size+1]?=some (.cells (Ac (F5 256 cn 1)).toArray 139 (0,0)):=Anx w1 _ _;have hres2:((w1.alloc (.cells #[.slice (some ⟨g,0,none⟩) 1 cap] 213)).alloc (.cells (Ac (F5 256 cn 1)).toArray 139)).heap[w.heap.size]?=some (.cells Tryz.zeroCells139 139 (0,0)):=by
  rw[Below.heap_alloc _ _ _ (by simp;omega),Below.heap_alloc _ _ _ (by omega)];exact hres1
 have hkw2:Apd w ((w1.alloc (.cells #[.slice (some ⟨g,0,none⟩) 1 cap] 213)).alloc (.cells (Ac (F5 256 cn 1)).toArray 139)):=(hkw1.alloc _).alloc _;have HP:Hid (((w1.alloc (.cells #[.slice (some ⟨g,0,none⟩) 1 cap] 213)).alloc (.cells (Ac (F5 256 cn 1)).toArray 139)).cell? ⟨w1.heap.size,0,none⟩=some (.slice (some ⟨g,0,none⟩) 1 cap)∧
  ((w1.alloc (.cells #[.slice (some ⟨g,0,none⟩) 1 cap] 213)).alloc (.cells (Ac (F5 256 cn 1)).toArray 139)).heap[w1.heap.size+1]?=some (.cells (Ac (F5 256 cn 1)).toArray 139 (0,0))∧
  ((w1.alloc (.cells #[.slice (some ⟨g,0,none⟩) 1 cap] 213)).alloc (.cells (Ac (F5 256 cn 1)).toArray 139)).heap[w.heap.size]?=some (.cells Tryz.zeroCells139 139 (0,0))∧
  Apd w ((w1.alloc (.cells #[.slice (some ⟨g,0,none⟩) 1 cap] 213)).alloc (.cells (Ac (F5 256 cn 1)).toArray 139))):=⟨hgr,hlen0,hres2,hkw2⟩
 clear hgr hlen0 hres2 hkw2 hkw1 hres1;have hzs:Tryz.zeroCells139.size=256:=by rw[Ju,A2,Alj]
 go_wp2_with fail;rw[Ai7];generalize(w1.alloc (.cells #[.slice (some ⟨g,0,none⟩) 1 cap] 213)).alloc (.cells (Ac (F5 256 cn 1)).toArray 139)=W at HP⊢;have hasz:(Ac (F5 256 cn 1)).toArray.size=256:=by rw[A2,Abb]
 have hall:=Eb (F5 256 cn 1);generalize hA:(Ac (F5 256 cn 1)).toArray=arr at HP hasz hall;have HA:Hid ((Ac (F5 256 cn 1)).toArray=arr):=hA;clear hA;obtain⟨hgr,hlen0,hres2,hkw2⟩:=HP.out;have HX:Hid (W.heap[w1.heap.size+1]?=some (.cells arr 139 (0,0))∧W.heap[w.heap.size]?=some (.cells Tryz.zeroCells139 139 (0,0))∧arr.all (·.oneCell')=true∧Apd w W∧Tryz.zeroCells139.size=arr.size):=⟨hlen0,hres2,hall,hkw2,by rw[hzs,hasz]⟩;clear hlen0 hres2 hall hkw2 HP hzs;refine wp_loop_rounds 1 ?_;rw[rounds_succ]
 go_wp2_with(first
  |(refine Amd rfl 139 _ rfl (w1.heap.size+1) rfl 139 arr (0,0) _ HX.out.1 Tryz.underlying139 rfl (by rw[hasz];exact B9) ?_)
  |(refine wpList_store_row _ rfl 139 _ _ rfl w.heap.size 139 _ arr rfl rfl HX.out.2.1 (by rw[hasz];exact B9) HX.out.2.2.2.2 HX.out.2.2.1 ?_;intro w3 hw3 hk3))
 refine Amo (v:= .agg arr) (Am3 Tryz.results96 _ w3 w.heap.size 139 arr (0,0) _ rfl hw3 Tryz.underlying139 rfl (by rw[hasz];exact B9)) rfl ⟨by rw[HA.out],?_⟩;exact HX.out.2.2.2.1.trans hk3 (fun j h1 h2=>by omega)
set_option maxHeartbeats 4000000 in
theorem Adz(s:ByteArray)(w:World)(hs:s.size≤6000):
  Calls Tryz.prog 96 #[.string s] w fun e w'=>e= .returned (.agg (Ac (Hm.lens s.data.toList)).toArray)∧Apd w w':=by
 have hsg:=Tx s (w.alloc (.cells Tryz.zeroCells139 139)) hs;have hfine:=Nt s.data.toList (by simpa using hs)
 by_cases h1:(Aj s.data.toList 256).length=1
 ·have hL:Hm.lens s.data.toList=F5 256 ((Aj s.data.toList 256).getD 0 (0,0,[])).2.1.toNat 1:=by
   unfold Hm.lens;simp only[];rw[if_pos h1];rfl
  rw[hL];exact X1 s _ w hs _ rfl h1 (UInt8.toNat_lt _) rfl
 have hL:Hm.lens s.data.toList=(Bq (Aj s.data.toList 256) (List.replicate 256 0) ((Aj s.data.toList 256).length-1)).2:=by
  unfold Hm.lens;simp only[];rw[if_neg h1]
 rw[hL];generalize Aj s.data.toList 256=gs at*;clear hL;have hgl:=hfine.len;have hne: ¬((gs.length:Int)=1):=by omega
 go_enter Tryz.func96,Tryz.ntmps96
 go_wp2_with fail;refine hsg.mono ?_;rintro e w1 ⟨v,vs,rfl,hG,hk1⟩;clear hsg;have hlenv:v.oneCell'=true∧ ∃a c,v= .slice a gs.length c:=by
  rcases hG.own.2 with⟨rfl,h0⟩|⟨g,cap,cur,rfl,_⟩
  ·exact⟨rfl,none,0,by rw[h0]⟩
  ·exact⟨rfl,_,_,rfl⟩
 obtain⟨_,av,cv,ev⟩:=hlenv;subst ev;have hs1:w.heap.size+1≤w1.heap.size:=by have:=hk1.size;simpa using this
 have HS:Hid (Ei w ((w1.alloc (.cells #[.slice av gs.length cv] 213)).alloc (.cells Tryz.zeroCells139 139)) w1.heap.size gs (List.replicate 256 0) (.slice av gs.length cv) vs):=by
  have hka:Apd w1 ((w1.alloc (.cells #[.slice av gs.length cv] 213)).alloc (.cells Tryz.zeroCells139 139)):=((Aa.refl _ _).alloc _).alloc _;have hb:(w.alloc (.cells Tryz.zeroCells139 139)).heap.size=w.heap.size+1:=by simp
  rw[hb]at hG;refine⟨⟨hG.len,hka.owns hG.own (fun _ _=>id),fun i h1 h2=>⟨(hG.mem i h1 h2).1.kept hka (fun _ _=>id),(hG.mem i h1 h2).2⟩⟩,Anw w1 _ _,?_,hka.row (hk1.row (All w _) id) id,(((Aa.refl _ w).alloc _).trans hk1 (fun _ _ h=>h)).trans hka (fun _ _ h=>h),fun k hk=>?_,fun m hm k hk=>?_,by omega⟩
  ·unfold Eh;rw[Anx w1 _ _,Ju]
  ·have:=(hG.own.lt k hk).2;omega
  ·obtain⟨gg,cc,ee,_,_,hlt',_⟩:=(hG.mem m (by have:=hG.len;omega) hm).1;rw[ee]at hk;cases hk;show gg≠_∧gg≠_;omega
 clear hG hk1;go_wp2_with fail;have hst:=HS.out;clear HS;have hb1:((gs.length:Int)==1)=false:=by rw[Al5];exact hne
 rw[hb1];clear hb1;generalize(w1.alloc (.cells #[.slice av gs.length cv] 213)).alloc (.cells Tryz.zeroCells139 139)=W0 at*
 go_loopg [20] (gs.length-1) (fun k _ wr=> ∃(j:Nat) (v':Value) (vs':List Value),j+k=gs.length-1∧Ei w wr w1.heap.size (Bq gs (List.replicate 256 0) j).1 (Bq gs (List.replicate 256 0) j).2 v' vs'∧Km (Bq gs (List.replicate 256 0) j).1∧(Bq gs (List.replicate 256 0) j).1.length+j=gs.length∧(∀x∈(Bq gs (List.replicate 256 0) j).2,x≤256*j)∧(Bq gs (List.replicate 256 0) j).2.length=256)
 case atStart=>exact⟨0,_,vs,by omega,hst,hfine,rfl,fun x hx=>by rw[Aod hx];omega,Alj⟩
 case round=>
  clear hst;obtain⟨j,v',vs',hjk,hst,hfi,hln,hle,hL1⟩:=hrel;have HN:Hid (Bq gs (List.replicate 256 0) (j+1)=(Hm.step (Bq gs (List.replicate 256 0) j).1,Hm.bump (Bq gs (List.replicate 256 0) j).2 (Kn (Bq gs (List.replicate 256 0) j).1).2.2)):=rfl;have HZ:Hid (Bq gs (List.replicate 256 0) j=((Bq gs (List.replicate 256 0) j).1,(Bq gs (List.replicate 256 0) j).2)):=rfl;generalize(Bq gs (List.replicate 256 0) j).1=g1 at*;generalize(Bq gs (List.replicate 256 0) j).2=L1 at*;have hlenv: ∃a c,v'= .slice a g1.length c:=by
   rcases hst.grp.own.2 with⟨rfl,h0⟩|⟨g,cap,cur,rfl,_⟩
   ·exact⟨none,0,by rw[h0]⟩
   ·exact⟨_,_,rfl⟩
  obtain⟨a',c',ev⟩:=hlenv;subst ev;have hc0:wr.cell? ⟨w1.heap.size,0,none⟩=some (.slice a' g1.length c'):=Alc _ _ 0 _ _ _ hst.row
  by_cases hlt:1<g1.length
  ·have hdec:decide (1<g1.length)=true:=by simp;omega
   have hdec2:decide ((1:Int)<(g1.length:Int))=true:=by simp;omega
   have hgl1:=hfi.len;have hleft:=D8 g1 (by omega);have ht1:=Qn (w.heap.size+1) w1.heap.size _ g1 vs' wr hst.grp hst.row (fun e=>(hst.own _ e).1 rfl) (fun m hm e=>(hst.mem m hm _ e).1 rfl) hgl1 (by omega);have HST:Hid (Ei w wr w1.heap.size g1 L1 (.slice a' g1.length c') vs'):=hst;have HFI:Hid (Km g1∧(∀x∈L1,x≤256*j)):=⟨hfi,hle⟩;clear hst hfi hle;go_wp2_with fail;refine ht1.mono ?_;rintro e w2 ⟨v2,gw,gl,gv,rfl,hgw,hgl',hgv,hr2,hG2,ho2,hk2⟩;obtain⟨st2,hM2,hb2⟩:=HST.out.take (by omega) hr2 hG2 ho2 hk2;clear ht1 hr2 hG2 ho2 hk2;rw[←hgv]at hM2 hb2;obtain⟨mA,cA,eA,-⟩:=id hM2;subst eA;obtain rfl:gw=(Aq g1).1:=hgw;obtain rfl:gl=(Aq g1).2.1.toNat:=hgl';clear hgv;have HM2:Hid (Fc w2 (.slice (some ⟨mA,0,none⟩) (Aq g1).2.2.length cA) (Aq g1).2.2):=hM2;have hbA:=hb2 mA rfl;clear hM2 hb2 HST hc0;have st2':=st2.grew (((Aa.refl (fun _=>False) w2).alloc (.cells #[.int .i64 ((Aq g1).1:Nat),.int .u8 ((Aq g1).2.1.toNat:Nat),.slice (some ⟨mA,0,none⟩) (Aq g1).2.2.length cA] 216)));have ht2:=Qn (w.heap.size+1) w1.heap.size _ (Hm.left g1) _ _ st2'.grp st2'.row (fun e=>(st2'.own _ e).1 rfl) (fun m hm e=>(st2'.mem m hm _ e).1 rfl) (by omega) (by omega);have hnA:=All w2 (.cells #[.int .i64 ((Aq g1).1:Nat),.int .u8 ((Aq g1).2.1.toNat:Nat),.slice (some ⟨mA,0,none⟩) (Aq g1).2.2.length cA] 216);have hkA:Apd w2 (w2.alloc (.cells #[.int .i64 ((Aq g1).1:Nat),.int .u8 ((Aq g1).2.1.toNat:Nat),.slice (some ⟨mA,0,none⟩) (Aq g1).2.2.length cA] 216)):=(Aa.refl _ _).alloc _;have HS2:Hid (Ei w (w2.alloc (.cells #[.int .i64 ((Aq g1).1:Nat),.int .u8 ((Aq g1).2.1.toNat:Nat),.slice (some ⟨mA,0,none⟩) (Aq g1).2.2.length cA] 216)) w1.heap.size (Hm.left g1) L1 v2 (vs'.eraseIdx (Hm.first g1))∧(∀k,v2.ownBlock=some k→k<w2.heap.size)∧
    (w2.alloc (.cells #[.int .i64 ((Aq g1).1:Nat),.int .u8 ((Aq g1).2.1.toNat:Nat),.slice (some ⟨mA,0,none⟩) (Aq g1).2.2.length cA] 216)).heap[w2.heap.size]?=some (.cells #[.int .i64 ((Aq g1).1:Nat),.int .u8 ((Aq g1).2.1.toNat:Nat),.slice (some ⟨mA,0,none⟩) (Aq g1).2.2.length cA] 216 (0,0))∧
    Fc (w2.alloc (.cells #[.int .i64 ((Aq g1).1:Nat),.int .u8 ((Aq g1).2.1.toNat:Nat),.slice (some ⟨mA,0,none⟩) (Aq g1).2.2.length cA] 216)) (.slice (some ⟨mA,0,none⟩) (Aq g1).2.2.length cA) (Aq g1).2.2∧v2.ownBlock≠some mA∧w1.heap.size<w2.heap.size):=
    ⟨st2',fun k hk=>(st2.grp.own.lt k hk).2,hnA,HM2.out.kept hkA (fun _ _=>id),hbA.2.2,Alw st2.row⟩
   clear st2 st2' hnA hkA HM2;go_wp2_with fail;refine ht2.mono ?_;rintro e w3 ⟨v3,gw,gl,gv,rfl,hgw,hgl',hgv,hr3,hG3,ho3,hk3⟩;obtain⟨sA,hvl2,hnA,hMA,hvA,hpw2⟩:=HS2.out;obtain⟨st3,hM3,hb3⟩:=sA.take (by omega) hr3 hG3 ho3 hk3;rw[←hgv]at hM3 hb3;obtain⟨mB,cB,eB,-⟩:=id hM3;subst eB;obtain rfl:gw=(Aq (Hm.left g1)).1:=hgw;obtain rfl:gl=(Aq (Hm.left g1)).2.1.toNat:=hgl';have hbB:=hb3 mB rfl;have hA3:=hk3.row hnA (by
    rintro(e|e)
    ·omega
    ·have:=hvl2 _ e;omega)
   have hMA3:=hMA.kept hk3 (by
    rintro k hk (e|e)
    ·cases hk;exact hbA.1 e
    ·cases hk;exact hvA e)
   clear ht2 hgv hr3 hG3 ho3 hk3 hb3 sA hvl2 hnA hMA hvA HS2;have hk4:Apd w3 (w3.alloc (.cells #[.int .i64 ((Aq (Hm.left g1)).1:Nat),.int .u8 ((Aq (Hm.left g1)).2.1.toNat:Nat),.slice (some ⟨mB,0,none⟩) (Aq (Hm.left g1)).2.2.length cB] 216)):=(Aa.refl _ _).alloc _;have hbl:=Aer HFI.out.1 hlt;have hj:=Ahm (Aq g1) (Aq (Hm.left g1)) _ _ _ (hMA3.kept hk4 (fun _ _=>id)) (hM3.kept hk4 (fun _ _=>id)) hbl.2.2.1 (by omega) (by omega);have f0:w3.cell? ⟨w2.heap.size,0,none⟩=some (.int .i64 ((Aq g1).1:Nat)):=Alc _ _ 0 _ _ _ hA3;have f1:w3.cell? ⟨w2.heap.size,1,none⟩=some (.int .u8 ((Aq g1).2.1.toNat:Nat)):=Alc _ _ 1 _ _ _ hA3;have f2:w3.cell? ⟨w2.heap.size,2,none⟩=some (.slice (some ⟨mA,0,none⟩) (Aq g1).2.2.length cA):=Alc _ _ 2 _ _ _ hA3;have hw23:w2.heap.size<w3.heap.size:=Alw hA3;have HS3:Hid (Ei w (w3.alloc (.cells #[.int .i64 ((Aq (Hm.left g1)).1:Nat),.int .u8 ((Aq (Hm.left g1)).2.1.toNat:Nat),.slice (some ⟨mB,0,none⟩) (Aq (Hm.left g1)).2.2.length cB] 216)) w1.heap.size (Hm.left (Hm.left g1)) L1 v3 ((vs'.eraseIdx (Hm.first g1)).eraseIdx (Hm.first (Hm.left g1)))):=st3.grew hk4;clear st3 hM3 hA3 hMA3 hk4;have HJ:Hid (Kn g1=Em (Aq g1) (Aq (Hm.left g1))):=rfl;have HSTEP:Hid (Hm.step g1=Hm.left (Hm.left g1)++[Kn g1]∧(Hm.left (Hm.left g1)).length+1=(Hm.left g1).length):=⟨rfl,D8 _ (by omega)⟩;go_wp2_with fail;refine hj.mono ?_;rintro e w4 ⟨v5,rfl,hM5,hb5,hk5⟩;rw[←HJ.out]at hM5⊢;have hCl:(Kn g1).2.2.length≤256:=by rw[HJ.out,Em];simp only[Alg];omega
   generalize Kn g1=C at*;obtain⟨mC,cC,eC,-⟩:=id hM5;subst eC;have hbC:=hb5 mC rfl;have st5:=(HS3.out.grew hk5).grew (((Aa.refl (fun _=>False) w4).alloc (.cells #[.int .i64 (C.1:Nat),.int .u8 (C.2.1.toNat:Nat),.slice (some ⟨mC,0,none⟩) C.2.2.length cC] 216)));have hpb1:w1.heap.size+1<mC:=by
    have h2:=HS3.out.len.lt;omega
   have HS5:Hid (Ei w (w4.alloc (.cells #[.int .i64 (C.1:Nat),.int .u8 (C.2.1.toNat:Nat),.slice (some ⟨mC,0,none⟩) C.2.2.length cC] 216)) w1.heap.size (Hm.left (Hm.left g1)) L1 v3 ((vs'.eraseIdx (Hm.first g1)).eraseIdx (Hm.first (Hm.left g1)))∧
    (w4.alloc (.cells #[.int .i64 (C.1:Nat),.int .u8 (C.2.1.toNat:Nat),.slice (some ⟨mC,0,none⟩) C.2.2.length cC] 216)).heap[w4.heap.size]?=some (.cells #[.int .i64 (C.1:Nat),.int .u8 (C.2.1.toNat:Nat),.slice (some ⟨mC,0,none⟩) C.2.2.length cC] 216 (0,0))∧
    Fc (w4.alloc (.cells #[.int .i64 (C.1:Nat),.int .u8 (C.2.1.toNat:Nat),.slice (some ⟨mC,0,none⟩) C.2.2.length cC] 216)) (.slice (some ⟨mC,0,none⟩) C.2.2.length cC) C.2.2∧w1.heap.size+1<w4.heap.size∧(∀k,v3.ownBlock=some k→k<mC)):=
    ⟨st5,All _ _,hM5.kept ((Aa.refl (fun _=>False) w4).alloc _) (fun _ _=>id),(HS3.out.grew hk5).len.lt,fun k hk=>Amp (HS3.out.grp.own.lt k hk).2 hbC⟩
   clear hj hM5 hb5 hk5 st5 HS3 f0 f1 f2;go_wp2_with fail;obtain⟨st5,hC5,hM5,hp4,hv3⟩:=HS5.out;clear HS5;generalize w4.alloc (.cells #[.int .i64 (C.1:Nat),.int .u8 (C.2.1.toNat:Nat),.slice (some ⟨mC,0,none⟩) C.2.2.length cC] 216)=W5 at*;generalize(vs'.eraseIdx (Hm.first g1)).eraseIdx (Hm.first (Hm.left g1))=VS at*;have HV3:Hid (∀k,v3.ownBlock=some k→k<mC):=hv3;clear hv3
   go_loopw[31] (fun i wr2=> ∃b:Nat,b≤C.2.2.length∧i= .int .i64 b∧Ei w wr2 w1.heap.size (Hm.left (Hm.left g1)) (Hm.bump L1 (C.2.2.take b)) v3 VS∧wr2.heap[w4.heap.size]?=some (.cells #[.int .i64 (C.1:Nat),.int .u8 (C.2.1.toNat:Nat),.slice (some ⟨mC,0,none⟩) C.2.2.length cC] 216 (0,0))∧Fc wr2 (.slice (some ⟨mC,0,none⟩) C.2.2.length cC) C.2.2) (fun i _=>C.2.2.length-(intOf i).toNat)
   case atStart=>exact⟨0,Alr _,rfl,by rw[Apb];exact st5,hC5,hM5⟩
   case round=>
    clear st5 hC5 hM5;obtain⟨b,hb,rfl,st6,hC6,hM6⟩:=hrel
    by_cases hlt2:b<C.2.2.length
    ·have hdb:decide ((b:Int)<(C.2.2.length:Int))=true:=by simp;omega
     have hbl6:=Kp (C.2.2.take b) L1;have hxl:C.2.2[b].toNat<256:=UInt8.toNat_lt _;have hcell:wr.cell? ⟨mC,b,none⟩=some (.int .u8 (C.2.2[b].toNat:Nat)):=by
      obtain⟨g',c'',e',_,_,_,hcc⟩:=hM6;cases e';exact hcc b hlt2
     have hlc:=st6.len.cell (i:=C.2.2[b].toNat) (by omega);have hlf:=st6.len.free C.2.2[b].toNat;have hbd:(Hm.bump L1 (C.2.2.take b))[C.2.2[b].toNat]'(by omega)≤256*j+256:=by
      have h3:=Xn (C.2.2.take b) L1 (256*j) HFI.out.2 _ (Alo (l:=Hm.bump L1 (C.2.2.take b)) (n:=C.2.2[b].toNat) (by omega));rw[Aln]at h3;omega
     have hsn:Hm.bump L1 (C.2.2.take (b+1))=(Hm.bump L1 (C.2.2.take b)).set C.2.2[b].toNat ((Hm.bump L1 (C.2.2.take b))[C.2.2[b].toNat]'(by omega)+1):=by
      rw[Ali hlt2,Yu,Ak6,Ak7 (by omega)];rfl
     have st7:=st6.bump C.2.2[b].toNat ((Hm.bump L1 (C.2.2.take b))[C.2.2[b].toNat]'(by omega)+1);rw[←hsn]at st7;have hk7:Aa (fun k=>k=w1.heap.size+1) wr (wr.setCell ⟨w1.heap.size+1,C.2.2[b].toNat,none⟩ (.int .i64 (((Hm.bump L1 (C.2.2.take b))[C.2.2[b].toNat]'(by omega)+1:Nat):Nat))):=(Aa.refl (fun k=>k=w1.heap.size+1) wr).setCell (p:=⟨w1.heap.size+1,C.2.2[b].toNat,none⟩) (.inr rfl) _;have H7:Hid (Ei w (wr.setCell ⟨w1.heap.size+1,C.2.2[b].toNat,none⟩ (.int .i64 (((Hm.bump L1 (C.2.2.take b))[C.2.2[b].toNat]'(by omega)+1:Nat):Nat))) w1.heap.size (Hm.left (Hm.left g1)) (Hm.bump L1 (C.2.2.take (b+1))) v3 VS∧
      (wr.setCell ⟨w1.heap.size+1,C.2.2[b].toNat,none⟩ (.int .i64 (((Hm.bump L1 (C.2.2.take b))[C.2.2[b].toNat]'(by omega)+1:Nat):Nat))).heap[w4.heap.size]?=some (.cells #[.int .i64 (C.1:Nat),.int .u8 (C.2.1.toNat:Nat),.slice (some ⟨mC,0,none⟩) C.2.2.length cC] 216 (0,0))∧
      Fc (wr.setCell ⟨w1.heap.size+1,C.2.2[b].toNat,none⟩ (.int .i64 (((Hm.bump L1 (C.2.2.take b))[C.2.2[b].toNat]'(by omega)+1:Nat):Nat))) (.slice (some ⟨mC,0,none⟩) C.2.2.length cC) C.2.2):=⟨st7,hk7.row hC6 (by omega),hM6.kept hk7 (fun k hk e=>by cases hk;exact absurd (show mC=w1.heap.size+1 from e) (by omega))⟩
     clear hsn st7 hk7 st6 hC6 hM6;generalize(Hm.bump L1 (C.2.2.take b))[C.2.2[b].toNat]'(by omega)=y at*;generalize C.2.2[b].toNat=x at*;go_wp2;go_roundw
     case rel=>exact⟨b+1,by omega,by go_num,H7.out.1,H7.out.2.1,H7.out.2.2⟩
     case measure=>simp[intOf];omega
    ·have hdb:decide ((C.2.2.length:Int)<(C.2.2.length:Int))=false:=by simp
     have hbe:b=C.2.2.length:=by omega
     subst hbe;rw[Ama]at st6;obtain⟨a3,c3,ev3⟩: ∃a3 c3,v3= .slice a3 (Hm.left (Hm.left g1)).length c3:=by
      rcases st6.grp.own.2 with⟨rfl,h0⟩|⟨g,cap,cur,rfl,_⟩
      ·exact⟨none,0,by rw[h0]⟩
      ·exact⟨_,_,rfl⟩
     subst ev3;have c0:wr.cell? ⟨w1.heap.size,0,none⟩=some (.slice a3 (Hm.left (Hm.left g1)).length c3):=Alc _ _ 0 _ _ _ st6.row;have d0:wr.cell? ⟨w4.heap.size,0,none⟩=some (.int .i64 (C.1:Nat)):=Alc _ _ 0 _ _ _ hC6;have d1:wr.cell? ⟨w4.heap.size,1,none⟩=some (.int .u8 (C.2.1.toNat:Nat)):=Alc _ _ 1 _ _ _ hC6;have d2:wr.cell? ⟨w4.heap.size,2,none⟩=some (.slice (some ⟨mC,0,none⟩) C.2.2.length cC):=Alc _ _ 2 _ _ _ hC6;have HS6:Hid (Ei w wr w1.heap.size (Hm.left (Hm.left g1)) (Hm.bump L1 C.2.2) (.slice a3 (Hm.left (Hm.left g1)).length c3) VS∧Fc wr (.slice (some ⟨mC,0,none⟩) C.2.2.length cC) C.2.2):=⟨st6,hM6⟩;have hsw:=st6.len.lt;have hkk:=st6.kept.size;clear st6 hM6 hC6 hb;obtain⟨i0,hi,hz0,hz1,hz2⟩:=Amz M9;have hl2:(Hm.left (Hm.left g1)).length≤256:=by have:=HSTEP.out.2;omega
     generalize hn3:(Hm.left (Hm.left g1)).length=n3 at*;have HN3:Hid ((Hm.left (Hm.left g1)).length=n3):=hn3;clear hn3
     go_wp2_with(at_builtin;refine A7 _ rfl (.tmp 41) (.tmp 43) 213 rfl (w.heap.size+1) 216 i0 _ 3 40 Tryz.underlying213 hi hz0 hz1 hz2 rfl (by decide) _ n3 (Ct (Hm.left (Hm.left g1)) VS) rfl ?c0 ⟨wr.heap.size,0,none⟩ 1 1 [.int .i64 (C.1:Nat),.int .u8 (C.2.1.toNat:Nat),.slice (some ⟨mC,0,none⟩) C.2.2.length cC] rfl rfl ?c1 ?c2 ?c3 ?c4 ?c5 ?_)
     case c0=>
      have:=HS6.out.1.grp.own;rw[HN3.out]at this;exact((Aa.refl (fun _=>False) wr).alloc _).owns this (fun _ _=>id)
     case c1=>
      intro j u hj;rw[Addr.add_lit,Al7,Alc _ _ j _ _ _ (All wr _)];simpa using hj
     case c2=>first|exact⟨rfl,rfl,rfl⟩|(intro u hu;simp at hu;rcases hu with rfl|rfl|rfl<;>rfl)
     case c3=>unfold maxLen;omega
     case c4=>omega
     case c5=>simp;omega
     intro v8 w8 ho8 hg8 hm8;obtain⟨a8,c8,ev8⟩: ∃a8 c8,v8= .slice a8 (n3+1) c8:=by
      rcases ho8.2 with⟨rfl,h0⟩|⟨g,cap,cur,rfl,_⟩
      ·omega
      ·exact⟨_,_,rfl⟩
     subst ev8;have st9:=HS6.out.1.app ((Aa.refl (fun _=>False) wr).alloc (.cells #[.int .i64 (C.1:Nat),.int .u8 (C.2.1.toNat:Nat),.slice (some ⟨mC,0,none⟩) C.2.2.length cC] 216)) (g:=C) (mv:= .slice (some ⟨mC,0,none⟩) C.2.2.length cC) (HS6.out.2.kept ((Aa.refl (fun _=>False) wr).alloc _) (fun _ _=>id))
      (fun k hk=>by
       cases hk;refine⟨fun e=>Nat.lt_irrefl _ (HV3.out _ e),?_,?_⟩
       ·show mC≠_;omega
       ·show mC≠_;omega) (by rw[HN3.out];exact ho8) hg8 hm8
     have k8:Aa (fun k=>(Value.slice a3 n3 c3).ownBlock=some k) _ w8:=(Aa.refl _ _).grown hg8 (fun j hj=> .inr hj);have row8:=k8.row (((Aa.refl (fun _=>False) wr).alloc _).row HS6.out.1.row id) (fun e=>(HS6.out.1.own _ e).1 rfl);have r8:w8.cell? ⟨w1.heap.size,0,none⟩=some (.slice a3 n3 c3):=Alc _ _ 0 _ _ _ row8;have q8:w8.frozen? ⟨w1.heap.size,0,none⟩=false:=Alk _ _ 0 _ _ row8;have H9:Hid (Ei w (w8.setCell ⟨w1.heap.size,0,none⟩ (.slice a8 (n3+1) c8)) w1.heap.size (Hm.left (Hm.left g1)++[C]) (Hm.bump L1 C.2.2) (.slice a8 (n3+1) c8) (VS++[.slice (some ⟨mC,0,none⟩) C.2.2.length cC])):=st9;clear st9 ho8 hg8 hm8 c0 d0 d1 d2 k8 row8;have HJ2:Hid (j+gk=gs.length-1∧g1.length+j=gs.length∧1<g1.length∧L1.length=256):=⟨hjk,hln,hlt,hL1⟩;go_wp2
     go_roundg (gk-1)
     case rel=>
      obtain⟨p1,p2,p3,p4⟩:=HJ2.out;have hfs:=HFI.out.1.step p3;have hsl:=T0 g1 p3;refine⟨j+1,.slice a8 (n3+1) c8,VS++[.slice (some ⟨mC,0,none⟩) C.2.2.length cC],by omega,?_,?_,?_,?_,?_⟩
      ·rw[HN.out,HSTEP.out.1];exact H9.out
      ·rw[HN.out];exact hfs
      ·rw[HN.out];show(Hm.step g1).length+(j+1)=_;omega
      ·rw[HN.out];intro x hx;have:=Xn C.2.2 L1 (256*j) HFI.out.2 x hx;omega
      ·rw[HN.out];show(Hm.bump L1 C.2.2).length=256;rw[Kp];exact p4
     case measure=>have:=HJ2.out;omega
  ·have hdec:decide (1<g1.length)=false:=by simp;omega
   have hdec2:decide ((1:Int)<(g1.length:Int))=false:=by simp;omega
   have hje:gs.length-1=j:=by omega
   have HL:Hid ((Bq gs (List.replicate 256 0) (gs.length-1)).2=L1):=by show _=_;rw[hje,HZ.out]
   have hasz:(Ac L1).toArray.size=256:=by rw[A2];exact hL1
   have hzs:Tryz.zeroCells139.size=256:=by rw[Ju,A2,Alj]
   have hall:=Eb L1;have hrow:=hst.len;unfold Eh at hrow;have HX:Hid (wr.heap[w1.heap.size+1]?=some (.cells (Ac L1).toArray 139 (0,0))∧wr.heap[w.heap.size]?=some (.cells Tryz.zeroCells139 139 (0,0))∧(Ac L1).toArray.all (·.oneCell')=true∧Apd w wr∧Tryz.zeroCells139.size=(Ac L1).toArray.size):=⟨hrow,hst.res,hall,hst.kept,by rw[hzs,hasz]⟩;clear hst hfi hle HN HZ hrow hall hzs hL1;generalize hA:(Ac L1).toArray=arr at*;have HA:Hid ((Ac L1).toArray=arr):=hA;clear hA
   go_wp2_with(first
    |(refine Amd rfl 139 _ rfl (w1.heap.size+1) rfl 139 arr (0,0) _ HX.out.1 Tryz.underlying139 rfl (by rw[hasz];exact B9) ?_)
    |(refine wpList_store_row _ rfl 139 _ _ rfl w.heap.size 139 _ arr rfl rfl HX.out.2.1 (by rw[hasz];exact B9) HX.out.2.2.2.2 HX.out.2.2.1 ?_;intro w3 hw3 hk3))
   refine Amo (v:= .agg arr) (Am3 Tryz.results96 _ w3 w.heap.size 139 arr (0,0) _ rfl hw3 Tryz.underlying139 rfl (by rw[hasz];exact B9)) rfl ⟨by rw[HL.out,HA.out],?_⟩;exact HX.out.2.2.2.1.trans hk3 (fun j h1 h2=>by omega)
end Go.Proofs.YtegnkfdbmmndaaaGreat
