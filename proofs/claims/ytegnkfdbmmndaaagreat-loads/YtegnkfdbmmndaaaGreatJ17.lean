import Derived.Test.YtegnkfdbmmndaaaGreatJ00
import Derived.Test.YtegnkfdbmmndaaaGreatJ15
import Derived.Test.YtegnkfdbmmndaaaGreatJ16
import Derived.Test.YtegnkfdbmmndaaaGreatJ02
import Derived.Test.YtegnkfdbmmndaaaGreatJ13
import Derived.Test.YtegnkfdbmmndaaaGreatJ07
import Derived.Test.YtegnkfdbmmndaaaGreatShelf

namespace Go.Proofs.YtegnkfdbmmndaaaGreat
open Hm
open Go.RowKit
theorem Afy(vs:List Value): ∀(k:Nat) (A B C:List Value),B.length=vs.length→((vs.zipIdx k).foldl (fun(cs:Array Value) (x:Value×Nat)=>cs.setIfInBounds (A.length-k+x.2) x.1) (A++(B++C)).toArray)=(A++(vs++C)).toArray∨A.length<k:=by
 induction vs with
 |nil=>
  intro k A B C h;left;have:B=[]:=Amj h;subst this;rfl
 |cons v r ih=>
  intro k A B C h
  by_cases hk:A.length<k
  ·exact .inr hk
  cases B with
  |nil=>simp at h
  |cons b B=>
   left;rw[List.zipIdx_cons,Ao8];have e0:A.length-k+k=A.length:=by omega
   have e1:(A++(b::B++C)).toArray.setIfInBounds (A.length-k+k) v=((A++[v])++(B++C)).toArray:=by
    rw[e0];simp
   show List.foldl _ ((A++(b::B++C)).toArray.setIfInBounds (A.length-k+k) v) _=_;rw[e1];have h2:=ih (k+1) (A++[v]) B C (by simpa using h);rw[show(A++[v]).length-(k+1)=A.length-k from by simp]at h2;rcases h2 with h2|h2
   ·rw[h2];simp
   ·simp at h2;omega
theorem La(place:Nat→Option (Nat×Nat))(i off size:Nat)(v:Value)(rest:List (Nat×Value))(A B C vs:List Value)(hp:place i=some (off,size))(hv:v.cells=vs.toArray)(hl:vs.length=size)(hA:A.length=off)(hB:B.length=size):
  Instr.fill place (A++(B++C)).toArray ((i,v)::rest)=Instr.fill place (A++(vs++C)).toArray rest:=by
 rw[Instr.fill,hp];simp only;have hs:v.cells.size=size:=by rw[hv];simpa using hl
 rw[if_neg (by simp[hs,hA];omega)];congr 1;rw[hv];have h:=Afy vs 0 A B C (by omega);rcases h with h|h
 ·rw[Aoz,hA]at h;rw[←h,←Array.foldl_toList];simp
 ·omega
def L8:List Value:=[.string ⟨#[]⟩,.int .i64 0,.slice none 0 0]++(Ny 256++(.slice none 0 0::(List.replicate 256 (.int .i64 0)++[.int .i64 0])))
theorem Ahp:((Tryz.prog.info? 96).bind (·.zero))=some (.agg L8.toArray):=by kernel_rfl
theorem Adj:(Tryz.prog.underlying 96).bind (fun d=>match d with| .struct fields=>fields.toList.mapM (fun f=>(Tryz.prog.info? f.type).map fun i=>(f.offset,i.size))|_=>none)=some [(0,3),(3,512),(515,1),(516,256),(772,1)]:=by kernel_rfl
theorem V9(s:ByteArray)(len g total:Nat)(T:List (Nat×Nat))(a:Option Addr)(n c:Nat)(hT:T.length=256):
  Tryz.prog.built 96 [(0,.agg #[.string s,.int .i64 (len:Nat),.slice (some ⟨g,0,none⟩) (s.size+1) (s.size+1)]),(1,.agg (Cu T).toArray),(2,.slice a n c),(4,.int .i64 (total:Nat))]=some (Ba s len g T (.slice a n c) (List.replicate 256 0) total).toArray:=by
 unfold Program.built;have hz:=Ahp;have hp:=Adj;cases h1:Tryz.prog.info? 96 with
 |none=>rw[h1]at hz;cases hz
 |some it=>
  cases h2:Tryz.prog.underlying 96 with
  |none=>rw[h2]at hp;cases hp
  |some d=>
   rw[h1]at hz;rw[h2]at hp;have hz':it.zero=some (.agg L8.toArray):=hz;cases d<;>try(cases hp;done)
   rename_i fields;have hp':fields.toList.mapM (fun f=>(Tryz.prog.info? f.type).map fun i=>(f.offset,i.size))=some [(0,3),(3,512),(515,1),(516,256),(772,1)]:=hp;simp only[hz',hp'];have e0:(Value.agg L8.toArray).cells=L8.toArray:=rfl;rw[e0];have hp0:(Ny 256).length=512:=by rw[←T6,C9,Alj]
   have hr0:(List.replicate 256 (Value.int .i64 0)).length=256:=Alj;have htl:(Cu T).length=512:=by rw[C9,hT]
   have eL:[Value.string ⟨#[]⟩,.int .i64 0,.slice none 0 0]++(Ny 256++(.slice none 0 0::(List.replicate 256 (.int .i64 0)++[.int .i64 0])))=L8:=rfl;have eR:Ac (List.replicate 256 0)=List.replicate 256 (Value.int .i64 0):=by unfold Ac;rw[List.map_replicate];rfl
   unfold Ba;rw[eR];generalize L8=ZT at*;generalize List.replicate 256 (Value.int .i64 0)=R at*;generalize Ny 256=PZ at*;generalize Cu T=TT at*;have s1:=La ([(0,3),(3,512),(515,1),(516,256),(772,1)].toArray[·]?) 0 0 3 (.agg #[.string s,.int .i64 (len:Nat),.slice (some ⟨g,0,none⟩) (s.size+1) (s.size+1)]) [(1,.agg TT.toArray),(2,.slice a n c),(4,.int .i64 (total:Nat))] [] [.string ⟨#[]⟩,.int .i64 0,.slice none 0 0] (PZ++(.slice none 0 0::(R++[.int .i64 0]))) [.string s,.int .i64 (len:Nat),.slice (some ⟨g,0,none⟩) (s.size+1) (s.size+1)] rfl rfl rfl rfl rfl;have s2:=La ([(0,3),(3,512),(515,1),(516,256),(772,1)].toArray[·]?) 1 3 512 (.agg TT.toArray) [(2,.slice a n c),(4,.int .i64 (total:Nat))] [.string s,.int .i64 (len:Nat),.slice (some ⟨g,0,none⟩) (s.size+1) (s.size+1)] (PZ) (.slice none 0 0::(R++[.int .i64 0])) TT rfl rfl htl rfl hp0;have s3:=La ([(0,3),(3,512),(515,1),(516,256),(772,1)].toArray[·]?) 2 515 1 (.slice a n c) [(4,.int .i64 (total:Nat))] ([.string s,.int .i64 (len:Nat),.slice (some ⟨g,0,none⟩) (s.size+1) (s.size+1)]++TT) [.slice none 0 0] (R++[.int .i64 0]) [.slice a n c] rfl rfl rfl (by rw[Alg,htl];rfl) rfl;have s4:=La ([(0,3),(3,512),(515,1),(516,256),(772,1)].toArray[·]?) 4 772 1 (.int .i64 (total:Nat)) [] ([.string s,.int .i64 (len:Nat),.slice (some ⟨g,0,none⟩) (s.size+1) (s.size+1)]++TT++[.slice a n c]++R) [.int .i64 0] [] [.int .i64 (total:Nat)] rfl rfl rfl (by simp only[Alg,htl,hr0];rfl) rfl;rw[Aoo,Aoo,eL]at s1;rw[s1,s2];have e3:[Value.string s,.int .i64 (len:Nat),.slice (some ⟨g,0,none⟩) (s.size+1) (s.size+1)]++(TT++(.slice none 0 0::(R++[.int .i64 0])))=([Value.string s,.int .i64 (len:Nat),.slice (some ⟨g,0,none⟩) (s.size+1) (s.size+1)]++TT)++([.slice none 0 0]++(R++[.int .i64 0])):=by simp only[Aok,Aoo]
   rw[e3,s3];have e4:([Value.string s,.int .i64 (len:Nat),.slice (some ⟨g,0,none⟩) (s.size+1) (s.size+1)]++TT)++([.slice a n c]++(R++[.int .i64 0]))=([Value.string s,.int .i64 (len:Nat),.slice (some ⟨g,0,none⟩) (s.size+1) (s.size+1)]++TT++[.slice a n c]++R)++([.int .i64 0]++[]):=by simp only[Alx,Am4]
   rw[e4,s4];rw[Instr.fill];simp only[Alx,Am4,Aok,Aoo]
theorem Ev{P:Program}{ρ:Operand→Value}{o:Oper}(w:World)(ty:TypeId)(x:Operand)(ho:o.op= .load ty x)(g:Nat)(hx:ρ x= .pointer (some ⟨g,0,none⟩))(t:TypeId)(cs:Array Value)(fr:Nat×Nat)(d:TypeDesc)(hg:w.heap[g]?=some (.cells cs t fr))
  (hu:P.underlying ty=some d) (hd:(match d with| .struct _| .array _ _=>true|_=>false)=true) (hi:(P.info? ty).map (·.size)=some cs.size):(execOp ρ o).run P w= .ok (.value (.agg cs)) w:=by
 unfold execOp;simp only[ho,hx,Instr.loadAt,Instr.sureAddr,Sem.run_bind,Sem.run_pure,Result.andThen_ok,run_loadVar_row w g t ty cs fr d hg hu hd hi]
theorem N1{P:Program}{ρ:Operand→Value}{o:Oper}(w:World)(t:TypeId)(parts:Array (Nat×Operand))(ho:o.op= .build t parts)(cells:Array Value)(h:P.built t (parts.map fun(i,x)=>(i,ρ x)).toList=some cells):(execOp ρ o).run P w= .ok (.value (.agg cells)) w:=by
 unfold execOp;simp only[ho,Sem.run_bind,run_build w t _ cells h,Result.andThen_ok,Sem.run_pure]
theorem Hr{P:Program}{ρ:Operand→Value}{o:Oper}(w:World)(t:TypeId)(i0 i1 i2 i3:Nat)(x0 x1 x2 x3:Operand)(ho:o.op= .build t #[(i0,x0),(i1,x1),(i2,x2),(i3,x3)])(v0 v1 v2 v3:Value)(h0:ρ x0=v0)(h1:ρ x1=v1)(h2:ρ x2=v2)(h3:ρ x3=v3)(cells:Array Value)(h:P.built t [(i0,v0),(i1,v1),(i2,v2),(i3,v3)]=some cells):(execOp ρ o).run P w= .ok (.value (.agg cells)) w:=by
 refine N1 w t _ ho cells ?_;simp only[List.map_toArray,Amu,Ao1,h0,h1,h2,h3];exact h
theorem B5{P:Program}(w:World){ops:Array Oper}{op:Oper}{a:Act}{K:Act→World→Prop}{Q:Exit→Act→World→Prop}{E:Prop}(hgd:op.guard=none)(ty:TypeId)(x y:Operand)(ho:op.op= .store ty x y)
  (g:Nat) (t:TypeId) (old cells:Array Value) (hx:a.eval x= .pointer (some ⟨g,0,none⟩)) (hy:a.eval y= .agg cells) (hg:w.heap[g]?=some (.cells old t (0,0)))
  (hi:(P.info? ty).map (·.size)=some cells.size) (hs:old.size=cells.size) (h1:cells.all (·.oneCell')=true)
  (h: ∀w',w'.heap[g]?=some (.cells cells t (0,0))→Aa (fun j=>j=g) w w'→K (a.put op.dst undef) w'):if Region.wanted op (yielded ops a.tmps)=true then Oper.wp P op a w K Q else E:=by
 have hw:Region.wanted op (yielded ops a.tmps)=true:=by simp[Region.wanted,hgd]
 rw[if_pos hw];unfold Oper.wp execOp;simp only[ho,hx,hy,Instr.storeAt,Instr.sureAddr,Sem.run_bind,Sem.run_pure,Result.andThen_ok,run_storeVar_row w g t ty old cells hg hi hs h1];exact h _ (setRow_heap w g old cells t _ hg) ((Aa.refl (fun j=>j=g) w).setRow (g:=g) (.inr rfl) _)
theorem B6:(Tryz.prog.info? 96).map (·.size)=some 773:=by kernel_rfl
theorem D9(s:ByteArray)(len g total:Nat)(T:List (Nat×Nat))(v:Value)(ws:List Nat)(hv:v.oneCell'=true):(Ba s len g T v ws total).toArray.all (·.oneCell')=true:=by
 have h1:=P5 T;have h2:=Eb ws;rw[An2]at*;intro x hx;have hx':x∈Ba s len g T v ws total:=by simpa using hx
 unfold Ba at hx';simp only[Ao7,List.mem_cons,List.not_mem_nil,or_false]at hx';rcases hx' with(rfl|rfl|rfl)|h|rfl|h|rfl
 ·rfl
 ·rfl
 ·rfl
 ·exact h1 x (by simpa using h)
 ·exact hv
 ·exact h2 x (by simpa using h)
 ·rfl
theorem Wa:Tryz.prog.built 96 []=some Tryz.zeroCells96:=by kernel_rfl
theorem Hf:Tryz.zeroCells96.size=773:=by kernel_rfl
theorem R9:Tryz.zeroCells96.all (·.oneCell')=true:=by kernel_rfl
theorem Ahq{w:World}{base g n:Nat}{e:TypeId}{xs:List Value}(h:w.ownsRow base e 1 (.slice (some ⟨g,0,none⟩) n n) n xs):w.heap[g]?=some (.cells xs.toArray e (0,0)):=by
 rcases h.2 with⟨h1,_⟩|⟨g2,cap,cur,h1,_,hg,_,_,hs,ht⟩
 ·cases h1
 ·cases h1;rw[hg];congr 2;apply Am6;have e:cur.toList.take (n*1)=cur.toList:=Al8 (by simp;omega);rw[←e,ht]
theorem Hs(l:List Value)(i j:Nat)(x:Value)(h:i<l.length):(l.set i x).getD j undef=if i=j then x else l.getD j undef:=by
 rw[Ak6,List.getElem?_set]
 by_cases e:i=j
 ·rw[if_pos e,if_pos e,if_pos h];rfl
 ·rw[if_neg e,if_neg e,←Ak6]
structure N2(w:World)(gc:Nat)(vals:List Value)(cs:List (List UInt8)):Prop where
 blk:w.heap[gc]?=some (.cells vals.toArray 79 (0,0))
 len:vals.length=cs.length
 own: ∀n,n<cs.length→w.ownsRow 0 5 1 (vals.getD n undef) (cs.getD n []).length (Ag (cs.getD n []))
 sep: ∀n m k,0<n→n<cs.length→m<cs.length→(vals.getD n undef).ownBlock=some k→(vals.getD m undef).ownBlock=some k→n=m
 ne: ∀n k,n<cs.length→(vals.getD n undef).ownBlock=some k→k≠gc
theorem N2.kept{S:Nat→Prop}{w w':World}{gc:Nat}{vals:List Value}{cs:List (List UInt8)}(h:N2 w gc vals cs)(hk:Aa S w w')(h1: ¬S gc)(h2: ∀n k,n<cs.length→(vals.getD n undef).ownBlock=some k→ ¬S k):N2 w' gc vals cs:=
 ⟨hk.row h.blk h1,h.len,fun n hn=>hk.owns (h.own n hn) (h2 n · hn),h.sep,h.ne⟩
theorem N2.app{w w1:World}{gc:Nat}{vals:List Value}{cs:List (List UInt8)}(h:N2 w gc vals cs){n:Nat}(h0:0<n)(hn:n<cs.length){v':Value}{l:List UInt8}(hk:Aa (fun j=>(vals.getD n undef).ownBlock=some j) w w1)(ho:w1.ownsRow 0 5 1 v' l.length (Ag l))(hmv:Cc w (vals.getD n undef) v'):
  N2 (w1.setCell ⟨gc,n,none⟩ v') gc (vals.set n v') (cs.set n l):=by
 have hgc:gc<w.heap.size:=Alw h.blk;have hvl:n<vals.length:=by rw[h.len];exact hn
 have hb1:=hk.row h.blk (fun e=>h.ne n gc hn e rfl);have hnb: ∀k,v'.ownBlock=some k→k≠gc:=fun k e=>by
  rcases hmv k e with c|c
  ·exact h.ne n k hn c
  ·omega
 refine⟨?_,by rw[Amn,Amn];exact h.len,fun m hm=>?_,fun a b k ha h1 h2 e1 e2=>?_,fun m k hm e=>?_⟩
 ·have:=Alf w1 gc n _ _ v' hb1;rw[this];simp
 ·rw[Amn]at hm;rw[Hs _ _ _ _ hvl,M7 _ _ _ _ hn]
  by_cases c:n=m
  ·rw[if_pos c,if_pos c];exact ownsRow_setCell_other ho (fun e=>hnb gc e rfl) _
  ·rw[if_neg c,if_neg c];refine ownsRow_setCell_other (hk.owns (h.own m hm) (fun k e e2=>c (h.sep n m k h0 hn hm e2 e))) (fun e=>h.ne m gc hm e rfl) _
 ·rw[Amn]at h1 h2;rw[Hs _ _ _ _ hvl]at e1 e2
  by_cases c1:n=a
  ·by_cases c2:n=b
   ·omega
   ·rw[if_pos c1]at e1;rw[if_neg c2]at e2;rcases hmv k e1 with c|c
    ·have:=h.sep n b k h0 hn h2 c e2;omega
    ·have:=(h.own b h2).lt k e2;omega
  ·by_cases c2:n=b
   ·rw[if_neg c1]at e1;rw[if_pos c2]at e2;rcases hmv k e2 with c|c
    ·have:=h.sep a n k ha h1 hn e1 c;omega
    ·have:=(h.own a h1).lt k e1;omega
   ·rw[if_neg c1]at e1;rw[if_neg c2]at e2;exact h.sep a b k ha h1 h2 e1 e2
 ·rw[Amn]at hm;rw[Hs _ _ _ _ hvl]at e
  by_cases c:n=m
  ·rw[if_pos c]at e;exact hnb k e
  ·rw[if_neg c]at e;exact h.ne m k hm e
structure TSt(W0 wr:World)(gc b8:Nat)(vals:List Value)(cs:List (List UInt8))(v8:Value)(bits:List Bool):Prop where
 cols:N2 wr gc vals cs
 bat:Dq wr 221 b8 v8 bits
 kept:Aa (fun j=>j=b8∨j=gc) W0 wr
 new: ∀n k,0<n→n<cs.length→(vals.getD n undef).ownBlock=some k→W0.heap.size≤k
 sepv: ∀n k,n<cs.length→(vals.getD n undef).ownBlock=some k→v8.ownBlock≠some k
 row: ∀k,v8.ownBlock=some k→W0.heap.size≤k
 zero: ∀k,(vals.getD 0 undef).ownBlock=some k→k<W0.heap.size∧k≠b8
 gB:gc<W0.heap.size
 bB:b8<W0.heap.size
 gb:gc≠b8
def Kq(hb gc b8:Nat)(vals:List Value)(v8:Value):Prop:=(∀n k,n<vals.length→(vals.getD n undef).ownBlock=some k→k≠hb)∧v8.ownBlock≠some hb∧hb≠gc∧hb≠b8
section
variable {W0 wr w2:World} {gc b8:Nat} {vals:List Value} {cs:List (List UInt8)} {v8 v':Value} {bits bits':List Bool} {hb:Nat}
theorem TSt.grew(h:TSt W0 wr gc b8 vals cs v8 bits)(hk:Apd wr w2):TSt W0 w2 gc b8 vals cs v8 bits:=
 ⟨h.cols.kept hk id (fun _ _ _ _=>id),h.bat.kept hk id (fun _ _=>id),h.kept.trans hk (fun _ _ h=>h.elim),h.new,h.sepv,h.row,h.zero,h.gB,h.bB,h.gb⟩
theorem TSt.add(h:TSt W0 wr gc b8 vals cs v8 bits)(hb:Dq w2 221 b8 v' bits')(hk:Aa (Bk b8 v8) wr w2)(hm:Cc wr v8 v'):TSt W0 w2 gc b8 vals cs v' bits':=by
 have hsz:=h.kept.size;refine⟨h.cols.kept hk (fun e=>?_) (fun n k hn e e2=>?_),hb,h.kept.trans hk (fun j hj e=>?_),h.new,fun n k hn e e2=>?_,fun k e=>?_,h.zero,h.gB,h.bB,h.gb⟩
 ·rcases e with e|e
  ·exact h.gb e
  ·have:=h.row gc e;have:=h.gB;omega
 ·rcases e2 with e2|e2
  ·subst e2
   by_cases c:n=0
   ·subst c;exact(h.zero k e).2 rfl
   ·have:=h.new n k (by omega) hn e;have:=h.bB;omega
  ·exact h.sepv n k hn e e2
 ·rcases e with e|e
  ·exact .inl e
  ·have:=h.row j e;omega
 ·rcases hm k e2 with c|c
  ·exact h.sepv n k hn e c
  ·have:=(h.cols.own n hn).lt k e;omega
 ·rcases hm k e with c|c
  ·exact h.row k c
  ·omega
theorem TSt.app(h:TSt W0 wr gc b8 vals cs v8 bits){n:Nat}(h0:0<n)(hn:n<cs.length){l:List UInt8}(hk:Aa (fun j=>(vals.getD n undef).ownBlock=some j) wr w2)(ho:w2.ownsRow 0 5 1 v' l.length (Ag l))(hmv:Cc wr (vals.getD n undef) v'):
  TSt W0 (w2.setCell ⟨gc,n,none⟩ v') gc b8 (vals.set n v') (cs.set n l) v8 bits:=by
 have hsz:=h.kept.size;have hvl:n<vals.length:=by rw[h.cols.len];exact hn
 have hk2:Aa (fun j=>(vals.getD n undef).ownBlock=some j∨j=gc) wr (w2.setCell ⟨gc,n,none⟩ v'):=(hk.wider (fun _ _ h=> .inl h)).setCell (p:=⟨gc,n,none⟩) (.inr (.inr rfl)) _;refine⟨h.cols.app h0 hn hk ho hmv,h.bat.kept hk2 (fun e=>?_) (fun j hj e=>?_),h.kept.trans hk2 (fun j hj e=>?_),fun m k hm0 hm e=>?_,fun m k hm e e2=>?_,h.row,fun k e=>?_,h.gB,h.bB,h.gb⟩
 ·rcases e with e|e
  ·have:=h.new n b8 h0 hn e;have:=h.bB;omega
  ·exact h.gb e.symm
 ·rcases e with e|e
  ·exact h.sepv n j hn e hj
  ·subst e;have:=h.row j hj;have:=h.gB;omega
 ·rcases e with e|e
  ·have:=h.new n j h0 hn e;omega
  ·exact .inr e
 ·rw[Amn]at hm;rw[Hs _ _ _ _ hvl]at e
  by_cases c:n=m
  ·rw[if_pos c]at e;rcases hmv k e with d|d
   ·exact h.new n k h0 hn d
   ·omega
  ·rw[if_neg c]at e;exact h.new m k hm0 hm e
 ·rw[Amn]at hm;rw[Hs _ _ _ _ hvl]at e
  by_cases c:n=m
  ·rw[if_pos c]at e;rcases hmv k e with d|d
   ·exact h.sepv n k hn d e2
   ·have:=(h.bat.own.lt k e2).2;omega
  ·rw[if_neg c]at e;exact h.sepv m k hm e e2
 ·rw[Hs _ _ _ _ hvl,if_neg (by omega)]at e;exact h.zero k e
theorem Kq.add(h:Kq hb gc b8 vals v8)(hw:hb<wr.heap.size)(hm:Cc wr v8 v'):Kq hb gc b8 vals v':=by
 refine⟨h.1,fun e=>?_,h.2.2⟩;rcases hm hb e with c|c
 ·exact h.2.1 c
 ·omega
theorem Kq.app(h:Kq hb gc b8 vals v8){n:Nat}(hn:n<vals.length)(hw:hb<wr.heap.size)(hm:Cc wr (vals.getD n undef) v'):Kq hb gc b8 (vals.set n v') v8:=by
 refine⟨fun m k hl e=>?_,h.2⟩;rw[Amn]at hl;rw[Hs _ _ _ _ hn]at e
 by_cases c:n=m
 ·rw[if_pos c]at e;rcases hm k e with d|d
  ·exact h.1 n k hn d
  ·omega
 ·rw[if_neg c]at e;exact h.1 m k hl e
theorem TSt.fresh(h:TSt W0 wr gc b8 vals cs v8 bits):Kq wr.heap.size gc b8 vals v8:=by
 have:=h.kept.size;have h1:=h.gB;have h2:=h.bB;refine⟨fun n k hn e=>?_,fun e=>?_,by omega,by omega⟩
 ·have:=(h.cols.own n (by rw[←h.cols.len];exact hn)).lt k e;omega
 ·have:=(h.bat.own.lt _ e).2;omega
end
theorem Adk(y:Nat)(hy:y<4294967296):Go.bits .and .u64 (y:Int) 1=((y%2:Nat):Int):=by
 show IntKind.u64.wrap ((BitVec.ofInt 64 (y:Int)&&&BitVec.ofInt 64 1).toNat:Int)=_;rw[BitVec.toNat_and,Ao6,BitVec.toNat_ofNat,Anb (by omega:y<2^64),show(BitVec.ofInt 64 1).toNat=1 from rfl,Nat.and_one_is_mod];have:=Nat.mod_lt y (y:=2) (by omega);rw[IntKind.wrap_u64];omega
set_option maxHeartbeats 400000 in
theorem Adl(c l d:Nat)(w:World)(hc:c<4294967296)(hl:l≤32)(hd:d<l):
  Calls Tryz.prog 151 #[.agg #[.int .u64 c,.int .i64 l],.int .i64 d] w fun e w'=>e= .returned (.int .i64 ((c/2^(l-1-d)%2:Nat):Int))∧Apd w w':=by
 obtain⟨n,hn⟩: ∃n,n=l-1-d:=⟨_,rfl⟩;have zn:(l:Int)-1-(d:Int)=(n:Int):=by omega
 obtain⟨y,hy,hsh,HY⟩: ∃y:Nat,y<4294967296∧(c:Int)/2^n=(y:Int)∧Hid (y=c/2^n):=
  ⟨c/2^n,Amx (Anu _ _) hc,by simp,rfl⟩
 have hab:=Adk y (by omega);obtain⟨z,hz⟩: ∃z,y%2=z:=⟨_,rfl⟩;rw[hz]at hab;have hz1:z≤1:=by omega
 have hn32:n≤32:=by omega
 have HZ:Aside (c/2^(l-1-d)%2=z):=by show _=_;rw[←hn,←HY.out];exact hz
 have hk:Apd w (w.alloc (.cells #[.int .u64 (c:Nat),.int .i64 (l:Nat)] 90)):=(Aa.refl _ _).alloc _;clear hn hz
 go_enter Tryz.func151,Tryz.ntmps151
 go_wp2;go_ret;exact⟨by rw[HZ.out];rfl,hk⟩
namespace Hm
def Bv(ps:List Nat)(wd:Nat):List Bool:=(ps.filter fun p=>decide (p%8=0)).flatMap fun p=>At (p/8) wd
def Da(ps:List Nat):List Bool:=(ps.map fun p=>decide (p%8=0))++Bv ps (Lib.bitLen ((ps.length-1)/8))
theorem Qr(ps:List Nat)(wd k:Nat)(h:k<ps.length):Bv (ps.take (k+1)) wd=Bv (ps.take k) wd++if ps[k]%8=0 then At (ps[k]/8) wd else []:=by
 rw[Ali h];unfold Bv;rw[Ang,Ana];congr 1
 by_cases e:ps[k]%8=0<;>simp[e]
theorem O2(ps:List Nat)(wd:Nat):(Bv ps wd).length≤ps.length*wd:=by
 unfold Bv;induction ps with
 |nil=>simp
 |cons p r ih=>
  rw[Am1,Amc,Anv];split
  ·rw[Amg,Alg,Dg];omega
  ·omega
end Hm
def Lb:Prop:= ∀(x:Int) (W:World),0≤x→x≤18446744073709551615→Calls Tryz.prog 175 #[.int .u64 x] W fun e w'=>e= .returned (.int .i64 (Lib.bitLen x.toNat:Nat))∧W=w'
set_option maxHeartbeats 400000 in
theorem T7(p:Nat)(w:World)(hp:p≤1000000):Calls Tryz.prog 154 #[.int .i64 p] w fun e w'=>e= .returned (.bool (decide (p%8=0)))∧w=w':=by
 by_cases h:p%8=0
 ·have hb:((p:Int)%8==0)=true:=by simp;omega
  go_enter Tryz.func154,Tryz.ntmps154
  go_wp2;go_ret;simp[h]
 ·have hb:((p:Int)%8==0)=false:=by simp;omega
  go_enter Tryz.func154,Tryz.ntmps154
  go_wp2;go_ret;simp[h]
set_option maxHeartbeats 400000 in
theorem Pj(hL:Lb)(n:Nat)(w:World)(hn:n≤1000000):Calls Tryz.prog 155 #[.int .i64 n] w fun e w'=>e= .returned (.int .i64 (Lib.bitLen (n/8):Nat))∧w=w':=by
 have hc:=hL ((n/8:Nat):Int) w (by omega) (by omega);rw[Int.toNat_natCast]at hc;have e:((n/8:Nat):Int)=(n:Int)/8:=by omega
 rw[e]at hc;generalize Lib.bitLen (n/8)=r at*
 go_enter Tryz.func155,Tryz.ntmps155
 go_wp2_with(go_at_call 175;refine hc.mono ?_;rintro e w2 ⟨rfl,rfl⟩)
 go_ret;exact⟨rfl,rfl⟩
theorem Lc(w:World)(b:Nat)(x y z u:Value):Aa (fun j=>j=b) w ((((w.setCell ⟨b,0,none⟩ x).setCell ⟨b,1,none⟩ y).setCell ⟨b,2,none⟩ z).setCell ⟨b,3,none⟩ u):=
 (Lf w b x y z).setCell (p:=⟨b,3,none⟩) (.inr rfl) u
set_option maxHeartbeats 1000000 in
theorem Wb(hones:Cd)(hLn:Lb)(ao:Option Addr)(c:Nat)(ps:List Nat)(w:World)(hi:Jn w ao ps)(hm1:1≤ps.length)(hm:ps.length≤6001)(he: ∀p∈ps,p≤6000):
  Calls Tryz.prog 100 #[.slice ao ps.length c] w fun e w'=> ∃g,w.heap.size≤g∧e= .returned (.agg #[.string ⟨(Ah (Da ps)).toArray⟩,.int .i64 ((Da ps).length:Nat),.slice (some ⟨g,0,none⟩) ((Ah (Da ps)).length+1) ((Ah (Da ps)).length+1),.int .i64 ((ps.length-1:Nat):Int)])∧
   IntRow w' g (Bt (Ah (Da ps)))∧Apd w w':=by
 have HON:Aside _:=hones;clear hones;have HR:Hid (Da ps=(ps.map fun p=>decide (p%8=0))++Bv ps (Lib.bitLen ((ps.length-1)/8))):=rfl;generalize Da ps=R at HR⊢;have hw10:Lib.bitLen ((ps.length-1)/8)≤10:=Lib.bitLen_le _ 10 (by omega) (by omega);obtain⟨T,hT⟩: ∃T,T=ps.length-1:=⟨_,rfl⟩;have zT:(ps.length:Int)-1=(T:Int):=by omega
 have hTl:T≤6000:=by omega
 rw[←hT]at HR hw10⊢;clear hT
 go_enter Tryz.func100,Tryz.ntmps100
 go_wp2
 go_loopw[12] (fun i wr=> ∃(k:Nat) (v':Value),k≤ps.length∧i= .int .i64 k∧Dq wr 221 (w.heap.size+1) v' ((ps.take k).map fun p=>decide (p%8=0))∧Aa (fun j=>w.heap.size+1≤j) ((w.alloc (.cells #[.string ⟨#[]⟩,.int .i64 0,.slice none 0 0,.int .i64 0] 100)).alloc (.cells #[.slice none 0 0,.int .i64 0] 221)) wr∧(∀j,v'.ownBlock=some j→w.heap.size+2≤j)) (fun i _=>ps.length-(intOf i).toNat)
 case atStart=>exact⟨0,.slice none 0 0,Alr _,rfl,by simpa using Aap w _ _,Aa.refl _ _,fun j h=>by cases h⟩
 case round=>
  obtain⟨k,v',hk,rfl,hb,hkr,hmr⟩:=hrel;have hkw:Apd w wr:=(((Aa.refl (fun _=>False) w).alloc _).alloc _).trans hkr (fun j h1 h2=>by omega)
  by_cases hlt:k<ps.length
  ·obtain⟨b,o,hao,hbw,hc1⟩:=(hi.kept hkw (fun a ha=>id)) k hlt;have hek:=he ps[k] (Alo _);have HT:Hid (((ps.take (k+1)).map fun p=>decide (p%8=0))=((ps.take k).map fun p=>decide (p%8=0))++[decide (ps[k]%8=0)]):=by
    show _=_;rw[Ali hlt,Am9];rfl
   generalize ps[k]=x at*;have hcs:=T7 x wr (by omega)
   by_cases hx8:x%8=0
   ·have hcon:=Sy 221 (w.heap.size+1) v' _ 1 wr hb (by simp;omega) (by omega);rw[show decide (1=1)=decide (x%8=0)from by simp[hx8]]at hcon;rw[show decide (x%8=0)=true from by simp[hx8]]at hcs;rw[hao];clear hao hi hb he hx8
    go_wp2_with(first|(go_at_call 154;refine hcs.mono ?_;rintro e w2 ⟨rfl,rfl⟩)|(go_at_call 152;refine hcon.mono ?_;rintro e w2 ⟨v2,rfl,hb2,hk2,hm2⟩))
    go_roundw
    case rel=>
     refine⟨k+1,v2,by omega,by go_num,by rw[HT.out];exact hb2,hkr.trans hk2 (fun j h1 h2=>?_),fun j h=>?_⟩
     ·rcases h2 with h2|h2
      ·omega
      ·have:=hmr j h2;omega
     ·rcases hm2 j h with h2|h2
      ·exact hmr j h2
      ·have:=hkr.size;simp at this;omega
    case measure=>simp[intOf];omega
   ·have hcon:=Sy 221 (w.heap.size+1) v' _ 0 wr hb (by simp;omega) (by omega);rw[show decide (0=1)=decide (x%8=0)from by simp[hx8]]at hcon;rw[show decide (x%8=0)=false from by simp[hx8]]at hcs;rw[hao];clear hao hi hb he hx8
    go_wp2_with(first|(go_at_call 154;refine hcs.mono ?_;rintro e w2 ⟨rfl,rfl⟩)|(go_at_call 152;refine hcon.mono ?_;rintro e w2 ⟨v2,rfl,hb2,hk2,hm2⟩))
    go_roundw
    case rel=>
     refine⟨k+1,v2,by omega,by go_num,by rw[HT.out];exact hb2,hkr.trans hk2 (fun j h1 h2=>?_),fun j h=>?_⟩
     ·rcases h2 with h2|h2
      ·omega
      ·have:=hmr j h2;omega
     ·rcases hm2 j h with h2|h2
      ·exact hmr j h2
      ·have:=hkr.size;simp at this;omega
    case measure=>simp[intOf];omega
  ·obtain rfl:k=ps.length:=by omega
   rw[Ama]at hb;have hpw:=Pj hLn T wr (by omega);generalize Lib.bitLen (T/8)=L at*;generalize hB:(ps.map fun p=>decide (p%8=0))=B at*;have hBl:B.length=ps.length:=by rw[←hB];simp
   have HBl:Hid (B.length=ps.length):=hBl;have hBle:B.length≤6001:=by omega
   have HB0:Hid (Dq wr 221 (w.heap.size+1) v' B):=hb;have HI:Hid (Jn w ao ps):=hi;clear hi hb hlt hk hB hBl
   go_wp2_with(go_at_call 155;refine hpw.mono ?_;rintro e w2 ⟨rfl,rfl⟩)
   clear hpw
   go_loopw[28] (fun i wr=> ∃(k:Nat) (v':Value),k≤ps.length∧i= .int .i64 k∧Dq wr 221 (w.heap.size+1) v' (B++Bv (ps.take k) L)∧Aa (fun j=>w.heap.size+1≤j) ((w.alloc (.cells #[.string ⟨#[]⟩,.int .i64 0,.slice none 0 0,.int .i64 0] 100)).alloc (.cells #[.slice none 0 0,.int .i64 0] 221)) wr∧(∀j,v'.ownBlock=some j→w.heap.size+2≤j)) (fun i _=>ps.length-(intOf i).toNat)
   case atStart=>exact⟨0,v',Alr _,rfl,by simpa[Bv]using HB0.out,hkr,hmr⟩
   case round=>
    clear hkr hmr hkw HB0;obtain⟨k,v3,hk,rfl,hb,hkr,hmr⟩:=hrel;have hkw:Apd w wr:=(((Aa.refl (fun _=>False) w).alloc _).alloc _).trans hkr (fun j h1 h2=>by omega)
    by_cases hlt:k<ps.length
    ·obtain⟨b,o,hao,hbw,hc1⟩:=(HI.out.kept hkw (fun a ha=>id)) k hlt;have hek:=he ps[k] (Alo _);have HT:Hid (Bv (ps.take (k+1)) L=Bv (ps.take k) L++if ps[k]%8=0 then At (ps[k]/8) L else []):=Qr ps L k hlt;have hsl:(B++Bv (ps.take k) L).length≤70000:=by
      have h1:=O2 (ps.take k) L;have h2:(ps.take k).length*L≤6001*10:=Amk (by simp;omega) hw10;simp only[Alg];omega
     generalize ps[k]=x at*;have hcs:=T7 x wr (by omega)
     by_cases hx8:x%8=0
     ·rw[show decide (x%8=0)=true from by simp[hx8]]at hcs;have hcon:=Vf 221 (w.heap.size+1) v3 _ (x/8) L wr hb (by omega) (by omega) (by omega);rw[show((x/8:Nat):Int)=(x:Int)/8 from by omega]at hcon;have HT2:Hid (Bv (ps.take (k+1)) L=Bv (ps.take k) L++At (x/8) L):=by
       show _=_;rw[HT.out,if_pos hx8]
      rw[hao];clear hao hb he hx8 HT
      go_wp2_with(first|(go_at_call 154;refine hcs.mono ?_;rintro e w2 ⟨rfl,rfl⟩)|(go_at_call 142;refine hcon.mono ?_;rintro e w2 ⟨v2,rfl,hb2,hk2,hm2⟩))
      go_roundw
      case rel=>
       refine⟨k+1,v2,by omega,by go_num,by rw[HT2.out,←Alx];exact hb2,hkr.trans hk2 (fun j h1 h2=>?_),fun j h=>?_⟩
       ·rcases h2 with h2|h2
        ·omega
        ·have:=hmr j h2;omega
       ·rcases hm2 j h with h2|h2
        ·exact hmr j h2
        ·have:=hkr.size;simp at this;omega
      case measure=>simp[intOf];omega
     ·rw[show decide (x%8=0)=false from by simp[hx8]]at hcs;have HT2:Hid (Bv (ps.take (k+1)) L=Bv (ps.take k) L):=by
       show _=_;rw[HT.out,if_neg hx8,Am4]
      rw[hao];clear hao he hx8 HT
      go_wp2_with(first|(go_at_call 154;refine hcs.mono ?_;rintro e w2 ⟨rfl,rfl⟩))
      go_roundw
      case rel=>
       exact⟨k+1,v3,by omega,by go_num,by rw[HT2.out];exact hb,hkr,hmr⟩
      case measure=>simp[intOf];omega
    ·obtain rfl:k=ps.length:=by omega
     rw[Ama,←HR.out]at hb;have hrow:=Xc 221 (w.heap.size+1) v3 R wr hb;have hpl:(⟨(Ah R).toArray⟩:ByteArray).size=(Ah R).length:=by show(Ah R).toArray.size=_;simp
     have hRl:R.length≤100000:=by
      rw[HR.out];have h1:=O2 ps L;have h2:ps.length*L≤6001*10:=Amk hm hw10;simp only[Alg];omega
     have hpl2:=A1 R;have hcnt:=fun W=>Jp HON.out ⟨(Ah R).toArray⟩ R.length W (by rw[hpl,hpl2];omega);have e3:(⟨(Ah R).toArray⟩:ByteArray).data.toList=Ah R:=rfl;rw[e3,hpl]at hcnt;have hr0:wr.heap[w.heap.size]?=some (.cells #[.string ⟨#[]⟩,.int .i64 0,.slice none 0 0,.int .i64 0] 100 (0,0)):=hkr.row (Anw w _ _) (by omega);have HX:Aside (wr.heap[w.heap.size]?=some (.cells #[.string ⟨#[]⟩,.int .i64 0,.slice none 0 0,.int .i64 0] 100 (0,0))∧Apd w wr):=⟨hr0,hkw⟩;have hws:w.heap.size<wr.heap.size:=Alw hr0;have HC:Aside _:=hcnt;obtain⟨s,hS⟩: ∃s,s=(⟨(Ah R).toArray⟩:ByteArray):=⟨_,rfl⟩;obtain⟨P,hP⟩: ∃P,P=Ah R:=⟨_,rfl⟩;have HSP:Aside (s=(⟨(Ah R).toArray⟩:ByteArray)∧P=Ah R):=⟨hS,hP⟩;have HC2:=HC.out;rw[←hS,←hP]at HC2;rw[←hS]at hrow;have HC3:Aside _:=HC2;clear HC2 HC hS hP hpl;clear hb he HR hr0 hkw hkr hpl2 e3 hcnt hRl;go_wp2_with fail;refine hrow.mono ?_;rintro e w5 ⟨rfl,hk5⟩;have hcnt:=HC3.out w5;clear hrow HC3;go_wp2_with fail;refine hcnt.mono ?_;rintro e w6 ⟨g,hg,rfl,hir,hk6⟩;have hk56:Apd wr w6:=hk5.trans hk6 (fun _ _ h=>h);have hr6:=hk56.row HX.out.1 id;have p0:w6.cell? ⟨w.heap.size,0,none⟩=some (.string ⟨#[]⟩):=Alc _ _ 0 _ _ _ hr6;have p1:w6.cell? ⟨w.heap.size,1,none⟩=some (.int .i64 0):=Alc _ _ 1 _ _ _ hr6;have p2:w6.cell? ⟨w.heap.size,2,none⟩=some (.slice none 0 0):=Alc _ _ 2 _ _ _ hr6;have f0:w6.frozen? ⟨w.heap.size,0,none⟩=false:=Alk _ _ 0 _ _ hr6;have f1:w6.frozen? ⟨w.heap.size,1,none⟩=false:=Alk _ _ 1 _ _ hr6;have f2:w6.frozen? ⟨w.heap.size,2,none⟩=false:=Alk _ _ 2 _ _ hr6;have p3:w6.cell? ⟨w.heap.size,3,none⟩=some (.int .i64 0):=Alc _ _ 3 _ _ _ hr6;have f3:w6.frozen? ⟨w.heap.size,3,none⟩=false:=Alk _ _ 3 _ _ hr6;have HZ:Aside (w6.heap[w.heap.size]?=some (.cells #[.string ⟨#[]⟩,.int .i64 0,.slice none 0 0,.int .i64 0] 100 (0,0))∧Apd w w6∧IntRow w6 g (Bt P)∧w.heap.size<g):=⟨hr6,HX.out.2.trans hk56 (fun _ _ h=>h),hir,by have:=hk5.size;omega⟩;clear hcnt hk5 hk6 hk56 hr6 hir hg HX;go_wp2;obtain⟨hr6,hkw,hir,hgw⟩:=HZ.out;have h2:=Alf _ _ 3 _ _ (.int .i64 (T:Nat)) (Alf _ _ 2 _ _ (.slice (some ⟨g,0,none⟩) (P.length+1) (P.length+1)) (Alf _ _ 1 _ _ (.int .i64 (R.length:Nat)) (Alf _ _ 0 _ _ (.string s) hr6)));refine Amo (v:= .agg #[.string s,.int .i64 (R.length:Nat),.slice (some ⟨g,0,none⟩) (P.length+1) (P.length+1),.int .i64 (T:Nat)]) (Am3 Tryz.results100 _ _ w.heap.size 100 _ (0,0) _ rfl h2 Tryz.underlying100 rfl (by kernel_rfl)) rfl ⟨g,by omega,by rw[HSP.out.1,HSP.out.2],?_,?_⟩
     ·rw[←HSP.out.2];exact hir.kept (Lc w6 w.heap.size _ _ _ _) (fun e=>by omega)
     ·exact hkw.trans (Lc w6 w.heap.size _ _ _ _) (fun j h1 h2=>by omega)
theorem Jx:Cd:=fun b W=>by
 have h:=Tryz.bits_OnesCount8 (b.toNat:Nat) W (by omega) (by have:=b.toNat_lt;omega);rw[Int.toNat_natCast,←Vg]at h;exact h
theorem Abv:Lb:=fun x W h0 h1=>(Tryz.bits_Len x W h0 h1).mono fun _ _ h=>⟨h.1,h.2.symm⟩
end Go.Proofs.YtegnkfdbmmndaaaGreat
