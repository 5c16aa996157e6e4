import Derived.Test.YtegnkfdbmmndaaaGreatJ00
import Derived.Test.YtegnkfdbmmndaaaGreatRows

namespace Go.Proofs.YtegnkfdbmmndaaaGreat
open Hm
open Go.RowKit
structure Aa(S:Nat→Prop)(w w':World):Prop where
 os:w'.os=w.os
 tape:w'.tape=w.tape
 output:w'.output=w.output
 size:w.heap.size≤w'.heap.size
 block: ∀k,k<w.heap.size→ ¬S k→w'.heap[k]?=w.heap[k]?
abbrev Apd:=Aa fun _=>False
theorem Aa.refl(S:Nat→Prop)(w:World):Aa S w w:=⟨rfl,rfl,rfl,Ale _,fun _ _ _=>rfl⟩
theorem Aa.trans{S T:Nat→Prop}{a b c:World}(h:Aa S a b)(k:Aa T b c)(hT: ∀j,j<a.heap.size→T j→S j):Aa S a c:=
 ⟨k.os.trans h.os,k.tape.trans h.tape,k.output.trans h.output,Al2 h.size k.size,fun j hj hn=>(k.block j (Amp hj h.size) (fun x=>hn (hT j hj x))).trans (h.block j hj hn)⟩
theorem Aa.wider{S T:Nat→Prop}{a b:World}(h:Aa S a b)(hT: ∀j,j<a.heap.size→S j→T j):Aa T a b:=
 ⟨h.os,h.tape,h.output,h.size,fun j hj hn=>h.block j hj (fun x=>hn (hT j hj x))⟩
theorem Aa.drew{S:Nat→Prop}{a b:World}(h:Aa S a b):Aa S a b.drew:=⟨h.os,h.tape,h.output,h.size,h.block⟩
theorem Aa.drewN{S:Nat→Prop}{a b:World}(h:Aa S a b)(n:Nat):Aa S a (b.drewN n):=⟨h.os,h.tape,h.output,h.size,h.block⟩
theorem Aa.alloc{S:Nat→Prop}{a b:World}(h:Aa S a b)(o:Obj):Aa S a (b.alloc o):=
 ⟨h.os,h.tape,h.output,by have:=h.size;simp;omega,fun j hj hn=>(Below.heap_alloc b o j (by have:=h.size;omega)).trans (h.block j hj hn)⟩
theorem Aa.setCell{S:Nat→Prop}{a b:World}(h:Aa S a b){p:Addr}(hp:a.heap.size≤p.block∨S p.block)(u:Value):Aa S a (b.setCell p u):=by
 have hb:=(Below.refl 0 b).setCell (p:=p) (Alr _) u;refine⟨hb.os.trans h.os,hb.tape.trans h.tape,hb.output.trans h.output,Al2 h.size hb.size,fun j hj hn=>?_⟩;have hne:j≠p.block:=by
  rintro rfl;rcases hp with hp|hp
  ·omega
  ·exact hn hp
 exact(Ano b p u j hne).trans (h.block j hj hn)
theorem Aa.grown{S:Nat→Prop}{a b c:World}{row:Option Nat}(h:Aa S a b)(hg:b.grownBy c row)(hr: ∀k,row=some k→a.heap.size≤k∨S k):Aa S a c:=
 ⟨hg.os.trans h.os,hg.tape.trans h.tape,hg.output.trans h.output,Al2 h.size hg.size,fun j hj hn=>(hg.block j (Amp hj h.size) (fun e=>by
  rcases hr j e.symm with x|x
  ·omega
  ·exact hn x)).trans (h.block j hj hn)⟩
theorem Aa.ofBelow{S:Nat→Prop}{B:Nat}{a b:World}(h:Below B a b)(hS: ∀j,j<a.heap.size→B≤j→S j):Aa S a b:=
 ⟨h.os,h.tape,h.output,h.size,fun j hj hn=>h.block j (by
  rcases Am7 j B with x|x
  ·exact x
  ·exact absurd (hS j hj x) hn)⟩
theorem Aa.below{S:Nat→Prop}{B:Nat}{a b:World}(h:Aa S a b)(hB:B≤a.heap.size)(hS: ∀j,j<B→ ¬S j):Below B a b:=
 ⟨h.os,h.tape,h.output,h.size,fun j hj=>h.block j (by omega) (hS j hj)⟩
theorem Aa.cell{S:Nat→Prop}{a b:World}(h:Aa S a b){p:Addr}(hp:p.block<a.heap.size)(hn: ¬S p.block):b.cell? p=a.cell? p:=World.cell?_of_block (h.block _ hp hn)
theorem Aa.frozen{S:Nat→Prop}{a b:World}(h:Aa S a b){p:Addr}(hp:p.block<a.heap.size)(hn: ¬S p.block):b.frozen? p=a.frozen? p:=World.frozen?_of_block (h.block _ hp hn)
theorem Aa.row{S:Nat→Prop}{a b:World}(h:Aa S a b){g:Nat}{o:Obj}(hg:a.heap[g]?=some o)(hn: ¬S g):b.heap[g]?=some o:=(h.block g (Alw hg) hn).trans hg
theorem Aa.owns{S:Nat→Prop}{a b:World}(h:Aa S a b){base:Nat}{e:TypeId}{size:Nat}{v:Value}{n:Nat}{xs:List Value}(ho:a.ownsRow base e size v n xs)(hn: ∀k,v.ownBlock=some k→ ¬S k):b.ownsRow base e size v n xs:=by
 obtain⟨hl,hr⟩:=ho;refine⟨hl,?_⟩;rcases hr with hr|⟨g,cap,cur,rfl,h1,h2,h3,h4,h5,h6⟩
 ·exact .inl hr
 ·exact .inr ⟨g,cap,cur,rfl,h1,h.row h2 (hn g rfl),h3,h4,h5,h6⟩
def Cc(w:World)(v v':Value):Prop:= ∀k,v'.ownBlock=some k→v.ownBlock=some k∨w.heap.size≤k
theorem Cc.refl(w:World)(v:Value):Cc w v v:=fun _ h=> .inl h
theorem Cc.trans{w w1:World}{a b c:Value}(h:Cc w a b)(k:Cc w1 b c)(hs:w.heap.size≤w1.heap.size):Cc w a c:=fun j hj=>by
 rcases k j hj with x|x
 ·exact h j x
 ·exact .inr (by omega)
theorem Pt{w w':World}{base:Nat}{e:TypeId}{size:Nat}{v v':Value}{n:Nat}{xs:List Value}(ho:w'.ownsRow base e size v' n xs)(hb:base=w.heap.size):Cc w v v':=fun k hk=> .inr (by have:=ho.lt k hk;omega)
theorem E4{w:World}{base base':Nat}{e:TypeId}{size:Nat}{v:Value}{n:Nat}{xs:List Value}(ho:w.ownsRow base e size v n xs)(hb: ∀k,v.ownBlock=some k→base'≤k):w.ownsRow base' e size v n xs:=by
 obtain⟨hl,hr⟩:=ho;refine⟨hl,?_⟩;rcases hr with hr|⟨g,cap,cur,rfl,h1,h2⟩
 ·exact .inl hr
 ·exact .inr ⟨g,cap,cur,rfl,hb g rfl,h2⟩
theorem Gq{w:World}{base:Nat}{e:TypeId}{size:Nat}{v:Value}{n:Nat}{xs:List Value}(ho:w.ownsRow base e size v n xs):w.ownsRow 0 e size v n xs:=E4 ho fun _ _=>Alr _
variable {P:Program} (w:World)
theorem Zl(base:Nat)(t ty e:TypeId)(i:TypeInfo)(z:Value)(size bytes:Nat)(ht:P.underlying t=some (.slice e))(hi:P.info? e=some i)(hz:i.zero=some z)
  (hsize:i.size=size) (hby:i.bytes=bytes) (hzs:z.cells.size=size) (hsz:0<size)
  (v:Value) (n:Nat) (xs:List Value) (hown:w.ownsRow base e size v n xs)
  (a:Addr) (m c:Nat) (news:List Value) (hl:news.length=m*size) (hnews: ∀j u,news[j]?=some u→w.cell? (a.add j)=some u) (h1: ∀u∈news,u.oneCell'=true)
  (h63:n+m≤maxLen) (hbytes:(n+m)*bytes≤140737488355328) (hbase:base≤w.heap.size):
  ∃v' w',(Builtin.append_ #[t,t] ty #[v,.slice (some a) m c]).run P w= .ok v' w'∧w'.ownsRow base e size v' (n+m) (xs++news)∧w.grownBy w' v.ownBlock∧Cc w v v':=by
 have hown2:=hown.2;rcases hown2 with⟨hv,hn⟩|⟨g,cap,cur,hv,hbg,hg,hnc,hcm,hcs,htake⟩
 ·obtain⟨v',w',hr,ho,hgr,_⟩:=run_append_own (P:=P) w w.heap.size t ty e i z size bytes ht hi hz hsize hby hzs hsz v n xs (by rw[hv,hn]at hown⊢;exact E4 hown (fun k hk=>by cases hk)) a m c news hl hnews h1 h63 hbytes (Ale _);exact⟨v',w',hr,E4 ho (fun k hk=>by have:=ho.lt k hk;omega),hgr,Pt ho rfl⟩
 ·subst hv
  by_cases hroom:n+m≤cap
  ·obtain⟨w',hr,ho,hgr⟩:=run_append_fits (P:=P) w base t ty e i size ht hi hsize g n cap xs hown a m c news hl hnews h1 hroom;exact⟨_,w',hr,ho,hgr,fun k hk=> .inl hk⟩
  ·obtain⟨v',w',hr,ho,hgr⟩:=run_append_arg_grows (P:=P) w t ty e i z size bytes ht hi hz hsize hby hzs hsz ⟨g,0,none⟩ n cap xs hown.1 (hown.cells (g:=g) rfl) a m c news hl hnews (by omega) h63 hbytes;exact⟨v',w',hr,E4 ho (fun k hk=>by have:=ho.lt k hk;omega),⟨hgr.os,hgr.tape,hgr.output,hgr.size,fun k hk _=>hgr.block k hk (by simp)⟩,Pt ho rfl⟩
theorem A7{ops:Array Oper}{rest:List Oper}{o:Oper}{a:Act}{Q:Exit→Act→World→Prop}(hgd:o.guard=none)(s x:Operand)(t:TypeId)
  (ho:o.op= .call {callee:= .builtin .append,args:= #[s,x],argTypes:= #[t,t]})
  (base:Nat) (e:TypeId) (i:TypeInfo) (z:Value) (size bytes:Nat) (ht:P.underlying t=some (.slice e)) (hi:P.info? e=some i) (hz:i.zero=some z)
  (hsize:i.size=size) (hby:i.bytes=bytes) (hzs:z.cells.size=size) (hsz:0<size)
  (v:Value) (n:Nat) (xs:List Value) (hs:a.eval s=v) (hown:w.ownsRow base e size v n xs)
  (ad:Addr) (m c:Nat) (news:List Value) (hx:a.eval x= .slice (some ad) m c) (hl:news.length=m*size) (hnews: ∀j u,news[j]?=some u→w.cell? (ad.add j)=some u) (h1: ∀u∈news,u.oneCell'=true)
  (h63:n+m≤maxLen) (hbytes:(n+m)*bytes≤140737488355328) (hbase:base≤w.heap.size)
  (h: ∀v' w',w'.ownsRow base e size v' (n+m) (xs++news)→w.grownBy w' v.ownBlock→Cc w v v'→wpList P ops Q rest (a.put o.dst v') w'):wpList P ops Q (o::rest) a w:=by
 refine wpList_plain hgd fun K hK=>?_;obtain⟨v',w',hr,h2,h3,h4⟩:=Zl (P:=P) w base t o.type e i z size bytes ht hi hz hsize hby hzs hsz v n xs hown ad m c news hl hnews h1 h63 hbytes hbase;unfold Oper.wp execOp;simp only[ho,resolve,invoke,builtin,Sem.run_bind,Sem.run_pure,Result.andThen_ok,List.map_toArray,Amu,Ao1,hs,hx,hr];exact hK _ _ (h v' w' h2 h3 h4)
theorem Pu(base:Nat)(t u ty e:TypeId)(i:TypeInfo)(ht:P.underlying t=some (.slice e))(hu:P.underlying u=some .string)(hi:P.info? e=some i)(hz:i.zero=some (.int .u8 0))
  (hsize:i.size=1) (hby:i.bytes=1)
  (v:Value) (n:Nat) (xs:List Value) (hown:w.ownsRow base e 1 v n xs) (s:ByteArray)
  (h63:n+s.size≤maxLen) (hbytes:n+s.size≤140737488355328) (hbase:base≤w.heap.size):
  ∃v' w',(Builtin.append_ #[t,u] ty #[v,.string s]).run P w= .ok v' w'∧w'.ownsRow base e 1 v' (n+s.size) (xs++Lib.strCells s)∧w.grownBy w' v.ownBlock∧Cc w v v'∧(v'= .slice none 0 0↔v= .slice none 0 0∧s.size=0):=by
 have hsmall:n+s.size≤9223372036854775807:=by simp only[maxLen]at h63;omega
 obtain⟨v',w',hr,ho,hgr,hnil⟩:=Lib.run_append_own_string (P:=P) w base t u ty e i ht hu hi hz hsize hby v n xs hown s h63 hbytes hbase;refine⟨v',w',hr,ho,hgr,?_,hnil⟩;have hown2:=hown.2;rcases hown2 with⟨hv,hn⟩|⟨g,cap,cur,hv,hbg,hg,hnc,hcm,hcs,htake⟩
 ·obtain⟨v2,w2,hr2,ho2,_,_⟩:=Lib.run_append_own_string (P:=P) w w.heap.size t u ty e i ht hu hi hz hsize hby v n xs (by rw[hv,hn]at hown⊢;exact E4 hown (fun k hk=>by cases hk)) s h63 hbytes (Ale _);rw[hr]at hr2;cases hr2;exact Pt ho2 rfl
 ·subst hv;have hcs':cur.size=cap:=by simpa using hcs
  by_cases hroom:n+s.size≤cap
  ·have hr2:=Lib.run_append_room_string (P:=P) w t u ty e i ht hu hi hsize g n cap cur hg s hroom (by omega);rw[hr]at hr2;cases hr2;exact fun k hk=> .inl hk
  ·have hr2:=Lib.run_append_grow_string (P:=P) w t u ty e i (.int .u8 0) ht hu hi hz ⟨g,0,none⟩ n cap xs (by rw[hsize];exact hown.1) (hown.cells (g:=g) rfl) s (by omega) (by omega) (by rw[hby];exact growslice_fits (by omega) (by omega));rw[hr]at hr2;cases hr2;exact fun k hk=> .inr (by simp[Value.ownBlock]at hk;omega)
theorem Eg{ops:Array Oper}{rest:List Oper}{o:Oper}{a:Act}{Q:Exit→Act→World→Prop}(hgd:o.guard=none)(sl x:Operand)(t u:TypeId)
  (ho:o.op= .call {callee:= .builtin .append,args:= #[sl,x],argTypes:= #[t,u]})
  (base:Nat) (e:TypeId) (i:TypeInfo) (ht:P.underlying t=some (.slice e)) (hu:P.underlying u=some .string) (hi:P.info? e=some i) (hz:i.zero=some (.int .u8 0))
  (hsize:i.size=1) (hby:i.bytes=1)
  (v:Value) (n:Nat) (xs:List Value) (hs:a.eval sl=v) (hown:w.ownsRow base e 1 v n xs) (s:ByteArray) (hx:a.eval x= .string s)
  (h63:n+s.size≤maxLen) (hbytes:n+s.size≤140737488355328) (hbase:base≤w.heap.size)
  (h: ∀v' w',w'.ownsRow base e 1 v' (n+s.size) (xs++Lib.strCells s)→w.grownBy w' v.ownBlock→Cc w v v'→(v'= .slice none 0 0↔v= .slice none 0 0∧s.size=0)→wpList P ops Q rest (a.put o.dst v') w'):wpList P ops Q (o::rest) a w:=by
 refine wpList_plain hgd fun K hK=>?_;obtain⟨v',w',hr,h2,h3,h4,h5⟩:=Pu (P:=P) w base t u o.type e i ht hu hi hz hsize hby v n xs hown s h63 hbytes hbase;unfold Oper.wp execOp;simp only[ho,resolve,invoke,builtin,Sem.run_bind,Sem.run_pure,Result.andThen_ok,List.map_toArray,Amu,Ao1,hs,hx,hr];exact hK _ _ (h v' w' h2 h3 h4 h5)
end Go.Proofs.YtegnkfdbmmndaaaGreat
namespace Go.Proofs.YtegnkfdbmmndaaaGreat
open Hm
open Go.RowKit
theorem Ft:(Tryz.prog.info? 5).map (fun i=>(i.zero,i.size,i.bytes))=some (some (.int .u8 0),1,1):=by kernel_rfl
namespace Hm
def Ag(l:List UInt8):List Value:=l.map fun b=>Value.int .u8 (b.toNat:Int)
def leBytes(x:Nat):Nat→List UInt8
 |0=>[]
 |k+1=>leBytes x k++[UInt8.ofNat (x/256^k)]
theorem Cw(x k:Nat):(leBytes x k).length=k:=by
 induction k with
 |zero=>rfl
 |succ k ih=>simp[leBytes,ih]
end Hm
set_option maxHeartbeats 400000 in
theorem Kw(base:Nat)(v:Value)(n x k:Nat)(l:List UInt8)(w:World)(ho:w.ownsRow base 5 1 v n (Ag l))(hb:base≤w.heap.size)(hx:x<4294967296)(hk:k≤4)(hn:n≤1000000):
  Calls Tryz.prog 101 #[v,.int .i64 x,.int .i64 k] w fun e w'=> ∃v',e= .returned v'∧w'.ownsRow base 5 1 v' (n+k) (Ag (l++Hm.leBytes x k))∧Aa (fun j=>v.ownBlock=some j) w w'∧Cc w v v':=by
 obtain⟨i0,hi,hz0,hz1,hz2⟩:=Amz Ft
 go_enter Tryz.func101,Tryz.ntmps101
 go_wp2
 go_loopw[0,9] (fun u i wr=> ∃j:Nat,j≤k∧i= .int .i64 j∧wr.ownsRow base 5 1 u (n+j) (Ag (l++Hm.leBytes x j))∧Aa (fun j=>v.ownBlock=some j) w wr∧Cc w v u) (fun _ i _=>k-(intOf i).toNat)
 case atStart=>exact⟨0,Alr _,rfl,by simpa[Hm.leBytes]using ho,Aa.refl _ _,Cc.refl _ _⟩
 case round=>
  obtain⟨j,hj,rfl,hor,hkr,hmr⟩:=hrel
  by_cases hlt:j<k
  ·obtain⟨y,hy,hsh,HY⟩: ∃y:Nat,y<4294967296∧(x:Int)/2^(8*j)=(y:Int)∧Hid (y=x/256^j):=by
    refine⟨x/256^j,Amx (Anu _ _) hx,?_,rfl⟩;have e2:(256:Nat)^j=2^(8*j):=by rw[Nat.pow_mul]
    rw[e2];simp
   go_wp2_with(at_builtin;refine A7 _ rfl (.tmp 12) (.tmp 18) 79 rfl base 5 i0 (.int .u8 0) 1 1 Tryz.underlying79 hi hz0 hz1 hz2 rfl (by decide) _ _ _ rfl (hor.alloc _) ⟨wr.heap.size,0,none⟩ 1 1 [.int .u8 ((y:Int)%256)] rfl rfl ?c1 ?c2 ?c3 ?c4 ?c5 ?_)
   case c1=>exact An9 _ _ _
   case c2=>intro u hu;simp at hu;subst hu;rfl
   case c3=>unfold maxLen;omega
   case c4=>omega
   case c5=>have:=hkr.size;simp;omega
   intro v' w1 ho1 hg1 hm1;go_wp2;go_roundw
   case rel=>
    have e:Ag (l++Hm.leBytes x (j+1))=Ag (l++Hm.leBytes x j)++[.int .u8 ((y:Int)%256)]:=by
     simp[Ag,Hm.leBytes,HY.out]
    refine⟨j+1,by omega,by go_num,?_,?_,?_⟩
    ·rw[e];exact ho1
    ·exact(hkr.alloc _).grown hg1 (fun k hk=>(hmr k hk).elim (fun h=> .inr h) .inl)
    ·exact hmr.trans hm1 (by have:=hkr.size;simp;omega)
   case measure=>simp[intOf];omega
  ·go_wp2;go_ret;obtain rfl:j=k:=by omega
   exact⟨_,rfl,hor,hkr,hmr⟩
end Go.Proofs.YtegnkfdbmmndaaaGreat
namespace Go.Proofs.YtegnkfdbmmndaaaGreat
open Hm
namespace Hm
def Jj(f:Nat→Bool):Nat:=(f 0).toNat+2*(f 1).toNat+4*(f 2).toNat+8*(f 3).toNat+16*(f 4).toNat+32*(f 5).toNat+64*(f 6).toNat+128*(f 7).toNat
theorem Aaj(f:Nat→Bool):Jj f<256:=by
 have h: ∀b:Bool,b.toNat≤1:=fun b=>by cases b<;>decide
 have:=h (f 0);have:=h (f 1);have:=h (f 2);have:=h (f 3);have:=h (f 4);have:=h (f 5);have:=h (f 6);have:=h (f 7);unfold Jj;omega
theorem Ae5(f:Nat→Bool)(h: ∀j,j<8→f j=false):Jj f=0:=by
 unfold Jj;rw[h 0 (by omega),h 1 (by omega),h 2 (by omega),h 3 (by omega),h 4 (by omega),h 5 (by omega),h 6 (by omega),h 7 (by omega)];rfl
theorem Oy(f g:Nat→Bool)(h: ∀j,j<8→f j=g j):Jj f=Jj g:=by
 unfold Jj;rw[h 0 (by omega),h 1 (by omega),h 2 (by omega),h 3 (by omega),h 4 (by omega),h 5 (by omega),h 6 (by omega),h 7 (by omega)]
def Ek(a b c d e f g h:Bool):Nat:=a.toNat+2*b.toNat+4*c.toNat+8*d.toNat+16*e.toNat+32*f.toNat+64*g.toNat+128*h.toNat
theorem or0: ∀a b c d e f g h,Ek a b c d e f g h|||1=Ek true b c d e f g h:=by decide
theorem or1: ∀a b c d e f g h,Ek a b c d e f g h|||2=Ek a true c d e f g h:=by decide
theorem or2: ∀a b c d e f g h,Ek a b c d e f g h|||4=Ek a b true d e f g h:=by decide
theorem or3: ∀a b c d e f g h,Ek a b c d e f g h|||8=Ek a b c true e f g h:=by decide
theorem or4: ∀a b c d e f g h,Ek a b c d e f g h|||16=Ek a b c d true f g h:=by decide
theorem or5: ∀a b c d e f g h,Ek a b c d e f g h|||32=Ek a b c d e true g h:=by decide
theorem or6: ∀a b c d e f g h,Ek a b c d e f g h|||64=Ek a b c d e f true h:=by decide
theorem or7: ∀a b c d e f g h,Ek a b c d e f g h|||128=Ek a b c d e f g true:=by decide
theorem Aak(f:Nat→Bool)(j:Nat)(hj:j<8):Jj f|||2^j=Jj (fun k=>if k=j then true else f k):=by
 show Ek (f 0) (f 1) (f 2) (f 3) (f 4) (f 5) (f 6) (f 7)|||2^j=_
 match j,hj with
 |0,_=>exact or0 _ _ _ _ _ _ _ _
 |1,_=>exact or1 _ _ _ _ _ _ _ _
 |2,_=>exact or2 _ _ _ _ _ _ _ _
 |3,_=>exact or3 _ _ _ _ _ _ _ _
 |4,_=>exact or4 _ _ _ _ _ _ _ _
 |5,_=>exact or5 _ _ _ _ _ _ _ _
 |6,_=>exact or6 _ _ _ _ _ _ _ _
 |7,_=>exact or7 _ _ _ _ _ _ _ _
def Fv(bits:List Bool)(i:Nat):Nat:=Jj fun j=>bits.getD (8*i+j) false
def Ah(bits:List Bool):List UInt8:=(List.range ((bits.length+7)/8)).map fun i=>UInt8.ofNat (Fv bits i)
theorem A1(bits:List Bool):(Ah bits).length=(bits.length+7)/8:=by simp[Ah]
theorem Pv(bits:List Bool)(i:Nat):Fv bits i<256:=Aaj _
theorem Gx(bits:List Bool)(i:Nat)(h:i<(Ah bits).length):(Ah bits)[i]=UInt8.ofNat (Fv bits i):=by simp[Ah]
theorem Yi(bits:List Bool)(c k:Nat):(bits++List.replicate c false).getD k false=bits.getD k false:=by
 simp only[Ak6]
 by_cases h:k<bits.length
 ·rw[Amh h]
 ·rw[Alt (by omega),Al3 (by omega:bits.length≤k)]
  by_cases h2:k-bits.length<c
  ·rw[Am0 h2];rfl
  ·rw[Al3 (by simp;omega)]
theorem Qi(bits:List Bool)(c:Nat):Ah (bits++List.replicate c false)=Ah bits++List.replicate ((bits.length+c+7)/8-(bits.length+7)/8) 0:=by
 apply Amf
 ·simp[A1];omega
 ·intro i h1 h2;have hl:i<(bits.length+c+7)/8:=by simpa[A1]using h1
  rw[Gx]
  by_cases h:i<(bits.length+7)/8
  ·rw[List.getElem_append_left (by rw[A1];exact h),Gx];congr 1;exact Oy _ _ fun j hj=>Yi bits c _
  ·rw[List.getElem_append_right (by rw[A1];omega),List.getElem_replicate];have:Fv (bits++List.replicate c false) i=0:=Ae5 _ fun j hj=>by
    rw[Yi];simp only[Ak6];rw[Al3 (by omega)];rfl
   rw[this];rfl
theorem Aal(bits:List Bool)(at_ k:Nat)(h:at_<bits.length):(bits.set at_ true).getD k false=if k=at_ then true else bits.getD k false:=by
 simp only[Ak6,List.getElem?_set]
 by_cases e:at_=k
 ·subst e;simp[h]
 ·rw[if_neg e,if_neg (fun x=>e x.symm)]
theorem Q7(bits:List Bool)(at_:Nat)(h:at_<bits.length):Ah (bits.set at_ true)=(Ah bits).set (at_/8) (UInt8.ofNat (Fv bits (at_/8)|||2^(at_%8))):=by
 apply Amf
 ·simp[A1]
 ·intro i h1 h2;have hl:i<(bits.length+7)/8:=by simpa[A1]using h1
  rw[Gx,An8]
  by_cases e:at_/8=i
  ·rw[if_pos e,e];congr 1;rw[Fv,Fv,Aak _ _ (by omega)];refine Oy _ _ fun j hj=>?_;rw[Aal _ _ _ h]
   by_cases e2:j=at_%8
   ·rw[if_pos (by omega),if_pos e2]
   ·rw[if_neg (by omega),if_neg e2]
  ·rw[if_neg e,Gx];congr 1;refine Oy _ _ fun j hj=>?_;rw[Aal _ _ _ h,if_neg (by omega)]
theorem Aiu(bits:List Bool)(b:Bool):(bits++[false]).set bits.length b=bits++[b]:=by
 simp
end Hm
end Go.Proofs.YtegnkfdbmmndaaaGreat
namespace Go.Proofs.YtegnkfdbmmndaaaGreat
open Hm
open Go.RowKit
structure Dq(w:World)(T pb:Nat)(v:Value)(bits:List Bool):Prop where
 blk:w.heap[pb]?=some (.cells #[v,.int .i64 (bits.length:Nat)] T (0,0))
 own:w.ownsRow 0 5 1 v ((bits.length+7)/8) (Ag (Ah bits))
 ne:v.ownBlock≠some pb
theorem Dq.kept{S:Nat→Prop}{w w':World}{T pb:Nat}{v:Value}{bits:List Bool}(h:Dq w T pb v bits)(hk:Aa S w w')(h1: ¬S pb)(h2: ∀j,v.ownBlock=some j→ ¬S j):Dq w' T pb v bits:=
 ⟨hk.row h.blk h1,hk.owns h.own h2,h.ne⟩
abbrev Bk(pb:Nat)(v:Value):Nat→Prop:=fun j=>j=pb∨v.ownBlock=some j
theorem Ay{w:World}{base:Nat}{e:TypeId}{size:Nat}{v:Value}{n:Nat}{xs:List Value}(h:w.ownsRow base e size v n xs): ∃a c,v= .slice a n c∧n≤c:=by
 rcases h.2 with⟨rfl,rfl⟩|⟨g,cap,cur,rfl,_,_,hnc,hcm,_⟩
 ·exact⟨none,0,rfl,Ale _⟩
 ·exact⟨_,cap,rfl,hnc⟩
set_option maxHeartbeats 400000 in
theorem Pw(n:Nat)(w:World)(hn:n≤100000000):Calls Tryz.prog 166 #[.int .i64 n] w fun e w'=>e= .returned (.int .i64 ((n+7)/8:Nat))∧w'=w:=by
 go_enter Tryz.func166,Tryz.ntmps166
 go_wp2;go_ret;exact⟨by first|rfl|go_num,rfl⟩
set_option maxHeartbeats 400000 in
theorem Aam(T pb:Nat)(v:Value)(bits:List Bool)(c:Nat)(w:World)(h:Dq w T pb v bits)(hl:bits.length≤10000000)(hc:c≤10000000):
  Calls Tryz.prog 144 #[.pointer (some ⟨pb,0,none⟩),.int .i64 c] w fun e w'=> ∃v',e= .returned (.tuple #[])∧Dq w' T pb v' (bits++List.replicate c false)∧Aa (Bk pb v) w w'∧Cc w v v':=by
 obtain⟨i0,hi,hz0,hz1,hz2⟩:=Amz Ft;have hblk:=h.blk;have hc0:w.cell? ⟨pb,0,none⟩=some v:=Alc _ _ 0 _ _ _ hblk;have hc1:w.cell? ⟨pb,1,none⟩=some (.int .i64 (bits.length:Nat)):=Alc _ _ 1 _ _ _ hblk;have hf1:w.frozen? ⟨pb,1,none⟩=false:=Alk _ _ 1 _ _ hblk;have hb1:=Alf w pb 1 #[v,.int .i64 (bits.length:Nat)] T (.int .i64 ((bits.length:Int)+c)) hblk;have HB:Hid ((w.setCell ⟨pb,1,none⟩ (.int .i64 ((bits.length:Int)+c))).heap[pb]?=some (.cells #[v,.int .i64 ((bits.length:Int)+c)] T (0,0))):=by
  show _=_;simpa using hb1
 clear hblk hb1;have hsize: ∀W,Calls Tryz.prog 166 #[.int .i64 ((bits.length:Int)+(c:Int))] W fun e w'=>e= .returned (.int .i64 ((bits.length+c+7)/8:Nat))∧w'=W:=fun W=>by
  have:=Pw (bits.length+c) W (by omega);rw[show((bits.length+c:Nat):Int)=(bits.length:Int)+(c:Int)from by omega]at this;exact this
 generalize hK:(bits.length+c+7)/8=K at*
 go_enter Tryz.func144,Tryz.ntmps144
 go_wp2
 go_loopg [12] (K-(bits.length+7)/8) (fun k _ wr=> ∃(v':Value) (m:Nat),m+k=K∧(bits.length+7)/8≤m∧wr.heap[pb]?=some (.cells #[v',.int .i64 ((bits.length:Int)+c)] T (0,0))∧
  wr.ownsRow 0 5 1 v' m (Ag (Ah bits++List.replicate (m-(bits.length+7)/8) 0))∧v'.ownBlock≠some pb∧Aa (Bk pb v) w wr∧Cc w v v')
 case atStart=>exact⟨v,(bits.length+7)/8,by omega,Ale _,HB.out,by simpa using ownsRow_setCell_other h.own h.ne _,h.ne,(Aa.refl _ _).setCell (.inr (.inl rfl)) _,Cc.refl _ _⟩
 case round=>
  obtain⟨v',m,hm,hm0,hbr,hor,hne,hkr,hmr⟩:=hrel;have hd0:wr.cell? ⟨pb,0,none⟩=some v':=Alc _ _ 0 _ _ _ hbr;have hd1:wr.cell? ⟨pb,1,none⟩=some (.int .i64 ((bits.length:Int)+c)):=Alc _ _ 1 _ _ _ hbr;have hf0:wr.frozen? ⟨pb,0,none⟩=false:=Alk _ _ 0 _ _ hbr;obtain⟨ao,cp,hv',hcp⟩:=Ay hor;have HV:Hid (v'= .slice ao m cp):=hv';rw[hv']at hd0;have HBr:Hid (wr.heap[pb]?=some (.cells #[v',.int .i64 ((bits.length:Int)+c)] T (0,0))):=hbr;have hmle:m≤3000000:=by omega
  clear hv' hc0 hc1 hf1 HB h hbr
  by_cases hlt:0<gk
  ·have hor2:wr.ownsRow 0 5 1 (.slice ao m cp) m (Ag (Ah bits++List.replicate (m-(bits.length+7)/8) 0)):=by rw[←HV.out];exact hor
   have hu0: ∀j,(Value.slice ao m cp).ownBlock=some j→j<wr.heap.size:=fun j hj=>(hor2.lt j hj).2;have hne2:(Value.slice ao m cp).ownBlock≠some pb:=by rw[←HV.out];exact hne
   have hmr2:Cc w v (.slice ao m cp):=by rw[←HV.out];exact hmr
   have hpw:pb<wr.heap.size:=Alw HBr.out;have HH:Hid (wr.ownsRow 0 5 1 (.slice ao m cp) m (Ag (Ah bits++List.replicate (m-(bits.length+7)/8) 0))∧(∀j,(Value.slice ao m cp).ownBlock=some j→j<wr.heap.size)∧(Value.slice ao m cp).ownBlock≠some pb∧Cc w v (.slice ao m cp)):=⟨hor2,hu0,hne2,hmr2⟩;have hdec:decide (m<K)=true:=Alb (by omega);have HM:Hid (m+gk=K∧(bits.length+7)/8≤m∧0<gk):=⟨hm,hm0,hlt⟩;clear hor hmr hne hor2 hu0 hne2 hmr2 hm hm0 hlt;clear hK;go_wp2_with fail;go_quiet(first|(refine Ams (hsize _)));obtain⟨hor2,hu0,hne2,hmr2⟩:=HH.out;clear hu0
   go_wp2_with(at_builtin;refine A7 _ rfl (.tmp 27) (.tmp 28) 79 rfl 0 5 i0 (.int .u8 0) 1 1 Tryz.underlying79 hi hz0 hz1 hz2 rfl (by decide) _ _ _ rfl (by exact(hor2.alloc _)) ⟨wr.heap.size,0,none⟩ 1 1 [.int .u8 0] rfl rfl ?c1 ?c2 ?c3 ?c4 ?c5 ?_)
   case c1=>exact An9 _ _ _
   case c2=>intro u hu;simp at hu;subst hu;rfl
   case c3=>unfold maxLen;omega
   case c4=>omega
   case c5=>exact Alr _
   intro v2 w1 ho1 hg1 hm1;have hk1:Aa (Bk pb v) w w1:=((hkr.drewN nq).alloc _).grown hg1 (fun k hk=>(hmr2 k hk).elim (fun h=> .inr (.inr h)) .inl);have hmv1:Cc w v v2:=hmr2.trans hm1 (by have:=hkr.size;simp;omega);have hpb1:w1.heap[pb]?=some (.cells #[.slice ao m cp,.int .i64 ((bits.length:Int)+c)] T (0,0)):=by
    rw[hg1.block pb (by simp;omega) (fun e=>hne2 e.symm)];show((wr.alloc _).heap[pb]?)=_;rw[Below.heap_alloc _ _ _ hpw,HBr.out,HV.out]
   have hne3:v2.ownBlock≠some pb:=fun e=>by
    rcases hm1 pb e with h|h
    ·exact hne2 h
    ·simp at h;omega
   have he0:w1.cell? ⟨pb,0,none⟩=some (.slice ao m cp):=Alc _ _ 0 _ _ _ hpb1;have hfr1:w1.frozen? ⟨pb,0,none⟩=false:=Alk _ _ 0 _ _ hpb1;have hb2:=Alf w1 pb 0 _ T v2 hpb1;obtain⟨ao2,cp2,hv2,hcp2⟩:=Ay ho1;subst hv2;have R:Hid (∃(v':Value) (m':Nat),m'+(gk-1)=K∧(bits.length+7)/8≤m'∧(w1.setCell ⟨pb,0,none⟩ (.slice ao2 (m+1) cp2)).heap[pb]?=some (.cells #[v',.int .i64 ((bits.length:Int)+c)] T (0,0))∧
     (w1.setCell ⟨pb,0,none⟩ (.slice ao2 (m+1) cp2)).ownsRow 0 5 1 v' m' (Ag (Ah bits++List.replicate (m'-(bits.length+7)/8) 0))∧v'.ownBlock≠some pb∧Aa (Bk pb v) w (w1.setCell ⟨pb,0,none⟩ (.slice ao2 (m+1) cp2))∧Cc w v v'):=by
    obtain⟨hm,hm0,hlt⟩:=HM.out;refine⟨.slice ao2 (m+1) cp2,m+1,by omega,by omega,by simpa using hb2,?_,hne3,hk1.setCell (.inr (.inl rfl)) _,hmv1⟩;have e:Ag (Ah bits++List.replicate (m+1-(bits.length+7)/8) 0)=Ag (Ah bits++List.replicate (m-(bits.length+7)/8) 0)++[.int .u8 0]:=by
     rw[show m+1-(bits.length+7)/8=m-(bits.length+7)/8+1 from by omega,Ao4,←Alx];simp[Ag]
    rw[e];exact ownsRow_setCell_other ho1 hne3 _
   clear ho1 hg1 hm1 hk1 hmv1 hpb1 hb2 hor2 hne2 hmr2 hne3;go_wp2
   go_roundg (gk-1)
   case measure=>have:=HM.out;omega
   case rel=>exact R.out
  ·have HM:Hid (m=K∧(bits.length+c+7)/8=K):=⟨by omega,hK⟩;have hdec:decide (m<K)=false:=Ald (by omega);clear hlt hm hm0;have HH:Hid (wr.ownsRow 0 5 1 v' m (Ag (Ah bits++List.replicate (m-(bits.length+7)/8) 0))∧v'.ownBlock≠some pb∧Aa (Bk pb v) w wr∧Cc w v v'):=⟨hor,hne,hkr,hmr⟩;clear hor hmr hne hkr hK;go_wp2_with fail;go_quiet(first|(refine Ams (hsize _)));go_wp2
   go_end0
   obtain⟨hor,hne,hkr,hmr⟩:=HH.out;refine⟨v',rfl,⟨?_,?_,hne⟩,hkr.drewN _,hmr⟩
   ·have e:((bits++List.replicate c false).length:Int)=(bits.length:Int)+c:=by simp
    rw[e];exact HBr.out
   ·rw[Qi];have e:(bits++List.replicate c false).length=bits.length+c:=by simp
    rw[e,HM.out.2,←HM.out.1];exact hor
theorem Cf{w:World}{base:Nat}{e:TypeId}{size:Nat}{v:Value}{n:Nat}{xs:List Value}(h:w.ownsRow base e size v n xs)(hn:0<n): ∃g cap,v= .slice (some ⟨g,0,none⟩) n cap∧n≤cap∧g<w.heap.size:=by
 rcases h.2 with⟨rfl,rfl⟩|⟨g,cap,cur,rfl,_,hg,hnc,hcm,_⟩
 ·omega
 ·exact⟨g,cap,rfl,hnc,Alw hg⟩
theorem Hm.Q8{x:Nat}(h:x<256):Value.int .u8 ((UInt8.ofNat x).toNat:Int)= .int .u8 (x:Int):=by
 rw[Ame];congr 2;omega
set_option maxHeartbeats 400000 in
theorem Aen(T pb:Nat)(v:Value)(bits:List Bool)(k:Nat)(w:World)(h:Dq w T pb v bits)(hl:bits.length≤20000000)(hk:k<bits.length):
  Calls Tryz.prog 146 #[.pointer (some ⟨pb,0,none⟩),.int .i64 k] w fun e w'=>e= .returned (.tuple #[])∧Dq w' T pb v (bits.set k true)∧Aa (Bk pb v) w w':=by
 have hown:=h.own;obtain⟨g,cap,hv,hnc,hgw⟩:=Cf hown (by omega);subst hv;have hc0:w.cell? ⟨pb,0,none⟩=some (.slice (some ⟨g,0,none⟩) ((bits.length+7)/8) cap):=Alc _ _ 0 _ _ _ h.blk;have hc1:w.cell? ⟨g,k/8,none⟩=some (.int .u8 (Fv bits (k/8):Nat)):=by
  rw[hown.cellAt (k/8) (by omega)];simp only[Ag,Alu];rw[Ak7 (by rw[A1];omega),Gx];have:=Pv bits (k/8);simp;omega
 have hf1:w.frozen? ⟨g,k/8,none⟩=false:=hown.frozenAt _;have hby:=Pv bits (k/8);have HS:=hown.stored (k/8) (.int .u8 (Fv bits (k/8)|||2^(k%8):Nat));generalize hbb:Fv bits (k/8)=y at*;generalize hnn:(bits.length+7)/8=n at*;have hkn:(k:Int)/8<(n:Int):=by omega
 have HE:Hid (Go.bits .or .u8 (y:Int) ((2:Int)^(k%8)%256)=((y|||2^(k%8):Nat):Int)):=by
  have hp:2^(k%8)<256:=Nat.pow_lt_pow_right (a:=2) (by omega) (by omega:k%8<8);have e1:((2:Int)^(k%8)%256)=((2^(k%8):Nat):Int):=by
   have:((2^(k%8):Nat):Int)=(2:Int)^(k%8):=by simp
   rw[←this];exact Int.emod_eq_of_lt (Int.natCast_nonneg _) (Int.ofNat_lt.2 hp)
  show _=_;rw[e1];exact u8_or_nat _ _ hby hp
 have HR:Hid (Dq (w.setCell ⟨g,k/8,none⟩ (.int .u8 (y|||2^(k%8):Nat))) T pb (.slice (some ⟨g,0,none⟩) n cap) (bits.set k true)):=by
  refine⟨?_,?_,h.ne⟩
  ·have hb:=h.blk;rw[Ano _ _ _ _ (fun e=>h.ne (by rw[e];rfl)),hb];simp
  ·rw[Q7 _ _ hk,hbb];have e:(bits.set k true).length=bits.length:=by simp
   have e2:Ag ((Ah bits).set (k/8) (UInt8.ofNat (y|||2^(k%8))))=(Ag (Ah bits)).set (k/8) (.int .u8 (y|||2^(k%8):Nat)):=by
    have hp:2^(k%8)<256:=Nat.pow_lt_pow_right (a:=2) (by omega) (by omega:k%8<8);have ho:y|||2^(k%8)<2^8:=Nat.or_lt_two_pow (by omega) (by omega);rw[Ag,Anm];rw[Q8 (by omega)];rfl
   rw[e,hnn,e2];exact HS.1
 clear h hown HS hbb hnn
 go_enter Tryz.func146,Tryz.ntmps146
 go_wp2
 go_region
 go_end0
 rw[HE.out];refine⟨rfl,?_,((Aa.refl _ _).setCell (.inr (.inr rfl)) _).drew⟩;exact⟨HR.out.blk,HR.out.own,HR.out.ne⟩
theorem Aan{pb:Nat}{v v':Value}{w w1 w2:World}(h:Aa (Bk pb v) w w1)(hm:Cc w v v')(h2:Aa (Bk pb v') w1 w2):Aa (Bk pb v) w w2:=
 h.trans h2 fun j hj hb=>by
  rcases hb with hb|hb
  ·exact .inl hb
  ·rcases hm j hb with x|x
   ·exact .inr x
   ·omega
set_option maxHeartbeats 400000 in
theorem Akb(T pb:Nat)(v:Value)(bits:List Bool)(w:World)(h:Dq w T pb v bits):
  Calls Tryz.prog 143 #[.pointer (some ⟨pb,0,none⟩)] w fun e w'=>e= .returned (.int .i64 (bits.length:Nat))∧w=w':=by
 have hc1:w.cell? ⟨pb,1,none⟩=some (.int .i64 (bits.length:Nat)):=Alc _ _ 1 _ _ _ h.blk;clear h
 go_enter Tryz.func143,Tryz.ntmps143
 go_wp2;go_ret;exact⟨rfl,rfl⟩
set_option maxHeartbeats 400000 in
theorem Sy(T pb:Nat)(v:Value)(bits:List Bool)(x:Nat)(w:World)(h:Dq w T pb v bits)(hl:bits.length≤9000000)(hx:x≤1):
  Calls Tryz.prog 152 #[.pointer (some ⟨pb,0,none⟩),.int .i64 x] w fun e w'=> ∃v',e= .returned (.tuple #[])∧Dq w' T pb v' (bits++[decide (x=1)])∧Aa (Bk pb v) w w'∧Cc w v v':=by
 have hg:=Aam T pb v bits 1 w h (by omega) (by omega);clear h
 by_cases e:x=1
 ·subst e
  go_enter Tryz.func152,Tryz.ntmps152
  go_wp2_with fail;refine hg.mono ?_;rintro e w1 ⟨v1,rfl,hb1,hk1,hm1⟩;have hs:=Aen T pb v1 (bits++List.replicate 1 false) bits.length w1 hb1 (by simp;omega) (by simp);rw[show(bits++List.replicate 1 false).set bits.length true=bits++[true]from Aiu bits true]at hs;have hc1:w1.cell? ⟨pb,1,none⟩=some (.int .i64 ((bits.length:Int)+1)):=by
   rw[Alc _ _ 1 _ _ _ hb1.blk];simp
  clear hg;go_wp2_with fail;refine hs.mono ?_;rintro e w2 ⟨rfl,hb2,hk2⟩;go_wp2
  go_end0
  exact⟨v1,rfl,hb2,Aan hk1 hm1 hk2,hm1⟩
 ·obtain rfl:x=0:=by omega
  go_enter Tryz.func152,Tryz.ntmps152
  go_wp2_with fail;refine hg.mono ?_;rintro e w1 ⟨v1,rfl,hb1,hk1,hm1⟩;clear hg;go_wp2
  go_end0
  exact⟨v1,rfl,hb1,hk1,hm1⟩
namespace Hm
def At(x k:Nat):List Bool:=(List.range k).map fun i=>decide (x/2^i%2=1)
theorem Dg(x k:Nat):(At x k).length=k:=by simp[At]
theorem Nk(x k:Nat):At x (k+1)=At x k++[decide (x/2^k%2=1)]:=by simp[At,List.range_succ]
theorem Akc(y:Nat)(hy:y<4294967296):Go.bits .and .i64 (y:Int) 1=((y%2:Nat):Int):=by
 show IntKind.i64.wrap ((BitVec.ofInt 64 (y:Int)&&&BitVec.ofInt 64 1).toNat:Int)=_;rw[BitVec.toNat_and,Ao6,BitVec.toNat_ofNat,Anb (by omega:y<2^64),show(BitVec.ofInt 64 1).toNat=1 from rfl,Nat.and_one_is_mod];have:=Nat.mod_lt y (y:=2) (by omega);rw[Al9];omega
end Hm
set_option maxHeartbeats 400000 in
theorem Vf(T pb:Nat)(v:Value)(bits:List Bool)(x k:Nat)(w:World)(h:Dq w T pb v bits)(hl:bits.length≤8000000)(hx:x<4294967296)(hk:k≤60):
  Calls Tryz.prog 142 #[.pointer (some ⟨pb,0,none⟩),.int .i64 x,.int .i64 k] w fun e w'=> ∃v',e= .returned (.tuple #[])∧Dq w' T pb v' (bits++At x k)∧Aa (Bk pb v) w w'∧Cc w v v':=by
 go_enter Tryz.func142,Tryz.ntmps142
 go_wp2
 go_loopw[8] (fun i wr=> ∃(j:Nat) (v':Value),j≤k∧i= .int .i64 j∧Dq wr T pb v' (bits++At x j)∧Aa (Bk pb v) w wr∧Cc w v v') (fun i _=>k-(intOf i).toNat)
 case atStart=>exact⟨0,v,Alr _,rfl,by simpa[At]using h,Aa.refl _ _,Cc.refl _ _⟩
 case round=>
  obtain⟨j,v',hj,rfl,hb,hkr,hmr⟩:=hrel;have hll:(bits++At x j).length≤9000000:=by simp[Dg];omega
  by_cases hlt:j<k
  ·obtain⟨y,hy,hsh,HY⟩: ∃y:Nat,y<4294967296∧(x:Int)/2^j=(y:Int)∧Hid (y=x/2^j):=by
    refine⟨x/2^j,Amx (Anu _ _) hx,?_,rfl⟩;simp
   obtain⟨z,hz⟩: ∃z,y%2=z:=⟨_,rfl⟩;have hab:=Akc y hy;rw[hz]at hab;have HZ:Hid (y%2=z):=hz;have hz1:z≤1:=by omega
   clear h hz;go_wp2_with fail;refine(Sy T pb v' _ z wr hb hll hz1).mono ?_;rintro e w1 ⟨v1,rfl,hb1,hk1,hm1⟩;go_wp2;go_roundw
   case rel=>
    refine⟨j+1,v1,by omega,by go_num,?_,Aan hkr hmr hk1,hmr.trans hm1 hkr.size⟩;rw[Nk,←HY.out,HZ.out,←Alx];exact hb1
   case measure=>simp[intOf];omega
  ·clear h;go_wp2
   go_end0
   obtain rfl:j=k:=by omega
   exact⟨v',rfl,hb,hkr,hmr⟩
theorem Gr{w:World}{base:Nat}{v:Value}{n:Nat}{l:List UInt8}(h:w.ownsRow base 5 1 v n (Ag l)):
  (convert 79 9 v).run Tryz.prog w= .ok (.string ⟨l.toArray⟩) w:=by
 have hl:l.length=n:=by have:=h.1;simpa[Ag]using this
 rcases h.2 with⟨rfl,rfl⟩|⟨g,cap,cur,rfl,_⟩
 ·have:l=[]:=Amj hl;subst this;exact run_convert_bytes_nil w _ _ Tryz.underlying79 Tryz.underlying5 0 0 _ Tryz.underlying9
 ·have hr:=run_convert_bytes_arg w _ _ Tryz.underlying79 Tryz.underlying5 g 0 n cap (l.map fun b=>(b.toNat:Int)) (by simpa using hl) (fun i hi=>by
   have hc:=h.cellAt i (by omega);have hil:i<l.length:=by omega
   simp only[Al7];rw[hc,Ag,Alu,Ak7 hil,Ak6,Alu,Ak7 hil];rfl) _ Tryz.underlying9
  have e:strOfNums (l.map fun b=>(b.toNat:Int))=⟨l.toArray⟩:=by
   unfold strOfNums;rw[List.map_map];have e2:((fun n:Int=>UInt8.ofNat n.toNat)∘fun b:UInt8=>(b.toNat:Int))=id:=by funext b;simp
   rw[e2,List.map_id]
  rw[e]at hr;exact hr
set_option maxHeartbeats 400000 in
theorem Xc(T pb:Nat)(v:Value)(bits:List Bool)(w:World)(h:Dq w T pb v bits):
  Calls Tryz.prog 148 #[.pointer (some ⟨pb,0,none⟩)] w fun e w'=>e= .returned (.agg #[.string ⟨(Ah bits).toArray⟩,.int .i64 (bits.length:Nat)])∧Apd w w':=by
 have hc0:w.cell? ⟨pb,0,none⟩=some v:=Alc _ _ 0 _ _ _ h.blk;have hc1:w.cell? ⟨pb,1,none⟩=some (.int .i64 (bits.length:Nat)):=Alc _ _ 1 _ _ _ h.blk;have hcv: ∀W,Apd w W→(convert 79 9 v).run Tryz.prog W= .ok (.string ⟨(Ah bits).toArray⟩) W:=fun W hk=>Gr (hk.owns h.own fun _ _ h=>h);have hpw:pb<w.heap.size:=Alw h.blk;clear h;generalize(⟨(Ah bits).toArray⟩:ByteArray)=s at*
 go_enter Tryz.func148,Tryz.ntmps148
 go_wp2;have hal:Apd w (w.alloc (.cells #[.string ⟨#[]⟩,.int .i64 0] 83)):=(Aa.refl _ _).alloc _;have hnw:=All w (.cells #[.string ⟨#[]⟩,.int .i64 0] 83);have hne:pb≠w.heap.size:=by omega
 generalize w.alloc (.cells #[.string ⟨#[]⟩,.int .i64 0] 83)=W at*;have p0:W.cell? ⟨pb,0,none⟩=some v:=(hal.cell (p:=⟨pb,0,none⟩) hpw id).trans hc0;have p1:W.cell? ⟨pb,1,none⟩=some (.int .i64 (bits.length:Nat)):=(hal.cell (p:=⟨pb,1,none⟩) hpw id).trans hc1;have p2:W.cell? ⟨w.heap.size,0,none⟩=some (.string ⟨#[]⟩):=Alc _ _ 0 _ _ _ hnw;have p3:W.cell? ⟨w.heap.size,1,none⟩=some (.int .i64 0):=Alc _ _ 1 _ _ _ hnw;have f2:W.frozen? ⟨w.heap.size,0,none⟩=false:=Alk _ _ 0 _ _ hnw;have f3:W.frozen? ⟨w.heap.size,1,none⟩=false:=Alk _ _ 1 _ _ hnw;have hcw:=hcv W hal;have hcw2:=hcv W.drew hal.drew;have HX:Hid (Apd w W∧W.heap[w.heap.size]?=some (.cells #[.string ⟨#[]⟩,.int .i64 0] 83 (0,0))):=⟨hal,hnw⟩;clear hal hnw hcv hc0 hc1
 go_region
 go_wp2;obtain⟨hal,hnw⟩:=HX.out;have h2:=Alf _ _ 1 _ _ (.int .i64 (bits.length:Nat)) (Alf _ _ 0 _ _ (.string s) hnw);refine Amo (v:= .agg #[.string s,.int .i64 (bits.length:Nat)]) (Am3 Tryz.results148 _ _ w.heap.size 83 _ (0,0) _ rfl h2 Tryz.underlying83 rfl (by kernel_rfl)) rfl ⟨rfl,?_⟩;exact((hal.setCell (.inl (Ale _)) _).setCell (.inl (Ale _)) _).drew
set_option maxHeartbeats 400000 in
theorem J5(pb o:Nat)(s:ByteArray)(w:World)(h:w.cell? ⟨pb,o,none⟩=some (.string s)):
  Calls Tryz.prog 104 #[.pointer (some ⟨pb,o,none⟩)] w fun e w'=>e= .returned (.string s)∧w'=w:=by
 go_enter Tryz.func104,Tryz.ntmps104
 go_wp2;go_ret;exact⟨rfl,rfl⟩
set_option maxHeartbeats 400000 in
theorem Tm(pb o n:Nat)(w:World)(h:w.cell? ⟨pb,o+1,none⟩=some (.int .i64 n)):
  Calls Tryz.prog 182 #[.pointer (some ⟨pb,o,none⟩)] w fun e w'=>e= .returned (.int .i64 n)∧w'=w:=by
 go_enter Tryz.func182,Tryz.ntmps182
 go_wp2;go_ret;exact⟨rfl,rfl⟩
namespace Hm
def Do(m n:Nat):Nat→Nat→Nat
 |0,j=>j
 |f+1,j=>if m*2^(j+1)≤n then Do m n f (j+1)else j
def By(m n:Nat):Nat:=if m=0 then 0 else Do m n 14 0
def Co(es:List Nat)(l:Nat):List Bool:=es.flatMap fun e=>At e l
def Fu(es:List Nat)(l h:Nat)(R:List Bool):Nat→List Bool
 |0=>R
 |k+1=>(Fu es l h R k).set (h+es.getD k 0/2^l+k) true
def Bf(es:List Nat)(n:Nat):List Bool:=
 Fu es (By es.length n) (Co es (By es.length n)).length (Co es (By es.length n)++List.replicate (es.length+n/2^By es.length n+1) false) es.length
theorem J6(es:List Nat)(l h:Nat)(R:List Bool)(k:Nat):(Fu es l h R k).length=R.length:=by
 induction k with
 |zero=>rfl
 |succ k ih=>simp[Fu,ih]
theorem Hc(es:List Nat)(l:Nat):(Co es l).length=es.length*l:=by
 induction es with
 |nil=>simp[Co]
 |cons e r ih=>simp only[Co,Amg,Alg,Dg,Amc]at ih⊢;rw[ih,Anv];omega
theorem Tn(es:List Nat)(l k:Nat)(h:k<es.length):Co (es.take (k+1)) l=Co (es.take k) l++At es[k] l:=by
 rw[Ali h];unfold Co;rw[Ana];congr 1;simp
theorem Ae6(m n:Nat)(hm:1≤m)(hn:n≤6000): ∀f j,j≤12→Do m n f j≤12:=by
 intro f;induction f with
 |zero=>intro j hj;exact hj
 |succ f ih=>
  intro j hj;unfold Do;split
  ·rename_i h;refine ih (j+1) ?_;rcases Am7 j 12 with h1|h1
   ·omega
   ·have:j=12:=by omega
    subst this;have:1*2^13≤m*2^13:=Anj _ hm;omega
  ·exact hj
theorem Ni(m n:Nat)(hn:n≤6000):By m n≤12:=by
 unfold By;split
 ·omega
 ·exact Ae6 m n (by omega) hn 14 0 (by omega)
end Hm
set_option maxHeartbeats 400000 in
theorem Aao(m n:Nat)(w:World)(hm:m≤1000)(hn:n≤6000):
  Calls Tryz.prog 141 #[.int .i64 m,.int .i64 n] w fun e w'=>e= .returned (.int .i64 (By m n:Nat))∧w=w':=by
 by_cases h0:m=0
 ·subst h0
  go_enter Tryz.func141,Tryz.ntmps141
  go_wp2;go_ret;exact⟨rfl,rfl⟩
 have HE:Hid (By m n=Do m n (14-0) 0):=by unfold By;rw[if_neg h0];rfl
 generalize By m n=L at HE⊢;have h1:1≤m:=by omega
 have hb0:((m:Int)==0)=false:=by simp;omega
 go_enter Tryz.func141,Tryz.ntmps141
 go_wp2
 go_loop [5] (fun i=> ∃j:Nat,j≤12∧i= .int .i64 j∧m*2^j≤6000+m∧L=Do m n (14-j) j) (fun i=>14-(intOf i).toNat)
 case atStart=>exact⟨0,by omega,rfl,by omega,HE.out⟩
 case round=>
  clear HE;obtain⟨j,hj,rfl,hp,hL⟩:=hrel;have HL:Hid (L=if m*2^(j+1)≤n then Do m n (13-j) (j+1)else j):=by
   show _=_;rw[hL,show 14-j=(13-j)+1 from by omega];rfl
  have e2:m*2^(j+1)=m*2^j*2:=by rw[Amv,Aot]
  obtain⟨p,hpe,HP⟩: ∃p:Nat,(m:Int)*2^(j+1)=(p:Int)∧Hid (p=m*2^(j+1)):=⟨m*2^(j+1),by simp,rfl⟩;have hpb:p≤14000:=by have:=HP.out;omega
  have hj2:p≤n→j<12:=by
   intro hpn;rcases Am7 j 12 with h|h
   ·exact h
   ·have:j=12:=by omega
    subst this;have h3:=HP.out;have:1*2^13≤m*2^13:=Anj _ h1;omega
  have HJ:Hid ((p≤n→j<12)∧m*2^j≤6000+m):=⟨hj2,hp⟩;clear hL hp e2 hj2
  by_cases hpn:p≤n
  ·go_wp2
   go_round
   case rel=>
    have h3:=HP.out;refine⟨j+1,by have:=HJ.out.1 hpn;omega,by go_num,by rw[←h3];omega,?_⟩;rw[HL.out,if_pos (by omega)];congr 1;omega
   case measure=>simp[intOf];omega
  ·go_wp2;go_ret;have h3:=HP.out;refine⟨?_,rfl⟩;have:L=j:=by rw[HL.out,if_neg (by omega)]
   rw[this];rfl
def Jn(w:World)(ao:Option Addr)(es:List Nat):Prop:=
 ∀i,(h:i<es.length)→ ∃b o,ao=some ⟨b,o,none⟩∧b<w.heap.size∧w.cell? ⟨b,o+i,none⟩=some (.int .i64 (es[i]:Nat))
theorem Jn.kept{S:Nat→Prop}{w w':World}{ao:Option Addr}{es:List Nat}(h:Jn w ao es)(hk:Aa S w w')(hn: ∀a,ao=some a→ ¬S a.block):Jn w' ao es:=by
 intro i hi;obtain⟨b,o,e,hb,h1⟩:=h i hi;have hs:=hn _ e;exact⟨b,o,e,by have:=hk.size;omega,(hk.cell (p:=⟨b,o+i,none⟩) hb hs).trans h1⟩
theorem Aap(w:World)(T:Nat)(o:Obj):Dq ((w.alloc o).alloc (.cells #[.slice none 0 0,.int .i64 0] T)) T (w.heap.size+1) (.slice none 0 0) []:=
 ⟨Anx w _ _,Aoe _ _ _ _,by simp[Value.ownBlock]⟩
theorem Jo:(Tryz.prog.info? 3).map (fun i=>(i.zero,i.size,i.bytes))=some (some (.int .i64 0),1,8):=by kernel_rfl
def Ac(l:List Nat):List Value:=l.map fun x=>Value.int .i64 (x:Nat)
def IntRow(w:World)(g:Nat)(l:List Nat):Prop:=w.heap[g]?=some (.cells (Ac l).toArray 3 (0,0))
theorem IntRow.cell{w:World}{g:Nat}{l:List Nat}(h:IntRow w g l){i:Nat}(hi:i<l.length):w.cell? ⟨g,i,none⟩=some (.int .i64 (l[i]:Nat)):=by
 rw[Alc _ _ i _ _ _ h];simp[Ac,hi]
theorem IntRow.free{w:World}{g:Nat}{l:List Nat}(h:IntRow w g l)(i:Nat):w.frozen? ⟨g,i,none⟩=false:=Alk _ _ i _ _ h
theorem IntRow.set{w:World}{g:Nat}{l:List Nat}(h:IntRow w g l)(i x:Nat):IntRow (w.setCell ⟨g,i,none⟩ (.int .i64 (x:Nat))) g (l.set i x):=by
 have h2:=Alf w g i _ _ (.int .i64 (x:Nat)) h;unfold IntRow;rw[h2];congr 2;apply Am6;simp[Ac,List.map_set]
theorem IntRow.lt{w:World}{g:Nat}{l:List Nat}(h:IntRow w g l):g<w.heap.size:=Alw h
theorem IntRow.at{w:World}{g:Nat}{l:List Nat}(h:IntRow w g l):Jn w (some ⟨g,0,none⟩) l:=fun i hi=>⟨g,0,rfl,h.lt,by rw[Al7];exact h.cell hi⟩
theorem IntRow.kept{S:Nat→Prop}{w w':World}{g:Nat}{l:List Nat}(h:IntRow w g l)(hk:Aa S w w')(hn: ¬S g):IntRow w' g l:=hk.row h hn
theorem IntRow.made{w':World}{g n:Nat}{base:Nat}(h:w'.ownsRow base 3 1 (.slice (some ⟨g,0,none⟩) n n) n (madeCells (Value.int .i64 0).cells (n*1)).toList):IntRow w' g (List.replicate n 0):=by
 rcases h.2 with⟨h1,_⟩|⟨g2,cap,cur,h1,_,hg,_,_,hs,ht⟩
 ·cases h1
 ·cases h1;unfold IntRow;rw[hg];congr 2;apply Am6;have e:cur.toList.take (n*1)=cur.toList:=Al8 (by simp;omega);rw[←e,ht,An3,show(Value.int .i64 0).cells= #[Value.int .i64 0]from rfl,An7];simp[Ac]
namespace Hm
def Le(s:List UInt8):List Nat:=(s.map fun b=>b.toNat+1)++[0]
def Gu(s:List UInt8)(k:Nat):List Nat:=((s.take k).map fun b=>b.toNat+1)++List.replicate (s.length+1-k) 0
theorem Xd(s:List UInt8)(k:Nat)(h:k≤s.length):(Gu s k).length=s.length+1:=by simp[Gu];omega
theorem Aaq(s:List UInt8)(k:Nat)(h:k<s.length):Gu s (k+1)=(Gu s k).set k (s[k].toNat+1):=by
 have hl:((s.take k).map fun b=>b.toNat+1).length=k:=by simp;omega
 rw[Gu,Gu,Amt _ _ (by omega),hl,Amr,Ali h,Am9,Alx];congr 1;rw[show s.length+1-k=(s.length+1-(k+1))+1 from by omega,Anf];rfl
theorem Acz(s:List UInt8):Gu s s.length=Le s:=by simp[Gu,Le]
end Hm
set_option maxHeartbeats 400000 in
theorem Xe(s:ByteArray)(w:World)(hs:s.size≤6000):
  Calls Tryz.prog 132 #[.string s] w fun e w'=>e= .returned (.slice (some ⟨w.heap.size,0,none⟩) (s.size+1) (s.size+1))∧IntRow w' w.heap.size (Le s.data.toList)∧Apd w w':=by
 obtain⟨i0,hi,hz0,hz1,hz2⟩:=Amz Jo;have hsl:s.data.toList.length=s.size:=by simp
 go_enter Tryz.func132,Tryz.ntmps132
 go_wp2_with(at_make;refine Ane _ rfl (.tmp 7) (.tmp 7) 64 rfl w.heap.size 3 i0 (.int .i64 0) 1 Tryz.underlying64 hi hz0 hz1 .i64 .i64 _ _ (s.size+1) rfl rfl (by omega) (by omega) (by rw[hz2];omega) (by unfold maxLen;omega) (Ale _) ?_;intro w1 ho1 hg1)
 have hr1:IntRow w1 w.heap.size (Gu s.data.toList 0):=by
  have:=IntRow.made ho1;simpa[Gu]using this
 have hk1:Apd w w1:=(Aa.refl _ _).grown hg1 (fun k hk=>by cases hk);clear ho1 hg1
 go_loopw[11] (fun i wr=> ∃k:Nat,k≤s.size∧i= .int .i64 k∧IntRow wr w.heap.size (Gu s.data.toList k)∧Apd w wr) (fun i _=>s.size-(intOf i).toNat)
 case atStart=>exact⟨0,Alr _,rfl,hr1,hk1⟩
 case round=>
  clear hr1 hk1;obtain⟨k,hk,rfl,hr,hkr⟩:=hrel
  by_cases hlt:k<s.size
  ·have hlr:=Xd s.data.toList k (by omega);have hc:=hr.cell (i:=k) (by omega);have hf:=hr.free k;have HS:Hid (IntRow (wr.setCell ⟨w.heap.size,k,none⟩ (.int .i64 ((s[k].toNat+1:Nat):Int))) w.heap.size (Gu s.data.toList (k+1))):=by
    show IntRow _ _ _;rw[Aaq _ _ (by omega)];exact hr.set k _
   rw[show((s[k].toNat+1:Nat):Int)=(s[k].toNat:Int)+1 from by omega]at HS;have hby:s[k].toNat<256:=s[k].toNat_lt;generalize(Gu s.data.toList k)[k]'(by omega)=old at hc;clear hr hlr hsl;go_wp2;go_roundw
   case rel=>exact⟨k+1,by omega,by go_num,HS.out,hkr.setCell (.inl (Ale _)) _⟩
   case measure=>simp[intOf];omega
  ·go_wp2;go_ret;obtain rfl:k=s.size:=by omega
   refine⟨rfl,?_,hkr⟩;rw[←hsl,Acz]at hr;exact hr
end Go.Proofs.YtegnkfdbmmndaaaGreat
