import Derived.Test.YtegnkfdbmmndaaaGreatJ07

set_option maxHeartbeats 8000000
namespace Go.Proofs.YtegnkfdbmmndaaaGreat
open Hm Go.Proofs.Tryz Go.RowKit
structure Ew(w:World)(pb o:Nat)(s:ByteArray)(len g ng nc:Nat)(nds:List Hm.Nd):Prop where
 bits:Cs w pb o s len g
 nodes:w.cell? ⟨pb,o+515,none⟩=some (.slice (some ⟨ng,0,none⟩) nds.length nc)
 nod:w.ownsRow 0 195 9 (.slice (some ⟨ng,0,none⟩) nds.length nc) nds.length (Be nds)
theorem Ew.kept{S:Nat→Prop}{w w':World}{pb o len g ng nc:Nat}{s:ByteArray}{nds:List Hm.Nd}(h:Ew w pb o s len g ng nc nds)(hk:Aa S w w')(h1: ¬S pb)(h2: ¬S g)(a: ¬S ng):Ew w' pb o s len g ng nc nds:=
 have c:pb<w.heap.size:=Ank _ _ h.nodes
 ⟨h.bits.kept hk h1 h2,(hk.cell (p:=⟨pb,o+515,none⟩) c h1).trans h.nodes,hk.owns h.nod (fun j b=>by have e1:ng=j:=An0 b;rw[←e1];exact a)⟩
namespace Hm
def F6(f:Nat→Bool)(nds:List Nd)(j sd at':Nat):Nat:=
 if sd=0 then at'-(rk f ((Ab nds j).frm+at')-rk f (Ab nds j).frm)else rk f ((Ab nds j).frm+at')-rk f (Ab nds j).frm
end Hm
theorem Wm(hones:Bd)(pb o len g ng nc:Nat)(s:ByteArray)(nds:List Hm.Nd)(b:Hm.Br)(sd at':Nat)(w:World)(h:Ew w pb o s len g ng nc nds)(hb:b.node<nds.length)(Z:sd<2)(r:(Ab nds b.node).frm+at'≤8*s.size)(hs:s.size≤1000000)(_hnl:nds.length≤255):
  Calls prog 124 #[.pointer (some ⟨pb,o,none⟩),.agg (Dz b).toArray,.int .i64 sd,.int .i64 at'] w fun e w'=>e= .returned (.tuple #[.agg (Dz ((Ab nds b.node).br sd)).toArray,.int .i64 (F6 (Am s.data.toList) nds b.node sd at':Nat)])∧Ara w w':=by
 obtain⟨j,R⟩: ∃j,j=b.node:=⟨_,rfl⟩;rw[←R]at hb r⊢;obtain⟨W0,m⟩: ∃W0,W0=(w.alloc (.cells (Dz b).toArray 192)).alloc (.cells #[.bool false,.int .u8 0,.int .i64 0] 192):=⟨_,rfl⟩;have F:Ara w W0:=by rw[m];exact((Aa.refl _ _).alloc _).alloc _
 have J:W0.heap[w.heap.size]?=some (.cells (Dz b).toArray 192 (0,0)):=by rw[m];exact Apb w _ _
 have f:W0.heap[w.heap.size+1]?=some (.cells #[.bool false,.int .u8 0,.int .i64 0] 192 (0,0)):=by rw[m];exact Apc w _ _
 have G:=h.kept F id id id;have S:Hid ((w.alloc (.cells (Dz b).toArray 192)).alloc (.cells #[.bool false,.int .u8 0,.int .i64 0] 192)=W0):=m.symm;have Q:=Vt G.nod rfl hb;have M:=fun i hi=>Hv G.nod rfl hb i hi;have u:=Qt (Am s.data.toList) ((Ab nds j).frm+at');have z:=Yb (Am s.data.toList) (show(Ab nds j).frm≤(Ab nds j).frm+at' from by omega);have y:=Ln (Am s.data.toList) (show(Ab nds j).frm≤(Ab nds j).frm+at' from by omega);have n:=fun W (P:Cs W pb o s len g)=>Ij hones pb o g len ((Ab nds j).frm+at') s W P r (by omega);have t:=fun W (P:Cs W pb o s len g)=>Ij hones pb o g len (Ab nds j).frm s W P (by omega) (by omega);have c515:=G.nodes;have cn:W0.cell? ⟨w.heap.size,2,none⟩=some (.int .i64 (j:Nat)):=by rw[R];exact Am7 _ _ 2 _ _ _ J
 have r0:W0.cell? ⟨w.heap.size+1,0,none⟩=some (.bool false):=Am7 _ _ 0 _ _ _ f;have r1:W0.cell? ⟨w.heap.size+1,1,none⟩=some (.int .u8 0):=Am7 _ _ 1 _ _ _ f;have r2:W0.cell? ⟨w.heap.size+1,2,none⟩=some (.int .i64 0):=Am7 _ _ 2 _ _ _ f;have f0:W0.frozen? ⟨w.heap.size+1,0,none⟩=false:=Ang _ _ 0 _ _ f;have f1:W0.frozen? ⟨w.heap.size+1,1,none⟩=false:=Ang _ _ 1 _ _ f;have f2:W0.frozen? ⟨w.heap.size+1,2,none⟩=false:=Ang _ _ 2 _ _ f;have k:Hid (F6 (Am s.data.toList) nds j sd at'=if sd=0 then at'-(Hm.rk (Am s.data.toList) ((Ab nds j).frm+at')-Hm.rk (Am s.data.toList) (Ab nds j).frm)else Hm.rk (Am s.data.toList) ((Ab nds j).frm+at')-Hm.rk (Am s.data.toList) (Ab nds j).frm):=rfl;obtain⟨fr,A⟩: ∃x,x=(Ab nds j).frm:=⟨_,rfl⟩;rw[←A]at Q r u z y n t k;obtain⟨R1,H⟩: ∃x,x=Hm.rk (Am s.data.toList) (fr+at'):=⟨_,rfl⟩;obtain⟨R2,I⟩: ∃x,x=Hm.rk (Am s.data.toList) fr:=⟨_,rfl⟩;rw[←H]at u z y n k;rw[←I]at z y t k;obtain⟨fa,L⟩: ∃x,x=fr+at':=⟨_,rfl⟩;obtain⟨dd,K⟩: ∃x,x=R1-R2:=⟨_,rfl⟩;rw[←L]at n u r;rw[←K]at k;have zfa:(fr:Int)+(at':Int)=(fa:Int):=by omega
 have zdd:(R1:Int)-(R2:Int)=(dd:Int):=by omega
 have aa:IntKind.i64.wrap (fa:Int)=(fa:Int):=by rw[An9];omega
 have ac:IntKind.i64.wrap (dd:Int)=(dd:Int):=by rw[An9];omega
 have V:dd≤at':=by omega
 have B:Hid (Ew W0 pb o s len g ng nc nds∧Ara w W0∧W0.heap[w.heap.size+1]?=some (.cells #[.bool false,.int .u8 0,.int .i64 0] 192 (0,0))):=⟨G,F,f⟩;have D:Hid _:=n;have E:Hid _:=t;have d:Hid (∀i,i<9→W0.cell? ⟨ng,j*9+i,none⟩=(Ch (Ab nds j))[i]?):=M;have X:(j:Int)<(nds.length:Int):=by omega
 have Y:pb<w.heap.size:=Ank _ _ h.nodes;have T:ng<w.heap.size:=(h.nod.lt ng rfl).2;clear h G F J f M n t H I A m R L K u z y
 go_enter func124,ntmps124
 go_upto_region 1 with fail
 rw[S.o];clear S;go_quiet(fail);have q:Hid (Ara W0 (W0.drewN nq)):=(Aa.refl _ _).drewN _;generalize W0.drewN nq=W1 at q⊢;go_wp2_with fail;go_quiet(first
  |(go_at_call_of 126 (Value.int .i64 (fa:Int));refine Aol (D.o _ ?_);exact(B.o.1.kept (q.o.drewN _) id id id).bits)
  |(go_at_call_of 126 (Value.int .i64 (fr:Int));refine Aol (E.o _ ?_);exact(B.o.1.kept (q.o.drewN _) id id id).bits))
 have l:Hid (Ara W0 (W1.drewN nq)):=q.o.drewN _;generalize W1.drewN nq=W2 at l⊢;have a:=l.o;have O:w.heap.size+2≤W0.heap.size:=by have:=Anu B.o.2.2;omega
 have c:ng<W0.heap.size:=by omega
 have c515:=(a.cell (p:=⟨pb,o+515,none⟩) (show pb<_ from by omega) id).trans c515;have cn:=(a.cell (p:=⟨w.heap.size,2,none⟩) (show w.heap.size<_ from by omega) id).trans cn;have r0:=(a.cell (p:=⟨w.heap.size+1,0,none⟩) (show w.heap.size+1<_ from by omega) id).trans r0;have r1:=(a.cell (p:=⟨w.heap.size+1,1,none⟩) (show w.heap.size+1<_ from by omega) id).trans r1;have r2:=(a.cell (p:=⟨w.heap.size+1,2,none⟩) (show w.heap.size+1<_ from by omega) id).trans r2;have f0:=(a.frozen (p:=⟨w.heap.size+1,0,none⟩) (show w.heap.size+1<_ from by omega) id).trans f0;have f1:=(a.frozen (p:=⟨w.heap.size+1,1,none⟩) (show w.heap.size+1<_ from by omega) id).trans f1;have f2:=(a.frozen (p:=⟨w.heap.size+1,2,none⟩) (show w.heap.size+1<_ from by omega) id).trans f2;clear O;rcases(show sd=0∨sd=1 from by omega)with rfl|rfl
 ·have n3:=(a.cell (p:=⟨ng,j*9+3,none⟩) c id).trans (d.o 3 (by omega));have n4:=(a.cell (p:=⟨ng,j*9+4,none⟩) c id).trans (d.o 4 (by omega));have n5:=(a.cell (p:=⟨ng,j*9+5,none⟩) c id).trans (d.o 5 (by omega));have e3:(Ch (Ab nds j))[3]?=some (.bool (Ab nds j).b0.whole):=rfl;have e4:(Ch (Ab nds j))[4]?=some (.int .u8 ((Ab nds j).b0.val.toNat:Nat)):=rfl;have e5:(Ch (Ab nds j))[5]?=some (.int .i64 ((Ab nds j).b0.node:Nat)):=rfl;rw[e3]at n3;rw[e4]at n4;rw[e5]at n5;have C:Hid ((Dz ((Ab nds j).br 0)).toArray= #[.bool (Ab nds j).b0.whole,.int .u8 ((Ab nds j).b0.val.toNat:Nat),.int .i64 ((Ab nds j).b0.node:Nat)]):=rfl;generalize(Ab nds j).b0.whole=x0 at*;generalize(Ab nds j).b0.val.toNat=x1 at*;generalize(Ab nds j).b0.node=x2 at*;clear d D E e3 e4 e5 a;obtain⟨qq,N⟩: ∃x,x=at'-dd:=⟨_,rfl⟩;have zqq:(at':Int)-(dd:Int)=(qq:Int):=by omega
  have ab:IntKind.i64.wrap (qq:Int)=(qq:Int):=by rw[An9];omega
  have U:Hid (qq=at'-dd):=N;clear N;go_wp2_with fail
  go_region
  go_wp2_with fail;have h2:=Anb _ _ 2 _ _ (.int .i64 (x2:Nat)) (Anb _ _ 1 _ _ (.int .u8 (x1:Nat)) (Anb _ _ 0 _ _ (.bool x0) (l.o.row B.o.2.2 id)));refine Aok (v:= .tuple #[.agg #[.bool x0,.int .u8 (x1:Nat),.int .i64 (x2:Nat)],.int .i64 (qq:Nat)]) (Df results124 _ _ (w.heap.size+1) 192 _ (0,0) _ rfl h2 underlying192 rfl (by kernel_rfl)) rfl ⟨?_,?_⟩
  ·rw[C.o,show F6 (Am s.data.toList) nds j 0 at'=qq from k.o.trans U.o.symm]
  ·exact((((B.o.2.1.trans l.o (fun _ _ h=>h)).setCell (.inl (Nat.le_succ _)) _).setCell (.inl (Nat.le_succ _)) _).setCell (.inl (Nat.le_succ _)) _).drew
 ·have n3:=(a.cell (p:=⟨ng,j*9+6,none⟩) c id).trans (d.o 6 (by omega));have n4:=(a.cell (p:=⟨ng,j*9+7,none⟩) c id).trans (d.o 7 (by omega));have n5:=(a.cell (p:=⟨ng,j*9+8,none⟩) c id).trans (d.o 8 (by omega));have e3:(Ch (Ab nds j))[6]?=some (.bool (Ab nds j).b1.whole):=rfl;have e4:(Ch (Ab nds j))[7]?=some (.int .u8 ((Ab nds j).b1.val.toNat:Nat)):=rfl;have e5:(Ch (Ab nds j))[8]?=some (.int .i64 ((Ab nds j).b1.node:Nat)):=rfl;rw[e3]at n3;rw[e4]at n4;rw[e5]at n5;have C:Hid ((Dz ((Ab nds j).br 1)).toArray= #[.bool (Ab nds j).b1.whole,.int .u8 ((Ab nds j).b1.val.toNat:Nat),.int .i64 ((Ab nds j).b1.node:Nat)]):=rfl;generalize(Ab nds j).b1.whole=x0 at*;generalize(Ab nds j).b1.val.toNat=x1 at*;generalize(Ab nds j).b1.node=x2 at*;clear d D E e3 e4 e5 a;go_wp2_with fail
  go_region
  go_wp2_with fail;have h2:=Anb _ _ 2 _ _ (.int .i64 (x2:Nat)) (Anb _ _ 1 _ _ (.int .u8 (x1:Nat)) (Anb _ _ 0 _ _ (.bool x0) (l.o.row B.o.2.2 id)));refine Aok (v:= .tuple #[.agg #[.bool x0,.int .u8 (x1:Nat),.int .i64 (x2:Nat)],.int .i64 (dd:Nat)]) (Df results124 _ _ (w.heap.size+1) 192 _ (0,0) _ rfl h2 underlying192 rfl (by kernel_rfl)) rfl ⟨?_,?_⟩
  ·rw[C.o,show F6 (Am s.data.toList) nds j 1 at'=dd from k.o]
  ·exact((((B.o.2.1.trans l.o (fun _ _ h=>h)).setCell (.inl (Nat.le_succ _)) _).setCell (.inl (Nat.le_succ _)) _).setCell (.inl (Nat.le_succ _)) _).drew
end Go.Proofs.YtegnkfdbmmndaaaGreat
namespace Go.Proofs.YtegnkfdbmmndaaaGreat
open Hm Go.Proofs.Tryz
namespace Hm
theorem N6{α:Type}(p:α→Bool)(l:List α)(q:Nat):(l.filter p).take ((l.take q).countP p)=(l.take q).filter p:=by
 have e:l.filter p=(l.take q).filter p++(l.drop q).filter p:=by rw[←Ao8,Ao5]
 rw[e,Apv,Aqq]
theorem Wn(p:UInt8→Bool)(l:Arc)(q:Nat)(a:q<l.length)(b:p (l.getD q 0)=true):(l.filter p).getD ((l.take q).countP p) 0=l.getD q 0∧(l.take q).countP p<(l.filter p).length:=by
 have e:l.filter p=(l.take q).filter p++l.getD q 0::(l.drop (q+1)).filter p:=by
  conv=>lhs;rw[←Ao5 q l]
  rw[Ao8,An7 a,Am4,Am5 a,Aps];rw[Am4,Am5 a,Aps]at b;rw[Aq9 b]
 rw[e,Apv];constructor
 ·rw[Am4,Ans (Ane _),Aoy];rfl
 ·rw[Anf,An8];omega
theorem Acg(f:Nat→Bool)(s:Nat)(l:Arc)(g:UInt8→Nat)(hb: ∀p,p<l.length→f (s+p)=decide (g (l.getD p 0)=1)): ∀q,q≤l.length→rk f (s+q)-rk f s=(l.take q).countP (fun b=>g b==1)
 |0,_=>by simp
 |q+1,d=>by
  have ih:=Acg f s l g hb q (by omega);have c:=Ln f (Aqv s q);have e:rk f (s+(q+1))=rk f (s+q)+(f (s+q)).toNat:=rfl;have h1:=hb q (by omega);have e2:l.take (q+1)=l.take q++[l.getD q 0]:=by
   rw[List.take_add_one,Am4,Am5 (show q<l.length by omega)];rfl
  rw[e,e2,Apd,←ih,h1];have e3:List.countP (fun b=>g b==1) [l.getD q 0]=(decide (g (l.getD q 0)=1)).toNat:=by
   rw[Aox,Aq5]
   by_cases a:g (l.getD q 0)=1
   ·rw[a];rfl
   ·rw[Anc a,show(g (l.getD q 0)==1)=false from by simpa using a];rfl
  rw[e3];omega
theorem Aha(l:Arc)(g:UInt8→Nat)(a: ∀b,g b<2):l.countP (fun b=>g b==0)+l.countP (fun b=>g b==1)=l.length:=by
 induction l with
 |nil=>rfl
 |cons b r ih=>
  have:=a b;rw[Aox,Aox,An8];rcases(show g b=0∨g b=1 by omega)with e|e<;>rw[e]<;>simp<;>omega
section
variable {M:Nat} {ln num:UInt8→Nat} {o:Arc} {nds:List Nd} {f:Nat→Bool} {col:Arc}
theorem Rep.ahead(h:Rep ln num f nds col){n q u:Nat}(hn:n<nds.length)(c:q≤(Ab nds n).siz)(d:u<2):
  F6 f nds n u q=((Ap ln num nds col n).take q).countP fun b=>At ln num (Ab nds n).depth b==u:=by
 have hs:=h.siz n hn;have key:=Acg f (Ab nds n).frm (Ap ln num nds col n) (At ln num (Ab nds n).depth) (fun p a=>h.bit n p hn (by omega)) q (by omega);have K0:=Aha ((Ap ln num nds col n).take q) (At ln num (Ab nds n).depth) (Fg ln num _);rw[Anp,Ap7 (by omega)]at K0;unfold F6;rcases(show u=0∨u=1 by omega)with rfl|rfl
 ·rw[if_pos rfl,key];omega
 ·rw[if_neg (by omega),key]
structure Way(ln num:UInt8→Nat)(nds:List Nd)(col:Arc)(a n q:Nat):Prop where
 lt:n<nds.length
 at':q<(Ap ln num nds col n).length
 byte:(Ap ln num nds col n).getD q 0=col.getD a 0
 cnt:((Ap ln num nds col n).take q).count (col.getD a 0)=(col.take a).count (col.getD a 0)
theorem Way.start(h:Bo M ln o nds)(f: ∀b∈col,b∈o)(d: ∀b∈o,0<ln b)(c: ∀b∈o,num b<2^ln b){a:Nat}(g:a<col.length):Way ln num nds col a 0 a:=by
 have e:Ap ln num nds col 0=col:=by
  unfold Ap;refine List.filter_eq_self.2 fun b hb=>Ana ⟨by rw[h.root.1];exact d b (f b hb),?_⟩;rw[h.root.1,h.root.2,Aqp];exact Nat.div_eq_of_lt (c b (f b hb))
 exact⟨h.more,by rw[e];exact g,by rw[e],by rw[e]⟩
theorem Way.step(r:Rep ln num f nds col)(h:Bo M ln o nds)(hk:Hc M ln num o)(l: ∀b∈col,b∈o){a n q:Nat}(w:Way ln num nds col a n q):
  ∃u,u<2∧f ((Ab nds n).frm+q)=decide (u=1)∧
   (((Ab nds n).br u={whole:=true,val:=col.getD a 0}∧F6 f nds n u q=(col.take a).count (col.getD a 0))∨
    ∃m,0<m∧n<m∧(Ab nds n).br u={node:=m}∧Way ln num nds col a m (F6 f nds n u q)):=by
 have hs:=r.siz n w.lt;have k:=Fg ln num (Ab nds n).depth (col.getD a 0);refine⟨At ln num (Ab nds n).depth (col.getD a 0),k,?_,?_⟩
 ·rw[r.bit n q w.lt (by have:=w.at';omega),w.byte]
 ·have ea:=r.ahead w.lt (show q≤_ by have:=w.at';omega) k;have j:col.getD a 0∈Ap ln num nds col n:=by
   rw[←w.byte,Am4,Am5 w.at'];exact Anm _
  obtain⟨g,i⟩:=List.mem_filter.1 j;obtain⟨u,c⟩: ∃u,u=At ln num (Ab nds n).depth (col.getD a 0):=⟨_,rfl⟩;rw[←c]at k ea⊢;have v:(fun b=>At ln num (Ab nds n).depth b==u) ((Ap ln num nds col n).getD q 0)=true:=by
   show(_==u)=true;rw[w.byte,c];exact Aqa _
  have t:=Wn (fun b=>At ln num (Ab nds n).depth b==u) (Ap ln num nds col n) q w.at' v;cases h.good n u w.lt k with
  |leaf kk e e1 e2 e3=>
   have ev:col.getD a 0=o.getD kk 0:=I1 hk (l _ g) i e e2 (by rw[←c];exact e3);refine .inl ⟨by rw[ev];exact e1,?_⟩;rw[ea,←w.cnt,List.count];refine List.countP_congr fun b hb=>?_;have p:=Aqm hb;obtain⟨q1,q2⟩:=List.mem_filter.1 p;constructor
   ·intro s;have d:At ln num (Ab nds n).depth b=u:=by simpa using s
    have:=I1 hk (l _ q1) q2 e e2 (by rw[d];exact e3);rw[this,ev];exact Aqa _
   ·intro s;have d:b=col.getD a 0:=by simpa using s
    rw[d,c];exact Aqa _
  |node m e1 q1 q2=>
   refine .inr ⟨m,by omega,q1,e1,?_⟩;have ec:=h.col_child hk l w.lt k (by omega) e1;refine⟨q2,?_,?_,?_⟩
   ·rw[ec,ea];exact t.2
   ·rw[ec,ea,t.1];exact w.byte
   ·rw[ec,ea,N6,List.count_filter,w.cnt];rw[c];exact Aqa _
  |none e1 q1=>
   exact(I2 hk (l _ g) i (by rw[←c];exact q1)).elim
end
end Hm
end Go.Proofs.YtegnkfdbmmndaaaGreat
namespace Go.Proofs.YtegnkfdbmmndaaaGreat
open Hm Go.Proofs.Tryz Go.RowKit
namespace Hm
structure Lr(M:Nat)(ln num:UInt8→Nat)(o:Arc)(l:Arc)(nds:List Nd)(col:Arc):Prop where
 rep:Rep ln num (Am l) nds col
 shp:Bo M ln o nds
 numk:Hc M ln num o
 mem: ∀b∈col,b∈o
 pos: ∀b∈o,0<ln b
 num: ∀b∈o,num b<2^ln b
 fits: ∀n,n<nds.length→(Ab nds n).frm+(Ab nds n).siz≤8*l.length
def J2(l:Arc)(nds:List Nd)(col:Arc):Prop:= ∃M ln num o,Lr M ln num o l nds col
end Hm
theorem Akt(hones:Bd)(pb o len g ng nc a:Nat)(s:ByteArray)(nds:List Hm.Nd)(col:Arc)(w:World)(h:Ew w pb o s len g ng nc nds)(ht:J2 s.data.toList nds col)(ha:a<col.length)(hs:s.size≤1000000)(am:col.length≤1000000):
  Calls prog 79 #[.pointer (some ⟨pb,o,none⟩),.int .i64 a] w fun e w'=>e= .returned (.tuple #[.int .u8 ((col.getD a 0).toNat:Nat),.int .i64 (((col.take a).count (col.getD a 0):Nat):Nat)])∧Ara w w':=by
 obtain⟨M,ln,num,od,ht⟩:=ht;have aa:s.data.toList.length=s.size:=by simp
 have ab:=Hm.Way.start ht.shp ht.mem ht.pos ht.num ha;have ap:=ht.shp.more;have Z:=ht.shp.few;have aq:pb<w.heap.size:=Ank _ _ h.nodes;have ag:ng<w.heap.size:=(h.nod.lt ng rfl).2;obtain⟨x,hx⟩: ∃x,x=col.getD a 0:=⟨_,rfl⟩;obtain⟨c,hc⟩: ∃c,c=(col.take a).count (col.getD a 0):=⟨_,rfl⟩;have H:=fun n q (w:Hm.Way ln num nds col a n q)=>Hm.Way.step ht.rep ht.shp ht.numk ht.mem w;rw[←hc,←hx]at H⊢;have T:Hid _:=H;have HT:Hid (Lr M ln num od s.data.toList nds col):=ht;have HH:Hid (Ew w pb o s len g ng nc nds):=h;clear h ht H hx hc
 go_enter func79,ntmps79
 go_wp2
 go_loopg [1] (nds.length+1) (fun k v1 wr=> ∃(b:Hm.Br) (q:Nat),v1= .int .i64 q∧wr.heap[w.heap.size]?=some (.cells (Dz b).toArray 192 (0,0))∧Ara w wr∧((b.whole=false∧Hm.Way ln num nds col a b.node q∧nds.length+1≤k+b.node)∨(b={whole:=true,val:=x}∧q=c)))
 case atStart=>exact⟨{},a,rfl,Anj w _,(Aa.refl _ _).alloc _,.inl ⟨rfl,ab,by show _≤_+0;omega⟩⟩
 case round=>
  obtain⟨b,q,rfl,f,B,G⟩:=hrel;have S:Hid (wr.heap[w.heap.size]?=some (.cells (Dz b).toArray 192 (0,0))∧Ara w wr):=⟨f,B⟩;have f0:wr.frozen? ⟨w.heap.size,0,none⟩=false:=Ang _ _ 0 _ _ f;have f1:wr.frozen? ⟨w.heap.size,1,none⟩=false:=Ang _ _ 1 _ _ f;have f2:wr.frozen? ⟨w.heap.size,2,none⟩=false:=Ang _ _ 2 _ _ f;rcases G with⟨X,way,P⟩|⟨rfl,rfl⟩
  ·obtain⟨bw,bv,bn⟩:=b;obtain rfl:bw=false:=X;have c0:wr.cell? ⟨w.heap.size,0,none⟩=some (.bool false):=Am7 _ _ 0 _ _ _ f;have c1:wr.cell? ⟨w.heap.size,1,none⟩=some (.int .u8 (bv.toNat:Nat)):=Am7 _ _ 1 _ _ _ f;have c2:wr.cell? ⟨w.heap.size,2,none⟩=some (.int .i64 (bn:Nat)):=Am7 _ _ 2 _ _ _ f;obtain⟨u,hu,N,v⟩:=T.o _ _ way
   replace P:nds.length+1≤gk+bn:=P
   have A:bn<nds.length:=way.lt;have h1:=HH.o.kept B id id id;have t:=HT.o.fits bn A;have hq:q<(Ab nds bn).siz:=by rw[HT.o.rep.siz bn A];exact way.at'
   have au:q<1000000:=by have h3:q<(Ap ln num nds col bn).length:=way.at';have h4:=Mh ln num nds col bn;omega
   rw[aa]at t;have i:=fun W (V:Ew W pb o s len g ng nc nds)=>Uc pb o ((Ab nds bn).frm+q) s W V.bits.str (by omega) (by omega);have p:=Wm hones pb o len g ng nc s nds ⟨false,bv,bn⟩ u q
   replace p: ∀W,Ew W pb o s len g ng nc nds→_:=fun W V=>p W V A hu (by show(Ab nds bn).frm+q≤_;omega) hs Z
   have Q:((Am s.data.toList ((Ab nds bn).frm+q)).toNat:Nat)=u:=by
    have O:Am s.data.toList ((Ab nds bn).frm+q)=decide (u=1):=N;rw[O];rcases(show u=0∨u=1 by omega)with rfl|rfl<;>rfl
   rw[Q]at i;have c515:=h1.nodes;have L:=Vt h1.nod rfl A;have Y:(Ab nds bn).frm≤8*s.size:=by omega
   have R:Hid ((Dz ⟨false,bv,bn⟩).toArray= #[.bool false,.int .u8 (bv.toNat:Nat),.int .i64 (bn:Nat)]):=rfl;have D:Hid (((Ab nds bn).br u={whole:=true,val:=x}∧F6 (Am s.data.toList) nds bn u q=c)∨
    ∃m,0<m∧bn<m∧(Ab nds bn).br u={node:=m}∧Hm.Way ln num nds col a m (F6 (Am s.data.toList) nds bn u q)):=v
   have J:(Ab nds bn).frm≤8000000:=by omega
   clear t hq N Q Y f way v;generalize(Ab nds bn).frm=fr at i L J;obtain⟨fq,K⟩: ∃y,y=fr+q:=⟨_,rfl⟩;have zfq:(fr:Int)+(q:Int)=(fq:Int):=by omega
   have aw:IntKind.i64.wrap (fq:Int)=(fq:Int):=by rw[An9];omega
   rw[←K]at i;have HB:Hid _:=i;have HF:Hid _:=p;have I:Hid (Ew wr pb o s len g ng nc nds):=h1;have al:(bn:Int)<(nds.length:Int):=by omega
   clear i p h1 K B;go_wp2_with fail;go_quiet(first
    |(go_at_call 123;refine Aol (HB.o _ ?_);exact I.o.kept ((Aa.refl (fun _=>False) wr).drewN _) id id id))
   have C:Hid (Ara wr (wr.drewN nq)):=(Aa.refl _ _).drewN _;have E:Hid ((wr.drewN nq).heap[w.heap.size]?=some (.cells (Dz ⟨false,bv,bn⟩).toArray 192 (0,0))):=S.o.1
   replace c0:(wr.drewN nq).cell? ⟨w.heap.size,0,none⟩=some (.bool false):=c0
   replace c1:(wr.drewN nq).cell? ⟨w.heap.size,1,none⟩=some (.int .u8 (bv.toNat:Nat)):=c1
   replace c2:(wr.drewN nq).cell? ⟨w.heap.size,2,none⟩=some (.int .i64 (bn:Nat)):=c2
   generalize wr.drewN nq=W1 at C E c0 c1 c2⊢;have j:=HF.o W1 (I.o.kept C.o id id id);rw[R.o]at j;clear HB HF c515 L f0 f1 f2;go_wp2_with fail;have z:Hid (Ara w W1):=S.o.2.trans C.o (fun _ _ h=>h);rcases D.o with⟨e1,e2⟩|⟨m,an,ao,e1,way2⟩
   ·rw[e1,show F6 (Am s.data.toList) nds (Hm.Br.mk false bv bn).node u q=c from e2,show(Dz {whole:=true,val:=x}).toArray= #[.bool true,.int .u8 (x.toNat:Nat),.int .i64 0]from rfl]at j;refine j.mono ?_;rintro e w2 ⟨rfl,l⟩;have d:=l.row E.o id;have r:Hid (w2.heap[w.heap.size]?=some (.cells (Dz ⟨false,bv,bn⟩).toArray 192 (0,0))∧Ara w w2):=⟨d,z.o.trans l (fun _ _ h=>h)⟩;have c0:w2.cell? ⟨w.heap.size,0,none⟩=some (.bool false):=Am7 _ _ 0 _ _ _ d;have c1:w2.cell? ⟨w.heap.size,1,none⟩=some (.int .u8 (bv.toNat:Nat)):=Am7 _ _ 1 _ _ _ d;have c2:w2.cell? ⟨w.heap.size,2,none⟩=some (.int .i64 (bn:Nat)):=Am7 _ _ 2 _ _ _ d;have f0:w2.frozen? ⟨w.heap.size,0,none⟩=false:=Ang _ _ 0 _ _ d;have f1:w2.frozen? ⟨w.heap.size,1,none⟩=false:=Ang _ _ 1 _ _ d;have f2:w2.frozen? ⟨w.heap.size,2,none⟩=false:=Ang _ _ 2 _ _ d;clear j l d e1 e2 z D;go_wp2_with fail
    go_roundg (gk-1)
    case rel=>exact⟨{whole:=true,val:=x},c,rfl,Anb _ _ 2 _ _ (.int .i64 0) (Anb _ _ 1 _ _ (.int .u8 (x.toNat:Nat)) (Anb _ _ 0 _ _ (.bool true) r.o.1)),((r.o.2.setCell (.inl (Ane _)) _).setCell (.inl (Ane _)) _).setCell (.inl (Ane _)) _,.inr ⟨rfl,rfl⟩⟩
    case measure=>omega
   ·obtain⟨ah,F⟩: ∃y,y=F6 (Am s.data.toList) nds bn u q:=⟨_,rfl⟩;rw[←F]at way2;rw[e1,show F6 (Am s.data.toList) nds (Hm.Br.mk false bv bn).node u q=ah from F.symm,show(Dz {node:=m}).toArray= #[.bool false,.int .u8 0,.int .i64 (m:Nat)]from rfl]at j;refine j.mono ?_;rintro e w2 ⟨rfl,l⟩;have d:=l.row E.o id;have r:Hid (w2.heap[w.heap.size]?=some (.cells (Dz ⟨false,bv,bn⟩).toArray 192 (0,0))∧Ara w w2):=⟨d,z.o.trans l (fun _ _ h=>h)⟩;have c0:w2.cell? ⟨w.heap.size,0,none⟩=some (.bool false):=Am7 _ _ 0 _ _ _ d;have c1:w2.cell? ⟨w.heap.size,1,none⟩=some (.int .u8 (bv.toNat:Nat)):=Am7 _ _ 1 _ _ _ d;have c2:w2.cell? ⟨w.heap.size,2,none⟩=some (.int .i64 (bn:Nat)):=Am7 _ _ 2 _ _ _ d;have f0:w2.frozen? ⟨w.heap.size,0,none⟩=false:=Ang _ _ 0 _ _ d;have f1:w2.frozen? ⟨w.heap.size,1,none⟩=false:=Ang _ _ 1 _ _ d;have f2:w2.frozen? ⟨w.heap.size,2,none⟩=false:=Ang _ _ 2 _ _ d;have U:Hid (Hm.Way ln num nds col a m ah):=way2;clear j l d e1 F z D way2;go_wp2_with fail
    go_roundg (gk-1)
    case rel=>exact⟨{node:=m},ah,rfl,Anb _ _ 2 _ _ (.int .i64 (m:Nat)) (Anb _ _ 1 _ _ (.int .u8 0) (Anb _ _ 0 _ _ (.bool false) r.o.1)),((r.o.2.setCell (.inl (Ane _)) _).setCell (.inl (Ane _)) _).setCell (.inl (Ane _)) _,.inl ⟨rfl,U.o,by show _≤gk-1+m;omega⟩⟩
    case measure=>omega
  ·have c0:wr.cell? ⟨w.heap.size,0,none⟩=some (.bool true):=Am7 _ _ 0 _ _ _ f;have c1:wr.cell? ⟨w.heap.size,1,none⟩=some (.int .u8 (x.toNat:Nat)):=Am7 _ _ 1 _ _ _ f;clear f B;go_wp2_with fail;go_ret2;exact⟨rfl,S.o.2⟩
def Es(w:World)(t g:Nat)(l:Ard):Prop:=w.heap[g]?=some (.cells (Ad l).toArray t (0,0))
theorem Es.cell{w:World}{t g:Nat}{l:Ard}(h:Es w t g l){i:Nat}(hi:i<l.length):w.cell? ⟨g,i,none⟩=some (.int .i64 (l[i]:Nat)):=by
 rw[Am7 _ _ i _ _ _ h];simp[Ad,hi]
theorem Es.free{w:World}{t g:Nat}{l:Ard}(h:Es w t g l)(i:Nat):w.frozen? ⟨g,i,none⟩=false:=Ang _ _ i _ _ h
theorem Es.set{w:World}{t g:Nat}{l:Ard}(h:Es w t g l)(i x:Nat):Es (w.setCell ⟨g,i,none⟩ (.int .i64 (x:Nat))) t g (l.set i x):=by
 have h2:=Anb w g i _ _ (.int .i64 (x:Nat)) h;unfold Es;rw[h2];congr 2;apply Api;simp[Ad,List.map_set]
theorem Es.lt{w:World}{t g:Nat}{l:Ard}(h:Es w t g l):g<w.heap.size:=Anu h
theorem Es.kept{S:Nat→Prop}{w w':World}{t g:Nat}{l:Ard}(h:Es w t g l)(hk:Aa S w w')(hn: ¬S g):Es w' t g l:=hk.row h hn
theorem Aku:Tryz.zeroCells94=(Ad (List.replicate 256 0)).toArray:=by kernel_rfl
theorem Kb:Tryz.zeroCells139=(Ad (List.replicate 256 0)).toArray:=by kernel_rfl
theorem Nw(T:TypeId)(n:Nat)(b:prog.underlying T=some (.array n 3))(l:Ard)(i:Nat)(hi:i<l.length)(hn:l.length=n)(w:World):
  (Instr.index T (.agg (Ad l).toArray) (.int .i64 (i:Nat))).run prog w= .ok (.int .i64 (l[i]:Nat)) w:=by
 have z3:=Tryz.sizeOf3;have a3:=Tryz.isAgg3;have a:(i:Int)<(n:Int):=by omega
 unfold Instr.index;simp only[Sem.run_bind,run_underlying b,Ap6,asIntOf,Sem.run_pure,Int.natCast_nonneg,a,and_self,if_true,z3,Int.toNat_natCast,Aqk,part,a3];simp[Ad,hi]
namespace Hm
def Gh(N c k:Nat):Ard:=(List.replicate N 0).set c k
theorem Ach(N c k:Nat):(Gh N c k).length=N:=by simp[Gh]
end Hm
theorem Oa:(prog.info? 216).map (fun i=>(i.zero,i.size,i.bytes))=some (some (.agg #[.int .i64 0,.int .u8 0,.slice none 0 0]),3,40):=by kernel_rfl
theorem Aa.setRow{S:Nat→Prop}{a b:World}(h:Aa S a b){g:Nat}(c:a.heap.size≤g∨S g)(cs:Array Value):Aa S a (b.setRow g cs):=by
 refine⟨h.os,h.tape,h.output,by have:=h.size;simp;omega,fun j e hn=>?_⟩;have d:j≠g:=by
  rintro rfl;rcases c with c|c
  ·omega
  ·exact hn c
 exact(setRow_other b g j cs d).trans (h.block j e hn)
theorem wpList_store_row{P:Program}(w:World){ops:Array Oper}{rest:List Oper}{op:Oper}{a:Act}{Q:Exit→Act→World→Prop}(b:op.guard=none)(ty:TypeId)(x y:Operand)(d:op.op= .store ty x y)
  (g:Nat) (t:TypeId) (old cells:Array Value) (e:a.eval x= .pointer (some ⟨g,0,none⟩)) (f:a.eval y= .agg cells) (c:w.heap[g]?=some (.cells old t (0,0)))
  (hi:(P.info? ty).map (·.size)=some cells.size) (hs:old.size=cells.size) (h1:cells.all (·.oneCell')=true)
  (h: ∀w',w'.heap[g]?=some (.cells cells t (0,0))→Aa (fun j=>j=g) w w'→wpList P ops Q rest (a.put op.dst undef) w'):wpList P ops Q (op::rest) a w:=by
 refine wpList_plain b fun K hK=>?_;unfold Oper.wp execOp;simp only[d,e,f,Instr.storeAt,Instr.sureAddr,Sem.run_bind,Sem.run_pure,Ap6,run_storeVar_row w g t ty old cells c hi hs h1];exact hK _ _ (h _ (setRow_heap w g old cells t _ c) ((Aa.refl (fun j=>j=g) w).setRow (g:=g) (.inr rfl) _))
theorem Fv(l:Ard):(Ad l).toArray.all (·.oneCell')=true:=by
 rw[Apw];intro v a;have:v∈Ad l:=by simpa using a
 unfold Ad at this;obtain⟨x,_,rfl⟩:=List.mem_map.1 this;rfl
theorem Bm(l:Ard):(Ad l).toArray.size=l.length:=by simp[Ad]
theorem Cf:(prog.info? 139).map (·.size)=some 256:=by kernel_rfl
theorem Akv(cn:Nat):Tryz.zeroCells139.setIfInBounds cn (.int .i64 1)=(Ad (Gh 256 cn 1)).toArray:=by
 rw[Kb];unfold Gh;apply Api;rw[Array.toList_setIfInBounds];simp only[Ad,Ap2];rfl
namespace Hm
def Bs(L:Ard)(k:Nat):Arc:=((List.range k).filter fun b=>decide (0<L.getD b 0)).map UInt8.ofNat
def Ai(L:Ard):Arc:=Bs L 256
theorem Ow(L:Ard)(k:Nat):Bs L (k+1)=Bs L k++if 0<L.getD k 0 then [UInt8.ofNat k]else []:=by
 unfold Bs;rw[Apu,Ao8,Apk];congr 1;rw[Ao3,List.filter_nil]
 by_cases e:0<L.getD k 0
 ·rw[if_pos (by simpa using e),if_pos e];rfl
 ·rw[if_neg (by simpa using e),if_neg e];rfl
theorem Fw(L:Ard)(k:Nat):(Bs L k).length≤k:=by
 unfold Bs;rw[Anz];have:=Ap4 (fun b=>decide (0<L.getD b 0)) (List.range k);simpa using this
def Cc(L:Ard)(l:Arc):Arc:=l.flatMap fun b=>[b,UInt8.ofNat (L.getD b.toNat 0)]
theorem Aap(L:Ard)(l:Arc)(k:Nat)(h:k<l.length):Cc L (l.take (k+1))=Cc L (l.take k)++[l[k],UInt8.ofNat (L.getD l[k].toNat 0)]:=by
 rw[Anh h];unfold Cc;rw[Ao4];congr 1
theorem J3(L:Ard)(l:Arc):(Cc L l).length=2*l.length:=by
 unfold Cc;induction l with
 |nil=>rfl
 |cons b r ih=>rw[Aoe,Anf,ih];simp;try omega
end Hm
theorem Sy(L:Ard)(w:World)(s:L.length=256)(B: ∀x∈L,x≤100000):
  Calls prog 157 #[.agg (Ad L).toArray] w fun e w'=> ∃v,e= .returned v∧w'.ownsRow w.heap.size 5 1 v (Ai L).length (Ah (Ai L))∧Ara w w':=by
 obtain⟨i0,hi,D,E,F⟩:=Aoo Fh;have g:(Ad L).toArray.size=256:=by rw[Bm,s]
 have l: ∀b,(h:b<256)→ ∃x:Nat,x≤100000∧L.getD b 0=x∧ ∀W,(Instr.index 139 (.agg (Ad L).toArray) (.int .i64 (b:Nat))).run prog W= .ok (.int .i64 (x:Nat)) W:=by
  intro b hb;refine⟨L[b],B _ (Anm _),by rw[Am4,Am5 (by omega)];rfl,fun W=>?_⟩;exact Nw 139 256 underlying139 L b (by omega) s W
 have k:(w.alloc (.cells (Ad L).toArray 139)).heap[w.heap.size]?=some (.cells (Ad L).toArray 139 (0,0)):=Anj w _;generalize(Ad L).toArray=arr at*;clear s B
 go_enter func157,ntmps157
 go_wp2_with(refine Aoh rfl 139 _ rfl w.heap.size rfl 139 arr (0,0) _ k underlying139 rfl (by rw[g];exact Cf) ?_)
 clear k g
 go_loopw[3,7] (fun u i wr=> ∃b:Nat,b≤256∧i= .int .i64 b∧wr.ownsRow w.heap.size 5 1 u (Bs L b).length (Ah (Bs L b))∧Ara w wr) (fun _ i _=>256-(intOf i).toNat)
 case atStart=>exact⟨0,by omega,rfl,by simpa[Bs,Ah]using World.ownsRow_nil _ w.heap.size 5 1,(Aa.refl _ _).alloc _⟩
 case round=>
  obtain⟨b,hb,rfl,c,a⟩:=hrel;have I:=Fw L b
  by_cases r:b<256
  ·obtain⟨x,B,n,G⟩:=l b r;have m:Hid (Bs L (b+1)=Bs L b++if 0<x then [UInt8.ofNat b]else []):=by rw[←n];exact Ow L b
   have p:decide ((b:Int)<256)=true:=by simp;omega
   clear l n
   by_cases d:0<x
   ·have t:decide (0<x)=true:=by simp;omega
    have f:Hid (Ah (Bs L (b+1))=Ah (Bs L b)++[.int .u8 (b:Nat)]∧(Bs L (b+1)).length=(Bs L b).length+1):=by
     constructor
     ·rw[m.o,if_pos d];unfold Ah;rw[Apk,Aos,Aqy,Ss r]
     ·rw[m.o,if_pos d];simp
    clear m
    go_wp2_with(at_builtin;refine Bg _ rfl (.tmp 13) (.tmp 16) 79 rfl w.heap.size 5 i0 (.int .u8 0) 1 1 underlying79 hi D E F rfl (by decide) _ _ _ rfl (c.alloc _) ⟨wr.heap.size,0,none⟩ 1 1 [.int .u8 (b:Nat)] rfl rfl ?c1 ?c2 ?c3 ?c4 ?c5 ?_)
    case c1=>exact cell_one_new _ _ _
    case c2=>intro u H;simp at H;subst H;rfl
    case c3=>unfold maxLen;omega
    case c4=>omega
    case c5=>have:=a.size;simp;omega
    intro v' w2 A q z;have y:Ara w w2:=(a.alloc _).grown q (fun j J=> .inl (c.lt j J).1);clear q z c a;go_wp2;go_roundw
    case rel=>exact⟨b+1,by omega,by go_num,by rw[f.o.1,f.o.2];exact A,y⟩
    case measure=>simp[intOf];omega
   ·have C:x=0:=by omega
    subst C;have f:Hid (Bs L (b+1)=Bs L b):=by
     show _=_;rw[m.o,if_neg d,Aow]
    clear m;go_wp2;go_roundw
    case rel=>exact⟨b+1,by omega,by go_num,by rw[f.o];exact c,a⟩
    case measure=>simp[intOf];omega
  ·have p:decide ((b:Int)<256)=false:=by simp;omega
   obtain rfl:b=256:=by omega
   clear l;go_wp2;go_ret;exact⟨_,rfl,c,a⟩
theorem Yf(base:Nat)(v:Value)(n:Nat)(l:Arc)(L:Ard)(w:World)(ho:w.ownsRow base 5 1 v n (Ah l))(hb:base≤w.heap.size)(Z:L.length=256)(hx: ∀x∈L,x≤255)(hn:n≤100000):
  Calls prog 105 #[v,.agg (Ad L).toArray] w fun e w'=> ∃v',e= .returned v'∧w'.ownsRow base 5 1 v' (n+2+2*(Ai L).length) (Ah (l++Hm.leBytes (Ai L).length 2++Cc L (Ai L)))∧Aa (fun j=>v.ownBlock=some j) w w'∧Cb w v v':=by
 obtain⟨i0,hi,aj,ak,al⟩:=Aoo Fh;have G:(Ad L).toArray.size=256:=by rw[Bm,Z]
 have ad:=Fw L 256;have B: ∀j,v.ownBlock=some j→j<w.heap.size:=fun j q=>(ho.lt j q).2;have H:=Sy L (w.alloc (.cells (Ad L).toArray 139)) Z (fun x ai=>by have:=hx x ai;omega);have m:(w.alloc (.cells (Ad L).toArray 139)).heap[w.heap.size]?=some (.cells (Ad L).toArray 139 (0,0)):=Anj w _;have c: ∀W:World,W.heap[w.heap.size]?=some (.cells (Ad L).toArray 139 (0,0))→ ∀b:Nat,b<256→W.cell? ⟨w.heap.size,b,none⟩=some (.int .i64 (L.getD b 0:Nat)):=by
  intro W hW b hb;rw[Am7 _ _ b _ _ _ hW];simp[Ad,List.getD_eq_getElem?_getD,List.getElem?_eq_getElem (show b<L.length from by omega)]
 have E: ∀b:Nat,b<256→L.getD b 0≤255:=fun b hb=>by
  rw[Am4,Am5 (show b<L.length from by omega)];exact hx _ (Anm _)
 change (Ai L).length≤256 at ad
 generalize hC:Ai L=C at*;generalize(Ad L).toArray=arr at*;clear hx Z hC
 go_enter func105,ntmps105
 go_wp2_with(first
  |(refine Aoh rfl 139 _ rfl w.heap.size rfl 139 arr (0,0) _ m underlying139 rfl (by rw[G];exact Cf) ?_)
  |(go_at_call 157;fail))
 refine H.mono ?_;rintro e w2 ⟨vc,rfl,s,r⟩;clear H
 have az:w.heap.size+1≤w2.heap.size:=by have:=r.size;simpa using this
 have a:=r.row m id;have V: ∀j,vc.ownBlock=some j→w.heap.size<j∧j<w2.heap.size:=fun j q=>by have:=s.lt j q;simp at this;omega
 have S:w2.ownsRow base 5 1 v n (Ah l):=(((Aa.refl (fun _=>False) w).alloc _).trans r (fun _ _ h=>h)).owns ho (fun _ _ h=>h);have N:Aa (fun j=>v.ownBlock=some j) w w2:=(((Aa.refl (fun _=>False) w).alloc _).trans r (fun _ _ h=>h)).wider (fun _ _ h=>h.elim);obtain⟨ac,cc,X,av⟩:=Aq s;subst X;have F:=Lc base v n C.length 2 l w2 S (by omega) (by omega) (by omega) (by omega);clear m r ho
 go_wp2_with(first|(go_at_call 101;fail))
 refine F.mono ?_;rintro e w3 ⟨v3,rfl,T,y,P⟩;clear F;have D:=y.row a (fun e=>by have:=B _ e;omega);have U:=y.owns s (fun j q e=>by have:=B _ e;have:=V j q;omega);go_wp2
 go_loopw[0,16] (fun u i wr=> ∃k:Nat,k≤C.length∧i= .int .i64 k∧wr.ownsRow base 5 1 u (n+2+2*k) (Ah (l++Hm.leBytes C.length 2++Cc L (C.take k)))∧Aa (fun j=>v.ownBlock=some j) w2 wr∧Cb w2 v u) (fun _ i _=>C.length-(intOf i).toNat)
 case atStart=>exact⟨0,Ann _,rfl,by simpa[Cc]using T,y,P⟩
 case round=>
  clear T y P D U S;obtain⟨k,hk,rfl,A,d,z⟩:=hrel;have t:=d.owns s (fun j q e=>by have:=B _ e;have:=V j q;omega);have p:=d.row a (fun e=>by have:=B _ e;omega)
  by_cases O:k<C.length
  ·obtain⟨g,cap,hv,_,ay⟩:=Ck t (by omega);simp only[Value.slice.injEq]at hv;obtain⟨ab,_,I⟩:=hv;subst ab;subst I;have aw:wr.cell? ⟨g,k,none⟩=some (.int .u8 (C[k].toNat:Nat)):=by
    rw[t.cellAt k (by omega)];simp[Ah,O]
   have HT:Hid (Cc L (C.take (k+1))=Cc L (C.take k)++[C[k],UInt8.ofNat (L.getD C[k].toNat 0)]):=Aap L C k O;have f:C[k].toNat<256:=C[k].toNat_lt;have au:=c wr p C[k].toNat f;have ax:=E C[k].toNat f;generalize Y:C[k]=ck at*;generalize aa:L.getD ck.toNat 0=x at*;generalize J:ck.toNat=cn at*;have HC:Hid (ck.toNat=cn):=J;have K:decide ((k:Int)<(C.length:Int))=true:=by simp;omega
   clear t p c E s a J aa Y
   go_wp2_with(at_builtin;refine Bg _ rfl (.tmp 20) (.tmp 26) 79 rfl base 5 i0 (.int .u8 0) 1 1 underlying79 hi aj ak al rfl (by decide) _ _ _ rfl (A.alloc _) ⟨wr.heap.size,0,none⟩ 2 2 [.int .u8 (cn:Nat),.int .u8 (x:Nat)] rfl rfl ?c1 ?c2 ?c3 ?c4 ?c5 ?_)
   case c1=>exact cell_two_new _ _ _ _
   case c2=>first|exact⟨rfl,rfl⟩|(intro u hu;simp at hu;rcases hu with rfl|rfl<;>rfl)
   case c3=>unfold maxLen;omega
   case c4=>omega
   case c5=>have:=d.size;simp;omega
   intro v' w5 ag M Q;have ae:Aa (fun j=>v.ownBlock=some j) w2 w5:=(d.alloc _).grown M (fun j q=>(z j q).elim (fun h=> .inr h) .inl);have R:Cb w2 v v':=z.trans Q (by have:=d.size;simp;omega);clear M Q A d z;go_wp2;go_roundw
   case rel=>
    refine⟨k+1,by omega,by go_num,?_,ae,R⟩;have e:Ah (l++Hm.leBytes C.length 2++Cc L (C.take (k+1)))=Ah (l++Hm.leBytes C.length 2++Cc L (C.take k))++[.int .u8 (cn:Nat),.int .u8 (x:Nat)]:=by
     rw[HT.o,←An4];unfold Ah;rw[Apk (l₂:=[ck,UInt8.ofNat x]),Aos,Aos,Aqy,Ss (by omega),HC.o]
    rw[e,show n+2+2*(k+1)=n+2+2*k+2 from by omega];simpa[List.append_assoc]using ag
   case measure=>simp[intOf];omega
  ·obtain rfl:k=C.length:=by omega
   rw[Aof]at A;have K:decide ((C.length:Int)<(C.length:Int))=false:=by simp
   clear c E;go_wp2;go_ret;refine⟨_,rfl,A,N.trans d (fun _ _ h=>h),fun j q=>?_⟩;rcases z j q with h|h
   ·exact .inl h
   ·exact .inr (by omega)
end Go.Proofs.YtegnkfdbmmndaaaGreat
