import Derived.Test.YtegnkfdbmmndaaaGreatJ00
import Derived.Test.YtegnkfdbmmndaaaGreatJ05
import Derived.Test.YtegnkfdbmmndaaaGreatJ03
import Derived.Test.YtegnkfdbmmndaaaGreatJ07
import Derived.Test.YtegnkfdbmmndaaaGreatJ02

namespace Go.Proofs.YtegnkfdbmmndaaaGreat
open Hm
open Go.RowKit
structure Gz(w:World)(pb o:Nat)(s:ByteArray)(len g ng nc:Nat)(nds:List Hm.Nd):Prop where
 bits:C2 w pb o s len g
 nodes:w.cell? ⟨pb,o+515,none⟩=some (.slice (some ⟨ng,0,none⟩) nds.length nc)
 nod:w.ownsRow 0 195 9 (.slice (some ⟨ng,0,none⟩) nds.length nc) nds.length (A9 nds)
theorem Gz.kept{S:Nat→Prop}{w w':World}{pb o len g ng nc:Nat}{s:ByteArray}{nds:List Hm.Nd}(h:Gz w pb o s len g ng nc nds)(hk:Aa S w w')(h1: ¬S pb)(h2: ¬S g)(h3: ¬S ng):Gz w' pb o s len g ng nc nds:=
 have hp:pb<w.heap.size:=Aly _ _ h.nodes
 ⟨h.bits.kept hk h1 h2,(hk.cell (p:=⟨pb,o+515,none⟩) hp h1).trans h.nodes,hk.owns h.nod (fun j hj=>by have e1:ng=j:=Al1 hj;rw[←e1];exact h3)⟩
namespace Hm
def Gv(f:Nat→Bool)(nds:List Nd)(j sd at':Nat):Nat:=
 if sd=0 then at'-(rk f ((Ab nds j).frm+at')-rk f (Ab nds j).frm)else rk f ((Ab nds j).frm+at')-rk f (Ab nds j).frm
end Hm
set_option maxHeartbeats 2000000 in
theorem Afl(hones:Cd)(pb o len g ng nc:Nat)(s:ByteArray)(nds:List Hm.Nd)(b:Hm.Br)(sd at':Nat)(w:World)(h:Gz w pb o s len g ng nc nds)(hb:b.node<nds.length)(hsd:sd<2)(hat:(Ab nds b.node).frm+at'≤8*s.size)(hs:s.size≤1000000)(_hnl:nds.length≤255):
  Calls Tryz.prog 124 #[.pointer (some ⟨pb,o,none⟩),.agg (Du b).toArray,.int .i64 sd,.int .i64 at'] w fun e w'=>e= .returned (.tuple #[.agg (Du ((Ab nds b.node).br sd)).toArray,.int .i64 (Gv (Ak s.data.toList) nds b.node sd at':Nat)])∧Apd w w':=by
 obtain⟨j,hj⟩: ∃j,j=b.node:=⟨_,rfl⟩;rw[←hj]at hb hat⊢;obtain⟨W0,hW0⟩: ∃W0,W0=(w.alloc (.cells (Du b).toArray 192)).alloc (.cells #[.bool false,.int .u8 0,.int .i64 0] 192):=⟨_,rfl⟩;have hk0:Apd w W0:=by rw[hW0];exact((Aa.refl _ _).alloc _).alloc _
 have hb0:W0.heap[w.heap.size]?=some (.cells (Du b).toArray 192 (0,0)):=by rw[hW0];exact Anw w _ _
 have hb1:W0.heap[w.heap.size+1]?=some (.cells #[.bool false,.int .u8 0,.int .i64 0] 192 (0,0)):=by rw[hW0];exact Anx w _ _
 have h0:=h.kept hk0 id id id;have HW:Hid ((w.alloc (.cells (Du b).toArray 192)).alloc (.cells #[.bool false,.int .u8 0,.int .i64 0] 192)=W0):=hW0.symm;have hfr:=Uz h0.nod rfl hb;have hnc:=fun i hi=>Hl h0.nod rfl hb i hi;have hrl:=Px (Ak s.data.toList) ((Ab nds j).frm+at');have hrp:=Xf (Ak s.data.toList) (show(Ab nds j).frm≤(Ab nds j).frm+at' from by omega);have hrm:=J7 (Ak s.data.toList) (show(Ab nds j).frm≤(Ab nds j).frm+at' from by omega);have ho1:=fun W (hW:C2 W pb o s len g)=>Jr hones pb o g len ((Ab nds j).frm+at') s W hW hat (by omega);have ho2:=fun W (hW:C2 W pb o s len g)=>Jr hones pb o g len (Ab nds j).frm s W hW (by omega) (by omega);have c515:=h0.nodes;have cn:W0.cell? ⟨w.heap.size,2,none⟩=some (.int .i64 (j:Nat)):=by rw[hj];exact Alc _ _ 2 _ _ _ hb0
 have r0:W0.cell? ⟨w.heap.size+1,0,none⟩=some (.bool false):=Alc _ _ 0 _ _ _ hb1;have r1:W0.cell? ⟨w.heap.size+1,1,none⟩=some (.int .u8 0):=Alc _ _ 1 _ _ _ hb1;have r2:W0.cell? ⟨w.heap.size+1,2,none⟩=some (.int .i64 0):=Alc _ _ 2 _ _ _ hb1;have f0:W0.frozen? ⟨w.heap.size+1,0,none⟩=false:=Alk _ _ 0 _ _ hb1;have f1:W0.frozen? ⟨w.heap.size+1,1,none⟩=false:=Alk _ _ 1 _ _ hb1;have f2:W0.frozen? ⟨w.heap.size+1,2,none⟩=false:=Alk _ _ 2 _ _ hb1;have HAH:Hid (Gv (Ak s.data.toList) nds j sd at'=if sd=0 then at'-(Hm.rk (Ak s.data.toList) ((Ab nds j).frm+at')-Hm.rk (Ak s.data.toList) (Ab nds j).frm)else Hm.rk (Ak s.data.toList) ((Ab nds j).frm+at')-Hm.rk (Ak s.data.toList) (Ab nds j).frm):=rfl;obtain⟨fr,hfre⟩: ∃x,x=(Ab nds j).frm:=⟨_,rfl⟩;rw[←hfre]at hfr hat hrl hrp hrm ho1 ho2 HAH;obtain⟨R1,hR1⟩: ∃x,x=Hm.rk (Ak s.data.toList) (fr+at'):=⟨_,rfl⟩;obtain⟨R2,hR2⟩: ∃x,x=Hm.rk (Ak s.data.toList) fr:=⟨_,rfl⟩;rw[←hR1]at hrl hrp hrm ho1 HAH;rw[←hR2]at hrp hrm ho2 HAH;obtain⟨fa,hfa⟩: ∃x,x=fr+at':=⟨_,rfl⟩;obtain⟨dd,hdd⟩: ∃x,x=R1-R2:=⟨_,rfl⟩;rw[←hfa]at ho1 hrl hat;rw[←hdd]at HAH;have zfa:(fr:Int)+(at':Int)=(fa:Int):=by omega
 have zdd:(R1:Int)-(R2:Int)=(dd:Int):=by omega
 have hwa:IntKind.i64.wrap (fa:Int)=(fa:Int):=by rw[Al9];omega
 have hws:IntKind.i64.wrap (dd:Int)=(dd:Int):=by rw[Al9];omega
 have hda:dd≤at':=by omega
 have H0:Hid (Gz W0 pb o s len g ng nc nds∧Apd w W0∧W0.heap[w.heap.size+1]?=some (.cells #[.bool false,.int .u8 0,.int .i64 0] 192 (0,0))):=⟨h0,hk0,hb1⟩;have HO1:Hid _:=ho1;have HO2:Hid _:=ho2;have HNC:Hid (∀i,i<9→W0.cell? ⟨ng,j*9+i,none⟩=(Ce (Ab nds j))[i]?):=hnc;have hjI:(j:Int)<(nds.length:Int):=by omega
 have hpw:pb<w.heap.size:=Aly _ _ h.nodes;have hngw:ng<w.heap.size:=(h.nod.lt ng rfl).2;clear h h0 hk0 hb0 hb1 hnc ho1 ho2 hR1 hR2 hfre hW0 hj hfa hdd hrl hrp hrm
 go_enter Tryz.func124,Tryz.ntmps124
 go_upto_region 1 with fail
 rw[HW.out];clear HW;go_quiet(fail);have HK1:Hid (Apd W0 (W0.drewN nq)):=(Aa.refl _ _).drewN _;generalize W0.drewN nq=W1 at HK1⊢;go_wp2_with fail;go_quiet(first
  |(go_at_call_of 126 (Value.int .i64 (fa:Int));refine Ams (HO1.out _ ?_);exact(H0.out.1.kept (HK1.out.drewN _) id id id).bits)
  |(go_at_call_of 126 (Value.int .i64 (fr:Int));refine Ams (HO2.out _ ?_);exact(H0.out.1.kept (HK1.out.drewN _) id id id).bits))
 have HK2:Hid (Apd W0 (W1.drewN nq)):=HK1.out.drewN _;generalize W1.drewN nq=W2 at HK2⊢;have hk2:=HK2.out;have hws0:w.heap.size+2≤W0.heap.size:=by have:=Alw H0.out.2.2;omega
 have hng2:ng<W0.heap.size:=by omega
 have c515:=(hk2.cell (p:=⟨pb,o+515,none⟩) (show pb<_ from by omega) id).trans c515;have cn:=(hk2.cell (p:=⟨w.heap.size,2,none⟩) (show w.heap.size<_ from by omega) id).trans cn;have r0:=(hk2.cell (p:=⟨w.heap.size+1,0,none⟩) (show w.heap.size+1<_ from by omega) id).trans r0;have r1:=(hk2.cell (p:=⟨w.heap.size+1,1,none⟩) (show w.heap.size+1<_ from by omega) id).trans r1;have r2:=(hk2.cell (p:=⟨w.heap.size+1,2,none⟩) (show w.heap.size+1<_ from by omega) id).trans r2;have f0:=(hk2.frozen (p:=⟨w.heap.size+1,0,none⟩) (show w.heap.size+1<_ from by omega) id).trans f0;have f1:=(hk2.frozen (p:=⟨w.heap.size+1,1,none⟩) (show w.heap.size+1<_ from by omega) id).trans f1;have f2:=(hk2.frozen (p:=⟨w.heap.size+1,2,none⟩) (show w.heap.size+1<_ from by omega) id).trans f2;clear hws0;rcases(show sd=0∨sd=1 from by omega)with rfl|rfl
 ·have n3:=(hk2.cell (p:=⟨ng,j*9+3,none⟩) hng2 id).trans (HNC.out 3 (by omega));have n4:=(hk2.cell (p:=⟨ng,j*9+4,none⟩) hng2 id).trans (HNC.out 4 (by omega));have n5:=(hk2.cell (p:=⟨ng,j*9+5,none⟩) hng2 id).trans (HNC.out 5 (by omega));have e3:(Ce (Ab nds j))[3]?=some (.bool (Ab nds j).b0.whole):=rfl;have e4:(Ce (Ab nds j))[4]?=some (.int .u8 ((Ab nds j).b0.val.toNat:Nat)):=rfl;have e5:(Ce (Ab nds j))[5]?=some (.int .i64 ((Ab nds j).b0.node:Nat)):=rfl;rw[e3]at n3;rw[e4]at n4;rw[e5]at n5;have HBR:Hid ((Du ((Ab nds j).br 0)).toArray= #[.bool (Ab nds j).b0.whole,.int .u8 ((Ab nds j).b0.val.toNat:Nat),.int .i64 ((Ab nds j).b0.node:Nat)]):=rfl;generalize(Ab nds j).b0.whole=x0 at*;generalize(Ab nds j).b0.val.toNat=x1 at*;generalize(Ab nds j).b0.node=x2 at*;clear HNC HO1 HO2 e3 e4 e5 hk2;obtain⟨qq,hqq⟩: ∃x,x=at'-dd:=⟨_,rfl⟩;have zqq:(at':Int)-(dd:Int)=(qq:Int):=by omega
  have hwq:IntKind.i64.wrap (qq:Int)=(qq:Int):=by rw[Al9];omega
  have HQ:Hid (qq=at'-dd):=hqq;clear hqq;go_wp2_with fail
  go_region
  go_wp2_with fail;have h2:=Alf _ _ 2 _ _ (.int .i64 (x2:Nat)) (Alf _ _ 1 _ _ (.int .u8 (x1:Nat)) (Alf _ _ 0 _ _ (.bool x0) (HK2.out.row H0.out.2.2 id)));refine Amo (v:= .tuple #[.agg #[.bool x0,.int .u8 (x1:Nat),.int .i64 (x2:Nat)],.int .i64 (qq:Nat)]) (Dc Tryz.results124 _ _ (w.heap.size+1) 192 _ (0,0) _ rfl h2 Tryz.underlying192 rfl (by kernel_rfl)) rfl ⟨?_,?_⟩
  ·rw[HBR.out,show Gv (Ak s.data.toList) nds j 0 at'=qq from HAH.out.trans HQ.out.symm]
  ·exact((((H0.out.2.1.trans HK2.out (fun _ _ h=>h)).setCell (.inl (Nat.le_succ _)) _).setCell (.inl (Nat.le_succ _)) _).setCell (.inl (Nat.le_succ _)) _).drew
 ·have n3:=(hk2.cell (p:=⟨ng,j*9+6,none⟩) hng2 id).trans (HNC.out 6 (by omega));have n4:=(hk2.cell (p:=⟨ng,j*9+7,none⟩) hng2 id).trans (HNC.out 7 (by omega));have n5:=(hk2.cell (p:=⟨ng,j*9+8,none⟩) hng2 id).trans (HNC.out 8 (by omega));have e3:(Ce (Ab nds j))[6]?=some (.bool (Ab nds j).b1.whole):=rfl;have e4:(Ce (Ab nds j))[7]?=some (.int .u8 ((Ab nds j).b1.val.toNat:Nat)):=rfl;have e5:(Ce (Ab nds j))[8]?=some (.int .i64 ((Ab nds j).b1.node:Nat)):=rfl;rw[e3]at n3;rw[e4]at n4;rw[e5]at n5;have HBR:Hid ((Du ((Ab nds j).br 1)).toArray= #[.bool (Ab nds j).b1.whole,.int .u8 ((Ab nds j).b1.val.toNat:Nat),.int .i64 ((Ab nds j).b1.node:Nat)]):=rfl;generalize(Ab nds j).b1.whole=x0 at*;generalize(Ab nds j).b1.val.toNat=x1 at*;generalize(Ab nds j).b1.node=x2 at*;clear HNC HO1 HO2 e3 e4 e5 hk2;go_wp2_with fail
  go_region
  go_wp2_with fail;have h2:=Alf _ _ 2 _ _ (.int .i64 (x2:Nat)) (Alf _ _ 1 _ _ (.int .u8 (x1:Nat)) (Alf _ _ 0 _ _ (.bool x0) (HK2.out.row H0.out.2.2 id)));refine Amo (v:= .tuple #[.agg #[.bool x0,.int .u8 (x1:Nat),.int .i64 (x2:Nat)],.int .i64 (dd:Nat)]) (Dc Tryz.results124 _ _ (w.heap.size+1) 192 _ (0,0) _ rfl h2 Tryz.underlying192 rfl (by kernel_rfl)) rfl ⟨?_,?_⟩
  ·rw[HBR.out,show Gv (Ak s.data.toList) nds j 1 at'=dd from HAH.out]
  ·exact((((H0.out.2.1.trans HK2.out (fun _ _ h=>h)).setCell (.inl (Nat.le_succ _)) _).setCell (.inl (Nat.le_succ _)) _).setCell (.inl (Nat.le_succ _)) _).drew
end Go.Proofs.YtegnkfdbmmndaaaGreat
namespace Go.Proofs.YtegnkfdbmmndaaaGreat
open Hm
namespace Hm
theorem Ti{α:Type}(p:α→Bool)(l:List α)(q:Nat):(l.filter p).take ((l.take q).countP p)=(l.take q).filter p:=by
 have e:l.filter p=(l.take q).filter p++(l.drop q).filter p:=by rw[←Ang,Amy]
 rw[e,Aow,Apc]
theorem Vs(p:UInt8→Bool)(l:List UInt8)(q:Nat)(hq:q<l.length)(hp:p (l.getD q 0)=true):(l.filter p).getD ((l.take q).countP p) 0=l.getD q 0∧(l.take q).countP p<(l.filter p).length:=by
 have e:l.filter p=(l.take q).filter p++l.getD q 0::(l.drop (q+1)).filter p:=by
  conv=>lhs;rw[←Amy q l]
  rw[Ang,Al4 hq,Ak6,Ak7 hq,Anr];rw[Ak6,Ak7 hq,Anr]at hp;rw[List.filter_cons_of_pos hp]
 rw[e,Aow];constructor
 ·rw[Ak6,Alt (Ale _),Amr];rfl
 ·rw[Alg,Amc];omega
theorem Aba(f:Nat→Bool)(s:Nat)(l:List UInt8)(g:UInt8→Nat)(hb: ∀p,p<l.length→f (s+p)=decide (g (l.getD p 0)=1)): ∀q,q≤l.length→rk f (s+q)-rk f s=(l.take q).countP (fun b=>g b==1)
 |0,_=>by simp
 |q+1,hq=>by
  have ih:=Aba f s l g hb q (by omega);have hm:=J7 f (Apa s q);have e:rk f (s+(q+1))=rk f (s+q)+(f (s+q)).toNat:=rfl;have h1:=hb q (by omega);have e2:l.take (q+1)=l.take q++[l.getD q 0]:=by
   rw[List.take_add_one,Ak6,Ak7 (show q<l.length by omega)];rfl
  rw[e,e2,Ann,←ih,h1];have e3:List.countP (fun b=>g b==1) [l.getD q 0]=(decide (g (l.getD q 0)=1)).toNat:=by
   rw[Am8,List.countP_nil]
   by_cases hg:g (l.getD q 0)=1
   ·rw[hg];rfl
   ·rw[Ald hg,show(g (l.getD q 0)==1)=false from by simpa using hg];rfl
  rw[e3];omega
theorem Afm(l:List UInt8)(g:UInt8→Nat)(hg: ∀b,g b<2):l.countP (fun b=>g b==0)+l.countP (fun b=>g b==1)=l.length:=by
 induction l with
 |nil=>rfl
 |cons b r ih=>
  have:=hg b;rw[Am8,Am8,Amc];rcases(show g b=0∨g b=1 by omega)with e|e<;>rw[e]<;>simp<;>omega
section
variable {M:Nat} {ln num:UInt8→Nat} {o:List UInt8} {nds:List Nd} {f:Nat→Bool} {col:List UInt8}
theorem Rep.ahead(h:Rep ln num f nds col){n q u:Nat}(hn:n<nds.length)(hq:q≤(Ab nds n).siz)(hu:u<2):
  Gv f nds n u q=((Ao ln num nds col n).take q).countP fun b=>Av ln num (Ab nds n).depth b==u:=by
 have hs:=h.siz n hn;have key:=Aba f (Ab nds n).frm (Ao ln num nds col n) (Av ln num (Ab nds n).depth) (fun p hp=>h.bit n p hn (by omega)) q (by omega);have Kn:=Afm ((Ao ln num nds col n).take q) (Av ln num (Ab nds n).depth) (Fy ln num _);rw[Aln,Ant (by omega)]at Kn;unfold Gv;rcases(show u=0∨u=1 by omega)with rfl|rfl
 ·rw[if_pos rfl,key];omega
 ·rw[if_neg (by omega),key]
structure Way(ln num:UInt8→Nat)(nds:List Nd)(col:List UInt8)(a n q:Nat):Prop where
 lt:n<nds.length
 at':q<(Ao ln num nds col n).length
 byte:(Ao ln num nds col n).getD q 0=col.getD a 0
 cnt:((Ao ln num nds col n).take q).count (col.getD a 0)=(col.take a).count (col.getD a 0)
theorem Way.start(h:Bg M ln o nds)(hc: ∀b∈col,b∈o)(hpos: ∀b∈o,0<ln b)(hnum: ∀b∈o,num b<2^ln b){a:Nat}(ha:a<col.length):Way ln num nds col a 0 a:=by
 have e:Ao ln num nds col 0=col:=by
  unfold Ao;refine List.filter_eq_self.2 fun b hb=>Alb ⟨by rw[h.root.1];exact hpos b (hc b hb),?_⟩;rw[h.root.1,h.root.2,Aoz];exact Nat.div_eq_of_lt (hnum b (hc b hb))
 exact⟨h.more,by rw[e];exact ha,by rw[e],by rw[e]⟩
theorem Way.step(hr:Rep ln num f nds col)(h:Bg M ln o nds)(hk:G7 M ln num o)(hc: ∀b∈col,b∈o){a n q:Nat}(w:Way ln num nds col a n q):
  ∃u,u<2∧f ((Ab nds n).frm+q)=decide (u=1)∧
   (((Ab nds n).br u={whole:=true,val:=col.getD a 0}∧Gv f nds n u q=(col.take a).count (col.getD a 0))∨
    ∃m,0<m∧n<m∧(Ab nds n).br u={node:=m}∧Way ln num nds col a m (Gv f nds n u q)):=by
 have hs:=hr.siz n w.lt;have hu:=Fy ln num (Ab nds n).depth (col.getD a 0);refine⟨Av ln num (Ab nds n).depth (col.getD a 0),hu,?_,?_⟩
 ·rw[hr.bit n q w.lt (by have:=w.at';omega),w.byte]
 ·have ea:=hr.ahead w.lt (show q≤_ by have:=w.at';omega) hu;have hmem:col.getD a 0∈Ao ln num nds col n:=by
   rw[←w.byte,Ak6,Ak7 w.at'];exact Alo _
  obtain⟨hm1,hm2⟩:=List.mem_filter.1 hmem;obtain⟨u,hue⟩: ∃u,u=Av ln num (Ab nds n).depth (col.getD a 0):=⟨_,rfl⟩;rw[←hue]at hu ea⊢;have hp:(fun b=>Av ln num (Ab nds n).depth b==u) ((Ao ln num nds col n).getD q 0)=true:=by
   show(_==u)=true;rw[w.byte,hue];exact Aoi _
  have hf:=Vs (fun b=>Av ln num (Ab nds n).depth b==u) (Ao ln num nds col n) q w.at' hp;cases h.good n u w.lt hu with
  |leaf kk hkk e1 e2 e3=>
   have ev:col.getD a 0=o.getD kk 0:=Li hk (hc _ hm1) hm2 hkk e2 (by rw[←hue];exact e3);refine .inl ⟨by rw[ev];exact e1,?_⟩;rw[ea,←w.cnt,List.count];refine List.countP_congr fun b hb=>?_;have hb1:=List.mem_of_mem_take hb;obtain⟨q1,q2⟩:=List.mem_filter.1 hb1;constructor
   ·intro hx;have hx2:Av ln num (Ab nds n).depth b=u:=by simpa using hx
    have:=Li hk (hc _ q1) q2 hkk e2 (by rw[hx2];exact e3);rw[this,ev];exact Aoi _
   ·intro hx;have hx2:b=col.getD a 0:=by simpa using hx
    rw[hx2,hue];exact Aoi _
  |node m e1 q1 q2=>
   refine .inr ⟨m,by omega,q1,e1,?_⟩;have ec:=h.col_child hk hc w.lt hu (by omega) e1;refine⟨q2,?_,?_,?_⟩
   ·rw[ec,ea];exact hf.2
   ·rw[ec,ea,hf.1];exact w.byte
   ·rw[ec,ea,Ti,List.count_filter,w.cnt];rw[hue];exact Aoi _
  |none e1 q1=>
   exact(Ka hk (hc _ hm1) hm2 (by rw[←hue];exact q1)).elim
end
end Hm
end Go.Proofs.YtegnkfdbmmndaaaGreat
namespace Go.Proofs.YtegnkfdbmmndaaaGreat
open Hm
open Go.RowKit
namespace Hm
structure S6(M:Nat)(ln num:UInt8→Nat)(o:List UInt8)(l:List UInt8)(nds:List Nd)(col:List UInt8):Prop where
 rep:Rep ln num (Ak l) nds col
 shp:Bg M ln o nds
 numk:G7 M ln num o
 mem: ∀b∈col,b∈o
 pos: ∀b∈o,0<ln b
 num: ∀b∈o,num b<2^ln b
 fits: ∀n,n<nds.length→(Ab nds n).frm+(Ab nds n).siz≤8*l.length
def Kx(l:List UInt8)(nds:List Nd)(col:List UInt8):Prop:= ∃M ln num o,S6 M ln num o l nds col
end Hm
theorem Ai5(hones:Cd)(pb o len g ng nc a:Nat)(s:ByteArray)(nds:List Hm.Nd)(col:List UInt8)(w:World)(h:Gz w pb o s len g ng nc nds)(ht:Kx s.data.toList nds col)(ha:a<col.length)(hs:s.size≤1000000)(hcl:col.length≤1000000):
  Calls Tryz.prog 79 #[.pointer (some ⟨pb,o,none⟩),.int .i64 a] w fun e w'=>e= .returned (.tuple #[.int .u8 ((col.getD a 0).toNat:Nat),.int .i64 (((col.take a).count (col.getD a 0):Nat):Nat)])∧Apd w w':=by
 obtain⟨M,ln,num,od,ht⟩:=ht;have hsl:s.data.toList.length=s.size:=by simp
 have hw0:=Hm.Way.start ht.shp ht.mem ht.pos ht.num ha;have hn0:=ht.shp.more;have hn1:=ht.shp.few;have hpw:pb<w.heap.size:=Aly _ _ h.nodes;have hngw:ng<w.heap.size:=(h.nod.lt ng rfl).2;obtain⟨x,hx⟩: ∃x,x=col.getD a 0:=⟨_,rfl⟩;obtain⟨c,hc⟩: ∃c,c=(col.take a).count (col.getD a 0):=⟨_,rfl⟩;have hst:=fun n q (w:Hm.Way ln num nds col a n q)=>Hm.Way.step ht.rep ht.shp ht.numk ht.mem w;rw[←hc,←hx]at hst⊢;have HST:Hid _:=hst;have HT:Hid (S6 M ln num od s.data.toList nds col):=ht;have HH:Hid (Gz w pb o s len g ng nc nds):=h;clear h ht hst hx hc
 go_enter Tryz.func79,Tryz.ntmps79
 go_wp2
 go_loopg [1] (nds.length+1) (fun k v1 wr=> ∃(b:Hm.Br) (q:Nat),v1= .int .i64 q∧wr.heap[w.heap.size]?=some (.cells (Du b).toArray 192 (0,0))∧Apd w wr∧((b.whole=false∧Hm.Way ln num nds col a b.node q∧nds.length+1≤k+b.node)∨(b={whole:=true,val:=x}∧q=c)))
 case atStart=>exact⟨{},a,rfl,All w _,(Aa.refl _ _).alloc _,.inl ⟨rfl,hw0,by show _≤_+0;omega⟩⟩
 case round=>
  obtain⟨b,q,rfl,hrow,hkr,hcase⟩:=hrel;have HR:Hid (wr.heap[w.heap.size]?=some (.cells (Du b).toArray 192 (0,0))∧Apd w wr):=⟨hrow,hkr⟩;have f0:wr.frozen? ⟨w.heap.size,0,none⟩=false:=Alk _ _ 0 _ _ hrow;have f1:wr.frozen? ⟨w.heap.size,1,none⟩=false:=Alk _ _ 1 _ _ hrow;have f2:wr.frozen? ⟨w.heap.size,2,none⟩=false:=Alk _ _ 2 _ _ hrow;rcases hcase with⟨hbw,way,hgk⟩|⟨rfl,rfl⟩
  ·obtain⟨bw,bv,bn⟩:=b;obtain rfl:bw=false:=hbw;have c0:wr.cell? ⟨w.heap.size,0,none⟩=some (.bool false):=Alc _ _ 0 _ _ _ hrow;have c1:wr.cell? ⟨w.heap.size,1,none⟩=some (.int .u8 (bv.toNat:Nat)):=Alc _ _ 1 _ _ _ hrow;have c2:wr.cell? ⟨w.heap.size,2,none⟩=some (.int .i64 (bn:Nat)):=Alc _ _ 2 _ _ _ hrow;obtain⟨u,hu,hfu,hnext⟩:=HST.out _ _ way
   replace hgk:nds.length+1≤gk+bn:=hgk
   have hbl:bn<nds.length:=way.lt;have h1:=HH.out.kept hkr id id id;have hfits:=HT.out.fits bn hbl;have hq:q<(Ab nds bn).siz:=by rw[HT.out.rep.siz bn hbl];exact way.at'
   have hq2:q<1000000:=by have h3:q<(Ao ln num nds col bn).length:=way.at';have h4:=Nm ln num nds col bn;omega
   rw[hsl]at hfits;have hbit:=fun W (hW:Gz W pb o s len g ng nc nds)=>Xg pb o ((Ab nds bn).frm+q) s W hW.bits.str (by omega) (by omega);have hfol:=Afl hones pb o len g ng nc s nds ⟨false,bv,bn⟩ u q
   replace hfol: ∀W,Gz W pb o s len g ng nc nds→_:=fun W hW=>hfol W hW hbl hu (by show(Ab nds bn).frm+q≤_;omega) hs hn1
   have hun:((Ak s.data.toList ((Ab nds bn).frm+q)).toNat:Nat)=u:=by
    have hfu':Ak s.data.toList ((Ab nds bn).frm+q)=decide (u=1):=hfu;rw[hfu'];rcases(show u=0∨u=1 by omega)with rfl|rfl<;>rfl
   rw[hun]at hbit;have c515:=h1.nodes;have hfr:=Uz h1.nod rfl hbl;have hfb:(Ab nds bn).frm≤8*s.size:=by omega
   have HBR:Hid ((Du ⟨false,bv,bn⟩).toArray= #[.bool false,.int .u8 (bv.toNat:Nat),.int .i64 (bn:Nat)]):=rfl;have HNX:Hid (((Ab nds bn).br u={whole:=true,val:=x}∧Gv (Ak s.data.toList) nds bn u q=c)∨
    ∃m,0<m∧bn<m∧(Ab nds bn).br u={node:=m}∧Hm.Way ln num nds col a m (Gv (Ak s.data.toList) nds bn u q)):=hnext
   have hfb2:(Ab nds bn).frm≤8000000:=by omega
   clear hfits hq hfu hun hfb hrow way hnext;generalize(Ab nds bn).frm=fr at hbit hfr hfb2;obtain⟨fq,hfq⟩: ∃y,y=fr+q:=⟨_,rfl⟩;have zfq:(fr:Int)+(q:Int)=(fq:Int):=by omega
   have hwq:IntKind.i64.wrap (fq:Int)=(fq:Int):=by rw[Al9];omega
   rw[←hfq]at hbit;have HB:Hid _:=hbit;have HF:Hid _:=hfol;have HTP:Hid (Gz wr pb o s len g ng nc nds):=h1;have hbI:(bn:Int)<(nds.length:Int):=by omega
   clear hbit hfol h1 hfq hkr;go_wp2_with fail;go_quiet(first
    |(go_at_call 123;refine Ams (HB.out _ ?_);exact HTP.out.kept ((Aa.refl (fun _=>False) wr).drewN _) id id id))
   have HK1:Hid (Apd wr (wr.drewN nq)):=(Aa.refl _ _).drewN _;have HR1:Hid ((wr.drewN nq).heap[w.heap.size]?=some (.cells (Du ⟨false,bv,bn⟩).toArray 192 (0,0))):=HR.out.1
   replace c0:(wr.drewN nq).cell? ⟨w.heap.size,0,none⟩=some (.bool false):=c0
   replace c1:(wr.drewN nq).cell? ⟨w.heap.size,1,none⟩=some (.int .u8 (bv.toNat:Nat)):=c1
   replace c2:(wr.drewN nq).cell? ⟨w.heap.size,2,none⟩=some (.int .i64 (bn:Nat)):=c2
   generalize wr.drewN nq=W1 at HK1 HR1 c0 c1 c2⊢;have hfo:=HF.out W1 (HTP.out.kept HK1.out id id id);rw[HBR.out]at hfo;clear HB HF c515 hfr f0 f1 f2;go_wp2_with fail;have HKW:Hid (Apd w W1):=HR.out.2.trans HK1.out (fun _ _ h=>h);rcases HNX.out with⟨e1,e2⟩|⟨m,hm0,hm1,e1,way2⟩
   ·rw[e1,show Gv (Ak s.data.toList) nds (Hm.Br.mk false bv bn).node u q=c from e2,show(Du {whole:=true,val:=x}).toArray= #[.bool true,.int .u8 (x.toNat:Nat),.int .i64 0]from rfl]at hfo;refine hfo.mono ?_;rintro e w2 ⟨rfl,hk2⟩;have hb2:=hk2.row HR1.out id;have HB2:Hid (w2.heap[w.heap.size]?=some (.cells (Du ⟨false,bv,bn⟩).toArray 192 (0,0))∧Apd w w2):=⟨hb2,HKW.out.trans hk2 (fun _ _ h=>h)⟩;have c0:w2.cell? ⟨w.heap.size,0,none⟩=some (.bool false):=Alc _ _ 0 _ _ _ hb2;have c1:w2.cell? ⟨w.heap.size,1,none⟩=some (.int .u8 (bv.toNat:Nat)):=Alc _ _ 1 _ _ _ hb2;have c2:w2.cell? ⟨w.heap.size,2,none⟩=some (.int .i64 (bn:Nat)):=Alc _ _ 2 _ _ _ hb2;have f0:w2.frozen? ⟨w.heap.size,0,none⟩=false:=Alk _ _ 0 _ _ hb2;have f1:w2.frozen? ⟨w.heap.size,1,none⟩=false:=Alk _ _ 1 _ _ hb2;have f2:w2.frozen? ⟨w.heap.size,2,none⟩=false:=Alk _ _ 2 _ _ hb2;clear hfo hk2 hb2 e1 e2 HKW HNX;go_wp2_with fail
    go_roundg (gk-1)
    case rel=>exact⟨{whole:=true,val:=x},c,rfl,Alf _ _ 2 _ _ (.int .i64 0) (Alf _ _ 1 _ _ (.int .u8 (x.toNat:Nat)) (Alf _ _ 0 _ _ (.bool true) HB2.out.1)),((HB2.out.2.setCell (.inl (Ale _)) _).setCell (.inl (Ale _)) _).setCell (.inl (Ale _)) _,.inr ⟨rfl,rfl⟩⟩
    case measure=>omega
   ·obtain⟨ah,hah⟩: ∃y,y=Gv (Ak s.data.toList) nds bn u q:=⟨_,rfl⟩;rw[←hah]at way2;rw[e1,show Gv (Ak s.data.toList) nds (Hm.Br.mk false bv bn).node u q=ah from hah.symm,show(Du {node:=m}).toArray= #[.bool false,.int .u8 0,.int .i64 (m:Nat)]from rfl]at hfo;refine hfo.mono ?_;rintro e w2 ⟨rfl,hk2⟩;have hb2:=hk2.row HR1.out id;have HB2:Hid (w2.heap[w.heap.size]?=some (.cells (Du ⟨false,bv,bn⟩).toArray 192 (0,0))∧Apd w w2):=⟨hb2,HKW.out.trans hk2 (fun _ _ h=>h)⟩;have c0:w2.cell? ⟨w.heap.size,0,none⟩=some (.bool false):=Alc _ _ 0 _ _ _ hb2;have c1:w2.cell? ⟨w.heap.size,1,none⟩=some (.int .u8 (bv.toNat:Nat)):=Alc _ _ 1 _ _ _ hb2;have c2:w2.cell? ⟨w.heap.size,2,none⟩=some (.int .i64 (bn:Nat)):=Alc _ _ 2 _ _ _ hb2;have f0:w2.frozen? ⟨w.heap.size,0,none⟩=false:=Alk _ _ 0 _ _ hb2;have f1:w2.frozen? ⟨w.heap.size,1,none⟩=false:=Alk _ _ 1 _ _ hb2;have f2:w2.frozen? ⟨w.heap.size,2,none⟩=false:=Alk _ _ 2 _ _ hb2;have HW2:Hid (Hm.Way ln num nds col a m ah):=way2;clear hfo hk2 hb2 e1 hah HKW HNX way2;go_wp2_with fail
    go_roundg (gk-1)
    case rel=>exact⟨{node:=m},ah,rfl,Alf _ _ 2 _ _ (.int .i64 (m:Nat)) (Alf _ _ 1 _ _ (.int .u8 0) (Alf _ _ 0 _ _ (.bool false) HB2.out.1)),((HB2.out.2.setCell (.inl (Ale _)) _).setCell (.inl (Ale _)) _).setCell (.inl (Ale _)) _,.inl ⟨rfl,HW2.out,by show _≤gk-1+m;omega⟩⟩
    case measure=>omega
  ·have c0:wr.cell? ⟨w.heap.size,0,none⟩=some (.bool true):=Alc _ _ 0 _ _ _ hrow;have c1:wr.cell? ⟨w.heap.size,1,none⟩=some (.int .u8 (x.toNat:Nat)):=Alc _ _ 1 _ _ _ hrow;clear hrow hkr;go_wp2_with fail;go_ret2;exact⟨rfl,HR.out.2⟩
def Eh(w:World)(t g:Nat)(l:List Nat):Prop:=w.heap[g]?=some (.cells (Ac l).toArray t (0,0))
theorem Eh.cell{w:World}{t g:Nat}{l:List Nat}(h:Eh w t g l){i:Nat}(hi:i<l.length):w.cell? ⟨g,i,none⟩=some (.int .i64 (l[i]:Nat)):=by
 rw[Alc _ _ i _ _ _ h];simp[Ac,hi]
theorem Eh.free{w:World}{t g:Nat}{l:List Nat}(h:Eh w t g l)(i:Nat):w.frozen? ⟨g,i,none⟩=false:=Alk _ _ i _ _ h
theorem Eh.set{w:World}{t g:Nat}{l:List Nat}(h:Eh w t g l)(i x:Nat):Eh (w.setCell ⟨g,i,none⟩ (.int .i64 (x:Nat))) t g (l.set i x):=by
 have h2:=Alf w g i _ _ (.int .i64 (x:Nat)) h;unfold Eh;rw[h2];congr 2;apply Am6;simp[Ac,List.map_set]
theorem Eh.lt{w:World}{t g:Nat}{l:List Nat}(h:Eh w t g l):g<w.heap.size:=Alw h
theorem Eh.kept{S:Nat→Prop}{w w':World}{t g:Nat}{l:List Nat}(h:Eh w t g l)(hk:Aa S w w')(hn: ¬S g):Eh w' t g l:=hk.row h hn
theorem Ai6:Tryz.zeroCells94=(Ac (List.replicate 256 0)).toArray:=by kernel_rfl
theorem Ju:Tryz.zeroCells139=(Ac (List.replicate 256 0)).toArray:=by kernel_rfl
theorem Mz(T:TypeId)(n:Nat)(hT:Tryz.prog.underlying T=some (.array n 3))(l:List Nat)(i:Nat)(hi:i<l.length)(hn:l.length=n)(w:World):
  (Instr.index T (.agg (Ac l).toArray) (.int .i64 (i:Nat))).run Tryz.prog w= .ok (.int .i64 (l[i]:Nat)) w:=by
 have z3:=Tryz.sizeOf3;have a3:=Tryz.isAgg3;have hlt:(i:Int)<(n:Int):=by omega
 unfold Instr.index;simp only[Sem.run_bind,run_underlying hT,Result.andThen_ok,asIntOf,Sem.run_pure,Int.natCast_nonneg,hlt,and_self,if_true,z3,Int.toNat_natCast,An3,part,a3];simp[Ac,hi]
namespace Hm
def F5(N c k:Nat):List Nat:=(List.replicate N 0).set c k
theorem Abb(N c k:Nat):(F5 N c k).length=N:=by simp[F5]
end Hm
theorem M9:(Tryz.prog.info? 216).map (fun i=>(i.zero,i.size,i.bytes))=some (some (.agg #[.int .i64 0,.int .u8 0,.slice none 0 0]),3,40):=by kernel_rfl
theorem Aa.setRow{S:Nat→Prop}{a b:World}(h:Aa S a b){g:Nat}(hp:a.heap.size≤g∨S g)(cs:Array Value):Aa S a (b.setRow g cs):=by
 refine⟨h.os,h.tape,h.output,by have:=h.size;simp;omega,fun j hj hn=>?_⟩;have hne:j≠g:=by
  rintro rfl;rcases hp with hp|hp
  ·omega
  ·exact hn hp
 exact(setRow_other b g j cs hne).trans (h.block j hj hn)
theorem wpList_store_row{P:Program}(w:World){ops:Array Oper}{rest:List Oper}{op:Oper}{a:Act}{Q:Exit→Act→World→Prop}(hgd:op.guard=none)(ty:TypeId)(x y:Operand)(ho:op.op= .store ty x y)
  (g:Nat) (t:TypeId) (old cells:Array Value) (hx:a.eval x= .pointer (some ⟨g,0,none⟩)) (hy:a.eval y= .agg cells) (hg:w.heap[g]?=some (.cells old t (0,0)))
  (hi:(P.info? ty).map (·.size)=some cells.size) (hs:old.size=cells.size) (h1:cells.all (·.oneCell')=true)
  (h: ∀w',w'.heap[g]?=some (.cells cells t (0,0))→Aa (fun j=>j=g) w w'→wpList P ops Q rest (a.put op.dst undef) w'):wpList P ops Q (op::rest) a w:=by
 refine wpList_plain hgd fun K hK=>?_;unfold Oper.wp execOp;simp only[ho,hx,hy,Instr.storeAt,Instr.sureAddr,Sem.run_bind,Sem.run_pure,Result.andThen_ok,run_storeVar_row w g t ty old cells hg hi hs h1];exact hK _ _ (h _ (setRow_heap w g old cells t _ hg) ((Aa.refl (fun j=>j=g) w).setRow (g:=g) (.inr rfl) _))
theorem Eb(l:List Nat):(Ac l).toArray.all (·.oneCell')=true:=by
 rw[An2];intro v hv;have:v∈Ac l:=by simpa using hv
 unfold Ac at this;obtain⟨x,_,rfl⟩:=List.mem_map.1 this;rfl
theorem A2(l:List Nat):(Ac l).toArray.size=l.length:=by simp[Ac]
theorem B9:(Tryz.prog.info? 139).map (·.size)=some 256:=by kernel_rfl
theorem Ai7(cn:Nat):Tryz.zeroCells139.setIfInBounds cn (.int .i64 1)=(Ac (F5 256 cn 1)).toArray:=by
 rw[Ju];unfold F5;apply Am6;rw[Array.toList_setIfInBounds];simp only[Ac,Anm];rfl
namespace Hm
def Bi(L:List Nat)(k:Nat):List UInt8:=((List.range k).filter fun b=>decide (0<L.getD b 0)).map UInt8.ofNat
def Ai(L:List Nat):List UInt8:=Bi L 256
theorem Nq(L:List Nat)(k:Nat):Bi L (k+1)=Bi L k++if 0<L.getD k 0 then [UInt8.ofNat k]else []:=by
 unfold Bi;rw[An4,Ang,Am9];congr 1;rw[Am1,List.filter_nil]
 by_cases e:0<L.getD k 0
 ·rw[if_pos (by simpa using e),if_pos e];rfl
 ·rw[if_neg (by simpa using e),if_neg e];rfl
theorem E0(L:List Nat)(k:Nat):(Bi L k).length≤k:=by
 unfold Bi;rw[Al6];have:=Ao2 (fun b=>decide (0<L.getD b 0)) (List.range k);simpa using this
def Bo(L:List Nat)(l:List UInt8):List UInt8:=l.flatMap fun b=>[b,UInt8.ofNat (L.getD b.toNat 0)]
theorem Zr(L:List Nat)(l:List UInt8)(k:Nat)(h:k<l.length):Bo L (l.take (k+1))=Bo L (l.take k)++[l[k],UInt8.ofNat (L.getD l[k].toNat 0)]:=by
 rw[Ali h];unfold Bo;rw[Ana];congr 1
theorem Jl(L:List Nat)(l:List UInt8):(Bo L l).length=2*l.length:=by
 unfold Bo;induction l with
 |nil=>rfl
 |cons b r ih=>rw[Amg,Alg,ih];simp;try omega
end Hm
set_option maxHeartbeats 1000000 in
theorem Rq(L:List Nat)(w:World)(hL:L.length=256)(hx: ∀x∈L,x≤100000):
  Calls Tryz.prog 157 #[.agg (Ac L).toArray] w fun e w'=> ∃v,e= .returned v∧w'.ownsRow w.heap.size 5 1 v (Ai L).length (Ag (Ai L))∧Apd w w':=by
 obtain⟨i0,hi,hz0,hz1,hz2⟩:=Amz Ft;have hasz:(Ac L).toArray.size=256:=by rw[A2,hL]
 have hix: ∀b,(h:b<256)→ ∃x:Nat,x≤100000∧L.getD b 0=x∧ ∀W,(Instr.index 139 (.agg (Ac L).toArray) (.int .i64 (b:Nat))).run Tryz.prog W= .ok (.int .i64 (x:Nat)) W:=by
  intro b hb;refine⟨L[b],hx _ (Alo _),by rw[Ak6,Ak7 (by omega)];rfl,fun W=>?_⟩;exact Mz 139 256 Tryz.underlying139 L b (by omega) hL W
 have hbox:(w.alloc (.cells (Ac L).toArray 139)).heap[w.heap.size]?=some (.cells (Ac L).toArray 139 (0,0)):=All w _;generalize(Ac L).toArray=arr at*;clear hL hx
 go_enter Tryz.func157,Tryz.ntmps157
 go_wp2_with(refine Amd rfl 139 _ rfl w.heap.size rfl 139 arr (0,0) _ hbox Tryz.underlying139 rfl (by rw[hasz];exact B9) ?_)
 clear hbox hasz
 go_loopw[3,7] (fun u i wr=> ∃b:Nat,b≤256∧i= .int .i64 b∧wr.ownsRow w.heap.size 5 1 u (Bi L b).length (Ag (Bi L b))∧Apd w wr) (fun _ i _=>256-(intOf i).toNat)
 case atStart=>exact⟨0,by omega,rfl,by simpa[Bi,Ag]using Aoe _ w.heap.size 5 1,(Aa.refl _ _).alloc _⟩
 case round=>
  obtain⟨b,hb,rfl,hor,hkr⟩:=hrel;have hcl:=E0 L b
  by_cases hlt:b<256
  ·obtain⟨x,hx,hLx,hixb⟩:=hix b hlt;have HT:Hid (Bi L (b+1)=Bi L b++if 0<x then [UInt8.ofNat b]else []):=by rw[←hLx];exact Nq L b
   have hdec:decide ((b:Int)<256)=true:=by simp;omega
   clear hix hLx
   by_cases hpos:0<x
   ·have hdec2:decide (0<x)=true:=by simp;omega
    have HT2:Hid (Ag (Bi L (b+1))=Ag (Bi L b)++[.int .u8 (b:Nat)]∧(Bi L (b+1)).length=(Bi L b).length+1):=by
     constructor
     ·rw[HT.out,if_pos hpos];unfold Ag;rw[Am9,Amu,Ao1,Q8 hlt]
     ·rw[HT.out,if_pos hpos];simp
    clear HT
    go_wp2_with(at_builtin;refine A7 _ rfl (.tmp 13) (.tmp 16) 79 rfl w.heap.size 5 i0 (.int .u8 0) 1 1 Tryz.underlying79 hi hz0 hz1 hz2 rfl (by decide) _ _ _ rfl (hor.alloc _) ⟨wr.heap.size,0,none⟩ 1 1 [.int .u8 (b:Nat)] rfl rfl ?c1 ?c2 ?c3 ?c4 ?c5 ?_)
    case c1=>exact An9 _ _ _
    case c2=>intro u hu;simp at hu;subst hu;rfl
    case c3=>unfold maxLen;omega
    case c4=>omega
    case c5=>have:=hkr.size;simp;omega
    intro v' w2 ho2 hg2 hm2;have hk2:Apd w w2:=(hkr.alloc _).grown hg2 (fun j hj=> .inl (hor.lt j hj).1);clear hg2 hm2 hor hkr;go_wp2;go_roundw
    case rel=>exact⟨b+1,by omega,by go_num,by rw[HT2.out.1,HT2.out.2];exact ho2,hk2⟩
    case measure=>simp[intOf];omega
   ·have hx0:x=0:=by omega
    subst hx0;have HT2:Hid (Bi L (b+1)=Bi L b):=by
     show _=_;rw[HT.out,if_neg hpos,Am4]
    clear HT;go_wp2;go_roundw
    case rel=>exact⟨b+1,by omega,by go_num,by rw[HT2.out];exact hor,hkr⟩
    case measure=>simp[intOf];omega
  ·have hdec:decide ((b:Int)<256)=false:=by simp;omega
   obtain rfl:b=256:=by omega
   clear hix;go_wp2;go_ret;exact⟨_,rfl,hor,hkr⟩
set_option maxHeartbeats 2000000 in
theorem Xi(base:Nat)(v:Value)(n:Nat)(l:List UInt8)(L:List Nat)(w:World)(ho:w.ownsRow base 5 1 v n (Ag l))(hb:base≤w.heap.size)(hL:L.length=256)(hx: ∀x∈L,x≤255)(hn:n≤100000):
  Calls Tryz.prog 105 #[v,.agg (Ac L).toArray] w fun e w'=> ∃v',e= .returned v'∧w'.ownsRow base 5 1 v' (n+2+2*(Ai L).length) (Ag (l++Hm.leBytes (Ai L).length 2++Bo L (Ai L)))∧Aa (fun j=>v.ownBlock=some j) w w'∧Cc w v v':=by
 obtain⟨i0,hi,hz0,hz1,hz2⟩:=Amz Ft;have hasz:(Ac L).toArray.size=256:=by rw[A2,hL]
 have hcl:=E0 L 256;have hv0: ∀j,v.ownBlock=some j→j<w.heap.size:=fun j hj=>(ho.lt j hj).2;have hby:=Rq L (w.alloc (.cells (Ac L).toArray 139)) hL (fun x hxm=>by have:=hx x hxm;omega);have hbox:(w.alloc (.cells (Ac L).toArray 139)).heap[w.heap.size]?=some (.cells (Ac L).toArray 139 (0,0)):=All w _;have hcell: ∀W:World,W.heap[w.heap.size]?=some (.cells (Ac L).toArray 139 (0,0))→ ∀b:Nat,b<256→W.cell? ⟨w.heap.size,b,none⟩=some (.int .i64 (L.getD b 0:Nat)):=by
  intro W hW b hb;rw[Alc _ _ b _ _ _ hW];simp[Ac,List.getD_eq_getElem?_getD,List.getElem?_eq_getElem (show b<L.length from by omega)]
 have hgx: ∀b:Nat,b<256→L.getD b 0≤255:=fun b hb=>by
  rw[Ak6,Ak7 (show b<L.length from by omega)];exact hx _ (Alo _)
 change (Ai L).length≤256 at hcl
 generalize hC:Ai L=C at*;generalize(Ac L).toArray=arr at*;clear hx hL hC
 go_enter Tryz.func105,Tryz.ntmps105
 go_wp2_with(first
  |(refine Amd rfl 139 _ rfl w.heap.size rfl 139 arr (0,0) _ hbox Tryz.underlying139 rfl (by rw[hasz];exact B9) ?_)
  |(go_at_call 157;fail))
 refine hby.mono ?_;rintro e w2 ⟨vc,rfl,hoc,hk2⟩;clear hby
 have hs2:w.heap.size+1≤w2.heap.size:=by have:=hk2.size;simpa using this
 have hbox2:=hk2.row hbox id;have hvc: ∀j,vc.ownBlock=some j→w.heap.size<j∧j<w2.heap.size:=fun j hj=>by have:=hoc.lt j hj;simp at this;omega
 have ho2:w2.ownsRow base 5 1 v n (Ag l):=(((Aa.refl (fun _=>False) w).alloc _).trans hk2 (fun _ _ h=>h)).owns ho (fun _ _ h=>h);have hkw2:Aa (fun j=>v.ownBlock=some j) w w2:=(((Aa.refl (fun _=>False) w).alloc _).trans hk2 (fun _ _ h=>h)).wider (fun _ _ h=>h.elim);obtain⟨ac,cc,hvce,hcc⟩:=Ay hoc;subst hvce;have han:=Kw base v n C.length 2 l w2 ho2 (by omega) (by omega) (by omega) (by omega);clear hbox hk2 ho
 go_wp2_with(first|(go_at_call 101;fail))
 refine han.mono ?_;rintro e w3 ⟨v3,rfl,ho3,hk3,hm3⟩;clear han;have hbox3:=hk3.row hbox2 (fun e=>by have:=hv0 _ e;omega);have hoc3:=hk3.owns hoc (fun j hj e=>by have:=hv0 _ e;have:=hvc j hj;omega);go_wp2
 go_loopw[0,16] (fun u i wr=> ∃k:Nat,k≤C.length∧i= .int .i64 k∧wr.ownsRow base 5 1 u (n+2+2*k) (Ag (l++Hm.leBytes C.length 2++Bo L (C.take k)))∧Aa (fun j=>v.ownBlock=some j) w2 wr∧Cc w2 v u) (fun _ i _=>C.length-(intOf i).toNat)
 case atStart=>exact⟨0,Alr _,rfl,by simpa[Bo]using ho3,hk3,hm3⟩
 case round=>
  clear ho3 hk3 hm3 hbox3 hoc3 ho2;obtain⟨k,hk,rfl,hor,hkr,hmr⟩:=hrel;have hocr:=hkr.owns hoc (fun j hj e=>by have:=hv0 _ e;have:=hvc j hj;omega);have hboxr:=hkr.row hbox2 (fun e=>by have:=hv0 _ e;omega)
  by_cases hlt:k<C.length
  ·obtain⟨g,cap,hv,_,hgw⟩:=Cf hocr (by omega);simp only[Value.slice.injEq]at hv;obtain⟨hac,_,hcap⟩:=hv;subst hac;subst hcap;have hck:wr.cell? ⟨g,k,none⟩=some (.int .u8 (C[k].toNat:Nat)):=by
    rw[hocr.cellAt k (by omega)];simp[Ag,hlt]
   have HT:Hid (Bo L (C.take (k+1))=Bo L (C.take k)++[C[k],UInt8.ofNat (L.getD C[k].toNat 0)]):=Zr L C k hlt;have hb256:C[k].toNat<256:=C[k].toNat_lt;have hcb:=hcell wr hboxr C[k].toNat hb256;have hgb:=hgx C[k].toNat hb256;generalize hCk:C[k]=ck at*;generalize hLk:L.getD ck.toNat 0=x at*;generalize hcn:ck.toNat=cn at*;have HC:Hid (ck.toNat=cn):=hcn;have hdec:decide ((k:Int)<(C.length:Int))=true:=by simp;omega
   clear hocr hboxr hcell hgx hoc hbox2 hcn hLk hCk
   go_wp2_with(at_builtin;refine A7 _ rfl (.tmp 20) (.tmp 26) 79 rfl base 5 i0 (.int .u8 0) 1 1 Tryz.underlying79 hi hz0 hz1 hz2 rfl (by decide) _ _ _ rfl (hor.alloc _) ⟨wr.heap.size,0,none⟩ 2 2 [.int .u8 (cn:Nat),.int .u8 (x:Nat)] rfl rfl ?c1 ?c2 ?c3 ?c4 ?c5 ?_)
   case c1=>exact cell_two_new _ _ _ _
   case c2=>first|exact⟨rfl,rfl⟩|(intro u hu;simp at hu;rcases hu with rfl|rfl<;>rfl)
   case c3=>unfold maxLen;omega
   case c4=>omega
   case c5=>have:=hkr.size;simp;omega
   intro v' w5 ho5 hg5 hm5;have hk5:Aa (fun j=>v.ownBlock=some j) w2 w5:=(hkr.alloc _).grown hg5 (fun j hj=>(hmr j hj).elim (fun h=> .inr h) .inl);have hmv5:Cc w2 v v':=hmr.trans hm5 (by have:=hkr.size;simp;omega);clear hg5 hm5 hor hkr hmr;go_wp2;go_roundw
   case rel=>
    refine⟨k+1,by omega,by go_num,?_,hk5,hmv5⟩;have e:Ag (l++Hm.leBytes C.length 2++Bo L (C.take (k+1)))=Ag (l++Hm.leBytes C.length 2++Bo L (C.take k))++[.int .u8 (cn:Nat),.int .u8 (x:Nat)]:=by
     rw[HT.out,←Alx];unfold Ag;rw[Am9 (l₂:=[ck,UInt8.ofNat x]),Amu,Amu,Ao1,Q8 (by omega),HC.out]
    rw[e,show n+2+2*(k+1)=n+2+2*k+2 from by omega];simpa[List.append_assoc]using ho5
   case measure=>simp[intOf];omega
  ·obtain rfl:k=C.length:=by omega
   rw[Ama]at hor;have hdec:decide ((C.length:Int)<(C.length:Int))=false:=by simp
   clear hcell hgx;go_wp2;go_ret;refine⟨_,rfl,hor,hkw2.trans hkr (fun _ _ h=>h),fun j hj=>?_⟩;rcases hmr j hj with h|h
   ·exact .inl h
   ·exact .inr (by omega)
end Go.Proofs.YtegnkfdbmmndaaaGreat
