import Derived.Test.YtegnkfdbmmndaaaGreatJ18

set_option maxHeartbeats 8000000
namespace Go.Proofs.YtegnkfdbmmndaaaGreat
open Hm Go.Proofs.Tryz Go.RowKit
namespace Hm
def Cl(root row:Nat):Nat:=if root<row then row-1 else row
def Bw(col:Arc)(ws:Ard)(root row:Nat):UInt8×Nat:=
 if row=root then(0,0)else(col.getD (Cl root row) 0,Ci ws (col.getD (Cl root row) 0).toNat+(col.take (Cl root row)).count (col.getD (Cl root row) 0))
theorem V6{root row n:Nat}(h1:root≤n)(h2:row≤n)(a:row≠root):Cl root row<n:=by
 unfold Cl;split<;>omega
end Hm
structure Dd(w:World)(pb o:Nat)(s:ByteArray)(len g ng nc:Nat)(nds:List Hm.Nd)(root:Nat)(ws:Ard):Prop where
 tree:Ew w pb o s len g ng nc nds
 root:w.cell? ⟨pb,o+773,none⟩=some (.int .i64 (root:Nat))
 firsts: ∀b,b<256→w.cell? ⟨pb,o+774+b,none⟩=some (.int .i64 (Ci ws b:Nat))
theorem Dd.kept{S:Nat→Prop}{w w':World}{pb o len g ng nc root:Nat}{s:ByteArray}{nds:List Hm.Nd}{ws:Ard}(h:Dd w pb o s len g ng nc nds root ws)(hk:Aa S w w')(h1: ¬S pb)(h2: ¬S g)(c: ¬S ng):Dd w' pb o s len g ng nc nds root ws:=
 have a:pb<w.heap.size:=Ank _ _ h.root
 ⟨h.tree.kept hk h1 h2 c,(hk.cell (p:=⟨pb,o+773,none⟩) a h1).trans h.root,fun b hb=>(hk.cell (p:=⟨pb,o+774+b,none⟩) a h1).trans (h.firsts b hb)⟩
theorem Qh(pb o root row:Nat)(w:World)(h:w.cell? ⟨pb,o+773,none⟩=some (.int .i64 (root:Nat)))(c:row≤1000000):
  Calls prog 80 #[.pointer (some ⟨pb,o,none⟩),.int .i64 row] w fun e w'=>e= .returned (.int .i64 (Cl root row:Nat))∧w'=w:=by
 by_cases a:root<row
 ·have hd:decide (root<row)=true:=Ana a;have b:decide ((root:Int)<(row:Int))=true:=Ana (by omega);have e:Cl root row=row-1:=if_pos a;rw[e]
  go_enter func80,ntmps80
  go_wp2;go_ret;exact⟨by go_num,rfl⟩
 ·have hd:decide (root<row)=false:=Anc a;have b:decide ((root:Int)<(row:Int))=false:=Anc (by omega);have e:Cl root row=row:=if_neg a;rw[e]
  go_enter func80,ntmps80
  go_wp2;go_ret;exact⟨rfl,rfl⟩
theorem Q7(hones:Bd)(pb o len g ng nc root row:Nat)(s:ByteArray)(nds:List Hm.Nd)(ws:Ard)(col:Arc)(w:World)(h:Dd w pb o s len g ng nc nds root ws)(ht:J2 s.data.toList nds col)(y:root≤col.length)(z:row≤col.length)(hs:s.size≤1000000)(r:col.length≤1000000)(k: ∀b,b<256→Ci ws b≤1000000000):
  Calls prog 34 #[.pointer (some ⟨pb,o,none⟩),.int .i64 row] w fun e w'=>e= .returned (.tuple #[.int .u8 ((Bw col ws root row).1.toNat:Nat),.int .i64 ((Bw col ws root row).2:Nat)])∧Ara w w':=by
 have v:=h.root
 by_cases u:row=root
 ·have e:Bw col ws root row=(0,0):=if_pos u;rw[e];have hd:((row:Int)==(root:Int))=true:=by simp;omega
  clear h
  go_enter func34,ntmps34
  go_wp2_with fail;go_ret2;exact⟨rfl,Aa.refl _ _⟩
 ·have hd:((row:Int)==(root:Int))=false:=by simp;omega
  have D:=V6 y z u;have e:Bw col ws root row=(col.getD (Cl root row) 0,Ci ws (col.getD (Cl root row) 0).toNat+(col.take (Cl root row)).count (col.getD (Cl root row) 0)):=if_neg u;rw[e];have a:=fun W (i:Dd W pb o s len g ng nc nds root ws)=>Qh pb o root row W i.root (by omega);have j:=fun W (i:Dd W pb o s len g ng nc nds root ws)=>Akt hones pb o len g ng nc (Cl root row) s nds col W i.tree ht D hs r;generalize Cl root row=ix at*;have E:(col.take ix).count (col.getD ix 0)≤1000000:=Ant List.count_le_length (by rw[Anp];omega);generalize t:(col.take ix).count (col.getD ix 0)=ct at*;generalize A:col.getD ix 0=x at*;have n:x.toNat<256:=x.toNat_lt;have F:=k _ n;have f:Hid (∀W,Dd W pb o s len g ng nc nds root ws→W.cell? ⟨pb,o+774+x.toNat,none⟩=some (.int .i64 (Ci ws x.toNat:Nat))):=fun W i=>i.firsts _ n;generalize Ci ws x.toNat=fb at*;generalize x.toNat=xn at*;have C:Hid _:=a;have B:Hid _:=j
  have p:Hid (Dd w pb o s len g ng nc nds root ws):=h;clear h a j D e t A k ht
  go_enter func34,ntmps34
  go_wp2_with fail
  go_region_held(fun X=>Dd X pb o s len g ng nc nds root ws) (first|exact k2|exact k1|exact p.o.kept (Aa.refl (fun _=>False) w).drew id id id)
   (first
    |(go_at_call 80;(refine(C.o _ (p.o.kept (Aa.refl (fun _=>False) w).drew id id id)).mono ?_;rintro e w1 ⟨rfl,l⟩;have c:Ara w w1:=(by rw[l];exact(Aa.refl (fun _=>False) w).drew);have k1:=p.o.kept c id id id;clear l))
    |(go_at_call 79;(refine(B.o _ k1).mono ?_;rintro e w2 ⟨rfl,m⟩;have d:Ara w w2:=c.trans m (fun _ _ h=>h);have k2:=p.o.kept d id id id;clear m)))
  have G:=f.o _ k2;have q:Hid (Ara w w2):=d;clear k1 k2 c d C B f;go_wp2_with fail;go_quiet(fail);go_wp2_with fail;go_ret2;exact⟨by go_num,q.o.drewN _⟩
theorem Ak5:(prog.info? 9).map (fun i=>(i.zero,i.size,i.bytes))=some (some (.string ⟨#[]⟩),1,16):=by kernel_rfl
namespace Hm
def Fx(l:List ByteArray):Are:=l.map Value.string
def Au:Nat→Rd→List ByteArray×Rd
 |0,st=>([],st)
 |k+1,st=>((Au k st).1++[⟨(Bb (B5 (Au k st).2 1).2 (B5 (Au k st).2 1).1).1.toArray⟩],(Bb (B5 (Au k st).2 1).2 (B5 (Au k st).2 1).1).2)
theorem Fi(st:Rd): ∀k,(Au k st).1.length=k
 |0=>rfl
 |k+1=>by rw[Au];simp[Fi st k]
theorem Pb(st:Rd): ∀k,Bj (Au k st).2≤Bj st
 |0=>Ane _
 |k+1=>by
  have h1:=Pb st k;have h2:=Ed (Au k st).2 1;have a:Bj (Bb (Bb (Au k st).2 1).2 (Fe (Bb (Au k st).2 1).1)).2≤Bj (Bb (Au k st).2 1).2:=Ed _ _;show Bj (Bb (Bb (Au k st).2 1).2 (Fe (Bb (Au k st).2 1).1)).2≤_;omega
def Em(st:Rd)(m k:Nat):Are:=Fx ((Au k st).1++List.replicate (m-k) ⟨#[]⟩)
theorem Yt(st:Rd)(m k:Nat)(h:k≤m):(Em st m k).length=m:=by
 unfold Em Fx;rw[Anz,Anf,Fi,Ani];omega
theorem Ac7(st:Rd)(m k:Nat)(h:k<m):Em st m (k+1)=(Em st m k).set k (.string ⟨(Bb (B5 (Au k st).2 1).2 (B5 (Au k st).2 1).1).1.toArray⟩):=by
 have e:List.replicate (m-k) (⟨#[]⟩:ByteArray)=⟨#[]⟩::List.replicate (m-(k+1)) ⟨#[]⟩:=by rw[show m-k=(m-(k+1))+1 from by omega,Apf]
 unfold Em Fx;rw[Au,e,←Ap2,Aot _ _ (by rw[Fi];omega),Fi,Aoy,Am8,An4];rfl
theorem Ae4(st:Rd)(m k:Nat)(h:k<m):(Em st m k)[k]?=some (.string ⟨#[]⟩):=by
 unfold Em Fx;rw[An2,Ans (by rw[Fi];omega),Fi,Aoy];rw[show m-k=(m-(k+1))+1 from by omega,Apf];rfl
end Hm
theorem Ajn(p:Nat)(st:Hm.Rd)(m:Nat)(w:World)(Q:Ax w p st)(hm:m≤255)(P:Bj st≤281474976710656):
  Calls prog 66 #[.pointer (some ⟨p,0,none⟩),.int .i64 m] w fun e w'=>e= .returned (.slice (some ⟨w.heap.size,0,none⟩) m m)∧
   w'.heap[w.heap.size]?=some (.cells (Fx (Au m st).1).toArray 9 (0,0))∧Ax w' p (Au m st).2∧Aa (fun j=>j=p) w w':=by
 obtain⟨i0,hi,V,X,Y⟩:=Aoo Ak5;have hp:=Q.lt;have J:Hid (Ax w p st∧Bj st≤281474976710656):=⟨Q,P⟩;clear Q
 go_enter func66,ntmps66
 go_wp2_with(at_make;refine Apr _ rfl (.tmp 7) (.tmp 7) 26 rfl w.heap.size 9 i0 (.string ⟨#[]⟩) 1 underlying26 hi V X .i64 .i64 _ _ m rfl rfl rfl rfl (by rw[Y];omega) (by unfold maxLen;omega) (Ane _) ?_;intro w1 n s)
 have t:Ara w w1:=(Aa.refl _ _).grown s (fun k hk=>by cases hk);have B:w1.heap[w.heap.size]?=some (.cells (Em st m 0).toArray 9 (0,0)):=by
  rw[Aqk,show(Value.string ⟨#[]⟩).cells= #[Value.string ⟨#[]⟩]from rfl,toList_madeCells_one]at n;rcases n.2 with⟨h1,_⟩|⟨g2,cap,cur,h1,_,hg,_,_,hs,ht⟩
  ·cases h1
  ·cases h1;have e:cur.toList.take (m*1)=cur.toList:=An5 (by simp;omega);have e2:cur=(Em st m 0).toArray:=by
    apply Api;rw[←e,ht];simp[Em,Au,Fx]
   rw[hg,e2]
 clear n s;have L:Hid (w1.heap[w.heap.size]?=some (.cells (Em st m 0).toArray 9 (0,0))∧Ara w w1):=⟨B,t⟩;clear B t;go_wp2
 go_loopw[11] (fun vi wr=> ∃k:Nat,k≤m∧vi= .int .i64 k∧wr.heap[w.heap.size]?=some (.cells (Em st m k).toArray 9 (0,0))∧Ax wr p (Au k st).2∧Aa (fun j=>j=p) w wr) (fun vi _=>m-(intOf vi).toNat)
 case atStart=>exact⟨0,by omega,rfl,L.o.1,J.o.1.kept L.o.2 id,L.o.2.wider (fun _ _ h=>h.elim)⟩
 case round=>
  obtain⟨k,hk,rfl,b,f,d⟩:=hrel
  by_cases y:k<m
  ·have T:=Pb st k;have A:=Kt p (Au k st).2 1 wr f (by have:=J.o.2;omega) (by omega);have U:=Ho (Au k st).2 1;have E:=Ed (Au k st).2 1;have i:Hid (∀W,Ax W p (B5 (Au k st).2 1).2→Calls prog 64 #[.pointer (some ⟨p,0,none⟩),.int .i64 ((B5 (Au k st).2 1).1:Nat)] W fun e w'=>e= .returned (.string ⟨(Bb (B5 (Au k st).2 1).2 (B5 (Au k st).2 1).1).1.toArray⟩)∧Ax w' p (Bb (B5 (Au k st).2 1).2 (B5 (Au k st).2 1).1).2∧Aa (fun j=>j=p) W w'):=
    fun W h=>Lg p _ _ W h (by have:=J.o.2;show Bj (Bb (Au k st).2 1).2≤_;omega) (by simp at U;omega)
   have g:Hid (Em st m (k+1)=(Em st m k).set k (.string ⟨(Bb (B5 (Au k st).2 1).2 (B5 (Au k st).2 1).1).1.toArray⟩)∧(Au (k+1) st).2=(Bb (B5 (Au k st).2 1).2 (B5 (Au k st).2 1).1).2):=⟨Ac7 st m k y,rfl⟩;have N:=L2 (B5 (Au k st).2 1).2 (B5 (Au k st).2 1).1;have ac:=Yt st m k hk;have R:=Ae4 st m k y;generalize(B5 (Au k st).2 1).1=x at*;generalize Bb (B5 (Au k st).2 1).2 x=tk at*;obtain⟨S,M⟩: ∃S,S=(⟨tk.1.toArray⟩:ByteArray):=⟨_,rfl⟩;have q:S.size≤281474976710656:=by rw[M];show tk.1.toArray.size≤_;simp at U⊢;omega
   rw[←M]at i g;have r:=fun W=>Pk S W q;have G:Hid (wr.heap[w.heap.size]?=some (.cells (Em st m k).toArray 9 (0,0))∧Aa (fun j=>j=p) w wr):=⟨b,d⟩;have ab:(k:Int)<(m:Int):=by omega
   clear M b d f T E q N U;go_wp2_with fail;refine A.mono ?_;rintro e w2 ⟨rfl,C,u⟩;have F:=i.o w2 C;have Z:Hid (Aa (fun j=>j=p) wr w2):=u;clear A C u i;go_wp2_with fail;refine F.mono ?_;rintro e w3 ⟨rfl,D,v⟩;have H:Hid (Aa (fun j=>j=p) wr w3∧Ax w3 p tk.2):=⟨Z.o.trans v (fun _ _ h=>h),D⟩;clear F D v Z;go_wp2_with fail;refine(r _).mono ?_;rintro e w4 ⟨rfl,l⟩;have c:Aa (fun j=>j=p) wr w4:=H.o.1.trans l (fun _ _ h=>h.elim);have z:p≠w.heap.size:=by omega
   have a:=c.row G.o.1 (fun h=>z h.symm);have c1:w4.cell? ⟨w.heap.size,k,none⟩=some (.string ⟨#[]⟩):=by rw[Am7 _ _ k _ _ _ a];simpa using R
   have f1:w4.frozen? ⟨w.heap.size,k,none⟩=false:=Ang _ _ k _ _ a;have I:Hid (w4.heap[w.heap.size]?=some (.cells (Em st m k).toArray 9 (0,0))∧Aa (fun j=>j=p) w w4∧Ax w4 p tk.2):=⟨a,G.o.2.trans c (fun _ _ h=>h),H.o.2.kept l id⟩;clear r l c a H G;go_wp2_with fail;go_roundw
   case rel=>
    refine⟨k+1,by omega,by go_num,?_,?_,I.o.2.1.setCell (.inl (Ane _)) _⟩
    ·have e3:(Em st m k).toArray.setIfInBounds k (.string S)=((Em st m k).set k (.string S)).toArray:=by apply Api;simp
     rw[Anb _ _ k _ _ (.string S) I.o.1,g.o.1,e3]
    ·rw[g.o.2];have O:Aa (fun j=>j=w.heap.size) w4 (w4.setCell ⟨w.heap.size,k,none⟩ (.string S)):=(Aa.refl (fun j=>j=w.heap.size) w4).setCell (p:=⟨w.heap.size,k,none⟩) (.inr rfl) _;exact I.o.2.2.kept O z
   case measure=>simp[intOf];omega
  ·obtain rfl:k=m:=by omega
   have K:Hid (wr.heap[w.heap.size]?=some (.cells (Fx (Au k st).1).toArray 9 (0,0))∧Ax wr p (Au k st).2∧Aa (fun j=>j=p) w wr):=by
    refine⟨?_,f,d⟩;rw[b];simp[Em]
   clear b f d;go_wp2_with fail;go_ret;exact⟨rfl,K.o⟩
namespace Hm
def Et(ws:Ard)(col:Arc):Prop:=ws.length=256∧ ∀v:UInt8,ws.getD v.toNat 0=col.count v
theorem Yu(col:Arc)(b:Nat)(hb:b<256):col.countP (fun x=>decide (x.toNat<b+1))=col.countP (fun x=>decide (x.toNat<b))+col.count (UInt8.ofNat b):=by
 induction col with
 |nil=>rfl
 |cons y r ih=>
  rw[Aox,Aox,List.count_cons,ih];have e:(UInt8.ofNat b).toNat=b:=by simp;omega
  rcases Aop y.toNat b with h|h|h
  ·rw[Ana (show y.toNat<b+1 by omega),Ana h,show(y==UInt8.ofNat b)=false from by
    rw[Aod];intro x;rw[x,e]at h;omega]
   simp;omega
  ·rw[Ana (show y.toNat<b+1 by omega),Anc (show¬y.toNat<b by omega),show(y==UInt8.ofNat b)=true from by
    rw[beq_iff_eq];exact UInt8.toNat_inj.1 (by rw[e];exact h)]
   simp;omega
  ·rw[Anc (show¬y.toNat<b+1 by omega),Anc (show¬y.toNat<b by omega),show(y==UInt8.ofNat b)=false from by
    rw[Aod];intro x;rw[x,e]at h;omega]
   simp
theorem Et.first{ws:Ard}{col:Arc}(h:Et ws col): ∀b,b≤256→Ci ws b=1+col.countP fun x=>decide (x.toNat<b)
 |0,_=>by unfold Ci;simp
 |b+1,hb=>by
  have ih:=h.first b (by omega);have h1:=h.1;have e:(UInt8.ofNat b).toNat=b:=by simp;omega
  have h2:=h.2 (UInt8.ofNat b);rw[e,Am4,Am5 (by omega),Aps]at h2;rw[Tl ws b (by omega),ih,Yu col b (by omega),h2];omega
theorem Et.first_le{ws:Ard}{col:Arc}(h:Et ws col)(b:Nat)(hb:b≤256):Ci ws b≤col.length+1:=by
 rw[h.first b hb];have:=List.countP_le_length (p:=fun x:UInt8=>decide (x.toNat<b)) (l:=col);omega
theorem Ak6(col:Arc)(x:UInt8):col.countP (fun y=>decide (y.toNat<x.toNat))+col.count x≤col.length:=by
 induction col with
 |nil=>simp
 |cons y r ih=>
  rw[Aox,List.count_cons,An8]
  by_cases e:y=x
  ·subst e;simp;omega
  ·rw[show(y==x)=false from by rw[Aod];exact e];simp only[Bool.false_eq_true,if_false];split<;>omega
theorem Aay(col:Arc)(p:Nat)(a:p<col.length):(col.take p).count (col.getD p 0)<col.count (col.getD p 0):=by
 obtain⟨x,b⟩: ∃x,x=col.getD p 0:=⟨_,rfl⟩;have e:col=col.take p++x::col.drop (p+1):=by
  rw[b,Am4,Am5 a,Aps,←An7 a,Ao5]
 rw[←b];have e2:col.count x=(col.take p).count x+(x::col.drop (p+1)).count x:=by rw[←List.count_append,←e]
 rw[e2,List.count_cons_self];omega
theorem Ajo{col:Arc}{ws:Ard}(h:Et ws col){root row:Nat}(h1:root≤col.length)(h2:row≤col.length):(Bw col ws root row).2≤col.length:=by
 unfold Bw;split
 ·exact Ann _
 ·rename_i d;have e:=V6 h1 h2 d;have a:=Aay col (Cl root row) e;have b:=Ak6 col (col.getD (Cl root row) 0);have c:=(col.getD (Cl root row) 0).toNat_lt;show Ci _ _+_≤_;rw[h.first _ (by omega)];omega
def A5(stp:Nat→UInt8×Nat)(row:Nat):Nat→Arc×Nat
 |0=>([],row)
 |k+1=>((stp (A5 stp row k).2).1::(A5 stp row k).1,(stp (A5 stp row k).2).2)
theorem R9(stp:Nat→UInt8×Nat)(row:Nat): ∀k,(A5 stp row k).1.length=k
 |0=>rfl
 |k+1=>by show((_::_:Arc)).length=_;rw[An8,R9 stp row k]
theorem Nl{col:Arc}{ws:Ard}(h:Et ws col){root row:Nat}(h1:root≤col.length)(h2:row≤col.length): ∀k,(A5 (Bw col ws root) row k).2≤col.length
 |0=>h2
 |k+1=>Ajo h h1 (Nl h h1 h2 k)
def Gr(l:Arc)(j:Nat):Are:=Ah (List.replicate j 0++l)
theorem Ae5(l:Arc)(j:Nat)(x:UInt8):(Gr l (j+1)).set j (.int .u8 (x.toNat:Int))=Gr (x::l) j:=by
 unfold Gr Ah;rw[show(Value.int .u8 (x.toNat:Int))=(fun b:UInt8=>Value.int .u8 (b.toNat:Int)) x from rfl,←Ap2,Aq1,An4,Aot _ _ (by rw[Ani];omega),Ani,Aoy];rfl
theorem Ae6(l:Arc)(j:Nat):(Gr l (j+1))[j]?=some (.int .u8 0):=by
 unfold Gr Ah;rw[An2,Aq1,An4,Ans (by rw[Ani];omega),Ani,Aoy];rfl
end Hm
theorem Ajp:(prog.info? 5).map (fun i=>(i.zero,i.size,i.bytes))=some (some (.int .u8 0),1,1):=by kernel_rfl
theorem Ac8(hones:Bd)(pb o len g ng nc root row n:Nat)(s:ByteArray)(nds:List Hm.Nd)(ws:Ard)(col:Arc)(w:World)(h:Dd w pb o s len g ng nc nds root ws)(ht:J2 s.data.toList nds col)(f:Et ws col)(m:root≤col.length)(A:row≤col.length)(hs:s.size≤1000000)(t:col.length≤1000000)(hn:n≤1000000):
  Calls prog 33 #[.func (.func 34) #[.pointer (some ⟨pb,o,none⟩)] #[],.int .i64 row,.int .i64 n] w fun e w'=>e= .returned (.slice (some ⟨w.heap.size,0,none⟩) n n)∧
   w'.heap[w.heap.size]?=some (.cells (Ah (A5 (Bw col ws root) row n).1).toArray 5 (0,0))∧Ara w w':=by
 obtain⟨i0,hi,E,F,G⟩:=Aoo Ajp;have V:pb<w.heap.size:=Ank _ _ h.root;have C:Hid (∀k W,Dd W pb o s len g ng nc nds root ws→Calls prog 34 #[.pointer (some ⟨pb,o,none⟩),.int .i64 ((A5 (Bw col ws root) row k).2:Nat)] W fun e w'=>e= .returned (.tuple #[.int .u8 ((Bw col ws root (A5 (Bw col ws root) row k).2).1.toNat:Nat),.int .i64 ((Bw col ws root (A5 (Bw col ws root) row k).2).2:Nat)])∧Ara W w'):=
  fun k W N=>Q7 hones pb o len g ng nc root _ s nds ws col W N ht m (Nl f m A k) hs t (fun b hb=>by have:=f.first_le b (by omega);omega)
 have B:Hid (∀k,(A5 (Bw col ws root) row k).2≤1000000):=fun k=>Ant (Nl f m A k) t;have M:Hid (Dd w pb o s len g ng nc nds root ws):=h;clear h ht f;generalize Bw col ws root=stp at*
 go_enter func33,ntmps33
 go_wp2_with(at_make;refine Apr _ rfl (.tmp 9) (.tmp 9) 79 rfl w.heap.size 5 i0 (.int .u8 0) 1 underlying79 hi E F .i64 .i64 _ _ n rfl rfl rfl rfl (by rw[G];omega) (by unfold maxLen;omega) (Ane _) ?_;intro w1 l u)
 have x:Ara w w1:=(Aa.refl _ _).grown u (fun k hk=>by cases hk);have z:w1.heap[w.heap.size]?=some (.cells (Gr [] n).toArray 5 (0,0)):=by
  rw[Aqk,show(Value.int .u8 0).cells= #[Value.int .u8 0]from rfl,toList_madeCells_one]at l;rcases l.2 with⟨h1,_⟩|⟨g2,cap,cur,h1,_,P,_,_,hs,ht⟩
  ·cases h1
  ·cases h1;have e:cur.toList.take (n*1)=cur.toList:=An5 (by simp;omega);have e2:cur=(Gr [] n).toArray:=by
    apply Api;rw[←e,ht];simp[Gr,Ah]
   rw[P,e2]
 clear l u;have K:Hid (w1.heap[w.heap.size]?=some (.cells (Gr [] n).toArray 5 (0,0))∧Ara w w1):=⟨z,x⟩;clear z x;have Y:IntKind.i64.wrap ((n:Int)-1)=(n:Int)-1:=by rw[An9];omega
 go_wp2
 go_loopw[1,8] (fun vr vi wr=> ∃j k:Nat,j+k=n∧vi= .int .i64 ((j:Int)-1)∧vr= .int .i64 ((A5 stp row k).2:Nat)∧wr.heap[w.heap.size]?=some (.cells (Gr (A5 stp row k).1 j).toArray 5 (0,0))∧Ara w wr) (fun _ vi _=>(intOf vi+1).toNat)
 case atStart=>exact⟨n,0,rfl,rfl,rfl,K.o.1,K.o.2⟩
 case round=>
  obtain⟨j,k,S,rfl,rfl,c,d⟩:=hrel;cases j with
  |zero=>
   have hk:k=n:=by omega
   subst hk;have D:((0:Nat):Int)-1= -1:=rfl;rw[D];have L:Hid (wr.heap[w.heap.size]?=some (.cells (Ah (A5 stp row k).1).toArray 5 (0,0))∧Ara w wr):=⟨c,d⟩;clear c d;go_wp2_with fail;go_ret;exact⟨rfl,L.o⟩
  |succ j=>
   have D:((j+1:Nat):Int)-1=(j:Int):=by omega
   rw[D];have U:pb≠w.heap.size:=by omega
   have y:=C.o k wr (M.o.kept d id id id);have O:=B.o (k+1);have J:Hid (A5 stp row (k+1)=((stp (A5 stp row k).2).1::(A5 stp row k).1,(stp (A5 stp row k).2).2)):=rfl;have p:=Ae5 (A5 stp row k).1 j (stp (A5 stp row k).2).1;have v:=Ae6 (A5 stp row k).1 j;have H:Hid (wr.heap[w.heap.size]?=some (.cells (Gr (A5 stp row k).1 (j+1)).toArray 5 (0,0))∧Ara w wr):=⟨c,d⟩;have hd:decide ((0:Int)≤(j:Int))=true:=Ana (by omega);have T:j<n:=by omega
   have Q:(j:Int)<(n:Int):=by omega
   have X:IntKind.i64.wrap ((j:Int)-1)=(j:Int)-1:=by rw[An9];omega
   generalize stp (A5 stp row k).2=nx at*;generalize(A5 stp row k).2=r at*;generalize Gr (A5 stp row k).1 (j+1)=R at*;have q:Hid (R.set j (.int .u8 (nx.1.toNat:Int))=Gr (nx.1::(A5 stp row k).1) j):=p;clear c d p;go_wp2_with fail;refine y.mono ?_;rintro e w2 ⟨rfl,i⟩;have a:=i.row H.o.1 id;have c1:w2.cell? ⟨w.heap.size,j,none⟩=some (.int .u8 0):=by rw[Am7 _ _ j _ _ _ a];simpa using v
   have f1:w2.frozen? ⟨w.heap.size,j,none⟩=false:=Ang _ _ j _ _ a;have I:Hid (w2.heap[w.heap.size]?=some (.cells R.toArray 5 (0,0))∧Ara w w2):=⟨a,H.o.2.trans i (fun _ _ h=>h)⟩;clear y i a v;go_wp2_with fail;go_roundw
   case rel=>
    refine⟨j,k+1,by omega,rfl,by rw[J.o],?_,I.o.2.setCell (.inl (Ane _)) _⟩;rw[J.o];show _=some (Obj.cells (Gr (nx.1::(A5 stp row k).1) j).toArray _ _);rw[←q.o];rw[←Am6];exact Anb _ _ j _ _ _ I.o.1
   case measure=>simp[intOf]
end Go.Proofs.YtegnkfdbmmndaaaGreat
namespace Go.Proofs.YtegnkfdbmmndaaaGreat
open Hm Go.Proofs.Tryz
namespace Hm
theorem Pc(nds:List Nd){i j:Nat}(h:i≤j):C9 nds i≤C9 nds j:=by
 induction j with
 |zero=>rw[show i=0 by omega];exact Ane _
 |succ j ih=>
  by_cases e:i=j+1
  ·subst e;exact Ane _
  ·have:=ih (by omega);show _≤C9 nds j+_;omega
theorem Ke(l:Arc)(a k:Nat)(h:k<8*a):Am (l.take a) k=Am l k:=by
 unfold Am;rw[Am4,Apg (by omega),Am4]
theorem Kf{l:Arc}{n:Nat}{L:Ard}{st:Bl}(h:E9 l n L st):
  ∃col:Arc,col.length=n∧J2 (l.take (szB st.len)) st.nds col∧Et st.ws col:=by
 obtain⟨b,i⟩:=h;obtain⟨t,m⟩:=O9 b;have g:=m.nodes;have d:=Kp i;have a:=Ng g b.nodup rfl (Ane _) i;have q:=J7 i;have f:=g.like d.1;have e:(Dr L).length=st.nds.length:=d.1.1.symm
 replace a:K5 (Am (l.take (szB (E8 l n L)))) n (Dr L).length st:=a
 rw[e]at a;obtain⟨col,c1,c2,c3,c4⟩:=Vs a rfl f b.numk b.num_lt b.pos;have u:E8 l n L≤8*l.length:=Nat.min_le_left _ _;have s:st.len≤8*szB st.len:=by unfold szB;omega
 have k:(l.take (szB st.len)).length=szB st.len:=by rw[Anp];unfold szB;omega
 have fits: ∀j,j<st.nds.length→(Ab st.nds j).frm+(Ab st.nds j).siz≤st.len:=fun j c=>by
  rw[c3.frm j c,a.len];exact Pc st.nds (show j+1≤st.nds.length by omega)
 refine⟨col,c1,⟨32,lnB L,Bh L,Ae L,⟨c3.siz,c3.frm,fun j p c r=>?_⟩,f,b.numk,c2,b.pos,b.num_lt,fun j c=>?_⟩,a.wl,c4⟩
 ·have o:=fits j c;rw[←c3.bit j p c r,Ke l _ _ (by omega),Ke l _ _ (by unfold szB;omega)]
 ·rw[k];have o:=fits j c;omega
theorem Ajq{l:Arc}{n:Nat}{L:Ard}{st:Bl}(h:E9 l n L st)(x:Nat)(a:x∈st.ws):x≤n:=by
 obtain⟨col,c1,_,c3,c4⟩:=Kf h;obtain⟨i,hi,e⟩:=Aog a;have h1:=c4 (UInt8.ofNat i);rw[show(UInt8.ofNat i).toNat=i from by simp;omega,Am4,Am5 hi,Aps,e]at h1;rw[h1,←c1];exact List.count_le_length
end Hm
end Go.Proofs.YtegnkfdbmmndaaaGreat
namespace Go.Proofs.YtegnkfdbmmndaaaGreat
open Hm Go.Proofs.Tryz Go.RowKit
theorem Ajr:(prog.info? 94).map (·.size)=some 256:=by kernel_rfl
set_option maxRecDepth 100000 in
theorem Ac9(VA:Array Value)(root:Nat)(ws:Ard)(w:World)(s:VA.size=773)(G:VA.all (·.oneCell')=true)(f:ws.length=256)(hw: ∀b,b<256→VA[516+b]?=some (.int .i64 (ws.getD b 0:Nat)))(O: ∀x∈ws,x≤1000000):
  Calls prog 68 #[.agg VA,.int .i64 root] w fun e w'=>e= .returned (.agg (Cd VA root (Hm.firsts ws)).toArray)∧Ara w w':=by
 have E:=Ahp VA root s;obtain⟨R0,l⟩: ∃R,R=(Cd VA root (List.replicate 256 0)).toArray:=⟨_,rfl⟩;have u:R0.size=1030:=by rw[l,Anq];exact Gl VA root _ s Ani
 have t:R0.all (·.oneCell')=true:=by rw[l];exact Tm VA root _ G
 have P:Tryz.zeroCells98.size=1030:=by rw[Ae3,Anq];exact Gl _ 0 _ Hp Ani
 rw[←l]at E;have H:Hid (R0=(Cd VA root (Cx ws 0)).toArray):=by show _=_;rw[l,Aaw]
 obtain⟨W0,m⟩: ∃W0,W0=(w.alloc (.cells VA 96)).alloc (.cells Tryz.zeroCells98 98):=⟨_,rfl⟩;have K:Ara w W0:=by rw[m];exact((Aa.refl _ _).alloc _).alloc _
 have q:W0.heap[w.heap.size]?=some (.cells VA 96 (0,0)):=by rw[m];exact Apb w _ _
 have D:W0.heap[w.heap.size+1]?=some (.cells Tryz.zeroCells98 98 (0,0)):=by rw[m];exact Apc w _ _
 have HW:Hid ((w.alloc (.cells VA 96)).alloc (.cells Tryz.zeroCells98 98)=W0):=m.symm;have S:Hid (VA.size=773∧VA.all (·.oneCell')=true∧ws.length=256∧(∀b,b<256→VA[516+b]?=some (.int .i64 (ws.getD b 0:Nat)))∧(∀x∈ws,x≤1000000)):=⟨s,G,f,hw,O⟩;clear m l hw O G;have I:Hid (∀X,Aa (fun j=>j=W0.heap.size) (W0.alloc (.cells Tryz.zeroCells98 98)) X→X.rangeAt w.heap.size 516 (Ad ws)):=fun X hk=>by
  have aj:=Anu q;have J:=hk.row (((Aa.refl (fun _=>False) W0).alloc (.cells Tryz.zeroCells98 98)).row q id) (by omega);have h:=World.rangeAt_of_block J 516 256;have e:(VA.extract 516 (516+256)).toList=Ad ws:=by
   apply List.ext_getElem?;intro i
   by_cases hi:i<256
   ·have h2:=S.o.2.2.2.1 i hi;rw[Array.getElem?_toList,Array.getElem?_extract];simp only[Ad,An2];rw[if_pos (by rw[s];omega),h2,Am5 (by rw[f];exact hi),Am4,Am5 (by rw[f];exact hi)];rfl
   ·rw[Anx (by simp[s];omega),Anx (by simp[Ad,f];omega)]
  rwa[e]at h
 have V:(Ad ws).length=256:=by simp[Ad,f]
 go_enter func68,ntmps68
 go_upto_region 1 with fail
 rw[HW.o];clear HW
 go_wp2_with(first
  |(refine Aoh rfl 96 _ rfl w.heap.size rfl 96 VA (0,0) _ q underlying96 rfl (by rw[s];exact Ca) ?_)
  |(refine V5 rfl 98 0 1 (.tmp 9) (.tmp 10) rfl _ _ rfl rfl R0 E ?_)
  |(refine wpList_store_row _ rfl 98 _ _ rfl W0.heap.size 98 Tryz.zeroCells98 R0 rfl rfl (Anj W0 _) (by rw[u];exact Nk) (by rw[u];exact P) t ?_;intro w1 N F)
  |(refine wpList_load_mid rfl 94 _ rfl w.heap.size 516 rfl (Ad ws) _ (I.o _ F) underlying94 rfl (by rw[V];exact Ajr) ?_))
 have n:Ara W0 w1:=((Aa.refl (fun _=>False) W0).alloc _).trans F (fun j h1 h2=>by omega);have z:=n.row D id;have M:w.heap.size+1<W0.heap.size:=Anu D;have Q:Hid (Ara w w1∧w1.heap[w.heap.size+1]?=some (.cells Tryz.zeroCells98 98 (0,0))∧w1.heap[W0.heap.size]?=some (.cells (Cd VA root (Cx ws 0)).toArray 98 (0,0))∧w.heap.size+1<W0.heap.size):=⟨K.trans n (fun _ _ h=>h),z,by rw[N,H.o],M⟩;clear K n q D z F N E t H M I;generalize W0.heap.size=g at*
 go_loopw[6,14] (fun vf vi wr=> ∃k:Nat,k≤256∧vi= .int .i64 k∧vf= .int .i64 (Ci ws k:Nat)∧wr.heap[g]?=some (.cells (Cd VA root (Cx ws k)).toArray 98 (0,0))∧Ara w wr∧wr.heap[w.heap.size+1]?=some (.cells Tryz.zeroCells98 98 (0,0))) (fun _ vi _=>256-(intOf vi).toNat)
 case atStart=>exact⟨0,by omega,rfl,rfl,Q.o.2.2.1,Q.o.1,Q.o.2.1⟩
 case round=>
  obtain⟨k,hk,rfl,rfl,a,r,d⟩:=hrel;have ag:Ci ws k≤1+256*1000000:=by
   have h1:=Amy (ws.take k) 1000000 (fun x hx=>S.o.2.2.2.2 x (Aqm hx));have h2:(ws.take k).length*1000000≤256*1000000:=Aoj (by rw[Anp];omega) (Ane _);unfold Ci;omega
  by_cases L:k<256
  ·have ai:=fun W=>Nw 94 256 underlying94 ws k (by omega) f W;have aa:k<ws.length:=by omega
   have al:=S.o.2.2.2.2 ws[k] (Anm _);have HF:Hid (Ci ws (k+1)=Ci ws k+ws[k]):=Tl ws k aa;have HR:Hid ((Cd VA root (Cx ws k)).set (774+k) (.int .i64 (Ci ws k:Nat))=Cd VA root (Cx ws (k+1))):=by show _=_;rw[Ajk VA root _ s,Aax ws k L]
   have c1:wr.cell? ⟨g,774+k,none⟩=some (.int .i64 ((Cx ws k).getD k 0:Nat)):=by
    rw[Am7 _ _ _ _ _ _ a,Anw,Ajl VA root _ s k (by rw[Gq];exact L)]
   have f1:wr.frozen? ⟨g,774+k,none⟩=false:=Ang _ _ _ _ _ a;have B:Hid (wr.heap[g]?=some (.cells (Cd VA root (Cx ws k)).toArray 98 (0,0))∧Ara w wr∧wr.heap[w.heap.size+1]?=some (.cells Tryz.zeroCells98 98 (0,0))):=⟨a,r,d⟩;generalize(Cx ws k).getD k 0=old at*;generalize Ci ws k=fa at*;generalize ws[k]=x at*;have Y:(k:Int)<256:=by omega
   clear a r d;go_wp2_with fail;have e3:(Cd VA root (Cx ws k)).toArray.setIfInBounds (774+k) (.int .i64 (fa:Nat))=(Cd VA root (Cx ws (k+1))).toArray:=by rw[←HR.o];apply Api;simp
   have ah:=Q.o.2.2.2;exact⟨⟨k+1,by omega,by go_num,by rw[HF.o];go_num,by rw[Anb _ _ (774+k) _ _ (.int .i64 (fa:Nat)) B.o.1,e3],B.o.2.1.setCell (p:=⟨g,774+k,none⟩) (.inl (by show w.heap.size≤g;omega)) _,((Aa.refl (fun j=>j=g) wr).setCell (p:=⟨g,774+k,none⟩) (.inr rfl) _).row B.o.2.2 (by omega)⟩,by simp[intOf];omega⟩
  ·obtain rfl:k=256:=by omega
   have y:=Tm VA root (Cx ws 256) S.o.2.1;have c:(Cd VA root (Cx ws 256)).toArray.size=1030:=by rw[Anq];exact Gl VA root _ s (Gq _ _)
   have T:Hid (Cd VA root (Cx ws 256)=Cd VA root (Hm.firsts ws)):=by show _=_;rw[Ac6]
   obtain⟨RA,C⟩: ∃A,A=(Cd VA root (Cx ws 256)).toArray:=⟨_,rfl⟩;rw[←C]at a y c;have U:Hid (RA=(Cd VA root (Cx ws 256)).toArray):=C;have B:Hid (wr.heap[g]?=some (.cells RA 98 (0,0))∧Ara w wr∧wr.heap[w.heap.size+1]?=some (.cells Tryz.zeroCells98 98 (0,0))):=⟨a,r,d⟩;generalize Ci ws 256=fa at*;clear a r d C
   go_wp2_with(first
    |(refine Aoh rfl 98 _ rfl g rfl 98 RA (0,0) _ B.o.1 underlying98 rfl (by rw[c];exact Nk) ?_)
    |(refine wpList_store_row _ rfl 98 _ _ rfl (w.heap.size+1) 98 _ RA rfl rfl B.o.2.2 (by rw[c];exact Nk) (by rw[c];exact P) y ?_;intro w9 ab Z))
   refine Aok (v:= .agg RA) (Ao0 results68 _ w9 (w.heap.size+1) 98 RA (0,0) _ rfl ab underlying98 rfl (by rw[c];exact Nk)) rfl ⟨by rw[U.o,T.o],B.o.2.1.trans Z (fun j h1 h2=>by omega)⟩
namespace Hm
def An(n:Nat):Nat:=n+1+(n/8+1)*Lib.bitLen (n/8)
structure G1(l:Arc)(n:Nat):Prop where
 fits:szB (An n)≤l.length
 told:rk (Am (l.take (szB (An n)))) (n+1)=n/8+1
end Hm
def G6(l:Arc)(n g:Nat):Are:=[.string ⟨(l.take (Hm.szB (An n))).toArray⟩,.int .i64 (An n:Nat),.slice (some ⟨g,0,none⟩) (Hm.szB (An n)+1) (Hm.szB (An n)+1),.int .i64 (n:Nat)]
def Ds:Are:=[.string ⟨#[]⟩,.int .i64 0,.slice none 0 0,.int .i64 0]
theorem Ahq{n:Nat}: ¬G1 [] n:=fun h=>by
 have h1:=h.fits;have h2:1≤An n:=Ant (Nat.le_add_left 1 n) (Aqv _ _);unfold Hm.szB at h1;simp at h1;omega
theorem Zv(n:Nat)(hn:n≤65535): ∃td bl tb,td=n/8+1∧bl=Lib.bitLen (n/8)∧tb=td*bl∧tb≤106496∧td≤8192∧bl≤13∧An n=n+1+tb:=by
 have a:Lib.bitLen (n/8)≤13:=Lib.bitLen_le _ 13 (by omega) (by omega);have b:n/8+1≤8192:=by omega
 exact⟨_,_,_,rfl,rfl,rfl,Aoj b a,b,a,rfl⟩
set_option maxRecDepth 100000 in
theorem Xf(hones:Bd)(hLn:El)(l:Arc)(n:Nat)(w:World)(hn:n≤65535)(am:l.length≤4611686018427387904):
  Calls prog 119 #[.string ⟨l.toArray⟩,.int .i64 n] w fun e w'=>Ara w w'∧
   ((G1 l n∧ ∃g,w.heap.size≤g∧e= .returned (.tuple #[.agg (G6 l n g).toArray,.bool true])∧IntRow w' g (B6 (l.take (Hm.szB (An n)))))∨
    (¬G1 l n∧e= .returned (.tuple #[.agg Ds.toArray,.bool false]))):=by
 obtain⟨td,bl,tb,V,t,p,au,av,aw,I⟩:=Zv n hn;have Z:Hid (An n=n+1+tb):=I;have z:=fun W=>Ms hLn n W (by omega);have ac:An n≤200000:=by omega
 have d:=fun W=>Qx (An n) W (by omega);obtain⟨S,Y⟩: ∃S,S=(⟨l.toArray⟩:ByteArray):=⟨_,rfl⟩;have hz:S.size=l.length:=by rw[Y];show l.toArray.size=_;simp
 have X:Hid (Hm.szB (An n)=(An n+7)/8):=rfl;rw[←X.o]at d;have ah:Hm.szB (An n)≤100000:=by rw[X.o];omega
 have U:n+1≤8*Hm.szB (An n):=by rw[X.o];omega
 have zt:(n:Int)/8+1=(td:Int):=by omega
 rw[←t]at z;have az:IntKind.i64.wrap ((td:Int)*(bl:Int))=(tb:Int):=by rw[An9,←Aq6,←p];clear p;omega
 have a0:wrap64 ((td:Int)*(bl:Int))=(tb:Int):=by rw[←Aq6,←p];unfold wrap64;clear p;omega
 have J:(n:Int)+1+(tb:Int)=(An n:Int):=by clear p;omega
 have aa:Hid (td=n/8+1):=V;clear p I
 by_cases a:Hm.szB (An n)≤l.length
 ·have A:=fun W=>L3 l (An n) W a (by omega) am;rw[←X.o,←Y]at A;obtain⟨T,s⟩: ∃T,T=(⟨(l.take (Hm.szB (An n))).toArray⟩:ByteArray):=⟨_,rfl⟩;have D:T.data.toList=l.take (Hm.szB (An n)):=by rw[s]
  have E:T.size=Hm.szB (An n):=by rw[s];show(l.take _).toArray.size=_;simp;omega
  rw[←s]at A;have m:=fun W=>J9 hones T (An n) W (by omega);rw[E,D]at m;have C:Hid (∀W pb g,Cs W pb 0 T (An n) g→Calls prog 126 #[.pointer (some ⟨pb,0,none⟩),.int .i64 ((n:Int)+1)] W fun e w'=>e= .returned (.int .i64 (Hm.rk (Am (l.take (Hm.szB (An n)))) (n+1):Nat))∧w'=W):=fun W pb g h=>by
   have hh:=Ij hones pb 0 g (An n) (n+1) T W h (by rw[E];exact U) (by omega);rwa[D,show((n+1:Nat):Int)=(n:Int)+1 from by omega]at hh
  have r:Hid (G1 l n↔Hm.rk (Am (l.take (Hm.szB (An n)))) (n+1)=td):=⟨fun h=>by rw[h.told,aa.o],fun h=>⟨a,by rw[h,aa.o]⟩⟩;have M:Hid (∀g,G6 l n g=[.string T,.int .i64 (An n:Nat),.slice (some ⟨g,0,none⟩) (Hm.szB (An n)+1) (Hm.szB (An n)+1),.int .i64 (n:Nat)]):=fun g=>by rw[s];rfl
  have N:Hid (∀g W,IntRow W g (B6 (l.take (Hm.szB (An n))))→IntRow W g (B6 T.data.toList)):=fun g W h=>by rw[D];exact h
  rw[←Y];have ab:Hid (T.size=Hm.szB (An n)):=E;obtain⟨R,hR⟩: ∃R,R=Hm.rk (Am (l.take (Hm.szB (An n)))) (n+1):=⟨_,rfl⟩;rw[←hR]at C r;obtain⟨cn,K⟩: ∃c,c=B6 (l.take (Hm.szB (An n))):=⟨_,rfl⟩;rw[←K]at m N⊢;obtain⟨q,hq⟩: ∃x,x=Hm.szB (An n):=⟨_,rfl⟩;rw[←hq]at d a ah m M ab;obtain⟨el,k⟩: ∃x,x=An n:=⟨_,rfl⟩;rw[←k]at d J ac m A M C;have al:decide (l.length<q)=false:=Anc (by omega);clear Y Z X V t hq k s D E K hR U
  go_enter func119,ntmps119
  go_wp2_with fail;refine(z _).mono ?_;rintro e w1 ⟨rfl,hw⟩;subst hw;clear z;go_wp2_with fail;refine(d _).mono ?_;rintro e w1 ⟨rfl,rfl⟩;clear d;go_wp2_with fail;refine(A _).mono ?_;rintro e w2 ⟨rfl,Q⟩;clear A;go_wp2_with fail;refine(m _).mono ?_;rintro e w3 ⟨g,hg,rfl,P,ad⟩;clear m;have y:=Q.trans ad (fun _ _ h=>h);have G:=y.row (Anj w (.cells #[.string ⟨#[]⟩,.int .i64 0,.slice none 0 0,.int .i64 0] 100)) id;have ae:Ara w w3:=((Aa.refl (fun _=>False) w).alloc _).trans y (fun _ _ h=>h);have L:w.heap.size<w3.heap.size:=Anu G;have ag:w.heap.size<g:=by have:=Q.size;simp at this;omega
  obtain⟨B,hB⟩: ∃B,B=w3.heap.size:=⟨_,rfl⟩;obtain⟨W3,F⟩: ∃W3,W3=w3.alloc (.cells #[.string T,.int .i64 (el:Nat),.slice (some ⟨g,0,none⟩) (q+1) (q+1),.int .i64 (n:Nat)] 100):=⟨_,rfl⟩;have i:W3.heap[B]?=some (.cells #[.string T,.int .i64 (el:Nat),.slice (some ⟨g,0,none⟩) (q+1) (q+1),.int .i64 (n:Nat)] 100 (0,0)):=by rw[F,hB];exact Anj w3 _
  have b:Ara w3 W3:=by rw[F];exact(Aa.refl _ _).alloc _
  have hE:Cs W3 B 0 T el g:=⟨Am7 _ _ 0 _ _ _ i,Am7 _ _ 1 _ _ _ i,by rw[ab.o];exact Am7 _ _ 2 _ _ _ i,N.o _ _ (P.kept b id)⟩;have u:=C.o W3 B g hE;have H:Hid (Ara w W3∧IntRow W3 g cn∧w.heap.size<B∧w.heap.size<g∧W3.heap[w.heap.size]?=some (.cells #[.string ⟨#[]⟩,.int .i64 0,.slice none 0 0,.int .i64 0] 100 (0,0))):=
   ⟨ae.trans b (fun _ _ h=>h),P.kept b id,by rw[hB];exact L,ag,b.row G id⟩
  have O:Hid (w3.alloc (.cells #[.string T,.int .i64 (el:Nat),.slice (some ⟨g,0,none⟩) (q+1) (q+1),.int .i64 (n:Nat)] 100)=W3∧w3.heap.size=B):=⟨F.symm,hB.symm⟩;have f:=b.row G id;clear Q ad y G ae L ag P b hE F hB C N hg;go_upto_region 6 with fail
  rw[O.o.1,O.o.2];clear O;have p0:W3.cell? ⟨B,0,none⟩=some (.string T):=Am7 _ _ 0 _ _ _ i;have p1:W3.cell? ⟨B,1,none⟩=some (.int .i64 (el:Nat)):=Am7 _ _ 1 _ _ _ i;have p2:W3.cell? ⟨B,2,none⟩=some (.slice (some ⟨g,0,none⟩) (q+1) (q+1)):=Am7 _ _ 2 _ _ _ i;have p3:W3.cell? ⟨B,3,none⟩=some (.int .i64 (n:Nat)):=Am7 _ _ 3 _ _ _ i;have q0:W3.cell? ⟨w.heap.size,0,none⟩=some (.string ⟨#[]⟩):=Am7 _ _ 0 _ _ _ f;have q1:W3.cell? ⟨w.heap.size,1,none⟩=some (.int .i64 0):=Am7 _ _ 1 _ _ _ f;have q2:W3.cell? ⟨w.heap.size,2,none⟩=some (.slice none 0 0):=Am7 _ _ 2 _ _ _ f;have q3:W3.cell? ⟨w.heap.size,3,none⟩=some (.int .i64 0):=Am7 _ _ 3 _ _ _ f;have f0:W3.frozen? ⟨w.heap.size,0,none⟩=false:=Ang _ _ 0 _ _ f;have f1:W3.frozen? ⟨w.heap.size,1,none⟩=false:=Ang _ _ 1 _ _ f;have f2:W3.frozen? ⟨w.heap.size,2,none⟩=false:=Ang _ _ 2 _ _ f;have f3:W3.frozen? ⟨w.heap.size,3,none⟩=false:=Ang _ _ 3 _ _ f;have ao:w.heap.size≠B:=by have:=H.o.2.2.1;omega
  clear f i
  by_cases s:R=td
  ·have HB:Hid (G1 l n):=r.o.2 s;rw[s]at u;clear s r;go_wp2_with fail;refine u.mono ?_;rintro e w4 ⟨rfl,rfl⟩;clear u;go_wp2_with fail;have h2:=Anb _ _ 3 _ _ (.int .i64 (n:Nat)) (Anb _ _ 2 _ _ (.slice (some ⟨g,0,none⟩) (q+1) (q+1)) (Anb _ _ 1 _ _ (.int .i64 (el:Nat)) (Anb _ _ 0 _ _ (.string T) H.o.2.2.2.2)));refine Aok (v:= .tuple #[.agg #[.string T,.int .i64 (el:Nat),.slice (some ⟨g,0,none⟩) (q+1) (q+1),.int .i64 (n:Nat)],.bool true]) (Df results119 _ _ w.heap.size 100 _ (0,0) _ rfl h2 underlying100 rfl (by kernel_rfl)) rfl ⟨?_,.inl ⟨HB.o,g,by have:=H.o.2.2.2.1;omega,by rw[M.o],?_⟩⟩
   ·exact H.o.1.trans (Lt w4 w.heap.size _ _ _ _) (fun j h1 h2=>by omega)
   ·exact H.o.2.1.kept (Lt w4 w.heap.size _ _ _ _) (fun e=>by have:=H.o.2.2.2.1;omega)
  ·have HB:Hid (¬G1 l n):=fun h=>s (r.o.1 h);have ar:((R:Int) !=(td:Int))=true:=by simp;omega
   clear s r;go_wp2_with fail;refine u.mono ?_;rintro e w4 ⟨rfl,rfl⟩;clear u;go_wp2_with fail;have h2:=Anb _ _ 3 _ _ (.int .i64 0) (Anb _ _ 2 _ _ (.slice none 0 0) (Anb _ _ 1 _ _ (.int .i64 0) (Anb _ _ 0 _ _ (.string ⟨#[]⟩) H.o.2.2.2.2)));refine Aok (v:= .tuple #[.agg Ds.toArray,.bool false]) (Df results119 _ _ w.heap.size 100 _ (0,0) _ rfl h2 underlying100 rfl (by kernel_rfl)) rfl ⟨?_,.inr ⟨HB.o,rfl⟩⟩;exact H.o.1.trans (Lt w4 w.heap.size _ _ _ _) (fun j h1 h2=>by omega)
 ·have ak:Hid (¬G1 l n):=fun h=>a h.fits;rw[←Y];obtain⟨q,hq⟩: ∃x,x=Hm.szB (An n):=⟨_,rfl⟩;rw[←hq]at d a ah;obtain⟨el,k⟩: ∃x,x=An n:=⟨_,rfl⟩;rw[←k]at d J ac;have al:decide (l.length<q)=true:=Ana (by omega);clear Y Z X V t hq k a U
  go_enter func119,ntmps119
  go_wp2_with fail;refine(z _).mono ?_;rintro e w1 ⟨rfl,hw⟩;subst hw;clear z;go_wp2_with fail;refine(d _).mono ?_;rintro e w1 ⟨rfl,rfl⟩;clear d;go_wp2_with fail;refine Aok (v:= .tuple #[.agg Ds.toArray,.bool false]) (Df results119 _ _ w.heap.size 100 _ (0,0) _ rfl (Anj w _) underlying100 rfl (by kernel_rfl)) rfl ⟨(Aa.refl _ _).alloc _,.inr ⟨ak.o,rfl⟩⟩
set_option maxRecDepth 100000 in
theorem Aaz(hones:Bd)(hLn:El)(p:Nat)(st:Hm.Rd)(n:Nat)(w:World)(hr:Ax w p st)(hn:n≤65535)(F:Bj st≤4611686018427387904):
  Calls prog 71 #[.pointer (some ⟨p,0,none⟩),.int .i64 n] w fun e w'=>Aa (fun j=>j=p) w w'∧
   ((∃l,st=some l∧G1 l n∧Ax w' p (some (l.drop (Hm.szB (An n))))∧ ∃g,w.heap.size≤g∧e= .returned (.agg (G6 l n g).toArray)∧IntRow w' g (B6 (l.take (Hm.szB (An n)))))∨
    ((∀l,st=some l→ ¬G1 l n)∧Ax w' p none∧e= .returned (.agg Ds.toArray))):=by
 obtain⟨l,hl⟩: ∃l,l=st.getD []:=⟨_,rfl⟩;have H:=fun W=>Xf hones hLn l n W hn (by rw[hl];exact F);obtain⟨S,hS⟩: ∃S,S=(⟨l.toArray⟩:ByteArray):=⟨_,rfl⟩;rw[←hS]at H;have d:=hr.rest;rw[←hl,←hS]at d;have hp:=hr.lt;have u:Hid (Ax w p st∧l=st.getD []∧Bj st≤4611686018427387904):=⟨hr,hl,F⟩;have ag:(w.alloc (.cells #[.string ⟨#[]⟩,.int .i64 0,.slice none 0 0,.int .i64 0] 100)).cell? ⟨p,0,none⟩=some (.string S):=(((Aa.refl (fun _=>False) w).alloc _).cell (p:=⟨p,0,none⟩) hp id).trans d;clear hS hl hr F d
 go_enter func71,ntmps71
 go_wp2_with fail;refine(H _).mono ?_;rintro e w1 ⟨C,h1⟩;clear H ag;have t:=C.row (Anj w (.cells #[.string ⟨#[]⟩,.int .i64 0,.slice none 0 0,.int .i64 0] 100)) id;have i:Ara w w1:=((Aa.refl (fun _=>False) w).alloc _).trans C (fun _ _ h=>h);have J:w.heap.size<w1.heap.size:=Anu t;have M: ∃(T:ByteArray) (el:Nat) (ao:Arf) (c1 mm:Nat) (ok:Bool),e= .returned (.tuple #[.agg #[.string T,.int .i64 (el:Nat),.slice ao c1 c1,.int .i64 (mm:Nat)],.bool ok])∧T.size≤4611686018427387904∧
   ((ok=true∧ ∃l,st=some l∧G1 l n∧T.size=Hm.szB (An n)∧ ∃g,w.heap.size<g∧G6 l n g=[.string T,.int .i64 (el:Nat),.slice ao c1 c1,.int .i64 (mm:Nat)]∧IntRow w1 g (B6 (l.take (Hm.szB (An n)))))∨
    (ok=false∧(∀l,st=some l→ ¬G1 l n)∧Ds=[.string T,.int .i64 (el:Nat),.slice ao c1 c1,.int .i64 (mm:Nat)])):=by
  rcases h1 with⟨c,g,hg,rfl,A⟩|⟨hno,rfl⟩
  ·obtain⟨l',I⟩: ∃l',st=some l':=by
    cases st with
    |none=>rw[u.o.2.1]at c;exact absurd c Ahq
    |some l'=>exact⟨l',rfl⟩
   have k:l=l':=by rw[u.o.2.1,I];rfl
   subst k;have r:(⟨(l.take (Hm.szB (An n))).toArray⟩:ByteArray).size=Hm.szB (An n):=by have:=c.fits;show(l.take _).toArray.size=_;simp;omega
   have ah:l.length≤4611686018427387904:=by have:=u.o.2.2;rw[I]at this;exact this
   exact⟨_,_,_,_,_,_,rfl,by rw[r];exact Ant c.fits ah,.inl ⟨rfl,l,I,c,r,g,by simp at hg;omega,rfl,A⟩⟩
  ·refine⟨_,0,_,_,0,_,rfl,by show(0:Nat)≤_;omega,.inr ⟨rfl,fun l' h=>?_,rfl⟩⟩;have k:l=l':=by rw[u.o.2.1,h];rfl
   rw[←k];exact hno
 obtain⟨T,el,ao,c1,mm,ok,rfl,r,HP⟩:=M;have ae:Hid _:=HP;have P:=fun W (h:Ax W p st)=>Ik p st ok W h;have Z:=fun W (h:Ax W p (Da st ok))=>Lg p (Da st ok) T.size W h (Ant (Iq st ok) u.o.2.2) r;have H1:Hid (w1.heap[w.heap.size]?=some (.cells #[.string ⟨#[]⟩,.int .i64 0,.slice none 0 0,.int .i64 0] 100 (0,0))∧Ara w w1∧Ax w1 p st∧w.heap.size<w1.heap.size):=
  ⟨t,i,u.o.1.kept i id,J⟩
 have K:Hid _:=P;have L:Hid _:=Z;obtain⟨B,hB⟩: ∃B,B=w1.heap.size:=⟨_,rfl⟩;obtain⟨W1,s⟩: ∃W1,W1=w1.alloc (.cells #[.string T,.int .i64 (el:Nat),.slice ao c1 c1,.int .i64 (mm:Nat)] 100):=⟨_,rfl⟩;have f:Ara w1 W1:=by rw[s];exact(Aa.refl _ _).alloc _
 have q:Hid (W1.heap[B]?=some (.cells #[.string T,.int .i64 (el:Nat),.slice ao c1 c1,.int .i64 (mm:Nat)] 100 (0,0))∧W1.heap[w.heap.size]?=some (.cells #[.string ⟨#[]⟩,.int .i64 0,.slice none 0 0,.int .i64 0] 100 (0,0))∧Ara w W1∧Ax W1 p st∧w.heap.size<B∧Ara w1 W1):=
  ⟨by rw[s,hB];exact Anj w1 _,f.row t id,i.trans f (fun _ _ h=>h),(u.o.1.kept i id).kept f id,by rw[hB];exact J,f⟩
 have y:Hid (w1.alloc (.cells #[.string T,.int .i64 (el:Nat),.slice ao c1 c1,.int .i64 (mm:Nat)] 100)=W1∧w1.heap.size=B):=⟨s.symm,hB.symm⟩;clear HP P Z t i J C u s hB f h1 H1;go_upto_region 2 with fail
 rw[y.o.1,y.o.2];clear y;have O:=K.o W1 q.o.2.2.2.1;go_wp2_with fail;refine O.mono ?_;rintro e w2 ⟨rfl,V,D⟩;have Q:p≠B:=by have:=q.o.2.2.2.2.1;omega
 have R:p≠w.heap.size:=by omega
 have c0:w2.cell? ⟨B,0,none⟩=some (.string T):=(D.cell (p:=⟨B,0,none⟩) (Anu q.o.1) (fun h=>Q h.symm)).trans (Am7 _ _ 0 _ _ _ q.o.1);have Y:=L.o w2 V;have U:=fun W (h:W.cell? ⟨B,0,none⟩=some (.string T))=>Kr B 0 T W h;have x:=U w2 c0;have H3:Hid (Aa (fun j=>j=p) W1 w2):=D;clear O V D K U;go_wp2_with fail;refine x.mono ?_;rintro e w3 ⟨rfl,ai⟩;subst ai;clear x;go_wp2_with fail;refine Y.mono ?_;rintro e w4 ⟨rfl,X,N⟩;have b:Aa (fun j=>j=p) W1 w4:=H3.o.trans N (fun _ _ h=>h);have m:=b.row q.o.1 (fun h=>Q h.symm);have a:=b.row q.o.2.1 (fun h=>R h.symm);have p0:w4.cell? ⟨B,0,none⟩=some (.string T):=Am7 _ _ 0 _ _ _ m;have p1:w4.cell? ⟨B,1,none⟩=some (.int .i64 (el:Nat)):=Am7 _ _ 1 _ _ _ m;have p2:w4.cell? ⟨B,2,none⟩=some (.slice ao c1 c1):=Am7 _ _ 2 _ _ _ m;have p3:w4.cell? ⟨B,3,none⟩=some (.int .i64 (mm:Nat)):=Am7 _ _ 3 _ _ _ m;have q0:w4.cell? ⟨w.heap.size,0,none⟩=some (.string ⟨#[]⟩):=Am7 _ _ 0 _ _ _ a;have q1:w4.cell? ⟨w.heap.size,1,none⟩=some (.int .i64 0):=Am7 _ _ 1 _ _ _ a;have q2:w4.cell? ⟨w.heap.size,2,none⟩=some (.slice none 0 0):=Am7 _ _ 2 _ _ _ a;have q3:w4.cell? ⟨w.heap.size,3,none⟩=some (.int .i64 0):=Am7 _ _ 3 _ _ _ a;have f0:w4.frozen? ⟨w.heap.size,0,none⟩=false:=Ang _ _ 0 _ _ a;have f1:w4.frozen? ⟨w.heap.size,1,none⟩=false:=Ang _ _ 1 _ _ a;have f2:w4.frozen? ⟨w.heap.size,2,none⟩=false:=Ang _ _ 2 _ _ a;have f3:w4.frozen? ⟨w.heap.size,3,none⟩=false:=Ang _ _ 3 _ _ a;have al:w.heap.size≠B:=by have:=q.o.2.2.2.2.1;omega
 have H4:Hid (w4.heap[w.heap.size]?=some (.cells #[.string ⟨#[]⟩,.int .i64 0,.slice none 0 0,.int .i64 0] 100 (0,0))∧Aa (fun j=>j=p) w w4∧Ax w4 p (Bb (Da st ok) T.size).2∧Aa (fun j=>j=p) w1 w4):=
  ⟨a,(q.o.2.2.1.wider (fun _ _ h=>h.elim)).trans b (fun _ _ h=>h),X,(q.o.2.2.2.2.2.wider (fun _ _ h=>h.elim)).trans b (fun _ _ h=>h)⟩
 clear a m b N X Y H3 q c0 L;go_wp2_with fail;have h2:=Anb _ _ 3 _ _ (.int .i64 (mm:Nat)) (Anb _ _ 2 _ _ (.slice ao c1 c1) (Anb _ _ 1 _ _ (.int .i64 (el:Nat)) (Anb _ _ 0 _ _ (.string T) H4.o.1)));have E:=Lt w4 w.heap.size (.string T) (.int .i64 (el:Nat)) (.slice ao c1 c1) (.int .i64 (mm:Nat));refine Aok (v:= .agg #[.string T,.int .i64 (el:Nat),.slice ao c1 c1,.int .i64 (mm:Nat)]) (Ao0 results71 _ _ w.heap.size 100 _ (0,0) _ rfl h2 underlying100 rfl (by kernel_rfl)) rfl ⟨?_,?_⟩
 ·exact H4.o.2.1.trans E (fun j h1 h2=>by omega)
 ·have G:=H4.o.2.2.1.kept E (fun h=>R h);rcases ae.o with⟨rfl,l,rfl,c,hz,g,hg,z,A⟩|⟨rfl,hno,z⟩
  ·have e1:(Bb (Da (some l) true) T.size).2=some (l.drop (Hm.szB (An n))):=by
    show(Bb (some l) T.size).2=_;rw[hz,Gf c.fits]
   rw[e1]at G;exact .inl ⟨l,rfl,c,G,g,by omega,by rw[z],(A.kept H4.o.2.2.2 (fun h=>by omega)).kept E (fun h=>by omega)⟩
  ·exact .inr ⟨hno,G,by rw[z]⟩
theorem V7{P:Program}(w:World)(g o:Nat)(ty t:TypeId)(A B C:Are)(cells:Array Value)(b:w.heap[g]?=some (.cells (A++(B++C)).toArray t (0,0)))(hA:A.length=o)(e:B.length=cells.size)
  (hi:(P.info? ty).map (·.size)=some cells.size) (h1:cells.all (·.oneCell')=true):
  (storeVar ty ⟨g,o,none⟩ (.agg cells)).run P w= .ok () (w.setRow g (A++(cells.toList++C)).toArray):=by
 have hs:=run_storeCells_at P g o t cells.toList 0 _ w b (by simp;omega) (fun v c=>(Apw.1 h1) v (by simpa using c));have e1:(A++(B++C)).take (o+0)=A:=by rw[Ap3,←hA];simp
 have e2:(A++(B++C)).drop (o+0+cells.toList.length)=C:=by
  rw[show o+0+cells.toList.length=(A++B).length from by rw[Anf,Ao6];omega,←An4,List.drop_left]
 rw[e1,e2,An4]at hs;cases a:P.info? ty with
 |none=>simp[a]at hi
 |some i=>
  have d:cells.size=i.size:=by simp[a]at hi;omega
  simp[storeVar,sizeOf,typeInfo,a,Value.cells,d,hs]
theorem Lh{P:Program}(w:World){ops:Array Oper}{rest:List Oper}{op:Oper}{a:Act}{Q:Exit→Act→World→Prop}(b:op.guard=none)(ty:TypeId)(x y:Operand)(e:op.op= .store ty x y)
  (g o:Nat) (t:TypeId) (A B C:Are) (cells:Array Value) (f:a.eval x= .pointer (some ⟨g,o,none⟩)) (i:a.eval y= .agg cells) (c:w.heap[g]?=some (.cells (A++(B++C)).toArray t (0,0))) (hA:A.length=o) (d:B.length=cells.size)
  (hi:(P.info? ty).map (·.size)=some cells.size) (h1:cells.all (·.oneCell')=true)
  (h: ∀w',w'.heap[g]?=some (.cells (A++(cells.toList++C)).toArray t (0,0))→Aa (fun j=>j=g) w w'→wpList P ops Q rest (a.put op.dst undef) w'):wpList P ops Q (op::rest) a w:=by
 refine wpList_plain b fun K hK=>?_;unfold Oper.wp execOp;simp only[e,f,i,Instr.storeAt,Instr.sureAddr,Sem.run_bind,Sem.run_pure,Ap6,V7 w g o ty t A B C cells c hA d hi h1];exact hK _ _ (h _ (setRow_heap w g _ _ t _ c) ((Aa.refl (fun j=>j=g) w).setRow (g:=g) (.inr rfl) _))
def I7(nm:Value)(E R S:Are):Are:=nm::(E++(R++S))
theorem Ae7:Tryz.zeroCells102=(I7 (.slice none 0 0) Gv (Cd Tryz.zeroCells96 0 (List.replicate 256 0)) Ds).toArray:=by kernel_rfl
theorem Ajs:(prog.info? 100).map (·.size)=some 4:=by kernel_rfl
theorem Ahr:(prog.info? 87).map (·.size)=some 5:=by kernel_rfl
end Go.Proofs.YtegnkfdbmmndaaaGreat
namespace Go.Proofs.YtegnkfdbmmndaaaGreat
open Hm Go.Proofs.Tryz
namespace Hm
def I8(s:Nat):Nat:=if s%2=1 then(s/2)^^^3988292384 else s/2
def D8:Nat→Nat→Nat
 |0,s=>s
 |k+1,s=>I8 (D8 k s)
def Ui(s b:Nat):Nat:=D8 8 (s^^^b)
def Fy(l:Arc):Nat:=l.foldl (fun s b=>Ui s b.toNat) 4294967295
def crc(l:Arc):Nat:=Fy l^^^4294967295
theorem Mt{a b:Nat}(c:a<4294967296)(hb:b<4294967296):a^^^b<4294967296:=by
 have:=Nat.xor_lt_two_pow (n:=32) (x:=a) (y:=b) (by omega) (by omega);omega
theorem Ae8{s:Nat}(h:s<4294967296):I8 s<4294967296:=by
 unfold I8;split
 ·exact Mt (by omega) (by omega)
 ·omega
theorem P2(k:Nat){s:Nat}(h:s<4294967296):D8 k s<4294967296:=by
 induction k with
 |zero=>exact h
 |succ k ih=>exact Ae8 ih
theorem Ahs{s b:Nat}(h:s<4294967296)(hb:b<4294967296):Ui s b<4294967296:=P2 8 (Mt h hb)
theorem Aht(l:Arc): ∀s,s<4294967296→l.foldl (fun s b=>Ui s b.toNat) s<4294967296:=by
 induction l with
 |nil=>intro s h;exact h
 |cons b l ih=>
  intro s h;exact ih _ (Ahs h (by have:=b.toNat_lt;omega))
theorem Tn(l:Arc):Fy l<4294967296:=Aht l _ (by omega)
theorem To(l:Arc):crc l<4294967296:=Mt (Tn l) (by omega)
theorem Ae9(l:Arc)(b:UInt8):Fy (l++[b])=Ui (Fy l) b.toNat:=by
 simp[Fy,List.foldl_append]
theorem U9(l:Arc)(k:Nat)(h:k<l.length):Fy (l.take (k+1))=D8 8 (Fy (l.take k)^^^l[k].toNat):=by
 rw[Anh h,Ae9];rfl
end Hm
end Go.Proofs.YtegnkfdbmmndaaaGreat
namespace Go.Proofs.YtegnkfdbmmndaaaGreat
open Hm Go.Proofs.Tryz Go.RowKit
theorem Ak7(s:Nat)(h:s<4294967296):bits .and .u32 (s:Int) 1=((s%2:Nat):Int):=by
 have:=u32_and_nat s 1 h (by omega);rw[Nat.and_one_is_mod]at this;exact this
theorem Ago(b off n c:Nat)(bs:Arc)(w:World)(hn:n=bs.length)(hb:n≤1000000)(l: ∀j,j<n→w.cell? ⟨b,off+j,none⟩=some (.int .u8 (bs.getD j 0).toNat)):
  Calls prog 106 #[.slice (some ⟨b,off,none⟩) n c] w fun e w'=>e= .returned (.int .u32 (Hm.crc bs:Nat))∧w'=w:=by
 have v:Hid (n=bs.length):=hn;have z:n≤bs.length:=by omega
 clear hn
 go_enter func106,ntmps106
 go_wp2
 go_loop [3,9] (fun s i=> ∃k:Nat,k≤n∧i= .int .i64 k∧s= .int .u32 (Fy (bs.take k):Nat)) (fun _ i=>n-(intOf i).toNat)
 case atStart=>exact⟨0,Ann _,rfl,rfl⟩
 case round=>
  obtain⟨k,hk,rfl,rfl⟩:=hrel;have a:=Tn (bs.take k)
  by_cases q:k<n
  ·obtain⟨y,m,x,r⟩: ∃y:Nat,w.cell? ⟨b,off+k,none⟩=some (.int .u8 (y:Int))∧y<256∧Hid (Fy (bs.take (k+1))=D8 8 (Fy (bs.take k)^^^y)):=by
    have g:k<bs.length:=by omega
    refine⟨bs[k].toNat,?_,bs[k].toNat_lt,U9 bs k g⟩;rw[l k q];simp[g]
   clear l;generalize Fy (bs.take k)=r0 at a r⊢;have u:bits .xor .u32 (r0:Int) (y:Int)=((r0^^^y:Nat):Int):=u32_xor_nat _ _ a (by omega);go_wp2
   go_loop [3,17] (fun s i=> ∃j:Nat,j≤8∧i= .int .i64 j∧s= .int .u32 (D8 j (r0^^^y):Nat)) (fun _ i=>8-(intOf i).toNat)
   case atStart=>exact⟨0,Ann _,rfl,rfl⟩
   case round=>
    obtain⟨j,D,rfl,rfl⟩:=hrel;have h:D8 j (r0^^^y)<4294967296:=P2 j (Mt a (by omega));have HS:Hid (D8 (j+1) (r0^^^y)=I8 (D8 j (r0^^^y))):=rfl
    by_cases t:j<8
    ·generalize D8 j (r0^^^y)=s0 at h HS⊢;have C:=Ak7 s0 h;have A:bits .xor .u32 ((s0:Int)/2) 3988292384=((s0/2^^^3988292384:Nat):Int):=u32_xor_nat (s0/2) 3988292384 (by omega) (by omega);go_wp2
     ·go_round
      case rel=>
       have d:((s0:Int)%2==1)=true:=by assumption
       have f:s0%2=1:=by simp at d;omega
       refine⟨j+1,by omega,by go_num,?_⟩;rw[HS.o,I8,if_pos f]
      case measure=>simp[intOf];omega
     ·go_round
      case rel=>
       have d:((s0:Int)%2==1)=false:=by assumption
       have f: ¬s0%2=1:=by simp at d;omega
       refine⟨j+1,by omega,by go_num,?_⟩;rw[HS.o,I8,if_neg f];go_num
      case measure=>simp[intOf];omega
    ·go_wp2
     go_round
     case rel=>
      obtain rfl:j=8:=by omega
      exact⟨k+1,by omega,by go_num,by rw[r.o]⟩
     case measure=>simp[intOf];omega
  ·have B:bits .xor .u32 (Fy (bs.take k):Int) 4294967295=((Fy (bs.take k)^^^4294967295:Nat):Int):=u32_xor_nat _ 4294967295 a (by omega);clear l;go_wp2;go_ret;refine⟨?_,rfl⟩;have p:bs.take k=bs:=An5 (by have:=v.o;omega);rw[p];rfl
end Go.Proofs.YtegnkfdbmmndaaaGreat
