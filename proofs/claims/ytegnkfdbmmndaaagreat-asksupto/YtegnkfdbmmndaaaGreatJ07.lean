import Derived.Test.YtegnkfdbmmndaaaGreatJ05
import Derived.Test.YtegnkfdbmmndaaaGreatShelfTwo

set_option maxHeartbeats 8000000
namespace Go.Proofs.YtegnkfdbmmndaaaGreat
open Hm Go.Proofs.Tryz Go.RowKit Go.Lib Go.Sort Go.Shelf
theorem Zj(w:World)(q:Nat)(os:Array Obj):Ara w (grow (w.drewN q) os):=
 Aa.ofBelow (below_grown_sl w.heap.size w q os (Ane _)) (fun j h1 h2=>by omega)
theorem Ai9(pb o g len i k b2 b3:Nat)(s:ByteArray)(w:World)(h:Cs w pb o s len g)(h2:w.cell? ⟨b2,0,none⟩=some (.pointer (some ⟨pb,o,none⟩)))(t:w.cell? ⟨b3,0,none⟩=some (.int .i64 (k:Nat)))(hi:i<s.size)(hs:s.size≤100000000):
  Calls prog 171 #[.int .i64 i,.pointer (some ⟨b2,0,none⟩),.pointer (some ⟨b3,0,none⟩)] w fun e w'=>e= .returned (.bool (decide (k<Eb s.data.toList (i+1))))∧ ∃q,w'=w.drewN q:=by
 have a:=Rw s.data.toList;have b:s.data.toList.length=s.size:=by simp
 have c:=h.cnt;have l:w.cell? ⟨g,i+1,none⟩=some (.int .i64 (Eb s.data.toList (i+1):Nat)):=by
  rw[h.row.cell (i:=i+1) (by omega)];simp[B6]
 obtain⟨u,f⟩: ∃u,u=Eb s.data.toList (i+1):=⟨_,rfl⟩;rw[←f]at l⊢;have m:(i:Int)+1<(s.size:Int)+1:=by omega
 have n:IntKind.i64.wrap ((i:Int)+1)=(i:Int)+1:=by rw[An9];omega
 have p:((i:Int)+1).toNat=i+1:=by omega
 have r:(0:Int)≤(i:Int)+1:=by omega
 have j:Hid (decide ((k:Int)<(u:Int))=decide (k<u)):=by
  show _=_
  by_cases d:k<u
  ·rw[Ana d,Ana (by omega)]
  ·rw[Anc d,Anc (by omega)]
 clear a b h f
 go_enter func171,ntmps171
 go_wp2;go_quiet(fail);go_wp2;go_ret;refine⟨?_,_,rfl⟩
 first|rfl|(rw[←j.o];rfl)
namespace Hm
structure Hh(f:Nat→Bool)(k p:Nat):Prop where
 is:f p=true
 nr:rk f p=k
theorem Hh.past{f:Nat→Bool}{k p q:Nat}(h:Hh f k p)(a:p<q):k<rk f q:=by
 have h1:=Ln f (show p+1≤q from a);rw[rk,h.is,h.nr]at h1;exact h1
theorem Hh.unique{f:Nat→Bool}{k p q:Nat}(h:Hh f k p)(b:Hh f k q):p=q:=by
 rcases Aop p q with a|a|a
 ·have:=h.past a;rw[b.nr]at this;omega
 ·exact a
 ·have:=b.past a;rw[h.nr]at this;omega
theorem Sw(f:Nat→Bool)(k:Nat): ∀n,k<rk f n→ ∃p,p<n∧Hh f k p
 |0,h=>by simp[rk]at h
 |n+1,h=>by
  by_cases b:k<rk f n
  ·obtain⟨p,c,h1⟩:=Sw f k n b;exact⟨p,by omega,h1⟩
  ·rw[rk]at h;cases a:f n with
   |false=>rw[a]at h;simp at h;omega
   |true=>rw[a]at h;simp at h;exact⟨n,by omega,a,by omega⟩
theorem Aks(P:Nat→Bool)(n:Nat)(h: ∀a b,a≤b→b<n→P a=true→P b=true):(List.range n).countP (fun i=>!P i)≤n∧(0<(List.range n).countP (fun i=>!P i)→P ((List.range n).countP (fun i=>!P i)-1)=false):=by
 have e:(List.range n).countP (fun i=>!P i)≤n:=by have:=List.countP_le_length (p:=fun i=>!P i) (l:=List.range n);simpa using this
 refine⟨e,fun f=>?_⟩;cases hP:P ((List.range n).countP (fun i=>!P i)-1)with
 |false=>rfl
 |true=>
  obtain⟨c,g⟩: ∃c,c=(List.range n).countP (fun i=>!P i):=⟨_,rfl⟩;rw[←g]at hP e f;obtain⟨d,hd⟩: ∃d,n=(c-1)+d:=⟨n-(c-1),by omega⟩;have h1:(List.range n).countP (fun i=>!P i)≤c-1:=by
   rw[hd,List.range_add,Apd];have h2:(List.range (c-1)).countP (fun i=>!P i)≤c-1:=by have:=List.countP_le_length (p:=fun i=>!P i) (l:=List.range (c-1));simpa using this
   have o:(List.map (fun x=>c-1+x) (List.range d)).countP (fun i=>!P i)=0:=by
    rw[List.countP_eq_zero];intro x j;obtain⟨y,k,rfl⟩:=List.mem_map.1 j;have m:=List.mem_range.1 k;have:=h (c-1) (c-1+y) (by omega) (by omega) hP;simp[this]
   omega
  omega
end Hm
theorem Agh(hones:Bd)(pb o g len k p:Nat)(s:ByteArray)(w:World)(h:Cs w pb o s len g)(hp:p<8*s.size)(hI:Hh (Am s.data.toList) k p)(hs:s.size≤100000000):
  Calls prog 125 #[.pointer (some ⟨pb,o,none⟩),.int .i64 k] w fun e w'=>e= .returned (.int .i64 (p:Nat))∧Ara w w':=by
 obtain⟨W0,l⟩: ∃W0,W0=(w.alloc (.cells #[.pointer (some ⟨pb,o,none⟩)] 246)).alloc (.cells #[.int .i64 (k:Nat)] 3):=⟨_,rfl⟩;have d:W0.heap.size=w.heap.size+1+1:=by rw[l];simp
 have ca:W0.cell? ⟨w.heap.size,0,none⟩=some (.pointer (some ⟨pb,o,none⟩)):=by rw[l];exact cell_alloc_sl _ (cell_new_sl w _ _)
 have cx:W0.cell? ⟨w.heap.size+1,0,none⟩=some (.int .i64 (k:Nat)):=by rw[l];have:=cell_new_sl (w.alloc (.cells #[.pointer (some ⟨pb,o,none⟩)] 246)) (.int .i64 (k:Nat)) 3;rwa[World.size_alloc]at this
 have B:Ara w W0:=by rw[l];exact((Aa.refl _ _).alloc _).alloc _
 have I:=h.kept B id id;have eg: ∀args w,(callFunc 171 args).run prog w= .ok (.enter 171 args) w:=enters_of func171 (by kernel_rfl) rfl;have j: ∀a b,a≤b→b<s.size→decide (k<Eb s.data.toList (a+1))=true→decide (k<Eb s.data.toList (b+1))=true:=fun a b U _ Y=>by
  have h1:=Aoc Y;have h2:=Ln (Am s.data.toList) (show 8*(a+1)≤8*(b+1)from by omega);rw[←Nh,←Nh]at h2;exact Ana (by omega)
 have J:=Any.sort_Search Tryz.search 171 #[.pointer (some ⟨w.heap.size,0,none⟩),.pointer (some ⟨w.heap.size+1,0,none⟩)] s.size (fun i=>decide (k<Eb s.data.toList (i+1))) W0 eg (by omega)
  (fun m os i hi=>(Ai9 pb o g len i k w.heap.size (w.heap.size+1) s _ (I.kept (Zj W0 m os) id id) (cell_grown (by simp[d];omega) ca m os) (cell_grown (by simp[d]) cx m os) hi hs).mono
   fun _ _ ⟨X,q,Z⟩=>⟨X,q,#[],by rw[Z,grow_empty]⟩) j
 obtain⟨M,A⟩:=Aks _ s.size j;obtain⟨c,S⟩: ∃c,c=(List.range s.size).countP (fun i=>!decide (k<Eb s.data.toList (i+1))):=⟨_,rfl⟩;rw[←S]at J M A;have N:8*c≤p:=by
  by_cases T:8*c≤p
  ·exact T
  ·have h2:=of_decide_eq_false (A (by omega));have h3:=hI.past (show p<8*c from by omega);rw[show c-1+1=c from by omega,Nh]at h2;omega
 change Calls prog 164 _ _ _ at J
 have v:Hid (Ara w W0∧Cs W0 pb o s len g∧W0.cell? ⟨w.heap.size,0,none⟩=some (.pointer (some ⟨pb,o,none⟩))∧W0.cell? ⟨w.heap.size+1,0,none⟩=some (.int .i64 (k:Nat))∧Hh (Am s.data.toList) k p∧W0.heap.size=w.heap.size+1+1):=⟨B,I,ca,cx,hI,d⟩;have H:=I.str;have Q:Hid (W0=(w.alloc (.cells #[.pointer (some ⟨pb,o,none⟩)] 246)).alloc (.cells #[.int .i64 (k:Nat)] 3)):=l;clear B I cx hI d j S A eg h l
 go_enter func125,ntmps125
 go_upto_region 1 with fail
 rw[←Q.o]
 go_wp2_with(go_at_call 164;refine J.mono ?_;rintro e w1 ⟨rfl,E⟩)
 have u:Ara W0 w1:=by obtain⟨q,os,rfl⟩:=E;exact Zj W0 q os
 have C:Hid (Ara w w1∧Cs w1 pb o s len g∧w1.cell? ⟨w.heap.size,0,none⟩=some (.pointer (some ⟨pb,o,none⟩))∧w1.cell? ⟨w.heap.size+1,0,none⟩=some (.int .i64 (k:Nat))):=
  ⟨v.o.1.trans u (fun _ _ h=>h),v.o.2.1.kept u id id,(u.cell (p:=⟨w.heap.size,0,none⟩) (Ank _ _ v.o.2.2.1) id).trans v.o.2.2.1,(u.cell (p:=⟨w.heap.size+1,0,none⟩) (Ank _ _ v.o.2.2.2.1) id).trans v.o.2.2.2.1⟩
 clear E u J Q H ca
 go_loopw[6] (fun va wr=> ∃a:Nat,a≤p∧va= .int .i64 a∧Ara w1 wr) (fun va _=>p-(intOf va).toNat)
 case atStart=>exact⟨8*c,N,by first|rfl|(congr 1;omega),Aa.refl _ _⟩
 case round=>
  obtain⟨a,ha,rfl,n⟩:=hrel;have R:Cs wr pb o s len g:=C.o.2.1.kept n id id;have c1:wr.cell? ⟨w.heap.size,0,none⟩=some (.pointer (some ⟨pb,o,none⟩)):=(n.cell (p:=⟨w.heap.size,0,none⟩) (Ank _ _ C.o.2.2.1) id).trans C.o.2.2.1;have c2:wr.cell? ⟨w.heap.size+1,0,none⟩=some (.int .i64 (k:Nat)):=(n.cell (p:=⟨w.heap.size+1,0,none⟩) (Ank _ _ C.o.2.2.2) id).trans C.o.2.2.2;have f:=fun W (K:Cs W pb o s len g)=>Uc pb o a s W K.str (by omega) hs;have x:=fun W (K:Cs W pb o s len g)=>Ij hones pb o g len a s W K (by omega) hs;have G:=Qt (Am s.data.toList) a;have y:Hid (Cs wr pb o s len g∧Ara w1 wr∧Ara w wr):=⟨R,n,C.o.1.trans n (fun _ _ h=>h)⟩;clear R n
  by_cases L:a=p
  ·subst L;have D:(Am s.data.toList a).toNat=1:=by rw[v.o.2.2.2.2.1.is];rfl
   have F:Hm.rk (Am s.data.toList) a=k:=v.o.2.2.2.2.1.nr;rw[D]at f;rw[F]at x;clear D F G;go_wp2;go_quiet(first|(go_at_call 123;refine Aol (f _ ?_);exact y.o.1.kept ((Aa.refl (fun _=>False) wr).drewN _) id id)|(go_at_call 126;refine Aol (x _ ?_);exact y.o.1.kept ((Aa.refl (fun _=>False) wr).drewN _) id id));go_wp2;go_ret;exact⟨rfl,y.o.2.2.drewN _⟩
  ·have O:a<p:=by omega
   cases t:Am s.data.toList a with
   |false=>
    rw[t]at f;have r:(false).toNat=0:=rfl;rw[r]at f;clear G x t r;go_wp2;go_quiet(first|(go_at_call 123;refine Aol (f _ ?_);exact y.o.1.kept ((Aa.refl (fun _=>False) wr).drewN _) id id));go_wp2;go_roundw
    case rel=>exact⟨a+1,by omega,by go_num,y.o.2.1.drewN _⟩
    case measure=>simp[intOf];omega
   |true=>
    have P:Hm.rk (Am s.data.toList) a<k:=by
     have h1:Hh (Am s.data.toList) (Hm.rk (Am s.data.toList) a) a:=⟨t,rfl⟩;have h2:=h1.past O;rwa[v.o.2.2.2.2.1.nr]at h2
    rw[t]at f;have r:(true).toNat=1:=rfl;rw[r]at f;generalize Hm.rk (Am s.data.toList) a=z at*;have V:decide (z<k)=true:=Ana P;clear t r;go_wp2;go_quiet(first|(go_at_call 123;refine Aol (f _ ?_);exact y.o.1.kept ((Aa.refl (fun _=>False) wr).drewN _) id id)|(go_at_call 126;refine Aol (x _ ?_);exact y.o.1.kept ((Aa.refl (fun _=>False) wr).drewN _) id id));go_wp2;go_roundw
    case rel=>exact⟨a+1,by omega,by go_num,y.o.2.1.drewN _⟩
    case measure=>simp[intOf];omega
end Go.Proofs.YtegnkfdbmmndaaaGreat
namespace Go.Proofs.YtegnkfdbmmndaaaGreat
open Hm Go.Proofs.Tryz Go.RowKit
structure D4(w:World)(pb o:Nat)(s:ByteArray)(len g m low:Nat):Prop where
 bits:Cs w pb o s len g
 files:w.cell? ⟨pb,o+3,none⟩=some (.int .i64 (m:Nat))
 low:w.cell? ⟨pb,o+4,none⟩=some (.int .i64 (low:Nat))
theorem D4.kept{S:Nat→Prop}{w w':World}{pb o len g m low:Nat}{s:ByteArray}(h:D4 w pb o s len g m low)(hk:Aa S w w')(h1: ¬S pb)(h2: ¬S g):D4 w' pb o s len g m low:=
 have a:pb<w.heap.size:=Ank _ _ h.files
 ⟨h.bits.kept hk h1 h2,(hk.cell (p:=⟨pb,o+3,none⟩) a h1).trans h.files,(hk.cell (p:=⟨pb,o+4,none⟩) a h1).trans h.low⟩
namespace Hm
theorem Hh.from{f:Nat→Bool}{a i p:Nat}(h:Hh f (rk f a+i) p):a+i≤p:=by
 by_cases b:p<a
 ·have:=h.past b;omega
 ·have h1:=Yb f (show a≤p from by omega);rw[h.nr]at h1;omega
def Ag9(f:Nat→Bool)(m low i p:Nat):Nat:=(p-m*low-i)*2^low+Gg f (i*low) low
end Hm
theorem Ab9(pb o len g m low:Nat)(s:ByteArray)(w:World)(h:D4 w pb o s len g m low)(d:m≤1000)(c:low≤20):
  Calls prog 127 #[.pointer (some ⟨pb,o,none⟩)] w fun e w'=>e= .returned (.int .i64 ((m*low:Nat):Int))∧ ∃q,w'=w.drewN q:=by
 have c3:=h.files;have c4:=h.low;have a:m*low≤1000*20:=Aoj d c;have b:Hid (wrap64 ((m:Int)*(low:Int))=((m*low:Nat):Int)):=by
  show _=_;rw[←Aq6];unfold wrap64;omega
 clear h a
 go_enter func127,ntmps127
 go_wp2;go_quiet(fail);go_wp2;go_ret;refine⟨?_,_,rfl⟩;rw[←b.o];rfl
set_option maxRecDepth 100000 in
theorem Agi(hones:Bd)(pb o len g m low i p:Nat)(s:ByteArray)(w:World)(h:D4 w pb o s len g m low)(V:m≤1000)(P:low≤20)(hi:i<m)(hb:m*low≤8*s.size)(Y:p<8*s.size)
  (hI:Hh (Am s.data.toList) (Hm.rk (Am s.data.toList) (m*low)+i) p) (hs:s.size≤1000000):
  Calls prog 81 #[.pointer (some ⟨pb,o,none⟩),.int .i64 i] w fun e w'=>e= .returned (.int .i64 (Ag9 (Am s.data.toList) m low i p:Nat))∧Ara w w':=by
 have O:=hI.from;have Q:m*low≤1000*20:=Aoj V P;have u:(i+1)*low≤m*low:=Aoj (by omega) (Ane _);have t:=fun W (q:D4 W pb o s len g m low)=>Ab9 pb o len g m low s W q V P;have k:=fun W (q:D4 W pb o s len g m low)=>Ij hones pb o g len (m*low) s W q.bits (by omega) (by omega);have c:=fun W (q:D4 W pb o s len g m low)=>Agh hones pb o g len _ p s W q.bits Y hI (by omega);have A:=fun W (q:D4 W pb o s len g m low)=>Sv pb o (i*low) low s W q.bits.str (by rw[Ape]at u;omega) (by omega) (by omega);have C:=Qt (Am s.data.toList) (m*low);have d:=Q0 (Am s.data.toList) (i*low) low;have B:(2:Nat)^low≤1048576:=Ao9 (n:=2) (i:=low) (j:=20) (by omega) P;have T:Hid (Ag9 (Am s.data.toList) m low i p=(p-m*low-i)*2^low+Gg (Am s.data.toList) (i*low) low):=rfl;obtain⟨rh,K⟩: ∃r,r=Hm.rk (Am s.data.toList) (m*low):=⟨_,rfl⟩;obtain⟨nm,f⟩: ∃r,r=Gg (Am s.data.toList) (i*low) low:=⟨_,rfl⟩;obtain⟨U,E⟩: ∃r,r=m*low:=⟨_,rfl⟩;obtain⟨il,b⟩: ∃r,r=i*low:=⟨_,rfl⟩;obtain⟨ab,D⟩: ∃r,r=p-m*low-i:=⟨_,rfl⟩;have zab:(p:Int)-(U:Int)-(i:Int)=(ab:Int):=by omega
 have aa:IntKind.i64.wrap ((i:Int)*(low:Int))=(il:Int):=by
  rw[An9,←Aq6,←b];have:il≤20000:=by rw[Ape]at u;omega
  omega
 have a:ab*2^low≤8000000*1048576:=Aoj (by omega) B;rw[←K]at k c C;rw[←f,←b]at A;rw[←E]at t k C;rw[←f,←D]at T;rw[←f]at d;have N:Hid (wrap64 ((ab:Int)*2^low)=((ab*2^low:Nat):Int)):=Qz ab low (Aov a (by decide));have M:Hid (Go.bits .or .i64 ((ab*2^low:Nat):Int) (nm:Int)=((ab*2^low+nm:Nat):Int)):=by
  show _=_;rw[Qy _ _ (Aov a (by decide)) (Aom d (Ant B (by decide))),Nat.or_comm,Vv _ _ _ d,Nat.add_comm]
 have l:Hid (D4 w pb o s len g m low):=h;obtain⟨kk,F⟩: ∃r,r=rh+i:=⟨_,rfl⟩;rw[←F]at c;have ag:IntKind.i64.wrap ((rh:Int)+(i:Int))=(kk:Int):=by rw[An9];omega
 have L:Hid _:=t;have S:Hid _:=k;have R:Hid _:=c;have HU:Hid _:=A;have Z:rh≤20000:=by omega
 have ae:i≤1000:=by omega
 have af:p≤8000000:=by omega
 have ad:U≤20000:=by omega
 clear h t k c A F K f E b D hI hb Y O Q u C d B a
 go_enter func81,ntmps81
 go_wp2
 go_region_held(fun X=>D4 X pb o s len g m low) (first|exact k3|exact k2|exact k1|exact l.o.kept (Aa.refl (fun _=>False) w).drew id id)
  (first
   |(go_at_call 127;(refine(L.o _ (l.o.kept (Aa.refl (fun _=>False) w).drew id id)).mono ?_;rintro e w1 ⟨rfl,q1,G⟩;have v:Ara w w1:=(by rw[G];exact(Aa.refl (fun _=>False) w).drew.drewN q1);have k1:=l.o.kept v id id;clear G))
   |(go_at_call 126;(refine(S.o _ k1).mono ?_;rintro e w2 ⟨rfl,H⟩;have x:Ara w w2:=(by rw[H];exact v);have k2:=l.o.kept x id id;clear H))
   |(go_at_call 125;(refine(R.o _ k2).mono ?_;rintro e w3 ⟨rfl,I⟩;have y:Ara w w3:=x.trans I (fun _ _ h=>h);have k3:=l.o.kept y id id;clear I)))
 clear k1 k2 v x S R;go_wp2_with fail;refine(L.o _ k3).mono ?_;rintro e w4 ⟨rfl,q4,J⟩;have z:Ara w w4:=by rw[J];exact y.drewN q4
 have K4:Hid (D4 w4 pb o s len g m low∧Ara w w4):=⟨l.o.kept z id id,z⟩;have c4:=K4.o.1.low;clear J z y k3 L l;go_wp2_with fail;go_quiet(first|(go_at_call 128;refine Aol (HU.o _ ?_);exact K4.o.1.kept ((Aa.refl (fun _=>False) w4).drewN _) id id));go_wp2;go_ret;refine⟨?_,K4.o.2.drewN _⟩;rw[T.o,←M.o,←N.o];rfl
namespace Hm
noncomputable def Abl(f:Nat→Bool)(k:Nat):Nat:=Classical.epsilon (Hh f k)
theorem Aca{f:Nat→Bool}{k p:Nat}(h:Hh f k p):Abl f k=p:=Hh.unique (Classical.epsilon_spec (p:=Hh f k) ⟨p,h⟩) h
theorem Acb{f:Nat→Bool}{k n:Nat}(h:k<rk f n):Abl f k<n∧Hh f k (Abl f k):=by
 obtain⟨p,a,h1⟩:=Sw f k n h;rw[Aca h1];exact⟨a,h1⟩
noncomputable def Fu(f:Nat→Bool)(m low i:Nat):Nat:=Ag9 f m low i (Abl f (rk f (m*low)+i))
noncomputable def E5(f:Nat→Bool)(m low i:Nat):Nat:=if i=0 then 0 else Fu f m low (i-1)
structure N9(f:Nat→Bool)(len m low n:Nat):Prop where
 ones:rk f len=rk f (m*low)+m
 asc: ∀i,i<m→E5 f m low i≤Fu f m low i
 all:E5 f m low m=n
end Hm
theorem Acd(hones:Bd)(pb o len g m low i:Nat)(s:ByteArray)(w:World)(h:D4 w pb o s len g m low)(A:m≤1000)(z:low≤20)(hi:i<m)(hb:m*low≤len)(r:len≤8*s.size)
  (hI:Hm.rk (Am s.data.toList) len=Hm.rk (Am s.data.toList) (m*low)+m) (hs:s.size≤1000000):
  Calls prog 36 #[.pointer (some ⟨pb,o,none⟩),.int .i64 i] w fun e w'=>e= .returned (.tuple #[.int .i64 (E5 (Am s.data.toList) m low i:Nat),.int .i64 (Fu (Am s.data.toList) m low i:Nat)])∧Ara w w':=by
 have a:Hid (∀j W,j<m→Ara w W→Calls prog 81 #[.pointer (some ⟨pb,o,none⟩),.int .i64 (j:Nat)] W fun e w'=>e= .returned (.int .i64 (Fu (Am s.data.toList) m low j:Nat))∧Ara W w'):=fun j W u hk=>by
  obtain⟨h1,h2⟩:=Acb (f:=Am s.data.toList) (k:=Hm.rk (Am s.data.toList) (m*low)+j) (n:=len) (by omega);exact Agi hones pb o len g m low j _ s W (h.kept hk id id) A z u (by omega) (by omega) h2 hs
 clear h hI
 by_cases t:i=0
 ·subst t;have p:=a.o 0 w hi (Aa.refl _ _);have l:Hid (E5 (Am s.data.toList) m low 0=0):=rfl;rw[l.o];generalize Fu (Am s.data.toList) m low 0=x at*;clear a
  go_enter func36,ntmps36
  go_wp2_with fail;refine p.mono ?_;rintro e w1 ⟨rfl,b⟩;go_wp2_with fail;go_ret2;exact⟨rfl,b⟩
 ·obtain⟨j,rfl⟩: ∃j,i=j+1:=⟨i-1,by omega⟩;have p:=a.o j w (by omega) (Aa.refl _ _);have c:Hid (∀W,Ara w W→_):=fun W hk=>a.o (j+1) W hi hk;have l:Hid (E5 (Am s.data.toList) m low (j+1)=Fu (Am s.data.toList) m low j):=rfl;rw[l.o];generalize Fu (Am s.data.toList) m low (j+1)=x at*;generalize Fu (Am s.data.toList) m low j=y at*;have v:j≤1000:=by omega
  clear a l
  go_enter func36,ntmps36
  go_wp2_with fail;refine p.mono ?_;rintro e w1 ⟨rfl,b⟩;have d:=c.o w1 b;rw[show((j+1:Nat):Int)=(j:Int)+1 from by omega]at d;clear p c;go_wp2_with fail;refine d.mono ?_;rintro e w2 ⟨rfl,q⟩;go_wp2_with fail;go_ret2;exact⟨rfl,b.trans q (fun _ _ h=>h)⟩
theorem Aja(hones:Bd)(pb o len g m low n:Nat)(s:ByteArray)(w:World)(h:D4 w pb o s len g m low)(R:m≤1000)(Q:low≤20)(hb:m*low≤len)(A:len≤8*s.size)(hs:s.size≤1000000):
  Calls prog 168 #[.pointer (some ⟨pb,o,none⟩),.int .i64 n] w fun e w'=> ∃b,e= .returned (.bool b)∧(b=true↔N9 (Am s.data.toList) len m low n)∧Ara w w':=by
 have O:m*low≤1000*20:=Aoj R Q;have E:=fun W (p:D4 W pb o s len g m low)=>Ur pb o len W p.bits.len;have v:=fun W (p:D4 W pb o s len g m low)=>Ij hones pb o g len len s W p.bits A (by omega);have j:=fun W (p:D4 W pb o s len g m low)=>Ij hones pb o g len (m*low) s W p.bits (by omega) (by omega);have u:=fun W (p:D4 W pb o s len g m low)=>Ab9 pb o len g m low s W p R Q;have F:=Qt (Am s.data.toList) len;have z:=Ln (Am s.data.toList) hb;have G:Hid (Hm.rk (Am s.data.toList) len=Hm.rk (Am s.data.toList) (m*low)+m→ ∀i W,i<m→D4 W pb o s len g m low→Calls prog 36 #[.pointer (some ⟨pb,o,none⟩),.int .i64 (i:Nat)] W fun e w'=>e= .returned (.tuple #[.int .i64 (E5 (Am s.data.toList) m low i:Nat),.int .i64 (Fu (Am s.data.toList) m low i:Nat)])∧Ara W w'):=
  fun hI i W hi p=>Acd hones pb o len g m low i s W p R Q hi hb A hI hs
 have Y:Hid (N9 (Am s.data.toList) len m low n→Hm.rk (Am s.data.toList) len=Hm.rk (Am s.data.toList) (m*low)+m):=fun h=>h.ones;have c3:=h.files;have l:Hid (D4 w pb o s len g m low):=h;obtain⟨R1,a⟩: ∃r,r=Hm.rk (Am s.data.toList) len:=⟨_,rfl⟩;obtain⟨R2,c⟩: ∃r,r=Hm.rk (Am s.data.toList) (m*low):=⟨_,rfl⟩;obtain⟨V,t⟩: ∃r,r=m*low:=⟨_,rfl⟩;rw[←a]at v F z;rw[←c]at j z;rw[←t]at u;rw[←t]at j;have U:R1≤8000000:=by omega
 have aa:IntKind.i64.wrap ((R1:Int)-(R2:Int))=(R1:Int)-(R2:Int):=by rw[An9];omega
 have J:Hid _:=E;have K:Hid _:=v;have L:Hid _:=j;have H:Hid _:=u
 by_cases hA:R1=R2+m
 ·have S:Hid (Hm.rk (Am s.data.toList) len=Hm.rk (Am s.data.toList) (m*low)+m):=by show _=_;rw[←a,←c];exact hA
  have P:((R1:Int)-(R2:Int) !=(m:Int))=false:=by simp;omega
  clear h E v j u a c t F z O hA
  go_enter func168,ntmps168
  go_wp2;go_quiet(first
   |(go_at_call 182;refine Aol (J.o _ ?_);exact l.o.kept ((Aa.refl (fun _=>False) w).drewN _) id id)
   |(go_at_call 127;refine Calls.quiet_of (H.o _ ?_);exact l.o.kept ((Aa.refl (fun _=>False) w).drewN _) id id)
   |(go_at_call_of 126 (Value.int .i64 (len:Int));refine Aol (K.o _ ?_);exact l.o.kept ((Aa.refl (fun _=>False) w).drewN _) id id)
   |(go_at_call_of 126 (Value.int .i64 (V:Int));refine Aol (L.o _ ?_);exact l.o.kept ((Aa.refl (fun _=>False) w).drewN _) id id))
  go_wp2
  go_loopw[5,34] (fun va vi wr=> ∃k:Nat,k≤m∧vi= .int .i64 k∧va= .int .i64 (E5 (Am s.data.toList) m low k:Nat)∧Hid (∀i,i<k→E5 (Am s.data.toList) m low i≤Fu (Am s.data.toList) m low i)∧Ara w wr) (fun _ vi _=>m-(intOf vi).toNat)
  case atStart=>exact⟨0,by omega,rfl,rfl,fun i hi=>by omega,(Aa.refl _ _).drewN _⟩
  case round=>
   obtain⟨k,hk,rfl,rfl,I,f⟩:=hrel;have C:Hid (Ara w wr):=f
   by_cases N:k<m
   ·have q:=G.o S.o k wr N (l.o.kept f id id);have T:Hid (E5 (Am s.data.toList) m low (k+1)=Fu (Am s.data.toList) m low k):=rfl
    by_cases M:E5 (Am s.data.toList) m low k≤Fu (Am s.data.toList) m low k
    ·have Z:Hid (∀i,i<k+1→E5 (Am s.data.toList) m low i≤Fu (Am s.data.toList) m low i):=fun i hi=>by
      rcases Nat.lt_or_eq_of_le (show i≤k from by omega)with h|h
      ·exact I.o i h
      ·rw[h];exact M
     generalize E5 (Am s.data.toList) m low k=x at*;generalize Fu (Am s.data.toList) m low k=y at*;have hd:decide (y<x)=false:=Anc (by omega);clear f I;go_wp2_with fail;refine q.mono ?_;rintro e w1 ⟨rfl,d⟩;have B:Hid (Ara w w1):=C.o.trans d (fun _ _ h=>h);clear d q;go_wp2_with fail;go_roundw
     case rel=>exact⟨k+1,by omega,by go_num,by rw[T.o],Z,B.o⟩
     case measure=>simp[intOf];omega
    ·have D:Hid (¬N9 (Am s.data.toList) len m low n):=fun h=>M (h.asc k N);generalize E5 (Am s.data.toList) m low k=x at*;generalize Fu (Am s.data.toList) m low k=y at*;have hd:decide (y<x)=true:=Ana (by omega);clear f I T;go_wp2_with fail;refine q.mono ?_;rintro e w1 ⟨rfl,d⟩;have B:Hid (Ara w w1):=C.o.trans d (fun _ _ h=>h);clear d q;go_wp2_with fail;go_ret;exact⟨false,rfl,⟨fun h=>(by cases h),fun h=>absurd h D.o⟩,B.o⟩
   ·obtain rfl:k=m:=by omega
    have X:Hid (decide (E5 (Am s.data.toList) k low k=n)=true↔N9 (Am s.data.toList) len k low n):=
     ⟨fun h=>⟨S.o,I.o,Aoc h⟩,fun h=>Ana h.all⟩
    generalize E5 (Am s.data.toList) k low k=x at*;clear f I;go_wp2_with fail;go_ret;refine⟨decide (x=n),?_,X.o,C.o⟩;have e:(((x:Nat):Int)==((n:Nat):Int))=decide (x=n):=by rw[Bool.eq_iff_iff];simp;omega
    rw[←e];rfl
 ·have D:Hid (¬N9 (Am s.data.toList) len m low n):=fun h=>hA (by rw[a,c];exact h.ones);have P:((R1:Int)-(R2:Int) !=(m:Int))=true:=by simp;omega
  clear h E v j u a c t F z O hA G Y
  go_enter func168,ntmps168
  go_wp2;go_quiet(first
   |(go_at_call 182;refine Aol (J.o _ ?_);exact l.o.kept ((Aa.refl (fun _=>False) w).drewN _) id id)
   |(go_at_call 127;refine Calls.quiet_of (H.o _ ?_);exact l.o.kept ((Aa.refl (fun _=>False) w).drewN _) id id)
   |(go_at_call_of 126 (Value.int .i64 (len:Int));refine Aol (K.o _ ?_);exact l.o.kept ((Aa.refl (fun _=>False) w).drewN _) id id)
   |(go_at_call_of 126 (Value.int .i64 (V:Int));refine Aol (L.o _ ?_);exact l.o.kept ((Aa.refl (fun _=>False) w).drewN _) id id))
  go_wp2;go_ret;exact⟨false,rfl,⟨fun h=>(by cases h),fun h=>absurd h D.o⟩,(Aa.refl _ _).drewN _⟩
namespace Hm
def Cr(m n:Nat):Nat:=if m=0 then 0 else Dy m n 18 0
theorem Sx(m n:Nat)(a:1≤m)(d:Nat): ∀f j,n<2^(j+f)→Dy m n (f+d) j=Dy m n f j
 |0,j,h=>by
  rw[Ap3]at h;cases d with
  |zero=>rfl
  |succ d=>
   rw[An3,Dy,Dy,if_neg];have h1:1*2^(j+1)≤m*2^(j+1):=Apa _ a;rw[Aoz]at h1⊢;omega
 |f+1,j,h=>by
  rw[show f+1+d=(f+d)+1 from by omega,Dy,Dy,Sx m n a d f (j+1) (by rw[show j+1+f=j+(f+1)from by omega];exact h)]
theorem Zk(m n:Nat)(hn:n≤6000):Cr m n=Dw m n:=by
 unfold Cr Dw;split
 ·rfl
 ·exact Sx m n (by omega) 4 14 0 (by omega)
theorem Aen(m n:Nat)(b:1≤m)(hn:n≤65535): ∀f j,j≤16→Dy m n f j≤16:=by
 intro f;induction f with
 |zero=>intro j a;exact a
 |succ f ih=>
  intro j a;unfold Dy;split
  ·rename_i h;refine ih (j+1) ?_;rcases Aoq j 16 with h1|h1
   ·omega
   ·have:j=16:=by omega
    subst this;have:1*2^17≤m*2^17:=Apa _ b;omega
  ·exact a
theorem Ud(m n:Nat)(hn:n≤65535):Cr m n≤16:=by
 unfold Cr;split
 ·omega
 ·exact Aen m n (by omega) hn 18 0 (by omega)
end Hm
theorem Aeo(m n:Nat)(w:World)(v:m≤1000)(hn:n≤65535):
  Calls prog 141 #[.int .i64 m,.int .i64 n] w fun e w'=>e= .returned (.int .i64 (Cr m n:Nat))∧w=w':=by
 by_cases k:m=0
 ·subst k
  go_enter func141,ntmps141
  go_wp2;go_ret;exact⟨rfl,rfl⟩
 have d:Hid (Cr m n=Dy m n (18-0) 0):=by unfold Cr;rw[if_neg k];rfl
 generalize Cr m n=L at d⊢;have h1:1≤m:=by omega
 have s:((m:Int)==0)=false:=by simp;omega
 go_enter func141,ntmps141
 go_wp2
 go_loop [5] (fun i=> ∃j:Nat,j≤16∧i= .int .i64 j∧m*2^j≤65535+m∧L=Dy m n (18-j) j) (fun i=>18-(intOf i).toNat)
 case atStart=>exact⟨0,by omega,rfl,by omega,d.o⟩
 case round=>
  clear d;obtain⟨j,u,rfl,q,l⟩:=hrel;have g:Hid (L=if m*2^(j+1)≤n then Dy m n (17-j) (j+1)else j):=by
   show _=_;rw[l,show 18-j=(17-j)+1 from by omega];rfl
  have e2:m*2^(j+1)=m*2^j*2:=by rw[Aoz,Aqn]
  obtain⟨p,t,c⟩: ∃p:Nat,(m:Int)*2^(j+1)=(p:Int)∧Hid (p=m*2^(j+1)):=⟨m*2^(j+1),by simp,rfl⟩;have hpb:p≤133100:=by have:=c.o;omega
  have a:p≤n→j<16:=by
   intro b;rcases Aoq j 16 with h|h
   ·exact h
   ·have:j=16:=by omega
    subst this;have f:=c.o;have:1*2^17≤m*2^17:=Apa _ h1;omega
  have r:Hid ((p≤n→j<16)∧m*2^j≤65535+m):=⟨a,q⟩;clear l q e2 a
  by_cases b:p≤n
  ·go_wp2
   go_round
   case rel=>
    have f:=c.o;refine⟨j+1,by have:=r.o.1 b;omega,by go_num,by rw[←f];omega,?_⟩;rw[g.o,if_pos (by omega)];congr 1;omega
   case measure=>simp[intOf];omega
  ·go_wp2;go_ret;have f:=c.o;refine⟨?_,rfl⟩;have:L=j:=by rw[g.o,if_neg (by omega)]
   rw[this];rfl
theorem Pk(s:ByteArray)(w:World)(hs:s.size≤281474976710656):Calls prog 37 #[.string s] w fun e w'=>e= .returned (.string s)∧Ara w w':=by
 have h:=Tryz.stringslite_Clone s w hs
 go_enter func37,ntmps37
 go_wp2_with fail;refine h.mono ?_;rintro e w1 ⟨rfl,hb⟩;go_wp2_with fail;go_ret;exact⟨rfl,Aa.ofBelow hb (fun j h1 h2=>by omega)⟩
theorem L3(l:Arc)(len:Nat)(w:World)(r:(len+7)/8≤l.length)(hn:len≤10000000)(s:l.length≤4611686018427387904):
  Calls prog 167 #[.string ⟨l.toArray⟩,.int .i64 len] w fun e w'=>e= .returned (.agg #[.string ⟨(l.take ((len+7)/8)).toArray⟩,.int .i64 (len:Nat)])∧Ara w w':=by
 have c:=fun W=>Qx len W (by omega);obtain⟨q,m⟩: ∃q,q=(len+7)/8:=⟨_,rfl⟩;rw[←m]at c r⊢;have t:q≤10000000:=by omega
 obtain⟨S,g⟩: ∃S,S=(⟨l.toArray⟩:ByteArray):=⟨_,rfl⟩;have u:S.size=l.length:=by rw[g];show l.toArray.size=_;simp
 obtain⟨T,j⟩: ∃T,T=S.extract 0 q:=⟨_,rfl⟩;have i:Hid (T=⟨(l.take q).toArray⟩):=by show _=_;rw[j,g,extract_toArray];simp
 have d:T.size≤281474976710656:=by rw[i.o];show(l.take q).toArray.size≤_;simp;omega
 have f:=fun W=>Pk T W d;rw[←i.o,←g];have n:S.extract 0 q=T:=j.symm;clear g j i d m
 go_enter func167,ntmps167
 go_wp2_with fail;refine(c _).mono ?_;rintro e w1 ⟨rfl,rfl⟩;clear c;go_wp2_with fail;refine(f _).mono ?_;rintro e w2 ⟨rfl,b⟩;have a:=b.row (Anj w (.cells #[.string ⟨#[]⟩,.int .i64 0] 83)) id;have c0:w2.cell? ⟨w.heap.size,0,none⟩=some (.string ⟨#[]⟩):=Am7 _ _ 0 _ _ _ a;have c1:w2.cell? ⟨w.heap.size,1,none⟩=some (.int .i64 0):=Am7 _ _ 1 _ _ _ a;have f0:w2.frozen? ⟨w.heap.size,0,none⟩=false:=Ang _ _ 0 _ _ a;have f1:w2.frozen? ⟨w.heap.size,1,none⟩=false:=Ang _ _ 1 _ _ a;have k:Hid (Ara w w2∧w2.heap[w.heap.size]?=some (.cells #[.string ⟨#[]⟩,.int .i64 0] 83 (0,0))):=⟨((Aa.refl (fun _=>False) w).alloc _).trans b (fun _ _ h=>h),a⟩;clear f b a;go_wp2_with fail;have h2:=Anb _ _ 1 _ _ (.int .i64 (len:Nat)) (Anb _ _ 0 _ _ (.string T) k.o.2);refine Aok (v:= .agg #[.string T,.int .i64 (len:Nat)]) (Ao0 results167 _ _ w.heap.size 83 _ (0,0) _ rfl h2 underlying83 rfl (by kernel_rfl)) rfl ⟨rfl,?_⟩;exact(k.o.1.setCell (p:=⟨w.heap.size,0,none⟩) (.inl (Ane _)) _).setCell (p:=⟨w.heap.size,1,none⟩) (.inl (Ane _)) _
theorem Qc(m n l:Nat)(w:World)(d:m≤100000)(hn:n≤100000)(c:l≤20):Calls prog 145 #[.int .i64 m,.int .i64 n,.int .i64 l] w fun e w'=>e= .returned (.int .i64 (m+n/2^l+1:Nat))∧w'=w:=by
 obtain⟨q,f,a⟩: ∃q:Nat,(n:Int)/2^l=(q:Int)∧Hid (q=n/2^l):=⟨n/2^l,by simp,rfl⟩;have b:q≤n:=by rw[a.o];exact Apt _ _
 rw[←a.o]
 go_enter func145,ntmps145
 go_wp2;go_ret;exact⟨by first|rfl|go_num|(congr 2;omega),rfl⟩
theorem Lq(w:World)(b:Nat)(x y z u v:Value):Aa (fun j=>j=b) w (((((w.setCell ⟨b,0,none⟩ x).setCell ⟨b,1,none⟩ y).setCell ⟨b,2,none⟩ z).setCell ⟨b,3,none⟩ u).setCell ⟨b,4,none⟩ v):=
 ((L0 w b x y z).setCell (p:=⟨b,3,none⟩) (.inr rfl) u).setCell (p:=⟨b,4,none⟩) (.inr rfl) v
theorem Ace(hones:Bd)(ao:Arf)(c:Nat)(es:Ard)(n:Nat)(w:World)(hi:J8 w ao es)(hm:es.length≤40)(hn:n≤6000)(he: ∀e∈es,e≤n):
  Calls prog 97 #[.slice ao es.length c,.int .i64 n] w fun e w'=> ∃g,w.heap.size≤g∧e= .returned (.agg #[.string ⟨(Ag (B4 es n)).toArray⟩,.int .i64 ((B4 es n).length:Nat),.slice (some ⟨g,0,none⟩) ((Ag (B4 es n)).length+1) ((Ag (B4 es n)).length+1),.int .i64 (es.length:Nat),.int .i64 (Dw es.length n:Nat)])∧
   IntRow w' g (B6 (Ag (B4 es n)))∧Ara w w':=by
 have am:Aside _:=hones;clear hones;have hL:=Qa es.length n hn;have Y:Hid (B4 es n=F5 es (Dw es.length n) (Co es (Dw es.length n)).length (Co es (Dw es.length n)++List.replicate (es.length+n/2^Dw es.length n+1) false) es.length):=rfl;generalize B4 es n=R at Y⊢;have S:=fun W=>Ab1 es.length n W (by omega) hn;generalize Dw es.length n=L at hL S Y;have O:=Hn es L;have ah:es.length*L≤480:=by have:=Aoj hm hL;omega
 generalize hB:Co es L=B at Y O;have a2:n/2^L≤n:=Apt _ _
 go_enter func97,ntmps97
 go_wp2_with fail;refine(S _).mono ?_;rintro e w1 ⟨rfl,rfl⟩;clear S;go_wp2
 go_loopw[18] (fun i wr=> ∃(k:Nat) (v':Value),k≤es.length∧i= .int .i64 k∧D3 wr 221 (w.heap.size+1) v' (Co (es.take k) L)∧Aa (fun j=>w.heap.size+1≤j) ((w.alloc (.cells #[.string ⟨#[]⟩,.int .i64 0,.slice none 0 0,.int .i64 0,.int .i64 0] 87)).alloc (.cells #[.slice none 0 0,.int .i64 0] 221)) wr∧(∀j,v'.ownBlock=some j→w.heap.size+2≤j)) (fun i _=>es.length-(intOf i).toNat)
 case atStart=>exact⟨0,.slice none 0 0,Ann _,rfl,by simpa[Co]using Ab2 w _ _,Aa.refl _ _,fun j h=>by cases h⟩
 case round=>
  obtain⟨k,v',hk,rfl,hb,f,E⟩:=hrel;have m:Ara w wr:=(((Aa.refl (fun _=>False) w).alloc _).alloc _).trans f (fun j h1 h2=>by omega)
  by_cases r:k<es.length
  ·obtain⟨b,o,u,au,av⟩:=(hi.kept m (fun a ha=>id)) k r;have N:=he es[k] (Anm _);have HT:Hid (Co (es.take (k+1)) L=Co (es.take k) L++Aw es[k] L):=Us es L k r;have aA:(Co (es.take k) L).length≤480:=by
    rw[Hn];have:(es.take k).length*L≤es.length*L:=Apa _ (by simp;omega);omega
   generalize es[k]=x at*;have p:=Wi 221 (w.heap.size+1) v' (Co (es.take k) L) x L wr hb (by omega) (by omega) (by omega);rw[u];clear u hi hb he
   go_wp2_with(go_at_call 142;refine p.mono ?_;rintro e w2 ⟨v2,rfl,aq,aw,ax⟩)
   go_roundw
   case rel=>
    refine⟨k+1,v2,by omega,by go_num,by rw[HT.o];exact aq,f.trans aw (fun j h1 h2=>?_),fun j h=>?_⟩
    ·rcases h2 with h2|h2
     ·omega
     ·have:=E j h2;omega
    ·rcases ax j h with h2|h2
     ·exact E j h2
     ·have:=f.size;simp at this;omega
   case measure=>simp[intOf];omega
  ·obtain rfl:k=es.length:=by omega
   rw[Aof,hB]at hb;obtain⟨q,hq,HQ⟩: ∃q:Nat,(n:Int)/2^L=(q:Int)∧Hid (q=n/2^L):=⟨n/2^L,by simp,rfl⟩;have aC:q≤n:=by have:=HQ.o;omega
   have a6:B.length≤480:=by omega
   have G:=Amd 221 (w.heap.size+1) v' B wr hb;have ac:=Abz 221 (w.heap.size+1) v' B (es.length+q+1) wr hb (by omega) (by omega);have Q:=fun W=>Qc es.length n L W (by omega) (by omega) (by omega);rw[←HQ.o]at Q;have HH:Hid (J8 w ao es∧D3 wr 221 (w.heap.size+1) v' B):=⟨hi,hb⟩;have a3:Hid (B.length=es.length*L):=O;clear hi hb O hB r hk ah;go_wp2_with fail;refine G.mono ?_;rintro e w2 ⟨rfl,rfl⟩;go_wp2_with fail;refine(Q _).mono ?_;rintro e w2' ⟨rfl,rfl⟩;clear Q;go_wp2_with fail;refine ac.mono ?_;rintro e w3 ⟨v3,rfl,M,ad,af⟩;clear G ac;have F:Aa (fun j=>w.heap.size+1≤j) ((w.alloc (.cells #[.string ⟨#[]⟩,.int .i64 0,.slice none 0 0,.int .i64 0,.int .i64 0] 87)).alloc (.cells #[.slice none 0 0,.int .i64 0] 221)) w3:=f.trans ad (fun j h1 h2=>by
    rcases h2 with h2|h2
    ·omega
    ·have:=E j h2;omega)
   have ag: ∀j,v3.ownBlock=some j→w.heap.size+2≤j:=fun j h=>by
    rcases af j h with h2|h2
    ·exact E j h2
    ·have:=f.size;simp at this;omega
   generalize K:B++List.replicate (es.length+q+1) false=R0 at M;have t:R0.length=B.length+(es.length+q+1):=by rw[←K];simp
   have Z:Hid (B++List.replicate (es.length+q+1) false=R0):=K;clear K ad af f m;go_wp2
   go_loopw[35] (fun i wr=> ∃(k:Nat),k≤es.length∧i= .int .i64 k∧D3 wr 221 (w.heap.size+1) v3 (F5 es L B.length R0 k)∧Aa (fun j=>w.heap.size+1≤j) ((w.alloc (.cells #[.string ⟨#[]⟩,.int .i64 0,.slice none 0 0,.int .i64 0,.int .i64 0] 87)).alloc (.cells #[.slice none 0 0,.int .i64 0] 221)) wr) (fun i _=>es.length-(intOf i).toNat)
   case atStart=>exact⟨0,Ann _,rfl,M,F⟩
   case round=>
    clear M F;obtain⟨k,hk,rfl,hb,f⟩:=hrel;obtain⟨hi,_⟩:=HH.o;have V:=Ks es L B.length R0 k;have m:Ara w wr:=(((Aa.refl (fun _=>False) w).alloc _).alloc _).trans f (fun j h1 h2=>by omega)
    by_cases r:k<es.length
    ·obtain⟨b,o,u,au,av⟩:=(hi.kept m (fun a ha=>id)) k r;have N:=he es[k] (Anm _);have HT:Hid (F5 es L B.length R0 (k+1)=(F5 es L B.length R0 k).set (B.length+es[k]/2^L+k) true):=by
      show _=_;simp[F5,r]
     have aa:es[k]/2^L≤q:=by rw[HQ.o];exact Nat.div_le_div_right N
     generalize es[k]=x at*;obtain⟨y,hy,HY⟩: ∃y:Nat,(x:Int)/2^L=(y:Int)∧Hid (y=x/2^L):=⟨x/2^L,by simp,rfl⟩;have aE:y≤q:=by rw[HY.o];exact aa
     rw[←HY.o]at HT;have p:=Age 221 (w.heap.size+1) v3 (F5 es L B.length R0 k) (B.length+y+k) wr hb (by omega) (by omega);have ec2:((B.length+y+k:Nat):Int)=(B.length:Int)+(y:Int)+(k:Int):=by omega
     rw[ec2]at p;rw[u];clear u hi hb he aa V t N
     go_wp2_with(go_at_call 146;refine p.mono ?_;rintro e w5 ⟨rfl,ar,z⟩)
     go_roundw
     case rel=>
      refine⟨k+1,by omega,by go_num,by rw[HT.o];exact ar,f.trans z (fun j h1 h2=>?_)⟩;rcases h2 with h2|h2
      ·omega
      ·have:=ag j h2;omega
     case measure=>simp[intOf];omega
    ·obtain rfl:k=es.length:=by omega
     have HF:Hid (R=F5 es L B.length R0 es.length):=by
      show _=_;rw[Y.o,←Z.o,HQ.o]
     rw[←HF.o]at hb;have C:=Yc 221 (w.heap.size+1) v3 R wr hb;have T:(⟨(Ag R).toArray⟩:ByteArray).size=(Ag R).length:=by show(Ag R).toArray.size=_;simp
     have ap:R.length≤100000:=by rw[HF.o,V,t];omega
     have H:=Bi R;have l:=fun W=>J9 am.o ⟨(Ag R).toArray⟩ R.length W (by rw[T,H];omega);have e3:(⟨(Ag R).toArray⟩:ByteArray).data.toList=Ag R:=rfl;rw[e3,T]at l;have U:wr.heap[w.heap.size]?=some (.cells #[.string ⟨#[]⟩,.int .i64 0,.slice none 0 0,.int .i64 0,.int .i64 0] 87 (0,0)):=f.row (Apb w _ _) (by omega);have HX:Aside (wr.heap[w.heap.size]?=some (.cells #[.string ⟨#[]⟩,.int .i64 0,.slice none 0 0,.int .i64 0,.int .i64 0] 87 (0,0))∧Ara w wr):=⟨U,m⟩;have aD:w.heap.size<wr.heap.size:=Anu U;have HC:Aside _:=l;obtain⟨s,hS⟩: ∃s,s=(⟨(Ag R).toArray⟩:ByteArray):=⟨_,rfl⟩;obtain⟨P,hP⟩: ∃P,P=Ag R:=⟨_,rfl⟩;have J:Aside (s=(⟨(Ag R).toArray⟩:ByteArray)∧P=Ag R):=⟨hS,hP⟩;have I:=HC.o;rw[←hS,←hP]at I;rw[←hS]at C;have X:Aside _:=I;clear I HC hS hP T;clear hb hi he V t Y Z HF U m f H e3 l ap;go_wp2_with fail;refine C.mono ?_;rintro e w5 ⟨rfl,z⟩;have l:=X.o w5;clear C X;go_wp2_with fail;refine l.mono ?_;rintro e w6 ⟨g,hg,rfl,D,ae⟩;have A:Ara wr w6:=z.trans ae (fun _ _ h=>h);have d:=A.row HX.o.1 id;have p0:w6.cell? ⟨w.heap.size,0,none⟩=some (.string ⟨#[]⟩):=Am7 _ _ 0 _ _ _ d;have p1:w6.cell? ⟨w.heap.size,1,none⟩=some (.int .i64 0):=Am7 _ _ 1 _ _ _ d;have p2:w6.cell? ⟨w.heap.size,2,none⟩=some (.slice none 0 0):=Am7 _ _ 2 _ _ _ d;have p3:w6.cell? ⟨w.heap.size,3,none⟩=some (.int .i64 0):=Am7 _ _ 3 _ _ _ d;have p4:w6.cell? ⟨w.heap.size,4,none⟩=some (.int .i64 0):=Am7 _ _ 4 _ _ _ d;have f0:w6.frozen? ⟨w.heap.size,0,none⟩=false:=Ang _ _ 0 _ _ d;have f1:w6.frozen? ⟨w.heap.size,1,none⟩=false:=Ang _ _ 1 _ _ d;have f2:w6.frozen? ⟨w.heap.size,2,none⟩=false:=Ang _ _ 2 _ _ d;have f3:w6.frozen? ⟨w.heap.size,3,none⟩=false:=Ang _ _ 3 _ _ d;have f4:w6.frozen? ⟨w.heap.size,4,none⟩=false:=Ang _ _ 4 _ _ d;have HZ:Aside (w6.heap[w.heap.size]?=some (.cells #[.string ⟨#[]⟩,.int .i64 0,.slice none 0 0,.int .i64 0,.int .i64 0] 87 (0,0))∧Ara w w6∧IntRow w6 g (B6 P)∧w.heap.size<g):=⟨d,HX.o.2.trans A (fun _ _ h=>h),D,by have:=z.size;omega⟩;clear l z ae A d D hg HX;go_wp2;obtain⟨d,m,D,a9⟩:=HZ.o;have h2:=Anb _ _ 4 _ _ (.int .i64 (L:Nat)) (Anb _ _ 3 _ _ (.int .i64 (es.length:Nat)) (Anb _ _ 2 _ _ (.slice (some ⟨g,0,none⟩) (P.length+1) (P.length+1)) (Anb _ _ 1 _ _ (.int .i64 (R.length:Nat)) (Anb _ _ 0 _ _ (.string s) d))));refine Aok (v:= .agg #[.string s,.int .i64 (R.length:Nat),.slice (some ⟨g,0,none⟩) (P.length+1) (P.length+1),.int .i64 (es.length:Nat),.int .i64 (L:Nat)]) (Ao0 results97 _ _ w.heap.size 87 _ (0,0) _ rfl h2 underlying87 rfl (by kernel_rfl)) rfl ⟨g,by omega,by rw[J.o.1,J.o.2],?_,?_⟩
     ·rw[←J.o.2];exact D.kept (Lq w6 w.heap.size _ _ _ _ _) (fun e=>by omega)
     ·exact m.trans (Lq w6 w.heap.size _ _ _ _ _) (fun j h1 h2=>by omega)
theorem Df{P:Program}{fn:Func}{p u:Tmp}{ty:TypeId}(h:fn.results= #[.cell p ty,.tmp u])(tmps:Array Value)(w:World)(g:Nat)(t:TypeId)(cs:Array Value)(fr:Nat×Nat)(d:TypeDesc)
  (c:tmps.getD p undef= .pointer (some ⟨g,0,none⟩)) (b:w.heap[g]?=some (.cells cs t fr))
  (e:P.underlying ty=some d) (hd:(match d with| .struct _| .array _ _=>true|_=>false)=true) (hi:(P.info? ty).map (·.size)=some cs.size):
  (results fn tmps).run P w= .ok (.tuple #[.agg cs,tmps.getD u undef]) w:=by
 have a:tmps[p]?.getD undef= .pointer (some ⟨g,0,none⟩):=by simpa using c
 simp[results,h,a,asAddr,run_loadVar_row w g t ty cs fr d b e hd hi]
namespace Hm
def Ak(m n:Nat):Nat:=m*Cr m n+(m+n/2^Cr m n+1)
def szB(k:Nat):Nat:=(k+7)/8
structure Ga(l:Arc)(m n:Nat):Prop where
 fits:szB (Ak m n)≤l.length
 cover:N9 (Am (l.take (szB (Ak m n)))) (Ak m n) m (Cr m n) n
end Hm
def F8(l:Arc)(m n g:Nat):Are:=[.string ⟨(l.take (Hm.szB (Ak m n))).toArray⟩,.int .i64 (Ak m n:Nat),.slice (some ⟨g,0,none⟩) (Hm.szB (Ak m n)+1) (Hm.szB (Ak m n)+1),.int .i64 (m:Nat),.int .i64 (Cr m n:Nat)]
def Gv:Are:=[.string ⟨#[]⟩,.int .i64 0,.slice none 0 0,.int .i64 0,.int .i64 0]
theorem Acf(hones:Bd)(l:Arc)(m n:Nat)(w:World)(hm:m≤255)(hn:n≤65535)(ax:l.length≤4611686018427387904):
  Calls prog 117 #[.string ⟨l.toArray⟩,.int .i64 m,.int .i64 n] w fun e w'=>Ara w w'∧
   ((Ga l m n∧ ∃g,w.heap.size≤g∧e= .returned (.tuple #[.agg (F8 l m n g).toArray,.bool true])∧IntRow w' g (B6 (l.take (Hm.szB (Ak m n)))))∨
    (¬Ga l m n∧e= .returned (.tuple #[.agg Gv.toArray,.bool false]))):=by
 have aa:=Ud m n hn;have C:=fun W=>Aeo m n W (by omega) hn;have s:=fun W=>Qc m n (Cr m n) W (by omega) (by omega) (by omega);have ay:m*Cr m n≤255*16:=Aoj hm aa;have ai:=Apt n (2^Cr m n);have y:Hid (Ak m n=m*Cr m n+(m+n/2^Cr m n+1)):=rfl;have aj:Ak m n≤70000:=by rw[y.o];omega
 have P:1≤Ak m n:=by rw[y.o];exact Ant (Nat.le_add_left 1 _) (Nat.le_add_left _ _)
 have f:=fun W=>Qx (Ak m n) W (by omega);obtain⟨S,hS⟩: ∃S,S=(⟨l.toArray⟩:ByteArray):=⟨_,rfl⟩;have hz:S.size=l.length:=by rw[hS];show l.toArray.size=_;simp
 have HZ:Hid (Hm.szB (Ak m n)=(Ak m n+7)/8):=rfl;rw[←HZ.o]at f;have ao:Hm.szB (Ak m n)≤10000:=by rw[HZ.o];omega
 have ab:IntKind.i64.wrap ((m:Int)*(Cr m n:Int))=((m*Cr m n:Nat):Int):=by rw[An9,←Aq6];omega
 have ac:wrap64 ((m:Int)*(Cr m n:Int))=((m*Cr m n:Nat):Int):=by rw[←Aq6];unfold wrap64;omega
 have u:((m*Cr m n:Nat):Int)+((m+n/2^Cr m n+1:Nat):Int)=(Ak m n:Int):=by rw[y.o];omega
 obtain⟨ml,G⟩: ∃x,x=m*Cr m n:=⟨_,rfl⟩;obtain⟨hh,Y⟩: ∃x,x=m+n/2^Cr m n+1:=⟨_,rfl⟩;rw[←G]at ab ac u ay;rw[←Y]at s u;have a3:hh≤70000:=by omega
 by_cases d:Hm.szB (Ak m n)≤l.length
 ·have H:=fun W=>L3 l (Ak m n) W d (by omega) ax;rw[←HZ.o,←hS]at H;obtain⟨T,hT⟩: ∃T,T=(⟨(l.take (Hm.szB (Ak m n))).toArray⟩:ByteArray):=⟨_,rfl⟩;have J:T.data.toList=l.take (Hm.szB (Ak m n)):=by rw[hT]
  have K:T.size=Hm.szB (Ak m n):=by rw[hT];show(l.take _).toArray.size=_;simp;omega
  rw[←hT]at H;have z:=fun W=>J9 hones T (Ak m n) W (by omega);rw[K,J]at z;have D:Hid (∀W pb g,D4 W pb 0 T (Ak m n) g m (Cr m n)→Calls prog 168 #[.pointer (some ⟨pb,0,none⟩),.int .i64 n] W fun e w'=> ∃b,e= .returned (.bool b)∧(b=true↔N9 (Am (l.take (Hm.szB (Ak m n)))) (Ak m n) m (Cr m n) n)∧Ara W w'):=fun W pb g h=>by
   have hh:=Aja hones pb 0 (Ak m n) g m (Cr m n) n T W h (by omega) (by omega) (by rw[y.o];omega) (by rw[K,HZ.o];omega) (by omega);rwa[J]at hh
  have E:Hid (Ga l m n↔N9 (Am (l.take (Hm.szB (Ak m n)))) (Ak m n) m (Cr m n) n):=⟨fun h=>h.cover,fun h=>⟨d,h⟩⟩;have I:Hid (∀g,F8 l m n g=[.string T,.int .i64 (Ak m n:Nat),.slice (some ⟨g,0,none⟩) (Hm.szB (Ak m n)+1) (Hm.szB (Ak m n)+1),.int .i64 (m:Nat),.int .i64 (Cr m n:Nat)]):=fun g=>by rw[hT];rfl
  have U:Hid (∀g W,IntRow W g (B6 (l.take (Hm.szB (Ak m n))))→IntRow W g (B6 T.data.toList)):=fun g W h=>by rw[J];exact h
  rw[←hS];have af:Hid (T.size=Hm.szB (Ak m n)):=K;obtain⟨cn,O⟩: ∃c,c=B6 (l.take (Hm.szB (Ak m n))):=⟨_,rfl⟩;rw[←O]at z U⊢;obtain⟨q,hq⟩: ∃x,x=Hm.szB (Ak m n):=⟨_,rfl⟩;rw[←hq]at f d ao z I af D E;obtain⟨el,i⟩: ∃x,x=Ak m n:=⟨_,rfl⟩;rw[←i]at f u aj z H I D E;obtain⟨lw,p⟩: ∃x,x=Cr m n:=⟨_,rfl⟩;rw[←p]at C s ab ac I D E;have av:decide (l.length<q)=false:=Anc (by omega);clear hS y P HZ G Y hq i p ai aa hT J K O
  go_enter func117,ntmps117
  go_wp2_with fail;refine(C _).mono ?_;rintro e w1 ⟨rfl,hw⟩;subst hw;clear C;go_wp2_with fail;refine(s _).mono ?_;rintro e w1 ⟨rfl,rfl⟩;clear s;go_wp2_with fail;refine(f _).mono ?_;rintro e w1 ⟨rfl,rfl⟩;clear f;go_wp2_with fail;refine(H _).mono ?_;rintro e w2 ⟨rfl,Z⟩;clear H;go_wp2_with fail;refine(z _).mono ?_;rintro e w3 ⟨g,hg,rfl,M,ak⟩;clear z;have F:=Z.trans ak (fun _ _ h=>h);have X:=F.row (Anj w (.cells #[.string ⟨#[]⟩,.int .i64 0,.slice none 0 0,.int .i64 0,.int .i64 0] 87)) id;have al:Ara w w3:=((Aa.refl (fun _=>False) w).alloc _).trans F (fun _ _ h=>h);have au:=M.lt;have Q:w.heap.size<w3.heap.size:=Anu X;have an:w.heap.size<g:=by have:=Z.size;simp at this;omega
  obtain⟨B,hB⟩: ∃B,B=w3.heap.size:=⟨_,rfl⟩;obtain⟨W3,L⟩: ∃W3,W3=w3.alloc (.cells #[.string T,.int .i64 (el:Nat),.slice (some ⟨g,0,none⟩) (q+1) (q+1),.int .i64 (m:Nat),.int .i64 (lw:Nat)] 87):=⟨_,rfl⟩;have r:W3.heap[B]?=some (.cells #[.string T,.int .i64 (el:Nat),.slice (some ⟨g,0,none⟩) (q+1) (q+1),.int .i64 (m:Nat),.int .i64 (lw:Nat)] 87 (0,0)):=by rw[L,hB];exact Anj w3 _
  have k:Ara w3 W3:=by rw[L];exact(Aa.refl _ _).alloc _
  have hE:D4 W3 B 0 T el g m lw:=⟨⟨Am7 _ _ 0 _ _ _ r,Am7 _ _ 1 _ _ _ r,by rw[af.o];exact Am7 _ _ 2 _ _ _ r,U.o _ _ (M.kept k id)⟩,Am7 _ _ 3 _ _ _ r,Am7 _ _ 4 _ _ _ r⟩;have ah:=D.o W3 B g hE;have N:Hid (W3.heap[w.heap.size]?=some (.cells #[.string ⟨#[]⟩,.int .i64 0,.slice none 0 0,.int .i64 0,.int .i64 0] 87 (0,0))∧W3.heap[B]?=some (.cells #[.string T,.int .i64 (el:Nat),.slice (some ⟨g,0,none⟩) (q+1) (q+1),.int .i64 (m:Nat),.int .i64 (lw:Nat)] 87 (0,0))∧Ara w W3∧IntRow W3 g cn∧w.heap.size<B∧w.heap.size<g):=
   ⟨k.row X id,r,al.trans k (fun _ _ h=>h),M.kept k id,by rw[hB];exact Q,an⟩
  have V:Hid (w3.alloc (.cells #[.string T,.int .i64 (el:Nat),.slice (some ⟨g,0,none⟩) (q+1) (q+1),.int .i64 (m:Nat),.int .i64 (lw:Nat)] 87)=W3∧w3.heap.size=B):=⟨L.symm,hB.symm⟩;clear Z ak F X al au Q an M r k hE L hB D U hg;go_upto_region 6 with fail
  rw[V.o.1,V.o.2];clear V;go_wp2_with fail;refine ah.mono ?_;rintro e w4 ⟨b,rfl,hb,A⟩;clear ah;have a:=A.row N.o.1 id;have t:=A.row N.o.2.1 id;have p0:w4.cell? ⟨B,0,none⟩=some (.string T):=Am7 _ _ 0 _ _ _ t;have p1:w4.cell? ⟨B,1,none⟩=some (.int .i64 (el:Nat)):=Am7 _ _ 1 _ _ _ t;have p2:w4.cell? ⟨B,2,none⟩=some (.slice (some ⟨g,0,none⟩) (q+1) (q+1)):=Am7 _ _ 2 _ _ _ t;have p3:w4.cell? ⟨B,3,none⟩=some (.int .i64 (m:Nat)):=Am7 _ _ 3 _ _ _ t;have p4:w4.cell? ⟨B,4,none⟩=some (.int .i64 (lw:Nat)):=Am7 _ _ 4 _ _ _ t;have q0:w4.cell? ⟨w.heap.size,0,none⟩=some (.string ⟨#[]⟩):=Am7 _ _ 0 _ _ _ a;have q1:w4.cell? ⟨w.heap.size,1,none⟩=some (.int .i64 0):=Am7 _ _ 1 _ _ _ a;have q2:w4.cell? ⟨w.heap.size,2,none⟩=some (.slice none 0 0):=Am7 _ _ 2 _ _ _ a;have q3:w4.cell? ⟨w.heap.size,3,none⟩=some (.int .i64 0):=Am7 _ _ 3 _ _ _ a;have q4:w4.cell? ⟨w.heap.size,4,none⟩=some (.int .i64 0):=Am7 _ _ 4 _ _ _ a;have f0:w4.frozen? ⟨w.heap.size,0,none⟩=false:=Ang _ _ 0 _ _ a;have f1:w4.frozen? ⟨w.heap.size,1,none⟩=false:=Ang _ _ 1 _ _ a;have f2:w4.frozen? ⟨w.heap.size,2,none⟩=false:=Ang _ _ 2 _ _ a;have f3:w4.frozen? ⟨w.heap.size,3,none⟩=false:=Ang _ _ 3 _ _ a;have f4:w4.frozen? ⟨w.heap.size,4,none⟩=false:=Ang _ _ 4 _ _ a;have R:Hid (w4.heap[w.heap.size]?=some (.cells #[.string ⟨#[]⟩,.int .i64 0,.slice none 0 0,.int .i64 0,.int .i64 0] 87 (0,0))∧Ara w w4∧IntRow w4 g cn∧w.heap.size<g):=
   ⟨a,N.o.2.2.1.trans A (fun _ _ h=>h),N.o.2.2.2.1.kept A id,N.o.2.2.2.2.2⟩
  have a0:w.heap.size≠B:=by have:=N.o.2.2.2.2.1;omega
  cases b with
  |true=>
   have HB:Hid (Ga l m n):=E.o.2 (hb.1 rfl);clear hb a t A N;go_wp2_with fail;have h2:=Anb _ _ 4 _ _ (.int .i64 (lw:Nat)) (Anb _ _ 3 _ _ (.int .i64 (m:Nat)) (Anb _ _ 2 _ _ (.slice (some ⟨g,0,none⟩) (q+1) (q+1)) (Anb _ _ 1 _ _ (.int .i64 (el:Nat)) (Anb _ _ 0 _ _ (.string T) R.o.1))));refine Aok (v:= .tuple #[.agg #[.string T,.int .i64 (el:Nat),.slice (some ⟨g,0,none⟩) (q+1) (q+1),.int .i64 (m:Nat),.int .i64 (lw:Nat)],.bool true]) (Df results117 _ _ w.heap.size 87 _ (0,0) _ rfl h2 underlying87 rfl (by kernel_rfl)) rfl ⟨?_,.inl ⟨HB.o,g,by have:=R.o.2.2.2;omega,by rw[I.o],?_⟩⟩
   ·exact R.o.2.1.trans (Lq w4 w.heap.size _ _ _ _ _) (fun j h1 h2=>by omega)
   ·exact R.o.2.2.1.kept (Lq w4 w.heap.size _ _ _ _ _) (fun e=>by have:=R.o.2.2.2;omega)
  |false=>
   have HB:Hid (¬Ga l m n):=fun h=>by have:=hb.2 (E.o.1 h);cases this
   clear hb a t A N;go_wp2_with fail;have h2:=Anb _ _ 4 _ _ (.int .i64 0) (Anb _ _ 3 _ _ (.int .i64 0) (Anb _ _ 2 _ _ (.slice none 0 0) (Anb _ _ 1 _ _ (.int .i64 0) (Anb _ _ 0 _ _ (.string ⟨#[]⟩) R.o.1))));refine Aok (v:= .tuple #[.agg Gv.toArray,.bool false]) (Df results117 _ _ w.heap.size 87 _ (0,0) _ rfl h2 underlying87 rfl (by kernel_rfl)) rfl ⟨?_,.inr ⟨HB.o,rfl⟩⟩;exact R.o.2.1.trans (Lq w4 w.heap.size _ _ _ _ _) (fun j h1 h2=>by omega)
 ·have ar:Hid (¬Ga l m n):=fun h=>d h.fits;rw[←hS];obtain⟨q,hq⟩: ∃x,x=Hm.szB (Ak m n):=⟨_,rfl⟩;rw[←hq]at f d ao;obtain⟨el,i⟩: ∃x,x=Ak m n:=⟨_,rfl⟩;rw[←i]at f u aj;obtain⟨lw,p⟩: ∃x,x=Cr m n:=⟨_,rfl⟩;rw[←p]at C s ab ac;have av:decide (l.length<q)=true:=Ana (by omega);clear hS y P HZ G Y hq i p ai d aa
  go_enter func117,ntmps117
  go_wp2_with fail;refine(C _).mono ?_;rintro e w1 ⟨rfl,hw⟩;subst hw;clear C;go_wp2_with fail;refine(s _).mono ?_;rintro e w1 ⟨rfl,rfl⟩;clear s;go_wp2_with fail;refine(f _).mono ?_;rintro e w1 ⟨rfl,rfl⟩;clear f;go_wp2_with fail;refine Aok (v:= .tuple #[.agg Gv.toArray,.bool false]) (Df results117 _ _ w.heap.size 87 _ (0,0) _ rfl (Anj w _) underlying87 rfl (by kernel_rfl)) rfl ⟨(Aa.refl _ _).alloc _,.inr ⟨ar.o,rfl⟩⟩
end Go.Proofs.YtegnkfdbmmndaaaGreat
