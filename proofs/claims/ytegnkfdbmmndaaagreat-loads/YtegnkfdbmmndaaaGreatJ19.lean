import Derived.Test.YtegnkfdbmmndaaaGreatJ00
import Derived.Test.YtegnkfdbmmndaaaGreatJ14
import Derived.Test.YtegnkfdbmmndaaaGreatJ07
import Derived.Test.YtegnkfdbmmndaaaGreatJ16
import Derived.Test.YtegnkfdbmmndaaaGreatJ15
import Derived.Test.YtegnkfdbmmndaaaGreatJ17
import Derived.Test.YtegnkfdbmmndaaaGreatJ18

namespace Go.Proofs.YtegnkfdbmmndaaaGreat
open Hm
open Go.RowKit
namespace Hm
noncomputable def Gp(L:List Nat):Nat:=Classical.epsilon fun N=>0<N∧Ends 32 (lnB L) (Af L) N
theorem P6{L:List Nat}(h:Bj L):0<Gp L∧Ends 32 (lnB L) (Af L) (Gp L):=Classical.epsilon_spec (p:=fun N=>0<N∧Ends 32 (lnB L) (Af L) N) h.ends
noncomputable def Dw(L:List Nat):List Nd:=(Al (lnB L) (Af L) (2*Gp L)).1
def Fk(l:List UInt8)(n:Nat)(L:List Nat):Nat:=min (8*l.length) (n*Gh L)
def Fm(l:List UInt8)(n:Nat)(L:List Nat)(st:B0):Prop:=Bj L∧Nn (Ak (l.take (szB (Fk l n L)))) (Fk l n L) (Dw L) n (List.replicate 256 0)=some st
end Hm
theorem Afz(x:Nat)(h:x<9223372036854775808):wrap64 (x:Int)=(x:Int):=by unfold wrap64;omega
theorem Adm(x:Nat)(h:x<9223372036854775808):IntKind.i64.wrap (x:Int)=(x:Int):=by rw[Al9];omega
theorem Oq{P:Program}{w:World}{ops:Array Oper}{rest:List Oper}{o:Oper}{a:Act}{Q:Exit→Act→World→Prop}(hgd:o.guard=none)(t:TypeId)(ho:o.op= .build t #[])(cells:Array Value)(hb:P.built t []=some cells)
  (h:wpList P ops Q rest (a.put o.dst (.agg cells)) w):wpList P ops Q (o::rest) a w:=by
 refine wpList_plain hgd fun K hK=>?_;unfold Oper.wp;rw[N1 w t #[] ho cells (by simpa using hb)];exact hK _ _ h
set_option maxRecDepth 100000 in
set_option maxHeartbeats 4000000 in
theorem Abx(hones:Cd)(l:List UInt8)(n:Nat)(L:List Nat)(w:World)(hn:n≤65535)(hL:L.length=256)(hx: ∀x∈L,x≤255)(hll:l.length≤281474976710656):
  Calls Tryz.prog 118 #[.string ⟨l.toArray⟩,.int .i64 n,.agg (Ac L).toArray] w fun e w'=>Apd w w'∧
   ((∃st g ng nc,Fm l n L st∧w.heap.size≤g∧w.heap.size≤ng∧g≠ng∧e= .returned (.tuple #[.agg (Ba ⟨(l.take (Hm.szB st.len)).toArray⟩ st.len g (Bc L) (.slice (some ⟨ng,0,none⟩) st.nds.length nc) st.ws n).toArray,.bool true])∧st.ws.length=256∧
     IntRow w' g (Bt (l.take (Hm.szB st.len)))∧w'.ownsRow 0 195 9 (.slice (some ⟨ng,0,none⟩) st.nds.length nc) st.nds.length (A9 st.nds))∨
    ((∀st,¬Fm l n L st)∧e= .returned (.tuple #[.agg Tryz.zeroCells96,.bool false]))):=by
 have hwh:=fun W=>Zv L W hL hx;have hlo:=fun W=>T5 L W hL;obtain⟨arr,harr⟩: ∃a,a=(Ac L).toArray:=⟨_,rfl⟩;have hasz:arr.size=256:=by rw[harr,A2,hL]
 obtain⟨S,hS⟩: ∃S,S=(⟨l.toArray⟩:ByteArray):=⟨_,rfl⟩;have hz:S.size=l.length:=by rw[hS];show l.toArray.size=_;simp
 obtain⟨W0,hW0⟩: ∃W0,W0=(w.alloc (.cells arr 139)).alloc (.cells Tryz.zeroCells96 96):=⟨_,rfl⟩;have hk0:Apd w W0:=by rw[hW0];exact((Aa.refl _ _).alloc _).alloc _
 have hb0:W0.heap[w.heap.size]?=some (.cells arr 139 (0,0)):=by rw[hW0];exact Anw w _ _
 have hb1:W0.heap[w.heap.size+1]?=some (.cells Tryz.zeroCells96 96 (0,0)):=by rw[hW0];exact Anx w _ _
 have HW:Hid ((w.alloc (.cells arr 139)).alloc (.cells Tryz.zeroCells96 96)=W0):=hW0.symm;rw[←harr]at hwh hlo⊢;rw[←hS];have HA:Hid (arr=(Ac L).toArray∧S=(⟨l.toArray⟩:ByteArray)∧L.length=256∧(∀x∈L,x≤255)):=⟨harr,hS,hL,hx⟩;have hzt:Tryz.zeroCells96.size=773:=Hf;have hz1:Tryz.zeroCells96.all (·.oneCell')=true:=R9;clear hW0 harr hS hL hx
 go_enter Tryz.func118,Tryz.ntmps118
 go_upto_region 1 with fail
 rw[HW.out];clear HW
 go_wp2_with(first
  |(refine Amd rfl 139 _ rfl w.heap.size rfl 139 arr (0,0) _ hb0 Tryz.underlying139 rfl (by rw[hasz];exact B9) ?_))
 refine(hwh _).mono ?_;rintro e w1 ⟨b,rfl,hb,hk1⟩;clear hwh;have hb01:=hk1.row hb0 id;have hb11:=hk1.row hb1 id;have H1:Hid (Apd w w1∧w1.heap[w.heap.size]?=some (.cells arr 139 (0,0))∧w1.heap[w.heap.size+1]?=some (.cells Tryz.zeroCells96 96 (0,0))):=⟨hk0.trans hk1 (fun _ _ h=>h),hb01,hb11⟩;clear hk0 hb0 hb1 hk1;cases b with
 |false=>
  have HNo:Hid (∀st,¬Fm l n L st):=fun st h=>by have:=hb.2 h.1;cases this
  clear hb hlo
  go_wp2_with(first
   |(refine Oq rfl 96 rfl Tryz.zeroCells96 Wa ?_)
   |(refine wpList_store_row _ rfl 96 _ _ rfl (w.heap.size+1) 96 _ Tryz.zeroCells96 rfl rfl hb11 (by rw[hzt];exact B6) rfl hz1 ?_;intro w9 hw9 hk9))
  refine Amo (v:= .tuple #[.agg Tryz.zeroCells96,.bool false]) (Dc Tryz.results118 _ _ (w.heap.size+1) 96 _ (0,0) _ rfl hw9 Tryz.underlying96 rfl (by rw[hzt];exact B6)) rfl ⟨H1.out.1.trans hk9 (fun j h1 h2=>by omega),.inr ⟨HNo.out,rfl⟩⟩
 |true=>
  have hC:Bj L:=hb.1 rfl;obtain⟨hN0,hE⟩:=P6 hC;have hmx:Gh L≤32:=by
   by_cases h:0<Gh L
   ·obtain⟨i,hi,he⟩:=Aml (S9 L h);have h1:=hC.short (UInt8.ofNat i);have h2:(UInt8.ofNat i).toNat=i:=by rw[Ame];have:=HA.out.2.2.1;omega
    unfold Hm.lnB at h1;rwa[h2,Ak6,Ak7 hi,he]at h1
   ·omega
  have hmo:Fk l n L≤2097120:=Al2 (Nat.min_le_right _ _) (Amk hn hmx);have hmf:Hm.szB (Fk l n L)≤l.length:=by
   have:=Nat.min_le_left (8*l.length) (n*Gh L);unfold Hm.szB Fk;omega
  have hrd:=fun W=>Lm l (Fk l n L) W hmf (by omega) (by omega);rw[←HA.out.2.1]at hrd;have HMO:Hid (Fk l n L=min (8*l.length) (n*Gh L)):=rfl;obtain⟨mx,hmxe⟩: ∃x,x=Gh L:=⟨_,rfl⟩;rw[←hmxe]at hlo HMO hmx;obtain⟨nm,hnm⟩: ∃x,x=n*mx:=⟨_,rfl⟩;have HNM:Hid (nm=n*mx):=hnm;have hnmb:nm≤2097120:=by rw[hnm];exact Amk hn hmx
  have hw2:IntKind.i64.wrap ((n:Int)*(mx:Int))=(nm:Int):=by rw[←Aop,←hnm];exact Adm nm (Amx hnmb (by decide))
  rw[←hnm]at HMO;clear hnm;obtain⟨mo,hmoe⟩: ∃x,x=Fk l n L:=⟨_,rfl⟩;rw[←hmoe]at hrd hmf hmo HMO;have hmin:min (8*(l.length:Int)) (nm:Int)=(mo:Int):=by rw[HMO.out];omega
  have HMOE:Hid (mo=Fk l n L):=hmoe;have hw1:wrap64 ((n:Int)*(mx:Int))=(nm:Int):=by rw[←Aop,←HNM.out];exact Afz nm (Amx hnmb (by decide))
  clear hmxe hmoe hb
  go_wp2_with(first
   |(refine Amd rfl 139 _ rfl w.heap.size rfl 139 arr (0,0) _ hb01 Tryz.underlying139 rfl (by rw[hasz];exact B9) ?_))
  refine(hlo _).mono ?_;rintro e w2 ⟨rfl,hk2⟩;clear hlo;have hb02:=hk2.row hb01 id;have H2:Hid (Apd w w2∧w2.heap[w.heap.size]?=some (.cells arr 139 (0,0))∧w2.heap[w.heap.size+1]?=some (.cells Tryz.zeroCells96 96 (0,0))):=⟨H1.out.1.trans hk2 (fun _ _ h=>h),hb02,hk2.row hb11 id⟩;clear hk2 hb01 hb11 H1;go_wp2_with fail;have hT0:=HA.out;obtain⟨T,hT⟩: ∃T,T=(⟨(l.take (Hm.szB mo)).toArray⟩:ByteArray):=⟨_,rfl⟩;have hTl:T.data.toList=l.take (Hm.szB mo):=by rw[hT]
  have hTz:T.size=Hm.szB mo:=by rw[hT];show(l.take _).toArray.size=_;simp;omega
  have hszm:Hm.szB mo≤300000:=by unfold Hm.szB;omega
  have HRD:Hid (∀W,Calls Tryz.prog 167 #[.string S,.int .i64 mo] W fun e w'=>e= .returned (.agg #[.string T,.int .i64 (mo:Nat)])∧Apd W w'):=fun W=>by rw[hT];exact hrd W
  have HCN:Hid (∀W,Calls Tryz.prog 147 #[.agg #[.string T,.int .i64 (mo:Nat)]] W fun e w'=> ∃g,W.heap.size≤g∧e= .returned (.agg #[.string T,.int .i64 (mo:Nat),.slice (some ⟨g,0,none⟩) (T.size+1) (T.size+1)])∧IntRow w' g (Bt T.data.toList)∧Apd W w'):=fun W=>Jp hones T mo W (by omega);obtain⟨TT,hTT⟩: ∃TT,TT=(Cu (Bc L)).toArray:=⟨_,rfl⟩;have HAS:Hid (∀W,Calls Tryz.prog 149 #[.agg arr] W fun e w'=>e= .returned (.agg TT)∧Apd W w'):=fun W=>by rw[hTT,HA.out.1];exact V7 L W HA.out.2.2.1 HA.out.2.2.2 hC.fits
  obtain⟨N,hNe⟩: ∃N,N=Gp L:=⟨_,rfl⟩;obtain⟨nds,hnds⟩: ∃nds,nds=Dw L:=⟨_,rfl⟩;have hnl:nds.length=N:=by rw[hnds,hNe];exact hE.len
  rw[←hNe]at hN0;have HSH:Hid (∀W,Calls Tryz.prog 150 #[.agg arr] W fun e w'=> ∃v,e= .returned v∧w'.ownsRow W.heap.size 195 9 v N (A9 nds)∧Apd W w'):=fun W=>by
   rw[hnds,hNe,HA.out.1];exact Yy 32 L (Gp L) W HA.out.2.2.1 HA.out.2.2.2 hE (fun W=>R7 L W HA.out.2.2.1 HA.out.2.2.2)
  obtain⟨TA,hTA⟩: ∃TA:Nat→Nat→Nat→Array Value,∀g ng nc,TA g ng nc=(Ba T mo g (Bc L) (.slice (some ⟨ng,0,none⟩) N nc) (List.replicate 256 0) n).toArray:=⟨_,fun _ _ _=>rfl⟩;have HBT:Hid (∀g ng nc,Tryz.prog.built 96 [(0,.agg #[.string T,.int .i64 (mo:Nat),.slice (some ⟨g,0,none⟩) (T.size+1) (T.size+1)]),(1,.agg TT),(2,.slice (some ⟨ng,0,none⟩) N nc),(4,.int .i64 (n:Nat))]=some (TA g ng nc)):=fun g ng nc=>by rw[hTA,hTT];exact V9 T mo g n (Bc L) (some ⟨ng,0,none⟩) N nc (A3 _ _ _ _)
  have HTA:Hid (∀g ng nc,TA g ng nc=(Ba T mo g (Bc L) (.slice (some ⟨ng,0,none⟩) N nc) (List.replicate 256 0) n).toArray):=hTA;have HTS:Hid (∀g ng nc,(TA g ng nc).size=773∧(TA g ng nc).all (·.oneCell')=true):=fun g ng nc=>by
   rw[hTA];exact⟨by rw[Alq,Cz T mo g (Bc L) (.slice (some ⟨ng,0,none⟩) N nc) (List.replicate 256 0) n (A3 _ _ _ _) Alj],D9 _ _ _ _ _ _ _ rfl⟩
  have HX:Hid (Bj L∧0<N∧N=Gp L∧nds=Dw L∧nds.length=N∧Hm.Ends 32 (Hm.lnB L) (Af L) N∧T=(⟨(l.take (Hm.szB mo)).toArray⟩:ByteArray)∧T.data.toList=l.take (Hm.szB mo)∧T.size=Hm.szB mo∧Hm.szB mo≤300000):=⟨hC,hN0,hNe,hnds,hnl,by rw[hNe];exact hE,hT,hTl,hTz,hszm⟩;have hw0:=Alw hb02;have hw01:w.heap.size+1<w2.heap.size:=Alw H2.out.2.2;clear hT0 hrd hT hTl hTz hszm hTT hNe hnds hnl hTA hC hE
  go_cut[9]from 10 (fun v9 wz=> ∃tb g ng nc:Nat,v9= .pointer (some ⟨tb,0,none⟩)∧Aside (A4 wz tb T mo g (Bc L) (.slice (some ⟨ng,0,none⟩) N nc) nds (List.replicate 256 0) n∧Apd w2 wz∧w2.heap.size≤tb∧w2.heap.size≤g∧w2.heap.size≤ng))
  case first=>
   refine Ank (S:=fun X=>X.heap[w.heap.size]?=some (.cells arr 139 (0,0))) (by kernel_rfl) ?_ (fun hHeld=>?_)
   ·exact hb02
   refine wpAnyH_take (i := 0) (oi := { dst := some 24, op := Op.move (Operand.tmp 0), type := 9, pos := "tree.go:87", after := #[], guard := none }) (v := ?_) rfl (by kernel_rfl) (by kernel_rfl) (by kernel_rfl) (fun _ _ _ h => h) (Or.inl ⟨by kernel_rfl, ?_⟩) (by assumption) ?_
   rotate_left
   ·intro X hSw;try dsimp only at hSw
    go_simp
    with_reducible rfl
   simp only[Act.put,Ak8,Ak9,Ala]
   refine wpAnyH_take (i := 1) (oi := { dst := some 25, op := Op.move (Operand.tmp 8), type := 3, pos := "tree.go:87", after := #[], guard := none }) (v := ?_) rfl (by kernel_rfl) (by kernel_rfl) (by kernel_rfl) (fun _ _ _ h => h) (Or.inl ⟨by kernel_rfl, ?_⟩) (by assumption) ?_
   rotate_left
   ·intro X hSw;try dsimp only at hSw
    go_simp
    with_reducible rfl
   simp only[Act.put,Ak8,Ak9,Ala]
   refine wpAnyH_take (i := 4) (oi := { dst := some 28, op := Op.load 139 (Operand.tmp 5), type := 139, pos := "tree.go:87", after := #[], guard := none }) (v := .agg arr) rfl (by kernel_rfl) (by kernel_rfl) (by kernel_rfl) (fun _ _ _ h => h) (Or.inl ⟨by kernel_rfl, fun X hX => Ev X 139 (.tmp 5) rfl w.heap.size rfl 139 arr (0, 0) _ hX Tryz.underlying139 rfl (by rw [hasz]; exact B9)⟩) (by assumption) ?_
   simp only[Act.put,Ak8,Ak9,Ala]
   refine wpAnyH_take (i := 6) (oi := { dst := some 30, op := Op.load 139 (Operand.tmp 5), type := 139, pos := "tree.go:87", after := #[], guard := none }) (v := .agg arr) rfl (by kernel_rfl) (by kernel_rfl) (by kernel_rfl) (fun _ _ _ h => h) (Or.inl ⟨by kernel_rfl, fun X hX => Ev X 139 (.tmp 5) rfl w.heap.size rfl 139 arr (0, 0) _ hX Tryz.underlying139 rfl (by rw [hasz]; exact B9)⟩) (by assumption) ?_
   simp only[Act.put,Ak8,Ak9,Ala]
   refine wpAnyH_take (i := 8) (oi := { dst := some 32, op := Op.move (Operand.tmp 1), type := 3, pos := "tree.go:87", after := #[], guard := none }) (v := ?_) rfl (by kernel_rfl) (by kernel_rfl) (by kernel_rfl) (fun _ _ _ h => h) (Or.inl ⟨by kernel_rfl, ?_⟩) (by assumption) ?_
   rotate_left
   ·intro X hSw;try dsimp only at hSw
    go_simp
    with_reducible rfl
   simp only[Act.put,Ak8,Ak9,Ala];refine Al0 (rs:=[2,10]) (by kernel_rfl) (by simp) ?_;refine Alm rfl (fun K hK=>?_) (Alm rfl (fun K hK=>?_) Alv)
   ·go_simp;refine(HRD.out _).mono ?_;rintro e x1 ⟨rfl,hk⟩;have k1:Apd w2 x1:=(Aa.refl (fun _=>False) w2).drew.trans hk (fun _ _ h=>h);have hs1:=hk.size;have hz1:=k1.size;refine hK.out _ _ (k1.row hb02 id) (fun hHeld=>?_);clear hK K hk;refine Al0 (rs:=[3,10]) (by kernel_rfl) (by simp) ?_;refine Alm rfl (fun K hK=>?_) (Alm rfl (fun K hK=>?_) Alv)
    ·go_simp;refine(HCN.out _).mono ?_;rintro e x2 ⟨g,hg,rfl,hir0,hk⟩;have k2:Apd w2 x2:=k1.trans hk (fun _ _ h=>h);have hs2:=hk.size;have hz2:=k2.size;have hir:=hir0;have hgl:=hir.lt;clear hir0;refine hK.out _ _ (k2.row hb02 id) (fun hHeld=>?_);clear hK K hk;refine Al0 (rs:=[5,10]) (by kernel_rfl) (by simp) ?_;refine Alm rfl (fun K hK=>?_) (Alm rfl (fun K hK=>?_) Alv)
     ·go_simp;refine(HAS.out _).mono ?_;rintro e x3 ⟨rfl,hk⟩;have k3:Apd w2 x3:=k2.trans hk (fun _ _ h=>h);have hs3:=hk.size;have hz3:=k3.size;have hir:=hir.kept hk id;refine hK.out _ _ (k3.row hb02 id) (fun hHeld=>?_);clear hK K hk;refine Al0 (rs:=[7,10]) (by kernel_rfl) (by simp) ?_;refine Alm rfl (fun K hK=>?_) (Alm rfl (fun K hK=>?_) Alv)
      ·go_simp;refine(HSH.out _).mono ?_;rintro e x4 ⟨v,rfl,hno0,hk⟩;have k4:Apd w2 x4:=k3.trans hk (fun _ _ h=>h);have hs4:=hk.size;have hz4:=k4.size;have hir:=hir.kept hk id;obtain⟨ng,nc,hv,_,hngl⟩:=Cf hno0 (by omega);subst hv;have hng:=(hno0.lt ng rfl).1;have hno:=hno0;clear hno0;refine hK.out _ _ (k4.row hb02 id) (fun hHeld=>?_);clear hK K hk
       refine wpAnyH_take (i := 9) (oi := { dst := some 33, op := Op.build 96 #[(0, Operand.tmp 27), (1, Operand.tmp 29), (2, Operand.tmp 31), (4, Operand.tmp 32)], type := 96, pos := "tree.go:87", after := #[{ on := 3, ground := Ground.data }, { on := 5, ground := Ground.data }, { on := 7, ground := Ground.data }, { on := 8, ground := Ground.data }], guard := none }) (v := .agg (TA g ng nc)) rfl (by kernel_rfl) (by kernel_rfl) (by kernel_rfl) (fun _ _ _ h => h) (Or.inl ⟨by kernel_rfl, fun X _ => Hr X 96 0 1 2 4 (.tmp 27) (.tmp 29) (.tmp 31) (.tmp 32) rfl _ _ _ _ rfl rfl rfl rfl _ (HBT.out g ng nc)⟩) (by assumption) ?_
       simp only[Act.put,Ak8,Ak9,Ala];refine Al0 (rs:=[10]) (by kernel_rfl) (by simp) ?_;refine Alm rfl (fun K hK=>?_) Alv;go_simp;obtain⟨x5,hx5⟩: ∃X,X=(x4.alloc (.cells Tryz.zeroCells96 96)):=⟨_,rfl⟩;have hk:Apd x4 x5:=by rw[hx5];exact((Aa.refl _ _).alloc _)
       have htb:x5.heap[x4.heap.size]?=some (.cells Tryz.zeroCells96 96 (0,0)):=by rw[hx5];exact All x4 _
       obtain⟨tb,htbe⟩: ∃t,t=x4.heap.size:=⟨_,rfl⟩;rw[←htbe]at htb⊢;have hta:=Aob htbe;have hta2:=Aob htbe.symm;clear htbe;rw[←hx5];have htbl:=Alw htb;have k5:Apd w2 x5:=k4.trans hk (fun _ _ h=>h);have hs5:=hk.size;have hz5:=k5.size;have hir:=hir.kept hk id;have hno:=hk.owns hno (fun _ _ h=>h);refine hK.out _ _ (k5.row hb02 id) (fun hHeld=>?_);clear hK K hk hx5;refine Al0 (rs:=[11]) (by kernel_rfl) (by simp) ?_;refine Alm rfl (fun K hK=>?_) Alv;refine B5 x5 rfl 96 (.tmp 9) (.tmp 33) rfl tb 96 Tryz.zeroCells96 (TA g ng nc) rfl rfl htb (by rw[(HTS.out g ng nc).1];exact B6) (by rw[(HTS.out g ng nc).1];exact hzt) (HTS.out g ng nc).2 ?_;intro wz hwz hkz;refine hK.out _ _ (hkz.row (k5.row hb02 id) (by omega)) (fun hHeld=>?_);clear hK K;refine Anp (by kernel_rfl) ?_ _;have H4:Aside (A4 wz tb T mo g (Bc L) (.slice (some ⟨ng,0,none⟩) N nc) nds (List.replicate 256 0) n∧Apd w2 wz∧w2.heap.size≤tb∧w2.heap.size≤g∧w2.heap.size≤ng):=by
        refine⟨⟨by rw[←HTA.out];exact hwz,hir.kept hkz (by omega),?_,A3 _ _ _ _,Alj,?_,by omega,?_⟩,k5.trans hkz (fun j h1 h2=>by omega),by omega,by omega,by omega⟩
        ·rw[HX.out.2.2.2.2.1];exact Gq (hkz.owns hno (fun j hj e=>by have e1:ng=j:=Al1 hj;omega))
        ·intro e;have e1:ng=tb:=Al1 e;omega
        ·intro e;have e1:ng=g:=Al1 e;omega
       go_wp2_with fail;go_meet
       case rel=>exact⟨tb,g,ng,nc,rfl,H4⟩
      ·go_simp;obtain⟨x6,hx6⟩: ∃X,X=(x3.alloc (.cells Tryz.zeroCells96 96)):=⟨_,rfl⟩;have hk:Apd x3 x6:=by rw[hx6];exact((Aa.refl _ _).alloc _)
       have htb:x6.heap[x3.heap.size]?=some (.cells Tryz.zeroCells96 96 (0,0)):=by rw[hx6];exact All x3 _
       obtain⟨tb,htbe⟩: ∃t,t=x3.heap.size:=⟨_,rfl⟩;rw[←htbe]at htb⊢;have hta:=Aob htbe;have hta2:=Aob htbe.symm;clear htbe;rw[←hx6];have htbl:=Alw htb;have k6:Apd w2 x6:=k3.trans hk (fun _ _ h=>h);have hs6:=hk.size;have hz6:=k6.size;have hir:=hir.kept hk id;refine hK.out _ _ (k6.row hb02 id) (fun hHeld=>?_);clear hK K hk hx6;refine Al0 (rs:=[7]) (by kernel_rfl) (by simp) ?_;refine Alm rfl (fun K hK=>?_) Alv;go_simp;refine(HSH.out _).mono ?_;rintro e x7 ⟨v,rfl,hno0,hk⟩;have k7:Apd w2 x7:=k6.trans hk (fun _ _ h=>h);have hs7:=hk.size;have hz7:=k7.size;have hir:=hir.kept hk id;have htb:=hk.row htb id;obtain⟨ng,nc,hv,_,hngl⟩:=Cf hno0 (by omega);subst hv;have hng:=(hno0.lt ng rfl).1;have hno:=hno0;clear hno0;refine hK.out _ _ (k7.row hb02 id) (fun hHeld=>?_);clear hK K hk
       refine wpAnyH_take (i := 9) (oi := { dst := some 33, op := Op.build 96 #[(0, Operand.tmp 27), (1, Operand.tmp 29), (2, Operand.tmp 31), (4, Operand.tmp 32)], type := 96, pos := "tree.go:87", after := #[{ on := 3, ground := Ground.data }, { on := 5, ground := Ground.data }, { on := 7, ground := Ground.data }, { on := 8, ground := Ground.data }], guard := none }) (v := .agg (TA g ng nc)) rfl (by kernel_rfl) (by kernel_rfl) (by kernel_rfl) (fun _ _ _ h => h) (Or.inl ⟨by kernel_rfl, fun X _ => Hr X 96 0 1 2 4 (.tmp 27) (.tmp 29) (.tmp 31) (.tmp 32) rfl _ _ _ _ rfl rfl rfl rfl _ (HBT.out g ng nc)⟩) (by assumption) ?_
       simp only[Act.put,Ak8,Ak9,Ala];refine Al0 (rs:=[11]) (by kernel_rfl) (by simp) ?_;refine Alm rfl (fun K hK=>?_) Alv;refine B5 x7 rfl 96 (.tmp 9) (.tmp 33) rfl tb 96 Tryz.zeroCells96 (TA g ng nc) rfl rfl htb (by rw[(HTS.out g ng nc).1];exact B6) (by rw[(HTS.out g ng nc).1];exact hzt) (HTS.out g ng nc).2 ?_;intro wz hwz hkz;refine hK.out _ _ (hkz.row (k7.row hb02 id) (by omega)) (fun hHeld=>?_);clear hK K;refine Anp (by kernel_rfl) ?_ _;have H4:Aside (A4 wz tb T mo g (Bc L) (.slice (some ⟨ng,0,none⟩) N nc) nds (List.replicate 256 0) n∧Apd w2 wz∧w2.heap.size≤tb∧w2.heap.size≤g∧w2.heap.size≤ng):=by
        refine⟨⟨by rw[←HTA.out];exact hwz,hir.kept hkz (by omega),?_,A3 _ _ _ _,Alj,?_,by omega,?_⟩,k7.trans hkz (fun j h1 h2=>by omega),by omega,by omega,by omega⟩
        ·rw[HX.out.2.2.2.2.1];exact Gq (hkz.owns hno (fun j hj e=>by have e1:ng=j:=Al1 hj;omega))
        ·intro e;have e1:ng=tb:=Al1 e;omega
        ·intro e;have e1:ng=g:=Al1 e;omega
       go_wp2_with fail;go_meet
       case rel=>exact⟨tb,g,ng,nc,rfl,H4⟩
     ·go_simp;obtain⟨x8,hx8⟩: ∃X,X=(x2.alloc (.cells Tryz.zeroCells96 96)):=⟨_,rfl⟩;have hk:Apd x2 x8:=by rw[hx8];exact((Aa.refl _ _).alloc _)
      have htb:x8.heap[x2.heap.size]?=some (.cells Tryz.zeroCells96 96 (0,0)):=by rw[hx8];exact All x2 _
      obtain⟨tb,htbe⟩: ∃t,t=x2.heap.size:=⟨_,rfl⟩;rw[←htbe]at htb⊢;have hta:=Aob htbe;have hta2:=Aob htbe.symm;clear htbe;rw[←hx8];have htbl:=Alw htb;have k8:Apd w2 x8:=k2.trans hk (fun _ _ h=>h);have hs8:=hk.size;have hz8:=k8.size;have hir:=hir.kept hk id;refine hK.out _ _ (k8.row hb02 id) (fun hHeld=>?_);clear hK K hk hx8;refine Al0 (rs:=[5]) (by kernel_rfl) (by simp) ?_;refine Alm rfl (fun K hK=>?_) Alv;go_simp;refine(HAS.out _).mono ?_;rintro e x9 ⟨rfl,hk⟩;have k9:Apd w2 x9:=k8.trans hk (fun _ _ h=>h);have hs9:=hk.size;have hz9:=k9.size;have hir:=hir.kept hk id;have htb:=hk.row htb id;refine hK.out _ _ (k9.row hb02 id) (fun hHeld=>?_);clear hK K hk;refine Al0 (rs:=[7]) (by kernel_rfl) (by simp) ?_;refine Alm rfl (fun K hK=>?_) Alv;go_simp;refine(HSH.out _).mono ?_;rintro e x10 ⟨v,rfl,hno0,hk⟩;have k10:Apd w2 x10:=k9.trans hk (fun _ _ h=>h);have hs10:=hk.size;have hz10:=k10.size;have hir:=hir.kept hk id;have htb:=hk.row htb id;obtain⟨ng,nc,hv,_,hngl⟩:=Cf hno0 (by omega);subst hv;have hng:=(hno0.lt ng rfl).1;have hno:=hno0;clear hno0;refine hK.out _ _ (k10.row hb02 id) (fun hHeld=>?_);clear hK K hk
      refine wpAnyH_take (i := 9) (oi := { dst := some 33, op := Op.build 96 #[(0, Operand.tmp 27), (1, Operand.tmp 29), (2, Operand.tmp 31), (4, Operand.tmp 32)], type := 96, pos := "tree.go:87", after := #[{ on := 3, ground := Ground.data }, { on := 5, ground := Ground.data }, { on := 7, ground := Ground.data }, { on := 8, ground := Ground.data }], guard := none }) (v := .agg (TA g ng nc)) rfl (by kernel_rfl) (by kernel_rfl) (by kernel_rfl) (fun _ _ _ h => h) (Or.inl ⟨by kernel_rfl, fun X _ => Hr X 96 0 1 2 4 (.tmp 27) (.tmp 29) (.tmp 31) (.tmp 32) rfl _ _ _ _ rfl rfl rfl rfl _ (HBT.out g ng nc)⟩) (by assumption) ?_
      simp only[Act.put,Ak8,Ak9,Ala];refine Al0 (rs:=[11]) (by kernel_rfl) (by simp) ?_;refine Alm rfl (fun K hK=>?_) Alv;refine B5 x10 rfl 96 (.tmp 9) (.tmp 33) rfl tb 96 Tryz.zeroCells96 (TA g ng nc) rfl rfl htb (by rw[(HTS.out g ng nc).1];exact B6) (by rw[(HTS.out g ng nc).1];exact hzt) (HTS.out g ng nc).2 ?_;intro wz hwz hkz;refine hK.out _ _ (hkz.row (k10.row hb02 id) (by omega)) (fun hHeld=>?_);clear hK K;refine Anp (by kernel_rfl) ?_ _;have H4:Aside (A4 wz tb T mo g (Bc L) (.slice (some ⟨ng,0,none⟩) N nc) nds (List.replicate 256 0) n∧Apd w2 wz∧w2.heap.size≤tb∧w2.heap.size≤g∧w2.heap.size≤ng):=by
       refine⟨⟨by rw[←HTA.out];exact hwz,hir.kept hkz (by omega),?_,A3 _ _ _ _,Alj,?_,by omega,?_⟩,k10.trans hkz (fun j h1 h2=>by omega),by omega,by omega,by omega⟩
       ·rw[HX.out.2.2.2.2.1];exact Gq (hkz.owns hno (fun j hj e=>by have e1:ng=j:=Al1 hj;omega))
       ·intro e;have e1:ng=tb:=Al1 e;omega
       ·intro e;have e1:ng=g:=Al1 e;omega
      go_wp2_with fail;go_meet
      case rel=>exact⟨tb,g,ng,nc,rfl,H4⟩
    ·go_simp;obtain⟨x11,hx11⟩: ∃X,X=(x1.alloc (.cells Tryz.zeroCells96 96)):=⟨_,rfl⟩;have hk:Apd x1 x11:=by rw[hx11];exact((Aa.refl _ _).alloc _)
     have htb:x11.heap[x1.heap.size]?=some (.cells Tryz.zeroCells96 96 (0,0)):=by rw[hx11];exact All x1 _
     obtain⟨tb,htbe⟩: ∃t,t=x1.heap.size:=⟨_,rfl⟩;rw[←htbe]at htb⊢;have hta:=Aob htbe;have hta2:=Aob htbe.symm;clear htbe;rw[←hx11];have htbl:=Alw htb;have k11:Apd w2 x11:=k1.trans hk (fun _ _ h=>h);have hs11:=hk.size;have hz11:=k11.size;refine hK.out _ _ (k11.row hb02 id) (fun hHeld=>?_);clear hK K hk hx11;refine Al0 (rs:=[3]) (by kernel_rfl) (by simp) ?_;refine Alm rfl (fun K hK=>?_) Alv;go_simp;refine(HCN.out _).mono ?_;rintro e x12 ⟨g,hg,rfl,hir0,hk⟩;have k12:Apd w2 x12:=k11.trans hk (fun _ _ h=>h);have hs12:=hk.size;have hz12:=k12.size;have htb:=hk.row htb id;have hir:=hir0;have hgl:=hir.lt;clear hir0;refine hK.out _ _ (k12.row hb02 id) (fun hHeld=>?_);clear hK K hk;refine Al0 (rs:=[5]) (by kernel_rfl) (by simp) ?_;refine Alm rfl (fun K hK=>?_) Alv;go_simp;refine(HAS.out _).mono ?_;rintro e x13 ⟨rfl,hk⟩;have k13:Apd w2 x13:=k12.trans hk (fun _ _ h=>h);have hs13:=hk.size;have hz13:=k13.size;have hir:=hir.kept hk id;have htb:=hk.row htb id;refine hK.out _ _ (k13.row hb02 id) (fun hHeld=>?_);clear hK K hk;refine Al0 (rs:=[7]) (by kernel_rfl) (by simp) ?_;refine Alm rfl (fun K hK=>?_) Alv;go_simp;refine(HSH.out _).mono ?_;rintro e x14 ⟨v,rfl,hno0,hk⟩;have k14:Apd w2 x14:=k13.trans hk (fun _ _ h=>h);have hs14:=hk.size;have hz14:=k14.size;have hir:=hir.kept hk id;have htb:=hk.row htb id;obtain⟨ng,nc,hv,_,hngl⟩:=Cf hno0 (by omega);subst hv;have hng:=(hno0.lt ng rfl).1;have hno:=hno0;clear hno0;refine hK.out _ _ (k14.row hb02 id) (fun hHeld=>?_);clear hK K hk
     refine wpAnyH_take (i := 9) (oi := { dst := some 33, op := Op.build 96 #[(0, Operand.tmp 27), (1, Operand.tmp 29), (2, Operand.tmp 31), (4, Operand.tmp 32)], type := 96, pos := "tree.go:87", after := #[{ on := 3, ground := Ground.data }, { on := 5, ground := Ground.data }, { on := 7, ground := Ground.data }, { on := 8, ground := Ground.data }], guard := none }) (v := .agg (TA g ng nc)) rfl (by kernel_rfl) (by kernel_rfl) (by kernel_rfl) (fun _ _ _ h => h) (Or.inl ⟨by kernel_rfl, fun X _ => Hr X 96 0 1 2 4 (.tmp 27) (.tmp 29) (.tmp 31) (.tmp 32) rfl _ _ _ _ rfl rfl rfl rfl _ (HBT.out g ng nc)⟩) (by assumption) ?_
     simp only[Act.put,Ak8,Ak9,Ala];refine Al0 (rs:=[11]) (by kernel_rfl) (by simp) ?_;refine Alm rfl (fun K hK=>?_) Alv;refine B5 x14 rfl 96 (.tmp 9) (.tmp 33) rfl tb 96 Tryz.zeroCells96 (TA g ng nc) rfl rfl htb (by rw[(HTS.out g ng nc).1];exact B6) (by rw[(HTS.out g ng nc).1];exact hzt) (HTS.out g ng nc).2 ?_;intro wz hwz hkz;refine hK.out _ _ (hkz.row (k14.row hb02 id) (by omega)) (fun hHeld=>?_);clear hK K;refine Anp (by kernel_rfl) ?_ _;have H4:Aside (A4 wz tb T mo g (Bc L) (.slice (some ⟨ng,0,none⟩) N nc) nds (List.replicate 256 0) n∧Apd w2 wz∧w2.heap.size≤tb∧w2.heap.size≤g∧w2.heap.size≤ng):=by
      refine⟨⟨by rw[←HTA.out];exact hwz,hir.kept hkz (by omega),?_,A3 _ _ _ _,Alj,?_,by omega,?_⟩,k14.trans hkz (fun j h1 h2=>by omega),by omega,by omega,by omega⟩
      ·rw[HX.out.2.2.2.2.1];exact Gq (hkz.owns hno (fun j hj e=>by have e1:ng=j:=Al1 hj;omega))
      ·intro e;have e1:ng=tb:=Al1 e;omega
      ·intro e;have e1:ng=g:=Al1 e;omega
     go_wp2_with fail;go_meet
     case rel=>exact⟨tb,g,ng,nc,rfl,H4⟩
   ·go_simp;obtain⟨x15,hx15⟩: ∃X,X=(w2.alloc (.cells Tryz.zeroCells96 96)).drew:=⟨_,rfl⟩;have hk:Apd w2 x15:=by rw[hx15];exact((Aa.refl _ _).alloc _).drew
    have htb:x15.heap[w2.heap.size]?=some (.cells Tryz.zeroCells96 96 (0,0)):=by rw[hx15];exact All w2 _
    obtain⟨tb,htbe⟩: ∃t,t=w2.heap.size:=⟨_,rfl⟩;rw[←htbe]at htb⊢;have hta:=Aob htbe;have hta2:=Aob htbe.symm;clear htbe;rw[←hx15];have htbl:=Alw htb;have k15:Apd w2 x15:=hk;have hs15:=hk.size;have hz15:=k15.size;refine hK.out _ _ (k15.row hb02 id) (fun hHeld=>?_);clear hK K hk hx15;refine Al0 (rs:=[2]) (by kernel_rfl) (by simp) ?_;refine Alm rfl (fun K hK=>?_) Alv;go_simp;refine(HRD.out _).mono ?_;rintro e x16 ⟨rfl,hk⟩;have k16:Apd w2 x16:=k15.trans hk (fun _ _ h=>h);have hs16:=hk.size;have hz16:=k16.size;have htb:=hk.row htb id;refine hK.out _ _ (k16.row hb02 id) (fun hHeld=>?_);clear hK K hk;refine Al0 (rs:=[3]) (by kernel_rfl) (by simp) ?_;refine Alm rfl (fun K hK=>?_) Alv;go_simp;refine(HCN.out _).mono ?_;rintro e x17 ⟨g,hg,rfl,hir0,hk⟩;have k17:Apd w2 x17:=k16.trans hk (fun _ _ h=>h);have hs17:=hk.size;have hz17:=k17.size;have htb:=hk.row htb id;have hir:=hir0;have hgl:=hir.lt;clear hir0;refine hK.out _ _ (k17.row hb02 id) (fun hHeld=>?_);clear hK K hk;refine Al0 (rs:=[5]) (by kernel_rfl) (by simp) ?_;refine Alm rfl (fun K hK=>?_) Alv;go_simp;refine(HAS.out _).mono ?_;rintro e x18 ⟨rfl,hk⟩;have k18:Apd w2 x18:=k17.trans hk (fun _ _ h=>h);have hs18:=hk.size;have hz18:=k18.size;have hir:=hir.kept hk id;have htb:=hk.row htb id;refine hK.out _ _ (k18.row hb02 id) (fun hHeld=>?_);clear hK K hk;refine Al0 (rs:=[7]) (by kernel_rfl) (by simp) ?_;refine Alm rfl (fun K hK=>?_) Alv;go_simp;refine(HSH.out _).mono ?_;rintro e x19 ⟨v,rfl,hno0,hk⟩;have k19:Apd w2 x19:=k18.trans hk (fun _ _ h=>h);have hs19:=hk.size;have hz19:=k19.size;have hir:=hir.kept hk id;have htb:=hk.row htb id;obtain⟨ng,nc,hv,_,hngl⟩:=Cf hno0 (by omega);subst hv;have hng:=(hno0.lt ng rfl).1;have hno:=hno0;clear hno0;refine hK.out _ _ (k19.row hb02 id) (fun hHeld=>?_);clear hK K hk
    refine wpAnyH_take (i := 9) (oi := { dst := some 33, op := Op.build 96 #[(0, Operand.tmp 27), (1, Operand.tmp 29), (2, Operand.tmp 31), (4, Operand.tmp 32)], type := 96, pos := "tree.go:87", after := #[{ on := 3, ground := Ground.data }, { on := 5, ground := Ground.data }, { on := 7, ground := Ground.data }, { on := 8, ground := Ground.data }], guard := none }) (v := .agg (TA g ng nc)) rfl (by kernel_rfl) (by kernel_rfl) (by kernel_rfl) (fun _ _ _ h => h) (Or.inl ⟨by kernel_rfl, fun X _ => Hr X 96 0 1 2 4 (.tmp 27) (.tmp 29) (.tmp 31) (.tmp 32) rfl _ _ _ _ rfl rfl rfl rfl _ (HBT.out g ng nc)⟩) (by assumption) ?_
    simp only[Act.put,Ak8,Ak9,Ala];refine Al0 (rs:=[11]) (by kernel_rfl) (by simp) ?_;refine Alm rfl (fun K hK=>?_) Alv;refine B5 x19 rfl 96 (.tmp 9) (.tmp 33) rfl tb 96 Tryz.zeroCells96 (TA g ng nc) rfl rfl htb (by rw[(HTS.out g ng nc).1];exact B6) (by rw[(HTS.out g ng nc).1];exact hzt) (HTS.out g ng nc).2 ?_;intro wz hwz hkz;refine hK.out _ _ (hkz.row (k19.row hb02 id) (by omega)) (fun hHeld=>?_);clear hK K;refine Anp (by kernel_rfl) ?_ _;have H4:Aside (A4 wz tb T mo g (Bc L) (.slice (some ⟨ng,0,none⟩) N nc) nds (List.replicate 256 0) n∧Apd w2 wz∧w2.heap.size≤tb∧w2.heap.size≤g∧w2.heap.size≤ng):=by
     refine⟨⟨by rw[←HTA.out];exact hwz,hir.kept hkz (by omega),?_,A3 _ _ _ _,Alj,?_,by omega,?_⟩,k19.trans hkz (fun j h1 h2=>by omega),by omega,by omega,by omega⟩
     ·rw[HX.out.2.2.2.2.1];exact Gq (hkz.owns hno (fun j hj e=>by have e1:ng=j:=Al1 hj;omega))
     ·intro e;have e1:ng=tb:=Al1 e;omega
     ·intro e;have e1:ng=g:=Al1 e;omega
    go_wp2_with fail;go_meet
    case rel=>exact⟨tb,g,ng,nc,rfl,H4⟩
  case rest=>
   obtain⟨tb,g,ng,nc,rfl,H3⟩:=hcut;clear HRD HCN HAS HSH HBT HTA HTS;have hlen:N≤255:=by have h4:=HX.out.2.2.2.2.2.1.len;have h5:=HX.out.2.2.2.2.2.1.few (2*N) (Ale _);omega
   have hins:Pi nds:=by
    have h:=HX.out.2.2.2.2.2.1.nodes.inside;rw[HX.out.2.2.1]at h;rw[HX.out.2.2.2.1];exact h
   have hsz0: ∀j,(Ab nds j).siz≤n:=fun j=>by rw[HX.out.2.2.2.1];unfold Dw;rw[O3];exact Alr _
   have hlay:=Aev hones tb g mo n N nc ng T (Bc L) nds (List.replicate 256 0) wc H3.out.1 HX.out.2.2.2.2.1.symm HX.out.2.1 hlen hins hsz0 hn (by rw[HX.out.2.2.2.2.2.2.2.2.1];unfold Hm.szB;omega) (by have h1:=HX.out.2.2.2.2.2.2.2.2.1;have h2:=HX.out.2.2.2.2.2.2.2.2.2;omega);rw[HX.out.2.2.2.2.2.2.2.1]at hlay;have HOK:Hid (∀st,Fm l n L st↔Nn (Ak (l.take (Hm.szB mo))) mo nds n (List.replicate 256 0)=some st):=fun st=>by
    unfold Fm;rw[HMOE.out,HX.out.2.2.2.1];exact⟨fun h=>h.2,fun h=>⟨HX.out.1,h⟩⟩
   have hres3:=H3.out.2.1.row H2.out.2.2 id;have H5:Hid (Apd w wc∧wc.heap[w.heap.size+1]?=some (.cells Tryz.zeroCells96 96 (0,0))):=⟨H2.out.1.trans H3.out.2.1 (fun _ _ h=>h),hres3⟩;have hwt:w.heap.size+1<tb:=by have:=H3.out.2.2.1;omega
   have hwg:w.heap.size+1<g:=by have:=H3.out.2.2.2.1;omega
   have hwn:w.heap.size+1<ng:=by have:=H3.out.2.2.2.2;omega
   clear hins hsz0 hres3 hb02;go_wp2_with fail;refine hlay.mono ?_;rintro e w3 ⟨nds',ws',hsay,hnl',hwl',htr,hk3⟩;clear hlay;have hrow3:=hk3.row H5.out.2 (fun h=>h.elim (fun h=>by omega) (fun h=>by have e1:ng=w.heap.size+1:=Al1 h;omega));have hkw3:Apd w w3:=H5.out.1.trans hk3 (fun j h1 h2=>h2.elim (fun h=>by omega) (fun h=>by have e1:ng=j:=Al1 h;omega));have H6:Hid (A4 w3 tb T mo g (Bc L) (.slice (some ⟨ng,0,none⟩) N nc) nds' ws' n∧nds'.length=N∧ws'.length=256∧w3.heap[w.heap.size+1]?=some (.cells Tryz.zeroCells96 96 (0,0))∧Apd w w3):=⟨htr,hnl',hwl',hrow3,hkw3⟩;clear htr hnl' hwl' hkw3 hk3 H5;cases hly:Nn (Ak (l.take (Hm.szB mo))) mo nds n (List.replicate 256 0)with
   |none=>
    rw[hly]at hsay;have HNo:Hid (∀st,¬Fm l n L st):=fun st h=>by have:=(HOK.out st).1 h;rw[hly]at this;cases this
    obtain rfl:=hsay;clear hly
    go_wp2_with(first
     |(refine Oq rfl 96 rfl Tryz.zeroCells96 Wa ?_)
     |(refine wpList_store_row _ rfl 96 _ _ rfl (w.heap.size+1) 96 _ Tryz.zeroCells96 rfl rfl hrow3 (by rw[hzt];exact B6) rfl hz1 ?_;intro w9 hw9 hk9))
    refine Amo (v:= .tuple #[.agg Tryz.zeroCells96,.bool false]) (Dc Tryz.results118 _ _ (w.heap.size+1) 96 _ (0,0) _ rfl hw9 Tryz.underlying96 rfl (by rw[hzt];exact B6)) rfl ⟨H6.out.2.2.2.2.trans hk9 (fun j h1 h2=>by omega),.inr ⟨HNo.out,rfl⟩⟩
   |some st=>
    rw[hly]at hsay;obtain⟨rfl,rfl,rfl⟩:=hsay;have HST:Hid (Fm l n L st):=(HOK.out st).2 hly;have hle:st.len≤mo:=K8 hly;have hfit:Hm.szB st.len≤l.length:=Al2 (by unfold Hm.szB;omega) hmf;have hzl:Hm.szB st.len≤300000:=Al2 (by unfold Hm.szB;omega) HX.out.2.2.2.2.2.2.2.2.2;have hrd2:=fun W=>Lm l st.len W hfit (by omega) (by omega);rw[←HA.out.2.1]at hrd2;obtain⟨T2,hT2⟩: ∃T,T=(⟨(l.take (Hm.szB st.len)).toArray⟩:ByteArray):=⟨_,rfl⟩;have hT2l:T2.data.toList=l.take (Hm.szB st.len):=by rw[hT2]
    have hT2z:T2.size=Hm.szB st.len:=by rw[hT2];show(l.take _).toArray.size=_;simp;omega
    have hrd3: ∀W,Calls Tryz.prog 167 #[.string S,.int .i64 (st.len:Nat)] W fun e w'=>e= .returned (.agg #[.string T2,.int .i64 (st.len:Nat)])∧Apd W w':=fun W=>by rw[hT2];exact hrd2 W
    have hcn2:=fun W=>Jp hones T2 st.len W (by omega);have HT2:Hid (T2=(⟨(l.take (Hm.szB st.len)).toArray⟩:ByteArray)∧T2.data.toList=l.take (Hm.szB st.len)):=⟨hT2,hT2l⟩;obtain⟨sl,hsl⟩: ∃x,x=st.len:=⟨_,rfl⟩;have HSL:Hid (sl=st.len):=hsl;rw[←hsl]at hrd3 hcn2⊢;clear hly hrd2 hT2 hT2l hT2z hsl;go_wp2_with fail;refine(hrd3 _).mono ?_;rintro e w4 ⟨rfl,hk4⟩;clear hrd3;go_wp2_with fail;refine(hcn2 _).mono ?_;rintro e w5 ⟨g2,hg2,rfl,hir2,hk5⟩;clear hcn2;have hk35:=hk4.trans hk5 (fun _ _ h=>h);have htr5:=H6.out.1.kept hk35 id id (fun _ _ h=>h);have hs34:=hk35.size;have hs4:=hk4.size;have c0:w5.cell? ⟨tb,0,none⟩=some (.string T):=htr5.cellAt 0;have c1:w5.cell? ⟨tb,1,none⟩=some (.int .i64 (mo:Nat)):=htr5.cellAt 1;have c2:w5.cell? ⟨tb,2,none⟩=some (.slice (some ⟨g,0,none⟩) (T.size+1) (T.size+1)):=htr5.cellAt 2;have f0:=htr5.free 0;have f1:=htr5.free 1;have f2:=htr5.free 2;have htbl:=H6.out.1.lt;have hngl:=(H6.out.1.nod.lt ng rfl).2;have hnw:=(htr5.nod.lt ng rfl).2;have hg2l:=hir2.lt;obtain⟨W6,hW6⟩: ∃W6,W6=((w5.setCell ⟨tb,0,none⟩ (.string T2)).setCell ⟨tb,1,none⟩ (.int .i64 (sl:Nat))).setCell ⟨tb,2,none⟩ (.slice (some ⟨g2,0,none⟩) (T2.size+1) (T2.size+1)):=⟨_,rfl⟩;obtain⟨TB,hTB⟩: ∃A,A=(Ba T2 sl g2 (Bc L) (.slice (some ⟨ng,0,none⟩) N nc) st.ws n).toArray:=⟨_,rfl⟩;have hrowT:W6.heap[tb]?=some (.cells TB 96 (0,0)):=by
     rw[hW6,hTB,Alf _ _ 2 _ _ _ (Alf _ _ 1 _ _ _ (Alf _ _ 0 _ _ _ htr5.blk))];rfl
    have hk6:Aa (fun j=>j=tb) w5 W6:=by rw[hW6];exact Lf w5 tb _ _ _
    have hrow5:=hk35.row hrow3 id;have hrow6:=hk6.row hrow5 (by omega);have htl6:TB.size=773:=by rw[hTB,Alq,Cz T2 sl g2 (Bc L) (.slice (some ⟨ng,0,none⟩) N nc) st.ws n (A3 _ _ _ _) H6.out.2.2.1]
    have htb1:TB.all (·.oneCell')=true:=by rw[hTB];exact D9 _ _ _ _ _ _ _ rfl
    have hng2:ng≠g2:=by omega
    have H7:Hid (W6.heap[tb]?=some (.cells TB 96 (0,0))∧IntRow W6 g2 (Bt T2.data.toList)∧W6.ownsRow 0 195 9 (.slice (some ⟨ng,0,none⟩) N nc) N (A9 st.nds)∧W6.heap[w.heap.size+1]?=some (.cells Tryz.zeroCells96 96 (0,0))∧Apd w W6∧w.heap.size+1<g2):=by
     refine⟨hrowT,hir2.kept hk6 (by omega),?_,hrow6,(H6.out.2.2.2.2.trans hk35 (fun _ _ h=>h)).trans hk6 (fun j h1 h2=>by omega),by omega⟩;have ho:=hk6.owns htr5.nod (fun j hj e=>by have e1:ng=j:=Al1 hj;have e2:=H6.out.1.n1;subst e1;exact e2 (by rw[e];rfl));rwa[H6.out.2.1]at ho
    have HW6:Hid (((w5.setCell ⟨tb,0,none⟩ (.string T2)).setCell ⟨tb,1,none⟩ (.int .i64 (sl:Nat))).setCell ⟨tb,2,none⟩ (.slice (some ⟨g2,0,none⟩) (T2.size+1) (T2.size+1))=W6):=hW6.symm;have HTB:Hid (TB=(Ba T2 sl g2 (Bc L) (.slice (some ⟨ng,0,none⟩) N nc) st.ws n).toArray):=hTB;clear hk4 hk5 hk35 htr5 hir2 hW6 hTB hrowT hk6 hrow5 hrow6 hrow3 hg2;go_upto_region 9 with fail
    rw[HW6.out];clear HW6
    go_wp2_with(first
     |(refine Amd rfl 96 _ rfl tb rfl 96 TB (0,0) _ H7.out.1 Tryz.underlying96 rfl (by rw[htl6];exact B6) ?_)
     |(refine wpList_store_row _ rfl 96 _ _ rfl (w.heap.size+1) 96 _ TB rfl rfl H7.out.2.2.2.1 (by rw[htl6];exact B6) (by rw[htl6];exact hzt) htb1 ?_;intro w9 hw9 hk9))
    refine Amo (v:= .tuple #[.agg TB,.bool true]) (Dc Tryz.results118 _ _ (w.heap.size+1) 96 _ (0,0) _ rfl hw9 Tryz.underlying96 rfl (by rw[htl6];exact B6)) rfl ⟨H7.out.2.2.2.2.1.trans hk9 (fun j h1 h2=>by omega),.inl ⟨st,g2,ng,nc,HST.out,by have:=H7.out.2.2.2.2.2;omega,by omega,fun e=>hng2 e.symm,?_,H6.out.2.2.1,?_,?_⟩⟩
    ·rw[HTB.out,HT2.out.1,HSL.out,H6.out.2.1]
    ·rw[←HT2.out.2];exact H7.out.2.1.kept hk9 (by have:=H7.out.2.2.2.2.2;omega)
    ·have ho:=hk9.owns H7.out.2.2.1 (fun j hj e=>by have e1:ng=j:=Al1 hj;omega);rwa[H6.out.2.1]
end Go.Proofs.YtegnkfdbmmndaaaGreat
