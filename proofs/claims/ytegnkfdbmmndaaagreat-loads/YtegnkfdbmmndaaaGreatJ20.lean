import Derived.Test.YtegnkfdbmmndaaaGreatJ00
import Derived.Test.YtegnkfdbmmndaaaGreatJ19
import Derived.Test.YtegnkfdbmmndaaaGreatJ08
import Derived.Test.YtegnkfdbmmndaaaGreatJ07
import Derived.Test.YtegnkfdbmmndaaaGreatJ03
import Derived.Test.YtegnkfdbmmndaaaGreatJ04

namespace Go.Proofs.YtegnkfdbmmndaaaGreat
open Hm
open Go.RowKit
structure Db(B:Nat)(w':World)(l:List UInt8)(n:Nat)(L:List Nat)(VA:Array Value)(T:ByteArray)(ok:Bool):Prop where
 size:VA.size=773
 one:VA.all (·.oneCell')=true
 str:VA[0]?=some (.string T)
 few:T.size≤l.length
 said:(ok=true∧ ∃st g ng nc,Fm l n L st∧B≤g∧B≤ng∧g≠ng∧T.size=Hm.szB st.len∧VA=(Ba ⟨(l.take (Hm.szB st.len)).toArray⟩ st.len g (Bc L) (.slice (some ⟨ng,0,none⟩) st.nds.length nc) st.ws n).toArray∧st.ws.length=256∧
   IntRow w' g (Bt (l.take (Hm.szB st.len)))∧w'.ownsRow 0 195 9 (.slice (some ⟨ng,0,none⟩) st.nds.length nc) st.nds.length (A9 st.nds))∨
  (ok=false∧(∀st,¬Fm l n L st)∧VA=Tryz.zeroCells96)
theorem Db.kept{B:Nat}{w' w2:World}{l:List UInt8}{n:Nat}{L:List Nat}{VA:Array Value}{T:ByteArray}{ok:Bool}(h:Db B w' l n L VA T ok){S:Nat→Prop}(hk:Aa S w' w2)(hn: ∀j,B≤j→j<w'.heap.size→ ¬S j):Db B w2 l n L VA T ok:=by
 refine⟨h.size,h.one,h.str,h.few,?_⟩;rcases h.said with⟨h1,st,g,ng,nc,a1,a2,a3,a4,a5,a6,a7,a8,a9⟩|h1
 ·exact .inl ⟨h1,st,g,ng,nc,a1,a2,a3,a4,a5,a6,a7,a8.kept hk (hn g a2 a8.lt),hk.owns a9 (fun j hj=>by have e1:ng=j:=Al1 hj;rw[←e1];exact hn ng a3 (a9.lt ng rfl).2)⟩
 ·exact .inr h1
theorem Db.le{B B':Nat}{w':World}{l:List UInt8}{n:Nat}{L:List Nat}{VA:Array Value}{T:ByteArray}{ok:Bool}(h:Db B w' l n L VA T ok)(hb:B'≤B):Db B' w' l n L VA T ok:=by
 refine⟨h.size,h.one,h.str,h.few,?_⟩;rcases h.said with⟨h1,st,g,ng,nc,a1,a2,a3,a4⟩|h1
 ·exact .inl ⟨h1,st,g,ng,nc,a1,Al2 hb a2,Al2 hb a3,a4⟩
 ·exact .inr h1
theorem Aby:Tryz.zeroCells96[0]?=some (.string ⟨#[]⟩):=by kernel_rfl
theorem Abz(hones:Cd)(l:List UInt8)(n:Nat)(L:List Nat)(w:World)(hn:n≤65535)(hL:L.length=256)(hx: ∀x∈L,x≤255)(hll:l.length≤281474976710656):
  Calls Tryz.prog 118 #[.string ⟨l.toArray⟩,.int .i64 n,.agg (Ac L).toArray] w fun e w'=>Apd w w'∧ ∃VA T ok,e= .returned (.tuple #[.agg VA,.bool ok])∧Db w.heap.size w' l n L VA T ok:=by
 refine(Abx hones l n L w hn hL hx hll).mono ?_;rintro e w' ⟨hk,⟨st,g,ng,nc,a1,a2,a3,a4,rfl,a6,a7,a8⟩|⟨h1,rfl⟩⟩
 ·refine⟨hk,_,⟨(l.take (Hm.szB st.len)).toArray⟩,_,rfl,?_,D9 _ _ _ _ _ _ _ rfl,rfl,?_,.inl ⟨rfl,st,g,ng,nc,a1,a2,a3,a4,?_,rfl,a6,a7,a8⟩⟩
  ·rw[Alq,Cz _ _ g (Bc L) _ st.ws n (A3 _ _ _ _) a6]
  ·show(l.take _).toArray.size≤_;simp;omega
  ·have h2:=K8 a1.2;have h3:=Nat.min_le_left (8*l.length) (n*Gh L);show(l.take _).toArray.size=_;unfold Fk at h2;unfold Hm.szB;simp;omega
 ·exact⟨hk,_,⟨#[]⟩,_,rfl,Hf,R9,Aby,Alr _,.inr ⟨rfl,h1,rfl⟩⟩
set_option maxRecDepth 100000 in
set_option maxHeartbeats 4000000 in
theorem Af0(hones:Cd)(p:Nat)(st:Hm.Rd)(n:Nat)(L:List Nat)(w:World)(hr:Au w p st)(hn:n≤65535)(hL:L.length=256)(hx: ∀x∈L,x≤255)(hll:Bb st≤281474976710656):
  Calls Tryz.prog 69 #[.pointer (some ⟨p,0,none⟩),.int .i64 n,.agg (Ac L).toArray] w fun e w'=>Aa (fun j=>j=p) w w'∧ ∃VA T ok,e= .returned (.agg VA)∧Db w.heap.size w' (st.getD []) n L VA T ok∧Au w' p (A5 (C6 st ok) T.size).2:=by
 obtain⟨l,hl⟩: ∃l,l=st.getD []:=⟨_,rfl⟩;have HRT:Hid (∀W,Calls Tryz.prog 118 #[.string ⟨l.toArray⟩,.int .i64 n,.agg (Ac L).toArray] W fun e w'=>Apd W w'∧ ∃VA T ok,e= .returned (.tuple #[.agg VA,.bool ok])∧Db W.heap.size w' l n L VA T ok):=fun W=>Abz hones l n L W hn hL hx (by rw[hl];exact hll);obtain⟨arr,harr⟩: ∃a,a=(Ac L).toArray:=⟨_,rfl⟩;have hasz:arr.size=256:=by rw[harr,A2,hL]
 obtain⟨S,hS⟩: ∃S,S=(⟨l.toArray⟩:ByteArray):=⟨_,rfl⟩;rw[←harr,←hS]at HRT;rw[←harr,←hl];have hp:=hr.lt;have hrest:=hr.rest;rw[←hl,←hS]at hrest;obtain⟨W0,hW0⟩: ∃W0,W0=(w.alloc (.cells arr 139)).alloc (.cells Tryz.zeroCells96 96):=⟨_,rfl⟩;have hk0:Apd w W0:=by rw[hW0];exact((Aa.refl _ _).alloc _).alloc _
 have hb0:W0.heap[w.heap.size]?=some (.cells arr 139 (0,0)):=by rw[hW0];exact Anw w _ _
 have hb1:W0.heap[w.heap.size+1]?=some (.cells Tryz.zeroCells96 96 (0,0)):=by rw[hW0];exact Anx w _ _
 have hc0:W0.cell? ⟨p,0,none⟩=some (.string S):=(hk0.cell (p:=⟨p,0,none⟩) hp id).trans hrest;have HW:Hid ((w.alloc (.cells arr 139)).alloc (.cells Tryz.zeroCells96 96)=W0):=hW0.symm;have HR:Hid (Au w p st∧l=st.getD []∧Bb st≤281474976710656∧Apd w W0):=⟨hr,hl,hll,hk0⟩;have hzt:Tryz.zeroCells96.size=773:=Hf;clear hW0 harr hS hL hx hl hr hll hrest hk0
 go_enter Tryz.func69,Tryz.ntmps69
 go_upto_region 1 with fail
 rw[HW.out];clear HW;have hnd:=fun W (h:Au W p st) ok=>Hy p st ok W h;have HND:Hid _:=hnd;clear hnd;have hw0:=Alw hb0;have hw1:w.heap.size+1<W0.heap.size:=Alw hb1
 go_cut[7,8]from 9 (fun v7 v8 wz=> ∃tb VA T ok,v7= .pointer (some ⟨tb,0,none⟩)∧v8= .bool ok∧Aside (wz.heap[tb]?=some (.cells VA 96 (0,0))∧Db W0.heap.size wz l n L VA T ok∧Apd W0 wz∧W0.heap.size≤tb∧Au wz p st))
 case first=>
  refine Ank (S:=fun X=>X.cell? ⟨p,0,none⟩=some (.string S)∧X.heap[w.heap.size]?=some (.cells arr 139 (0,0))) (by kernel_rfl) ?_ (fun hHeld=>?_)
  ·exact⟨hc0,hb0⟩
  refine wpAnyH_take (i := 0) (oi := { dst := some 10, op := Op.move (Operand.tmp 0), type := 183, pos := "read.go:89", after := #[], guard := none }) (v := ?_) rfl (by kernel_rfl) (by kernel_rfl) (by kernel_rfl) (fun _ _ _ h => h) (Or.inl ⟨by kernel_rfl, ?_⟩) (by assumption) ?_
  rotate_left
  ·intro X hSw;try dsimp only at hSw
   go_simp
   with_reducible rfl
  simp only[Act.put,Ak8,Ak9,Ala]
  refine wpAnyH_take (i := 1) (oi := { dst := some 11, op := Op.nilCheck (Operand.tmp 10), type := 0, pos := "read.go:89", after := #[{ on := 0, ground := Ground.data }], guard := none }) (v := ?_) rfl (by kernel_rfl) (by kernel_rfl) (by kernel_rfl) (fun _ _ _ h => h) (Or.inl ⟨by kernel_rfl, ?_⟩) (by assumption) ?_
  rotate_left
  ·intro X hSw;try dsimp only at hSw
   go_simp
   with_reducible rfl
  simp only[Act.put,Ak8,Ak9,Ala]
  refine wpAnyH_take (i := 2) (oi := { dst := some 12, op := Op.fieldAddr 132 (Operand.tmp 11) 0, type := 0, pos := "read.go:89", after := #[{ on := 1, ground := Ground.data }], guard := none }) (v := ?_) rfl (by kernel_rfl) (by kernel_rfl) (by kernel_rfl) (fun _ _ _ h => h) (Or.inl ⟨by kernel_rfl, ?_⟩) (by assumption) ?_
  rotate_left
  ·intro X hSw;try dsimp only at hSw
   go_simp
   with_reducible rfl
  simp only[Act.put,Ak8,Ak9,Ala]
  refine wpAnyH_take (i := 3) (oi := { dst := some 13, op := Op.load 9 (Operand.tmp 12), type := 9, pos := "read.go:89", after := #[{ on := 2, ground := Ground.data }], guard := none }) (v := ?_) rfl (by kernel_rfl) (by kernel_rfl) (by kernel_rfl) (fun _ _ _ h => h) (Or.inl ⟨by kernel_rfl, ?_⟩) (by assumption) ?_
  rotate_left
  ·intro X hSw;try dsimp only at hSw
   go_simp
   with_reducible rfl
  simp only[Act.put,Ak8,Ak9,Ala]
  refine wpAnyH_take (i := 4) (oi := { dst := some 14, op := Op.move (Operand.tmp 1), type := 3, pos := "read.go:89", after := #[], guard := none }) (v := ?_) rfl (by kernel_rfl) (by kernel_rfl) (by kernel_rfl) (fun _ _ _ h => h) (Or.inl ⟨by kernel_rfl, ?_⟩) (by assumption) ?_
  rotate_left
  ·intro X hSw;try dsimp only at hSw
   go_simp
   with_reducible rfl
  simp only[Act.put,Ak8,Ak9,Ala]
  refine wpAnyH_take (i := 5) (oi := { dst := some 15, op := Op.load 139 (Operand.tmp 5), type := 139, pos := "read.go:89", after := #[], guard := none }) (v := .agg arr) rfl (by kernel_rfl) (by kernel_rfl) (by kernel_rfl) (fun _ _ _ h => h) (Or.inl ⟨by kernel_rfl, fun X hX => Ev X 139 (.tmp 5) rfl w.heap.size rfl 139 arr (0, 0) _ hX.2 Tryz.underlying139 rfl (by rw [hasz]; exact B9)⟩) (by assumption) ?_
  simp only[Act.put,Ak8,Ak9,Ala];have HS:Hid (∀X,Apd W0 X→X.cell? ⟨p,0,none⟩=some (.string S)∧X.heap[w.heap.size]?=some (.cells arr 139 (0,0))):=fun X hk=>⟨(hk.cell (p:=⟨p,0,none⟩) (Aly _ _ hc0) id).trans hc0,hk.row hb0 id⟩;refine Al0 (rs:=[6,10]) (by kernel_rfl) (by simp) ?_;refine Alm rfl (fun K hK=>?_) (Alm rfl (fun K hK=>?_) Alv)
  ·go_simp;refine(HRT.out _).mono ?_;rintro e xa ⟨hka,VA,T,ok,rfl,hgot⟩;have kA:Apd W0 xa:=(Aa.refl (fun _=>False) W0).drew.trans hka (fun _ _ h=>h);refine hK.out _ _ (HS.out _ kA) (fun hHeld=>?_);clear hK K
   refine wpAnyH_take (i := 7) (oi := { dst := some 9, op := Op.move (Operand.tmp 16), type := 186, pos := "read.go:89", after := #[{ on := 6, ground := Ground.data }], guard := none }) (v := ?_) rfl (by kernel_rfl) (by kernel_rfl) (by kernel_rfl) (fun _ _ _ h => h) (Or.inl ⟨by kernel_rfl, ?_⟩) (by assumption) ?_
   rotate_left
   ·intro X hSw;try dsimp only at hSw
    go_simp
    with_reducible rfl
   simp only[Act.put,Ak8,Ak9,Ala]
   refine wpAnyH_take (i := 8) (oi := { dst := some 17, op := Op.extract (Operand.tmp 9) 0, type := 96, pos := "read.go:89", after := #[{ on := 7, ground := Ground.data }], guard := none }) (v := ?_) rfl (by kernel_rfl) (by kernel_rfl) (by kernel_rfl) (fun _ _ _ h => h) (Or.inl ⟨by kernel_rfl, ?_⟩) (by assumption) ?_
   rotate_left
   ·intro X hSw;try dsimp only at hSw
    go_simp
    with_reducible rfl
   simp only[Act.put,Ak8,Ak9,Ala]
   refine wpAnyH_take (i := 9) (oi := { dst := some 18, op := Op.extract (Operand.tmp 9) 1, type := 4, pos := "read.go:89", after := #[{ on := 7, ground := Ground.data }, { on := 11, ground := Ground.gcOnly Departure.lateStores }], guard := none }) (v := ?_) rfl (by kernel_rfl) (by kernel_rfl) (by kernel_rfl) (fun _ _ _ h => h) (Or.inl ⟨by kernel_rfl, ?_⟩) (by assumption) ?_
   rotate_left
   ·intro X hSw;try dsimp only at hSw
    go_simp
    with_reducible rfl
   simp only[Act.put,Ak8,Ak9,Ala];refine Al0 (rs:=[10]) (by kernel_rfl) (by simp) ?_;refine Alm rfl (fun K hK=>?_) Alv;go_simp;obtain⟨xb,hxb⟩: ∃X,X=xa.alloc (.cells Tryz.zeroCells96 96):=⟨_,rfl⟩;have hkb:Apd xa xb:=by rw[hxb];exact(Aa.refl _ _).alloc _
   have htb:xb.heap[xa.heap.size]?=some (.cells Tryz.zeroCells96 96 (0,0)):=by rw[hxb];exact All xa _
   obtain⟨tb,htbe⟩: ∃t,t=xa.heap.size:=⟨_,rfl⟩;rw[←htbe]at htb⊢;rw[←hxb];have hta:=Aob htbe;have hta2:=Aob htbe.symm;have hsa:=kA.size;have kB:=kA.trans hkb (fun _ _ h=>h);refine hK.out _ _ (HS.out _ kB) (fun hHeld=>?_);clear hK K hxb htbe;refine Al0 (rs:=[11]) (by kernel_rfl) (by simp) ?_;refine Alm rfl (fun K hK=>?_) Alv;refine B5 xb rfl 96 (.tmp 7) (.tmp 17) rfl tb 96 Tryz.zeroCells96 VA rfl rfl htb (by rw[hgot.size];exact B6) (by rw[hgot.size];exact hzt) hgot.one ?_;intro wz hwz hkz;have kZ:Apd W0 wz:=kB.trans hkz (fun j h1 h2=>by omega);have hgz:Db W0.heap.size wz l n L VA T ok:=(hgot.kept ((hkb.wider (T:=fun j=>j=tb) (fun _ _ h=>h.elim)).trans hkz (fun _ _ h=>h)) (fun j h1 h2 h3=>by omega)).le (Ale _);refine hK.out _ _ (HS.out _ kZ) (fun hHeld=>?_);clear hK K;refine Al0 (rs:=[12]) (by kernel_rfl) (by simp) ?_;refine Alm rfl (fun K hK=>?_) Alv;go_simp;refine hK.out _ _ (HS.out _ kZ) (fun hHeld=>?_);clear hK K;refine Anp (by kernel_rfl) ?_ _;have H4:Aside (wz.heap[tb]?=some (.cells VA 96 (0,0))∧Db W0.heap.size wz l n L VA T ok∧Apd W0 wz∧W0.heap.size≤tb∧Au wz p st):=⟨hwz,hgz,kZ,by omega,(HR.out.1.kept HR.out.2.2.2 id).kept kZ id⟩;go_wp2_with fail;go_meet
   case rel=>exact⟨tb,VA,T,ok,rfl,rfl,H4⟩
  ·go_simp;obtain⟨xb,hxb⟩: ∃X,X=(W0.alloc (.cells Tryz.zeroCells96 96)).drew:=⟨_,rfl⟩;have hkb:Apd W0 xb:=by rw[hxb];exact((Aa.refl _ _).alloc _).drew
   have htb:xb.heap[W0.heap.size]?=some (.cells Tryz.zeroCells96 96 (0,0)):=by rw[hxb];exact All W0 _
   obtain⟨tb,htbe⟩: ∃t,t=W0.heap.size:=⟨_,rfl⟩;rw[←htbe]at htb⊢;rw[←hxb];have hta:=Aob htbe;have hta2:=Aob htbe.symm;have htl:=Alw htb;refine hK.out _ _ (HS.out _ hkb) (fun hHeld=>?_);clear hK K hxb htbe;refine Al0 (rs:=[6]) (by kernel_rfl) (by simp) ?_;refine Alm rfl (fun K hK=>?_) Alv;go_simp;refine(HRT.out _).mono ?_;rintro e xa ⟨hka,VA,T,ok,rfl,hgot⟩;have kA:Apd W0 xa:=hkb.trans hka (fun _ _ h=>h);have htb:=hka.row htb id;have hs6:=hkb.size;refine hK.out _ _ (HS.out _ kA) (fun hHeld=>?_);clear hK K
   refine wpAnyH_take (i := 7) (oi := { dst := some 9, op := Op.move (Operand.tmp 16), type := 186, pos := "read.go:89", after := #[{ on := 6, ground := Ground.data }], guard := none }) (v := ?_) rfl (by kernel_rfl) (by kernel_rfl) (by kernel_rfl) (fun _ _ _ h => h) (Or.inl ⟨by kernel_rfl, ?_⟩) (by assumption) ?_
   rotate_left
   ·intro X hSw;try dsimp only at hSw
    go_simp
    with_reducible rfl
   simp only[Act.put,Ak8,Ak9,Ala]
   refine wpAnyH_take (i := 8) (oi := { dst := some 17, op := Op.extract (Operand.tmp 9) 0, type := 96, pos := "read.go:89", after := #[{ on := 7, ground := Ground.data }], guard := none }) (v := ?_) rfl (by kernel_rfl) (by kernel_rfl) (by kernel_rfl) (fun _ _ _ h => h) (Or.inl ⟨by kernel_rfl, ?_⟩) (by assumption) ?_
   rotate_left
   ·intro X hSw;try dsimp only at hSw
    go_simp
    with_reducible rfl
   simp only[Act.put,Ak8,Ak9,Ala]
   refine wpAnyH_take (i := 9) (oi := { dst := some 18, op := Op.extract (Operand.tmp 9) 1, type := 4, pos := "read.go:89", after := #[{ on := 7, ground := Ground.data }, { on := 11, ground := Ground.gcOnly Departure.lateStores }], guard := none }) (v := ?_) rfl (by kernel_rfl) (by kernel_rfl) (by kernel_rfl) (fun _ _ _ h => h) (Or.inl ⟨by kernel_rfl, ?_⟩) (by assumption) ?_
   rotate_left
   ·intro X hSw;try dsimp only at hSw
    go_simp
    with_reducible rfl
   simp only[Act.put,Ak8,Ak9,Ala];refine Al0 (rs:=[11]) (by kernel_rfl) (by simp) ?_;refine Alm rfl (fun K hK=>?_) Alv;refine B5 xa rfl 96 (.tmp 7) (.tmp 17) rfl tb 96 Tryz.zeroCells96 VA rfl rfl htb (by rw[hgot.size];exact B6) (by rw[hgot.size];exact hzt) hgot.one ?_;intro wz hwz hkz;have kZ:Apd W0 wz:=kA.trans hkz (fun j h1 h2=>by omega);have hgz:Db W0.heap.size wz l n L VA T ok:=(hgot.kept hkz (fun j h1 h2 h3=>by omega)).le (by omega);refine hK.out _ _ (HS.out _ kZ) (fun hHeld=>?_);clear hK K;refine Al0 (rs:=[12]) (by kernel_rfl) (by simp) ?_;refine Alm rfl (fun K hK=>?_) Alv;go_simp;refine hK.out _ _ (HS.out _ kZ) (fun hHeld=>?_);clear hK K;refine Anp (by kernel_rfl) ?_ _;have H4:Aside (wz.heap[tb]?=some (.cells VA 96 (0,0))∧Db W0.heap.size wz l n L VA T ok∧Apd W0 wz∧W0.heap.size≤tb∧Au wz p st):=⟨hwz,hgz,kZ,by omega,(HR.out.1.kept HR.out.2.2.2 id).kept kZ id⟩;go_wp2_with fail;go_meet
   case rel=>exact⟨tb,VA,T,ok,rfl,rfl,H4⟩
 case rest=>
  obtain⟨tb,VA,T,ok,rfl,rfl,H3⟩:=hcut;have hn1:=HND.out wc H3.out.2.2.2.2 ok;have hres:=H3.out.2.2.1.row hb1 id;have hkw:Apd w wc:=HR.out.2.2.2.trans H3.out.2.2.1 (fun _ _ h=>h);have hst:T.size≤281474976710656:=by
   have h1:=H3.out.2.1.few;have h2:=HR.out.2.2.1;rw[HR.out.2.1]at h1;exact Al2 h1 h2
  have HTK:Hid (∀W,Au W p (C6 st ok)→Calls Tryz.prog 64 #[.pointer (some ⟨p,0,none⟩),.int .i64 (T.size:Nat)] W fun e w'=>e= .returned (.string ⟨(A5 (C6 st ok) T.size).1.toArray⟩)∧Au w' p (A5 (C6 st ok) T.size).2∧Aa (fun j=>j=p) W w'):=
   fun W h=>K0 p (C6 st ok) T.size W h (by have h1:=Ij st ok;have h2:=HR.out.2.2.1;omega) (by omega)
  have hpt:p≠tb:=by have:=H3.out.2.2.2.1;omega
  have hp1:p≠w.heap.size+1:=by omega
  have hpb:p<w.heap.size:=hp;have H5:Hid (wc.heap[tb]?=some (.cells VA 96 (0,0))∧Db W0.heap.size wc l n L VA T ok∧wc.heap[w.heap.size+1]?=some (.cells Tryz.zeroCells96 96 (0,0))∧Apd w wc∧w.heap.size+1<tb):=⟨H3.out.1,H3.out.2.1,hres,hkw,by have:=H3.out.2.2.2.1;omega⟩;clear HND HRT hres hkw H3;go_wp2_with fail;refine hn1.mono ?_;rintro e w2 ⟨rfl,hr2,hk2⟩;have hrow2:=hk2.row H5.out.1 (fun h=>hpt h.symm);have c0:w2.cell? ⟨tb,0,none⟩=some (.string T):=(Alc _ _ 0 _ _ _ hrow2).trans H5.out.2.1.str;have hpk:=J5 tb 0 T w2 c0;have ht1:=HTK.out w2 hr2;have H6:Hid (Aa (fun j=>j=p) wc w2):=hk2;clear hn1 hr2 hk2 HTK hrow2;go_wp2_with fail;refine hpk.mono ?_;rintro e w3 ⟨rfl,hw3⟩;subst hw3;clear hpk;go_wp2_with fail;refine ht1.mono ?_;rintro e w4 ⟨rfl,hr4,hk4⟩;have hk14:Aa (fun j=>j=p) wc w4:=H6.out.trans hk4 (fun _ _ h=>h);have hrow4:=hk14.row H5.out.1 (fun h=>hpt h.symm);have hres4:=hk14.row H5.out.2.2.1 (fun h=>hp1 h.symm);have hgot4:=H5.out.2.1.kept hk14 (fun j h1 h2 h3=>by omega);have H7:Hid (w4.heap[tb]?=some (.cells VA 96 (0,0))∧Db W0.heap.size w4 l n L VA T ok∧w4.heap[w.heap.size+1]?=some (.cells Tryz.zeroCells96 96 (0,0))∧Aa (fun j=>j=p) w w4∧Au w4 p (A5 (C6 st ok) T.size).2):=
   ⟨hrow4,hgot4,hres4,(H5.out.2.2.2.1.wider (fun _ _ h=>h.elim)).trans hk14 (fun _ _ h=>h),hr4⟩
  have hvs:=hgot4.size;have hv1:=hgot4.one;clear hk14 hrow4 hres4 hgot4 ht1 hr4 hk4 H6 c0
  go_wp2_with(first
   |(refine Amd rfl 96 _ rfl tb rfl 96 VA (0,0) _ H7.out.1 Tryz.underlying96 rfl (by rw[hvs];exact B6) ?_)
   |(refine wpList_store_row _ rfl 96 _ _ rfl (w.heap.size+1) 96 _ VA rfl rfl H7.out.2.2.1 (by rw[hvs];exact B6) (by rw[hvs];exact hzt) hv1 ?_;intro w9 hw9 hk9))
  refine Amo (v:= .agg VA) (Am3 Tryz.results69 _ w9 (w.heap.size+1) 96 VA (0,0) _ rfl hw9 Tryz.underlying96 rfl (by rw[hvs];exact B6)) rfl ⟨H7.out.2.2.2.1.trans hk9 (fun j h1 h2=>by omega),VA,T,ok,rfl,?_,H7.out.2.2.2.2.kept hk9 (fun h=>hp1 h)⟩;exact(H7.out.2.1.kept hk9 (fun j h1 h2 h3=>by omega)).le (by omega)
namespace Hm
def C5(ws:List Nat)(b:Nat):Nat:=1+(ws.take b).sum
def firsts(ws:List Nat):List Nat:=(List.range 256).map (C5 ws)
def Cq(ws:List Nat)(k:Nat):List Nat:=(List.range 256).map fun b=>if b<k then C5 ws b else 0
theorem Ga(ws:List Nat)(k:Nat):(Cq ws k).length=256:=by unfold Cq;rw[Al6,Aoc]
theorem N3(ws:List Nat)(k b:Nat)(hb:b<256):(Cq ws k)[b]?=some (if b<k then C5 ws b else 0):=by
 unfold Cq;rw[Alu,Amw hb];rfl
theorem Zz(ws:List Nat):Cq ws 0=List.replicate 256 0:=by
 apply List.ext_getElem?;intro i
 by_cases hi:i<256
 ·rw[N3 ws 0 i hi,if_neg (by omega),Aov,if_pos hi]
 ·rw[Al3 (by rw[Ga];omega),Al3 (by rw[Alj];omega)]
theorem Ab0(ws:List Nat):Cq ws 256=firsts ws:=by
 unfold Cq firsts;refine Aoa fun b hb=>?_;rw[if_pos (List.mem_range.1 hb)]
theorem Z0(ws:List Nat)(k:Nat)(hk:k<256):(Cq ws k).set k (C5 ws k)=Cq ws (k+1):=by
 apply List.ext_getElem?;intro i
 by_cases hi:i<256
 ·rw[N3 ws (k+1) i hi,List.getElem?_set]
  by_cases e:k=i
  ·subst e;rw[if_pos rfl,if_pos (by rw[Ga];exact hk),if_pos (by omega)]
  ·rw[if_neg e,N3 ws k i hi]
   by_cases h2:i<k
   ·rw[if_pos h2,if_pos (by omega)]
   ·rw[if_neg h2,if_neg (by omega)]
 ·rw[Al3 (by rw[Amn,Ga];omega),Al3 (by rw[Ga];omega)]
theorem Sa(ws:List Nat)(k:Nat)(h:k<ws.length):C5 ws (k+1)=C5 ws k+ws[k]:=by
 unfold C5;rw[Ali h,List.sum_append];simp;omega
theorem Aky(l:List Nat)(B:Nat)(h: ∀x∈l,x≤B):l.sum≤l.length*B:=by
 induction l with
 |nil=>simp
 |cons a r ih=>
  have h1:=h a (Alp ..);have h2:=ih fun x hx=>h x (Als _ hx);rw[Aou,Amc,Anv];omega
end Hm
def B7(VA:Array Value)(root:Nat)(fs:List Nat):List Value:=VA.toList++(.int .i64 (root:Nat)::Ac fs)
theorem Io(VA:Array Value)(root:Nat)(fs:List Nat)(hv:VA.size=773)(hf:fs.length=256):(B7 VA root fs).length=1030:=by
 unfold B7;rw[Alg,Amc,Anh,hv];simp[Ac,hf]
theorem Ahs(VA:Array Value)(root:Nat)(fs:List Nat)(hv:VA.size=773)(b x:Nat):(B7 VA root fs).set (774+b) (.int .i64 (x:Nat))=B7 VA root (fs.set b x):=by
 unfold B7;rw[Amt _ _ (by rw[Anh,hv];omega),Anh,hv,show 774+b-773=b+1 from by omega,Ala];simp[Ac,List.map_set]
theorem Aht(VA:Array Value)(root:Nat)(fs:List Nat)(hv:VA.size=773)(b:Nat)(hb:b<fs.length):(B7 VA root fs)[774+b]?=some (.int .i64 (fs.getD b 0:Nat)):=by
 unfold B7;rw[Alt (by rw[Anh,hv];omega),Anh,hv,show 774+b-773=b+1 from by omega,Aog];simp[Ac,hb]
theorem Sb(VA:Array Value)(root:Nat)(fs:List Nat)(hv:VA.all (·.oneCell')=true):(B7 VA root fs).toArray.all (·.oneCell')=true:=by
 have h2:=Eb fs;rw[An2]at*;intro x hx;have hx':x∈B7 VA root fs:=by simpa using hx
 unfold B7 at hx';rcases Ao7.1 hx' with h|h
 ·exact hv x (by simpa using h)
 rcases List.mem_cons.1 h with rfl|h
 ·rfl
 ·exact h2 x (by simpa using h)
theorem Mo:(Tryz.prog.info? 98).map (·.size)=some 1030:=by kernel_rfl
theorem Adn:(Tryz.prog.underlying 98).bind (fun d=>match d with| .struct fields=>fields.toList.mapM (fun f=>(Tryz.prog.info? f.type).map fun i=>(f.offset,i.size))|_=>none)=some [(0,773),(773,1),(774,256)]:=by kernel_rfl
theorem Ahu:((Tryz.prog.info? 98).bind (·.zero))=some (.agg (B7 Tryz.zeroCells96 0 (List.replicate 256 0)).toArray):=by kernel_rfl
theorem Ado:Tryz.zeroCells98=(B7 Tryz.zeroCells96 0 (List.replicate 256 0)).toArray:=by kernel_rfl
theorem Af1(VA:Array Value)(root:Nat)(hv:VA.size=773):
  Tryz.prog.built 98 [(0,.agg VA),(1,.int .i64 (root:Nat))]=some (B7 VA root (List.replicate 256 0)).toArray:=by
 unfold Program.built;have hz:=Ahu;have hp:=Adn;cases h1:Tryz.prog.info? 98 with
 |none=>rw[h1]at hz;cases hz
 |some it=>
  cases h2:Tryz.prog.underlying 98 with
  |none=>rw[h2]at hp;cases hp
  |some d=>
   rw[h1]at hz;rw[h2]at hp;have hz':it.zero=some (.agg (B7 Tryz.zeroCells96 0 (List.replicate 256 0)).toArray):=hz;cases d<;>try(cases hp;done)
   rename_i fields;have hp':fields.toList.mapM (fun f=>(Tryz.prog.info? f.type).map fun i=>(f.offset,i.size))=some [(0,773),(773,1),(774,256)]:=hp;simp only[hz',hp'];have e0:(Value.agg (B7 Tryz.zeroCells96 0 (List.replicate 256 0)).toArray).cells=(B7 Tryz.zeroCells96 0 (List.replicate 256 0)).toArray:=rfl;rw[e0];have hzl:Tryz.zeroCells96.toList.length=773:=by rw[Anh];exact Hf
   unfold B7;generalize Tryz.zeroCells96.toList=Z at*;generalize Ac (List.replicate 256 0)=R at*;have s1:=La ([(0,773),(773,1),(774,256)].toArray[·]?) 0 0 773 (.agg VA) [(1,.int .i64 (root:Nat))] [] Z (.int .i64 ((0:Nat):Int)::R) VA.toList rfl (by simp[Value.cells]) (by rw[Anh];exact hv) rfl hzl;have s2:=La ([(0,773),(773,1),(774,256)].toArray[·]?) 1 773 1 (.int .i64 (root:Nat)) [] VA.toList [.int .i64 ((0:Nat):Int)] R [.int .i64 (root:Nat)] rfl rfl rfl (by rw[Anh];exact hv) rfl;rw[Aoo,Aoo]at s1;rw[s1];rw[show VA.toList++(.int .i64 ((0:Nat):Int)::R)=VA.toList++([.int .i64 ((0:Nat):Int)]++R)from rfl,s2,Instr.fill];rfl
theorem U7{P:Program}{w:World}{ops:Array Oper}{rest:List Oper}{o:Oper}{a:Act}{Q:Exit→Act→World→Prop}(hgd:o.guard=none)(t:TypeId)(i0 i1:Nat)(x0 x1:Operand)(ho:o.op= .build t #[(i0,x0),(i1,x1)])(v0 v1:Value)(h0:a.eval x0=v0)(h1:a.eval x1=v1)(cells:Array Value)(hb:P.built t [(i0,v0),(i1,v1)]=some cells)
  (h:wpList P ops Q rest (a.put o.dst (.agg cells)) w):wpList P ops Q (o::rest) a w:=by
 refine wpList_plain hgd fun K hK=>?_;unfold Oper.wp;rw[N1 w t _ ho cells (by simp only[List.map_toArray,Amu,Ao1,h0,h1];exact hb)];exact hK _ _ h
namespace Hm
def Cl(root row:Nat):Nat:=if root<row then row-1 else row
def Dn(col:List UInt8)(ws:List Nat)(root row:Nat):UInt8×Nat:=
 if row=root then(0,0)else(col.getD (Cl root row) 0,C5 ws (col.getD (Cl root row) 0).toNat+(col.take (Cl root row)).count (col.getD (Cl root row) 0))
theorem L9{root row n:Nat}(h1:root≤n)(h2:row≤n)(h3:row≠root):Cl root row<n:=by
 unfold Cl;split<;>omega
end Hm
structure E2(w:World)(pb o:Nat)(s:ByteArray)(len g ng nc:Nat)(nds:List Hm.Nd)(root:Nat)(ws:List Nat):Prop where
 tree:Gz w pb o s len g ng nc nds
 root:w.cell? ⟨pb,o+773,none⟩=some (.int .i64 (root:Nat))
 firsts: ∀b,b<256→w.cell? ⟨pb,o+774+b,none⟩=some (.int .i64 (C5 ws b:Nat))
theorem E2.kept{S:Nat→Prop}{w w':World}{pb o len g ng nc root:Nat}{s:ByteArray}{nds:List Hm.Nd}{ws:List Nat}(h:E2 w pb o s len g ng nc nds root ws)(hk:Aa S w w')(h1: ¬S pb)(h2: ¬S g)(h3: ¬S ng):E2 w' pb o s len g ng nc nds root ws:=
 have hp:pb<w.heap.size:=Aly _ _ h.root
 ⟨h.tree.kept hk h1 h2 h3,(hk.cell (p:=⟨pb,o+773,none⟩) hp h1).trans h.root,fun b hb=>(hk.cell (p:=⟨pb,o+774+b,none⟩) hp h1).trans (h.firsts b hb)⟩
theorem Xw(pb o root row:Nat)(w:World)(h:w.cell? ⟨pb,o+773,none⟩=some (.int .i64 (root:Nat)))(hr:row≤1000000):
  Calls Tryz.prog 80 #[.pointer (some ⟨pb,o,none⟩),.int .i64 row] w fun e w'=>e= .returned (.int .i64 (Cl root row:Nat))∧w'=w:=by
 by_cases hlt:root<row
 ·have hd:decide (root<row)=true:=Alb hlt;have hd2:decide ((root:Int)<(row:Int))=true:=Alb (by omega);have e:Cl root row=row-1:=if_pos hlt;rw[e]
  go_enter Tryz.func80,Tryz.ntmps80
  go_wp2;go_ret;exact⟨by go_num,rfl⟩
 ·have hd:decide (root<row)=false:=Ald hlt;have hd2:decide ((root:Int)<(row:Int))=false:=Ald (by omega);have e:Cl root row=row:=if_neg hlt;rw[e]
  go_enter Tryz.func80,Tryz.ntmps80
  go_wp2;go_ret;exact⟨rfl,rfl⟩
theorem Af2(hones:Cd)(pb o len g ng nc root row:Nat)(s:ByteArray)(nds:List Hm.Nd)(ws:List Nat)(col:List UInt8)(w:World)(h:E2 w pb o s len g ng nc nds root ws)(ht:Kx s.data.toList nds col)(hrt:root≤col.length)(hrw:row≤col.length)(hs:s.size≤1000000)(hcl:col.length≤1000000)(hfs: ∀b,b<256→C5 ws b≤1000000000):
  Calls Tryz.prog 34 #[.pointer (some ⟨pb,o,none⟩),.int .i64 row] w fun e w'=>e= .returned (.tuple #[.int .u8 ((Dn col ws root row).1.toNat:Nat),.int .i64 ((Dn col ws root row).2:Nat)])∧Apd w w':=by
 have hroot:=h.root
 by_cases hr:row=root
 ·have e:Dn col ws root row=(0,0):=if_pos hr;rw[e];have hd:((row:Int)==(root:Int))=true:=by simp;omega
  clear h
  go_enter Tryz.func34,Tryz.ntmps34
  go_wp2_with fail;go_ret2;exact⟨rfl,Aa.refl _ _⟩
 ·have hd:((row:Int)==(root:Int))=false:=by simp;omega
  have hx:=L9 hrt hrw hr;have e:Dn col ws root row=(col.getD (Cl root row) 0,C5 ws (col.getD (Cl root row) 0).toNat+(col.take (Cl root row)).count (col.getD (Cl root row) 0)):=if_neg hr;rw[e];have hcol:=fun W (hW:E2 W pb o s len g ng nc nds root ws)=>Xw pb o root row W hW.root (by omega);have hby:=fun W (hW:E2 W pb o s len g ng nc nds root ws)=>Ai5 hones pb o len g ng nc (Cl root row) s nds col W hW.tree ht hx hs hcl;generalize Cl root row=ix at*;have hcn:(col.take ix).count (col.getD ix 0)≤1000000:=Al2 List.count_le_length (by rw[Aln];omega);generalize hct:(col.take ix).count (col.getD ix 0)=ct at*;generalize hxe:col.getD ix 0=x at*;have hxl:x.toNat<256:=x.toNat_lt;have hfb:=hfs _ hxl;have HFC:Hid (∀W,E2 W pb o s len g ng nc nds root ws→W.cell? ⟨pb,o+774+x.toNat,none⟩=some (.int .i64 (C5 ws x.toNat:Nat))):=fun W hW=>hW.firsts _ hxl;generalize C5 ws x.toNat=fb at*;generalize x.toNat=xn at*;have HC:Hid _:=hcol;have HB:Hid _:=hby
  have HR:Hid (E2 w pb o s len g ng nc nds root ws):=h;clear h hcol hby hx e hct hxe hfs ht
  go_enter Tryz.func34,Tryz.ntmps34
  go_wp2_with fail
  go_region_held(fun X=>E2 X pb o s len g ng nc nds root ws) (first|exact k2|exact k1|exact HR.out.kept (Aa.refl (fun _=>False) w).drew id id id)
   (first
    |(go_at_call 80;(refine(HC.out _ (HR.out.kept (Aa.refl (fun _=>False) w).drew id id id)).mono ?_;rintro e w1 ⟨rfl,hq1⟩;have hk1:Apd w w1:=(by rw[hq1];exact(Aa.refl (fun _=>False) w).drew);have k1:=HR.out.kept hk1 id id id;clear hq1))
    |(go_at_call 79;(refine(HB.out _ k1).mono ?_;rintro e w2 ⟨rfl,hq2⟩;have hk2:Apd w w2:=hk1.trans hq2 (fun _ _ h=>h);have k2:=HR.out.kept hk2 id id id;clear hq2)))
  have hfc:=HFC.out _ k2;have hK2:Hid (Apd w w2):=hk2;clear k1 k2 hk1 hk2 HC HB HFC;go_wp2_with fail;go_quiet(fail);go_wp2_with fail;go_ret2;exact⟨by go_num,hK2.out.drewN _⟩
theorem Ajh:(Tryz.prog.info? 9).map (fun i=>(i.zero,i.size,i.bytes))=some (some (.string ⟨#[]⟩),1,16):=by kernel_rfl
namespace Hm
def Fo(l:List ByteArray):List Value:=l.map Value.string
def As:Nat→Rd→List ByteArray×Rd
 |0,st=>([],st)
 |k+1,st=>((As k st).1++[⟨(A5 (Bu (As k st).2 1).2 (Bu (As k st).2 1).1).1.toArray⟩],(A5 (Bu (As k st).2 1).2 (Bu (As k st).2 1).1).2)
theorem E5(st:Rd): ∀k,(As k st).1.length=k
 |0=>rfl
 |k+1=>by rw[As];simp[E5 st k]
theorem N4(st:Rd): ∀k,Bb (As k st).2≤Bb st
 |0=>Ale _
 |k+1=>by
  have h1:=N4 st k;have h2:=D6 (As k st).2 1;have h3:Bb (A5 (A5 (As k st).2 1).2 (C0 (A5 (As k st).2 1).1)).2≤Bb (A5 (As k st).2 1).2:=D6 _ _;show Bb (A5 (A5 (As k st).2 1).2 (C0 (A5 (As k st).2 1).1)).2≤_;omega
def Ed(st:Rd)(m k:Nat):List Value:=Fo ((As k st).1++List.replicate (m-k) ⟨#[]⟩)
theorem Xx(st:Rd)(m k:Nat)(h:k≤m):(Ed st m k).length=m:=by
 unfold Ed Fo;rw[Al6,Alg,E5,Alj];omega
theorem Ab1(st:Rd)(m k:Nat)(h:k<m):Ed st m (k+1)=(Ed st m k).set k (.string ⟨(A5 (Bu (As k st).2 1).2 (Bu (As k st).2 1).1).1.toArray⟩):=by
 have e:List.replicate (m-k) (⟨#[]⟩:ByteArray)=⟨#[]⟩::List.replicate (m-(k+1)) ⟨#[]⟩:=by rw[show m-k=(m-(k+1))+1 from by omega,Anf]
 unfold Ed Fo;rw[As,e,←Anm,Amt _ _ (by rw[E5];omega),E5,Amr,Ak9,Alx];rfl
theorem Adp(st:Rd)(m k:Nat)(h:k<m):(Ed st m k)[k]?=some (.string ⟨#[]⟩):=by
 unfold Ed Fo;rw[Alu,Alt (by rw[E5];omega),E5,Amr];rw[show m-k=(m-(k+1))+1 from by omega,Anf];rfl
end Hm
set_option maxHeartbeats 1000000 in
theorem Ahv(p:Nat)(st:Hm.Rd)(m:Nat)(w:World)(hr:Au w p st)(hm:m≤255)(hll:Bb st≤281474976710656):
  Calls Tryz.prog 66 #[.pointer (some ⟨p,0,none⟩),.int .i64 m] w fun e w'=>e= .returned (.slice (some ⟨w.heap.size,0,none⟩) m m)∧
   w'.heap[w.heap.size]?=some (.cells (Fo (As m st).1).toArray 9 (0,0))∧Au w' p (As m st).2∧Aa (fun j=>j=p) w w':=by
 obtain⟨i0,hi,hz0,hz1,hz2⟩:=Amz Ajh;have hp:=hr.lt;have HR:Hid (Au w p st∧Bb st≤281474976710656):=⟨hr,hll⟩;clear hr
 go_enter Tryz.func66,Tryz.ntmps66
 go_wp2_with(at_make;refine Ane _ rfl (.tmp 7) (.tmp 7) 26 rfl w.heap.size 9 i0 (.string ⟨#[]⟩) 1 Tryz.underlying26 hi hz0 hz1 .i64 .i64 _ _ m rfl rfl rfl rfl (by rw[hz2];omega) (by unfold maxLen;omega) (Ale _) ?_;intro w1 ho1 hg1)
 have hk1:Apd w w1:=(Aa.refl _ _).grown hg1 (fun k hk=>by cases hk);have hr1:w1.heap[w.heap.size]?=some (.cells (Ed st m 0).toArray 9 (0,0)):=by
  rw[An3,show(Value.string ⟨#[]⟩).cells= #[Value.string ⟨#[]⟩]from rfl,An7]at ho1;rcases ho1.2 with⟨h1,_⟩|⟨g2,cap,cur,h1,_,hg,_,_,hs,ht⟩
  ·cases h1
  ·cases h1;have e:cur.toList.take (m*1)=cur.toList:=Al8 (by simp;omega);have e2:cur=(Ed st m 0).toArray:=by
    apply Am6;rw[←e,ht];simp[Ed,As,Fo]
   rw[hg,e2]
 clear ho1 hg1;have HX:Hid (w1.heap[w.heap.size]?=some (.cells (Ed st m 0).toArray 9 (0,0))∧Apd w w1):=⟨hr1,hk1⟩;clear hr1 hk1;go_wp2
 go_loopw[11] (fun vi wr=> ∃k:Nat,k≤m∧vi= .int .i64 k∧wr.heap[w.heap.size]?=some (.cells (Ed st m k).toArray 9 (0,0))∧Au wr p (As k st).2∧Aa (fun j=>j=p) w wr) (fun vi _=>m-(intOf vi).toNat)
 case atStart=>exact⟨0,by omega,rfl,HX.out.1,HR.out.1.kept HX.out.2 id,HX.out.2.wider (fun _ _ h=>h.elim)⟩
 case round=>
  obtain⟨k,hk,rfl,hrow,hrd,hkr⟩:=hrel
  by_cases hlt:k<m
  ·have hrs:=N4 st k;have hnu:=J8 p (As k st).2 1 wr hrd (by have:=HR.out.2;omega) (by omega);have hx:=Hd (As k st).2 1;have hrs2:=D6 (As k st).2 1;have HTK:Hid (∀W,Au W p (Bu (As k st).2 1).2→Calls Tryz.prog 64 #[.pointer (some ⟨p,0,none⟩),.int .i64 ((Bu (As k st).2 1).1:Nat)] W fun e w'=>e= .returned (.string ⟨(A5 (Bu (As k st).2 1).2 (Bu (As k st).2 1).1).1.toArray⟩)∧Au w' p (A5 (Bu (As k st).2 1).2 (Bu (As k st).2 1).1).2∧Aa (fun j=>j=p) W w'):=
    fun W h=>K0 p _ _ W h (by have:=HR.out.2;show Bb (A5 (As k st).2 1).2≤_;omega) (by simp at hx;omega)
   have HNX:Hid (Ed st m (k+1)=(Ed st m k).set k (.string ⟨(A5 (Bu (As k st).2 1).2 (Bu (As k st).2 1).1).1.toArray⟩)∧(As (k+1) st).2=(A5 (Bu (As k st).2 1).2 (Bu (As k st).2 1).1).2):=⟨Ab1 st m k hlt,rfl⟩;have hbl:=Lg (Bu (As k st).2 1).2 (Bu (As k st).2 1).1;have hrl:=Xx st m k hk;have hrg:=Adp st m k hlt;generalize(Bu (As k st).2 1).1=x at*;generalize A5 (Bu (As k st).2 1).2 x=tk at*;obtain⟨S,hS⟩: ∃S,S=(⟨tk.1.toArray⟩:ByteArray):=⟨_,rfl⟩;have hSz:S.size≤281474976710656:=by rw[hS];show tk.1.toArray.size≤_;simp at hx⊢;omega
   rw[←hS]at HTK HNX;have hcl:=fun W=>Oj S W hSz;have H0:Hid (wr.heap[w.heap.size]?=some (.cells (Ed st m k).toArray 9 (0,0))∧Aa (fun j=>j=p) w wr):=⟨hrow,hkr⟩;have hkI:(k:Int)<(m:Int):=by omega
   clear hS hrow hkr hrd hrs hrs2 hSz hbl hx;go_wp2_with fail;refine hnu.mono ?_;rintro e w2 ⟨rfl,hr2,hk2⟩;have htk:=HTK.out w2 hr2;have H2:Hid (Aa (fun j=>j=p) wr w2):=hk2;clear hnu hr2 hk2 HTK;go_wp2_with fail;refine htk.mono ?_;rintro e w3 ⟨rfl,hr3,hk3⟩;have H3:Hid (Aa (fun j=>j=p) wr w3∧Au w3 p tk.2):=⟨H2.out.trans hk3 (fun _ _ h=>h),hr3⟩;clear htk hr3 hk3 H2;go_wp2_with fail;refine(hcl _).mono ?_;rintro e w4 ⟨rfl,hk4⟩;have hk04:Aa (fun j=>j=p) wr w4:=H3.out.1.trans hk4 (fun _ _ h=>h.elim);have hne:p≠w.heap.size:=by omega
   have hrow4:=hk04.row H0.out.1 (fun h=>hne h.symm);have c1:w4.cell? ⟨w.heap.size,k,none⟩=some (.string ⟨#[]⟩):=by rw[Alc _ _ k _ _ _ hrow4];simpa using hrg
   have f1:w4.frozen? ⟨w.heap.size,k,none⟩=false:=Alk _ _ k _ _ hrow4;have H4:Hid (w4.heap[w.heap.size]?=some (.cells (Ed st m k).toArray 9 (0,0))∧Aa (fun j=>j=p) w w4∧Au w4 p tk.2):=⟨hrow4,H0.out.2.trans hk04 (fun _ _ h=>h),H3.out.2.kept hk4 id⟩;clear hcl hk4 hk04 hrow4 H3 H0;go_wp2_with fail;go_roundw
   case rel=>
    refine⟨k+1,by omega,by go_num,?_,?_,H4.out.2.1.setCell (.inl (Ale _)) _⟩
    ·have e3:(Ed st m k).toArray.setIfInBounds k (.string S)=((Ed st m k).set k (.string S)).toArray:=by apply Am6;simp
     rw[Alf _ _ k _ _ (.string S) H4.out.1,HNX.out.1,e3]
    ·rw[HNX.out.2];have hks:Aa (fun j=>j=w.heap.size) w4 (w4.setCell ⟨w.heap.size,k,none⟩ (.string S)):=(Aa.refl (fun j=>j=w.heap.size) w4).setCell (p:=⟨w.heap.size,k,none⟩) (.inr rfl) _;exact H4.out.2.2.kept hks hne
   case measure=>simp[intOf];omega
  ·obtain rfl:k=m:=by omega
   have HRW:Hid (wr.heap[w.heap.size]?=some (.cells (Fo (As k st).1).toArray 9 (0,0))∧Au wr p (As k st).2∧Aa (fun j=>j=p) w wr):=by
    refine⟨?_,hrd,hkr⟩;rw[hrow];simp[Ed]
   clear hrow hrd hkr;go_wp2_with fail;go_ret;exact⟨rfl,HRW.out⟩
namespace Hm
def Gj(ws:List Nat)(col:List UInt8):Prop:=ws.length=256∧ ∀v:UInt8,ws.getD v.toNat 0=col.count v
theorem Xy(col:List UInt8)(b:Nat)(hb:b<256):col.countP (fun x=>decide (x.toNat<b+1))=col.countP (fun x=>decide (x.toNat<b))+col.count (UInt8.ofNat b):=by
 induction col with
 |nil=>rfl
 |cons y r ih=>
  rw[Am8,Am8,List.count_cons,ih];have e:(UInt8.ofNat b).toNat=b:=by simp;omega
  rcases Ami y.toNat b with h|h|h
  ·rw[Alb (show y.toNat<b+1 by omega),Alb h,show(y==UInt8.ofNat b)=false from by
    rw[Al5];intro x;rw[x,e]at h;omega]
   simp;omega
  ·rw[Alb (show y.toNat<b+1 by omega),Ald (show¬y.toNat<b by omega),show(y==UInt8.ofNat b)=true from by
    rw[beq_iff_eq];exact UInt8.toNat_inj.1 (by rw[e];exact h)]
   simp;omega
  ·rw[Ald (show¬y.toNat<b+1 by omega),Ald (show¬y.toNat<b by omega),show(y==UInt8.ofNat b)=false from by
    rw[Al5];intro x;rw[x,e]at h;omega]
   simp
theorem Gj.first{ws:List Nat}{col:List UInt8}(h:Gj ws col): ∀b,b≤256→C5 ws b=1+col.countP fun x=>decide (x.toNat<b)
 |0,_=>by unfold C5;simp
 |b+1,hb=>by
  have ih:=h.first b (by omega);have h1:=h.1;have e:(UInt8.ofNat b).toNat=b:=by simp;omega
  have h2:=h.2 (UInt8.ofNat b);rw[e,Ak6,Ak7 (by omega),Anr]at h2;rw[Sa ws b (by omega),ih,Xy col b (by omega),h2];omega
theorem Gj.first_le{ws:List Nat}{col:List UInt8}(h:Gj ws col)(b:Nat)(hb:b≤256):C5 ws b≤col.length+1:=by
 rw[h.first b hb];have:=List.countP_le_length (p:=fun x:UInt8=>decide (x.toNat<b)) (l:=col);omega
theorem Aji(col:List UInt8)(x:UInt8):col.countP (fun y=>decide (y.toNat<x.toNat))+col.count x≤col.length:=by
 induction col with
 |nil=>simp
 |cons y r ih=>
  rw[Am8,List.count_cons,Amc]
  by_cases e:y=x
  ·subst e;simp;omega
  ·rw[show(y==x)=false from by rw[Al5];exact e];simp only[Bool.false_eq_true,if_false];split<;>omega
theorem Z1(col:List UInt8)(p:Nat)(hp:p<col.length):(col.take p).count (col.getD p 0)<col.count (col.getD p 0):=by
 obtain⟨x,hx⟩: ∃x,x=col.getD p 0:=⟨_,rfl⟩;have e:col=col.take p++x::col.drop (p+1):=by
  rw[hx,Ak6,Ak7 hp,Anr,←Al4 hp,Amy]
 rw[←hx];have e2:col.count x=(col.take p).count x+(x::col.drop (p+1)).count x:=by rw[←List.count_append,←e]
 rw[e2,List.count_cons_self];omega
theorem Ahw{col:List UInt8}{ws:List Nat}(h:Gj ws col){root row:Nat}(h1:root≤col.length)(h2:row≤col.length):(Dn col ws root row).2≤col.length:=by
 unfold Dn;split
 ·exact Alr _
 ·rename_i hne;have hx:=L9 h1 h2 hne;have a:=Z1 col (Cl root row) hx;have b:=Aji col (col.getD (Cl root row) 0);have c:=(col.getD (Cl root row) 0).toNat_lt;show C5 _ _+_≤_;rw[h.first _ (by omega)];omega
def Cm(stp:Nat→UInt8×Nat)(row:Nat):Nat→List UInt8×Nat
 |0=>([],row)
 |k+1=>((stp (Cm stp row k).2).1::(Cm stp row k).1,(stp (Cm stp row k).2).2)
theorem Qs(stp:Nat→UInt8×Nat)(row:Nat): ∀k,(Cm stp row k).1.length=k
 |0=>rfl
 |k+1=>by show((_::_:List UInt8)).length=_;rw[Amc,Qs stp row k]
theorem Sc{col:List UInt8}{ws:List Nat}(h:Gj ws col){root row:Nat}(h1:root≤col.length)(h2:row≤col.length): ∀k,(Cm (Dn col ws root) row k).2≤col.length
 |0=>h2
 |k+1=>Ahw h h1 (Sc h h1 h2 k)
def Dx(l:List UInt8)(j:Nat):List Value:=Ag (List.replicate j 0++l)
theorem T8(l:List UInt8)(j:Nat)(x:UInt8):(Dx l (j+1)).set j (.int .u8 (x.toNat:Int))=Dx (x::l) j:=by
 unfold Dx Ag;rw[show(Value.int .u8 (x.toNat:Int))=(fun b:UInt8=>Value.int .u8 (b.toNat:Int)) x from rfl,←Anm,Ao4,Alx,Amt _ _ (by rw[Alj];omega),Alj,Amr];rfl
theorem T9(l:List UInt8)(j:Nat):(Dx l (j+1))[j]?=some (.int .u8 0):=by
 unfold Dx Ag;rw[Alu,Ao4,Alx,Alt (by rw[Alj];omega),Alj,Amr];rfl
end Hm
theorem Ot:(Tryz.prog.info? 5).map (fun i=>(i.zero,i.size,i.bytes))=some (some (.int .u8 0),1,1):=by kernel_rfl
theorem Ajj(hones:Cd)(pb o len g ng nc root row n:Nat)(s:ByteArray)(nds:List Hm.Nd)(ws:List Nat)(col:List UInt8)(w:World)(h:E2 w pb o s len g ng nc nds root ws)(ht:Kx s.data.toList nds col)(hws:Gj ws col)(hrt:root≤col.length)(hrw:row≤col.length)(hs:s.size≤1000000)(hcl:col.length≤1000000)(hn:n≤1000000):
  Calls Tryz.prog 33 #[.func (.func 34) #[.pointer (some ⟨pb,o,none⟩)] #[],.int .i64 row,.int .i64 n] w fun e w'=>e= .returned (.slice (some ⟨w.heap.size,0,none⟩) n n)∧
   w'.heap[w.heap.size]?=some (.cells (Ag (Cm (Dn col ws root) row n).1).toArray 5 (0,0))∧Apd w w':=by
 obtain⟨i0,hi,hz0,hz1,hz2⟩:=Amz Ot;have hpw:pb<w.heap.size:=Aly _ _ h.root;have HLO:Hid (∀k W,E2 W pb o s len g ng nc nds root ws→Calls Tryz.prog 34 #[.pointer (some ⟨pb,o,none⟩),.int .i64 ((Cm (Dn col ws root) row k).2:Nat)] W fun e w'=>e= .returned (.tuple #[.int .u8 ((Dn col ws root (Cm (Dn col ws root) row k).2).1.toNat:Nat),.int .i64 ((Dn col ws root (Cm (Dn col ws root) row k).2).2:Nat)])∧Apd W w'):=
  fun k W hW=>Af2 hones pb o len g ng nc root _ s nds ws col W hW ht hrt (Sc hws hrt hrw k) hs hcl (fun b hb=>by have:=hws.first_le b (by omega);omega)
 have HBL:Hid (∀k,(Cm (Dn col ws root) row k).2≤1000000):=fun k=>Al2 (Sc hws hrt hrw k) hcl;have HR:Hid (E2 w pb o s len g ng nc nds root ws):=h;clear h ht hws;generalize Dn col ws root=stp at*
 go_enter Tryz.func33,Tryz.ntmps33
 go_wp2_with(at_make;refine Ane _ rfl (.tmp 9) (.tmp 9) 79 rfl w.heap.size 5 i0 (.int .u8 0) 1 Tryz.underlying79 hi hz0 hz1 .i64 .i64 _ _ n rfl rfl rfl rfl (by rw[hz2];omega) (by unfold maxLen;omega) (Ale _) ?_;intro w1 ho1 hg1)
 have hk1:Apd w w1:=(Aa.refl _ _).grown hg1 (fun k hk=>by cases hk);have hr1:w1.heap[w.heap.size]?=some (.cells (Dx [] n).toArray 5 (0,0)):=by
  rw[An3,show(Value.int .u8 0).cells= #[Value.int .u8 0]from rfl,An7]at ho1;rcases ho1.2 with⟨h1,_⟩|⟨g2,cap,cur,h1,_,hg,_,_,hs,ht⟩
  ·cases h1
  ·cases h1;have e:cur.toList.take (n*1)=cur.toList:=Al8 (by simp;omega);have e2:cur=(Dx [] n).toArray:=by
    apply Am6;rw[←e,ht];simp[Dx,Ag]
   rw[hg,e2]
 clear ho1 hg1;have HX:Hid (w1.heap[w.heap.size]?=some (.cells (Dx [] n).toArray 5 (0,0))∧Apd w w1):=⟨hr1,hk1⟩;clear hr1 hk1;have hwn:IntKind.i64.wrap ((n:Int)-1)=(n:Int)-1:=by rw[Al9];omega
 go_wp2
 go_loopw[1,8] (fun vr vi wr=> ∃j k:Nat,j+k=n∧vi= .int .i64 ((j:Int)-1)∧vr= .int .i64 ((Cm stp row k).2:Nat)∧wr.heap[w.heap.size]?=some (.cells (Dx (Cm stp row k).1 j).toArray 5 (0,0))∧Apd w wr) (fun _ vi _=>(intOf vi+1).toNat)
 case atStart=>exact⟨n,0,rfl,rfl,rfl,HX.out.1,HX.out.2⟩
 case round=>
  obtain⟨j,k,hjk,rfl,rfl,hrow,hkr⟩:=hrel;cases j with
  |zero=>
   have hk:k=n:=by omega
   subst hk;have hv:((0:Nat):Int)-1= -1:=rfl;rw[hv];have HF:Hid (wr.heap[w.heap.size]?=some (.cells (Ag (Cm stp row k).1).toArray 5 (0,0))∧Apd w wr):=⟨hrow,hkr⟩;clear hrow hkr;go_wp2_with fail;go_ret;exact⟨rfl,HF.out⟩
  |succ j=>
   have hv:((j+1:Nat):Int)-1=(j:Int):=by omega
   rw[hv];have hne:pb≠w.heap.size:=by omega
   have hlo:=HLO.out k wr (HR.out.kept hkr id id id);have hbl:=HBL.out (k+1);have HN:Hid (Cm stp row (k+1)=((stp (Cm stp row k).2).1::(Cm stp row k).1,(stp (Cm stp row k).2).2)):=rfl;have HST:=T8 (Cm stp row k).1 j (stp (Cm stp row k).2).1;have hgt:=T9 (Cm stp row k).1 j;have H0:Hid (wr.heap[w.heap.size]?=some (.cells (Dx (Cm stp row k).1 (j+1)).toArray 5 (0,0))∧Apd w wr):=⟨hrow,hkr⟩;have hd:decide ((0:Int)≤(j:Int))=true:=Alb (by omega);have hjn:j<n:=by omega
   have hjI:(j:Int)<(n:Int):=by omega
   have hwj:IntKind.i64.wrap ((j:Int)-1)=(j:Int)-1:=by rw[Al9];omega
   generalize stp (Cm stp row k).2=nx at*;generalize(Cm stp row k).2=r at*;generalize Dx (Cm stp row k).1 (j+1)=R at*;have HST':Hid (R.set j (.int .u8 (nx.1.toNat:Int))=Dx (nx.1::(Cm stp row k).1) j):=HST;clear hrow hkr HST;go_wp2_with fail;refine hlo.mono ?_;rintro e w2 ⟨rfl,hk2⟩;have hrow2:=hk2.row H0.out.1 id;have c1:w2.cell? ⟨w.heap.size,j,none⟩=some (.int .u8 0):=by rw[Alc _ _ j _ _ _ hrow2];simpa using hgt
   have f1:w2.frozen? ⟨w.heap.size,j,none⟩=false:=Alk _ _ j _ _ hrow2;have H2:Hid (w2.heap[w.heap.size]?=some (.cells R.toArray 5 (0,0))∧Apd w w2):=⟨hrow2,H0.out.2.trans hk2 (fun _ _ h=>h)⟩;clear hlo hk2 hrow2 hgt;go_wp2_with fail;go_roundw
   case rel=>
    refine⟨j,k+1,by omega,rfl,by rw[HN.out],?_,H2.out.2.setCell (.inl (Ale _)) _⟩;rw[HN.out];show _=some (Obj.cells (Dx (nx.1::(Cm stp row k).1) j).toArray _ _);rw[←HST'.out];rw[←Ak8];exact Alf _ _ j _ _ _ H2.out.1
   case measure=>simp[intOf]
namespace Hm
def Cr(s:List UInt8)(st:RS)(n:Nat):List Bool×RS:=if(D4 s st ((n+7)/8)).2.2=true then([],(D4 s st ((n+7)/8)).2)else((List.range n).map (Ak (D4 s st ((n+7)/8)).1),(D4 s st ((n+7)/8)).2)
def G2(f:Nat→Bool)(n i:Nat):List UInt8:=Ad ((List.range i).map f)++List.replicate (n-i) 0
theorem Af3(f:Nat→Bool)(n i:Nat)(h:i<n):(G2 f n i)[i]?=some 0:=by
 unfold G2 Ad;rw[Alt (by simp)];simp[List.getElem?_replicate];omega
theorem Af4(f:Nat→Bool)(n i:Nat)(h:i<n):(G2 f n i).set i (if f i then 49 else 48)=G2 f n (i+1):=by
 unfold G2 Ad;rw[Amt _ _ (by simp)];simp only[Al6,Aoc,Amr];rw[show n-i=(n-(i+1))+1 from by omega,Anf,Ak9,An4,Am9,Am9];simp
end Hm
theorem Ua{w:World}{g:Nat}{t:List UInt8}(h:w.heap[g]?=some (.cells (Ag t).toArray 5 (0,0)))(k c:Nat)(hk:t.length=k):(convert 79 9 (.slice (some ⟨g,0,none⟩) k c)).run Tryz.prog w= .ok (.string ⟨t.toArray⟩) w:=by
 have hr:=run_convert_bytes_arg w _ _ Tryz.underlying79 Tryz.underlying5 g 0 k c (t.map fun b=>(b.toNat:Int)) (by rw[Al6];exact hk) (fun i hi=>by
  have hil:i<t.length:=by omega
  rw[Al7,Alc _ _ i _ _ _ h,Alz,Ag,Alu,Ak6,Alu,Ak7 hil];rfl) _ Tryz.underlying9
 have e:strOfNums (t.map fun b=>(b.toNat:Int))=⟨t.toArray⟩:=by
  unfold strOfNums;rw[List.map_map];have e2:((fun n:Int=>UInt8.ofNat n.toNat)∘fun b:UInt8=>(b.toNat:Int))=id:=by funext b;simp
  rw[e2,List.map_id]
 rw[e]at hr;exact hr
set_option maxRecDepth 20000 in
set_option maxHeartbeats 1000000 in
theorem Y0(p n:Nat)(s:List UInt8)(st:Hm.RS)(w:World)(h:Cg w p s st)(hn:n≤1000000)(hst:st.1≤s.length)(hs:s.length≤30000):
  Calls Tryz.prog 120 #[.pointer (some ⟨p,0,none⟩),.int .i64 n] w fun e w'=>e= .returned (.string ⟨(Ad (Cr s st n).1).toArray⟩)∧Cg w' p s (Cr s st n).2∧Aa (fun j=>j=p) w w':=by
 obtain⟨i0,hi,hz0,hz1,hz2⟩:=Amz Ot;have hpt:=Yk p ((n+7)/8) s st w h (by omega) hst hs;have hpw:p<w.heap.size:=Alw h;have HRB:Hid (Cr s st n=if(D4 s st ((n+7)/8)).2.2=true then([],(D4 s st ((n+7)/8)).2)else((List.range n).map (Ak (D4 s st ((n+7)/8)).1),(D4 s st ((n+7)/8)).2)):=rfl;have HLE:Hid ((D4 s st ((n+7)/8)).2.2=false→(D4 s st ((n+7)/8)).1.length=(n+7)/8):=fun hb=>by
  unfold D4 at hb⊢;split at hb
  ·cases hb
  ·rename_i hc;rw[if_neg hc];show((s.drop st.1).take ((n+7)/8)).length=_;rw[Aln,Amb];have: ¬s.length<st.1+(n+7)/8:=fun h=>hc (.inr h);omega
 generalize Cr s st n=RB at*;generalize D4 s st ((n+7)/8)=R at*;obtain⟨T,st1⟩:=R;obtain⟨a1,bad⟩:=st1;have z8:((n:Int)+7)/8=(((n+7)/8:Nat):Int):=by omega
 generalize(n+7)/8=m at*;clear h hst
 go_enter Tryz.func120,Tryz.ntmps120
 go_wp2_with fail;refine hpt.mono ?_;rintro e w1 ⟨rfl,hr1,hk1⟩;have hr1':w1.heap[p]?=some (.cells #[.string ⟨s.toArray⟩,.int .i64 (a1:Nat),.bool bad] 145 (0,0)):=hr1;have c2:w1.cell? ⟨p,2,none⟩=some (.bool bad):=Alc _ _ 2 _ _ _ hr1';obtain⟨S,hS⟩: ∃S,S=(⟨T.toArray⟩:ByteArray):=⟨_,rfl⟩;have hSs:S.size=T.length:=by rw[hS];show T.toArray.size=_;simp
 have hSd:S.data.toList=T:=by rw[hS]
 have H1:Hid (Cg w1 p s (a1,bad)∧Aa (fun j=>j=p) w w1):=⟨hr1,hk1⟩;rw[←hS];clear hpt hr1 hk1 hr1' hS;cases bad with
 |true=>
  go_wp2_with fail;go_ret;rw[HRB.out];exact⟨rfl,H1.out.1,H1.out.2⟩
 |false=>
  have hTl:=HLE.out rfl
  go_wp2_with(at_make;refine Ane _ rfl (.tmp 17) (.tmp 17) 79 rfl w1.heap.size 5 i0 (.int .u8 0) 1 Tryz.underlying79 hi hz0 hz1 .i64 .i64 _ _ n rfl rfl rfl rfl (by rw[hz2];omega) (by unfold maxLen;omega) (Ale _) ?_;intro w2 ho1 hg1)
  have hk2:Apd w1 w2:=(Aa.refl _ _).grown hg1 (fun k hk=>by cases hk);have hr2:w2.heap[w1.heap.size]?=some (.cells (Ag (G2 (Ak T) n 0)).toArray 5 (0,0)):=by
   rw[An3,show(Value.int .u8 0).cells= #[Value.int .u8 0]from rfl,An7]at ho1;rcases ho1.2 with⟨h1,_⟩|⟨g2,cap,cur,h1,_,hg,_,_,hs,ht⟩
   ·cases h1
   ·cases h1;have e:cur.toList.take (n*1)=cur.toList:=Al8 (by simp;omega);have e2:cur=(Ag (G2 (Ak T) n 0)).toArray:=by
     apply Am6;rw[←e,ht];simp[G2,Ad,Ag]
    rw[hg,e2]
  have hw1p:p<w1.heap.size:=Alw H1.out.1;have H2:Hid (Cg w2 p s (a1,false)∧Aa (fun j=>j=p) w w2∧w2.heap[w1.heap.size]?=some (.cells (Ag (G2 (Ak T) n 0)).toArray 5 (0,0))):=⟨hk2.row H1.out.1 id,H1.out.2.trans (hk2.wider (T:=fun j=>j=p) (fun _ _ h=>h.elim)) (fun _ _ h=>h),hr2⟩;have hwle:=H1.out.2.size;clear ho1 hg1 hk2 hr2;obtain⟨g,hg⟩: ∃g,g=w1.heap.size:=⟨_,rfl⟩;rw[←hg]at H2 hw1p hwle⊢;clear hg;go_wp2_with fail
  go_loopw[7] (fun vi wr=> ∃i:Nat,i≤n∧vi= .int .i64 i∧wr.heap[g]?=some (.cells (Ag (G2 (Ak T) n i)).toArray 5 (0,0))∧Aa (fun j=>j=g) w2 wr) (fun vi _=>n-(intOf vi).toNat)
  case atStart=>exact⟨0,Alr _,rfl,H2.out.2.2,Aa.refl _ _⟩
  case round=>
   obtain⟨i,hi',rfl,hrow,hkr⟩:=hrel
   by_cases hlt:i<n
   ·obtain⟨q,hq⟩: ∃q,q=i/8:=⟨_,rfl⟩;obtain⟨r,hr⟩: ∃r,r=i%8:=⟨_,rfl⟩;have zq:(i:Int)/8=(q:Int):=by omega
    have zr:(i:Int)%8=(r:Int):=by omega
    have hr8:r<8:=by omega
    have hqS:q<S.size:=by omega
    have hqI:(q:Int)<(S.size:Int):=by omega
    have hqT:(q:Int)<(T.length:Int):=by omega
    have hltI:(i:Int)<(n:Int):=by omega
    have hg0:T.getD q 0=S[q]:=by
     rw[←hSd,Ak6,Ak7 (by simpa using hqS)];rfl
    have c0:wr.cell? ⟨g,i,none⟩=some (.int .u8 0):=by
     rw[Alc _ _ i _ _ _ hrow,Alz,Ag,Alu,Af3 _ _ _ hlt];rfl
    have f0:wr.frozen? ⟨g,i,none⟩=false:=Alk _ _ i _ _ hrow;have hbl:=S[q].toNat_lt;obtain⟨b,hb⟩: ∃b,b=S[q].toNat:=⟨_,rfl⟩;obtain⟨d,hd⟩: ∃d,d=b/2^r%2:=⟨_,rfl⟩;have HV:Hid (((if Ak T i then 49 else 48:UInt8).toNat:Nat)=48+d):=by
     show _=_;unfold Ak;rw[←hq,←hr,hg0,←hb,←hd];have:d<2:=by rw[hd];exact Nat.mod_lt _ (by omega)
     rcases(show d=0∨d=1 by omega)with e|e<;>rw[e]<;>rfl
    have HNX:Hid ((G2 (Ak T) n i).set i (if Ak T i then 49 else 48)=G2 (Ak T) n (i+1)):=Af4 _ _ _ hlt;have HR:Hid (wr.heap[g]?=some (.cells (Ag (G2 (Ak T) n i)).toArray 5 (0,0))∧Aa (fun j=>j=g) w2 wr):=⟨hrow,hkr⟩;have HBD:Hid (b=S[q].toNat∧d=b/2^r%2∧b<256):=⟨hb,hd,by omega⟩;clear hq hr hg0 hrow hkr hd hb;go_wp2_with fail;go_roundw
    case rel=>
     obtain⟨hb,hd,hb2⟩:=HBD.out;have hv:((48:Int)+((S[q].toNat:Int)/2^r).tmod 2)%256=(((if Ak T i then 49 else 48:UInt8).toNat:Nat):Int):=by
      have e1:(S[q].toNat:Int)/2^r=((b/2^r:Nat):Int):=by rw[←hb];simp
      rw[HV.out,e1,Int.tmod_eq_emod_of_nonneg (Int.natCast_nonneg _)];generalize b/2^r=z at hd⊢;omega
     rw[hv];refine⟨i+1,by omega,by go_num,?_,HR.out.2.setCell (p:=⟨g,i,none⟩) (.inr rfl) _⟩;rw[Alf wr g i _ _ _ HR.out.1,←HNX.out];congr 2;apply Am6;unfold Ag;rw[Anm];simp
    case measure=>simp[intOf];omega
   ·have hin:i=n:=by omega
    have hltI: ¬(i:Int)<(n:Int):=by omega
    have hfull:G2 (Ak T) n i=Ad ((List.range n).map (Ak T)):=by
     unfold G2;rw[hin,Amr,Ao9,Am4]
    rw[hfull]at hrow;have hcv:=Ua hrow n n (by simp[Ad]);have HF:Hid (Cg wr p s (a1,false)∧Aa (fun j=>j=p) w wr):=⟨hkr.row H2.out.1 (by omega),H2.out.2.1.trans hkr (fun j hj e=>by omega)⟩;clear hrow hkr hfull hin;go_wp2_with fail;go_ret;rw[HRB.out];exact⟨rfl,HF.out.1,HF.out.2⟩
end Go.Proofs.YtegnkfdbmmndaaaGreat
namespace Go.Proofs.YtegnkfdbmmndaaaGreat
open Hm
namespace Hm
theorem Sd(nds:List Nd){i j:Nat}(h:i≤j):C3 nds i≤C3 nds j:=by
 induction j with
 |zero=>rw[show i=0 by omega];exact Ale _
 |succ j ih=>
  by_cases e:i=j+1
  ·subst e;exact Ale _
  ·have:=ih (by omega);show _≤C3 nds j+_;omega
theorem K1(l:List UInt8)(a k:Nat)(h:k<8*a):Ak (l.take a) k=Ak l k:=by
 unfold Ak;rw[Ak6,Ani (by omega),Ak6]
theorem N5{l:List UInt8}{n:Nat}{L:List Nat}{st:B0}(h:Fm l n L st):
  ∃col:List UInt8,col.length=n∧Kx (l.take (szB st.len)) st.nds col∧Gj st.ws col:=by
 obtain⟨hC,hl⟩:=h;obtain⟨h0,hE⟩:=P6 hC;have hsh:=hE.nodes;have hlk:=Lk hl;have hinv:=Oi hsh hC.nodup rfl (Ale _) hl;have hle:=K8 hl;have hs2:=hsh.like hlk.1;have hll0:(Dw L).length=st.nds.length:=hlk.1.1.symm
 replace hinv:Ll (Ak (l.take (szB (Fk l n L)))) n (Dw L).length st:=hinv
 rw[hll0]at hinv;obtain⟨col,c1,c2,c3,c4⟩:=Aa1 hinv rfl hs2 hC.numk hC.num_lt hC.pos;have hm:Fk l n L≤8*l.length:=Nat.min_le_left _ _;have hsz:st.len≤8*szB st.len:=by unfold szB;omega
 have hll:(l.take (szB st.len)).length=szB st.len:=by rw[Aln];unfold szB;omega
 have fits: ∀j,j<st.nds.length→(Ab st.nds j).frm+(Ab st.nds j).siz≤st.len:=fun j hj=>by
  rw[c3.frm j hj,hinv.len];exact Sd st.nds (show j+1≤st.nds.length by omega)
 refine⟨col,c1,⟨32,lnB L,Bm L,Af L,⟨c3.siz,c3.frm,fun j p hj hp=>?_⟩,hs2,hC.numk,c2,hC.pos,hC.num_lt,fun j hj=>?_⟩,hinv.wl,c4⟩
 ·have hf:=fits j hj;rw[←c3.bit j p hj hp,K1 l _ _ (by omega),K1 l _ _ (by unfold szB;omega)]
 ·rw[hll];have hf:=fits j hj;omega
theorem Ahx{l:List UInt8}{n:Nat}{L:List Nat}{st:B0}(h:Fm l n L st)(x:Nat)(hx:x∈st.ws):x≤n:=by
 obtain⟨col,c1,_,c3,c4⟩:=N5 h;obtain⟨i,hi,e⟩:=Aml hx;have h1:=c4 (UInt8.ofNat i);rw[show(UInt8.ofNat i).toNat=i from by simp;omega,Ak6,Ak7 hi,Anr,e]at h1;rw[h1,←c1];exact List.count_le_length
end Hm
end Go.Proofs.YtegnkfdbmmndaaaGreat
