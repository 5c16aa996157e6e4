import Derived.Test.YtegnkfdbmmndaaaGreatJ00
import Derived.Test.YtegnkfdbmmndaaaGreatJ19
import Derived.Test.YtegnkfdbmmndaaaGreatJ08
import Derived.Deep.MidRow
import Derived.Test.YtegnkfdbmmndaaaGreatJ07
import Derived.Test.YtegnkfdbmmndaaaGreatJ03
import Derived.Test.YtegnkfdbmmndaaaGreatJ04

namespace Go.Proofs.YtegnkfdbmmndaaaGreat
open Hm
open Go.RowKit
structure De(B:Nat)(w':World)(l:List UInt8)(n:Nat)(L:List Nat)(VA:Array Value)(T:ByteArray)(ok:Bool):Prop where
 size:VA.size=773
 one:VA.all(·.oneCell')=true
 str:VA[0]?=some(.string T)
 few:T.size≤l.length
 said:(ok=true∧ ∃st g ng nc,Fp l n L st∧B≤g∧B≤ng∧g≠ng∧T.size=Hm.szB st.len∧VA=(Bd⟨(l.take(Hm.szB st.len)).toArray⟩st.len g(Bf L)(.slice(some⟨ng,0,none⟩)st.nds.length nc)st.ws n).toArray∧st.ws.length=256∧
   IntRow w' g(Bw(l.take(Hm.szB st.len)))∧w'.ownsRow 0 195 9(.slice(some⟨ng,0,none⟩)st.nds.length nc)st.nds.length(Bc st.nds))∨
  (ok=false∧(∀st,¬Fp l n L st)∧VA=Tryz.zeroCells96)
theorem De.kept{B:Nat}{w' w2:World}{l:List UInt8}{n:Nat}{L:List Nat}{VA:Array Value}{T:ByteArray}{ok:Bool}(h:De B w' l n L VA T ok){S:Nat→Prop}(hk:Aa S w' w2)(hn: ∀j,B≤j→j<w'.heap.size→ ¬S j):De B w2 l n L VA T ok:=by
 refine⟨h.size,h.one,h.str,h.few,?_⟩;rcases h.said with⟨h1,st,g,ng,nc,a1,a2,a3,a4,a5,a6,a7,a8,a9⟩|h1
 ·exact .inl⟨h1,st,g,ng,nc,a1,a2,a3,a4,a5,a6,a7,a8.kept hk(hn g a2 a8.lt),hk.owns a9(fun j hj=>by have e1:ng=j:=Alq hj;rw[←e1];exact hn ng a3(a9.lt ng rfl).2)⟩
 ·exact .inr h1
theorem De.le{B B':Nat}{w':World}{l:List UInt8}{n:Nat}{L:List Nat}{VA:Array Value}{T:ByteArray}{ok:Bool}(h:De B w' l n L VA T ok)(hb:B'≤B):De B' w' l n L VA T ok:=by
 refine⟨h.size,h.one,h.str,h.few,?_⟩;rcases h.said with⟨h1,st,g,ng,nc,a1,a2,a3,a4⟩|h1
 ·exact .inl⟨h1,st,g,ng,nc,a1,Alr hb a2,Alr hb a3,a4⟩
 ·exact .inr h1
theorem Ab1:Tryz.zeroCells96[0]?=some(.string⟨#[]⟩):=by kernel_rfl
theorem Ab2(hones:Cg)(l:List UInt8)(n:Nat)(L:List Nat)(w:World)(hn:n≤65535)(hL:L.length=256)(hx: ∀x∈L,x≤255)(hll:l.length≤281474976710656):
  Calls Tryz.prog 118#[.string⟨l.toArray⟩,.int .i64 n,.agg(Ac L).toArray]w fun e w'=>Aa(fun _=>False)w w'∧ ∃VA T ok,e= .returned(.tuple#[.agg VA,.bool ok])∧De w.heap.size w' l n L VA T ok:=by
 refine(Ab0 hones l n L w hn hL hx hll).mono ?_;rintro e w'⟨hk,⟨st,g,ng,nc,a1,a2,a3,a4,rfl,a6,a7,a8⟩|⟨h1,rfl⟩⟩
 ·refine⟨hk,_,⟨(l.take(Hm.szB st.len)).toArray⟩,_,rfl,?_,Ed _ _ _ _ _ _ _ rfl,rfl,?_,.inl⟨rfl,st,g,ng,nc,a1,a2,a3,a4,?_,rfl,a6,a7,a8⟩⟩
  ·rw[Alj,C2 _ _ g(Bf L)_ st.ws n(A6 _ _ _ _)a6]
  ·show(l.take _).toArray.size≤_;simp;omega
  ·have h2:=Lc a1.2;have h3:=Nat.min_le_left(8*l.length)(n*Gj L);show(l.take _).toArray.size=_;unfold Fo at h2;unfold Hm.szB;simp;omega
 ·exact⟨hk,_,⟨#[]⟩,_,rfl,Hh,Sc,Ab1,Alk _,.inr⟨rfl,h1,rfl⟩⟩
set_option maxRecDepth 100000 in
set_option maxHeartbeats 4000000 in
theorem Af1(hones:Cg)(p:Nat)(st:Hm.Rd)(n:Nat)(L:List Nat)(w:World)(hr:Aw w p st)(hn:n≤65535)(hL:L.length=256)(hx: ∀x∈L,x≤255)(hll:Be st≤281474976710656):
  Calls Tryz.prog 69#[.pointer(some⟨p,0,none⟩),.int .i64 n,.agg(Ac L).toArray]w fun e w'=>Aa(fun j=>j=p)w w'∧ ∃VA T ok,e= .returned(.agg VA)∧De w.heap.size w'(st.getD [])n L VA T ok∧Aw w' p(A8(C9 st ok)T.size).2:=by
 obtain⟨l,hl⟩: ∃l,l=st.getD []:=⟨_,rfl⟩;have HRT:Hid(∀W,Calls Tryz.prog 118#[.string⟨l.toArray⟩,.int .i64 n,.agg(Ac L).toArray]W fun e w'=>Aa(fun _=>False)W w'∧ ∃VA T ok,e= .returned(.tuple#[.agg VA,.bool ok])∧De W.heap.size w' l n L VA T ok):=fun W=>Ab2 hones l n L W hn hL hx(by rw[hl];exact hll);obtain⟨arr,harr⟩: ∃a,a=(Ac L).toArray:=⟨_,rfl⟩;have hasz:arr.size=256:=by rw[harr,A5,hL]
 obtain⟨S,hS⟩: ∃S,S=(⟨l.toArray⟩:ByteArray):=⟨_,rfl⟩;rw[←harr,←hS]at HRT;rw[←harr,←hl];have hp:=hr.lt;have hrest:=hr.rest;rw[←hl,←hS]at hrest;obtain⟨W0,hW0⟩: ∃W0,W0=(w.alloc(.cells arr 139)).alloc(.cells Tryz.zeroCells96 96):=⟨_,rfl⟩;have hk0:Aa(fun _=>False)w W0:=by rw[hW0];exact((Aa.refl _ _).alloc _).alloc _
 have hb0:W0.heap[w.heap.size]?=some(.cells arr 139(0,0)):=by rw[hW0];exact heap_alloc2_old w _ _
 have hb1:W0.heap[w.heap.size+1]?=some(.cells Tryz.zeroCells96 96(0,0)):=by rw[hW0];exact heap_alloc2_new w _ _
 have hc0:W0.cell?⟨p,0,none⟩=some(.string S):=(hk0.cell(p:=⟨p,0,none⟩)hp id).trans hrest;have HW:Hid((w.alloc(.cells arr 139)).alloc(.cells Tryz.zeroCells96 96)=W0):=hW0.symm;have HR:Hid(Aw w p st∧l=st.getD []∧Be st≤281474976710656∧Aa(fun _=>False)w W0):=⟨hr,hl,hll,hk0⟩;have hzt:Tryz.zeroCells96.size=773:=Hh;clear hW0 harr hS hL hx hl hr hll hrest hk0
 go_enter Tryz.func69,Tryz.ntmps69
 go_upto_region 1 with fail;rw[HW.out];clear HW;have hnd:=fun W(h:Aw W p st)ok=>Ia p st ok W h;have HND:Hid _:=hnd;clear hnd;have hw0:=lt_of_block hb0;have hw1:w.heap.size+1<W0.heap.size:=lt_of_block hb1
 go_cut [7,8]from 9(fun v7 v8 wz=> ∃tb VA T ok,v7= .pointer(some⟨tb,0,none⟩)∧v8= .bool ok∧Aside(wz.heap[tb]?=some(.cells VA 96(0,0))∧De W0.heap.size wz l n L VA T ok∧Aa(fun _=>False)W0 wz∧W0.heap.size≤tb∧Aw wz p st))
 case first=>
  refine wp_region_held_drew(S:=fun X=>X.cell?⟨p,0,none⟩=some(.string S)∧X.heap[w.heap.size]?=some(.cells arr 139(0,0)))(by kernel_rfl)?_(fun hHeld=>?_)
  ·exact⟨hc0,hb0⟩
  refine wpAnyH_take (i := 0) (oi := { dst := some 10, op := Op.move (Operand.tmp 0), type := 183, pos := "read.go:89", after := #[], guard := none }) (v := ?_) rfl (by kernel_rfl) (by kernel_rfl) (by kernel_rfl) (fun _ _ _ h => h) (Or.inl ⟨by kernel_rfl, ?_⟩) (by assumption) ?_
  rotate_left
  ·intro X hSw;try dsimp only at hSw;go_simp
   with_reducible rfl
  simp only[Act.put,Ak9,Ala,Alb]
  refine wpAnyH_take (i := 1) (oi := { dst := some 11, op := Op.nilCheck (Operand.tmp 10), type := 0, pos := "read.go:89", after := #[{ on := 0, ground := Ground.data }], guard := none }) (v := ?_) rfl (by kernel_rfl) (by kernel_rfl) (by kernel_rfl) (fun _ _ _ h => h) (Or.inl ⟨by kernel_rfl, ?_⟩) (by assumption) ?_
  rotate_left
  ·intro X hSw;try dsimp only at hSw;go_simp
   with_reducible rfl
  simp only[Act.put,Ak9,Ala,Alb]
  refine wpAnyH_take (i := 2) (oi := { dst := some 12, op := Op.fieldAddr 132 (Operand.tmp 11) 0, type := 0, pos := "read.go:89", after := #[{ on := 1, ground := Ground.data }], guard := none }) (v := ?_) rfl (by kernel_rfl) (by kernel_rfl) (by kernel_rfl) (fun _ _ _ h => h) (Or.inl ⟨by kernel_rfl, ?_⟩) (by assumption) ?_
  rotate_left
  ·intro X hSw;try dsimp only at hSw;go_simp
   with_reducible rfl
  simp only[Act.put,Ak9,Ala,Alb]
  refine wpAnyH_take (i := 3) (oi := { dst := some 13, op := Op.load 9 (Operand.tmp 12), type := 9, pos := "read.go:89", after := #[{ on := 2, ground := Ground.data }], guard := none }) (v := ?_) rfl (by kernel_rfl) (by kernel_rfl) (by kernel_rfl) (fun _ _ _ h => h) (Or.inl ⟨by kernel_rfl, ?_⟩) (by assumption) ?_
  rotate_left
  ·intro X hSw;try dsimp only at hSw;go_simp
   with_reducible rfl
  simp only[Act.put,Ak9,Ala,Alb]
  refine wpAnyH_take (i := 4) (oi := { dst := some 14, op := Op.move (Operand.tmp 1), type := 3, pos := "read.go:89", after := #[], guard := none }) (v := ?_) rfl (by kernel_rfl) (by kernel_rfl) (by kernel_rfl) (fun _ _ _ h => h) (Or.inl ⟨by kernel_rfl, ?_⟩) (by assumption) ?_
  rotate_left
  ·intro X hSw;try dsimp only at hSw;go_simp
   with_reducible rfl
  simp only[Act.put,Ak9,Ala,Alb]
  refine wpAnyH_take (i := 5) (oi := { dst := some 15, op := Op.load 139 (Operand.tmp 5), type := 139, pos := "read.go:89", after := #[], guard := none }) (v := .agg arr) rfl (by kernel_rfl) (by kernel_rfl) (by kernel_rfl) (fun _ _ _ h => h) (Or.inl ⟨by kernel_rfl, fun X hX => Ez X 139 (.tmp 5) rfl w.heap.size rfl 139 arr (0, 0) _ hX.2 Tryz.underlying139 rfl (by rw [hasz]; exact Cc)⟩) (by assumption) ?_
  simp only[Act.put,Ak9,Ala,Alb];have HS:Hid(∀X,Aa(fun _=>False)W0 X→X.cell?⟨p,0,none⟩=some(.string S)∧X.heap[w.heap.size]?=some(.cells arr 139(0,0))):=fun X hk=>⟨(hk.cell(p:=⟨p,0,none⟩)(World.block_lt_of_cell? _ _ hc0)id).trans hc0,hk.row hb0 id⟩;refine wpAnyH_ready(rs:=[6,10])(by kernel_rfl)(by simp)?_;refine AllReadyH.cons rfl(fun K hK=>?_)(AllReadyH.cons rfl(fun K hK=>?_)AllReadyH.nil)
  ·go_simp;refine(HRT.out _).mono ?_;rintro e xa⟨hka,VA,T,ok,rfl,hgot⟩;have kA:Aa(fun _=>False)W0 xa:=(Aa.refl(fun _=>False)W0).drew.trans hka(fun _ _ h=>h);refine hK.out _ _(HS.out _ kA)(fun hHeld=>?_);clear hK K
   refine wpAnyH_take (i := 7) (oi := { dst := some 9, op := Op.move (Operand.tmp 16), type := 186, pos := "read.go:89", after := #[{ on := 6, ground := Ground.data }], guard := none }) (v := ?_) rfl (by kernel_rfl) (by kernel_rfl) (by kernel_rfl) (fun _ _ _ h => h) (Or.inl ⟨by kernel_rfl, ?_⟩) (by assumption) ?_
   rotate_left
   ·intro X hSw;try dsimp only at hSw;go_simp
    with_reducible rfl
   simp only[Act.put,Ak9,Ala,Alb]
   refine wpAnyH_take (i := 8) (oi := { dst := some 17, op := Op.extract (Operand.tmp 9) 0, type := 96, pos := "read.go:89", after := #[{ on := 7, ground := Ground.data }], guard := none }) (v := ?_) rfl (by kernel_rfl) (by kernel_rfl) (by kernel_rfl) (fun _ _ _ h => h) (Or.inl ⟨by kernel_rfl, ?_⟩) (by assumption) ?_
   rotate_left
   ·intro X hSw;try dsimp only at hSw;go_simp
    with_reducible rfl
   simp only[Act.put,Ak9,Ala,Alb]
   refine wpAnyH_take (i := 9) (oi := { dst := some 18, op := Op.extract (Operand.tmp 9) 1, type := 4, pos := "read.go:89", after := #[{ on := 7, ground := Ground.data }, { on := 11, ground := Ground.gcOnly Departure.lateStores }], guard := none }) (v := ?_) rfl (by kernel_rfl) (by kernel_rfl) (by kernel_rfl) (fun _ _ _ h => h) (Or.inl ⟨by kernel_rfl, ?_⟩) (by assumption) ?_
   rotate_left
   ·intro X hSw;try dsimp only at hSw;go_simp
    with_reducible rfl
   simp only[Act.put,Ak9,Ala,Alb];refine wpAnyH_ready(rs:=[10])(by kernel_rfl)(by simp)?_;refine AllReadyH.cons rfl(fun K hK=>?_)AllReadyH.nil;go_simp;obtain⟨xb,hxb⟩: ∃X,X=xa.alloc(.cells Tryz.zeroCells96 96):=⟨_,rfl⟩;have hkb:Aa(fun _=>False)xa xb:=by rw[hxb];exact(Aa.refl _ _).alloc _
   have htb:xb.heap[xa.heap.size]?=some(.cells Tryz.zeroCells96 96(0,0)):=by rw[hxb];exact heap_alloc_new xa _
   obtain⟨tb,htbe⟩: ∃t,t=xa.heap.size:=⟨_,rfl⟩;rw[←htbe]at htb⊢;rw[←hxb];have hta:=Anh htbe;have hta2:=Anh htbe.symm;have hsa:=kA.size;have kB:=kA.trans hkb(fun _ _ h=>h);refine hK.out _ _(HS.out _ kB)(fun hHeld=>?_);clear hK K hxb htbe;refine wpAnyH_ready(rs:=[11])(by kernel_rfl)(by simp)?_;refine AllReadyH.cons rfl(fun K hK=>?_)AllReadyH.nil;refine B8 xb rfl 96(.tmp 7)(.tmp 17)rfl tb 96 Tryz.zeroCells96 VA rfl rfl htb(by rw[hgot.size];exact B9)(by rw[hgot.size];exact hzt)hgot.one ?_;intro wz hwz hkz;have kZ:Aa(fun _=>False)W0 wz:=kB.trans hkz(fun j h1 h2=>by omega);have hgz:De W0.heap.size wz l n L VA T ok:=(hgot.kept((hkb.wider(T:=fun j=>j=tb)(fun _ _ h=>h.elim)).trans hkz(fun _ _ h=>h))(fun j h1 h2 h3=>by omega)).le(Alc _);refine hK.out _ _(HS.out _ kZ)(fun hHeld=>?_);clear hK K;refine wpAnyH_ready(rs:=[12])(by kernel_rfl)(by simp)?_;refine AllReadyH.cons rfl(fun K hK=>?_)AllReadyH.nil;go_simp;refine hK.out _ _(HS.out _ kZ)(fun hHeld=>?_);clear hK K;refine wpAnyH_done(by kernel_rfl)?_ _;have H4:Aside(wz.heap[tb]?=some(.cells VA 96(0,0))∧De W0.heap.size wz l n L VA T ok∧Aa(fun _=>False)W0 wz∧W0.heap.size≤tb∧Aw wz p st):=⟨hwz,hgz,kZ,by omega,(HR.out.1.kept HR.out.2.2.2 id).kept kZ id⟩;go_wp2_with fail;go_meet
   case rel=>exact⟨tb,VA,T,ok,rfl,rfl,H4⟩
  ·go_simp;obtain⟨xb,hxb⟩: ∃X,X=(W0.alloc(.cells Tryz.zeroCells96 96)).drew:=⟨_,rfl⟩;have hkb:Aa(fun _=>False)W0 xb:=by rw[hxb];exact((Aa.refl _ _).alloc _).drew
   have htb:xb.heap[W0.heap.size]?=some(.cells Tryz.zeroCells96 96(0,0)):=by rw[hxb];exact heap_alloc_new W0 _
   obtain⟨tb,htbe⟩: ∃t,t=W0.heap.size:=⟨_,rfl⟩;rw[←htbe]at htb⊢;rw[←hxb];have hta:=Anh htbe;have hta2:=Anh htbe.symm;have htl:=lt_of_block htb;refine hK.out _ _(HS.out _ hkb)(fun hHeld=>?_);clear hK K hxb htbe;refine wpAnyH_ready(rs:=[6])(by kernel_rfl)(by simp)?_;refine AllReadyH.cons rfl(fun K hK=>?_)AllReadyH.nil;go_simp;refine(HRT.out _).mono ?_;rintro e xa⟨hka,VA,T,ok,rfl,hgot⟩;have kA:Aa(fun _=>False)W0 xa:=hkb.trans hka(fun _ _ h=>h);have htb:=hka.row htb id;have hs6:=hkb.size;refine hK.out _ _(HS.out _ kA)(fun hHeld=>?_);clear hK K
   refine wpAnyH_take (i := 7) (oi := { dst := some 9, op := Op.move (Operand.tmp 16), type := 186, pos := "read.go:89", after := #[{ on := 6, ground := Ground.data }], guard := none }) (v := ?_) rfl (by kernel_rfl) (by kernel_rfl) (by kernel_rfl) (fun _ _ _ h => h) (Or.inl ⟨by kernel_rfl, ?_⟩) (by assumption) ?_
   rotate_left
   ·intro X hSw;try dsimp only at hSw;go_simp
    with_reducible rfl
   simp only[Act.put,Ak9,Ala,Alb]
   refine wpAnyH_take (i := 8) (oi := { dst := some 17, op := Op.extract (Operand.tmp 9) 0, type := 96, pos := "read.go:89", after := #[{ on := 7, ground := Ground.data }], guard := none }) (v := ?_) rfl (by kernel_rfl) (by kernel_rfl) (by kernel_rfl) (fun _ _ _ h => h) (Or.inl ⟨by kernel_rfl, ?_⟩) (by assumption) ?_
   rotate_left
   ·intro X hSw;try dsimp only at hSw;go_simp
    with_reducible rfl
   simp only[Act.put,Ak9,Ala,Alb]
   refine wpAnyH_take (i := 9) (oi := { dst := some 18, op := Op.extract (Operand.tmp 9) 1, type := 4, pos := "read.go:89", after := #[{ on := 7, ground := Ground.data }, { on := 11, ground := Ground.gcOnly Departure.lateStores }], guard := none }) (v := ?_) rfl (by kernel_rfl) (by kernel_rfl) (by kernel_rfl) (fun _ _ _ h => h) (Or.inl ⟨by kernel_rfl, ?_⟩) (by assumption) ?_
   rotate_left
   ·intro X hSw;try dsimp only at hSw;go_simp
    with_reducible rfl
   simp only[Act.put,Ak9,Ala,Alb];refine wpAnyH_ready(rs:=[11])(by kernel_rfl)(by simp)?_;refine AllReadyH.cons rfl(fun K hK=>?_)AllReadyH.nil;refine B8 xa rfl 96(.tmp 7)(.tmp 17)rfl tb 96 Tryz.zeroCells96 VA rfl rfl htb(by rw[hgot.size];exact B9)(by rw[hgot.size];exact hzt)hgot.one ?_;intro wz hwz hkz;have kZ:Aa(fun _=>False)W0 wz:=kA.trans hkz(fun j h1 h2=>by omega);have hgz:De W0.heap.size wz l n L VA T ok:=(hgot.kept hkz(fun j h1 h2 h3=>by omega)).le(by omega);refine hK.out _ _(HS.out _ kZ)(fun hHeld=>?_);clear hK K;refine wpAnyH_ready(rs:=[12])(by kernel_rfl)(by simp)?_;refine AllReadyH.cons rfl(fun K hK=>?_)AllReadyH.nil;go_simp;refine hK.out _ _(HS.out _ kZ)(fun hHeld=>?_);clear hK K;refine wpAnyH_done(by kernel_rfl)?_ _;have H4:Aside(wz.heap[tb]?=some(.cells VA 96(0,0))∧De W0.heap.size wz l n L VA T ok∧Aa(fun _=>False)W0 wz∧W0.heap.size≤tb∧Aw wz p st):=⟨hwz,hgz,kZ,by omega,(HR.out.1.kept HR.out.2.2.2 id).kept kZ id⟩;go_wp2_with fail;go_meet
   case rel=>exact⟨tb,VA,T,ok,rfl,rfl,H4⟩
 case rest=>
  obtain⟨tb,VA,T,ok,rfl,rfl,H3⟩:=hcut;have hn1:=HND.out wc H3.out.2.2.2.2 ok;have hres:=H3.out.2.2.1.row hb1 id;have hkw:Aa(fun _=>False)w wc:=HR.out.2.2.2.trans H3.out.2.2.1(fun _ _ h=>h);have hst:T.size≤281474976710656:=by
   have h1:=H3.out.2.1.few;have h2:=HR.out.2.2.1;rw[HR.out.2.1]at h1;exact Alr h1 h2
  have HTK:Hid(∀W,Aw W p(C9 st ok)→Calls Tryz.prog 64#[.pointer(some⟨p,0,none⟩),.int .i64(T.size:Nat)]W fun e w'=>e= .returned(.string⟨(A8(C9 st ok)T.size).1.toArray⟩)∧Aw w' p(A8(C9 st ok)T.size).2∧Aa(fun j=>j=p)W w'):=
   fun W h=>K5 p(C9 st ok)T.size W h(by have h1:=Il st ok;have h2:=HR.out.2.2.1;omega)(by omega)
  have hpt:p≠tb:=by have:=H3.out.2.2.2.1;omega
  have hp1:p≠w.heap.size+1:=by omega
  have hpb:p<w.heap.size:=hp;have H5:Hid(wc.heap[tb]?=some(.cells VA 96(0,0))∧De W0.heap.size wc l n L VA T ok∧wc.heap[w.heap.size+1]?=some(.cells Tryz.zeroCells96 96(0,0))∧Aa(fun _=>False)w wc∧w.heap.size+1<tb):=⟨H3.out.1,H3.out.2.1,hres,hkw,by have:=H3.out.2.2.2.1;omega⟩;clear HND HRT hres hkw H3;go_wp2_with fail;refine hn1.mono ?_;rintro e w2⟨rfl,hr2,hk2⟩;have hrow2:=hk2.row H5.out.1(fun h=>hpt h.symm);have c0:w2.cell?⟨tb,0,none⟩=some(.string T):=(cell_of_row _ _ 0 _ _ _ hrow2).trans H5.out.2.1.str;have hpk:=J8 tb 0 T w2 c0;have ht1:=HTK.out w2 hr2;have H6:Hid(Aa(fun j=>j=p)wc w2):=hk2;clear hn1 hr2 hk2 HTK hrow2;go_wp2_with fail;refine hpk.mono ?_;rintro e w3⟨rfl,hw3⟩;subst hw3;clear hpk;go_wp2_with fail;refine ht1.mono ?_;rintro e w4⟨rfl,hr4,hk4⟩;have hk14:Aa(fun j=>j=p)wc w4:=H6.out.trans hk4(fun _ _ h=>h);have hrow4:=hk14.row H5.out.1(fun h=>hpt h.symm);have hres4:=hk14.row H5.out.2.2.1(fun h=>hp1 h.symm);have hgot4:=H5.out.2.1.kept hk14(fun j h1 h2 h3=>by omega);have H7:Hid(w4.heap[tb]?=some(.cells VA 96(0,0))∧De W0.heap.size w4 l n L VA T ok∧w4.heap[w.heap.size+1]?=some(.cells Tryz.zeroCells96 96(0,0))∧Aa(fun j=>j=p)w w4∧Aw w4 p(A8(C9 st ok)T.size).2):=
   ⟨hrow4,hgot4,hres4,(H5.out.2.2.2.1.wider(fun _ _ h=>h.elim)).trans hk14(fun _ _ h=>h),hr4⟩
  have hvs:=hgot4.size;have hv1:=hgot4.one;clear hk14 hrow4 hres4 hgot4 ht1 hr4 hk4 H6 c0
  go_wp2_with(first
   |(refine wpList_load_row rfl 96 _ rfl tb rfl 96 VA(0,0)_ H7.out.1 Tryz.underlying96 rfl(by rw[hvs];exact B9)?_)
   |(refine A3 _ rfl 96 _ _ rfl(w.heap.size+1)96 _ VA rfl rfl H7.out.2.2.1(by rw[hvs];exact B9)(by rw[hvs];exact hzt)hv1 ?_;intro w9 hw9 hk9))
  refine bodyPost_ret(v:= .agg VA)(results_cell_row Tryz.results69 _ w9(w.heap.size+1)96 VA(0,0)_ rfl hw9 Tryz.underlying96 rfl(by rw[hvs];exact B9))rfl⟨H7.out.2.2.2.1.trans hk9(fun j h1 h2=>by omega),VA,T,ok,rfl,?_,H7.out.2.2.2.2.kept hk9(fun h=>hp1 h)⟩;exact(H7.out.2.1.kept hk9(fun j h1 h2 h3=>by omega)).le(by omega)
namespace Hm
def C8(ws:List Nat)(b:Nat):Nat:=1+(ws.take b).sum
def firsts(ws:List Nat):List Nat:=(List.range 256).map(C8 ws)
def Ct(ws:List Nat)(k:Nat):List Nat:=(List.range 256).map fun b=>if b<k then C8 ws b else 0
theorem Gc(ws:List Nat)(k:Nat):(Ct ws k).length=256:=by unfold Ct;rw[Alu,Ani]
theorem N6(ws:List Nat)(k b:Nat)(hb:b<256):(Ct ws k)[b]?=some(if b<k then C8 ws b else 0):=by
 unfold Ct;rw[Aln,Ame hb];rfl
theorem Z2(ws:List Nat):Ct ws 0=List.replicate 256 0:=by
 apply List.ext_getElem?;intro i
 by_cases hi:i<256
 ·rw[N6 ws 0 i hi,if_neg(by omega),An0,if_pos hi]
 ·rw[Als(by rw[Gc];omega),Als(by rw[Alf];omega)]
theorem Ab3(ws:List Nat):Ct ws 256=firsts ws:=by
 unfold Ct firsts;refine Ang fun b hb=>?_;rw[if_pos(List.mem_range.1 hb)]
theorem Z3(ws:List Nat)(k:Nat)(hk:k<256):(Ct ws k).set k(C8 ws k)=Ct ws(k+1):=by
 apply List.ext_getElem?;intro i
 by_cases hi:i<256
 ·rw[N6 ws(k+1)i hi,List.getElem?_set]
  by_cases e:k=i
  ·subst e;rw[if_pos rfl,if_pos(by rw[Gc];exact hk),if_pos(by omega)]
  ·rw[if_neg e,N6 ws k i hi]
   by_cases h2:i<k
   ·rw[if_pos h2,if_pos(by omega)]
   ·rw[if_neg h2,if_neg(by omega)]
 ·rw[Als(by rw[Al8,Gc];omega),Als(by rw[Gc];omega)]
theorem Sd(ws:List Nat)(k:Nat)(h:k<ws.length):C8 ws(k+1)=C8 ws k+ws[k]:=by
 unfold C8;rw[Ale h,List.sum_append];simp;omega
theorem Akz(l:List Nat)(B:Nat)(h: ∀x∈l,x≤B):l.sum≤l.length*B:=by
 induction l with
 |nil=>simp
 |cons a r ih=>
  have h1:=h a(Ali ..);have h2:=ih fun x hx=>h x(All _ hx);rw[Anz,Alz,Am5];omega
end Hm
def Ca(VA:Array Value)(root:Nat)(fs:List Nat):List Value:=VA.toList++(.int .i64(root:Nat)::Ac fs)
theorem Iq(VA:Array Value)(root:Nat)(fs:List Nat)(hv:VA.size=773)(hf:fs.length=256):(Ca VA root fs).length=1030:=by
 unfold Ca;rw[Ald,Alz,Amv,hv];simp[Ac,hf]
theorem Aht(VA:Array Value)(root:Nat)(fs:List Nat)(hv:VA.size=773)(b x:Nat):(Ca VA root fs).set(774+b)(.int .i64(x:Nat))=Ca VA root(fs.set b x):=by
 unfold Ca;rw[Amb _ _(by rw[Amv,hv];omega),Amv,hv,show 774+b-773=b+1 from by omega,Alb];simp[Ac,List.map_set]
theorem Ahu(VA:Array Value)(root:Nat)(fs:List Nat)(hv:VA.size=773)(b:Nat)(hb:b<fs.length):(Ca VA root fs)[774+b]?=some(.int .i64(fs.getD b 0:Nat)):=by
 unfold Ca;rw[Alm(by rw[Amv,hv];omega),Amv,hv,show 774+b-773=b+1 from by omega,Anl];simp[Ac,hb]
theorem Se(VA:Array Value)(root:Nat)(fs:List Nat)(hv:VA.all(·.oneCell')=true):(Ca VA root fs).toArray.all(·.oneCell')=true:=by
 have h2:=Ef fs;rw[Am9]at*;intro x hx;have hx':x∈Ca VA root fs:=by simpa using hx
 unfold Ca at hx';rcases Aoa.1 hx' with h|h
 ·exact hv x(by simpa using h)
 rcases List.mem_cons.1 h with rfl|h
 ·rfl
 ·exact h2 x(by simpa using h)
theorem Ms:(Tryz.prog.info? 98).map(·.size)=some 1030:=by kernel_rfl
theorem Ado:(Tryz.prog.underlying 98).bind(fun d=>match d with| .struct fields=>fields.toList.mapM(fun f=>(Tryz.prog.info? f.type).map fun i=>(f.offset,i.size))|_=>none)=some [(0,773),(773,1),(774,256)]:=by kernel_rfl
theorem Ahv:((Tryz.prog.info? 98).bind(·.zero))=some(.agg(Ca Tryz.zeroCells96 0(List.replicate 256 0)).toArray):=by kernel_rfl
theorem Adp:Tryz.zeroCells98=(Ca Tryz.zeroCells96 0(List.replicate 256 0)).toArray:=by kernel_rfl
theorem Af2(VA:Array Value)(root:Nat)(hv:VA.size=773):
  Tryz.prog.built 98 [(0,.agg VA),(1,.int .i64(root:Nat))]=some(Ca VA root(List.replicate 256 0)).toArray:=by
 unfold Program.built;have hz:=Ahv;have hp:=Ado;cases h1:Tryz.prog.info? 98 with
 |none=>rw[h1]at hz;cases hz
 |some it=>
  cases h2:Tryz.prog.underlying 98 with
  |none=>rw[h2]at hp;cases hp
  |some d=>
   rw[h1]at hz;rw[h2]at hp;have hz':it.zero=some(.agg(Ca Tryz.zeroCells96 0(List.replicate 256 0)).toArray):=hz;cases d<;>try(cases hp;done);rename_i fields;have hp':fields.toList.mapM(fun f=>(Tryz.prog.info? f.type).map fun i=>(f.offset,i.size))=some [(0,773),(773,1),(774,256)]:=hp;simp only[hz',hp'];have e0:(Value.agg(Ca Tryz.zeroCells96 0(List.replicate 256 0)).toArray).cells=(Ca Tryz.zeroCells96 0(List.replicate 256 0)).toArray:=rfl;rw[e0];have hzl:Tryz.zeroCells96.toList.length=773:=by rw[Amv];exact Hh
   unfold Ca;generalize Tryz.zeroCells96.toList=Z at*;generalize Ac(List.replicate 256 0)=R at*;have s1:=Le([(0,773),(773,1),(774,256)].toArray[·]?)0 0 773(.agg VA) [(1,.int .i64(root:Nat))] []Z(.int .i64((0:Nat):Int)::R)VA.toList rfl(by simp[Value.cells])(by rw[Amv];exact hv)rfl hzl;have s2:=Le([(0,773),(773,1),(774,256)].toArray[·]?)1 773 1(.int .i64(root:Nat)) []VA.toList [.int .i64((0:Nat):Int)]R [.int .i64(root:Nat)]rfl rfl rfl(by rw[Amv];exact hv)rfl;rw[Ans,Ans]at s1;rw[s1];rw[show VA.toList++(.int .i64((0:Nat):Int)::R)=VA.toList++([.int .i64((0:Nat):Int)]++R)from rfl,s2,Instr.fill];rfl
theorem Va{P:Program}{w:World}{ops:Array Oper}{rest:List Oper}{o:Oper}{a:Act}{Q:Exit→Act→World→Prop}(hgd:o.guard=none)(t:TypeId)(i0 i1:Nat)(x0 x1:Operand)(ho:o.op= .build t#[(i0,x0),(i1,x1)])(v0 v1:Value)(h0:a.eval x0=v0)(h1:a.eval x1=v1)(cells:Array Value)(hb:P.built t [(i0,v0),(i1,v1)]=some cells)
  (h:wpList P ops Q rest(a.put o.dst(.agg cells))w):wpList P ops Q(o::rest)a w:=by
 refine wpList_plain hgd fun K hK=>?_;unfold Oper.wp;rw[N4 w t _ ho cells(by simp only[List.map_toArray,Amc,An6,h0,h1];exact hb)];exact hK _ _ h
namespace Hm
def Co(root row:Nat):Nat:=if root<row then row-1 else row
def Dq(col:List UInt8)(ws:List Nat)(root row:Nat):UInt8×Nat:=
 if row=root then(0,0)else(col.getD(Co root row)0,C8 ws(col.getD(Co root row)0).toNat+(col.take(Co root row)).count(col.getD(Co root row)0))
theorem Md{root row n:Nat}(h1:root≤n)(h2:row≤n)(h3:row≠root):Co root row<n:=by
 unfold Co;split<;>omega
end Hm
structure E6(w:World)(pb o:Nat)(s:ByteArray)(len g ng nc:Nat)(nds:List Hm.Nd)(root:Nat)(ws:List Nat):Prop where
 tree:G1 w pb o s len g ng nc nds
 root:w.cell?⟨pb,o+773,none⟩=some(.int .i64(root:Nat))
 firsts: ∀b,b<256→w.cell?⟨pb,o+774+b,none⟩=some(.int .i64(C8 ws b:Nat))
theorem E6.kept{S:Nat→Prop}{w w':World}{pb o len g ng nc root:Nat}{s:ByteArray}{nds:List Hm.Nd}{ws:List Nat}(h:E6 w pb o s len g ng nc nds root ws)(hk:Aa S w w')(h1: ¬S pb)(h2: ¬S g)(h3: ¬S ng):E6 w' pb o s len g ng nc nds root ws:=
 have hp:pb<w.heap.size:=World.block_lt_of_cell? _ _ h.root
 ⟨h.tree.kept hk h1 h2 h3,(hk.cell(p:=⟨pb,o+773,none⟩)hp h1).trans h.root,fun b hb=>(hk.cell(p:=⟨pb,o+774+b,none⟩)hp h1).trans(h.firsts b hb)⟩
theorem Xz(pb o root row:Nat)(w:World)(h:w.cell?⟨pb,o+773,none⟩=some(.int .i64(root:Nat)))(hr:row≤1000000):
  Calls Tryz.prog 80#[.pointer(some⟨pb,o,none⟩),.int .i64 row]w fun e w'=>e= .returned(.int .i64(Co root row:Nat))∧w'=w:=by
 by_cases hlt:root<row
 ·have hd:decide(root<row)=true:=decide_eq_true hlt;have hd2:decide((root:Int)<(row:Int))=true:=decide_eq_true(by omega);have e:Co root row=row-1:=if_pos hlt;rw[e]
  go_enter Tryz.func80,Tryz.ntmps80
  go_wp2;go_ret;exact⟨by go_num,rfl⟩
 ·have hd:decide(root<row)=false:=decide_eq_false hlt;have hd2:decide((root:Int)<(row:Int))=false:=decide_eq_false(by omega);have e:Co root row=row:=if_neg hlt;rw[e]
  go_enter Tryz.func80,Tryz.ntmps80
  go_wp2;go_ret;exact⟨rfl,rfl⟩
theorem Af3(hones:Cg)(pb o len g ng nc root row:Nat)(s:ByteArray)(nds:List Hm.Nd)(ws:List Nat)(col:List UInt8)(w:World)(h:E6 w pb o s len g ng nc nds root ws)(ht:K1 s.data.toList nds col)(hrt:root≤col.length)(hrw:row≤col.length)(hs:s.size≤1000000)(hcl:col.length≤1000000)(hfs: ∀b,b<256→C8 ws b≤1000000000):
  Calls Tryz.prog 34#[.pointer(some⟨pb,o,none⟩),.int .i64 row]w fun e w'=>e= .returned(.tuple#[.int .u8((Dq col ws root row).1.toNat:Nat),.int .i64((Dq col ws root row).2:Nat)])∧Aa(fun _=>False)w w':=by
 have hroot:=h.root
 by_cases hr:row=root
 ·have e:Dq col ws root row=(0,0):=if_pos hr;rw[e];have hd:((row:Int)==(root:Int))=true:=by simp;omega
  clear h
  go_enter Tryz.func34,Tryz.ntmps34
  go_wp2_with fail;go_ret2;exact⟨rfl,Aa.refl _ _⟩
 ·have hd:((row:Int)==(root:Int))=false:=by simp;omega
  have hx:=Md hrt hrw hr;have e:Dq col ws root row=(col.getD(Co root row)0,C8 ws(col.getD(Co root row)0).toNat+(col.take(Co root row)).count(col.getD(Co root row)0)):=if_neg hr;rw[e];have hcol:=fun W(hW:E6 W pb o s len g ng nc nds root ws)=>Xz pb o root row W hW.root(by omega);have hby:=fun W(hW:E6 W pb o s len g ng nc nds root ws)=>Ai6 hones pb o len g ng nc(Co root row)s nds col W hW.tree ht hx hs hcl;generalize Co root row=ix at*;have hcn:(col.take ix).count(col.getD ix 0)≤1000000:=Alr List.count_le_length(by rw[Alg];omega);generalize hct:(col.take ix).count(col.getD ix 0)=ct at*;generalize hxe:col.getD ix 0=x at*;have hxl:x.toNat<256:=x.toNat_lt;have hfb:=hfs _ hxl;have HFC:Hid(∀W,E6 W pb o s len g ng nc nds root ws→W.cell?⟨pb,o+774+x.toNat,none⟩=some(.int .i64(C8 ws x.toNat:Nat))):=fun W hW=>hW.firsts _ hxl;generalize C8 ws x.toNat=fb at*;generalize x.toNat=xn at*;have HC:Hid _:=hcol;have HB:Hid _:=hby
  have HR:Hid(E6 w pb o s len g ng nc nds root ws):=h;clear h hcol hby hx e hct hxe hfs ht
  go_enter Tryz.func34,Tryz.ntmps34
  go_wp2_with fail
  go_region_held(fun X=>E6 X pb o s len g ng nc nds root ws)(first|exact k2|exact k1|exact HR.out.kept(Aa.refl(fun _=>False)w).drew id id id)
   (first
    |(go_at_call 80;(refine(HC.out _(HR.out.kept(Aa.refl(fun _=>False)w).drew id id id)).mono ?_;rintro e w1⟨rfl,hq1⟩;have hk1:Aa(fun _=>False)w w1:=(by rw[hq1];exact(Aa.refl(fun _=>False)w).drew);have k1:=HR.out.kept hk1 id id id;clear hq1))
    |(go_at_call 79;(refine(HB.out _ k1).mono ?_;rintro e w2⟨rfl,hq2⟩;have hk2:Aa(fun _=>False)w w2:=hk1.trans hq2(fun _ _ h=>h);have k2:=HR.out.kept hk2 id id id;clear hq2)))
  have hfc:=HFC.out _ k2;have hK2:Hid(Aa(fun _=>False)w w2):=hk2;clear k1 k2 hk1 hk2 HC HB HFC;go_wp2_with fail;go_quiet(fail);go_wp2_with fail;go_ret2;exact⟨by go_num,hK2.out.drewN _⟩
theorem Aji:(Tryz.prog.info? 9).map(fun i=>(i.zero,i.size,i.bytes))=some(some(.string⟨#[]⟩),1,16):=by kernel_rfl
namespace Hm
def Fq(l:List ByteArray):List Value:=l.map Value.string
def Au:Nat→Rd→List ByteArray×Rd
 |0,st=>([],st)
 |k+1,st=>((Au k st).1++[⟨(A8(Bx(Au k st).2 1).2(Bx(Au k st).2 1).1).1.toArray⟩],(A8(Bx(Au k st).2 1).2(Bx(Au k st).2 1).1).2)
theorem E9(st:Rd): ∀k,(Au k st).1.length=k
 |0=>rfl
 |k+1=>by rw[Au];simp[E9 st k]
theorem N7(st:Rd): ∀k,Be(Au k st).2≤Be st
 |0=>Alc _
 |k+1=>by
  have h1:=N7 st k;have h2:=Ea(Au k st).2 1;have h3:Be(A8(A8(Au k st).2 1).2(C3(A8(Au k st).2 1).1)).2≤Be(A8(Au k st).2 1).2:=Ea _ _;show Be(A8(A8(Au k st).2 1).2(C3(A8(Au k st).2 1).1)).2≤_;omega
def Eh(st:Rd)(m k:Nat):List Value:=Fq((Au k st).1++List.replicate(m-k)⟨#[]⟩)
theorem X0(st:Rd)(m k:Nat)(h:k≤m):(Eh st m k).length=m:=by
 unfold Eh Fq;rw[Alu,Ald,E9,Alf];omega
theorem Ab4(st:Rd)(m k:Nat)(h:k<m):Eh st m(k+1)=(Eh st m k).set k(.string⟨(A8(Bx(Au k st).2 1).2(Bx(Au k st).2 1).1).1.toArray⟩):=by
 have e:List.replicate(m-k)(⟨#[]⟩:ByteArray)=⟨#[]⟩::List.replicate(m-(k+1))⟨#[]⟩:=by rw[show m-k=(m-(k+1))+1 from by omega,Amt]
 unfold Eh Fq;rw[Au,e,←Amz,Amb _ _(by rw[E9];omega),E9,Ama,Ala,Alo];rfl
theorem Adq(st:Rd)(m k:Nat)(h:k<m):(Eh st m k)[k]?=some(.string⟨#[]⟩):=by
 unfold Eh Fq;rw[Aln,Alm(by rw[E9];omega),E9,Ama];rw[show m-k=(m-(k+1))+1 from by omega,Amt];rfl
end Hm
set_option maxHeartbeats 1000000 in
theorem Ahw(p:Nat)(st:Hm.Rd)(m:Nat)(w:World)(hr:Aw w p st)(hm:m≤255)(hll:Be st≤281474976710656):
  Calls Tryz.prog 66#[.pointer(some⟨p,0,none⟩),.int .i64 m]w fun e w'=>e= .returned(.slice(some⟨w.heap.size,0,none⟩)m m)∧
   w'.heap[w.heap.size]?=some(.cells(Fq(Au m st).1).toArray 9(0,0))∧Aw w' p(Au m st).2∧Aa(fun j=>j=p)w w':=by
 obtain⟨i0,hi,hz0,hz1,hz2⟩:=info_parts Aji;have hp:=hr.lt;have HR:Hid(Aw w p st∧Be st≤281474976710656):=⟨hr,hll⟩;clear hr
 go_enter Tryz.func66,Tryz.ntmps66
 go_wp2_with(at_make;refine wpList_make_full _ rfl(.tmp 7)(.tmp 7)26 rfl w.heap.size 9 i0(.string⟨#[]⟩)1 Tryz.underlying26 hi hz0 hz1 .i64 .i64 _ _ m rfl rfl rfl rfl(by rw[hz2];omega)(by unfold maxLen;omega)(Alc _)?_;intro w1 ho1 hg1)
 have hk1:Aa(fun _=>False)w w1:=(Aa.refl _ _).grown hg1(fun k hk=>by cases hk);have hr1:w1.heap[w.heap.size]?=some(.cells(Eh st m 0).toArray 9(0,0)):=by
  rw[Ana,show(Value.string⟨#[]⟩).cells= #[Value.string⟨#[]⟩]from rfl,toList_madeCells_one]at ho1;rcases ho1.2 with⟨h1,_⟩|⟨g2,cap,cur,h1,_,hg,_,_,hs,ht⟩
  ·cases h1
  ·cases h1;have e:cur.toList.take(m*1)=cur.toList:=Alw(by simp;omega);have e2:cur=(Eh st m 0).toArray:=by
    apply Amm;rw[←e,ht];simp[Eh,Au,Fq]
   rw[hg,e2]
 clear ho1 hg1;have HX:Hid(w1.heap[w.heap.size]?=some(.cells(Eh st m 0).toArray 9(0,0))∧Aa(fun _=>False)w w1):=⟨hr1,hk1⟩;clear hr1 hk1;go_wp2
 go_loopw [11](fun vi wr=> ∃k:Nat,k≤m∧vi= .int .i64 k∧wr.heap[w.heap.size]?=some(.cells(Eh st m k).toArray 9(0,0))∧Aw wr p(Au k st).2∧Aa(fun j=>j=p)w wr)(fun vi _=>m-(intOf vi).toNat)
 case atStart=>exact⟨0,by omega,rfl,HX.out.1,HR.out.1.kept HX.out.2 id,HX.out.2.wider(fun _ _ h=>h.elim)⟩
 case round=>
  obtain⟨k,hk,rfl,hrow,hrd,hkr⟩:=hrel
  by_cases hlt:k<m
  ·have hrs:=N7 st k;have hnu:=Kb p(Au k st).2 1 wr hrd(by have:=HR.out.2;omega)(by omega);have hx:=Hf(Au k st).2 1;have hrs2:=Ea(Au k st).2 1;have HTK:Hid(∀W,Aw W p(Bx(Au k st).2 1).2→Calls Tryz.prog 64#[.pointer(some⟨p,0,none⟩),.int .i64((Bx(Au k st).2 1).1:Nat)]W fun e w'=>e= .returned(.string⟨(A8(Bx(Au k st).2 1).2(Bx(Au k st).2 1).1).1.toArray⟩)∧Aw w' p(A8(Bx(Au k st).2 1).2(Bx(Au k st).2 1).1).2∧Aa(fun j=>j=p)W w'):=
    fun W h=>K5 p _ _ W h(by have:=HR.out.2;show Be(A8(Au k st).2 1).2≤_;omega)(by simp at hx;omega)
   have HNX:Hid(Eh st m(k+1)=(Eh st m k).set k(.string⟨(A8(Bx(Au k st).2 1).2(Bx(Au k st).2 1).1).1.toArray⟩)∧(Au(k+1)st).2=(A8(Bx(Au k st).2 1).2(Bx(Au k st).2 1).1).2):=⟨Ab4 st m k hlt,rfl⟩;have hbl:=Lk(Bx(Au k st).2 1).2(Bx(Au k st).2 1).1;have hrl:=X0 st m k hk;have hrg:=Adq st m k hlt;generalize(Bx(Au k st).2 1).1=x at*;generalize A8(Bx(Au k st).2 1).2 x=tk at*;obtain⟨S,hS⟩: ∃S,S=(⟨tk.1.toArray⟩:ByteArray):=⟨_,rfl⟩;have hSz:S.size≤281474976710656:=by rw[hS];show tk.1.toArray.size≤_;simp at hx⊢;omega
   rw[←hS]at HTK HNX;have hcl:=fun W=>Om S W hSz;have H0:Hid(wr.heap[w.heap.size]?=some(.cells(Eh st m k).toArray 9(0,0))∧Aa(fun j=>j=p)w wr):=⟨hrow,hkr⟩;have hkI:(k:Int)<(m:Int):=by omega
   clear hS hrow hkr hrd hrs hrs2 hSz hbl hx;go_wp2_with fail;refine hnu.mono ?_;rintro e w2⟨rfl,hr2,hk2⟩;have htk:=HTK.out w2 hr2;have H2:Hid(Aa(fun j=>j=p)wr w2):=hk2;clear hnu hr2 hk2 HTK;go_wp2_with fail;refine htk.mono ?_;rintro e w3⟨rfl,hr3,hk3⟩;have H3:Hid(Aa(fun j=>j=p)wr w3∧Aw w3 p tk.2):=⟨H2.out.trans hk3(fun _ _ h=>h),hr3⟩;clear htk hr3 hk3 H2;go_wp2_with fail;refine(hcl _).mono ?_;rintro e w4⟨rfl,hk4⟩;have hk04:Aa(fun j=>j=p)wr w4:=H3.out.1.trans hk4(fun _ _ h=>h.elim);have hne:p≠w.heap.size:=by omega
   have hrow4:=hk04.row H0.out.1(fun h=>hne h.symm);have c1:w4.cell?⟨w.heap.size,k,none⟩=some(.string⟨#[]⟩):=by rw[cell_of_row _ _ k _ _ _ hrow4];simpa using hrg
   have f1:w4.frozen?⟨w.heap.size,k,none⟩=false:=frozen_of_row _ _ k _ _ hrow4;have H4:Hid(w4.heap[w.heap.size]?=some(.cells(Eh st m k).toArray 9(0,0))∧Aa(fun j=>j=p)w w4∧Aw w4 p tk.2):=⟨hrow4,H0.out.2.trans hk04(fun _ _ h=>h),H3.out.2.kept hk4 id⟩;clear hcl hk4 hk04 hrow4 H3 H0;go_wp2_with fail;go_roundw
   case rel=>
    refine⟨k+1,by omega,by go_num,?_,?_,H4.out.2.1.setCell(.inl(Alc _))_⟩
    ·have e3:(Eh st m k).toArray.setIfInBounds k(.string S)=((Eh st m k).set k(.string S)).toArray:=by apply Amm;simp
     rw[heap_setCell_same _ _ k _ _(.string S)H4.out.1,HNX.out.1,e3]
    ·rw[HNX.out.2];have hks:Aa(fun j=>j=w.heap.size)w4(w4.setCell⟨w.heap.size,k,none⟩(.string S)):=(Aa.refl(fun j=>j=w.heap.size)w4).setCell(p:=⟨w.heap.size,k,none⟩)(.inr rfl)_;exact H4.out.2.2.kept hks hne
   case measure=>simp[intOf];omega
  ·obtain rfl:k=m:=by omega
   have HRW:Hid(wr.heap[w.heap.size]?=some(.cells(Fq(Au k st).1).toArray 9(0,0))∧Aw wr p(Au k st).2∧Aa(fun j=>j=p)w wr):=by
    refine⟨?_,hrd,hkr⟩;rw[hrow];simp[Eh]
   clear hrow hrd hkr;go_wp2_with fail;go_ret;exact⟨rfl,HRW.out⟩
namespace Hm
def Gl(ws:List Nat)(col:List UInt8):Prop:=ws.length=256∧ ∀v:UInt8,ws.getD v.toNat 0=col.count v
theorem X1(col:List UInt8)(b:Nat)(hb:b<256):col.countP(fun x=>decide(x.toNat<b+1))=col.countP(fun x=>decide(x.toNat<b))+col.count(UInt8.ofNat b):=by
 induction col with
 |nil=>rfl
 |cons y r ih=>
  rw[Amo,Amo,List.count_cons,ih];have e:(UInt8.ofNat b).toNat=b:=by simp;omega
  rcases Al4 y.toNat b with h|h|h
  ·rw[decide_eq_true(show y.toNat<b+1 by omega),decide_eq_true h,show(y==UInt8.ofNat b)=false from by
    rw[beq_eq_false_iff_ne];intro x;rw[x,e]at h;omega]
   simp;omega
  ·rw[decide_eq_true(show y.toNat<b+1 by omega),decide_eq_false(show¬y.toNat<b by omega),show(y==UInt8.ofNat b)=true from by
    rw[beq_iff_eq];exact UInt8.toNat_inj.1(by rw[e];exact h)]
   simp;omega
  ·rw[decide_eq_false(show¬y.toNat<b+1 by omega),decide_eq_false(show¬y.toNat<b by omega),show(y==UInt8.ofNat b)=false from by
    rw[beq_eq_false_iff_ne];intro x;rw[x,e]at h;omega]
   simp
theorem Gl.first{ws:List Nat}{col:List UInt8}(h:Gl ws col): ∀b,b≤256→C8 ws b=1+col.countP fun x=>decide(x.toNat<b)
 |0,_=>by unfold C8;simp
 |b+1,hb=>by
  have ih:=h.first b(by omega);have h1:=h.1;have e:(UInt8.ofNat b).toNat=b:=by simp;omega
  have h2:=h.2(UInt8.ofNat b);rw[e,Ak7,Ak8(by omega),Am1]at h2;rw[Sd ws b(by omega),ih,X1 col b(by omega),h2];omega
theorem Gl.first_le{ws:List Nat}{col:List UInt8}(h:Gl ws col)(b:Nat)(hb:b≤256):C8 ws b≤col.length+1:=by
 rw[h.first b hb];have:=List.countP_le_length(p:=fun x:UInt8=>decide(x.toNat<b))(l:=col);omega
theorem Ajj(col:List UInt8)(x:UInt8):col.countP(fun y=>decide(y.toNat<x.toNat))+col.count x≤col.length:=by
 induction col with
 |nil=>simp
 |cons y r ih=>
  rw[Amo,List.count_cons,Alz]
  by_cases e:y=x
  ·subst e;simp;omega
  ·rw[show(y==x)=false from by rw[beq_eq_false_iff_ne];exact e];simp only[Bool.false_eq_true,if_false];split<;>omega
theorem Z4(col:List UInt8)(p:Nat)(hp:p<col.length):(col.take p).count(col.getD p 0)<col.count(col.getD p 0):=by
 obtain⟨x,hx⟩: ∃x,x=col.getD p 0:=⟨_,rfl⟩;have e:col=col.take p++x::col.drop(p+1):=by
  rw[hx,Ak7,Ak8 hp,Am1,←Alt hp,Amg]
 rw[←hx];have e2:col.count x=(col.take p).count x+(x::col.drop(p+1)).count x:=by rw[←List.count_append,←e]
 rw[e2,List.count_cons_self];omega
theorem Ahx{col:List UInt8}{ws:List Nat}(h:Gl ws col){root row:Nat}(h1:root≤col.length)(h2:row≤col.length):(Dq col ws root row).2≤col.length:=by
 unfold Dq;split
 ·exact Alk _
 ·rename_i hne;have hx:=Md h1 h2 hne;have a:=Z4 col(Co root row)hx;have b:=Ajj col(col.getD(Co root row)0);have c:=(col.getD(Co root row)0).toNat_lt;show C8 _ _+_≤_;rw[h.first _(by omega)];omega
def Cp(stp:Nat→UInt8×Nat)(row:Nat):Nat→List UInt8×Nat
 |0=>([],row)
 |k+1=>((stp(Cp stp row k).2).1::(Cp stp row k).1,(stp(Cp stp row k).2).2)
theorem Qv(stp:Nat→UInt8×Nat)(row:Nat): ∀k,(Cp stp row k).1.length=k
 |0=>rfl
 |k+1=>by show((_::_:List UInt8)).length=_;rw[Alz,Qv stp row k]
theorem Sf{col:List UInt8}{ws:List Nat}(h:Gl ws col){root row:Nat}(h1:root≤col.length)(h2:row≤col.length): ∀k,(Cp(Dq col ws root)row k).2≤col.length
 |0=>h2
 |k+1=>Ahx h h1(Sf h h1 h2 k)
def D0(l:List UInt8)(j:Nat):List Value:=Ag(List.replicate j 0++l)
theorem Ub(l:List UInt8)(j:Nat)(x:UInt8):(D0 l(j+1)).set j(.int .u8(x.toNat:Int))=D0(x::l)j:=by
 unfold D0 Ag;rw[show(Value.int .u8(x.toNat:Int))=(fun b:UInt8=>Value.int .u8(b.toNat:Int))x from rfl,←Amz,An8,Alo,Amb _ _(by rw[Alf];omega),Alf,Ama];rfl
theorem Uc(l:List UInt8)(j:Nat):(D0 l(j+1))[j]?=some(.int .u8 0):=by
 unfold D0 Ag;rw[Aln,An8,Alo,Alm(by rw[Alf];omega),Alf,Ama];rfl
end Hm
theorem Ow:(Tryz.prog.info? 5).map(fun i=>(i.zero,i.size,i.bytes))=some(some(.int .u8 0),1,1):=by kernel_rfl
theorem Ajk(hones:Cg)(pb o len g ng nc root row n:Nat)(s:ByteArray)(nds:List Hm.Nd)(ws:List Nat)(col:List UInt8)(w:World)(h:E6 w pb o s len g ng nc nds root ws)(ht:K1 s.data.toList nds col)(hws:Gl ws col)(hrt:root≤col.length)(hrw:row≤col.length)(hs:s.size≤1000000)(hcl:col.length≤1000000)(hn:n≤1000000):
  Calls Tryz.prog 33#[.func(.func 34)#[.pointer(some⟨pb,o,none⟩)]#[],.int .i64 row,.int .i64 n]w fun e w'=>e= .returned(.slice(some⟨w.heap.size,0,none⟩)n n)∧
   w'.heap[w.heap.size]?=some(.cells(Ag(Cp(Dq col ws root)row n).1).toArray 5(0,0))∧Aa(fun _=>False)w w':=by
 obtain⟨i0,hi,hz0,hz1,hz2⟩:=info_parts Ow;have hpw:pb<w.heap.size:=World.block_lt_of_cell? _ _ h.root;have HLO:Hid(∀k W,E6 W pb o s len g ng nc nds root ws→Calls Tryz.prog 34#[.pointer(some⟨pb,o,none⟩),.int .i64((Cp(Dq col ws root)row k).2:Nat)]W fun e w'=>e= .returned(.tuple#[.int .u8((Dq col ws root(Cp(Dq col ws root)row k).2).1.toNat:Nat),.int .i64((Dq col ws root(Cp(Dq col ws root)row k).2).2:Nat)])∧Aa(fun _=>False)W w'):=
  fun k W hW=>Af3 hones pb o len g ng nc root _ s nds ws col W hW ht hrt(Sf hws hrt hrw k)hs hcl(fun b hb=>by have:=hws.first_le b(by omega);omega)
 have HBL:Hid(∀k,(Cp(Dq col ws root)row k).2≤1000000):=fun k=>Alr(Sf hws hrt hrw k)hcl;have HR:Hid(E6 w pb o s len g ng nc nds root ws):=h;clear h ht hws;generalize Dq col ws root=stp at*
 go_enter Tryz.func33,Tryz.ntmps33
 go_wp2_with(at_make;refine wpList_make_full _ rfl(.tmp 9)(.tmp 9)79 rfl w.heap.size 5 i0(.int .u8 0)1 Tryz.underlying79 hi hz0 hz1 .i64 .i64 _ _ n rfl rfl rfl rfl(by rw[hz2];omega)(by unfold maxLen;omega)(Alc _)?_;intro w1 ho1 hg1)
 have hk1:Aa(fun _=>False)w w1:=(Aa.refl _ _).grown hg1(fun k hk=>by cases hk);have hr1:w1.heap[w.heap.size]?=some(.cells(D0 []n).toArray 5(0,0)):=by
  rw[Ana,show(Value.int .u8 0).cells= #[Value.int .u8 0]from rfl,toList_madeCells_one]at ho1;rcases ho1.2 with⟨h1,_⟩|⟨g2,cap,cur,h1,_,hg,_,_,hs,ht⟩
  ·cases h1
  ·cases h1;have e:cur.toList.take(n*1)=cur.toList:=Alw(by simp;omega);have e2:cur=(D0 []n).toArray:=by
    apply Amm;rw[←e,ht];simp[D0,Ag]
   rw[hg,e2]
 clear ho1 hg1;have HX:Hid(w1.heap[w.heap.size]?=some(.cells(D0 []n).toArray 5(0,0))∧Aa(fun _=>False)w w1):=⟨hr1,hk1⟩;clear hr1 hk1;have hwn:IntKind.i64.wrap((n:Int)-1)=(n:Int)-1:=by rw[IntKind.wrap_i64];omega
 go_wp2
 go_loopw [1,8](fun vr vi wr=> ∃j k:Nat,j+k=n∧vi= .int .i64((j:Int)-1)∧vr= .int .i64((Cp stp row k).2:Nat)∧wr.heap[w.heap.size]?=some(.cells(D0(Cp stp row k).1 j).toArray 5(0,0))∧Aa(fun _=>False)w wr)(fun _ vi _=>(intOf vi+1).toNat)
 case atStart=>exact⟨n,0,rfl,rfl,rfl,HX.out.1,HX.out.2⟩
 case round=>
  obtain⟨j,k,hjk,rfl,rfl,hrow,hkr⟩:=hrel;cases j with
  |zero=>
   have hk:k=n:=by omega
   subst hk;have hv:((0:Nat):Int)-1= -1:=rfl;rw[hv];have HF:Hid(wr.heap[w.heap.size]?=some(.cells(Ag(Cp stp row k).1).toArray 5(0,0))∧Aa(fun _=>False)w wr):=⟨hrow,hkr⟩;clear hrow hkr;go_wp2_with fail;go_ret;exact⟨rfl,HF.out⟩
  |succ j=>
   have hv:((j+1:Nat):Int)-1=(j:Int):=by omega
   rw[hv];have hne:pb≠w.heap.size:=by omega
   have hlo:=HLO.out k wr(HR.out.kept hkr id id id);have hbl:=HBL.out(k+1);have HN:Hid(Cp stp row(k+1)=((stp(Cp stp row k).2).1::(Cp stp row k).1,(stp(Cp stp row k).2).2)):=rfl;have HST:=Ub(Cp stp row k).1 j(stp(Cp stp row k).2).1;have hgt:=Uc(Cp stp row k).1 j;have H0:Hid(wr.heap[w.heap.size]?=some(.cells(D0(Cp stp row k).1(j+1)).toArray 5(0,0))∧Aa(fun _=>False)w wr):=⟨hrow,hkr⟩;have hd:decide((0:Int)≤(j:Int))=true:=decide_eq_true(by omega);have hjn:j<n:=by omega
   have hjI:(j:Int)<(n:Int):=by omega
   have hwj:IntKind.i64.wrap((j:Int)-1)=(j:Int)-1:=by rw[IntKind.wrap_i64];omega
   generalize stp(Cp stp row k).2=nx at*;generalize(Cp stp row k).2=r at*;generalize D0(Cp stp row k).1(j+1)=R at*;have HST':Hid(R.set j(.int .u8(nx.1.toNat:Int))=D0(nx.1::(Cp stp row k).1)j):=HST;clear hrow hkr HST;go_wp2_with fail;refine hlo.mono ?_;rintro e w2⟨rfl,hk2⟩;have hrow2:=hk2.row H0.out.1 id;have c1:w2.cell?⟨w.heap.size,j,none⟩=some(.int .u8 0):=by rw[cell_of_row _ _ j _ _ _ hrow2];simpa using hgt
   have f1:w2.frozen?⟨w.heap.size,j,none⟩=false:=frozen_of_row _ _ j _ _ hrow2;have H2:Hid(w2.heap[w.heap.size]?=some(.cells R.toArray 5(0,0))∧Aa(fun _=>False)w w2):=⟨hrow2,H0.out.2.trans hk2(fun _ _ h=>h)⟩;clear hlo hk2 hrow2 hgt;go_wp2_with fail;go_roundw
   case rel=>
    refine⟨j,k+1,by omega,rfl,by rw[HN.out],?_,H2.out.2.setCell(.inl(Alc _))_⟩;rw[HN.out];show _=some(Obj.cells(D0(nx.1::(Cp stp row k).1)j).toArray _ _);rw[←HST'.out];rw[←Ak9];exact heap_setCell_same _ _ j _ _ _ H2.out.1
   case measure=>simp[intOf]
namespace Hm
def Cu(s:List UInt8)(st:RS)(n:Nat):List Bool×RS:=if(D8 s st((n+7)/8)).2.2=true then([],(D8 s st((n+7)/8)).2)else((List.range n).map(Al(D8 s st((n+7)/8)).1),(D8 s st((n+7)/8)).2)
def G4(f:Nat→Bool)(n i:Nat):List UInt8:=Ad((List.range i).map f)++List.replicate(n-i)0
theorem Af4(f:Nat→Bool)(n i:Nat)(h:i<n):(G4 f n i)[i]?=some 0:=by
 unfold G4 Ad;rw[Alm(by simp)];simp[List.getElem?_replicate];omega
theorem Af5(f:Nat→Bool)(n i:Nat)(h:i<n):(G4 f n i).set i(if f i then 49 else 48)=G4 f n(i+1):=by
 unfold G4 Ad;rw[Amb _ _(by simp)];simp only[Alu,Ani,Ama];rw[show n-i=(n-(i+1))+1 from by omega,Amt,Ala,Anb,Amp,Amp];simp
end Hm
theorem Ud{w:World}{g:Nat}{t:List UInt8}(h:w.heap[g]?=some(.cells(Ag t).toArray 5(0,0)))(k c:Nat)(hk:t.length=k):(convert 79 9(.slice(some⟨g,0,none⟩)k c)).run Tryz.prog w= .ok(.string⟨t.toArray⟩)w:=by
 have hr:=run_convert_bytes_arg w _ _ Tryz.underlying79 Tryz.underlying5 g 0 k c(t.map fun b=>(b.toNat:Int))(by rw[Alu];exact hk)(fun i hi=>by
  have hil:i<t.length:=by omega
  rw[Alv,cell_of_row _ _ i _ _ _ h,Alp,Ag,Aln,Ak7,Aln,Ak8 hil];rfl)_ Tryz.underlying9
 have e:strOfNums(t.map fun b=>(b.toNat:Int))=⟨t.toArray⟩:=by
  unfold strOfNums;rw[List.map_map];have e2:((fun n:Int=>UInt8.ofNat n.toNat)∘fun b:UInt8=>(b.toNat:Int))=id:=by funext b;simp
  rw[e2,List.map_id]
 rw[e]at hr;exact hr
set_option maxRecDepth 20000 in
set_option maxHeartbeats 1000000 in
theorem Y3(p n:Nat)(s:List UInt8)(st:Hm.RS)(w:World)(h:Cj w p s st)(hn:n≤1000000)(hst:st.1≤s.length)(hs:s.length≤30000):
  Calls Tryz.prog 120#[.pointer(some⟨p,0,none⟩),.int .i64 n]w fun e w'=>e= .returned(.string⟨(Ad(Cu s st n).1).toArray⟩)∧Cj w' p s(Cu s st n).2∧Aa(fun j=>j=p)w w':=by
 obtain⟨i0,hi,hz0,hz1,hz2⟩:=info_parts Ow;have hpt:=Yn p((n+7)/8)s st w h(by omega)hst hs;have hpw:p<w.heap.size:=lt_of_block h;have HRB:Hid(Cu s st n=if(D8 s st((n+7)/8)).2.2=true then([],(D8 s st((n+7)/8)).2)else((List.range n).map(Al(D8 s st((n+7)/8)).1),(D8 s st((n+7)/8)).2)):=rfl;have HLE:Hid((D8 s st((n+7)/8)).2.2=false→(D8 s st((n+7)/8)).1.length=(n+7)/8):=fun hb=>by
  unfold D8 at hb⊢;split at hb
  ·cases hb
  ·rename_i hc;rw[if_neg hc];show((s.drop st.1).take((n+7)/8)).length=_;rw[Alg,Aly];have: ¬s.length<st.1+(n+7)/8:=fun h=>hc(.inr h);omega
 generalize Cu s st n=RB at*;generalize D8 s st((n+7)/8)=R at*;obtain⟨T,st1⟩:=R;obtain⟨a1,bad⟩:=st1;have z8:((n:Int)+7)/8=(((n+7)/8:Nat):Int):=by omega
 generalize(n+7)/8=m at*;clear h hst
 go_enter Tryz.func120,Tryz.ntmps120
 go_wp2_with fail;refine hpt.mono ?_;rintro e w1⟨rfl,hr1,hk1⟩;have hr1':w1.heap[p]?=some(.cells#[.string⟨s.toArray⟩,.int .i64(a1:Nat),.bool bad]145(0,0)):=hr1;have c2:w1.cell?⟨p,2,none⟩=some(.bool bad):=cell_of_row _ _ 2 _ _ _ hr1';obtain⟨S,hS⟩: ∃S,S=(⟨T.toArray⟩:ByteArray):=⟨_,rfl⟩;have hSs:S.size=T.length:=by rw[hS];show T.toArray.size=_;simp
 have hSd:S.data.toList=T:=by rw[hS]
 have H1:Hid(Cj w1 p s(a1,bad)∧Aa(fun j=>j=p)w w1):=⟨hr1,hk1⟩;rw[←hS];clear hpt hr1 hk1 hr1' hS;cases bad with
 |true=>
  go_wp2_with fail;go_ret;rw[HRB.out];exact⟨rfl,H1.out.1,H1.out.2⟩
 |false=>
  have hTl:=HLE.out rfl
  go_wp2_with(at_make;refine wpList_make_full _ rfl(.tmp 17)(.tmp 17)79 rfl w1.heap.size 5 i0(.int .u8 0)1 Tryz.underlying79 hi hz0 hz1 .i64 .i64 _ _ n rfl rfl rfl rfl(by rw[hz2];omega)(by unfold maxLen;omega)(Alc _)?_;intro w2 ho1 hg1)
  have hk2:Aa(fun _=>False)w1 w2:=(Aa.refl _ _).grown hg1(fun k hk=>by cases hk);have hr2:w2.heap[w1.heap.size]?=some(.cells(Ag(G4(Al T)n 0)).toArray 5(0,0)):=by
   rw[Ana,show(Value.int .u8 0).cells= #[Value.int .u8 0]from rfl,toList_madeCells_one]at ho1;rcases ho1.2 with⟨h1,_⟩|⟨g2,cap,cur,h1,_,hg,_,_,hs,ht⟩
   ·cases h1
   ·cases h1;have e:cur.toList.take(n*1)=cur.toList:=Alw(by simp;omega);have e2:cur=(Ag(G4(Al T)n 0)).toArray:=by
     apply Amm;rw[←e,ht];simp[G4,Ad,Ag]
    rw[hg,e2]
  have hw1p:p<w1.heap.size:=lt_of_block H1.out.1;have H2:Hid(Cj w2 p s(a1,false)∧Aa(fun j=>j=p)w w2∧w2.heap[w1.heap.size]?=some(.cells(Ag(G4(Al T)n 0)).toArray 5(0,0))):=⟨hk2.row H1.out.1 id,H1.out.2.trans(hk2.wider(T:=fun j=>j=p)(fun _ _ h=>h.elim))(fun _ _ h=>h),hr2⟩;have hwle:=H1.out.2.size;clear ho1 hg1 hk2 hr2;obtain⟨g,hg⟩: ∃g,g=w1.heap.size:=⟨_,rfl⟩;rw[←hg]at H2 hw1p hwle⊢;clear hg;go_wp2_with fail
  go_loopw [7](fun vi wr=> ∃i:Nat,i≤n∧vi= .int .i64 i∧wr.heap[g]?=some(.cells(Ag(G4(Al T)n i)).toArray 5(0,0))∧Aa(fun j=>j=g)w2 wr)(fun vi _=>n-(intOf vi).toNat)
  case atStart=>exact⟨0,Alk _,rfl,H2.out.2.2,Aa.refl _ _⟩
  case round=>
   obtain⟨i,hi',rfl,hrow,hkr⟩:=hrel
   by_cases hlt:i<n
   ·obtain⟨q,hq⟩: ∃q,q=i/8:=⟨_,rfl⟩;obtain⟨r,hr⟩: ∃r,r=i%8:=⟨_,rfl⟩;have zq:(i:Int)/8=(q:Int):=by omega
    have zr:(i:Int)%8=(r:Int):=by omega
    have hr8:r<8:=by omega
    have hqS:q<S.size:=by omega
    have hqI:(q:Int)<(S.size:Int):=by omega
    have hqT:(q:Int)<(T.length:Int):=by omega
    have hltI:(i:Int)<(n:Int):=by omega
    have hg0:T.getD q 0=S[q]:=by
     rw[←hSd,Ak7,Ak8(by simpa using hqS)];rfl
    have c0:wr.cell?⟨g,i,none⟩=some(.int .u8 0):=by
     rw[cell_of_row _ _ i _ _ _ hrow,Alp,Ag,Aln,Af4 _ _ _ hlt];rfl
    have f0:wr.frozen?⟨g,i,none⟩=false:=frozen_of_row _ _ i _ _ hrow;have hbl:=S[q].toNat_lt;obtain⟨b,hb⟩: ∃b,b=S[q].toNat:=⟨_,rfl⟩;obtain⟨d,hd⟩: ∃d,d=b/2^r%2:=⟨_,rfl⟩;have HV:Hid(((if Al T i then 49 else 48:UInt8).toNat:Nat)=48+d):=by
     show _=_;unfold Al;rw[←hq,←hr,hg0,←hb,←hd];have:d<2:=by rw[hd];exact Nat.mod_lt _(by omega)
     rcases(show d=0∨d=1 by omega)with e|e<;>rw[e]<;>rfl
    have HNX:Hid((G4(Al T)n i).set i(if Al T i then 49 else 48)=G4(Al T)n(i+1)):=Af5 _ _ _ hlt;have HR:Hid(wr.heap[g]?=some(.cells(Ag(G4(Al T)n i)).toArray 5(0,0))∧Aa(fun j=>j=g)w2 wr):=⟨hrow,hkr⟩;have HBD:Hid(b=S[q].toNat∧d=b/2^r%2∧b<256):=⟨hb,hd,by omega⟩;clear hq hr hg0 hrow hkr hd hb;go_wp2_with fail;go_roundw
    case rel=>
     obtain⟨hb,hd,hb2⟩:=HBD.out;have hv:((48:Int)+((S[q].toNat:Int)/2^r).tmod 2)%256=(((if Al T i then 49 else 48:UInt8).toNat:Nat):Int):=by
      have e1:(S[q].toNat:Int)/2^r=((b/2^r:Nat):Int):=by rw[←hb];simp
      rw[HV.out,e1,Int.tmod_eq_emod_of_nonneg(Int.natCast_nonneg _)];generalize b/2^r=z at hd⊢;omega
     rw[hv];refine⟨i+1,by omega,by go_num,?_,HR.out.2.setCell(p:=⟨g,i,none⟩)(.inr rfl)_⟩;rw[heap_setCell_same wr g i _ _ _ HR.out.1,←HNX.out];congr 2;apply Amm;unfold Ag;rw[Amz];simp
    case measure=>simp[intOf];omega
   ·have hin:i=n:=by omega
    have hltI: ¬(i:Int)<(n:Int):=by omega
    have hfull:G4(Al T)n i=Ad((List.range n).map(Al T)):=by
     unfold G4;rw[hin,Ama,Aoc,Amk]
    rw[hfull]at hrow;have hcv:=Ud hrow n n(by simp[Ad]);have HF:Hid(Cj wr p s(a1,false)∧Aa(fun j=>j=p)w wr):=⟨hkr.row H2.out.1(by omega),H2.out.2.1.trans hkr(fun j hj e=>by omega)⟩;clear hrow hkr hfull hin;go_wp2_with fail;go_ret;rw[HRB.out];exact⟨rfl,HF.out.1,HF.out.2⟩
end Go.Proofs.YtegnkfdbmmndaaaGreat
namespace Go.Proofs.YtegnkfdbmmndaaaGreat
open Hm
namespace Hm
theorem Sg(nds:List Nd){i j:Nat}(h:i≤j):C7 nds i≤C7 nds j:=by
 induction j with
 |zero=>rw[show i=0 by omega];exact Alc _
 |succ j ih=>
  by_cases e:i=j+1
  ·subst e;exact Alc _
  ·have:=ih(by omega);show _≤C7 nds j+_;omega
theorem K6(l:List UInt8)(a k:Nat)(h:k<8*a):Al(l.take a)k=Al l k:=by
 unfold Al;rw[Ak7,Amw(by omega),Ak7]
theorem N8{l:List UInt8}{n:Nat}{L:List Nat}{st:B6}(h:Fp l n L st):
  ∃col:List UInt8,col.length=n∧K1(l.take(szB st.len))st.nds col∧Gl st.ws col:=by
 obtain⟨hC,hl⟩:=h;obtain⟨h0,hE⟩:=P9 hC;have hsh:=hE.nodes;have hlk:=Lo hl;have hinv:=Ol hsh hC.nodup rfl(Alc _)hl;have hle:=Lc hl;have hs2:=hsh.like hlk.1;have hll0:(Dz L).length=st.nds.length:=hlk.1.1.symm
 replace hinv:Lp(Al(l.take(szB(Fo l n L))))n(Dz L).length st:=hinv
 rw[hll0]at hinv;obtain⟨col,c1,c2,c3,c4⟩:=Aa4 hinv rfl hs2 hC.numk hC.num_lt hC.pos;have hm:Fo l n L≤8*l.length:=Nat.min_le_left _ _;have hsz:st.len≤8*szB st.len:=by unfold szB;omega
 have hll:(l.take(szB st.len)).length=szB st.len:=by rw[Alg];unfold szB;omega
 have fits: ∀j,j<st.nds.length→(Ab st.nds j).frm+(Ab st.nds j).siz≤st.len:=fun j hj=>by
  rw[c3.frm j hj,hinv.len];exact Sg st.nds(show j+1≤st.nds.length by omega)
 refine⟨col,c1,⟨32,lnB L,Bp L,Af L,⟨c3.siz,c3.frm,fun j p hj hp=>?_⟩,hs2,hC.numk,c2,hC.pos,hC.num_lt,fun j hj=>?_⟩,hinv.wl,c4⟩
 ·have hf:=fits j hj;rw[←c3.bit j p hj hp,K6 l _ _(by omega),K6 l _ _(by unfold szB;omega)]
 ·rw[hll];have hf:=fits j hj;omega
theorem Ahy{l:List UInt8}{n:Nat}{L:List Nat}{st:B6}(h:Fp l n L st)(x:Nat)(hx:x∈st.ws):x≤n:=by
 obtain⟨col,c1,_,c3,c4⟩:=N8 h;obtain⟨i,hi,e⟩:=Al7 hx;have h1:=c4(UInt8.ofNat i);rw[show(UInt8.ofNat i).toNat=i from by simp;omega,Ak7,Ak8 hi,Am1,e]at h1;rw[h1,←c1];exact List.count_le_length
end Hm
end Go.Proofs.YtegnkfdbmmndaaaGreat
