import Derived.Test.YtegnkfdbmmndaaaGreatJ00
import Derived.Test.YtegnkfdbmmndaaaGreatJ20
import Derived.Test.YtegnkfdbmmndaaaGreatJ07
import Derived.Test.YtegnkfdbmmndaaaGreatJ17
import Derived.Test.YtegnkfdbmmndaaaGreatJ03
import Derived.Test.YtegnkfdbmmndaaaGreatJ08

namespace Go.Proofs.YtegnkfdbmmndaaaGreat
open Hm
open Go.RowKit
theorem Ahy:(Tryz.prog.info? 94).map (·.size)=some 256:=by kernel_rfl
set_option maxRecDepth 100000 in
set_option maxHeartbeats 2000000 in
theorem Ab2(VA:Array Value)(root:Nat)(ws:List Nat)(w:World)(hv:VA.size=773)(hv1:VA.all (·.oneCell')=true)(hwl:ws.length=256)(hw: ∀b,b<256→VA[516+b]?=some (.int .i64 (ws.getD b 0:Nat)))(hwb: ∀x∈ws,x≤1000000):
  Calls Tryz.prog 68 #[.agg VA,.int .i64 root] w fun e w'=>e= .returned (.agg (B7 VA root (Hm.firsts ws)).toArray)∧Apd w w':=by
 have hbr:=Af1 VA root hv;obtain⟨R0,hR0⟩: ∃R,R=(B7 VA root (List.replicate 256 0)).toArray:=⟨_,rfl⟩;have hR0s:R0.size=1030:=by rw[hR0,Alq];exact Io VA root _ hv Alj
 have hR01:R0.all (·.oneCell')=true:=by rw[hR0];exact Sb VA root _ hv1
 have hzs:Tryz.zeroCells98.size=1030:=by rw[Ado,Alq];exact Io _ 0 _ Hf Alj
 rw[←hR0]at hbr;have HR0:Hid (R0=(B7 VA root (Cq ws 0)).toArray):=by show _=_;rw[hR0,Zz]
 obtain⟨W0,hW0⟩: ∃W0,W0=(w.alloc (.cells VA 96)).alloc (.cells Tryz.zeroCells98 98):=⟨_,rfl⟩;have hk0:Apd w W0:=by rw[hW0];exact((Aa.refl _ _).alloc _).alloc _
 have hb0:W0.heap[w.heap.size]?=some (.cells VA 96 (0,0)):=by rw[hW0];exact Anw w _ _
 have hb1:W0.heap[w.heap.size+1]?=some (.cells Tryz.zeroCells98 98 (0,0)):=by rw[hW0];exact Anx w _ _
 have HW:Hid ((w.alloc (.cells VA 96)).alloc (.cells Tryz.zeroCells98 98)=W0):=hW0.symm;have HV:Hid (VA.size=773∧VA.all (·.oneCell')=true∧ws.length=256∧(∀b,b<256→VA[516+b]?=some (.int .i64 (ws.getD b 0:Nat)))∧(∀x∈ws,x≤1000000)):=⟨hv,hv1,hwl,hw,hwb⟩;clear hW0 hR0 hw hwb hv1;have HRG:Hid (∀X,Aa (fun j=>j=W0.heap.size) (W0.alloc (.cells Tryz.zeroCells98 98)) X→X.rangeAt w.heap.size 516 (Ac ws)):=fun X hk=>by
  have hs0:=Alw hb0;have hb01:=hk.row (((Aa.refl (fun _=>False) W0).alloc (.cells Tryz.zeroCells98 98)).row hb0 id) (by omega);have h:=World.rangeAt_of_block hb01 516 256;have e:(VA.extract 516 (516+256)).toList=Ac ws:=by
   apply List.ext_getElem?;intro i
   by_cases hi:i<256
   ·have h2:=HV.out.2.2.2.1 i hi;rw[Array.getElem?_toList,Array.getElem?_extract];simp only[Ac,Alu];rw[if_pos (by rw[hv];omega),h2,Ak7 (by rw[hwl];exact hi),Ak6,Ak7 (by rw[hwl];exact hi)];rfl
   ·rw[Al3 (by simp[hv];omega),Al3 (by simp[Ac,hwl];omega)]
  rwa[e]at h
 have hil:(Ac ws).length=256:=by simp[Ac,hwl]
 go_enter Tryz.func68,Tryz.ntmps68
 go_upto_region 1 with fail
 rw[HW.out];clear HW
 go_wp2_with(first
  |(refine Amd rfl 96 _ rfl w.heap.size rfl 96 VA (0,0) _ hb0 Tryz.underlying96 rfl (by rw[hv];exact B6) ?_)
  |(refine U7 rfl 98 0 1 (.tmp 9) (.tmp 10) rfl _ _ rfl rfl R0 hbr ?_)
  |(refine wpList_store_row _ rfl 98 _ _ rfl W0.heap.size 98 Tryz.zeroCells98 R0 rfl rfl (All W0 _) (by rw[hR0s];exact Mo) (by rw[hR0s];exact hzs) hR01 ?_;intro w1 hw1 hk1)
  |(refine wpList_load_mid rfl 94 _ rfl w.heap.size 516 rfl (Ac ws) _ (HRG.out _ hk1) Tryz.underlying94 rfl (by rw[hil];exact Ahy) ?_))
 have hk01:Apd W0 w1:=((Aa.refl (fun _=>False) W0).alloc _).trans hk1 (fun j h1 h2=>by omega);have hb11:=hk01.row hb1 id;have hs1:w.heap.size+1<W0.heap.size:=Alw hb1;have H1:Hid (Apd w w1∧w1.heap[w.heap.size+1]?=some (.cells Tryz.zeroCells98 98 (0,0))∧w1.heap[W0.heap.size]?=some (.cells (B7 VA root (Cq ws 0)).toArray 98 (0,0))∧w.heap.size+1<W0.heap.size):=⟨hk0.trans hk01 (fun _ _ h=>h),hb11,by rw[hw1,HR0.out],hs1⟩;clear hk0 hk01 hb0 hb1 hb11 hk1 hw1 hbr hR01 HR0 hs1 HRG;generalize W0.heap.size=g at*
 go_loopw[6,14] (fun vf vi wr=> ∃k:Nat,k≤256∧vi= .int .i64 k∧vf= .int .i64 (C5 ws k:Nat)∧wr.heap[g]?=some (.cells (B7 VA root (Cq ws k)).toArray 98 (0,0))∧Apd w wr∧wr.heap[w.heap.size+1]?=some (.cells Tryz.zeroCells98 98 (0,0))) (fun _ vi _=>256-(intOf vi).toNat)
 case atStart=>exact⟨0,by omega,rfl,rfl,H1.out.2.2.1,H1.out.1,H1.out.2.1⟩
 case round=>
  obtain⟨k,hk,rfl,rfl,hrow,hkr,hres⟩:=hrel;have hfb:C5 ws k≤1+256*1000000:=by
   have h1:=Aky (ws.take k) 1000000 (fun x hx=>HV.out.2.2.2.2 x (List.mem_of_mem_take hx));have h2:(ws.take k).length*1000000≤256*1000000:=Amk (by rw[Aln];omega) (Ale _);unfold C5;omega
  by_cases hlt:k<256
  ·have hix:=fun W=>Mz 94 256 Tryz.underlying94 ws k (by omega) hwl W;have hkw:k<ws.length:=by omega
   have hxb:=HV.out.2.2.2.2 ws[k] (Alo _);have HF:Hid (C5 ws (k+1)=C5 ws k+ws[k]):=Sa ws k hkw;have HR:Hid ((B7 VA root (Cq ws k)).set (774+k) (.int .i64 (C5 ws k:Nat))=B7 VA root (Cq ws (k+1))):=by show _=_;rw[Ahs VA root _ hv,Z0 ws k hlt]
   have c1:wr.cell? ⟨g,774+k,none⟩=some (.int .i64 ((Cq ws k).getD k 0:Nat)):=by
    rw[Alc _ _ _ _ _ _ hrow,Alz,Aht VA root _ hv k (by rw[Ga];exact hlt)]
   have f1:wr.frozen? ⟨g,774+k,none⟩=false:=Alk _ _ _ _ _ hrow;have H2:Hid (wr.heap[g]?=some (.cells (B7 VA root (Cq ws k)).toArray 98 (0,0))∧Apd w wr∧wr.heap[w.heap.size+1]?=some (.cells Tryz.zeroCells98 98 (0,0))):=⟨hrow,hkr,hres⟩;generalize(Cq ws k).getD k 0=old at*;generalize C5 ws k=fa at*;generalize ws[k]=x at*;have hk256:(k:Int)<256:=by omega
   clear hrow hkr hres;go_wp2_with fail;have e3:(B7 VA root (Cq ws k)).toArray.setIfInBounds (774+k) (.int .i64 (fa:Nat))=(B7 VA root (Cq ws (k+1))).toArray:=by rw[←HR.out];apply Am6;simp
   have hgw:=H1.out.2.2.2;exact⟨⟨k+1,by omega,by go_num,by rw[HF.out];go_num,by rw[Alf _ _ (774+k) _ _ (.int .i64 (fa:Nat)) H2.out.1,e3],H2.out.2.1.setCell (p:=⟨g,774+k,none⟩) (.inl (by show w.heap.size≤g;omega)) _,((Aa.refl (fun j=>j=g) wr).setCell (p:=⟨g,774+k,none⟩) (.inr rfl) _).row H2.out.2.2 (by omega)⟩,by simp[intOf];omega⟩
  ·obtain rfl:k=256:=by omega
   have hall:=Sb VA root (Cq ws 256) HV.out.2.1;have hsz9:(B7 VA root (Cq ws 256)).toArray.size=1030:=by rw[Alq];exact Io VA root _ hv (Ga _ _)
   have HFA:Hid (B7 VA root (Cq ws 256)=B7 VA root (Hm.firsts ws)):=by show _=_;rw[Ab0]
   obtain⟨RA,hRA⟩: ∃A,A=(B7 VA root (Cq ws 256)).toArray:=⟨_,rfl⟩;rw[←hRA]at hrow hall hsz9;have HRA:Hid (RA=(B7 VA root (Cq ws 256)).toArray):=hRA;have H2:Hid (wr.heap[g]?=some (.cells RA 98 (0,0))∧Apd w wr∧wr.heap[w.heap.size+1]?=some (.cells Tryz.zeroCells98 98 (0,0))):=⟨hrow,hkr,hres⟩;generalize C5 ws 256=fa at*;clear hrow hkr hres hRA
   go_wp2_with(first
    |(refine Amd rfl 98 _ rfl g rfl 98 RA (0,0) _ H2.out.1 Tryz.underlying98 rfl (by rw[hsz9];exact Mo) ?_)
    |(refine wpList_store_row _ rfl 98 _ _ rfl (w.heap.size+1) 98 _ RA rfl rfl H2.out.2.2 (by rw[hsz9];exact Mo) (by rw[hsz9];exact hzs) hall ?_;intro w9 hw9 hk9))
   refine Amo (v:= .agg RA) (Am3 Tryz.results68 _ w9 (w.heap.size+1) 98 RA (0,0) _ rfl hw9 Tryz.underlying98 rfl (by rw[hsz9];exact Mo)) rfl ⟨by rw[HRA.out,HFA.out],H2.out.2.1.trans hk9 (fun j h1 h2=>by omega)⟩
namespace Hm
def Aw(n:Nat):Nat:=n+1+(n/8+1)*Lib.bitLen (n/8)
structure Gk(l:List UInt8)(n:Nat):Prop where
 fits:szB (Aw n)≤l.length
 told:rk (Ak (l.take (szB (Aw n)))) (n+1)=n/8+1
end Hm
def Ht(l:List UInt8)(n g:Nat):List Value:=[.string ⟨(l.take (Hm.szB (Aw n))).toArray⟩,.int .i64 (Aw n:Nat),.slice (some ⟨g,0,none⟩) (Hm.szB (Aw n)+1) (Hm.szB (Aw n)+1),.int .i64 (n:Nat)]
def Dj:List Value:=[.string ⟨#[]⟩,.int .i64 0,.slice none 0 0,.int .i64 0]
theorem Af5{n:Nat}: ¬Gk [] n:=fun h=>by
 have h1:=h.fits;have h2:1≤Aw n:=Al2 (Nat.le_add_left 1 n) (Apa _ _);unfold Hm.szB at h1;simp at h1;omega
theorem Y1(n:Nat)(hn:n≤65535): ∃td bl tb,td=n/8+1∧bl=Lib.bitLen (n/8)∧tb=td*bl∧tb≤106496∧td≤8192∧bl≤13∧Aw n=n+1+tb:=by
 have hbl:Lib.bitLen (n/8)≤13:=Lib.bitLen_le _ 13 (by omega) (by omega);have htd:n/8+1≤8192:=by omega
 exact⟨_,_,_,rfl,rfl,rfl,Amk htd hbl,htd,hbl,rfl⟩
set_option maxRecDepth 100000 in
set_option maxHeartbeats 2000000 in
theorem Wc(hones:Cd)(hLn:Lb)(l:List UInt8)(n:Nat)(w:World)(hn:n≤65535)(hll:l.length≤4611686018427387904):
  Calls Tryz.prog 119 #[.string ⟨l.toArray⟩,.int .i64 n] w fun e w'=>Apd w w'∧
   ((Gk l n∧ ∃g,w.heap.size≤g∧e= .returned (.tuple #[.agg (Ht l n g).toArray,.bool true])∧IntRow w' g (Bt (l.take (Hm.szB (Aw n)))))∨
    (¬Gk l n∧e= .returned (.tuple #[.agg Dj.toArray,.bool false]))):=by
 obtain⟨td,bl,tb,htd,hble,htb,htbb,htdb,hbl,HEL0⟩:=Y1 n hn;have HEL:Hid (Aw n=n+1+tb):=HEL0;have hpw:=fun W=>Pj hLn n W (by omega);have hel:Aw n≤200000:=by omega
 have hsz:=fun W=>Pw (Aw n) W (by omega);obtain⟨S,hS⟩: ∃S,S=(⟨l.toArray⟩:ByteArray):=⟨_,rfl⟩;have hz:S.size=l.length:=by rw[hS];show l.toArray.size=_;simp
 have HZ:Hid (Hm.szB (Aw n)=(Aw n+7)/8):=rfl;rw[←HZ.out]at hsz;have hzb:Hm.szB (Aw n)≤100000:=by rw[HZ.out];omega
 have hnl:n+1≤8*Hm.szB (Aw n):=by rw[HZ.out];omega
 have zt:(n:Int)/8+1=(td:Int):=by omega
 rw[←hble]at hpw;have hw1:IntKind.i64.wrap ((td:Int)*(bl:Int))=(tb:Int):=by rw[Al9,←Aop,←htb];clear htb;omega
 have hw2:wrap64 ((td:Int)*(bl:Int))=(tb:Int):=by rw[←Aop,←htb];unfold wrap64;clear htb;omega
 have hadd:(n:Int)+1+(tb:Int)=(Aw n:Int):=by clear htb;omega
 have HTD:Hid (td=n/8+1):=htd;clear htb HEL0
 by_cases hfit:Hm.szB (Aw n)≤l.length
 ·have hrd:=fun W=>Lm l (Aw n) W hfit (by omega) hll;rw[←HZ.out,←hS]at hrd;obtain⟨T,hT⟩: ∃T,T=(⟨(l.take (Hm.szB (Aw n))).toArray⟩:ByteArray):=⟨_,rfl⟩;have hTl:T.data.toList=l.take (Hm.szB (Aw n)):=by rw[hT]
  have hTz:T.size=Hm.szB (Aw n):=by rw[hT];show(l.take _).toArray.size=_;simp;omega
  rw[←hT]at hrd;have hcn:=fun W=>Jp hones T (Aw n) W (by omega);rw[hTz,hTl]at hcn;have HON:Hid (∀W pb g,C2 W pb 0 T (Aw n) g→Calls Tryz.prog 126 #[.pointer (some ⟨pb,0,none⟩),.int .i64 ((n:Int)+1)] W fun e w'=>e= .returned (.int .i64 (Hm.rk (Ak (l.take (Hm.szB (Aw n)))) (n+1):Nat))∧w'=W):=fun W pb g h=>by
   have hh:=Jr hones pb 0 g (Aw n) (n+1) T W h (by rw[hTz];exact hnl) (by omega);rwa[hTl,show((n+1:Nat):Int)=(n:Int)+1 from by omega]at hh
  have HOK:Hid (Gk l n↔Hm.rk (Ak (l.take (Hm.szB (Aw n)))) (n+1)=td):=⟨fun h=>by rw[h.told,HTD.out],fun h=>⟨hfit,by rw[h,HTD.out]⟩⟩;have HCE:Hid (∀g,Ht l n g=[.string T,.int .i64 (Aw n:Nat),.slice (some ⟨g,0,none⟩) (Hm.szB (Aw n)+1) (Hm.szB (Aw n)+1),.int .i64 (n:Nat)]):=fun g=>by rw[hT];rfl
  have HCT:Hid (∀g W,IntRow W g (Bt (l.take (Hm.szB (Aw n))))→IntRow W g (Bt T.data.toList)):=fun g W h=>by rw[hTl];exact h
  rw[←hS];have HTZ:Hid (T.size=Hm.szB (Aw n)):=hTz;obtain⟨R,hR⟩: ∃R,R=Hm.rk (Ak (l.take (Hm.szB (Aw n)))) (n+1):=⟨_,rfl⟩;rw[←hR]at HON HOK;obtain⟨cn,hcne⟩: ∃c,c=Bt (l.take (Hm.szB (Aw n))):=⟨_,rfl⟩;rw[←hcne]at hcn HCT⊢;obtain⟨q,hq⟩: ∃x,x=Hm.szB (Aw n):=⟨_,rfl⟩;rw[←hq]at hsz hfit hzb hcn HCE HTZ;obtain⟨el,hele⟩: ∃x,x=Aw n:=⟨_,rfl⟩;rw[←hele]at hsz hadd hel hcn hrd HCE HON;have hgt:decide (l.length<q)=false:=Ald (by omega);clear hS HEL HZ htd hble hq hele hT hTl hTz hcne hR hnl
  go_enter Tryz.func119,Tryz.ntmps119
  go_wp2_with fail;refine(hpw _).mono ?_;rintro e w1 ⟨rfl,hw⟩;subst hw;clear hpw;go_wp2_with fail;refine(hsz _).mono ?_;rintro e w1 ⟨rfl,rfl⟩;clear hsz;go_wp2_with fail;refine(hrd _).mono ?_;rintro e w2 ⟨rfl,hk2⟩;clear hrd;go_wp2_with fail;refine(hcn _).mono ?_;rintro e w3 ⟨g,hg,rfl,hir,hk3⟩;clear hcn;have hk13:=hk2.trans hk3 (fun _ _ h=>h);have hbx:=hk13.row (All w (.cells #[.string ⟨#[]⟩,.int .i64 0,.slice none 0 0,.int .i64 0] 100)) id;have hkw:Apd w w3:=((Aa.refl (fun _=>False) w).alloc _).trans hk13 (fun _ _ h=>h);have hsz3:w.heap.size<w3.heap.size:=Alw hbx;have hwg:w.heap.size<g:=by have:=hk2.size;simp at this;omega
  obtain⟨B,hB⟩: ∃B,B=w3.heap.size:=⟨_,rfl⟩;obtain⟨W3,hW3⟩: ∃W3,W3=w3.alloc (.cells #[.string T,.int .i64 (el:Nat),.slice (some ⟨g,0,none⟩) (q+1) (q+1),.int .i64 (n:Nat)] 100):=⟨_,rfl⟩;have hbe:W3.heap[B]?=some (.cells #[.string T,.int .i64 (el:Nat),.slice (some ⟨g,0,none⟩) (q+1) (q+1),.int .i64 (n:Nat)] 100 (0,0)):=by rw[hW3,hB];exact All w3 _
  have hk3W:Apd w3 W3:=by rw[hW3];exact(Aa.refl _ _).alloc _
  have hE:C2 W3 B 0 T el g:=⟨Alc _ _ 0 _ _ _ hbe,Alc _ _ 1 _ _ _ hbe,by rw[HTZ.out];exact Alc _ _ 2 _ _ _ hbe,HCT.out _ _ (hir.kept hk3W id)⟩;have hcv:=HON.out W3 B g hE;have H3:Hid (Apd w W3∧IntRow W3 g cn∧w.heap.size<B∧w.heap.size<g∧W3.heap[w.heap.size]?=some (.cells #[.string ⟨#[]⟩,.int .i64 0,.slice none 0 0,.int .i64 0] 100 (0,0))):=
   ⟨hkw.trans hk3W (fun _ _ h=>h),hir.kept hk3W id,by rw[hB];exact hsz3,hwg,hk3W.row hbx id⟩
  have HW3:Hid (w3.alloc (.cells #[.string T,.int .i64 (el:Nat),.slice (some ⟨g,0,none⟩) (q+1) (q+1),.int .i64 (n:Nat)] 100)=W3∧w3.heap.size=B):=⟨hW3.symm,hB.symm⟩;have hx4:=hk3W.row hbx id;clear hk2 hk3 hk13 hbx hkw hsz3 hwg hir hk3W hE hW3 hB HON HCT hg;go_upto_region 6 with fail
  rw[HW3.out.1,HW3.out.2];clear HW3;have p0:W3.cell? ⟨B,0,none⟩=some (.string T):=Alc _ _ 0 _ _ _ hbe;have p1:W3.cell? ⟨B,1,none⟩=some (.int .i64 (el:Nat)):=Alc _ _ 1 _ _ _ hbe;have p2:W3.cell? ⟨B,2,none⟩=some (.slice (some ⟨g,0,none⟩) (q+1) (q+1)):=Alc _ _ 2 _ _ _ hbe;have p3:W3.cell? ⟨B,3,none⟩=some (.int .i64 (n:Nat)):=Alc _ _ 3 _ _ _ hbe;have q0:W3.cell? ⟨w.heap.size,0,none⟩=some (.string ⟨#[]⟩):=Alc _ _ 0 _ _ _ hx4;have q1:W3.cell? ⟨w.heap.size,1,none⟩=some (.int .i64 0):=Alc _ _ 1 _ _ _ hx4;have q2:W3.cell? ⟨w.heap.size,2,none⟩=some (.slice none 0 0):=Alc _ _ 2 _ _ _ hx4;have q3:W3.cell? ⟨w.heap.size,3,none⟩=some (.int .i64 0):=Alc _ _ 3 _ _ _ hx4;have f0:W3.frozen? ⟨w.heap.size,0,none⟩=false:=Alk _ _ 0 _ _ hx4;have f1:W3.frozen? ⟨w.heap.size,1,none⟩=false:=Alk _ _ 1 _ _ hx4;have f2:W3.frozen? ⟨w.heap.size,2,none⟩=false:=Alk _ _ 2 _ _ hx4;have f3:W3.frozen? ⟨w.heap.size,3,none⟩=false:=Alk _ _ 3 _ _ hx4;have hBne:w.heap.size≠B:=by have:=H3.out.2.2.1;omega
  clear hx4 hbe
  by_cases hT:R=td
  ·have HB:Hid (Gk l n):=HOK.out.2 hT;rw[hT]at hcv;clear hT HOK;go_wp2_with fail;refine hcv.mono ?_;rintro e w4 ⟨rfl,rfl⟩;clear hcv;go_wp2_with fail;have h2:=Alf _ _ 3 _ _ (.int .i64 (n:Nat)) (Alf _ _ 2 _ _ (.slice (some ⟨g,0,none⟩) (q+1) (q+1)) (Alf _ _ 1 _ _ (.int .i64 (el:Nat)) (Alf _ _ 0 _ _ (.string T) H3.out.2.2.2.2)));refine Amo (v:= .tuple #[.agg #[.string T,.int .i64 (el:Nat),.slice (some ⟨g,0,none⟩) (q+1) (q+1),.int .i64 (n:Nat)],.bool true]) (Dc Tryz.results119 _ _ w.heap.size 100 _ (0,0) _ rfl h2 Tryz.underlying100 rfl (by kernel_rfl)) rfl ⟨?_,.inl ⟨HB.out,g,by have:=H3.out.2.2.2.1;omega,by rw[HCE.out],?_⟩⟩
   ·exact H3.out.1.trans (Lc w4 w.heap.size _ _ _ _) (fun j h1 h2=>by omega)
   ·exact H3.out.2.1.kept (Lc w4 w.heap.size _ _ _ _) (fun e=>by have:=H3.out.2.2.2.1;omega)
  ·have HB:Hid (¬Gk l n):=fun h=>hT (HOK.out.1 h);have hneq:((R:Int) !=(td:Int))=true:=by simp;omega
   clear hT HOK;go_wp2_with fail;refine hcv.mono ?_;rintro e w4 ⟨rfl,rfl⟩;clear hcv;go_wp2_with fail;have h2:=Alf _ _ 3 _ _ (.int .i64 0) (Alf _ _ 2 _ _ (.slice none 0 0) (Alf _ _ 1 _ _ (.int .i64 0) (Alf _ _ 0 _ _ (.string ⟨#[]⟩) H3.out.2.2.2.2)));refine Amo (v:= .tuple #[.agg Dj.toArray,.bool false]) (Dc Tryz.results119 _ _ w.heap.size 100 _ (0,0) _ rfl h2 Tryz.underlying100 rfl (by kernel_rfl)) rfl ⟨?_,.inr ⟨HB.out,rfl⟩⟩;exact H3.out.1.trans (Lc w4 w.heap.size _ _ _ _) (fun j h1 h2=>by omega)
 ·have HNo:Hid (¬Gk l n):=fun h=>hfit h.fits;rw[←hS];obtain⟨q,hq⟩: ∃x,x=Hm.szB (Aw n):=⟨_,rfl⟩;rw[←hq]at hsz hfit hzb;obtain⟨el,hele⟩: ∃x,x=Aw n:=⟨_,rfl⟩;rw[←hele]at hsz hadd hel;have hgt:decide (l.length<q)=true:=Alb (by omega);clear hS HEL HZ htd hble hq hele hfit hnl
  go_enter Tryz.func119,Tryz.ntmps119
  go_wp2_with fail;refine(hpw _).mono ?_;rintro e w1 ⟨rfl,hw⟩;subst hw;clear hpw;go_wp2_with fail;refine(hsz _).mono ?_;rintro e w1 ⟨rfl,rfl⟩;clear hsz;go_wp2_with fail;refine Amo (v:= .tuple #[.agg Dj.toArray,.bool false]) (Dc Tryz.results119 _ _ w.heap.size 100 _ (0,0) _ rfl (All w _) Tryz.underlying100 rfl (by kernel_rfl)) rfl ⟨(Aa.refl _ _).alloc _,.inr ⟨HNo.out,rfl⟩⟩
set_option maxRecDepth 100000 in
set_option maxHeartbeats 2000000 in
theorem Z2(hones:Cd)(hLn:Lb)(p:Nat)(st:Hm.Rd)(n:Nat)(w:World)(hr:Au w p st)(hn:n≤65535)(hll:Bb st≤4611686018427387904):
  Calls Tryz.prog 71 #[.pointer (some ⟨p,0,none⟩),.int .i64 n] w fun e w'=>Aa (fun j=>j=p) w w'∧
   ((∃l,st=some l∧Gk l n∧Au w' p (some (l.drop (Hm.szB (Aw n))))∧ ∃g,w.heap.size≤g∧e= .returned (.agg (Ht l n g).toArray)∧IntRow w' g (Bt (l.take (Hm.szB (Aw n)))))∨
    ((∀l,st=some l→ ¬Gk l n)∧Au w' p none∧e= .returned (.agg Dj.toArray))):=by
 obtain⟨l,hl⟩: ∃l,l=st.getD []:=⟨_,rfl⟩;have hre:=fun W=>Wc hones hLn l n W hn (by rw[hl];exact hll);obtain⟨S,hS⟩: ∃S,S=(⟨l.toArray⟩:ByteArray):=⟨_,rfl⟩;rw[←hS]at hre;have hrest:=hr.rest;rw[←hl,←hS]at hrest;have hp:=hr.lt;have HR:Hid (Au w p st∧l=st.getD []∧Bb st≤4611686018427387904):=⟨hr,hl,hll⟩;have hal:(w.alloc (.cells #[.string ⟨#[]⟩,.int .i64 0,.slice none 0 0,.int .i64 0] 100)).cell? ⟨p,0,none⟩=some (.string S):=(((Aa.refl (fun _=>False) w).alloc _).cell (p:=⟨p,0,none⟩) hp id).trans hrest;clear hS hl hr hll hrest
 go_enter Tryz.func71,Tryz.ntmps71
 go_wp2_with fail;refine(hre _).mono ?_;rintro e w1 ⟨hk1,h1⟩;clear hre hal;have hbx:=hk1.row (All w (.cells #[.string ⟨#[]⟩,.int .i64 0,.slice none 0 0,.int .i64 0] 100)) id;have hkw:Apd w w1:=((Aa.refl (fun _=>False) w).alloc _).trans hk1 (fun _ _ h=>h);have hw1:w.heap.size<w1.heap.size:=Alw hbx;have hgen: ∃(T:ByteArray) (el:Nat) (ao:Option Addr) (c1 mm:Nat) (ok:Bool),e= .returned (.tuple #[.agg #[.string T,.int .i64 (el:Nat),.slice ao c1 c1,.int .i64 (mm:Nat)],.bool ok])∧T.size≤4611686018427387904∧
   ((ok=true∧ ∃l,st=some l∧Gk l n∧T.size=Hm.szB (Aw n)∧ ∃g,w.heap.size<g∧Ht l n g=[.string T,.int .i64 (el:Nat),.slice ao c1 c1,.int .i64 (mm:Nat)]∧IntRow w1 g (Bt (l.take (Hm.szB (Aw n)))))∨
    (ok=false∧(∀l,st=some l→ ¬Gk l n)∧Dj=[.string T,.int .i64 (el:Nat),.slice ao c1 c1,.int .i64 (mm:Nat)])):=by
  rcases h1 with⟨hok,g,hg,rfl,hir⟩|⟨hno,rfl⟩
  ·obtain⟨l',hst⟩: ∃l',st=some l':=by
    cases st with
    |none=>rw[HR.out.2.1]at hok;exact absurd hok Af5
    |some l'=>exact⟨l',rfl⟩
   have hll':l=l':=by rw[HR.out.2.1,hst];rfl
   subst hll';have hTz:(⟨(l.take (Hm.szB (Aw n))).toArray⟩:ByteArray).size=Hm.szB (Aw n):=by have:=hok.fits;show(l.take _).toArray.size=_;simp;omega
   have hlb:l.length≤4611686018427387904:=by have:=HR.out.2.2;rw[hst]at this;exact this
   exact⟨_,_,_,_,_,_,rfl,by rw[hTz];exact Al2 hok.fits hlb,.inl ⟨rfl,l,hst,hok,hTz,g,by simp at hg;omega,rfl,hir⟩⟩
  ·refine⟨_,0,_,_,0,_,rfl,by show(0:Nat)≤_;omega,.inr ⟨rfl,fun l' h=>?_,rfl⟩⟩;have hll':l=l':=by rw[HR.out.2.1,h];rfl
   rw[←hll'];exact hno
 obtain⟨T,el,ao,c1,mm,ok,rfl,hTz,HP⟩:=hgen;have HP':Hid _:=HP;have hnd:=fun W (h:Au W p st)=>Hy p st ok W h;have htk:=fun W (h:Au W p (C6 st ok))=>K0 p (C6 st ok) T.size W h (Al2 (Ij st ok) HR.out.2.2) hTz;have H1:Hid (w1.heap[w.heap.size]?=some (.cells #[.string ⟨#[]⟩,.int .i64 0,.slice none 0 0,.int .i64 0] 100 (0,0))∧Apd w w1∧Au w1 p st∧w.heap.size<w1.heap.size):=
  ⟨hbx,hkw,HR.out.1.kept hkw id,hw1⟩
 have HND:Hid _:=hnd;have HTK:Hid _:=htk;obtain⟨B,hB⟩: ∃B,B=w1.heap.size:=⟨_,rfl⟩;obtain⟨W1,hW1⟩: ∃W1,W1=w1.alloc (.cells #[.string T,.int .i64 (el:Nat),.slice ao c1 c1,.int .i64 (mm:Nat)] 100):=⟨_,rfl⟩;have hkW:Apd w1 W1:=by rw[hW1];exact(Aa.refl _ _).alloc _
 have H2:Hid (W1.heap[B]?=some (.cells #[.string T,.int .i64 (el:Nat),.slice ao c1 c1,.int .i64 (mm:Nat)] 100 (0,0))∧W1.heap[w.heap.size]?=some (.cells #[.string ⟨#[]⟩,.int .i64 0,.slice none 0 0,.int .i64 0] 100 (0,0))∧Apd w W1∧Au W1 p st∧w.heap.size<B∧Apd w1 W1):=
  ⟨by rw[hW1,hB];exact All w1 _,hkW.row hbx id,hkw.trans hkW (fun _ _ h=>h),(HR.out.1.kept hkw id).kept hkW id,by rw[hB];exact hw1,hkW⟩
 have HW1:Hid (w1.alloc (.cells #[.string T,.int .i64 (el:Nat),.slice ao c1 c1,.int .i64 (mm:Nat)] 100)=W1∧w1.heap.size=B):=⟨hW1.symm,hB.symm⟩;clear HP hnd htk hbx hkw hw1 hk1 HR hW1 hB hkW h1 H1;go_upto_region 2 with fail
 rw[HW1.out.1,HW1.out.2];clear HW1;have hn1:=HND.out W1 H2.out.2.2.2.1;go_wp2_with fail;refine hn1.mono ?_;rintro e w2 ⟨rfl,hr2,hk2⟩;have hpB:p≠B:=by have:=H2.out.2.2.2.2.1;omega
 have hpR:p≠w.heap.size:=by omega
 have c0:w2.cell? ⟨B,0,none⟩=some (.string T):=(hk2.cell (p:=⟨B,0,none⟩) (Alw H2.out.1) (fun h=>hpB h.symm)).trans (Alc _ _ 0 _ _ _ H2.out.1);have ht1:=HTK.out w2 hr2;have hpk:=fun W (h:W.cell? ⟨B,0,none⟩=some (.string T))=>J5 B 0 T W h;have hpk2:=hpk w2 c0;have H3:Hid (Aa (fun j=>j=p) W1 w2):=hk2;clear hn1 hr2 hk2 HND hpk;go_wp2_with fail;refine hpk2.mono ?_;rintro e w3 ⟨rfl,hw3⟩;subst hw3;clear hpk2;go_wp2_with fail;refine ht1.mono ?_;rintro e w4 ⟨rfl,hr4,hk4⟩;have hk14:Aa (fun j=>j=p) W1 w4:=H3.out.trans hk4 (fun _ _ h=>h);have hy4:=hk14.row H2.out.1 (fun h=>hpB h.symm);have hx4:=hk14.row H2.out.2.1 (fun h=>hpR h.symm);have p0:w4.cell? ⟨B,0,none⟩=some (.string T):=Alc _ _ 0 _ _ _ hy4;have p1:w4.cell? ⟨B,1,none⟩=some (.int .i64 (el:Nat)):=Alc _ _ 1 _ _ _ hy4;have p2:w4.cell? ⟨B,2,none⟩=some (.slice ao c1 c1):=Alc _ _ 2 _ _ _ hy4;have p3:w4.cell? ⟨B,3,none⟩=some (.int .i64 (mm:Nat)):=Alc _ _ 3 _ _ _ hy4;have q0:w4.cell? ⟨w.heap.size,0,none⟩=some (.string ⟨#[]⟩):=Alc _ _ 0 _ _ _ hx4;have q1:w4.cell? ⟨w.heap.size,1,none⟩=some (.int .i64 0):=Alc _ _ 1 _ _ _ hx4;have q2:w4.cell? ⟨w.heap.size,2,none⟩=some (.slice none 0 0):=Alc _ _ 2 _ _ _ hx4;have q3:w4.cell? ⟨w.heap.size,3,none⟩=some (.int .i64 0):=Alc _ _ 3 _ _ _ hx4;have f0:w4.frozen? ⟨w.heap.size,0,none⟩=false:=Alk _ _ 0 _ _ hx4;have f1:w4.frozen? ⟨w.heap.size,1,none⟩=false:=Alk _ _ 1 _ _ hx4;have f2:w4.frozen? ⟨w.heap.size,2,none⟩=false:=Alk _ _ 2 _ _ hx4;have f3:w4.frozen? ⟨w.heap.size,3,none⟩=false:=Alk _ _ 3 _ _ hx4;have hBne:w.heap.size≠B:=by have:=H2.out.2.2.2.2.1;omega
 have H4:Hid (w4.heap[w.heap.size]?=some (.cells #[.string ⟨#[]⟩,.int .i64 0,.slice none 0 0,.int .i64 0] 100 (0,0))∧Aa (fun j=>j=p) w w4∧Au w4 p (A5 (C6 st ok) T.size).2∧Aa (fun j=>j=p) w1 w4):=
  ⟨hx4,(H2.out.2.2.1.wider (fun _ _ h=>h.elim)).trans hk14 (fun _ _ h=>h),hr4,(H2.out.2.2.2.2.2.wider (fun _ _ h=>h.elim)).trans hk14 (fun _ _ h=>h)⟩
 clear hx4 hy4 hk14 hk4 hr4 ht1 H3 H2 c0 HTK;go_wp2_with fail;have h2:=Alf _ _ 3 _ _ (.int .i64 (mm:Nat)) (Alf _ _ 2 _ _ (.slice ao c1 c1) (Alf _ _ 1 _ _ (.int .i64 (el:Nat)) (Alf _ _ 0 _ _ (.string T) H4.out.1)));have hk5:=Lc w4 w.heap.size (.string T) (.int .i64 (el:Nat)) (.slice ao c1 c1) (.int .i64 (mm:Nat));refine Amo (v:= .agg #[.string T,.int .i64 (el:Nat),.slice ao c1 c1,.int .i64 (mm:Nat)]) (Am3 Tryz.results71 _ _ w.heap.size 100 _ (0,0) _ rfl h2 Tryz.underlying100 rfl (by kernel_rfl)) rfl ⟨?_,?_⟩
 ·exact H4.out.2.1.trans hk5 (fun j h1 h2=>by omega)
 ·have hrd:=H4.out.2.2.1.kept hk5 (fun h=>hpR h);rcases HP'.out with⟨rfl,l,rfl,hok,hz,g,hg,hce,hir⟩|⟨rfl,hno,hce⟩
  ·have e1:(A5 (C6 (some l) true) T.size).2=some (l.drop (Hm.szB (Aw n))):=by
    show(A5 (some l) T.size).2=_;rw[hz,F4 hok.fits]
   rw[e1]at hrd;exact .inl ⟨l,rfl,hok,hrd,g,by omega,by rw[hce],(hir.kept H4.out.2.2.2 (fun h=>by omega)).kept hk5 (fun h=>by omega)⟩
  ·exact .inr ⟨hno,hrd,by rw[hce]⟩
theorem U8{P:Program}(w:World)(g o:Nat)(ty t:TypeId)(A B C:List Value)(cells:Array Value)(hg:w.heap[g]?=some (.cells (A++(B++C)).toArray t (0,0)))(hA:A.length=o)(hB:B.length=cells.size)
  (hi:(P.info? ty).map (·.size)=some cells.size) (h1:cells.all (·.oneCell')=true):
  (storeVar ty ⟨g,o,none⟩ (.agg cells)).run P w= .ok () (w.setRow g (A++(cells.toList++C)).toArray):=by
 have hs:=run_storeCells_at P g o t cells.toList 0 _ w hg (by simp;omega) (fun v hv=>(An2.1 h1) v (by simpa using hv));have e1:(A++(B++C)).take (o+0)=A:=by rw[Aon,←hA];simp
 have e2:(A++(B++C)).drop (o+0+cells.toList.length)=C:=by
  rw[show o+0+cells.toList.length=(A++B).length from by rw[Alg,Anh];omega,←Alx,List.drop_left]
 rw[e1,e2,Alx]at hs;cases hq:P.info? ty with
 |none=>simp[hq]at hi
 |some i=>
  have hz:cells.size=i.size:=by simp[hq]at hi;omega
  simp[storeVar,sizeOf,typeInfo,hq,Value.cells,hz,hs]
theorem K2{P:Program}(w:World){ops:Array Oper}{rest:List Oper}{op:Oper}{a:Act}{Q:Exit→Act→World→Prop}(hgd:op.guard=none)(ty:TypeId)(x y:Operand)(ho:op.op= .store ty x y)
  (g o:Nat) (t:TypeId) (A B C:List Value) (cells:Array Value) (hx:a.eval x= .pointer (some ⟨g,o,none⟩)) (hy:a.eval y= .agg cells) (hg:w.heap[g]?=some (.cells (A++(B++C)).toArray t (0,0))) (hA:A.length=o) (hB:B.length=cells.size)
  (hi:(P.info? ty).map (·.size)=some cells.size) (h1:cells.all (·.oneCell')=true)
  (h: ∀w',w'.heap[g]?=some (.cells (A++(cells.toList++C)).toArray t (0,0))→Aa (fun j=>j=g) w w'→wpList P ops Q rest (a.put op.dst undef) w'):wpList P ops Q (op::rest) a w:=by
 refine wpList_plain hgd fun K hK=>?_;unfold Oper.wp execOp;simp only[ho,hx,hy,Instr.storeAt,Instr.sureAddr,Sem.run_bind,Sem.run_pure,Result.andThen_ok,U8 w g o ty t A B C cells hg hA hB hi h1];exact hK _ _ (h _ (setRow_heap w g _ _ t _ hg) ((Aa.refl (fun j=>j=g) w).setRow (g:=g) (.inr rfl) _))
def Ke(nm:Value)(E R S:List Value):List Value:=nm::(E++(R++S))
theorem Adq:Tryz.zeroCells102=(Ke (.slice none 0 0) Gf (B7 Tryz.zeroCells96 0 (List.replicate 256 0)) Dj).toArray:=by kernel_rfl
theorem Ahz:(Tryz.prog.info? 100).map (·.size)=some 4:=by kernel_rfl
theorem Af6:(Tryz.prog.info? 87).map (·.size)=some 5:=by kernel_rfl
namespace Hm
def N6(s:List UInt8)(st:Rd):Rd:=if(Bu st 4).2=some []∧(Bu st 4).1=crc (s.take (s.length-4))then some []else none
end Hm
set_option maxRecDepth 20000 in
set_option maxHeartbeats 1000000 in
theorem Ah0(p:Nat)(st:Hm.Rd)(s:List UInt8)(w:World)(hr:Au w p st)(hll:Bb st≤4611686018427387904)(hs:(Bu st 4).2=some []→4≤s.length∧s.length≤1000000)(hsl:s.length≤4611686018427387904):
  Calls Tryz.prog 72 #[.pointer (some ⟨p,0,none⟩),.string ⟨s.toArray⟩] w fun e w'=>e= .returned (.tuple #[])∧Au w' p (N6 s st)∧Aa (fun j=>j=p) w w':=by
 have hnu:=J8 p st 4 w hr hll (by omega);have hlt:=Hd st 4;have HSO:Hid (N6 s st=if(Bu st 4).2=some []∧(Bu st 4).1=Hm.crc (s.take (s.length-4))then some []else none):=rfl;obtain⟨x,hx⟩: ∃x,x=(Bu st 4).1:=⟨_,rfl⟩;obtain⟨s1,hs1⟩: ∃x,x=(Bu st 4).2:=⟨_,rfl⟩;rw[←hx,←hs1]at hnu HSO;rw[←hx]at hlt;rw[←hs1]at hs;have hx32:x<4294967296:=by simpa using hlt
 obtain⟨S,hS⟩: ∃S,S=(⟨s.toArray⟩:ByteArray):=⟨_,rfl⟩;have hz:S.size=s.length:=by rw[hS];show s.toArray.size=_;simp
 rw[←hS];have hp:=hr.lt;clear hx hs1 hlt hr hll
 by_cases h1:s1=some []
 ·subst h1;obtain⟨h4,hm⟩:=hs rfl;obtain⟨q,hq⟩: ∃q,q=s.length-4:=⟨_,rfl⟩;have zq:(s.length:Int)-4=(q:Int):=by omega
  have hql:q≤s.length:=by omega
  obtain⟨B,hB⟩: ∃B,B=S.extract 0 q:=⟨_,rfl⟩;have hBl:B.data.toList=s.take q:=by rw[hB,hS,extract_toArray];simp
  have hBz:B.size=q:=by
   have h:B.data.toList.length=B.size:=by simp
   rw[←h,hBl];simp;omega
  have hcv:=fun W=>Lib.run_convert_string_bytes (P:=Tryz.prog) W 9 79 5 B Tryz.underlying9 Tryz.underlying79 Tryz.underlying5;rw[hBz]at hcv;have HSM:Hid (∀W cp,Calls Tryz.prog 106 #[.slice (some ⟨W.heap.size,0,none⟩) q cp] (Lib.bytesWorld W 5 B) fun e w'=>e= .returned (.int .u32 (Hm.crc (s.take q):Nat))∧w'=Lib.bytesWorld W 5 B):=fun W cp=>
   Aep W.heap.size 0 q cp (s.take q) (Lib.bytesWorld W 5 B) (by simp;omega) (by omega) (fun j hj=>by rw[Al7,Lib.bytesWorld_cell W 5 B j (by omega),hBl])
  have HKB:Hid (∀W,Apd W (Lib.bytesWorld W 5 B)):=fun W=>⟨rfl,rfl,rfl,by rw[Lib.bytesWorld_size];omega,fun k hk _=>Lib.bytesWorld_at_old W _ B k hk⟩;have hcl:=Vj (s.take q);rw[←hq]at HSO;have hB2:S.extract 0 q=B:=hB.symm;have hwx:IntKind.u32.wrap (x:Int)=(x:Int):=by simp[IntKind.wrap,IntKind.signed,IntKind.bits];omega
  have hneed:=fun W b (h:Au W p (some []))=>Hy p (some []) b W h;have HNE:Hid _:=hneed;clear hB hBl hBz hq hs h4 hneed hS;generalize Hm.crc (s.take q)=cr at*
  go_enter Tryz.func72,Tryz.ntmps72
  go_wp2_with fail;refine hnu.mono ?_;rintro e w1 ⟨rfl,hr1,hk1⟩;have c0:=hr1.rest;have e0:(⟨((some []:Hm.Rd).getD []).toArray⟩:ByteArray)=⟨#[]⟩:=rfl;rw[e0]at c0;have hn1:=HNE.out w1 true hr1;have H1:Hid (Aa (fun j=>j=p) w w1):=hk1;clear hnu hr1 hk1;go_wp2_with fail;refine hn1.mono ?_;rintro e w2 ⟨rfl,hr2,hk2⟩;have hr2':Au w2 p (some []):=hr2;have c1:=hr2'.bad;have b1:(some []:Hm.Rd).isNone=false:=rfl;rw[b1]at c1;have H2:Hid (Aa (fun j=>j=p) w w2∧Au w2 p (some [])):=⟨H1.out.trans hk2 (fun _ _ h=>h),hr2'⟩;have hcw:=hcv w2;have hsm:=HSM.out w2 (grownCap w2 q 0 5);have hkb:=HKB.out w2;generalize grownCap w2 q 0 5=cp at*;generalize Lib.bytesWorld w2 5 B=W2 at*;clear hn1 hr2 hr2' hk2 hcv HSM HKB;go_wp2_with fail;try rw[hcw]
  go_wp2_with fail;refine hsm.mono ?_;rintro e w3 ⟨rfl,rfl⟩;clear hsm;have hr3:=H2.out.2.kept hkb id;have H3:Hid (Aa (fun j=>j=p) w w3):=H2.out.1.trans hkb (fun _ _ h=>h.elim);have hn3:=HNE.out w3 (decide (x=cr)) hr3;have HST:Hid (C6 (some []) (decide (x=cr))=N6 s st):=by
   show _=_;rw[HSO.out]
   by_cases hxc:x=cr
   ·rw[if_pos (by simp[hxc]),Alb hxc];rfl
   ·rw[if_neg (by simp[hxc]),Ald hxc];rfl
  have hbe:((x:Int)==(cr:Int))=decide (x=cr):=by rw[Bool.eq_iff_iff];simp;omega
  rw[HST.out]at hn3;clear hr3 H2 hkb hcw HNE;go_wp2_with fail;refine hn3.mono ?_;rintro e w4 ⟨rfl,hr4,hk4⟩;go_wp2_with fail
  go_end0
  exact⟨rfl,hr4,H3.out.trans hk4 (fun _ _ h=>h)⟩
 ·have HST:Hid (N6 s st=none):=by show _=_;rw[HSO.out,if_neg (fun h=>h1 h.1)]
  rw[HST.out];obtain⟨r,hre⟩: ∃r,r=s1.getD []:=⟨_,rfl⟩;obtain⟨R,hR⟩: ∃R,R=(⟨r.toArray⟩:ByteArray):=⟨_,rfl⟩;have HNE:Hid (∀W,Au W p s1→Calls Tryz.prog 63 #[.pointer (some ⟨p,0,none⟩),.bool (R.toList.isEmpty)] W fun e w'=>e= .returned (.tuple #[])∧Au w' p none∧Aa (fun j=>j=p) W w'):=fun W h=>by
   have h2:=Hy p s1 R.toList.isEmpty W h;have e:C6 s1 R.toList.isEmpty=none:=by
    cases s1 with
    |none=>unfold C6;split<;>rfl
    |some l=>
     have hl:l≠[]:=fun hl=>h1 (by rw[hl]);have hR2:R.toList=l:=by rw[hR,hre];simp[ByteArray.toList_eq]
     unfold C6;rw[if_neg (by rw[hR2];simpa using hl)]
   rwa[e]at h2
  have HC:Hid (∀W,Au W p s1→W.cell? ⟨p,0,none⟩=some (.string R)):=fun W h=>by rw[hR,hre];exact h.rest
  clear hs hS hR hre h1 HSO
  go_enter Tryz.func72,Tryz.ntmps72
  go_wp2_with fail;refine hnu.mono ?_;rintro e w1 ⟨rfl,hr1,hk1⟩;have c0:=HC.out w1 hr1;have hn1:=HNE.out w1 hr1;have H1:Hid (Aa (fun j=>j=p) w w1):=hk1;clear hnu hr1 hk1 HNE HC;go_wp2_with fail;refine hn1.mono ?_;rintro e w2 ⟨rfl,hr2,hk2⟩;have c1:=hr2.bad;have b1:(none:Hm.Rd).isNone=true:=rfl;rw[b1]at c1;have H2:Hid (Aa (fun j=>j=p) w w2∧Au w2 p none):=⟨H1.out.trans hk2 (fun _ _ h=>h),hr2⟩;clear hn1 hr2 hk2;go_wp2_with fail;exact Amo (v:= .tuple #[]) (results_none Tryz.results72 _ _ _) rfl ⟨rfl,H2.out.2,H2.out.1⟩
namespace Hm
def Gw(s:List Nat×Rd):List Nat×Rd:=match (A5 s.2 2).2 with
 |some l=>(s.1.set ((A5 s.2 2).1.getD 0 0).toNat ((A5 s.2 2).1.getD 1 0).toNat,some l)
 |none=>(s.1,none)
def Bp(st:Rd):Nat→List Nat×Rd
 |0=>(List.replicate 256 0,st)
 |k+1=>Gw (Bp st k)
theorem Xz(s:List Nat×Rd):(Gw s).1.length=s.1.length:=by
 unfold Gw;split<;>simp
theorem I9(st:Rd): ∀k,(Bp st k).1.length=256
 |0=>Alj
 |k+1=>by rw[Bp,Xz,I9 st k]
theorem Adr(s:List Nat×Rd)(h:s.2=none):Gw s=(s.1,none):=by unfold Gw;rw[h];rfl
theorem Wd(st:Rd)(k:Nat)(h:(Bp st k).2=none): ∀d,Bp st (k+d)=((Bp st k).1,none)
 |0=>by rw[Aon,←h]
 |d+1=>by rw[←Anc,Bp,Wd st k h d,Adr _ rfl]
theorem Af7(s:List Nat×Rd)(h: ∀x∈s.1,x≤255): ∀x∈(Gw s).1,x≤255:=by
 unfold Gw;split
 ·intro x hx;rcases An6 hx with h1|h1
  ·exact h x h1
  ·rw[h1];have:=((A5 s.2 2).1.getD 1 0).toNat_lt;omega
 ·exact h
theorem Y2(st:Rd): ∀k,∀x∈(Bp st k).1,x≤255
 |0=>fun x hx=>by rw[Aod (show x∈List.replicate 256 0 from hx)];omega
 |k+1=>Af7 _ (Y2 st k)
theorem O4(st:Rd): ∀k,Bb (Bp st k).2≤Bb st
 |0=>Ale _
 |k+1=>by
  have h1:=O4 st k;have h2:=D6 (Bp st k).2 2;rw[Bp];unfold Gw;cases hh:(A5 (Bp st k).2 2).2 with
  |none=>simp[Bb]
  |some l=>rw[hh]at h2;show Bb (some l)≤_;omega
end Hm
set_option maxHeartbeats 2000000 in
theorem Ads(p:Nat)(st:Hm.Rd)(w:World)(hr:Au w p st)(hll:Bb st≤4611686018427387904):
  Calls Tryz.prog 70 #[.pointer (some ⟨p,0,none⟩)] w fun e w'=>e= .returned (.agg (Ac (Bp (Bu st 2).2 (Bu st 2).1).1).toArray)∧Au w' p (Bp (Bu st 2).2 (Bu st 2).1).2∧Aa (fun j=>j=p) w w':=by
 have hp:=hr.lt;have hkx:=Hd st 2;have hrs:Bb (Bu st 2).2≤4611686018427387904:=Al2 (D6 st 2) hll;have HNU:Hid (∀W,Au W p st→Calls Tryz.prog 65 #[.pointer (some ⟨p,0,none⟩),.int .i64 ((2:Nat):Int)] W fun e w'=>e= .returned (.int .i64 ((Bu st 2).1:Nat))∧Au w' p (Bu st 2).2∧Aa (fun j=>j=p) W w'):=fun W h=>J8 p st 2 W h hll (by omega);obtain⟨K,hK⟩: ∃K,K=(Bu st 2).1:=⟨_,rfl⟩;obtain⟨s1,hs1⟩: ∃s,s=(Bu st 2).2:=⟨_,rfl⟩;rw[←hK,←hs1]at HNU⊢;rw[←hK]at hkx;rw[←hs1]at hrs;have HR:Hid (Au w p st∧Bb s1≤4611686018427387904):=⟨hr,hrs⟩;have hK2:K<65536:=by simpa using hkx
 obtain⟨W0,hW0⟩: ∃W0,W0=(w.alloc (.cells Tryz.zeroCells139 139)).alloc (.cells Tryz.zeroCells139 139):=⟨_,rfl⟩;have hk0:Apd w W0:=by rw[hW0];exact((Aa.refl _ _).alloc _).alloc _
 have hb0:W0.heap[w.heap.size]?=some (.cells Tryz.zeroCells139 139 (0,0)):=by rw[hW0];exact Anw w _ _
 have hb1:W0.heap[w.heap.size+1]?=some (.cells (Ac (Bp s1 0).1).toArray 139 (0,0)):=by rw[hW0];have:=Anx w (.cells Tryz.zeroCells139 139) (.cells Tryz.zeroCells139 139);rw[this,Ju];rfl
 have hnu:=HNU.out W0 (hr.kept hk0 id);have H0:Hid (Apd w W0∧W0.heap[w.heap.size]?=some (.cells Tryz.zeroCells139 139 (0,0))∧W0.heap[w.heap.size+1]?=some (.cells (Ac (Bp s1 0).1).toArray 139 (0,0))):=⟨hk0,hb0,hb1⟩;have HW:Hid ((w.alloc (.cells Tryz.zeroCells139 139)).alloc (.cells Tryz.zeroCells139 139)=W0):=hW0.symm;clear hk0 hb0 hb1 hW0 hr hll hK hs1 HNU hrs hkx
 go_enter Tryz.func70,Tryz.ntmps70
 go_upto_region 2 with fail
 rw[HW.out];clear HW;go_wp2_with fail;refine hnu.mono ?_;rintro e w1 ⟨rfl,hr1,hk1⟩;have hne0:p≠w.heap.size:=by omega
 have hne1:p≠w.heap.size+1:=by omega
 have H1:Hid (Au w1 p s1∧Aa (fun j=>j=p) w w1∧w1.heap[w.heap.size]?=some (.cells Tryz.zeroCells139 139 (0,0))∧w1.heap[w.heap.size+1]?=some (.cells (Ac (Bp s1 0).1).toArray 139 (0,0))):=
  ⟨hr1,(H0.out.1.wider (fun _ _ h=>h.elim)).trans hk1 (fun _ _ h=>h),hk1.row H0.out.2.1 (fun h=>hne0 h.symm),hk1.row H0.out.2.2 (fun h=>hne1 h.symm)⟩
 clear hnu hr1 hk1 H0;go_wp2_with fail
 go_loopw[7] (fun vi wr=> ∃k:Nat,k≤K∧vi= .int .i64 k∧Au wr p (Bp s1 k).2∧Aa (fun j=>j=p) w wr∧wr.heap[w.heap.size]?=some (.cells Tryz.zeroCells139 139 (0,0))∧wr.heap[w.heap.size+1]?=some (.cells (Ac (Bp s1 k).1).toArray 139 (0,0))) (fun vi _=>K-(intOf vi).toNat)
 case atStart=>exact⟨0,by omega,rfl,H1.out.1,H1.out.2.1,H1.out.2.2.1,H1.out.2.2.2⟩
 case round=>
  obtain⟨k,hk,rfl,hrd,hkr,hb0,hb1⟩:=hrel
  by_cases hlt:k<K
  ·have hrs:=O4 s1 k;have htk:=K0 p (Bp s1 k).2 2 wr hrd (by have:=HR.out.2;omega) (by omega);have hst:Bp s1 (k+1)=Gw (Bp s1 k):=rfl;unfold Gw at hst;cases hh:(A5 (Bp s1 k).2 2).2 with
   |none=>
    rw[hh]at htk hst;have hbad:Bp s1 K=((Bp s1 k).1,none):=by
     have h1:=Wd s1 (k+1) (by rw[hst]) (K-(k+1));rw[show k+1+(K-(k+1))=K from by omega]at h1;rw[h1,hst]
    obtain⟨ARR,hARR⟩: ∃A,A=(Ac (Bp s1 k).1).toArray:=⟨_,rfl⟩;have HAR:Hid (ARR=(Ac (Bp s1 K).1).toArray):=by show _=_;rw[hARR,hbad]
    have HB:Hid ((Bp s1 K).2=none):=by show _=_;rw[hbad]
    rw[←hARR]at hb1;have HP:Hid (wr.heap[w.heap.size]?=some (.cells Tryz.zeroCells139 139 (0,0))∧wr.heap[w.heap.size+1]?=some (.cells ARR 139 (0,0))∧Aa (fun j=>j=p) w wr):=⟨hb0,hb1,hkr⟩;clear hh hst hbad hARR hb0 hb1 hkr hrd hrs;generalize(A5 (Bp s1 k).2 2).1=tk at*;go_wp2_with fail;refine htk.mono ?_;rintro e w2 ⟨rfl,hr2,hk2⟩;have c1:=hr2.bad;have b1:(none:Hm.Rd).isNone=true:=rfl;rw[b1]at c1;have HZ:Hid (Au w2 p (Bp s1 K).2∧Aa (fun j=>j=p) w w2∧w2.heap[w.heap.size]?=some (.cells Tryz.zeroCells139 139 (0,0))∧w2.heap[w.heap.size+1]?=some (.cells ARR 139 (0,0))):=by
     refine⟨?_,HP.out.2.2.trans hk2 (fun _ _ h=>h),hk2.row HP.out.1 (fun h=>hne0 h.symm),hk2.row HP.out.2.1 (fun h=>hne1 h.symm)⟩;rw[HB.out];exact hr2
    clear htk hr2 hk2 HP b1;have hasz:ARR.size=256:=by rw[HAR.out,A2,I9]
    have hall:ARR.all (·.oneCell')=true:=by rw[HAR.out];exact Eb _
    have hzs:Tryz.zeroCells139.size=ARR.size:=by rw[hasz,Ju,A2,Alj]
    go_wp2_with(first
     |(refine Amd rfl 139 _ rfl (w.heap.size+1) rfl 139 ARR (0,0) _ HZ.out.2.2.2 Tryz.underlying139 rfl (by rw[hasz];exact B9) ?_)
     |(refine wpList_store_row _ rfl 139 _ _ rfl w.heap.size 139 _ ARR rfl rfl HZ.out.2.2.1 (by rw[hasz];exact B9) hzs hall ?_;intro w9 hw9 hk9))
    refine Amo (v:= .agg ARR) (Am3 Tryz.results70 _ w9 w.heap.size 139 ARR (0,0) _ rfl hw9 Tryz.underlying139 rfl (by rw[hasz];exact B9)) rfl ⟨by rw[HAR.out],HZ.out.1.kept hk9 (fun h=>hne0 h),HZ.out.2.1.trans hk9 (fun j h1 h2=>by omega)⟩
   |some l=>
    rw[hh]at htk hst;have hl2:(A5 (Bp s1 k).2 2).1.length=2:=by
     cases h2:(Bp s1 k).2 with
     |none=>rw[h2]at hh;cases hh
     |some l0=>
      rw[h2]at hh
      by_cases h3:2≤l0.length
      ·rw[F4 h3];simp;omega
      ·rw[Ko h3]at hh;cases hh
    obtain⟨tk,htke⟩: ∃t,t=(A5 (Bp s1 k).2 2).1:=⟨_,rfl⟩;rw[←htke]at htk hst hl2;obtain⟨x,y,hxy⟩: ∃x y,tk=[x,y]:=by
     match tk,hl2 with
     |[x,y],_=>exact⟨x,y,rfl⟩
    subst hxy;obtain⟨S,hS⟩: ∃S,S=(⟨[x,y].toArray⟩:ByteArray):=⟨_,rfl⟩;have hSz:S.size=2:=by rw[hS];rfl
    have hS0:S[0]'(by omega)=x:=by subst hS;rfl
    have hS1:S[1]'(by omega)=y:=by subst hS;rfl
    rw[←hS]at htk;have HST:Hid (Bp s1 (k+1)=((Bp s1 k).1.set x.toNat y.toNat,some l)):=hst;have hL:=I9 s1 k;have hxl:=x.toNat_lt;have HP:Hid (wr.heap[w.heap.size]?=some (.cells Tryz.zeroCells139 139 (0,0))∧wr.heap[w.heap.size+1]?=some (.cells (Ac (Bp s1 k).1).toArray 139 (0,0))∧Aa (fun j=>j=p) w wr):=⟨hb0,hb1,hkr⟩;clear hh hst htke hb0 hb1 hkr hrd hrs hl2 hS;generalize(Bp s1 k).1=L at*;go_wp2_with fail;refine htk.mono ?_;rintro e w2 ⟨rfl,hr2,hk2⟩;have c1:=hr2.bad;have b1:(some l:Hm.Rd).isNone=false:=rfl;rw[b1]at c1;have hb1:=hk2.row HP.out.2.1 (fun h=>hne1 h.symm);have c2:w2.cell? ⟨w.heap.size+1,x.toNat,none⟩=some (.int .i64 ((L.getD x.toNat 0:Nat):Int)):=by
     rw[Alc _ _ _ _ _ _ hb1];simp[Ac,List.getD_eq_getElem?_getD,List.getElem?_eq_getElem (show x.toNat<L.length from by omega)]
    have f2:w2.frozen? ⟨w.heap.size+1,x.toNat,none⟩=false:=Alk _ _ _ _ _ hb1;have HZ:Hid (Au w2 p (some l)∧Aa (fun j=>j=p) w w2∧w2.heap[w.heap.size]?=some (.cells Tryz.zeroCells139 139 (0,0))∧w2.heap[w.heap.size+1]?=some (.cells (Ac L).toArray 139 (0,0))):=
     ⟨hr2,HP.out.2.2.trans hk2 (fun _ _ h=>h),hk2.row HP.out.1 (fun h=>hne0 h.symm),hb1⟩
    have hx256:((x.toNat:Nat):Int)<256:=by omega
    clear htk hr2 hk2 HP b1 hb1;go_wp2_with fail
    go_region
    go_wp2_with fail;go_roundw
    case rel=>
     have hwy:wrap64 ((y.toNat:Nat):Int)=((y.toNat:Nat):Int):=by have:=y.toNat_lt;unfold wrap64;omega
     rw[hwy];have e3:(Ac L).toArray.setIfInBounds x.toNat (.int .i64 (y.toNat:Nat))=(Ac (L.set x.toNat y.toNat)).toArray:=by apply Am6;simp[Ac,List.map_set]
     have hks:Aa (fun j=>j=w.heap.size+1) w2 (w2.setCell ⟨w.heap.size+1,x.toNat,none⟩ (.int .i64 (y.toNat:Nat))):=(Aa.refl (fun j=>j=w.heap.size+1) w2).setCell (p:=⟨w.heap.size+1,x.toNat,none⟩) (.inr rfl) _;refine⟨k+1,by omega,by go_num,?_,?_,?_,?_⟩
     ·rw[HST.out];exact HZ.out.1.kept hks.drew (fun h=>hne1 h)
     ·exact(HZ.out.2.1.setCell (p:=⟨w.heap.size+1,x.toNat,none⟩) (.inl (by show w.heap.size≤w.heap.size+1;omega)) _).drew
     ·exact hks.drew.row HZ.out.2.2.1 (fun h=>by omega)
     ·rw[HST.out];show(w2.setCell _ _).heap[w.heap.size+1]?=_;rw[Alf _ _ x.toNat _ _ (.int .i64 (y.toNat:Nat)) HZ.out.2.2.2,e3]
    case measure=>simp[intOf];omega
  ·obtain rfl:k=K:=by omega
   obtain⟨ARR,hARR⟩: ∃A,A=(Ac (Bp s1 k).1).toArray:=⟨_,rfl⟩;have HAR:Hid (ARR=(Ac (Bp s1 k).1).toArray):=hARR;rw[←hARR]at hb1;have HZ:Hid (Au wr p (Bp s1 k).2∧Aa (fun j=>j=p) w wr∧wr.heap[w.heap.size]?=some (.cells Tryz.zeroCells139 139 (0,0))∧wr.heap[w.heap.size+1]?=some (.cells ARR 139 (0,0))):=⟨hrd,hkr,hb0,hb1⟩;clear hARR hb0 hb1 hkr hrd;have hasz:ARR.size=256:=by rw[HAR.out,A2,I9]
   have hall:ARR.all (·.oneCell')=true:=by rw[HAR.out];exact Eb _
   have hzs:Tryz.zeroCells139.size=ARR.size:=by rw[hasz,Ju,A2,Alj]
   go_wp2_with(first
    |(refine Amd rfl 139 _ rfl (w.heap.size+1) rfl 139 ARR (0,0) _ HZ.out.2.2.2 Tryz.underlying139 rfl (by rw[hasz];exact B9) ?_)
    |(refine wpList_store_row _ rfl 139 _ _ rfl w.heap.size 139 _ ARR rfl rfl HZ.out.2.2.1 (by rw[hasz];exact B9) hzs hall ?_;intro w9 hw9 hk9))
   refine Amo (v:= .agg ARR) (Am3 Tryz.results70 _ w9 w.heap.size 139 ARR (0,0) _ rfl hw9 Tryz.underlying139 rfl (by rw[hasz];exact B9)) rfl ⟨by rw[HAR.out],HZ.out.1.kept hk9 (fun h=>hne0 h),HZ.out.2.1.trans hk9 (fun j h1 h2=>by omega)⟩
theorem Af8{m n:Nat}: ¬F6 [] m n:=fun h=>by
 have h1:=h.fits;have h2:1≤Am m n:=Al2 (Nat.le_add_left 1 _) (Nat.le_add_left _ _);unfold Hm.szB at h1;simp at h1;omega
set_option maxHeartbeats 2000000 in
theorem Af9(hones:Cd)(p:Nat)(st:Hm.Rd)(m n:Nat)(w:World)(hr:Au w p st)(hm:m≤255)(hn:n≤65535)(hll:Bb st≤4611686018427387904):
  Calls Tryz.prog 67 #[.pointer (some ⟨p,0,none⟩),.int .i64 m,.int .i64 n] w fun e w'=>Aa (fun j=>j=p) w w'∧
   ((∃l,st=some l∧F6 l m n∧Au w' p (some (l.drop (Hm.szB (Am m n))))∧ ∃g,w.heap.size≤g∧e= .returned (.agg (Gs l m n g).toArray)∧IntRow w' g (Bt (l.take (Hm.szB (Am m n)))))∨
    ((∀l,st=some l→ ¬F6 l m n)∧Au w' p none∧e= .returned (.agg Gf.toArray))):=by
 obtain⟨l,hl⟩: ∃l,l=st.getD []:=⟨_,rfl⟩;have hre:=fun W=>Aa9 hones l m n W hm hn (by rw[hl];exact hll);obtain⟨S,hS⟩: ∃S,S=(⟨l.toArray⟩:ByteArray):=⟨_,rfl⟩;rw[←hS]at hre;have hrest:=hr.rest;rw[←hl,←hS]at hrest;have hp:=hr.lt;have HR:Hid (Au w p st∧l=st.getD []∧Bb st≤4611686018427387904):=⟨hr,hl,hll⟩;have hal:(w.alloc (.cells #[.string ⟨#[]⟩,.int .i64 0,.slice none 0 0,.int .i64 0,.int .i64 0] 87)).cell? ⟨p,0,none⟩=some (.string S):=(((Aa.refl (fun _=>False) w).alloc _).cell (p:=⟨p,0,none⟩) hp id).trans hrest;clear hS hl hr hll hrest
 go_enter Tryz.func67,Tryz.ntmps67
 go_wp2_with fail;refine(hre _).mono ?_;rintro e w1 ⟨hk1,h1⟩;clear hre hal;have hbx:=hk1.row (All w (.cells #[.string ⟨#[]⟩,.int .i64 0,.slice none 0 0,.int .i64 0,.int .i64 0] 87)) id;have hkw:Apd w w1:=((Aa.refl (fun _=>False) w).alloc _).trans hk1 (fun _ _ h=>h);have hw1:w.heap.size<w1.heap.size:=Alw hbx;have hgen: ∃(T:ByteArray) (el:Nat) (ao:Option Addr) (c1 mm lw:Nat) (ok:Bool),e= .returned (.tuple #[.agg #[.string T,.int .i64 (el:Nat),.slice ao c1 c1,.int .i64 (mm:Nat),.int .i64 (lw:Nat)],.bool ok])∧T.size≤4611686018427387904∧
   ((ok=true∧ ∃l,st=some l∧F6 l m n∧T.size=Hm.szB (Am m n)∧ ∃g,w.heap.size<g∧Gs l m n g=[.string T,.int .i64 (el:Nat),.slice ao c1 c1,.int .i64 (mm:Nat),.int .i64 (lw:Nat)]∧IntRow w1 g (Bt (l.take (Hm.szB (Am m n)))))∨
    (ok=false∧(∀l,st=some l→ ¬F6 l m n)∧Gf=[.string T,.int .i64 (el:Nat),.slice ao c1 c1,.int .i64 (mm:Nat),.int .i64 (lw:Nat)])):=by
  rcases h1 with⟨hok,g,hg,rfl,hir⟩|⟨hno,rfl⟩
  ·obtain⟨l',hst⟩: ∃l',st=some l':=by
    cases st with
    |none=>rw[HR.out.2.1]at hok;exact absurd hok Af8
    |some l'=>exact⟨l',rfl⟩
   have hll':l=l':=by rw[HR.out.2.1,hst];rfl
   subst hll';have hTz:(⟨(l.take (Hm.szB (Am m n))).toArray⟩:ByteArray).size=Hm.szB (Am m n):=by have:=hok.fits;show(l.take _).toArray.size=_;simp;omega
   have hlb:l.length≤4611686018427387904:=by have:=HR.out.2.2;rw[hst]at this;exact this
   exact⟨_,_,_,_,_,_,_,rfl,by rw[hTz];exact Al2 hok.fits hlb,.inl ⟨rfl,l,hst,hok,hTz,g,by simp at hg;omega,rfl,hir⟩⟩
  ·refine⟨_,0,_,_,0,0,_,rfl,by show(0:Nat)≤_;omega,.inr ⟨rfl,fun l' h=>?_,rfl⟩⟩;have hll':l=l':=by rw[HR.out.2.1,h];rfl
   rw[←hll'];exact hno
 obtain⟨T,el,ao,c1,mm,lw,ok,rfl,hTz,HP⟩:=hgen;have HP':Hid _:=HP;have hnd:=fun W (h:Au W p st)=>Hy p st ok W h;have htk:=fun W (h:Au W p (C6 st ok))=>K0 p (C6 st ok) T.size W h (Al2 (Ij st ok) HR.out.2.2) hTz;have H1:Hid (w1.heap[w.heap.size]?=some (.cells #[.string ⟨#[]⟩,.int .i64 0,.slice none 0 0,.int .i64 0,.int .i64 0] 87 (0,0))∧Apd w w1∧Au w1 p st∧w.heap.size<w1.heap.size):=
  ⟨hbx,hkw,HR.out.1.kept hkw id,hw1⟩
 have HND:Hid _:=hnd;have HTK:Hid _:=htk;obtain⟨B,hB⟩: ∃B,B=w1.heap.size:=⟨_,rfl⟩;obtain⟨W1,hW1⟩: ∃W1,W1=w1.alloc (.cells #[.string T,.int .i64 (el:Nat),.slice ao c1 c1,.int .i64 (mm:Nat),.int .i64 (lw:Nat)] 87):=⟨_,rfl⟩;have hkW:Apd w1 W1:=by rw[hW1];exact(Aa.refl _ _).alloc _
 have H2:Hid (W1.heap[B]?=some (.cells #[.string T,.int .i64 (el:Nat),.slice ao c1 c1,.int .i64 (mm:Nat),.int .i64 (lw:Nat)] 87 (0,0))∧W1.heap[w.heap.size]?=some (.cells #[.string ⟨#[]⟩,.int .i64 0,.slice none 0 0,.int .i64 0,.int .i64 0] 87 (0,0))∧Apd w W1∧Au W1 p st∧w.heap.size<B∧Apd w1 W1):=
  ⟨by rw[hW1,hB];exact All w1 _,hkW.row hbx id,hkw.trans hkW (fun _ _ h=>h),(HR.out.1.kept hkw id).kept hkW id,by rw[hB];exact hw1,hkW⟩
 have HW1:Hid (w1.alloc (.cells #[.string T,.int .i64 (el:Nat),.slice ao c1 c1,.int .i64 (mm:Nat),.int .i64 (lw:Nat)] 87)=W1∧w1.heap.size=B):=⟨hW1.symm,hB.symm⟩;clear HP hnd htk hbx hkw hw1 hk1 HR hW1 hB hkW h1 H1;go_upto_region 2 with fail
 rw[HW1.out.1,HW1.out.2];clear HW1;have hn1:=HND.out W1 H2.out.2.2.2.1;go_wp2_with fail;refine hn1.mono ?_;rintro e w2 ⟨rfl,hr2,hk2⟩;have hpB:p≠B:=by have:=H2.out.2.2.2.2.1;omega
 have hpR:p≠w.heap.size:=by omega
 have c0:w2.cell? ⟨B,0,none⟩=some (.string T):=(hk2.cell (p:=⟨B,0,none⟩) (Alw H2.out.1) (fun h=>hpB h.symm)).trans (Alc _ _ 0 _ _ _ H2.out.1);have ht1:=HTK.out w2 hr2;have hpk:=fun W (h:W.cell? ⟨B,0,none⟩=some (.string T))=>J5 B 0 T W h;have hpk2:=hpk w2 c0;have H3:Hid (Aa (fun j=>j=p) W1 w2):=hk2;clear hn1 hr2 hk2 HND hpk;go_wp2_with fail;refine hpk2.mono ?_;rintro e w3 ⟨rfl,hw3⟩;subst hw3;clear hpk2;go_wp2_with fail;refine ht1.mono ?_;rintro e w4 ⟨rfl,hr4,hk4⟩;have hk14:Aa (fun j=>j=p) W1 w4:=H3.out.trans hk4 (fun _ _ h=>h);have hy4:=hk14.row H2.out.1 (fun h=>hpB h.symm);have hx4:=hk14.row H2.out.2.1 (fun h=>hpR h.symm);have p0:w4.cell? ⟨B,0,none⟩=some (.string T):=Alc _ _ 0 _ _ _ hy4;have p1:w4.cell? ⟨B,1,none⟩=some (.int .i64 (el:Nat)):=Alc _ _ 1 _ _ _ hy4;have p2:w4.cell? ⟨B,2,none⟩=some (.slice ao c1 c1):=Alc _ _ 2 _ _ _ hy4;have p3:w4.cell? ⟨B,3,none⟩=some (.int .i64 (mm:Nat)):=Alc _ _ 3 _ _ _ hy4;have p4:w4.cell? ⟨B,4,none⟩=some (.int .i64 (lw:Nat)):=Alc _ _ 4 _ _ _ hy4;have q0:w4.cell? ⟨w.heap.size,0,none⟩=some (.string ⟨#[]⟩):=Alc _ _ 0 _ _ _ hx4;have q1:w4.cell? ⟨w.heap.size,1,none⟩=some (.int .i64 0):=Alc _ _ 1 _ _ _ hx4;have q2:w4.cell? ⟨w.heap.size,2,none⟩=some (.slice none 0 0):=Alc _ _ 2 _ _ _ hx4;have q3:w4.cell? ⟨w.heap.size,3,none⟩=some (.int .i64 0):=Alc _ _ 3 _ _ _ hx4;have q4:w4.cell? ⟨w.heap.size,4,none⟩=some (.int .i64 0):=Alc _ _ 4 _ _ _ hx4;have f0:w4.frozen? ⟨w.heap.size,0,none⟩=false:=Alk _ _ 0 _ _ hx4;have f1:w4.frozen? ⟨w.heap.size,1,none⟩=false:=Alk _ _ 1 _ _ hx4;have f2:w4.frozen? ⟨w.heap.size,2,none⟩=false:=Alk _ _ 2 _ _ hx4;have f3:w4.frozen? ⟨w.heap.size,3,none⟩=false:=Alk _ _ 3 _ _ hx4;have f4:w4.frozen? ⟨w.heap.size,4,none⟩=false:=Alk _ _ 4 _ _ hx4;have hBne:w.heap.size≠B:=by have:=H2.out.2.2.2.2.1;omega
 have H4:Hid (w4.heap[w.heap.size]?=some (.cells #[.string ⟨#[]⟩,.int .i64 0,.slice none 0 0,.int .i64 0,.int .i64 0] 87 (0,0))∧Aa (fun j=>j=p) w w4∧Au w4 p (A5 (C6 st ok) T.size).2∧Aa (fun j=>j=p) w1 w4):=
  ⟨hx4,(H2.out.2.2.1.wider (fun _ _ h=>h.elim)).trans hk14 (fun _ _ h=>h),hr4,(H2.out.2.2.2.2.2.wider (fun _ _ h=>h.elim)).trans hk14 (fun _ _ h=>h)⟩
 clear hx4 hy4 hk14 hk4 hr4 ht1 H3 H2 c0 HTK;go_wp2_with fail;have h2:=Alf _ _ 4 _ _ (.int .i64 (lw:Nat)) (Alf _ _ 3 _ _ (.int .i64 (mm:Nat)) (Alf _ _ 2 _ _ (.slice ao c1 c1) (Alf _ _ 1 _ _ (.int .i64 (el:Nat)) (Alf _ _ 0 _ _ (.string T) H4.out.1))));have hk5:=K9 w4 w.heap.size (.string T) (.int .i64 (el:Nat)) (.slice ao c1 c1) (.int .i64 (mm:Nat)) (.int .i64 (lw:Nat));refine Amo (v:= .agg #[.string T,.int .i64 (el:Nat),.slice ao c1 c1,.int .i64 (mm:Nat),.int .i64 (lw:Nat)]) (Am3 Tryz.results67 _ _ w.heap.size 87 _ (0,0) _ rfl h2 Tryz.underlying87 rfl (by kernel_rfl)) rfl ⟨?_,?_⟩
 ·exact H4.out.2.1.trans hk5 (fun j h1 h2=>by omega)
 ·have hrd:=H4.out.2.2.1.kept hk5 (fun h=>hpR h);rcases HP'.out with⟨rfl,l,rfl,hok,hz,g,hg,hce,hir⟩|⟨rfl,hno,hce⟩
  ·have e1:(A5 (C6 (some l) true) T.size).2=some (l.drop (Hm.szB (Am m n))):=by
    show(A5 (some l) T.size).2=_;rw[hz,F4 hok.fits]
   rw[e1]at hrd;exact .inl ⟨l,rfl,hok,hrd,g,by omega,by rw[hce],(hir.kept H4.out.2.2.2 (fun h=>by omega)).kept hk5 (fun h=>by omega)⟩
  ·exact .inr ⟨hno,hrd,by rw[hce]⟩
end Go.Proofs.YtegnkfdbmmndaaaGreat
