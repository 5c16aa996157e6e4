import Derived.Test.YtegnkfdbmmndaaaGreatJ00
import Derived.Test.YtegnkfdbmmndaaaGreatJ03
import Derived.Test.YtegnkfdbmmndaaaGreatShelfTwo

namespace Go.Proofs.YtegnkfdbmmndaaaGreat
open Hm
open Go.RowKit Go.Lib Go.Sort Go.Shelf
theorem Yp(w:World)(q:Nat)(os:Array Obj):Apd w (grow (w.drewN q) os):=
 Aa.ofBelow (below_grown_sl w.heap.size w q os (Ale _)) (fun j h1 h2=>by omega)
set_option maxHeartbeats 400000 in
theorem Ahg(pb o g len i k b2 b3:Nat)(s:ByteArray)(w:World)(h:C2 w pb o s len g)(h2:w.cell? ⟨b2,0,none⟩=some (.pointer (some ⟨pb,o,none⟩)))(h3:w.cell? ⟨b3,0,none⟩=some (.int .i64 (k:Nat)))(hi:i<s.size)(hs:s.size≤100000000):
  Calls Tryz.prog 171 #[.int .i64 i,.pointer (some ⟨b2,0,none⟩),.pointer (some ⟨b3,0,none⟩)] w fun e w'=>e= .returned (.bool (decide (k<D1 s.data.toList (i+1))))∧ ∃q,w'=w.drewN q:=by
 have hcl:=Qj s.data.toList;have hsl:s.data.toList.length=s.size:=by simp
 have hcnt:=h.cnt;have hc:w.cell? ⟨g,i+1,none⟩=some (.int .i64 (D1 s.data.toList (i+1):Nat)):=by
  rw[h.row.cell (i:=i+1) (by omega)];simp[Bt]
 obtain⟨u,hu⟩: ∃u,u=D1 s.data.toList (i+1):=⟨_,rfl⟩;rw[←hu]at hc⊢;have hiI:(i:Int)+1<(s.size:Int)+1:=by omega
 have hw1:IntKind.i64.wrap ((i:Int)+1)=(i:Int)+1:=by rw[Al9];omega
 have hw3:((i:Int)+1).toNat=i+1:=by omega
 have hw4:(0:Int)≤(i:Int)+1:=by omega
 have HD:Hid (decide ((k:Int)<(u:Int))=decide (k<u)):=by
  show _=_
  by_cases hh:k<u
  ·rw[Alb hh,Alb (by omega)]
  ·rw[Ald hh,Ald (by omega)]
 clear hcl hsl h hu
 go_enter Tryz.func171,Tryz.ntmps171
 go_wp2;go_quiet(fail);go_wp2;go_ret;refine⟨?_,_,rfl⟩
 first|rfl|(rw[←HD.out];rfl)
namespace Hm
structure Hn(f:Nat→Bool)(k p:Nat):Prop where
 is:f p=true
 nr:rk f p=k
theorem Hn.past{f:Nat→Bool}{k p q:Nat}(h:Hn f k p)(hq:p<q):k<rk f q:=by
 have h1:=J7 f (show p+1≤q from hq);rw[rk,h.is,h.nr]at h1;exact h1
theorem Hn.unique{f:Nat→Bool}{k p q:Nat}(h:Hn f k p)(h':Hn f k q):p=q:=by
 rcases Ami p q with hh|hh|hh
 ·have:=h.past hh;rw[h'.nr]at this;omega
 ·exact hh
 ·have:=h'.past hh;rw[h.nr]at this;omega
theorem Yq(f:Nat→Bool)(k:Nat): ∀n,k<rk f n→ ∃p,p<n∧Hn f k p
 |0,h=>by simp[rk]at h
 |n+1,h=>by
  by_cases hh:k<rk f n
  ·obtain⟨p,hp,h1⟩:=Yq f k n hh;exact⟨p,by omega,h1⟩
  ·rw[rk]at h;cases hf:f n with
   |false=>rw[hf]at h;simp at h;omega
   |true=>rw[hf]at h;simp at h;exact⟨n,by omega,hf,by omega⟩
theorem Ai3(P:Nat→Bool)(n:Nat)(hm: ∀a b,a≤b→b<n→P a=true→P b=true):(List.range n).countP (fun i=>!P i)≤n∧(0<(List.range n).countP (fun i=>!P i)→P ((List.range n).countP (fun i=>!P i)-1)=false):=by
 have hle:(List.range n).countP (fun i=>!P i)≤n:=by have:=List.countP_le_length (p:=fun i=>!P i) (l:=List.range n);simpa using this
 refine⟨hle,fun hpos=>?_⟩;cases hP:P ((List.range n).countP (fun i=>!P i)-1)with
 |false=>rfl
 |true=>
  obtain⟨c,hc⟩: ∃c,c=(List.range n).countP (fun i=>!P i):=⟨_,rfl⟩;rw[←hc]at hP hle hpos;obtain⟨d,hd⟩: ∃d,n=(c-1)+d:=⟨n-(c-1),by omega⟩;have h1:(List.range n).countP (fun i=>!P i)≤c-1:=by
   rw[hd,List.range_add,Ann];have h2:(List.range (c-1)).countP (fun i=>!P i)≤c-1:=by have:=List.countP_le_length (p:=fun i=>!P i) (l:=List.range (c-1));simpa using this
   have h3:(List.map (fun x=>c-1+x) (List.range d)).countP (fun i=>!P i)=0:=by
    rw[List.countP_eq_zero];intro x hx;obtain⟨y,hy,rfl⟩:=List.mem_map.1 hx;have hy2:=List.mem_range.1 hy;have:=hm (c-1) (c-1+y) (by omega) (by omega) hP;simp[this]
   omega
  omega
end Hm
set_option maxHeartbeats 1000000 in
theorem Akh(hones:Cd)(pb o g len k p:Nat)(s:ByteArray)(w:World)(h:C2 w pb o s len g)(hp:p<8*s.size)(hI:Hn (Ak s.data.toList) k p)(hs:s.size≤100000000):
  Calls Tryz.prog 125 #[.pointer (some ⟨pb,o,none⟩),.int .i64 k] w fun e w'=>e= .returned (.int .i64 (p:Nat))∧Apd w w':=by
 obtain⟨W0,hW0⟩: ∃W0,W0=(w.alloc (.cells #[.pointer (some ⟨pb,o,none⟩)] 246)).alloc (.cells #[.int .i64 (k:Nat)] 3):=⟨_,rfl⟩;have hsize:W0.heap.size=w.heap.size+1+1:=by rw[hW0];simp
 have ca:W0.cell? ⟨w.heap.size,0,none⟩=some (.pointer (some ⟨pb,o,none⟩)):=by rw[hW0];exact cell_alloc_sl _ (cell_new_sl w _ _)
 have cx:W0.cell? ⟨w.heap.size+1,0,none⟩=some (.int .i64 (k:Nat)):=by rw[hW0];have:=cell_new_sl (w.alloc (.cells #[.pointer (some ⟨pb,o,none⟩)] 246)) (.int .i64 (k:Nat)) 3;rwa[World.size_alloc]at this
 have hk0:Apd w W0:=by rw[hW0];exact((Aa.refl _ _).alloc _).alloc _
 have h0:=h.kept hk0 id id;have eg: ∀args w,(callFunc 171 args).run Tryz.prog w= .ok (.enter 171 args) w:=enters_of Tryz.func171 (by kernel_rfl) rfl;have hmono: ∀a b,a≤b→b<s.size→decide (k<D1 s.data.toList (a+1))=true→decide (k<D1 s.data.toList (b+1))=true:=fun a b hab _ hh=>by
  have h1:=Amm hh;have h2:=J7 (Ak s.data.toList) (show 8*(a+1)≤8*(b+1)from by omega);rw[←Mi,←Mi]at h2;exact Alb (by omega)
 have hS:=Any.sort_Search Tryz.search 171 #[.pointer (some ⟨w.heap.size,0,none⟩),.pointer (some ⟨w.heap.size+1,0,none⟩)] s.size (fun i=>decide (k<D1 s.data.toList (i+1))) W0 eg (by omega)
  (fun m os i hi=>(Ahg pb o g len i k w.heap.size (w.heap.size+1) s _ (h0.kept (Yp W0 m os) id id) (cell_grown (by simp[hsize];omega) ca m os) (cell_grown (by simp[hsize]) cx m os) hi hs).mono
   fun _ _ ⟨he,q,hq⟩=>⟨he,q,#[],by rw[hq,grow_empty]⟩) hmono
 obtain⟨hc1,hc2⟩:=Ai3 _ s.size hmono;obtain⟨c,hc⟩: ∃c,c=(List.range s.size).countP (fun i=>!decide (k<D1 s.data.toList (i+1))):=⟨_,rfl⟩;rw[←hc]at hS hc1 hc2;have hcp:8*c≤p:=by
  by_cases h8:8*c≤p
  ·exact h8
  ·have h2:=of_decide_eq_false (hc2 (by omega));have h3:=hI.past (show p<8*c from by omega);rw[show c-1+1=c from by omega,Mi]at h2;omega
 change Calls Tryz.prog 164 _ _ _ at hS
 have HH:Hid (Apd w W0∧C2 W0 pb o s len g∧W0.cell? ⟨w.heap.size,0,none⟩=some (.pointer (some ⟨pb,o,none⟩))∧W0.cell? ⟨w.heap.size+1,0,none⟩=some (.int .i64 (k:Nat))∧Hn (Ak s.data.toList) k p∧W0.heap.size=w.heap.size+1+1):=⟨hk0,h0,ca,cx,hI,hsize⟩;have hstr:=h0.str;have HW:Hid (W0=(w.alloc (.cells #[.pointer (some ⟨pb,o,none⟩)] 246)).alloc (.cells #[.int .i64 (k:Nat)] 3)):=hW0;clear hk0 h0 cx hI hsize hmono hc hc2 eg h hW0
 go_enter Tryz.func125,Tryz.ntmps125
 go_upto_region 1 with fail
 rw[←HW.out]
 go_wp2_with(go_at_call 164;refine hS.mono ?_;rintro e w1 ⟨rfl,hg1⟩)
 have hk1:Apd W0 w1:=by obtain⟨q,os,rfl⟩:=hg1;exact Yp W0 q os
 have H1:Hid (Apd w w1∧C2 w1 pb o s len g∧w1.cell? ⟨w.heap.size,0,none⟩=some (.pointer (some ⟨pb,o,none⟩))∧w1.cell? ⟨w.heap.size+1,0,none⟩=some (.int .i64 (k:Nat))):=
  ⟨HH.out.1.trans hk1 (fun _ _ h=>h),HH.out.2.1.kept hk1 id id,(hk1.cell (p:=⟨w.heap.size,0,none⟩) (Aly _ _ HH.out.2.2.1) id).trans HH.out.2.2.1,(hk1.cell (p:=⟨w.heap.size+1,0,none⟩) (Aly _ _ HH.out.2.2.2.1) id).trans HH.out.2.2.2.1⟩
 clear hg1 hk1 hS HW hstr ca
 go_loopw[6] (fun va wr=> ∃a:Nat,a≤p∧va= .int .i64 a∧Apd w1 wr) (fun va _=>p-(intOf va).toNat)
 case atStart=>exact⟨8*c,hcp,by first|rfl|(congr 1;omega),Aa.refl _ _⟩
 case round=>
  obtain⟨a,ha,rfl,hkq⟩:=hrel;have hC:C2 wr pb o s len g:=H1.out.2.1.kept hkq id id;have c1:wr.cell? ⟨w.heap.size,0,none⟩=some (.pointer (some ⟨pb,o,none⟩)):=(hkq.cell (p:=⟨w.heap.size,0,none⟩) (Aly _ _ H1.out.2.2.1) id).trans H1.out.2.2.1;have c2:wr.cell? ⟨w.heap.size+1,0,none⟩=some (.int .i64 (k:Nat)):=(hkq.cell (p:=⟨w.heap.size+1,0,none⟩) (Aly _ _ H1.out.2.2.2) id).trans H1.out.2.2.2;have hbt:=fun W (hW:C2 W pb o s len g)=>Xg pb o a s W hW.str (by omega) hs;have hon:=fun W (hW:C2 W pb o s len g)=>Jr hones pb o g len a s W hW (by omega) hs;have hrl:=Px (Ak s.data.toList) a;have HC:Hid (C2 wr pb o s len g∧Apd w1 wr∧Apd w wr):=⟨hC,hkq,H1.out.1.trans hkq (fun _ _ h=>h)⟩;clear hC hkq
  by_cases hap:a=p
  ·subst hap;have hb1:(Ak s.data.toList a).toNat=1:=by rw[HH.out.2.2.2.2.1.is];rfl
   have hr1:Hm.rk (Ak s.data.toList) a=k:=HH.out.2.2.2.2.1.nr;rw[hb1]at hbt;rw[hr1]at hon;clear hb1 hr1 hrl;go_wp2;go_quiet(first|(go_at_call 123;refine Ams (hbt _ ?_);exact HC.out.1.kept ((Aa.refl (fun _=>False) wr).drewN _) id id)|(go_at_call 126;refine Ams (hon _ ?_);exact HC.out.1.kept ((Aa.refl (fun _=>False) wr).drewN _) id id));go_wp2;go_ret;exact⟨rfl,HC.out.2.2.drewN _⟩
  ·have hlt:a<p:=by omega
   cases hbb:Ak s.data.toList a with
   |false=>
    rw[hbb]at hbt;have hb0:(false).toNat=0:=rfl;rw[hb0]at hbt;clear hrl hon hbb hb0;go_wp2;go_quiet(first|(go_at_call 123;refine Ams (hbt _ ?_);exact HC.out.1.kept ((Aa.refl (fun _=>False) wr).drewN _) id id));go_wp2;go_roundw
    case rel=>exact⟨a+1,by omega,by go_num,HC.out.2.1.drewN _⟩
    case measure=>simp[intOf];omega
   |true=>
    have hrk:Hm.rk (Ak s.data.toList) a<k:=by
     have h1:Hn (Ak s.data.toList) (Hm.rk (Ak s.data.toList) a) a:=⟨hbb,rfl⟩;have h2:=h1.past hlt;rwa[HH.out.2.2.2.2.1.nr]at h2
    rw[hbb]at hbt;have hb0:(true).toNat=1:=rfl;rw[hb0]at hbt;generalize Hm.rk (Ak s.data.toList) a=z at*;have hdz:decide (z<k)=true:=Alb hrk;clear hbb hb0;go_wp2;go_quiet(first|(go_at_call 123;refine Ams (hbt _ ?_);exact HC.out.1.kept ((Aa.refl (fun _=>False) wr).drewN _) id id)|(go_at_call 126;refine Ams (hon _ ?_);exact HC.out.1.kept ((Aa.refl (fun _=>False) wr).drewN _) id id));go_wp2;go_roundw
    case rel=>exact⟨a+1,by omega,by go_num,HC.out.2.1.drewN _⟩
    case measure=>simp[intOf];omega
end Go.Proofs.YtegnkfdbmmndaaaGreat
namespace Go.Proofs.YtegnkfdbmmndaaaGreat
open Hm
open Go.RowKit
structure D3(w:World)(pb o:Nat)(s:ByteArray)(len g m low:Nat):Prop where
 bits:C2 w pb o s len g
 files:w.cell? ⟨pb,o+3,none⟩=some (.int .i64 (m:Nat))
 low:w.cell? ⟨pb,o+4,none⟩=some (.int .i64 (low:Nat))
theorem D3.kept{S:Nat→Prop}{w w':World}{pb o len g m low:Nat}{s:ByteArray}(h:D3 w pb o s len g m low)(hk:Aa S w w')(h1: ¬S pb)(h2: ¬S g):D3 w' pb o s len g m low:=
 have hp:pb<w.heap.size:=Aly _ _ h.files
 ⟨h.bits.kept hk h1 h2,(hk.cell (p:=⟨pb,o+3,none⟩) hp h1).trans h.files,(hk.cell (p:=⟨pb,o+4,none⟩) hp h1).trans h.low⟩
namespace Hm
theorem Hn.from{f:Nat→Bool}{a i p:Nat}(h:Hn f (rk f a+i) p):a+i≤p:=by
 by_cases hlt:p<a
 ·have:=h.past hlt;omega
 ·have h1:=Xf f (show a≤p from by omega);rw[h.nr]at h1;omega
def Aa5(f:Nat→Bool)(m low i p:Nat):Nat:=(p-m*low-i)*2^low+Gm f (i*low) low
end Hm
set_option maxHeartbeats 400000 in
theorem Aa6(pb o len g m low:Nat)(s:ByteArray)(w:World)(h:D3 w pb o s len g m low)(hm:m≤1000)(hl:low≤20):
  Calls Tryz.prog 127 #[.pointer (some ⟨pb,o,none⟩)] w fun e w'=>e= .returned (.int .i64 ((m*low:Nat):Int))∧ ∃q,w'=w.drewN q:=by
 have c3:=h.files;have c4:=h.low;have hml:m*low≤1000*20:=Amk hm hl;have HW:Hid (wrap64 ((m:Int)*(low:Int))=((m*low:Nat):Int)):=by
  show _=_;rw[←Aop];unfold wrap64;omega
 clear h hml
 go_enter Tryz.func127,Tryz.ntmps127
 go_wp2;go_quiet(fail);go_wp2;go_ret;refine⟨?_,_,rfl⟩;rw[←HW.out];rfl
set_option maxRecDepth 100000 in
set_option maxHeartbeats 2000000 in
theorem Aki(hones:Cd)(pb o len g m low i p:Nat)(s:ByteArray)(w:World)(h:D3 w pb o s len g m low)(hm:m≤1000)(hl:low≤20)(hi:i<m)(hb:m*low≤8*s.size)(hp:p<8*s.size)
  (hI:Hn (Ak s.data.toList) (Hm.rk (Ak s.data.toList) (m*low)+i) p) (hs:s.size≤1000000):
  Calls Tryz.prog 81 #[.pointer (some ⟨pb,o,none⟩),.int .i64 i] w fun e w'=>e= .returned (.int .i64 (Aa5 (Ak s.data.toList) m low i p:Nat))∧Apd w w':=by
 have hfr:=hI.from;have hml:m*low≤1000*20:=Amk hm hl;have hil:(i+1)*low≤m*low:=Amk (by omega) (Ale _);have hhi:=fun W (hW:D3 W pb o s len g m low)=>Aa6 pb o len g m low s W hW hm hl;have hon:=fun W (hW:D3 W pb o s len g m low)=>Jr hones pb o g len (m*low) s W hW.bits (by omega) (by omega);have hne:=fun W (hW:D3 W pb o s len g m low)=>Akh hones pb o g len _ p s W hW.bits hp hI (by omega);have hnu:=fun W (hW:D3 W pb o s len g m low)=>Aaw pb o (i*low) low s W hW.bits.str (by rw[Anv]at hil;omega) (by omega) (by omega);have hrl:=Px (Ak s.data.toList) (m*low);have hnl:=Uv (Ak s.data.toList) (i*low) low;have hpw:(2:Nat)^low≤1048576:=Am2 (n:=2) (i:=low) (j:=20) (by omega) hl;have HV:Hid (Aa5 (Ak s.data.toList) m low i p=(p-m*low-i)*2^low+Gm (Ak s.data.toList) (i*low) low):=rfl;obtain⟨rh,hrh⟩: ∃r,r=Hm.rk (Ak s.data.toList) (m*low):=⟨_,rfl⟩;obtain⟨nm,hnm⟩: ∃r,r=Gm (Ak s.data.toList) (i*low) low:=⟨_,rfl⟩;obtain⟨hg,hhg⟩: ∃r,r=m*low:=⟨_,rfl⟩;obtain⟨il,hile⟩: ∃r,r=i*low:=⟨_,rfl⟩;obtain⟨ab,hab⟩: ∃r,r=p-m*low-i:=⟨_,rfl⟩;have zab:(p:Int)-(hg:Int)-(i:Int)=(ab:Int):=by omega
 have hwil:IntKind.i64.wrap ((i:Int)*(low:Int))=(il:Int):=by
  rw[Al9,←Aop,←hile];have:il≤20000:=by rw[Anv]at hil;omega
  omega
 have habm:ab*2^low≤8000000*1048576:=Amk (by omega) hpw;rw[←hrh]at hon hne hrl;rw[←hnm,←hile]at hnu;rw[←hhg]at hhi hon hrl;rw[←hnm,←hab]at HV;rw[←hnm]at hnl;have HSH:Hid (wrap64 ((ab:Int)*2^low)=((ab*2^low:Nat):Int)):=Pz ab low (Amx habm (by decide));have HOR:Hid (Go.bits .or .i64 ((ab*2^low:Nat):Int) (nm:Int)=((ab*2^low+nm:Nat):Int)):=by
  show _=_;rw[Py _ _ (Amx habm (by decide)) (Amp hnl (Al2 hpw (by decide))),Nat.or_comm,Uu _ _ _ hnl,Nat.add_comm]
 have HE:Hid (D3 w pb o s len g m low):=h;obtain⟨kk,hkk⟩: ∃r,r=rh+i:=⟨_,rfl⟩;rw[←hkk]at hne;have hwk:IntKind.i64.wrap ((rh:Int)+(i:Int))=(kk:Int):=by rw[Al9];omega
 have HH:Hid _:=hhi;have HO:Hid _:=hon;have HN:Hid _:=hne;have HU:Hid _:=hnu;have hrh2:rh≤20000:=by omega
 have hi2:i≤1000:=by omega
 have hp2:p≤8000000:=by omega
 have hg2:hg≤20000:=by omega
 clear h hhi hon hne hnu hkk hrh hnm hhg hile hab hI hb hp hfr hml hil hrl hnl hpw habm
 go_enter Tryz.func81,Tryz.ntmps81
 go_wp2
 go_region_held(fun X=>D3 X pb o s len g m low) (first|exact k3|exact k2|exact k1|exact HE.out.kept (Aa.refl (fun _=>False) w).drew id id)
  (first
   |(go_at_call 127;(refine(HH.out _ (HE.out.kept (Aa.refl (fun _=>False) w).drew id id)).mono ?_;rintro e w1 ⟨rfl,q1,hq1⟩;have hk1:Apd w w1:=(by rw[hq1];exact(Aa.refl (fun _=>False) w).drew.drewN q1);have k1:=HE.out.kept hk1 id id;clear hq1))
   |(go_at_call 126;(refine(HO.out _ k1).mono ?_;rintro e w2 ⟨rfl,hq2⟩;have hk2:Apd w w2:=(by rw[hq2];exact hk1);have k2:=HE.out.kept hk2 id id;clear hq2))
   |(go_at_call 125;(refine(HN.out _ k2).mono ?_;rintro e w3 ⟨rfl,hq3⟩;have hk3:Apd w w3:=hk2.trans hq3 (fun _ _ h=>h);have k3:=HE.out.kept hk3 id id;clear hq3)))
 clear k1 k2 hk1 hk2 HO HN;go_wp2_with fail;refine(HH.out _ k3).mono ?_;rintro e w4 ⟨rfl,q4,hq4⟩;have hk4:Apd w w4:=by rw[hq4];exact hk3.drewN q4
 have K4:Hid (D3 w4 pb o s len g m low∧Apd w w4):=⟨HE.out.kept hk4 id id,hk4⟩;have c4:=K4.out.1.low;clear hq4 hk4 hk3 k3 HH HE;go_wp2_with fail;go_quiet(first|(go_at_call 128;refine Ams (HU.out _ ?_);exact K4.out.1.kept ((Aa.refl (fun _=>False) w4).drewN _) id id));go_wp2;go_ret;refine⟨?_,K4.out.2.drewN _⟩;rw[HV.out,←HOR.out,←HSH.out];rfl
namespace Hm
noncomputable def Vr(f:Nat→Bool)(k:Nat):Nat:=Classical.epsilon (Hn f k)
theorem U1{f:Nat→Bool}{k p:Nat}(h:Hn f k p):Vr f k=p:=Hn.unique (Classical.epsilon_spec (p:=Hn f k) ⟨p,h⟩) h
theorem Ai4{f:Nat→Bool}{k n:Nat}(h:k<rk f n):Vr f k<n∧Hn f k (Vr f k):=by
 obtain⟨p,hp,h1⟩:=Yq f k n h;rw[U1 h1];exact⟨hp,h1⟩
noncomputable def Fb(f:Nat→Bool)(m low i:Nat):Nat:=Aa5 f m low i (Vr f (rk f (m*low)+i))
noncomputable def Et(f:Nat→Bool)(m low i:Nat):Nat:=if i=0 then 0 else Fb f m low (i-1)
structure M8(f:Nat→Bool)(len m low n:Nat):Prop where
 ones:rk f len=rk f (m*low)+m
 asc: ∀i,i<m→Et f m low i≤Fb f m low i
 all:Et f m low m=n
end Hm
set_option maxHeartbeats 400000 in
theorem Aa7(hones:Cd)(pb o len g m low i:Nat)(s:ByteArray)(w:World)(h:D3 w pb o s len g m low)(hm:m≤1000)(hl:low≤20)(hi:i<m)(hb:m*low≤len)(hlen:len≤8*s.size)
  (hI:Hm.rk (Ak s.data.toList) len=Hm.rk (Ak s.data.toList) (m*low)+m) (hs:s.size≤1000000):
  Calls Tryz.prog 36 #[.pointer (some ⟨pb,o,none⟩),.int .i64 i] w fun e w'=>e= .returned (.tuple #[.int .i64 (Et (Ak s.data.toList) m low i:Nat),.int .i64 (Fb (Ak s.data.toList) m low i:Nat)])∧Apd w w':=by
 have HEN:Hid (∀j W,j<m→Apd w W→Calls Tryz.prog 81 #[.pointer (some ⟨pb,o,none⟩),.int .i64 (j:Nat)] W fun e w'=>e= .returned (.int .i64 (Fb (Ak s.data.toList) m low j:Nat))∧Apd W w'):=fun j W hj hk=>by
  obtain⟨h1,h2⟩:=Ai4 (f:=Ak s.data.toList) (k:=Hm.rk (Ak s.data.toList) (m*low)+j) (n:=len) (by omega);exact Aki hones pb o len g m low j _ s W (h.kept hk id id) hm hl hj (by omega) (by omega) h2 hs
 clear h hI
 by_cases h0:i=0
 ·subst h0;have he:=HEN.out 0 w hi (Aa.refl _ _);have HF:Hid (Et (Ak s.data.toList) m low 0=0):=rfl;rw[HF.out];generalize Fb (Ak s.data.toList) m low 0=x at*;clear HEN
  go_enter Tryz.func36,Tryz.ntmps36
  go_wp2_with fail;refine he.mono ?_;rintro e w1 ⟨rfl,hk1⟩;go_wp2_with fail;go_ret2;exact⟨rfl,hk1⟩
 ·obtain⟨j,rfl⟩: ∃j,i=j+1:=⟨i-1,by omega⟩;have he:=HEN.out j w (by omega) (Aa.refl _ _);have HE2:Hid (∀W,Apd w W→_):=fun W hk=>HEN.out (j+1) W hi hk;have HF:Hid (Et (Ak s.data.toList) m low (j+1)=Fb (Ak s.data.toList) m low j):=rfl;rw[HF.out];generalize Fb (Ak s.data.toList) m low (j+1)=x at*;generalize Fb (Ak s.data.toList) m low j=y at*;have hj2:j≤1000:=by omega
  clear HEN HF
  go_enter Tryz.func36,Tryz.ntmps36
  go_wp2_with fail;refine he.mono ?_;rintro e w1 ⟨rfl,hk1⟩;have he2:=HE2.out w1 hk1;rw[show((j+1:Nat):Int)=(j:Int)+1 from by omega]at he2;clear he HE2;go_wp2_with fail;refine he2.mono ?_;rintro e w2 ⟨rfl,hk2⟩;go_wp2_with fail;go_ret2;exact⟨rfl,hk1.trans hk2 (fun _ _ h=>h)⟩
set_option maxHeartbeats 2000000 in
theorem Ahh(hones:Cd)(pb o len g m low n:Nat)(s:ByteArray)(w:World)(h:D3 w pb o s len g m low)(hm:m≤1000)(hl:low≤20)(hb:m*low≤len)(hlen:len≤8*s.size)(hs:s.size≤1000000):
  Calls Tryz.prog 168 #[.pointer (some ⟨pb,o,none⟩),.int .i64 n] w fun e w'=> ∃b,e= .returned (.bool b)∧(b=true↔M8 (Ak s.data.toList) len m low n)∧Apd w w':=by
 have hml:m*low≤1000*20:=Amk hm hl;have hln:=fun W (hW:D3 W pb o s len g m low)=>Tm pb o len W hW.bits.len;have ho1:=fun W (hW:D3 W pb o s len g m low)=>Jr hones pb o g len len s W hW.bits hlen (by omega);have ho2:=fun W (hW:D3 W pb o s len g m low)=>Jr hones pb o g len (m*low) s W hW.bits (by omega) (by omega);have hhi:=fun W (hW:D3 W pb o s len g m low)=>Aa6 pb o len g m low s W hW hm hl;have hr1:=Px (Ak s.data.toList) len;have hr2:=J7 (Ak s.data.toList) hb;have HFI:Hid (Hm.rk (Ak s.data.toList) len=Hm.rk (Ak s.data.toList) (m*low)+m→ ∀i W,i<m→D3 W pb o s len g m low→Calls Tryz.prog 36 #[.pointer (some ⟨pb,o,none⟩),.int .i64 (i:Nat)] W fun e w'=>e= .returned (.tuple #[.int .i64 (Et (Ak s.data.toList) m low i:Nat),.int .i64 (Fb (Ak s.data.toList) m low i:Nat)])∧Apd W w'):=
  fun hI i W hi hW=>Aa7 hones pb o len g m low i s W hW hm hl hi hb hlen hI hs
 have HC:Hid (M8 (Ak s.data.toList) len m low n→Hm.rk (Ak s.data.toList) len=Hm.rk (Ak s.data.toList) (m*low)+m):=fun h=>h.ones;have c3:=h.files;have HE:Hid (D3 w pb o s len g m low):=h;obtain⟨R1,hR1⟩: ∃r,r=Hm.rk (Ak s.data.toList) len:=⟨_,rfl⟩;obtain⟨R2,hR2⟩: ∃r,r=Hm.rk (Ak s.data.toList) (m*low):=⟨_,rfl⟩;obtain⟨hg,hhg⟩: ∃r,r=m*low:=⟨_,rfl⟩;rw[←hR1]at ho1 hr1 hr2;rw[←hR2]at ho2 hr2;rw[←hhg]at hhi;rw[←hhg]at ho2;have hR1b:R1≤8000000:=by omega
 have hw1:IntKind.i64.wrap ((R1:Int)-(R2:Int))=(R1:Int)-(R2:Int):=by rw[Al9];omega
 have HLN:Hid _:=hln;have HO1:Hid _:=ho1;have HO2:Hid _:=ho2;have HHI:Hid _:=hhi
 by_cases hA:R1=R2+m
 ·have HA:Hid (Hm.rk (Ak s.data.toList) len=Hm.rk (Ak s.data.toList) (m*low)+m):=by show _=_;rw[←hR1,←hR2];exact hA
  have hneq:((R1:Int)-(R2:Int) !=(m:Int))=false:=by simp;omega
  clear h hln ho1 ho2 hhi hR1 hR2 hhg hr1 hr2 hml hA
  go_enter Tryz.func168,Tryz.ntmps168
  go_wp2;go_quiet(first
   |(go_at_call 182;refine Ams (HLN.out _ ?_);exact HE.out.kept ((Aa.refl (fun _=>False) w).drewN _) id id)
   |(go_at_call 127;refine Calls.quiet_of (HHI.out _ ?_);exact HE.out.kept ((Aa.refl (fun _=>False) w).drewN _) id id)
   |(go_at_call_of 126 (Value.int .i64 (len:Int));refine Ams (HO1.out _ ?_);exact HE.out.kept ((Aa.refl (fun _=>False) w).drewN _) id id)
   |(go_at_call_of 126 (Value.int .i64 (hg:Int));refine Ams (HO2.out _ ?_);exact HE.out.kept ((Aa.refl (fun _=>False) w).drewN _) id id))
  go_wp2
  go_loopw[5,34] (fun va vi wr=> ∃k:Nat,k≤m∧vi= .int .i64 k∧va= .int .i64 (Et (Ak s.data.toList) m low k:Nat)∧Hid (∀i,i<k→Et (Ak s.data.toList) m low i≤Fb (Ak s.data.toList) m low i)∧Apd w wr) (fun _ vi _=>m-(intOf vi).toNat)
  case atStart=>exact⟨0,by omega,rfl,rfl,fun i hi=>by omega,(Aa.refl _ _).drewN _⟩
  case round=>
   obtain⟨k,hk,rfl,rfl,HK,hkr⟩:=hrel;have HKR:Hid (Apd w wr):=hkr
   by_cases hlt:k<m
   ·have hfi:=HFI.out HA.out k wr hlt (HE.out.kept hkr id id);have HN:Hid (Et (Ak s.data.toList) m low (k+1)=Fb (Ak s.data.toList) m low k):=rfl
    by_cases hle:Et (Ak s.data.toList) m low k≤Fb (Ak s.data.toList) m low k
    ·have HL:Hid (∀i,i<k+1→Et (Ak s.data.toList) m low i≤Fb (Ak s.data.toList) m low i):=fun i hi=>by
      rcases Nat.lt_or_eq_of_le (show i≤k from by omega)with h|h
      ·exact HK.out i h
      ·rw[h];exact hle
     generalize Et (Ak s.data.toList) m low k=x at*;generalize Fb (Ak s.data.toList) m low k=y at*;have hd:decide (y<x)=false:=Ald (by omega);clear hkr HK;go_wp2_with fail;refine hfi.mono ?_;rintro e w1 ⟨rfl,hk1⟩;have HK1:Hid (Apd w w1):=HKR.out.trans hk1 (fun _ _ h=>h);clear hk1 hfi;go_wp2_with fail;go_roundw
     case rel=>exact⟨k+1,by omega,by go_num,by rw[HN.out],HL,HK1.out⟩
     case measure=>simp[intOf];omega
    ·have HNo:Hid (¬M8 (Ak s.data.toList) len m low n):=fun h=>hle (h.asc k hlt);generalize Et (Ak s.data.toList) m low k=x at*;generalize Fb (Ak s.data.toList) m low k=y at*;have hd:decide (y<x)=true:=Alb (by omega);clear hkr HK HN;go_wp2_with fail;refine hfi.mono ?_;rintro e w1 ⟨rfl,hk1⟩;have HK1:Hid (Apd w w1):=HKR.out.trans hk1 (fun _ _ h=>h);clear hk1 hfi;go_wp2_with fail;go_ret;exact⟨false,rfl,⟨fun h=>(by cases h),fun h=>absurd h HNo.out⟩,HK1.out⟩
   ·obtain rfl:k=m:=by omega
    have HB:Hid (decide (Et (Ak s.data.toList) k low k=n)=true↔M8 (Ak s.data.toList) len k low n):=
     ⟨fun h=>⟨HA.out,HK.out,Amm h⟩,fun h=>Alb h.all⟩
    generalize Et (Ak s.data.toList) k low k=x at*;clear hkr HK;go_wp2_with fail;go_ret;refine⟨decide (x=n),?_,HB.out,HKR.out⟩;have e:(((x:Nat):Int)==((n:Nat):Int))=decide (x=n):=by rw[Bool.eq_iff_iff];simp;omega
    rw[←e];rfl
 ·have HNo:Hid (¬M8 (Ak s.data.toList) len m low n):=fun h=>hA (by rw[hR1,hR2];exact h.ones);have hneq:((R1:Int)-(R2:Int) !=(m:Int))=true:=by simp;omega
  clear h hln ho1 ho2 hhi hR1 hR2 hhg hr1 hr2 hml hA HFI HC
  go_enter Tryz.func168,Tryz.ntmps168
  go_wp2;go_quiet(first
   |(go_at_call 182;refine Ams (HLN.out _ ?_);exact HE.out.kept ((Aa.refl (fun _=>False) w).drewN _) id id)
   |(go_at_call 127;refine Calls.quiet_of (HHI.out _ ?_);exact HE.out.kept ((Aa.refl (fun _=>False) w).drewN _) id id)
   |(go_at_call_of 126 (Value.int .i64 (len:Int));refine Ams (HO1.out _ ?_);exact HE.out.kept ((Aa.refl (fun _=>False) w).drewN _) id id)
   |(go_at_call_of 126 (Value.int .i64 (hg:Int));refine Ams (HO2.out _ ?_);exact HE.out.kept ((Aa.refl (fun _=>False) w).drewN _) id id))
  go_wp2;go_ret;exact⟨false,rfl,⟨fun h=>(by cases h),fun h=>absurd h HNo.out⟩,(Aa.refl _ _).drewN _⟩
namespace Hm
def Cy(m n:Nat):Nat:=if m=0 then 0 else Do m n 18 0
theorem Ro(m n:Nat)(hm:1≤m)(d:Nat): ∀f j,n<2^(j+f)→Do m n (f+d) j=Do m n f j
 |0,j,h=>by
  rw[Aon]at h;cases d with
  |zero=>rfl
  |succ d=>
   rw[Al7,Do,Do,if_neg];have h1:1*2^(j+1)≤m*2^(j+1):=Anj _ hm;rw[Amv]at h1⊢;omega
 |f+1,j,h=>by
  rw[show f+1+d=(f+d)+1 from by omega,Do,Do,Ro m n hm d f (j+1) (by rw[show j+1+f=j+(f+1)from by omega];exact h)]
theorem Rp(m n:Nat)(hn:n≤6000):Cy m n=By m n:=by
 unfold Cy By;split
 ·rfl
 ·exact Ro m n (by omega) 4 14 0 (by omega)
theorem Ac6(m n:Nat)(hm:1≤m)(hn:n≤65535): ∀f j,j≤16→Do m n f j≤16:=by
 intro f;induction f with
 |zero=>intro j hj;exact hj
 |succ f ih=>
  intro j hj;unfold Do;split
  ·rename_i h;refine ih (j+1) ?_;rcases Am7 j 16 with h1|h1
   ·omega
   ·have:j=16:=by omega
    subst this;have:1*2^17≤m*2^17:=Anj _ hm;omega
  ·exact hj
theorem Xh(m n:Nat)(hn:n≤65535):Cy m n≤16:=by
 unfold Cy;split
 ·omega
 ·exact Ac6 m n (by omega) hn 18 0 (by omega)
end Hm
set_option maxHeartbeats 400000 in
theorem Ac7(m n:Nat)(w:World)(hm:m≤1000)(hn:n≤65535):
  Calls Tryz.prog 141 #[.int .i64 m,.int .i64 n] w fun e w'=>e= .returned (.int .i64 (Cy m n:Nat))∧w=w':=by
 by_cases h0:m=0
 ·subst h0
  go_enter Tryz.func141,Tryz.ntmps141
  go_wp2;go_ret;exact⟨rfl,rfl⟩
 have HE:Hid (Cy m n=Do m n (18-0) 0):=by unfold Cy;rw[if_neg h0];rfl
 generalize Cy m n=L at HE⊢;have h1:1≤m:=by omega
 have hb0:((m:Int)==0)=false:=by simp;omega
 go_enter Tryz.func141,Tryz.ntmps141
 go_wp2
 go_loop [5] (fun i=> ∃j:Nat,j≤16∧i= .int .i64 j∧m*2^j≤65535+m∧L=Do m n (18-j) j) (fun i=>18-(intOf i).toNat)
 case atStart=>exact⟨0,by omega,rfl,by omega,HE.out⟩
 case round=>
  clear HE;obtain⟨j,hj,rfl,hp,hL⟩:=hrel;have HL:Hid (L=if m*2^(j+1)≤n then Do m n (17-j) (j+1)else j):=by
   show _=_;rw[hL,show 18-j=(17-j)+1 from by omega];rfl
  have e2:m*2^(j+1)=m*2^j*2:=by rw[Amv,Aot]
  obtain⟨p,hpe,HP⟩: ∃p:Nat,(m:Int)*2^(j+1)=(p:Int)∧Hid (p=m*2^(j+1)):=⟨m*2^(j+1),by simp,rfl⟩;have hpb:p≤133100:=by have:=HP.out;omega
  have hj2:p≤n→j<16:=by
   intro hpn;rcases Am7 j 16 with h|h
   ·exact h
   ·have:j=16:=by omega
    subst this;have h3:=HP.out;have:1*2^17≤m*2^17:=Anj _ h1;omega
  have HJ:Hid ((p≤n→j<16)∧m*2^j≤65535+m):=⟨hj2,hp⟩;clear hL hp e2 hj2
  by_cases hpn:p≤n
  ·go_wp2
   go_round
   case rel=>
    have h3:=HP.out;refine⟨j+1,by have:=HJ.out.1 hpn;omega,by go_num,by rw[←h3];omega,?_⟩;rw[HL.out,if_pos (by omega)];congr 1;omega
   case measure=>simp[intOf];omega
  ·go_wp2;go_ret;have h3:=HP.out;refine⟨?_,rfl⟩;have:L=j:=by rw[HL.out,if_neg (by omega)]
   rw[this];rfl
theorem Oj(s:ByteArray)(w:World)(hs:s.size≤281474976710656):Calls Tryz.prog 37 #[.string s] w fun e w'=>e= .returned (.string s)∧Apd w w':=by
 have h:=Tryz.stringslite_Clone s w hs
 go_enter Tryz.func37,Tryz.ntmps37
 go_wp2_with fail;refine h.mono ?_;rintro e w1 ⟨rfl,hb⟩;go_wp2_with fail;go_ret;exact⟨rfl,Aa.ofBelow hb (fun j h1 h2=>by omega)⟩
theorem Lm(l:List UInt8)(len:Nat)(w:World)(hl:(len+7)/8≤l.length)(hn:len≤10000000)(hll:l.length≤4611686018427387904):
  Calls Tryz.prog 167 #[.string ⟨l.toArray⟩,.int .i64 len] w fun e w'=>e= .returned (.agg #[.string ⟨(l.take ((len+7)/8)).toArray⟩,.int .i64 (len:Nat)])∧Apd w w':=by
 have hsz:=fun W=>Pw len W (by omega);obtain⟨q,hq⟩: ∃q,q=(len+7)/8:=⟨_,rfl⟩;rw[←hq]at hsz hl⊢;have hq2:q≤10000000:=by omega
 obtain⟨S,hS⟩: ∃S,S=(⟨l.toArray⟩:ByteArray):=⟨_,rfl⟩;have hz:S.size=l.length:=by rw[hS];show l.toArray.size=_;simp
 obtain⟨T,hT⟩: ∃T,T=S.extract 0 q:=⟨_,rfl⟩;have HT:Hid (T=⟨(l.take q).toArray⟩):=by show _=_;rw[hT,hS,extract_toArray];simp
 have hTz:T.size≤281474976710656:=by rw[HT.out];show(l.take q).toArray.size≤_;simp;omega
 have hcl:=fun W=>Oj T W hTz;rw[←HT.out,←hS];have hT2:S.extract 0 q=T:=hT.symm;clear hS hT HT hTz hq
 go_enter Tryz.func167,Tryz.ntmps167
 go_wp2_with fail;refine(hsz _).mono ?_;rintro e w1 ⟨rfl,rfl⟩;clear hsz;go_wp2_with fail;refine(hcl _).mono ?_;rintro e w2 ⟨rfl,hk2⟩;have hbx:=hk2.row (All w (.cells #[.string ⟨#[]⟩,.int .i64 0] 83)) id;have c0:w2.cell? ⟨w.heap.size,0,none⟩=some (.string ⟨#[]⟩):=Alc _ _ 0 _ _ _ hbx;have c1:w2.cell? ⟨w.heap.size,1,none⟩=some (.int .i64 0):=Alc _ _ 1 _ _ _ hbx;have f0:w2.frozen? ⟨w.heap.size,0,none⟩=false:=Alk _ _ 0 _ _ hbx;have f1:w2.frozen? ⟨w.heap.size,1,none⟩=false:=Alk _ _ 1 _ _ hbx;have HK:Hid (Apd w w2∧w2.heap[w.heap.size]?=some (.cells #[.string ⟨#[]⟩,.int .i64 0] 83 (0,0))):=⟨((Aa.refl (fun _=>False) w).alloc _).trans hk2 (fun _ _ h=>h),hbx⟩;clear hcl hk2 hbx;go_wp2_with fail;have h2:=Alf _ _ 1 _ _ (.int .i64 (len:Nat)) (Alf _ _ 0 _ _ (.string T) HK.out.2);refine Amo (v:= .agg #[.string T,.int .i64 (len:Nat)]) (Am3 Tryz.results167 _ _ w.heap.size 83 _ (0,0) _ rfl h2 Tryz.underlying83 rfl (by kernel_rfl)) rfl ⟨rfl,?_⟩;exact(HK.out.1.setCell (p:=⟨w.heap.size,0,none⟩) (.inl (Ale _)) _).setCell (p:=⟨w.heap.size,1,none⟩) (.inl (Ale _)) _
set_option maxHeartbeats 400000 in
theorem Pd(m n l:Nat)(w:World)(hm:m≤100000)(hn:n≤100000)(hl:l≤20):Calls Tryz.prog 145 #[.int .i64 m,.int .i64 n,.int .i64 l] w fun e w'=>e= .returned (.int .i64 (m+n/2^l+1:Nat))∧w'=w:=by
 obtain⟨q,hq,HQ⟩: ∃q:Nat,(n:Int)/2^l=(q:Int)∧Hid (q=n/2^l):=⟨n/2^l,by simp,rfl⟩;have hqn:q≤n:=by rw[HQ.out];exact Anu _ _
 rw[←HQ.out]
 go_enter Tryz.func145,Tryz.ntmps145
 go_wp2;go_ret;exact⟨by first|rfl|go_num|(congr 2;omega),rfl⟩
theorem K9(w:World)(b:Nat)(x y z u v:Value):Aa (fun j=>j=b) w (((((w.setCell ⟨b,0,none⟩ x).setCell ⟨b,1,none⟩ y).setCell ⟨b,2,none⟩ z).setCell ⟨b,3,none⟩ u).setCell ⟨b,4,none⟩ v):=
 ((Lf w b x y z).setCell (p:=⟨b,3,none⟩) (.inr rfl) u).setCell (p:=⟨b,4,none⟩) (.inr rfl) v
set_option maxHeartbeats 2000000 in
theorem Aa8(hones:Cd)(ao:Option Addr)(c:Nat)(es:List Nat)(n:Nat)(w:World)(hi:Jn w ao es)(hm:es.length≤40)(hn:n≤6000)(he: ∀e∈es,e≤n):
  Calls Tryz.prog 97 #[.slice ao es.length c,.int .i64 n] w fun e w'=> ∃g,w.heap.size≤g∧e= .returned (.agg #[.string ⟨(Ah (Bf es n)).toArray⟩,.int .i64 ((Bf es n).length:Nat),.slice (some ⟨g,0,none⟩) ((Ah (Bf es n)).length+1) ((Ah (Bf es n)).length+1),.int .i64 (es.length:Nat),.int .i64 (By es.length n:Nat)])∧
   IntRow w' g (Bt (Ah (Bf es n)))∧Apd w w':=by
 have HON:Aside _:=hones;clear hones;have hL:=Ni es.length n hn;have HR:Hid (Bf es n=Fu es (By es.length n) (Co es (By es.length n)).length (Co es (By es.length n)++List.replicate (es.length+n/2^By es.length n+1) false) es.length):=rfl;generalize Bf es n=R at HR⊢;have hlw:=fun W=>Aao es.length n W (by omega) hn;generalize By es.length n=L at hL hlw HR;have hel:=Hc es L;have hmul:es.length*L≤480:=by have:=Amk hm hL;omega
 generalize hB:Co es L=B at HR hel;have hpow:n/2^L≤n:=Anu _ _
 go_enter Tryz.func97,Tryz.ntmps97
 go_wp2_with fail;refine(hlw _).mono ?_;rintro e w1 ⟨rfl,rfl⟩;clear hlw;go_wp2
 go_loopw[18] (fun i wr=> ∃(k:Nat) (v':Value),k≤es.length∧i= .int .i64 k∧Dq wr 221 (w.heap.size+1) v' (Co (es.take k) L)∧Aa (fun j=>w.heap.size+1≤j) ((w.alloc (.cells #[.string ⟨#[]⟩,.int .i64 0,.slice none 0 0,.int .i64 0,.int .i64 0] 87)).alloc (.cells #[.slice none 0 0,.int .i64 0] 221)) wr∧(∀j,v'.ownBlock=some j→w.heap.size+2≤j)) (fun i _=>es.length-(intOf i).toNat)
 case atStart=>exact⟨0,.slice none 0 0,Alr _,rfl,by simpa[Co]using Aap w _ _,Aa.refl _ _,fun j h=>by cases h⟩
 case round=>
  obtain⟨k,v',hk,rfl,hb,hkr,hmr⟩:=hrel;have hkw:Apd w wr:=(((Aa.refl (fun _=>False) w).alloc _).alloc _).trans hkr (fun j h1 h2=>by omega)
  by_cases hlt:k<es.length
  ·obtain⟨b,o,hao,hbw,hc1⟩:=(hi.kept hkw (fun a ha=>id)) k hlt;have hek:=he es[k] (Alo _);have HT:Hid (Co (es.take (k+1)) L=Co (es.take k) L++At es[k] L):=Tn es L k hlt;have hlk:(Co (es.take k) L).length≤480:=by
    rw[Hc];have:(es.take k).length*L≤es.length*L:=Anj _ (by simp;omega);omega
   generalize es[k]=x at*;have hcon:=Vf 221 (w.heap.size+1) v' (Co (es.take k) L) x L wr hb (by omega) (by omega) (by omega);rw[hao];clear hao hi hb he
   go_wp2_with(go_at_call 142;refine hcon.mono ?_;rintro e w2 ⟨v2,rfl,hb2,hk2,hm2⟩)
   go_roundw
   case rel=>
    refine⟨k+1,v2,by omega,by go_num,by rw[HT.out];exact hb2,hkr.trans hk2 (fun j h1 h2=>?_),fun j h=>?_⟩
    ·rcases h2 with h2|h2
     ·omega
     ·have:=hmr j h2;omega
    ·rcases hm2 j h with h2|h2
     ·exact hmr j h2
     ·have:=hkr.size;simp at this;omega
   case measure=>simp[intOf];omega
  ·obtain rfl:k=es.length:=by omega
   rw[Ama,hB]at hb;obtain⟨q,hq,HQ⟩: ∃q:Nat,(n:Int)/2^L=(q:Int)∧Hid (q=n/2^L):=⟨n/2^L,by simp,rfl⟩;have hqn:q≤n:=by have:=HQ.out;omega
   have hBl:B.length≤480:=by omega
   have hlen:=Akb 221 (w.heap.size+1) v' B wr hb;have hgr:=Aam 221 (w.heap.size+1) v' B (es.length+q+1) wr hb (by omega) (by omega);have hhl:=fun W=>Pd es.length n L W (by omega) (by omega) (by omega);rw[←HQ.out]at hhl;have HH:Hid (Jn w ao es∧Dq wr 221 (w.heap.size+1) v' B):=⟨hi,hb⟩;have HEL:Hid (B.length=es.length*L):=hel;clear hi hb hel hB hlt hk hmul;go_wp2_with fail;refine hlen.mono ?_;rintro e w2 ⟨rfl,rfl⟩;go_wp2_with fail;refine(hhl _).mono ?_;rintro e w2' ⟨rfl,rfl⟩;clear hhl;go_wp2_with fail;refine hgr.mono ?_;rintro e w3 ⟨v3,rfl,hb3,hk3,hm3⟩;clear hlen hgr;have hkr3:Aa (fun j=>w.heap.size+1≤j) ((w.alloc (.cells #[.string ⟨#[]⟩,.int .i64 0,.slice none 0 0,.int .i64 0,.int .i64 0] 87)).alloc (.cells #[.slice none 0 0,.int .i64 0] 221)) w3:=hkr.trans hk3 (fun j h1 h2=>by
    rcases h2 with h2|h2
    ·omega
    ·have:=hmr j h2;omega)
   have hmr3: ∀j,v3.ownBlock=some j→w.heap.size+2≤j:=fun j h=>by
    rcases hm3 j h with h2|h2
    ·exact hmr j h2
    ·have:=hkr.size;simp at this;omega
   generalize hR0:B++List.replicate (es.length+q+1) false=R0 at hb3;have hR0l:R0.length=B.length+(es.length+q+1):=by rw[←hR0];simp
   have HR0:Hid (B++List.replicate (es.length+q+1) false=R0):=hR0;clear hR0 hk3 hm3 hkr hkw;go_wp2
   go_loopw[35] (fun i wr=> ∃(k:Nat),k≤es.length∧i= .int .i64 k∧Dq wr 221 (w.heap.size+1) v3 (Fu es L B.length R0 k)∧Aa (fun j=>w.heap.size+1≤j) ((w.alloc (.cells #[.string ⟨#[]⟩,.int .i64 0,.slice none 0 0,.int .i64 0,.int .i64 0] 87)).alloc (.cells #[.slice none 0 0,.int .i64 0] 221)) wr) (fun i _=>es.length-(intOf i).toNat)
   case atStart=>exact⟨0,Alr _,rfl,hb3,hkr3⟩
   case round=>
    clear hb3 hkr3;obtain⟨k,hk,rfl,hb,hkr⟩:=hrel;obtain⟨hi,_⟩:=HH.out;have hsl:=J6 es L B.length R0 k;have hkw:Apd w wr:=(((Aa.refl (fun _=>False) w).alloc _).alloc _).trans hkr (fun j h1 h2=>by omega)
    by_cases hlt:k<es.length
    ·obtain⟨b,o,hao,hbw,hc1⟩:=(hi.kept hkw (fun a ha=>id)) k hlt;have hek:=he es[k] (Alo _);have HT:Hid (Fu es L B.length R0 (k+1)=(Fu es L B.length R0 k).set (B.length+es[k]/2^L+k) true):=by
      show _=_;simp[Fu,hlt]
     have hdl:es[k]/2^L≤q:=by rw[HQ.out];exact Nat.div_le_div_right hek
     generalize es[k]=x at*;obtain⟨y,hy,HY⟩: ∃y:Nat,(x:Int)/2^L=(y:Int)∧Hid (y=x/2^L):=⟨x/2^L,by simp,rfl⟩;have hyq:y≤q:=by rw[HY.out];exact hdl
     rw[←HY.out]at HT;have hcon:=Aen 221 (w.heap.size+1) v3 (Fu es L B.length R0 k) (B.length+y+k) wr hb (by omega) (by omega);have ec2:((B.length+y+k:Nat):Int)=(B.length:Int)+(y:Int)+(k:Int):=by omega
     rw[ec2]at hcon;rw[hao];clear hao hi hb he hdl hsl hR0l hek
     go_wp2_with(go_at_call 146;refine hcon.mono ?_;rintro e w5 ⟨rfl,hb5,hk5⟩)
     go_roundw
     case rel=>
      refine⟨k+1,by omega,by go_num,by rw[HT.out];exact hb5,hkr.trans hk5 (fun j h1 h2=>?_)⟩;rcases h2 with h2|h2
      ·omega
      ·have:=hmr3 j h2;omega
     case measure=>simp[intOf];omega
    ·obtain rfl:k=es.length:=by omega
     have HF:Hid (R=Fu es L B.length R0 es.length):=by
      show _=_;rw[HR.out,←HR0.out,HQ.out]
     rw[←HF.out]at hb;have hrow:=Xc 221 (w.heap.size+1) v3 R wr hb;have hpl:(⟨(Ah R).toArray⟩:ByteArray).size=(Ah R).length:=by show(Ah R).toArray.size=_;simp
     have hRl:R.length≤100000:=by rw[HF.out,hsl,hR0l];omega
     have hpl2:=A1 R;have hcnt:=fun W=>Jp HON.out ⟨(Ah R).toArray⟩ R.length W (by rw[hpl,hpl2];omega);have e3:(⟨(Ah R).toArray⟩:ByteArray).data.toList=Ah R:=rfl;rw[e3,hpl]at hcnt;have hr0:wr.heap[w.heap.size]?=some (.cells #[.string ⟨#[]⟩,.int .i64 0,.slice none 0 0,.int .i64 0,.int .i64 0] 87 (0,0)):=hkr.row (Anw w _ _) (by omega);have HX:Aside (wr.heap[w.heap.size]?=some (.cells #[.string ⟨#[]⟩,.int .i64 0,.slice none 0 0,.int .i64 0,.int .i64 0] 87 (0,0))∧Apd w wr):=⟨hr0,hkw⟩;have hws:w.heap.size<wr.heap.size:=Alw hr0;have HC:Aside _:=hcnt;obtain⟨s,hS⟩: ∃s,s=(⟨(Ah R).toArray⟩:ByteArray):=⟨_,rfl⟩;obtain⟨P,hP⟩: ∃P,P=Ah R:=⟨_,rfl⟩;have HSP:Aside (s=(⟨(Ah R).toArray⟩:ByteArray)∧P=Ah R):=⟨hS,hP⟩;have HC2:=HC.out;rw[←hS,←hP]at HC2;rw[←hS]at hrow;have HC3:Aside _:=HC2;clear HC2 HC hS hP hpl;clear hb hi he hsl hR0l HR HR0 HF hr0 hkw hkr hpl2 e3 hcnt hRl;go_wp2_with fail;refine hrow.mono ?_;rintro e w5 ⟨rfl,hk5⟩;have hcnt:=HC3.out w5;clear hrow HC3;go_wp2_with fail;refine hcnt.mono ?_;rintro e w6 ⟨g,hg,rfl,hir,hk6⟩;have hk56:Apd wr w6:=hk5.trans hk6 (fun _ _ h=>h);have hr6:=hk56.row HX.out.1 id;have p0:w6.cell? ⟨w.heap.size,0,none⟩=some (.string ⟨#[]⟩):=Alc _ _ 0 _ _ _ hr6;have p1:w6.cell? ⟨w.heap.size,1,none⟩=some (.int .i64 0):=Alc _ _ 1 _ _ _ hr6;have p2:w6.cell? ⟨w.heap.size,2,none⟩=some (.slice none 0 0):=Alc _ _ 2 _ _ _ hr6;have p3:w6.cell? ⟨w.heap.size,3,none⟩=some (.int .i64 0):=Alc _ _ 3 _ _ _ hr6;have p4:w6.cell? ⟨w.heap.size,4,none⟩=some (.int .i64 0):=Alc _ _ 4 _ _ _ hr6;have f0:w6.frozen? ⟨w.heap.size,0,none⟩=false:=Alk _ _ 0 _ _ hr6;have f1:w6.frozen? ⟨w.heap.size,1,none⟩=false:=Alk _ _ 1 _ _ hr6;have f2:w6.frozen? ⟨w.heap.size,2,none⟩=false:=Alk _ _ 2 _ _ hr6;have f3:w6.frozen? ⟨w.heap.size,3,none⟩=false:=Alk _ _ 3 _ _ hr6;have f4:w6.frozen? ⟨w.heap.size,4,none⟩=false:=Alk _ _ 4 _ _ hr6;have HZ:Aside (w6.heap[w.heap.size]?=some (.cells #[.string ⟨#[]⟩,.int .i64 0,.slice none 0 0,.int .i64 0,.int .i64 0] 87 (0,0))∧Apd w w6∧IntRow w6 g (Bt P)∧w.heap.size<g):=⟨hr6,HX.out.2.trans hk56 (fun _ _ h=>h),hir,by have:=hk5.size;omega⟩;clear hcnt hk5 hk6 hk56 hr6 hir hg HX;go_wp2;obtain⟨hr6,hkw,hir,hgw⟩:=HZ.out;have h2:=Alf _ _ 4 _ _ (.int .i64 (L:Nat)) (Alf _ _ 3 _ _ (.int .i64 (es.length:Nat)) (Alf _ _ 2 _ _ (.slice (some ⟨g,0,none⟩) (P.length+1) (P.length+1)) (Alf _ _ 1 _ _ (.int .i64 (R.length:Nat)) (Alf _ _ 0 _ _ (.string s) hr6))));refine Amo (v:= .agg #[.string s,.int .i64 (R.length:Nat),.slice (some ⟨g,0,none⟩) (P.length+1) (P.length+1),.int .i64 (es.length:Nat),.int .i64 (L:Nat)]) (Am3 Tryz.results97 _ _ w.heap.size 87 _ (0,0) _ rfl h2 Tryz.underlying87 rfl (by kernel_rfl)) rfl ⟨g,by omega,by rw[HSP.out.1,HSP.out.2],?_,?_⟩
     ·rw[←HSP.out.2];exact hir.kept (K9 w6 w.heap.size _ _ _ _ _) (fun e=>by omega)
     ·exact hkw.trans (K9 w6 w.heap.size _ _ _ _ _) (fun j h1 h2=>by omega)
theorem Dc{P:Program}{fn:Func}{p u:Tmp}{ty:TypeId}(h:fn.results= #[.cell p ty,.tmp u])(tmps:Array Value)(w:World)(g:Nat)(t:TypeId)(cs:Array Value)(fr:Nat×Nat)(d:TypeDesc)
  (hp:tmps.getD p undef= .pointer (some ⟨g,0,none⟩)) (hg:w.heap[g]?=some (.cells cs t fr))
  (hu:P.underlying ty=some d) (hd:(match d with| .struct _| .array _ _=>true|_=>false)=true) (hi:(P.info? ty).map (·.size)=some cs.size):
  (results fn tmps).run P w= .ok (.tuple #[.agg cs,tmps.getD u undef]) w:=by
 have hp':tmps[p]?.getD undef= .pointer (some ⟨g,0,none⟩):=by simpa using hp
 simp[results,h,hp',asAddr,run_loadVar_row w g t ty cs fr d hg hu hd hi]
namespace Hm
def Am(m n:Nat):Nat:=m*Cy m n+(m+n/2^Cy m n+1)
def szB(k:Nat):Nat:=(k+7)/8
structure F6(l:List UInt8)(m n:Nat):Prop where
 fits:szB (Am m n)≤l.length
 cover:M8 (Ak (l.take (szB (Am m n)))) (Am m n) m (Cy m n) n
end Hm
def Gs(l:List UInt8)(m n g:Nat):List Value:=[.string ⟨(l.take (Hm.szB (Am m n))).toArray⟩,.int .i64 (Am m n:Nat),.slice (some ⟨g,0,none⟩) (Hm.szB (Am m n)+1) (Hm.szB (Am m n)+1),.int .i64 (m:Nat),.int .i64 (Cy m n:Nat)]
def Gf:List Value:=[.string ⟨#[]⟩,.int .i64 0,.slice none 0 0,.int .i64 0,.int .i64 0]
set_option maxHeartbeats 2000000 in
theorem Aa9(hones:Cd)(l:List UInt8)(m n:Nat)(w:World)(hm:m≤255)(hn:n≤65535)(hll:l.length≤4611686018427387904):
  Calls Tryz.prog 117 #[.string ⟨l.toArray⟩,.int .i64 m,.int .i64 n] w fun e w'=>Apd w w'∧
   ((F6 l m n∧ ∃g,w.heap.size≤g∧e= .returned (.tuple #[.agg (Gs l m n g).toArray,.bool true])∧IntRow w' g (Bt (l.take (Hm.szB (Am m n)))))∨
    (¬F6 l m n∧e= .returned (.tuple #[.agg Gf.toArray,.bool false]))):=by
 have hlr:=Xh m n hn;have hlw:=fun W=>Ac7 m n W (by omega) hn;have hhl:=fun W=>Pd m n (Cy m n) W (by omega) (by omega) (by omega);have hml:m*Cy m n≤255*16:=Amk hm hlr;have hdv:=Anu n (2^Cy m n);have HEL:Hid (Am m n=m*Cy m n+(m+n/2^Cy m n+1)):=rfl;have hel:Am m n≤70000:=by rw[HEL.out];omega
 have hpos:1≤Am m n:=by rw[HEL.out];exact Al2 (Nat.le_add_left 1 _) (Nat.le_add_left _ _)
 have hsz:=fun W=>Pw (Am m n) W (by omega);obtain⟨S,hS⟩: ∃S,S=(⟨l.toArray⟩:ByteArray):=⟨_,rfl⟩;have hz:S.size=l.length:=by rw[hS];show l.toArray.size=_;simp
 have HZ:Hid (Hm.szB (Am m n)=(Am m n+7)/8):=rfl;rw[←HZ.out]at hsz;have hzb:Hm.szB (Am m n)≤10000:=by rw[HZ.out];omega
 have hw1:IntKind.i64.wrap ((m:Int)*(Cy m n:Int))=((m*Cy m n:Nat):Int):=by rw[Al9,←Aop];omega
 have hw2:wrap64 ((m:Int)*(Cy m n:Int))=((m*Cy m n:Nat):Int):=by rw[←Aop];unfold wrap64;omega
 have hadd:((m*Cy m n:Nat):Int)+((m+n/2^Cy m n+1:Nat):Int)=(Am m n:Int):=by rw[HEL.out];omega
 obtain⟨ml,hmle⟩: ∃x,x=m*Cy m n:=⟨_,rfl⟩;obtain⟨hh,hhe⟩: ∃x,x=m+n/2^Cy m n+1:=⟨_,rfl⟩;rw[←hmle]at hw1 hw2 hadd hml;rw[←hhe]at hhl hadd;have hhb:hh≤70000:=by omega
 by_cases hfit:Hm.szB (Am m n)≤l.length
 ·have hrd:=fun W=>Lm l (Am m n) W hfit (by omega) hll;rw[←HZ.out,←hS]at hrd;obtain⟨T,hT⟩: ∃T,T=(⟨(l.take (Hm.szB (Am m n))).toArray⟩:ByteArray):=⟨_,rfl⟩;have hTl:T.data.toList=l.take (Hm.szB (Am m n)):=by rw[hT]
  have hTz:T.size=Hm.szB (Am m n):=by rw[hT];show(l.take _).toArray.size=_;simp;omega
  rw[←hT]at hrd;have hcn:=fun W=>Jp hones T (Am m n) W (by omega);rw[hTz,hTl]at hcn;have HCV:Hid (∀W pb g,D3 W pb 0 T (Am m n) g m (Cy m n)→Calls Tryz.prog 168 #[.pointer (some ⟨pb,0,none⟩),.int .i64 n] W fun e w'=> ∃b,e= .returned (.bool b)∧(b=true↔M8 (Ak (l.take (Hm.szB (Am m n)))) (Am m n) m (Cy m n) n)∧Apd W w'):=fun W pb g h=>by
   have hh:=Ahh hones pb 0 (Am m n) g m (Cy m n) n T W h (by omega) (by omega) (by rw[HEL.out];omega) (by rw[hTz,HZ.out];omega) (by omega);rwa[hTl]at hh
  have HOK:Hid (F6 l m n↔M8 (Ak (l.take (Hm.szB (Am m n)))) (Am m n) m (Cy m n) n):=⟨fun h=>h.cover,fun h=>⟨hfit,h⟩⟩;have HCE:Hid (∀g,Gs l m n g=[.string T,.int .i64 (Am m n:Nat),.slice (some ⟨g,0,none⟩) (Hm.szB (Am m n)+1) (Hm.szB (Am m n)+1),.int .i64 (m:Nat),.int .i64 (Cy m n:Nat)]):=fun g=>by rw[hT];rfl
  have HCT:Hid (∀g W,IntRow W g (Bt (l.take (Hm.szB (Am m n))))→IntRow W g (Bt T.data.toList)):=fun g W h=>by rw[hTl];exact h
  rw[←hS];have HTZ:Hid (T.size=Hm.szB (Am m n)):=hTz;obtain⟨cn,hcne⟩: ∃c,c=Bt (l.take (Hm.szB (Am m n))):=⟨_,rfl⟩;rw[←hcne]at hcn HCT⊢;obtain⟨q,hq⟩: ∃x,x=Hm.szB (Am m n):=⟨_,rfl⟩;rw[←hq]at hsz hfit hzb hcn HCE HTZ HCV HOK;obtain⟨el,hele⟩: ∃x,x=Am m n:=⟨_,rfl⟩;rw[←hele]at hsz hadd hel hcn hrd HCE HCV HOK;obtain⟨lw,hlwe⟩: ∃x,x=Cy m n:=⟨_,rfl⟩;rw[←hlwe]at hlw hhl hw1 hw2 HCE HCV HOK;have hgt:decide (l.length<q)=false:=Ald (by omega);clear hS HEL hpos HZ hmle hhe hq hele hlwe hdv hlr hT hTl hTz hcne
  go_enter Tryz.func117,Tryz.ntmps117
  go_wp2_with fail;refine(hlw _).mono ?_;rintro e w1 ⟨rfl,hw⟩;subst hw;clear hlw;go_wp2_with fail;refine(hhl _).mono ?_;rintro e w1 ⟨rfl,rfl⟩;clear hhl;go_wp2_with fail;refine(hsz _).mono ?_;rintro e w1 ⟨rfl,rfl⟩;clear hsz;go_wp2_with fail;refine(hrd _).mono ?_;rintro e w2 ⟨rfl,hk2⟩;clear hrd;go_wp2_with fail;refine(hcn _).mono ?_;rintro e w3 ⟨g,hg,rfl,hir,hk3⟩;clear hcn;have hk13:=hk2.trans hk3 (fun _ _ h=>h);have hbx:=hk13.row (All w (.cells #[.string ⟨#[]⟩,.int .i64 0,.slice none 0 0,.int .i64 0,.int .i64 0] 87)) id;have hkw:Apd w w3:=((Aa.refl (fun _=>False) w).alloc _).trans hk13 (fun _ _ h=>h);have hgl:=hir.lt;have hsz3:w.heap.size<w3.heap.size:=Alw hbx;have hwg:w.heap.size<g:=by have:=hk2.size;simp at this;omega
  obtain⟨B,hB⟩: ∃B,B=w3.heap.size:=⟨_,rfl⟩;obtain⟨W3,hW3⟩: ∃W3,W3=w3.alloc (.cells #[.string T,.int .i64 (el:Nat),.slice (some ⟨g,0,none⟩) (q+1) (q+1),.int .i64 (m:Nat),.int .i64 (lw:Nat)] 87):=⟨_,rfl⟩;have hbe:W3.heap[B]?=some (.cells #[.string T,.int .i64 (el:Nat),.slice (some ⟨g,0,none⟩) (q+1) (q+1),.int .i64 (m:Nat),.int .i64 (lw:Nat)] 87 (0,0)):=by rw[hW3,hB];exact All w3 _
  have hk3W:Apd w3 W3:=by rw[hW3];exact(Aa.refl _ _).alloc _
  have hE:D3 W3 B 0 T el g m lw:=⟨⟨Alc _ _ 0 _ _ _ hbe,Alc _ _ 1 _ _ _ hbe,by rw[HTZ.out];exact Alc _ _ 2 _ _ _ hbe,HCT.out _ _ (hir.kept hk3W id)⟩,Alc _ _ 3 _ _ _ hbe,Alc _ _ 4 _ _ _ hbe⟩;have hcv:=HCV.out W3 B g hE;have H3:Hid (W3.heap[w.heap.size]?=some (.cells #[.string ⟨#[]⟩,.int .i64 0,.slice none 0 0,.int .i64 0,.int .i64 0] 87 (0,0))∧W3.heap[B]?=some (.cells #[.string T,.int .i64 (el:Nat),.slice (some ⟨g,0,none⟩) (q+1) (q+1),.int .i64 (m:Nat),.int .i64 (lw:Nat)] 87 (0,0))∧Apd w W3∧IntRow W3 g cn∧w.heap.size<B∧w.heap.size<g):=
   ⟨hk3W.row hbx id,hbe,hkw.trans hk3W (fun _ _ h=>h),hir.kept hk3W id,by rw[hB];exact hsz3,hwg⟩
  have HW3:Hid (w3.alloc (.cells #[.string T,.int .i64 (el:Nat),.slice (some ⟨g,0,none⟩) (q+1) (q+1),.int .i64 (m:Nat),.int .i64 (lw:Nat)] 87)=W3∧w3.heap.size=B):=⟨hW3.symm,hB.symm⟩;clear hk2 hk3 hk13 hbx hkw hgl hsz3 hwg hir hbe hk3W hE hW3 hB HCV HCT hg;go_upto_region 6 with fail
  rw[HW3.out.1,HW3.out.2];clear HW3;go_wp2_with fail;refine hcv.mono ?_;rintro e w4 ⟨b,rfl,hb,hk4⟩;clear hcv;have hx4:=hk4.row H3.out.1 id;have hy4:=hk4.row H3.out.2.1 id;have p0:w4.cell? ⟨B,0,none⟩=some (.string T):=Alc _ _ 0 _ _ _ hy4;have p1:w4.cell? ⟨B,1,none⟩=some (.int .i64 (el:Nat)):=Alc _ _ 1 _ _ _ hy4;have p2:w4.cell? ⟨B,2,none⟩=some (.slice (some ⟨g,0,none⟩) (q+1) (q+1)):=Alc _ _ 2 _ _ _ hy4;have p3:w4.cell? ⟨B,3,none⟩=some (.int .i64 (m:Nat)):=Alc _ _ 3 _ _ _ hy4;have p4:w4.cell? ⟨B,4,none⟩=some (.int .i64 (lw:Nat)):=Alc _ _ 4 _ _ _ hy4;have q0:w4.cell? ⟨w.heap.size,0,none⟩=some (.string ⟨#[]⟩):=Alc _ _ 0 _ _ _ hx4;have q1:w4.cell? ⟨w.heap.size,1,none⟩=some (.int .i64 0):=Alc _ _ 1 _ _ _ hx4;have q2:w4.cell? ⟨w.heap.size,2,none⟩=some (.slice none 0 0):=Alc _ _ 2 _ _ _ hx4;have q3:w4.cell? ⟨w.heap.size,3,none⟩=some (.int .i64 0):=Alc _ _ 3 _ _ _ hx4;have q4:w4.cell? ⟨w.heap.size,4,none⟩=some (.int .i64 0):=Alc _ _ 4 _ _ _ hx4;have f0:w4.frozen? ⟨w.heap.size,0,none⟩=false:=Alk _ _ 0 _ _ hx4;have f1:w4.frozen? ⟨w.heap.size,1,none⟩=false:=Alk _ _ 1 _ _ hx4;have f2:w4.frozen? ⟨w.heap.size,2,none⟩=false:=Alk _ _ 2 _ _ hx4;have f3:w4.frozen? ⟨w.heap.size,3,none⟩=false:=Alk _ _ 3 _ _ hx4;have f4:w4.frozen? ⟨w.heap.size,4,none⟩=false:=Alk _ _ 4 _ _ hx4;have H4:Hid (w4.heap[w.heap.size]?=some (.cells #[.string ⟨#[]⟩,.int .i64 0,.slice none 0 0,.int .i64 0,.int .i64 0] 87 (0,0))∧Apd w w4∧IntRow w4 g cn∧w.heap.size<g):=
   ⟨hx4,H3.out.2.2.1.trans hk4 (fun _ _ h=>h),H3.out.2.2.2.1.kept hk4 id,H3.out.2.2.2.2.2⟩
  have hBne:w.heap.size≠B:=by have:=H3.out.2.2.2.2.1;omega
  cases b with
  |true=>
   have HB:Hid (F6 l m n):=HOK.out.2 (hb.1 rfl);clear hb hx4 hy4 hk4 H3;go_wp2_with fail;have h2:=Alf _ _ 4 _ _ (.int .i64 (lw:Nat)) (Alf _ _ 3 _ _ (.int .i64 (m:Nat)) (Alf _ _ 2 _ _ (.slice (some ⟨g,0,none⟩) (q+1) (q+1)) (Alf _ _ 1 _ _ (.int .i64 (el:Nat)) (Alf _ _ 0 _ _ (.string T) H4.out.1))));refine Amo (v:= .tuple #[.agg #[.string T,.int .i64 (el:Nat),.slice (some ⟨g,0,none⟩) (q+1) (q+1),.int .i64 (m:Nat),.int .i64 (lw:Nat)],.bool true]) (Dc Tryz.results117 _ _ w.heap.size 87 _ (0,0) _ rfl h2 Tryz.underlying87 rfl (by kernel_rfl)) rfl ⟨?_,.inl ⟨HB.out,g,by have:=H4.out.2.2.2;omega,by rw[HCE.out],?_⟩⟩
   ·exact H4.out.2.1.trans (K9 w4 w.heap.size _ _ _ _ _) (fun j h1 h2=>by omega)
   ·exact H4.out.2.2.1.kept (K9 w4 w.heap.size _ _ _ _ _) (fun e=>by have:=H4.out.2.2.2;omega)
  |false=>
   have HB:Hid (¬F6 l m n):=fun h=>by have:=hb.2 (HOK.out.1 h);cases this
   clear hb hx4 hy4 hk4 H3;go_wp2_with fail;have h2:=Alf _ _ 4 _ _ (.int .i64 0) (Alf _ _ 3 _ _ (.int .i64 0) (Alf _ _ 2 _ _ (.slice none 0 0) (Alf _ _ 1 _ _ (.int .i64 0) (Alf _ _ 0 _ _ (.string ⟨#[]⟩) H4.out.1))));refine Amo (v:= .tuple #[.agg Gf.toArray,.bool false]) (Dc Tryz.results117 _ _ w.heap.size 87 _ (0,0) _ rfl h2 Tryz.underlying87 rfl (by kernel_rfl)) rfl ⟨?_,.inr ⟨HB.out,rfl⟩⟩;exact H4.out.2.1.trans (K9 w4 w.heap.size _ _ _ _ _) (fun j h1 h2=>by omega)
 ·have HNo:Hid (¬F6 l m n):=fun h=>hfit h.fits;rw[←hS];obtain⟨q,hq⟩: ∃x,x=Hm.szB (Am m n):=⟨_,rfl⟩;rw[←hq]at hsz hfit hzb;obtain⟨el,hele⟩: ∃x,x=Am m n:=⟨_,rfl⟩;rw[←hele]at hsz hadd hel;obtain⟨lw,hlwe⟩: ∃x,x=Cy m n:=⟨_,rfl⟩;rw[←hlwe]at hlw hhl hw1 hw2;have hgt:decide (l.length<q)=true:=Alb (by omega);clear hS HEL hpos HZ hmle hhe hq hele hlwe hdv hfit hlr
  go_enter Tryz.func117,Tryz.ntmps117
  go_wp2_with fail;refine(hlw _).mono ?_;rintro e w1 ⟨rfl,hw⟩;subst hw;clear hlw;go_wp2_with fail;refine(hhl _).mono ?_;rintro e w1 ⟨rfl,rfl⟩;clear hhl;go_wp2_with fail;refine(hsz _).mono ?_;rintro e w1 ⟨rfl,rfl⟩;clear hsz;go_wp2_with fail;refine Amo (v:= .tuple #[.agg Gf.toArray,.bool false]) (Dc Tryz.results117 _ _ w.heap.size 87 _ (0,0) _ rfl (All w _) Tryz.underlying87 rfl (by kernel_rfl)) rfl ⟨(Aa.refl _ _).alloc _,.inr ⟨HNo.out,rfl⟩⟩
end Go.Proofs.YtegnkfdbmmndaaaGreat
