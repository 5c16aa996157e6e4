import Derived.Test.YtegnkfdbmmndaaaGreatJ00
import Derived.Test.YtegnkfdbmmndaaaGreatJ08
import Derived.Test.YtegnkfdbmmndaaaGreatJ13
import Derived.Test.YtegnkfdbmmndaaaGreatShelfTwo
import Derived.Test.YtegnkfdbmmndaaaGreatJ09
import Derived.Test.YtegnkfdbmmndaaaGreatRows

namespace Go.Proofs.YtegnkfdbmmndaaaGreat
open Hm
open Go.RowKit
namespace Hm
def Gh(L:List Nat):Nat:=L.foldl max 0
theorem Xq(r:List Nat): ∀a:Nat,(r.map fun x:Nat=>(x:Int)).foldl max (a:Int)=((r.foldl max a:Nat):Int):=by
 induction r with
 |nil=>intro a;rfl
 |cons x r ih=>
  intro a;rw[Amu,Ao8,Ao8,←ih (max a x)];congr 1;omega
theorem Akj(L:List Nat):Lib.maxOf (L.map fun x:Nat=>(x:Int))=(Gh L:Int):=by
 cases L with
 |nil=>rfl
 |cons x r=>
  unfold Lib.maxOf Gh;rw[Amu,List.headD_cons,Ao8,Ao8,Int.max_self,Xq];simp
theorem Abo(r:List Nat): ∀a,a≤r.foldl max a∧ ∀x∈r,x≤r.foldl max a:=by
 induction r with
 |nil=>intro a;exact⟨Ale _,fun x h=>by cases h⟩
 |cons y r ih=>
  intro a;obtain⟨h1,h2⟩:=ih (max a y);rw[Ao8];refine⟨by omega,fun x hx=>?_⟩;rcases List.mem_cons.1 hx with rfl|h
  ·omega
  ·exact h2 x h
theorem Abp(r:List Nat): ∀a,r.foldl max a=a∨r.foldl max a∈r:=by
 induction r with
 |nil=>intro a;exact .inl rfl
 |cons y r ih=>
  intro a;rw[Ao8];rcases ih (max a y)with h|h
  ·rw[h];rcases Nat.le_total a y with h1|h1
   ·right;rw[Nat.max_eq_right h1];exact Alp ..
   ·left;exact Nat.max_eq_left h1
  ·exact .inr (Als _ h)
theorem S8(L:List Nat)(x:Nat)(h:x∈L):x≤Gh L:=(Abo L 0).2 x h
theorem S9(L:List Nat)(h:0<Gh L):Gh L∈L:=by
 rcases Abp L 0 with h1|h1
 ·unfold Gh at h;omega
 ·exact h1
theorem R5(L:List Nat)(hx: ∀b:UInt8,lnB L b≤255):(Af L).Perm (Ai L):=by
 have hn:(Ai L).Nodup:=by
  rw[List.nodup_iff_pairwise_ne];exact(Mf L).imp fun{a b} k e=>by subst e;omega
 exact(List.perm_ext_iff_of_nodup (G1 (Ec L)) hn).2 fun b=>by rw[Jb L hx,Ic]
theorem Abq{L:List Nat}(hL:L.length=256)(B:Nat)(h: ∀x∈L,x≤B)(b:UInt8):lnB L b≤B:=by
 have hb:=b.toNat_lt;unfold lnB;rw[Ak6,Ak7 (by omega)];exact h _ (Alo _)
theorem Akk(M:Nat)(L:List Nat)(ms:List UInt8)(k:Nat)(h:k<ms.length):kr M L (ms.take (k+1))=kr M L (ms.take k)+2^(M-lnB L ms[k]):=by
 rw[Ali h,Ok];show _+([ms[k]].map fun b=>2^(M-ln L b)).sum=_;rw[Amu,Ao1,Aou,List.sum_nil,Aon]
theorem Ak2(M:Nat)(L:List Nat)(ms:List UInt8):kr M L ms≤ms.length*2^M:=by
 induction ms with
 |nil=>simp[kr]
 |cons b r ih=>
  have h1:2^(M-ln L b)≤2^M:=Am2 (by omega) (by omega);have h2:kr M L (b::r)=2^(M-ln L b)+kr M L r:=by simp[kr]
  rw[h2,Amc,Anv];omega
theorem Abr{L:List Nat}(h:(Ai L).length=0)(b:UInt8):lnB L b=0:=by
 have h1: ¬0<lnB L b:=fun hp=>by
  have h2:=(Ic L b).2 hp;rw[Amj h]at h2;cases h2
 omega
end Hm
set_option maxHeartbeats 400000 in
theorem T5(L:List Nat)(w:World)(hL:L.length=256):
  Calls Tryz.prog 170 #[.agg (Ac L).toArray] w fun e w'=>e= .returned (.int .i64 (Gh L:Nat))∧Apd w w':=by
 have hbx:=All w (.cells (Ac L).toArray 139);have hmx:=Tryz.slices_Max_int w.heap.size 0 256 256 (L.map fun x:Nat=>(x:Int)) (w.alloc (.cells (Ac L).toArray 139)) (by omega) (by simp;omega) (by omega) (fun j hj=>by
  have hj':j<L.length:=by simpa using hj
  rw[Al7,Alc _ _ _ _ _ _ hbx];simp[Ac,List.getD_eq_getElem?_getD,hj'])
 rw[Al8 (by simp;omega),Akj]at hmx;have hk:Apd w (w.alloc (.cells (Ac L).toArray 139)):=(Aa.refl _ _).alloc _;generalize(Ac L).toArray=arr at*;clear hbx
 go_enter Tryz.func170,Tryz.ntmps170
 go_wp2_with fail;refine hmx.mono ?_;rintro e w1 ⟨rfl,rfl⟩;go_wp2_with fail;go_ret;exact⟨rfl,hk⟩
set_option maxHeartbeats 2000000 in
theorem Zv(L:List Nat)(w:World)(hL:L.length=256)(hx: ∀x∈L,x≤255):
  Calls Tryz.prog 169 #[.agg (Ac L).toArray] w fun e w'=> ∃b,e= .returned (.bool b)∧(b=true↔Bj L)∧Apd w w':=by
 have hxb:=Abq hL 255 hx;have hol:=Im L hxb;have hbx:=All w (.cells (Ac L).toArray 139);have hasz:(Ac L).toArray.size=256:=by rw[A2,hL]
 have hby:=fun W=>Rq L W hL (fun x h=>by have:=hx x h;omega);have hlo:=fun W=>T5 L W hL;have hk0:Apd w (w.alloc (.cells (Ac L).toArray 139)):=(Aa.refl _ _).alloc _;have HCE:Hid (∀W,Apd (w.alloc (.cells (Ac L).toArray 139)) W→W.heap[w.heap.size]?=some (.cells (Ac L).toArray 139 (0,0))∧ ∀b:UInt8,W.cell? ⟨w.heap.size,b.toNat,none⟩=some (.int .i64 (Hm.lnB L b:Nat))):=fun W hk=>by
  have h1:=hk.row hbx id;refine⟨h1,fun b=>?_⟩;have hb:=b.toNat_lt;rw[Alc _ _ _ _ _ _ h1];simp[Ac,Hm.lnB,List.getD_eq_getElem?_getD,List.getElem?_eq_getElem (show b.toNat<L.length from by omega)]
 have hcl:=E0 L 256
 change (Ai L).length≤256 at hcl
 obtain⟨arr,harr⟩: ∃a,a=(Ac L).toArray:=⟨_,rfl⟩;rw[←harr]at hbx hasz hby hlo hk0 HCE⊢;have HL:Hid (L.length=256∧(∀x∈L,x≤255)∧(∀b,Hm.lnB L b≤255)∧(Af L).length=(Ai L).length):=⟨hL,hx,hxb,hol⟩;obtain⟨W0,hW0⟩: ∃W0,W0=w.alloc (.cells arr 139):=⟨_,rfl⟩;rw[←hW0]at hbx hk0 HCE;have HW:Hid (w.alloc (.cells arr 139)=W0):=hW0.symm;clear harr hW0 hx hxb hol hL
 go_enter Tryz.func169,Tryz.ntmps169
 go_upto_region 1 with fail
 rw[HW.out];clear HW
 go_wp2_with(first
  |(refine Amd rfl 139 _ rfl w.heap.size rfl 139 arr (0,0) _ hbx Tryz.underlying139 rfl (by rw[hasz];exact B9) ?_))
 refine(hby _).mono ?_;rintro e w1 ⟨v,rfl,ho,hk1⟩;clear hby
 have HK1:Hid (Apd W0 w1∧Apd w w1):=⟨hk1,hk0.trans hk1 (fun _ _ h=>h)⟩;clear hk0
 by_cases h0:(Ai L).length=0
 ·obtain⟨ao,cp,hv,_⟩:=Ay ho;rw[h0]at hv;subst hv;have HC:Hid (Bj L):=⟨HL.out.1,fun b=>by rw[Abr h0 b];omega,.inl (by rw[HL.out.2.2.2,h0])⟩;clear ho hk1 hbx h0;go_wp2_with fail;go_ret;exact⟨true,rfl,⟨fun _=>HC.out,fun _=>rfl⟩,HK1.out.2⟩
 ·obtain⟨g,cap,hv,_,hgw⟩:=Cf ho (by omega);subst hv;obtain⟨n,hn⟩: ∃n,n=(Ai L).length:=⟨_,rfl⟩;have hcell: ∀i,(h:i<(Ai L).length)→w1.cell? ⟨g,i,none⟩=some (.int .u8 (((Ai L)[i]).toNat:Nat)):=fun i h=>by
   rw[ho.cellAt i (by omega)];simp[Ag,h]
  have HCC:Hid (∀i,(h:i<(Ai L).length)→w1.cell? ⟨g,i,none⟩=some (.int .u8 (((Ai L)[i]).toNat:Nat))):=hcell;have HLL:=HCE.out w1 hk1;have HLB:Hid (∀b:UInt8,w1.cell? ⟨w.heap.size,b.toNat,none⟩=some (.int .i64 (Hm.lnB L b:Nat))):=HLL.2;have hb1:=HLL.1;have HN:Hid (n=(Ai L).length):=hn;rw[←hn]at hcl h0⊢;have hq0:((n:Int)==0)=false:=by rw[Al5];omega
  by_cases h1:n=1
  ·have hc0:=hcell 0 (by omega);obtain⟨b,hb⟩: ∃b,b=(Ai L)[0]'(by omega):=⟨_,rfl⟩;rw[←hb]at hc0;have hlb:=HLB.out b;have hb256:((b.toNat:Nat):Int)<256:=by have:=b.toNat_lt;omega
   have HB:Hid ((decide (Hm.lnB L b=1)=true)↔Bj L):=by
    have hcl1:Ai L=[b]:=by
     obtain⟨y,hy⟩:=List.length_eq_one_iff.1 (show(Ai L).length=1 from by omega);rw[hy];simp only[hy,List.getElem_cons_zero]at hb;rw[hb]
    have hop:=R5 L HL.out.2.2.1;rw[hcl1]at hop;have ho1:Af L=[b]:=List.perm_singleton.1 hop;have hz: ∀c,c≠b→Hm.lnB L c=0:=fun c hc=>by
     have h2: ¬0<Hm.lnB L c:=fun hp=>by
      have h3:=(Ic L c).2 hp;rw[hcl1]at h3;exact hc (List.mem_singleton.1 h3)
     omega
    constructor
    ·intro h;have h2:=Amm h;refine⟨HL.out.1,fun c=>?_,.inr (.inl ⟨by rw[ho1];rfl,fun c hc=>?_⟩)⟩
     ·by_cases hcb:c=b
      ·rw[hcb,h2];omega
      ·rw[hz c hcb];omega
     ·rw[ho1]at hc;rw[List.mem_singleton.1 hc];exact h2
    ·intro h;rcases h.kind with h2|⟨_,h2⟩|⟨h2,_⟩
     ·rw[ho1]at h2;cases h2
     ·exact Alb (h2 b (by rw[ho1];exact List.mem_singleton.2 rfl))
     ·rw[ho1]at h2;simp at h2
   generalize Hm.lnB L b=x at*;subst h1;clear ho hk1 hbx h0 hn hcell hb HLB HLL HCC HCE;go_wp2_with fail;go_ret;refine⟨decide (x=1),?_,HB.out,HK1.out.2⟩;have e:(((x:Nat):Int)==1)=decide (x=1):=by rw[Bool.eq_iff_iff];simp;omega
   rw[←e];rfl
  ·have hq1:((n:Int)==1)=false:=by rw[Al5];omega
   have hn2:1<n:=by omega
   have HNN:Hid (1<n):=hn2;have HB2:Hid (Gh L≤32→(decide (Hm.kr 32 L (Ai L)=4294967296)=true↔Bj L)):=fun hm=>by
    have hop:=R5 L HL.out.2.2.1;have hlen:1<(Af L).length:=by rw[HL.out.2.2.2,←HN.out];exact HNN.out
    constructor
    ·intro h;refine⟨HL.out.1,Abq HL.out.1 32 (fun x hx=>Al2 (S8 L x hx) hm),.inr (.inr ⟨hlen,?_⟩)⟩;rw[Xo hop,Amm h]
    ·intro h;rcases h.kind with h2|⟨h2,_⟩|⟨_,h2⟩
     ·omega
     ·omega
     ·rw[Xo hop]at h2;exact Alb h2
   have HNo:Hid (¬Gh L≤32→ ¬Bj L):=fun hm hC=>by
    obtain⟨i,hi,he⟩:=Aml (S9 L (by omega));have h1:=hC.short (UInt8.ofNat i);have h2:(UInt8.ofNat i).toNat=i:=by rw[Ame];have:=HL.out.1;omega
    unfold Hm.lnB at h1;rw[h2,Ak6,Ak7 hi,he]at h1;exact hm h1
   have HMX:Hid (∀b,Gh L≤32→Hm.lnB L b≤32):=fun b hm=>Abq HL.out.1 32 (fun x hx=>Al2 (S8 L x hx) hm) b;have hmxb:Gh L≤255:=by
    by_cases h:0<Gh L
    ·exact HL.out.2.1 _ (S9 L h)
    ·omega
   obtain⟨mx,hmxe⟩: ∃x,x=Gh L:=⟨_,rfl⟩;rw[←hmxe]at hlo HB2 HNo HMX hmxb;clear ho hk1 hbx h0 hn hcell HLL h1 hn2 hmxe
   go_wp2_with(first
    |(refine Amd rfl 139 _ rfl w.heap.size rfl 139 arr (0,0) _ hb1 Tryz.underlying139 rfl (by rw[hasz];exact B9) ?_))
   refine(hlo _).mono ?_;rintro e w2 ⟨rfl,hk2⟩;have HK2:Hid (Apd w1 w2∧Apd w w2):=⟨hk2,HK1.out.2.trans hk2 (fun _ _ h=>h)⟩;clear hlo hb1
   by_cases hm:mx≤32
   ·have hd:decide ((32:Int)<(mx:Int))=false:=Ald (by omega);have HC2:Hid (∀i,(h:i<(Ai L).length)→w2.cell? ⟨g,i,none⟩=some (.int .u8 (((Ai L)[i]).toNat:Nat))):=fun i h=>(hk2.cell (p:=⟨g,i,none⟩) (Aly _ _ (HCC.out i h)) id).trans (HCC.out i h);have HL2:Hid (∀b:UInt8,w2.cell? ⟨w.heap.size,b.toNat,none⟩=some (.int .i64 (Hm.lnB L b:Nat))):=fun b=>(hk2.cell (p:=⟨w.heap.size,b.toNat,none⟩) (Aly _ _ (HLB.out b)) id).trans (HLB.out b);have HM:Hid (mx≤32):=hm;clear HCC HLB hk2 hm;go_wp2_with fail
    go_loopw[4,26] (fun vt vi wr=> ∃k:Nat,k≤n∧vi= .int .i64 k∧vt= .int .u64 (Hm.kr 32 L ((Ai L).take k):Nat)∧wr=w2) (fun _ vi _=>n-(intOf vi).toNat)
    case atStart=>exact⟨0,by omega,rfl,by simp[Hm.kr],rfl⟩
    case round=>
     obtain⟨k,hk,rfl,rfl,rfl⟩:=hrel;have hkl:=Ak2 32 L ((Ai L).take k);have hkb:Hm.kr 32 L ((Ai L).take k)≤1099511627776:=Al2 hkl (Amk (show((Ai L).take k).length≤256 from by rw[Aln];have:=HN.out;omega) (Ale (2^32)))
     by_cases hlt:k<n
     ·have hkn:k<(Ai L).length:=by have:=HN.out;omega
      have hc:=HC2.out k hkn;have hlb:=HL2.out (Ai L)[k];have hx32:=HMX.out (Ai L)[k] HM.out;have HS:Hid (Hm.kr 32 L ((Ai L).take (k+1))=Hm.kr 32 L ((Ai L).take k)+2^(32-Hm.lnB L (Ai L)[k])):=Akk 32 L _ k hkn;obtain⟨b,hb⟩: ∃b,b=(Ai L)[k]:=⟨_,rfl⟩;rw[←hb]at hc hlb hx32 HS;have hb256:((b.toNat:Nat):Int)<256:=by have:=b.toNat_lt;omega
      obtain⟨x,hxe⟩: ∃x,x=Hm.lnB L b:=⟨_,rfl⟩;rw[←hxe]at hlb hx32 HS;obtain⟨y,hy⟩: ∃y,y=32-x:=⟨_,rfl⟩;have zy:(32:Int)-(x:Int)=(y:Int):=by omega
      rw[←hy]at HS;have hyp:(2:Nat)^y≤4294967296:=Am2 (n:=2) (i:=y) (j:=32) (by omega) (by omega);generalize Hm.kr 32 L ((Ai L).take k)=t at*;clear hkl hb hxe hy;go_wp2_with fail;have hwu: ∀z:Nat,z<18446744073709551616→IntKind.u64.wrap (z:Int)=(z:Int):=fun z hz=>by
       simp[IntKind.wrap,IntKind.signed,IntKind.bits];omega
      have e1:((2:Int)^y)=((2^y:Nat):Int):=by simp
      have e2:IntKind.u64.wrap ((t:Int)+IntKind.u64.wrap ((2:Int)^y))=((t+2^y:Nat):Int):=by
       rw[e1,hwu (2^y) (by omega),←Int.natCast_add,hwu (t+2^y) (by omega)]
      exact⟨⟨k+1,by omega,by go_num,by rw[e2,HS.out],trivial⟩,by simp[intOf];omega⟩
     ·obtain rfl:k=n:=by omega
      have HT:Hid ((Ai L).take k=Ai L):=by show _=_;rw[HN.out,Ama]
      rw[HT.out];have HF:=HB2.out HM.out;have HFF:Hid (decide (Hm.kr 32 L (Ai L)=4294967296)=true↔Bj L):=HF;rw[HT.out]at hkb hkl;generalize Hm.kr 32 L (Ai L)=t at*;clear HF hkl;go_wp2_with fail;go_ret;refine⟨decide (t=4294967296),?_,HFF.out,HK2.out.2⟩;have e:(((t:Nat):Int)==4294967296)=decide (t=4294967296):=by rw[Bool.eq_iff_iff];simp;omega
      rw[←e];rfl
   ·have hd:decide ((32:Int)<(mx:Int))=true:=Alb (by omega);have HNC:Hid (¬Bj L):=HNo.out hm;clear hm HB2 HMX hk2;go_wp2_with fail;go_ret;exact⟨false,rfl,⟨fun h=>(by cases h),fun h=>absurd h HNC.out⟩,HK2.out.2⟩
end Go.Proofs.YtegnkfdbmmndaaaGreat
namespace Go.Proofs.YtegnkfdbmmndaaaGreat
open Hm
open Go.RowKit Go.Sort Go.Shelf
def Ar(x:UInt8):Value:= .int .u8 (x.toNat:Nat)
theorem Ajd:OneCell Ar:=fun _=>rfl
set_option maxHeartbeats 4000000 in
set_option maxRecDepth 100000 in
theorem Zw(w0:World)(blk cap a b n:Nat)(d0 d:Array UInt8)(f:Value)(w:World)(R:Row1 Ar w0 blk 0 d0)(hs:d0.size=d.size)(S:SW Ar w0 blk 0 d w)(hab:a+n≤b)(hb:b+n≤d.size)(hsz:d.size≤256):
  Calls Tryz.prog 227 #[.slice (some ⟨blk,0,none⟩) d.size cap,.int .i64 a,.int .i64 b,.int .i64 n,f] w fun e w'=>e= .returned (.tuple #[])∧ ∃d',Hm.Swr d d' a b n∧SW Ar w0 blk 0 d' w':=by
 have S0:Aside (SW Ar w0 blk 0 d w):=S;clear S
 go_enter Tryz.func227,Tryz.ntmps227
 go_wp2
 go_loopg [10] n (fun g1 vi wr=> ∃(k:Nat) (dk:Array UInt8),vi= .int .i64 k∧k+g1=n∧dk.size=d.size∧Aside (SW Ar w0 blk 0 dk wr)∧Hid (Hm.Swr d dk a b k))
 case atStart=>exact⟨0,d,rfl,by omega,rfl,S0,Hm.Swr.zero d a b⟩
 case round=>
  clear S0;obtain⟨k,dk,rfl,hk,hsk,S1,HO⟩:=hrel
  by_cases hlt:k<n
  ·have hltz:(k:Int)<(n:Int):=by omega
   have S3:Aside (SW Ar w0 blk 0 (swp dk (a+k) (b+k)) ((wr.setCell ⟨blk,a+k,none⟩ (.int .u8 (dk[b+k]!.toNat:Nat))).setCell ⟨blk,b+k,none⟩ (.int .u8 (dk[a+k]!.toNat:Nat))).drew):=by
    have:=S1.out.swapped R (a+k) (b+k) (by omega) (by omega);rw[Al7,Al7]at this;exact this
   have c1:=S1.out.c1 R (by omega) (a+k) (by omega);have c2:=S1.out.c1 R (by omega) (b+k) (by omega);have f1:=S1.out.f1 R (by omega) (a+k) (by omega);have f2:=S1.out.f1 R (by omega) (b+k) (by omega);obtain⟨u,c3⟩:=S1.out.c2 R (by omega) (a+k) (b+k) (by omega) (by omega) (Ar dk[b+k]!);rw[Al7]at c1 c2 f1 f2;rw[Al7,Al7]at c3;have HN:Hid (Hm.Swr d (swp dk (a+k) (b+k)) a b (k+1)):=HO.out.step (by omega) (by omega);have hsn:(swp dk (a+k) (b+k)).size=d.size:=by rw[size_swp];exact hsk
   clear S1 HO;unfold Ar at c1 c2 c3;generalize hx:dk[a+k]!.toNat=x at*;generalize hy:dk[b+k]!.toNat=y at*;generalize swp dk (a+k) (b+k)=e at*;have ha1:(a:Int)+(k:Int)<(d.size:Int):=by omega
   have hb1:(b:Int)+(k:Int)<(d.size:Int):=by omega
   clear hx hy;go_wp2
   go_region
   go_wp2
   go_roundg (gk-1)
   case measure=>omega
   case rel=>exact⟨k+1,e,by go_num,by omega,hsn,S3,HN⟩
  ·have hltz: ¬(k:Int)<(n:Int):=by omega
   obtain rfl:k=n:=by omega
   go_wp2
   go_end0
   exact⟨rfl,dk,HO.out,S1.out⟩
set_option maxHeartbeats 4000000 in
set_option maxRecDepth 100000 in
theorem Afu(w0:World)(blk cap a m b:Nat)(d0 d:Array UInt8)(f:Value)(w:World)(R:Row1 Ar w0 blk 0 d0)(hs:d0.size=d.size)(S:SW Ar w0 blk 0 d w)(ham:a<m)(hmb:m<b)(hb:b≤d.size)(hsz:d.size≤256):
  Calls Tryz.prog 226 #[.slice (some ⟨blk,0,none⟩) d.size cap,.int .i64 a,.int .i64 m,.int .i64 b,f] w fun e w'=>e= .returned (.tuple #[])∧ ∃d',Hm.Rot d d' a m b∧SW Ar w0 blk 0 d' w':=by
 have S0:Aside (SW Ar w0 blk 0 d w):=S;clear S;have hsw: ∀(dk:Array UInt8) (p q n:Nat) (W:World),dk.size=d.size→Aside (SW Ar w0 blk 0 dk W)→p+n≤q→q+n≤d.size→Calls Tryz.prog 227 #[.slice (some ⟨blk,0,none⟩) d.size cap,.int .i64 p,.int .i64 q,.int .i64 n,f] W fun e w'=>e= .returned (.tuple #[])∧ ∃d',Hm.Swr dk d' p q n∧SW Ar w0 blk 0 d' w':=fun dk p q n W h1 h2 h3 h4=>by
  rw[←h1];exact Zw w0 blk cap p q n d0 dk f W R (by omega) h2.out h3 (by omega) (by omega)
 go_enter Tryz.func226,Tryz.ntmps226
 go_wp2
 go_loopg [10,11] (b-a) (fun g1 vi vj wr=> ∃(i j:Nat) (dk:Array UInt8),vi= .int .i64 i∧vj= .int .i64 j∧0<i∧0<j∧i+j=g1∧i≤m-a∧j≤b-m∧dk.size=d.size∧Aside (SW Ar w0 blk 0 dk wr)∧Hid (∀e,Hm.Rot dk e (m-i) m (m+j)→Hm.Rot d e a m b))
 case atStart=>
  refine⟨m-a,b-m,d,by go_num,by go_num,by omega,by omega,by omega,Ale _,Ale _,rfl,S0,?_⟩;intro e he;rw[show m-(m-a)=a from by omega,show m+(b-m)=b from by omega]at he;exact he
 case round=>
  clear S0;obtain⟨i,j,dk,rfl,rfl,hi0,hj0,hgk,him,hjb,hsk,S1,HO⟩:=hrel;have zi:((m-i:Nat):Int)=(m:Int)-(i:Int):=by omega
  by_cases hne:i=j
  ·subst hne;have hc:=hsw dk (m-i) m i wr hsk S1 (by omega) (by omega);rw[zi]at hc;have hneq:((i:Int) !=(i:Int))=false:=by simp
   clear hsw;go_wp2_with fail;refine hc.mono ?_;rintro e w' ⟨rfl,d',hw,S'⟩;have HR:Hid (Hm.Rot d d' a m b):=HO.out d' (Hm.Rot.of_swr hw (by omega));have SS:Aside (SW Ar w0 blk 0 d' w'):=S';clear S' hw hc S1 HO;go_wp2
   go_end0
   exact⟨rfl,d',HR.out,SS.out⟩
  ·have hneq:((i:Int) !=(j:Int))=true:=by simp;omega
   by_cases hgt:j<i
   ·have hd:decide ((i:Int)>(j:Int))=true:=by simp;omega
    have hc:=hsw dk (m-i) m j wr hsk S1 (by omega) (by omega);rw[zi]at hc;clear hsw;go_wp2_with fail;refine hc.mono ?_;rintro e w' ⟨rfl,d',hw,S'⟩;have HR:Hid (∀e,Hm.Rot d' e (m-(i-j)) m (m+j)→Hm.Rot d e a m b):=fun e he=>HO.out e (Hm.Rot.by_left hw hgt (by omega) he);have hsn:d'.size=d.size:=hw.size.trans hsk;have SS:Aside (SW Ar w0 blk 0 d' w'):=S';clear S' hw hc S1 HO;go_wp2
    go_roundg (i-j+j)
    case measure=>omega
    case rel=>exact⟨i-j,j,d',by go_num,rfl,by omega,hj0,rfl,by omega,hjb,hsn,SS,HR⟩
   ·have hd:decide ((i:Int)>(j:Int))=false:=by simp;omega
    have hc:=hsw dk (m-i) (m+j-i) i wr hsk S1 (by omega) (by omega);rw[zi,show((m+j-i:Nat):Int)=(m:Int)+(j:Int)-(i:Int)from by omega]at hc;clear hsw;go_wp2_with fail;refine hc.mono ?_;rintro e w' ⟨rfl,d',hw,S'⟩;have HR:Hid (∀e,Hm.Rot d' e (m-i) m (m+(j-i))→Hm.Rot d e a m b):=fun e he=>HO.out e (Hm.Rot.by_right hw (by omega) (by omega) he);have hsn:d'.size=d.size:=hw.size.trans hsk;have SS:Aside (SW Ar w0 blk 0 d' w'):=S';clear S' hw hc S1 HO;go_wp2
    go_roundg (i+(j-i))
    case measure=>omega
    case rel=>exact⟨i,j-i,d',rfl,by go_num,hi0,by omega,rfl,him,by omega,hsn,SS,HR⟩
end Go.Proofs.YtegnkfdbmmndaaaGreat
namespace Go.Proofs.YtegnkfdbmmndaaaGreat
open Hm
open Go.RowKit Go.Sort Go.Shelf Go.Lib
theorem Om:Tryz.prog.follows .mixedOrders=true:=by kernel_rfl
set_option maxHeartbeats 8000000 in
set_option maxRecDepth 100000 in
theorem Zx{cf:UInt8→UInt8→Int}{key:UInt8→Nat}{Rl:UInt8→UInt8→Prop}(O:Hm.Ord cf key Rl)(g:Nat)(cb:Array Value)(eg: ∀args w,(callFunc g args).run Tryz.prog w= .ok (.enter g args) w)
  (w0:World) (blk cap a b:Nat) (d0 d:Array UInt8) (w:World) (hcmp:CmpLays1 Tryz.prog g cb Ar cf blk 0 d0.size w0) (R:Row1 Ar w0 blk 0 d0) (hs:d0.size=d.size) (S:SW Ar w0 blk 0 d w) (hab:a≤b) (hb:b≤d.size) (hsz:d.size≤256)
  (hp: ∀p q,a≤p→p<q→q<b→Rl d[p]! d[q]!):
  Calls Tryz.prog 223 #[.slice (some ⟨blk,0,none⟩) d.size cap,.int .i64 a,.int .i64 b,.func (.func g) #[] cb] w fun e w'=>e= .returned (.tuple #[])∧ ∃d',De d d' a b∧Hm.Srt key d' a b∧SW Ar w0 blk 0 d' w':=by
 have mixed:=Om;have HC:Aside _:=hcmp;have HP:Aside _:=hp;have S0:Aside (SW Ar w0 blk 0 d w):=S;clear S hcmp hp
 go_enter Tryz.func223,Tryz.ntmps223
 go_wp2
 go_loopg [8] (b-a) (fun g1 vi wr=> ∃(i:Nat) (dk:Array UInt8),vi= .int .i64 i∧a<i∧i≤b+1∧b+1-i≤g1+1∧dk.size=d.size∧Aside (SW Ar w0 blk 0 dk wr)∧Hid (De d dk a i∧Hm.Srt key dk a i∧(i≤b∨(b=a∧dk=d))))
 case atStart=>exact⟨a+1,d,by go_num,by omega,by omega,by omega,rfl,S0,De.refl _ _ _,Hm.Srt.one _ _ _ _ (by omega),(Am7 a b).elim (fun h=> .inl h) (fun h=> .inr ⟨by omega,rfl⟩)⟩
 case round=>
  clear S0;obtain⟨i,dk,rfl,hai,hib,hg1,hsk,S1,HO⟩:=hrel
  by_cases hlt:i<b
  ·have hltz:(i:Int)<(b:Int):=by omega
   go_wp2
   go_loopg [9] i (fun g2 vj wr2=> ∃(j:Nat) (dj:Array UInt8),vj= .int .i64 j∧a≤j∧j≤i∧j≤g2∧dj.size=d.size∧Aside (SW Ar w0 blk 0 dj wr2)∧Hid (Hm.Ins key dk dj a i j))
   case atStart=>exact⟨i,dk,rfl,by omega,Ale _,Ale _,hsk,S1,Hm.Ins.start key dk a i (by omega)⟩
   case round=>
    clear S1;obtain⟨j,dj,rfl,haj,hji,hg2,hsj,SJ,HI⟩:=hrel;have out:(j=a∨(a<j∧key dj[j-1]!<key dj[j]!))→Hid (De d dj a (i+1)∧Hm.Srt key dj a (i+1)∧(i+1≤b∨(b=a∧dj=d))):=fun hk=>by
     obtain⟨e1,e2⟩:=HI.out.done HO.out.2.1 hk;exact⟨(HO.out.1.wider (Ale _) (by omega)).trans e1,e2,by omega⟩
    have OUT:Aside _:=out;clear out
    by_cases hja:a<j
    ·have hjaz:(a:Int)<(j:Int):=by omega
     obtain⟨jp,hjp⟩: ∃q,q+1=j:=⟨j-1,by omega⟩;have zjp:(j:Int)=(jp:Int)+1:=by omega
     have hjad:decide ((jp:Int)+1>(a:Int))=true:=Alb (by omega);have hjaz':(a:Int)<(jp:Int)+1:=by omega
     have rel:Rl dj[j-1]! dj[j]!:=by
      have e1:dj[j]! =d[i]!:=by
       rw[HI.out.rot.lo j (Ale _) (by omega),show j+(i-j)=i from by omega];exact HO.out.1.out i (by omega)
      have e2:dj[j-1]! =dk[j-1]!:=HI.out.rot.out _ (by omega);obtain⟨q,q1,q2,q3⟩:=(HO.out.1.mem _).1 ⟨j-1,by omega,by omega,rfl⟩;rw[e1,e2,←q3];exact HP.out q i q1 q2 hlt
     have hlt2:=O.lt _ _ rel;have hne2:=O.ne _ _ rel
     by_cases hlv:cf dj[j]! dj[j-1]!<0
     ·have HK:Aside (key dj[j]!<key dj[j-1]!):=hlt2.1 hlv;obtain⟨x,hx⟩: ∃x,x=dj[j]!:=⟨_,rfl⟩;obtain⟨y,hy⟩: ∃x,x=dj[j-1]!:=⟨_,rfl⟩;have l1:=SJ.out.cl R (by omega) j (by omega);have l2:=SJ.out.cl R (by omega) (j-1) (by omega);rw[Al7,←hx]at l1;rw[Al7,←hy]at l2;rw[←hx,←hy]at hlv;have hc:=SJ.out.cmp HC.out (by omega) x y;have hd:decide (cf x y<0)=true:=Alb hlv;obtain⟨iN,hiN⟩: ∃q,q=j:=⟨_,rfl⟩;obtain⟨jN,hjN⟩: ∃q,q=j-1:=⟨_,rfl⟩;rw[←hiN]at l1;rw[←hjN]at l2;have ea:((jp:Int)+1).toNat=iN:=by omega
      have pa:(0:Int)≤(jp:Int)+1:=by omega
      have ba:(jp:Int)+1<(d.size:Int):=by omega
      have ra:IntKind.i64.wrap ((jp:Int)+1)=(jp:Int)+1:=by rw[Al9];omega
      have ec:((jp:Int)).toNat=jN:=by omega
      have pc:(0:Int)≤(jp:Int):=by omega
      have bc:(jp:Int)<(d.size:Int):=by omega
      have rc:IntKind.i64.wrap ((jp:Int))=(jp:Int):=by rw[Al9];omega
      clear hlt2 hne2 rel hx hy hiN hjN;unfold Ar at l1 l2 hc;go_wp2_with fail
      go_quiet_grown (first|(go_at_fn g;refine Calls.grown_of (hc _ _)))
      have S2:Aside (SW Ar w0 blk 0 dj (grow (wr.drewN nq) osq)):=SJ.out.grown nq osq;clear l1 l2 hc SJ;generalize grow (wr.drewN nq) osq=w2 at S2⊢;clear nq osq ea ec hd hlv;go_wp2_with fail;have hx1:=S2.out.c1 R (by omega) j (by omega);have hx2:=S2.out.c1 R (by omega) (j-1) (by omega);have hf1:=S2.out.f1 R (by omega) j (by omega);have hf2:=S2.out.f1 R (by omega) (j-1) (by omega);obtain⟨u,hx3⟩:=S2.out.c2 R (by omega) j (j-1) (by omega) (by omega) (Ar dj[j-1]!);have S3:Aside (SW Ar w0 blk 0 (swp dj j (j-1)) ((w2.setCell ⟨blk,j,none⟩ (Ar dj[j-1]!)).setCell ⟨blk,j-1,none⟩ (Ar dj[j]!)).drew):=by
       have:=S2.out.swapped R j (j-1) (by omega) (by omega);rw[Al7,Al7]at this;exact this
      have HN:Hid (Hm.Ins key dk (swp dj j (j-1)) a i (j-1)):=by
       have hI:=HI.out;have hK:=HK.out;subst hjp;rw[An0]at hK⊢;exact hI.step (by omega) (by omega) hK
      have hsn:(swp dj j (j-1)).size=d.size:=by rw[size_swp];exact hsj
      rw[Al7]at hx1 hx2 hf1 hf2;rw[Al7,Al7]at hx3;generalize swp dj j (j-1)=dn at*;obtain⟨iN2,hiN⟩: ∃q,q=j:=⟨_,rfl⟩;obtain⟨jN2,hjN⟩: ∃q,q=j-1:=⟨_,rfl⟩;obtain⟨x2,hx⟩: ∃x,x=dj[j]!:=⟨_,rfl⟩;obtain⟨y2,hy⟩: ∃x,x=dj[j-1]!:=⟨_,rfl⟩;rw[←hx,←hy,←hjN,←hiN]at S3;rw[←hx,←hiN]at hx1;rw[←hy,←hjN]at hx2;rw[←hy,←hjN,←hiN]at hx3;rw[←hiN]at hf1;rw[←hjN]at hf2;have ea:((jp:Int)+1).toNat=iN2:=by omega
      have ec:((jp:Int)).toNat=jN2:=by omega
      unfold Ar at hx1 hx2 hx3;clear S2 HI HK OUT hx hy hiN hjN;have S4:Aside (SW Ar w0 blk 0 dn ((w2.setCell ⟨blk,iN2,none⟩ (.int .u8 (y2.toNat:Nat))).setCell ⟨blk,jN2,none⟩ (.int .u8 (x2.toNat:Nat))).drew):=S3;clear S3
      go_region
      go_wp2
      go_roundg (j-1)
      case measure=>omega
      case rel=>exact⟨j-1,dn,by first|rfl|go_num|(congr 1;omega),by omega,by omega,Ale _,hsn,S4,HN⟩
     ·have HK:Aside (key dj[j-1]!<key dj[j]!):=Nat.lt_of_le_of_ne (Nat.le_of_not_lt (mt hlt2.2 hlv)) hne2;obtain⟨x,hx⟩: ∃x,x=dj[j]!:=⟨_,rfl⟩;obtain⟨y,hy⟩: ∃x,x=dj[j-1]!:=⟨_,rfl⟩;have l1:=SJ.out.cl R (by omega) j (by omega);have l2:=SJ.out.cl R (by omega) (j-1) (by omega);rw[Al7,←hx]at l1;rw[Al7,←hy]at l2;rw[←hx,←hy]at hlv;have hc:=SJ.out.cmp HC.out (by omega) x y;have hd:decide (cf x y<0)=false:=Ald hlv;obtain⟨iN,hiN⟩: ∃q,q=j:=⟨_,rfl⟩;obtain⟨jN,hjN⟩: ∃q,q=j-1:=⟨_,rfl⟩;rw[←hiN]at l1;rw[←hjN]at l2;have ea:((jp:Int)+1).toNat=iN:=by omega
      have pa:(0:Int)≤(jp:Int)+1:=by omega
      have ba:(jp:Int)+1<(d.size:Int):=by omega
      have ra:IntKind.i64.wrap ((jp:Int)+1)=(jp:Int)+1:=by rw[Al9];omega
      have ec:((jp:Int)).toNat=jN:=by omega
      have pc:(0:Int)≤(jp:Int):=by omega
      have bc:(jp:Int)<(d.size:Int):=by omega
      have rc:IntKind.i64.wrap ((jp:Int))=(jp:Int):=by rw[Al9];omega
      clear hlt2 hne2 rel hx hy hiN hjN;unfold Ar at l1 l2 hc;go_wp2_with fail
      go_quiet_grown (first|(go_at_fn g;refine Calls.grown_of (hc _ _)))
      have S2:Aside (SW Ar w0 blk 0 dj (grow (wr.drewN nq) osq)):=SJ.out.grown nq osq;clear l1 l2 hc SJ;generalize grow (wr.drewN nq) osq=w2 at S2⊢;clear nq osq ea ec;go_wp2
      go_roundg (b-(i+1))
      case measure=>omega
      case rel=>exact⟨i+1,dj,by go_num,by omega,by omega,by omega,hsj,S2,OUT.out (.inr ⟨hja,HK.out⟩)⟩
    ·have hjaz:decide ((j:Int)>(a:Int))=false:=Ald (by omega);have hjaz': ¬(a:Int)<(j:Int):=by omega
     go_wp2_with fail
     go_region
     have S2:Aside (SW Ar w0 blk 0 dj wr.drew):=SJ.out.drew;clear SJ;go_wp2
     go_roundg (b-(i+1))
     case measure=>omega
     case rel=>exact⟨i+1,dj,by go_num,by omega,by omega,by omega,hsj,S2,OUT.out (.inl (by omega))⟩
  ·have hltz: ¬(i:Int)<(b:Int):=by omega
   go_wp2
   go_end0
   refine⟨rfl,dk,?_,?_,S1.out⟩
   ·rcases HO.out.2.2 with h|⟨h1,h2⟩
    ·obtain rfl:i=b:=by omega
     exact HO.out.1
    ·rw[h2];exact De.refl _ _ _
   ·rcases HO.out.2.2 with h|⟨h1,h2⟩
    ·obtain rfl:i=b:=by omega
     exact HO.out.2.1
    ·exact Hm.Srt.one _ _ _ _ (by omega)
set_option maxHeartbeats 8000000 in
set_option maxRecDepth 100000 in
theorem Zy{cf:UInt8→UInt8→Int}{key:UInt8→Nat}{Rl:UInt8→UInt8→Prop}(O:Hm.Ord cf key Rl)(g:Nat)(cb:Array Value)(eg: ∀args w,(callFunc g args).run Tryz.prog w= .ok (.enter g args) w)
  (w0:World) (blk cap a m b:Nat) (d0 d:Array UInt8) (w:World) (hcmp:CmpLays1 Tryz.prog g cb Ar cf blk 0 d0.size w0) (R:Row1 Ar w0 blk 0 d0) (hs:d0.size=d.size) (S:SW Ar w0 blk 0 d w) (hma:m=a+1) (hmb:m<b) (hb:b≤d.size) (hsz:d.size≤256)
  (hs2:Hm.Srt key d m b) (hlr:Hm.LR Rl d a m b):
  Calls Tryz.prog 224 #[.slice (some ⟨blk,0,none⟩) d.size cap,.int .i64 a,.int .i64 m,.int .i64 b,.func (.func g) #[] cb] w fun e w'=>e= .returned (.tuple #[])∧ ∃d',De d d' a b∧Hm.Srt key d' a b∧SW Ar w0 blk 0 d' w':=by
 have mixed:=Om;have HC:Aside _:=hcmp;have HS:Aside _:=hs2;have HL:Aside _:=hlr;have S0:Aside (SW Ar w0 blk 0 d w):=S;clear S hcmp hs2 hlr;have hz:(m:Int)-(a:Int)=1:=by omega
 have HM:Hid (m=a+1):=hma;clear hma
 go_enter Tryz.func224,Tryz.ntmps224
 go_wp2
 go_loopg [10,11] (b-m) (fun g1 vi vj wr=> ∃i j:Nat,vi= .int .i64 i∧vj= .int .i64 j∧i+g1=j∧j≤b∧m≤i∧Aside (SW Ar w0 blk 0 d wr)∧Hid (G5 key d m b (key d[a]!) i j))
 case atStart=>exact⟨m,b,rfl,rfl,by omega,Ale _,Ale _,S0,G5.start (by omega)⟩
 case round=>
  clear S0;obtain⟨i,j,rfl,rfl,hgk,hjb,hmi,S1,HO⟩:=hrel
  by_cases hlt:i<j
  ·have hltz:decide ((i:Int)<(j:Int))=true:=Alb (by omega);obtain⟨c,hc0⟩: ∃c,c=(i+j)/2:=⟨_,rfl⟩;have hci:i≤c:=by omega
   have hcj:c<j:=by omega
   have zc:((i:Int)+(j:Int))/2=(c:Int):=by omega
   have rel:=HL.out a c (Ale _) (by have:=HM.out;omega) (by omega) (by omega);have hlt2:=O.lt _ _ rel;have hne2:=O.ne _ _ rel;have l1:=S1.out.cl R hs.symm c (by omega);have l2:=S1.out.cl R hs.symm a (by have:=HM.out;omega);rw[Al7]at l1 l2;have hcl:=S1.out.cmp HC.out hs.symm d[c]! d[a]!;have b1:(c:Int)<(d.size:Int):=by omega
   have b2:(a:Int)<(d.size:Int):=by have:=HM.out;omega
   clear hc0
   by_cases hlv:cf d[c]! d[a]!<0
   ·have HN:Hid (G5 key d m b (key d[a]!) (c+1) j):=HO.out.up HS.out hci hcj (hlt2.1 hlv);have hd:decide (cf d[c]! d[a]!<0)=true:=Alb hlv;clear hlt2 hne2 rel HO;generalize d[c]! =x at*;generalize d[a]! =y at*;unfold Ar at l1 l2 hcl;go_wp2_with fail
    go_quiet_grown (first|(go_at_fn g;refine Calls.grown_of (hcl _ _)))
    have S2:Aside (SW Ar w0 blk 0 d (grow (wr.drewN nq) osq)):=S1.out.grown nq osq;clear l1 l2 hcl S1;generalize grow (wr.drewN nq) osq=w2 at S2⊢;clear nq osq;go_wp2
    go_roundg (j-(c+1))
    case measure=>omega
    case rel=>exact⟨c+1,j,by go_num,rfl,by omega,hjb,by omega,S2,HN⟩
   ·have HN:Hid (G5 key d m b (key d[a]!) i c):=HO.out.down HS.out hci hcj (Nat.lt_of_le_of_ne (Nat.le_of_not_lt (mt hlt2.2 hlv)) hne2);have hd:decide (cf d[c]! d[a]!<0)=false:=Ald hlv;clear hlt2 hne2 rel HO;generalize d[c]! =x at*;generalize d[a]! =y at*;unfold Ar at l1 l2 hcl;go_wp2_with fail
    go_quiet_grown (first|(go_at_fn g;refine Calls.grown_of (hcl _ _)))
    have S2:Aside (SW Ar w0 blk 0 d (grow (wr.drewN nq) osq)):=S1.out.grown nq osq;clear l1 l2 hcl S1;generalize grow (wr.drewN nq) osq=w2 at S2⊢;clear nq osq;go_wp2
    go_roundg (c-i)
    case measure=>omega
    case rel=>exact⟨i,c,rfl,rfl,by omega,by omega,hmi,S2,HN⟩
  ·have hltz:decide ((i:Int)<(j:Int))=false:=Ald (by omega);obtain rfl:i=j:=by omega
   go_wp2
   go_loopg [13] (i-1-a) (fun g2 vk wr2=> ∃(k:Nat) (dk:Array UInt8),vk= .int .i64 k∧k+g2=i-1∧a≤k∧dk.size=d.size∧Aside (SW Ar w0 blk 0 dk wr2)∧Hid (Hm.Rot d dk a (a+1) (k+1)))
   case atStart=>exact⟨a,d,rfl,by have:=HM.out;omega,Ale _,rfl,S1,Hm.Rot.id_right d a (a+1)⟩
   case round=>
    clear S1;obtain⟨k,dk,rfl,hk,hak,hsk,S1,HR⟩:=hrel;have hma:=HM.out
    by_cases hlt2:k<i-1
    ·have hd:decide ((k:Int)<(i:Int)-1)=true:=Alb (by omega);have S3:Aside (SW Ar w0 blk 0 (swp dk k (k+1)) ((wr.setCell ⟨blk,k,none⟩ (.int .u8 (dk[k+1]!.toNat:Nat))).setCell ⟨blk,k+1,none⟩ (.int .u8 (dk[k]!.toNat:Nat))).drew):=by
      have:=S1.out.swapped R k (k+1) (by omega) (by omega);rw[Al7,Al7]at this;exact this
     have c1:=S1.out.c1 R (by omega) k (by omega);have c2:=S1.out.c1 R (by omega) (k+1) (by omega);have f1:=S1.out.f1 R (by omega) k (by omega);have f2:=S1.out.f1 R (by omega) (k+1) (by omega);obtain⟨u,c3⟩:=S1.out.c2 R (by omega) k (k+1) (by omega) (by omega) (Ar dk[k+1]!);rw[Al7]at c1 c2 f1 f2;rw[Al7,Al7]at c3;have HN:Hid (Hm.Rot d (swp dk k (k+1)) a (a+1) (k+1+1)):=HR.out.right_step (by omega) hak;have hsn:(swp dk k (k+1)).size=d.size:=by rw[size_swp];exact hsk
     clear S1 HR HM hma;unfold Ar at c1 c2 c3;generalize hx:dk[k]!.toNat=x at*;generalize hy:dk[k+1]!.toNat=y at*;generalize swp dk k (k+1)=e at*;have ha1:(k:Int)<(d.size:Int):=by omega
     have hb1:(k:Int)+1<(d.size:Int):=by omega
     clear hx hy;go_wp2
     go_region
     go_wp2
     go_roundg (gk-1)
     case measure=>omega
     case rel=>exact⟨k+1,e,by go_num,by omega,by omega,hsn,S3,HN⟩
    ·have hd:decide ((k:Int)<(i:Int)-1)=false:=Ald (by omega);obtain rfl:i=k+1:=by omega
     have hm:=Afn (by have:=HO.out;rw[hma]at this;exact this) (by have:=HS.out;rw[hma]at this;exact this) HR.out;have HX:Hid (De d dk a b∧Hm.Srt key dk a b):=hm;clear hm hma HR HO HS HL;go_wp2
     (try simp only[Exit.inBlock,Exit.then]);refine Amo (results_none rfl _ _ _) rfl ?_
     exact⟨rfl,dk,HX.out.1,HX.out.2,S1.out⟩
set_option maxHeartbeats 8000000 in
set_option maxRecDepth 100000 in
theorem Xr{cf:UInt8→UInt8→Int}{key:UInt8→Nat}{Rl:UInt8→UInt8→Prop}(O:Hm.Ord cf key Rl)(g:Nat)(cb:Array Value)(eg: ∀args w,(callFunc g args).run Tryz.prog w= .ok (.enter g args) w)
  (w0:World) (blk cap a m b:Nat) (d0 d:Array UInt8) (w:World) (hcmp:CmpLays1 Tryz.prog g cb Ar cf blk 0 d0.size w0) (R:Row1 Ar w0 blk 0 d0) (hs:d0.size=d.size) (S:SW Ar w0 blk 0 d w) (hma:a+1<m) (hmb:b=m+1) (hb:b≤d.size) (hsz:d.size≤256)
  (hs2:Hm.Srt key d a m) (hlr:Hm.LR Rl d a m b):
  Calls Tryz.prog 224 #[.slice (some ⟨blk,0,none⟩) d.size cap,.int .i64 a,.int .i64 m,.int .i64 b,.func (.func g) #[] cb] w fun e w'=>e= .returned (.tuple #[])∧ ∃d',De d d' a b∧Hm.Srt key d' a b∧SW Ar w0 blk 0 d' w':=by
 have mixed:=Om;have HC:Aside _:=hcmp;have HS:Aside _:=hs2;have HL:Aside _:=hlr;have S0:Aside (SW Ar w0 blk 0 d w):=S;clear S hcmp hs2 hlr;have hz0:(((m:Int)-(a:Int))==1)=false:=by simp;omega
 have hz:(b:Int)-(m:Int)=1:=by omega
 have HM:Hid (b=m+1):=hmb;clear hmb;have hmd:m<d.size:=by have:=HM.out;omega
 go_enter Tryz.func224,Tryz.ntmps224
 go_wp2
 go_loopg [14,15] (m-a) (fun g1 vi vj wr=> ∃i j:Nat,vi= .int .i64 i∧vj= .int .i64 j∧i+g1=j∧j≤m∧a≤i∧Aside (SW Ar w0 blk 0 d wr)∧Hid (G5 key d a m (key d[m]!) i j))
 case atStart=>exact⟨a,m,rfl,rfl,by omega,Ale _,Ale _,S0,G5.start (by omega)⟩
 case round=>
  clear S0;obtain⟨i,j,rfl,rfl,hgk,hjb,hmi,S1,HO⟩:=hrel
  by_cases hlt:i<j
  ·have hltz:decide ((i:Int)<(j:Int))=true:=Alb (by omega);obtain⟨c,hc0⟩: ∃c,c=(i+j)/2:=⟨_,rfl⟩;have hci:i≤c:=by omega
   have hcj:c<j:=by omega
   have zc:((i:Int)+(j:Int))/2=(c:Int):=by omega
   have rel:=HL.out c m (by omega) (by omega) (Ale _) (by have:=HM.out;omega);have hlt2:=O.lt _ _ rel;have hne2:=O.ne _ _ rel;have l1:=S1.out.cl R hs.symm m hmd;have l2:=S1.out.cl R hs.symm c (by omega);rw[Al7]at l1 l2;have hcl:=S1.out.cmp HC.out hs.symm d[m]! d[c]!;have b1:(c:Int)<(d.size:Int):=by omega
   have b2:(m:Int)<(d.size:Int):=by omega
   clear hc0
   by_cases hlv:cf d[m]! d[c]!<0
   ·have HN:Hid (G5 key d a m (key d[m]!) i c):=HO.out.down HS.out hci hcj (hlt2.1 hlv);have hd:decide (cf d[m]! d[c]!<0)=true:=Alb hlv;clear hlt2 hne2 rel HO;generalize d[c]! =x at*;generalize d[m]! =y at*;unfold Ar at l1 l2 hcl;go_wp2_with fail
    go_quiet_grown (first|(go_at_fn g;refine Calls.grown_of (hcl _ _)))
    have S2:Aside (SW Ar w0 blk 0 d (grow (wr.drewN nq) osq)):=S1.out.grown nq osq;clear l1 l2 hcl S1;generalize grow (wr.drewN nq) osq=w2 at S2⊢;clear nq osq;go_wp2
    go_roundg (c-i)
    case measure=>omega
    case rel=>exact⟨i,c,rfl,rfl,by omega,by omega,hmi,S2,HN⟩
   ·have HN:Hid (G5 key d a m (key d[m]!) (c+1) j):=HO.out.up HS.out hci hcj (Nat.lt_of_le_of_ne (Nat.le_of_not_lt (mt hlt2.2 hlv)) hne2);have hd:decide (cf d[m]! d[c]!<0)=false:=Ald hlv;clear hlt2 hne2 rel HO;generalize d[c]! =x at*;generalize d[m]! =y at*;unfold Ar at l1 l2 hcl;go_wp2_with fail
    go_quiet_grown (first|(go_at_fn g;refine Calls.grown_of (hcl _ _)))
    have S2:Aside (SW Ar w0 blk 0 d (grow (wr.drewN nq) osq)):=S1.out.grown nq osq;clear l1 l2 hcl S1;generalize grow (wr.drewN nq) osq=w2 at S2⊢;clear nq osq;go_wp2
    go_roundg (j-(c+1))
    case measure=>omega
    case rel=>exact⟨c+1,j,by go_num,rfl,by omega,hjb,by omega,S2,HN⟩
  ·have hltz:decide ((i:Int)<(j:Int))=false:=Ald (by omega);obtain rfl:i=j:=by omega
   go_wp2
   go_loopg [17] (m-i) (fun g2 vk wr2=> ∃(k:Nat) (dk:Array UInt8),vk= .int .i64 k∧i+g2=k∧k≤m∧dk.size=d.size∧Aside (SW Ar w0 blk 0 dk wr2)∧Hid (Hm.Rot d dk k m (m+1)))
   case atStart=>exact⟨m,d,rfl,by omega,Ale _,rfl,S1,Hm.Rot.id_left d m (m+1) (by omega)⟩
   case round=>
    clear S1;obtain⟨k,dk,rfl,hk,hak,hsk,S1,HR⟩:=hrel
    by_cases hlt2:i<k
    ·obtain⟨q,rfl⟩: ∃q,k=q+1:=⟨k-1,by omega⟩;have hd:decide (((q+1:Nat):Int)>(i:Int))=true:=Alb (by omega);have S3:Aside (SW Ar w0 blk 0 (swp dk (q+1) q) ((wr.setCell ⟨blk,q+1,none⟩ (.int .u8 (dk[q]!.toNat:Nat))).setCell ⟨blk,q,none⟩ (.int .u8 (dk[q+1]!.toNat:Nat))).drew):=by
      have:=S1.out.swapped R (q+1) q (by omega) (by omega);rw[Al7,Al7]at this;exact this
     have c1:=S1.out.c1 R (by omega) (q+1) (by omega);have c2:=S1.out.c1 R (by omega) q (by omega);have f1:=S1.out.f1 R (by omega) (q+1) (by omega);have f2:=S1.out.f1 R (by omega) q (by omega);obtain⟨u,c3⟩:=S1.out.c2 R (by omega) (q+1) q (by omega) (by omega) (Ar dk[q]!);rw[Al7]at c1 c2 f1 f2;rw[Al7,Al7]at c3;have HN:Hid (Hm.Rot d (swp dk (q+1) q) q m (m+1)):=HR.out.left_step hmd (by omega);have hsn:(swp dk (q+1) q).size=d.size:=by rw[size_swp];exact hsk
     clear S1 HR HM;unfold Ar at c1 c2 c3;generalize hx:dk[q+1]!.toNat=x at*;generalize hy:dk[q]!.toNat=y at*;generalize swp dk (q+1) q=e at*;have ha1:(q:Int)<(d.size:Int):=by omega
     have hb1:(q:Int)+1<(d.size:Int):=by omega
     have hd2:(i:Int)<(q:Int)+1:=by omega
     clear hx hy;go_wp2
     go_region
     go_wp2
     go_roundg (gk-1)
     case measure=>omega
     case rel=>exact⟨q,e,by go_num,by omega,by omega,hsn,S3,HN⟩
    ·have hd:decide ((k:Int)>(i:Int))=false:=Ald (by omega);obtain rfl:k=i:=by omega
     have hm:=Ts HO.out HS.out HR.out;have HX:Hid (De d dk a b∧Hm.Srt key dk a b):=by
      have hma:=HM.out;show _∧_;rw[hma];exact hm
     clear hm HR HO HS HL;go_wp2
     (try simp only[Exit.inBlock,Exit.then]);refine Amo (results_none rfl _ _ _) rfl ?_
     exact⟨rfl,dk,HX.out.1,HX.out.2,S1.out⟩
set_option maxHeartbeats 8000000 in
set_option maxRecDepth 100000 in
theorem Abs{cf:UInt8→UInt8→Int}{key:UInt8→Nat}{Rl:UInt8→UInt8→Prop}(O:Hm.Ord cf key Rl)(g:Nat)(cb:Array Value)(eg: ∀args w,(callFunc g args).run Tryz.prog w= .ok (.enter g args) w)
  (w0:World) (blk cap a m b:Nat) (d0 d:Array UInt8) (w:World) (hcmp:CmpLays1 Tryz.prog g cb Ar cf blk 0 d0.size w0) (R:Row1 Ar w0 blk 0 d0) (hs:d0.size=d.size) (S:SW Ar w0 blk 0 d w) (hma:a+1<m) (hmb:m+1<b) (hb:b≤d.size) (hsz:d.size≤256)
  (hs1:Hm.Srt key d a m) (hs2:Hm.Srt key d m b) (hlr:Hm.LR Rl d a m b)
  (IH: ∀(a' m' b':Nat) (d':Array UInt8) (w':World),b'-a'<b-a→d'.size=d.size→Aside (SW Ar w0 blk 0 d' w')→a'<m'→m'<b'→b'≤d.size→Hm.Srt key d' a' m'→Hm.Srt key d' m' b'→Hm.LR Rl d' a' m' b'→
   Calls Tryz.prog 224 #[.slice (some ⟨blk,0,none⟩) d.size cap,.int .i64 a',.int .i64 m',.int .i64 b',.func (.func g) #[] cb] w' fun e w''=>e= .returned (.tuple #[])∧ ∃e',De d' e' a' b'∧Hm.Srt key e' a' b'∧SW Ar w0 blk 0 e' w''):
  Calls Tryz.prog 224 #[.slice (some ⟨blk,0,none⟩) d.size cap,.int .i64 a,.int .i64 m,.int .i64 b,.func (.func g) #[] cb] w fun e w'=>e= .returned (.tuple #[])∧ ∃d',De d d' a b∧Hm.Srt key d' a b∧SW Ar w0 blk 0 d' w':=by
 have mixed:=Om;have HC:Aside _:=hcmp;have H1:Aside _:=hs1;have H2:Aside _:=hs2;have HL:Aside _:=hlr;have HI:Aside _:=IH;have S0:Aside (SW Ar w0 blk 0 d w):=S;clear S hcmp hs1 hs2 hlr IH;have hz0:(((m:Int)-(a:Int))==1)=false:=by simp;omega
 have hz1:(((b:Int)-(m:Int))==1)=false:=by simp;omega
 obtain⟨mid,hmid⟩: ∃c,c=(a+b)/2:=⟨_,rfl⟩;have zmid:((a:Int)+(b:Int))/2=(mid:Int):=by omega
 have hma1:a<mid:=by omega
 have hmb1:mid<b:=by omega
 have hmb2:2*mid≤a+b:=by omega
 have hmb3:a+b≤2*mid+1:=by omega
 clear hmid;obtain⟨p,hp⟩: ∃p,p+1=mid+m:=⟨mid+m-1,by omega⟩;have zp:(mid:Int)+(m:Int)-1=(p:Int):=by omega
 go_enter Tryz.func224,Tryz.ntmps224
 go_upto_if 140 with fail
 go_cut[20,21]from 25 (fun vs vr wx=> ∃s0 r0:Nat,vs= .int .i64 s0∧vr= .int .i64 r0∧w=wx∧a≤s0∧s0≤r0∧r0≤m∧r0≤mid∧mid+m≤b+s0∧Hid ((s0=a∨s0+b=mid+m)∧(r0=m∨r0=mid)))
 case first=>as_aux_lemma=>
  by_cases c:mid<m
  ·have hd:decide ((m:Int)>(mid:Int))=true:=Alb (by omega);have hd':(mid:Int)<(m:Int):=by omega
   go_wp2_with fail;go_meet
   case rel=>exact⟨mid+m-b,mid,by first|go_num|(congr 1;omega),rfl,rfl,by omega,by omega,by omega,by omega,by omega,.inr (by omega),.inr rfl⟩
  ·have hd:decide ((m:Int)>(mid:Int))=false:=Ald (by omega);have hd': ¬(mid:Int)<(m:Int):=by omega
   go_wp2_with fail;go_meet
   case rel=>exact⟨a,m,rfl,rfl,rfl,by omega,by omega,by omega,by omega,by omega,.inl rfl,.inl rfl⟩
 case rest=>as_aux_lemma=>
  obtain⟨s0,r0,rfl,rfl,rfl,ha0,hsr,hrm,hrd,hsb,HZ⟩:=hcut;go_wp2_with fail
  go_loopg [20,21] (r0-s0) (fun g1 vi vj wr=> ∃s r:Nat,vi= .int .i64 s∧vj= .int .i64 r∧s+g1=r∧r≤r0∧s0≤s∧Aside (SW Ar w0 blk 0 d wr)∧Hid (Lo key d p s0 r0 s r))
  case atStart=>exact⟨s0,r0,rfl,rfl,by omega,Ale _,Ale _,S0,Lo.start hsr⟩
  case round=>as_aux_lemma=>
   clear S0;obtain⟨s,r,rfl,rfl,hgk,hrr,hss,S1,HO⟩:=hrel
   by_cases hlt:s<r
   ·have hltz:decide ((s:Int)<(r:Int))=true:=Alb (by omega);obtain⟨c,hc0⟩: ∃c,c=(s+r)/2:=⟨_,rfl⟩;have hci:s≤c:=by omega
    have hcj:c<r:=by omega
    have zc:((s:Int)+(r:Int))/2=(c:Int):=by omega
    obtain⟨q,hq⟩: ∃q,q=p-c:=⟨_,rfl⟩;have zq:IntKind.i64.wrap ((p:Int)-(c:Int))=(q:Int):=by rw[Al9];omega
    have rel:=HL.out c q (by omega) (by omega) (by omega) (by omega);have hlt2:=O.lt _ _ rel;have hne2:=O.ne _ _ rel;have l1:=S1.out.cl R hs.symm q (by omega);have l2:=S1.out.cl R hs.symm c (by omega);rw[Al7]at l1 l2;have hcl:=S1.out.cmp HC.out hs.symm d[q]! d[c]!;have b1:(c:Int)<(d.size:Int):=by omega
    have b2:(q:Int)<(d.size:Int):=by omega
    clear hc0
    by_cases hlv:cf d[q]! d[c]!<0
    ·have HN:Hid (Lo key d p s0 r0 s c):=HO.out.down H1.out H2.out ha0 hrm (by omega) (by omega) hci hcj (by rw[←hq];exact hlt2.1 hlv);have hd:decide (cf d[q]! d[c]!<0)=true:=Alb hlv;clear hlt2 hne2 rel HO hq;generalize d[c]! =x at*;generalize d[q]! =y at*;unfold Ar at l1 l2 hcl;go_wp2_with fail
     go_quiet_grown (first|(go_at_fn g;refine Calls.grown_of (hcl _ _)))
     have S2:Aside (SW Ar w0 blk 0 d (grow (wr.drewN nq) osq)):=S1.out.grown nq osq;clear l1 l2 hcl S1;generalize grow (wr.drewN nq) osq=w2 at S2⊢;clear nq osq;go_wp2
     go_roundg (c-s)
     case measure=>omega
     case rel=>exact⟨s,c,rfl,rfl,by omega,by omega,hss,S2,HN⟩
    ·have HN:Hid (Lo key d p s0 r0 (c+1) r):=HO.out.up H1.out H2.out ha0 hrm (by omega) (by omega) hci hcj (by rw[←hq];exact Nat.lt_of_le_of_ne (Nat.le_of_not_lt (mt hlt2.2 hlv)) hne2);have hd:decide (cf d[q]! d[c]!<0)=false:=Ald hlv;clear hlt2 hne2 rel HO hq;generalize d[c]! =x at*;generalize d[q]! =y at*;unfold Ar at l1 l2 hcl;go_wp2_with fail
     go_quiet_grown (first|(go_at_fn g;refine Calls.grown_of (hcl _ _)))
     have S2:Aside (SW Ar w0 blk 0 d (grow (wr.drewN nq) osq)):=S1.out.grown nq osq;clear l1 l2 hcl S1;generalize grow (wr.drewN nq) osq=w2 at S2⊢;clear nq osq;go_wp2
     go_roundg (r-(c+1))
     case measure=>omega
     case rel=>exact⟨c+1,r,by go_num,rfl,by omega,hrr,by omega,S2,HN⟩
   ·have hltz:decide ((s:Int)<(r:Int))=false:=Ald (by omega);obtain rfl:s=r:=by omega
    obtain⟨e,he⟩: ∃e,e+s=mid+m:=⟨mid+m-s,by omega⟩;have ze:(mid:Int)+(m:Int)-(s:Int)=(e:Int):=by omega
    have hem:m≤e:=by omega
    have heb:e≤b:=by omega
    have hpe:p=mid+m-1:=by omega
    have HO2:=HO.out;rw[hpe]at HO2;obtain⟨F1,F2⟩:=HO2.found H1.out H2.out ha0 hrm (by omega) hrd HZ.out.1 HZ.out.2 hsb;rw[show mid+m-s=e from by omega]at F1 F2;have HH:Aside (∀d1,Hm.Rot d d1 s m e→Ln key Rl d d1 a s mid e b):=fun d1 r=>Ln.of H1.out H2.out HL.out (by omega) (by omega) (by omega) he heb F1 F2 r;clear F1 F2 HO HO2 hpe HZ HL H1 H2 HC;go_upto_region 39 with fail
    go_cut[185]from 25 (fun v wx=>v= .bool (decide (s<m∧m<e))∧wr=wx)
    case first=>as_aux_lemma=>
     by_cases c1:s<m
     ·have e1:decide ((s:Int)<(m:Int))=true:=Alb (by omega);have e1':(s:Int)<(m:Int):=by omega
      by_cases c2:m<e
      ·have e2:decide ((m:Int)<(e:Int))=true:=Alb (by omega);have e2':(m:Int)<(e:Int):=by omega
       go_wp2_with fail;go_meet
       case rel=>exact⟨by simp[c1,c2],rfl⟩
      ·have e2:decide ((m:Int)<(e:Int))=false:=Ald (by omega);have e2': ¬(m:Int)<(e:Int):=by omega
       go_wp2_with fail;go_meet
       case rel=>exact⟨by simp[c2],rfl⟩
     ·have e1:decide ((s:Int)<(m:Int))=false:=Ald (by omega);have e1': ¬(s:Int)<(m:Int):=by omega
      go_wp2_with fail;go_meet
      case rel=>exact⟨by simp[c1],rfl⟩
    case rest=>as_aux_lemma=>
     obtain⟨rfl,rfl⟩:=hcut;go_upto_if 185 with fail
     go_cut[]from 25 (fun wx=> ∃d1,d1.size=d.size∧Aside (SW Ar w0 blk 0 d1 wx)∧Hid (Ln key Rl d d1 a s mid e b))
     case first=>as_aux_lemma=>
      by_cases c1:s<m∧m<e
      ·have hd:decide (s<m∧m<e)=true:=Alb c1;have hr:=Afu w0 blk cap s m e d0 d (.func (.func g) #[] cb) wr R hs S1.out c1.1 c1.2 (by omega) hsz;go_wp2_with fail;refine hr.mono ?_;rintro e2 w2 ⟨rfl,d1,hrot,S2⟩;have HN:Hid (Ln key Rl d d1 a s mid e b):=HH.out d1 hrot;have hsn:d1.size=d.size:=hrot.size;have SS:Aside (SW Ar w0 blk 0 d1 w2):=S2;clear hr hrot S2 HH;go_wp2_with fail;go_meet
       case rel=>exact⟨d1,hsn,SS,HN⟩
      ·have hd:decide (s<m∧m<e)=false:=Ald c1;have HN:Hid (Ln key Rl d d a s mid e b):=HH.out d (by
        by_cases c2:s<m
        ·obtain rfl:e=m:=by omega
         exact Hm.Rot.id_right d s e
        ·obtain rfl:s=m:=by omega
         exact Hm.Rot.id_left d s e hem)
       clear HH;go_wp2_with fail;go_meet
       case rel=>exact⟨d,rfl,S1,HN⟩
     case rest=>as_aux_lemma=>
      clear S1 HH;obtain⟨d1,hsd1,S1,HV⟩:=hcut;go_upto_region 41 with fail
      go_cut[199]from 25 (fun v wx=>v= .bool (decide (a<s∧s<mid))∧wc=wx)
      case first=>as_aux_lemma=>
       by_cases c1:a<s
       ·have e1:decide ((a:Int)<(s:Int))=true:=Alb (by omega);have e1':(a:Int)<(s:Int):=by omega
        by_cases c2:s<mid
        ·have e2:decide ((s:Int)<(mid:Int))=true:=Alb (by omega);have e2':(s:Int)<(mid:Int):=by omega
         go_wp2_with fail;go_meet
         case rel=>exact⟨by simp[c1,c2],rfl⟩
        ·have e2:decide ((s:Int)<(mid:Int))=false:=Ald (by omega);have e2': ¬(s:Int)<(mid:Int):=by omega
         go_wp2_with fail;go_meet
         case rel=>exact⟨by simp[c2],rfl⟩
       ·have e1:decide ((a:Int)<(s:Int))=false:=Ald (by omega);have e1': ¬(a:Int)<(s:Int):=by omega
        go_wp2_with fail;go_meet
        case rel=>exact⟨by simp[c1],rfl⟩
      case rest=>as_aux_lemma=>
       obtain⟨rfl,rfl⟩:=hcut;go_upto_if 199 with fail
       go_cut[]from 25 (fun wx=> ∃d2,d2.size=d.size∧Aside (SW Ar w0 blk 0 d2 wx)∧Hid (De d1 d2 a mid∧Hm.Srt key d2 a mid))
       case first=>as_aux_lemma=>
        by_cases c1:a<s∧s<mid
        ·have hd:decide (a<s∧s<mid)=true:=Alb c1;have hr:=HI.out a s mid d1 wc (by omega) hsd1 S1 c1.1 c1.2 (by omega) HV.out.s1 HV.out.s2 HV.out.lr1;clear HI;go_wp2_with fail;refine hr.mono ?_;rintro e2 w2 ⟨rfl,d2,hsm,hsr,S2⟩;have HN:Hid (De d1 d2 a mid∧Hm.Srt key d2 a mid):=⟨hsm,hsr⟩;have hsn:d2.size=d.size:=hsm.size.trans hsd1;have SS:Aside (SW Ar w0 blk 0 d2 w2):=S2;clear hr hsm hsr S2;go_wp2_with fail;go_meet
         case rel=>exact⟨d2,hsn,SS,HN⟩
        ·have hd:decide (a<s∧s<mid)=false:=Ald c1;have HN:Hid (De d1 d1 a mid∧Hm.Srt key d1 a mid):=⟨De.refl _ _ _,HV.out.s1.whole HV.out.s2 (by omega)⟩;clear HI;go_wp2_with fail;go_meet
         case rel=>exact⟨d1,hsd1,S1,HN⟩
       case rest=>as_aux_lemma=>
        clear S1;obtain⟨d2,hsd2,S1,HW⟩:=hcut;go_upto_region 43 with fail
        go_cut[213]from 25 (fun v wx=>v= .bool (decide (mid<e∧e<b))∧wc=wx)
        case first=>as_aux_lemma=>
         by_cases c1:mid<e
         ·have e1:decide ((mid:Int)<(e:Int))=true:=Alb (by omega);have e1':(mid:Int)<(e:Int):=by omega
          by_cases c2:e<b
          ·have e2:decide ((e:Int)<(b:Int))=true:=Alb (by omega);have e2':(e:Int)<(b:Int):=by omega
           go_wp2_with fail;go_meet
           case rel=>exact⟨by simp[c1,c2],rfl⟩
          ·have e2:decide ((e:Int)<(b:Int))=false:=Ald (by omega);have e2': ¬(e:Int)<(b:Int):=by omega
           go_wp2_with fail;go_meet
           case rel=>exact⟨by simp[c2],rfl⟩
         ·have e1:decide ((mid:Int)<(e:Int))=false:=Ald (by omega);have e1': ¬(mid:Int)<(e:Int):=by omega
          go_wp2_with fail;go_meet
          case rel=>exact⟨by simp[c1],rfl⟩
        case rest=>as_aux_lemma=>
         obtain⟨rfl,rfl⟩:=hcut
         by_cases c1:mid<e∧e<b
         ·have hd:decide (mid<e∧e<b)=true:=Alb c1;have hr:=HI.out mid e b d2 wc (by omega) hsd2 S1 c1.1 c1.2 hb (HV.out.s3.out HW.out.1 (.inr (Ale _))) (HV.out.s4.out HW.out.1 (.inr (by omega))) (HV.out.lr2.out HW.out.1 (.inr (Ale _)));clear HI;go_wp2_with fail;refine hr.mono ?_;rintro e2 w2 ⟨rfl,d3,hsm,hsr,S2⟩;have HN:Hid (De d d3 a b∧Hm.Srt key d3 a b):=HV.out.done (by omega) (by omega) HW.out.1 HW.out.2 hsm hsr;have SS:Aside (SW Ar w0 blk 0 d3 w2):=S2;clear hr hsm hsr S2;go_wp2
          go_end0
          exact⟨rfl,d3,HN.out.1,HN.out.2,SS.out⟩
         ·have hd:decide (mid<e∧e<b)=false:=Ald c1;have HN:Hid (De d d2 a b∧Hm.Srt key d2 a b):=HV.out.done (by omega) (by omega) HW.out.1 HW.out.2 (De.refl _ _ _) ((HV.out.s3.out HW.out.1 (.inr (Ale _))).whole (HV.out.s4.out HW.out.1 (.inr (by omega))) (by omega));clear HI;go_wp2
          go_end0
          exact⟨rfl,d2,HN.out.1,HN.out.2,S1.out⟩
theorem R6{cf:UInt8→UInt8→Int}{key:UInt8→Nat}{Rl:UInt8→UInt8→Prop}(O:Hm.Ord cf key Rl)(g:Nat)(cb:Array Value)(eg: ∀args w,(callFunc g args).run Tryz.prog w= .ok (.enter g args) w)
  (w0:World) (blk cap:Nat) (d0:Array UInt8) (hcmp:CmpLays1 Tryz.prog g cb Ar cf blk 0 d0.size w0) (R:Row1 Ar w0 blk 0 d0) (hsz:d0.size≤256):
  ∀(N a m b:Nat) (d:Array UInt8) (w:World),b-a<N→d.size=d0.size→Aside (SW Ar w0 blk 0 d w)→a<m→m<b→b≤d0.size→Hm.Srt key d a m→Hm.Srt key d m b→Hm.LR Rl d a m b→
   Calls Tryz.prog 224 #[.slice (some ⟨blk,0,none⟩) d0.size cap,.int .i64 a,.int .i64 m,.int .i64 b,.func (.func g) #[] cb] w fun e w'=>e= .returned (.tuple #[])∧ ∃d',De d d' a b∧Hm.Srt key d' a b∧SW Ar w0 blk 0 d' w'
 |0,a,m,b,d,w,h,_,_,_,_,_,_,_,_=>absurd h (Nat.not_lt_zero _)
 |N+1,a,m,b,d,w,h,hs,S,ham,hmb,hb,s1,s2,lr=>by
  have ih:=R6 O g cb eg w0 blk cap d0 hcmp R hsz N;rw[←hs]
  by_cases c1:m=a+1
  ·exact Zy O g cb eg w0 blk cap a m b d0 d w hcmp R hs.symm S.out c1 hmb (by omega) (by omega) s2 lr
  by_cases c2:b=m+1
  ·exact Xr O g cb eg w0 blk cap a m b d0 d w hcmp R hs.symm S.out (by omega) c2 (by omega) (by omega) s1 lr
  refine Abs O g cb eg w0 blk cap a m b d0 d w hcmp R hs.symm S.out (by omega) (by omega) (by omega) (by omega) s1 s2 lr ?_;intro a' m' b' d' w' h1 h2 h3 h4 h5 h6 h7 h8 h9;rw[hs];exact ih a' m' b' d' w' (by omega) (by omega) h3 h4 h5 (by omega) h7 h8 h9
end Go.Proofs.YtegnkfdbmmndaaaGreat
