import Derived.Test.YtegnkfdbmmndaaaGreatJ00
import Derived.Test.YtegnkfdbmmndaaaGreatJ29
import Derived.Test.YtegnkfdbmmndaaaGreatJ23

namespace Go.Proofs.YtegnkfdbmmndaaaGreat
open Hm
open Go.RowKit
namespace Hm
def Ax(cd:UInt8→List Bool)(h:List Bool)(col:List UInt8):List Bool:=(col.filter fun b=>Ea (cd b) h).map fun b=>(cd b).getD h.length false
theorem Acl(cd:UInt8→List Bool)(h:List Bool)(col:List UInt8)(b:UInt8):Ax cd h (col++[b])=Ax cd h col++if Ea (cd b) h then [(cd b).getD h.length false]else []:=by
 unfold Ax;rw[Ang,Am9];congr 1;cases e:Ea (cd b) h<;>simp[e]
theorem Wq(cd:UInt8→List Bool)(h:List Bool)(col:List UInt8):(Ax cd h col).length≤col.length:=by
 unfold Ax;rw[Al6];exact Ao2 _ _
theorem Oc(cd:UInt8→List Bool)(hs:List (List Bool))(col:List UInt8)(i:Nat)(hi:i<hs.length):Bw cd (hs.take (i+1)) col=Bw cd (hs.take i) col++Ax cd (hs.getD i []) col:=by
 unfold Bw Ax;rw[Ali hi,Ana,Ak6,Ak7 hi];simp
theorem Wr(cd:UInt8→List Bool)(hs:List (List Bool))(col:List UInt8): ∀i,i≤hs.length→(Bw cd (hs.take i) col).length≤i*col.length
 |0,_=>by simp[Bw]
 |i+1,h=>by
  have h1:=Wr cd hs col i (by omega);have h2:=Wq cd (hs.getD i []) col;rw[Oc cd hs col i h,Alg,Anv];omega
theorem Akq(c h:List Bool):pre (Ad h) (Ad c)=Ea c h:=by
 unfold pre Ea;have e1:(Ad h).length=h.length:=by simp[Ad]
 have e2:(Ad c).length=c.length:=by simp[Ad]
 have e3:(Ad c).take h.length=Ad (c.take h.length):=by simp[Ad,List.map_take]
 rw[e1,e2,e3]
 by_cases k:h.length≤c.length
 ·by_cases q:c.take h.length=h
  ·rw[Alb k,Alb ⟨k,q⟩,q];simp
  ·rw[Alb k,Ald (fun z=>q z.2),Bool.true_and,Al5];exact fun z=>q (Lt _ _ z)
 ·rw[Ald k,Ald (fun z=>k z.1)];rfl
end Hm
set_option maxRecDepth 20000 in
set_option maxHeartbeats 4000000 in
theorem Aeb(s:ByteArray)(o:List (List Bool))(w:World)(hol:o.length=256)(hox: ∀x∈o,x.length≤255)(hs:s.size≤6001)
  (hpf: ∀b∈s.data.toList,∀b' h,h.length<(Hm.cdL o b').length→(Hm.cdL o b').take h.length=h→Ea (Hm.cdL o b) h=true→h.length<(Hm.cdL o b).length):
  Calls Tryz.prog 46 #[.string s,.agg (An o).toArray] w fun e w'=> ∃hs:List (List Bool),Er (Hm.cdL o) hs∧e= .returned (.string ⟨(Ad (Bw (Hm.cdL o) hs s.data.toList)).toArray⟩)∧Apd w w':=by
 obtain⟨i0,hi,hz0,hz1,hz2⟩:=Amz Ft;have HSL:Aside (s.data.toList.length=s.size):=by show _=_;simp
 have hgx: ∀b:Nat,b<256→(o.getD b []).length≤255:=fun b hb=>by
  rw[Ak6,Ak7 (show b<o.length from by omega)];exact hox _ (Alo _)
 have HG:Aside (∀b:Nat,b<256→(o.getD b []).length≤255):=hgx;have HOL:Aside (o.length=256):=hol;have HPF:Aside _:=hpf;have HHD:=fun W=>Sn o W hol hox;have HHE:Aside _:=HHD;clear hgx hox hol hpf HHD
 go_enter Tryz.func46,Tryz.ntmps46
 go_upto_region 2 with fail
 have g0:TR (w.alloc (.cells (An o).toArray 113)) w.heap.size o:=All w _;have hk0:Apd w (w.alloc (.cells (An o).toArray 113)):=(Aa.refl _ _).alloc _;generalize w.alloc (.cells (An o).toArray 113)=W at*;have HW:Aside (TR W w.heap.size o∧Apd w W):=⟨g0,hk0⟩;obtain⟨TT,hTT⟩: ∃a,a=(An o).toArray:=⟨_,rfl⟩;have hts:TT.size=256:=by rw[hTT,Alq,Bh];exact HOL.out
 have hrow:W.heap[w.heap.size]?=some (.cells TT 113 (0,0)):=by rw[hTT];exact g0
 have hhe:=HHE.out W;rw[←hTT]at hhe⊢;clear g0 hk0 hTT
 go_wp2_with(first
  |(refine Amd rfl 113 _ rfl w.heap.size rfl 113 TT (0,0) _ hrow Tryz.underlying113 rfl (by rw[hts];exact Cv) ?_))
 refine hhe.mono ?_;rintro e W2 ⟨v,hd,rfl,hho,hhl,hown,hkh⟩;obtain⟨ah,ch,hv,_⟩:=Ay hown;subst hv;have H2:Aside (Er (Hm.cdL o) hd∧W2.ownsRow W.heap.size 9 1 (.slice ah hd.length ch) hd.length (An hd)∧TR W2 w.heap.size o∧Apd w W2):=⟨hho,hown,HW.out.1.kept hkh id,HW.out.2.trans hkh (fun _ _ h=>h)⟩;clear hho hown hkh hhe hrow hts;go_wp2_with fail
 go_loopw[5,7] (fun vs vi wr=> ∃i:Nat,i≤hd.length∧vi= .int .i64 i∧vs= .string ⟨(Ad (Bw (Hm.cdL o) (hd.take i) s.data.toList)).toArray⟩∧Apd W2 wr) (fun _ vi _=>hd.length-(intOf vi).toNat)
 case atStart=>exact⟨0,by omega,rfl,by simp[Bw,Ad],Aa.refl _ _⟩
 case round=>
  obtain⟨i,hil,rfl,rfl,hkr⟩:=hrel;have HKR:Aside (Apd W2 wr):=hkr;have HTL:Aside (∀i,i≤hd.length→(Bw (Hm.cdL o) (hd.take i) s.data.toList).length≤i*s.data.toList.length):=Wr _ _ _
  by_cases hlt:i<hd.length
  ·have hdec:decide ((i:Int)<(hd.length:Int))=true:=Alb (by omega);have hiI:(i:Int)<(hd.length:Int):=by omega
   obtain⟨g,hg⟩: ∃g,ah=some ⟨g,0,none⟩:=by
    rcases H2.out.2.1.2 with⟨e,h0⟩|⟨g,cap,cur,e,_⟩
    ·omega
    ·exact⟨g,(Value.slice.inj e).1⟩
   subst hg;obtain⟨h,hh⟩: ∃h,h=hd.getD i []:=⟨_,rfl⟩;obtain⟨H,hH⟩: ∃H,H=(⟨(Ad h).toArray⟩:ByteArray):=⟨_,rfl⟩;have hca:wr.cell? ⟨g,i,none⟩=some (.string H):=by
    have ho:=hkr.owns H2.out.2.1 (fun _ _ h=>h);rw[ho.cellAt i (by omega),hH,hh];simp[An,List.getD_eq_getElem?_getD,List.getElem?_eq_getElem hlt]
   have hhm:h∈hd:=by rw[hh];exact Sm hlt
   obtain⟨b',hb1,hb2⟩:=(H2.out.1.mem h).1 hhm;have hb255:(Hm.cdL o b').length≤255:=HG.out b'.toNat b'.toNat_lt;have HH:Aside (H=(⟨(Ad h).toArray⟩:ByteArray)∧h=hd.getD i []∧h.length<(Hm.cdL o b').length∧(Hm.cdL o b').take h.length=h):=⟨hH,hh,hb1,hb2⟩;have hHz:H.size=h.length:=by rw[hH];show(Ad h).toArray.size=_;simp[Ad]
   have hHl:h.length≤255:=by omega
   clear hH hh hhm hb1 hb2 hb255 hkr;obtain⟨ts,hts⟩: ∃ts,ts=(⟨(Ad (Bw (Hm.cdL o) (hd.take i) s.data.toList)).toArray⟩:ByteArray):=⟨_,rfl⟩;rw[←hts];have HTS:Aside (ts=(⟨(Ad (Bw (Hm.cdL o) (hd.take i) s.data.toList)).toArray⟩:ByteArray)):=hts;have htz:ts.size≤400000000:=by
    have h1:=HTL.out i hil;have h2:ts.size=(Bw (Hm.cdL o) (hd.take i) s.data.toList).length:=by rw[hts];show(Ad _).toArray.size=_;simp[Ad]
    rw[HSL.out]at h1;have h3:i*s.size≤65792*6001:=Amk (by omega) hs;omega
   clear hts
   go_wp2_with(at_make;refine wpList_make_own _ rfl _ _ 79 rfl W2.heap.size 5 i0 (.int .u8 0) 1 Tryz.underlying79 hi hz0 hz1 .i64 .i64 _ s.size rfl rfl rfl (by rw[hz2];omega) (by unfold maxLen;omega) HKR.out.size ?_;intro w3 ho3 hg3)
   have hk3:Apd W2 w3:=HKR.out.grown hg3 (fun k hk=>by cases hk);clear hg3
   go_loopw[9,10] (fun vb vk wx=> ∃k:Nat,k≤s.size∧vk= .int .i64 k∧Aside (wx.ownsRow W2.heap.size 5 1 vb (Ax (Hm.cdL o) h (s.data.toList.take k)).length (Ag (Ad (Ax (Hm.cdL o) h (s.data.toList.take k)))))∧Apd W2 wx) (fun _ vk _=>s.size-(intOf vk).toNat)
   case atStart=>exact⟨0,by omega,rfl,ho3,hk3⟩
   case round=>
    clear ho3 hk3;obtain⟨k,hk,rfl,HOB,hkx⟩:=hrel;have HKX:Aside (Apd W2 wr):=hkx;obtain⟨ab,cb,hvb,_⟩:=Ay HOB.out;subst hvb;have hcz:(Ax (Hm.cdL o) h (s.data.toList.take k)).length≤6001:=by
     have h1:=Wq (Hm.cdL o) h (s.data.toList.take k);rw[Aln,HSL.out]at h1;omega
    by_cases hlk:k<s.size
    ·have hdec:decide ((k:Int)<(s.size:Int))=true:=Alb (by omega);have h8:=(s[k]'hlk).toNat_lt;have hbI:((s[k]'hlk).toNat:Int)<256:=by omega
     have hkl:k<s.data.toList.length:=by rw[HSL.out];exact hlk
     have hge:s.data.toList[k]'hkl=s[k]'hlk:=rfl;have hmem:s[k]'hlk∈s.data.toList:=by rw[←hge];exact Alo _
     obtain⟨c,hc⟩: ∃c,c=Hm.cdL o (s[k]'hlk):=⟨_,rfl⟩;obtain⟨C,hC⟩: ∃C,C=(⟨(Ad c).toArray⟩:ByteArray):=⟨_,rfl⟩;have hcc:wr.cell? ⟨w.heap.size,(s[k]'hlk).toNat,none⟩=some (.string C):=by
      rw[(H2.out.2.2.1.kept hkx id).cell (by rw[HOL.out];exact h8),hC,hc];rfl
     have hcl:c.length≤255:=by rw[hc];exact HG.out _ h8
     have hCz:C.size=c.length:=by rw[hC];show(Ad c).toArray.size=_;simp[Ad]
     have hbg:=fun W=>Aab C H W (by omega) (by omega);have hpb:Hm.pre H.data.toList C.data.toList=Ea c h:=by rw[HH.out.1,hC];exact Akq c h
     rw[hpb]at hbg;have HSN:Aside (Ax (Hm.cdL o) h (s.data.toList.take (k+1))=Ax (Hm.cdL o) h (s.data.toList.take k)++if Ea c h then [c.getD h.length false]else []):=by
      show _=_;rw[Ali hkl,Acl,hge,←hc]
     have HPL:Aside (Ea c h=true→h.length<c.length):=fun hb=>by
      rw[hc]at hb⊢;exact HPF.out _ hmem b' h HH.out.2.2.1 HH.out.2.2.2 hb
     have HC:Aside (C=(⟨(Ad c).toArray⟩:ByteArray)):=hC;clear hkx hpb hge hmem hkl hC hc;cases hb:Ea c h with
     |true=>
      rw[hb]at hbg;have hlc:h.length<c.length:=HPL.out hb;have hlC:h.length<C.size:=by omega
      have hlI:(h.length:Int)<(C.size:Int):=by omega
      have HBY:Aside (Ag (Ad (Ax (Hm.cdL o) h (s.data.toList.take (k+1))))=Ag (Ad (Ax (Hm.cdL o) h (s.data.toList.take k)))++[.int .u8 ((C[h.length]'hlC).toNat:Nat)]∧(Ax (Hm.cdL o) h (s.data.toList.take (k+1))).length=(Ax (Hm.cdL o) h (s.data.toList.take k)).length+1):=by
       have e:=HSN.out;rw[hb,if_pos rfl]at e;rw[e];refine⟨?_,by simp⟩;have e2:C[h.length]'hlC=if c.getD h.length false then 49 else 48:=by
        have hC:=HC.out;subst hC;show(Ad c).toArray[h.length]'_=_;rw[List.getElem_toArray];simp[Ad,List.getD_eq_getElem?_getD,List.getElem?_eq_getElem hlc]
       rw[e2];simp[Ag,Ad]
      clear HSN HPL hb hlc;go_wp2_with fail;refine(hbg _).mono ?_;rintro e w4 ⟨rfl,hq⟩;have HO4:Aside (w4.ownsRow W2.heap.size 5 1 (.slice ab (Ax (Hm.cdL o) h (s.data.toList.take k)).length cb) (Ax (Hm.cdL o) h (s.data.toList.take k)).length (Ag (Ad (Ax (Hm.cdL o) h (s.data.toList.take k))))):=by
       obtain⟨q,rfl⟩:=hq;exact HOB.out
      have hk4:Apd W2 w4:=by
       obtain⟨q,rfl⟩:=hq;exact HKX.out.drewN q
      clear hq hbg HOB hcc
      go_wp2_with(at_builtin;refine A7 _ rfl (.tmp 43) (.tmp 48) 79 rfl W2.heap.size 5 i0 (.int .u8 0) 1 1 Tryz.underlying79 hi hz0 hz1 hz2 rfl (by decide) _ _ _ rfl (HO4.out.alloc _) ⟨w4.heap.size,0,none⟩ 1 1 [.int .u8 ((C[h.length]'hlC).toNat:Nat)] rfl rfl ?c1 ?c2 ?c3 ?c4 ?c5 ?_)
      case c1=>exact An9 _ _ _
      case c2=>intro u hu;simp at hu;subst hu;rfl
      case c3=>unfold maxLen;omega
      case c4=>omega
      case c5=>have:=hk4.size;simp;omega
      intro v5 w5 ho5 hg5 hm5;have hk5:Apd W2 w5:=(hk4.alloc _).grown hg5 (fun j hj=> .inl (HO4.out.lt j hj).1);have HO5:Aside (w5.ownsRow W2.heap.size 5 1 v5 ((Ax (Hm.cdL o) h (s.data.toList.take k)).length+1) (Ag (Ad (Ax (Hm.cdL o) h (s.data.toList.take k)))++[.int .u8 ((C[h.length]'hlC).toNat:Nat)])):=ho5;clear ho5 hg5 hm5 HO4 hk4;go_wp2_with fail;go_roundw
      case rel=>
       refine⟨k+1,by omega,by go_num,?_,hk5⟩;show World.ownsRow _ _ _ _ _ _ _;rw[HBY.out.1,HBY.out.2];exact HO5.out
      case measure=>simp[intOf];omega
     |false=>
      rw[hb]at hbg;have HSN2:Aside (Ax (Hm.cdL o) h (s.data.toList.take (k+1))=Ax (Hm.cdL o) h (s.data.toList.take k)):=by
       show _=_;rw[HSN.out,hb];simp
      clear HSN HPL hb;go_wp2_with fail;refine(hbg _).mono ?_;rintro e w4 ⟨rfl,hq⟩;have HO4:Aside (w4.ownsRow W2.heap.size 5 1 (.slice ab (Ax (Hm.cdL o) h (s.data.toList.take k)).length cb) (Ax (Hm.cdL o) h (s.data.toList.take k)).length (Ag (Ad (Ax (Hm.cdL o) h (s.data.toList.take k))))):=by
       obtain⟨q,rfl⟩:=hq;exact HOB.out
      have hk4:Apd W2 w4:=by
       obtain⟨q,rfl⟩:=hq;exact HKX.out.drewN q
      clear hq hbg HOB hcc;go_wp2_with fail;go_roundw
      case rel=>
       refine⟨k+1,by omega,by go_num,?_,hk4⟩;show World.ownsRow _ _ _ _ _ _ _;rw[HSN2.out];exact HO4.out
      case measure=>simp[intOf];omega
    ·have hks:k=s.size:=by omega
     have hdec:decide ((k:Int)<(s.size:Int))=false:=Ald (by omega);have hcv:=Gr HOB.out;obtain⟨B,hB⟩: ∃B,B=(⟨(Ad (Ax (Hm.cdL o) h (s.data.toList.take k))).toArray⟩:ByteArray):=⟨_,rfl⟩;have hBz:B.size≤6001:=by
      have:B.size=(Ax (Hm.cdL o) h (s.data.toList.take k)).length:=by rw[hB];show(Ad _).toArray.size=_;simp[Ad]
      omega
     rw[←hB]at hcv;have HR:Aside (ts++B=(⟨(Ad (Bw (Hm.cdL o) (hd.take (i+1)) s.data.toList)).toArray⟩:ByteArray)):=by
      show _=_;have hT:s.data.toList.take k=s.data.toList:=Al8 (by rw[HSL.out];omega);rw[HTS.out,hB,hT,Pm,Oc _ _ _ _ hlt,Hg,←HH.out.2.1]
     have hsm: ¬9223372036854775807<ts.size+B.size:=by omega
     clear hB hkx hks;go_wp2_with fail;go_roundw
     case rel=>exact⟨i+1,by omega,by go_num,by rw[HR.out],HKX.out⟩
     case measure=>simp[intOf];omega
  ·have hih:i=hd.length:=by omega
   have hdec:decide ((i:Int)<(hd.length:Int))=false:=Ald (by omega);have HR:Aside (hd.take i=hd):=by show _=_;rw[hih,Ama]
   have HKW:Aside (Apd w wr):=H2.out.2.2.2.trans hkr (fun _ _ h=>h);clear hih hkr;go_wp2_with fail;go_ret;exact⟨hd,H2.out.1,by rw[HR.out];rfl,HKW.out⟩
def Ak4:Value→Nat
 | .slice _ n _=>n
 |_=>0
def Ak0:Value→Nat
 | .string b=>b.size
 |_=>0
namespace Hm
theorem Y9(hd rows codes:List (List Bool))(k:Nat)(h:Jh hd rows codes k=none): ∀m,Jh hd rows codes (k+m)=none
 |0=>h
 |m+1=>by rw[←Anc,Jh,Y9 hd rows codes k h m]
theorem Agr(s:List UInt8)(fr n:Nat)(h: ¬(Cr s (fr,false) n).2.2=true):(Cr s (fr,false) n).1.length≤8*s.length:=by
 have h0:(Cr s (fr,false) n).2.2=false:=by simpa using h
 rw[N8 s (fr,false) n h0];unfold Cr at h0;split at h0
 ·rename_i hc;rw[hc]at h0;cases h0
 ·rename_i hc;have: ¬s.length<fr+(n+7)/8:=fun hlt=>hc (by unfold D4;rw[if_pos (.inr hlt)]);omega
theorem Sp(s:List UInt8)(fr n:Nat)(hd:List (List Bool)): ∀i rows sz a,G3 s fr n hd i=some (rows,sz,a)→ ∀r∈rows,r.length≤8*s.length
 |0,rows,sz,a,h,r,hr=>by
  rw[G3]at h;injection h with h;injection h with h1 h2;subst h1;cases hr
 |i+1,rows,sz,a,h,r,hr=>by
  rw[G3]at h;split at h
  ·cases h
  ·rename_i rows0 sz0 a0 h0;split at h
   ·cases h
   ·rename_i hc;injection h with h;injection h with h1 h2;subst h1;rcases Ao7.1 hr with h3|h3
    ·exact Sp s fr n hd i rows0 sz0 a0 h0 r h3
    ·rw[List.mem_singleton.1 h3,Amb];have:=Agr s fr _ hc;omega
end Hm
theorem Akr{w:World}{g:Nat}{o:List (List Bool)}(h:TR w g o):Ms w (some ⟨g,0,none⟩) (o.map fun x=>⟨(Ad x).toArray⟩):=fun i hi=>by
 have hi':i<o.length:=by simpa using hi
 refine⟨g,0,rfl,Alw h,?_⟩;rw[Al7,h.cell hi',Am5,Ak6,Ak7 hi'];rfl
theorem Aik{w:World}{b c:Nat}{a:Option Addr}{l:List (List Bool)}(h:w.ownsRow b 9 1 (.slice a l.length c) l.length (An l)):Ms w a (l.map fun x=>⟨(Ad x).toArray⟩):=fun i hi=>by
 have hi':i<l.length:=by simpa using hi
 rcases h.2 with⟨e,h0⟩|⟨g,cap,cur,e,h1,h2,h3⟩
 ·omega
 ·cases e;refine⟨g,0,rfl,Alw h2,?_⟩;rw[Al7,h.cellAt i (by omega),An,Alu,Ak7 hi',Am5];rfl
end Go.Proofs.YtegnkfdbmmndaaaGreat
