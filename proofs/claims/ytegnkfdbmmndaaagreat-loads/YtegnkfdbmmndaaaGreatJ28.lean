import Derived.Test.YtegnkfdbmmndaaaGreatJ00
import Derived.Test.YtegnkfdbmmndaaaGreatJ27
import Derived.Test.YtegnkfdbmmndaaaGreatJ17

namespace Go.Proofs.YtegnkfdbmmndaaaGreat
open Hm
open Go.RowKit
namespace Hm
structure CS where
 out:List (List Bool)
 code:List Bool
 on:Bool
def I2(n:Nat)(R:List Bool):List Bool:=List.replicate (n-R.length) false++R
theorem Ad8(n:Nat)(R:List Bool)(h:R.length≤n):(I2 n R).length=n:=by simp[I2];omega
theorem Aih(n:Nat)(R:List Bool)(h:R.length<n):I2 n (false::R)=I2 n R:=by
 unfold I2;rw[Amc,show n-R.length=(n-(R.length+1))+1 from by omega,Ao4,Alx];rfl
theorem Aii(n:Nat)(R:List Bool)(h:R.length=n):I2 n R=R:=by
 unfold I2;rw[h,Amr];rfl
theorem Ui: ∀R R',Ey R=some R'→R'.length=R.length
 |[],R',h=>by simp[Ey]at h
 |false::t,R',h=>by simp[Ey]at h;rw[←h];rfl
 |true::t,R',h=>by
  simp only[Ey,Option.map_eq_some_iff]at h;obtain⟨x,hx,rfl⟩:=h;rw[Amc,Amc,Ui t x hx]
def Kz(s:CS):Option (List Bool):=if s.on then Ey s.code else some s.code
theorem Sj(s:CS)(R:List Bool)(h:Kz s=some R):R.length=s.code.length:=by
 unfold Kz at h;split at h
 ·exact Ui _ _ h
 ·rw[Al1 h]
def Mh(L:List Nat)(n c:Nat)(s:CS):Option CS:=
 if L.getD c 0=n then(Kz s).map fun R=>⟨s.out.set c (I2 n R).reverse,I2 n R,true⟩else some s
def cTo(L:List Nat):Nat→Option CS
 |0=>some ⟨List.replicate 256 [],[],false⟩
 |t+1=>(cTo L t).bind (Mh L (t/256+1) (t%256))
theorem Ajt(L:List Nat)(n c:Nat)(s:CS)(hc:c<256)(hn:0<n)(h:cTo L ((n-1)*256+c)=some s):cTo L ((n-1)*256+(c+1))=Mh L n c s:=by
 rw[←Anc,cTo,h,Option.bind_some,show((n-1)*256+c)/256+1=n from by omega,show((n-1)*256+c)%256=c from by omega]
theorem Aju(L:List Nat)(t k:Nat)(h:cTo L t=none):cTo L (t+k)=none:=by
 induction k with
 |zero=>exact h
 |succ k ih=>rw[←Anc,cTo,ih];rfl
def Tc(r:Option CS)(one:Bool)(o:List (List Bool))(ok:Bool):Prop:=match r with
 |none=>ok=false
 |some s=>o=s.out∧ok=(!s.on||((Ey s.code).isNone||(s.code==[false]&&one)))
@[irreducible] def Ch (L : List Nat) (o : List (List Bool)) (ok : Bool) : Prop := Tc (cTo L 65280) (decide ((Ai L).length = 1)) o ok
theorem Ch.of{L:List Nat}{o:List (List Bool)}{ok:Bool}(r:Option CS)(hr:cTo L 65280=r)(h:Tc r (decide ((Ai L).length=1)) o ok):Ch L o ok:=by
 unfold Ch;rw[hr];exact h
theorem Ch.to{L:List Nat}{o:List (List Bool)}{ok:Bool}(r:Option CS)(hr:cTo L 65280=r)(h:Ch L o ok):Tc r (decide ((Ai L).length=1)) o ok:=by
 unfold Ch at h;rw[hr]at h;exact h
def An(l:List (List Bool)):List Value:=l.map fun b=> .string ⟨(Ad b).toArray⟩
theorem Bh(l:List (List Bool)):(An l).length=l.length:=by simp[An]
theorem Kh(l:List (List Bool)):(An l).toArray.all (·.oneCell')=true:=by
 rw[An2];intro v hv;have:v∈An l:=by simpa using hv
 unfold An at this;obtain⟨b,_,rfl⟩:=List.mem_map.1 this;rfl
theorem Ad9(R:List Bool):Ad (false::R).reverse=Ad R.reverse++[48]:=by simp[Ad]
theorem Akp(R:List Bool):(R==[false])=((Ad R.reverse).toArray.toList==[48]):=by
 match R with
 |[]=>rfl
 |[b]=>cases b<;>rfl
 |a::b::t=>
  have h1:((a::b::t)==[false])=false:=by simp
  have h2:((Ad (a::b::t).reverse).toArray.toList==[48])=false:=by
   rw[Al5];intro e;have:=congrArg List.length e;simp[Ad]at this
  rw[h1,h2]
theorem Aea(R:List Bool):(Ad R.reverse).toArray.size=R.length:=by simp[Ad]
end Hm
def TR(w:World)(g:Nat)(l:List (List Bool)):Prop:=w.heap[g]?=some (.cells (An l).toArray 113 (0,0))
theorem TR.cell{w:World}{g:Nat}{l:List (List Bool)}(h:TR w g l){i:Nat}(hi:i<l.length):w.cell? ⟨g,i,none⟩=some (.string ⟨(Ad (l.getD i [])).toArray⟩):=by
 rw[Alc _ _ i _ _ _ h];simp[An,List.getD_eq_getElem?_getD,List.getElem?_eq_getElem hi]
theorem TR.free{w:World}{g:Nat}{l:List (List Bool)}(h:TR w g l)(i:Nat):w.frozen? ⟨g,i,none⟩=false:=Alk _ _ i _ _ h
theorem TR.set{w:World}{g:Nat}{l:List (List Bool)}(h:TR w g l)(i:Nat)(x:List Bool):TR (w.setCell ⟨g,i,none⟩ (.string ⟨(Ad x).toArray⟩)) g (l.set i x):=by
 have h2:=Alf w g i _ _ (.string ⟨(Ad x).toArray⟩) h;unfold TR;rw[h2];congr 2;apply Am6;simp[An,List.map_set]
theorem TR.kept{S:Nat→Prop}{w w':World}{g:Nat}{l:List (List Bool)}(h:TR w g l)(hk:Aa S w w')(hn: ¬S g):TR w' g l:=hk.row h hn
theorem Ou:Tryz.zeroCells113=(An (List.replicate 256 [])).toArray:=by kernel_rfl
theorem Cv:(Tryz.prog.info? 113).map (·.size)=some 256:=by kernel_rfl
theorem Hw{P:Program}{fn:Func}{p u:Tmp}{ty:TypeId}(h:fn.results= #[.cell p ty,.tmp u])(tmps:Array Value)(w:World)(g:Nat)(t:TypeId)(cs:Array Value)(fr:Nat×Nat)(d:TypeDesc)
  (hp:tmps.getD p undef= .pointer (some ⟨g,0,none⟩)) (hg:w.heap[g]?=some (.cells cs t fr))
  (hu:P.underlying ty=some d) (hd:(match d with| .struct _| .array _ _=>true|_=>false)=true) (hi:(P.info? ty).map (·.size)=some cs.size):
  (results fn tmps).run P w= .ok (.tuple #[.agg cs,tmps.getD u undef]) w:=by
 rw[results_cell_tmp h,hp];simp[asAddr,run_loadVar_row w g t ty cs fr d hg hu hd hi,Result.andThen]
set_option maxRecDepth 20000 in
set_option maxHeartbeats 400000 in
theorem Sk(L:List Nat)(w:World)(hL:L.length=256)(hx: ∀x∈L,x≤100000):
  Calls Tryz.prog 45 #[.agg (Ac L).toArray] w fun e w'=>(∃(o:List (List Bool)) (ok:Bool),o.length=256∧e= .returned (.tuple #[.agg (An o).toArray,.bool ok])∧Ch L o ok)∧Apd w w':=by
 have hgx: ∀b:Nat,b<256→L.getD b 0≤100000:=fun b hb=>by
  rw[Ak6,Ak7 (show b<L.length from by omega)];exact hx _ (Alo _)
 have HG:Aside (∀b:Nat,b<256→L.getD b 0≤100000):=hgx;have HO:Aside (∀W,Calls Tryz.prog 89 #[.agg (Ac L).toArray] W fun e w'=>e= .returned (.bool (decide ((Ai L).length=1)))∧Apd W w'):=fun W=>Agq L W hL hx;have HL:Aside (L.length=256):=hL;clear hgx hx hL
 go_enter Tryz.func45,Tryz.ntmps45
 go_upto_region 2 with fail
 have g0:AR (((w.alloc (.cells (Ac L).toArray 94)).alloc (.cells Tryz.zeroCells113 113)).alloc (.cells Tryz.zeroCells113 113)) w.heap.size L:=
  (((Aa.refl (fun _=>False) (w.alloc (.cells (Ac L).toArray 94))).alloc _).alloc _).row (All w _) id
 have g1:TR (((w.alloc (.cells (Ac L).toArray 94)).alloc (.cells Tryz.zeroCells113 113)).alloc (.cells Tryz.zeroCells113 113)) (w.heap.size+1) (List.replicate 256 []):=by
  unfold TR;rw[←Ou];exact((Aa.refl (fun _=>False) ((w.alloc (.cells (Ac L).toArray 94)).alloc (.cells Tryz.zeroCells113 113))).alloc _).row (Anx w _ _) id
 have g2:TR (((w.alloc (.cells (Ac L).toArray 94)).alloc (.cells Tryz.zeroCells113 113)).alloc (.cells Tryz.zeroCells113 113)) (w.heap.size+1+1) (List.replicate 256 []):=by
  unfold TR;rw[←Ou];have:=All ((w.alloc (.cells (Ac L).toArray 94)).alloc (.cells Tryz.zeroCells113 113)) (.cells Tryz.zeroCells113 113);simpa using this
 have hk0:Apd w (((w.alloc (.cells (Ac L).toArray 94)).alloc (.cells Tryz.zeroCells113 113)).alloc (.cells Tryz.zeroCells113 113)):=(((Aa.refl _ _).alloc _).alloc _).alloc _;generalize(((w.alloc (.cells (Ac L).toArray 94)).alloc (.cells Tryz.zeroCells113 113)).alloc (.cells Tryz.zeroCells113 113))=W at*;obtain⟨b2,hb2⟩: ∃b,b=w.heap.size+1+1:=⟨_,rfl⟩;rw[←hb2]at g2⊢;obtain⟨b1,hb1⟩: ∃b,b=w.heap.size+1:=⟨_,rfl⟩;rw[←hb1]at g1⊢;have n0:w.heap.size≠b2:=by omega
 have n1:b1≠b2:=by omega
 have HB:Aside (b1=w.heap.size+1∧b2=w.heap.size+1+1):=⟨hb1,hb2⟩;have HW:Aside (AR W w.heap.size L∧TR W b1 (List.replicate 256 [])∧TR W b2 (List.replicate 256 [])∧Apd w W):=⟨g0,g1,g2,hk0⟩;clear hb1 hb2 g0 g1 g2 hk0;go_wp2_with fail
 go_loopw[5,6,7] (fun vc vs vn wr=> ∃(n:Nat) (s:Hm.CS),1≤n∧n≤256∧vn= .int .i64 n∧vs= .bool s.on∧vc= .string ⟨(Ad s.code.reverse).toArray⟩∧Hid (Hm.cTo L ((n-1)*256)=some s∧s.code.length<n∧s.out.length=256)∧TR wr b2 s.out∧Aa (fun j=>j=b2) W wr) (fun _ _ vn _=>256-(intOf vn).toNat)
 case atStart=>exact⟨1,⟨List.replicate 256 [],[],false⟩,by omega,by omega,rfl,rfl,rfl,⟨rfl,Nat.zero_lt_one,Alj⟩,HW.out.2.2.1,Aa.refl _ _⟩
 case round=>
  obtain⟨n,s,hn1,hn2,rfl,rfl,rfl,HI,hrow,hkw⟩:=hrel;have HR:Aside (TR wr b2 s.out∧Aa (fun j=>j=b2) W wr):=⟨hrow,hkw⟩;have hcl:=HI.out.2.1;clear hrow hkw
  by_cases hlt:n<256
  ·have hdec:decide ((n:Int)<256)=true:=Alb (by omega);go_wp2_with fail
   go_loopw[5,6,8] (fun vc vs vi wx=> ∃(c:Nat) (s1:Hm.CS),c≤256∧vi= .int .i64 c∧vs= .bool s1.on∧vc= .string ⟨(Ad s1.code.reverse).toArray⟩∧Hid (Hm.cTo L ((n-1)*256+c)=some s1∧s1.code.length≤n∧s1.out.length=256)∧TR wx b2 s1.out∧Aa (fun j=>j=b2) W wx) (fun _ _ vi _=>256-(intOf vi).toNat)
   case atStart=>exact⟨0,s,by omega,rfl,rfl,rfl,⟨by rw[Aon];exact HI.out.1,by omega,HI.out.2.2⟩,HR.out.1,HR.out.2⟩
   case round=>
    obtain⟨c,s1,hc,rfl,rfl,rfl,HI1,hrow1,hkw1⟩:=hrel;have HR1:Aside (TR wr b2 s1.out∧Aa (fun j=>j=b2) W wr):=⟨hrow1,hkw1⟩;clear hrow1 hkw1
    by_cases hlc:c<256
    ·have hdec:decide ((c:Int)<256)=true:=Alb (by omega);have hcI:(c:Int)<256:=by omega
     have hcc:wr.cell? ⟨w.heap.size,c,none⟩=some (.int .i64 (L.getD c 0:Nat)):=(HW.out.1.kept HR1.out.2 n0).cell (by rw[HL.out];exact hlc);have hgc:=HG.out c hlc;have HST:Aside (Hm.cTo L ((n-1)*256+(c+1))=Mh L n c s1):=Ajt L n c s1 hlc (by omega) HI1.out.1
     by_cases he:L.getD c 0=n
     ·have HE:Aside (L.getD c 0=n):=he;rw[he]at hcc;clear he hgc;have hcl1:=HI1.out.2.1;have hpl:=fun W=>Uh s1.code W (by omega);have HPL:Aside (∀W,Calls Tryz.prog 88 #[.string ⟨(Ad s1.code.reverse).toArray⟩] W fun e w'=>e= .returned (If s1.code)∧Apd W w'):=hpl;clear hpl;go_upto_if 26 with fail
      go_cut[5,6]from 17 to 44 (fun vc _ wy=> ∃W3,W3=wy∧ ∃R:List Bool,vc= .string ⟨(Ad R.reverse).toArray⟩∧Hid (Kz s1=some R)∧Apd wr W3)
      case first=>
       obtain⟨on,hon⟩: ∃o,o=s1.on:=⟨_,rfl⟩;rw[←hon];cases on with
       |false=>
        have HN:Aside (Kz s1=some s1.code):=by show _=_;unfold Kz;rw[←hon];rfl
        clear hon HPL;go_wp2_with fail;go_meet
        case rel=>exact⟨_,rfl,s1.code,rfl,HN.out,Aa.refl _ _⟩
       |true=>
        have HN:Aside (Kz s1=Ey s1.code):=by show _=_;unfold Kz;rw[←hon];rfl
        have hpl:=HPL.out;clear hon HPL;cases hi:Ey s1.code with
        |some R=>
         have hps:If s1.code= .tuple #[.string ⟨(Ad R.reverse).toArray⟩,.bool true]:=by unfold If;rw[hi]
         rw[hps]at hpl;have HI2:Aside (Ey s1.code=some R):=hi;clear hps hi;go_wp2_with fail;refine(hpl _).mono ?_;rintro e W2 ⟨rfl,hk2⟩;have HK2:Aside (Apd wr W2):=hk2;clear hpl hk2;go_wp2_with fail;go_meet
         case rel=>exact⟨_,rfl,R,rfl,HN.out.trans HI2.out,HK2.out⟩
        |none=>
         have hps:If s1.code= .tuple #[.string ⟨(Ad s1.code.reverse).toArray⟩,.bool false]:=by unfold If;rw[hi]
         rw[hps]at hpl;have HF:Aside (Hm.cTo L 65280=none):=by
          show _=_;have h1:Hm.cTo L ((n-1)*256+(c+1))=none:=by
           rw[HST.out];unfold Mh;rw[if_pos HE.out,HN.out,hi];rfl
          have h2:=Aju L _ (65280-((n-1)*256+(c+1))) h1;rwa[show(n-1)*256+(c+1)+(65280-((n-1)*256+(c+1)))=65280 from by omega]at h2
         clear hps hi;go_wp2_with fail;refine(hpl _).mono ?_;rintro e W2 ⟨rfl,hk2⟩;obtain⟨TT,hTT⟩: ∃a,a=(An s1.out).toArray:=⟨_,rfl⟩;have HTT:Aside (TT=(An s1.out).toArray∧TT.size=256∧TT.all (·.oneCell')=true∧W2.heap[b2]?=some (.cells TT 113 (0,0))∧W2.heap[b1]?=some (.cells (An (List.replicate 256 [])).toArray 113 (0,0))∧Apd w W2∧(An (List.replicate 256 [])).toArray.size=256):=by
          rw[hTT];refine⟨rfl,?_,Kh _,HR1.out.1.kept hk2 id,(HW.out.2.1.kept HR1.out.2 n1).kept hk2 id,?_,?_⟩
          ·rw[Alq,Bh];exact HI1.out.2.2
          ·exact(HW.out.2.2.2.trans HR1.out.2 (fun j h1 h2=>by have:=HB.out;omega)).trans hk2 (fun _ _ h=>h)
          ·rw[Alq,Bh,Alj]
         clear hTT hk2 hpl
         go_wp2_with(first
          |(refine Amd rfl 113 _ rfl b2 rfl 113 TT (0,0) _ HTT.out.2.2.2.1 Tryz.underlying113 rfl (by rw[HTT.out.2.1];exact Cv) ?_)
          |(refine wpList_store_row _ rfl 113 _ _ rfl b1 113 (An (List.replicate 256 [])).toArray TT rfl rfl HTT.out.2.2.2.2.1 (by rw[HTT.out.2.1];exact Cv) (by rw[HTT.out.2.1];exact HTT.out.2.2.2.2.2.2) HTT.out.2.2.1 ?_;intro w9 hw9 hk9))
         refine Amo (v:= .tuple #[.agg TT,.bool false]) (Hw Tryz.results45 _ w9 b1 113 _ (0,0) _ rfl hw9 Tryz.underlying113 rfl (by rw[HTT.out.2.1];exact Cv)) rfl ⟨⟨s1.out,false,HI1.out.2.2,by rw[HTT.out.1],Ch.of none HF.out rfl⟩,?_⟩;exact HTT.out.2.2.2.2.2.1.trans hk9 (fun j h1 h2=>by have:=HB.out;omega)
      case rest=>
       obtain⟨W3,rfl,R,rfl,HN,hky⟩:=hcut;have hRl:R.length≤n:=by rw[Sj s1 R HN.out];exact hcl1
       have HK3:Aside (Apd wr W3):=hky;clear hky HPL hcc;go_wp2_with fail
       go_loopg [5] (n-R.length) (fun g1 vc wz=> ∃R1:List Bool,R1.length+g1=n∧vc= .string ⟨(Ad R1.reverse).toArray⟩∧Hid (I2 n R1=I2 n R)∧W3=wz)
       case atStart=>exact⟨R,by omega,rfl,rfl,rfl⟩
       case round=>
        obtain⟨R1,hl1,rfl,HP1,rfl⟩:=hrel;obtain⟨S,hS⟩: ∃S,S=(⟨(Ad R1.reverse).toArray⟩:ByteArray):=⟨_,rfl⟩;have hsz:S.size=R1.length:=by rw[hS];exact Aea R1
        rw[←hS];have HS:Aside (S=(⟨(Ad R1.reverse).toArray⟩:ByteArray)):=hS;clear hS
        by_cases hz:R1.length<n
        ·have hd:decide ((S.size:Int)<(n:Int))=true:=Alb (by omega);go_wp2_with fail
         go_roundg (gk-1)
         case measure=>omega
         case rel=>
          refine⟨false::R1,by simp;omega,?_,?_,rfl⟩
          ·rw[HS.out,Ad9];congr 1
          ·show _=_;rw[Aih n R1 hz];exact HP1.out
        ·have hd:decide ((S.size:Int)<(n:Int))=false:=Ald (by omega);have HE2:Aside (I2 n R=R1):=by show _=_;rw[←HP1.out];exact Aii n R1 (by omega)
         have HS4:Aside (Hm.cTo L ((n-1)*256+(c+1))=some ⟨s1.out.set c R1.reverse,R1,true⟩):=by
          show _=_;rw[HST.out];unfold Mh;rw[if_pos HE.out,HN.out,Option.map_some,HE2.out]
         have HR3:Aside (TR W3 b2 s1.out∧Aa (fun j=>j=b2) W W3):=⟨HR1.out.1.kept HK3.out id,HR1.out.2.trans HK3.out (fun _ _ h=>h.elim)⟩;have co:=HR3.out.1.cell (i:=c) (by rw[HI1.out.2.2];exact hlc);have fo:=HR3.out.1.free c;generalize(⟨(Ad (s1.out.getD c [])).toArray⟩:ByteArray)=old at co;have hcI:(c:Int)<256:=by omega
         go_wp2_with fail;go_roundw
         case rel=>
          refine⟨c+1,⟨s1.out.set c R1.reverse,R1,true⟩,by omega,by go_num,rfl,by rw[HS.out],⟨HS4.out,by show R1.length≤n;omega,?_⟩,?_,?_⟩
          ·show(s1.out.set c R1.reverse).length=256;rw[Amn];exact HI1.out.2.2
          ·rw[HS.out];exact HR3.out.1.set c R1.reverse
          ·exact HR3.out.2.setCell (p:=⟨b2,c,none⟩) (.inr rfl) _
         case measure=>simp[intOf];omega
     ·have hne:((L.getD c 0:Nat):Int)≠(n:Int):=by omega
      have hbq:(((L.getD c 0:Nat):Int)==(n:Int))=false:=Al5.2 hne;have HS2:Aside (Hm.cTo L ((n-1)*256+(c+1))=some s1):=by show _=_;rw[HST.out];unfold Mh;rw[if_neg he]
      clear he;clear HST;generalize L.getD c 0=x at hcc hgc hne hbq;go_wp2;go_roundw
      case rel=>exact⟨c+1,s1,by omega,by go_num,rfl,rfl,⟨HS2.out,HI1.out.2⟩,HR1.out.1,HR1.out.2⟩
      case measure=>simp[intOf];omega
    ·have hc256:c=256:=by omega
     have hdec:decide ((c:Int)<256)=false:=Ald (by omega);have HE:Aside (c=256):=hc256;clear hc256;have hcl1:=HI1.out.2.1;go_wp2;go_roundw
     case rel=>exact⟨n+1,s1,by omega,by omega,by go_num,rfl,rfl,⟨by rw[show(n+1-1)*256=(n-1)*256+c from by have:=HE.out;omega];exact HI1.out.1,by omega,HI1.out.2.2⟩,HR1.out.1,HR1.out.2⟩
     case measure=>simp[intOf];omega
  ·have hn256:n=256:=by omega
   have hdec:decide ((n:Int)<256)=false:=Ald (by omega);have hpl:=fun W=>Uh s.code W (by omega);have HT:Aside (Hm.cTo L 65280=some s):=by
    have:=HI.out.1;rwa[hn256]at this
   obtain⟨S2,more,hps,hmo⟩: ∃(S2:ByteArray) (m:Bool),If s.code= .tuple #[.string S2,.bool m]∧(Ey s.code).isNone=!m:=by
    unfold If;cases Ey s.code with
    |none=>exact⟨_,_,rfl,rfl⟩
    |some R=>exact⟨_,_,rfl,rfl⟩
   rw[hps]at hpl;obtain⟨S,hS⟩: ∃S,S=(⟨(Ad s.code.reverse).toArray⟩:ByteArray):=⟨_,rfl⟩;rw[←hS]at hpl⊢;obtain⟨z,hz⟩: ∃z,(S.toList==[48])=z:=⟨_,rfl⟩;have hzc:(s.code==[false])=z:=by
    rw[←hz,hS,Amq];exact Akp s.code
   obtain⟨on,hon⟩: ∃o,o=s.on:=⟨_,rfl⟩;rw[←hon];have HCA:Aside (∀ok,ok=(!on||(!more||(z&&decide ((Ai L).length=1))))→Ch L s.out ok):=by
    intro ok hok;refine Ch.of (some s) HT.out ⟨rfl,?_⟩;rw[hmo,hzc,←hon];exact hok
   clear hps hmo hzc hS hon hn256;have HR2:Aside (TR wr b2 s.out∧Aa (fun j=>j=b2) W wr):=HR;go_upto_region 20 with fail
   go_wp2_with fail;refine(hpl _).mono ?_;rintro e W2 ⟨rfl,hk2⟩;obtain⟨TT,hTT⟩: ∃a,a=(An s.out).toArray:=⟨_,rfl⟩;have hts:TT.size=256:=by rw[hTT,Alq,Bh];exact HI.out.2.2
   have ht1:TT.all (·.oneCell')=true:=by rw[hTT];exact Kh _
   have hr2:W2.heap[b2]?=some (.cells TT 113 (0,0)):=by rw[hTT];exact HR.out.1.kept hk2 id
   have hr0:W2.heap[w.heap.size]?=some (.cells (Ac L).toArray 94 (0,0)):=(HW.out.1.kept HR.out.2 n0).kept hk2 id;have hr1:W2.heap[b1]?=some (.cells (An (List.replicate 256 [])).toArray 113 (0,0)):=(HW.out.2.1.kept HR.out.2 n1).kept hk2 id;have hkw:Apd w W2:=(HW.out.2.2.2.trans HR.out.2 (fun j h1 h2=>by have:=HB.out;omega)).trans hk2 (fun _ _ h=>h);clear hk2 hpl;have HTT:Aside (TT=(An s.out).toArray):=hTT;clear hTT;go_upto_region 21 with fail
   obtain⟨q,hq⟩: ∃q,q=decide ((Ai L).length=1):=⟨_,rfl⟩;rw[←hq]at HO HCA;have HQ:Aside (∀W,Calls Tryz.prog 89 #[.agg (Ac L).toArray] W fun e w'=>e= .returned (.bool q)∧Apd W w'):=HO;clear hq;cases on with
   |false=>
    refine Ank (S:=fun X=>X.heap[b2]?=some (.cells TT 113 (0,0))∧X.heap[w.heap.size]?=some (.cells (Ac L).toArray 94 (0,0))) (by kernel_rfl) ?_ (fun hHeld=>?_)
    ·exact⟨hr2,hr0⟩
    refine wpAnyH_take (i := 0) (oi := { dst := some 50, op := Op.load 113 (Operand.tmp 4), type := 113, pos := "hoardref.go:154", after := #[], guard := none }) (v := .agg TT) rfl (by kernel_rfl) (by kernel_rfl) (by kernel_rfl) (fun _ _ _ h => h) (Or.inl ⟨by kernel_rfl, fun X hX => Ev X 113 (.tmp 4) rfl b2 rfl 113 TT (0, 0) _ hX.1 Tryz.underlying113 rfl (by rw [hts]; exact Cv)⟩) (by assumption) ?_
    simp only[Act.put,Ak8,Ak9,Ala]
    refine wpAnyH_take (i := 1) (oi := { dst := some 51, op := Op.move (Operand.tmp 6), type := 4, pos := "hoardref.go:154", after := #[], guard := none }) (v := .bool false) rfl (by kernel_rfl) (by kernel_rfl) (by kernel_rfl) (fun _ _ _ h => h) (Or.inl ⟨by kernel_rfl, ?_⟩) (by assumption) ?_
    ·intro X hSw;go_simp;try rfl
    simp only[Act.put,Ak8,Ak9,Ala]
    refine wpAnyH_take (i := 2) (oi := { dst := some 52, op := Op.unOp UnOp.not 4 (Operand.tmp 51), type := 4, pos := "hoardref.go:154", after := #[{ on := 1, ground := Ground.data }], guard := none }) (v := .bool true) rfl (by kernel_rfl) (by kernel_rfl) (by kernel_rfl) (fun _ _ _ h => h) (Or.inl ⟨by kernel_rfl, ?_⟩) (by assumption) ?_
    ·intro X hSw;go_simp;try rfl
    simp only[Act.put,Ak8,Ak9,Ala]
    refine wpAnyH_take (i := 3) (oi := { dst := some 53, op := Op.move (Operand.tmp 52), type := 4, pos := "hoardref.go:154", after := #[{ on := 2, ground := Ground.data }], guard := none }) (v := .bool true) rfl (by kernel_rfl) (by kernel_rfl) (by kernel_rfl) (fun _ _ _ h => h) (Or.inl ⟨by kernel_rfl, ?_⟩) (by assumption) ?_
    ·intro X hSw;go_simp;try rfl
    simp only[Act.put,Ak8,Ak9,Ala]
    refine wpAnyH_take (i := 4) (oi := { dst := some 54, op := Op.move (Operand.tmp 12), type := 4, pos := "hoardref.go:154", after := #[{ on := 3, ground := Ground.guard }], guard := some (3, false) }) (v := undef) rfl (by kernel_rfl) (by kernel_rfl) (by kernel_rfl) (fun _ _ _ h => h) (Or.inr ⟨by kernel_rfl, rfl⟩) (by assumption) ?_
    simp only[Act.put,Ak8,Ak9,Ala]
    refine wpAnyH_take (i := 5) (oi := { dst := some 55, op := Op.unOp UnOp.not 4 (Operand.tmp 54), type := 4, pos := "hoardref.go:154", after := #[{ on := 4, ground := Ground.data }, { on := 3, ground := Ground.guard }], guard := some (3, false) }) (v := undef) rfl (by kernel_rfl) (by kernel_rfl) (by kernel_rfl) (fun _ _ _ h => h) (Or.inr ⟨by kernel_rfl, rfl⟩) (by assumption) ?_
    simp only[Act.put,Ak8,Ak9,Ala]
    refine wpAnyH_take (i := 6) (oi := { dst := some 56, op := Op.pick (Operand.tmp 53) (Operand.const (Value.bool true)) (Operand.tmp 55), type := 4, pos := "hoardref.go:154", after := #[{ on := 3, ground := Ground.data }, { on := 5, ground := Ground.data }], guard := none }) (v := .bool true) rfl (by kernel_rfl) (by kernel_rfl) (by kernel_rfl) (fun _ _ _ h => h) (Or.inl ⟨by kernel_rfl, ?_⟩) (by assumption) ?_
    ·intro X hSw;go_simp;try rfl
    simp only[Act.put,Ak8,Ak9,Ala]
    refine wpAnyH_take (i := 7) (oi := { dst := some 57, op := Op.move (Operand.tmp 56), type := 4, pos := "hoardref.go:154", after := #[{ on := 6, ground := Ground.data }, { on := 3, ground := Ground.chain }], guard := none }) (v := .bool true) rfl (by kernel_rfl) (by kernel_rfl) (by kernel_rfl) (fun _ _ _ h => h) (Or.inl ⟨by kernel_rfl, ?_⟩) (by assumption) ?_
    ·intro X hSw;go_simp;try rfl
    simp only[Act.put,Ak8,Ak9,Ala]
    refine wpAnyH_take (i := 8) (oi := { dst := some 58, op := Op.move (Operand.tmp 5), type := 9, pos := "hoardref.go:154", after := #[{ on := 7, ground := Ground.guard }], guard := some (7, false) }) (v := undef) rfl (by kernel_rfl) (by kernel_rfl) (by kernel_rfl) (fun _ _ _ h => h) (Or.inr ⟨by kernel_rfl, rfl⟩) (by assumption) ?_
    simp only[Act.put,Ak8,Ak9,Ala]
    refine wpAnyH_take (i := 9) (oi := { dst := some 59, op := Op.binOp BinOp.eql 9 (Operand.tmp 58) (Operand.const (Value.string { data := #[48] })) 9, type := 4, pos := "hoardref.go:154", after := #[{ on := 8, ground := Ground.data }, { on := 7, ground := Ground.guard }], guard := some (7, false) }) (v := undef) rfl (by kernel_rfl) (by kernel_rfl) (by kernel_rfl) (fun _ _ _ h => h) (Or.inr ⟨by kernel_rfl, rfl⟩) (by assumption) ?_
    simp only[Act.put,Ak8,Ak9,Ala]
    refine wpAnyH_take (i := 10) (oi := { dst := some 60, op := Op.move (Operand.tmp 59), type := 4, pos := "hoardref.go:154", after := #[{ on := 9, ground := Ground.data }, { on := 7, ground := Ground.chain }, { on := 7, ground := Ground.guard }], guard := some (7, false) }) (v := undef) rfl (by kernel_rfl) (by kernel_rfl) (by kernel_rfl) (fun _ _ _ h => h) (Or.inr ⟨by kernel_rfl, rfl⟩) (by assumption) ?_
    simp only[Act.put,Ak8,Ak9,Ala]
    refine wpAnyH_take (i := 11) (oi := { dst := some 61, op := Op.load 94 (Operand.tmp 1), type := 94, pos := "hoardref.go:154", after := #[{ on := 10, ground := Ground.guard }], guard := some (10, true) }) (v := undef) rfl (by kernel_rfl) (by kernel_rfl) (by kernel_rfl) (fun _ _ _ h => h) (Or.inr ⟨by kernel_rfl, rfl⟩) (by assumption) ?_
    simp only[Act.put,Ak8,Ak9,Ala]
    refine wpAnyH_take (i := 12) (oi := { dst := some 62, op := Op.call { callee := Callee.value (Operand.func 89), args := #[Operand.tmp 61], argTypes := #[94] }, type := 4, pos := "hoardref.go:154", after := #[{ on := 11, ground := Ground.data }, { on := 10, ground := Ground.chain }, { on := 10, ground := Ground.guard }], guard := some (10, true) }) (v := undef) rfl (by kernel_rfl) (by kernel_rfl) (by kernel_rfl) (fun _ _ _ h => h) (Or.inr ⟨by kernel_rfl, rfl⟩) (by assumption) ?_
    simp only[Act.put,Ak8,Ak9,Ala]
    refine wpAnyH_take (i := 13) (oi := { dst := some 63, op := Op.pick (Operand.tmp 60) (Operand.tmp 62) (Operand.const (Value.bool false)), type := 4, pos := "hoardref.go:154", after := #[{ on := 10, ground := Ground.data }, { on := 12, ground := Ground.data }, { on := 7, ground := Ground.guard }, { on := 15, ground := Ground.gcOnly Departure.lateStores }], guard := some (7, false) }) (v := undef) rfl (by kernel_rfl) (by kernel_rfl) (by kernel_rfl) (fun _ _ _ h => h) (Or.inr ⟨by kernel_rfl, rfl⟩) (by assumption) ?_
    simp only[Act.put,Ak8,Ak9,Ala]
    refine wpAnyH_take (i := 14) (oi := { dst := some 64, op := Op.pick (Operand.tmp 57) (Operand.const (Value.bool true)) (Operand.tmp 63), type := 4, pos := "hoardref.go:154", after := #[{ on := 7, ground := Ground.data }, { on := 13, ground := Ground.data }, { on := 15, ground := Ground.gcOnly Departure.lateStores }], guard := none }) (v := .bool true) rfl (by kernel_rfl) (by kernel_rfl) (by kernel_rfl) (fun _ _ _ h => h) (Or.inl ⟨by kernel_rfl, ?_⟩) (by assumption) ?_
    ·intro X hSw;go_simp;try rfl
    simp only[Act.put,Ak8,Ak9,Ala];refine Al0 (rs:=[15]) (by kernel_rfl) (by simp) ?_
    refine AllReadyH.cons (o := { dst := none, op := Op.store 113 (Operand.tmp 2) (Operand.tmp 50), type := 0, pos := "hoardref.go:154", after := #[{ on := 0, ground := Ground.data }, { on := 12, ground := Ground.chain }, { on := 0, ground := Ground.phase }, { on := 1, ground := Ground.textOnly Departure.lateStores }, { on := 2, ground := Ground.textOnly Departure.lateStores }, { on := 3, ground := Ground.textOnly Departure.lateStores }, { on := 4, ground := Ground.textOnly Departure.lateStores }, { on := 5, ground := Ground.textOnly Departure.lateStores }, { on := 6, ground := Ground.textOnly Departure.lateStores }, { on := 7, ground := Ground.textOnly Departure.lateStores }, { on := 8, ground := Ground.textOnly Departure.lateStores }, { on := 9, ground := Ground.textOnly Departure.lateStores }, { on := 10, ground := Ground.textOnly Departure.lateStores }, { on := 11, ground := Ground.textOnly Departure.lateStores }, { on := 12, ground := Ground.textOnly Departure.lateStoresUnsure }, { on := 13, ground := Ground.textOnly Departure.lateStores }, { on := 14, ground := Ground.textOnly Departure.lateStores }], guard := none }) rfl (fun K hK => ?_) AllReadyH.nil
    refine B5 _ (op := { dst := none, op := Op.store 113 (Operand.tmp 2) (Operand.tmp 50), type := 0, pos := "hoardref.go:154", after := #[{ on := 0, ground := Ground.data }, { on := 12, ground := Ground.chain }, { on := 0, ground := Ground.phase }, { on := 1, ground := Ground.textOnly Departure.lateStores }, { on := 2, ground := Ground.textOnly Departure.lateStores }, { on := 3, ground := Ground.textOnly Departure.lateStores }, { on := 4, ground := Ground.textOnly Departure.lateStores }, { on := 5, ground := Ground.textOnly Departure.lateStores }, { on := 6, ground := Ground.textOnly Departure.lateStores }, { on := 7, ground := Ground.textOnly Departure.lateStores }, { on := 8, ground := Ground.textOnly Departure.lateStores }, { on := 9, ground := Ground.textOnly Departure.lateStores }, { on := 10, ground := Ground.textOnly Departure.lateStores }, { on := 11, ground := Ground.textOnly Departure.lateStores }, { on := 12, ground := Ground.textOnly Departure.lateStoresUnsure }, { on := 13, ground := Ground.textOnly Departure.lateStores }, { on := 14, ground := Ground.textOnly Departure.lateStores }], guard := none }) rfl 113 (.tmp 2) (.tmp 50) rfl b1 113 (An (List.replicate 256 [])).toArray TT rfl rfl ((Aa.refl (fun _ => False) W2).drew.row hr1 id) (by rw [hts]; exact Cv) (by rw [hts, List.size_toArray, Bh, List.length_replicate]) ht1 ?_
    intro wz hwz hkz;have hkZ:Aa (fun j=>j=b1) W2 wz:=(Aa.refl (fun j=>j=b1) W2).drew.trans hkz (fun _ _ h=>h);refine hK.out _ _ ⟨hkZ.row hr2 (fun e=>n1 e.symm),hkZ.row hr0 (by have:=HB.out;omega)⟩ (fun hHeld=>?_);clear hK K hkz;refine Al0 (rs:=[16]) (by kernel_rfl) (by simp) ?_
    refine AllReadyH.cons (o := { dst := some 3, op := Op.assign (Operand.tmp 64), type := 4, pos := "hoardref.go:154", after := #[{ on := 14, ground := Ground.data }, { on := 15, ground := Ground.chain }, { on := 0, ground := Ground.phase }, { on := 1, ground := Ground.phase }, { on := 2, ground := Ground.phase }, { on := 3, ground := Ground.phase }, { on := 4, ground := Ground.phase }, { on := 5, ground := Ground.phase }, { on := 6, ground := Ground.phase }, { on := 7, ground := Ground.phase }, { on := 8, ground := Ground.phase }, { on := 9, ground := Ground.phase }, { on := 10, ground := Ground.phase }, { on := 11, ground := Ground.phase }, { on := 12, ground := Ground.phase }, { on := 13, ground := Ground.phase }, { on := 14, ground := Ground.phase }, { on := 15, ground := Ground.phase }], guard := none }) rfl (fun K hK => ?_) AllReadyH.nil
    go_simp;refine hK.out _ _ ⟨hkZ.row hr2 (fun e=>n1 e.symm),hkZ.row hr0 (by have:=HB.out;omega)⟩ (fun hHeld=>?_);clear hK K;refine Anp (by kernel_rfl) ?_ _;have HC9:Aside (Ch L s.out (true)):=HCA.out (true) rfl;go_wp2_with fail;refine Amo (v:= .tuple #[.agg TT,.bool (true)]) (Hw Tryz.results45 _ wz b1 113 _ (0,0) _ rfl hwz Tryz.underlying113 rfl (by rw[hts];exact Cv)) rfl ⟨⟨s.out,true,HI.out.2.2,by rw[HTT.out],HC9.out⟩,?_⟩;exact hkw.trans hkZ (fun j h1 h2=>by have:=HB.out;omega)
   |true=>
    cases more with
    |false=>
     refine Ank (S:=fun X=>X.heap[b2]?=some (.cells TT 113 (0,0))∧X.heap[w.heap.size]?=some (.cells (Ac L).toArray 94 (0,0))) (by kernel_rfl) ?_ (fun hHeld=>?_)
     ·exact⟨hr2,hr0⟩
     refine wpAnyH_take (i := 0) (oi := { dst := some 50, op := Op.load 113 (Operand.tmp 4), type := 113, pos := "hoardref.go:154", after := #[], guard := none }) (v := .agg TT) rfl (by kernel_rfl) (by kernel_rfl) (by kernel_rfl) (fun _ _ _ h => h) (Or.inl ⟨by kernel_rfl, fun X hX => Ev X 113 (.tmp 4) rfl b2 rfl 113 TT (0, 0) _ hX.1 Tryz.underlying113 rfl (by rw [hts]; exact Cv)⟩) (by assumption) ?_
     simp only[Act.put,Ak8,Ak9,Ala]
     refine wpAnyH_take (i := 1) (oi := { dst := some 51, op := Op.move (Operand.tmp 6), type := 4, pos := "hoardref.go:154", after := #[], guard := none }) (v := .bool true) rfl (by kernel_rfl) (by kernel_rfl) (by kernel_rfl) (fun _ _ _ h => h) (Or.inl ⟨by kernel_rfl, ?_⟩) (by assumption) ?_
     ·intro X hSw;go_simp;try rfl
     simp only[Act.put,Ak8,Ak9,Ala]
     refine wpAnyH_take (i := 2) (oi := { dst := some 52, op := Op.unOp UnOp.not 4 (Operand.tmp 51), type := 4, pos := "hoardref.go:154", after := #[{ on := 1, ground := Ground.data }], guard := none }) (v := .bool false) rfl (by kernel_rfl) (by kernel_rfl) (by kernel_rfl) (fun _ _ _ h => h) (Or.inl ⟨by kernel_rfl, ?_⟩) (by assumption) ?_
     ·intro X hSw;go_simp;try rfl
     simp only[Act.put,Ak8,Ak9,Ala]
     refine wpAnyH_take (i := 3) (oi := { dst := some 53, op := Op.move (Operand.tmp 52), type := 4, pos := "hoardref.go:154", after := #[{ on := 2, ground := Ground.data }], guard := none }) (v := .bool false) rfl (by kernel_rfl) (by kernel_rfl) (by kernel_rfl) (fun _ _ _ h => h) (Or.inl ⟨by kernel_rfl, ?_⟩) (by assumption) ?_
     ·intro X hSw;go_simp;try rfl
     simp only[Act.put,Ak8,Ak9,Ala]
     refine wpAnyH_take (i := 4) (oi := { dst := some 54, op := Op.move (Operand.tmp 12), type := 4, pos := "hoardref.go:154", after := #[{ on := 3, ground := Ground.guard }], guard := some (3, false) }) (v := .bool false) rfl (by kernel_rfl) (by kernel_rfl) (by kernel_rfl) (fun _ _ _ h => h) (Or.inl ⟨by kernel_rfl, ?_⟩) (by assumption) ?_
     ·intro X hSw;go_simp;try rfl
     simp only[Act.put,Ak8,Ak9,Ala]
     refine wpAnyH_take (i := 5) (oi := { dst := some 55, op := Op.unOp UnOp.not 4 (Operand.tmp 54), type := 4, pos := "hoardref.go:154", after := #[{ on := 4, ground := Ground.data }, { on := 3, ground := Ground.guard }], guard := some (3, false) }) (v := .bool true) rfl (by kernel_rfl) (by kernel_rfl) (by kernel_rfl) (fun _ _ _ h => h) (Or.inl ⟨by kernel_rfl, ?_⟩) (by assumption) ?_
     ·intro X hSw;go_simp;try rfl
     simp only[Act.put,Ak8,Ak9,Ala]
     refine wpAnyH_take (i := 6) (oi := { dst := some 56, op := Op.pick (Operand.tmp 53) (Operand.const (Value.bool true)) (Operand.tmp 55), type := 4, pos := "hoardref.go:154", after := #[{ on := 3, ground := Ground.data }, { on := 5, ground := Ground.data }], guard := none }) (v := .bool true) rfl (by kernel_rfl) (by kernel_rfl) (by kernel_rfl) (fun _ _ _ h => h) (Or.inl ⟨by kernel_rfl, ?_⟩) (by assumption) ?_
     ·intro X hSw;go_simp;try rfl
     simp only[Act.put,Ak8,Ak9,Ala]
     refine wpAnyH_take (i := 7) (oi := { dst := some 57, op := Op.move (Operand.tmp 56), type := 4, pos := "hoardref.go:154", after := #[{ on := 6, ground := Ground.data }, { on := 3, ground := Ground.chain }], guard := none }) (v := .bool true) rfl (by kernel_rfl) (by kernel_rfl) (by kernel_rfl) (fun _ _ _ h => h) (Or.inl ⟨by kernel_rfl, ?_⟩) (by assumption) ?_
     ·intro X hSw;go_simp;try rfl
     simp only[Act.put,Ak8,Ak9,Ala]
     refine wpAnyH_take (i := 8) (oi := { dst := some 58, op := Op.move (Operand.tmp 5), type := 9, pos := "hoardref.go:154", after := #[{ on := 7, ground := Ground.guard }], guard := some (7, false) }) (v := undef) rfl (by kernel_rfl) (by kernel_rfl) (by kernel_rfl) (fun _ _ _ h => h) (Or.inr ⟨by kernel_rfl, rfl⟩) (by assumption) ?_
     simp only[Act.put,Ak8,Ak9,Ala]
     refine wpAnyH_take (i := 9) (oi := { dst := some 59, op := Op.binOp BinOp.eql 9 (Operand.tmp 58) (Operand.const (Value.string { data := #[48] })) 9, type := 4, pos := "hoardref.go:154", after := #[{ on := 8, ground := Ground.data }, { on := 7, ground := Ground.guard }], guard := some (7, false) }) (v := undef) rfl (by kernel_rfl) (by kernel_rfl) (by kernel_rfl) (fun _ _ _ h => h) (Or.inr ⟨by kernel_rfl, rfl⟩) (by assumption) ?_
     simp only[Act.put,Ak8,Ak9,Ala]
     refine wpAnyH_take (i := 10) (oi := { dst := some 60, op := Op.move (Operand.tmp 59), type := 4, pos := "hoardref.go:154", after := #[{ on := 9, ground := Ground.data }, { on := 7, ground := Ground.chain }, { on := 7, ground := Ground.guard }], guard := some (7, false) }) (v := undef) rfl (by kernel_rfl) (by kernel_rfl) (by kernel_rfl) (fun _ _ _ h => h) (Or.inr ⟨by kernel_rfl, rfl⟩) (by assumption) ?_
     simp only[Act.put,Ak8,Ak9,Ala]
     refine wpAnyH_take (i := 11) (oi := { dst := some 61, op := Op.load 94 (Operand.tmp 1), type := 94, pos := "hoardref.go:154", after := #[{ on := 10, ground := Ground.guard }], guard := some (10, true) }) (v := undef) rfl (by kernel_rfl) (by kernel_rfl) (by kernel_rfl) (fun _ _ _ h => h) (Or.inr ⟨by kernel_rfl, rfl⟩) (by assumption) ?_
     simp only[Act.put,Ak8,Ak9,Ala]
     refine wpAnyH_take (i := 12) (oi := { dst := some 62, op := Op.call { callee := Callee.value (Operand.func 89), args := #[Operand.tmp 61], argTypes := #[94] }, type := 4, pos := "hoardref.go:154", after := #[{ on := 11, ground := Ground.data }, { on := 10, ground := Ground.chain }, { on := 10, ground := Ground.guard }], guard := some (10, true) }) (v := undef) rfl (by kernel_rfl) (by kernel_rfl) (by kernel_rfl) (fun _ _ _ h => h) (Or.inr ⟨by kernel_rfl, rfl⟩) (by assumption) ?_
     simp only[Act.put,Ak8,Ak9,Ala]
     refine wpAnyH_take (i := 13) (oi := { dst := some 63, op := Op.pick (Operand.tmp 60) (Operand.tmp 62) (Operand.const (Value.bool false)), type := 4, pos := "hoardref.go:154", after := #[{ on := 10, ground := Ground.data }, { on := 12, ground := Ground.data }, { on := 7, ground := Ground.guard }, { on := 15, ground := Ground.gcOnly Departure.lateStores }], guard := some (7, false) }) (v := undef) rfl (by kernel_rfl) (by kernel_rfl) (by kernel_rfl) (fun _ _ _ h => h) (Or.inr ⟨by kernel_rfl, rfl⟩) (by assumption) ?_
     simp only[Act.put,Ak8,Ak9,Ala]
     refine wpAnyH_take (i := 14) (oi := { dst := some 64, op := Op.pick (Operand.tmp 57) (Operand.const (Value.bool true)) (Operand.tmp 63), type := 4, pos := "hoardref.go:154", after := #[{ on := 7, ground := Ground.data }, { on := 13, ground := Ground.data }, { on := 15, ground := Ground.gcOnly Departure.lateStores }], guard := none }) (v := .bool true) rfl (by kernel_rfl) (by kernel_rfl) (by kernel_rfl) (fun _ _ _ h => h) (Or.inl ⟨by kernel_rfl, ?_⟩) (by assumption) ?_
     ·intro X hSw;go_simp;try rfl
     simp only[Act.put,Ak8,Ak9,Ala];refine Al0 (rs:=[15]) (by kernel_rfl) (by simp) ?_
     refine AllReadyH.cons (o := { dst := none, op := Op.store 113 (Operand.tmp 2) (Operand.tmp 50), type := 0, pos := "hoardref.go:154", after := #[{ on := 0, ground := Ground.data }, { on := 12, ground := Ground.chain }, { on := 0, ground := Ground.phase }, { on := 1, ground := Ground.textOnly Departure.lateStores }, { on := 2, ground := Ground.textOnly Departure.lateStores }, { on := 3, ground := Ground.textOnly Departure.lateStores }, { on := 4, ground := Ground.textOnly Departure.lateStores }, { on := 5, ground := Ground.textOnly Departure.lateStores }, { on := 6, ground := Ground.textOnly Departure.lateStores }, { on := 7, ground := Ground.textOnly Departure.lateStores }, { on := 8, ground := Ground.textOnly Departure.lateStores }, { on := 9, ground := Ground.textOnly Departure.lateStores }, { on := 10, ground := Ground.textOnly Departure.lateStores }, { on := 11, ground := Ground.textOnly Departure.lateStores }, { on := 12, ground := Ground.textOnly Departure.lateStoresUnsure }, { on := 13, ground := Ground.textOnly Departure.lateStores }, { on := 14, ground := Ground.textOnly Departure.lateStores }], guard := none }) rfl (fun K hK => ?_) AllReadyH.nil
     refine B5 _ (op := { dst := none, op := Op.store 113 (Operand.tmp 2) (Operand.tmp 50), type := 0, pos := "hoardref.go:154", after := #[{ on := 0, ground := Ground.data }, { on := 12, ground := Ground.chain }, { on := 0, ground := Ground.phase }, { on := 1, ground := Ground.textOnly Departure.lateStores }, { on := 2, ground := Ground.textOnly Departure.lateStores }, { on := 3, ground := Ground.textOnly Departure.lateStores }, { on := 4, ground := Ground.textOnly Departure.lateStores }, { on := 5, ground := Ground.textOnly Departure.lateStores }, { on := 6, ground := Ground.textOnly Departure.lateStores }, { on := 7, ground := Ground.textOnly Departure.lateStores }, { on := 8, ground := Ground.textOnly Departure.lateStores }, { on := 9, ground := Ground.textOnly Departure.lateStores }, { on := 10, ground := Ground.textOnly Departure.lateStores }, { on := 11, ground := Ground.textOnly Departure.lateStores }, { on := 12, ground := Ground.textOnly Departure.lateStoresUnsure }, { on := 13, ground := Ground.textOnly Departure.lateStores }, { on := 14, ground := Ground.textOnly Departure.lateStores }], guard := none }) rfl 113 (.tmp 2) (.tmp 50) rfl b1 113 (An (List.replicate 256 [])).toArray TT rfl rfl ((Aa.refl (fun _ => False) W2).drew.row hr1 id) (by rw [hts]; exact Cv) (by rw [hts, List.size_toArray, Bh, List.length_replicate]) ht1 ?_
     intro wz hwz hkz;have hkZ:Aa (fun j=>j=b1) W2 wz:=(Aa.refl (fun j=>j=b1) W2).drew.trans hkz (fun _ _ h=>h);refine hK.out _ _ ⟨hkZ.row hr2 (fun e=>n1 e.symm),hkZ.row hr0 (by have:=HB.out;omega)⟩ (fun hHeld=>?_);clear hK K hkz;refine Al0 (rs:=[16]) (by kernel_rfl) (by simp) ?_
     refine AllReadyH.cons (o := { dst := some 3, op := Op.assign (Operand.tmp 64), type := 4, pos := "hoardref.go:154", after := #[{ on := 14, ground := Ground.data }, { on := 15, ground := Ground.chain }, { on := 0, ground := Ground.phase }, { on := 1, ground := Ground.phase }, { on := 2, ground := Ground.phase }, { on := 3, ground := Ground.phase }, { on := 4, ground := Ground.phase }, { on := 5, ground := Ground.phase }, { on := 6, ground := Ground.phase }, { on := 7, ground := Ground.phase }, { on := 8, ground := Ground.phase }, { on := 9, ground := Ground.phase }, { on := 10, ground := Ground.phase }, { on := 11, ground := Ground.phase }, { on := 12, ground := Ground.phase }, { on := 13, ground := Ground.phase }, { on := 14, ground := Ground.phase }, { on := 15, ground := Ground.phase }], guard := none }) rfl (fun K hK => ?_) AllReadyH.nil
     go_simp;refine hK.out _ _ ⟨hkZ.row hr2 (fun e=>n1 e.symm),hkZ.row hr0 (by have:=HB.out;omega)⟩ (fun hHeld=>?_);clear hK K;refine Anp (by kernel_rfl) ?_ _;have HC9:Aside (Ch L s.out (true)):=HCA.out (true) rfl;go_wp2_with fail;refine Amo (v:= .tuple #[.agg TT,.bool (true)]) (Hw Tryz.results45 _ wz b1 113 _ (0,0) _ rfl hwz Tryz.underlying113 rfl (by rw[hts];exact Cv)) rfl ⟨⟨s.out,true,HI.out.2.2,by rw[HTT.out],HC9.out⟩,?_⟩;exact hkw.trans hkZ (fun j h1 h2=>by have:=HB.out;omega)
    |true=>
     cases z with
     |false=>
      refine Ank (S:=fun X=>X.heap[b2]?=some (.cells TT 113 (0,0))∧X.heap[w.heap.size]?=some (.cells (Ac L).toArray 94 (0,0))) (by kernel_rfl) ?_ (fun hHeld=>?_)
      ·exact⟨hr2,hr0⟩
      refine wpAnyH_take (i := 0) (oi := { dst := some 50, op := Op.load 113 (Operand.tmp 4), type := 113, pos := "hoardref.go:154", after := #[], guard := none }) (v := .agg TT) rfl (by kernel_rfl) (by kernel_rfl) (by kernel_rfl) (fun _ _ _ h => h) (Or.inl ⟨by kernel_rfl, fun X hX => Ev X 113 (.tmp 4) rfl b2 rfl 113 TT (0, 0) _ hX.1 Tryz.underlying113 rfl (by rw [hts]; exact Cv)⟩) (by assumption) ?_
      simp only[Act.put,Ak8,Ak9,Ala]
      refine wpAnyH_take (i := 1) (oi := { dst := some 51, op := Op.move (Operand.tmp 6), type := 4, pos := "hoardref.go:154", after := #[], guard := none }) (v := .bool true) rfl (by kernel_rfl) (by kernel_rfl) (by kernel_rfl) (fun _ _ _ h => h) (Or.inl ⟨by kernel_rfl, ?_⟩) (by assumption) ?_
      ·intro X hSw;go_simp;try rfl
      simp only[Act.put,Ak8,Ak9,Ala]
      refine wpAnyH_take (i := 2) (oi := { dst := some 52, op := Op.unOp UnOp.not 4 (Operand.tmp 51), type := 4, pos := "hoardref.go:154", after := #[{ on := 1, ground := Ground.data }], guard := none }) (v := .bool false) rfl (by kernel_rfl) (by kernel_rfl) (by kernel_rfl) (fun _ _ _ h => h) (Or.inl ⟨by kernel_rfl, ?_⟩) (by assumption) ?_
      ·intro X hSw;go_simp;try rfl
      simp only[Act.put,Ak8,Ak9,Ala]
      refine wpAnyH_take (i := 3) (oi := { dst := some 53, op := Op.move (Operand.tmp 52), type := 4, pos := "hoardref.go:154", after := #[{ on := 2, ground := Ground.data }], guard := none }) (v := .bool false) rfl (by kernel_rfl) (by kernel_rfl) (by kernel_rfl) (fun _ _ _ h => h) (Or.inl ⟨by kernel_rfl, ?_⟩) (by assumption) ?_
      ·intro X hSw;go_simp;try rfl
      simp only[Act.put,Ak8,Ak9,Ala]
      refine wpAnyH_take (i := 4) (oi := { dst := some 54, op := Op.move (Operand.tmp 12), type := 4, pos := "hoardref.go:154", after := #[{ on := 3, ground := Ground.guard }], guard := some (3, false) }) (v := .bool true) rfl (by kernel_rfl) (by kernel_rfl) (by kernel_rfl) (fun _ _ _ h => h) (Or.inl ⟨by kernel_rfl, ?_⟩) (by assumption) ?_
      ·intro X hSw;go_simp;try rfl
      simp only[Act.put,Ak8,Ak9,Ala]
      refine wpAnyH_take (i := 5) (oi := { dst := some 55, op := Op.unOp UnOp.not 4 (Operand.tmp 54), type := 4, pos := "hoardref.go:154", after := #[{ on := 4, ground := Ground.data }, { on := 3, ground := Ground.guard }], guard := some (3, false) }) (v := .bool false) rfl (by kernel_rfl) (by kernel_rfl) (by kernel_rfl) (fun _ _ _ h => h) (Or.inl ⟨by kernel_rfl, ?_⟩) (by assumption) ?_
      ·intro X hSw;go_simp;try rfl
      simp only[Act.put,Ak8,Ak9,Ala]
      refine wpAnyH_take (i := 6) (oi := { dst := some 56, op := Op.pick (Operand.tmp 53) (Operand.const (Value.bool true)) (Operand.tmp 55), type := 4, pos := "hoardref.go:154", after := #[{ on := 3, ground := Ground.data }, { on := 5, ground := Ground.data }], guard := none }) (v := .bool false) rfl (by kernel_rfl) (by kernel_rfl) (by kernel_rfl) (fun _ _ _ h => h) (Or.inl ⟨by kernel_rfl, ?_⟩) (by assumption) ?_
      ·intro X hSw;go_simp;try rfl
      simp only[Act.put,Ak8,Ak9,Ala]
      refine wpAnyH_take (i := 7) (oi := { dst := some 57, op := Op.move (Operand.tmp 56), type := 4, pos := "hoardref.go:154", after := #[{ on := 6, ground := Ground.data }, { on := 3, ground := Ground.chain }], guard := none }) (v := .bool false) rfl (by kernel_rfl) (by kernel_rfl) (by kernel_rfl) (fun _ _ _ h => h) (Or.inl ⟨by kernel_rfl, ?_⟩) (by assumption) ?_
      ·intro X hSw;go_simp;try rfl
      simp only[Act.put,Ak8,Ak9,Ala]
      refine wpAnyH_take (i := 8) (oi := { dst := some 58, op := Op.move (Operand.tmp 5), type := 9, pos := "hoardref.go:154", after := #[{ on := 7, ground := Ground.guard }], guard := some (7, false) }) (v := .string S) rfl (by kernel_rfl) (by kernel_rfl) (by kernel_rfl) (fun _ _ _ h => h) (Or.inl ⟨by kernel_rfl, ?_⟩) (by assumption) ?_
      ·intro X hSw;go_simp;try rfl
      simp only[Act.put,Ak8,Ak9,Ala]
      refine wpAnyH_take (i := 9) (oi := { dst := some 59, op := Op.binOp BinOp.eql 9 (Operand.tmp 58) (Operand.const (Value.string { data := #[48] })) 9, type := 4, pos := "hoardref.go:154", after := #[{ on := 8, ground := Ground.data }, { on := 7, ground := Ground.guard }], guard := some (7, false) }) (v := .bool false) rfl (by kernel_rfl) (by kernel_rfl) (by kernel_rfl) (fun _ _ _ h => h) (Or.inl ⟨by kernel_rfl, ?_⟩) (by assumption) ?_
      ·intro X hSw;go_simp;try(first|rw[hz]|(simp only[hz]))
      simp only[Act.put,Ak8,Ak9,Ala]
      refine wpAnyH_take (i := 10) (oi := { dst := some 60, op := Op.move (Operand.tmp 59), type := 4, pos := "hoardref.go:154", after := #[{ on := 9, ground := Ground.data }, { on := 7, ground := Ground.chain }, { on := 7, ground := Ground.guard }], guard := some (7, false) }) (v := .bool false) rfl (by kernel_rfl) (by kernel_rfl) (by kernel_rfl) (fun _ _ _ h => h) (Or.inl ⟨by kernel_rfl, ?_⟩) (by assumption) ?_
      ·intro X hSw;go_simp;try rfl
      simp only[Act.put,Ak8,Ak9,Ala]
      refine wpAnyH_take (i := 11) (oi := { dst := some 61, op := Op.load 94 (Operand.tmp 1), type := 94, pos := "hoardref.go:154", after := #[{ on := 10, ground := Ground.guard }], guard := some (10, true) }) (v := undef) rfl (by kernel_rfl) (by kernel_rfl) (by kernel_rfl) (fun _ _ _ h => h) (Or.inr ⟨by kernel_rfl, rfl⟩) (by assumption) ?_
      simp only[Act.put,Ak8,Ak9,Ala]
      refine wpAnyH_take (i := 12) (oi := { dst := some 62, op := Op.call { callee := Callee.value (Operand.func 89), args := #[Operand.tmp 61], argTypes := #[94] }, type := 4, pos := "hoardref.go:154", after := #[{ on := 11, ground := Ground.data }, { on := 10, ground := Ground.chain }, { on := 10, ground := Ground.guard }], guard := some (10, true) }) (v := undef) rfl (by kernel_rfl) (by kernel_rfl) (by kernel_rfl) (fun _ _ _ h => h) (Or.inr ⟨by kernel_rfl, rfl⟩) (by assumption) ?_
      simp only[Act.put,Ak8,Ak9,Ala]
      refine wpAnyH_take (i := 13) (oi := { dst := some 63, op := Op.pick (Operand.tmp 60) (Operand.tmp 62) (Operand.const (Value.bool false)), type := 4, pos := "hoardref.go:154", after := #[{ on := 10, ground := Ground.data }, { on := 12, ground := Ground.data }, { on := 7, ground := Ground.guard }, { on := 15, ground := Ground.gcOnly Departure.lateStores }], guard := some (7, false) }) (v := .bool false) rfl (by kernel_rfl) (by kernel_rfl) (by kernel_rfl) (fun _ _ _ h => h) (Or.inl ⟨by kernel_rfl, ?_⟩) (by assumption) ?_
      ·intro X hSw;go_simp;try rfl
      simp only[Act.put,Ak8,Ak9,Ala]
      refine wpAnyH_take (i := 14) (oi := { dst := some 64, op := Op.pick (Operand.tmp 57) (Operand.const (Value.bool true)) (Operand.tmp 63), type := 4, pos := "hoardref.go:154", after := #[{ on := 7, ground := Ground.data }, { on := 13, ground := Ground.data }, { on := 15, ground := Ground.gcOnly Departure.lateStores }], guard := none }) (v := .bool false) rfl (by kernel_rfl) (by kernel_rfl) (by kernel_rfl) (fun _ _ _ h => h) (Or.inl ⟨by kernel_rfl, ?_⟩) (by assumption) ?_
      ·intro X hSw;go_simp;try rfl
      simp only[Act.put,Ak8,Ak9,Ala];refine Al0 (rs:=[15]) (by kernel_rfl) (by simp) ?_
      refine AllReadyH.cons (o := { dst := none, op := Op.store 113 (Operand.tmp 2) (Operand.tmp 50), type := 0, pos := "hoardref.go:154", after := #[{ on := 0, ground := Ground.data }, { on := 12, ground := Ground.chain }, { on := 0, ground := Ground.phase }, { on := 1, ground := Ground.textOnly Departure.lateStores }, { on := 2, ground := Ground.textOnly Departure.lateStores }, { on := 3, ground := Ground.textOnly Departure.lateStores }, { on := 4, ground := Ground.textOnly Departure.lateStores }, { on := 5, ground := Ground.textOnly Departure.lateStores }, { on := 6, ground := Ground.textOnly Departure.lateStores }, { on := 7, ground := Ground.textOnly Departure.lateStores }, { on := 8, ground := Ground.textOnly Departure.lateStores }, { on := 9, ground := Ground.textOnly Departure.lateStores }, { on := 10, ground := Ground.textOnly Departure.lateStores }, { on := 11, ground := Ground.textOnly Departure.lateStores }, { on := 12, ground := Ground.textOnly Departure.lateStoresUnsure }, { on := 13, ground := Ground.textOnly Departure.lateStores }, { on := 14, ground := Ground.textOnly Departure.lateStores }], guard := none }) rfl (fun K hK => ?_) AllReadyH.nil
      refine B5 _ (op := { dst := none, op := Op.store 113 (Operand.tmp 2) (Operand.tmp 50), type := 0, pos := "hoardref.go:154", after := #[{ on := 0, ground := Ground.data }, { on := 12, ground := Ground.chain }, { on := 0, ground := Ground.phase }, { on := 1, ground := Ground.textOnly Departure.lateStores }, { on := 2, ground := Ground.textOnly Departure.lateStores }, { on := 3, ground := Ground.textOnly Departure.lateStores }, { on := 4, ground := Ground.textOnly Departure.lateStores }, { on := 5, ground := Ground.textOnly Departure.lateStores }, { on := 6, ground := Ground.textOnly Departure.lateStores }, { on := 7, ground := Ground.textOnly Departure.lateStores }, { on := 8, ground := Ground.textOnly Departure.lateStores }, { on := 9, ground := Ground.textOnly Departure.lateStores }, { on := 10, ground := Ground.textOnly Departure.lateStores }, { on := 11, ground := Ground.textOnly Departure.lateStores }, { on := 12, ground := Ground.textOnly Departure.lateStoresUnsure }, { on := 13, ground := Ground.textOnly Departure.lateStores }, { on := 14, ground := Ground.textOnly Departure.lateStores }], guard := none }) rfl 113 (.tmp 2) (.tmp 50) rfl b1 113 (An (List.replicate 256 [])).toArray TT rfl rfl ((Aa.refl (fun _ => False) W2).drew.row hr1 id) (by rw [hts]; exact Cv) (by rw [hts, List.size_toArray, Bh, List.length_replicate]) ht1 ?_
      intro wz hwz hkz;have hkZ:Aa (fun j=>j=b1) W2 wz:=(Aa.refl (fun j=>j=b1) W2).drew.trans hkz (fun _ _ h=>h);refine hK.out _ _ ⟨hkZ.row hr2 (fun e=>n1 e.symm),hkZ.row hr0 (by have:=HB.out;omega)⟩ (fun hHeld=>?_);clear hK K hkz;refine Al0 (rs:=[16]) (by kernel_rfl) (by simp) ?_
      refine AllReadyH.cons (o := { dst := some 3, op := Op.assign (Operand.tmp 64), type := 4, pos := "hoardref.go:154", after := #[{ on := 14, ground := Ground.data }, { on := 15, ground := Ground.chain }, { on := 0, ground := Ground.phase }, { on := 1, ground := Ground.phase }, { on := 2, ground := Ground.phase }, { on := 3, ground := Ground.phase }, { on := 4, ground := Ground.phase }, { on := 5, ground := Ground.phase }, { on := 6, ground := Ground.phase }, { on := 7, ground := Ground.phase }, { on := 8, ground := Ground.phase }, { on := 9, ground := Ground.phase }, { on := 10, ground := Ground.phase }, { on := 11, ground := Ground.phase }, { on := 12, ground := Ground.phase }, { on := 13, ground := Ground.phase }, { on := 14, ground := Ground.phase }, { on := 15, ground := Ground.phase }], guard := none }) rfl (fun K hK => ?_) AllReadyH.nil
      go_simp;refine hK.out _ _ ⟨hkZ.row hr2 (fun e=>n1 e.symm),hkZ.row hr0 (by have:=HB.out;omega)⟩ (fun hHeld=>?_);clear hK K;refine Anp (by kernel_rfl) ?_ _;have HC9:Aside (Ch L s.out (false)):=HCA.out (false) rfl;go_wp2_with fail;refine Amo (v:= .tuple #[.agg TT,.bool (false)]) (Hw Tryz.results45 _ wz b1 113 _ (0,0) _ rfl hwz Tryz.underlying113 rfl (by rw[hts];exact Cv)) rfl ⟨⟨s.out,false,HI.out.2.2,by rw[HTT.out],HC9.out⟩,?_⟩;exact hkw.trans hkZ (fun j h1 h2=>by have:=HB.out;omega)
     |true=>
      refine Ank (S:=fun X=>X.heap[b2]?=some (.cells TT 113 (0,0))∧X.heap[w.heap.size]?=some (.cells (Ac L).toArray 94 (0,0))) (by kernel_rfl) ?_ (fun hHeld=>?_)
      ·exact⟨hr2,hr0⟩
      refine wpAnyH_take (i := 0) (oi := { dst := some 50, op := Op.load 113 (Operand.tmp 4), type := 113, pos := "hoardref.go:154", after := #[], guard := none }) (v := .agg TT) rfl (by kernel_rfl) (by kernel_rfl) (by kernel_rfl) (fun _ _ _ h => h) (Or.inl ⟨by kernel_rfl, fun X hX => Ev X 113 (.tmp 4) rfl b2 rfl 113 TT (0, 0) _ hX.1 Tryz.underlying113 rfl (by rw [hts]; exact Cv)⟩) (by assumption) ?_
      simp only[Act.put,Ak8,Ak9,Ala]
      refine wpAnyH_take (i := 1) (oi := { dst := some 51, op := Op.move (Operand.tmp 6), type := 4, pos := "hoardref.go:154", after := #[], guard := none }) (v := .bool true) rfl (by kernel_rfl) (by kernel_rfl) (by kernel_rfl) (fun _ _ _ h => h) (Or.inl ⟨by kernel_rfl, ?_⟩) (by assumption) ?_
      ·intro X hSw;go_simp;try rfl
      simp only[Act.put,Ak8,Ak9,Ala]
      refine wpAnyH_take (i := 2) (oi := { dst := some 52, op := Op.unOp UnOp.not 4 (Operand.tmp 51), type := 4, pos := "hoardref.go:154", after := #[{ on := 1, ground := Ground.data }], guard := none }) (v := .bool false) rfl (by kernel_rfl) (by kernel_rfl) (by kernel_rfl) (fun _ _ _ h => h) (Or.inl ⟨by kernel_rfl, ?_⟩) (by assumption) ?_
      ·intro X hSw;go_simp;try rfl
      simp only[Act.put,Ak8,Ak9,Ala]
      refine wpAnyH_take (i := 3) (oi := { dst := some 53, op := Op.move (Operand.tmp 52), type := 4, pos := "hoardref.go:154", after := #[{ on := 2, ground := Ground.data }], guard := none }) (v := .bool false) rfl (by kernel_rfl) (by kernel_rfl) (by kernel_rfl) (fun _ _ _ h => h) (Or.inl ⟨by kernel_rfl, ?_⟩) (by assumption) ?_
      ·intro X hSw;go_simp;try rfl
      simp only[Act.put,Ak8,Ak9,Ala]
      refine wpAnyH_take (i := 4) (oi := { dst := some 54, op := Op.move (Operand.tmp 12), type := 4, pos := "hoardref.go:154", after := #[{ on := 3, ground := Ground.guard }], guard := some (3, false) }) (v := .bool true) rfl (by kernel_rfl) (by kernel_rfl) (by kernel_rfl) (fun _ _ _ h => h) (Or.inl ⟨by kernel_rfl, ?_⟩) (by assumption) ?_
      ·intro X hSw;go_simp;try rfl
      simp only[Act.put,Ak8,Ak9,Ala]
      refine wpAnyH_take (i := 5) (oi := { dst := some 55, op := Op.unOp UnOp.not 4 (Operand.tmp 54), type := 4, pos := "hoardref.go:154", after := #[{ on := 4, ground := Ground.data }, { on := 3, ground := Ground.guard }], guard := some (3, false) }) (v := .bool false) rfl (by kernel_rfl) (by kernel_rfl) (by kernel_rfl) (fun _ _ _ h => h) (Or.inl ⟨by kernel_rfl, ?_⟩) (by assumption) ?_
      ·intro X hSw;go_simp;try rfl
      simp only[Act.put,Ak8,Ak9,Ala]
      refine wpAnyH_take (i := 6) (oi := { dst := some 56, op := Op.pick (Operand.tmp 53) (Operand.const (Value.bool true)) (Operand.tmp 55), type := 4, pos := "hoardref.go:154", after := #[{ on := 3, ground := Ground.data }, { on := 5, ground := Ground.data }], guard := none }) (v := .bool false) rfl (by kernel_rfl) (by kernel_rfl) (by kernel_rfl) (fun _ _ _ h => h) (Or.inl ⟨by kernel_rfl, ?_⟩) (by assumption) ?_
      ·intro X hSw;go_simp;try rfl
      simp only[Act.put,Ak8,Ak9,Ala]
      refine wpAnyH_take (i := 7) (oi := { dst := some 57, op := Op.move (Operand.tmp 56), type := 4, pos := "hoardref.go:154", after := #[{ on := 6, ground := Ground.data }, { on := 3, ground := Ground.chain }], guard := none }) (v := .bool false) rfl (by kernel_rfl) (by kernel_rfl) (by kernel_rfl) (fun _ _ _ h => h) (Or.inl ⟨by kernel_rfl, ?_⟩) (by assumption) ?_
      ·intro X hSw;go_simp;try rfl
      simp only[Act.put,Ak8,Ak9,Ala]
      refine wpAnyH_take (i := 8) (oi := { dst := some 58, op := Op.move (Operand.tmp 5), type := 9, pos := "hoardref.go:154", after := #[{ on := 7, ground := Ground.guard }], guard := some (7, false) }) (v := .string S) rfl (by kernel_rfl) (by kernel_rfl) (by kernel_rfl) (fun _ _ _ h => h) (Or.inl ⟨by kernel_rfl, ?_⟩) (by assumption) ?_
      ·intro X hSw;go_simp;try rfl
      simp only[Act.put,Ak8,Ak9,Ala]
      refine wpAnyH_take (i := 9) (oi := { dst := some 59, op := Op.binOp BinOp.eql 9 (Operand.tmp 58) (Operand.const (Value.string { data := #[48] })) 9, type := 4, pos := "hoardref.go:154", after := #[{ on := 8, ground := Ground.data }, { on := 7, ground := Ground.guard }], guard := some (7, false) }) (v := .bool true) rfl (by kernel_rfl) (by kernel_rfl) (by kernel_rfl) (fun _ _ _ h => h) (Or.inl ⟨by kernel_rfl, ?_⟩) (by assumption) ?_
      ·intro X hSw;go_simp;try(first|rw[hz]|(simp only[hz]))
      simp only[Act.put,Ak8,Ak9,Ala]
      refine wpAnyH_take (i := 10) (oi := { dst := some 60, op := Op.move (Operand.tmp 59), type := 4, pos := "hoardref.go:154", after := #[{ on := 9, ground := Ground.data }, { on := 7, ground := Ground.chain }, { on := 7, ground := Ground.guard }], guard := some (7, false) }) (v := .bool true) rfl (by kernel_rfl) (by kernel_rfl) (by kernel_rfl) (fun _ _ _ h => h) (Or.inl ⟨by kernel_rfl, ?_⟩) (by assumption) ?_
      ·intro X hSw;go_simp;try rfl
      simp only[Act.put,Ak8,Ak9,Ala]
      refine wpAnyH_take (i := 11) (oi := { dst := some 61, op := Op.load 94 (Operand.tmp 1), type := 94, pos := "hoardref.go:154", after := #[{ on := 10, ground := Ground.guard }], guard := some (10, true) }) (v := .agg (Ac L).toArray) rfl (by kernel_rfl) (by kernel_rfl) (by kernel_rfl) (fun _ _ _ h => h) (Or.inl ⟨by kernel_rfl, fun X hX => Ev X 94 (.tmp 1) rfl w.heap.size rfl 94 (Ac L).toArray (0, 0) _ hX.2 Tryz.underlying94 rfl (by rw [A2, HL.out]; exact Dp)⟩) (by assumption) ?_
      simp only[Act.put,Ak8,Ak9,Ala];refine Al0 (rs:=[12]) (by kernel_rfl) (by simp) ?_
      refine AllReadyH.cons (o := { dst := some 62, op := Op.call { callee := Callee.value (Operand.func 89), args := #[Operand.tmp 61], argTypes := #[94] }, type := 4, pos := "hoardref.go:154", after := #[{ on := 11, ground := Ground.data }, { on := 10, ground := Ground.chain }, { on := 10, ground := Ground.guard }], guard := some (10, true) }) rfl (fun K hK => ?_) AllReadyH.nil
      go_simp;refine(HQ.out _).mono ?_;rintro e wa ⟨rfl,hka⟩;have hkA:Apd W2 wa:=(Aa.refl (fun _=>False) W2).drew.trans hka (fun _ _ h=>h);refine hK.out _ _ ⟨hkA.row hr2 id,hkA.row hr0 id⟩ (fun hHeld=>?_);clear hK K hka
      refine wpAnyH_take (i := 13) (oi := { dst := some 63, op := Op.pick (Operand.tmp 60) (Operand.tmp 62) (Operand.const (Value.bool false)), type := 4, pos := "hoardref.go:154", after := #[{ on := 10, ground := Ground.data }, { on := 12, ground := Ground.data }, { on := 7, ground := Ground.guard }, { on := 15, ground := Ground.gcOnly Departure.lateStores }], guard := some (7, false) }) (v := .bool q) rfl (by kernel_rfl) (by kernel_rfl) (by kernel_rfl) (fun _ _ _ h => h) (Or.inl ⟨by kernel_rfl, ?_⟩) (by assumption) ?_
      ·intro X hSw;go_simp;try rfl
      simp only[Act.put,Ak8,Ak9,Ala]
      refine wpAnyH_take (i := 14) (oi := { dst := some 64, op := Op.pick (Operand.tmp 57) (Operand.const (Value.bool true)) (Operand.tmp 63), type := 4, pos := "hoardref.go:154", after := #[{ on := 7, ground := Ground.data }, { on := 13, ground := Ground.data }, { on := 15, ground := Ground.gcOnly Departure.lateStores }], guard := none }) (v := .bool q) rfl (by kernel_rfl) (by kernel_rfl) (by kernel_rfl) (fun _ _ _ h => h) (Or.inl ⟨by kernel_rfl, ?_⟩) (by assumption) ?_
      ·intro X hSw;go_simp;try rfl
      simp only[Act.put,Ak8,Ak9,Ala];refine Al0 (rs:=[15]) (by kernel_rfl) (by simp) ?_
      refine AllReadyH.cons (o := { dst := none, op := Op.store 113 (Operand.tmp 2) (Operand.tmp 50), type := 0, pos := "hoardref.go:154", after := #[{ on := 0, ground := Ground.data }, { on := 12, ground := Ground.chain }, { on := 0, ground := Ground.phase }, { on := 1, ground := Ground.textOnly Departure.lateStores }, { on := 2, ground := Ground.textOnly Departure.lateStores }, { on := 3, ground := Ground.textOnly Departure.lateStores }, { on := 4, ground := Ground.textOnly Departure.lateStores }, { on := 5, ground := Ground.textOnly Departure.lateStores }, { on := 6, ground := Ground.textOnly Departure.lateStores }, { on := 7, ground := Ground.textOnly Departure.lateStores }, { on := 8, ground := Ground.textOnly Departure.lateStores }, { on := 9, ground := Ground.textOnly Departure.lateStores }, { on := 10, ground := Ground.textOnly Departure.lateStores }, { on := 11, ground := Ground.textOnly Departure.lateStores }, { on := 12, ground := Ground.textOnly Departure.lateStoresUnsure }, { on := 13, ground := Ground.textOnly Departure.lateStores }, { on := 14, ground := Ground.textOnly Departure.lateStores }], guard := none }) rfl (fun K hK => ?_) AllReadyH.nil
      refine B5 _ (op := { dst := none, op := Op.store 113 (Operand.tmp 2) (Operand.tmp 50), type := 0, pos := "hoardref.go:154", after := #[{ on := 0, ground := Ground.data }, { on := 12, ground := Ground.chain }, { on := 0, ground := Ground.phase }, { on := 1, ground := Ground.textOnly Departure.lateStores }, { on := 2, ground := Ground.textOnly Departure.lateStores }, { on := 3, ground := Ground.textOnly Departure.lateStores }, { on := 4, ground := Ground.textOnly Departure.lateStores }, { on := 5, ground := Ground.textOnly Departure.lateStores }, { on := 6, ground := Ground.textOnly Departure.lateStores }, { on := 7, ground := Ground.textOnly Departure.lateStores }, { on := 8, ground := Ground.textOnly Departure.lateStores }, { on := 9, ground := Ground.textOnly Departure.lateStores }, { on := 10, ground := Ground.textOnly Departure.lateStores }, { on := 11, ground := Ground.textOnly Departure.lateStores }, { on := 12, ground := Ground.textOnly Departure.lateStoresUnsure }, { on := 13, ground := Ground.textOnly Departure.lateStores }, { on := 14, ground := Ground.textOnly Departure.lateStores }], guard := none }) rfl 113 (.tmp 2) (.tmp 50) rfl b1 113 (An (List.replicate 256 [])).toArray TT rfl rfl (hkA.row hr1 id) (by rw [hts]; exact Cv) (by rw [hts, List.size_toArray, Bh, List.length_replicate]) ht1 ?_
      intro wz hwz hkz;have hkZ:Aa (fun j=>j=b1) W2 wz:=(hkA.wider (fun _ _ h=>h.elim)).trans hkz (fun _ _ h=>h);refine hK.out _ _ ⟨hkZ.row hr2 (fun e=>n1 e.symm),hkZ.row hr0 (by have:=HB.out;omega)⟩ (fun hHeld=>?_);clear hK K hkz;refine Al0 (rs:=[16]) (by kernel_rfl) (by simp) ?_
      refine AllReadyH.cons (o := { dst := some 3, op := Op.assign (Operand.tmp 64), type := 4, pos := "hoardref.go:154", after := #[{ on := 14, ground := Ground.data }, { on := 15, ground := Ground.chain }, { on := 0, ground := Ground.phase }, { on := 1, ground := Ground.phase }, { on := 2, ground := Ground.phase }, { on := 3, ground := Ground.phase }, { on := 4, ground := Ground.phase }, { on := 5, ground := Ground.phase }, { on := 6, ground := Ground.phase }, { on := 7, ground := Ground.phase }, { on := 8, ground := Ground.phase }, { on := 9, ground := Ground.phase }, { on := 10, ground := Ground.phase }, { on := 11, ground := Ground.phase }, { on := 12, ground := Ground.phase }, { on := 13, ground := Ground.phase }, { on := 14, ground := Ground.phase }, { on := 15, ground := Ground.phase }], guard := none }) rfl (fun K hK => ?_) AllReadyH.nil
      go_simp;refine hK.out _ _ ⟨hkZ.row hr2 (fun e=>n1 e.symm),hkZ.row hr0 (by have:=HB.out;omega)⟩ (fun hHeld=>?_);clear hK K;refine Anp (by kernel_rfl) ?_ _;have HC9:Aside (Ch L s.out (q)):=HCA.out (q) rfl;go_wp2_with fail;refine Amo (v:= .tuple #[.agg TT,.bool (q)]) (Hw Tryz.results45 _ wz b1 113 _ (0,0) _ rfl hwz Tryz.underlying113 rfl (by rw[hts];exact Cv)) rfl ⟨⟨s.out,q,HI.out.2.2,by rw[HTT.out],HC9.out⟩,?_⟩;exact hkw.trans hkZ (fun j h1 h2=>by have:=HB.out;omega)
end Go.Proofs.YtegnkfdbmmndaaaGreat
