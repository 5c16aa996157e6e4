import Derived.Test.YtegnkfdbmmndaaaGreatJ34

set_option maxHeartbeats 8000000
namespace Go.Proofs.YtegnkfdbmmndaaaGreat
open Hm Go.Proofs.Tryz Go.RowKit
namespace Hm
structure CS where
 o:List (List Bool)
 code:List Bool
 on:Bool
def K1(n:Nat)(R:List Bool):List Bool:=List.replicate (n-R.length) false++R
theorem Akh(n:Nat)(R:List Bool)(h:R.length<n):K1 n (false::R)=K1 n R:=by
 unfold K1;rw[An8,show n-R.length=(n-(R.length+1))+1 from by omega,Aq1,An4];rfl
theorem Aki(n:Nat)(R:List Bool)(h:R.length=n):K1 n R=R:=by
 unfold K1;rw[h,Aoy];rfl
theorem Vo: ∀R R',Fb R=some R'→R'.length=R.length
 |[],R',h=>by simp[Fb]at h
 |false::t,R',h=>by simp[Fb]at h;rw[←h];rfl
 |true::t,R',h=>by
  simp only[Fb,Option.map_eq_some_iff]at h;obtain⟨x,a,rfl⟩:=h;rw[An8,An8,Vo t x a]
def Me(s:CS):Option (List Bool):=if s.on then Fb s.code else some s.code
theorem Aed(s:CS)(R:List Bool)(h:Me s=some R):R.length=s.code.length:=by
 unfold Me at h;split at h
 ·exact Vo _ _ h
 ·rw[An0 h]
def Oj(L:Ard)(n c:Nat)(s:CS):Option CS:=
 if L.getD c 0=n then(Me s).map fun R=>⟨s.o.set c (K1 n R).reverse,K1 n R,true⟩else some s
def cTo(L:Ard):Nat→Option CS
 |0=>some ⟨List.replicate 256 [],[],false⟩
 |t+1=>(cTo L t).bind (Oj L (t/256+1) (t%256))
theorem Al4(L:Ard)(n c:Nat)(s:CS)(a:c<256)(hn:0<n)(h:cTo L ((n-1)*256+c)=some s):cTo L ((n-1)*256+(c+1))=Oj L n c s:=by
 rw[←Apj,cTo,h,Option.bind_some,show((n-1)*256+c)/256+1=n from by omega,show((n-1)*256+c)%256=c from by omega]
theorem Al5(L:Ard)(t k:Nat)(h:cTo L t=none):cTo L (t+k)=none:=by
 induction k with
 |zero=>exact h
 |succ k ih=>rw[←Apj,cTo,ih];rfl
def Y9(r:Option CS)(one:Bool)(o:List (List Bool))(ok:Bool):Prop:=match r with
 |none=>ok=false
 |some s=>o=s.o∧ok=(!s.on||((Fb s.code).isNone||(s.code==[false]&&one)))
@[irreducible] def Du (L : Ard) (o : List (List Bool)) (ok : Bool) : Prop := Y9 (cTo L 65280) (decide ((Ai L).length = 1)) o ok
theorem Du.of{L:Ard}{o:List (List Bool)}{ok:Bool}(r:Option CS)(a:cTo L 65280=r)(h:Y9 r (decide ((Ai L).length=1)) o ok):Du L o ok:=by
 unfold Du;rw[a];exact h
theorem Du.to{L:Ard}{o:List (List Bool)}{ok:Bool}(r:Option CS)(a:cTo L 65280=r)(h:Du L o ok):Y9 r (decide ((Ai L).length=1)) o ok:=by
 unfold Du at h;rw[a]at h;exact h
def Av(l:List (List Bool)):Are:=l.map fun b=> .string ⟨(Af b).toArray⟩
theorem Bz(l:List (List Bool)):(Av l).length=l.length:=by simp[Av]
theorem Mf(l:List (List Bool)):(Av l).toArray.all (·.oneCell')=true:=by
 rw[Apw];intro v a;have:v∈Av l:=by simpa using a
 unfold Av at this;obtain⟨b,_,rfl⟩:=List.mem_map.1 this;rfl
theorem Af8(R:List Bool):Af (false::R).reverse=Af R.reverse++[48]:=by simp[Af]
theorem Amr(R:List Bool):(R==[false])=((Af R.reverse).toArray.toList==[48]):=by
 match R with
 |[]=>rfl
 |[b]=>cases b<;>rfl
 |a::b::t=>
  have h1:((a::b::t)==[false])=false:=by simp
  have h2:((Af (a::b::t).reverse).toArray.toList==[48])=false:=by
   rw[Aod];intro e;have:=congrArg List.length e;simp[Af]at this
  rw[h1,h2]
theorem Af9(R:List Bool):(Af R.reverse).toArray.size=R.length:=by simp[Af]
end Hm
def TR(w:World)(g:Nat)(l:List (List Bool)):Prop:=w.heap[g]?=some (.cells (Av l).toArray 113 (0,0))
theorem TR.cell{w:World}{g:Nat}{l:List (List Bool)}(h:TR w g l){i:Nat}(hi:i<l.length):w.cell? ⟨g,i,none⟩=some (.string ⟨(Af (l.getD i [])).toArray⟩):=by
 rw[Am7 _ _ i _ _ _ h];simp[Av,List.getD_eq_getElem?_getD,List.getElem?_eq_getElem hi]
theorem TR.free{w:World}{g:Nat}{l:List (List Bool)}(h:TR w g l)(i:Nat):w.frozen? ⟨g,i,none⟩=false:=Ang _ _ i _ _ h
theorem TR.set{w:World}{g:Nat}{l:List (List Bool)}(h:TR w g l)(i:Nat)(x:List Bool):TR (w.setCell ⟨g,i,none⟩ (.string ⟨(Af x).toArray⟩)) g (l.set i x):=by
 have h2:=Anb w g i _ _ (.string ⟨(Af x).toArray⟩) h;unfold TR;rw[h2];congr 2;apply Api;simp[Av,List.map_set]
theorem TR.kept{S:Nat→Prop}{w w':World}{g:Nat}{l:List (List Bool)}(h:TR w g l)(hk:Aa S w w')(hn: ¬S g):TR w' g l:=hk.row h hn
theorem T7:Tryz.zeroCells113=(Av (List.replicate 256 [])).toArray:=by kernel_rfl
theorem Dm:(prog.info? 113).map (·.size)=some 256:=by kernel_rfl
theorem If{P:Program}{fn:Func}{p u:Tmp}{ty:TypeId}(h:fn.results= #[.cell p ty,.tmp u])(tmps:Array Value)(w:World)(g:Nat)(t:TypeId)(cs:Array Value)(fr:Nat×Nat)(d:TypeDesc)
  (b:tmps.getD p undef= .pointer (some ⟨g,0,none⟩)) (a:w.heap[g]?=some (.cells cs t fr))
  (c:P.underlying ty=some d) (hd:(match d with| .struct _| .array _ _=>true|_=>false)=true) (hi:(P.info? ty).map (·.size)=some cs.size):
  (results fn tmps).run P w= .ok (.tuple #[.agg cs,tmps.getD u undef]) w:=by
 rw[results_cell_tmp h,b];simp[asAddr,run_loadVar_row w g t ty cs fr d a c hd hi,Result.andThen]
set_option maxRecDepth 20000 in
theorem Aee(L:Ard)(w:World)(hL:L.length=256)(hx: ∀x∈L,x≤100000):
  Calls prog 45 #[.agg (Ad L).toArray] w fun e w'=>(∃(o:List (List Bool)) (ok:Bool),o.length=256∧e= .returned (.tuple #[.agg (Av o).toArray,.bool ok])∧Du L o ok)∧Ara w w':=by
 have au: ∀b:Nat,b<256→L.getD b 0≤100000:=fun b hb=>by
  rw[Am4,Am5 (show b<L.length from by omega)];exact hx _ (Anm _)
 have HG:Aside (∀b:Nat,b<256→L.getD b 0≤100000):=au;have HO:Aside (∀W,Calls prog 89 #[.agg (Ad L).toArray] W fun e w'=>e= .returned (.bool (decide ((Ai L).length=1)))∧Ara W w'):=fun W=>Aix L W hL hx;have HL:Aside (L.length=256):=hL;clear au hx hL
 go_enter func45,ntmps45
 go_upto_region 2 with fail
 have g0:AR (((w.alloc (.cells (Ad L).toArray 94)).alloc (.cells Tryz.zeroCells113 113)).alloc (.cells Tryz.zeroCells113 113)) w.heap.size L:=
  (((Aa.refl (fun _=>False) (w.alloc (.cells (Ad L).toArray 94))).alloc _).alloc _).row (Anj w _) id
 have g1:TR (((w.alloc (.cells (Ad L).toArray 94)).alloc (.cells Tryz.zeroCells113 113)).alloc (.cells Tryz.zeroCells113 113)) (w.heap.size+1) (List.replicate 256 []):=by
  unfold TR;rw[←T7];exact((Aa.refl (fun _=>False) ((w.alloc (.cells (Ad L).toArray 94)).alloc (.cells Tryz.zeroCells113 113))).alloc _).row (Apc w _ _) id
 have g2:TR (((w.alloc (.cells (Ad L).toArray 94)).alloc (.cells Tryz.zeroCells113 113)).alloc (.cells Tryz.zeroCells113 113)) (w.heap.size+1+1) (List.replicate 256 []):=by
  unfold TR;rw[←T7];have:=Anj ((w.alloc (.cells (Ad L).toArray 94)).alloc (.cells Tryz.zeroCells113 113)) (.cells Tryz.zeroCells113 113);simpa using this
 have av:Ara w (((w.alloc (.cells (Ad L).toArray 94)).alloc (.cells Tryz.zeroCells113 113)).alloc (.cells Tryz.zeroCells113 113)):=(((Aa.refl _ _).alloc _).alloc _).alloc _;generalize(((w.alloc (.cells (Ad L).toArray 94)).alloc (.cells Tryz.zeroCells113 113)).alloc (.cells Tryz.zeroCells113 113))=W at*;obtain⟨b2,al⟩: ∃b,b=w.heap.size+1+1:=⟨_,rfl⟩;rw[←al]at g2⊢;obtain⟨b1,ak⟩: ∃b,b=w.heap.size+1:=⟨_,rfl⟩;rw[←ak]at g1⊢;have n0:w.heap.size≠b2:=by omega
 have n1:b1≠b2:=by omega
 have F:Aside (b1=w.heap.size+1∧b2=w.heap.size+1+1):=⟨ak,al⟩;have HW:Aside (AR W w.heap.size L∧TR W b1 (List.replicate 256 [])∧TR W b2 (List.replicate 256 [])∧Ara w W):=⟨g0,g1,g2,av⟩;clear ak al g0 g1 g2 av;go_wp2_with fail
 go_loopw[5,6,7] (fun vc vs vn wr=> ∃(n:Nat) (s:Hm.CS),1≤n∧n≤256∧vn= .int .i64 n∧vs= .bool s.on∧vc= .string ⟨(Af s.code.reverse).toArray⟩∧Hid (Hm.cTo L ((n-1)*256)=some s∧s.code.length<n∧s.o.length=256)∧TR wr b2 s.o∧Aa (fun j=>j=b2) W wr) (fun _ _ vn _=>256-(intOf vn).toNat)
 case atStart=>exact⟨1,⟨List.replicate 256 [],[],false⟩,by omega,by omega,rfl,rfl,rfl,⟨rfl,Nat.zero_lt_one,Ani⟩,HW.o.2.2.1,Aa.refl _ _⟩
 case round=>
  obtain⟨n,s,aQ,aR,rfl,rfl,rfl,Q,ag,H⟩:=hrel;have HR:Aside (TR wr b2 s.o∧Aa (fun j=>j=b2) W wr):=⟨ag,H⟩;have aN:=Q.o.2.1;clear ag H
  by_cases aP:n<256
  ·have N:decide ((n:Int)<256)=true:=Ana (by omega);go_wp2_with fail
   go_loopw[5,6,8] (fun vc vs vi wx=> ∃(c:Nat) (s1:Hm.CS),c≤256∧vi= .int .i64 c∧vs= .bool s1.on∧vc= .string ⟨(Af s1.code.reverse).toArray⟩∧Hid (Hm.cTo L ((n-1)*256+c)=some s1∧s1.code.length≤n∧s1.o.length=256)∧TR wx b2 s1.o∧Aa (fun j=>j=b2) W wx) (fun _ _ vi _=>256-(intOf vi).toNat)
   case atStart=>exact⟨0,s,by omega,rfl,rfl,rfl,⟨by rw[Ap3];exact Q.o.1,by omega,Q.o.2.2⟩,HR.o.1,HR.o.2⟩
   case round=>
    obtain⟨c,s1,hc,rfl,rfl,rfl,A,P,af⟩:=hrel;have B:Aside (TR wr b2 s1.o∧Aa (fun j=>j=b2) W wr):=⟨P,af⟩;clear P af
    by_cases aa:c<256
    ·have N:decide ((c:Int)<256)=true:=Ana (by omega);have a9:(c:Int)<256:=by omega
     have am:wr.cell? ⟨w.heap.size,c,none⟩=some (.int .i64 (L.getD c 0:Nat)):=(HW.o.1.kept B.o.2 n0).cell (by rw[HL.o];exact aa);have ar:=HG.o c aa;have V:Aside (Hm.cTo L ((n-1)*256+(c+1))=Oj L n c s1):=Al4 L n c s1 aa (by omega) A.o.1
     by_cases he:L.getD c 0=n
     ·have HE:Aside (L.getD c 0=n):=he;rw[he]at am;clear he ar;have ae:=A.o.2.1;have l:=fun W=>Vn s1.code W (by omega);have T:Aside (∀W,Calls prog 88 #[.string ⟨(Af s1.code.reverse).toArray⟩] W fun e w'=>e= .returned (In s1.code)∧Ara W w'):=l;clear l;go_upto_if 26 with fail
      go_cut[5,6]from 17 to 44 (fun vc _ wy=> ∃W3,W3=wy∧ ∃R:List Bool,vc= .string ⟨(Af R.reverse).toArray⟩∧Hid (Me s1=some R)∧Ara wr W3)
      case first=>
       obtain⟨on,C⟩: ∃o,o=s1.on:=⟨_,rfl⟩;rw[←C];cases on with
       |false=>
        have HN:Aside (Me s1=some s1.code):=by show _=_;unfold Me;rw[←C];rfl
        clear C T;go_wp2_with fail;go_meet
        case rel=>exact⟨_,rfl,s1.code,rfl,HN.o,Aa.refl _ _⟩
       |true=>
        have HN:Aside (Me s1=Fb s1.code):=by show _=_;unfold Me;rw[←C];rfl
        have l:=T.o;clear C T;cases hi:Fb s1.code with
        |some R=>
         have E:In s1.code= .tuple #[.string ⟨(Af R.reverse).toArray⟩,.bool true]:=by unfold In;rw[hi]
         rw[E]at l;have a3:Aside (Fb s1.code=some R):=hi;clear E hi;go_wp2_with fail;refine(l _).mono ?_;rintro e W2 ⟨rfl,r⟩;have a4:Aside (Ara wr W2):=r;clear l r;go_wp2_with fail;go_meet
         case rel=>exact⟨_,rfl,R,rfl,HN.o.trans a3.o,a4.o⟩
        |none=>
         have E:In s1.code= .tuple #[.string ⟨(Af s1.code.reverse).toArray⟩,.bool false]:=by unfold In;rw[hi]
         rw[E]at l;have HF:Aside (Hm.cTo L 65280=none):=by
          show _=_;have h1:Hm.cTo L ((n-1)*256+(c+1))=none:=by
           rw[V.o];unfold Oj;rw[if_pos HE.o,HN.o,hi];rfl
          have h2:=Al5 L _ (65280-((n-1)*256+(c+1))) h1;rwa[show(n-1)*256+(c+1)+(65280-((n-1)*256+(c+1)))=65280 from by omega]at h2
         clear E hi;go_wp2_with fail;refine(l _).mono ?_;rintro e W2 ⟨rfl,r⟩;obtain⟨TT,D⟩: ∃a,a=(Av s1.o).toArray:=⟨_,rfl⟩;have k:Aside (TT=(Av s1.o).toArray∧TT.size=256∧TT.all (·.oneCell')=true∧W2.heap[b2]?=some (.cells TT 113 (0,0))∧W2.heap[b1]?=some (.cells (Av (List.replicate 256 [])).toArray 113 (0,0))∧Ara w W2∧(Av (List.replicate 256 [])).toArray.size=256):=by
          rw[D];refine⟨rfl,?_,Mf _,B.o.1.kept r id,(HW.o.2.1.kept B.o.2 n1).kept r id,?_,?_⟩
          ·rw[Anq,Bz];exact A.o.2.2
          ·exact(HW.o.2.2.2.trans B.o.2 (fun j h1 h2=>by have:=F.o;omega)).trans r (fun _ _ h=>h)
          ·rw[Anq,Bz,Ani]
         clear D r l
         go_wp2_with(first
          |(refine Aoh rfl 113 _ rfl b2 rfl 113 TT (0,0) _ k.o.2.2.2.1 underlying113 rfl (by rw[k.o.2.1];exact Dm) ?_)
          |(refine wpList_store_row _ rfl 113 _ _ rfl b1 113 (Av (List.replicate 256 [])).toArray TT rfl rfl k.o.2.2.2.2.1 (by rw[k.o.2.1];exact Dm) (by rw[k.o.2.1];exact k.o.2.2.2.2.2.2) k.o.2.2.1 ?_;intro w9 aC aA))
         refine Aok (v:= .tuple #[.agg TT,.bool false]) (If results45 _ w9 b1 113 _ (0,0) _ rfl aC underlying113 rfl (by rw[k.o.2.1];exact Dm)) rfl ⟨⟨s1.o,false,A.o.2.2,by rw[k.o.1],Du.of none HF.o rfl⟩,?_⟩;exact k.o.2.2.2.2.2.1.trans aA (fun j h1 h2=>by have:=F.o;omega)
      case rest=>
       obtain⟨W3,rfl,R,rfl,HN,ax⟩:=hcut;have aM:R.length≤n:=by rw[Aed s1 R HN.o];exact ae
       have ao:Aside (Ara wr W3):=ax;clear ax T am;go_wp2_with fail
       go_loopg [5] (n-R.length) (fun g1 vc wz=> ∃R1:List Bool,R1.length+g1=n∧vc= .string ⟨(Af R1.reverse).toArray⟩∧Hid (K1 n R1=K1 n R)∧W3=wz)
       case atStart=>exact⟨R,by omega,rfl,rfl,rfl⟩
       case round=>
        obtain⟨R1,aO,rfl,ap,rfl⟩:=hrel;obtain⟨S,hS⟩: ∃S,S=(⟨(Af R1.reverse).toArray⟩:ByteArray):=⟨_,rfl⟩;have aS:S.size=R1.length:=by rw[hS];exact Af9 R1
        rw[←hS];have HS:Aside (S=(⟨(Af R1.reverse).toArray⟩:ByteArray)):=hS;clear hS
        by_cases hz:R1.length<n
        ·have hd:decide ((S.size:Int)<(n:Int))=true:=Ana (by omega);go_wp2_with fail
         go_roundg (gk-1)
         case measure=>omega
         case rel=>
          refine⟨false::R1,by simp;omega,?_,?_,rfl⟩
          ·rw[HS.o,Af8];congr 1
          ·show _=_;rw[Akh n R1 hz];exact ap.o
        ·have hd:decide ((S.size:Int)<(n:Int))=false:=Anc (by omega);have a2:Aside (K1 n R=R1):=by show _=_;rw[←ap.o];exact Aki n R1 (by omega)
         have a6:Aside (Hm.cTo L ((n-1)*256+(c+1))=some ⟨s1.o.set c R1.reverse,R1,true⟩):=by
          show _=_;rw[V.o];unfold Oj;rw[if_pos HE.o,HN.o,Option.map_some,a2.o]
         have U:Aside (TR W3 b2 s1.o∧Aa (fun j=>j=b2) W W3):=⟨B.o.1.kept ao.o id,B.o.2.trans ao.o (fun _ _ h=>h.elim)⟩;have co:=U.o.1.cell (i:=c) (by rw[A.o.2.2];exact aa);have fo:=U.o.1.free c;generalize(⟨(Af (s1.o.getD c [])).toArray⟩:ByteArray)=old at co;have a9:(c:Int)<256:=by omega
         go_wp2_with fail;go_roundw
         case rel=>
          refine⟨c+1,⟨s1.o.set c R1.reverse,R1,true⟩,by omega,by go_num,rfl,by rw[HS.o],⟨a6.o,by show R1.length≤n;omega,?_⟩,?_,?_⟩
          ·show(s1.o.set c R1.reverse).length=256;rw[Aou];exact A.o.2.2
          ·rw[HS.o];exact U.o.1.set c R1.reverse
          ·exact U.o.2.setCell (p:=⟨b2,c,none⟩) (.inr rfl) _
         case measure=>simp[intOf];omega
     ·have az:((L.getD c 0:Nat):Int)≠(n:Int):=by omega
      have a8:(((L.getD c 0:Nat):Int)==(n:Int))=false:=Aod.2 az;have a5:Aside (Hm.cTo L ((n-1)*256+(c+1))=some s1):=by show _=_;rw[V.o];unfold Oj;rw[if_neg he]
      clear he;clear V;generalize L.getD c 0=x at am ar az a8;go_wp2;go_roundw
      case rel=>exact⟨c+1,s1,by omega,by go_num,rfl,rfl,⟨a5.o,A.o.2⟩,B.o.1,B.o.2⟩
      case measure=>simp[intOf];omega
    ·have M:c=256:=by omega
     have N:decide ((c:Int)<256)=false:=Anc (by omega);have HE:Aside (c=256):=M;clear M;have ae:=A.o.2.1;go_wp2;go_roundw
     case rel=>exact⟨n+1,s1,by omega,by omega,by go_num,rfl,rfl,⟨by rw[show(n+1-1)*256=(n-1)*256+c from by have:=HE.o;omega];exact A.o.1,by omega,A.o.2.2⟩,B.o.1,B.o.2⟩
     case measure=>simp[intOf];omega
  ·have O:n=256:=by omega
   have N:decide ((n:Int)<256)=false:=Anc (by omega);have l:=fun W=>Vn s.code W (by omega);have HT:Aside (Hm.cTo L 65280=some s):=by
    have:=Q.o.1;rwa[O]at this
   obtain⟨S2,more,E,ay⟩: ∃(S2:ByteArray) (m:Bool),In s.code= .tuple #[.string S2,.bool m]∧(Fb s.code).isNone=!m:=by
    unfold In;cases Fb s.code with
    |none=>exact⟨_,_,rfl,rfl⟩
    |some R=>exact⟨_,_,rfl,rfl⟩
   rw[E]at l;obtain⟨S,hS⟩: ∃S,S=(⟨(Af s.code.reverse).toArray⟩:ByteArray):=⟨_,rfl⟩;rw[←hS]at l⊢;obtain⟨z,hz⟩: ∃z,(S.toList==[48])=z:=⟨_,rfl⟩;have a0:(s.code==[false])=z:=by
    rw[←hz,hS,Aor];exact Amr s.code
   obtain⟨on,C⟩: ∃o,o=s.on:=⟨_,rfl⟩;rw[←C];have J:Aside (∀ok,ok=(!on||(!more||(z&&decide ((Ai L).length=1))))→Du L s.o ok):=by
    intro ok aB;refine Du.of (some s) HT.o ⟨rfl,?_⟩;rw[ay,a0,←C];exact aB
   clear E ay a0 hS C O;have aK:Aside (TR wr b2 s.o∧Aa (fun j=>j=b2) W wr):=HR;go_upto_region 20 with fail
   go_wp2_with fail;refine(l _).mono ?_;rintro e W2 ⟨rfl,r⟩;obtain⟨TT,D⟩: ∃a,a=(Av s.o).toArray:=⟨_,rfl⟩;have g:TT.size=256:=by rw[D,Anq,Bz];exact Q.o.2.2
   have ac:TT.all (·.oneCell')=true:=by rw[D];exact Mf _
   have u:W2.heap[b2]?=some (.cells TT 113 (0,0)):=by rw[D];exact HR.o.1.kept r id
   have t:W2.heap[w.heap.size]?=some (.cells (Ad L).toArray 94 (0,0)):=(HW.o.1.kept HR.o.2 n0).kept r id;have ab:W2.heap[b1]?=some (.cells (Av (List.replicate 256 [])).toArray 113 (0,0)):=(HW.o.2.1.kept HR.o.2 n1).kept r id;have H:Ara w W2:=(HW.o.2.2.2.trans HR.o.2 (fun j h1 h2=>by have:=F.o;omega)).trans r (fun _ _ h=>h);clear r l;have k:Aside (TT=(Av s.o).toArray):=D;clear D;go_upto_region 21 with fail
   obtain⟨q,hq⟩: ∃q,q=decide ((Ai L).length=1):=⟨_,rfl⟩;rw[←hq]at HO J;have HQ:Aside (∀W,Calls prog 89 #[.agg (Ad L).toArray] W fun e w'=>e= .returned (.bool q)∧Ara W w'):=HO;clear hq;cases on with
   |false=>
    refine Aph (S:=fun X=>X.heap[b2]?=some (.cells TT 113 (0,0))∧X.heap[w.heap.size]?=some (.cells (Ad L).toArray 94 (0,0))) (by kernel_rfl) ?_ (fun hHeld=>?_)
    ·exact⟨u,t⟩
    refine tK 0 ⟨some 50,.load 113 (.tmp 4),113,"hoardref.go:154",#[],none⟩ (.agg TT) (fun X Y => E7 X 113 (.tmp 4) rfl b2 rfl 113 TT (0, 0) _ Y.1 underlying113 rfl (by rw [g]; exact Dm)) ?_
    simp only[Act.put,Am6,Am8,Am9]
    refine tK 1 ⟨some 51,.move (.tmp 6),4,"hoardref.go:154",#[],none⟩ (.bool false) ?_ ?_
    ·intro X d;go_simp;try rfl
    simp only[Act.put,Am6,Am8,Am9]
    refine tK 2 ⟨some 52,.unOp .not 4 (.tmp 51),4,"hoardref.go:154",#[⟨1,.data⟩],none⟩ (.bool true) ?_ ?_
    ·intro X d;go_simp;try rfl
    simp only[Act.put,Am6,Am8,Am9]
    refine tK 3 ⟨some 53,.move (.tmp 52),4,"hoardref.go:154",#[⟨2,.data⟩],none⟩ (.bool true) ?_ ?_
    ·intro X d;go_simp;try rfl
    simp only[Act.put,Am6,Am8,Am9]
    refine tU 4 ⟨some 54,.move (.tmp 12),4,"hoardref.go:154",#[⟨3,.guard⟩],some (3,false)⟩ ?_
    simp only[Act.put,Am6,Am8,Am9]
    refine tU 5 ⟨some 55,.unOp .not 4 (.tmp 54),4,"hoardref.go:154",#[⟨4,.data⟩,⟨3,.guard⟩],some (3,false)⟩ ?_
    simp only[Act.put,Am6,Am8,Am9]
    refine tK 6 ⟨some 56,.pick (.tmp 53) (.const (.bool true)) (.tmp 55),4,"hoardref.go:154",#[⟨3,.data⟩,⟨5,.data⟩],none⟩ (.bool true) ?_ ?_
    ·intro X d;go_simp;try rfl
    simp only[Act.put,Am6,Am8,Am9]
    refine tK 7 ⟨some 57,.move (.tmp 56),4,"hoardref.go:154",#[⟨6,.data⟩,⟨3,.chain⟩],none⟩ (.bool true) ?_ ?_
    ·intro X d;go_simp;try rfl
    simp only[Act.put,Am6,Am8,Am9]
    refine tU 8 ⟨some 58,.move (.tmp 5),9,"hoardref.go:154",#[⟨7,.guard⟩],some (7,false)⟩ ?_
    simp only[Act.put,Am6,Am8,Am9]
    refine tU 9 ⟨some 59,.binOp .eql 9 (.tmp 58) (.const (.string { data := #[48] })) 9,4,"hoardref.go:154",#[⟨8,.data⟩,⟨7,.guard⟩],some (7,false)⟩ ?_
    simp only[Act.put,Am6,Am8,Am9]
    refine tU 10 ⟨some 60,.move (.tmp 59),4,"hoardref.go:154",#[⟨9,.data⟩,⟨7,.chain⟩,⟨7,.guard⟩],some (7,false)⟩ ?_
    simp only[Act.put,Am6,Am8,Am9]
    refine tU 11 ⟨some 61,.load 94 (.tmp 1),94,"hoardref.go:154",#[⟨10,.guard⟩],some (10,true)⟩ ?_
    simp only[Act.put,Am6,Am8,Am9]
    refine tU 12 ⟨some 62,.call ⟨.value (.func 89),#[.tmp 61],#[94]⟩,4,"hoardref.go:154",#[⟨11,.data⟩,⟨10,.chain⟩,⟨10,.guard⟩],some (10,true)⟩ ?_
    simp only[Act.put,Am6,Am8,Am9]
    refine tU 13 ⟨some 63,.pick (.tmp 60) (.tmp 62) (.const (.bool false)),4,"hoardref.go:154",#[⟨10,.data⟩,⟨12,.data⟩,⟨7,.guard⟩,⟨15,.gcOnly .lateStores⟩],some (7,false)⟩ ?_
    simp only[Act.put,Am6,Am8,Am9]
    refine tK 14 ⟨some 64,.pick (.tmp 57) (.const (.bool true)) (.tmp 63),4,"hoardref.go:154",#[⟨7,.data⟩,⟨13,.data⟩,⟨15,.gcOnly .lateStores⟩],none⟩ (.bool true) ?_ ?_
    ·intro X d;go_simp;try rfl
    simp only[Act.put,Am6,Am8,Am9];refine An1 (rs:=[15]) (by kernel_rfl) (by simp) ?_
    refine AllReadyH.cons (o := ⟨none,.store 113 (.tmp 2) (.tmp 50),0,"hoardref.go:154",#[⟨0,.data⟩,⟨12,.chain⟩,⟨0,.phase⟩,⟨1,.textOnly .lateStores⟩,⟨2,.textOnly .lateStores⟩,⟨3,.textOnly .lateStores⟩,⟨4,.textOnly .lateStores⟩,⟨5,.textOnly .lateStores⟩,⟨6,.textOnly .lateStores⟩,⟨7,.textOnly .lateStores⟩,⟨8,.textOnly .lateStores⟩,⟨9,.textOnly .lateStores⟩,⟨10,.textOnly .lateStores⟩,⟨11,.textOnly .lateStores⟩,⟨12,.textOnly .lateStoresUnsure⟩,⟨13,.textOnly .lateStores⟩,⟨14,.textOnly .lateStores⟩],none⟩) rfl (fun K hK => ?_) AllReadyH.nil
    refine B9 _ (op := ⟨none,.store 113 (.tmp 2) (.tmp 50),0,"hoardref.go:154",#[⟨0,.data⟩,⟨12,.chain⟩,⟨0,.phase⟩,⟨1,.textOnly .lateStores⟩,⟨2,.textOnly .lateStores⟩,⟨3,.textOnly .lateStores⟩,⟨4,.textOnly .lateStores⟩,⟨5,.textOnly .lateStores⟩,⟨6,.textOnly .lateStores⟩,⟨7,.textOnly .lateStores⟩,⟨8,.textOnly .lateStores⟩,⟨9,.textOnly .lateStores⟩,⟨10,.textOnly .lateStores⟩,⟨11,.textOnly .lateStores⟩,⟨12,.textOnly .lateStoresUnsure⟩,⟨13,.textOnly .lateStores⟩,⟨14,.textOnly .lateStores⟩],none⟩) rfl 113 (.tmp 2) (.tmp 50) rfl b1 113 (Av (List.replicate 256 [])).toArray TT rfl rfl ((Aa.refl (fun _ => False) W2).drew.row ab id) (by rw [g]; exact Dm) (by rw [g, List.size_toArray, Bz, List.length_replicate]) ac ?_
    intro wz I y;have f:Aa (fun j=>j=b1) W2 wz:=(Aa.refl (fun j=>j=b1) W2).drew.trans y (fun _ _ h=>h);refine hK.o _ _ ⟨f.row u (fun e=>n1 e.symm),f.row t (by have:=F.o;omega)⟩ (fun hHeld=>?_);clear hK K y;refine An1 (rs:=[16]) (by kernel_rfl) (by simp) ?_
    refine AllReadyH.cons (o := ⟨some 3,.assign (.tmp 64),4,"hoardref.go:154",#[⟨14,.data⟩,⟨15,.chain⟩,⟨0,.phase⟩,⟨1,.phase⟩,⟨2,.phase⟩,⟨3,.phase⟩,⟨4,.phase⟩,⟨5,.phase⟩,⟨6,.phase⟩,⟨7,.phase⟩,⟨8,.phase⟩,⟨9,.phase⟩,⟨10,.phase⟩,⟨11,.phase⟩,⟨12,.phase⟩,⟨13,.phase⟩,⟨14,.phase⟩,⟨15,.phase⟩],none⟩) rfl (fun K hK => ?_) AllReadyH.nil
    go_simp;refine hK.o _ _ ⟨f.row u (fun e=>n1 e.symm),f.row t (by have:=F.o;omega)⟩ (fun hHeld=>?_);clear hK K;refine Apn (by kernel_rfl) ?_ _;have G:Aside (Du L s.o (true)):=J.o (true) rfl;go_wp2_with fail;refine Aok (v:= .tuple #[.agg TT,.bool (true)]) (If results45 _ wz b1 113 _ (0,0) _ rfl I underlying113 rfl (by rw[g];exact Dm)) rfl ⟨⟨s.o,true,Q.o.2.2,by rw[k.o],G.o⟩,?_⟩;exact H.trans f (fun j h1 h2=>by have:=F.o;omega)
   |true=>
    cases more with
    |false=>
     refine Aph (S:=fun X=>X.heap[b2]?=some (.cells TT 113 (0,0))∧X.heap[w.heap.size]?=some (.cells (Ad L).toArray 94 (0,0))) (by kernel_rfl) ?_ (fun hHeld=>?_)
     ·exact⟨u,t⟩
     refine tK 0 ⟨some 50,.load 113 (.tmp 4),113,"hoardref.go:154",#[],none⟩ (.agg TT) (fun X Y => E7 X 113 (.tmp 4) rfl b2 rfl 113 TT (0, 0) _ Y.1 underlying113 rfl (by rw [g]; exact Dm)) ?_
     simp only[Act.put,Am6,Am8,Am9]
     refine tK 1 ⟨some 51,.move (.tmp 6),4,"hoardref.go:154",#[],none⟩ (.bool true) ?_ ?_
     ·intro X d;go_simp;try rfl
     simp only[Act.put,Am6,Am8,Am9]
     refine tK 2 ⟨some 52,.unOp .not 4 (.tmp 51),4,"hoardref.go:154",#[⟨1,.data⟩],none⟩ (.bool false) ?_ ?_
     ·intro X d;go_simp;try rfl
     simp only[Act.put,Am6,Am8,Am9]
     refine tK 3 ⟨some 53,.move (.tmp 52),4,"hoardref.go:154",#[⟨2,.data⟩],none⟩ (.bool false) ?_ ?_
     ·intro X d;go_simp;try rfl
     simp only[Act.put,Am6,Am8,Am9]
     refine tK 4 ⟨some 54,.move (.tmp 12),4,"hoardref.go:154",#[⟨3,.guard⟩],some (3,false)⟩ (.bool false) ?_ ?_
     ·intro X d;go_simp;try rfl
     simp only[Act.put,Am6,Am8,Am9]
     refine tK 5 ⟨some 55,.unOp .not 4 (.tmp 54),4,"hoardref.go:154",#[⟨4,.data⟩,⟨3,.guard⟩],some (3,false)⟩ (.bool true) ?_ ?_
     ·intro X d;go_simp;try rfl
     simp only[Act.put,Am6,Am8,Am9]
     refine tK 6 ⟨some 56,.pick (.tmp 53) (.const (.bool true)) (.tmp 55),4,"hoardref.go:154",#[⟨3,.data⟩,⟨5,.data⟩],none⟩ (.bool true) ?_ ?_
     ·intro X d;go_simp;try rfl
     simp only[Act.put,Am6,Am8,Am9]
     refine tK 7 ⟨some 57,.move (.tmp 56),4,"hoardref.go:154",#[⟨6,.data⟩,⟨3,.chain⟩],none⟩ (.bool true) ?_ ?_
     ·intro X d;go_simp;try rfl
     simp only[Act.put,Am6,Am8,Am9]
     refine tU 8 ⟨some 58,.move (.tmp 5),9,"hoardref.go:154",#[⟨7,.guard⟩],some (7,false)⟩ ?_
     simp only[Act.put,Am6,Am8,Am9]
     refine tU 9 ⟨some 59,.binOp .eql 9 (.tmp 58) (.const (.string { data := #[48] })) 9,4,"hoardref.go:154",#[⟨8,.data⟩,⟨7,.guard⟩],some (7,false)⟩ ?_
     simp only[Act.put,Am6,Am8,Am9]
     refine tU 10 ⟨some 60,.move (.tmp 59),4,"hoardref.go:154",#[⟨9,.data⟩,⟨7,.chain⟩,⟨7,.guard⟩],some (7,false)⟩ ?_
     simp only[Act.put,Am6,Am8,Am9]
     refine tU 11 ⟨some 61,.load 94 (.tmp 1),94,"hoardref.go:154",#[⟨10,.guard⟩],some (10,true)⟩ ?_
     simp only[Act.put,Am6,Am8,Am9]
     refine tU 12 ⟨some 62,.call ⟨.value (.func 89),#[.tmp 61],#[94]⟩,4,"hoardref.go:154",#[⟨11,.data⟩,⟨10,.chain⟩,⟨10,.guard⟩],some (10,true)⟩ ?_
     simp only[Act.put,Am6,Am8,Am9]
     refine tU 13 ⟨some 63,.pick (.tmp 60) (.tmp 62) (.const (.bool false)),4,"hoardref.go:154",#[⟨10,.data⟩,⟨12,.data⟩,⟨7,.guard⟩,⟨15,.gcOnly .lateStores⟩],some (7,false)⟩ ?_
     simp only[Act.put,Am6,Am8,Am9]
     refine tK 14 ⟨some 64,.pick (.tmp 57) (.const (.bool true)) (.tmp 63),4,"hoardref.go:154",#[⟨7,.data⟩,⟨13,.data⟩,⟨15,.gcOnly .lateStores⟩],none⟩ (.bool true) ?_ ?_
     ·intro X d;go_simp;try rfl
     simp only[Act.put,Am6,Am8,Am9];refine An1 (rs:=[15]) (by kernel_rfl) (by simp) ?_
     refine AllReadyH.cons (o := ⟨none,.store 113 (.tmp 2) (.tmp 50),0,"hoardref.go:154",#[⟨0,.data⟩,⟨12,.chain⟩,⟨0,.phase⟩,⟨1,.textOnly .lateStores⟩,⟨2,.textOnly .lateStores⟩,⟨3,.textOnly .lateStores⟩,⟨4,.textOnly .lateStores⟩,⟨5,.textOnly .lateStores⟩,⟨6,.textOnly .lateStores⟩,⟨7,.textOnly .lateStores⟩,⟨8,.textOnly .lateStores⟩,⟨9,.textOnly .lateStores⟩,⟨10,.textOnly .lateStores⟩,⟨11,.textOnly .lateStores⟩,⟨12,.textOnly .lateStoresUnsure⟩,⟨13,.textOnly .lateStores⟩,⟨14,.textOnly .lateStores⟩],none⟩) rfl (fun K hK => ?_) AllReadyH.nil
     refine B9 _ (op := ⟨none,.store 113 (.tmp 2) (.tmp 50),0,"hoardref.go:154",#[⟨0,.data⟩,⟨12,.chain⟩,⟨0,.phase⟩,⟨1,.textOnly .lateStores⟩,⟨2,.textOnly .lateStores⟩,⟨3,.textOnly .lateStores⟩,⟨4,.textOnly .lateStores⟩,⟨5,.textOnly .lateStores⟩,⟨6,.textOnly .lateStores⟩,⟨7,.textOnly .lateStores⟩,⟨8,.textOnly .lateStores⟩,⟨9,.textOnly .lateStores⟩,⟨10,.textOnly .lateStores⟩,⟨11,.textOnly .lateStores⟩,⟨12,.textOnly .lateStoresUnsure⟩,⟨13,.textOnly .lateStores⟩,⟨14,.textOnly .lateStores⟩],none⟩) rfl 113 (.tmp 2) (.tmp 50) rfl b1 113 (Av (List.replicate 256 [])).toArray TT rfl rfl ((Aa.refl (fun _ => False) W2).drew.row ab id) (by rw [g]; exact Dm) (by rw [g, List.size_toArray, Bz, List.length_replicate]) ac ?_
     intro wz I y;have f:Aa (fun j=>j=b1) W2 wz:=(Aa.refl (fun j=>j=b1) W2).drew.trans y (fun _ _ h=>h);refine hK.o _ _ ⟨f.row u (fun e=>n1 e.symm),f.row t (by have:=F.o;omega)⟩ (fun hHeld=>?_);clear hK K y;refine An1 (rs:=[16]) (by kernel_rfl) (by simp) ?_
     refine AllReadyH.cons (o := ⟨some 3,.assign (.tmp 64),4,"hoardref.go:154",#[⟨14,.data⟩,⟨15,.chain⟩,⟨0,.phase⟩,⟨1,.phase⟩,⟨2,.phase⟩,⟨3,.phase⟩,⟨4,.phase⟩,⟨5,.phase⟩,⟨6,.phase⟩,⟨7,.phase⟩,⟨8,.phase⟩,⟨9,.phase⟩,⟨10,.phase⟩,⟨11,.phase⟩,⟨12,.phase⟩,⟨13,.phase⟩,⟨14,.phase⟩,⟨15,.phase⟩],none⟩) rfl (fun K hK => ?_) AllReadyH.nil
     go_simp;refine hK.o _ _ ⟨f.row u (fun e=>n1 e.symm),f.row t (by have:=F.o;omega)⟩ (fun hHeld=>?_);clear hK K;refine Apn (by kernel_rfl) ?_ _;have G:Aside (Du L s.o (true)):=J.o (true) rfl;go_wp2_with fail;refine Aok (v:= .tuple #[.agg TT,.bool (true)]) (If results45 _ wz b1 113 _ (0,0) _ rfl I underlying113 rfl (by rw[g];exact Dm)) rfl ⟨⟨s.o,true,Q.o.2.2,by rw[k.o],G.o⟩,?_⟩;exact H.trans f (fun j h1 h2=>by have:=F.o;omega)
    |true=>
     cases z with
     |false=>
      refine Aph (S:=fun X=>X.heap[b2]?=some (.cells TT 113 (0,0))∧X.heap[w.heap.size]?=some (.cells (Ad L).toArray 94 (0,0))) (by kernel_rfl) ?_ (fun hHeld=>?_)
      ·exact⟨u,t⟩
      refine tK 0 ⟨some 50,.load 113 (.tmp 4),113,"hoardref.go:154",#[],none⟩ (.agg TT) (fun X Y => E7 X 113 (.tmp 4) rfl b2 rfl 113 TT (0, 0) _ Y.1 underlying113 rfl (by rw [g]; exact Dm)) ?_
      simp only[Act.put,Am6,Am8,Am9]
      refine tK 1 ⟨some 51,.move (.tmp 6),4,"hoardref.go:154",#[],none⟩ (.bool true) ?_ ?_
      ·intro X d;go_simp;try rfl
      simp only[Act.put,Am6,Am8,Am9]
      refine tK 2 ⟨some 52,.unOp .not 4 (.tmp 51),4,"hoardref.go:154",#[⟨1,.data⟩],none⟩ (.bool false) ?_ ?_
      ·intro X d;go_simp;try rfl
      simp only[Act.put,Am6,Am8,Am9]
      refine tK 3 ⟨some 53,.move (.tmp 52),4,"hoardref.go:154",#[⟨2,.data⟩],none⟩ (.bool false) ?_ ?_
      ·intro X d;go_simp;try rfl
      simp only[Act.put,Am6,Am8,Am9]
      refine tK 4 ⟨some 54,.move (.tmp 12),4,"hoardref.go:154",#[⟨3,.guard⟩],some (3,false)⟩ (.bool true) ?_ ?_
      ·intro X d;go_simp;try rfl
      simp only[Act.put,Am6,Am8,Am9]
      refine tK 5 ⟨some 55,.unOp .not 4 (.tmp 54),4,"hoardref.go:154",#[⟨4,.data⟩,⟨3,.guard⟩],some (3,false)⟩ (.bool false) ?_ ?_
      ·intro X d;go_simp;try rfl
      simp only[Act.put,Am6,Am8,Am9]
      refine tK 6 ⟨some 56,.pick (.tmp 53) (.const (.bool true)) (.tmp 55),4,"hoardref.go:154",#[⟨3,.data⟩,⟨5,.data⟩],none⟩ (.bool false) ?_ ?_
      ·intro X d;go_simp;try rfl
      simp only[Act.put,Am6,Am8,Am9]
      refine tK 7 ⟨some 57,.move (.tmp 56),4,"hoardref.go:154",#[⟨6,.data⟩,⟨3,.chain⟩],none⟩ (.bool false) ?_ ?_
      ·intro X d;go_simp;try rfl
      simp only[Act.put,Am6,Am8,Am9]
      refine tK 8 ⟨some 58,.move (.tmp 5),9,"hoardref.go:154",#[⟨7,.guard⟩],some (7,false)⟩ (.string S) ?_ ?_
      ·intro X d;go_simp;try rfl
      simp only[Act.put,Am6,Am8,Am9]
      refine tK 9 ⟨some 59,.binOp .eql 9 (.tmp 58) (.const (.string { data := #[48] })) 9,4,"hoardref.go:154",#[⟨8,.data⟩,⟨7,.guard⟩],some (7,false)⟩ (.bool false) ?_ ?_
      ·intro X d;go_simp;try(first|rw[hz]|(simp only[hz]))
      simp only[Act.put,Am6,Am8,Am9]
      refine tK 10 ⟨some 60,.move (.tmp 59),4,"hoardref.go:154",#[⟨9,.data⟩,⟨7,.chain⟩,⟨7,.guard⟩],some (7,false)⟩ (.bool false) ?_ ?_
      ·intro X d;go_simp;try rfl
      simp only[Act.put,Am6,Am8,Am9]
      refine tU 11 ⟨some 61,.load 94 (.tmp 1),94,"hoardref.go:154",#[⟨10,.guard⟩],some (10,true)⟩ ?_
      simp only[Act.put,Am6,Am8,Am9]
      refine tU 12 ⟨some 62,.call ⟨.value (.func 89),#[.tmp 61],#[94]⟩,4,"hoardref.go:154",#[⟨11,.data⟩,⟨10,.chain⟩,⟨10,.guard⟩],some (10,true)⟩ ?_
      simp only[Act.put,Am6,Am8,Am9]
      refine tK 13 ⟨some 63,.pick (.tmp 60) (.tmp 62) (.const (.bool false)),4,"hoardref.go:154",#[⟨10,.data⟩,⟨12,.data⟩,⟨7,.guard⟩,⟨15,.gcOnly .lateStores⟩],some (7,false)⟩ (.bool false) ?_ ?_
      ·intro X d;go_simp;try rfl
      simp only[Act.put,Am6,Am8,Am9]
      refine tK 14 ⟨some 64,.pick (.tmp 57) (.const (.bool true)) (.tmp 63),4,"hoardref.go:154",#[⟨7,.data⟩,⟨13,.data⟩,⟨15,.gcOnly .lateStores⟩],none⟩ (.bool false) ?_ ?_
      ·intro X d;go_simp;try rfl
      simp only[Act.put,Am6,Am8,Am9];refine An1 (rs:=[15]) (by kernel_rfl) (by simp) ?_
      refine AllReadyH.cons (o := ⟨none,.store 113 (.tmp 2) (.tmp 50),0,"hoardref.go:154",#[⟨0,.data⟩,⟨12,.chain⟩,⟨0,.phase⟩,⟨1,.textOnly .lateStores⟩,⟨2,.textOnly .lateStores⟩,⟨3,.textOnly .lateStores⟩,⟨4,.textOnly .lateStores⟩,⟨5,.textOnly .lateStores⟩,⟨6,.textOnly .lateStores⟩,⟨7,.textOnly .lateStores⟩,⟨8,.textOnly .lateStores⟩,⟨9,.textOnly .lateStores⟩,⟨10,.textOnly .lateStores⟩,⟨11,.textOnly .lateStores⟩,⟨12,.textOnly .lateStoresUnsure⟩,⟨13,.textOnly .lateStores⟩,⟨14,.textOnly .lateStores⟩],none⟩) rfl (fun K hK => ?_) AllReadyH.nil
      refine B9 _ (op := ⟨none,.store 113 (.tmp 2) (.tmp 50),0,"hoardref.go:154",#[⟨0,.data⟩,⟨12,.chain⟩,⟨0,.phase⟩,⟨1,.textOnly .lateStores⟩,⟨2,.textOnly .lateStores⟩,⟨3,.textOnly .lateStores⟩,⟨4,.textOnly .lateStores⟩,⟨5,.textOnly .lateStores⟩,⟨6,.textOnly .lateStores⟩,⟨7,.textOnly .lateStores⟩,⟨8,.textOnly .lateStores⟩,⟨9,.textOnly .lateStores⟩,⟨10,.textOnly .lateStores⟩,⟨11,.textOnly .lateStores⟩,⟨12,.textOnly .lateStoresUnsure⟩,⟨13,.textOnly .lateStores⟩,⟨14,.textOnly .lateStores⟩],none⟩) rfl 113 (.tmp 2) (.tmp 50) rfl b1 113 (Av (List.replicate 256 [])).toArray TT rfl rfl ((Aa.refl (fun _ => False) W2).drew.row ab id) (by rw [g]; exact Dm) (by rw [g, List.size_toArray, Bz, List.length_replicate]) ac ?_
      intro wz I y;have f:Aa (fun j=>j=b1) W2 wz:=(Aa.refl (fun j=>j=b1) W2).drew.trans y (fun _ _ h=>h);refine hK.o _ _ ⟨f.row u (fun e=>n1 e.symm),f.row t (by have:=F.o;omega)⟩ (fun hHeld=>?_);clear hK K y;refine An1 (rs:=[16]) (by kernel_rfl) (by simp) ?_
      refine AllReadyH.cons (o := ⟨some 3,.assign (.tmp 64),4,"hoardref.go:154",#[⟨14,.data⟩,⟨15,.chain⟩,⟨0,.phase⟩,⟨1,.phase⟩,⟨2,.phase⟩,⟨3,.phase⟩,⟨4,.phase⟩,⟨5,.phase⟩,⟨6,.phase⟩,⟨7,.phase⟩,⟨8,.phase⟩,⟨9,.phase⟩,⟨10,.phase⟩,⟨11,.phase⟩,⟨12,.phase⟩,⟨13,.phase⟩,⟨14,.phase⟩,⟨15,.phase⟩],none⟩) rfl (fun K hK => ?_) AllReadyH.nil
      go_simp;refine hK.o _ _ ⟨f.row u (fun e=>n1 e.symm),f.row t (by have:=F.o;omega)⟩ (fun hHeld=>?_);clear hK K;refine Apn (by kernel_rfl) ?_ _;have G:Aside (Du L s.o (false)):=J.o (false) rfl;go_wp2_with fail;refine Aok (v:= .tuple #[.agg TT,.bool (false)]) (If results45 _ wz b1 113 _ (0,0) _ rfl I underlying113 rfl (by rw[g];exact Dm)) rfl ⟨⟨s.o,false,Q.o.2.2,by rw[k.o],G.o⟩,?_⟩;exact H.trans f (fun j h1 h2=>by have:=F.o;omega)
     |true=>
      refine Aph (S:=fun X=>X.heap[b2]?=some (.cells TT 113 (0,0))∧X.heap[w.heap.size]?=some (.cells (Ad L).toArray 94 (0,0))) (by kernel_rfl) ?_ (fun hHeld=>?_)
      ·exact⟨u,t⟩
      refine tK 0 ⟨some 50,.load 113 (.tmp 4),113,"hoardref.go:154",#[],none⟩ (.agg TT) (fun X Y => E7 X 113 (.tmp 4) rfl b2 rfl 113 TT (0, 0) _ Y.1 underlying113 rfl (by rw [g]; exact Dm)) ?_
      simp only[Act.put,Am6,Am8,Am9]
      refine tK 1 ⟨some 51,.move (.tmp 6),4,"hoardref.go:154",#[],none⟩ (.bool true) ?_ ?_
      ·intro X d;go_simp;try rfl
      simp only[Act.put,Am6,Am8,Am9]
      refine tK 2 ⟨some 52,.unOp .not 4 (.tmp 51),4,"hoardref.go:154",#[⟨1,.data⟩],none⟩ (.bool false) ?_ ?_
      ·intro X d;go_simp;try rfl
      simp only[Act.put,Am6,Am8,Am9]
      refine tK 3 ⟨some 53,.move (.tmp 52),4,"hoardref.go:154",#[⟨2,.data⟩],none⟩ (.bool false) ?_ ?_
      ·intro X d;go_simp;try rfl
      simp only[Act.put,Am6,Am8,Am9]
      refine tK 4 ⟨some 54,.move (.tmp 12),4,"hoardref.go:154",#[⟨3,.guard⟩],some (3,false)⟩ (.bool true) ?_ ?_
      ·intro X d;go_simp;try rfl
      simp only[Act.put,Am6,Am8,Am9]
      refine tK 5 ⟨some 55,.unOp .not 4 (.tmp 54),4,"hoardref.go:154",#[⟨4,.data⟩,⟨3,.guard⟩],some (3,false)⟩ (.bool false) ?_ ?_
      ·intro X d;go_simp;try rfl
      simp only[Act.put,Am6,Am8,Am9]
      refine tK 6 ⟨some 56,.pick (.tmp 53) (.const (.bool true)) (.tmp 55),4,"hoardref.go:154",#[⟨3,.data⟩,⟨5,.data⟩],none⟩ (.bool false) ?_ ?_
      ·intro X d;go_simp;try rfl
      simp only[Act.put,Am6,Am8,Am9]
      refine tK 7 ⟨some 57,.move (.tmp 56),4,"hoardref.go:154",#[⟨6,.data⟩,⟨3,.chain⟩],none⟩ (.bool false) ?_ ?_
      ·intro X d;go_simp;try rfl
      simp only[Act.put,Am6,Am8,Am9]
      refine tK 8 ⟨some 58,.move (.tmp 5),9,"hoardref.go:154",#[⟨7,.guard⟩],some (7,false)⟩ (.string S) ?_ ?_
      ·intro X d;go_simp;try rfl
      simp only[Act.put,Am6,Am8,Am9]
      refine tK 9 ⟨some 59,.binOp .eql 9 (.tmp 58) (.const (.string { data := #[48] })) 9,4,"hoardref.go:154",#[⟨8,.data⟩,⟨7,.guard⟩],some (7,false)⟩ (.bool true) ?_ ?_
      ·intro X d;go_simp;try(first|rw[hz]|(simp only[hz]))
      simp only[Act.put,Am6,Am8,Am9]
      refine tK 10 ⟨some 60,.move (.tmp 59),4,"hoardref.go:154",#[⟨9,.data⟩,⟨7,.chain⟩,⟨7,.guard⟩],some (7,false)⟩ (.bool true) ?_ ?_
      ·intro X d;go_simp;try rfl
      simp only[Act.put,Am6,Am8,Am9]
      refine tK 11 ⟨some 61,.load 94 (.tmp 1),94,"hoardref.go:154",#[⟨10,.guard⟩],some (10,true)⟩ (.agg (Ad L).toArray) (fun X Y => E7 X 94 (.tmp 1) rfl w.heap.size rfl 94 (Ad L).toArray (0, 0) _ Y.2 underlying94 rfl (by rw [Bm, HL.o]; exact Eg)) ?_
      simp only[Act.put,Am6,Am8,Am9];refine An1 (rs:=[12]) (by kernel_rfl) (by simp) ?_
      refine AllReadyH.cons (o := ⟨some 62,.call ⟨.value (.func 89),#[.tmp 61],#[94]⟩,4,"hoardref.go:154",#[⟨11,.data⟩,⟨10,.chain⟩,⟨10,.guard⟩],some (10,true)⟩) rfl (fun K hK => ?_) AllReadyH.nil
      go_simp;refine(HQ.o _).mono ?_;rintro e wa ⟨rfl,aw⟩;have Z:Ara W2 wa:=(Aa.refl (fun _=>False) W2).drew.trans aw (fun _ _ h=>h);refine hK.o _ _ ⟨Z.row u id,Z.row t id⟩ (fun hHeld=>?_);clear hK K aw
      refine tK 13 ⟨some 63,.pick (.tmp 60) (.tmp 62) (.const (.bool false)),4,"hoardref.go:154",#[⟨10,.data⟩,⟨12,.data⟩,⟨7,.guard⟩,⟨15,.gcOnly .lateStores⟩],some (7,false)⟩ (.bool q) ?_ ?_
      ·intro X d;go_simp;try rfl
      simp only[Act.put,Am6,Am8,Am9]
      refine tK 14 ⟨some 64,.pick (.tmp 57) (.const (.bool true)) (.tmp 63),4,"hoardref.go:154",#[⟨7,.data⟩,⟨13,.data⟩,⟨15,.gcOnly .lateStores⟩],none⟩ (.bool q) ?_ ?_
      ·intro X d;go_simp;try rfl
      simp only[Act.put,Am6,Am8,Am9];refine An1 (rs:=[15]) (by kernel_rfl) (by simp) ?_
      refine AllReadyH.cons (o := ⟨none,.store 113 (.tmp 2) (.tmp 50),0,"hoardref.go:154",#[⟨0,.data⟩,⟨12,.chain⟩,⟨0,.phase⟩,⟨1,.textOnly .lateStores⟩,⟨2,.textOnly .lateStores⟩,⟨3,.textOnly .lateStores⟩,⟨4,.textOnly .lateStores⟩,⟨5,.textOnly .lateStores⟩,⟨6,.textOnly .lateStores⟩,⟨7,.textOnly .lateStores⟩,⟨8,.textOnly .lateStores⟩,⟨9,.textOnly .lateStores⟩,⟨10,.textOnly .lateStores⟩,⟨11,.textOnly .lateStores⟩,⟨12,.textOnly .lateStoresUnsure⟩,⟨13,.textOnly .lateStores⟩,⟨14,.textOnly .lateStores⟩],none⟩) rfl (fun K hK => ?_) AllReadyH.nil
      refine B9 _ (op := ⟨none,.store 113 (.tmp 2) (.tmp 50),0,"hoardref.go:154",#[⟨0,.data⟩,⟨12,.chain⟩,⟨0,.phase⟩,⟨1,.textOnly .lateStores⟩,⟨2,.textOnly .lateStores⟩,⟨3,.textOnly .lateStores⟩,⟨4,.textOnly .lateStores⟩,⟨5,.textOnly .lateStores⟩,⟨6,.textOnly .lateStores⟩,⟨7,.textOnly .lateStores⟩,⟨8,.textOnly .lateStores⟩,⟨9,.textOnly .lateStores⟩,⟨10,.textOnly .lateStores⟩,⟨11,.textOnly .lateStores⟩,⟨12,.textOnly .lateStoresUnsure⟩,⟨13,.textOnly .lateStores⟩,⟨14,.textOnly .lateStores⟩],none⟩) rfl 113 (.tmp 2) (.tmp 50) rfl b1 113 (Av (List.replicate 256 [])).toArray TT rfl rfl (Z.row ab id) (by rw [g]; exact Dm) (by rw [g, List.size_toArray, Bz, List.length_replicate]) ac ?_
      intro wz I y;have f:Aa (fun j=>j=b1) W2 wz:=(Z.wider (fun _ _ h=>h.elim)).trans y (fun _ _ h=>h);refine hK.o _ _ ⟨f.row u (fun e=>n1 e.symm),f.row t (by have:=F.o;omega)⟩ (fun hHeld=>?_);clear hK K y;refine An1 (rs:=[16]) (by kernel_rfl) (by simp) ?_
      refine AllReadyH.cons (o := ⟨some 3,.assign (.tmp 64),4,"hoardref.go:154",#[⟨14,.data⟩,⟨15,.chain⟩,⟨0,.phase⟩,⟨1,.phase⟩,⟨2,.phase⟩,⟨3,.phase⟩,⟨4,.phase⟩,⟨5,.phase⟩,⟨6,.phase⟩,⟨7,.phase⟩,⟨8,.phase⟩,⟨9,.phase⟩,⟨10,.phase⟩,⟨11,.phase⟩,⟨12,.phase⟩,⟨13,.phase⟩,⟨14,.phase⟩,⟨15,.phase⟩],none⟩) rfl (fun K hK => ?_) AllReadyH.nil
      go_simp;refine hK.o _ _ ⟨f.row u (fun e=>n1 e.symm),f.row t (by have:=F.o;omega)⟩ (fun hHeld=>?_);clear hK K;refine Apn (by kernel_rfl) ?_ _;have G:Aside (Du L s.o (q)):=J.o (q) rfl;go_wp2_with fail;refine Aok (v:= .tuple #[.agg TT,.bool (q)]) (If results45 _ wz b1 113 _ (0,0) _ rfl I underlying113 rfl (by rw[g];exact Dm)) rfl ⟨⟨s.o,q,Q.o.2.2,by rw[k.o],G.o⟩,?_⟩;exact H.trans f (fun j h1 h2=>by have:=F.o;omega)
end Go.Proofs.YtegnkfdbmmndaaaGreat
namespace Go.Proofs.YtegnkfdbmmndaaaGreat
open Hm Go.Proofs.Tryz
namespace Hm
theorem Aef(l c:Nat):Db l c=(Aw c l).reverse:=rfl
theorem Si(x:Nat): ∀d l,Aw (x*2^d) (l+d)=List.replicate d false++Aw x l
 |0,l=>by simp
 |d+1,l=>by
  rw[←Apj,Ph,Apf,Aqw,←Si x d l];have e:x*2^(d+1)=2*(x*2^d):=by rw[Aoz];ac_rfl
  rw[e,show 2*(x*2^d)/2=x*2^d from by omega];congr 1;exact Anc (by omega)
theorem Aeg(x l n:Nat)(h:l≤n):K1 n (Aw x l)=Aw (x*2^(n-l)) n:=by
 unfold K1;rw[Do,←Si x (n-l) l,show l+(n-l)=n from by omega]
structure Far(L:Ard)(t k:Nat)(s:CS):Prop where
 le:k≤(Ae L).length
 less: ∀i,i<k→G3 L ((Ae L).getD i 0)<256+t
 more: ∀i,k≤i→i<(Ae L).length→256+t≤G3 L ((Ae L).getD i 0)
 on:s.on=decide (0<k)
 code:s.code=Aw (Bq L (Ae L) k).1 (Bq L (Ae L) k).2
 len:s.o.length=256
 made: ∀i,i<k→s.o.getD ((Ae L).getD i 0).toNat []=(Aw (Bq L (Ae L) (i+1)).1 (Bq L (Ae L) (i+1)).2).reverse
 none: ∀b:UInt8,(∀i,i<k→(Ae L).getD i 0≠b)→s.o.getD b.toNat []=[]
theorem Za(l:List (List Bool))(i:Nat)(x:List Bool)(h:i<l.length):(l.set i x).getD i []=x:=by
 rw[Am4,Aqu h];rfl
theorem T8(l:List (List Bool))(i j:Nat)(x:List Bool)(h:i≠j):(l.set i x).getD j []=l.getD j []:=by
 rw[Am4,Ap9 h,←Am4]
theorem Bu.key_lt{L:Ard}{i j:Nat}(a:i<j)(b:j<(Ae L).length):G3 L ((Ae L).getD i 0)<G3 L ((Ae L).getD j 0):=by
 rw[Am4,Am5 (by omega:i<(Ae L).length),Am4,Am5 b];exact List.pairwise_iff_getElem.1 (Ek L) i j (by omega) b a
theorem Un(L:Ard)(b:UInt8):lnB L b=L.getD b.toNat 0:=rfl
theorem Far.step{L:Ard}(x:Bu L){t k:Nat}{s:CS}(h:Far L t k s): ∃k' s',Oj L (t/256+1) (t%256) s=some s'∧Far L (t+1) k' s':=by
 have I:t%256<256:=Nat.mod_lt _ (by omega);obtain⟨b,hb⟩: ∃b:UInt8,b.toNat=t%256:=⟨UInt8.ofNat (t%256),by rw[Aoa];omega⟩
 by_cases y:L.getD (t%256) 0=t/256+1
 ·have p:lnB L b=t/256+1:=by rw[Un,hb,y]
  have f:G3 L b=256+t:=by unfold G3;rw[p,hb];omega
  have w:b∈Ae L:=(x.mem b).2 (by omega);obtain⟨i,hi,d⟩:=Lo w;have z:i=k:=by
   rcases Aop i k with c|c|c
   ·have:=h.less i c;rw[d,f]at this;omega
   ·exact c
   ·have h1:=Bu.key_lt (L:=L) c hi;have h2:=h.more k (Ane _) (by omega);rw[d,f]at h1;omega
  subst z;have u:Bq L (Ae L) (i+1)=Mp L (Bq L (Ae L) i) i b:=by rw[Bq,d]
  have F: ∃R,Me s=some R∧K1 (t/256+1) R=Aw (Bq L (Ae L) (i+1)).1 (Bq L (Ae L) (i+1)).2:=by
   rw[u];unfold Mp;rw[p];cases i with
   |zero=>
    refine⟨s.code,?_,?_⟩
    ·unfold Me;rw[h.on];rfl
    ·rw[h.code];show K1 (t/256+1) (Aw 0 0)=_;rw[Aeg _ _ _ (by omega)];simp[Bq]
   |succ i=>
    have v:=x.fits.lt i (by omega);have a:=x.fits.lt (i+1) hi;have g:=x.fits.asc_get (i:=i) (j:=i+1) (by omega) hi;have n:(Bq L (Ae L) (i+1)).2=lnB L ((Ae L).getD i 0):=Hw L _ i;rw[u,d]at a;rw[d,p]at g;unfold Mp at a;rw[p,if_neg (by omega),n]at a;simp only at a;obtain⟨m,D⟩: ∃m,m=(Bq L (Ae L) (i+1)).1:=⟨_,rfl⟩;obtain⟨l,G⟩: ∃l,l=lnB L ((Ae L).getD i 0):=⟨_,rfl⟩;rw[←D,←G]at v a;rw[←G]at g n;have E:m+1<2^l:=by
     have e:2^(t/256+1)=2^l*2^(t/256+1-l):=by rw[←Nat.pow_add];congr 1;omega
     rw[e]at a;exact Nat.lt_of_mul_lt_mul_right a
    refine⟨Aw (m+1) l,?_,?_⟩
    ·unfold Me;rw[h.on,h.code,n,←D];show Fb _=_;rw[Wa l m v,if_pos E]
    ·rw[Aeg _ _ _ g,←D,n,if_neg (by omega)]
  obtain⟨R,H,q⟩:=F;refine⟨i+1,⟨s.o.set (t%256) (K1 (t/256+1) R).reverse,K1 (t/256+1) R,true⟩,?_,?_⟩
  ·unfold Oj;rw[if_pos y,H];rfl
  ·refine⟨hi,fun j B=>?_,fun j B C=>?_,?_,q,?_,fun j B=>?_,fun b' r=>?_⟩
   ·rcases Aoq j i with c|c
    ·have:=h.less j c;omega
    ·obtain rfl:j=i:=by omega
     rw[d,f];omega
   ·have h1:=Bu.key_lt (L:=L) (i:=i) (j:=j) (by omega) C;rw[d,f]at h1;omega
   ·show true=_;rw[Ana (by omega)]
   ·show(s.o.set _ _).length=256;rw[Aou,h.len]
   ·show(s.o.set (t%256) _).getD _ []=_;rcases Aoq j i with c|c
    ·rw[T8 _ _ _ _ (fun e=>by
      have e2:(Ae L).getD j 0=b:=UInt8.toNat_inj.1 (by rw[hb];exact e.symm);have:=h.less j c;rw[e2,f]at this;omega)]
     exact h.made j c
    ·obtain rfl:j=i:=by omega
     rw[d,hb,Za _ _ _ (by rw[h.len];exact I),q]
   ·show(s.o.set (t%256) _).getD _ []=_;rw[T8 _ _ _ _ (fun e=>r i (by omega) (by rw[d];exact UInt8.toNat_inj.1 (by rw[hb];exact e)))];exact h.none b' (fun j B=>r j (by omega))
 ·refine⟨k,s,by unfold Oj;rw[if_neg y],h.le,fun i hi=>by have:=h.less i hi;omega,fun i hi A=>?_,h.on,h.code,h.len,h.made,h.none⟩;have h1:=h.more i hi A;rcases Aoq (256+t) (G3 L ((Ae L).getD i 0))with c|c
  ·omega
  ·exfalso;have e:G3 L ((Ae L).getD i 0)=256+t:=by omega
   unfold G3 at e;have:=((Ae L).getD i 0).toNat_lt;apply y;have e1:((Ae L).getD i 0).toNat=t%256:=by omega
   have e2:lnB L ((Ae L).getD i 0)=t/256+1:=by omega
   rw[←e1,←Un,e2]
theorem Akj{L:Ard}(a:Bu L): ∀t,∃k s,cTo L t=some s∧Far L t k s
 |0=>by
  refine⟨0,_,rfl,Ann _,fun i hi=>by omega,fun i _ hi=>?_,rfl,rfl,Ani,fun i hi=>by omega,fun b _=>?_⟩
  ·have:=a.pos _ (Kd hi);unfold G3;omega
  ·rw[Am4,Ao1 b.toNat_lt];rfl
 |t+1=>by
  obtain⟨k,s,hs,e⟩:=Akj a t;obtain⟨k',s',d,c⟩:=e.step a;exact⟨k',s',by rw[cTo,hs,Option.bind_some,d],c⟩
theorem Al6{L:Ard}{s:CS}{k t:Nat}(b:Bu L)(a:Far L t k s)(ht:32*256≤t):k=(Ae L).length:=by
 rcases Aoq k (Ae L).length with c|c
 ·exfalso;have h1:=a.more k (Ane _) c;have h2:=b.short ((Ae L).getD k 0);unfold G3 at h1;have:=((Ae L).getD k 0).toNat_lt;omega
 ·have:=a.le;omega
theorem Aga{L:Ard}(a:Bu L){o:List (List Bool)}{ok:Bool}(h:Du L o ok):ok=true∧ ∀b:UInt8,o.getD b.toNat []=J6 (lnB L) (Bh L) b:=by
 obtain⟨k,s,hs,d⟩:=Akj a 65280;obtain⟨rfl,rfl⟩:=Du.to (some s) hs h;have hk:k=(Ae L).length:=Al6 a d (by omega);clear h hs;generalize 65280=T at d;refine⟨?_,fun b=>?_⟩
 ·rw[d.on,d.code];rcases a.kind with t|⟨h1,h2⟩|⟨h1,h2⟩
  ·rw[Anc (by omega)];rfl
  ·have n:k=1:=by omega
   have q:lnB L ((Ae L).getD 0 0)=1:=h2 _ (Kd (by omega));have l:(Ai L).length=1:=by rw[←Is L a.le255];exact h1
   have m:Bq L (Ae L) k=(0,1):=by rw[n,Bq,Mp,q];simp[Bq]
   rw[m,Ana l];have:(Aw 0 1==[false])=true:=by decide
   simp[this]
  ·have hi:(Ae L).length-1<(Ae L).length:=by omega
   have j:=a.fits.num _ hi;have p:=O1 32 L (Ae L) _ hi;have r:=a.short ((Ae L).getD ((Ae L).length-1) 0);have g:=a.fits.lt _ hi;rw[show(Ae L).length-1+1=(Ae L).length from by omega,Aof,h2,←j,show(Ae L).length-1+1=(Ae L).length from by omega]at p;rw[show(Ae L).length-1+1=(Ae L).length from by omega]at g;have f:(Bq L (Ae L) (Ae L).length).2=lnB L ((Ae L).getD ((Ae L).length-1) 0):=by
    have:=Hw L (Ae L) ((Ae L).length-1);rwa[show(Ae L).length-1+1=(Ae L).length from by omega]at this
   rw[hk,f,Wa _ _ g,if_neg]
   ·simp
   ·intro c;have e:(2:Nat)^32=2^lnB L ((Ae L).getD ((Ae L).length-1) 0)*2^(32-lnB L ((Ae L).getD ((Ae L).length-1) 0)):=by rw[←Nat.pow_add,Nat.add_sub_cancel' r]
    have v:0<(2:Nat)^(32-lnB L ((Ae L).getD ((Ae L).length-1) 0)):=App _;have u:=Nat.mul_lt_mul_of_pos_right c v;rw[←e,Ape,Nat.one_mul]at u;omega
 ·by_cases hb:b∈Ae L
  ·obtain⟨i,hi,rfl⟩:=Lo hb;rw[d.made i (by omega)];unfold J6 Bh;rw[Aef,Pn L i hi,Hw]
  ·rw[d.none b (fun i hi e=>hb (by rw[←e];exact Kd (by omega)))];have t:lnB L b=0:=by have:=mt (a.mem b).2 hb;omega
   unfold J6;rw[t];rfl
end Hm
end Go.Proofs.YtegnkfdbmmndaaaGreat
