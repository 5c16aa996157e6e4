import Derived.Test.YtegnkfdbmmndaaaGreatJ00
import Derived.Test.YtegnkfdbmmndaaaGreatJ24
import Derived.Test.YtegnkfdbmmndaaaGreatJ04
import Derived.Test.YtegnkfdbmmndaaaGreatJ02
import Derived.Test.YtegnkfdbmmndaaaGreatJ17
import Derived.Test.YtegnkfdbmmndaaaGreatJ23
import Derived.Test.YtegnkfdbmmndaaaGreatJ11

namespace Go.Proofs.YtegnkfdbmmndaaaGreat
open Hm
open Go.RowKit
namespace Hm
def E1(bs:List Bool)(m l:Nat):Nat→List Nat
 |0=>[]
 |k+1=>if bs.getD(m*l+k)false=true∧(E1 bs m l k).length<m then E1 bs m l k++[(k-(E1 bs m l k).length)*2^l+Hd((bs.drop((E1 bs m l k).length*l)).take l)]else E1 bs m l k
theorem O9(bs:List Bool)(m l:Nat): ∀k,(E1 bs m l k).length≤k∧(E1 bs m l k).length≤m
 |0=>⟨Alc _,Alk _⟩
 |k+1=>by
  have ih:=O9 bs m l k;rw[E1];split
  ·rename_i h;rw[Ald];simp only[List.length_singleton];omega
  ·omega
def I1(s:List UInt8)(st:RS)(m n:Nat):List Nat×RS:=
 (if(Cu s st(m*B4 m n+m+n/2^B4 m n+1)).2.2=true then []else E1(Cu s st(m*B4 m n+m+n/2^B4 m n+1)).1 m(B4 m n)(m+n/2^B4 m n+1),(Cu s st(m*B4 m n+m+n/2^B4 m n+1)).2)
theorem Ob(s:List UInt8)(st:RS)(n:Nat)(h:(Cu s st n).2.2=false):(Cu s st n).1.length=n:=by
 unfold Cu at h⊢;split at h
 ·rename_i hc;rw[hc]at h;cases h
 ·rename_i hc;rw[if_neg hc];simp
theorem Pa(x:List Bool)(a b:Nat):(⟨(Ad x).toArray⟩:ByteArray).extract a(a+b)=⟨(Ad((x.drop a).take b)).toArray⟩:=by
 apply Am8;rw[Anq];apply Amm;rw[Anw,Am6];simp[Ad,List.map_take,List.map_drop]
end Hm
set_option maxRecDepth 20000 in
set_option maxHeartbeats 2000000 in
theorem Ah8(p m n:Nat)(s:List UInt8)(st:Hm.RS)(w:World)(h:Cj w p s st)(hm:m≤40)(hn:n≤6000)(hst:st.1≤s.length)(hs:s.length≤30000):
  Calls Tryz.prog 75#[.pointer(some⟨p,0,none⟩),.int .i64 m,.int .i64 n]w fun e w'=> ∃v,e= .returned v∧w'.ownsRow w.heap.size 3 1 v(I1 s st m n).1.length(Ac(I1 s st m n).1)∧Cj w' p s(I1 s st m n).2∧Aa(fun j=>j=p)w w':=by
 obtain⟨i0,hi,hz0,hz1,hz2⟩:=info_parts Jr;have hpw:p<w.heap.size:=lt_of_block h;have hl12:=Nl m n hn;have hlow:=Vn m n w(by omega)hn;have HRE:Hid(I1 s st m n=(if(Cu s st(m*B4 m n+m+n/2^B4 m n+1)).2.2=true then []else E1(Cu s st(m*B4 m n+m+n/2^B4 m n+1)).1 m(B4 m n)(m+n/2^B4 m n+1),(Cu s st(m*B4 m n+m+n/2^B4 m n+1)).2)):=rfl;generalize I1 s st m n=RE at*;generalize B4 m n=l at*;have hpow:=Rf l w(by omega);obtain⟨P,hP⟩: ∃P,P=2^l:=⟨_,rfl⟩;have hP1:1≤P:=by rw[hP];exact Nat.one_le_two_pow
 have hP2:P≤4096:=by rw[hP];exact Amj(n:=2)(by omega)hl12
 obtain⟨d,hd⟩: ∃d,d=n/P:=⟨_,rfl⟩;have hdn:d≤n:=by rw[hd];exact Am4 _ _
 have hdP:d*P≤n:=by rw[hd];exact Nat.div_mul_le_self _ _
 obtain⟨ML,hML⟩: ∃ML,ML=m*l:=⟨_,rfl⟩;have hMLb:ML≤480:=by rw[hML];exact Al6 hm hl12
 have zml:(m:Int)*(l:Int)=(ML:Int):=by rw[hML];exact(Ant m l).symm
 have zd:(n:Int)/(P:Int)=(d:Int):=by rw[hd];exact(Int.natCast_ediv n P).symm
 rw[←hP]at hpow;rw[←hP,←hd,←hML]at HRE;obtain⟨U,hU⟩: ∃U,U=m+d+1:=⟨_,rfl⟩;rw[←hU]at HRE;have zU:(m:Int)+(d:Int)+1=(U:Int):=by omega
 obtain⟨T,hT⟩: ∃T,T=ML+m+d+1:=⟨_,rfl⟩;rw[←hT]at HRE;have hbits:=Y3 p T s st w h(by omega)hst hs;have HLE:Hid((Cu s st T).2.2=false→(Cu s st T).1.length=T):=Ob s st T;generalize Cu s st T=R at*;obtain⟨bs,st1⟩:=R;obtain⟨a1,bad⟩:=st1;have zT:(ML:Int)+(m:Int)+(d:Int)+1=(T:Int):=by omega
 have HP:Hid(P=2^l):=hP;have HML:Hid(ML=m*l):=hML;have hPI: ¬(P:Int)=0:=by omega
 have HT:Hid(T=ML+U∧U=m+d+1):=⟨by omega,hU⟩;have hTb:T≤7000:=by omega
 have hUb:U≤6100:=by omega
 clear h hst hP hd hML hT hU
 go_enter Tryz.func75,Tryz.ntmps75
 go_wp2_with fail;refine hlow.mono ?_;rintro e w1⟨rfl,rfl⟩;clear hlow;go_wp2_with fail;refine hpow.mono ?_;rintro e w2⟨rfl,rfl⟩;clear hpow;go_wp2_with fail;refine hbits.mono ?_;rintro e w3⟨rfl,hr3,hk3⟩;have hr3':w3.heap[p]?=some(.cells#[.string⟨s.toArray⟩,.int .i64(a1:Nat),.bool bad]145(0,0)):=hr3;have c2:w3.cell?⟨p,2,none⟩=some(.bool bad):=cell_of_row _ _ 2 _ _ _ hr3';obtain⟨S,hS⟩: ∃S,S=(⟨(Ad bs).toArray⟩:ByteArray):=⟨_,rfl⟩;have hSs:S.size=bs.length:=by rw[hS];show(Ad bs).toArray.size=_;simp[Ad]
 have HS:Hid(S=(⟨(Ad bs).toArray⟩:ByteArray)):=hS;have HG:Hid(∀i,(h:i<bs.length)→ ∃hi:i<S.size,S[i]=if bs[i]then 49 else 48):=fun i hi=>by
  have h1:i<S.size:=by omega
  refine⟨h1,?_⟩;subst hS;show(Ad bs).toArray[i]'_=_;simp[Ad]
 have H1:Hid(Cj w3 p s(a1,bad)∧Aa(fun j=>j=p)w2 w3):=⟨hr3,hk3⟩;rw[←hS];clear hbits hr3 hk3 hr3' hS;cases bad with
 |true=>
  go_wp2_with fail;go_ret;rw[HRE.out];exact⟨_,rfl,World.ownsRow_nil _ _ _ _,H1.out.1,H1.out.2⟩
 |false=>
  have hbl:=HLE.out rfl;have hsz:=H1.out.2.size;go_wp2_with fail
  go_loopw [10,11](fun vo vk wr=> ∃k:Nat,k≤U∧vk= .int .i64 k∧wr.ownsRow w3.heap.size 3 1 vo(E1 bs m l k).length(Ac(E1 bs m l k))∧Aa(fun _=>False)w3 wr)(fun _ vk _=>U-(intOf vk).toNat)
  case atStart=>exact⟨0,Alk _,rfl,World.ownsRow_nil _ _ _ _,Aa.refl _ _⟩
  case round=>
   obtain⟨k,hkU,rfl,hown,hkr⟩:=hrel;obtain⟨ao,co,hvo,_⟩:=A0 hown;subst hvo
   by_cases hlt:k<U
   ·have hltI:(k:Int)<(U:Int):=by omega
    have hdU:decide((k:Int)<(U:Int))=true:=decide_eq_true hltI;have hlen:=O9 bs m l k;obtain⟨q,hq⟩: ∃q,q=ML+k:=⟨_,rfl⟩;have hqb:q<bs.length:=by rw[hbl,HT.out.1,hq];omega
    obtain⟨hqS,hSq⟩:=HG.out q hqb;have zq:(ML:Int)+(k:Int)=(q:Int):=by omega
    have hqI:(q:Int)<(S.size:Int):=by omega
    have HST:Hid(E1 bs m l(k+1)=if bs[q]=true∧(E1 bs m l k).length<m then E1 bs m l k++[(k-(E1 bs m l k).length)*P+Hd((bs.drop((E1 bs m l k).length*l)).take l)]else E1 bs m l k):=by
     show _=_;rw[E1,←HML.out,←hq,←HP.out,Ak7,Ak8 hqb];rfl
    have HO:Hid(wr.ownsRow w3.heap.size 3 1(.slice ao(E1 bs m l k).length co)(E1 bs m l k).length(Ac(E1 bs m l k))∧Aa(fun _=>False)w3 wr):=⟨hown,hkr⟩;generalize E1 bs m l k=out at*;generalize bs[q]=bq at*;have HNO:Hid((bq=true∧out.length<m→False)→wr.ownsRow w3.heap.size 3 1(.slice ao out.length co)(E1 bs m l(k+1)).length(Ac(E1 bs m l(k+1)))):=fun hc=>by
     rw[HST.out,if_neg hc];exact HO.out.1
    clear hown hkr hq;cases bq with
    |false=>
     have hS48:S[q]=48:=hSq;clear hSq;go_wp2_with fail;go_roundw
     case rel=>exact⟨k+1,by omega,by go_num,HNO.out(fun h=>by cases h.1),HO.out.2⟩
     case measure=>simp[intOf];omega
    |true=>
     have hS49:S[q]=49:=hSq;clear hSq
     by_cases hom:out.length<m
     ·have hoI:(out.length:Int)<(m:Int):=by omega
      have hdo:decide((out.length:Int)<(m:Int))=true:=decide_eq_true hoI;rw[if_pos⟨rfl,hom⟩]at HST;obtain⟨IL,hIL⟩: ∃IL,IL=out.length*l:=⟨_,rfl⟩;obtain⟨EL,hEL⟩: ∃EL,EL=IL+l:=⟨_,rfl⟩;have zIL:(out.length:Int)*(l:Int)=(IL:Int):=by rw[hIL];exact(Ant _ l).symm
      have zEL:(IL:Int)+(l:Int)=(EL:Int):=by omega
      have hES:EL≤S.size:=by
       have h1:(out.length+1)*l≤m*l:=Amx l hom;rw[Nat.succ_mul,←hIL,←HML.out]at h1;rw[hSs,hbl,HT.out.1];omega
      have hEI:(EL:Int)≤(S.size:Int):=by omega
      have hIE:(IL:Int)≤(EL:Int):=by omega
      have hIS:(IL:Int)≤(S.size:Int):=by omega
      rw[←hIL]at HST;have hpl:((bs.drop IL).take l).length=l:=by rw[Alg,Aly];omega
      have hval:=Acb((bs.drop IL).take l)wr(by omega);rw[←Pa,←HS.out,←hEL]at hval;have hvl:=Ya((bs.drop IL).take l);rw[hpl,←HP.out]at hvl;generalize Hd((bs.drop IL).take l)=v at*;obtain⟨D,hD⟩: ∃D,D=k-out.length:=⟨_,rfl⟩;have zD:(k:Int)-(out.length:Int)=(D:Int):=by omega
      obtain⟨DP,hDP⟩: ∃DP,DP=D*P:=⟨_,rfl⟩;have zDP:(D:Int)*(P:Int)=(DP:Int):=by rw[hDP];exact(Ant D P).symm
      have hDPb:DP≤6100*4096:=by rw[hDP];exact Al6(by omega)hP2
      obtain⟨X,hX⟩: ∃X,X=DP+v:=⟨_,rfl⟩;have zX:(DP:Int)+(v:Int)=(X:Int):=by omega
      rw[←hD,←hDP,←hX]at HST;have ho3:=HO.out.1;have hsz2:=HO.out.2.size;clear hIL hEL hpl hD hDP hX;go_wp2_with fail;refine hval.mono ?_;rintro e w4⟨rfl,rfl⟩;clear hval HNO
      go_wp2_with(at_builtin;refine Ba _ rfl(.tmp 59)(.tmp 77)64 rfl w3.heap.size 3 i0(.int .i64 0)1 8 Tryz.underlying64 hi hz0 hz1 hz2 rfl(by decide)_ _ _ rfl(ho3.alloc _)⟨w4.heap.size,0,none⟩1 1 [.int .i64(X:Nat)]rfl rfl ?c1 ?c2 ?c3 ?c4 ?c5 ?_)
      case c1=>exact cell_one_new _ _ _
      case c2=>intro u hu;simp at hu;subst hu;rfl
      case c3=>unfold maxLen;omega
      case c4=>omega
      case c5=>simp only[World.alloc,Array.size_push];omega
      intro v5 w5 ho5 hg5 hm5;have hk5:Aa(fun _=>False)w3 w5:=(HO.out.2.alloc _).grown hg5(fun j hj=> .inl(ho3.lt j hj).1);have ho6:w5.ownsRow w3.heap.size 3 1 v5(E1 bs m l(k+1)).length(Ac(E1 bs m l(k+1))):=by
       have e1:Ac(out++[X])=Ac out++[.int .i64(X:Nat)]:=by simp[Ac]
       rw[HST.out,e1,Ald];exact ho5
      obtain⟨a5,c5,hv5,_⟩:=A0 ho6;subst hv5;have H5:Hid _:=And.intro ho6 hk5;clear ho5 hg5 hm5 ho6 hk5 ho3 HST HO;go_wp2_with fail;go_roundw
      case rel=>exact⟨k+1,by omega,by go_num,H5.out.1,H5.out.2⟩
      case measure=>simp[intOf];omega
     ·have hoI: ¬(out.length:Int)<(m:Int):=by omega
      have hdo:decide((out.length:Int)<(m:Int))=false:=decide_eq_false hoI;go_wp2_with fail;go_roundw
      case rel=>exact⟨k+1,by omega,by go_num,HNO.out(fun h=>hom h.2),HO.out.2⟩
      case measure=>simp[intOf];omega
   ·have hltI: ¬(k:Int)<(U:Int):=by omega
    have hdU:decide((k:Int)<(U:Int))=false:=decide_eq_false hltI;have hkk:k=U:=by omega
    subst hkk;have HF:Hid(wr.ownsRow w2.heap.size 3 1(.slice ao(E1 bs m l k).length co)(E1 bs m l k).length(Ac(E1 bs m l k))∧Cj wr p s(a1,false)∧Aa(fun j=>j=p)w2 wr):=
     ⟨E8 hown(fun j hj=>Alr hsz(hown.lt j hj).1),hkr.row H1.out.1 id,H1.out.2.trans(hkr.wider(T:=fun j=>j=p)(fun _ _ h=>h.elim))(fun _ _ h=>h)⟩
    clear hown hkr;go_wp2_with fail;go_ret;rw[HRE.out];exact⟨_,rfl,HF.out.1,HF.out.2.1,HF.out.2.2⟩
namespace Hm
def J1(n k j:Nat):List UInt8:=Ak n j++List.replicate(k-j)0
theorem Ah9(n k j:Nat)(h:j<k):J1 n k(j+1)=(J1 n k j).set j(UInt8.ofNat(n/256^j)):=by
 unfold J1;rw[Amb _ _(by rw[Cz];omega),Cz,Ama,show k-j=(k-(j+1))+1 from by omega,Amt(n:=k-(j+1)),Ak,Alo];rfl
end Hm
theorem Pb(m:Nat):(madeCells(Value.int .u8 0).cells(m*1)).toList=Ag(List.replicate m 0):=by
 rw[Ana,show(Value.int .u8 0).cells= #[Value.int .u8 0]from rfl,toList_madeCells_one];simp[Ag]
set_option maxHeartbeats 1000000 in
theorem Ga(n k:Nat)(w:World)(hk:k≤8)(hk1:1≤k)(hn:n≤4294967296):Calls Tryz.prog 41#[.int .i64 n,.int .i64 k]w fun e w'=>e= .returned(.string⟨(Ak n k).toArray⟩)∧Aa(fun _=>False)w w':=by
 obtain⟨i0,hi,hz0,hz1,hz2⟩:=info_parts Fv
 go_enter Tryz.func41,Tryz.ntmps41
 go_wp2_with(at_make;refine wpList_make_full _ rfl(.tmp 7)(.tmp 7)79 rfl w.heap.size 5 i0(.int .u8 0)1 Tryz.underlying79 hi hz0 hz1 .i64 .i64 _ _ k rfl rfl(by omega)(by omega)(by rw[hz2];omega)(by unfold maxLen;omega)(Alc _)?_;intro w2 ho2 hg2)
 have hr1:w2.ownsRow w.heap.size 5 1(.slice(some⟨w.heap.size,0,none⟩)k k)k(Ag(J1 n k 0)):=by
  have e:J1 n k 0=List.replicate k 0:=by simp[J1,Ak]
  rw[e,←Pb];exact ho2
 have hk1':Aa(fun _=>False)w w2:=(Aa.refl _ _).grown hg2(fun k hk=>by cases hk);clear ho2 hg2
 go_loopw [0,6](fun x i wr=> ∃j:Nat,j≤k∧i= .int .i64 j∧x= .int .i64((n/256^j:Nat):Int)∧wr.ownsRow w.heap.size 5 1(.slice(some⟨w.heap.size,0,none⟩)k k)k(Ag(J1 n k j))∧Aa(fun _=>False)w wr)(fun _ i _=>k-(intOf i).toNat)
 case atStart=>exact⟨0,Alk _,rfl,by simp,hr1,hk1'⟩
 case round=>
  clear hr1 hk1';obtain⟨j,hj,rfl,rfl,hr,hkr⟩:=hrel;have hyl:n/256^j≤4294967296:=Alr(Am4 _ _)hn;have HP:Hid(n/256^(j+1)=n/256^j/256):=by show _=_;rw[Amd,An2]
  have hll:(J1 n k j).length=k:=by simp[J1,Cz];omega
  by_cases hlt:j<k
  ·have hdec:decide((j:Int)<(k:Int))=true:=by simp;omega
   have hc:wr.cell?⟨w.heap.size,j,none⟩=some(.int .u8((J1 n k j)[j]'(by omega)).toNat):=by
    rw[hr.cellAt j(by omega)];simp only[Ag,Aln,Ak8(show j<(J1 n k j).length by omega)];rfl
   have hf:wr.frozen?⟨w.heap.size,j,none⟩=false:=hr.frozenAt _;have HS:=(hr.stored j(.int .u8((n/256^j%256:Nat):Nat))).1;have H2:Hid((wr.setCell⟨w.heap.size,j,none⟩(.int .u8((n/256^j%256:Nat):Nat))).ownsRow w.heap.size 5 1(.slice(some⟨w.heap.size,0,none⟩)k k)k(Ag(J1 n k(j+1)))):=by
    show World.ownsRow _ _ _ _ _ _ _;rw[Ah9 _ _ _ hlt];have e2:Ag((J1 n k j).set j(UInt8.ofNat(n/256^j)))=(Ag(J1 n k j)).set j(.int .u8((n/256^j%256:Nat):Nat)):=by
     rw[Ag,Amz,Al0];rfl
    rw[e2];exact HS
   generalize((J1 n k j)[j]'(by omega)).toNat=old at hc;clear HS hr hll;generalize n/256^j=y at*;go_wp2;go_roundw
   case rel=>exact⟨j+1,by omega,by go_num,by rw[HP.out];go_num,by simpa using H2.out,hkr.setCell(.inl(Alc _))_⟩
   case measure=>simp[intOf];omega
  ·have hdec:decide((j:Int)<(k:Int))=false:=by simp;omega
   have hje:j=k:=by omega
   subst hje;have hcv:=Gt hr;have e:J1 n j j=Ak n j:=by simp[J1]
   rw[e]at hcv;clear hr hll HP e;generalize n/256^j=y at*;generalize hl:Ak n j=l at*;have HL:Hid(Ak n j=l):=hl;clear hl;go_wp2;go_ret;exact⟨by rw[HL.out];rfl,hkr⟩
theorem Vd: ∀(a b:List UInt8),Op.bytesLess a b=!(Op.bytesLess b a||b==a)
 |[],[]=>rfl
 |[],b::y=>rfl
 |a::x,[]=>rfl
 |a::x,b::y=>by
  have ih:=Vd x y;simp only[Op.bytesLess,List.cons_beq_cons];rcases Al4 a.toNat b.toNat with h|h|h
  ·have h1:a<b:=UInt8.lt_iff_toNat_lt.2 h;have h2: ¬b<a:=fun e=>by have:=UInt8.lt_iff_toNat_lt.1 e;omega
   have h3:(b==a)=false:=by rw[beq_eq_false_iff_ne];rintro rfl;omega
   simp[h1,h2,h3]
  ·have h1:a=b:=UInt8.toNat_inj.1 h;subst h1;have h2: ¬a<a:=fun e=>by have:=UInt8.lt_iff_toNat_lt.1 e;omega
   simp[h2,ih]
  ·have h1:b<a:=UInt8.lt_iff_toNat_lt.2 h;have h2: ¬a<b:=fun e=>by have:=UInt8.lt_iff_toNat_lt.1 e;omega
   have h3:(a==b)=false:=by rw[beq_eq_false_iff_ne];rintro rfl;omega
   simp[h1,h2,h3]
theorem Aia(nm:ByteArray)(h:nm.size≠0):Hm.leB nm⟨#[]⟩=false:=by
 have hl:nm.data.toList.length=nm.size:=by simp
 unfold Hm.leB;rw[ByteArray.toList_eq,ByteArray.toList_eq];cases e:nm.data.toList with
 |nil=>rw[e]at hl;simp at hl;omega
 |cons x l=>rfl
set_option maxHeartbeats 1000000 in
theorem Acc(ao:Option Addr)(c:Nat)(fs:List(ByteArray×ByteArray))(w:World)(hf:C0 w ao fs)(hl:fs.length≤140737488355328)(hsz: ∀f∈fs,f.1.size≤140737488355328∧f.2.size≤140737488355328):
  Calls Tryz.prog 38#[.slice ao fs.length c]w fun e w'=>e= .returned(.int .i64(Bo fs))∧Aa(fun _=>False)w w':=by
 by_cases h40:40<fs.length
 ·clear hf
  go_enter Tryz.func38,Tryz.ntmps38
  go_wp2;go_ret;exact⟨Fb(by rw[Bo,if_pos h40]),Aa.refl _ _⟩
 have HE:Hid(Bo fs=Fz⟨#[]⟩0(fs.drop 0)):=by rw[Bo,if_neg h40];rfl
 generalize Bo fs=E at HE⊢
 go_enter Tryz.func38,Tryz.ntmps38
 go_wp2
 go_loopw [3,4](fun t i wr=> ∃(k:Nat)(tot:Nat)(ah:ByteArray),k≤fs.length∧i= .int .i64 k∧t= .int .i64 tot∧tot≤3000*k∧E=Fz ah tot(fs.drop k)∧(ah=if k=0 then⟨#[]⟩else(fs.getD(k-1)(⟨#[]⟩,⟨#[]⟩)).1)∧Aa(fun _=>False)w wr)(fun _ i _=>fs.length-(intOf i).toNat)
 case atStart=>exact⟨0,0,_,Alk _,rfl,rfl,by omega,HE.out,rfl,Aa.refl _ _⟩
 case round=>
  clear HE;obtain⟨k,tot,ah,hk,rfl,rfl,ht,hE,hah,hkr⟩:=hrel;have HE:Hid(E=Fz ah tot(fs.drop k)):=hE;clear hE
  by_cases hlt:k<fs.length
  ·obtain⟨b,o,hao,hbw,hc1,hc2⟩:=(hf.kept hkr(fun a ha=>id))k hlt;obtain⟨hs1,hs2⟩:=hsz fs[k](Alh _);have HT:Hid(E=if Cm fs[k].1 fs[k].2 ah=0 then Fz fs[k].1(tot+fs[k].2.size)(fs.drop(k+1))else Cm fs[k].1 fs[k].2 ah):=HE.out.trans(Uh fs k hlt ah tot);have hnx:(fs.getD(k+1-1)(⟨#[]⟩,⟨#[]⟩)).1=fs[k].1:=by rw[Am7,Ak7,Ak8 hlt];rfl
   have HNX:Hid(fs[k].1=if k+1=0 then⟨#[]⟩else(fs.getD(k+1-1)(⟨#[]⟩,⟨#[]⟩)).1):=by show _=_;rw[if_neg(by omega),hnx]
   have hdec:decide((k:Int)<(fs.length:Int))=true:=by simp;omega
   have hprev: ∀k',k=k'+1→wr.cell?⟨b,o+k'*2,none⟩=some(.string ah):=by
    intro k' hk';obtain⟨b',o',hao',_,hd1,_⟩:=(hf.kept hkr(fun a ha=>id))k'(by omega);rw[hao']at hao;cases hao;rw[hd1,hah,if_neg(by omega),show k-1=k' from by omega,Ak7,Ak8(by omega)];rfl
   have h00:k=0→ah=⟨#[]⟩:=fun e=>by rw[hah,if_pos e]
   generalize fs[k].1=nm at*;generalize fs[k].2=ct at*;subst hao;clear hf HE hsz hah hnx
   by_cases b1:nm.size=0∨32<nm.size
   ·have HC:Hid(E=2):=by show _=_;rw[HT.out,X5 b1];rfl
    clear hprev h00;rcases b1 with b1|b1
    ·have hd1:decide(nm.size<1)=true:=decide_eq_true(by omega);have hd2:decide((nm.size:Int)<1)=true:=decide_eq_true(by omega);go_wp2;go_ret;exact⟨Fb HC.out.symm,hkr⟩
    ·have hd1:decide(nm.size<1)=false:=decide_eq_false(by omega);have hd2:decide((nm.size:Int)<1)=false:=decide_eq_false(by omega);have hd3:decide(32<(nm.size:Int))=true:=decide_eq_true(by omega);go_wp2;go_ret;exact⟨Fb HC.out.symm,hkr⟩
   ·have hd1:decide(nm.size<1)=false:=decide_eq_false(by omega);have hd2:decide((nm.size:Int)<1)=false:=decide_eq_false(by omega);have hd3:decide(32<(nm.size:Int))=false:=decide_eq_false(by omega);cases k with
    |zero=>
     simp only[Nat.zero_mul,Anr]at hc1 hc2;have hlt':(0:Int)<(fs.length:Int):=by omega
     have hlt2:decide(0<fs.length)=true:=decide_eq_true hlt;have hle0:Hm.leB nm ah=false:=by rw[h00 rfl];exact Aia nm(by omega)
     clear hprev h00
     by_cases hbig:3000<ct.size
     ·have HC:Hid(E=4):=by
       show _=_;have hcf:Cm nm ct ah=4:=by rw[Cm,if_neg b1,hle0,if_neg(show¬(false=true)by decide),if_pos hbig]
       rw[HT.out,hcf];rfl
      have hd4:decide(3000<(ct.size:Int))=true:=decide_eq_true(by omega);go_wp2
      go_region
      go_wp2;go_ret;exact⟨Fb HC.out.symm,hkr.drew⟩
     ·have HC:Hid(E=Fz nm(tot+ct.size)(fs.drop(0+1))):=by
       show _=_;have hcf:Cm nm ct ah=0:=by rw[Cm,if_neg b1,hle0,if_neg(show¬(false=true)by decide),if_neg hbig]
       rw[HT.out,if_pos hcf]
      have hd4:decide(3000<(ct.size:Int))=false:=decide_eq_false(by omega);go_wp2
      go_region
      go_wp2;go_roundw
      case rel=>exact⟨1,tot+ct.size,nm,by omega,by go_num,by go_num,by omega,HC.out,HNX.out,hkr.drew⟩
      case measure=>simp[intOf];omega
    |succ k'=>
     have hp1:=hprev k' rfl;clear hprev h00;have hk63:k'≤140737488355328:=by omega
     have hkl:(k':Int)+1<(fs.length:Int):=by omega
     have hkl2:(k':Int)<(fs.length:Int):=by omega
     by_cases hle:Hm.leB nm ah=true
     ·have HC:Hid(E=3):=by
       show _=_;have hcf:Cm nm ct ah=3:=by rw[Cm,if_neg b1,hle,if_pos rfl]
       rw[HT.out,hcf];rfl
      have hbl:Op.bytesLess ah.toList nm.toList=false:=by
       rw[Vd];unfold Hm.leB at hle;rw[hle];rfl
      clear hle;go_wp2
      go_region
      go_wp2;go_ret;exact⟨Fb HC.out.symm,hkr.drew⟩
     ·have hle0:Hm.leB nm ah=false:=by simpa using hle
      have hbl:Op.bytesLess ah.toList nm.toList=true:=by
       rw[Vd];unfold Hm.leB at hle0;rw[hle0];rfl
      clear hle
      by_cases hbig:3000<ct.size
      ·have HC:Hid(E=4):=by
        show _=_;have hcf:Cm nm ct ah=4:=by rw[Cm,if_neg b1,hle0,if_neg(show¬(false=true)by decide),if_pos hbig]
        rw[HT.out,hcf];rfl
       have hd4:decide(3000<(ct.size:Int))=true:=decide_eq_true(by omega);clear hle0;go_wp2
       go_region
       go_wp2;go_ret;exact⟨Fb HC.out.symm,hkr.drew⟩
      ·have HC:Hid(E=Fz nm(tot+ct.size)(fs.drop(k'+1+1))):=by
        show _=_;have hcf:Cm nm ct ah=0:=by rw[Cm,if_neg b1,hle0,if_neg(show¬(false=true)by decide),if_neg hbig]
        rw[HT.out,if_pos hcf]
       have hd4:decide(3000<(ct.size:Int))=false:=decide_eq_false(by omega);clear hle0;go_wp2
       go_region
       go_wp2;go_roundw
       case rel=>exact⟨k'+1+1,tot+ct.size,nm,by omega,by go_num,by go_num,by omega,HC.out,HNX.out,hkr.drew⟩
       case measure=>simp[intOf];omega
  ·obtain rfl:k=fs.length:=by omega
   have HT2:Hid(E=if 6000<tot then 5 else 0):=by have h:=HE.out;rw[Amy]at h;exact h
   have hdec:decide((fs.length:Int)<(fs.length:Int))=false:=by simp
   clear HE hf hah
   by_cases h6:6000<tot
   ·go_wp2;go_ret;exact⟨Fb(by rw[HT2.out,if_pos h6]),hkr⟩
   ·go_wp2;go_ret;exact⟨Fb(by rw[HT2.out,if_neg h6]),hkr⟩
namespace Hm
def Fc(fs:List(ByteArray×ByteArray)):List UInt8:=fs.flatMap fun f=>f.2.data.toList
theorem Sk(fs:List(ByteArray×ByteArray))(k:Nat)(h:k<fs.length):Fc(fs.take(k+1))=Fc(fs.take k)++fs[k].2.data.toList:=by
 rw[Ale h];unfold Fc;rw[Amq];congr 1;simp
theorem Wo(fs:List(ByteArray×ByteArray))(M:Nat)(h: ∀f∈fs,f.2.size≤M): ∀k,k≤fs.length→(Fc(fs.take k)).length≤M*k
 |0,_=>by simp[Fc]
 |k+1,hk=>by
  have ih:=Wo fs M h k(by omega);have h2:=h fs[k](Alh _);have h3:fs[k].2.data.toList.length=fs[k].2.size:=by simp
  rw[Sk fs k(by omega),Ald,Nat.mul_succ];omega
end Hm
theorem Akp(l:List UInt8)(s:ByteArray):(⟨l.toArray⟩:ByteArray)++s=⟨(l++s.data.toList).toArray⟩:=by
 apply Am8;simp[ByteArray.data_append]
set_option maxHeartbeats 1000000 in
theorem Ad3(ao:Option Addr)(c:Nat)(fs:List(ByteArray×ByteArray))(w:World)(hf:C0 w ao fs)(hl:fs.length≤40)(hsz: ∀f∈fs,f.2.size≤3000):
  Calls Tryz.prog 39#[.slice ao fs.length c]w fun e w'=>e= .returned(.string⟨(Fc fs).toArray⟩)∧w'=w:=by
 go_enter Tryz.func39,Tryz.ntmps39
 go_wp2
 go_loop [3,4](fun t i=> ∃k:Nat,k≤fs.length∧i= .int .i64 k∧t= .string⟨(Fc(fs.take k)).toArray⟩)(fun _ i=>fs.length-(intOf i).toNat)
 case atStart=>exact⟨0,Alk _,rfl,rfl⟩
 case round=>
  obtain⟨k,hk,rfl,rfl⟩:=hrel;have hle:=Wo fs 3000 hsz k hk
  by_cases hlt:k<fs.length
  ·obtain⟨b,o,hao,hbw,hc1,hc2⟩:=hf k hlt;have hs2:=hsz fs[k](Alh _);have HT:Hid(Fc(fs.take(k+1))=Fc(fs.take k)++fs[k].2.data.toList):=Sk fs k hlt;have hdec:decide((k:Int)<(fs.length:Int))=true:=decide_eq_true(by omega);generalize fs[k].2=ct at*;subst hao;clear hf hsz;have hsm: ¬9223372036854775807<(Fc(fs.take k)).length+ct.size:=by omega
   generalize Fc(fs.take k)=l at*;go_wp2
   go_round
   case rel=>exact⟨k+1,by omega,by go_num,by rw[HT.out,Akp]⟩
   case measure=>simp[intOf];omega
  ·have hke:k=fs.length:=by omega
   subst hke;have hdec:decide((fs.length:Int)<(fs.length:Int))=false:=by simp
   rw[Alx];generalize hl':Fc fs=l at*;have HL:Hid(Fc fs=l):=hl';clear hl' hf hsz hle;go_wp2;go_ret;exact⟨by rw[HL.out];rfl,rfl⟩
namespace Hm
theorem Y8(f:Nat→Bool)(j:Nat)(hj:j<8)(h:f j=false):Jm f+2^j=Jm(fun k=>if k=j then true else f k):=by
 unfold Jm
 match j,hj with
 |0,_=>simp[h];omega
 |1,_=>simp[h];omega
 |2,_=>simp[h];omega
 |3,_=>simp[h];omega
 |4,_=>simp[h];omega
 |5,_=>simp[h];omega
 |6,_=>simp[h];omega
 |7,_=>simp[h]
theorem Acd(bits:List Bool)(k:Nat)(h:k<bits.length)(h0:bits.getD k false=false):Ah(bits.set k true)=(Ah bits).set(k/8)(UInt8.ofNat(Fx bits(k/8)+2^(k%8))):=by
 rw[Ra bits k h];congr 2;rw[Fx,Aan _ _(by omega),Y8 _ _(by omega)(by rw[show 8*(k/8)+k%8=k from by omega];exact h0)]
theorem Ace(bits:List Bool)(k:Nat)(h0:bits.getD k false=false):Fx bits(k/8)+2^(k%8)<256:=by
 rw[Fx,Y8 _ _(by omega)(by rw[show 8*(k/8)+k%8=k from by omega];exact h0)];exact Aam _
def Dn(bits:List Bool)(k:Nat):List Bool:=bits.take k++List.replicate(bits.length-k)false
theorem Acf(bits:List Bool)(k:Nat)(h:k≤bits.length):(Dn bits k).length=bits.length:=by simp[Dn];omega
theorem Y9(bits:List Bool)(k:Nat)(h:k≤bits.length):(Dn bits k).getD k false=false:=by
 unfold Dn;rw[Ak7,Alm(by simp;omega),An0];split<;>rfl
theorem Wp(bits:List Bool)(k:Nat)(h:k<bits.length):Dn bits(k+1)=(Dn bits k).set k bits[k]:=by
 unfold Dn;have hl:(bits.take k).length=k:=by simp;omega
 rw[Amb _ _(by omega),hl,Ama,show bits.length-k=(bits.length-(k+1))+1 from by omega,Amt,Ale h,Alo];rfl
theorem Agl(bits:List Bool)(k:Nat)(h:k<bits.length)(h0:bits[k]=false):Dn bits(k+1)=Dn bits k:=by
 rw[Wp bits k h,h0];apply Al1
 ·simp
 ·intro i h1 h2;rw[Anf];split
  ·rename_i e;have:=Y9 bits k(by omega);subst e;rw[Ak7,Ak8 h2]at this;simpa using this.symm
  ·rfl
theorem Agm(bits:List Bool):Ah(Dn bits 0)=List.replicate((bits.length+7)/8)0:=by
 have e:Dn bits 0=[]++List.replicate bits.length false:=by simp[Dn]
 rw[e,Ql];simp[Ah]
theorem Aib(bits:List Bool):Dn bits bits.length=bits:=by simp[Dn]
end Hm
set_option maxHeartbeats 2000000 in
theorem M8(bits:List Bool)(w:World)(hl:bits.length≤100000000):Calls Tryz.prog 42#[.string⟨(Ad bits).toArray⟩]w fun e w'=>e= .returned(.string⟨(Ah bits).toArray⟩)∧Aa(fun _=>False)w w':=by
 obtain⟨i0,hi,hz0,hz1,hz2⟩:=info_parts Fv;obtain⟨s,hs⟩: ∃s,s=(⟨(Ad bits).toArray⟩:ByteArray):=⟨_,rfl⟩;have hsz:s.size=bits.length:=by rw[hs];show(Ad bits).toArray.size=_;simp[Ad]
 have hget: ∀k,(h:k<s.size)→(h2:k<bits.length)→s[k]=if bits[k]then 49 else 48:=fun k h h2=>by
  subst hs;show(Ad bits).toArray[k]'_=_;simp[Ad]
 rw[←hs];have HS:Aside(s.size=bits.length):=hsz;have HG:Aside _:=hget;have hsl:s.size≤100000000:=by omega
 clear hget hs hsz
 go_enter Tryz.func42,Tryz.ntmps42
 go_wp2_with(at_make;refine wpList_make_full _ rfl(.tmp 8)(.tmp 8)79 rfl w.heap.size 5 i0(.int .u8 0)1 Tryz.underlying79 hi hz0 hz1 .i64 .i64 _ _((s.size+7)/8)rfl rfl(by omega)(by omega)(by rw[hz2];omega)(by unfold maxLen;omega)(Alc _)?_;intro w2 ho2 hg2)
 have hr1:w2.ownsRow w.heap.size 5 1(.slice(some⟨w.heap.size,0,none⟩)((s.size+7)/8)((s.size+7)/8))((s.size+7)/8)(Ag(Ah(Dn bits 0))):=by
  rw[Agm,←HS.out,←Pb];exact ho2
 have hk1:Aa(fun _=>False)w w2:=(Aa.refl _ _).grown hg2(fun k hk=>by cases hk);clear ho2 hg2
 go_loopw [4](fun i wr=> ∃k:Nat,k≤s.size∧i= .int .i64 k∧wr.ownsRow w.heap.size 5 1(.slice(some⟨w.heap.size,0,none⟩)((s.size+7)/8)((s.size+7)/8))((s.size+7)/8)(Ag(Ah(Dn bits k)))∧Aa(fun _=>False)w wr)(fun i _=>s.size-(intOf i).toNat)
 case atStart=>exact⟨0,Alk _,rfl,hr1,hk1⟩
 case round=>
  clear hr1 hk1;obtain⟨k,hk,rfl,hr,hkr⟩:=hrel
  by_cases hlt:k<s.size
  ·have hdec:decide((k:Int)<(s.size:Int))=true:=decide_eq_true(by omega);have hkb:k<bits.length:=by have:=HS.out;omega
   have hsk:=HG.out k hlt hkb
   by_cases hb:bits[k]=true
   ·rw[if_pos hb]at hsk;have hpl:=Acf bits k(by omega);have h0:=Y9 bits k(by omega);have hlt8:=Ace(Dn bits k)k h0;have hby:=Py(Dn bits k)(k/8);have hc1:wr.cell?⟨w.heap.size,k/8,none⟩=some(.int .u8(Fx(Dn bits k)(k/8):Nat)):=by
     rw[hr.cellAt(k/8)(by omega)];simp only[Ag,Aln];rw[Ak8(by rw[A4,hpl];omega),Gz];simp;omega
    have hf1:wr.frozen?⟨w.heap.size,k/8,none⟩=false:=hr.frozenAt _;have HST:=(hr.stored(k/8)(.int .u8((Fx(Dn bits k)(k/8)+2^(k%8):Nat):Int))).1;have e2:Ah(Dn bits(k+1))=(Ah(Dn bits k)).set(k/8)(UInt8.ofNat(Fx(Dn bits k)(k/8)+2^(k%8))):=by
     rw[Wp _ _ hkb,hb];exact Acd _ _(by omega)h0
    have e3:Ag((Ah(Dn bits k)).set(k/8)(UInt8.ofNat(Fx(Dn bits k)(k/8)+2^(k%8))))=(Ag(Ah(Dn bits k))).set(k/8)(.int .u8((Fx(Dn bits k)(k/8)+2^(k%8):Nat):Int)):=by
     rw[Ag,Amz,Rb hlt8];rfl
    have H2:Hid((wr.setCell⟨w.heap.size,k/8,none⟩(.int .u8((Fx(Dn bits k)(k/8)+2^(k%8):Nat):Int))).ownsRow w.heap.size 5 1(.slice(some⟨w.heap.size,0,none⟩)((s.size+7)/8)((s.size+7)/8))((s.size+7)/8)(Ag(Ah(Dn bits(k+1))))):=by
     show World.ownsRow _ _ _ _ _ _ _;rw[e2,e3];exact HST
    have hp:2^(k%8)<256:=Nat.pow_lt_pow_right(a:=2)(by omega)(by omega:k%8<8);generalize Fx(Dn bits k)(k/8)=y at*;have hp2:((2:Int)^(k%8))=((2^(k%8):Nat):Int):=by simp
    obtain⟨z,hz⟩: ∃z,z=2^(k%8):=⟨_,rfl⟩;rw[←hz]at H2 hp2 hlt8 hp;have hz2:IntKind.u8.wrap((y:Int)+(z:Int))=(y:Int)+(z:Int):=by rw[IntKind.wrap_u8];omega
    have H3:Hid((wr.setCell⟨w.heap.size,k/8,none⟩(.int .u8((y:Int)+(z:Int)))).ownsRow w.heap.size 5 1(.slice(some⟨w.heap.size,0,none⟩)((s.size+7)/8)((s.size+7)/8))((s.size+7)/8)(Ag(Ah(Dn bits(k+1))))):=by
     have:=H2.out;rw[show((y+z:Nat):Int)=(y:Int)+(z:Int)from by omega]at this;exact this
    have hki:(k:Int)/8<((s.size:Int)+7)/8:=by omega
    have hzm:(z:Int)%256=(z:Int):=by omega
    clear HST hr hpl h0 e2 e3 hb H2 HG hz;go_wp2_with fail
    go_region
    go_wp2;go_roundw
    case rel=>exact⟨k+1,by omega,by go_num,H3.out,(hkr.setCell(.inl(Alc _))_).drew⟩
    case measure=>simp[intOf];omega
   ·have hb':bits[k]=false:=by simpa using hb
    rw[if_neg hb]at hsk;rw[←Agl bits k hkb hb']at hr;have HR:Hid(wr.ownsRow w.heap.size 5 1(.slice(some⟨w.heap.size,0,none⟩)((s.size+7)/8)((s.size+7)/8))((s.size+7)/8)(Ag(Ah(Dn bits(k+1))))):=hr;clear hr hb hb' HG;go_wp2;go_roundw
    case rel=>exact⟨k+1,by omega,by go_num,HR.out,hkr⟩
    case measure=>simp[intOf];omega
  ·obtain rfl:k=s.size:=by omega
   have hdec:decide((s.size:Int)<(s.size:Int))=false:=decide_eq_false(by omega);rw[HS.out,Aib,←HS.out]at hr;have hcv:=Gt hr;obtain⟨q,hq⟩: ∃q,q=(⟨(Ah bits).toArray⟩:ByteArray):=⟨_,rfl⟩;rw[←hq]at hcv;have HQ:Aside(q=(⟨(Ah bits).toArray⟩:ByteArray)):=hq;clear hr HG hq;go_wp2;go_ret;exact⟨by rw[HQ.out];rfl,hkr⟩
namespace Hm
theorem Hj(a b:List Bool):Ad(a++b)=Ad a++Ad b:=by simp[Ad]
theorem E5(a:List Bool):(Ad a).length=a.length:=by simp[Ad]
end Hm
theorem Pp(a b:List UInt8):(⟨a.toArray⟩:ByteArray)++⟨b.toArray⟩=⟨(a++b).toArray⟩:=by
 apply Am8;simp[ByteArray.data_append]
set_option maxHeartbeats 2000000 in
theorem Yb(ao:Option Addr)(c:Nat)(ps:List Nat)(w:World)(hi:Jq w ao ps)(hm1:1≤ps.length)(hm:ps.length≤6001)(he: ∀p∈ps,p≤6000):
  Calls Tryz.prog 47#[.slice ao ps.length c]w fun e w'=>e= .returned(.string⟨(Ad(Dd ps)).toArray⟩)∧ ∃q,w'=w.drewN q:=by
 have hw10:Lib.bitLen((ps.length-1)/8)≤10:=Lib.bitLen_le _ 10(by omega)(by omega);have HR:Hid(Dd ps=(ps.map fun p=>decide(p%8=0))++By ps(Lib.bitLen((ps.length-1)/8))):=rfl;rw[HR.out,Hj,←Pp];have hwd:=fun W=>Ac4(ps.length-1)W(by omega);rw[show((ps.length-1:Nat):Int)=(ps.length:Int)-1 from by omega]at hwd;generalize Lib.bitLen((ps.length-1)/8)=L at*;clear HR
 go_enter Tryz.func47,Tryz.ntmps47
 go_wp2_with fail
 go_loopw [4,5,6](fun ms rs i wr=> ∃k:Nat,k≤ps.length∧i= .int .i64 k∧ms= .string⟨(Ad((ps.take k).map fun p=>decide(p%8=0))).toArray⟩∧rs= .string⟨(Ad(By(ps.take k)L)).toArray⟩∧ ∃q,wr=w.drewN q)(fun _ _ i _=>ps.length-(intOf i).toNat)
 case atStart=>exact⟨0,Alk _,rfl,rfl,rfl,0,rfl⟩
 case round=>
  obtain⟨k,hk,rfl,rfl,rfl,hq⟩:=hrel;have HW:Aside(∃q,wr=w.drewN q):=hq;have hcw: ∀p,wr.cell? p=w.cell? p:=fun p=>by obtain⟨q,e⟩:=hq;rw[e];rfl
  clear hq;have hl1:(Ad((ps.take k).map fun p=>decide(p%8=0))).length≤6001:=by rw[E5];simp;omega
  have hl2:(Ad(By(ps.take k)L)).length≤60010:=by
   rw[E5];have h1:=O5(ps.take k)L;have h2:(ps.take k).length*L≤6001*10:=Al6(by simp;omega)hw10;omega
  by_cases hlt:k<ps.length
  ·obtain⟨b,o,hao,hbw,hc1⟩:=hi k hlt;have hek:=he ps[k](Alh _);have HT:Hid(Ad((ps.take(k+1)).map fun p=>decide(p%8=0))=Ad((ps.take k).map fun p=>decide(p%8=0))++[if ps[k]%8=0 then 49 else 48]):=by
    show _=_;rw[Ale hlt,Amp,Hj]
    by_cases e:ps[k]%8=0<;>simp[Ad,e]
   have HT2:Hid(By(ps.take(k+1))L=By(ps.take k)L++if ps[k]%8=0 then Av(ps[k]/8)L else []):=Qu ps L k hlt;have hdec:decide((k:Int)<(ps.length:Int))=true:=decide_eq_true(by omega);generalize ps[k]=x at*;subst hao;have hc:wr.cell?⟨b,o+k,none⟩=some(.int .i64(x:Nat)):=by rw[hcw];exact hc1
   clear hc1 hcw;have hsm1: ¬9223372036854775807<(Ad((ps.take k).map fun p=>decide(p%8=0))).length+1:=by omega
   clear hi he
   by_cases hx8:x%8=0
   ·have hnum:=fun W=>Qn(x/8)L W(by omega)(by omega);rw[show((x/8:Nat):Int)=(x:Int)/8 from by omega]at hnum;have hx1:((x:Int)%8==0)=true:=by simp;omega
    rw[if_pos hx8]at HT HT2;have HT3:Hid(Ad(By(ps.take(k+1))L)=Ad(By(ps.take k)L)++Ad(Av(x/8)L)):=by
     show _=_;rw[HT2.out,Hj]
    have hnl:(Ad(Av(x/8)L)).length≤10:=by rw[E5,Dj];exact hw10
    have hsm2: ¬9223372036854775807<(Ad(By(ps.take k)L)).length+(Ad(Av(x/8)L)).length:=by omega
    clear HT2 hl1 hl2 hnl;generalize Ad((ps.take k).map fun p=>decide(p%8=0))=A at*;generalize Ad(By(ps.take k)L)=B at*;generalize Ad(Av(x/8)L)=C at*;go_wp2_with fail;go_quiet(first|(refine Calls.quiet_of_same(hwd _))|(refine Calls.quiet_of_same(hnum _)));go_wp2;go_roundw
    case rel=>
     obtain⟨q,e⟩:=HW.out;exact⟨k+1,by omega,by go_num,by rw[HT.out,P4],by rw[HT3.out,Pp],q+nq,by rw[e,World.drewN_drewN]⟩
    case measure=>simp[intOf];omega
   ·have hx1:((x:Int)%8==0)=false:=by simp;omega
    rw[if_neg hx8]at HT HT2;rw[Amk]at HT2;clear hl1 hl2;generalize Ad((ps.take k).map fun p=>decide(p%8=0))=A at*;obtain⟨B,hB⟩: ∃B,B=Ad(By(ps.take k)L):=⟨_,rfl⟩;rw[←hB];have HB:Aside(B=Ad(By(ps.take k)L)):=hB;clear hB;go_wp2;go_roundw
    case rel=>exact⟨k+1,by omega,by go_num,by rw[HT.out,P4],by rw[HT2.out,HB.out],HW.out⟩
    case measure=>simp[intOf];omega
  ·obtain rfl:k=ps.length:=by omega
   have hdec:decide((ps.length:Int)<(ps.length:Int))=false:=decide_eq_false(by omega);rw[Alx]at hl1 hl2⊢;have hsm: ¬9223372036854775807<(Ad(ps.map fun p=>decide(p%8=0))).length+(Ad(By ps L)).length:=by omega
   obtain⟨A,hA⟩: ∃A,A=Ad(ps.map fun p=>decide(p%8=0)):=⟨_,rfl⟩;obtain⟨B,hB⟩: ∃B,B=Ad(By ps L):=⟨_,rfl⟩;rw[←hA,←hB]at hsm;rw[←hA,←hB];have HAB:Aside(A=Ad(ps.map fun p=>decide(p%8=0))∧B=Ad(By ps L)):=⟨hA,hB⟩;clear hA hB hl1 hl2 hi he hcw;go_wp2;go_ret;exact⟨by rw[←HAB.out.1,←HAB.out.2];rfl,HW.out⟩
namespace Hm
def Fd(es:List Nat)(l:Nat)(R:List Bool):Nat→List Bool
 |0=>R
 |k+1=>(Fd es l R k).set(es.getD k 0/2^l+k)true
theorem Qx(es:List Nat)(l:Nat)(R:List Bool)(k:Nat):(Fd es l R k).length=R.length:=by
 induction k with
 |zero=>rfl
 |succ k ih=>simp[Fd,ih]
theorem Aab(es:List Nat)(l:Nat)(B R:List Bool)(k:Nat):Fw es l B.length(B++R)k=B++Fd es l R k:=by
 induction k with
 |zero=>rfl
 |succ k ih=>
  rw[Fw,ih,Fd,Ams,Amb _ _(Aod _ _),Ank]
theorem Yc(es:List Nat)(n:Nat):Bi es n=Cr es(B4 es.length n)++Fd es(B4 es.length n)(List.replicate(es.length+n/2^B4 es.length n+1)false)es.length:=Aab _ _ _ _ _
theorem Ad4(x k:Nat):Av(x%2^k)k=Av x k:=by
 unfold Av;refine Ang fun i hi=>?_;have h:i<k:=by simpa using hi
 rw[←Nat.testBit_eq_decide_div_mod_eq,←Nat.testBit_eq_decide_div_mod_eq,Nat.testBit_mod_two_pow];simp[h]
theorem Wq(l:List Bool)(i:Nat):Ad(l.set i true)=(Ad l).set i 49:=by
 unfold Ad;rw[Amz];rfl
theorem Wr(fs:List(ByteArray×ByteArray))(k:Nat)(h:k<fs.length):(A1 fs).getD k 0=(Ae(fs.take(k+1))).length:=by
 unfold A1;rw[Ak7,Aln,Ame h];rfl
theorem Ad5(fs:List(ByteArray×ByteArray))(k:Nat)(h:k<fs.length):(Ae(fs.take(k+1))).length=(Ae(fs.take k)).length+fs[k].2.size:=by
 rw[Ale h];unfold Ae;rw[Amq,Ald];simp
theorem Ad6(fs:List(ByteArray×ByteArray))(k:Nat):(Ae(fs.take k)).length≤(Ae fs).length:=by
 conv=>rhs;rw[←Amg k fs]
 unfold Ae;rw[Amq,Ald];omega
end Hm
set_option maxHeartbeats 400000 in
theorem Ad7(ao:Option Addr)(c:Nat)(fs:List(ByteArray×ByteArray))(n:Nat)(w:World)(hf:C0 w ao fs)(hm:fs.length≤40)(hn:n=(Ae fs).length)(hn6:n≤6000):
  Calls Tryz.prog 43#[.slice ao fs.length c,.int .i64 n]w fun e w'=>e= .returned(.string⟨(Ad(Bi(A1 fs)n)).toArray⟩)∧Aa(fun _=>False)w w':=by
 obtain⟨i0,hi,hz0,hz1,hz2⟩:=info_parts Fv;have hlow:=fun W=>Vn fs.length n W(by omega)hn6;have hL:=Nl fs.length n hn6;have hpw:=fun W=>Rf(B4 fs.length n)W(by omega);have HR:Aside(Ad(Bi(A1 fs)n)=Ad(Cr(A1 fs)(B4 fs.length n))++Ad(Fd(A1 fs)(B4 fs.length n)(List.replicate(fs.length+n/2^B4 fs.length n+1)false)fs.length)):=by
  show _=_;rw[Yc,Hj,Dv]
 generalize B4 fs.length n=L at*;obtain⟨p,hp⟩: ∃p,p=2^L:=⟨_,rfl⟩;rw[←hp]at hpw HR;have hp1:1≤p:=by rw[hp];exact Am2 _
 have HP:Aside(p=2^L):=hp;have HN:Aside(n=(Ae fs).length):=hn;have HF:Aside _:=hf;clear hn hf hp;obtain⟨q,hq⟩: ∃q,q=n/p:=⟨_,rfl⟩;have hqn:q≤n:=by rw[hq];exact Am4 _ _
 have zq:(n:Int)/(p:Int)=(q:Int):=by rw[hq];simp
 have HQ:Aside(q=n/p):=hq;clear hq;obtain⟨NN,hNN⟩: ∃N,N=fs.length+q+1:=⟨_,rfl⟩;have HNN:Aside(NN=fs.length+q+1):=hNN;have zN:(fs.length:Int)+(q:Int)+1=(NN:Int):=by omega
 have hN1:fs.length+q<NN:=by omega
 have hN2:NN≤6100:=by omega
 rw[←HQ.out,←hNN]at HR;clear hNN;have hqw:IntKind.i64.wrap(q:Int)=(q:Int):=by rw[IntKind.wrap_i64];omega
 have HP1:Aside(1≤p):=hp1;have hp00: ¬p=0:=by omega
 go_enter Tryz.func43,Tryz.ntmps43
 go_wp2_with fail;refine(hlow _).mono ?_;rintro e w1⟨rfl,hw1⟩;subst w1;go_wp2_with fail;refine(hpw _).mono ?_;rintro e w1⟨rfl,hw1⟩;subst w1;clear hlow hpw hp1
 go_wp2_with(at_make;refine wpList_make_full _ rfl(.tmp 25)(.tmp 25)79 rfl w.heap.size 5 i0(.int .u8 0)1 Tryz.underlying79 hi hz0 hz1 .i64 .i64 _ _ NN rfl rfl(by omega)(by omega)(by rw[hz2];omega)(by unfold maxLen;omega)(Alc _)?_;intro w2 ho2 hg2)
 have hr1:w2.ownsRow w.heap.size 5 1(.slice(some⟨w.heap.size,0,none⟩)NN NN)NN(Ag(List.replicate 0 48++List.replicate(NN-0)0)):=by
  rw[Aoc,Ans,An4,←Pb];exact ho2
 have hk1:Aa(fun _=>False)w w2:=(Aa.refl _ _).grown hg2(fun k hk=>by cases hk);clear ho2 hg2
 go_loopw [10](fun i wr=> ∃k:Nat,k≤NN∧i= .int .i64 k∧wr.ownsRow w.heap.size 5 1(.slice(some⟨w.heap.size,0,none⟩)NN NN)NN(Ag(List.replicate k 48++List.replicate(NN-k)0))∧Aa(fun _=>False)w wr)(fun i _=>NN-(intOf i).toNat)
 case atStart=>exact⟨0,Alk _,rfl,hr1,hk1⟩
 case round=>
  clear hr1 hk1;obtain⟨k,hk,rfl,hr,hkr⟩:=hrel
  by_cases hlt:k<NN
  ·have hdec:decide((k:Int)<(NN:Int))=true:=decide_eq_true(by omega);obtain⟨x,hc⟩: ∃x,wr.cell?⟨w.heap.size,k,none⟩=some x:=⟨_,(hr.cellAt k(by omega)).trans(Ak8(by simp[Ag];omega))⟩;have hf:wr.frozen?⟨w.heap.size,k,none⟩=false:=hr.frozenAt _;have HST:=(hr.stored k(.int .u8 48)).1;have e2:(Ag(List.replicate k 48++List.replicate(NN-k)0)).set k(.int .u8 48)=Ag(List.replicate(k+1)48++List.replicate(NN-(k+1))0):=by
    have e3:(List.replicate k(48:UInt8)++List.replicate(NN-k)0).set k 48=List.replicate(k+1)48++List.replicate(NN-(k+1))0:=by
     have hl:(List.replicate k(48:UInt8)).length=k:=by simp
     rw[Amb _ _(by omega),hl,Ama,show NN-k=(NN-(k+1))+1 from by omega,Amt(n:=NN-(k+1)),An8(n:=k),Alo];rfl
    rw[←e3,Ag,Ag,Amz];rfl
   rw[e2]at HST;have H2:Hid(World.ownsRow _ w.heap.size 5 1(.slice(some⟨w.heap.size,0,none⟩)NN NN)NN(Ag(List.replicate(k+1)48++List.replicate(NN-(k+1))0))):=HST;clear HST hr e2;go_wp2;go_roundw
   case rel=>exact⟨k+1,by omega,by go_num,H2.out,hkr.setCell(.inl(Alc _))_⟩
   case measure=>simp[intOf];omega
  ·obtain rfl:NN=k:=by omega
   have hdec:decide((NN:Int)<(NN:Int))=false:=decide_eq_false(by omega);rw[Ama,Aoc,Amk]at hr;have e0:List.replicate NN(48:UInt8)=Ad(Fd(A1 fs)L(List.replicate NN false)0):=by simp[Fd,Ad]
   rw[e0]at hr;have hN6:(Ae fs).length≤6000:=by have:=HN.out;omega
   go_wp2
   go_loopw [8,11,12](fun s e i wr=> ∃k:Nat,k≤fs.length∧i= .int .i64 k∧e= .int .i64((Ae(fs.take k)).length:Nat)∧s= .string⟨(Ad(Cr((A1 fs).take k)L)).toArray⟩∧wr.ownsRow w.heap.size 5 1(.slice(some⟨w.heap.size,0,none⟩)NN NN)NN(Ag(Ad(Fd(A1 fs)L(List.replicate NN false)k)))∧Aa(fun _=>False)w wr)(fun _ _ i _=>fs.length-(intOf i).toNat)
   case atStart=>exact⟨0,Alk _,rfl,rfl,rfl,hr,hkr⟩
   case round=>
    clear hr hkr e0 hdec hk hlt;obtain⟨k,hk,rfl,rfl,rfl,hr,hkr⟩:=hrel;have hel:=Dv fs;have hsl:(Ad(Cr((A1 fs).take k)L)).length≤480:=by
     rw[E5,He];have:((A1 fs).take k).length*L≤40*12:=Al6(by simp;omega)hL;omega
    by_cases hlt:k<fs.length
    ·obtain⟨b,o,hao,hbw,_,hc2⟩:=(C0.kept HF.out hkr(fun _ _ h=>h))k hlt;have htn:=Ad5 fs k hlt;have htl:=Ad6 fs(k+1);have hek:(A1 fs)[k]'(by omega)=(Ae(fs.take(k+1))).length:=by
      have:=Wr fs k hlt;rw[Ak7,Ak8(by omega)]at this;simpa using this
     have HT:Aside(Ad(Cr((A1 fs).take(k+1))L)=Ad(Cr((A1 fs).take k)L)++Ad(Av(Ae(fs.take(k+1))).length L)):=by
      show _=_;rw[Tq _ _ _(by omega),hek,Hj]
     have HH:Aside(Ad(Fd(A1 fs)L(List.replicate NN false)(k+1))=(Ad(Fd(A1 fs)L(List.replicate NN false)k)).set((Ae(fs.take(k+1))).length/p+k)49):=by
      show _=_;rw[Fd,Wq,Wr fs k hlt,HP.out]
     rw[←HN.out]at htl;generalize fs[k].2=ct at*;obtain⟨e1,he1⟩: ∃e,e=(Ae(fs.take(k+1))).length:=⟨_,rfl⟩;have HE1:Aside(e1=(Ae(fs.take(k+1))).length):=he1;rw[←he1]at htn htl HT HH;obtain⟨e0,he0⟩: ∃e,e=(Ae(fs.take k)).length:=⟨_,rfl⟩;rw[←he0]at htn;rw[←he0];clear he0 he1 hek;have zs:(e0:Int)+(ct.size:Int)=(e1:Int):=by omega
     have hnum:=fun W=>Qn(e1%p)L W(by omega)(by have:=Nat.mod_le e1 p;omega);have hnb:Aside(Av(e1%p)L=Av e1 L):=by show _=_;rw[HP.out];exact Ad4 e1 L
     rw[hnb.out]at hnum;rw[show((e1%p:Nat):Int)=(e1:Int)%(p:Int)from by simp]at hnum;obtain⟨r,hr0⟩: ∃r,r=e1/p:=⟨_,rfl⟩;have hrq:r≤q:=by rw[hr0,HQ.out];exact Nat.div_le_div_right htl
     have zr:(e1:Int)/(p:Int)=(r:Int):=by rw[hr0];simp
     rw[←hr0]at HH;clear hr0;obtain⟨md,hmd⟩: ∃md,md=e1%p:=⟨_,rfl⟩;have zm:(e1:Int)%(p:Int)=(md:Int):=by rw[hmd];simp
     have hmdl:md≤6000:=by rw[hmd];have:=Nat.mod_le e1 p;omega
     rw[zm]at hnum;clear hmd;have hmw:IntKind.i64.wrap(md:Int)=(md:Int):=by rw[IntKind.wrap_i64];omega
     have hrw:IntKind.i64.wrap(r:Int)=(r:Int):=by rw[IntKind.wrap_i64];omega
     have hnl:(Ad(Av e1 L)).length≤12:=by rw[E5,Dj];exact hL
     have hsm: ¬9223372036854775807<(Ad(Cr((A1 fs).take k)L)).length+(Ad(Av e1 L)).length:=by omega
     have hhl:(Ad(Fd(A1 fs)L(List.replicate NN false)k)).length=NN:=by rw[E5,Qx];simp
     obtain⟨x,hc⟩: ∃x,wr.cell?⟨w.heap.size,r+k,none⟩=some x:=⟨_,(hr.cellAt(r+k)(by omega)).trans(Ak8(by simp only[Ag,Alu,hhl];omega))⟩;have hf:wr.frozen?⟨w.heap.size,r+k,none⟩=false:=hr.frozenAt _;have HST:=(hr.stored(r+k)(.int .u8 49)).1;have e2:(Ag(Ad(Fd(A1 fs)L(List.replicate NN false)k))).set(r+k)(.int .u8 49)=Ag(Ad(Fd(A1 fs)L(List.replicate NN false)(k+1))):=by
      rw[HH.out,Ag,Ag,Amz];rfl
     rw[e2]at HST;have H2:Hid(World.ownsRow _ w.heap.size 5 1(.slice(some⟨w.heap.size,0,none⟩)NN NN)NN(Ag(Ad(Fd(A1 fs)L(List.replicate NN false)(k+1))))):=HST;have hb3:(r:Int)+(k:Int)<(NN:Int):=by omega
     have hdec:decide((k:Int)<(fs.length:Int))=true:=decide_eq_true(by omega);have he6:e1≤6000:=by omega
     have hp1:=HP1.out;rw[hao];clear HST hr e2 hhl hao hsl hel htn hnl HF htl;generalize Ad(Cr((A1 fs).take k)L)=A at*;generalize Ad(Av e1 L)=B at*;go_wp2_with fail;refine(hnum _).mono ?_;rintro e w3⟨rfl,hw3⟩;subst w3;clear hnum;go_wp2;go_roundw
     case rel=>exact⟨k+1,by omega,by go_num,by rw[HE1.out],by rw[HT.out,Pp],H2.out,hkr.setCell(.inl(Alc _))_⟩
     case measure=>simp[intOf];omega
    ·obtain rfl:fs.length=k:=by omega
     have hdec:decide((fs.length:Int)<(fs.length:Int))=false:=decide_eq_false(by omega);rw[←hel,Alx]at hsl;have eT:(A1 fs).take fs.length=A1 fs:=by rw[←hel,Alx]
     rw[eT];have hcv:=Gt hr;have hhl:(Ad(Fd(A1 fs)L(List.replicate NN false)fs.length)).length=NN:=by rw[E5,Qx];simp
     obtain⟨A,hA⟩: ∃A,A=Ad(Cr(A1 fs)L):=⟨_,rfl⟩;obtain⟨B,hB⟩: ∃B,B=Ad(Fd(A1 fs)L(List.replicate NN false)fs.length):=⟨_,rfl⟩;have HAB:Aside(A=Ad(Cr(A1 fs)L)∧B=Ad(Fd(A1 fs)L(List.replicate NN false)fs.length)):=⟨hA,hB⟩;rw[←hA]at hsl;rw[←hA];rw[←hB]at hcv hhl;have hsm: ¬9223372036854775807<A.length+B.length:=by omega
     clear hA hB hr hhl eT hel hsl;generalize(Ae(fs.take fs.length)).length=te at*;go_wp2;go_ret;exact⟨by rw[HR.out,←HAB.out.1,←HAB.out.2,←Pp];rfl,hkr⟩
namespace Hm
theorem Qy: ∀(a b:List UInt8),Op.bytesLess a b=true↔Dg a b
 |[],[]=>by simp[Op.bytesLess,Dg]
 |[],_::_=>by simp[Op.bytesLess,Dg]
 |_::_,[]=>by simp[Op.bytesLess,Dg]
 |a::l,b::m=>by
  have ih:=Qy l m;simp only[Op.bytesLess,Dg]
  by_cases h:a<b
  ·have h':a.toNat<b.toNat:=UInt8.lt_iff_toNat_lt.1 h;simp[h,h']
  ·have h': ¬a.toNat<b.toNat:=fun k=>h(UInt8.lt_iff_toNat_lt.2 k)
   by_cases e:a=b
   ·subst e;simp[ih]
   ·simp[h,h',e]
abbrev lt(s:List UInt8)(i j:Nat):Prop:=Dg(s.drop i)(s.drop j)
theorem Ajr(s:List UInt8){i j:Nat}(hi:i≤s.length)(hj:j≤s.length)(h:i≠j):lt s i j∨lt s j i:=by
 rcases Mi(s.drop i)(s.drop j)with c|c|c
 ·exact .inl c
 ·have e:=congrArg List.length c;simp at e;omega
 ·exact .inr c
structure Gn(s:List UInt8)(a b:List Nat)(i k:Nat)(out:List Nat):Prop where
 perm:out.Perm(a.take i++b.take k)
 srt:out.Pairwise(lt s)
 la: ∀x∈out,∀y∈a.drop i,lt s x y
 lb: ∀x∈out,∀y∈b.drop k,lt s x y
theorem Gn.none(s:List UInt8)(a b:List Nat):Gn s a b 0 0 []:=⟨by simp,List.Pairwise.nil,fun x h=>by simp at h,fun x h=>by simp at h⟩
theorem Gn.left{s:List UInt8}{a b out:List Nat}{i k:Nat}(h:Gn s a b i k out)(ha:a.Pairwise(lt s))(hi:i<a.length)(hb: ∀y∈b.drop k,lt s a[i]y):Gn s a b(i+1)k(out++[a[i]]):=by
 have hd:a.drop i=a[i]::a.drop(i+1):=Alt hi;have hp:=(ha.sublist(List.drop_sublist i a));rw[hd,An5]at hp;refine⟨?_,?_,fun x hx y hy=>?_,fun x hx y hy=>?_⟩
 ·rw[Ale hi];refine(h.perm.append_right [a[i]]).trans ?_;rw[Alo,Alo];exact List.Perm.append_left _(List.perm_append_comm)
 ·rw[List.pairwise_append];exact⟨h.srt,List.pairwise_singleton _ _,fun x hx y hy=>by rw[List.mem_singleton.1 hy];exact h.la x hx _(by rw[hd];exact Ali)⟩
 ·rcases Aoa.1 hx with hx|hx
  ·exact h.la x hx y(by rw[hd];exact All _ hy)
  ·rw[List.mem_singleton.1 hx];exact hp.1 y hy
 ·rcases Aoa.1 hx with hx|hx
  ·exact h.lb x hx y hy
  ·rw[List.mem_singleton.1 hx];exact hb y hy
theorem Gn.right{s:List UInt8}{a b out:List Nat}{i k:Nat}(h:Gn s a b i k out)(hb:b.Pairwise(lt s))(hk:k<b.length)(ha: ∀y∈a.drop i,lt s b[k]y):Gn s a b i(k+1)(out++[b[k]]):=by
 have hd:b.drop k=b[k]::b.drop(k+1):=Alt hk;have hp:=(hb.sublist(List.drop_sublist k b));rw[hd,An5]at hp;refine⟨?_,?_,fun x hx y hy=>?_,fun x hx y hy=>?_⟩
 ·rw[Ale hk,←Alo];exact h.perm.append_right _
 ·rw[List.pairwise_append];exact⟨h.srt,List.pairwise_singleton _ _,fun x hx y hy=>by rw[List.mem_singleton.1 hy];exact h.lb x hx _(by rw[hd];exact Ali)⟩
 ·rcases Aoa.1 hx with hx|hx
  ·exact h.la x hx y hy
  ·rw[List.mem_singleton.1 hx];exact ha y hy
 ·rcases Aoa.1 hx with hx|hx
  ·exact h.lb x hx y(by rw[hd];exact All _ hy)
  ·rw[List.mem_singleton.1 hx];exact hp.1 y hy
theorem Aey{s:List UInt8}{b:List Nat}{k x:Nat}(hb:b.Pairwise(lt s))(hk:k<b.length)(h:lt s x b[k]): ∀y∈b.drop k,lt s x y:=fun y hy=>by
 have hd:b.drop k=b[k]::b.drop(k+1):=Alt hk;have hp:=(hb.sublist(List.drop_sublist k b));rw[hd,An5]at hp;rw[hd]at hy;rcases List.mem_cons.1 hy with rfl|hy
 ·exact h
 ·exact Mh h(hp.1 y hy)
structure I2(s:List UInt8)(f t:Nat)(ps:List Nat):Prop where
 perm:ps.Perm(List.range' f(t-f))
 srt:ps.Pairwise(lt s)
theorem I2.mem{s:List UInt8}{f t:Nat}{ps:List Nat}(h:I2 s f t ps)(x:Nat)(hx:x∈ps):f≤x∧x<t:=by
 have:=h.perm.mem_iff.1 hx;rw[List.mem_range'_1]at this;omega
theorem I2.len{s:List UInt8}{f t:Nat}{ps:List Nat}(h:I2 s f t ps):ps.length=t-f:=by have:=h.perm.length_eq;simpa using this
theorem I2.one(s:List UInt8)(f:Nat):I2 s f(f+1) [f]:=⟨by rw[Ank];exact List.Perm.refl _,List.pairwise_singleton _ _⟩
theorem Gn.done{s:List UInt8}{a b out:List Nat}{f m t:Nat}(h:Gn s a b a.length b.length out)(ha:I2 s f m a)(hb:I2 s m t b)(h1:f≤m)(h2:m≤t):I2 s f t out:=by
 refine⟨?_,h.srt⟩;have:=h.perm;rw[Alx,Alx]at this;refine this.trans((ha.perm.append hb.perm).trans ?_);have e:List.range' f(t-f)=List.range' f(m-f)++List.range' m(t-m):=by
  rw[show t-f=(m-f)+(t-m)from by omega,←List.range'_append_1,show f+(m-f)=m from by omega]
 rw[e]
theorem I2.sorted{s:List UInt8}{ps:List Nat}(h:I2 s 0(s.length+1)ps):Du s ps:=⟨by have:=h.perm;rw[An4,←List.range_eq_range']at this;exact this,h.srt⟩
end Hm
end Go.Proofs.YtegnkfdbmmndaaaGreat
