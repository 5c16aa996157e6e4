import Derived.Test.YtegnkfdbmmndaaaGreatJ00
import Derived.Test.YtegnkfdbmmndaaaGreatJ24
import Derived.Test.YtegnkfdbmmndaaaGreatJ04
import Derived.Test.YtegnkfdbmmndaaaGreatJ02
import Derived.Test.YtegnkfdbmmndaaaGreatJ17
import Derived.Test.YtegnkfdbmmndaaaGreatJ23
import Derived.Test.YtegnkfdbmmndaaaGreatJ11

namespace Go.Proofs.YtegnkfdbmmndaaaGreat
open Hm
open Go.RowKit
namespace Hm
def Ex(bs:List Bool)(m l:Nat):Nat→List Nat
 |0=>[]
 |k+1=>if bs.getD (m*l+k) false=true∧(Ex bs m l k).length<m then Ex bs m l k++[(k-(Ex bs m l k).length)*2^l+Hb ((bs.drop ((Ex bs m l k).length*l)).take l)]else Ex bs m l k
theorem O6(bs:List Bool)(m l:Nat): ∀k,(Ex bs m l k).length≤k∧(Ex bs m l k).length≤m
 |0=>⟨Ale _,Alr _⟩
 |k+1=>by
  have ih:=O6 bs m l k;rw[Ex];split
  ·rename_i h;rw[Alg];simp only[List.length_singleton];omega
  ·omega
def Iz(s:List UInt8)(st:RS)(m n:Nat):List Nat×RS:=
 (if(Cr s st (m*By m n+m+n/2^By m n+1)).2.2=true then []else Ex (Cr s st (m*By m n+m+n/2^By m n+1)).1 m (By m n) (m+n/2^By m n+1),(Cr s st (m*By m n+m+n/2^By m n+1)).2)
theorem N8(s:List UInt8)(st:RS)(n:Nat)(h:(Cr s st n).2.2=false):(Cr s st n).1.length=n:=by
 unfold Cr at h⊢;split at h
 ·rename_i hc;rw[hc]at h;cases h
 ·rename_i hc;rw[if_neg hc];simp
theorem O7(x:List Bool)(a b:Nat):(⟨(Ad x).toArray⟩:ByteArray).extract a (a+b)=⟨(Ad ((x.drop a).take b)).toArray⟩:=by
 apply An1;rw[Aom];apply Am6;rw[Aos,Anz];simp[Ad,List.map_take,List.map_drop]
end Hm
set_option maxRecDepth 20000 in
set_option maxHeartbeats 2000000 in
theorem Ah7(p m n:Nat)(s:List UInt8)(st:Hm.RS)(w:World)(h:Cg w p s st)(hm:m≤40)(hn:n≤6000)(hst:st.1≤s.length)(hs:s.length≤30000):
  Calls Tryz.prog 75 #[.pointer (some ⟨p,0,none⟩),.int .i64 m,.int .i64 n] w fun e w'=> ∃v,e= .returned v∧w'.ownsRow w.heap.size 3 1 v (Iz s st m n).1.length (Ac (Iz s st m n).1)∧Cg w' p s (Iz s st m n).2∧Aa (fun j=>j=p) w w':=by
 obtain⟨i0,hi,hz0,hz1,hz2⟩:=Amz Jo;have hpw:p<w.heap.size:=Alw h;have hl12:=Ni m n hn;have hlow:=Vk m n w (by omega) hn;have HRE:Hid (Iz s st m n=(if(Cr s st (m*By m n+m+n/2^By m n+1)).2.2=true then []else Ex (Cr s st (m*By m n+m+n/2^By m n+1)).1 m (By m n) (m+n/2^By m n+1),(Cr s st (m*By m n+m+n/2^By m n+1)).2)):=rfl;generalize Iz s st m n=RE at*;generalize By m n=l at*;have hpow:=Rb l w (by omega);obtain⟨P,hP⟩: ∃P,P=2^l:=⟨_,rfl⟩;have hP1:1≤P:=by rw[hP];exact Nat.one_le_two_pow
 have hP2:P≤4096:=by rw[hP];exact Am2 (n:=2) (by omega) hl12
 obtain⟨d,hd⟩: ∃d,d=n/P:=⟨_,rfl⟩;have hdn:d≤n:=by rw[hd];exact Anu _ _
 have hdP:d*P≤n:=by rw[hd];exact Nat.div_mul_le_self _ _
 obtain⟨ML,hML⟩: ∃ML,ML=m*l:=⟨_,rfl⟩;have hMLb:ML≤480:=by rw[hML];exact Amk hm hl12
 have zml:(m:Int)*(l:Int)=(ML:Int):=by rw[hML];exact(Aop m l).symm
 have zd:(n:Int)/(P:Int)=(d:Int):=by rw[hd];exact(Int.natCast_ediv n P).symm
 rw[←hP]at hpow;rw[←hP,←hd,←hML]at HRE;obtain⟨U,hU⟩: ∃U,U=m+d+1:=⟨_,rfl⟩;rw[←hU]at HRE;have zU:(m:Int)+(d:Int)+1=(U:Int):=by omega
 obtain⟨T,hT⟩: ∃T,T=ML+m+d+1:=⟨_,rfl⟩;rw[←hT]at HRE;have hbits:=Y0 p T s st w h (by omega) hst hs;have HLE:Hid ((Cr s st T).2.2=false→(Cr s st T).1.length=T):=N8 s st T;generalize Cr s st T=R at*;obtain⟨bs,st1⟩:=R;obtain⟨a1,bad⟩:=st1;have zT:(ML:Int)+(m:Int)+(d:Int)+1=(T:Int):=by omega
 have HP:Hid (P=2^l):=hP;have HML:Hid (ML=m*l):=hML;have hPI: ¬(P:Int)=0:=by omega
 have HT:Hid (T=ML+U∧U=m+d+1):=⟨by omega,hU⟩;have hTb:T≤7000:=by omega
 have hUb:U≤6100:=by omega
 clear h hst hP hd hML hT hU
 go_enter Tryz.func75,Tryz.ntmps75
 go_wp2_with fail;refine hlow.mono ?_;rintro e w1 ⟨rfl,rfl⟩;clear hlow;go_wp2_with fail;refine hpow.mono ?_;rintro e w2 ⟨rfl,rfl⟩;clear hpow;go_wp2_with fail;refine hbits.mono ?_;rintro e w3 ⟨rfl,hr3,hk3⟩;have hr3':w3.heap[p]?=some (.cells #[.string ⟨s.toArray⟩,.int .i64 (a1:Nat),.bool bad] 145 (0,0)):=hr3;have c2:w3.cell? ⟨p,2,none⟩=some (.bool bad):=Alc _ _ 2 _ _ _ hr3';obtain⟨S,hS⟩: ∃S,S=(⟨(Ad bs).toArray⟩:ByteArray):=⟨_,rfl⟩;have hSs:S.size=bs.length:=by rw[hS];show(Ad bs).toArray.size=_;simp[Ad]
 have HS:Hid (S=(⟨(Ad bs).toArray⟩:ByteArray)):=hS;have HG:Hid (∀i,(h:i<bs.length)→ ∃hi:i<S.size,S[i]=if bs[i]then 49 else 48):=fun i hi=>by
  have h1:i<S.size:=by omega
  refine⟨h1,?_⟩;subst hS;show(Ad bs).toArray[i]'_=_;simp[Ad]
 have H1:Hid (Cg w3 p s (a1,bad)∧Aa (fun j=>j=p) w2 w3):=⟨hr3,hk3⟩;rw[←hS];clear hbits hr3 hk3 hr3' hS;cases bad with
 |true=>
  go_wp2_with fail;go_ret;rw[HRE.out];exact⟨_,rfl,Aoe _ _ _ _,H1.out.1,H1.out.2⟩
 |false=>
  have hbl:=HLE.out rfl;have hsz:=H1.out.2.size;go_wp2_with fail
  go_loopw[10,11] (fun vo vk wr=> ∃k:Nat,k≤U∧vk= .int .i64 k∧wr.ownsRow w3.heap.size 3 1 vo (Ex bs m l k).length (Ac (Ex bs m l k))∧Apd w3 wr) (fun _ vk _=>U-(intOf vk).toNat)
  case atStart=>exact⟨0,Alr _,rfl,Aoe _ _ _ _,Aa.refl _ _⟩
  case round=>
   obtain⟨k,hkU,rfl,hown,hkr⟩:=hrel;obtain⟨ao,co,hvo,_⟩:=Ay hown;subst hvo
   by_cases hlt:k<U
   ·have hltI:(k:Int)<(U:Int):=by omega
    have hdU:decide ((k:Int)<(U:Int))=true:=Alb hltI;have hlen:=O6 bs m l k;obtain⟨q,hq⟩: ∃q,q=ML+k:=⟨_,rfl⟩;have hqb:q<bs.length:=by rw[hbl,HT.out.1,hq];omega
    obtain⟨hqS,hSq⟩:=HG.out q hqb;have zq:(ML:Int)+(k:Int)=(q:Int):=by omega
    have hqI:(q:Int)<(S.size:Int):=by omega
    have HST:Hid (Ex bs m l (k+1)=if bs[q]=true∧(Ex bs m l k).length<m then Ex bs m l k++[(k-(Ex bs m l k).length)*P+Hb ((bs.drop ((Ex bs m l k).length*l)).take l)]else Ex bs m l k):=by
     show _=_;rw[Ex,←HML.out,←hq,←HP.out,Ak6,Ak7 hqb];rfl
    have HO:Hid (wr.ownsRow w3.heap.size 3 1 (.slice ao (Ex bs m l k).length co) (Ex bs m l k).length (Ac (Ex bs m l k))∧Apd w3 wr):=⟨hown,hkr⟩;generalize Ex bs m l k=out at*;generalize bs[q]=bq at*;have HNO:Hid ((bq=true∧out.length<m→False)→wr.ownsRow w3.heap.size 3 1 (.slice ao out.length co) (Ex bs m l (k+1)).length (Ac (Ex bs m l (k+1)))):=fun hc=>by
     rw[HST.out,if_neg hc];exact HO.out.1
    clear hown hkr hq;cases bq with
    |false=>
     have hS48:S[q]=48:=hSq;clear hSq;go_wp2_with fail;go_roundw
     case rel=>exact⟨k+1,by omega,by go_num,HNO.out (fun h=>by cases h.1),HO.out.2⟩
     case measure=>simp[intOf];omega
    |true=>
     have hS49:S[q]=49:=hSq;clear hSq
     by_cases hom:out.length<m
     ·have hoI:(out.length:Int)<(m:Int):=by omega
      have hdo:decide ((out.length:Int)<(m:Int))=true:=Alb hoI;rw[if_pos ⟨rfl,hom⟩]at HST;obtain⟨IL,hIL⟩: ∃IL,IL=out.length*l:=⟨_,rfl⟩;obtain⟨EL,hEL⟩: ∃EL,EL=IL+l:=⟨_,rfl⟩;have zIL:(out.length:Int)*(l:Int)=(IL:Int):=by rw[hIL];exact(Aop _ l).symm
      have zEL:(IL:Int)+(l:Int)=(EL:Int):=by omega
      have hES:EL≤S.size:=by
       have h1:(out.length+1)*l≤m*l:=Anj l hom;rw[Nat.succ_mul,←hIL,←HML.out]at h1;rw[hSs,hbl,HT.out.1];omega
      have hEI:(EL:Int)≤(S.size:Int):=by omega
      have hIE:(IL:Int)≤(EL:Int):=by omega
      have hIS:(IL:Int)≤(S.size:Int):=by omega
      rw[←hIL]at HST;have hpl:((bs.drop IL).take l).length=l:=by rw[Aln,Amb];omega
      have hval:=Ab8 ((bs.drop IL).take l) wr (by omega);rw[←O7,←HS.out,←hEL]at hval;have hvl:=X3 ((bs.drop IL).take l);rw[hpl,←HP.out]at hvl;generalize Hb ((bs.drop IL).take l)=v at*;obtain⟨D,hD⟩: ∃D,D=k-out.length:=⟨_,rfl⟩;have zD:(k:Int)-(out.length:Int)=(D:Int):=by omega
      obtain⟨DP,hDP⟩: ∃DP,DP=D*P:=⟨_,rfl⟩;have zDP:(D:Int)*(P:Int)=(DP:Int):=by rw[hDP];exact(Aop D P).symm
      have hDPb:DP≤6100*4096:=by rw[hDP];exact Amk (by omega) hP2
      obtain⟨X,hX⟩: ∃X,X=DP+v:=⟨_,rfl⟩;have zX:(DP:Int)+(v:Int)=(X:Int):=by omega
      rw[←hD,←hDP,←hX]at HST;have ho3:=HO.out.1;have hsz2:=HO.out.2.size;clear hIL hEL hpl hD hDP hX;go_wp2_with fail;refine hval.mono ?_;rintro e w4 ⟨rfl,rfl⟩;clear hval HNO
      go_wp2_with(at_builtin;refine A7 _ rfl (.tmp 59) (.tmp 77) 64 rfl w3.heap.size 3 i0 (.int .i64 0) 1 8 Tryz.underlying64 hi hz0 hz1 hz2 rfl (by decide) _ _ _ rfl (ho3.alloc _) ⟨w4.heap.size,0,none⟩ 1 1 [.int .i64 (X:Nat)] rfl rfl ?c1 ?c2 ?c3 ?c4 ?c5 ?_)
      case c1=>exact An9 _ _ _
      case c2=>intro u hu;simp at hu;subst hu;rfl
      case c3=>unfold maxLen;omega
      case c4=>omega
      case c5=>simp only[World.alloc,Array.size_push];omega
      intro v5 w5 ho5 hg5 hm5;have hk5:Apd w3 w5:=(HO.out.2.alloc _).grown hg5 (fun j hj=> .inl (ho3.lt j hj).1);have ho6:w5.ownsRow w3.heap.size 3 1 v5 (Ex bs m l (k+1)).length (Ac (Ex bs m l (k+1))):=by
       have e1:Ac (out++[X])=Ac out++[.int .i64 (X:Nat)]:=by simp[Ac]
       rw[HST.out,e1,Alg];exact ho5
      obtain⟨a5,c5,hv5,_⟩:=Ay ho6;subst hv5;have H5:Hid _:=And.intro ho6 hk5;clear ho5 hg5 hm5 ho6 hk5 ho3 HST HO;go_wp2_with fail;go_roundw
      case rel=>exact⟨k+1,by omega,by go_num,H5.out.1,H5.out.2⟩
      case measure=>simp[intOf];omega
     ·have hoI: ¬(out.length:Int)<(m:Int):=by omega
      have hdo:decide ((out.length:Int)<(m:Int))=false:=Ald hoI;go_wp2_with fail;go_roundw
      case rel=>exact⟨k+1,by omega,by go_num,HNO.out (fun h=>hom h.2),HO.out.2⟩
      case measure=>simp[intOf];omega
   ·have hltI: ¬(k:Int)<(U:Int):=by omega
    have hdU:decide ((k:Int)<(U:Int))=false:=Ald hltI;have hkk:k=U:=by omega
    subst hkk;have HF:Hid (wr.ownsRow w2.heap.size 3 1 (.slice ao (Ex bs m l k).length co) (Ex bs m l k).length (Ac (Ex bs m l k))∧Cg wr p s (a1,false)∧Aa (fun j=>j=p) w2 wr):=
     ⟨E4 hown (fun j hj=>Al2 hsz (hown.lt j hj).1),hkr.row H1.out.1 id,H1.out.2.trans (hkr.wider (T:=fun j=>j=p) (fun _ _ h=>h.elim)) (fun _ _ h=>h)⟩
    clear hown hkr;go_wp2_with fail;go_ret;rw[HRE.out];exact⟨_,rfl,HF.out.1,HF.out.2.1,HF.out.2.2⟩
namespace Hm
def Jy(n k j:Nat):List UInt8:=leBytes n j++List.replicate (k-j) 0
theorem Ah8(n k j:Nat)(h:j<k):Jy n k (j+1)=(Jy n k j).set j (UInt8.ofNat (n/256^j)):=by
 unfold Jy;rw[Amt _ _ (by rw[Cw];omega),Cw,Amr,show k-j=(k-(j+1))+1 from by omega,Anf (n:=k-(j+1)),leBytes,Alx];rfl
end Hm
theorem O8(m:Nat):(madeCells (Value.int .u8 0).cells (m*1)).toList=Ag (List.replicate m 0):=by
 rw[An3,show(Value.int .u8 0).cells= #[Value.int .u8 0]from rfl,An7];simp[Ag]
set_option maxHeartbeats 1000000 in
theorem F8(n k:Nat)(w:World)(hk:k≤8)(hk1:1≤k)(hn:n≤4294967296):Calls Tryz.prog 41 #[.int .i64 n,.int .i64 k] w fun e w'=>e= .returned (.string ⟨(Hm.leBytes n k).toArray⟩)∧Apd w w':=by
 obtain⟨i0,hi,hz0,hz1,hz2⟩:=Amz Ft
 go_enter Tryz.func41,Tryz.ntmps41
 go_wp2_with(at_make;refine Ane _ rfl (.tmp 7) (.tmp 7) 79 rfl w.heap.size 5 i0 (.int .u8 0) 1 Tryz.underlying79 hi hz0 hz1 .i64 .i64 _ _ k rfl rfl (by omega) (by omega) (by rw[hz2];omega) (by unfold maxLen;omega) (Ale _) ?_;intro w2 ho2 hg2)
 have hr1:w2.ownsRow w.heap.size 5 1 (.slice (some ⟨w.heap.size,0,none⟩) k k) k (Ag (Jy n k 0)):=by
  have e:Jy n k 0=List.replicate k 0:=by simp[Jy,Hm.leBytes]
  rw[e,←O8];exact ho2
 have hk1':Apd w w2:=(Aa.refl _ _).grown hg2 (fun k hk=>by cases hk);clear ho2 hg2
 go_loopw[0,6] (fun x i wr=> ∃j:Nat,j≤k∧i= .int .i64 j∧x= .int .i64 ((n/256^j:Nat):Int)∧wr.ownsRow w.heap.size 5 1 (.slice (some ⟨w.heap.size,0,none⟩) k k) k (Ag (Jy n k j))∧Apd w wr) (fun _ i _=>k-(intOf i).toNat)
 case atStart=>exact⟨0,Alr _,rfl,by simp,hr1,hk1'⟩
 case round=>
  clear hr1 hk1';obtain⟨j,hj,rfl,rfl,hr,hkr⟩:=hrel;have hyl:n/256^j≤4294967296:=Al2 (Anu _ _) hn;have HP:Hid (n/256^(j+1)=n/256^j/256):=by show _=_;rw[Amv,Aox]
  have hll:(Jy n k j).length=k:=by simp[Jy,Cw];omega
  by_cases hlt:j<k
  ·have hdec:decide ((j:Int)<(k:Int))=true:=by simp;omega
   have hc:wr.cell? ⟨w.heap.size,j,none⟩=some (.int .u8 ((Jy n k j)[j]'(by omega)).toNat):=by
    rw[hr.cellAt j (by omega)];simp only[Ag,Alu,Ak7 (show j<(Jy n k j).length by omega)];rfl
   have hf:wr.frozen? ⟨w.heap.size,j,none⟩=false:=hr.frozenAt _;have HS:=(hr.stored j (.int .u8 ((n/256^j%256:Nat):Nat))).1;have H2:Hid ((wr.setCell ⟨w.heap.size,j,none⟩ (.int .u8 ((n/256^j%256:Nat):Nat))).ownsRow w.heap.size 5 1 (.slice (some ⟨w.heap.size,0,none⟩) k k) k (Ag (Jy n k (j+1)))):=by
    show World.ownsRow _ _ _ _ _ _ _;rw[Ah8 _ _ _ hlt];have e2:Ag ((Jy n k j).set j (UInt8.ofNat (n/256^j)))=(Ag (Jy n k j)).set j (.int .u8 ((n/256^j%256:Nat):Nat)):=by
     rw[Ag,Anm,Ame];rfl
    rw[e2];exact HS
   generalize((Jy n k j)[j]'(by omega)).toNat=old at hc;clear HS hr hll;generalize n/256^j=y at*;go_wp2;go_roundw
   case rel=>exact⟨j+1,by omega,by go_num,by rw[HP.out];go_num,by simpa using H2.out,hkr.setCell (.inl (Ale _)) _⟩
   case measure=>simp[intOf];omega
  ·have hdec:decide ((j:Int)<(k:Int))=false:=by simp;omega
   have hje:j=k:=by omega
   subst hje;have hcv:=Gr hr;have e:Jy n j j=Hm.leBytes n j:=by simp[Jy]
   rw[e]at hcv;clear hr hll HP e;generalize n/256^j=y at*;generalize hl:Hm.leBytes n j=l at*;have HL:Hid (Hm.leBytes n j=l):=hl;clear hl;go_wp2;go_ret;exact⟨by rw[HL.out];rfl,hkr⟩
theorem Va: ∀(a b:List UInt8),Op.bytesLess a b=!(Op.bytesLess b a||b==a)
 |[],[]=>rfl
 |[],b::y=>rfl
 |a::x,[]=>rfl
 |a::x,b::y=>by
  have ih:=Va x y;simp only[Op.bytesLess,List.cons_beq_cons];rcases Ami a.toNat b.toNat with h|h|h
  ·have h1:a<b:=UInt8.lt_iff_toNat_lt.2 h;have h2: ¬b<a:=fun e=>by have:=UInt8.lt_iff_toNat_lt.1 e;omega
   have h3:(b==a)=false:=by rw[Al5];rintro rfl;omega
   simp[h1,h2,h3]
  ·have h1:a=b:=UInt8.toNat_inj.1 h;subst h1;have h2: ¬a<a:=fun e=>by have:=UInt8.lt_iff_toNat_lt.1 e;omega
   simp[h2,ih]
  ·have h1:b<a:=UInt8.lt_iff_toNat_lt.2 h;have h2: ¬a<b:=fun e=>by have:=UInt8.lt_iff_toNat_lt.1 e;omega
   have h3:(a==b)=false:=by rw[Al5];rintro rfl;omega
   simp[h1,h2,h3]
theorem Ah9(nm:ByteArray)(h:nm.size≠0):Hm.leB nm ⟨#[]⟩=false:=by
 have hl:nm.data.toList.length=nm.size:=by simp
 unfold Hm.leB;rw[Amq,Amq];cases e:nm.data.toList with
 |nil=>rw[e]at hl;simp at hl;omega
 |cons x l=>rfl
set_option maxHeartbeats 1000000 in
theorem Ab9(ao:Option Addr)(c:Nat)(fs:List (ByteArray×ByteArray))(w:World)(hf:Cx w ao fs)(hl:fs.length≤140737488355328)(hsz: ∀f∈fs,f.1.size≤140737488355328∧f.2.size≤140737488355328):
  Calls Tryz.prog 38 #[.slice ao fs.length c] w fun e w'=>e= .returned (.int .i64 (Bl fs))∧Apd w w':=by
 by_cases h40:40<fs.length
 ·clear hf
  go_enter Tryz.func38,Tryz.ntmps38
  go_wp2;go_ret;exact⟨E7 (by rw[Bl,if_pos h40]),Aa.refl _ _⟩
 have HE:Hid (Bl fs=Fx ⟨#[]⟩ 0 (fs.drop 0)):=by rw[Bl,if_neg h40];rfl
 generalize Bl fs=E at HE⊢
 go_enter Tryz.func38,Tryz.ntmps38
 go_wp2
 go_loopw[3,4] (fun t i wr=> ∃(k:Nat) (tot:Nat) (ah:ByteArray),k≤fs.length∧i= .int .i64 k∧t= .int .i64 tot∧tot≤3000*k∧E=Fx ah tot (fs.drop k)∧(ah=if k=0 then⟨#[]⟩else(fs.getD (k-1) (⟨#[]⟩,⟨#[]⟩)).1)∧Apd w wr) (fun _ i _=>fs.length-(intOf i).toNat)
 case atStart=>exact⟨0,0,_,Alr _,rfl,rfl,by omega,HE.out,rfl,Aa.refl _ _⟩
 case round=>
  clear HE;obtain⟨k,tot,ah,hk,rfl,rfl,ht,hE,hah,hkr⟩:=hrel;have HE:Hid (E=Fx ah tot (fs.drop k)):=hE;clear hE
  by_cases hlt:k<fs.length
  ·obtain⟨b,o,hao,hbw,hc1,hc2⟩:=(hf.kept hkr (fun a ha=>id)) k hlt;obtain⟨hs1,hs2⟩:=hsz fs[k] (Alo _);have HT:Hid (E=if Cj fs[k].1 fs[k].2 ah=0 then Fx fs[k].1 (tot+fs[k].2.size) (fs.drop (k+1))else Cj fs[k].1 fs[k].2 ah):=HE.out.trans (Ue fs k hlt ah tot);have hnx:(fs.getD (k+1-1) (⟨#[]⟩,⟨#[]⟩)).1=fs[k].1:=by rw[An0,Ak6,Ak7 hlt];rfl
   have HNX:Hid (fs[k].1=if k+1=0 then⟨#[]⟩else(fs.getD (k+1-1) (⟨#[]⟩,⟨#[]⟩)).1):=by show _=_;rw[if_neg (by omega),hnx]
   have hdec:decide ((k:Int)<(fs.length:Int))=true:=by simp;omega
   have hprev: ∀k',k=k'+1→wr.cell? ⟨b,o+k'*2,none⟩=some (.string ah):=by
    intro k' hk';obtain⟨b',o',hao',_,hd1,_⟩:=(hf.kept hkr (fun a ha=>id)) k' (by omega);rw[hao']at hao;cases hao;rw[hd1,hah,if_neg (by omega),show k-1=k' from by omega,Ak6,Ak7 (by omega)];rfl
   have h00:k=0→ah=⟨#[]⟩:=fun e=>by rw[hah,if_pos e]
   generalize fs[k].1=nm at*;generalize fs[k].2=ct at*;subst hao;clear hf HE hsz hah hnx
   by_cases b1:nm.size=0∨32<nm.size
   ·have HC:Hid (E=2):=by show _=_;rw[HT.out,X2 b1];rfl
    clear hprev h00;rcases b1 with b1|b1
    ·have hd1:decide (nm.size<1)=true:=Alb (by omega);have hd2:decide ((nm.size:Int)<1)=true:=Alb (by omega);go_wp2;go_ret;exact⟨E7 HC.out.symm,hkr⟩
    ·have hd1:decide (nm.size<1)=false:=Ald (by omega);have hd2:decide ((nm.size:Int)<1)=false:=Ald (by omega);have hd3:decide (32<(nm.size:Int))=true:=Alb (by omega);go_wp2;go_ret;exact⟨E7 HC.out.symm,hkr⟩
   ·have hd1:decide (nm.size<1)=false:=Ald (by omega);have hd2:decide ((nm.size:Int)<1)=false:=Ald (by omega);have hd3:decide (32<(nm.size:Int))=false:=Ald (by omega);cases k with
    |zero=>
     simp only[Nat.zero_mul,Aon]at hc1 hc2;have hlt':(0:Int)<(fs.length:Int):=by omega
     have hlt2:decide (0<fs.length)=true:=Alb hlt;have hle0:Hm.leB nm ah=false:=by rw[h00 rfl];exact Ah9 nm (by omega)
     clear hprev h00
     by_cases hbig:3000<ct.size
     ·have HC:Hid (E=4):=by
       show _=_;have hcf:Cj nm ct ah=4:=by rw[Cj,if_neg b1,hle0,if_neg (show¬(false=true) by decide),if_pos hbig]
       rw[HT.out,hcf];rfl
      have hd4:decide (3000<(ct.size:Int))=true:=Alb (by omega);go_wp2
      go_region
      go_wp2;go_ret;exact⟨E7 HC.out.symm,hkr.drew⟩
     ·have HC:Hid (E=Fx nm (tot+ct.size) (fs.drop (0+1))):=by
       show _=_;have hcf:Cj nm ct ah=0:=by rw[Cj,if_neg b1,hle0,if_neg (show¬(false=true) by decide),if_neg hbig]
       rw[HT.out,if_pos hcf]
      have hd4:decide (3000<(ct.size:Int))=false:=Ald (by omega);go_wp2
      go_region
      go_wp2;go_roundw
      case rel=>exact⟨1,tot+ct.size,nm,by omega,by go_num,by go_num,by omega,HC.out,HNX.out,hkr.drew⟩
      case measure=>simp[intOf];omega
    |succ k'=>
     have hp1:=hprev k' rfl;clear hprev h00;have hk63:k'≤140737488355328:=by omega
     have hkl:(k':Int)+1<(fs.length:Int):=by omega
     have hkl2:(k':Int)<(fs.length:Int):=by omega
     by_cases hle:Hm.leB nm ah=true
     ·have HC:Hid (E=3):=by
       show _=_;have hcf:Cj nm ct ah=3:=by rw[Cj,if_neg b1,hle,if_pos rfl]
       rw[HT.out,hcf];rfl
      have hbl:Op.bytesLess ah.toList nm.toList=false:=by
       rw[Va];unfold Hm.leB at hle;rw[hle];rfl
      clear hle;go_wp2
      go_region
      go_wp2;go_ret;exact⟨E7 HC.out.symm,hkr.drew⟩
     ·have hle0:Hm.leB nm ah=false:=by simpa using hle
      have hbl:Op.bytesLess ah.toList nm.toList=true:=by
       rw[Va];unfold Hm.leB at hle0;rw[hle0];rfl
      clear hle
      by_cases hbig:3000<ct.size
      ·have HC:Hid (E=4):=by
        show _=_;have hcf:Cj nm ct ah=4:=by rw[Cj,if_neg b1,hle0,if_neg (show¬(false=true) by decide),if_pos hbig]
        rw[HT.out,hcf];rfl
       have hd4:decide (3000<(ct.size:Int))=true:=Alb (by omega);clear hle0;go_wp2
       go_region
       go_wp2;go_ret;exact⟨E7 HC.out.symm,hkr.drew⟩
      ·have HC:Hid (E=Fx nm (tot+ct.size) (fs.drop (k'+1+1))):=by
        show _=_;have hcf:Cj nm ct ah=0:=by rw[Cj,if_neg b1,hle0,if_neg (show¬(false=true) by decide),if_neg hbig]
        rw[HT.out,if_pos hcf]
       have hd4:decide (3000<(ct.size:Int))=false:=Ald (by omega);clear hle0;go_wp2
       go_region
       go_wp2;go_roundw
       case rel=>exact⟨k'+1+1,tot+ct.size,nm,by omega,by go_num,by go_num,by omega,HC.out,HNX.out,hkr.drew⟩
       case measure=>simp[intOf];omega
  ·obtain rfl:k=fs.length:=by omega
   have HT2:Hid (E=if 6000<tot then 5 else 0):=by have h:=HE.out;rw[Anl]at h;exact h
   have hdec:decide ((fs.length:Int)<(fs.length:Int))=false:=by simp
   clear HE hf hah
   by_cases h6:6000<tot
   ·go_wp2;go_ret;exact⟨E7 (by rw[HT2.out,if_pos h6]),hkr⟩
   ·go_wp2;go_ret;exact⟨E7 (by rw[HT2.out,if_neg h6]),hkr⟩
namespace Hm
def E8(fs:List (ByteArray×ByteArray)):List UInt8:=fs.flatMap fun f=>f.2.data.toList
theorem Sh(fs:List (ByteArray×ByteArray))(k:Nat)(h:k<fs.length):E8 (fs.take (k+1))=E8 (fs.take k)++fs[k].2.data.toList:=by
 rw[Ali h];unfold E8;rw[Ana];congr 1;simp
theorem Wl(fs:List (ByteArray×ByteArray))(M:Nat)(h: ∀f∈fs,f.2.size≤M): ∀k,k≤fs.length→(E8 (fs.take k)).length≤M*k
 |0,_=>by simp[E8]
 |k+1,hk=>by
  have ih:=Wl fs M h k (by omega);have h2:=h fs[k] (Alo _);have h3:fs[k].2.data.toList.length=fs[k].2.size:=by simp
  rw[Sh fs k (by omega),Alg,Nat.mul_succ];omega
end Hm
theorem Ako(l:List UInt8)(s:ByteArray):(⟨l.toArray⟩:ByteArray)++s=⟨(l++s.data.toList).toArray⟩:=by
 apply An1;simp[ByteArray.data_append]
set_option maxHeartbeats 1000000 in
theorem Ad2(ao:Option Addr)(c:Nat)(fs:List (ByteArray×ByteArray))(w:World)(hf:Cx w ao fs)(hl:fs.length≤40)(hsz: ∀f∈fs,f.2.size≤3000):
  Calls Tryz.prog 39 #[.slice ao fs.length c] w fun e w'=>e= .returned (.string ⟨(E8 fs).toArray⟩)∧w'=w:=by
 go_enter Tryz.func39,Tryz.ntmps39
 go_wp2
 go_loop [3,4] (fun t i=> ∃k:Nat,k≤fs.length∧i= .int .i64 k∧t= .string ⟨(E8 (fs.take k)).toArray⟩) (fun _ i=>fs.length-(intOf i).toNat)
 case atStart=>exact⟨0,Alr _,rfl,rfl⟩
 case round=>
  obtain⟨k,hk,rfl,rfl⟩:=hrel;have hle:=Wl fs 3000 hsz k hk
  by_cases hlt:k<fs.length
  ·obtain⟨b,o,hao,hbw,hc1,hc2⟩:=hf k hlt;have hs2:=hsz fs[k] (Alo _);have HT:Hid (E8 (fs.take (k+1))=E8 (fs.take k)++fs[k].2.data.toList):=Sh fs k hlt;have hdec:decide ((k:Int)<(fs.length:Int))=true:=Alb (by omega);generalize fs[k].2=ct at*;subst hao;clear hf hsz;have hsm: ¬9223372036854775807<(E8 (fs.take k)).length+ct.size:=by omega
   generalize E8 (fs.take k)=l at*;go_wp2
   go_round
   case rel=>exact⟨k+1,by omega,by go_num,by rw[HT.out,Ako]⟩
   case measure=>simp[intOf];omega
  ·have hke:k=fs.length:=by omega
   subst hke;have hdec:decide ((fs.length:Int)<(fs.length:Int))=false:=by simp
   rw[Ama];generalize hl':E8 fs=l at*;have HL:Hid (E8 fs=l):=hl';clear hl' hf hsz hle;go_wp2;go_ret;exact⟨by rw[HL.out];rfl,rfl⟩
namespace Hm
theorem Y5(f:Nat→Bool)(j:Nat)(hj:j<8)(h:f j=false):Jj f+2^j=Jj (fun k=>if k=j then true else f k):=by
 unfold Jj
 match j,hj with
 |0,_=>simp[h];omega
 |1,_=>simp[h];omega
 |2,_=>simp[h];omega
 |3,_=>simp[h];omega
 |4,_=>simp[h];omega
 |5,_=>simp[h];omega
 |6,_=>simp[h];omega
 |7,_=>simp[h]
theorem Aca(bits:List Bool)(k:Nat)(h:k<bits.length)(h0:bits.getD k false=false):Ah (bits.set k true)=(Ah bits).set (k/8) (UInt8.ofNat (Fv bits (k/8)+2^(k%8))):=by
 rw[Q7 bits k h];congr 2;rw[Fv,Aak _ _ (by omega),Y5 _ _ (by omega) (by rw[show 8*(k/8)+k%8=k from by omega];exact h0)]
theorem Acb(bits:List Bool)(k:Nat)(h0:bits.getD k false=false):Fv bits (k/8)+2^(k%8)<256:=by
 rw[Fv,Y5 _ _ (by omega) (by rw[show 8*(k/8)+k%8=k from by omega];exact h0)];exact Aaj _
def Dk(bits:List Bool)(k:Nat):List Bool:=bits.take k++List.replicate (bits.length-k) false
theorem Acd(bits:List Bool)(k:Nat)(h:k≤bits.length):(Dk bits k).length=bits.length:=by simp[Dk];omega
theorem Y6(bits:List Bool)(k:Nat)(h:k≤bits.length):(Dk bits k).getD k false=false:=by
 unfold Dk;rw[Ak6,Alt (by simp;omega),Aov];split<;>rfl
theorem Wm(bits:List Bool)(k:Nat)(h:k<bits.length):Dk bits (k+1)=(Dk bits k).set k bits[k]:=by
 unfold Dk;have hl:(bits.take k).length=k:=by simp;omega
 rw[Amt _ _ (by omega),hl,Amr,show bits.length-k=(bits.length-(k+1))+1 from by omega,Anf,Ali h,Alx];rfl
theorem Agk(bits:List Bool)(k:Nat)(h:k<bits.length)(h0:bits[k]=false):Dk bits (k+1)=Dk bits k:=by
 rw[Wm bits k h,h0];apply Amf
 ·simp
 ·intro i h1 h2;rw[An8];split
  ·rename_i e;have:=Y6 bits k (by omega);subst e;rw[Ak6,Ak7 h2]at this;simpa using this.symm
  ·rfl
theorem Agl(bits:List Bool):Ah (Dk bits 0)=List.replicate ((bits.length+7)/8) 0:=by
 have e:Dk bits 0=[]++List.replicate bits.length false:=by simp[Dk]
 rw[e,Qi];simp[Ah]
theorem Aia(bits:List Bool):Dk bits bits.length=bits:=by simp[Dk]
end Hm
set_option maxHeartbeats 2000000 in
theorem M4(bits:List Bool)(w:World)(hl:bits.length≤100000000):Calls Tryz.prog 42 #[.string ⟨(Ad bits).toArray⟩] w fun e w'=>e= .returned (.string ⟨(Ah bits).toArray⟩)∧Apd w w':=by
 obtain⟨i0,hi,hz0,hz1,hz2⟩:=Amz Ft;obtain⟨s,hs⟩: ∃s,s=(⟨(Ad bits).toArray⟩:ByteArray):=⟨_,rfl⟩;have hsz:s.size=bits.length:=by rw[hs];show(Ad bits).toArray.size=_;simp[Ad]
 have hget: ∀k,(h:k<s.size)→(h2:k<bits.length)→s[k]=if bits[k]then 49 else 48:=fun k h h2=>by
  subst hs;show(Ad bits).toArray[k]'_=_;simp[Ad]
 rw[←hs];have HS:Aside (s.size=bits.length):=hsz;have HG:Aside _:=hget;have hsl:s.size≤100000000:=by omega
 clear hget hs hsz
 go_enter Tryz.func42,Tryz.ntmps42
 go_wp2_with(at_make;refine Ane _ rfl (.tmp 8) (.tmp 8) 79 rfl w.heap.size 5 i0 (.int .u8 0) 1 Tryz.underlying79 hi hz0 hz1 .i64 .i64 _ _ ((s.size+7)/8) rfl rfl (by omega) (by omega) (by rw[hz2];omega) (by unfold maxLen;omega) (Ale _) ?_;intro w2 ho2 hg2)
 have hr1:w2.ownsRow w.heap.size 5 1 (.slice (some ⟨w.heap.size,0,none⟩) ((s.size+7)/8) ((s.size+7)/8)) ((s.size+7)/8) (Ag (Ah (Dk bits 0))):=by
  rw[Agl,←HS.out,←O8];exact ho2
 have hk1:Apd w w2:=(Aa.refl _ _).grown hg2 (fun k hk=>by cases hk);clear ho2 hg2
 go_loopw[4] (fun i wr=> ∃k:Nat,k≤s.size∧i= .int .i64 k∧wr.ownsRow w.heap.size 5 1 (.slice (some ⟨w.heap.size,0,none⟩) ((s.size+7)/8) ((s.size+7)/8)) ((s.size+7)/8) (Ag (Ah (Dk bits k)))∧Apd w wr) (fun i _=>s.size-(intOf i).toNat)
 case atStart=>exact⟨0,Alr _,rfl,hr1,hk1⟩
 case round=>
  clear hr1 hk1;obtain⟨k,hk,rfl,hr,hkr⟩:=hrel
  by_cases hlt:k<s.size
  ·have hdec:decide ((k:Int)<(s.size:Int))=true:=Alb (by omega);have hkb:k<bits.length:=by have:=HS.out;omega
   have hsk:=HG.out k hlt hkb
   by_cases hb:bits[k]=true
   ·rw[if_pos hb]at hsk;have hpl:=Acd bits k (by omega);have h0:=Y6 bits k (by omega);have hlt8:=Acb (Dk bits k) k h0;have hby:=Pv (Dk bits k) (k/8);have hc1:wr.cell? ⟨w.heap.size,k/8,none⟩=some (.int .u8 (Fv (Dk bits k) (k/8):Nat)):=by
     rw[hr.cellAt (k/8) (by omega)];simp only[Ag,Alu];rw[Ak7 (by rw[A1,hpl];omega),Gx];simp;omega
    have hf1:wr.frozen? ⟨w.heap.size,k/8,none⟩=false:=hr.frozenAt _;have HST:=(hr.stored (k/8) (.int .u8 ((Fv (Dk bits k) (k/8)+2^(k%8):Nat):Int))).1;have e2:Ah (Dk bits (k+1))=(Ah (Dk bits k)).set (k/8) (UInt8.ofNat (Fv (Dk bits k) (k/8)+2^(k%8))):=by
     rw[Wm _ _ hkb,hb];exact Aca _ _ (by omega) h0
    have e3:Ag ((Ah (Dk bits k)).set (k/8) (UInt8.ofNat (Fv (Dk bits k) (k/8)+2^(k%8))))=(Ag (Ah (Dk bits k))).set (k/8) (.int .u8 ((Fv (Dk bits k) (k/8)+2^(k%8):Nat):Int)):=by
     rw[Ag,Anm,Q8 hlt8];rfl
    have H2:Hid ((wr.setCell ⟨w.heap.size,k/8,none⟩ (.int .u8 ((Fv (Dk bits k) (k/8)+2^(k%8):Nat):Int))).ownsRow w.heap.size 5 1 (.slice (some ⟨w.heap.size,0,none⟩) ((s.size+7)/8) ((s.size+7)/8)) ((s.size+7)/8) (Ag (Ah (Dk bits (k+1))))):=by
     show World.ownsRow _ _ _ _ _ _ _;rw[e2,e3];exact HST
    have hp:2^(k%8)<256:=Nat.pow_lt_pow_right (a:=2) (by omega) (by omega:k%8<8);generalize Fv (Dk bits k) (k/8)=y at*;have hp2:((2:Int)^(k%8))=((2^(k%8):Nat):Int):=by simp
    obtain⟨z,hz⟩: ∃z,z=2^(k%8):=⟨_,rfl⟩;rw[←hz]at H2 hp2 hlt8 hp;have hz2:IntKind.u8.wrap ((y:Int)+(z:Int))=(y:Int)+(z:Int):=by rw[IntKind.wrap_u8];omega
    have H3:Hid ((wr.setCell ⟨w.heap.size,k/8,none⟩ (.int .u8 ((y:Int)+(z:Int)))).ownsRow w.heap.size 5 1 (.slice (some ⟨w.heap.size,0,none⟩) ((s.size+7)/8) ((s.size+7)/8)) ((s.size+7)/8) (Ag (Ah (Dk bits (k+1))))):=by
     have:=H2.out;rw[show((y+z:Nat):Int)=(y:Int)+(z:Int)from by omega]at this;exact this
    have hki:(k:Int)/8<((s.size:Int)+7)/8:=by omega
    have hzm:(z:Int)%256=(z:Int):=by omega
    clear HST hr hpl h0 e2 e3 hb H2 HG hz;go_wp2_with fail
    go_region
    go_wp2;go_roundw
    case rel=>exact⟨k+1,by omega,by go_num,H3.out,(hkr.setCell (.inl (Ale _)) _).drew⟩
    case measure=>simp[intOf];omega
   ·have hb':bits[k]=false:=by simpa using hb
    rw[if_neg hb]at hsk;rw[←Agk bits k hkb hb']at hr;have HR:Hid (wr.ownsRow w.heap.size 5 1 (.slice (some ⟨w.heap.size,0,none⟩) ((s.size+7)/8) ((s.size+7)/8)) ((s.size+7)/8) (Ag (Ah (Dk bits (k+1))))):=hr;clear hr hb hb' HG;go_wp2;go_roundw
    case rel=>exact⟨k+1,by omega,by go_num,HR.out,hkr⟩
    case measure=>simp[intOf];omega
  ·obtain rfl:k=s.size:=by omega
   have hdec:decide ((s.size:Int)<(s.size:Int))=false:=Ald (by omega);rw[HS.out,Aia,←HS.out]at hr;have hcv:=Gr hr;obtain⟨q,hq⟩: ∃q,q=(⟨(Ah bits).toArray⟩:ByteArray):=⟨_,rfl⟩;rw[←hq]at hcv;have HQ:Aside (q=(⟨(Ah bits).toArray⟩:ByteArray)):=hq;clear hr HG hq;go_wp2;go_ret;exact⟨by rw[HQ.out];rfl,hkr⟩
namespace Hm
theorem Hg(a b:List Bool):Ad (a++b)=Ad a++Ad b:=by simp[Ad]
theorem E1(a:List Bool):(Ad a).length=a.length:=by simp[Ad]
end Hm
theorem Pm(a b:List UInt8):(⟨a.toArray⟩:ByteArray)++⟨b.toArray⟩=⟨(a++b).toArray⟩:=by
 apply An1;simp[ByteArray.data_append]
set_option maxHeartbeats 2000000 in
theorem X4(ao:Option Addr)(c:Nat)(ps:List Nat)(w:World)(hi:Jn w ao ps)(hm1:1≤ps.length)(hm:ps.length≤6001)(he: ∀p∈ps,p≤6000):
  Calls Tryz.prog 47 #[.slice ao ps.length c] w fun e w'=>e= .returned (.string ⟨(Ad (Da ps)).toArray⟩)∧ ∃q,w'=w.drewN q:=by
 have hw10:Lib.bitLen ((ps.length-1)/8)≤10:=Lib.bitLen_le _ 10 (by omega) (by omega);have HR:Hid (Da ps=(ps.map fun p=>decide (p%8=0))++Bv ps (Lib.bitLen ((ps.length-1)/8))):=rfl;rw[HR.out,Hg,←Pm];have hwd:=fun W=>Ac2 (ps.length-1) W (by omega);rw[show((ps.length-1:Nat):Int)=(ps.length:Int)-1 from by omega]at hwd;generalize Lib.bitLen ((ps.length-1)/8)=L at*;clear HR
 go_enter Tryz.func47,Tryz.ntmps47
 go_wp2_with fail
 go_loopw[4,5,6] (fun ms rs i wr=> ∃k:Nat,k≤ps.length∧i= .int .i64 k∧ms= .string ⟨(Ad ((ps.take k).map fun p=>decide (p%8=0))).toArray⟩∧rs= .string ⟨(Ad (Bv (ps.take k) L)).toArray⟩∧ ∃q,wr=w.drewN q) (fun _ _ i _=>ps.length-(intOf i).toNat)
 case atStart=>exact⟨0,Alr _,rfl,rfl,rfl,0,rfl⟩
 case round=>
  obtain⟨k,hk,rfl,rfl,rfl,hq⟩:=hrel;have HW:Aside (∃q,wr=w.drewN q):=hq;have hcw: ∀p,wr.cell? p=w.cell? p:=fun p=>by obtain⟨q,e⟩:=hq;rw[e];rfl
  clear hq;have hl1:(Ad ((ps.take k).map fun p=>decide (p%8=0))).length≤6001:=by rw[E1];simp;omega
  have hl2:(Ad (Bv (ps.take k) L)).length≤60010:=by
   rw[E1];have h1:=O2 (ps.take k) L;have h2:(ps.take k).length*L≤6001*10:=Amk (by simp;omega) hw10;omega
  by_cases hlt:k<ps.length
  ·obtain⟨b,o,hao,hbw,hc1⟩:=hi k hlt;have hek:=he ps[k] (Alo _);have HT:Hid (Ad ((ps.take (k+1)).map fun p=>decide (p%8=0))=Ad ((ps.take k).map fun p=>decide (p%8=0))++[if ps[k]%8=0 then 49 else 48]):=by
    show _=_;rw[Ali hlt,Am9,Hg]
    by_cases e:ps[k]%8=0<;>simp[Ad,e]
   have HT2:Hid (Bv (ps.take (k+1)) L=Bv (ps.take k) L++if ps[k]%8=0 then At (ps[k]/8) L else []):=Qr ps L k hlt;have hdec:decide ((k:Int)<(ps.length:Int))=true:=Alb (by omega);generalize ps[k]=x at*;subst hao;have hc:wr.cell? ⟨b,o+k,none⟩=some (.int .i64 (x:Nat)):=by rw[hcw];exact hc1
   clear hc1 hcw;have hsm1: ¬9223372036854775807<(Ad ((ps.take k).map fun p=>decide (p%8=0))).length+1:=by omega
   clear hi he
   by_cases hx8:x%8=0
   ·have hnum:=fun W=>Qk (x/8) L W (by omega) (by omega);rw[show((x/8:Nat):Int)=(x:Int)/8 from by omega]at hnum;have hx1:((x:Int)%8==0)=true:=by simp;omega
    rw[if_pos hx8]at HT HT2;have HT3:Hid (Ad (Bv (ps.take (k+1)) L)=Ad (Bv (ps.take k) L)++Ad (At (x/8) L)):=by
     show _=_;rw[HT2.out,Hg]
    have hnl:(Ad (At (x/8) L)).length≤10:=by rw[E1,Dg];exact hw10
    have hsm2: ¬9223372036854775807<(Ad (Bv (ps.take k) L)).length+(Ad (At (x/8) L)).length:=by omega
    clear HT2 hl1 hl2 hnl;generalize Ad ((ps.take k).map fun p=>decide (p%8=0))=A at*;generalize Ad (Bv (ps.take k) L)=B at*;generalize Ad (At (x/8) L)=C at*;go_wp2_with fail;go_quiet(first|(refine Ams (hwd _))|(refine Ams (hnum _)));go_wp2;go_roundw
    case rel=>
     obtain⟨q,e⟩:=HW.out;exact⟨k+1,by omega,by go_num,by rw[HT.out,P1],by rw[HT3.out,Pm],q+nq,by rw[e,World.drewN_drewN]⟩
    case measure=>simp[intOf];omega
   ·have hx1:((x:Int)%8==0)=false:=by simp;omega
    rw[if_neg hx8]at HT HT2;rw[Am4]at HT2;clear hl1 hl2;generalize Ad ((ps.take k).map fun p=>decide (p%8=0))=A at*;obtain⟨B,hB⟩: ∃B,B=Ad (Bv (ps.take k) L):=⟨_,rfl⟩;rw[←hB];have HB:Aside (B=Ad (Bv (ps.take k) L)):=hB;clear hB;go_wp2;go_roundw
    case rel=>exact⟨k+1,by omega,by go_num,by rw[HT.out,P1],by rw[HT2.out,HB.out],HW.out⟩
    case measure=>simp[intOf];omega
  ·obtain rfl:k=ps.length:=by omega
   have hdec:decide ((ps.length:Int)<(ps.length:Int))=false:=Ald (by omega);rw[Ama]at hl1 hl2⊢;have hsm: ¬9223372036854775807<(Ad (ps.map fun p=>decide (p%8=0))).length+(Ad (Bv ps L)).length:=by omega
   obtain⟨A,hA⟩: ∃A,A=Ad (ps.map fun p=>decide (p%8=0)):=⟨_,rfl⟩;obtain⟨B,hB⟩: ∃B,B=Ad (Bv ps L):=⟨_,rfl⟩;rw[←hA,←hB]at hsm;rw[←hA,←hB];have HAB:Aside (A=Ad (ps.map fun p=>decide (p%8=0))∧B=Ad (Bv ps L)):=⟨hA,hB⟩;clear hA hB hl1 hl2 hi he hcw;go_wp2;go_ret;exact⟨by rw[←HAB.out.1,←HAB.out.2];rfl,HW.out⟩
namespace Hm
def E9(es:List Nat)(l:Nat)(R:List Bool):Nat→List Bool
 |0=>R
 |k+1=>(E9 es l R k).set (es.getD k 0/2^l+k) true
theorem Qu(es:List Nat)(l:Nat)(R:List Bool)(k:Nat):(E9 es l R k).length=R.length:=by
 induction k with
 |zero=>rfl
 |succ k ih=>simp[E9,ih]
theorem Z8(es:List Nat)(l:Nat)(B R:List Bool)(k:Nat):Fu es l B.length (B++R) k=B++E9 es l R k:=by
 induction k with
 |zero=>rfl
 |succ k ih=>
  rw[Fu,ih,E9,Anc,Amt _ _ (Apa _ _),Aof]
theorem X5(es:List Nat)(n:Nat):Bf es n=Co es (By es.length n)++E9 es (By es.length n) (List.replicate (es.length+n/2^By es.length n+1) false) es.length:=Z8 _ _ _ _ _
theorem Ad3(x k:Nat):At (x%2^k) k=At x k:=by
 unfold At;refine Aoa fun i hi=>?_;have h:i<k:=by simpa using hi
 rw[←Nat.testBit_eq_decide_div_mod_eq,←Nat.testBit_eq_decide_div_mod_eq,Nat.testBit_mod_two_pow];simp[h]
theorem Wn(l:List Bool)(i:Nat):Ad (l.set i true)=(Ad l).set i 49:=by
 unfold Ad;rw[Anm];rfl
theorem Wo(fs:List (ByteArray×ByteArray))(k:Nat)(h:k<fs.length):(Az fs).getD k 0=(Ae (fs.take (k+1))).length:=by
 unfold Az;rw[Ak6,Alu,Amw h];rfl
theorem Ad4(fs:List (ByteArray×ByteArray))(k:Nat)(h:k<fs.length):(Ae (fs.take (k+1))).length=(Ae (fs.take k)).length+fs[k].2.size:=by
 rw[Ali h];unfold Ae;rw[Ana,Alg];simp
theorem Ad5(fs:List (ByteArray×ByteArray))(k:Nat):(Ae (fs.take k)).length≤(Ae fs).length:=by
 conv=>rhs;rw[←Amy k fs]
 unfold Ae;rw[Ana,Alg];omega
end Hm
set_option maxHeartbeats 400000 in
theorem Ad6(ao:Option Addr)(c:Nat)(fs:List (ByteArray×ByteArray))(n:Nat)(w:World)(hf:Cx w ao fs)(hm:fs.length≤40)(hn:n=(Ae fs).length)(hn6:n≤6000):
  Calls Tryz.prog 43 #[.slice ao fs.length c,.int .i64 n] w fun e w'=>e= .returned (.string ⟨(Ad (Bf (Az fs) n)).toArray⟩)∧Apd w w':=by
 obtain⟨i0,hi,hz0,hz1,hz2⟩:=Amz Ft;have hlow:=fun W=>Vk fs.length n W (by omega) hn6;have hL:=Ni fs.length n hn6;have hpw:=fun W=>Rb (By fs.length n) W (by omega);have HR:Aside (Ad (Bf (Az fs) n)=Ad (Co (Az fs) (By fs.length n))++Ad (E9 (Az fs) (By fs.length n) (List.replicate (fs.length+n/2^By fs.length n+1) false) fs.length)):=by
  show _=_;rw[X5,Hg,Ds]
 generalize By fs.length n=L at*;obtain⟨p,hp⟩: ∃p,p=2^L:=⟨_,rfl⟩;rw[←hp]at hpw HR;have hp1:1≤p:=by rw[hp];exact Ans _
 have HP:Aside (p=2^L):=hp;have HN:Aside (n=(Ae fs).length):=hn;have HF:Aside _:=hf;clear hn hf hp;obtain⟨q,hq⟩: ∃q,q=n/p:=⟨_,rfl⟩;have hqn:q≤n:=by rw[hq];exact Anu _ _
 have zq:(n:Int)/(p:Int)=(q:Int):=by rw[hq];simp
 have HQ:Aside (q=n/p):=hq;clear hq;obtain⟨NN,hNN⟩: ∃N,N=fs.length+q+1:=⟨_,rfl⟩;have HNN:Aside (NN=fs.length+q+1):=hNN;have zN:(fs.length:Int)+(q:Int)+1=(NN:Int):=by omega
 have hN1:fs.length+q<NN:=by omega
 have hN2:NN≤6100:=by omega
 rw[←HQ.out,←hNN]at HR;clear hNN;have hqw:IntKind.i64.wrap (q:Int)=(q:Int):=by rw[Al9];omega
 have HP1:Aside (1≤p):=hp1;have hp00: ¬p=0:=by omega
 go_enter Tryz.func43,Tryz.ntmps43
 go_wp2_with fail;refine(hlow _).mono ?_;rintro e w1 ⟨rfl,hw1⟩;subst w1;go_wp2_with fail;refine(hpw _).mono ?_;rintro e w1 ⟨rfl,hw1⟩;subst w1;clear hlow hpw hp1
 go_wp2_with(at_make;refine Ane _ rfl (.tmp 25) (.tmp 25) 79 rfl w.heap.size 5 i0 (.int .u8 0) 1 Tryz.underlying79 hi hz0 hz1 .i64 .i64 _ _ NN rfl rfl (by omega) (by omega) (by rw[hz2];omega) (by unfold maxLen;omega) (Ale _) ?_;intro w2 ho2 hg2)
 have hr1:w2.ownsRow w.heap.size 5 1 (.slice (some ⟨w.heap.size,0,none⟩) NN NN) NN (Ag (List.replicate 0 48++List.replicate (NN-0) 0)):=by
  rw[Ao9,Aoo,Aoz,←O8];exact ho2
 have hk1:Apd w w2:=(Aa.refl _ _).grown hg2 (fun k hk=>by cases hk);clear ho2 hg2
 go_loopw[10] (fun i wr=> ∃k:Nat,k≤NN∧i= .int .i64 k∧wr.ownsRow w.heap.size 5 1 (.slice (some ⟨w.heap.size,0,none⟩) NN NN) NN (Ag (List.replicate k 48++List.replicate (NN-k) 0))∧Apd w wr) (fun i _=>NN-(intOf i).toNat)
 case atStart=>exact⟨0,Alr _,rfl,hr1,hk1⟩
 case round=>
  clear hr1 hk1;obtain⟨k,hk,rfl,hr,hkr⟩:=hrel
  by_cases hlt:k<NN
  ·have hdec:decide ((k:Int)<(NN:Int))=true:=Alb (by omega);obtain⟨x,hc⟩: ∃x,wr.cell? ⟨w.heap.size,k,none⟩=some x:=⟨_,(hr.cellAt k (by omega)).trans (Ak7 (by simp[Ag];omega))⟩;have hf:wr.frozen? ⟨w.heap.size,k,none⟩=false:=hr.frozenAt _;have HST:=(hr.stored k (.int .u8 48)).1;have e2:(Ag (List.replicate k 48++List.replicate (NN-k) 0)).set k (.int .u8 48)=Ag (List.replicate (k+1) 48++List.replicate (NN-(k+1)) 0):=by
    have e3:(List.replicate k (48:UInt8)++List.replicate (NN-k) 0).set k 48=List.replicate (k+1) 48++List.replicate (NN-(k+1)) 0:=by
     have hl:(List.replicate k (48:UInt8)).length=k:=by simp
     rw[Amt _ _ (by omega),hl,Amr,show NN-k=(NN-(k+1))+1 from by omega,Anf (n:=NN-(k+1)),Ao4 (n:=k),Alx];rfl
    rw[←e3,Ag,Ag,Anm];rfl
   rw[e2]at HST;have H2:Hid (World.ownsRow _ w.heap.size 5 1 (.slice (some ⟨w.heap.size,0,none⟩) NN NN) NN (Ag (List.replicate (k+1) 48++List.replicate (NN-(k+1)) 0))):=HST;clear HST hr e2;go_wp2;go_roundw
   case rel=>exact⟨k+1,by omega,by go_num,H2.out,hkr.setCell (.inl (Ale _)) _⟩
   case measure=>simp[intOf];omega
  ·obtain rfl:NN=k:=by omega
   have hdec:decide ((NN:Int)<(NN:Int))=false:=Ald (by omega);rw[Amr,Ao9,Am4]at hr;have e0:List.replicate NN (48:UInt8)=Ad (E9 (Az fs) L (List.replicate NN false) 0):=by simp[E9,Ad]
   rw[e0]at hr;have hN6:(Ae fs).length≤6000:=by have:=HN.out;omega
   go_wp2
   go_loopw[8,11,12] (fun s e i wr=> ∃k:Nat,k≤fs.length∧i= .int .i64 k∧e= .int .i64 ((Ae (fs.take k)).length:Nat)∧s= .string ⟨(Ad (Co ((Az fs).take k) L)).toArray⟩∧wr.ownsRow w.heap.size 5 1 (.slice (some ⟨w.heap.size,0,none⟩) NN NN) NN (Ag (Ad (E9 (Az fs) L (List.replicate NN false) k)))∧Apd w wr) (fun _ _ i _=>fs.length-(intOf i).toNat)
   case atStart=>exact⟨0,Alr _,rfl,rfl,rfl,hr,hkr⟩
   case round=>
    clear hr hkr e0 hdec hk hlt;obtain⟨k,hk,rfl,rfl,rfl,hr,hkr⟩:=hrel;have hel:=Ds fs;have hsl:(Ad (Co ((Az fs).take k) L)).length≤480:=by
     rw[E1,Hc];have:((Az fs).take k).length*L≤40*12:=Amk (by simp;omega) hL;omega
    by_cases hlt:k<fs.length
    ·obtain⟨b,o,hao,hbw,_,hc2⟩:=(Cx.kept HF.out hkr (fun _ _ h=>h)) k hlt;have htn:=Ad4 fs k hlt;have htl:=Ad5 fs (k+1);have hek:(Az fs)[k]'(by omega)=(Ae (fs.take (k+1))).length:=by
      have:=Wo fs k hlt;rw[Ak6,Ak7 (by omega)]at this;simpa using this
     have HT:Aside (Ad (Co ((Az fs).take (k+1)) L)=Ad (Co ((Az fs).take k) L)++Ad (At (Ae (fs.take (k+1))).length L)):=by
      show _=_;rw[Tn _ _ _ (by omega),hek,Hg]
     have HH:Aside (Ad (E9 (Az fs) L (List.replicate NN false) (k+1))=(Ad (E9 (Az fs) L (List.replicate NN false) k)).set ((Ae (fs.take (k+1))).length/p+k) 49):=by
      show _=_;rw[E9,Wn,Wo fs k hlt,HP.out]
     rw[←HN.out]at htl;generalize fs[k].2=ct at*;obtain⟨e1,he1⟩: ∃e,e=(Ae (fs.take (k+1))).length:=⟨_,rfl⟩;have HE1:Aside (e1=(Ae (fs.take (k+1))).length):=he1;rw[←he1]at htn htl HT HH;obtain⟨e0,he0⟩: ∃e,e=(Ae (fs.take k)).length:=⟨_,rfl⟩;rw[←he0]at htn;rw[←he0];clear he0 he1 hek;have zs:(e0:Int)+(ct.size:Int)=(e1:Int):=by omega
     have hnum:=fun W=>Qk (e1%p) L W (by omega) (by have:=Nat.mod_le e1 p;omega);have hnb:Aside (At (e1%p) L=At e1 L):=by show _=_;rw[HP.out];exact Ad3 e1 L
     rw[hnb.out]at hnum;rw[show((e1%p:Nat):Int)=(e1:Int)%(p:Int)from by simp]at hnum;obtain⟨r,hr0⟩: ∃r,r=e1/p:=⟨_,rfl⟩;have hrq:r≤q:=by rw[hr0,HQ.out];exact Nat.div_le_div_right htl
     have zr:(e1:Int)/(p:Int)=(r:Int):=by rw[hr0];simp
     rw[←hr0]at HH;clear hr0;obtain⟨md,hmd⟩: ∃md,md=e1%p:=⟨_,rfl⟩;have zm:(e1:Int)%(p:Int)=(md:Int):=by rw[hmd];simp
     have hmdl:md≤6000:=by rw[hmd];have:=Nat.mod_le e1 p;omega
     rw[zm]at hnum;clear hmd;have hmw:IntKind.i64.wrap (md:Int)=(md:Int):=by rw[Al9];omega
     have hrw:IntKind.i64.wrap (r:Int)=(r:Int):=by rw[Al9];omega
     have hnl:(Ad (At e1 L)).length≤12:=by rw[E1,Dg];exact hL
     have hsm: ¬9223372036854775807<(Ad (Co ((Az fs).take k) L)).length+(Ad (At e1 L)).length:=by omega
     have hhl:(Ad (E9 (Az fs) L (List.replicate NN false) k)).length=NN:=by rw[E1,Qu];simp
     obtain⟨x,hc⟩: ∃x,wr.cell? ⟨w.heap.size,r+k,none⟩=some x:=⟨_,(hr.cellAt (r+k) (by omega)).trans (Ak7 (by simp only[Ag,Al6,hhl];omega))⟩;have hf:wr.frozen? ⟨w.heap.size,r+k,none⟩=false:=hr.frozenAt _;have HST:=(hr.stored (r+k) (.int .u8 49)).1;have e2:(Ag (Ad (E9 (Az fs) L (List.replicate NN false) k))).set (r+k) (.int .u8 49)=Ag (Ad (E9 (Az fs) L (List.replicate NN false) (k+1))):=by
      rw[HH.out,Ag,Ag,Anm];rfl
     rw[e2]at HST;have H2:Hid (World.ownsRow _ w.heap.size 5 1 (.slice (some ⟨w.heap.size,0,none⟩) NN NN) NN (Ag (Ad (E9 (Az fs) L (List.replicate NN false) (k+1))))):=HST;have hb3:(r:Int)+(k:Int)<(NN:Int):=by omega
     have hdec:decide ((k:Int)<(fs.length:Int))=true:=Alb (by omega);have he6:e1≤6000:=by omega
     have hp1:=HP1.out;rw[hao];clear HST hr e2 hhl hao hsl hel htn hnl HF htl;generalize Ad (Co ((Az fs).take k) L)=A at*;generalize Ad (At e1 L)=B at*;go_wp2_with fail;refine(hnum _).mono ?_;rintro e w3 ⟨rfl,hw3⟩;subst w3;clear hnum;go_wp2;go_roundw
     case rel=>exact⟨k+1,by omega,by go_num,by rw[HE1.out],by rw[HT.out,Pm],H2.out,hkr.setCell (.inl (Ale _)) _⟩
     case measure=>simp[intOf];omega
    ·obtain rfl:fs.length=k:=by omega
     have hdec:decide ((fs.length:Int)<(fs.length:Int))=false:=Ald (by omega);rw[←hel,Ama]at hsl;have eT:(Az fs).take fs.length=Az fs:=by rw[←hel,Ama]
     rw[eT];have hcv:=Gr hr;have hhl:(Ad (E9 (Az fs) L (List.replicate NN false) fs.length)).length=NN:=by rw[E1,Qu];simp
     obtain⟨A,hA⟩: ∃A,A=Ad (Co (Az fs) L):=⟨_,rfl⟩;obtain⟨B,hB⟩: ∃B,B=Ad (E9 (Az fs) L (List.replicate NN false) fs.length):=⟨_,rfl⟩;have HAB:Aside (A=Ad (Co (Az fs) L)∧B=Ad (E9 (Az fs) L (List.replicate NN false) fs.length)):=⟨hA,hB⟩;rw[←hA]at hsl;rw[←hA];rw[←hB]at hcv hhl;have hsm: ¬9223372036854775807<A.length+B.length:=by omega
     clear hA hB hr hhl eT hel hsl;generalize(Ae (fs.take fs.length)).length=te at*;go_wp2;go_ret;exact⟨by rw[HR.out,←HAB.out.1,←HAB.out.2,←Pm];rfl,hkr⟩
namespace Hm
theorem Qv: ∀(a b:List UInt8),Op.bytesLess a b=true↔Dd a b
 |[],[]=>by simp[Op.bytesLess,Dd]
 |[],_::_=>by simp[Op.bytesLess,Dd]
 |_::_,[]=>by simp[Op.bytesLess,Dd]
 |a::l,b::m=>by
  have ih:=Qv l m;simp only[Op.bytesLess,Dd]
  by_cases h:a<b
  ·have h':a.toNat<b.toNat:=UInt8.lt_iff_toNat_lt.1 h;simp[h,h']
  ·have h': ¬a.toNat<b.toNat:=fun k=>h (UInt8.lt_iff_toNat_lt.2 k)
   by_cases e:a=b
   ·subst e;simp[ih]
   ·simp[h,h',e]
abbrev lt(s:List UInt8)(i j:Nat):Prop:=Dd (s.drop i) (s.drop j)
theorem Ajq(s:List UInt8){i j:Nat}(hi:i≤s.length)(hj:j≤s.length)(h:i≠j):lt s i j∨lt s j i:=by
 rcases Me (s.drop i) (s.drop j)with c|c|c
 ·exact .inl c
 ·have e:=congrArg List.length c;simp at e;omega
 ·exact .inr c
structure Gl(s:List UInt8)(a b:List Nat)(i k:Nat)(out:List Nat):Prop where
 perm:out.Perm (a.take i++b.take k)
 srt:out.Pairwise (lt s)
 la: ∀x∈out,∀y∈a.drop i,lt s x y
 lb: ∀x∈out,∀y∈b.drop k,lt s x y
theorem Gl.none(s:List UInt8)(a b:List Nat):Gl s a b 0 0 []:=⟨by simp,List.Pairwise.nil,fun x h=>by simp at h,fun x h=>by simp at h⟩
theorem Gl.left{s:List UInt8}{a b out:List Nat}{i k:Nat}(h:Gl s a b i k out)(ha:a.Pairwise (lt s))(hi:i<a.length)(hb: ∀y∈b.drop k,lt s a[i] y):Gl s a b (i+1) k (out++[a[i]]):=by
 have hd:a.drop i=a[i]::a.drop (i+1):=Al4 hi;have hp:=(ha.sublist (List.drop_sublist i a));rw[hd,Ao0]at hp;refine⟨?_,?_,fun x hx y hy=>?_,fun x hx y hy=>?_⟩
 ·rw[Ali hi];refine(h.perm.append_right [a[i]]).trans ?_;rw[Alx,Alx];exact List.Perm.append_left _ (List.perm_append_comm)
 ·rw[List.pairwise_append];exact⟨h.srt,List.pairwise_singleton _ _,fun x hx y hy=>by rw[List.mem_singleton.1 hy];exact h.la x hx _ (by rw[hd];exact Alp)⟩
 ·rcases Ao7.1 hx with hx|hx
  ·exact h.la x hx y (by rw[hd];exact Als _ hy)
  ·rw[List.mem_singleton.1 hx];exact hp.1 y hy
 ·rcases Ao7.1 hx with hx|hx
  ·exact h.lb x hx y hy
  ·rw[List.mem_singleton.1 hx];exact hb y hy
theorem Gl.right{s:List UInt8}{a b out:List Nat}{i k:Nat}(h:Gl s a b i k out)(hb:b.Pairwise (lt s))(hk:k<b.length)(ha: ∀y∈a.drop i,lt s b[k] y):Gl s a b i (k+1) (out++[b[k]]):=by
 have hd:b.drop k=b[k]::b.drop (k+1):=Al4 hk;have hp:=(hb.sublist (List.drop_sublist k b));rw[hd,Ao0]at hp;refine⟨?_,?_,fun x hx y hy=>?_,fun x hx y hy=>?_⟩
 ·rw[Ali hk,←Alx];exact h.perm.append_right _
 ·rw[List.pairwise_append];exact⟨h.srt,List.pairwise_singleton _ _,fun x hx y hy=>by rw[List.mem_singleton.1 hy];exact h.lb x hx _ (by rw[hd];exact Alp)⟩
 ·rcases Ao7.1 hx with hx|hx
  ·exact h.la x hx y hy
  ·rw[List.mem_singleton.1 hx];exact ha y hy
 ·rcases Ao7.1 hx with hx|hx
  ·exact h.lb x hx y (by rw[hd];exact Als _ hy)
  ·rw[List.mem_singleton.1 hx];exact hp.1 y hy
theorem Aex{s:List UInt8}{b:List Nat}{k x:Nat}(hb:b.Pairwise (lt s))(hk:k<b.length)(h:lt s x b[k]): ∀y∈b.drop k,lt s x y:=fun y hy=>by
 have hd:b.drop k=b[k]::b.drop (k+1):=Al4 hk;have hp:=(hb.sublist (List.drop_sublist k b));rw[hd,Ao0]at hp;rw[hd]at hy;rcases List.mem_cons.1 hy with rfl|hy
 ·exact h
 ·exact Md h (hp.1 y hy)
structure I0(s:List UInt8)(f t:Nat)(ps:List Nat):Prop where
 perm:ps.Perm (List.range' f (t-f))
 srt:ps.Pairwise (lt s)
theorem I0.mem{s:List UInt8}{f t:Nat}{ps:List Nat}(h:I0 s f t ps)(x:Nat)(hx:x∈ps):f≤x∧x<t:=by
 have:=h.perm.mem_iff.1 hx;rw[List.mem_range'_1]at this;omega
theorem I0.len{s:List UInt8}{f t:Nat}{ps:List Nat}(h:I0 s f t ps):ps.length=t-f:=by have:=h.perm.length_eq;simpa using this
theorem I0.one(s:List UInt8)(f:Nat):I0 s f (f+1) [f]:=⟨by rw[Aof];exact List.Perm.refl _,List.pairwise_singleton _ _⟩
theorem Gl.done{s:List UInt8}{a b out:List Nat}{f m t:Nat}(h:Gl s a b a.length b.length out)(ha:I0 s f m a)(hb:I0 s m t b)(h1:f≤m)(h2:m≤t):I0 s f t out:=by
 refine⟨?_,h.srt⟩;have:=h.perm;rw[Ama,Ama]at this;refine this.trans ((ha.perm.append hb.perm).trans ?_);have e:List.range' f (t-f)=List.range' f (m-f)++List.range' m (t-m):=by
  rw[show t-f=(m-f)+(t-m)from by omega,←List.range'_append_1,show f+(m-f)=m from by omega]
 rw[e]
theorem I0.sorted{s:List UInt8}{ps:List Nat}(h:I0 s 0 (s.length+1) ps):Dr s ps:=⟨by have:=h.perm;rw[Aoz,←List.range_eq_range']at this;exact this,h.srt⟩
end Hm
end Go.Proofs.YtegnkfdbmmndaaaGreat
