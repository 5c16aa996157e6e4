import Derived.Test.YtegnkfdbmmndaaaGreatJ00
import Derived.Test.YtegnkfdbmmndaaaGreatJ03
import Derived.Test.YtegnkfdbmmndaaaGreatJ02

namespace Go.Proofs.YtegnkfdbmmndaaaGreat
open Hm
open Go.RowKit
set_option maxHeartbeats 400000 in
theorem Rb(k:Nat)(w:World)(hk:k≤60):Calls Tryz.prog 84 #[.int .i64 k] w fun e w'=>e= .returned (.int .i64 ((2^k:Nat):Int))∧w'=w:=by
 go_enter Tryz.func84,Tryz.ntmps84
 go_wp2
 go_loop [3,4] (fun p i=> ∃j:Nat,j≤k∧i= .int .i64 j∧p= .int .i64 ((2^j:Nat):Int)) (fun _ i=>k-(intOf i).toNat)
 case atStart=>exact⟨0,Alr _,rfl,rfl⟩
 case round=>
  obtain⟨j,hj,rfl,rfl⟩:=hrel
  by_cases hlt:j<k
  ·have hdec:decide ((j:Int)<(k:Int))=true:=by simp;omega
   have hb:2^j≤1152921504606846976:=Am2 (by omega) (show j≤60 by omega);have HP:Hid (2^(j+1)=2*2^j):=by show _=_;rw[Amv,Aoj]
   generalize hy:2^j=y at*;clear hy;go_wp2
   go_round
   case rel=>exact⟨j+1,by omega,by go_num,by rw[HP.out];go_num⟩
   case measure=>simp[intOf];omega
  ·have hdec:decide ((j:Int)<(k:Int))=false:=by simp;omega
   have hje:j=k:=by omega
   subst hje;obtain⟨y,hy⟩: ∃y:Nat,2^j=y:=⟨_,rfl⟩;have HY:Hid (((2^j:Nat):Int)=(y:Int)):=by show _=_;rw[hy]
   rw[hy];clear hy;go_wp2;go_ret;exact⟨by rw[←HY.out];simp,rfl⟩
set_option maxHeartbeats 400000 in
theorem Vk(m n:Nat)(w:World)(hm:m≤1000)(hn:n≤6000):Calls Tryz.prog 83 #[.int .i64 m,.int .i64 n] w fun e w'=>e= .returned (.int .i64 (By m n:Nat))∧w'=w:=by
 by_cases h0:m=0
 ·subst h0
  go_enter Tryz.func83,Tryz.ntmps83
  go_wp2;refine wp_loop_rounds 1 ?_;rw[rounds_succ];go_wp2;go_ret;exact⟨rfl,rfl⟩
 have HE:Hid (By m n=Do m n (14-0) 0):=by unfold By;rw[if_neg h0];rfl
 generalize By m n=L at HE⊢;have h1:1≤m:=by omega
 have hpos:decide (0<m)=true:=by simp;omega
 go_enter Tryz.func83,Tryz.ntmps83
 go_wp2
 go_loop [5,6] (fun i f=> ∃j:Nat,j≤12∧i= .int .i64 j∧f= .int .i64 ((m*2^(j+1):Nat):Int)∧m*2^j≤6000+m∧L=Do m n (14-j) j) (fun i _=>14-(intOf i).toNat)
 case atStart=>exact⟨0,by omega,rfl,by simp;omega,by omega,HE.out⟩
 case round=>
  clear HE;obtain⟨j,hj,rfl,rfl,hp,hL⟩:=hrel;have HL:Hid (L=if m*2^(j+1)≤n then Do m n (13-j) (j+1)else j):=by
   show _=_;rw[hL,show 14-j=(13-j)+1 from by omega];rfl
  have e2:m*2^(j+1)=m*2^j*2:=by rw[Amv,Aot]
  have e3:m*2^(j+1+1)=m*2^(j+1)*2:=by rw[Amv,Aot]
  obtain⟨p,HP⟩: ∃p:Nat,m*2^(j+1)=p:=⟨_,rfl⟩;rw[HP]at HL e2 e3⊢;have hj2:p≤n→j<12:=by
   intro hpn;rcases Am7 j 12 with h|h
   ·exact h
   ·have:j=12:=by omega
    subst this;have:1*2^13≤m*2^13:=Anj _ h1;omega
  have hpb:p≤14000:=by omega
  have HJ:Hid ((p≤n→j<12)∧m*2^(j+1+1)=p*2∧m*2^(j+1)=p):=⟨hj2,e3,HP⟩;clear hL hp e2 e3 hj2 HP
  by_cases hpn:p≤n
  ·have hd:decide ((p:Int)≤(n:Int))=true:=by simp;omega
   go_wp2
   go_round
   case rel=>
    have hj12:=HJ.out.1 hpn;refine⟨j+1,by omega,by go_num,by rw[HJ.out.2.1];go_num,by rw[HJ.out.2.2];omega,?_⟩;rw[HL.out,if_pos hpn];congr 1;omega
   case measure=>simp[intOf];omega
  ·have hd:decide ((p:Int)≤(n:Int))=false:=by simp;omega
   go_wp2;go_ret;refine⟨?_,rfl⟩;have:L=j:=by rw[HL.out,if_neg hpn]
   rw[this];rfl
theorem Ag6(x j:Nat)(h1:x<2^j)(h2:j=0∨2^(j-1)≤x)(hx:x<2^64)(hj:j≤64):Lib.bitLen x=j:=by
 rcases h2 with rfl|h2
 ·have:x=0:=by simpa using h1
  subst this;rfl
 ·have hle:=Lib.bitLen_le x j hj h1;have h3:=Lib.bitLen_shift (j-1) x h2 hx;have hj0:j≠0:=by
   rintro rfl;have:x=0:=by simpa using h1
   subst this;simp at h2
  have hd:1≤x/2^(j-1):=(Nat.le_div_iff_mul_le (Ans _)).2 (by omega);have h4:=Lib.bitLen_half (x/2^(j-1)) (by omega) (Amx (Anu _ _) hx);omega
set_option maxHeartbeats 400000 in
theorem Ac2(n:Nat)(w:World)(hn:n≤10000):Calls Tryz.prog 92 #[.int .i64 n] w fun e w'=>e= .returned (.int .i64 (Lib.bitLen (n/8):Nat))∧w'=w:=by
 obtain⟨x,hx⟩: ∃x,n/8=x:=⟨_,rfl⟩;have hxl:x≤1250:=by omega
 have hxi:(n:Int)/8=(x:Int):=by omega
 rw[hx];clear hx
 go_enter Tryz.func92,Tryz.ntmps92
 go_wp2
 go_loop [3,4] (fun i f=> ∃j:Nat,j≤11∧i= .int .i64 j∧f= .int .i64 ((2^j:Nat):Int)∧(j=0∨2^(j-1)≤x)) (fun i _=>14-(intOf i).toNat)
 case atStart=>exact⟨0,by omega,rfl,rfl,.inl rfl⟩
 case round=>
  obtain⟨j,hj,rfl,rfl,hp⟩:=hrel;obtain⟨y,hy⟩: ∃y:Nat,2^j=y:=⟨_,rfl⟩;have hyb:y≤2048:=by rw[←hy];exact Am2 (by omega) hj
  have HY:Hid (2^j=y∧(j=0∨2^(j-1)≤x)):=⟨hy,hp⟩;rw[hy];clear hy hp
  by_cases hle:y≤x
  ·have hd:decide ((y:Int)≤(x:Int))=true:=by simp;omega
   go_wp2
   go_round
   case rel=>
    have h1:=HY.out.1;have hj10:j≤10:=by
     rcases Am7 j 11 with h|h
     ·omega
     ·have:2^11≤2^j:=Am2 (by omega) h;omega
    refine⟨j+1,by omega,by go_num,?_,.inr (by rw[An0,h1];exact hle)⟩;rw[Amv,h1];go_num
   case measure=>simp[intOf];omega
  ·have hd:decide ((y:Int)≤(x:Int))=false:=by simp;omega
   go_wp2;go_ret;refine⟨?_,rfl⟩;rw[Ag6 x j (by rw[HY.out.1];omega) HY.out.2 (by omega) (by omega)];rfl
theorem Tp(a b:Nat)(ha:a<4294967296)(hb:b<4294967296):bits .xor .i64 (a:Int) (b:Int)=((a^^^b:Nat):Int):=by
 have hx:a^^^b<2^32:=Nat.xor_lt_two_pow (by omega) (by omega);have h1:(BitVec.ofInt 64 (a:Int)).toNat=a:=by rw[Ao6,BitVec.toNat_ofNat];exact Anb (by omega)
 have h2:(BitVec.ofInt 64 (b:Int)).toNat=b:=by rw[Ao6,BitVec.toNat_ofNat];exact Anb (by omega)
 show IntKind.i64.wrap ((BitVec.ofInt 64 (a:Int)^^^BitVec.ofInt 64 (b:Int)).toNat:Int)=_;rw[BitVec.toNat_xor,h1,h2,Al9];omega
theorem Hm.Aix(r:Nat)(h:r<4294967296):r^^^4294967295=4294967295-r:=by
 apply Nat.eq_of_testBit_eq;intro i;rw[Nat.testBit_xor];have e:4294967295-r=2^32-(r+1):=by omega
 rw[e,Nat.testBit_two_pow_sub_succ (by omega),show 4294967295=2^32-1 from rfl,Nat.testBit_two_pow_sub_one]
 by_cases hi:i<32
 ·simp[hi]
 ·have:r.testBit i=false:=Nat.testBit_lt_two_pow (Amp h (show 2^32≤2^i from Am2 (by omega) (by omega)));simp[hi,this]
set_option maxHeartbeats 400000 in
theorem Afc(s:ByteArray)(w:World)(hs:s.size≤1000000):Calls Tryz.prog 48 #[.string s] w fun e w'=>e= .returned (.int .i64 (Hm.crc s.data.toList:Nat))∧w'=w:=by
 have hsl:s.data.toList.length=s.size:=by simp
 go_enter Tryz.func48,Tryz.ntmps48
 go_wp2
 go_loop [3,4] (fun c i=> ∃k:Nat,k≤s.size∧i= .int .i64 k∧c= .int .i64 (Fh (s.data.toList.take k):Nat)) (fun _ i=>s.size-(intOf i).toNat)
 case atStart=>exact⟨0,Alr _,rfl,rfl⟩
 case round=>
  obtain⟨k,hk,rfl,rfl⟩:=hrel;have hlr:=Ra (s.data.toList.take k)
  by_cases hlt:k<s.size
  ·obtain⟨y,hy⟩: ∃y:Nat,s[k].toNat=y:=⟨_,rfl⟩;have hby:y<256:=by rw[←hy];exact UInt8.toNat_lt _
   have HT:Hid (Fh (s.data.toList.take (k+1))=Dy 8 (Fh (s.data.toList.take k)^^^y)):=by
    have:=To s.data.toList k (by omega);rw[show s.data.toList[k].toNat=y from by rw[←hy];simp[ByteArray.getElem_eq_getElem_data]]at this;exact this
   generalize Fh (s.data.toList.take k)=r0 at hlr HT⊢;have hxor:bits .xor .i64 (r0:Int) (y:Int)=((r0^^^y:Nat):Int):=Tp _ _ hlr (by omega);clear hsl;go_wp2
   go_loop [3,5] (fun c i=> ∃j:Nat,j≤8∧i= .int .i64 j∧c= .int .i64 (Dy j (r0^^^y):Nat)) (fun _ i=>8-(intOf i).toNat)
   case atStart=>exact⟨0,Alr _,rfl,rfl⟩
   case round=>
    obtain⟨j,hj,rfl,rfl⟩:=hrel;have hst:Dy j (r0^^^y)<4294967296:=Oz j (Ly hlr (by omega));have HS:Hid (Dy (j+1) (r0^^^y)=Iu (Dy j (r0^^^y))):=rfl
    by_cases hlt8:j<8
    ·generalize Dy j (r0^^^y)=s0 at hst HS⊢;have hd8:decide ((j:Int)<8)=true:=by simp;omega
     have hx2:bits .xor .i64 ((s0:Int)/2) 3988292384=((s0/2^^^3988292384:Nat):Int):=Tp (s0/2) 3988292384 (by omega) (by omega);have hxl:=Ly (a:=s0/2) (b:=3988292384) (by omega) (by omega)
     by_cases hb2:s0%2=1
     ·have hb1:(s0:Int)%2=1:=by omega
      have HQ:Hid (Dy (j+1) (r0^^^y)=s0/2^^^3988292384):=by show _=_;rw[HS.out,Iu,if_pos hb2]
      go_wp2
      go_round
      case rel=>exact⟨j+1,by omega,by go_num,by rw[HQ.out]⟩
      case measure=>simp[intOf];omega
     ·have hb1:((s0:Int)%2==1)=false:=by rw[Al5];omega
      have HQ:Hid (Dy (j+1) (r0^^^y)=s0/2):=by show _=_;rw[HS.out,Iu,if_neg hb2]
      clear hx2 hxl;go_wp2
      go_round
      case rel=>exact⟨j+1,by omega,by go_num,by rw[HQ.out];go_num⟩
      case measure=>simp[intOf];omega
    ·have hd8:decide ((j:Int)<8)=false:=by simp;omega
     go_wp2
     go_round
     case rel=>
      obtain rfl:j=8:=by omega
      exact⟨k+1,by omega,by go_num,by rw[HT.out]⟩
     case measure=>simp[intOf];omega
  ·have hdk:decide ((k:Int)<(s.size:Int))=false:=by simp;omega
   have hkn:s.data.toList.take k=s.data.toList:=Al8 (by omega);rw[hkn]at hlr⊢;have HC:Hid (Hm.crc s.data.toList=4294967295-Fh s.data.toList):=by
    show _=_;unfold Hm.crc;exact Aix _ hlr
   generalize Fh s.data.toList=r at*;clear hkn hsl;go_wp2;go_ret;refine⟨?_,rfl⟩;rw[HC.out,show((4294967295-r:Nat):Int)=4294967295-(r:Int)from by omega];rfl
namespace Hm
def Ad(l:List Bool):List UInt8:=l.map fun b=>if b then 49 else 48
end Hm
theorem P1(l:List UInt8)(b:UInt8):(⟨l.toArray⟩:ByteArray)++⟨#[b]⟩=⟨(l++[b]).toArray⟩:=by
 apply An1;simp[ByteArray.data_append]
set_option maxHeartbeats 400000 in
theorem Qk(n k:Nat)(w:World)(hk:k≤60)(hn:n≤1000000):Calls Tryz.prog 85 #[.int .i64 n,.int .i64 k] w fun e w'=>e= .returned (.string ⟨(Ad (At n k)).toArray⟩)∧w'=w:=by
 go_enter Tryz.func85,Tryz.ntmps85
 go_wp2
 go_loop [0,5,6] (fun x s i=> ∃j:Nat,j≤k∧i= .int .i64 j∧x= .int .i64 ((n/2^j:Nat):Int)∧s= .string ⟨(Ad (At n j)).toArray⟩) (fun _ _ i=>k-(intOf i).toNat)
 case atStart=>exact⟨0,Alr _,rfl,by simp,rfl⟩
 case round=>
  obtain⟨j,hj,rfl,rfl,rfl⟩:=hrel;have hyl:n/2^j≤1000000:=Al2 (Anu _ _) hn;have HP:Hid (n/2^(j+1)=n/2^j/2):=by show _=_;rw[Amv,Aox]
  have hsl:(Ad (At n j)).length=j:=by simp[Ad,Dg]
  have hsm: ¬9223372036854775807<(Ad (At n j)).length+1:=by omega
  clear hsl
  by_cases hlt:j<k
  ·have hdec:decide ((j:Int)<(k:Int))=true:=by simp;omega
   generalize hy:n/2^j=y at*
   by_cases hb:y%2=1
   ·have hb1:(y:Int)%2=1:=by omega
    have HS:Hid (Ad (At n (j+1))=Ad (At n j)++[49]):=by
     show _=_;rw[Nk,hy,Ad,Am9];simp[Ad,hb]
    have HY:Hid (n/2^j=y):=hy;clear hy;generalize Ad (At n j)=l at*;go_wp2
    go_round
    case rel=>exact⟨j+1,by omega,by go_num,by rw[HP.out];go_num,by rw[HS.out,P1]⟩
    case measure=>simp[intOf];omega
   ·have hb1:((y:Int)%2==1)=false:=by rw[Al5];omega
    have HS:Hid (Ad (At n (j+1))=Ad (At n j)++[48]):=by
     show _=_;rw[Nk,hy,Ad,Am9];simp[Ad,hb]
    have HY:Hid (n/2^j=y):=hy;clear hy;generalize Ad (At n j)=l at*;go_wp2
    go_round
    case rel=>exact⟨j+1,by omega,by go_num,by rw[HP.out];go_num,by rw[HS.out,P1]⟩
    case measure=>simp[intOf];omega
  ·have hdec:decide ((j:Int)<(k:Int))=false:=by simp;omega
   have hje:j=k:=by omega
   subst hje;generalize n/2^j=y at*;generalize hl:Ad (At n j)=l at*;have HL:Hid (Ad (At n j)=l):=hl;clear hl;go_wp2;go_ret;exact⟨by rw[HL.out];rfl,rfl⟩
end Go.Proofs.YtegnkfdbmmndaaaGreat
namespace Go.Proofs.YtegnkfdbmmndaaaGreat
open Hm
namespace Hm
structure Br where
 whole:Bool:=false
 val:UInt8:=0
 node:Nat:=0
structure Nd where
 depth:Nat:=0
 num:Nat:=0
 frm:Nat:=0
 siz:Nat:=0
 b0:Br:={}
 b1:Br:={}
def Nd.put(n:Nd)(s:Nat)(b:Br):Nd:=if s=0 then{n with b0:=b}else{n with b1:=b}
def Nd.br(n:Nd)(s:Nat):Br:=if s=0 then n.b0 else n.b1
def Ab(nds:List Nd)(i:Nat):Nd:=nds.getD i {}
def Bz(nds:List Nd)(i s:Nat)(b:Br):List Nd:=nds.set i ((Ab nds i).put s b)
def Fi(ln:UInt8→Nat)(i s:Nat)(nds:List Nd):List UInt8→List Nd×List UInt8
 |[]=>(nds,[])
 |b::r=>if ln b=(Ab nds i).depth+1 then(Bz nds i s {whole:=true,val:=b},r)
  else(Bz nds i s {node:=nds.length}++[{depth:=(Ab nds i).depth+1,num:=2*(Ab nds i).num+s}],b::r)
def Al(ln:UInt8→Nat)(o:List UInt8):Nat→List Nd×List UInt8
 |0=>([{}],o)
 |t+1=>Fi ln (t/2) (t%2) (Al ln o t).1 (Al ln o t).2
theorem Ia(nds:List Nd)(i j:Nat)(x:Nd)(h:i≠j):Ab (nds.set i x) j=Ab nds j:=by
 unfold Ab;rw[Ak6,Aoh h,←Ak6]
theorem Gd(nds:List Nd)(i:Nat)(x:Nd)(h:i<nds.length):Ab (nds.set i x) i=x:=by
 unfold Ab;rw[Ak6,Aol h];rfl
theorem J9(nds l:List Nd)(i:Nat)(h:i<nds.length):Ab (nds++l) i=Ab nds i:=by
 unfold Ab;rw[Ak6,Amh h,←Ak6]
theorem Lh(nds:List Nd)(x:Nd):Ab (nds++[x]) nds.length=x:=by
 unfold Ab;rw[Ak6,Alt (Ale _)];simp
theorem B8(nds:List Nd)(i s:Nat)(b:Br):(Bz nds i s b).length=nds.length:=by simp[Bz]
theorem Ag7(n:Nd)(s:Nat)(b:Br):(n.put s b).depth=n.depth:=by unfold Nd.put;split<;>rfl
theorem Akf(n:Nd)(s:Nat)(b:Br):(n.put s b).num=n.num:=by unfold Nd.put;split<;>rfl
theorem Ac3(n:Nd)(s:Nat)(b:Br):(n.put s b).br s=b:=by unfold Nd.put Nd.br;split<;>simp_all
theorem Ag8(n:Nd)(s u:Nat)(b:Br)(hs:s<2)(hu:u<2)(h:s≠u):(n.put s b).br u=n.br u:=by
 unfold Nd.put Nd.br;rcases(show s=0∧u=1∨s=1∧u=0 by omega)with⟨rfl,rfl⟩|⟨rfl,rfl⟩<;>rfl
theorem Fg(nds:List Nd)(i s:Nat)(b:Br)(hi:i<nds.length)(j:Nat):(Ab (Bz nds i s b) j).depth=(Ab nds j).depth:=by
 unfold Bz
 by_cases e:i=j
 ·subst e;rw[Gd _ _ _ hi,Ag7]
 ·rw[Ia _ _ _ _ e]
theorem Jt(nds:List Nd)(i s:Nat)(b:Br)(hi:i<nds.length)(j:Nat):(Ab (Bz nds i s b) j).num=(Ab nds j).num:=by
 unfold Bz
 by_cases e:i=j
 ·subst e;rw[Gd _ _ _ hi,Akf]
 ·rw[Ia _ _ _ _ e]
theorem I3(nds:List Nd)(i s:Nat)(b:Br)(hi:i<nds.length):(Ab (Bz nds i s b) i).br s=b:=by
 unfold Bz;rw[Gd _ _ _ hi,Ac3]
theorem Ja(nds:List Nd)(i s j u:Nat)(b:Br)(hi:i<nds.length)(hs:s<2)(hu:u<2)(h: ¬(i=j∧s=u)):(Ab (Bz nds i s b) j).br u=(Ab nds j).br u:=by
 unfold Bz
 by_cases e:i=j
 ·subst e;rw[Gd _ _ _ hi,Ag8 _ _ _ _ hs hu (fun e=>h ⟨rfl,e⟩)]
 ·rw[Ia _ _ _ _ e]
def krf(M:Nat)(ln:UInt8→Nat)(o:List UInt8):Nat:=(o.map fun b=>2^(M-ln b)).sum
theorem P2(M:Nat)(ln:UInt8→Nat)(a b:List UInt8):krf M ln (a++b)=krf M ln a+krf M ln b:=by simp[krf]
theorem Ux(M:Nat)(ln:UInt8→Nat)(o:List UInt8)(k:Nat)(h:k<o.length):krf M ln (o.take (k+1))=krf M ln (o.take k)+2^(M-ln (o.getD k 0)):=by
 rw[Ali h,P2];congr 1;rw[Ak6,Ak7 h];simp[krf]
theorem Aax(M:Nat)(ln:UInt8→Nat)(o:List UInt8){k k':Nat}(h:k≤k'):krf M ln (o.take k)≤krf M ln (o.take k'):=by
 have e:o.take k=(o.take k').take k:=by rw[List.take_take,Ant h]
 rw[e]
 conv=>rhs;rw[←Amy k (o.take k'),P2]
 omega
theorem Rc(M:Nat)(ln:UInt8→Nat)(o:List UInt8){k k':Nat}(h:k<k')(hk:k<o.length):krf M ln (o.take k)<krf M ln (o.take k'):=by
 have h1:=Ux M ln o k hk;have h2:=Aax M ln o (k:=k+1) (k':=k') h;have:=Ans (M-ln (o.getD k 0));omega
theorem Aiy(M:Nat)(ln:UInt8→Nat)(o:List UInt8)(k:Nat):krf M ln (o.take k)+krf M ln (o.drop k)=krf M ln o:=by
 rw[←P2,Amy]
theorem Aay(M e:Nat)(ln:UInt8→Nat): ∀o:List UInt8,(∀b∈o,e≤ln b)→krf M ln o≤o.length*2^(M-e)
 |[],_=>by simp[krf]
 |b::r,h=>by
  have h1:=Aay M e ln r (fun x hx=>h x (Als _ hx));have h2:=h b (Alp ..);have h3:2^(M-ln b)≤2^(M-e):=Am2 (by omega) (by omega);have e1:krf M ln (b::r)=2^(M-ln b)+krf M ln r:=by simp[krf]
  rw[e1,Amc,Anv];omega
structure S5(M:Nat)(ln:UInt8→Nat)(o:List UInt8):Prop where
 asc:o.Pairwise fun a b=>ln a≤ln b
 pos: ∀b∈o,0<ln b
 short: ∀b∈o,ln b≤M
 sum:krf M ln o=2^M
inductive Vl (M:Nat) (ln:UInt8→Nat) (o:List UInt8) (nds:List Nd) (j u:Nat):Prop
 |leaf (k:Nat) (hk:k<o.length) (h:(Ab nds j).br u={whole:=true,val:=o.getD k 0}) (hd:ln (o.getD k 0)=(Ab nds j).depth+1) (hn:(2*(Ab nds j).num+u)*2^(M-ln (o.getD k 0))=krf M ln (o.take k))
 |node (n:Nat) (h:(Ab nds j).br u={node:=n}) (h1:j<n) (h2:n<nds.length) (hd:(Ab nds n).depth=(Ab nds j).depth+1) (hn:(Ab nds n).num=2*(Ab nds j).num+u) (hno: ∀k,k<o.length→ln (o.getD k 0)=(Ab nds n).depth→krf M ln (o.take k)≠(Ab nds n).num*2^(M-(Ab nds n).depth)) (hM:(Ab nds n).depth<M)
 |none (h:(Ab nds j).br u={}) (hno: ∀k,k<o.length→(Ab nds j).depth+1≤ln (o.getD k 0)→(2*(Ab nds j).num+u)*2^(M-((Ab nds j).depth+1))≤krf M ln (o.take k)→(2*(Ab nds j).num+u+1)*2^(M-((Ab nds j).depth+1))≤krf M ln (o.take k))
def Jf(a b:Nd):Prop:=a.depth<b.depth∨a.depth=b.depth∧a.num<b.num
theorem Jf.trans{a b c:Nd}(h1:Jf a b)(h2:Jf b c):Jf a c:=by
 unfold Jf at*;omega
structure Iv(M:Nat)(ln:UInt8→Nat)(o:List UInt8)(t:Nat)(nds:List Nd)(left:List UInt8)(i s d jp k F:Nat):Prop where
 ht:t=2*i+s
 hs:s<2
 hleft:left=o.drop k
 hk:k≤o.length
 ij:i≤jp
 ij0:i=jp→s=0
 jn:jp≤nds.length
 lo: ∀j,i≤j→j<jp→(Ab nds j).depth=d∧(Ab nds j).num+(jp-j)=2^d
 hi: ∀j,jp≤j→j<nds.length→(Ab nds j).depth=d+1∧(Ab nds j).num=F+(j-jp)
 hF:F*2^(M-(d+1))=krf M ln (o.take k)
 dM:d+1≤M
 bal:2*2^d+s=F+(nds.length-jp)+2*(jp-i)
 deep: ∀b∈left,d<ln b
 deep2:jp<nds.length→d+2≤M∧ ∀b∈left,d+1<ln b
 count:2*i+s+1=k+nds.length
 good: ∀j u,u<2→2*j+u<t→Vl M ln o nds j u
 sorted: ∀j j',j<j'→j'<nds.length→Jf (Ab nds j) (Ab nds j')
 root:(Ab nds 0).depth=0∧(Ab nds 0).num=0
 more:0<nds.length
 par: ∀n,0<n→n<nds.length→ ∃j u,u<2∧2*j+u<t∧j<n∧(Ab nds j).br u={node:=n}
 full: ∀j u,u<2→2*j+u<t→(Ab nds j).br u≠{}
theorem Iv.start{M:Nat}{ln:UInt8→Nat}{o:List UInt8}(h:S5 M ln o)(hM:1≤M):Iv M ln o 0 [{}] o 0 0 0 1 0 0 where
 ht:=rfl
 hs:=by omega
 hleft:=by simp
 hk:=Alr _
 ij:=by omega
 ij0:=by omega
 jn:=by simp
 lo:=fun j h1 h2=>by
  obtain rfl:j=0:=by omega
  exact⟨rfl,rfl⟩
 hi:=fun j h1 h2=>by simp at h2;omega
 hF:=by simp[krf]
 dM:=by omega
 bal:=by simp
 deep:=h.pos
 deep2:=fun h=>by simp at h
 count:=by simp
 good:=fun j u _ h=>by omega
 sorted:=fun j j' h1 h2=>by simp at h2;omega
 root:=⟨rfl,rfl⟩
 more:=by simp
 par:=fun n h1 h2=>by simp at h2;omega
 full:=fun j u _ h=>by omega
theorem Re{M d:Nat}(h:d+1≤M):(2:Nat)^M=2*2^d*2^(M-(d+1)):=by
 rw[←Nat.pow_succ',←Nat.pow_add];congr 1;omega
theorem Iv.norm{M:Nat}{ln:UInt8→Nat}{o left:List UInt8}{t i s d jp k F:Nat}{nds:List Nd}(h:Iv M ln o t nds left i s d jp k F)(hi:i<nds.length): ∃d jp F,i<jp∧Iv M ln o t nds left i s d jp k F:=by
 by_cases e:i=jp
 ·have hs:=h.ij0 e;subst e hs;obtain⟨h1,h2⟩:=h.deep2 hi;have hb:=h.bal;refine⟨d+1,nds.length,2*F,hi,?_⟩;exact{h with
   ij:=Nat.le_of_lt hi
   ij0:=fun e=>by omega
   jn:=Ale _
   lo:=fun j h3 h4=>by
    obtain⟨h5,h6⟩:=h.hi j h3 h4;refine⟨h5,?_⟩;rw[h6,Amv];omega
   hi:=fun j h3 h4=>by omega
   hF:=by
    rw[←h.hF,show M-(d+1)=(M-(d+1+1))+1 from by omega,Amv,Aoj 2 F,Aot,Aoj 2]
   dM:=h1
   bal:=by rw[Amv];omega
   deep:=h2
   deep2:=fun h=>by omega}
 ·exact⟨d,jp,F,by have:=h.ij;omega,h⟩
theorem Iv.left_ne{M:Nat}{ln:UInt8→Nat}{o left:List UInt8}{t i s d jp k F:Nat}{nds:List Nd}(h:Iv M ln o t nds left i s d jp k F)(hf:S5 M ln o)(hi:i<jp):k<o.length:=by
 refine Nat.lt_of_le_of_ne h.hk fun e=>?_;have h1:=h.hF;rw[e,Ama,hf.sum,Re h.dM]at h1;have h2:=Nat.eq_of_mul_eq_mul_right (Ans _) h1;have:=h.bal;have:=h.hs;omega
theorem Iv.bound{M:Nat}{ln:UInt8→Nat}{o left:List UInt8}{t i s d jp k F:Nat}{nds:List Nd}(h:Iv M ln o t nds left i s d jp k F)(hf:S5 M ln o):nds.length+1≤o.length:=by
 have h1:=Aiy M ln o k;rw[hf.sum,←h.hF,Re h.dM]at h1;have hlen:(o.drop k).length=o.length-k:=Amb ..;have hb:=h.bal;have hk:=h.hk;have hs:=h.hs;have hc:=h.count;have hij:=h.ij;have hjn:=h.jn
 by_cases e:jp<nds.length
 ·obtain⟨hM,h2⟩:=h.deep2 e;rw[h.hleft]at h2;have h3:=Aay M (d+2) ln (o.drop k) h2;have e2:2^(M-(d+1))=2*2^(M-(d+2)):=by rw[←Nat.pow_succ'];congr 1;omega
  rw[e2]at h1;have h4:(2*2^d*2)*2^(M-(d+2))≤(F*2+(o.length-k))*2^(M-(d+2)):=by
   rw[Anv,←hlen]
   calc _=2*2^d*(2*2^(M-(d+2))):=by rw[Aot]
    _=F*(2*2^(M-(d+2)))+krf M ln (o.drop k):=h1.symm
    _≤_:=by rw[Aot F 2];exact Nat.add_le_add_left h3 _
  have h5:=Nat.le_of_mul_le_mul_right h4 (Ans _);have:i=jp→s=0:=h.ij0;omega
 ·have h2:=h.deep;rw[h.hleft]at h2;have h3:=Aay M (d+1) ln (o.drop k) h2;have h4:(2*2^d)*2^(M-(d+1))≤(F+(o.length-k))*2^(M-(d+1)):=by
   rw[Anv,←hlen,←h1];exact Nat.add_le_add_left h3 _
  have h5:=Nat.le_of_mul_le_mul_right h4 (Ans _);omega
theorem Lz(o:List UInt8)(k:Nat)(h:k<o.length):o.drop k=o.getD k 0::o.drop (k+1):=by
 rw[Al4 h,Ak6,Ak7 h];rfl
theorem Vl.mono{M:Nat}{ln:UInt8→Nat}{o:List UInt8}{nds nds':List Nd}{j u:Nat}(hd: ∀j,j<nds.length→(Ab nds' j).depth=(Ab nds j).depth)(hn: ∀j,j<nds.length→(Ab nds' j).num=(Ab nds j).num)(hb:(Ab nds' j).br u=(Ab nds j).br u)(hl:nds.length≤nds'.length)(hj:j<nds.length)(h:Vl M ln o nds j u):Vl M ln o nds' j u:=by
 cases h with
 |leaf k hk h1 h2 h3=>exact .leaf k hk (hb.trans h1) (by rw[hd j hj];exact h2) (by rw[hn j hj];exact h3)
 |node n h1 h2 h3 h4 h5 h6 h7=>exact .node n (hb.trans h1) h2 (by omega) (by rw[hd j hj,hd n h3];exact h4) (by rw[hn j hj,hn n h3];exact h5) (by rw[hd n h3,hn n h3];exact h6) (by rw[hd n h3];exact h7)
 |none h1 h2=>exact .none (hb.trans h1) (by rw[hd j hj,hn j hj];exact h2)
theorem Aaz{o:List UInt8}{ln:UInt8→Nat}(h:o.Pairwise fun a b=>ln a≤ln b){i j:Nat}(hij:i≤j)(hj:j<o.length):ln (o.getD i 0)≤ln (o.getD j 0):=by
 rcases Am7 i j with c|c
 ·rw[Ak6,Ak7 (by omega:i<o.length),Ak6,Ak7 hj];exact List.pairwise_iff_getElem.1 h i j (by omega) hj c
 ·obtain rfl:i=j:=by omega
  exact Ale _
theorem Ac4{o:List UInt8}{k:Nat}{b:UInt8}(h:b∈o.drop k): ∃k',k≤k'∧k'<o.length∧b=o.getD k' 0:=by
 obtain⟨n,hn,e⟩:=Aml h;rw[Amb]at hn;refine⟨k+n,by omega,by omega,?_⟩;rw[Ak6,Ak7 (by omega)];rw[List.getElem_drop]at e;exact e.symm
theorem Og{o:List UInt8}{k:Nat}(h:k<o.length):o.getD k 0∈o:=by
 rw[Ak6,Ak7 h];exact Alo _
theorem Iv.step{M:Nat}{ln:UInt8→Nat}{o left:List UInt8}{t i s d jp k F:Nat}{nds:List Nd}(h:Iv M ln o t nds left i s d jp k F)(hf:S5 M ln o)(hi:i<jp):
  ∃k' F',Iv M ln o (t+1) (Fi ln i s nds left).1 (Fi ln i s nds left).2 (i+(s+1)/2) ((s+1)%2) d jp k' F':=by
 have hk:=h.left_ne hf hi;have hs:=h.hs;have hiN:i<nds.length:=by have:=h.jn;omega
 obtain⟨hd,hnum⟩:=h.lo i (Ale _) hi;have hl:left=o.getD k 0::o.drop (k+1):=by rw[h.hleft];exact Lz o k hk
 have hbl:o.getD k 0∈left:=by rw[hl];exact Alp ..
 have hlong:=h.deep _ hbl;have hshort:=hf.short _ (Og hk);have hbal:=h.bal;have hcount:=h.count;have hij:=h.ij;have hjn:=h.jn;have e1:Fi ln i s nds left=if ln (o.getD k 0)=(Ab nds i).depth+1 then(Bz nds i s {whole:=true,val:=o.getD k 0},o.drop (k+1))
  else(Bz nds i s {node:=nds.length}++[{depth:=(Ab nds i).depth+1,num:=2*(Ab nds i).num+s}],o.getD k 0::o.drop (k+1)):=by rw[hl];rfl
 rw[e1]
 by_cases c:ln (o.getD k 0)=d+1
 ·rw[if_pos (by rw[hd];exact c)];have hjp:jp=nds.length:=by
   rcases Am7 jp nds.length with x|x
   ·have:=(h.deep2 x).2 _ hbl;omega
   ·omega
  have hF:krf M ln (o.take (k+1))=(F+1)*2^(M-(d+1)):=by
   rw[Ux M ln o k hk,←h.hF,c,Anv,Nat.one_mul]
  have hnF:2*(Ab nds i).num+s=F:=by omega
  refine⟨k+1,F+1,?_⟩;exact{
   ht:=by have:=h.ht;omega
   hs:=by omega
   hleft:=rfl
   hk:=hk
   ij:=by omega
   ij0:=by omega
   jn:=by rw[B8];omega
   lo:=fun j h1 h2=>by
    rw[Fg _ _ _ _ hiN,Jt _ _ _ _ hiN];exact h.lo j (by omega) h2
   hi:=fun j h1 h2=>by rw[B8]at h2;omega
   hF:=hF.symm
   dM:=h.dM
   bal:=by rw[B8];omega
   deep:=fun b hb=>h.deep b (by rw[hl];exact Als _ hb)
   deep2:=fun x=>by rw[B8]at x;omega
   count:=by rw[B8];omega
   good:=fun j u hu hju=>by
    by_cases e:j=i∧u=s
    ·obtain⟨rfl,rfl⟩:=e;refine .leaf k hk (I3 _ _ _ _ hiN) (by rw[Fg _ _ _ _ hiN,hd];exact c) ?_;rw[Jt _ _ _ _ hiN,hnF,c,h.hF]
    ·have ht:=h.ht;refine(h.good j u hu (by omega)).mono (fun j _=>Fg _ _ _ _ hiN j) (fun j _=>Jt _ _ _ _ hiN j) (Ja _ _ _ _ _ _ hiN hs hu (fun x=>e ⟨x.1.symm,x.2.symm⟩)) (by rw[B8];omega) (by omega)
   sorted:=fun j j' h1 h2=>by
    rw[B8]at h2;unfold Jf;rw[Fg _ _ _ _ hiN,Jt _ _ _ _ hiN,Fg _ _ _ _ hiN,Jt _ _ _ _ hiN];exact h.sorted j j' h1 h2
   root:=by rw[Fg _ _ _ _ hiN,Jt _ _ _ _ hiN];exact h.root
   more:=by rw[B8];exact h.more
   par:=fun n h1 h2=>by
    rw[B8]at h2;obtain⟨j,u,h3,h4,h5,h6⟩:=h.par n h1 h2;have ht:=h.ht;exact⟨j,u,h3,by omega,h5,(Ja _ _ _ _ _ _ hiN hs h3 (by omega)).trans h6⟩
   full:=fun j u hu hju=>by
    have ht:=h.ht
    by_cases e:j=i∧u=s
    ·obtain⟨rfl,rfl⟩:=e;rw[I3 _ _ _ _ hiN];intro c;cases c
    ·rw[Ja _ _ _ _ _ _ hiN hs hu (fun x=>e ⟨x.1.symm,x.2.symm⟩)];exact h.full j u hu (by omega)}
 ·rw[if_neg (by rw[hd];exact c)];obtain⟨x,hx⟩: ∃x:Nd,x={depth:=(Ab nds i).depth+1,num:=2*(Ab nds i).num+s}:=⟨_,rfl⟩;have xd:x.depth=d+1:=by rw[hx,←hd]
  have xn:x.num=F+(nds.length-jp):=by rw[hx];show 2*(Ab nds i).num+s=_;omega
  have xn2:x.num=2*(Ab nds i).num+s:=by rw[hx]
  rw[←hx];have hlen:(Bz nds i s {node:=nds.length}++[x]).length=nds.length+1:=by rw[Alg,B8];rfl
  have old: ∀j,j<nds.length→Ab (Bz nds i s {node:=nds.length}++[x]) j=Ab (Bz nds i s {node:=nds.length}) j:=fun j hj=>J9 _ _ _ (by rw[B8];exact hj);have new:Ab (Bz nds i s {node:=nds.length}++[x]) nds.length=x:=by
   have:=Lh (Bz nds i s {node:=nds.length}) x;rwa[B8]at this
  have od: ∀j,j<nds.length→(Ab (Bz nds i s {node:=nds.length}++[x]) j).depth=(Ab nds j).depth:=fun j hj=>by rw[old j hj,Fg _ _ _ _ hiN]
  have on: ∀j,j<nds.length→(Ab (Bz nds i s {node:=nds.length}++[x]) j).num=(Ab nds j).num:=fun j hj=>by rw[old j hj,Jt _ _ _ _ hiN]
  have hno: ∀k',k'<o.length→ln (o.getD k' 0)=x.depth→krf M ln (o.take k')≠x.num*2^(M-x.depth):=by
   intro k' hk' hl' e;rcases Am7 k' k with y|y
   ·have h1:=Rc M ln o y hk';rw[e,←h.hF,xd,xn]at h1;have:=Anj (2^(M-(d+1))) (show F≤F+(nds.length-jp) by omega);omega
   ·have:=Aaz hf.asc y hk';omega
  refine⟨k,F,?_⟩;generalize hG:Bz nds i s {node:=nds.length}++[x]=G at*;show Iv M ln o (t+1) G (o.getD k 0::o.drop (k+1)) (i+(s+1)/2) ((s+1)%2) d jp k F;exact{
   ht:=by have:=h.ht;omega
   hs:=by omega
   hleft:=by rw[←hl,h.hleft]
   hk:=h.hk
   ij:=by omega
   ij0:=by omega
   jn:=by omega
   lo:=fun j h1 h2=>by
    rw[od j (by omega),on j (by omega)];exact h.lo j (by omega) h2
   hi:=fun j h1 h2=>by
    by_cases e:j=nds.length
    ·subst e;rw[new];exact⟨xd,xn⟩
    ·rw[od j (by omega),on j (by omega)];exact h.hi j h1 (by omega)
   hF:=h.hF
   dM:=h.dM
   bal:=by omega
   deep:=by rw[←hl];exact h.deep
   deep2:=fun _=>by
    refine⟨by omega,fun b hb=>?_⟩;rw[←hl,h.hleft]at hb;obtain⟨k',h1,h2,rfl⟩:=Ac4 hb;have:=Aaz hf.asc h1 h2;omega
   count:=by omega
   good:=fun j u hu hju=>by
    by_cases e:j=i∧u=s
    ·obtain⟨rfl,rfl⟩:=e;refine .node nds.length ?_ hiN (by omega) (by rw[new,od j hiN,xd,hd]) (by rw[new,on j hiN,xn2]) (by rw[new];exact hno) (by rw[new];omega);rw[old j hiN];exact I3 _ _ _ _ hiN
    ·have ht:=h.ht;refine(h.good j u hu (by omega)).mono od on ?_ (by omega) (by omega);rw[old j (by omega)];exact Ja _ _ _ _ _ _ hiN hs hu (fun x=>e ⟨x.1.symm,x.2.symm⟩)
   sorted:=fun j j' h1 h2=>by
    by_cases e:j'=nds.length
    ·subst e;rw[new];have last:Jf (Ab nds (nds.length-1)) x:=by
      unfold Jf;rcases Am7 jp nds.length with y|y
      ·obtain⟨h3,h4⟩:=h.hi (nds.length-1) (by omega) (by omega);omega
      ·obtain⟨h3,h4⟩:=h.lo (nds.length-1) (by omega) (by omega);omega
     have l2:Jf (Ab G (nds.length-1)) x:=by
      unfold Jf at*;rw[od _ (by omega),on _ (by omega)];exact last
     by_cases e2:j=nds.length-1
     ·rw[e2];exact l2
     ·refine Jf.trans ?_ l2;unfold Jf;rw[od _ (by omega),on _ (by omega),od _ (by omega),on _ (by omega)];exact h.sorted j _ (by omega) (by omega)
    ·unfold Jf;rw[od _ (by omega),on _ (by omega),od _ (by omega),on _ (by omega)];exact h.sorted j j' h1 (by omega)
   root:=by rw[od 0 h.more,on 0 h.more];exact h.root
   more:=by omega
   par:=fun n h1 h2=>by
    have ht:=h.ht
    by_cases e:n=nds.length
    ·refine⟨i,s,hs,by omega,by omega,?_⟩;rw[old i hiN,I3 _ _ _ _ hiN,e]
    ·obtain⟨j,u,h3,h4,h5,h6⟩:=h.par n h1 (by omega);refine⟨j,u,h3,by omega,h5,?_⟩;rw[old j (by omega)];exact(Ja _ _ _ _ _ _ hiN hs h3 (by omega)).trans h6
   full:=fun j u hu hju=>by
    have ht:=h.ht
    by_cases e:j=i∧u=s
    ·obtain⟨rfl,rfl⟩:=e;rw[old j hiN,I3 _ _ _ _ hiN];intro c;injection c with _ _ c;omega
    ·rw[old j (by omega),Ja _ _ _ _ _ _ hiN hs hu (fun x=>e ⟨x.1.symm,x.2.symm⟩)];exact h.full j u hu (by omega)}
structure Bg(M:Nat)(ln:UInt8→Nat)(o:List UInt8)(nds:List Nd):Prop where
 more:0<nds.length
 few:nds.length≤255
 root:(Ab nds 0).depth=0∧(Ab nds 0).num=0
 good: ∀j u,j<nds.length→u<2→Vl M ln o nds j u
 sorted: ∀j j',j<j'→j'<nds.length→Jf (Ab nds j) (Ab nds j')
 par: ∀n,0<n→n<nds.length→ ∃j u,u<2∧j<n∧(Ab nds j).br u={node:=n}
structure Ends(M:Nat)(ln:UInt8→Nat)(o:List UInt8)(N:Nat):Prop where
 len:(Al ln o (2*N)).1.length=N
 more: ∀i,i<N→i<(Al ln o (2*i)).1.length
 few: ∀t,t≤2*N→(Al ln o t).1.length≤255
 left:(Al ln o (2*N)).2=[]
 nodes:Bg M ln o (Al ln o (2*N)).1
 side0:o≠[]→ ∀j,j<N→(Ab (Al ln o (2*N)).1 j).br 0≠{}
theorem Rf{M:Nat}{ln:UInt8→Nat}{o:List UInt8}(hf:S5 M ln o)(hM:1≤M)(N:Nat)(h: ∀i,i<N→i<(Al ln o (2*i)).1.length): ∀t,t≤2*N→ ∃d jp k F,Iv M ln o t (Al ln o t).1 (Al ln o t).2 (t/2) (t%2) d jp k F
 |0,_=>⟨0,1,0,0,Iv.start hf hM⟩
 |t+1,ht=>by
  obtain⟨d,jp,k,F,ih⟩:=Rf hf hM N h t (by omega);have hi:t/2<(Al ln o t).1.length:=by
   rcases(show t%2=0∨t%2=1 by omega)with c|c
   ·have:=h (t/2) (by omega);rwa[show 2*(t/2)=t from by omega]at this
   ·have h1:=ih.ij0;have h2:=ih.ij;have h3:=ih.jn;omega
  obtain⟨d',jp',F',h1,h2⟩:=ih.norm hi;obtain⟨k2,F2,h3⟩:=h2.step hf h1;refine⟨d',jp',k2,F2,?_⟩;rw[show(t+1)/2=t/2+(t%2+1)/2 from by omega,show(t+1)%2=(t%2+1)%2 from by omega];exact h3
theorem Afd{M:Nat}{ln:UInt8→Nat}{o:List UInt8}(hf:S5 M ln o)(hM:1≤M)(ho:o.length≤256): ∃N,0<N∧Ends M ln o N:=by
 have key: ∃N,(Al ln o (2*N)).1.length≤N∧ ∀i,i<N→i<(Al ln o (2*i)).1.length:=by
  have: ∀m,(∃N,(Al ln o (2*N)).1.length≤N∧ ∀i,i<N→i<(Al ln o (2*i)).1.length)∨ ∀i,i<m→i<(Al ln o (2*i)).1.length:=by
   intro m;induction m with
   |zero=>exact .inr fun i h=>by omega
   |succ m ih=>
    rcases ih with ih|ih
    ·exact .inl ih
    ·rcases Am7 m (Al ln o (2*m)).1.length with c|c
     ·refine .inr fun i hi=>?_
      by_cases e:i=m
      ·rw[e];exact c
      ·exact ih i (by omega)
     ·exact .inl ⟨m,c,ih⟩
  rcases this 257 with h|h
  ·exact h
  ·exfalso;obtain⟨d,jp,k,F,h1⟩:=Rf hf hM 257 h (2*256) (by omega);have h2:=h1.bound hf;have h3:=h 256 (by omega);omega
 obtain⟨N,h1,h2⟩:=key;have inv:=Rf hf hM N h2;obtain⟨d,jp,k,F,h3⟩:=inv (2*N) (Ale _);have hN:(Al ln o (2*N)).1.length=N:=by
  have:=h3.ij;have:=h3.jn;omega
 have hpos:0<N:=by have:=h3.more;omega
 have ebal:=h3.bal;have e1:2*N/2=N:=by omega
 have e2:2*N%2=0:=by omega
 have hij:=h3.ij;have hjn:=h3.jn;rw[e1]at ebal hij;rw[e2]at ebal;have hk:k=o.length:=by
  refine Ao3 fun c=>?_;have hk2:k<o.length:=by have:=h3.hk;omega
  have h4:=Rc M ln o (k:=k) (k':=o.length) hk2 hk2;rw[←h3.hF,Ama,hf.sum,Re h3.dM]at h4;have h5:=Nat.lt_of_mul_lt_mul_right h4;omega
 refine⟨N,hpos,hN,h2,fun t ht=>?_,?_,⟨h3.more,?_,h3.root,fun j u hj hu=>h3.good j u hu (by omega),h3.sorted,fun n h4 h5=>?_⟩,fun _ j hj=>h3.full j 0 (by omega) (by omega)⟩
 ·obtain⟨d',jp',k',F',h6⟩:=inv t ht;have:=h6.bound hf;omega
 ·rw[h3.hleft,hk,Anl]
 ·have:=h3.bound hf;omega
 ·obtain⟨j,u,h6,_,h7,h8⟩:=h3.par n h4 h5;exact⟨j,u,h6,h7,h8⟩
theorem Afe(M:Nat)(ln:UInt8→Nat):Ends M ln [] 1:=by
 refine⟨rfl,fun i hi=>?_,fun t ht=>?_,rfl,?_,fun c=>absurd rfl c⟩
 ·obtain rfl:i=0:=by omega
  exact Nat.zero_lt_one
 ·have: ∀t,(Al ln [] t)=([{}],[]):=fun t=>by
   induction t with
   |zero=>rfl
   |succ t ih=>rw[Al,ih];rfl
  rw[this];exact(by decide:1≤255)
 ·refine⟨Nat.zero_lt_one,(by decide:1≤255),⟨rfl,rfl⟩,fun j u hj hu=>?_,fun j j' h1 h2=>?_,fun n h1 h2=>?_⟩
  ·have hj':j<1:=hj;obtain rfl:j=0:=by omega
   refine .none ?_ fun k hk=>by simp at hk
   rcases(show u=0∨u=1 by omega)with rfl|rfl<;>rfl
  ·have:j'<1:=h2;omega
  ·have:n<1:=h2;omega
theorem Ag9(M:Nat)(ln:UInt8→Nat)(b:UInt8)(hb:ln b=1):Ends M ln [b] 1:=by
 have e1:Al ln [b] 1=([{b0:={whole:=true,val:=b}}],[]):=by
  show Fi ln 0 0 [{}] [b]=_;show(if ln b=(Ab [{}] 0).depth+1 then(Bz [{}] 0 0 {whole:=true,val:=b},([]:List UInt8))else _)=_;rw[if_pos (by exact hb)];rfl
 have e2:Al ln [b] 2=([{b0:={whole:=true,val:=b}}],[]):=by
  show Fi ln 0 1 (Al ln [b] 1).1 (Al ln [b] 1).2=_;rw[e1];rfl
 refine⟨by rw[e2];rfl,fun i hi=>?_,fun t ht=>?_,by rw[e2],?_,fun _ j hj=>?_⟩
 ·obtain rfl:i=0:=by omega
  exact Nat.zero_lt_one
 ·rcases(show t=0∨t=1∨t=2 by omega)with rfl|rfl|rfl
  ·exact(by decide:1≤255)
  ·rw[e1];exact(by decide:1≤255)
  ·rw[e2];exact(by decide:1≤255)
 ·rw[show 2*1=2 from rfl,e2];refine⟨Nat.zero_lt_one,(by decide:1≤255),⟨rfl,rfl⟩,fun j u hj hu=>?_,fun j j' h1 h2=>?_,fun n h1 h2=>?_⟩
  ·have hj':j<1:=hj;obtain rfl:j=0:=by omega
   rcases(show u=0∨u=1 by omega)with rfl|rfl
   ·refine .leaf 0 (by simp) rfl hb ?_;show(2*0+0)*_=_;simp[krf]
   ·refine .none rfl fun k hk h1 h2=>?_;have hk':k<1:=hk;obtain rfl:k=0:=by omega
    exfalso;have h3:(2*0+1)*2^(M-(0+1))≤krf M ln []:=h2;have h4:krf M ln []=0:=rfl;have:=Ans (M-(0+1));omega
  ·have:j'<1:=h2;omega
  ·have:n<1:=h2;omega
 ·rw[show 2*1=2 from rfl,e2];obtain rfl:j=0:=by omega
  intro c;cases c
end Hm
namespace Hm
structure G7(M:Nat)(ln num:UInt8→Nat)(o:List UInt8):Prop where
 num: ∀k,k<o.length→num (o.getD k 0)*2^(M-ln (o.getD k 0))=krf M ln (o.take k)
 short: ∀b∈o,ln b≤M
def El(ln num:UInt8→Nat)(nd:Nd)(b:UInt8):Bool:=decide (nd.depth<ln b∧num b/2^(ln b-nd.depth)=nd.num)
def Av(ln num:UInt8→Nat)(d:Nat)(b:UInt8):Nat:=num b/2^(ln b-1-d)%2
theorem Fy(ln num:UInt8→Nat)(d:Nat)(b:UInt8):Av ln num d b<2:=Nat.mod_lt _ (by omega)
theorem Oh{ln num:UInt8→Nat}{nd:Nd}{b:UInt8}(h:El ln num nd b=true):num b/2^(ln b-(nd.depth+1))=2*nd.num+Av ln num nd.depth b:=by
 obtain⟨h1,h2⟩:=Amm h;unfold Av;rw[show ln b-1-nd.depth=ln b-(nd.depth+1)from by omega];rw[show ln b-nd.depth=(ln b-(nd.depth+1))+1 from by omega,Amv,←Aox]at h2;omega
theorem It{o:List UInt8}{b:UInt8}(h:b∈o): ∃k,k<o.length∧o.getD k 0=b:=by
 obtain⟨k,hk,e⟩:=Aml h;exact⟨k,hk,by rw[Ak6,Ak7 hk];exact e⟩
theorem G7.span{M:Nat}{ln num:UInt8→Nat}{o:List UInt8}(h:G7 M ln num o){k e y:Nat}(hk:k<o.length)(he:e≤ln (o.getD k 0))(hy:num (o.getD k 0)/2^(ln (o.getD k 0)-e)=y):y*2^(M-e)≤krf M ln (o.take k)∧krf M ln (o.take k)<(y+1)*2^(M-e):=by
 have hs:=h.short _ (Og hk);rw[←h.num k hk];generalize ln (o.getD k 0)=l at*;generalize num (o.getD k 0)=x at*;have ep:(2:Nat)^(M-e)=2^(l-e)*2^(M-l):=by rw[←Nat.pow_add];congr 1;omega
 have hp:=Ans (l-e);have hq:=Ans (M-l);rw[ep,←Aot,←Aot];constructor
 ·exact Anj _ (by rw[←hy];exact Nat.div_mul_le_self _ _)
 ·refine Nat.mul_lt_mul_of_pos_right ?_ hq;rw[←hy];exact(Nat.div_lt_iff_lt_mul hp).1 (Nat.lt_succ_self _)
theorem Li{M:Nat}{ln num:UInt8→Nat}{o:List UInt8}(h:G7 M ln num o){nd:Nd}{b:UInt8}(hb:b∈o)(hu:El ln num nd b=true){k:Nat}(hk:k<o.length)(hd:ln (o.getD k 0)=nd.depth+1)(hn:(2*nd.num+Av ln num nd.depth b)*2^(M-ln (o.getD k 0))=krf M ln (o.take k)):b=o.getD k 0:=by
 obtain⟨k2,hk2,rfl⟩:=It hb;have h1:=(Amm hu).1;have hs:=h.span hk2 (e:=nd.depth+1) h1 (Oh hu);rw[hd]at hn;rw[hn]at hs;have h2:=Ux M ln o k hk;rw[hd]at h2;have h3:krf M ln (o.take k2)<krf M ln (o.take (k+1)):=by
  rw[h2,←hn];have:=hs.2;rw[Anv,Nat.one_mul,hn]at this;rw[hn];exact this
 have:k2=k:=by
  rcases Ami k2 k with c|c|c
  ·have:=Rc M ln o c hk2;omega
  ·exact c
  ·have:=Aax M ln o (k:=k+1) (k':=k2) c;omega
 rw[this]
theorem Vm{M:Nat}{ln num:UInt8→Nat}{o:List UInt8}(h:G7 M ln num o){nd nc:Nd}{b:UInt8}(hb:b∈o)(hu:El ln num nd b=true)(hd:nc.depth=nd.depth+1)(hn:nc.num=2*nd.num+Av ln num nd.depth b)
  (hno: ∀k,k<o.length→ln (o.getD k 0)=nc.depth→krf M ln (o.take k)≠nc.num*2^(M-nc.depth)):El ln num nc b=true:=by
 have h1:=(Amm hu).1;have h2:=Oh hu;refine Alb ⟨?_,by rw[hd,hn];exact h2⟩;rw[hd];refine Nat.lt_of_le_of_ne h1 fun e=>?_;obtain⟨k2,hk2,rfl⟩:=It hb;refine hno k2 hk2 (by omega) ?_;rw[←h.num k2 hk2,hn,←h2,hd,←e];simp
theorem Ka{M:Nat}{ln num:UInt8→Nat}{o:List UInt8}(h:G7 M ln num o){nd:Nd}{b:UInt8}(hb:b∈o)(hu:El ln num nd b=true)
  (hno: ∀k,k<o.length→nd.depth+1≤ln (o.getD k 0)→(2*nd.num+Av ln num nd.depth b)*2^(M-(nd.depth+1))≤krf M ln (o.take k)→(2*nd.num+Av ln num nd.depth b+1)*2^(M-(nd.depth+1))≤krf M ln (o.take k)):False:=by
 have h1:=(Amm hu).1;obtain⟨k2,hk2,rfl⟩:=It hb;have hs:=h.span hk2 (e:=nd.depth+1) h1 (Oh hu);have:=hno k2 hk2 h1 hs.1;omega
theorem Nl{ln num:UInt8→Nat}{nd nc:Nd}{u:Nat}{b:UInt8}(hu:u<2)(hd:nc.depth=nd.depth+1)(hn:nc.num=2*nd.num+u)(h:El ln num nc b=true):El ln num nd b=true∧Av ln num nd.depth b=u:=by
 obtain⟨h1,h2⟩:=Amm h;rw[hd]at h1 h2;rw[hn]at h2;have e:num b/2^(ln b-nd.depth)=nd.num:=by
  rw[show ln b-nd.depth=(ln b-(nd.depth+1))+1 from by omega,Amv,←Aox,h2];omega
 refine⟨Alb ⟨by omega,e⟩,?_⟩;unfold Av;rw[show ln b-1-nd.depth=ln b-(nd.depth+1)from by omega,h2];omega
def Ao(ln num:UInt8→Nat)(nds:List Nd)(col:List UInt8)(n:Nat):List UInt8:=col.filter (El ln num (Ab nds n))
def Gy(ln num:UInt8→Nat)(nds:List Nd)(col:List UInt8)(n:Nat):List Nat:=(Ao ln num nds col n).map (Av ln num (Ab nds n).depth)
def A0(ln num:UInt8→Nat)(nds:List Nd)(col:List UInt8)(N:Nat):List Nat:=(List.range N).flatMap (Gy ln num nds col)
theorem Nm(ln num:UInt8→Nat)(nds:List Nd)(col:List UInt8)(n:Nat):(Ao ln num nds col n).length≤col.length:=Ao2 _ _
theorem Ez(ln num:UInt8→Nat)(nds:List Nd)(col:List UInt8)(N:Nat):A0 ln num nds col (N+1)=A0 ln num nds col N++Gy ln num nds col N:=by
 unfold A0;rw[An4,Ana,List.flatMap_singleton]
theorem Mc(ln num:UInt8→Nat)(nds:List Nd)(col:List UInt8)(N:Nat):(A0 ln num nds col N).length≤N*col.length:=by
 induction N with
 |zero=>simp[A0]
 |succ N ih=>
  have h:=Nm ln num nds col N;rw[Ez,Alg,Anv,Nat.one_mul];simp only[Gy,Al6];omega
structure Ik(ln num:UInt8→Nat)(nds:List Nd)(col:List UInt8)(i p:Nat)(cs:List (List UInt8)):Prop where
 len:cs.length=nds.length
 root:cs.getD 0 []=col
 at_: ∀n j u,n<nds.length→0<n→u<2→j<nds.length→(Ab nds j).br u={node:=n}→
  (j<i→cs.getD n []=Ao ln num nds col n)∧(j=i→cs.getD n []=((Ao ln num nds col i).take p).filter fun b=>Av ln num (Ab nds i).depth b==u)∧(i<j→cs.getD n []=[])
theorem M7(cs:List (List UInt8))(i j:Nat)(x:List UInt8)(h:i<cs.length):(cs.set i x).getD j []=if i=j then x else cs.getD j []:=by
 rw[Ak6,List.getElem?_set]
 by_cases e:i=j
 ·rw[if_pos e,if_pos e,if_pos h];rfl
 ·rw[if_neg e,if_neg e,←Ak6]
section
variable {M:Nat} {ln num:UInt8→Nat} {o:List UInt8} {nds:List Nd} {col:List UInt8} {i p:Nat} {cs:List (List UInt8)}
theorem Bg.child(h:Bg M ln o nds){j u n:Nat}(hj:j<nds.length)(hu:u<2)(hn:0<n)(e:(Ab nds j).br u={node:=n}):j<n∧n<nds.length∧(Ab nds n).depth=(Ab nds j).depth+1∧(Ab nds n).num=2*(Ab nds j).num+u∧ ∀k,k<o.length→ln (o.getD k 0)=(Ab nds n).depth→krf M ln (o.take k)≠(Ab nds n).num*2^(M-(Ab nds n).depth):=by
 cases h.good j u hj hu with
 |leaf k hk h1=>rw[h1]at e;cases e
 |node n' h1 h2 h3 h4 h5 h6=>
  rw[h1]at e;obtain rfl:n'=n:=by injection e
  exact⟨h2,h3,h4,h5,h6⟩
 |none h1=>rw[h1]at e;injection e with _ _ e;omega
theorem Bg.same(h:Bg M ln o nds){j j':Nat}(hj:j<nds.length)(hj':j'<nds.length)(hd:(Ab nds j).depth=(Ab nds j').depth)(hn:(Ab nds j).num=(Ab nds j').num):j=j':=by
 rcases Ami j j' with c|c|c
 ·have:=h.sorted j j' c hj';unfold Jf at this;omega
 ·exact c
 ·have:=h.sorted j' j c hj;unfold Jf at this;omega
theorem Bg.parent(h:Bg M ln o nds){j u j' u' n:Nat}(hj:j<nds.length)(hu:u<2)(hj':j'<nds.length)(hu':u'<2)(hn:0<n)(e:(Ab nds j).br u={node:=n})(e':(Ab nds j').br u'={node:=n}):j=j'∧u=u':=by
 obtain⟨_,_,h1,h2,_⟩:=h.child hj hu hn e;obtain⟨_,_,h3,h4,_⟩:=h.child hj' hu' hn e';exact⟨h.same hj hj' (by omega) (by omega),by omega⟩
theorem Bg.col_child(h:Bg M ln o nds)(hk:G7 M ln num o)(hc: ∀b∈col,b∈o){j u n:Nat}(hj:j<nds.length)(hu:u<2)(hn:0<n)(e:(Ab nds j).br u={node:=n}):
  Ao ln num nds col n=(Ao ln num nds col j).filter fun b=>Av ln num (Ab nds j).depth b==u:=by
 obtain⟨_,_,h1,h2,h3⟩:=h.child hj hu hn e;unfold Ao;rw[List.filter_filter];refine List.filter_congr fun b hb=>?_;rw[Bool.eq_iff_iff,Bool.and_eq_true,beq_iff_eq];constructor
 ·intro hx;obtain⟨h4,h5⟩:=Nl hu h1 h2 hx;exact⟨h5,h4⟩
 ·rintro⟨h4,h5⟩;exact Vm hk (hc b hb) h5 h1 (by rw[h2,h4]) h3
theorem Ik.start(h:Bg M ln o nds):Ik ln num nds col 0 0 (col::List.replicate (nds.length-1) []):=by
 have hm:=h.more;refine⟨by simp;omega,rfl,fun n j u hn h0 hu hj e=>?_⟩;have e0:(col::List.replicate (nds.length-1) []).getD n []=[]:=by
  obtain⟨m,rfl⟩: ∃m,n=m+1:=⟨n-1,by omega⟩;rw[List.getD_cons_succ,Ak6,Am0 (by omega)];rfl
 exact⟨fun x=>by omega,fun x=>by rw[e0];simp,fun _=>e0⟩
theorem Ik.here(h:Ik ln num nds col i p cs)(hs:Bg M ln o nds)(hp: ∀b∈col,b∈o)(hpos: ∀b∈o,0<ln b)(hnum: ∀b∈o,num b<2^ln b)(hi:i<nds.length):cs.getD i []=Ao ln num nds col i:=by
 by_cases e:i=0
 ·subst e;rw[h.root];unfold Ao;rw[List.filter_eq_self.2];intro b hb;refine Alb ⟨by rw[hs.root.1];exact hpos b (hp b hb),?_⟩;rw[hs.root.1,hs.root.2,Aoz];exact Nat.div_eq_of_lt (hnum b (hp b hb))
 ·obtain⟨j,u,h1,h2,h3⟩:=hs.par i (by omega) hi;exact(h.at_ i j u hi (by omega) h1 (by omega) h3).1 h2
theorem Ik.leaf(h:Ik ln num nds col i p cs)(hp:p<(Ao ln num nds col i).length){v:UInt8}(hb:(Ab nds i).br (Av ln num (Ab nds i).depth ((Ao ln num nds col i).getD p 0))={whole:=true,val:=v}):Ik ln num nds col i (p+1) cs:=by
 refine⟨h.len,h.root,fun n j u hn h0 hu hj e=>?_⟩;obtain⟨h1,h2,h3⟩:=h.at_ n j u hn h0 hu hj e;refine⟨h1,fun x=>?_,h3⟩;subst x;rw[h2 rfl,Ali hp,Ang];have ep:(Ao ln num nds col j).getD p 0=(Ao ln num nds col j)[p]:=by rw[Ak6,Ak7 hp];rfl
 rw[ep]at hb;have:(Av ln num (Ab nds j).depth (Ao ln num nds col j)[p]==u)=false:=by
  rw[Al5];intro x;rw[x,e]at hb;cases hb
 rw[Am1,this];simp
theorem Ik.node(h:Ik ln num nds col i p cs)(hs:Bg M ln o nds)(hi:i<nds.length)(hp:p<(Ao ln num nds col i).length){n:Nat}(h0:0<n)(hb:(Ab nds i).br (Av ln num (Ab nds i).depth ((Ao ln num nds col i).getD p 0))={node:=n}):Ik ln num nds col i (p+1) (cs.set n (cs.getD n []++[(Ao ln num nds col i).getD p 0])):=by
 have hu:=Fy ln num (Ab nds i).depth ((Ao ln num nds col i).getD p 0);obtain⟨c1,c2,_⟩:=hs.child hi hu h0 hb;have hl:n<cs.length:=by rw[h.len];exact c2
 refine⟨by rw[Amn];exact h.len,by rw[M7 _ _ _ _ hl,if_neg (by omega)];exact h.root,fun m j u hm hm0 hu' hj e=>?_⟩;obtain⟨h1,h2,h3⟩:=h.at_ m j u hm hm0 hu' hj e;have ep:(Ao ln num nds col i).getD p 0=(Ao ln num nds col i)[p]:=by rw[Ak6,Ak7 hp];rfl
 by_cases x:n=m
 ·subst x;obtain⟨rfl,rfl⟩:=hs.parent hj hu' hi hu h0 e hb;refine⟨fun c=>by omega,fun _=>?_,fun c=>by omega⟩;rw[M7 _ _ _ _ hl,if_pos rfl,h2 rfl,Ali hp,Ang,Am1,ep,if_pos (by simp)];rfl
 ·rw[M7 _ _ _ _ hl,if_neg x];refine⟨h1,fun c=>?_,h3⟩;subst c;rw[h2 rfl,Ali hp,Ang];have:(Av ln num (Ab nds j).depth (Ao ln num nds col j)[p]==u)=false:=by
   rw[Al5];intro y;rw[ep,y,e]at hb;injection hb with _ _ hb;exact x hb.symm
  rw[Am1,this];simp
theorem Ik.next(h:Ik ln num nds col i (Ao ln num nds col i).length cs)(hs:Bg M ln o nds)(hk:G7 M ln num o)(hc: ∀b∈col,b∈o):Ik ln num nds col (i+1) 0 cs:=by
 refine⟨h.len,h.root,fun n j u hn h0 hu hj e=>?_⟩;obtain⟨h1,h2,h3⟩:=h.at_ n j u hn h0 hu hj e;refine⟨fun x=>?_,fun x=>?_,fun x=>h3 (by omega)⟩
 ·by_cases y:j=i
  ·subst y;rw[h2 rfl,Ama];exact(hs.col_child hk hc hj hu h0 e).symm
  ·exact h1 (by omega)
 ·rw[h3 (by omega)];simp
theorem Bg.goes(h:Bg M ln o nds)(hk:G7 M ln num o)(hc: ∀b∈col,b∈o)(hi:i<nds.length)(hp:p<(Ao ln num nds col i).length):
  (∃v,(Ab nds i).br (Av ln num (Ab nds i).depth ((Ao ln num nds col i).getD p 0))={whole:=true,val:=v})∨ ∃n,0<n∧n<nds.length∧i<n∧(Ab nds i).br (Av ln num (Ab nds i).depth ((Ao ln num nds col i).getD p 0))={node:=n}:=by
 have ep:(Ao ln num nds col i).getD p 0=(Ao ln num nds col i)[p]:=by rw[Ak6,Ak7 hp];rfl
 have hm:(Ao ln num nds col i)[p]∈Ao ln num nds col i:=Alo _;rw[ep];generalize(Ao ln num nds col i)[p]=b at*;obtain⟨h1,h2⟩:=List.mem_filter.1 hm;cases h.good i (Av ln num (Ab nds i).depth b) hi (Fy _ _ _ _)with
 |leaf k hk h3=>exact .inl ⟨_,h3⟩
 |node n h3 h4 h5=>exact .inr ⟨n,by omega,h5,h4,h3⟩
 |none h3 h4=>exact(Ka hk (hc b h1) h2 h4).elim
end
end Hm
namespace Hm
def C7(d c:Nat):List Bool:=((List.range d).map fun i=>decide (c/2^i%2=1)).reverse
theorem Bs(d c:Nat):(C7 d c).length=d:=by simp[C7]
theorem Zo(d c u:Nat)(hu:u<2):C7 (d+1) (2*c+u)=C7 d c++[decide (u=1)]:=by
 unfold C7;rw[List.range_succ_eq_map,Amu,List.map_map,List.reverse_cons];congr 1
 ·congr 1;refine Aoa fun i _=>?_;show decide ((2*c+u)/2^(i+1)%2=1)=_;rw[Amv,Aoj (2^i),←Aox,show(2*c+u)/2=c from by omega]
 ·congr 1;rw[Nat.pow_zero,Nat.div_one,show(2*c+u)%2=u from by omega]
theorem Rg(d c:Nat):C7 (d+1) c=C7 d (c/2)++[decide (c%2=1)]:=by
 have:=Zo d (c/2) (c%2) (Nat.mod_lt _ (by omega));rwa[show 2*(c/2)+c%2=c from by omega]at this
theorem I4(c:Nat): ∀l d,d≤l→(C7 l c).take d=C7 d (c/2^(l-d))
 |0,d,h=>by
  obtain rfl:d=0:=by omega
  rfl
 |l+1,d,h=>by
  by_cases e:d=l+1
  ·subst e;rw[Amr,Nat.pow_zero,Nat.div_one,Al8 (by rw[Bs];omega)]
  ·rw[Rg,List.take_append_of_le_length (by rw[Bs];omega)];have:(C7 l (c/2)).take d=C7 d (c/2/2^(l-d)):=by
    have ih:=fun c'=>I4 c' l d (by omega);exact ih (c/2)
   rw[this,show l+1-d=(l-d)+1 from by omega,Amv,Aoj,Aox]
def Ej(l:List Bool):Nat:=l.foldl (fun a b=>2*a+b.toNat) 0
theorem Aha(l:List Bool)(b:Bool):Ej (l++[b])=2*Ej l+b.toNat:=by simp[Ej,List.foldl_append]
theorem Mj: ∀d c,c<2^d→Ej (C7 d c)=c
 |0,c,h=>by
  have:c=0:=by simpa using h
  subst this;rfl
 |d+1,c,h=>by
  rw[Rg,Aha,Mj d (c/2) (by rw[Amv]at h;omega)]
  by_cases e:c%2=1
  ·rw[Alb e];show 2*(c/2)+1=c;omega
  ·rw[Ald e];show 2*(c/2)+0=c;omega
theorem Rh{d c c':Nat}(h:c<2^d)(h':c'<2^d)(e:C7 d c=C7 d c'):c=c':=by
 rw[←Mj d c h,←Mj d c' h',e]
def Mw(a b:List Bool):Prop:=a.length<b.length∨a.length=b.length∧Ej a<Ej b
structure Er(cd:UInt8→List Bool)(hs:List (List Bool)):Prop where
 srt:hs.Pairwise Mw
 mem: ∀h,h∈hs↔ ∃b,h.length<(cd b).length∧(cd b).take h.length=h
theorem P3(a b:List Bool)(h:Mw a b): ¬Mw b a:=by unfold Mw at*;omega
theorem Ql{α:Type}{r:α→α→Prop}(has: ∀a b,r a b→ ¬r b a): ∀{l m:List α},l.Pairwise r→m.Pairwise r→(∀x,x∈l↔x∈m)→l=m
 |[],[],_,_,_=>rfl
 |[],y::m,_,_,h=>absurd ((h y).2 (Alp ..)) (by simp)
 |x::l,[],_,_,h=>absurd ((h x).1 (Alp ..)) (by simp)
 |x::l,y::m,hl,hm,h=>by
  obtain⟨h1,h2⟩:=Ao0.1 hl;obtain⟨h3,h4⟩:=Ao0.1 hm;have irr: ∀a,¬r a a:=fun a c=>has a a c c;have e:x=y:=by
   rcases List.mem_cons.1 ((h x).1 (Alp ..))with c|c
   ·exact c
   ·rcases List.mem_cons.1 ((h y).2 (Alp ..))with d|d
    ·exact d.symm
    ·exact absurd (h1 y d) (has _ _ (h3 x c))
  subst e;rw[Ql has h2 h4 fun z=>?_];constructor
  ·intro hz;rcases List.mem_cons.1 ((h z).1 (Als _ hz))with c|c
   ·subst c;exact absurd (h1 z hz) (irr z)
   ·exact c
  ·intro hz;rcases List.mem_cons.1 ((h z).2 (Als _ hz))with c|c
   ·subst c;exact absurd (h3 z hz) (irr z)
   ·exact c
theorem Er.unique{cd:UInt8→List Bool}{hs hs':List (List Bool)}(h:Er cd hs)(h':Er cd hs'):hs=hs':=
 Ql P3 h.srt h'.srt fun x=>(h.mem x).trans (h'.mem x).symm
section
variable {M:Nat} {ln num:UInt8→Nat} {o:List UInt8} {nds:List Nd} {col:List UInt8}
theorem Bg.num_lt(h:Bg M ln o nds): ∀m n,n≤m→n<nds.length→(Ab nds n).num<2^(Ab nds n).depth
 |m,0,_,_=>by rw[h.root.1,h.root.2];decide
 |0,n+1,h1,_=>by omega
 |m+1,n+1,h1,h2=>by
  obtain⟨j,u,hu,hj,e⟩:=h.par (n+1) (by omega) h2;obtain⟨_,_,h3,h4,_⟩:=h.child (by omega) hu (by omega) e;have:=Bg.num_lt h m j (by omega) (by omega);rw[h3,h4,Amv];omega
theorem Bg.some(h:Bg M ln o nds)(hk:G7 M ln num o)(hz: ∀j,j<nds.length→(Ab nds j).br 0≠{}): ∀m n,nds.length-n≤m→n<nds.length→ ∃b∈o,El ln num (Ab nds n) b=true
 |0,n,h1,h2=>by omega
 |m+1,n,h1,h2=>by
  cases h.good n 0 h2 (by omega)with
  |leaf k hk' h3 h4 h5=>
   refine⟨o.getD k 0,Og hk',Alb ⟨by omega,?_⟩⟩;have h6:=hk.num k hk';rw[←h5]at h6;have h7:=Nat.eq_of_mul_eq_mul_right (Ans _) h6;rw[h4,h7,show(Ab nds n).depth+1-(Ab nds n).depth=1 from by omega];omega
  |node n' h3 h4 h5 h6 h7=>
   obtain⟨b,hb,hu⟩:=Bg.some h hk hz m n' (by omega) h5;exact⟨b,hb,(Nl (by omega) h6 h7 hu).1⟩
  |none h3=>exact absurd h3 (hz n h2)
theorem Bg.node_of(h:Bg M ln o nds)(hk:G7 M ln num o)(hnum: ∀b∈o,num b<2^ln b){b:UInt8}(hb:b∈o): ∀d,d<ln b→ ∃n,n<nds.length∧(Ab nds n).depth=d∧(Ab nds n).num=num b/2^(ln b-d)
 |0,hd=>⟨0,h.more,h.root.1,by rw[h.root.2,Aoz,Nat.div_eq_of_lt (hnum b hb)]⟩
 |d+1,hd=>by
  obtain⟨n,h1,h2,h3⟩:=Bg.node_of h hk hnum hb d (by omega);have hu:El ln num (Ab nds n) b=true:=Alb ⟨by omega,by rw[h2,h3]⟩;have hbit:=Oh hu;cases h.good n (Av ln num (Ab nds n).depth b) h1 (Fy _ _ _ _)with
  |leaf k hk' h4 h5 h6=>
   have:=Li hk hb hu hk' h5 h6;rw[this]at hd;omega
  |node n' h4 h5 h6 h7 h8=>exact⟨n',h6,by omega,by rw[h8,←hbit,h2]⟩
  |none h4 h5=>exact(Ka hk hb hu h5).elim
def G9(ln num:UInt8→Nat)(b:UInt8):List Bool:=C7 (ln b) (num b)
def Pc(nds:List Nd):List (List Bool):=(List.range nds.length).map fun j=>C7 (Ab nds j).depth (Ab nds j).num
theorem Bg.heads(h:Bg M ln o nds)(hk:G7 M ln num o)(hz: ∀j,j<nds.length→(Ab nds j).br 0≠{})(hnum: ∀b∈o,num b<2^ln b)(hno: ∀b,0<ln b→b∈o):Er (G9 ln num) (Pc nds):=by
 refine⟨?_,fun x=>?_⟩
 ·unfold Pc;rw[List.pairwise_map];refine(List.pairwise_lt_range (n:=nds.length)).imp_of_mem fun{i j} hi hj hij=>?_;have hi':i<nds.length:=by simpa using hi
  have hj':j<nds.length:=by simpa using hj
  have:=h.sorted i j hij hj';unfold Mw;rw[Bs,Bs,Mj _ _ (h.num_lt i i (Ale _) hi'),Mj _ _ (h.num_lt j j (Ale _) hj')];exact this
 ·unfold Pc G9;rw[List.mem_map];constructor
  ·rintro⟨n,hn,rfl⟩;have hn':n<nds.length:=by simpa using hn
   obtain⟨b,hb,hu⟩:=h.some hk hz (nds.length-n) n (Ale _) hn';obtain⟨h1,h2⟩:=Amm hu;refine⟨b,by rw[Bs,Bs];exact h1,?_⟩;rw[Bs,I4 _ _ _ (by omega),h2]
  ·rintro⟨b,h1,h2⟩;rw[Bs]at h1;obtain⟨n,h3,h4,h5⟩:=h.node_of hk hnum (hno b (by omega)) x.length h1;refine⟨n,by simpa using h3,?_⟩;rw[h4,h5,←I4 _ _ _ (by omega)];exact h2
def Ea(c h:List Bool):Bool:=decide (h.length≤c.length∧c.take h.length=h)
theorem Bg.begins(h:Bg M ln o nds)(hk:G7 M ln num o)(hnum: ∀b∈o,num b<2^ln b){n:Nat}(hn:n<nds.length){b:UInt8}(hb:b∈o)(hpos:0<ln b):Ea (G9 ln num b) (C7 (Ab nds n).depth (Ab nds n).num)=El ln num (Ab nds n) b:=by
 unfold Ea El G9;rw[Bs,Bs];have hnl:=h.num_lt n n (Ale _) hn;rw[decide_eq_decide];constructor
 ·rintro⟨h1,h2⟩;rw[I4 _ _ _ h1]at h2;have e:num b/2^(ln b-(Ab nds n).depth)=(Ab nds n).num:=by
   refine Rh ?_ hnl h2;have:=hnum b hb;rw[Nat.div_lt_iff_lt_mul (Ans _),←Nat.pow_add,show(Ab nds n).depth+(ln b-(Ab nds n).depth)=ln b from by omega];exact this
  refine⟨Nat.lt_of_le_of_ne h1 fun c=>?_,e⟩
  by_cases e0:n=0
  ·subst e0;have:=h.root.1;omega
  ·obtain⟨j,u,hu,hj,ej⟩:=h.par n (by omega) hn;obtain⟨_,_,_,_,hno⟩:=h.child (by omega) hu (by omega) ej;obtain⟨k,hk',rfl⟩:=It hb;refine hno k hk' c.symm ?_;rw[←hk.num k hk',←e,c,Amr,Nat.pow_zero,Nat.div_one]
 ·rintro⟨h1,h2⟩;refine⟨by omega,?_⟩;rw[I4 _ _ _ (by omega),h2]
theorem Ahb(b:UInt8)(d:Nat)(hd:d<ln b):(G9 ln num b).getD d false=decide (Av ln num d b=1):=by
 unfold G9 Av C7;rw[Ak6,List.getElem?_reverse (by simpa using hd)];simp only[Al6,Aoc];rw[Alu,Amw (by omega)];rfl
end
end Hm
end Go.Proofs.YtegnkfdbmmndaaaGreat
