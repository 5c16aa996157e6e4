import Derived.Test.YtegnkfdbmmndaaaGreatJ04

set_option maxHeartbeats 8000000
namespace Go.Proofs.YtegnkfdbmmndaaaGreat
open Hm Go.Proofs.Tryz Go.RowKit
structure Cs(w:World)(pb o:Nat)(s:ByteArray)(len g:Nat):Prop where
 str:w.cell? ⟨pb,o,none⟩=some (.string s)
 len:w.cell? ⟨pb,o+1,none⟩=some (.int .i64 (len:Nat))
 cnt:w.cell? ⟨pb,o+2,none⟩=some (.slice (some ⟨g,0,none⟩) (s.size+1) (s.size+1))
 row:IntRow w g (B6 s.data.toList)
theorem Cs.kept{S:Nat→Prop}{w w':World}{pb o len g:Nat}{s:ByteArray}(h:Cs w pb o s len g)(hk:Aa S w w')(h1: ¬S pb)(h2: ¬S g):Cs w' pb o s len g:=
 have a:pb<w.heap.size:=Ank _ _ h.str
 ⟨(hk.cell (p:=⟨pb,o,none⟩) a h1).trans h.str,(hk.cell (p:=⟨pb,o+1,none⟩) a h1).trans h.len,(hk.cell (p:=⟨pb,o+2,none⟩) a h1).trans h.cnt,h.row.kept hk h2⟩
theorem Ij(hones:Bd)(pb o g len p:Nat)(s:ByteArray)(w:World)(h:Cs w pb o s len g)(O:p≤8*s.size)(hs:s.size≤100000000):
  Calls prog 126 #[.pointer (some ⟨pb,o,none⟩),.int .i64 p] w fun e w'=>e= .returned (.int .i64 (Hm.rk (Am s.data.toList) p:Nat))∧w'=w:=by
 obtain⟨q,A⟩: ∃q,q=p/8:=⟨_,rfl⟩;obtain⟨r,C⟩: ∃r,r=p%8:=⟨_,rfl⟩;have zq:(p:Int)/8=(q:Int):=by omega
 have zr:(p:Int)%8=(r:Int):=by omega
 have l:s.data.toList.length=s.size:=by simp
 have v:=Rw s.data.toList;have a:=Amf s.data.toList p;have y:=Zg s.data.toList q;rw[←A,←C]at a;have N:=h.str;have h2:=h.cnt;have K:w.cell? ⟨g,q,none⟩=some (.int .i64 (Eb s.data.toList q:Nat)):=by
  rw[h.row.cell (i:=q) (by omega)];simp[B6]
 have L:(q:Int)<(s.size:Int)+1:=by omega
 have k:Aside _:=a;have n:Aside _:=l;obtain⟨u,H⟩: ∃u,u=Eb s.data.toList q:=⟨_,rfl⟩;rw[←H]at K y k;clear v a H h l
 by_cases j:r=0
 ·have I:Aside (Hm.rk (Am s.data.toList) p=u):=by
   show _=_;rw[←k.o,j];have: ∀x:UInt8,Lib.onesCount (x.toNat*2^(8-0)%256)=0:=fun x=>by
    rw[show x.toNat*2^(8-0)%256=0 from by omega];rfl
   rw[this];rfl
  have D:decide (0<r)=false:=Anc (by omega);clear k C j A
  go_enter func126,ntmps126
  go_wp2;go_ret;exact⟨by rw[I.o];rfl,rfl⟩
 ·have B:q<s.size:=by omega
  have D:decide (0<r)=true:=Ana (by omega);obtain⟨t,ht⟩: ∃t,t=8-r:=⟨_,rfl⟩;have zt:(8:Int)-(r:Int)=(t:Int):=by omega
  have M:t≤8:=by omega
  have F:s.data.toList.getD q 0=s[q]:=by
   rw[Am4,Am5 (by rw[n.o];exact B)];rfl
  rw[F,←ht]at k;obtain⟨z,E⟩: ∃z,z=s[q].toNat*2^t%256:=⟨_,rfl⟩;have zz:(s[q].toNat:Int)*2^t%256=(z:Int):=by rw[E];simp
  have b:z<256:=by omega
  have f:=fun W=>hones (UInt8.ofNat z) W;have e8:Hm.on8 (UInt8.ofNat z)=Lib.onesCount z:=by rw[Wj,Aoa,Ao7 b]
  have e9:(UInt8.ofNat z).toNat=z:=by rw[Aoa,Ao7 b]
  have J:=Ab4 (UInt8.ofNat z);rw[e9]at f;obtain⟨c,d⟩: ∃c,c=Hm.on8 (UInt8.ofNat z):=⟨_,rfl⟩;rw[←d]at f J;rw[←E,←e8,←d]at k;have G:(q:Int)<(s.size:Int):=by omega
  have m:Aside _:=f;clear E d e8 e9 F ht C j A
  go_enter func126,ntmps126
  go_wp2_with fail;refine(m.o _).mono ?_;rintro e w' ⟨rfl,rfl⟩;go_wp2;go_ret;exact⟨by rw[←k.o];go_num,rfl⟩
def Ba(w:World)(ao:Arf)(fs:Arb):Prop:=
 ∀i,(h:i<fs.length)→ ∃b o,ao=some ⟨b,o,none⟩∧b<w.heap.size∧w.cell? ⟨b,o+i*2,none⟩=some (.string fs[i].1)∧w.cell? ⟨b,o+i*2+1,none⟩=some (.string fs[i].2)
theorem Ba.kept{S:Nat→Prop}{w w':World}{ao:Arf}{fs:Arb}(h:Ba w ao fs)(hk:Aa S w w')(hn: ∀a,ao=some a→ ¬S a.block):Ba w' ao fs:=by
 intro i hi;obtain⟨b,o,e,hb,h1,h2⟩:=h i hi;have hs:=hn _ e;exact⟨b,o,e,by have:=hk.size;omega,(hk.cell (p:=⟨b,o+i*2,none⟩) hb hs).trans h1,(hk.cell (p:=⟨b,o+i*2+1,none⟩) hb hs).trans h2⟩
namespace Hm
def nameBytes(fs:Arb):Arc:=fs.flatMap fun f=>UInt8.ofNat f.1.size::f.1.data.toList
theorem Qb(fs:Arb)(k:Nat)(h:k<fs.length):nameBytes (fs.take (k+1))=nameBytes (fs.take k)++(UInt8.ofNat fs[k].1.size::fs[k].1.data.toList):=by
 rw[Anh h];unfold nameBytes;rw[Ao4];congr 1;simp
theorem Ka(fs:Arb)(h: ∀f∈fs,f.1.size≤32):(nameBytes fs).length≤33*fs.length:=by
 induction fs with
 |nil=>simp[nameBytes]
 |cons f r ih=>
  have h1:=h f (by simp);have h2:=ih (fun x a=>h x (by simp[a]));have b:f.1.data.toList.length=f.1.size:=by simp
  simp only[nameBytes,Aoe,Anf,An8]at h2⊢;omega
end Hm
theorem Ab7(base:Nat)(v:Value)(n c:Nat)(ao:Arf)(fs:Arb)(l:Arc)(w:World)(W:w.ownsRow base 5 1 v n (Ah l))(hb:base≤w.heap.size)
  (y:Ba w ao fs) (J: ∀a,ao=some a→v.ownBlock≠some a.block) (Y:fs.length≤40) (x: ∀f∈fs,f.1.size≤32) (hn:n≤1000000):
  Calls prog 103 #[v,.slice ao fs.length c] w fun e w'=> ∃v',e= .returned v'∧w'.ownsRow base 5 1 v' (n+(Hm.nameBytes fs).length) (Ah (l++Hm.nameBytes fs))∧Aa (fun j=>v.ownBlock=some j) w w'∧Cb w v v':=by
 obtain⟨i0,hi,C,D,E⟩:=Aoo Fh
 go_enter func103,ntmps103
 go_wp2
 go_loopw[0,9] (fun u i wr=> ∃k:Nat,k≤fs.length∧i= .int .i64 k∧wr.ownsRow base 5 1 u (n+(Hm.nameBytes (fs.take k)).length) (Ah (l++Hm.nameBytes (fs.take k)))∧Aa (fun j=>v.ownBlock=some j) w wr∧Cb w v u) (fun _ i _=>fs.length-(intOf i).toNat)
 case atStart=>exact⟨0,Ann _,rfl,by simpa[Hm.nameBytes]using W,Aa.refl _ _,Cb.refl _ _⟩
 case round=>
  obtain⟨k,hk,rfl,g,d,p⟩:=hrel;have H:=Ka (fs.take k) (fun f y=>x f (Aqm y));have O:(fs.take k).length≤40:=by simp;omega
  generalize q:(Hm.nameBytes (fs.take k)).length=nk at H g
  by_cases z:k<fs.length
  ·obtain⟨b,o,s,R,T,U⟩:=(y.kept d (fun a Q=>J a Q)) k z;have N:=x fs[k] (Anm _);have M:Hid (Hm.nameBytes (fs.take (k+1))=Hm.nameBytes (fs.take k)++(UInt8.ofNat fs[k].1.size::fs[k].1.data.toList)):=Qb fs k z;generalize fs[k].1=nm at*;generalize fs[k].2=ct at*;rw[s];have X:Hid (ao=some ⟨b,o,none⟩):=s;have F:Hid ((Hm.nameBytes (fs.take k)).length=nk):=q;clear s q y
   go_wp2_with(at_builtin;refine Bg _ rfl (.tmp 13) (.tmp 18) 79 rfl base 5 i0 (.int .u8 0) 1 1 underlying79 hi C D E rfl (by decide) _ _ _ rfl ((g.alloc _).alloc _) ⟨wr.heap.size+1,0,none⟩ 1 1 [.int .u8 (nm.size:Int)] rfl rfl ?c1 ?c2 ?c3 ?c4 ?c5 ?_)
   case c1=>have h:=cell_one_new (wr.alloc (.cells #[.string nm,.string ct] 38)) (.int .u8 (nm.size:Int)) 5;simpa using h
   case c2=>intro u P;simp at P;subst P;rfl
   case c3=>unfold maxLen;omega
   case c4=>omega
   case c5=>have:=d.size;simp;omega
   intro v' w1 K m A;have B: ∀j,u0.ownBlock=some j→j<wr.heap.size:=fun j V=>(g.lt j V).2;have S:w1.cell? ⟨wr.heap.size,0,none⟩=some (.string nm):=
    m.cell (Am7 _ _ 0 _ _ _ (Apb wr _ _)) (fun e=>by have:=B _ e.symm;simp at this)
   have Z:wr.heap.size+2≤w1.heap.size:=by have:=m.size;simp at this;omega
   have t:Aa (fun j=>v.ownBlock=some j) w w1:=((d.alloc _).alloc _).grown m (fun k hk=>(p k hk).elim (fun h=> .inr h) .inl);have r:Cb w v v':=p.trans A (by have:=d.size;simp;omega);clear m A g d p B
   go_wp2_with(at_builtin;refine Er _ rfl (.tmp 20) (.tmp 22) 79 9 rfl base 5 i0 underlying79 underlying9 hi C D E _ _ _ rfl K nm rfl ?c6 ?c7 ?c8 ?_)
   case c6=>unfold maxLen;omega
   case c7=>omega
   case c8=>have:=t.size;omega
   intro v2 w2 L G I _;go_wp2;go_roundw
   case rel=>
    have e:Ah (l++Hm.nameBytes (fs.take (k+1)))=Ah (l++Hm.nameBytes (fs.take k))++[.int .u8 (nm.size:Int)]++Lib.strCells nm:=by
     rw[M.o];simp[Ah,Lib.strCells];omega
    have e2:n+(Hm.nameBytes (fs.take (k+1))).length=n+nk+1+nm.size:=by
     have e3:nm.data.toList.length=nm.size:=by simp
     rw[M.o,Anf,F.o,An8,e3];omega
    refine⟨k+1,by omega,by go_num,?_,?_,?_⟩
    ·rw[e,e2];simpa using L
    ·exact t.grown G (fun k hk=>(r k hk).elim (fun h=> .inr h) .inl)
    ·exact r.trans I (by have:=t.size;omega)
   case measure=>simp[intOf];omega
  ·clear y;go_wp2;go_ret;obtain rfl:k=fs.length:=by omega
   have e:fs.take fs.length=fs:=Aof;rw[e]at g q;rw[q];exact⟨_,rfl,g,d,p⟩
namespace Hm
abbrev Rd:=Option Arc
def Bb:Rd→Nat→Arc×Rd
 |none,_=>([],none)
 |some l,k=>if k≤l.length then(l.take k,some (l.drop k))else([],none)
theorem Gf{l:Arc}{k:Nat}(h:k≤l.length):Bb (some l) k=(l.take k,some (l.drop k)):=if_pos h
theorem K6{l:Arc}{k:Nat}(h: ¬k≤l.length):Bb (some l) k=([],none):=if_neg h
def Da(st:Rd)(h:Bool):Rd:=if h=true then st else none
def Fe:Arc→Nat
 |[]=>0
 |b::r=>b.toNat+256*Fe r
def B5(st:Rd)(k:Nat):Nat×Rd:=(Fe (Bb st k).1,(Bb st k).2)
theorem Ab8(l:Arc):Fe l<256^l.length:=by
 induction l with
 |nil=>simp[Fe]
 |cons b r ih=>
  have h:=b.toNat_lt;rw[Fe,An8,Aoz];omega
theorem Su(l r:Arc):Fe (l++r)=Fe l+256^l.length*Fe r:=by
 induction l with
 |nil=>simp[Fe]
 |cons b t ih=>
  rw[Aqw,Fe,ih,Fe,An8,Aoz,Nat.mul_add,←Aqn,Aqh 256 (256^t.length)];omega
theorem L2(st:Rd)(k:Nat):(Bb st k).1.length≤k:=by
 cases st with
 |none=>simp[Bb]
 |some l=>
  by_cases h:k≤l.length
  ·rw[Gf h];simp;omega
  ·rw[K6 h];simp
theorem Ho(st:Rd)(k:Nat):(B5 st k).1<256^k:=
 Aom (Ab8 _) (Ao9 (by omega) (L2 st k))
def Bj(st:Rd):Nat:=(st.getD []).length
theorem Ed(st:Rd)(k:Nat):Bj (Bb st k).2≤Bj st:=by
 cases st with
 |none=>simp[Bb,Bj]
 |some l=>
  by_cases h:k≤l.length
  ·rw[Gf h];simp[Bj]
  ·rw[K6 h];simp[Bj]
theorem Iq(st:Rd)(h:Bool):Bj (Da st h)≤Bj st:=by
 unfold Da;split
 ·exact Ane _
 ·simp[Bj]
end Hm
def Ax(w:World)(p:Nat)(st:Hm.Rd):Prop:=w.heap[p]?=some (.cells #[.string ⟨(st.getD []).toArray⟩,.bool st.isNone] 132 (0,0))
theorem Ax.rest{w:World}{p:Nat}{st:Hm.Rd}(h:Ax w p st):w.cell? ⟨p,0,none⟩=some (.string ⟨(st.getD []).toArray⟩):=Am7 _ _ 0 _ _ _ h
theorem Ax.bad{w:World}{p:Nat}{st:Hm.Rd}(h:Ax w p st):w.cell? ⟨p,1,none⟩=some (.bool st.isNone):=Am7 _ _ 1 _ _ _ h
theorem Ax.free{w:World}{p:Nat}{st:Hm.Rd}(h:Ax w p st)(i:Nat):w.frozen? ⟨p,i,none⟩=false:=Ang _ _ i _ _ h
theorem Ax.lt{w:World}{p:Nat}{st:Hm.Rd}(h:Ax w p st):p<w.heap.size:=Anu h
theorem Ax.kept{S:Nat→Prop}{w w':World}{p:Nat}{st:Hm.Rd}(h:Ax w p st)(hk:Aa S w w')(hn: ¬S p):Ax w' p st:=hk.row h hn
theorem Ik(p:Nat)(st:Hm.Rd)(h:Bool)(w:World)(a:Ax w p st):
  Calls prog 63 #[.pointer (some ⟨p,0,none⟩),.bool h] w fun e w'=>e= .returned (.tuple #[])∧Ax w' p (Da st h)∧Aa (fun j=>j=p) w w':=by
 have c0:=a.rest;have c1:=a.bad;have f0:=a.free 0;have f1:=a.free 1;cases h
 ·have b:Hid (Ax ((w.setCell ⟨p,0,none⟩ (.string ⟨#[]⟩)).setCell ⟨p,1,none⟩ (.bool true)) p none):=by
   have h2:=Anb _ p 1 _ _ (.bool true) (Anb w p 0 _ _ (.string ⟨#[]⟩) a);show Ax _ _ _;unfold Ax;rw[h2];rfl
  clear a
  go_enter func63,ntmps63
  go_wp2
  go_end0
  exact⟨rfl,b.o,((Aa.refl (fun j=>j=p) w).setCell (p:=⟨p,0,none⟩) (.inr rfl) _).setCell (p:=⟨p,1,none⟩) (.inr rfl) _⟩
 ·go_enter func63,ntmps63
  go_wp2
  go_end0
  exact⟨rfl,a,Aa.refl _ _⟩
theorem extract_toArray(l:Arc)(a b:Nat):(⟨l.toArray⟩:ByteArray).extract a b=⟨((l.drop a).take (b-a)).toArray⟩:=by
 apply Aqg;apply Api;rw[ByteArray.data_extract,Array.toList_extract,Aqf]
theorem Lg(p:Nat)(st:Hm.Rd)(k:Nat)(w:World)(f:Ax w p st)(t:Bj st≤4611686018427387904)(_hk:k≤4611686018427387904):
  Calls prog 64 #[.pointer (some ⟨p,0,none⟩),.int .i64 k] w fun e w'=>e= .returned (.string ⟨(Bb st k).1.toArray⟩)∧Ax w' p (Bb st k).2∧Aa (fun j=>j=p) w w':=by
 cases st with
 |none=>
  have c0:=f.rest;have q:(⟨((none:Hm.Rd).getD []).toArray⟩:ByteArray).size=0:=rfl;obtain⟨S,d⟩: ∃S,S=(⟨((none:Hm.Rd).getD []).toArray⟩:ByteArray):=⟨_,rfl⟩;rw[←d]at c0 q;have hn:=fun(h:Bool)=>Ik p none h w f;have e0: ∀h,Da none h=none:=fun h=>by unfold Da;split<;>rfl
  simp only[e0]at hn;have i:Hid _:=hn;clear f d e0 hn
  go_enter func64,ntmps64
  go_wp2_with fail;refine(i.o _).mono ?_;rintro e w1 ⟨rfl,a,b⟩;have c1:=a.bad;have b1:(none:Hm.Rd).isNone=true:=rfl;rw[b1]at c1;have g:Hid (Ax w1 p none∧Aa (fun j=>j=p) w w1):=⟨a,b⟩;clear a b i c0;go_wp2_with fail;go_ret;exact⟨rfl,g.o.1,g.o.2⟩
 |some l=>
  have c0:=f.rest;have v:l.length≤4611686018427387904:=t;obtain⟨S,d⟩: ∃S,S=(⟨((some l:Hm.Rd).getD []).toArray⟩:ByteArray):=⟨_,rfl⟩;have q:S.size=l.length:=by rw[d];show l.toArray.size=_;simp
  rw[←d]at c0;have c:S=(⟨l.toArray⟩:ByteArray):=d
  by_cases n:k≤l.length
  ·have m:decide ((k:Int)≤(l.length:Int))=true:=Ana (by omega);have hn:=Ik p (some l) true w f;have e0:Da (some l) true=some l:=rfl;rw[e0]at hn;have r:Hid (Bb (some l) k=(l.take k,some (l.drop k))):=Gf n;rw[r.o];have s:Hid (S.extract 0 k=⟨(l.take k).toArray⟩∧S.extract k S.size=⟨(l.drop k).toArray⟩):=by
    refine⟨by rw[c,extract_toArray];simp,?_⟩;rw[q,c,extract_toArray,An5 (by simp)]
   have HS:Hid (S=(⟨l.toArray⟩:ByteArray)):=c;have u:(k:Int)≤(l.length:Int):=by omega
   clear f d c e0 t
   go_enter func64,ntmps64
   go_wp2_with fail;refine hn.mono ?_;rintro e w1 ⟨rfl,a,b⟩;have c1:=a.bad;have c2:=a.rest;have f2:=a.free 0;have b1:(some l:Hm.Rd).isNone=false:=rfl;have b2:(⟨((some l:Hm.Rd).getD []).toArray⟩:ByteArray)=S:=HS.o.symm;rw[b1]at c1;rw[b2]at c2;have i:Hid (Ax (w1.setCell ⟨p,0,none⟩ (.string ⟨(l.drop k).toArray⟩)) p (some (l.drop k))∧Aa (fun j=>j=p) w (w1.setCell ⟨p,0,none⟩ (.string ⟨(l.drop k).toArray⟩))):=by
    have h2:=Anb w1 p 0 _ _ (.string ⟨(l.drop k).toArray⟩) a;refine⟨?_,b.setCell (.inr rfl) _⟩;unfold Ax;rw[h2];rfl
   clear a b hn c0 b1 b2;go_wp2_with fail;go_ret;rw[q]at s;rw[s.o.1,s.o.2];exact⟨rfl,i.o.1,i.o.2⟩
  ·have m:decide ((k:Int)≤(l.length:Int))=false:=Anc (by omega);have hn:=Ik p (some l) false w f;have e0:Da (some l) false=none:=rfl;rw[e0]at hn;have r:Hid (Bb (some l) k=([],none)):=K6 n;rw[r.o];clear f d c e0 t
   go_enter func64,ntmps64
   go_wp2_with fail;refine hn.mono ?_;rintro e w1 ⟨rfl,a,b⟩;have c1:=a.bad;have b1:(none:Hm.Rd).isNone=true:=rfl;rw[b1]at c1;have g:Hid (Ax w1 p none∧Aa (fun j=>j=p) w w1):=⟨a,b⟩;clear a b hn c0;go_wp2_with fail;go_ret;exact⟨rfl,g.o.1,g.o.2⟩
theorem Qy(a b:Nat)(c:a<9223372036854775808)(hb:b<9223372036854775808):bits .or .i64 (a:Int) (b:Int)=((a|||b:Nat):Int):=by
 have d:a|||b<2^63:=Nat.or_lt_two_pow (by omega) (by omega);have h1:(BitVec.ofInt 64 (a:Int)).toNat=a:=by rw[Aq2,BitVec.toNat_ofNat];exact Ao7 (by omega)
 have h2:(BitVec.ofInt 64 (b:Int)).toNat=b:=by rw[Aq2,BitVec.toNat_ofNat];exact Ao7 (by omega)
 show IntKind.i64.wrap ((BitVec.ofInt 64 (a:Int)|||BitVec.ofInt 64 (b:Int)).toNat:Int)=_;rw[BitVec.toNat_or,h1,h2,An9];omega
theorem Qz(b k:Nat)(h:b*2^k<9223372036854775808):wrap64 ((b:Int)*2^k)=((b*2^k:Nat):Int):=by
 have e:((b*2^k:Nat):Int)=(b:Int)*2^k:=by simp
 rw[←e];generalize b*2^k=y at*;unfold wrap64;omega
namespace Hm
theorem Vv(a b k:Nat)(h:a<2^k):a|||b*2^k=a+b*2^k:=by
 rw[Aqh b,Nat.or_comm,←Nat.two_pow_add_eq_or_of_lt h,Nat.add_comm]
theorem Ag7(l:Arc)(k:Nat)(h:k<l.length):Fe (l.take (k+1))=Fe (l.take k)+l[k].toNat*2^(8*k):=by
 rw[List.take_add_one,Su,Am5 h];have e:(l.take k).length=k:=by simp;omega
 have e2:(256:Nat)^k=2^(8*k):=by rw[Nat.pow_mul]
 simp only[Option.toList,Fe,e,e2,Nat.mul_zero,Ap3];rw[Aqh]
end Hm
theorem Kt(p:Nat)(st:Hm.Rd)(k:Nat)(w:World)(H:Ax w p st)(M:Bj st≤4611686018427387904)(hk:k≤4):
  Calls prog 65 #[.pointer (some ⟨p,0,none⟩),.int .i64 k] w fun e w'=>e= .returned (.int .i64 ((B5 st k).1:Nat))∧Ax w' p (B5 st k).2∧Aa (fun j=>j=p) w w':=by
 have ht:=Lg p st k w H M (by omega);have G:=L2 st k;unfold B5;obtain⟨T,J⟩: ∃T,T=(Bb st k).1:=⟨_,rfl⟩;rw[←J]at ht G⊢;have O:=H.lt;obtain⟨S,z⟩: ∃S,S=(⟨T.toArray⟩:ByteArray):=⟨_,rfl⟩;have F:S.size=T.length:=by rw[z];show T.toArray.size=_;simp
 have E:S.data.toList=T:=by rw[z]
 rw[←z]at ht;have g:=fun W=>Lib.run_convert_string_bytes (P:=prog) W 9 79 5 S underlying9 underlying79 underlying5;rw[F]at g;clear J z H
 go_enter func65,ntmps65
 go_wp2_with fail;refine ht.mono ?_;rintro e w1 ⟨rfl,y,v⟩;have l:=g w1;obtain⟨cp,t⟩: ∃c,c=grownCap w1 T.length 0 5:=⟨_,rfl⟩;rw[←t]at l;have I:Hid (∀j,(h:j<T.length)→(Lib.bytesWorld w1 5 S).cell? ⟨w1.heap.size,j,none⟩=some (.int .u8 (T[j].toNat:Nat))):=fun j h=>by
  rw[Lib.bytesWorld_cell w1 5 S j (by omega),E,Am4,Am5 h];rfl
 have m:Ara w1 (Lib.bytesWorld w1 5 S):=
  ⟨rfl,rfl,rfl,by rw[Lib.bytesWorld_size];omega,fun k hk _=>Lib.bytesWorld_at_old w1 _ S k hk⟩
 have A:Hid (Ax (Lib.bytesWorld w1 5 S) p (Bb st k).2∧Aa (fun j=>j=p) w (Lib.bytesWorld w1 5 S)):=
  ⟨y.kept m id,v.trans m (fun _ _ h=>h.elim)⟩
 obtain⟨W,K⟩: ∃W,W=Lib.bytesWorld w1 5 S:=⟨_,rfl⟩;rw[←K]at l I A;clear g t K y v m ht;go_wp2_with fail;try rw[l]
 go_wp2_with fail
 go_loopw[5,13] (fun vn vi wr=> ∃j:Nat,j≤T.length∧vi= .int .i64 j∧vn= .int .i64 (Fe (T.take j):Nat)∧wr=W) (fun _ vi _=>T.length-(intOf vi).toNat)
 case atStart=>exact⟨0,by omega,rfl,rfl,rfl⟩
 case round=>
  obtain⟨j,N,rfl,rfl,rfl⟩:=hrel
  by_cases x:j<T.length
  ·have L:=I.o j x;have hb:=T[j].toNat_lt;have d:=Ab8 (T.take j);have u:(T.take j).length=j:=by simp;omega
   rw[u,show(256:Nat)^j=2^(8*j)from by rw[Nat.pow_mul]]at d;have D:Hid (Fe (T.take (j+1))=Fe (T.take j)+T[j].toNat*2^(8*j)):=Ag7 T j x;obtain⟨b,s⟩: ∃b,b=T[j].toNat:=⟨_,rfl⟩;obtain⟨a,r⟩: ∃a,a=Fe (T.take j):=⟨_,rfl⟩;rw[←s]at L hb D;rw[←r]at d D⊢;have q:(2:Nat)^(8*j)≤16777216:=Ao9 (n:=2) (i:=8*j) (j:=24) (by omega) (by omega);have f:b*2^(8*j)≤255*16777216:=Aoj (by omega) q;have C:Hid (wrap64 ((b:Int)*2^(8*j))=((b*2^(8*j):Nat):Int)):=Qz b (8*j) (Aov f (by decide));have B:Hid (bits .or .i64 (a:Int) ((b*2^(8*j):Nat):Int)=((a+b*2^(8*j):Nat):Int)):=by
    show _=_;rw[Qy _ _ (Aom d (Ant q (by decide))) (Aov f (by decide)),Vv _ _ _ d]
   clear q f d;clear r s u;go_wp2_with fail;exact⟨⟨j+1,by omega,by go_num,by rw[C.o,B.o,D.o],trivial⟩,by simp[intOf];omega⟩
  ·obtain rfl:j=T.length:=by omega
   go_wp2_with fail;go_ret;rw[Aof];exact⟨rfl,A.o.1,A.o.2⟩
namespace Hm
def Gg(f:Nat→Bool)(a:Nat):Nat→Nat
 |0=>0
 |k+1=>Gg f a k+(f (a+k)).toNat*2^k
theorem Q0(f:Nat→Bool)(a:Nat): ∀k,Gg f a k<2^k
 |0=>by simp[Gg]
 |k+1=>by
  have h1:=Q0 f a k;have h2:(f (a+k)).toNat*2^k≤1*2^k:=Aoj (Sk _) (Ane _);rw[Gg,Aoz];omega
end Hm
theorem Ag8(y:Nat)(a:y<256):Go.bits .and .u8 (y:Int) 1=((y%2:Nat):Int):=by
 have h1:(BitVec.ofInt 8 (y:Int)).toNat=y:=by rw[Aq2,BitVec.toNat_ofNat];exact Ao7 (by omega)
 show IntKind.u8.wrap ((BitVec.ofInt 8 (y:Int)&&&BitVec.ofInt 8 1).toNat:Int)=_;rw[BitVec.toNat_and,h1];have h2:(BitVec.ofInt 8 1).toNat=1:=by decide
 rw[h2,Nat.and_one_is_mod];have:y%2<2:=Nat.mod_lt _ (by omega);simp[IntKind.wrap,IntKind.signed,IntKind.bits];omega
theorem Uc(pb o p:Nat)(s:ByteArray)(w:World)(h:w.cell? ⟨pb,o,none⟩=some (.string s))(n:p<8*s.size)(hs:s.size≤100000000):
  Calls prog 123 #[.pointer (some ⟨pb,o,none⟩),.int .i64 p] w fun e w'=>e= .returned (.int .i64 ((Am s.data.toList p).toNat:Nat))∧w'=w:=by
 obtain⟨q,k⟩: ∃q,q=p/8:=⟨_,rfl⟩;obtain⟨r,l⟩: ∃r,r=p%8:=⟨_,rfl⟩;have zq:(p:Int)/8=(q:Int):=by omega
 have zr:(p:Int)%8=(r:Int):=by omega
 have g:q<s.size:=by omega
 have m:r<8:=by omega
 have j:s.data.toList.getD q 0=s[q]:=by
  rw[Am4,Am5 (by simpa using g)];rfl
 have i:Hid ((Am s.data.toList p).toNat=s[q].toNat/2^r%2):=by
  show _=_;unfold Am;rw[←k,←l,j];rcases Aqc (s[q].toNat/2^r)with h|h<;>rw[h]<;>rfl
 have d:=s[q].toNat_lt;obtain⟨b,hb⟩: ∃b,b=s[q].toNat:=⟨_,rfl⟩;rw[←hb]at i d;have f:b/2^r<256:=Aov (Apt _ _) d;have a:=Ag8 (b/2^r) f;have c:Hid _:=a;clear k l j a
 go_enter func123,ntmps123
 go_wp2;go_ret;refine⟨?_,rfl⟩;show Ending.returned (.int .i64 (wrap64 (Go.bits .and .u8 ((s[q].toNat:Int)/2^r) 1)))=_;have e1:(s[q].toNat:Int)/2^r=((b/2^r:Nat):Int):=by rw[hb];simp
 have e2:wrap64 ((b/2^r%2:Nat):Int)=((b/2^r%2:Nat):Int):=by unfold wrap64;omega
 rw[e1,c.o,i.o,e2]
theorem Sv(pb o a k:Nat)(s:ByteArray)(w:World)(h:w.cell? ⟨pb,o,none⟩=some (.string s))(v:a+k≤8*s.size)(hs:s.size≤100000000)(hk:k≤40):
  Calls prog 128 #[.pointer (some ⟨pb,o,none⟩),.int .i64 a,.int .i64 k] w fun e w'=>e= .returned (.int .i64 (Gg (Am s.data.toList) a k:Nat))∧w'=w:=by
 have y:Hid (∀p,p<8*s.size→Calls prog 123 #[.pointer (some ⟨pb,o,none⟩),.int .i64 (p:Nat)] w fun e w'=>e= .returned (.int .i64 ((Am s.data.toList p).toNat:Nat))∧w'=w):=fun p v=>Uc pb o p s w h v hs;clear h
 go_enter func128,ntmps128
 go_wp2
 go_loopw[7,10] (fun vn vi wr=> ∃j:Nat,j≤k∧vi= .int .i64 j∧vn= .int .i64 (Gg (Am s.data.toList) a j:Nat)∧wr=w) (fun _ vi _=>k-(intOf vi).toNat)
 case atStart=>exact⟨0,by omega,rfl,rfl,rfl⟩
 case round=>
  obtain⟨j,A,rfl,rfl,rfl⟩:=hrel
  by_cases z:j<k
  ·have d:=y.o (a+j) (by omega);have c:=Q0 (Am s.data.toList) a j;have l:(2:Nat)^j≤1099511627776:=Ao9 (n:=2) (i:=j) (j:=40) (by omega) (by omega);have f:=Sk (Am s.data.toList (a+j));have u:Hid (Gg (Am s.data.toList) a (j+1)=Gg (Am s.data.toList) a j+(Am s.data.toList (a+j)).toNat*2^j):=rfl;obtain⟨b,m⟩: ∃b,b=(Am s.data.toList (a+j)).toNat:=⟨_,rfl⟩;obtain⟨x,q⟩: ∃x,x=Gg (Am s.data.toList) a j:=⟨_,rfl⟩;rw[←m]at d f u;rw[←q]at c u⊢;have g:b*2^j≤1*1099511627776:=Aoj f l;have t:Hid (wrap64 ((b:Int)*2^j)=((b*2^j:Nat):Int)):=Qz b j (Aov g (by decide));have r:Hid (Go.bits .or .i64 (x:Int) ((b*2^j:Nat):Int)=((x+b*2^j:Nat):Int)):=by
    show _=_;rw[Qy _ _ (Aom c (Ant l (by decide))) (Aov g (by decide)),Vv _ _ _ c]
   clear m q g l c f;go_wp2_with fail;refine d.mono ?_;rintro e w1 ⟨rfl,rfl⟩;go_wp2_with fail;exact⟨⟨j+1,by omega,by go_num,by rw[t.o,r.o,u.o],trivial⟩,by simp[intOf];omega⟩
  ·obtain rfl:j=k:=by omega
   go_wp2_with fail;go_ret;exact⟨rfl,rfl⟩
end Go.Proofs.YtegnkfdbmmndaaaGreat
