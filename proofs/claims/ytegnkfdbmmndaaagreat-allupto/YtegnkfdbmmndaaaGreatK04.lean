import Derived.Test.YtegnkfdbmmndaaaGreatK03

set_option maxHeartbeats 8000000
set_option maxRecDepth 100000
namespace Go.Proofs.YtegnkfdbmmndaaaGreat
open Hm Go.Proofs.Tryz
variable{l:Aeg}{k p:Nat}{w:World}
section
open Go.RowKit
namespace Hm
abbrev Rd:=Option Aeg
def Be:Rd->Nat->Aeg×Rd
 |none,_=>([],none)
 |some l,k=>if k<=l.length then(l.take k,some (l.drop k))else([],none)
theorem Gx(h:k<=l.length):Be (some l) k=(l.take k,some (l.drop k)):=if_pos h
theorem Md(h: ¬k<=l.length):Be (some l) k=([],none):=if_neg h
def Dk(st:Rd)(h:Bool):Rd:=if h=true then st else none
def Dq:Aeg->Nat
 |[]=>0
 |b::r=>b.toNat+256*Dq r
def B7(st:Rd)(k:Nat):Nat×Rd:=(Dq (Be st k).1,(Be st k).2)
theorem Nx(l:Aeg):Dq l<256^l.length:=by
 induction l with
 |nil=>simp[Dq]
 |cons b r ih=>
  have h:=b.toNat_lt;rw[Dq,Aau,Abl];omega
theorem U4(l r:Aeg):Dq (l++r)=Dq l+256^l.length*Dq r:=by
 induction l with
 |nil=>simp[Dq]
 |cons b t ih=>
  rw[Adf,Dq,ih,Dq,Aau,Abl,Nat.mul_add,<-Adt,Ade 256 (256^t.length)];omega
theorem Nf(st:Rd)(k:Nat):(Be st k).1.length<=k:=by
 cases st with
 |none=>simp[Be]
 |some l=>
  by_cases h:k<=l.length
  ·rw[Gx h];simp;omega
  ·rw[Md h];simp
theorem Im(st:Rd)(k:Nat):(B7 st k).1<256^k:=
 Aa9 (Nx _) (Abk (by omega) (Nf st k))
def Bt(st:Rd):Nat:=(st.getD []).length
theorem Eo(st:Rd)(k:Nat):Bt (Be st k).2<=Bt st:=by
 cases st with
 |none=>simp[Be,Bt]
 |some l=>
  by_cases h:k<=l.length
  ·rw[Gx h];simp[Bt]
  ·rw[Md h];simp[Bt]
theorem Jl(st:Rd)(h:Bool):Bt (Dk st h)<=Bt st:=by
 unfold Dk;split
 ·exact zK _
 ·simp[Bt]
end Hm
def A9(w:World)(p:Nat)(st:Rd):Prop:=w.heap[p]?=some (.cells #[.string ⟨(st.getD []).toArray⟩,.bool st.isNone] 132 (0,0))
theorem A9.rest{st:Rd}(h:A9 w p st):w.cell? ⟨p,0,none⟩=some (.string ⟨(st.getD []).toArray⟩):=zP _ _ 0 _ _ _ h
theorem A9.bad{st:Rd}(h:A9 w p st):w.cell? ⟨p,1,none⟩=some (.bool st.isNone):=zP _ _ 1 _ _ _ h
theorem A9.free{st:Rd}(h:A9 w p st)(i:Nat):w.frozen? ⟨p,i,none⟩=false:=zR _ _ i _ _ h
theorem A9.lt{st:Rd}(h:A9 w p st):p<w.heap.size:=Aac h
theorem A9.kept{S:Nat->Prop}{w':World}{st:Rd}(h:A9 w p st)(hk:Aa S w w')(hn: ¬S p):A9 w' p st:=hk.row h hn
theorem Jd(p:Nat)(st:Rd)(h:Bool)(w:World)(a:A9 w p st):
  Calls prog 63 #[.pointer (some ⟨p,0,none⟩),.bool h] w fun e w'=>e= .returned (.tuple #[])/\A9 w' p (Dk st h)/\Aa (fun j=>j=p) w w':=by
 have c:=a.rest;have d:=a.bad;have f:=a.free 0;have f1:=a.free 1;cases h
 ·have b:Hid (A9 ((w.setCell (J p 0) (.string ⟨#[]⟩)).setCell (J p 1) (.bool true)) p none):=by
   have h2:=zI _ p 1 _ _ (.bool true) (zI w p 0 _ _ (.string ⟨#[]⟩) a);show A9 _ _ _;unfold A9;rw[h2];rfl
  clear a
  go_enter func63,ntmps63
  go_wp2
  go_end0
  exact⟨rfl,b.o,((Aa.refl (fun j=>j=p) w).setCell (p:=(J p 0)) (.inr rfl) _).setCell (p:=(J p 1)) (.inr rfl) _⟩
 ·go_enter func63,ntmps63
  go_wp2
  go_end0
  exact⟨rfl,a,Aa.refl _ _⟩
theorem extract_toArray(l:Aeg)(a b:Nat):(⟨l.toArray⟩:ByteArray).extract a b=⟨((l.drop a).take (b-a)).toArray⟩:=by
 apply Acj;apply Abr;rw[Acu,Ac1,Ab5]
theorem Mr(p:Nat)(st:Rd)(k:Nat)(w:World)(g:A9 w p st)(y:Bt st<=4611686018427387904)(_hk:k<=4611686018427387904):
  Calls prog 64 #[.pointer (some ⟨p,0,none⟩),.int .i64 k] w fun e w'=>e= .returned (.string ⟨(Be st k).1.toArray⟩)/\A9 w' p (Be st k).2/\Aa (fun j=>j=p) w w':=by
 cases st with
 |none=>
  have i:=g.rest;have u:(⟨((none:Rd).getD []).toArray⟩:ByteArray).size=0:=rfl;obtain⟨S,f⟩:=gx (⟨((none:Rd).getD []).toArray⟩:ByteArray);rw[<-f]at i u;have hn:=fun(h:Bool)=>Jd p none h w g;have d: ∀h,Dk none h=none:=fun h=>by unfold Dk;split<;>rfl
  simp only[d]at hn;have n:Hid _:=hn;clear g f d hn
  go_enter func64,ntmps64
  go_wp2_with fail;refine(n.o _).mono ?_;rintro e t ⟨rfl,a,b⟩;have q:=a.bad;have b1:(none:Rd).isNone=true:=rfl;rw[b1]at q;have m:=hZ (aI a b);clear a b n i;go_wp2_with fail;go_ret;exact⟨rfl,m.o.1,m.o.2⟩
 |some l=>
  have i:=g.rest;have B:l.length<=4611686018427387904:=y;obtain⟨S,f⟩:=gx (⟨((some l:Rd).getD []).toArray⟩:ByteArray);have u:S.size=l.length:=by rw[f];show l.toArray.size=_;simp
  rw[<-f]at i;have c:S=(⟨l.toArray⟩:ByteArray):=f
  by_cases s:k<=l.length
  ·have r:decide ((k:Int)<=(l.length:Int))=true:=zJ (by omega);have hn:=Jd p (some l) true w g;have d:Dk (some l) true=some l:=rfl;rw[d]at hn;have v:=hZ (Gx s);rw[v.o];have x:Hid (S.extract 0 k=⟨(l.take k).toArray⟩/\S.extract k S.size=⟨(l.drop k).toArray⟩):=by
    refine⟨by rw[c,extract_toArray];simp,?_⟩;rw[u,c,extract_toArray,Aap (by simp)]
   have HS:=hZ c;have A:(k:Int)<=(l.length:Int):=by omega
   clear g f c d y
   go_enter func64,ntmps64
   go_wp2_with fail;refine hn.mono ?_;rintro e t ⟨rfl,a,b⟩;have q:=a.bad;have z:=a.rest;have f2:=a.free 0;have b1:(some l:Rd).isNone=false:=rfl;have b2:(⟨((some l:Rd).getD []).toArray⟩:ByteArray)=S:=HS.o.symm;rw[b1]at q;rw[b2]at z;have n:Hid (A9 (t.setCell (J p 0) (.string ⟨(l.drop k).toArray⟩)) p (some (l.drop k))/\Aa (fun j=>j=p) w (t.setCell (J p 0) (.string ⟨(l.drop k).toArray⟩))):=by
    have h2:=zI t p 0 _ _ (.string ⟨(l.drop k).toArray⟩) a;refine⟨?_,b.setCell (.inr rfl) _⟩;unfold A9;rw[h2];rfl
   clear a b hn i b1 b2;go_wp2_with fail;go_ret;rw[u]at x;rw[x.o.1,x.o.2];exact⟨rfl,n.o.1,n.o.2⟩
  ·have r:decide ((k:Int)<=(l.length:Int))=false:=zM (by omega);have hn:=Jd p (some l) false w g;have d:Dk (some l) false=none:=rfl;rw[d]at hn;have v:=hZ (Md s);rw[v.o];clear g f c d y
   go_enter func64,ntmps64
   go_wp2_with fail;refine hn.mono ?_;rintro e t ⟨rfl,a,b⟩;have q:=a.bad;have b1:(none:Rd).isNone=true:=rfl;rw[b1]at q;have m:=hZ (aI a b);clear a b hn i;go_wp2_with fail;go_ret;exact⟨rfl,m.o.1,m.o.2⟩
theorem S8(a b:Nat)(c:a<9223372036854775808)(hb:b<9223372036854775808):bits .or .i64 (a:Int) (b:Int)=((a|||b:Nat):Int):=by
 have d:a|||b<2^63:=Nat.or_lt_two_pow (by omega) (by omega);have h1:(BitVec.ofInt 64 (a:Int)).toNat=a:=by rw[Ad6,BitVec.toNat_ofNat];exact Aby (by omega)
 have h2:(BitVec.ofInt 64 (b:Int)).toNat=b:=by rw[Ad6,BitVec.toNat_ofNat];exact Aby (by omega)
 show IntKind.i64.wrap ((BitVec.ofInt 64 (a:Int)|||BitVec.ofInt 64 (b:Int)).toNat:Int)=_;rw[BitVec.toNat_or,h1,h2,Aar];omega
theorem S9(b k:Nat)(h:b*2^k<9223372036854775808):wrap64 ((b:Int)*2^k)=((b*2^k:Nat):Int):=by
 have e:((b*2^k:Nat):Int)=(b:Int)*2^k:=by simp
 rw[<-e];generalize b*2^k=y at*;unfold wrap64;omega
namespace Hm
theorem Y4(a b k:Nat)(h:a<2^k):a|||b*2^k=a+b*2^k:=by
 rw[Ade b,Nat.or_comm,<-Nat.two_pow_add_eq_or_of_lt h,Nat.add_comm]
theorem pX(l:Aeg)(k:Nat)(h:k<l.length):Dq (l.take (k+1))=Dq (l.take k)+l[k].toNat*2^(8*k):=by
 rw[List.take_add_one,U4,zH h];have e:(l.take k).length=k:=by simp;omega
 have a:(256:Nat)^k=2^(8*k):=by rw[Nat.pow_mul]
 simp only[Option.toList,Dq,e,a,Nat.mul_zero,Ac2];rw[Ade]
end Hm
theorem Lu(p:Nat)(st:Rd)(k:Nat)(w:World)(K:A9 w p st)(Q:Bt st<=4611686018427387904)(hk:k<=4):
  Calls prog 65 #[.pointer (some ⟨p,0,none⟩),.int .i64 k] w fun e w'=>e= .returned (.int .i64 ((B7 st k).1:Nat))/\A9 w' p (B7 st k).2/\Aa (fun j=>j=p) w w':=by
 have ht:=Mr p st k w K Q (by omega);have H:=Nf st k;unfold B7;obtain⟨T,M⟩:=gx ((Be st k).1);rw[<-M]at ht H|-;have X:=K.lt;obtain⟨S,A⟩:=gx (⟨T.toArray⟩:ByteArray);have G:S.size=T.length:=by rw[A];show T.toArray.size=_;simp
 have F:S.data.toList=T:=by rw[A]
 rw[<-A]at ht;have l:=fun W=>Lib.run_convert_string_bytes (P:=prog) W 9 79 5 S underlying9 underlying79 underlying5;rw[G]at l;clear M A K
 go_enter func65,ntmps65
 go_wp2_with fail;refine ht.mono ?_;rintro e f ⟨rfl,z,x⟩;have m:=l f;obtain⟨U,u⟩: ∃c,c=grownCap f T.length 0 5:=⟨_,rfl⟩;rw[<-u]at m;have L:Hid (∀j,(h:j<T.length)->(Lib.bytesWorld f 5 S).cell? (J f.heap.size j)=some (.int .u8 (T[j].toNat:Nat))):=fun j h=>by
  rw[Lib.bytesWorld_cell f 5 S j (by omega),F,zG,zH h];rfl
 have q:Aee f (Lib.bytesWorld f 5 S):=
  ⟨rfl,rfl,rfl,by rw[Lib.bytesWorld_size];omega,fun k hk _=>Lib.bytesWorld_at_old f _ S k hk⟩
 have B:Hid (A9 (Lib.bytesWorld f 5 S) p (Be st k).2/\Aa (fun j=>j=p) w (Lib.bytesWorld f 5 S)):=
  ⟨z.kept q id,x.trans q (fun _ _ h=>h.elim)⟩
 obtain⟨W,N⟩:=gx (Lib.bytesWorld f 5 S);rw[<-N]at m L B;clear l u N z x q ht;go_wp2_with fail;try rw[m]
 go_wp2_with fail
 go_loopw[5,13] (fun R vi wr=> ∃j:Nat,j<=T.length/\vi=I j/\R=I (Dq (T.take j):Nat)/\wr=W) (fun _ vi _=>T.length-(intOf vi).toNat)
 case atStart=>exact⟨0,by omega,rfl,rfl,rfl⟩
 case round=>
  obtain⟨j,V,rfl,rfl,rfl⟩:=hrel
  by_cases y:j<T.length
  ·have O:=L.o j y;have hb:=T[j].toNat_lt;have d:=Nx (T.take j);have v:(T.take j).length=j:=by simp;omega
   rw[v,show(256:Nat)^j=2^(8*j)from by rw[Nat.pow_mul]]at d;have E:=hZ (pX T j y);obtain⟨b,t⟩:=gx (T[j].toNat);obtain⟨a,s⟩:=gx (Dq (T.take j));rw[<-t]at O hb E;rw[<-s]at d E|-;have r:(2:Nat)^(8*j)<=16777216:=Abk (n:=2) (i:=8*j) (j:=24) (by omega) (by omega);have g:b*2^(8*j)<=255*16777216:=Aa4 (by omega) r;have D:Hid (wrap64 ((b:Int)*2^(8*j))=((b*2^(8*j):Nat):Int)):=S9 b (8*j) (Abm g (by decide));have C:Hid (bits .or .i64 (a:Int) ((b*2^(8*j):Nat):Int)=((a+b*2^(8*j):Nat):Int)):=by
    show _=_;rw[S8 _ _ (Aa9 d (Aaf r (by decide))) (Abm g (by decide)),Y4 _ _ _ d]
   clear r g d;clear s t v;go_wp2_with fail;exact⟨⟨j+1,by omega,by go_num,by rw[D.o,C.o,E.o],Ad2⟩,by simp[intOf];omega⟩
  ·obtain rfl:j=T.length:=by omega
   go_wp2_with fail;go_ret;rw[Aaw];exact⟨rfl,B.o.1,B.o.2⟩
namespace Hm
def F0(f:Nat->Bool)(a:Nat):Nat->Nat
 |0=>0
 |k+1=>F0 f a k+(f (a+k)).toNat*2^k
theorem Ta(f:Nat->Bool)(a:Nat): ∀k,F0 f a k<2^k
 |0=>by simp[F0]
 |k+1=>by
  have h1:=Ta f a k;have h2:(f (a+k)).toNat*2^k<=1*2^k:=Aa4 (La _) (zK _);rw[F0,Abl];omega
end Hm
theorem pY(y:Nat)(a:y<256):Go.bits .and .u8 (y:Int) 1=((y%2:Nat):Int):=by
 have h1:(BitVec.ofInt 8 (y:Int)).toNat=y:=by rw[Ad6,BitVec.toNat_ofNat];exact Aby (by omega)
 show IntKind.u8.wrap ((BitVec.ofInt 8 (y:Int)&&&BitVec.ofInt 8 1).toNat:Int)=_;rw[BitVec.toNat_and,h1];have h2:(BitVec.ofInt 8 1).toNat=1:=by decide
 rw[h2,Nat.and_one_is_mod];have:y%2<2:=Nat.mod_lt _ (by omega);simp[IntKind.wrap,IntKind.signed,IntKind.bits];omega
theorem Wu(pb o p:Nat)(s:ByteArray)(w:World)(h:w.cell? ⟨pb,o,none⟩=some (.string s))(u:p<8*s.size)(hs:s.size<=100000000):
  Calls prog 123 #[.pointer (some ⟨pb,o,none⟩),.int .i64 p] w fun e w'=>e= .returned (.int .i64 ((Al s.data.toList p).toNat:Nat))/\w'=w:=by
 obtain⟨q,k⟩:=gx (p/8);obtain⟨r,l⟩:=gx (p%8);have v:(p:Int)/8=(q:Int):=by omega
 have x:(p:Int)%8=(r:Int):=by omega
 have g:q<s.size:=by omega
 have t:r<8:=by omega
 have j:s.data.toList.getD q 0=s[q]:=by
  rw[zG,zH (by simpa using g)];rfl
 have i:Hid ((Al s.data.toList p).toNat=s[q].toNat/2^r%2):=by
  show _=_;unfold Al;rw[<-k,<-l,j];rcases Ac0 (s[q].toNat/2^r)with h|h<;>rw[h]<;>rfl
 have d:=s[q].toNat_lt;obtain⟨b,hb⟩:=gx (s[q].toNat);rw[<-hb]at i d;have f:b/2^r<256:=Abm (Acd _ _) d;have a:=pY (b/2^r) f;have c:Hid _:=a;clear k l j a
 go_enter func123,ntmps123
 go_wp2;go_ret;refine⟨?_,rfl⟩;show Ending.returned (I (wrap64 (Go.bits .and .u8 ((s[q].toNat:Int)/2^r) 1)))=_;have m:(s[q].toNat:Int)/2^r=((b/2^r:Nat):Int):=by rw[hb];simp
 have n:wrap64 ((b/2^r%2:Nat):Int)=((b/2^r%2:Nat):Int):=by unfold wrap64;omega
 rw[m,c.o,i.o,n]
theorem U5(pb o a k:Nat)(s:ByteArray)(w:World)(h:w.cell? ⟨pb,o,none⟩=some (.string s))(v:a+k<=8*s.size)(hs:s.size<=100000000)(hk:k<=40):
  Calls prog 128 #[.pointer (some ⟨pb,o,none⟩),.int .i64 a,.int .i64 k] w fun e w'=>e= .returned (.int .i64 (F0 (Al s.data.toList) a k:Nat))/\w'=w:=by
 have y:Hid (∀p,p<8*s.size->Calls prog 123 #[.pointer (some (J pb o)),I p] w fun e w'=>e= .returned (I ((Al s.data.toList p).toNat:Nat))/\w'=w):=fun p v=>Wu pb o p s w h v hs;clear h
 go_enter func128,ntmps128
 go_wp2
 go_loopw[7,10] (fun A vi wr=> ∃j:Nat,j<=k/\vi=I j/\A=I (F0 (Al s.data.toList) a j:Nat)/\wr=w) (fun _ vi _=>k-(intOf vi).toNat)
 case atStart=>exact⟨0,by omega,rfl,rfl,rfl⟩
 case round=>
  obtain⟨j,B,rfl,rfl,rfl⟩:=hrel
  by_cases z:j<k
  ·have d:=y.o (a+j) (by omega);have c:=Ta (Al s.data.toList) a j;have l:(2:Nat)^j<=1099511627776:=Abk (n:=2) (i:=j) (j:=40) (by omega) (by omega);have f:=La (Al s.data.toList (a+j));have u:Hid (F0 (Al s.data.toList) a (j+1)=F0 (Al s.data.toList) a j+(Al s.data.toList (a+j)).toNat*2^j):=rfl;obtain⟨b,m⟩:=gx ((Al s.data.toList (a+j)).toNat);obtain⟨x,q⟩:=gx (F0 (Al s.data.toList) a j);rw[<-m]at d f u;rw[<-q]at c u|-;have g:=Aa4 f l;have t:Hid (wrap64 ((b:Int)*2^j)=((b*2^j:Nat):Int)):=S9 b j (Abm g (by decide));have r:Hid (Go.bits .or .i64 (x:Int) ((b*2^j:Nat):Int)=((x+b*2^j:Nat):Int)):=by
    show _=_;rw[S8 _ _ (Aa9 c (Aaf l (by decide))) (Abm g (by decide)),Y4 _ _ _ c]
   clear m q g l c f;go_wp2_with fail;refine d.mono ?_;rintro e C ⟨rfl,rfl⟩;go_wp2_with fail;exact⟨⟨j+1,by omega,by go_num,by rw[t.o,r.o,u.o],Ad2⟩,by simp[intOf];omega⟩
  ·obtain rfl:j=k:=by omega
   go_wp2_with fail;go_ret;exact⟨rfl,rfl⟩
end
end Go.Proofs.YtegnkfdbmmndaaaGreat
