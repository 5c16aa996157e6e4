import Derived.Test.YtegnkfdbmmndaaaGreatJ00
import Derived.Test.YtegnkfdbmmndaaaGreatJ02

namespace Go.Proofs.YtegnkfdbmmndaaaGreat
open Hm
open Go.Sort
namespace Hm
structure Ord(cf:UInt8→UInt8→Int)(key:UInt8→Nat)(Rl:UInt8→UInt8→Prop):Prop where
 lt: ∀x y,Rl x y→(cf y x<0↔key y<key x)
 ne: ∀x y,Rl x y→key x≠key y
def Srt(key:UInt8→Nat)(d:Array UInt8)(a b:Nat):Prop:= ∀i j,a≤i→i<j→j<b→key d[i]!<key d[j]!
def Mm(d:Array UInt8)(a b:Nat)(x:UInt8):Prop:= ∃k,a≤k∧k<b∧d[k]! =x
def LR(Rl:UInt8→UInt8→Prop)(d:Array UInt8)(a m b:Nat):Prop:= ∀i j,a≤i→i<m→m≤j→j<b→Rl d[i]! d[j]!
structure De(d d':Array UInt8)(a b:Nat):Prop where
 size:d'.size=d.size
 out: ∀k,(k<a∨b≤k)→d'[k]! =d[k]!
 mem: ∀x,Mm d' a b x↔Mm d a b x
structure Swr(d d':Array UInt8)(a b n:Nat):Prop where
 size:d'.size=d.size
 out: ∀k,(k<a∨(a+n≤k∧k<b)∨b+n≤k)→d'[k]! =d[k]!
 lo: ∀k,a≤k→k<a+n→d'[k]! =d[k-a+b]!
 hi: ∀k,b≤k→k<b+n→d'[k]! =d[k-b+a]!
structure Rot(d d':Array UInt8)(a m b:Nat):Prop where
 size:d'.size=d.size
 out: ∀k,(k<a∨b≤k)→d'[k]! =d[k]!
 lo: ∀k,a≤k→k<a+(b-m)→d'[k]! =d[k+(m-a)]!
 hi: ∀k,a+(b-m)≤k→k<b→d'[k]! =d[k-(b-m)]!
theorem De.refl(d:Array UInt8)(a b:Nat):De d d a b:=⟨rfl,fun _ _=>rfl,fun _=>Iff.rfl⟩
theorem De.trans{d e f:Array UInt8}{a b:Nat}(h:De d e a b)(k:De e f a b):De d f a b:=
 ⟨k.size.trans h.size,fun i hi=>(k.out i hi).trans (h.out i hi),fun x=>(k.mem x).trans (h.mem x)⟩
theorem De.wider{d e:Array UInt8}{a b a' b':Nat}(h:De d e a b)(ha:a'≤a)(hb:b≤b'):De d e a' b':=by
 refine⟨h.size,fun k hk=>h.out k (by omega),fun x=>⟨fun⟨k,h1,h2,h3⟩=>?_,fun⟨k,h1,h2,h3⟩=>?_⟩⟩
 ·by_cases hk:a≤k∧k<b
  ·obtain⟨q,q1,q2,q3⟩:=(h.mem x).1 ⟨k,hk.1,hk.2,h3⟩;exact⟨q,by omega,by omega,q3⟩
  ·exact⟨k,h1,h2,by rw[←h.out k (by omega)];exact h3⟩
 ·by_cases hk:a≤k∧k<b
  ·obtain⟨q,q1,q2,q3⟩:=(h.mem x).2 ⟨k,hk.1,hk.2,h3⟩;exact⟨q,by omega,by omega,q3⟩
  ·exact⟨k,h1,h2,by rw[h.out k (by omega)];exact h3⟩
theorem Srt.out{key:UInt8→Nat}{d e:Array UInt8}{a b a' b':Nat}(hs:Srt key d a' b')(h:De d e a b)(hab:b'≤a∨b≤a'):Srt key e a' b':=fun i j h1 h2 h3=>by
 rw[h.out i (by omega),h.out j (by omega)];exact hs i j h1 h2 h3
theorem Srt.one(key:UInt8→Nat)(d:Array UInt8)(a b:Nat)(h:b≤a+1):Srt key d a b:=fun i j h1 h2 h3=>by omega
theorem Srt.le{key:UInt8→Nat}{d:Array UInt8}{a b i j:Nat}(hs:Srt key d a b)(h1:a≤i)(h2:i≤j)(h3:j<b):key d[i]!≤key d[j]!:=by
 rcases Am7 i j with h|h
 ·exact Nat.le_of_lt (hs i j h1 h h3)
 ·obtain rfl:i=j:=by omega
  exact Ale _
theorem Swr.zero(d:Array UInt8)(a b:Nat):Swr d d a b 0:=⟨rfl,fun _ _=>rfl,fun k h1 h2=>by omega,fun k h1 h2=>by omega⟩
theorem Swr.step{d e:Array UInt8}{a b n:Nat}(h:Swr d e a b n)(hab:a+n<b)(hs:b+n<d.size):Swr d (swp e (a+n) (b+n)) a b (n+1):=by
 have hsz:=h.size;have hl:(swp e (a+n) (b+n))[a+n]! =d[b+n]!:=by rw[swp_left _ _ _ (by omega) (by omega)];exact h.out _ (by omega)
 have hr:(swp e (a+n) (b+n))[b+n]! =d[a+n]!:=by rw[swp_right _ _ _ (by omega)];exact h.out _ (by omega)
 refine⟨by rw[size_swp];exact hsz,fun k hk=>?_,fun k h1 h2=>?_,fun k h1 h2=>?_⟩
 ·rw[swp_other _ _ _ _ (by omega) (by omega)];exact h.out k (by omega)
 ·by_cases e1:k=a+n
  ·subst e1;rw[hl];congr 1;omega
  ·rw[swp_other _ _ _ _ (by omega) (by omega)];exact h.lo k h1 (by omega)
 ·by_cases e1:k=b+n
  ·subst e1;rw[hr];congr 1;omega
  ·rw[swp_other _ _ _ _ (by omega) (by omega)];exact h.hi k h1 (by omega)
theorem Rot.id_left(d:Array UInt8)(m b:Nat)(h:m≤b):Rot d d m m b:=⟨rfl,fun _ _=>rfl,fun k h1 h2=>by congr 1;omega,fun k h1 h2=>by omega⟩
theorem Rot.id_right(d:Array UInt8)(a m:Nat):Rot d d a m m:=⟨rfl,fun _ _=>rfl,fun k h1 h2=>by omega,fun k h1 h2=>by congr 1;omega⟩
theorem Rot.of_swr{d e:Array UInt8}{m i:Nat}(h:Swr d e (m-i) m i)(hi:i≤m):Rot d e (m-i) m (m+i):=by
 refine⟨h.size,fun k hk=>h.out k (by omega),fun k h1 h2=>?_,fun k h1 h2=>?_⟩
 ·rw[h.lo k h1 (by omega)];congr 1;omega
 ·rw[h.hi k (by omega) (by omega)];congr 1;omega
theorem Rot.by_left{d e f:Array UInt8}{m i j:Nat}(h:Swr d e (m-i) m j)(hij:j<i)(hi:i≤m)(r:Rot e f (m-(i-j)) m (m+j)):Rot d f (m-i) m (m+j):=by
 refine⟨r.size.trans h.size,fun k hk=>?_,fun k h1 h2=>?_,fun k h1 h2=>?_⟩
 ·rw[r.out k (by omega)];exact h.out k (by omega)
 ·rw[r.out k (by omega),h.lo k h1 (by omega)];congr 1;omega
 ·by_cases h3:k<m-(i-j)+j
  ·rw[r.lo k (by omega) (by omega),h.hi _ (by omega) (by omega)];congr 1;omega
  ·rw[r.hi k (by omega) (by omega),h.out _ (by omega)]
theorem Rot.by_right{d e f:Array UInt8}{m i j:Nat}(h:Swr d e (m-i) (m+j-i) i)(hij:i<j)(hi:i≤m)(r:Rot e f (m-i) m (m+(j-i))):Rot d f (m-i) m (m+j):=by
 refine⟨r.size.trans h.size,fun k hk=>?_,fun k h1 h2=>?_,fun k h1 h2=>?_⟩
 ·rw[r.out k (by omega)];exact h.out k (by omega)
 ·by_cases h3:k<m-i+(j-i)
  ·rw[r.lo k (by omega) (by omega),h.out _ (by omega)]
  ·rw[r.hi k (by omega) (by omega),h.lo _ (by omega) (by omega)];congr 1;omega
 ·rw[r.out k (by omega),h.hi k (by omega) (by omega)];congr 1;omega
theorem Rot.same{d e:Array UInt8}{s m t:Nat}(r:Rot d e s m t)(h1:s≤m)(h2:m≤t):De d e s t:=by
 refine⟨r.size,r.out,fun x=>⟨fun⟨k,k1,k2,k3⟩=>?_,fun⟨k,k1,k2,k3⟩=>?_⟩⟩
 ·by_cases hk:k<s+(t-m)
  ·exact⟨k+(m-s),by omega,by omega,by rw[←r.lo k k1 hk];exact k3⟩
  ·exact⟨k-(t-m),by omega,by omega,by rw[←r.hi k (by omega) k2];exact k3⟩
 ·by_cases hk:k<m
  ·exact⟨k+(t-m),by omega,by omega,by rw[r.hi _ (by omega) (by omega),show k+(t-m)-(t-m)=k from by omega];exact k3⟩
  ·exact⟨k-(m-s),by omega,by omega,by rw[r.lo _ (by omega) (by omega),show k-(m-s)+(m-s)=k from by omega];exact k3⟩
structure Ln(key:UInt8→Nat)(Rl:UInt8→UInt8→Prop)(d d1:Array UInt8)(a s mid e b:Nat):Prop where
 same:De d d1 a b
 s1:Srt key d1 a s
 s2:Srt key d1 s mid
 lr1:LR Rl d1 a s mid
 s3:Srt key d1 mid e
 s4:Srt key d1 e b
 lr2:LR Rl d1 mid e b
 cross: ∀i j,a≤i→i<mid→mid≤j→j<b→key d1[i]!<key d1[j]!
theorem Ln.of{key:UInt8→Nat}{Rl:UInt8→UInt8→Prop}{d d1:Array UInt8}{a m b s mid e:Nat}(hs1:Srt key d a m)(hs2:Srt key d m b)(hlr:LR Rl d a m b)
  (ha:a≤s) (hsm:s≤m) (hsd:s≤mid) (he:e+s=mid+m) (heb:e≤b)
  (H1: ∀i j,a≤i→i<s→e≤j→j<b→key d[i]!<key d[j]!) (H2: ∀i j,s≤i→i<m→m≤j→j<e→key d[j]!<key d[i]!) (r:Rot d d1 s m e):Ln key Rl d d1 a s mid e b:=by
 have lo: ∀k,s≤k→k<mid→d1[k]! =d[k+(m-s)]!:=fun k h1 h2=>r.lo k h1 (by omega);have hi: ∀k,mid≤k→k<e→d1[k]! =d[k-(e-m)]!:=fun k h1 h2=>r.hi k (by omega) h2;refine⟨(r.same hsm (by omega)).wider ha heb,fun i j h1 h2 h3=>?_,fun i j h1 h2 h3=>?_,fun i j h1 h2 h3 h4=>?_,fun i j h1 h2 h3=>?_,fun i j h1 h2 h3=>?_,fun i j h1 h2 h3 h4=>?_,fun i j h1 h2 h3 h4=>?_⟩
 ·rw[r.out i (by omega),r.out j (by omega)];exact hs1 i j h1 h2 (by omega)
 ·rw[lo i h1 (by omega),lo j (by omega) h3];exact hs2 _ _ (by omega) (by omega) (by omega)
 ·rw[r.out i (by omega),lo j h3 h4];exact hlr _ _ h1 (by omega) (by omega) (by omega)
 ·rw[hi i h1 (by omega),hi j (by omega) h3];exact hs1 _ _ (by omega) (by omega) (by omega)
 ·rw[r.out i (by omega),r.out j (by omega)];exact hs2 i j (by omega) h2 h3
 ·rw[hi i h1 h2,r.out j (by omega)];exact hlr _ _ (by omega) (by omega) (by omega) h4
 ·by_cases c1:i<s
  ·rw[r.out i (by omega)]
   by_cases c2:j<e
   ·rw[hi j h3 c2];exact hs1 _ _ h1 (by omega) (by omega)
   ·rw[r.out j (by omega)];exact H1 i j h1 c1 (by omega) h4
  ·rw[lo i (by omega) h2]
   by_cases c2:j<e
   ·rw[hi j h3 c2];exact H2 _ _ (by omega) (by omega) (by omega) (by omega)
   ·rw[r.out j (by omega)];exact hs2 _ _ (by omega) (by omega) h4
theorem Ln.done{key:UInt8→Nat}{Rl:UInt8→UInt8→Prop}{d d1 d2 d3:Array UInt8}{a s mid e b:Nat}(h:Ln key Rl d d1 a s mid e b)(hm:a≤mid)(hb:mid≤b)
  (h2:De d1 d2 a mid) (k2:Srt key d2 a mid) (h3:De d2 d3 mid b) (k3:Srt key d3 mid b):De d d3 a b∧Srt key d3 a b:=by
 refine⟨h.same.trans ((h2.wider (Ale _) hb).trans (h3.wider hm (Ale _))),fun i j h4 h5 h6=>?_⟩
 by_cases c1:j<mid
 ·rw[h3.out i (by omega),h3.out j (by omega)];exact k2 i j h4 h5 c1
 by_cases c2:mid≤i
 ·exact k3 i j c2 h5 h6
 ·obtain⟨q,q1,q2,q3⟩:=(h2.mem _).1 ⟨i,h4,by omega,rfl⟩;obtain⟨p,p1,p2,p3⟩:=(h3.mem _).1 ⟨j,by omega,h6,rfl⟩;rw[h3.out i (by omega),←q3,←p3,h2.out p (by omega)];exact h.cross q p q1 q2 p1 p2
theorem Srt.whole{key:UInt8→Nat}{d:Array UInt8}{a s b:Nat}(h1:Srt key d a s)(h2:Srt key d s b)(hs:s≤a∨b≤s):Srt key d a b:=fun i j k1 k2 k3=>by
 rcases hs with h|h
 ·exact h2 i j (by omega) k2 k3
 ·exact h1 i j k1 k2 (by omega)
theorem LR.out{Rl:UInt8→UInt8→Prop}{d e:Array UInt8}{a b a' m' b':Nat}(hs:LR Rl d a' m' b')(h:De d e a b)(hab:b'≤a∨b≤a'):LR Rl e a' m' b':=fun i j h1 h2 h3 h4=>by
 rw[h.out i (by omega),h.out j (by omega)];exact hs i j h1 h2 h3 h4
structure Lo(key:UInt8→Nat)(d:Array UInt8)(p s0 r0 s r:Nat):Prop where
 b1:s0≤s
 b2:s≤r
 b3:r≤r0
 lo: ∀c,s0≤c→c<s→key d[c]!<key d[p-c]!
 hi: ∀c,r≤c→c<r0→key d[p-c]!<key d[c]!
theorem Lo.start{key:UInt8→Nat}{d:Array UInt8}{p s0 r0:Nat}(h:s0≤r0):Lo key d p s0 r0 s0 r0:=⟨Ale _,h,Ale _,fun c h1 h2=>by omega,fun c h1 h2=>by omega⟩
theorem Lo.up{key:UInt8→Nat}{d:Array UInt8}{a m b p s0 r0 s r c:Nat}(h:Lo key d p s0 r0 s r)(hs1:Srt key d a m)(hs2:Srt key d m b)(h0:a≤s0)(h1:r0≤m)(h2:m+r0≤p+1)(h3:p<b+s0)(hc:s≤c)(hr:c<r)
  (hk:key d[c]!<key d[p-c]!):Lo key d p s0 r0 (c+1) r:=by
 refine⟨by have:=h.b1;omega,by omega,h.b3,fun c' h4 h5=>?_,h.hi⟩;have:=h.b3;have:=h.b1;exact Amx (hs1.le (i:=c') (j:=c) (by omega) (by omega) (by omega)) (Amp hk (hs2.le (i:=p-c) (j:=p-c') (by omega) (by omega) (by omega)))
theorem Lo.down{key:UInt8→Nat}{d:Array UInt8}{a m b p s0 r0 s r c:Nat}(h:Lo key d p s0 r0 s r)(hs1:Srt key d a m)(hs2:Srt key d m b)(h0:a≤s0)(h1:r0≤m)(h2:m+r0≤p+1)(h3:p<b+s0)(hc:s≤c)(hr:c<r)
  (hk:key d[p-c]!<key d[c]!):Lo key d p s0 r0 s c:=by
 refine⟨h.b1,hc,by have:=h.b3;omega,h.lo,fun c' h4 h5=>?_⟩;have:=h.b3;have:=h.b1;exact Amx (hs2.le (i:=p-c') (j:=p-c) (by omega) (by omega) (by omega)) (Amp hk (hs1.le (i:=c) (j:=c') (by omega) (by omega) (by omega)))
theorem Lo.found{key:UInt8→Nat}{d:Array UInt8}{a m b mid s0 r0 s:Nat}(h:Lo key d (mid+m-1) s0 r0 s s)(hs1:Srt key d a m)(hs2:Srt key d m b)(h0:a≤s0)(h1:r0≤m)(hmid:mid<b)(hr:r0≤mid)(hs0:s0=a∨s0+b=mid+m)(hr0:r0=m∨r0=mid)(hsb:mid+m≤b+s0):
  (∀i j,a≤i→i<s→mid+m-s≤j→j<b→key d[i]!<key d[j]!)∧(∀i j,s≤i→i<m→m≤j→j<mid+m-s→key d[j]!<key d[i]!):=by
 have hb1:=h.b1;have hb3:=h.b3;refine⟨fun i j h4 h5 h6 h7=>?_,fun i j h4 h5 h6 h7=>?_⟩
 ·have hk:=h.lo (s-1) (by omega) (by omega);exact Amx (hs1.le (i:=i) (j:=s-1) h4 (by omega) (by omega)) (Amp hk (hs2.le (i:=mid+m-1-(s-1)) (j:=j) (by omega) (by omega) h7))
 ·have hk:=h.hi s (Ale _) (by omega);exact Amx (hs2.le (i:=j) (j:=mid+m-1-s) h6 (by omega) (by omega)) (Amp hk (hs1.le (i:=s) (j:=i) (by omega) (by omega) h5))
structure G5(key:UInt8→Nat)(d:Array UInt8)(m b x i j:Nat):Prop where
 b1:m≤i
 b2:i≤j
 b3:j≤b
 lo: ∀c,m≤c→c<i→key d[c]!<x
 hi: ∀c,j≤c→c<b→x<key d[c]!
theorem G5.start{key:UInt8→Nat}{d:Array UInt8}{m b x:Nat}(h:m≤b):G5 key d m b x m b:=⟨Ale _,h,Ale _,fun c h1 h2=>by omega,fun c h1 h2=>by omega⟩
theorem G5.up{key:UInt8→Nat}{d:Array UInt8}{m b x i j c:Nat}(h:G5 key d m b x i j)(hs:Srt key d m b)(hc:i≤c)(hj:c<j)(hk:key d[c]!<x):G5 key d m b x (c+1) j:=
 ⟨by have:=h.b1;omega,by omega,h.b3,fun c' h4 h5=>Amx (hs.le (i:=c') (j:=c) h4 (by omega) (by have:=h.b3;omega)) hk,h.hi⟩
theorem G5.down{key:UInt8→Nat}{d:Array UInt8}{m b x i j c:Nat}(h:G5 key d m b x i j)(hs:Srt key d m b)(hc:i≤c)(hj:c<j)(hk:x<key d[c]!):G5 key d m b x i c:=
 ⟨h.b1,hc,by have:=h.b3;omega,h.lo,fun c' h4 h5=>Amp hk (hs.le (i:=c) (j:=c') (by have:=h.b1;omega) h4 h5)⟩
theorem Afn{key:UInt8→Nat}{d d1:Array UInt8}{a b i:Nat}(h:G5 key d (a+1) b (key d[a]!) i i)(hs:Srt key d (a+1) b)(r:Rot d d1 a (a+1) i):De d d1 a b∧Srt key d1 a b:=by
 have hb1:=h.b1;have hb3:=h.b3;refine⟨(r.same (by omega) hb1).wider (Ale _) hb3,fun p q h1 h2 h3=>?_⟩;have lo: ∀k,a≤k→k+1<i→d1[k]! =d[k+1]!:=fun k h1 h2=>by rw[r.lo k h1 (by omega)];congr 1;omega
 have hi:d1[i-1]! =d[a]!:=by rw[r.hi (i-1) (by omega) (by omega)];congr 1;omega
 by_cases c1:p+1<i
 ·rw[lo p h1 c1]
  by_cases c2:q+1<i
  ·rw[lo q (by omega) c2];exact hs _ _ (by omega) (by omega) (by omega)
  ·by_cases c3:q=i-1
   ·rw[c3,hi];exact h.lo _ (by omega) (by omega)
   ·rw[r.out q (by omega)];exact hs _ _ (by omega) (by omega) h3
 ·by_cases c2:p=i-1
  ·rw[c2,hi,r.out q (by omega)];exact h.hi q (by omega) h3
  ·rw[r.out p (by omega),r.out q (by omega)];exact hs _ _ (by omega) h2 h3
theorem Ts{key:UInt8→Nat}{d d1:Array UInt8}{a m i:Nat}(h:G5 key d a m (key d[m]!) i i)(hs:Srt key d a m)(r:Rot d d1 i m (m+1)):De d d1 a (m+1)∧Srt key d1 a (m+1):=by
 have hb1:=h.b1;have hb3:=h.b3;refine⟨(r.same hb3 (by omega)).wider hb1 (Ale _),fun p q h1 h2 h3=>?_⟩;have lo:d1[i]! =d[m]!:=by rw[r.lo i (Ale _) (by omega)];congr 1;omega
 have hi: ∀k,i<k→k<m+1→d1[k]! =d[k-1]!:=fun k h1 h2=>by rw[r.hi k (by omega) h2];congr 1;omega
 by_cases c1:p<i
 ·rw[r.out p (by omega)]
  by_cases c2:q<i
  ·rw[r.out q (by omega)];exact hs _ _ h1 h2 (by omega)
  ·by_cases c3:q=i
   ·rw[c3,lo];exact h.lo p h1 c1
   ·rw[hi q (by omega) h3];exact hs _ _ h1 (by omega) (by omega)
 ·by_cases c2:p=i
  ·rw[c2,lo,hi q (by omega) h3];exact h.hi _ (by omega) (by omega)
  ·rw[hi p (by omega) (by omega),hi q (by omega) h3];exact hs _ _ (by omega) (by omega) (by omega)
theorem Rot.right_step{d e:Array UInt8}{a i:Nat}(r:Rot d e a (a+1) (i+1))(hi:i+1<d.size)(ha:a≤i):Rot d (swp e i (i+1)) a (a+1) (i+2):=by
 have hsz:=r.size;have e1:e[i]! =d[a]!:=by rw[r.hi i (by omega) (by omega)];congr 1;omega
 have e2:e[i+1]! =d[i+1]!:=r.out _ (by omega);refine⟨by rw[size_swp];exact hsz,fun k hk=>?_,fun k h1 h2=>?_,fun k h1 h2=>?_⟩
 ·rw[swp_other _ _ _ _ (by omega) (by omega)];exact r.out k (by omega)
 ·by_cases c:k=i
  ·subst c;rw[swp_left _ _ _ (by omega) (by omega),e2];congr 1;omega
  ·rw[swp_other _ _ _ _ (by omega) (by omega),r.lo k h1 (by omega)]
 ·obtain rfl:k=i+1:=by omega
  rw[swp_right _ _ _ (by omega),e1];congr 1;omega
theorem Rot.left_step{d e:Array UInt8}{m i:Nat}(r:Rot d e (i+1) m (m+1))(hm:m<d.size)(hi:i<m):Rot d (swp e (i+1) i) i m (m+1):=by
 have hsz:=r.size;have e1:e[i+1]! =d[m]!:=by rw[r.lo (i+1) (Ale _) (by omega)];congr 1;omega
 have e2:e[i]! =d[i]!:=r.out _ (by omega);refine⟨by rw[size_swp];exact hsz,fun k hk=>?_,fun k h1 h2=>?_,fun k h1 h2=>?_⟩
 ·rw[swp_other _ _ _ _ (by omega) (by omega)];exact r.out k (by omega)
 ·obtain rfl:k=i:=by omega
  rw[swp_right _ _ _ (by omega),e1];congr 1;omega
 ·by_cases c:k=i+1
  ·subst c;rw[swp_left _ _ _ (by omega) (by omega),e2];congr 1;omega
  ·rw[swp_other _ _ _ _ (by omega) (by omega),r.hi k (by omega) h2]
structure Ins(key:UInt8→Nat)(d e:Array UInt8)(a i j:Nat):Prop where
 b1:a≤j
 b2:j≤i
 rot:Rot d e j i (i+1)
 hi: ∀c,j≤c→c<i→key d[i]!<key d[c]!
theorem Ins.start(key:UInt8→Nat)(d:Array UInt8)(a i:Nat)(h:a≤i):Ins key d d a i i:=⟨h,Ale _,Rot.id_left d i (i+1) (by omega),fun c h1 h2=>by omega⟩
theorem Ins.step{key:UInt8→Nat}{d e:Array UInt8}{a i j:Nat}(h:Ins key d e a i (j+1))(hj:a≤j)(hi:i<d.size)(hk:key e[j+1]!<key e[j]!):Ins key d (swp e (j+1) j) a i j:=by
 have hb2:=h.b2;have e1:e[j+1]! =d[i]!:=by rw[h.rot.lo (j+1) (Ale _) (by omega)];congr 1;omega
 have e2:e[j]! =d[j]!:=h.rot.out _ (by omega);refine⟨hj,by omega,Rot.left_step h.rot hi (by omega),fun c h1 h2=>?_⟩
 by_cases c1:c=j
 ·subst c1;rw[e1,e2]at hk;exact hk
 ·exact h.hi c (by omega) h2
theorem Ins.done{key:UInt8→Nat}{d e:Array UInt8}{a i j:Nat}(h:Ins key d e a i j)(hs:Srt key d a i)(hk:j=a∨(a<j∧key e[j-1]!<key e[j]!)):De d e a (i+1)∧Srt key e a (i+1):=by
 have hb1:=h.b1;have hb2:=h.b2;refine Ts (i:=j) ⟨hb1,Ale _,hb2,fun c h1 h2=>?_,h.hi⟩ hs h.rot;rcases hk with hk|⟨hk1,hk2⟩
 ·omega
 ·have e1:e[j]! =d[i]!:=by rw[h.rot.lo j (Ale _) (by omega)];congr 1;omega
  have e2:e[j-1]! =d[j-1]!:=h.rot.out _ (by omega);rw[e1,e2]at hk2;exact Amx (hs.le (i:=c) (j:=j-1) h1 (by omega) (by omega)) hk2
structure Good(key:UInt8→Nat)(d0 d:Array UInt8)(a b:Nat):Prop where
 mem: ∀x,Mm d a b x↔Mm d0 a b x
 srt:Srt key d a b
theorem Good.none(key:UInt8→Nat)(d0 d:Array UInt8)(a:Nat):Good key d0 d a a:=⟨fun x=>⟨fun⟨k,h1,h2,_⟩=>by omega,fun⟨k,h1,h2,_⟩=>by omega⟩,Srt.one _ _ _ _ (by omega)⟩
theorem Good.agree{key:UInt8→Nat}{d0 d e:Array UInt8}{a b:Nat}(h:Good key d0 d a b)(he: ∀k,a≤k→k<b→e[k]! =d[k]!):Good key d0 e a b:=by
 refine⟨fun x=>⟨fun⟨k,h1,h2,h3⟩=>(h.mem x).1 ⟨k,h1,h2,by rw[←he k h1 h2];exact h3⟩,fun hx=>?_⟩,fun i j h1 h2 h3=>?_⟩
 ·obtain⟨k,h1,h2,h3⟩:=(h.mem x).2 hx;exact⟨k,h1,h2,by rw[he k h1 h2];exact h3⟩
 ·rw[he i h1 (by omega),he j (by omega) h3];exact h.srt i j h1 h2 h3
theorem Good.lr{key:UInt8→Nat}{Rl:UInt8→UInt8→Prop}{d0 d:Array UInt8}{a m b n:Nat}(h:Good key d0 d a m)(k:Good key d0 d m b)(hp: ∀i j,i<j→j<n→Rl d0[i]! d0[j]!)(hb:b≤n):LR Rl d a m b:=fun i j h1 h2 h3 h4=>by
 obtain⟨p,p1,p2,p3⟩:=(h.mem _).1 ⟨i,h1,h2,rfl⟩;obtain⟨q,q1,q2,q3⟩:=(k.mem _).1 ⟨j,h3,h4,rfl⟩;rw[←p3,←q3];exact hp p q (by omega) (by omega)
theorem Abc(d:Array UInt8)(a m b:Nat)(h1:a≤m)(h2:m≤b)(x:UInt8):Mm d a b x↔Mm d a m x∨Mm d m b x:=
 ⟨fun⟨k,k1,k2,k3⟩=>by
  by_cases h:k<m
  ·exact .inl ⟨k,k1,h,k3⟩
  ·exact .inr ⟨k,by omega,k2,k3⟩,fun h=>by
  rcases h with⟨k,k1,k2,k3⟩|⟨k,k1,k2,k3⟩
  ·exact⟨k,k1,by omega,k3⟩
  ·exact⟨k,by omega,k2,k3⟩⟩
theorem Good.merged{key:UInt8→Nat}{d0 d e:Array UInt8}{a m b:Nat}(h:Good key d0 d a m)(k:Good key d0 d m b)(h1:a≤m)(h2:m≤b)(hs:De d e a b)(hk:Srt key e a b):Good key d0 e a b:=
 ⟨fun x=>by rw[hs.mem,Abc d a m b h1 h2,Abc d0 a m b h1 h2,h.mem,k.mem],hk⟩
inductive Dh (key:UInt8→Nat) (d0 d:Array UInt8) (n bs:Nat):Nat→Prop
 |last (a:Nat) (h1:n≤a+bs) (h2:a≤n) (g:Good key d0 d a n):Dh key d0 d n bs a
 |more (a:Nat) (h1:a+bs≤n) (g:Good key d0 d a (a+bs)) (r:Dh key d0 d n bs (a+bs)):Dh key d0 d n bs a
theorem Dh.agree{key:UInt8→Nat}{d0 d e:Array UInt8}{n bs a:Nat}(h:Dh key d0 d n bs a)(he: ∀k,a≤k→k<n→e[k]! =d[k]!):Dh key d0 e n bs a:=by
 induction h with
 |last a h1 h2 g=>exact .last a h1 h2 (g.agree he)
 |more a h1 g r ih=>exact .more a h1 (g.agree fun k k1 k2=>he k k1 (by omega)) (ih fun k k1 k2=>he k (by omega) k2)
def Kc(key:UInt8→Nat)(d0 d:Array UInt8)(n bs a:Nat):Prop:= ∀e:Array UInt8,(∀k,k<a→e[k]! =d[k]!)→Dh key d0 e n bs a→Dh key d0 e n bs 0
theorem Kc.none(key:UInt8→Nat)(d0 d:Array UInt8)(n bs:Nat):Kc key d0 d n bs 0:=fun _ _ h=>h
theorem Kc.step{key:UInt8→Nat}{d0 d e:Array UInt8}{n bs a:Nat}(h:Kc key d0 d n bs a)(hs:De d e a (a+bs))(hb:a+bs≤n)(g:Good key d0 e a (a+bs)):Kc key d0 e n bs (a+bs):=fun f hf hr=>
 h f (fun k hk=>by rw[hf k (by omega),hs.out k (by omega)]) (.more a hb (g.agree fun k k1 k2=>hf k k2) hr)
theorem Kc.all{key:UInt8→Nat}{d0 d:Array UInt8}{n bs a:Nat}(h:Kc key d0 d n bs a)(hb:Dh key d0 d n bs a):Dh key d0 d n bs 0:=h d (fun _ _=>rfl) hb
theorem Dh.whole{key:UInt8→Nat}{d0 d:Array UInt8}{n bs:Nat}(h:Dh key d0 d n bs 0)(hb:n≤bs):Good key d0 d 0 n:=by
 cases h with
 |last _ _ _ g=>exact g
 |more _ h1 g _=>
  obtain rfl:bs=n:=by omega
  simpa using g
theorem Dh.two{key:UInt8→Nat}{d0 d:Array UInt8}{n bs a:Nat}(h:Dh key d0 d n bs a)(h0:0<bs)(hb:a+2*bs≤n):Good key d0 d a (a+bs)∧Good key d0 d (a+bs) (a+2*bs)∧Dh key d0 d n bs (a+2*bs):=by
 cases h with
 |last _ h1 _ _=>omega
 |more _ h1 g r=>
  cases r with
  |last _ h2 h3 g2=>
   obtain rfl:n=a+2*bs:=by omega
   exact⟨g,g2,.last _ (by omega) (Ale _) (Good.none ..)⟩
  |more _ h2 g2 r2=>
   have e:a+bs+bs=a+2*bs:=by omega
   rw[e]at g2 r2;exact⟨g,g2,r2⟩
theorem Dh.rest{key:UInt8→Nat}{d0 d:Array UInt8}{n bs a:Nat}(h:Dh key d0 d n bs a)(hm:a+bs<n)(hb:n<a+2*bs):Good key d0 d a (a+bs)∧Good key d0 d (a+bs) n:=by
 cases h with
 |last _ h1 _ _=>omega
 |more _ h1 g r=>
  cases r with
  |last _ h2 h3 g2=>exact⟨g,g2⟩
  |more _ h2 g2 r2=>omega
theorem Dh.one{key:UInt8→Nat}{d0 d:Array UInt8}{n bs a:Nat}(h:Dh key d0 d n bs a)(hm:n≤a+bs)(ha:a≤n):Dh key d0 d n (2*bs) a:=by
 cases h with
 |last _ h1 _ g=>exact .last _ (by omega) ha g
 |more _ h1 g r=>
  obtain rfl:n=a+bs:=by omega
  exact .last _ (by omega) ha g
end Hm
end Go.Proofs.YtegnkfdbmmndaaaGreat
namespace Go.Proofs.YtegnkfdbmmndaaaGreat
open Hm
open Go.RowKit
theorem Ahi:(Tryz.prog.info? 210).map (fun i=>(i.zero,i.size,i.bytes))=some (some (.agg #[.int .i64 0,.int .i64 0]),2,16):=by kernel_rfl
def Gi:List (Nat×Nat)→List Value
 |[]=>[]
 |p::r=> .int .i64 (p.1:Nat):: .int .i64 (p.2:Nat)::Gi r
theorem Zs(l:List (Nat×Nat)):(Gi l).length=l.length*2:=by
 induction l with
 |nil=>rfl
 |cons p r ih=>simp[Gi,ih];omega
theorem Vt(l:List (Nat×Nat)): ∀i,(h:i<l.length)→(Gi l)[i*2]?=some (.int .i64 (l[i].1:Nat)):=by
 induction l with
 |nil=>intro i h;simp at h
 |cons p r ih=>
  intro i h;cases i with
  |zero=>rfl
  |succ i=>
   have:=ih i (by simpa using h);rw[show(i+1)*2=i*2+1+1 from by omega];simpa[Gi]using this
theorem Vu(l:List (Nat×Nat)): ∀i,(h:i<l.length)→(Gi l)[i*2+1]?=some (.int .i64 (l[i].2:Nat)):=by
 induction l with
 |nil=>intro i h;simp at h
 |cons p r ih=>
  intro i h;cases i with
  |zero=>rfl
  |succ i=>
   have:=ih i (by simpa using h);rw[show(i+1)*2+1=i*2+1+1+1 from by omega];simpa[Gi]using this
theorem Ac8(l:List (Nat×Nat))(x:Nat): ∀i,(h:i<l.length)→(Gi l).set (i*2) (.int .i64 (x:Nat))=Gi (l.set i (x,l[i].2)):=by
 induction l with
 |nil=>intro i h;simp at h
 |cons p r ih=>
  intro i h;cases i with
  |zero=>rfl
  |succ i=>
   have:=ih i (by simpa using h);rw[show(i+1)*2=i*2+1+1 from by omega];simp[Gi,this]
theorem Ac9(l:List (Nat×Nat))(x:Nat): ∀i,(h:i<l.length)→(Gi l).set (i*2+1) (.int .i64 (x:Nat))=Gi (l.set i (l[i].1,x)):=by
 induction l with
 |nil=>intro i h;simp at h
 |cons p r ih=>
  intro i h;cases i with
  |zero=>rfl
  |succ i=>
   have:=ih i (by simpa using h);rw[show(i+1)*2+1=i*2+1+1+1 from by omega];simp[Gi,this]
def B4(w:World)(g:Nat)(l:List (Nat×Nat)):Prop:=w.heap[g]?=some (.cells (Gi l).toArray 210 (0,0))
theorem B4.fst{w:World}{g:Nat}{l:List (Nat×Nat)}(h:B4 w g l){i:Nat}(hi:i<l.length):w.cell? ⟨g,i*2,none⟩=some (.int .i64 (l[i].1:Nat)):=by
 rw[Alc _ _ _ _ _ _ h];simpa using Vt l i hi
theorem B4.snd{w:World}{g:Nat}{l:List (Nat×Nat)}(h:B4 w g l){i:Nat}(hi:i<l.length):w.cell? ⟨g,i*2+1,none⟩=some (.int .i64 (l[i].2:Nat)):=by
 rw[Alc _ _ _ _ _ _ h];simpa using Vu l i hi
theorem B4.free{w:World}{g:Nat}{l:List (Nat×Nat)}(h:B4 w g l)(i:Nat):w.frozen? ⟨g,i,none⟩=false:=Alk _ _ i _ _ h
theorem B4.set1{w:World}{g:Nat}{l:List (Nat×Nat)}(h:B4 w g l)(i x:Nat)(hi:i<l.length):B4 (w.setCell ⟨g,i*2,none⟩ (.int .i64 (x:Nat))) g (l.set i (x,l[i].2)):=by
 have h2:=Alf w g (i*2) _ _ (.int .i64 (x:Nat)) h;unfold B4;rw[h2,←Ac8 l x i hi];congr 2;apply Am6;simp
theorem B4.set2{w:World}{g:Nat}{l:List (Nat×Nat)}(h:B4 w g l)(i x:Nat)(hi:i<l.length):B4 (w.setCell ⟨g,i*2+1,none⟩ (.int .i64 (x:Nat))) g (l.set i (l[i].1,x)):=by
 have h2:=Alf w g (i*2+1) _ _ (.int .i64 (x:Nat)) h;unfold B4;rw[h2,←Ac9 l x i hi];congr 2;apply Am6;simp
theorem B4.lt{w:World}{g:Nat}{l:List (Nat×Nat)}(h:B4 w g l):g<w.heap.size:=Alw h
theorem B4.kept{S:Nat→Prop}{w w':World}{g:Nat}{l:List (Nat×Nat)}(h:B4 w g l)(hk:Aa S w w')(hn: ¬S g):B4 w' g l:=hk.row h hn
theorem Afo(n:Nat):(madeCells (Value.agg #[.int .i64 0,.int .i64 0]).cells (n*2)).toList=Gi (List.replicate n (0,0)):=by
 have hl:(Gi (List.replicate n (0,0))).length=n*2:=by rw[Zs];simp
 apply Amf
 ·rw[hl];simp[madeCells]
 ·intro i h1 h2;have hz:(Value.agg #[.int .i64 0,.int .i64 0]).cells= #[.int .i64 0,.int .i64 0]:=rfl;have e1:(madeCells (Value.agg #[.int .i64 0,.int .i64 0]).cells (n*2)).toList[i]= .int .i64 0:=by
   simp[madeCells,hz];rcases Aoy i with h|h<;>simp[h]
  rw[e1];have hil:i<n*2:=by omega
  rcases Aoy i with h|h
  ·have h3:=Vt (List.replicate n (0,0)) (i/2) (by simp;omega);rw[show i/2*2=i from by omega,Ak7 h2]at h3;simp at h3;exact h3.symm
  ·have h3:=Vu (List.replicate n (0,0)) (i/2) (by simp;omega);rw[show i/2*2+1=i from by omega,Ak7 h2]at h3;simp at h3;exact h3.symm
theorem B4.made{w':World}{g n:Nat}{base:Nat}(h:w'.ownsRow base 210 2 (.slice (some ⟨g,0,none⟩) n n) n (madeCells (Value.agg #[.int .i64 0,.int .i64 0]).cells (n*2)).toList):B4 w' g (List.replicate n (0,0)):=by
 rcases h.2 with⟨h1,_⟩|⟨g2,cap,cur,h1,_,hg,_,_,hs,ht⟩
 ·cases h1
 ·cases h1;unfold B4;rw[hg];congr 2;apply Am6;have e:cur.toList.take (n*2)=cur.toList:=Al8 (by simp;omega);rw[←e,ht,Afo]
namespace Hm
def Pe(l:List Nat)(wd i:Nat):Nat×Nat:=(l.getD i 0,l.getD (i+wd) 0)
def Dv(l:List Nat)(wd:Nat):List (Nat×Nat):=(List.range l.length).map (Pe l wd)
def Di(l:List Nat)(wd k:Nat):List (Nat×Nat):=(List.range l.length).map fun i=>if i<k then Pe l wd i else(0,0)
theorem Xj(l:List Nat)(wd k:Nat):(Di l wd k).length=l.length:=by simp[Di]
theorem Xk(l:List Nat)(wd:Nat):(Dv l wd).length=l.length:=by simp[Dv]
theorem Abd(l:List Nat)(wd:Nat):Di l wd 0=List.replicate l.length (0,0):=by
 apply Amf<;>simp[Di]
theorem Ada(l:List Nat)(wd:Nat):Di l wd l.length=Dv l wd:=by
 apply Amf
 ·simp[Di,Dv]
 ·intro i h1 h2;have:i<l.length:=by simpa[Di]using h1
  simp[Di,Dv,this]
theorem O1(l:List Nat)(wd k i:Nat)(h:i<(Di l wd k).length):(Di l wd k)[i]=if i<k then Pe l wd i else(0,0):=by simp[Di]
theorem Rr(l:List Nat)(wd k:Nat)(_h:k<l.length):Di l wd (k+1)=(Di l wd k).set k (Pe l wd k):=by
 apply Amf
 ·simp[Di]
 ·intro i h1 h2;rw[An8,O1,O1]
  by_cases e:k=i
  ·subst e;simp
  ·rw[if_neg e]
   by_cases h3:i<k
   ·rw[if_pos h3,if_pos (by omega)]
   ·rw[if_neg h3,if_neg (by omega)]
end Hm
set_option maxHeartbeats 1000000 in
theorem Afp(g0 c:Nat)(l:List Nat)(wd:Nat)(w:World)(hr0:IntRow w g0 l)(hl:l.length≤6001)(hw:wd≤6000)(hx: ∀x∈l,x≤1000000):
  Calls Tryz.prog 133 #[.slice (some ⟨g0,0,none⟩) l.length c,.int .i64 wd] w fun e w'=>e= .returned (.slice (some ⟨w.heap.size,0,none⟩) l.length l.length)∧B4 w' w.heap.size (Dv l wd)∧Apd w w':=by
 obtain⟨i0,hi,hz0,hz1,hz2⟩:=Amz Ahi;have hg0:=hr0.lt
 go_enter Tryz.func133,Tryz.ntmps133
 go_wp2_with(at_make;refine Ane _ rfl (.tmp 9) (.tmp 9) 206 rfl w.heap.size 210 i0 (.agg #[.int .i64 0,.int .i64 0]) 2 Tryz.underlying206 hi hz0 hz1 .i64 .i64 _ _ l.length rfl rfl rfl rfl (by rw[hz2];omega) (by unfold maxLen;omega) (Ale _) ?_;intro w1 ho1 hg1)
 have hr1:B4 w1 w.heap.size (Di l wd 0):=by rw[Abd];exact B4.made ho1
 have hk1:Apd w w1:=(Aa.refl _ _).grown hg1 (fun k hk=>by cases hk);clear ho1 hg1
 go_loopw[13] (fun i wr=> ∃k:Nat,k≤l.length∧i= .int .i64 k∧B4 wr w.heap.size (Di l wd k)∧Apd w wr) (fun i _=>l.length-(intOf i).toNat)
 case atStart=>exact⟨0,Alr _,rfl,hr1,hk1⟩
 case round=>
  clear hr1 hk1;obtain⟨k,hk,rfl,hr,hkr⟩:=hrel
  by_cases hlt:k<l.length
  ·have hlr:=Xj l wd k;have hc:=(hr0.kept hkr id).cell hlt;have hd1:=hr.fst (i:=k) (by omega);have hd2:=hr.snd (i:=k) (by omega);have hf1:=hr.free (k*2);have hf2:=hr.free (k*2+1);have hgz:=O1 l wd k k (by omega);rw[if_neg (by omega)]at hgz;rw[hgz]at hd1 hd2;have HS:=hr.set1 k l[k] (by omega);rw[hgz]at HS;have hnq: ¬g0=w.heap.size:=by omega
   by_cases hin:k+wd<l.length
   ·have hc2:=(hr0.kept hkr id).cell hin;have HS2:=HS.set2 k l[k+wd] (by simp;omega);have e:((Di l wd k).set k (l[k],0)).set k ((((Di l wd k).set k (l[k],0))[k]'(by simp;omega)).1,l[k+wd])=Di l wd (k+1):=by
     rw[Rr _ _ _ hlt];simp[Pe,hlt,hin]
    rw[e]at HS2;have H2:Hid (B4 _ w.heap.size (Di l wd (k+1))):=HS2;have hx1:=hx l[k] (Alo _);have hx2:=hx l[k+wd] (Alo _);generalize l[k]=x1 at*;generalize l[k+wd]=x2 at*;have hdec:decide ((k:Int)+(wd:Int)<(l.length:Int))=true:=by simp;omega
    clear HS HS2 hr hlr hgz e hr0 hx;go_wp2;go_roundw
    case rel=>exact⟨k+1,by omega,by go_num,H2.out,(hkr.setCell (.inl (Ale _)) _).setCell (.inl (Ale _)) _⟩
    case measure=>simp[intOf];omega
   ·have e:(Di l wd k).set k (l[k],0)=Di l wd (k+1):=by
     rw[Rr _ _ _ hlt];simp[Pe,hlt,hin]
    rw[e]at HS;have H2:Hid (B4 _ w.heap.size (Di l wd (k+1))):=HS;have hx1:=hx l[k] (Alo _);generalize l[k]=x1 at*;have hdec:decide ((k:Int)+(wd:Int)<(l.length:Int))=false:=by simp;omega
    clear HS hr hlr hgz e hr0 hx;go_wp2;go_roundw
    case rel=>exact⟨k+1,by omega,by go_num,H2.out,hkr.setCell (.inl (Ale _)) _⟩
    case measure=>simp[intOf];omega
  ·go_wp2;go_ret;obtain rfl:k=l.length:=by omega
   rw[Ada]at hr;exact⟨rfl,hr,hkr⟩
end Go.Proofs.YtegnkfdbmmndaaaGreat
