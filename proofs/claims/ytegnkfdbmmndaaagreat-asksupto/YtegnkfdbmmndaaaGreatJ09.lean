import Derived.Test.YtegnkfdbmmndaaaGreatJ04

set_option maxHeartbeats 8000000
namespace Go.Proofs.YtegnkfdbmmndaaaGreat
open Hm Go.Proofs.Tryz Go.Sort
namespace Hm
structure Ord(cf:UInt8→UInt8→Int)(key:UInt8→Nat)(Rl:UInt8→UInt8→Prop):Prop where
 lt: ∀x y,Rl x y→(cf y x<0↔key y<key x)
 ne: ∀x y,Rl x y→key x≠key y
def Srt(key:UInt8→Nat)(d:Array UInt8)(a b:Nat):Prop:= ∀i j,a≤i→i<j→j<b→key d[i]!<key d[j]!
def Mm(d:Array UInt8)(a b:Nat)(x:UInt8):Prop:= ∃k,a≤k∧k<b∧d[k]! =x
def LR(Rl:UInt8→UInt8→Prop)(d:Array UInt8)(a m b:Nat):Prop:= ∀i j,a≤i→i<m→m≤j→j<b→Rl d[i]! d[j]!
structure Dh(d d':Array UInt8)(a b:Nat):Prop where
 size:d'.size=d.size
 o: ∀k,(k<a∨b≤k)→d'[k]! =d[k]!
 mem: ∀x,Mm d' a b x↔Mm d a b x
structure Swr(d d':Array UInt8)(a b n:Nat):Prop where
 size:d'.size=d.size
 o: ∀k,(k<a∨(a+n≤k∧k<b)∨b+n≤k)→d'[k]! =d[k]!
 lo: ∀k,a≤k→k<a+n→d'[k]! =d[k-a+b]!
 hi: ∀k,b≤k→k<b+n→d'[k]! =d[k-b+a]!
structure Rot(d d':Array UInt8)(a m b:Nat):Prop where
 size:d'.size=d.size
 o: ∀k,(k<a∨b≤k)→d'[k]! =d[k]!
 lo: ∀k,a≤k→k<a+(b-m)→d'[k]! =d[k+(m-a)]!
 hi: ∀k,a+(b-m)≤k→k<b→d'[k]! =d[k-(b-m)]!
theorem Dh.refl(d:Array UInt8)(a b:Nat):Dh d d a b:=⟨rfl,fun _ _=>rfl,fun _=>Iff.rfl⟩
theorem Dh.trans{d e f:Array UInt8}{a b:Nat}(h:Dh d e a b)(k:Dh e f a b):Dh d f a b:=
 ⟨k.size.trans h.size,fun i hi=>(k.o i hi).trans (h.o i hi),fun x=>(k.mem x).trans (h.mem x)⟩
theorem Dh.wider{d e:Array UInt8}{a b a' b':Nat}(h:Dh d e a b)(f:a'≤a)(hb:b≤b'):Dh d e a' b':=by
 refine⟨h.size,fun k hk=>h.o k (by omega),fun x=>⟨fun⟨k,h1,h2,c⟩=>?_,fun⟨k,h1,h2,c⟩=>?_⟩⟩
 ·by_cases hk:a≤k∧k<b
  ·obtain⟨q,q1,q2,q3⟩:=(h.mem x).1 ⟨k,hk.1,hk.2,c⟩;exact⟨q,by omega,by omega,q3⟩
  ·exact⟨k,h1,h2,by rw[←h.o k (by omega)];exact c⟩
 ·by_cases hk:a≤k∧k<b
  ·obtain⟨q,q1,q2,q3⟩:=(h.mem x).2 ⟨k,hk.1,hk.2,c⟩;exact⟨q,by omega,by omega,q3⟩
  ·exact⟨k,h1,h2,by rw[h.o k (by omega)];exact c⟩
theorem Srt.o{key:UInt8→Nat}{d e:Array UInt8}{a b a' b':Nat}(hs:Srt key d a' b')(h:Dh d e a b)(f:b'≤a∨b≤a'):Srt key e a' b':=fun i j h1 h2 c=>by
 rw[h.o i (by omega),h.o j (by omega)];exact hs i j h1 h2 c
theorem Srt.one(key:UInt8→Nat)(d:Array UInt8)(a b:Nat)(h:b≤a+1):Srt key d a b:=fun i j h1 h2 c=>by omega
theorem Srt.le{key:UInt8→Nat}{d:Array UInt8}{a b i j:Nat}(hs:Srt key d a b)(h1:a≤i)(h2:i≤j)(c:j<b):key d[i]!≤key d[j]!:=by
 rcases Aoq i j with h|h
 ·exact Nat.le_of_lt (hs i j h1 h c)
 ·obtain rfl:i=j:=by omega
  exact Ane _
theorem Swr.zero(d:Array UInt8)(a b:Nat):Swr d d a b 0:=⟨rfl,fun _ _=>rfl,fun k h1 h2=>by omega,fun k h1 h2=>by omega⟩
theorem Swr.step{d e:Array UInt8}{a b n:Nat}(h:Swr d e a b n)(f:a+n<b)(hs:b+n<d.size):Swr d (swp e (a+n) (b+n)) a b (n+1):=by
 have c:=h.size;have g:(swp e (a+n) (b+n))[a+n]! =d[b+n]!:=by rw[swp_left _ _ _ (by omega) (by omega)];exact h.o _ (by omega)
 have i:(swp e (a+n) (b+n))[b+n]! =d[a+n]!:=by rw[swp_right _ _ _ (by omega)];exact h.o _ (by omega)
 refine⟨by rw[size_swp];exact c,fun k hk=>?_,fun k h1 h2=>?_,fun k h1 h2=>?_⟩
 ·rw[swp_other _ _ _ _ (by omega) (by omega)];exact h.o k (by omega)
 ·by_cases e1:k=a+n
  ·subst e1;rw[g];congr 1;omega
  ·rw[swp_other _ _ _ _ (by omega) (by omega)];exact h.lo k h1 (by omega)
 ·by_cases e1:k=b+n
  ·subst e1;rw[i];congr 1;omega
  ·rw[swp_other _ _ _ _ (by omega) (by omega)];exact h.hi k h1 (by omega)
theorem Rot.id_left(d:Array UInt8)(m b:Nat)(h:m≤b):Rot d d m m b:=⟨rfl,fun _ _=>rfl,fun k h1 h2=>by congr 1;omega,fun k h1 h2=>by omega⟩
theorem Rot.id_right(d:Array UInt8)(a m:Nat):Rot d d a m m:=⟨rfl,fun _ _=>rfl,fun k h1 h2=>by omega,fun k h1 h2=>by congr 1;omega⟩
theorem Rot.of_swr{d e:Array UInt8}{m i:Nat}(h:Swr d e (m-i) m i)(hi:i≤m):Rot d e (m-i) m (m+i):=by
 refine⟨h.size,fun k hk=>h.o k (by omega),fun k h1 h2=>?_,fun k h1 h2=>?_⟩
 ·rw[h.lo k h1 (by omega)];congr 1;omega
 ·rw[h.hi k (by omega) (by omega)];congr 1;omega
theorem Rot.by_left{d e f:Array UInt8}{m i j:Nat}(h:Swr d e (m-i) m j)(a:j<i)(hi:i≤m)(r:Rot e f (m-(i-j)) m (m+j)):Rot d f (m-i) m (m+j):=by
 refine⟨r.size.trans h.size,fun k hk=>?_,fun k h1 h2=>?_,fun k h1 h2=>?_⟩
 ·rw[r.o k (by omega)];exact h.o k (by omega)
 ·rw[r.o k (by omega),h.lo k h1 (by omega)];congr 1;omega
 ·by_cases b:k<m-(i-j)+j
  ·rw[r.lo k (by omega) (by omega),h.hi _ (by omega) (by omega)];congr 1;omega
  ·rw[r.hi k (by omega) (by omega),h.o _ (by omega)]
theorem Rot.by_right{d e f:Array UInt8}{m i j:Nat}(h:Swr d e (m-i) (m+j-i) i)(a:i<j)(hi:i≤m)(r:Rot e f (m-i) m (m+(j-i))):Rot d f (m-i) m (m+j):=by
 refine⟨r.size.trans h.size,fun k hk=>?_,fun k h1 h2=>?_,fun k h1 h2=>?_⟩
 ·rw[r.o k (by omega)];exact h.o k (by omega)
 ·by_cases b:k<m-i+(j-i)
  ·rw[r.lo k (by omega) (by omega),h.o _ (by omega)]
  ·rw[r.hi k (by omega) (by omega),h.lo _ (by omega) (by omega)];congr 1;omega
 ·rw[r.o k (by omega),h.hi k (by omega) (by omega)];congr 1;omega
theorem Rot.same{d e:Array UInt8}{s m t:Nat}(r:Rot d e s m t)(h1:s≤m)(h2:m≤t):Dh d e s t:=by
 refine⟨r.size,r.o,fun x=>⟨fun⟨k,k1,k2,k3⟩=>?_,fun⟨k,k1,k2,k3⟩=>?_⟩⟩
 ·by_cases hk:k<s+(t-m)
  ·exact⟨k+(m-s),by omega,by omega,by rw[←r.lo k k1 hk];exact k3⟩
  ·exact⟨k-(t-m),by omega,by omega,by rw[←r.hi k (by omega) k2];exact k3⟩
 ·by_cases hk:k<m
  ·exact⟨k+(t-m),by omega,by omega,by rw[r.hi _ (by omega) (by omega),show k+(t-m)-(t-m)=k from by omega];exact k3⟩
  ·exact⟨k-(m-s),by omega,by omega,by rw[r.lo _ (by omega) (by omega),show k-(m-s)+(m-s)=k from by omega];exact k3⟩
structure L4(key:UInt8→Nat)(Rl:UInt8→UInt8→Prop)(d d1:Array UInt8)(a s mid e b:Nat):Prop where
 same:Dh d d1 a b
 s1:Srt key d1 a s
 s2:Srt key d1 s mid
 lr1:LR Rl d1 a s mid
 s3:Srt key d1 mid e
 s4:Srt key d1 e b
 lr2:LR Rl d1 mid e b
 cross: ∀i j,a≤i→i<mid→mid≤j→j<b→key d1[i]!<key d1[j]!
theorem L4.of{key:UInt8→Nat}{Rl:UInt8→UInt8→Prop}{d d1:Array UInt8}{a m b s mid e:Nat}(f:Srt key d a m)(g:Srt key d m b)(l:LR Rl d a m b)
  (u:a≤s) (p:s≤m) (v:s≤mid) (w:e+s=mid+m) (n:e≤b)
  (q: ∀i j,a≤i→i<s→e≤j→j<b→key d[i]!<key d[j]!) (t: ∀i j,s≤i→i<m→m≤j→j<e→key d[j]!<key d[i]!) (r:Rot d d1 s m e):L4 key Rl d d1 a s mid e b:=by
 have lo: ∀k,s≤k→k<mid→d1[k]! =d[k+(m-s)]!:=fun k h1 h2=>r.lo k h1 (by omega);have hi: ∀k,mid≤k→k<e→d1[k]! =d[k-(e-m)]!:=fun k h1 h2=>r.hi k (by omega) h2;refine⟨(r.same p (by omega)).wider u n,fun i j h1 h2 c=>?_,fun i j h1 h2 c=>?_,fun i j h1 h2 c h=>?_,fun i j h1 h2 c=>?_,fun i j h1 h2 c=>?_,fun i j h1 h2 c h=>?_,fun i j h1 h2 c h=>?_⟩
 ·rw[r.o i (by omega),r.o j (by omega)];exact f i j h1 h2 (by omega)
 ·rw[lo i h1 (by omega),lo j (by omega) c];exact g _ _ (by omega) (by omega) (by omega)
 ·rw[r.o i (by omega),lo j c h];exact l _ _ h1 (by omega) (by omega) (by omega)
 ·rw[hi i h1 (by omega),hi j (by omega) c];exact f _ _ (by omega) (by omega) (by omega)
 ·rw[r.o i (by omega),r.o j (by omega)];exact g i j (by omega) h2 c
 ·rw[hi i h1 h2,r.o j (by omega)];exact l _ _ (by omega) (by omega) (by omega) h
 ·by_cases c1:i<s
  ·rw[r.o i (by omega)]
   by_cases c2:j<e
   ·rw[hi j c c2];exact f _ _ h1 (by omega) (by omega)
   ·rw[r.o j (by omega)];exact q i j h1 c1 (by omega) h
  ·rw[lo i (by omega) h2]
   by_cases c2:j<e
   ·rw[hi j c c2];exact t _ _ (by omega) (by omega) (by omega) (by omega)
   ·rw[r.o j (by omega)];exact g _ _ (by omega) (by omega) h
theorem L4.done{key:UInt8→Nat}{Rl:UInt8→UInt8→Prop}{d d1 d2 d3:Array UInt8}{a s mid e b:Nat}(h:L4 key Rl d d1 a s mid e b)(l:a≤mid)(hb:mid≤b)
  (h2:Dh d1 d2 a mid) (k2:Srt key d2 a mid) (c:Dh d2 d3 mid b) (k3:Srt key d3 mid b):Dh d d3 a b∧Srt key d3 a b:=by
 refine⟨h.same.trans ((h2.wider (Ane _) hb).trans (c.wider l (Ane _))),fun i j f g k=>?_⟩
 by_cases c1:j<mid
 ·rw[c.o i (by omega),c.o j (by omega)];exact k2 i j f g c1
 by_cases c2:mid≤i
 ·exact k3 i j c2 g k
 ·obtain⟨q,q1,q2,q3⟩:=(h2.mem _).1 ⟨i,f,by omega,rfl⟩;obtain⟨p,p1,p2,p3⟩:=(c.mem _).1 ⟨j,by omega,k,rfl⟩;rw[c.o i (by omega),←q3,←p3,h2.o p (by omega)];exact h.cross q p q1 q2 p1 p2
theorem Srt.whole{key:UInt8→Nat}{d:Array UInt8}{a s b:Nat}(h1:Srt key d a s)(h2:Srt key d s b)(hs:s≤a∨b≤s):Srt key d a b:=fun i j k1 k2 k3=>by
 rcases hs with h|h
 ·exact h2 i j (by omega) k2 k3
 ·exact h1 i j k1 k2 (by omega)
theorem LR.o{Rl:UInt8→UInt8→Prop}{d e:Array UInt8}{a b a' m' b':Nat}(hs:LR Rl d a' m' b')(h:Dh d e a b)(g:b'≤a∨b≤a'):LR Rl e a' m' b':=fun i j h1 h2 c f=>by
 rw[h.o i (by omega),h.o j (by omega)];exact hs i j h1 h2 c f
structure L5(key:UInt8→Nat)(d:Array UInt8)(p s0 r0 s r:Nat):Prop where
 b1:s0≤s
 b2:s≤r
 b3:r≤r0
 lo: ∀c,s0≤c→c<s→key d[c]!<key d[p-c]!
 hi: ∀c,r≤c→c<r0→key d[p-c]!<key d[c]!
theorem L5.start{key:UInt8→Nat}{d:Array UInt8}{p s0 r0:Nat}(h:s0≤r0):L5 key d p s0 r0 s0 r0:=⟨Ane _,h,Ane _,fun c h1 h2=>by omega,fun c h1 h2=>by omega⟩
theorem L5.up{key:UInt8→Nat}{d:Array UInt8}{a m b p s0 r0 s r c:Nat}(h:L5 key d p s0 r0 s r)(e:Srt key d a m)(f:Srt key d m b)(g:a≤s0)(h1:r0≤m)(h2:m+r0≤p+1)(k:p<b+s0)(o:s≤c)(q:c<r)
  (hk:key d[c]!<key d[p-c]!):L5 key d p s0 r0 (c+1) r:=by
 refine⟨by have:=h.b1;omega,by omega,h.b3,fun c' l n=>?_,h.hi⟩;have:=h.b3;have:=h.b1;exact Aov (e.le (i:=c') (j:=c) (by omega) (by omega) (by omega)) (Aom hk (f.le (i:=p-c) (j:=p-c') (by omega) (by omega) (by omega)))
theorem L5.down{key:UInt8→Nat}{d:Array UInt8}{a m b p s0 r0 s r c:Nat}(h:L5 key d p s0 r0 s r)(e:Srt key d a m)(f:Srt key d m b)(k:a≤s0)(h1:r0≤m)(h2:m+r0≤p+1)(l:p<b+s0)(g:s≤c)(q:c<r)
  (hk:key d[p-c]!<key d[c]!):L5 key d p s0 r0 s c:=by
 refine⟨h.b1,g,by have:=h.b3;omega,h.lo,fun c' n o=>?_⟩;have:=h.b3;have:=h.b1;exact Aov (f.le (i:=p-c') (j:=p-c) (by omega) (by omega) (by omega)) (Aom hk (e.le (i:=c) (j:=c') (by omega) (by omega) (by omega)))
theorem L5.found{key:UInt8→Nat}{d:Array UInt8}{a m b mid s0 r0 s:Nat}(h:L5 key d (mid+m-1) s0 r0 s s)(c:Srt key d a m)(e:Srt key d m b)(u:a≤s0)(h1:r0≤m)(n:mid<b)(v:r0≤mid)(r:s0=a∨s0+b=mid+m)(q:r0=m∨r0=mid)(t:mid+m≤b+s0):
  (∀i j,a≤i→i<s→mid+m-s≤j→j<b→key d[i]!<key d[j]!)∧(∀i j,s≤i→i<m→m≤j→j<mid+m-s→key d[j]!<key d[i]!):=by
 have o:=h.b1;have p:=h.b3;refine⟨fun i j f g k l=>?_,fun i j f g k l=>?_⟩
 ·have hk:=h.lo (s-1) (by omega) (by omega);exact Aov (c.le (i:=i) (j:=s-1) f (by omega) (by omega)) (Aom hk (e.le (i:=mid+m-1-(s-1)) (j:=j) (by omega) (by omega) l))
 ·have hk:=h.hi s (Ane _) (by omega);exact Aov (e.le (i:=j) (j:=mid+m-1-s) k (by omega) (by omega)) (Aom hk (c.le (i:=s) (j:=i) (by omega) (by omega) g))
structure Hi(key:UInt8→Nat)(d:Array UInt8)(m b x i j:Nat):Prop where
 b1:m≤i
 b2:i≤j
 b3:j≤b
 lo: ∀c,m≤c→c<i→key d[c]!<x
 hi: ∀c,j≤c→c<b→x<key d[c]!
theorem Hi.start{key:UInt8→Nat}{d:Array UInt8}{m b x:Nat}(h:m≤b):Hi key d m b x m b:=⟨Ane _,h,Ane _,fun c h1 h2=>by omega,fun c h1 h2=>by omega⟩
theorem Hi.up{key:UInt8→Nat}{d:Array UInt8}{m b x i j c:Nat}(h:Hi key d m b x i j)(hs:Srt key d m b)(f:i≤c)(g:c<j)(hk:key d[c]!<x):Hi key d m b x (c+1) j:=
 ⟨by have:=h.b1;omega,by omega,h.b3,fun c' a e=>Aov (hs.le (i:=c') (j:=c) a (by omega) (by have:=h.b3;omega)) hk,h.hi⟩
theorem Hi.down{key:UInt8→Nat}{d:Array UInt8}{m b x i j c:Nat}(h:Hi key d m b x i j)(hs:Srt key d m b)(f:i≤c)(g:c<j)(hk:x<key d[c]!):Hi key d m b x i c:=
 ⟨h.b1,f,by have:=h.b3;omega,h.lo,fun c' a e=>Aom hk (hs.le (i:=c) (j:=c') (by have:=h.b1;omega) a e)⟩
theorem Ahb{key:UInt8→Nat}{d d1:Array UInt8}{a b i:Nat}(h:Hi key d (a+1) b (key d[a]!) i i)(hs:Srt key d (a+1) b)(r:Rot d d1 a (a+1) i):Dh d d1 a b∧Srt key d1 a b:=by
 have e:=h.b1;have f:=h.b3;refine⟨(r.same (by omega) e).wider (Ane _) f,fun p q h1 h2 c=>?_⟩;have lo: ∀k,a≤k→k+1<i→d1[k]! =d[k+1]!:=fun k h1 h2=>by rw[r.lo k h1 (by omega)];congr 1;omega
 have hi:d1[i-1]! =d[a]!:=by rw[r.hi (i-1) (by omega) (by omega)];congr 1;omega
 by_cases c1:p+1<i
 ·rw[lo p h1 c1]
  by_cases c2:q+1<i
  ·rw[lo q (by omega) c2];exact hs _ _ (by omega) (by omega) (by omega)
  ·by_cases c3:q=i-1
   ·rw[c3,hi];exact h.lo _ (by omega) (by omega)
   ·rw[r.o q (by omega)];exact hs _ _ (by omega) (by omega) c
 ·by_cases c2:p=i-1
  ·rw[c2,hi,r.o q (by omega)];exact h.hi q (by omega) c
  ·rw[r.o p (by omega),r.o q (by omega)];exact hs _ _ (by omega) h2 c
theorem Uu{key:UInt8→Nat}{d d1:Array UInt8}{a m i:Nat}(h:Hi key d a m (key d[m]!) i i)(hs:Srt key d a m)(r:Rot d d1 i m (m+1)):Dh d d1 a (m+1)∧Srt key d1 a (m+1):=by
 have c:=h.b1;have e:=h.b3;refine⟨(r.same e (by omega)).wider c (Ane _),fun p q h1 h2 b=>?_⟩;have lo:d1[i]! =d[m]!:=by rw[r.lo i (Ane _) (by omega)];congr 1;omega
 have hi: ∀k,i<k→k<m+1→d1[k]! =d[k-1]!:=fun k h1 h2=>by rw[r.hi k (by omega) h2];congr 1;omega
 by_cases c1:p<i
 ·rw[r.o p (by omega)]
  by_cases c2:q<i
  ·rw[r.o q (by omega)];exact hs _ _ h1 h2 (by omega)
  ·by_cases c3:q=i
   ·rw[c3,lo];exact h.lo p h1 c1
   ·rw[hi q (by omega) b];exact hs _ _ h1 (by omega) (by omega)
 ·by_cases c2:p=i
  ·rw[c2,lo,hi q (by omega) b];exact h.hi _ (by omega) (by omega)
  ·rw[hi p (by omega) (by omega),hi q (by omega) b];exact hs _ _ (by omega) (by omega) (by omega)
theorem Rot.right_step{d e:Array UInt8}{a i:Nat}(r:Rot d e a (a+1) (i+1))(hi:i+1<d.size)(f:a≤i):Rot d (swp e i (i+1)) a (a+1) (i+2):=by
 have b:=r.size;have e1:e[i]! =d[a]!:=by rw[r.hi i (by omega) (by omega)];congr 1;omega
 have e2:e[i+1]! =d[i+1]!:=r.o _ (by omega);refine⟨by rw[size_swp];exact b,fun k hk=>?_,fun k h1 h2=>?_,fun k h1 h2=>?_⟩
 ·rw[swp_other _ _ _ _ (by omega) (by omega)];exact r.o k (by omega)
 ·by_cases c:k=i
  ·subst c;rw[swp_left _ _ _ (by omega) (by omega),e2];congr 1;omega
  ·rw[swp_other _ _ _ _ (by omega) (by omega),r.lo k h1 (by omega)]
 ·obtain rfl:k=i+1:=by omega
  rw[swp_right _ _ _ (by omega),e1];congr 1;omega
theorem Rot.left_step{d e:Array UInt8}{m i:Nat}(r:Rot d e (i+1) m (m+1))(b:m<d.size)(hi:i<m):Rot d (swp e (i+1) i) i m (m+1):=by
 have a:=r.size;have e1:e[i+1]! =d[m]!:=by rw[r.lo (i+1) (Ane _) (by omega)];congr 1;omega
 have e2:e[i]! =d[i]!:=r.o _ (by omega);refine⟨by rw[size_swp];exact a,fun k hk=>?_,fun k h1 h2=>?_,fun k h1 h2=>?_⟩
 ·rw[swp_other _ _ _ _ (by omega) (by omega)];exact r.o k (by omega)
 ·obtain rfl:k=i:=by omega
  rw[swp_right _ _ _ (by omega),e1];congr 1;omega
 ·by_cases c:k=i+1
  ·subst c;rw[swp_left _ _ _ (by omega) (by omega),e2];congr 1;omega
  ·rw[swp_other _ _ _ _ (by omega) (by omega),r.hi k (by omega) h2]
structure Ins(key:UInt8→Nat)(d e:Array UInt8)(a i j:Nat):Prop where
 b1:a≤j
 b2:j≤i
 rot:Rot d e j i (i+1)
 hi: ∀c,j≤c→c<i→key d[i]!<key d[c]!
theorem Ins.start(key:UInt8→Nat)(d:Array UInt8)(a i:Nat)(h:a≤i):Ins key d d a i i:=⟨h,Ane _,Rot.id_left d i (i+1) (by omega),fun c h1 h2=>by omega⟩
theorem Ins.step{key:UInt8→Nat}{d e:Array UInt8}{a i j:Nat}(h:Ins key d e a i (j+1))(f:a≤j)(hi:i<d.size)(hk:key e[j+1]!<key e[j]!):Ins key d (swp e (j+1) j) a i j:=by
 have b:=h.b2;have e1:e[j+1]! =d[i]!:=by rw[h.rot.lo (j+1) (Ane _) (by omega)];congr 1;omega
 have e2:e[j]! =d[j]!:=h.rot.o _ (by omega);refine⟨f,by omega,Rot.left_step h.rot hi (by omega),fun c h1 h2=>?_⟩
 by_cases c1:c=j
 ·subst c1;rw[e1,e2]at hk;exact hk
 ·exact h.hi c (by omega) h2
theorem Ins.done{key:UInt8→Nat}{d e:Array UInt8}{a i j:Nat}(h:Ins key d e a i j)(hs:Srt key d a i)(hk:j=a∨(a<j∧key e[j-1]!<key e[j]!)):Dh d e a (i+1)∧Srt key e a (i+1):=by
 have f:=h.b1;have g:=h.b2;refine Uu (i:=j) ⟨f,Ane _,g,fun c h1 h2=>?_,h.hi⟩ hs h.rot;rcases hk with hk|⟨k,b⟩
 ·omega
 ·have e1:e[j]! =d[i]!:=by rw[h.rot.lo j (Ane _) (by omega)];congr 1;omega
  have e2:e[j-1]! =d[j-1]!:=h.rot.o _ (by omega);rw[e1,e2]at b;exact Aov (hs.le (i:=c) (j:=j-1) h1 (by omega) (by omega)) b
structure Good(key:UInt8→Nat)(d0 d:Array UInt8)(a b:Nat):Prop where
 mem: ∀x,Mm d a b x↔Mm d0 a b x
 srt:Srt key d a b
theorem Good.none(key:UInt8→Nat)(d0 d:Array UInt8)(a:Nat):Good key d0 d a a:=⟨fun x=>⟨fun⟨k,h1,h2,_⟩=>by omega,fun⟨k,h1,h2,_⟩=>by omega⟩,Srt.one _ _ _ _ (by omega)⟩
theorem Good.agree{key:UInt8→Nat}{d0 d e:Array UInt8}{a b:Nat}(h:Good key d0 d a b)(f: ∀k,a≤k→k<b→e[k]! =d[k]!):Good key d0 e a b:=by
 refine⟨fun x=>⟨fun⟨k,h1,h2,c⟩=>(h.mem x).1 ⟨k,h1,h2,by rw[←f k h1 h2];exact c⟩,fun g=>?_⟩,fun i j h1 h2 c=>?_⟩
 ·obtain⟨k,h1,h2,c⟩:=(h.mem x).2 g;exact⟨k,h1,h2,by rw[f k h1 h2];exact c⟩
 ·rw[f i h1 (by omega),f j (by omega) c];exact h.srt i j h1 h2 c
theorem Good.lr{key:UInt8→Nat}{Rl:UInt8→UInt8→Prop}{d0 d:Array UInt8}{a m b n:Nat}(h:Good key d0 d a m)(k:Good key d0 d m b)(f: ∀i j,i<j→j<n→Rl d0[i]! d0[j]!)(hb:b≤n):LR Rl d a m b:=fun i j h1 h2 c e=>by
 obtain⟨p,p1,p2,p3⟩:=(h.mem _).1 ⟨i,h1,h2,rfl⟩;obtain⟨q,q1,q2,q3⟩:=(k.mem _).1 ⟨j,c,e,rfl⟩;rw[←p3,←q3];exact f p q (by omega) (by omega)
theorem Aci(d:Array UInt8)(a m b:Nat)(h1:a≤m)(h2:m≤b)(x:UInt8):Mm d a b x↔Mm d a m x∨Mm d m b x:=
 ⟨fun⟨k,k1,k2,k3⟩=>by
  by_cases h:k<m
  ·exact .inl ⟨k,k1,h,k3⟩
  ·exact .inr ⟨k,by omega,k2,k3⟩,fun h=>by
  rcases h with⟨k,k1,k2,k3⟩|⟨k,k1,k2,k3⟩
  ·exact⟨k,k1,by omega,k3⟩
  ·exact⟨k,by omega,k2,k3⟩⟩
theorem Good.merged{key:UInt8→Nat}{d0 d e:Array UInt8}{a m b:Nat}(h:Good key d0 d a m)(k:Good key d0 d m b)(h1:a≤m)(h2:m≤b)(hs:Dh d e a b)(hk:Srt key e a b):Good key d0 e a b:=
 ⟨fun x=>by rw[hs.mem,Aci d a m b h1 h2,Aci d0 a m b h1 h2,h.mem,k.mem],hk⟩
inductive Dp (key:UInt8→Nat) (d0 d:Array UInt8) (n bs:Nat):Nat→Prop
 |last (a:Nat) (h1:n≤a+bs) (h2:a≤n) (g:Good key d0 d a n):Dp key d0 d n bs a
 |more (a:Nat) (h1:a+bs≤n) (g:Good key d0 d a (a+bs)) (r:Dp key d0 d n bs (a+bs)):Dp key d0 d n bs a
theorem Dp.agree{key:UInt8→Nat}{d0 d e:Array UInt8}{n bs a:Nat}(h:Dp key d0 d n bs a)(b: ∀k,a≤k→k<n→e[k]! =d[k]!):Dp key d0 e n bs a:=by
 induction h with
 |last a h1 h2 g=>exact .last a h1 h2 (g.agree b)
 |more a h1 g r ih=>exact .more a h1 (g.agree fun k k1 k2=>b k k1 (by omega)) (ih fun k k1 k2=>b k (by omega) k2)
def Ku(key:UInt8→Nat)(d0 d:Array UInt8)(n bs a:Nat):Prop:= ∀e:Array UInt8,(∀k,k<a→e[k]! =d[k]!)→Dp key d0 e n bs a→Dp key d0 e n bs 0
theorem Ku.none(key:UInt8→Nat)(d0 d:Array UInt8)(n bs:Nat):Ku key d0 d n bs 0:=fun _ _ h=>h
theorem Ku.step{key:UInt8→Nat}{d0 d e:Array UInt8}{n bs a:Nat}(h:Ku key d0 d n bs a)(hs:Dh d e a (a+bs))(hb:a+bs≤n)(g:Good key d0 e a (a+bs)):Ku key d0 e n bs (a+bs):=fun f b c=>
 h f (fun k hk=>by rw[b k (by omega),hs.o k (by omega)]) (.more a hb (g.agree fun k k1 k2=>b k k2) c)
theorem Ku.all{key:UInt8→Nat}{d0 d:Array UInt8}{n bs a:Nat}(h:Ku key d0 d n bs a)(hb:Dp key d0 d n bs a):Dp key d0 d n bs 0:=h d (fun _ _=>rfl) hb
theorem Dp.whole{key:UInt8→Nat}{d0 d:Array UInt8}{n bs:Nat}(h:Dp key d0 d n bs 0)(hb:n≤bs):Good key d0 d 0 n:=by
 cases h with
 |last _ _ _ g=>exact g
 |more _ h1 g _=>
  obtain rfl:bs=n:=by omega
  simpa using g
theorem Dp.two{key:UInt8→Nat}{d0 d:Array UInt8}{n bs a:Nat}(h:Dp key d0 d n bs a)(b:0<bs)(hb:a+2*bs≤n):Good key d0 d a (a+bs)∧Good key d0 d (a+bs) (a+2*bs)∧Dp key d0 d n bs (a+2*bs):=by
 cases h with
 |last _ h1 _ _=>omega
 |more _ h1 g r=>
  cases r with
  |last _ h2 c g2=>
   obtain rfl:n=a+2*bs:=by omega
   exact⟨g,g2,.last _ (by omega) (Ane _) (Good.none ..)⟩
  |more _ h2 g2 r2=>
   have e:a+bs+bs=a+2*bs:=by omega
   rw[e]at g2 r2;exact⟨g,g2,r2⟩
theorem Dp.rest{key:UInt8→Nat}{d0 d:Array UInt8}{n bs a:Nat}(h:Dp key d0 d n bs a)(c:a+bs<n)(hb:n<a+2*bs):Good key d0 d a (a+bs)∧Good key d0 d (a+bs) n:=by
 cases h with
 |last _ h1 _ _=>omega
 |more _ h1 g r=>
  cases r with
  |last _ h2 b g2=>exact⟨g,g2⟩
  |more _ h2 g2 r2=>omega
theorem Dp.one{key:UInt8→Nat}{d0 d:Array UInt8}{n bs a:Nat}(h:Dp key d0 d n bs a)(c:n≤a+bs)(b:a≤n):Dp key d0 d n (2*bs) a:=by
 cases h with
 |last _ h1 _ g=>exact .last _ (by omega) b g
 |more _ h1 g r=>
  obtain rfl:n=a+bs:=by omega
  exact .last _ (by omega) b g
end Hm
end Go.Proofs.YtegnkfdbmmndaaaGreat
namespace Go.Proofs.YtegnkfdbmmndaaaGreat
open Hm Go.Proofs.Tryz Go.RowKit
theorem Ajb:(prog.info? 210).map (fun i=>(i.zero,i.size,i.bytes))=some (some (.agg #[.int .i64 0,.int .i64 0]),2,16):=by kernel_rfl
def G0:List (Nat×Nat)→Are
 |[]=>[]
 |p::r=> .int .i64 (p.1:Nat):: .int .i64 (p.2:Nat)::G0 r
theorem Aaq(l:List (Nat×Nat)):(G0 l).length=l.length*2:=by
 induction l with
 |nil=>rfl
 |cons p r ih=>simp[G0,ih];omega
theorem Wo(l:List (Nat×Nat)): ∀i,(h:i<l.length)→(G0 l)[i*2]?=some (.int .i64 (l[i].1:Nat)):=by
 induction l with
 |nil=>intro i h;simp at h
 |cons p r ih=>
  intro i h;cases i with
  |zero=>rfl
  |succ i=>
   have:=ih i (by simpa using h);rw[show(i+1)*2=i*2+1+1 from by omega];simpa[G0]using this
theorem Wp(l:List (Nat×Nat)): ∀i,(h:i<l.length)→(G0 l)[i*2+1]?=some (.int .i64 (l[i].2:Nat)):=by
 induction l with
 |nil=>intro i h;simp at h
 |cons p r ih=>
  intro i h;cases i with
  |zero=>rfl
  |succ i=>
   have:=ih i (by simpa using h);rw[show(i+1)*2+1=i*2+1+1+1 from by omega];simpa[G0]using this
theorem Aep(l:List (Nat×Nat))(x:Nat): ∀i,(h:i<l.length)→(G0 l).set (i*2) (.int .i64 (x:Nat))=G0 (l.set i (x,l[i].2)):=by
 induction l with
 |nil=>intro i h;simp at h
 |cons p r ih=>
  intro i h;cases i with
  |zero=>rfl
  |succ i=>
   have:=ih i (by simpa using h);rw[show(i+1)*2=i*2+1+1 from by omega];simp[G0,this]
theorem Aeq(l:List (Nat×Nat))(x:Nat): ∀i,(h:i<l.length)→(G0 l).set (i*2+1) (.int .i64 (x:Nat))=G0 (l.set i (l[i].1,x)):=by
 induction l with
 |nil=>intro i h;simp at h
 |cons p r ih=>
  intro i h;cases i with
  |zero=>rfl
  |succ i=>
   have:=ih i (by simpa using h);rw[show(i+1)*2+1=i*2+1+1+1 from by omega];simp[G0,this]
def B8(w:World)(g:Nat)(l:List (Nat×Nat)):Prop:=w.heap[g]?=some (.cells (G0 l).toArray 210 (0,0))
theorem B8.fst{w:World}{g:Nat}{l:List (Nat×Nat)}(h:B8 w g l){i:Nat}(hi:i<l.length):w.cell? ⟨g,i*2,none⟩=some (.int .i64 (l[i].1:Nat)):=by
 rw[Am7 _ _ _ _ _ _ h];simpa using Wo l i hi
theorem B8.snd{w:World}{g:Nat}{l:List (Nat×Nat)}(h:B8 w g l){i:Nat}(hi:i<l.length):w.cell? ⟨g,i*2+1,none⟩=some (.int .i64 (l[i].2:Nat)):=by
 rw[Am7 _ _ _ _ _ _ h];simpa using Wp l i hi
theorem B8.free{w:World}{g:Nat}{l:List (Nat×Nat)}(h:B8 w g l)(i:Nat):w.frozen? ⟨g,i,none⟩=false:=Ang _ _ i _ _ h
theorem B8.set1{w:World}{g:Nat}{l:List (Nat×Nat)}(h:B8 w g l)(i x:Nat)(hi:i<l.length):B8 (w.setCell ⟨g,i*2,none⟩ (.int .i64 (x:Nat))) g (l.set i (x,l[i].2)):=by
 have h2:=Anb w g (i*2) _ _ (.int .i64 (x:Nat)) h;unfold B8;rw[h2,←Aep l x i hi];congr 2;apply Api;simp
theorem B8.set2{w:World}{g:Nat}{l:List (Nat×Nat)}(h:B8 w g l)(i x:Nat)(hi:i<l.length):B8 (w.setCell ⟨g,i*2+1,none⟩ (.int .i64 (x:Nat))) g (l.set i (l[i].1,x)):=by
 have h2:=Anb w g (i*2+1) _ _ (.int .i64 (x:Nat)) h;unfold B8;rw[h2,←Aeq l x i hi];congr 2;apply Api;simp
theorem B8.lt{w:World}{g:Nat}{l:List (Nat×Nat)}(h:B8 w g l):g<w.heap.size:=Anu h
theorem B8.kept{S:Nat→Prop}{w w':World}{g:Nat}{l:List (Nat×Nat)}(h:B8 w g l)(hk:Aa S w w')(hn: ¬S g):B8 w' g l:=hk.row h hn
theorem Ahc(n:Nat):(madeCells (Value.agg #[.int .i64 0,.int .i64 0]).cells (n*2)).toList=G0 (List.replicate n (0,0)):=by
 have c:(G0 (List.replicate n (0,0))).length=n*2:=by rw[Aaq];simp
 apply Aon
 ·rw[c];simp[madeCells]
 ·intro i h1 h2;have d:(Value.agg #[.int .i64 0,.int .i64 0]).cells= #[.int .i64 0,.int .i64 0]:=rfl;have e1:(madeCells (Value.agg #[.int .i64 0,.int .i64 0]).cells (n*2)).toList[i]= .int .i64 0:=by
   simp[madeCells,d];rcases Aqc i with h|h<;>simp[h]
  rw[e1];have b:i<n*2:=by omega
  rcases Aqc i with h|h
  ·have a:=Wo (List.replicate n (0,0)) (i/2) (by simp;omega);rw[show i/2*2=i from by omega,Am5 h2]at a;simp at a;exact a.symm
  ·have a:=Wp (List.replicate n (0,0)) (i/2) (by simp;omega);rw[show i/2*2+1=i from by omega,Am5 h2]at a;simp at a;exact a.symm
theorem B8.made{w':World}{g n:Nat}{base:Nat}(h:w'.ownsRow base 210 2 (.slice (some ⟨g,0,none⟩) n n) n (madeCells (Value.agg #[.int .i64 0,.int .i64 0]).cells (n*2)).toList):B8 w' g (List.replicate n (0,0)):=by
 rcases h.2 with⟨h1,_⟩|⟨g2,cap,cur,h1,_,a,_,_,hs,ht⟩
 ·cases h1
 ·cases h1;unfold B8;rw[a];congr 2;apply Api;have e:cur.toList.take (n*2)=cur.toList:=An5 (by simp;omega);rw[←e,ht,Ahc]
namespace Hm
def Qd(l:Ard)(wd i:Nat):Nat×Nat:=(l.getD i 0,l.getD (i+wd) 0)
def D6(l:Ard)(wd:Nat):List (Nat×Nat):=(List.range l.length).map (Qd l wd)
def Dq(l:Ard)(wd k:Nat):List (Nat×Nat):=(List.range l.length).map fun i=>if i<k then Qd l wd i else(0,0)
theorem Yg(l:Ard)(wd k:Nat):(Dq l wd k).length=l.length:=by simp[Dq]
theorem Yh(l:Ard)(wd:Nat):(D6 l wd).length=l.length:=by simp[D6]
theorem Acj(l:Ard)(wd:Nat):Dq l wd 0=List.replicate l.length (0,0):=by
 apply Aon<;>simp[Dq]
theorem Aer(l:Ard)(wd:Nat):Dq l wd l.length=D6 l wd:=by
 apply Aon
 ·simp[Dq,D6]
 ·intro i h1 h2;have:i<l.length:=by simpa[Dq]using h1
  simp[Dq,D6,this]
theorem Px(l:Ard)(wd k i:Nat)(h:i<(Dq l wd k).length):(Dq l wd k)[i]=if i<k then Qd l wd i else(0,0):=by simp[Dq]
theorem Sz(l:Ard)(wd k:Nat)(_h:k<l.length):Dq l wd (k+1)=(Dq l wd k).set k (Qd l wd k):=by
 apply Aon
 ·simp[Dq]
 ·intro i h1 h2;rw[Aql,Px,Px]
  by_cases e:k=i
  ·subst e;simp
  ·rw[if_neg e]
   by_cases a:i<k
   ·rw[if_pos a,if_pos (by omega)]
   ·rw[if_neg a,if_neg (by omega)]
end Hm
theorem Ahd(g0 c:Nat)(l:Ard)(wd:Nat)(w:World)(f:IntRow w g0 l)(K:l.length≤6001)(L:wd≤6000)(t: ∀x∈l,x≤1000000):
  Calls prog 133 #[.slice (some ⟨g0,0,none⟩) l.length c,.int .i64 wd] w fun e w'=>e= .returned (.slice (some ⟨w.heap.size,0,none⟩) l.length l.length)∧B8 w' w.heap.size (D6 l wd)∧Ara w w':=by
 obtain⟨i0,hi,A,B,C⟩:=Aoo Ajb;have G:=f.lt
 go_enter func133,ntmps133
 go_wp2_with(at_make;refine Apr _ rfl (.tmp 9) (.tmp 9) 206 rfl w.heap.size 210 i0 (.agg #[.int .i64 0,.int .i64 0]) 2 underlying206 hi A B .i64 .i64 _ _ l.length rfl rfl rfl rfl (by rw[C];omega) (by unfold maxLen;omega) (Ane _) ?_;intro w1 r n)
 have s:B8 w1 w.heap.size (Dq l wd 0):=by rw[Acj];exact B8.made r
 have p:Ara w w1:=(Aa.refl _ _).grown n (fun k hk=>by cases hk);clear r n
 go_loopw[13] (fun i wr=> ∃k:Nat,k≤l.length∧i= .int .i64 k∧B8 wr w.heap.size (Dq l wd k)∧Ara w wr) (fun i _=>l.length-(intOf i).toNat)
 case atStart=>exact⟨0,Ann _,rfl,s,p⟩
 case round=>
  clear s p;obtain⟨k,hk,rfl,g,b⟩:=hrel
  by_cases d:k<l.length
  ·have q:=Yg l wd k;have J:=(f.kept b id).cell d;have v:=g.fst (i:=k) (by omega);have y:=g.snd (i:=k) (by omega);have E:=g.free (k*2);have F:=g.free (k*2+1);have a:=Px l wd k k (by omega);rw[if_neg (by omega)]at a;rw[a]at v y;have HS:=g.set1 k l[k] (by omega);rw[a]at HS;have H: ¬g0=w.heap.size:=by omega
   by_cases j:k+wd<l.length
   ·have D:=(f.kept b id).cell j;have h:=HS.set2 k l[k+wd] (by simp;omega);have e:((Dq l wd k).set k (l[k],0)).set k ((((Dq l wd k).set k (l[k],0))[k]'(by simp;omega)).1,l[k+wd])=Dq l wd (k+1):=by
     rw[Sz _ _ _ d];simp[Qd,d,j]
    rw[e]at h;have u:Hid (B8 _ w.heap.size (Dq l wd (k+1))):=h;have z:=t l[k] (Anm _);have I:=t l[k+wd] (Anm _);generalize l[k]=x1 at*;generalize l[k+wd]=x2 at*;have m:decide ((k:Int)+(wd:Int)<(l.length:Int))=true:=by simp;omega
    clear HS h g q a e f t;go_wp2;go_roundw
    case rel=>exact⟨k+1,by omega,by go_num,u.o,(b.setCell (.inl (Ane _)) _).setCell (.inl (Ane _)) _⟩
    case measure=>simp[intOf];omega
   ·have e:(Dq l wd k).set k (l[k],0)=Dq l wd (k+1):=by
     rw[Sz _ _ _ d];simp[Qd,d,j]
    rw[e]at HS;have u:Hid (B8 _ w.heap.size (Dq l wd (k+1))):=HS;have z:=t l[k] (Anm _);generalize l[k]=x1 at*;have m:decide ((k:Int)+(wd:Int)<(l.length:Int))=false:=by simp;omega
    clear HS g q a e f t;go_wp2;go_roundw
    case rel=>exact⟨k+1,by omega,by go_num,u.o,b.setCell (.inl (Ane _)) _⟩
    case measure=>simp[intOf];omega
  ·go_wp2;go_ret;obtain rfl:k=l.length:=by omega
   rw[Aer]at g;exact⟨rfl,g,b⟩
end Go.Proofs.YtegnkfdbmmndaaaGreat
