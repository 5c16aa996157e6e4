import Derived.Test.YtegnkfdbmmndaaaGreatK03

set_option maxHeartbeats 8000000
set_option maxRecDepth 100000
namespace Go.Proofs.YtegnkfdbmmndaaaGreat
open Hm Go.Proofs.Tryz
variable{d d0 d1 e f:Array UInt8}{a b b' bs c g i j m mid n p r r0 s s0 x:Nat}{key:UInt8->Nat}{Rl:UInt8->UInt8->Prop}{w w':World}{l:List (Nat×Nat)}
section
open Go.Sort
namespace Hm
structure Ord(cf:UInt8->UInt8->Int)(key:UInt8->Nat)(Rl:UInt8->UInt8->Prop):Prop where
 lt: ∀x y,Rl x y->(cf y x<0↔key y<key x)
 ne: ∀x y,Rl x y->key x≠key y
def Srt(key:UInt8->Nat)(d:Array UInt8)(a b:Nat):Prop:= ∀i j,a<=i->i<j->j<b->key d[i]!<key d[j]!
def Mm(d:Array UInt8)(a b:Nat)(x:UInt8):Prop:= ∃k,a<=k/\k<b/\d[k]! =x
def LR(Rl:UInt8->UInt8->Prop)(d:Array UInt8)(a m b:Nat):Prop:= ∀i j,a<=i->i<m->m<=j->j<b->Rl d[i]! d[j]!
structure Dy(d d':Array UInt8)(a b:Nat):Prop where
 size:d'.size=d.size
 o: ∀k,(k<a\/b<=k)->d'[k]! =d[k]!
 mem: ∀x,Mm d' a b x↔Mm d a b x
structure Swr(d d':Array UInt8)(a b n:Nat):Prop where
 size:d'.size=d.size
 o: ∀k,(k<a\/(a+n<=k/\k<b)\/b+n<=k)->d'[k]! =d[k]!
 lo: ∀k,a<=k->k<a+n->d'[k]! =d[k-a+b]!
 hi: ∀k,b<=k->k<b+n->d'[k]! =d[k-b+a]!
structure Rot(d d':Array UInt8)(a m b:Nat):Prop where
 size:d'.size=d.size
 o: ∀k,(k<a\/b<=k)->d'[k]! =d[k]!
 lo: ∀k,a<=k->k<a+(b-m)->d'[k]! =d[k+(m-a)]!
 hi: ∀k,a+(b-m)<=k->k<b->d'[k]! =d[k-(b-m)]!
theorem Dy.refl(d:Array UInt8)(a b:Nat):Dy d d a b:=⟨rfl,fun _ _=>rfl,fun _=>Iff.rfl⟩
theorem Dy.trans(h:Dy d e a b)(k:Dy e f a b):Dy d f a b:=
 ⟨k.size.trans h.size,fun i hi=>(k.o i hi).trans (h.o i hi),fun x=>(k.mem x).trans (h.mem x)⟩
theorem Dy.wider(h:Dy d e a b)(l:g<=a)(hb:b<=b'):Dy d e g b':=by
 refine⟨h.size,fun k hk=>h.o k (by omega),fun x=>⟨fun⟨k,h1,h2,c⟩=>?_,fun⟨k,h1,h2,c⟩=>?_⟩⟩
 ·by_cases hk:a<=k/\k<b
  ·obtain⟨q,i,j,f⟩:=(h.mem x).1 ⟨k,hk.1,hk.2,c⟩;exact⟨q,by omega,by omega,f⟩
  ·exact⟨k,h1,h2,by rw[<-h.o k (by omega)];exact c⟩
 ·by_cases hk:a<=k/\k<b
  ·obtain⟨q,i,j,f⟩:=(h.mem x).2 ⟨k,hk.1,hk.2,c⟩;exact⟨q,by omega,by omega,f⟩
  ·exact⟨k,h1,h2,by rw[h.o k (by omega)];exact c⟩
theorem Srt.o(hs:Srt key d c b')(h:Dy d e a b)(g:b'<=a\/b<=c):Srt key e c b':=fun i j h1 h2 f=>by
 rw[h.o i (by omega),h.o j (by omega)];exact hs i j h1 h2 f
theorem Srt.one(key:UInt8->Nat)(d:Array UInt8)(a b:Nat)(h:b<=a+1):Srt key d a b:=fun i j h1 h2 c=>by omega
theorem Srt.le(hs:Srt key d a b)(h1:a<=i)(h2:i<=j)(c:j<b):key d[i]!<=key d[j]!:=by
 rcases Abf i j with h|h
 ·exact Nat.le_of_lt (hs i j h1 h c)
 ·obtain rfl:i=j:=by omega
  exact zK _
theorem Swr.zero(d:Array UInt8)(a b:Nat):Swr d d a b 0:=⟨rfl,fun _ _=>rfl,fun k h1 h2=>by omega,fun k h1 h2=>by omega⟩
theorem Swr.step(h:Swr d e a b n)(f:a+n<b)(hs:b+n<d.size):Swr d (swp e (a+n) (b+n)) a b (n+1):=by
 have c:=h.size;have g:(swp e (a+n) (b+n))[a+n]! =d[b+n]!:=by rw[swp_left _ _ _ (by omega) (by omega)];exact h.o _ (by omega)
 have i:(swp e (a+n) (b+n))[b+n]! =d[a+n]!:=by rw[swp_right _ _ _ (by omega)];exact h.o _ (by omega)
 refine⟨by rw[size_swp];exact c,fun k hk=>?_,fun k h1 h2=>?_,fun k h1 h2=>?_⟩
 ·rw[swp_other _ _ _ _ (by omega) (by omega)];exact h.o k (by omega)
 ·by_cases e1:k=a+n
  ·subst e1;rw[g];congr 1;omega
  ·rw[swp_other _ _ _ _ (by omega) (by omega)];exact h.lo k h1 (by omega)
 ·by_cases e1:k=b+n
  ·subst e1;rw[i];congr 1;omega
  ·rw[swp_other _ _ _ _ (by omega) (by omega)];exact h.hi k h1 (by omega)
theorem Rot.id_left(d:Array UInt8)(m b:Nat)(h:m<=b):Rot d d m m b:=⟨rfl,fun _ _=>rfl,fun k h1 h2=>by congr 1;omega,fun k h1 h2=>by omega⟩
theorem Rot.id_right(d:Array UInt8)(a m:Nat):Rot d d a m m:=⟨rfl,fun _ _=>rfl,fun k h1 h2=>by omega,fun k h1 h2=>by congr 1;omega⟩
theorem Rot.of_swr(h:Swr d e (m-i) m i)(hi:i<=m):Rot d e (m-i) m (m+i):=by
 refine⟨h.size,fun k hk=>h.o k (by omega),fun k h1 h2=>?_,fun k h1 h2=>?_⟩
 ·rw[h.lo k h1 (by omega)];congr 1;omega
 ·rw[h.hi k (by omega) (by omega)];congr 1;omega
theorem Rot.by_left(h:Swr d e (m-i) m j)(a:j<i)(hi:i<=m)(r:Rot e f (m-(i-j)) m (m+j)):Rot d f (m-i) m (m+j):=by
 refine⟨r.size.trans h.size,fun k hk=>?_,fun k h1 h2=>?_,fun k h1 h2=>?_⟩
 ·rw[r.o k (by omega)];exact h.o k (by omega)
 ·rw[r.o k (by omega),h.lo k h1 (by omega)];congr 1;omega
 ·by_cases b:k<m-(i-j)+j
  ·rw[r.lo k (by omega) (by omega),h.hi _ (by omega) (by omega)];congr 1;omega
  ·rw[r.hi k (by omega) (by omega),h.o _ (by omega)]
theorem Rot.by_right(h:Swr d e (m-i) (m+j-i) i)(a:i<j)(hi:i<=m)(r:Rot e f (m-i) m (m+(j-i))):Rot d f (m-i) m (m+j):=by
 refine⟨r.size.trans h.size,fun k hk=>?_,fun k h1 h2=>?_,fun k h1 h2=>?_⟩
 ·rw[r.o k (by omega)];exact h.o k (by omega)
 ·by_cases b:k<m-i+(j-i)
  ·rw[r.lo k (by omega) (by omega),h.o _ (by omega)]
  ·rw[r.hi k (by omega) (by omega),h.lo _ (by omega) (by omega)];congr 1;omega
 ·rw[r.o k (by omega),h.hi k (by omega) (by omega)];congr 1;omega
theorem Rot.same{t:Nat}(r:Rot d e s m t)(h1:s<=m)(h2:m<=t):Dy d e s t:=by
 refine⟨r.size,r.o,fun x=>⟨fun⟨k,k1,k2,k3⟩=>?_,fun⟨k,k1,k2,k3⟩=>?_⟩⟩
 ·by_cases hk:k<s+(t-m)
  ·exact⟨k+(m-s),by omega,by omega,by rw[<-r.lo k k1 hk];exact k3⟩
  ·exact⟨k-(t-m),by omega,by omega,by rw[<-r.hi k (by omega) k2];exact k3⟩
 ·by_cases hk:k<m
  ·exact⟨k+(t-m),by omega,by omega,by rw[r.hi _ (by omega) (by omega),show k+(t-m)-(t-m)=k from by omega];exact k3⟩
  ·exact⟨k-(m-s),by omega,by omega,by rw[r.lo _ (by omega) (by omega),show k-(m-s)+(m-s)=k from by omega];exact k3⟩
structure Ox(key:UInt8->Nat)(Rl:UInt8->UInt8->Prop)(d d1:Array UInt8)(a s mid e b:Nat):Prop where
 same:Dy d d1 a b
 s1:Srt key d1 a s
 s2:Srt key d1 s mid
 lr1:LR Rl d1 a s mid
 s3:Srt key d1 mid e
 s4:Srt key d1 e b
 lr2:LR Rl d1 mid e b
 cross: ∀i j,a<=i->i<mid->mid<=j->j<b->key d1[i]!<key d1[j]!
theorem Ox.of{e:Nat}(f:Srt key d a m)(g:Srt key d m b)(l:LR Rl d a m b)
  (u:a<=s) (p:s<=m) (v:s<=mid) (w:e+s=mid+m) (n:e<=b)
  (q: ∀i j,a<=i->i<s->e<=j->j<b->key d[i]!<key d[j]!) (t: ∀i j,s<=i->i<m->m<=j->j<e->key d[j]!<key d[i]!) (r:Rot d d1 s m e):Ox key Rl d d1 a s mid e b:=by
 have lo: ∀k,s<=k->k<mid->d1[k]! =d[k+(m-s)]!:=fun k h1 h2=>r.lo k h1 (by omega);have hi: ∀k,mid<=k->k<e->d1[k]! =d[k-(e-m)]!:=fun k h1 h2=>r.hi k (by omega) h2;refine⟨(r.same p (by omega)).wider u n,fun i j h1 h2 c=>?_,fun i j h1 h2 c=>?_,fun i j h1 h2 c h=>?_,fun i j h1 h2 c=>?_,fun i j h1 h2 c=>?_,fun i j h1 h2 c h=>?_,fun i j h1 h2 c h=>?_⟩
 ·rw[r.o i (by omega),r.o j (by omega)];exact f i j h1 h2 (by omega)
 ·rw[lo i h1 (by omega),lo j (by omega) c];exact g _ _ (by omega) (by omega) (by omega)
 ·rw[r.o i (by omega),lo j c h];exact l _ _ h1 (by omega) (by omega) (by omega)
 ·rw[hi i h1 (by omega),hi j (by omega) c];exact f _ _ (by omega) (by omega) (by omega)
 ·rw[r.o i (by omega),r.o j (by omega)];exact g i j (by omega) h2 c
 ·rw[hi i h1 h2,r.o j (by omega)];exact l _ _ (by omega) (by omega) (by omega) h
 ·by_cases c1:i<s
  ·rw[r.o i (by omega)]
   by_cases c2:j<e
   ·rw[hi j c c2];exact f _ _ h1 (by omega) (by omega)
   ·rw[r.o j (by omega)];exact q i j h1 c1 (by omega) h
  ·rw[lo i (by omega) h2]
   by_cases c2:j<e
   ·rw[hi j c c2];exact t _ _ (by omega) (by omega) (by omega) (by omega)
   ·rw[r.o j (by omega)];exact g _ _ (by omega) (by omega) h
theorem Ox.done{d2 d3:Array UInt8}{e:Nat}(h:Ox key Rl d d1 a s mid e b)(l:a<=mid)(hb:mid<=b)
  (h2:Dy d1 d2 a mid) (m:Srt key d2 a mid) (c:Dy d2 d3 mid b) (n:Srt key d3 mid b):Dy d d3 a b/\Srt key d3 a b:=by
 refine⟨h.same.trans ((h2.wider (zK _) hb).trans (c.wider l (zK _))),fun i j f g k=>?_⟩
 by_cases c1:j<mid
 ·rw[c.o i (by omega),c.o j (by omega)];exact m i j f g c1
 by_cases c2:mid<=i
 ·exact n i j c2 g k
 ·obtain⟨q,u,v,w⟩:=(h2.mem _).1 ⟨i,f,by omega,rfl⟩;obtain⟨p,p1,r,t⟩:=(c.mem _).1 ⟨j,by omega,k,rfl⟩;rw[c.o i (by omega),<-w,<-t,h2.o p (by omega)];exact h.cross q p u v p1 r
theorem Srt.whole(h1:Srt key d a s)(h2:Srt key d s b)(hs:s<=a\/b<=s):Srt key d a b:=fun i j e c f=>by
 rcases hs with h|h
 ·exact h2 i j (by omega) c f
 ·exact h1 i j e c (by omega)
theorem LR.o{f:Nat}(hs:LR Rl d c f b')(h:Dy d e a b)(l:b'<=a\/b<=c):LR Rl e c f b':=fun i j h1 h2 g k=>by
 rw[h.o i (by omega),h.o j (by omega)];exact hs i j h1 h2 g k
structure Nh(key:UInt8->Nat)(d:Array UInt8)(p s0 r0 s r:Nat):Prop where
 b1:s0<=s
 b2:s<=r
 b3:r<=r0
 lo: ∀c,s0<=c->c<s->key d[c]!<key d[p-c]!
 hi: ∀c,r<=c->c<r0->key d[p-c]!<key d[c]!
theorem Nh.start(h:s0<=r0):Nh key d p s0 r0 s0 r0:=⟨zK _,h,zK _,fun c h1 h2=>by omega,fun c h1 h2=>by omega⟩
theorem Nh.up(h:Nh key d p s0 r0 s r)(e:Srt key d a m)(f:Srt key d m b)(k:a<=s0)(h1:r0<=m)(h2:m+r0<=p+1)(l:p<b+s0)(q:s<=c)(t:c<r)
  (hk:key d[c]!<key d[p-c]!):Nh key d p s0 r0 (c+1) r:=by
 refine⟨by have:=h.b1;omega,by omega,h.b3,fun g n o=>?_,h.hi⟩;have:=h.b3;have:=h.b1;exact Abm (e.le (i:=g) (j:=c) (by omega) (by omega) (by omega)) (Aa9 hk (f.le (i:=p-c) (j:=p-g) (by omega) (by omega) (by omega)))
theorem Nh.down(h:Nh key d p s0 r0 s r)(e:Srt key d a m)(f:Srt key d m b)(l:a<=s0)(h1:r0<=m)(h2:m+r0<=p+1)(n:p<b+s0)(k:s<=c)(t:c<r)
  (hk:key d[p-c]!<key d[c]!):Nh key d p s0 r0 s c:=by
 refine⟨h.b1,k,by have:=h.b3;omega,h.lo,fun g o q=>?_⟩;have:=h.b3;have:=h.b1;exact Abm (f.le (i:=p-g) (j:=p-c) (by omega) (by omega) (by omega)) (Aa9 hk (e.le (i:=c) (j:=g) (by omega) (by omega) (by omega)))
theorem Nh.found(h:Nh key d (mid+m-1) s0 r0 s s)(c:Srt key d a m)(e:Srt key d m b)(u:a<=s0)(h1:r0<=m)(n:mid<b)(v:r0<=mid)(r:s0=a\/s0+b=mid+m)(q:r0=m\/r0=mid)(t:mid+m<=b+s0):
  (∀i j,a<=i->i<s->mid+m-s<=j->j<b->key d[i]!<key d[j]!)/\(∀i j,s<=i->i<m->m<=j->j<mid+m-s->key d[j]!<key d[i]!):=by
 have o:=h.b1;have p:=h.b3;refine⟨fun i j f g k l=>?_,fun i j f g k l=>?_⟩
 ·have hk:=h.lo (s-1) (by omega) (by omega);exact Abm (c.le (i:=i) (j:=s-1) f (by omega) (by omega)) (Aa9 hk (e.le (i:=mid+m-1-(s-1)) (j:=j) (by omega) (by omega) l))
 ·have hk:=h.hi s (zK _) (by omega);exact Abm (e.le (i:=j) (j:=mid+m-1-s) k (by omega) (by omega)) (Aa9 hk (c.le (i:=s) (j:=i) (by omega) (by omega) g))
structure K5(key:UInt8->Nat)(d:Array UInt8)(m b x i j:Nat):Prop where
 b1:m<=i
 b2:i<=j
 b3:j<=b
 lo: ∀c,m<=c->c<i->key d[c]!<x
 hi: ∀c,j<=c->c<b->x<key d[c]!
theorem K5.start(h:m<=b):K5 key d m b x m b:=⟨zK _,h,zK _,fun c h1 h2=>by omega,fun c h1 h2=>by omega⟩
theorem K5.up(h:K5 key d m b x i j)(hs:Srt key d m b)(g:i<=c)(k:c<j)(hk:key d[c]!<x):K5 key d m b x (c+1) j:=
 ⟨by have:=h.b1;omega,by omega,h.b3,fun a e f=>Abm (hs.le (i:=a) (j:=c) e (by omega) (by have:=h.b3;omega)) hk,h.hi⟩
theorem K5.down(h:K5 key d m b x i j)(hs:Srt key d m b)(g:i<=c)(k:c<j)(hk:x<key d[c]!):K5 key d m b x i c:=
 ⟨h.b1,g,by have:=h.b3;omega,h.lo,fun a e f=>Aa9 hk (hs.le (i:=c) (j:=a) (by have:=h.b1;omega) e f)⟩
theorem p7(h:K5 key d (a+1) b (key d[a]!) i i)(hs:Srt key d (a+1) b)(r:Rot d d1 a (a+1) i):Dy d d1 a b/\Srt key d1 a b:=by
 have e:=h.b1;have f:=h.b3;refine⟨(r.same (by omega) e).wider (zK _) f,fun p q h1 h2 c=>?_⟩;have lo: ∀k,a<=k->k+1<i->d1[k]! =d[k+1]!:=fun k h1 h2=>by rw[r.lo k h1 (by omega)];congr 1;omega
 have hi:d1[i-1]! =d[a]!:=by rw[r.hi (i-1) (by omega) (by omega)];congr 1;omega
 by_cases c1:p+1<i
 ·rw[lo p h1 c1]
  by_cases c2:q+1<i
  ·rw[lo q (by omega) c2];exact hs _ _ (by omega) (by omega) (by omega)
  ·by_cases c3:q=i-1
   ·rw[c3,hi];exact h.lo _ (by omega) (by omega)
   ·rw[r.o q (by omega)];exact hs _ _ (by omega) (by omega) c
 ·by_cases c2:p=i-1
  ·rw[c2,hi,r.o q (by omega)];exact h.hi q (by omega) c
  ·rw[r.o p (by omega),r.o q (by omega)];exact hs _ _ (by omega) h2 c
theorem Xr(h:K5 key d a m (key d[m]!) i i)(hs:Srt key d a m)(r:Rot d d1 i m (m+1)):Dy d d1 a (m+1)/\Srt key d1 a (m+1):=by
 have c:=h.b1;have e:=h.b3;refine⟨(r.same e (by omega)).wider c (zK _),fun p q h1 h2 b=>?_⟩;have lo:d1[i]! =d[m]!:=by rw[r.lo i (zK _) (by omega)];congr 1;omega
 have hi: ∀k,i<k->k<m+1->d1[k]! =d[k-1]!:=fun k h1 h2=>by rw[r.hi k (by omega) h2];congr 1;omega
 by_cases c1:p<i
 ·rw[r.o p (by omega)]
  by_cases c2:q<i
  ·rw[r.o q (by omega)];exact hs _ _ h1 h2 (by omega)
  ·by_cases c3:q=i
   ·rw[c3,lo];exact h.lo p h1 c1
   ·rw[hi q (by omega) b];exact hs _ _ h1 (by omega) (by omega)
 ·by_cases c2:p=i
  ·rw[c2,lo,hi q (by omega) b];exact h.hi _ (by omega) (by omega)
  ·rw[hi p (by omega) (by omega),hi q (by omega) b];exact hs _ _ (by omega) (by omega) (by omega)
theorem Rot.right_step(r:Rot d e a (a+1) (i+1))(hi:i+1<d.size)(h:a<=i):Rot d (swp e i (i+1)) a (a+1) (i+2):=by
 have b:=r.size;have f:e[i]! =d[a]!:=by rw[r.hi i (by omega) (by omega)];congr 1;omega
 have g:e[i+1]! =d[i+1]!:=r.o _ (by omega);refine⟨by rw[size_swp];exact b,fun k hk=>?_,fun k h1 h2=>?_,fun k h1 h2=>?_⟩
 ·rw[swp_other _ _ _ _ (by omega) (by omega)];exact r.o k (by omega)
 ·by_cases c:k=i
  ·subst c;rw[swp_left _ _ _ (by omega) (by omega),g];congr 1;omega
  ·rw[swp_other _ _ _ _ (by omega) (by omega),r.lo k h1 (by omega)]
 ·obtain rfl:k=i+1:=by omega
  rw[swp_right _ _ _ (by omega),f];congr 1;omega
theorem Rot.left_step(r:Rot d e (i+1) m (m+1))(g:m<d.size)(hi:i<m):Rot d (swp e (i+1) i) i m (m+1):=by
 have a:=r.size;have b:e[i+1]! =d[m]!:=by rw[r.lo (i+1) (zK _) (by omega)];congr 1;omega
 have f:e[i]! =d[i]!:=r.o _ (by omega);refine⟨by rw[size_swp];exact a,fun k hk=>?_,fun k h1 h2=>?_,fun k h1 h2=>?_⟩
 ·rw[swp_other _ _ _ _ (by omega) (by omega)];exact r.o k (by omega)
 ·obtain rfl:k=i:=by omega
  rw[swp_right _ _ _ (by omega),b];congr 1;omega
 ·by_cases c:k=i+1
  ·subst c;rw[swp_left _ _ _ (by omega) (by omega),f];congr 1;omega
  ·rw[swp_other _ _ _ _ (by omega) (by omega),r.hi k (by omega) h2]
structure Ins(key:UInt8->Nat)(d e:Array UInt8)(a i j:Nat):Prop where
 b1:a<=j
 b2:j<=i
 rot:Rot d e j i (i+1)
 hi: ∀c,j<=c->c<i->key d[i]!<key d[c]!
theorem Ins.start(key:UInt8->Nat)(d:Array UInt8)(a i:Nat)(h:a<=i):Ins key d d a i i:=⟨h,zK _,Rot.id_left d i (i+1) (by omega),fun c h1 h2=>by omega⟩
theorem Ins.step(h:Ins key d e a i (j+1))(k:a<=j)(hi:i<d.size)(hk:key e[j+1]!<key e[j]!):Ins key d (swp e (j+1) j) a i j:=by
 have g:=h.b2;have b:e[j+1]! =d[i]!:=by rw[h.rot.lo (j+1) (zK _) (by omega)];congr 1;omega
 have f:e[j]! =d[j]!:=h.rot.o _ (by omega);refine⟨k,by omega,Rot.left_step h.rot hi (by omega),fun c h1 h2=>?_⟩
 by_cases c1:c=j
 ·subst c1;rw[b,f]at hk;exact hk
 ·exact h.hi c (by omega) h2
theorem Ins.done(h:Ins key d e a i j)(hs:Srt key d a i)(hk:j=a\/(a<j/\key e[j-1]!<key e[j]!)):Dy d e a (i+1)/\Srt key e a (i+1):=by
 have f:=h.b1;have g:=h.b2;refine Xr (i:=j) ⟨f,zK _,g,fun c h1 h2=>?_,h.hi⟩ hs h.rot;rcases hk with hk|⟨m,b⟩
 ·omega
 ·have k:e[j]! =d[i]!:=by rw[h.rot.lo j (zK _) (by omega)];congr 1;omega
  have l:e[j-1]! =d[j-1]!:=h.rot.o _ (by omega);rw[k,l]at b;exact Abm (hs.le (i:=c) (j:=j-1) h1 (by omega) (by omega)) b
structure Good(key:UInt8->Nat)(d0 d:Array UInt8)(a b:Nat):Prop where
 mem: ∀x,Mm d a b x↔Mm d0 a b x
 srt:Srt key d a b
theorem Good.none(key:UInt8->Nat)(d0 d:Array UInt8)(a:Nat):Good key d0 d a a:=⟨fun x=>⟨fun⟨k,h1,h2,_⟩=>by omega,fun⟨k,h1,h2,_⟩=>by omega⟩,Srt.one _ _ _ _ (by omega)⟩
theorem Good.agree(h:Good key d0 d a b)(f: ∀k,a<=k->k<b->e[k]! =d[k]!):Good key d0 e a b:=by
 refine⟨fun x=>⟨fun⟨k,h1,h2,c⟩=>(h.mem x).1 ⟨k,h1,h2,by rw[<-f k h1 h2];exact c⟩,fun g=>?_⟩,fun i j h1 h2 c=>?_⟩
 ·obtain⟨k,h1,h2,c⟩:=(h.mem x).2 g;exact⟨k,h1,h2,by rw[f k h1 h2];exact c⟩
 ·rw[f i h1 (by omega),f j (by omega) c];exact h.srt i j h1 h2 c
theorem Good.lr(h:Good key d0 d a m)(k:Good key d0 d m b)(f: ∀i j,i<j->j<n->Rl d0[i]! d0[j]!)(hb:b<=n):LR Rl d a m b:=fun i j h1 h2 c e=>by
 obtain⟨p,p1,o,g⟩:=(h.mem _).1 ⟨i,h1,h2,rfl⟩;obtain⟨q,r,s,l⟩:=(k.mem _).1 ⟨j,c,e,rfl⟩;rw[<-g,<-l];exact f p q (by omega) (by omega)
theorem jE(d:Array UInt8)(a m b:Nat)(h1:a<=m)(h2:m<=b)(x:UInt8):Mm d a b x↔Mm d a m x\/Mm d m b x:=
 ⟨fun⟨k,k1,k2,k3⟩=>by
  by_cases h:k<m
  ·exact .inl ⟨k,k1,h,k3⟩
  ·exact .inr ⟨k,by omega,k2,k3⟩,fun h=>by
  rcases h with⟨k,k1,k2,k3⟩|⟨k,k1,k2,k3⟩
  ·exact⟨k,k1,by omega,k3⟩
  ·exact⟨k,by omega,k2,k3⟩⟩
theorem Good.merged(h:Good key d0 d a m)(k:Good key d0 d m b)(h1:a<=m)(h2:m<=b)(hs:Dy d e a b)(hk:Srt key e a b):Good key d0 e a b:=
 ⟨fun x=>by rw[hs.mem,jE d a m b h1 h2,jE d0 a m b h1 h2,h.mem,k.mem],hk⟩
inductive D3 (key:UInt8->Nat) (d0 d:Array UInt8) (n bs:Nat):Nat->Prop
 |last (a:Nat) (h1:n<=a+bs) (h2:a<=n) (g:Good key d0 d a n):D3 key d0 d n bs a
 |more (a:Nat) (h1:a+bs<=n) (g:Good key d0 d a (a+bs)) (r:D3 key d0 d n bs (a+bs)):D3 key d0 d n bs a
theorem D3.agree(h:D3 key d0 d n bs a)(b: ∀k,a<=k->k<n->e[k]! =d[k]!):D3 key d0 e n bs a:=by
 induction h with
 |last a h1 h2 g=>exact .last a h1 h2 (g.agree b)
 |more a h1 g r ih=>exact .more a h1 (g.agree fun k c f=>b k c (by omega)) (ih fun k c f=>b k (by omega) f)
def Lv(key:UInt8->Nat)(d0 d:Array UInt8)(n bs a:Nat):Prop:= ∀e:Array UInt8,(∀k,k<a->e[k]! =d[k]!)->D3 key d0 e n bs a->D3 key d0 e n bs 0
theorem Lv.none(key:UInt8->Nat)(d0 d:Array UInt8)(n bs:Nat):Lv key d0 d n bs 0:=fun _ _ h=>h
theorem Lv.step(h:Lv key d0 d n bs a)(hs:Dy d e a (a+bs))(hb:a+bs<=n)(g:Good key d0 e a (a+bs)):Lv key d0 e n bs (a+bs):=fun f b c=>
 h f (fun k hk=>by rw[b k (by omega),hs.o k (by omega)]) (.more a hb (g.agree fun k j i=>b k i) c)
theorem Lv.all(h:Lv key d0 d n bs a)(hb:D3 key d0 d n bs a):D3 key d0 d n bs 0:=h d (fun _ _=>rfl) hb
theorem D3.whole(h:D3 key d0 d n bs 0)(hb:n<=bs):Good key d0 d 0 n:=by
 cases h with
 |last _ _ _ g=>exact g
 |more _ h1 g _=>
  obtain rfl:bs=n:=by omega
  simpa using g
theorem D3.two(h:D3 key d0 d n bs a)(b:0<bs)(hb:a+2*bs<=n):Good key d0 d a (a+bs)/\Good key d0 d (a+bs) (a+2*bs)/\D3 key d0 d n bs (a+2*bs):=by
 cases h with
 |last _ h1 _ _=>omega
 |more _ h1 g r=>
  cases r with
  |last _ h2 c g2=>
   obtain rfl:n=a+2*bs:=by omega
   exact⟨g,g2,.last _ (by omega) (zK _) (Good.none ..)⟩
  |more _ h2 g2 r2=>
   have e:a+bs+bs=a+2*bs:=by omega
   rw[e]at g2 r2;exact⟨g,g2,r2⟩
theorem D3.rest(h:D3 key d0 d n bs a)(c:a+bs<n)(hb:n<a+2*bs):Good key d0 d a (a+bs)/\Good key d0 d (a+bs) n:=by
 cases h with
 |last _ h1 _ _=>omega
 |more _ h1 g r=>
  cases r with
  |last _ h2 b g2=>exact⟨g,g2⟩
  |more _ h2 g2 r2=>omega
theorem D3.one(h:D3 key d0 d n bs a)(c:n<=a+bs)(b:a<=n):D3 key d0 d n (2*bs) a:=by
 cases h with
 |last _ h1 _ g=>exact .last _ (by omega) b g
 |more _ h1 g r=>
  obtain rfl:n=a+bs:=by omega
  exact .last _ (by omega) b g
end Hm
end
section
open Go.RowKit
theorem tH:(prog.info? 210).map (fun i=>(i.zero,i.size,i.bytes))=some (some (.agg #[.int .i64 0,.int .i64 0]),2,16):=by kernel_rfl
def Hf:List (Nat×Nat)->Aei
 |[]=>[]
 |p::r=> .int .i64 p.1:: .int .i64 p.2::Hf r
theorem fZ(l:List (Nat×Nat)):(Hf l).length=l.length*2:=by
 induction l with
 |nil=>rfl
 |cons p r ih=>simp[Hf,ih];omega
theorem Zx(l:List (Nat×Nat)): ∀i,(h:i<l.length)->(Hf l)[i*2]?=some (.int .i64 (l[i].1:Nat)):=by
 induction l with
 |nil=>intro i h;simp at h
 |cons p r ih=>
  intro i h;cases i with
  |zero=>rfl
  |succ i=>
   have:=ih i (by simpa using h);rw[show(i+1)*2=i*2+1+1 from by omega];simpa[Hf]using this
theorem Zy(l:List (Nat×Nat)): ∀i,(h:i<l.length)->(Hf l)[i*2+1]?=some (.int .i64 (l[i].2:Nat)):=by
 induction l with
 |nil=>intro i h;simp at h
 |cons p r ih=>
  intro i h;cases i with
  |zero=>rfl
  |succ i=>
   have:=ih i (by simpa using h);rw[show(i+1)*2+1=i*2+1+1+1 from by omega];simpa[Hf]using this
theorem mI(l:List (Nat×Nat))(x:Nat): ∀i,(h:i<l.length)->(Hf l).set (i*2) (.int .i64 x)=Hf (l.set i (x,l[i].2)):=by
 induction l with
 |nil=>intro i h;simp at h
 |cons p r ih=>
  intro i h;cases i with
  |zero=>rfl
  |succ i=>
   have:=ih i (by simpa using h);rw[show(i+1)*2=i*2+1+1 from by omega];simp[Hf,this]
theorem mJ(l:List (Nat×Nat))(x:Nat): ∀i,(h:i<l.length)->(Hf l).set (i*2+1) (.int .i64 x)=Hf (l.set i (l[i].1,x)):=by
 induction l with
 |nil=>intro i h;simp at h
 |cons p r ih=>
  intro i h;cases i with
  |zero=>rfl
  |succ i=>
   have:=ih i (by simpa using h);rw[show(i+1)*2+1=i*2+1+1+1 from by omega];simp[Hf,this]
def Cn(w:World)(g:Nat)(l:List (Nat×Nat)):Prop:=w.heap[g]?=some (.cells (Hf l).toArray 210 (0,0))
theorem Cn.fst(h:Cn w g l){i:Nat}(hi:i<l.length):w.cell? ⟨g,i*2,none⟩=some (.int .i64 (l[i].1:Nat)):=by
 rw[zP _ _ _ _ _ _ h];simpa using Zx l i hi
theorem Cn.snd(h:Cn w g l){i:Nat}(hi:i<l.length):w.cell? ⟨g,i*2+1,none⟩=some (.int .i64 (l[i].2:Nat)):=by
 rw[zP _ _ _ _ _ _ h];simpa using Zy l i hi
theorem Cn.free(h:Cn w g l)(i:Nat):w.frozen? ⟨g,i,none⟩=false:=zR _ _ i _ _ h
theorem Cn.set1(h:Cn w g l)(i x:Nat)(hi:i<l.length):Cn (w.setCell ⟨g,i*2,none⟩ (.int .i64 x)) g (l.set i (x,l[i].2)):=by
 have h2:=zI w g (i*2) _ _ (I x) h;unfold Cn;rw[h2,<-mI l x i hi];congr 2;apply Abr;simp
theorem Cn.set2(h:Cn w g l)(i x:Nat)(hi:i<l.length):Cn (w.setCell ⟨g,i*2+1,none⟩ (.int .i64 x)) g (l.set i (l[i].1,x)):=by
 have h2:=zI w g (i*2+1) _ _ (I x) h;unfold Cn;rw[h2,<-mJ l x i hi];congr 2;apply Abr;simp
theorem Cn.lt(h:Cn w g l):g<w.heap.size:=Aac h
theorem Cn.kept{S:Nat->Prop}(h:Cn w g l)(hk:Aa S w w')(hn: ¬S g):Cn w' g l:=hk.row h hn
theorem p8(n:Nat):(madeCells (Value.agg #[.int .i64 0,.int .i64 0]).cells (n*2)).toList=Hf (List.replicate n (0,0)):=by
 have d:(Hf (List.replicate n (0,0))).length=n*2:=by rw[fZ];simp
 apply Aa1
 ·rw[d];simp[madeCells]
 ·intro i h1 h2;have e:(Value.agg #[I 0,I 0]).cells= #[I 0,I 0]:=rfl;have b:(madeCells (Value.agg #[I 0,I 0]).cells (n*2)).toList[i]=I 0:=by
   simp[madeCells,e];rcases Ac0 i with h|h<;>simp[h]
  rw[b];have c:i<n*2:=by omega
  rcases Ac0 i with h|h
  ·have a:=Zx (List.replicate n (0,0)) (i/2) (by simp;omega);rw[show i/2*2=i from by omega,zH h2]at a;simp at a;exact a.symm
  ·have a:=Zy (List.replicate n (0,0)) (i/2) (by simp;omega);rw[show i/2*2+1=i from by omega,zH h2]at a;simp at a;exact a.symm
theorem Cn.made{base:Nat}(h:w'.ownsRow base 210 2 (.slice (some ⟨g,0,none⟩) n n) n (madeCells (Value.agg #[.int .i64 0,.int .i64 0]).cells (n*2)).toList):Cn w' g (List.replicate n (0,0)):=by
 rcases h.2 with⟨h1,_⟩|⟨g2,cap,cur,h1,_,a,_,_,hs,ht⟩
 ·cases h1
 ·cases h1;unfold Cn;rw[a];congr 2;apply Abr;have e:cur.toList.take (n*2)=cur.toList:=Aap (by simp;omega);rw[<-e,ht,p8]
namespace Hm
def Si(l:Aeh)(a i:Nat):Nat×Nat:=(l.getD i 0,l.getD (i+a) 0)
def Ej(l:Aeh)(a:Nat):List (Nat×Nat):=(List.range l.length).map (Si l a)
def Ea(l:Aeh)(a k:Nat):List (Nat×Nat):=(List.range l.length).map fun i=>if i<k then Si l a i else(0,0)
theorem bY(l:Aeh)(a k:Nat):(Ea l a k).length=l.length:=by simp[Ea]
theorem bZ(l:Aeh)(a:Nat):(Ej l a).length=l.length:=by simp[Ej]
theorem jF(l:Aeh)(a:Nat):Ea l a 0=List.replicate l.length (0,0):=by
 apply Aa1<;>simp[Ea]
theorem mK(l:Aeh)(a:Nat):Ea l a l.length=Ej l a:=by
 apply Aa1
 ·simp[Ea,Ej]
 ·intro i h1 h2;have:i<l.length:=by simpa[Ea]using h1
  simp[Ea,Ej,this]
theorem Rz(l:Aeh)(a k i:Nat)(h:i<(Ea l a k).length):(Ea l a k)[i]=if i<k then Si l a i else(0,0):=by simp[Ea]
theorem Va(l:Aeh)(a k:Nat)(_h:k<l.length):Ea l a (k+1)=(Ea l a k).set k (Si l a k):=by
 apply Aa1
 ·simp[Ea]
 ·intro i h1 h2;rw[Ac5,Rz,Rz]
  by_cases e:k=i
  ·subst e;simp
  ·rw[if_neg e]
   by_cases b:i<k
   ·rw[if_pos b,iP]
   ·rw[if_neg b,iN]
end Hm
theorem p9(y c:Nat)(l:Aeh)(a:Nat)(w:World)(g:IntRow w y l)(Q:l.length<=6001)(R:a<=6000)(u: ∀x∈l,x<=1000000):
  Calls prog 133 #[.slice (some ⟨y,0,none⟩) l.length c,.int .i64 a] w fun e w'=>e= .returned (.slice (some ⟨w.heap.size,0,none⟩) l.length l.length)/\Cn w' w.heap.size (Ej l a)/\Aee w w':=by
 obtain⟨O,hi,C,D,E⟩:=Aa6 tH;have L:=g.lt
 go_enter func133,ntmps133
 go_wp2_with(at_make;refine Abv _ rfl (.tmp 9) (.tmp 9) 206 rfl w.heap.size 210 O (.agg #[I 0,I 0]) 2 underlying206 hi C D .i64 .i64 _ _ l.length rfl rfl rfl rfl (by rw[E];omega) (by unfold maxLen;omega) (zK _) ?_;intro F s p)
 have t:Cn F w.heap.size (Ea l a 0):=by rw[jF];exact Cn.made s
 have q:Aee w F:=(Aa.refl _ _).grown p (fun k hk=>by cases hk);clear s p
 go_loopw[13] (fun i wr=> ∃k:Nat,k<=l.length/\i=I k/\Cn wr w.heap.size (Ea l a k)/\Aee w wr) (fun i _=>l.length-(intOf i).toNat)
 case atStart=>exact⟨0,zZ _,rfl,t,q⟩
 case round=>
  clear t q;obtain⟨k,hk,rfl,h,d⟩:=hrel
  by_cases f:k<l.length
  ·have r:=bY l a k;have P:=(g.kept d id).cell f;have z:=h.fst (i:=k) (by omega);have A:=h.snd (i:=k) (by omega);have H:=h.free (k*2);have K:=h.free (k*2+1);have b:=Rz l a k k (by omega);rw[iN]at b;rw[b]at z A;have HS:=h.set1 k l[k] (by omega);rw[b]at HS;have M: ¬y=w.heap.size:=by omega
   by_cases m:k+a<l.length
   ·have G:=(g.kept d id).cell m;have j:=HS.set2 k l[k+a] (by simp;omega);have e:((Ea l a k).set k (l[k],0)).set k ((((Ea l a k).set k (l[k],0))[k]'(by simp;omega)).1,l[k+a])=Ea l a (k+1):=by
     rw[Va _ _ _ f];simp[Si,f,m]
    rw[e]at j;have v:=hZ j;have B:=u l[k] (z6 _);have N:=u l[k+a] (z6 _);generalize l[k]=x1 at*;generalize l[k+a]=x2 at*;have n:decide ((k:Int)+(a:Int)<(l.length:Int))=true:=by simp;omega
    clear HS j h r b e g u;go_wp2;go_roundw
    case rel=>exact⟨k+1,by omega,by go_num,v.o,(d.setCell (.inl (zK _)) _).setCell (.inl (zK _)) _⟩
    case measure=>simp[intOf];omega
   ·have e:(Ea l a k).set k (l[k],0)=Ea l a (k+1):=by
     rw[Va _ _ _ f];simp[Si,f,m]
    rw[e]at HS;have v:=hZ HS;have B:=u l[k] (z6 _);generalize l[k]=x1 at*;have n:decide ((k:Int)+(a:Int)<(l.length:Int))=false:=by simp;omega
    clear HS h r b e g u;go_wp2;go_roundw
    case rel=>exact⟨k+1,by omega,by go_num,v.o,d.setCell (.inl (zK _)) _⟩
    case measure=>simp[intOf];omega
  ·go_wp2;go_ret;obtain rfl:k=l.length:=by omega
   rw[mK]at h;exact⟨rfl,h,d⟩
end
end Go.Proofs.YtegnkfdbmmndaaaGreat
