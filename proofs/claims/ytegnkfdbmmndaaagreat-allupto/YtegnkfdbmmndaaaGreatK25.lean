import Derived.Test.YtegnkfdbmmndaaaGreatK24

set_option maxHeartbeats 8000000
set_option maxRecDepth 100000
namespace Go.Proofs.YtegnkfdbmmndaaaGreat
open Hm Go.Proofs.Tryz
variable{L ps:Aeh}{i n:Nat}
namespace Hm
theorem lM(l c:Nat):Dl l c=(A7 c l).reverse:=rfl
theorem Uq(x:Nat): ∀d l,A7 (x*2^d) (l+d)=List.replicate d false++A7 x l
 |0,l=>by simp
 |d+1,l=>by
  rw[<-Abw,Q9,Abx,Adf,<-Uq x d l];have e:x*2^(d+1)=2*(x*2^d):=by rw[Abl];ac_rfl
  rw[e,show 2*(x*2^d)/2=x*2^d from by omega];congr 1;exact zM (by omega)
theorem lN(x l n:Nat)(h:l<=n):Ka n (A7 x l)=A7 (x*2^(n-l)) n:=by
 unfold Ka;rw[Dx,<-Uq x (n-l) l,show l+(n-l)=n from by omega]
structure Far(L:Aeh)(t k:Nat)(s:CS):Prop where
 le:k<=(Af L).length
 less: ∀i,i<k->Hh L ((Af L).getD i 0)<256+t
 more: ∀i,k<=i->i<(Af L).length->256+t<=Hh L ((Af L).getD i 0)
 on:s.on=decide (0<k)
 code:s.code=A7 (B9 L (Af L) k).1 (B9 L (Af L) k).2
 len:s.o.length=256
 made: ∀i,i<k->s.o.getD ((Af L).getD i 0).toNat []=(A7 (B9 L (Af L) (i+1)).1 (B9 L (Af L) (i+1)).2).reverse
 none: ∀b:UInt8,(∀i,i<k->(Af L).getD i 0≠b)->s.o.getD b.toNat []=[]
theorem dN(l:List (List Bool))(i:Nat)(x:List Bool)(h:i<l.length):(l.set i x).getD i []=x:=by
 rw[zG,Adg h];rfl
theorem Wl(l:List (List Bool))(i j:Nat)(x:List Bool)(h:i≠j):(l.set i x).getD j []=l.getD j []:=by
 rw[zG,Adc h,<-zG]
theorem Bz.key_lt{j:Nat}(a:i<j)(b:j<(Af L).length):Hh L ((Af L).getD i 0)<Hh L ((Af L).getD j 0):=by
 rw[zG,zH (by omega:i<(Af L).length),zG,zH b];exact List.pairwise_iff_getElem.1 (Ey L) i j (by omega) b a
theorem Xg(L:Aeh)(b:UInt8):lnB L b=L.getD b.toNat 0:=rfl
theorem Far.step(x:Bz L){t k:Nat}{s:CS}(h:Far L t k s): ∃P K,Oq L (t/256+1) (t%256) s=some K/\Far L (t+1) P K:=by
 have O:t%256<256:=Nat.mod_lt _ (by omega);obtain⟨b,hb⟩: ∃b:UInt8,b.toNat=t%256:=⟨UInt8.ofNat (t%256),by rw[Aax];omega⟩
 by_cases y:L.getD (t%256) 0=t/256+1
 ·have p:lnB L b=t/256+1:=by rw[Xg,hb,y]
  have f:Hh L b=256+t:=by unfold Hh;rw[p,hb];omega
  have w:b∈Af L:=(x.mem b).2 (by omega);obtain⟨i,hi,d⟩:=Jr w;have A:i=k:=by
   rcases Aa7 i k with c|c|c
   ·have:=h.less i c;rw[d,f]at this;omega
   ·exact c
   ·have h1:=Bz.key_lt (L:=L) c hi;have h2:=h.more k (zK _) (by omega);rw[d,f]at h1;omega
  subst A;have u:B9 L (Af L) (i+1)=N2 L (B9 L (Af L) i) i b:=by rw[B9,d]
  have G: ∃R,Mq s=some R/\Ka (t/256+1) R=A7 (B9 L (Af L) (i+1)).1 (B9 L (Af L) (i+1)).2:=by
   rw[u];unfold N2;rw[p];cases i with
   |zero=>
    refine⟨s.code,?_,?_⟩
    ·unfold Mq;rw[h.on];rfl
    ·rw[h.code];show Ka (t/256+1) (A7 0 0)=_;rw[lN _ _ _ (by omega)];simp[B9]
   |succ i=>
    have v:=x.fits.lt i (by omega);have a:=x.fits.lt (i+1) hi;have g:=x.fits.asc_get (i:=i) (j:=i+1) (by omega) hi;have n:(B9 L (Af L) (i+1)).2=lnB L ((Af L).getD i 0):=Ix L _ i;rw[u,d]at a;rw[d,p]at g;unfold N2 at a;rw[p,iN,n]at a;simp only at a;obtain⟨m,E⟩:=gx ((B9 L (Af L) (i+1)).1);obtain⟨l,H⟩:=gx (lnB L ((Af L).getD i 0));rw[<-E,<-H]at v a;rw[<-H]at g n;have F:m+1<2^l:=by
     have e:2^(t/256+1)=2^l*2^(t/256+1-l):=by rw[<-Nat.pow_add];congr 1;omega
     rw[e]at a;exact Nat.lt_of_mul_lt_mul_right a
    refine⟨A7 (m+1) l,?_,?_⟩
    ·unfold Mq;rw[h.on,h.code,n,<-E];show Gl _=_;rw[Zg l m v,if_pos F]
    ·rw[lN _ _ _ g,<-E,n,iN]
  obtain⟨R,N,q⟩:=G;refine⟨i+1,⟨s.o.set (t%256) (Ka (t/256+1) R).reverse,Ka (t/256+1) R,true⟩,?_,?_⟩
  ·unfold Oq;rw[if_pos y,N];rfl
  ·refine⟨hi,fun j C=>?_,fun j C D=>?_,?_,q,?_,fun j C=>?_,fun b' r=>?_⟩
   ·rcases Abf j i with c|c
    ·have:=h.less j c;omega
    ·obtain rfl:j=i:=by omega
     rw[d,f];omega
   ·have h1:=Bz.key_lt (L:=L) (i:=i) (j:=j) (by omega) D;rw[d,f]at h1;omega
   ·show true=_;rw[zJ (by omega)]
   ·show(s.o.set _ _).length=256;rw[Abb,h.len]
   ·show(s.o.set (t%256) _).getD _ []=_;rcases Abf j i with c|c
    ·rw[Wl _ _ _ _ (fun e=>by
      have z:(Af L).getD j 0=b:=UInt8.toNat_inj.1 (by rw[hb];exact e.symm);have:=h.less j c;rw[z,f]at this;omega)]
     exact h.made j c
    ·obtain rfl:j=i:=by omega
     rw[d,hb,dN _ _ _ (by rw[h.len];exact O),q]
   ·show(s.o.set (t%256) _).getD _ []=_;rw[Wl _ _ _ _ (fun e=>r i (by omega) (by rw[d];exact UInt8.toNat_inj.1 (by rw[hb];exact e)))];exact h.none b' (fun j C=>r j (by omega))
 ·refine⟨k,s,by unfold Oq;rw[if_neg y],h.le,fun i hi=>by have:=h.less i hi;omega,fun i hi B=>?_,h.on,h.code,h.len,h.made,h.none⟩;have h1:=h.more i hi B;rcases Abf (256+t) (Hh L ((Af L).getD i 0))with c|c
  ·omega
  ·exfalso;have e:Hh L ((Af L).getD i 0)=256+t:=by omega
   unfold Hh at e;have:=((Af L).getD i 0).toNat_lt;apply y;have M:((Af L).getD i 0).toNat=t%256:=by omega
   have z:lnB L ((Af L).getD i 0)=t/256+1:=by omega
   rw[<-M,<-Xg,z]
theorem vB{L:Aeh}(a:Bz L): ∀t,∃k s,cTo L t=some s/\Far L t k s
 |0=>by
  refine⟨0,_,rfl,zZ _,fun i hi=>by omega,fun i _ hi=>?_,rfl,rfl,zV,fun i hi=>by omega,fun b _=>?_⟩
  ·have:=a.pos _ (Lg hi);unfold Hh;omega
  ·rw[zG,Abp b.toNat_lt];rfl
 |t+1=>by
  obtain⟨k,s,hs,e⟩:=vB a t;obtain⟨f,g,d,c⟩:=e.step a;exact⟨f,g,by rw[cTo,hs,Option.bind_some,d],c⟩
theorem xS{s:CS}{k t:Nat}(b:Bz L)(a:Far L t k s)(ht:32*256<=t):k=(Af L).length:=by
 rcases Abf k (Af L).length with c|c
 ·exfalso;have h1:=a.more k (zK _) c;have h2:=b.short ((Af L).getD k 0);unfold Hh at h1;have:=((Af L).getD k 0).toNat_lt;omega
 ·have:=a.le;omega
theorem Yt(a:Bz L){o:List (List Bool)}{ok:Bool}(h:Cx L o ok):ok=true/\ ∀b:UInt8,o.getD b.toNat []=Ih (lnB L) (Bq L) b:=by
 obtain⟨k,s,hs,d⟩:=vB a 65280;obtain⟨rfl,rfl⟩:=Cx.to (some s) hs h;have hk:k=(Af L).length:=xS a d (by omega);clear h hs;generalize 65280=T at d;refine⟨?_,fun b=>?_⟩
 ·rw[d.on,d.code];rcases a.kind with t|⟨h1,h2⟩|⟨h1,h2⟩
  ·rw[zM (by omega)];rfl
  ·have n:k=1:=by omega
   have q:lnB L ((Af L).getD 0 0)=1:=h2 _ (Lg (by omega));have l:(Aj L).length=1:=by rw[<-Jn L a.le255];exact h1
   have m:B9 L (Af L) k=(0,1):=by rw[n,B9,N2,q];simp[B9]
   rw[m,zJ l];have:(A7 0 1==[false])=true:=by decide
   simp[this]
  ·have hi:(Af L).length-1<(Af L).length:=by omega
   have j:=a.fits.num _ hi;have p:=Qp 32 L (Af L) _ hi;have r:=a.short ((Af L).getD ((Af L).length-1) 0);have g:=a.fits.lt _ hi;rw[show(Af L).length-1+1=(Af L).length from by omega,Aaw,h2,<-j,show(Af L).length-1+1=(Af L).length from by omega]at p;rw[show(Af L).length-1+1=(Af L).length from by omega]at g;have f:(B9 L (Af L) (Af L).length).2=lnB L ((Af L).getD ((Af L).length-1) 0):=by
    have:=Ix L (Af L) ((Af L).length-1);rwa[show(Af L).length-1+1=(Af L).length from by omega]at this
   rw[hk,f,Zg _ _ g,if_neg]
   ·simp
   ·intro c;have e:(2:Nat)^32=2^lnB L ((Af L).getD ((Af L).length-1) 0)*2^(32-lnB L ((Af L).getD ((Af L).length-1) 0)):=by rw[<-Nat.pow_add,Nat.add_sub_cancel' r]
    have v:0<(2:Nat)^(32-lnB L ((Af L).getD ((Af L).length-1) 0)):=Acl _;have u:=Nat.mul_lt_mul_of_pos_right c v;rw[<-e,Ab4,Nat.one_mul]at u;omega
 ·by_cases hb:b∈Af L
  ·obtain⟨i,hi,rfl⟩:=Jr hb;rw[d.made i (by omega)];unfold Ih Bq;rw[lM,Rh L i hi,Ix]
  ·rw[d.none b (fun i hi e=>hb (by rw[<-e];exact Lg (by omega)))];have t:lnB L b=0:=by have:=mt (a.mem b).2 hb;omega
   unfold Ih;rw[t];rfl
end Hm
namespace Hm
theorem xT(l:List Bool): ∀x:Nat,l.foldl (fun a b=>2*a+b.toNat) x=x*2^l.length+E5 l:=by
 induction l with
 |nil=>intro x;simp[E5]
 |cons b t ih=>
  intro x;rw[Ad8,ih,Aau,Abl];unfold E5;rw[Ad8,ih (2*0+b.toNat)];unfold E5;rw[Ab4,Nat.mul_zero,Aao,Abw];congr 1;rw[Adt,Nat.mul_left_comm,Ade 2]
theorem O8(b:Bool)(t:List Bool):E5 (b::t)=b.toNat*2^t.length+E5 t:=by
 show List.foldl _ (2*0+b.toNat) t=_;rw[xT,Nat.mul_zero,Aao]
theorem Su: ∀l:List Bool,E5 l<2^l.length
 |[]=>by decide
 |b::t=>by
  have:=Su t;rw[O8,Aau,Abl];cases b
  ·simp;omega
  ·simp;omega
theorem Zh: ∀a b:List Bool,a.length=b.length->E5 a=E5 b->a=b
 |[],[],_,_=>rfl
 |[],_::_,h,_=>by simp at h
 |_::_,[],h,_=>by simp at h
 |x::a,y::b,h,e=>by
  have c:a.length=b.length:=by simpa using h
  have h1:=Su a;have h2:=Su b;rw[O8,O8,c]at e;rw[c]at h1;cases x<;>cases y
  ·rw[Zh a b c (by simpa using e)]
  ·simp at e;omega
  ·simp at e;omega
  ·rw[Zh a b c (by simpa using e)]
theorem fG: ∀a b:List Bool,a.length=b.length->Op.bytesLess (Ae a) (Ae b)=decide (E5 a<E5 b)
 |[],[],_=>rfl
 |[],_::_,h=>by simp at h
 |_::_,[],h=>by simp at h
 |x::a,y::b,h=>by
  have c:a.length=b.length:=by simpa using h
  have h1:=Su a;have h2:=Su b;have d:=fG a b c;have e:Op.bytesLess (Ae (x::a)) (Ae (y::b))=(decide ((if x then(49:UInt8)else 48)<(if y then 49 else 48))||((if x then(49:UInt8)else 48)==(if y then 49 else 48)&&Op.bytesLess (Ae a) (Ae b))):=rfl;rw[e,d,O8,O8,c];rw[c]at h1;cases x<;>cases y
  ·simp
  ·simp;omega
  ·simp;omega
  ·simp
structure HS(cd:UInt8->List Bool)(n c fr:Nat)(out:List (List Bool)):Prop where
 srt:out.Pairwise Pa
 le:fr<=out.length
 low: ∀i,i<fr->(out.getD i []).length<n
 high: ∀i,fr<=i->i<out.length->(out.getD i []).length=n
 mem: ∀h,h∈out↔ ∃b:UInt8,h.length<(cd b).length/\(cd b).take h.length=h/\(h.length<n\/(h.length=n/\b.toNat<c))
 few:out.length<=n*256+c
section
variable {cd:UInt8->List Bool} {n c fr:Nat} {out:List (List Bool)}
theorem HS.start:HS cd 0 0 0 []:=⟨List.Pairwise.nil,zK _,fun i h=>by omega,fun i _ h=>by simp at h,fun h=>by simp,zZ _⟩
theorem HS.skip(h:HS cd n c fr out)(b:UInt8)(hb:b.toNat=c)(e:(cd b).length<=n):HS cd n (c+1) fr out:=by
 refine⟨h.srt,h.le,h.low,h.high,fun x=>?_,by have:=h.few;omega⟩;rw[h.mem];constructor
 ·rintro⟨b',h1,h2,a⟩;exact⟨b',h1,h2,by omega⟩
 ·rintro⟨b',h1,h2,a⟩;refine⟨b',h1,h2,?_⟩;rcases a with a|⟨a,d⟩
  ·exact .inl a
  ·rcases Abf b'.toNat c with k|k
   ·exact .inr ⟨a,k⟩
   ·have:b'=b:=UInt8.toNat_inj.1 (by omega);subst this;omega
theorem HS.next(h:HS cd n 256 fr out):HS cd (n+1) 0 out.length out:=by
 refine⟨h.srt,zK _,fun i hi=>?_,fun i h1 h2=>by omega,fun x=>?_,by have:=h.few;omega⟩
 ·rcases Abf i fr with k|k
  ·have:=h.low i k;omega
  ·have:=h.high i k hi;omega
 ·rw[h.mem];constructor
  ·rintro⟨b',h1,h2,a⟩;exact⟨b',h1,h2,by omega⟩
  ·rintro⟨b',h1,h2,a⟩;have:=b'.toNat_lt;exact⟨b',h1,h2,by omega⟩
theorem HS.last(h:HS cd n 0 fr out)(a: ∀b,(cd b).length<=n):Gf cd out:=by
 refine⟨h.srt,fun x=>?_⟩;rw[h.mem];constructor
 ·rintro⟨b',h1,h2,_⟩;exact⟨b',h1,h2⟩
 ·rintro⟨b',h1,h2⟩;have:=a b';exact⟨b',h1,h2,by omega⟩
theorem Wm{l:List (List Bool)}(h:i<l.length):l.getD i []∈l:=by
 rw[zG,zH h];exact z6 _
theorem HS.stop(h:HS cd n 256 fr out)(d:out.length=fr):Gf cd out:=by
 have hs: ∀b,(cd b).length<=n:=by
  intro b;rcases Abf n (cd b).length with k|k
  ·exfalso;have a:((cd b).take n).length=n:=by rw[zS];omega
   have c:(cd b).take n∈out:=(h.mem _).2 ⟨b,by omega,by rw[a],.inr ⟨a,b.toNat_lt⟩⟩;obtain⟨i,hi,e⟩:=Aa5 c;have h1:=h.low i (by omega);rw[zG,zH hi]at h1;simp only[Ack]at h1;rw[e,a]at h1;omega
  ·exact k
 refine⟨h.srt,fun x=>?_⟩;rw[h.mem];constructor
 ·rintro⟨b',h1,h2,_⟩;exact⟨b',h1,h2⟩
 ·rintro⟨b',h1,h2⟩;have:=hs b';exact⟨b',h1,h2,by omega⟩
theorem HS.same(h:HS cd n c fr out)(b:UInt8)(hb:b.toNat=c)(g:n<(cd b).length)(d:(cd b).take n∈out):HS cd n (c+1) fr out:=by
 refine⟨h.srt,h.le,h.low,h.high,fun x=>?_,by have:=h.few;omega⟩;constructor
 ·intro e;obtain⟨b',h1,h2,a⟩:=(h.mem x).1 e;exact⟨b',h1,h2,by omega⟩
 ·rintro⟨b',h1,h2,a⟩;rcases a with a|⟨a,f⟩
  ·exact(h.mem x).2 ⟨b',h1,h2,.inl a⟩
  ·rcases Abf b'.toNat c with k|k
   ·exact(h.mem x).2 ⟨b',h1,h2,.inr ⟨a,k⟩⟩
   ·have:b'=b:=UInt8.toNat_inj.1 (by omega);subst this;rw[<-h2,a];exact d
theorem HS.put(h:HS cd n c fr out)(b:UInt8)(hb:b.toNat=c)(L:n<(cd b).length){a:Nat}(G:fr<=a)(v:a<=out.length)(r: ∀i,fr<=i->i<a->E5 (out.getD i [])<E5 ((cd b).take n))(q:a<out.length-> ¬E5 (out.getD a [])<E5 ((cd b).take n)/\out.getD a []≠(cd b).take n):
  HS cd n (c+1) fr (out.take a++(cd b).take n::out.drop a):=by
 have l:((cd b).take n).length=n:=by rw[zS];omega
 obtain⟨x,o⟩:=gx ((cd b).take n);rw[<-o]at l r q|-;have w: ∀i,i<out.length->out[i]?=some (out.getD i []):=fun i hi=>by rw[zG,zH hi];rfl
 have g: ∀y∈out.take a,Pa y x:=by
  intro y p;obtain⟨i,hi,rfl⟩:=Aa5 p;have s:i<a:=by rw[zS]at hi;omega
  have e:(out.take a)[i]=out.getD i []:=by
   rw[List.getElem_take,zG,zH (by omega)];rfl
  rw[e];rcases Abf i fr with k|k
  ·exact .inl (by rw[l];exact h.low i k)
  ·exact .inr ⟨by rw[l];exact h.high i k (by omega),r i k s⟩
 have d: ∀y∈out.drop a,Pa x y:=by
  intro y p;obtain⟨i,hi,rfl⟩:=Aa5 p;have f:a+i<out.length:=by rw[Aas]at hi;omega
  have e:(out.drop a)[i]=out.getD (a+i) []:=by
   rw[List.getElem_drop,zG,zH f];rfl
  rw[e];have h1:=h.high (a+i) (by omega) f;obtain⟨B,C⟩:=q (by omega);have F:=h.high a G (by omega);have t:E5 x<E5 (out.getD a []):=by
   rcases Aa7 (E5 (out.getD a [])) (E5 x)with k|k|k
   ·exact absurd k B
   ·exact absurd (Zh _ _ (by rw[F,l]) k) C
   ·exact k
  refine .inr ⟨by rw[l,h1],?_⟩;rcases Adn i with k|k
  ·subst k;exact t
  ·have A:=List.pairwise_iff_getElem.1 h.srt a (a+i) (by omega) f (by omega);have D:out[a]=out.getD a []:=by rw[zG,zH (by omega)];rfl
   have E:out[a+i]=out.getD (a+i) []:=by rw[zG,zH f];rfl
   rw[D,E]at A;unfold Pa at A;omega
 refine⟨?_,?_,fun i hi=>?_,fun i h1 h2=>?_,fun y=>?_,?_⟩
 ·rw[List.pairwise_append,Ad0];refine⟨h.srt.sublist (List.take_sublist _ _),⟨d,h.srt.sublist (List.drop_sublist _ _)⟩,fun y p z u=>?_⟩;rcases List.mem_cons.1 u with rfl|u
  ·exact g y p
  ·have B:=g y p;have C:=d z u;unfold Pa at*;omega
 ·simp;have:=h.le;omega
 ·have e:(out.take a++x::out.drop a).getD i []=out.getD i []:=by
   rw[zG,Aav (by rw[zS];have:=h.le;omega),Ab9 (by omega),<-zG]
  rw[e];exact h.low i hi
 ·have H:i<out.length+1:=by simp at h2;omega
  rcases Aa7 i a with k|k|k
  ·have e:(out.take a++x::out.drop a).getD i []=out.getD i []:=by
    rw[zG,Aav (by rw[zS];omega),Ab9 k,<-zG]
   rw[e];exact h.high i h1 (by omega)
  ·subst k;rw[zG,z7 (by rw[zS];omega),zS,Ab8 v,Abd];exact l
  ·obtain⟨j,rfl⟩: ∃j,i=a+j+1:=⟨i-a-1,by omega⟩;rw[zG,z7 (by rw[zS];omega),zS,Ab8 v,show a+j+1-a=j+1 from by omega,Acz,Adq,<-zG];exact h.high (a+j) (by omega) (by omega)
 ·have e:y∈out.take a++x::out.drop a↔y=x\/y∈out:=by
   rw[Ad7,List.mem_cons];constructor
   ·rintro(k|k|k)
    ·exact .inr (Ads k)
    ·exact .inl k
    ·exact .inr (List.mem_of_mem_drop k)
   ·rintro(k|k)
    ·exact .inr (.inl k)
    ·rw[<-Abh a out,Ad7]at k;rcases k with k|k
     ·exact .inl k
     ·exact .inr (.inr k)
  rw[e];constructor
  ·rintro(rfl|k)
   ·exact⟨b,by omega,by rw[l,o],.inr ⟨l,by omega⟩⟩
   ·obtain⟨b',h1,h2,m⟩:=(h.mem y).1 k;exact⟨b',h1,h2,by omega⟩
  ·rintro⟨b',h1,h2,m⟩;rcases m with m|⟨m,K⟩
   ·exact .inr ((h.mem y).2 ⟨b',h1,h2,.inl m⟩)
   ·rcases Abf b'.toNat c with k|k
    ·exact .inr ((h.mem y).2 ⟨b',h1,h2,.inr ⟨m,k⟩⟩)
    ·have:b'=b:=UInt8.toNat_inj.1 (by omega);subst this;exact .inl (by rw[o,<-h2,m])
 ·simp;have:=h.few;omega
end
end Hm
section
open Go.RowKit
theorem lO:(prog.info? 9).map (fun i=>(i.zero,i.size,i.bytes))=some (some (.string ⟨#[]⟩),1,16):=by kernel_rfl
theorem pJ(b xs:Aei)(e H:Value)(m a:Nat)(l:xs.length=m)(n:a<=m)(h:b.take (m+1)=xs++[e])(o:m+1<=b.length):((splice b (a+1) (xs.drop a)).set a H).take (m+1)=xs.take a++H::xs.drop a:=by
 have d: ∀i,i<m->b[i]?=xs[i]?:=fun i hi=>by
  have h1:(b.take (m+1))[i]?=b[i]?:=Ab9 (by omega);rw[<-h1,h,Aav (by omega)]
 have f:(xs.drop a).length=m-a:=by rw[Aas,l]
 have g:(b.take (a+1)).length=a+1:=by rw[zS];omega
 have c:(xs.take a).length=a:=by rw[zS];omega
 apply List.ext_getElem?;intro i;rcases Abf i (m+1)with k|k
 ·rw[Ab9 k];rcases Aa7 i a with q|q|q
  ·rw[Adc (by omega),splice,Aav (by omega),Ab9 (by omega),d i (by omega),Aav (by omega),Ab9 q]
  ·subst q;rw[Adg (by rw[length_splice _ _ _ (by rw[f];omega)];omega),z7 (by omega),c,Abd];rfl
  ·obtain⟨j,rfl⟩: ∃j,i=a+1+j:=⟨i-a-1,by omega⟩;rw[Adc (by omega),splice,z7 (by omega),g,show a+1+j-(a+1)=j from by omega,Aav (by omega),z7 (by omega),c,show a+1+j-a=j+1 from by omega,Acz]
 ·rw[Aam (by rw[zS];omega),Aam (by rw[zL,Aau,f,c];omega)]
namespace Hm
def cdL(o:List (List Bool))(b:UInt8):List Bool:=o.getD b.toNat []
theorem dO(x:List Bool)(n:Nat):(⟨(Ae x).toArray⟩:ByteArray).extract 0 n=⟨(Ae (x.take n)).toArray⟩:=by
 apply Acj;rw[Acu];apply Abr;rw[Ac1,Ab5];simp[Ae,List.map_take]
theorem Nq: ∀x y:List Bool,Ae x=Ae y->x=y
 |[],[],_=>rfl
 |[],_::_,h=>by simp[Ae]at h
 |_::_,[],h=>by simp[Ae]at h
 |a::x,b::y,h=>by
  have h1:(if a then(49:UInt8)else 48)=(if b then 49 else 48)/\Ae x=Ae y:=by
   have:=List.cons.inj h;exact this
  rw[Nq x y h1.2];have h2:=h1.1;cases a<;>cases b<;>first|rfl|simp at h2
end Hm
theorem Wn(o:List (List Bool))(w:World)(aT:o.length=256)(aU: ∀x∈o,x.length<=255):
  Calls prog 90 #[.agg (Ar o).toArray] w fun e w'=> ∃(v:Value) (hs:List (List Bool)),e= .returned v/\Gf (cdL o) hs/\hs.length<=65792/\w'.ownsRow w.heap.size 9 1 v hs.length (Ar hs)/\Aee w w':=by
 obtain⟨i0,hi,aX,av,aY⟩:=Aa6 lO;have aO: ∀b:Nat,b<256->(o.getD b []).length<=255:=fun b hb=>by
  rw[zG,zH (show b<o.length from by omega)];exact aU _ (z6 _)
 have HG:=aZ aO;have bg:=aZ aT;clear aO aU aT
 go_enter func90,ntmps90
 go_upto_region 1 with fail
 have g0:TR (w.alloc (.cells (Ar o).toArray 113)) w.heap.size o:=zY w _;have aP:Aee w (w.alloc (.cells (Ar o).toArray 113)):=(Aa.refl _ _).alloc _;have hB:w.heap.size<(w.alloc (.cells (Ar o).toArray 113)).heap.size:=by simp
 generalize w.alloc (.cells (Ar o).toArray 113)=W at*;have HW:=aZ (aI g0 (aI aP hB));clear g0 aP hB;go_wp2_with fail
 go_loopw[3,4] (fun vo vn wr=> ∃(n:Nat) (out:List (List Bool)),n<=256/\vn=I n/\Hid (Hm.HS (cdL o) n 0 out.length out)/\Aside (wr.ownsRow W.heap.size 9 1 vo out.length (Ar out))/\Aee W wr) (fun _ vn _=>256-(intOf vn).toNat)
 case atStart=>exact⟨0,[],by omega,rfl,Hm.HS.start,⟨rfl,.inl ⟨rfl,rfl⟩⟩,Aa.refl _ _⟩
 case round=>
  obtain⟨n,out,hn,rfl,HS,HO,aQ⟩:=hrel;have aN:out.length<=65792:=by have:=HS.o.few;omega
  have aG:=aZ aQ;clear aQ
  by_cases bA:n<256
  ·have ah:decide ((n:Int)<256)=true:=zJ (by omega);obtain⟨ao,co,aB,_⟩:=An HO.o;subst aB;go_wp2_with fail;obtain⟨fr,a4⟩:=gx out.length;rw[<-a4];have aF:=aZ a4;clear a4
   go_loopw[3,6] (fun vo vc wx=> ∃(c:Nat) (d:List (List Bool)),c<=256/\vc=I c/\Hid (Hm.HS (cdL o) n c fr d)/\Aside (wx.ownsRow W.heap.size 9 1 vo d.length (Ar d))/\Aee W wx) (fun _ vc _=>256-(intOf vc).toNat)
   case atStart=>exact⟨0,out,by omega,rfl,by rw[aF.o];exact HS.o,by rw[aF.o];exact HO,aG.o⟩
   case round=>
    obtain⟨c,d,hc,rfl,F,t,T⟩:=hrel;have a3:d.length<=65792:=by have:=F.o.few;omega
    have s:=aZ T;obtain⟨aK,bj,aW,_⟩:=An t.o;subst aW;clear HO
    by_cases aR:c<256
    ·have ah:decide ((c:Int)<256)=true:=zJ (by omega);have b7:(c:Int)<256:=by omega
     have a1:=(HW.o.1.kept T id).cell (i:=c) (by rw[bg.o];exact aR);clear T;obtain⟨b,hb⟩: ∃b:UInt8,b.toNat=c:=⟨UInt8.ofNat c,by rw[Aax];omega⟩;obtain⟨x,hx⟩:=gx (o.getD c []);have R:Aside (cdL o b=x/\b.toNat=c):=⟨by rw[hx];unfold cdL;rw[hb],hb⟩;rw[<-hx]at a1;have bD:x.length<=255:=by rw[hx];exact HG.o c aR
     obtain⟨S,hS⟩:=gx (⟨(Ae x).toArray⟩:ByteArray);rw[<-hS]at a1;have bC:S.size=x.length:=by rw[hS];show(Ae x).toArray.size=_;simp[Ae]
     have bi:=aZ hS;clear hx hS hb
     by_cases bq:x.length<=n
     ·have A:decide ((S.size:Int)<=(n:Int))=true:=zJ (by omega);have M:Aside (Hm.HS (cdL o) n (c+1) fr d):=F.o.skip b R.o.2 (by rw[R.o.1];exact bq);go_wp2_with fail;go_roundw
      case rel=>exact⟨c+1,d,by omega,by go_num,M.o,t,s.o⟩
      case measure=>simp[intOf];omega
     ·have A:decide ((S.size:Int)<=(n:Int))=false:=zM (by omega);have bB:(n:Int)<=(S.size:Int):=by omega
      go_wp2_with fail;obtain⟨H,hH⟩:=gx (S.extract 0 n);rw[<-hH];obtain⟨y,hy⟩:=gx (x.take n);have z:Aside (H=(⟨(Ae y).toArray⟩:ByteArray)/\y=x.take n/\y.length=n):=⟨by rw[hH,bi.o,hy];exact dO x n,hy,by rw[hy,zS];omega⟩;clear hH hy a1
      go_loopw[8] (fun va wy=> ∃a:Nat,va=I a/\fr<=a/\a<=d.length/\Hid (∀i,fr<=i->i<a->E5 (d.getD i [])<E5 y)/\wr=wy) (fun va _=>d.length-(intOf va).toNat)
      case atStart=>exact⟨fr,rfl,zK _,F.o.le,fun i h1 h2=>by omega,rfl⟩
      case round=>
       obtain⟨a,rfl,a2,au,ay,rfl⟩:=hrel
       by_cases ar:a<d.length
       ·have bp:=(dT a d.length).2;have b5:(a:Int)<(d.length:Int):=by omega
        obtain⟨g,hg⟩: ∃g,aK=some (J g 0):=by
         rcases t.o.2 with⟨e,h0⟩|⟨g,f,q,e,_⟩
         ·omega
         ·exact⟨g,(Value.slice.inj e).1⟩
        subst hg;obtain⟨Z,hZ⟩:=gx (⟨(Ae (d.getD a [])).toArray⟩:ByteArray);have b8:wr.cell? (J g a)=some (.string Z):=by
         rw[t.o.cellAt a (by omega),hZ];simp[Ar,List.getD_eq_getElem?_getD,List.getElem?_eq_getElem ar]
        have ba:=F.o.high a a2 ar;have aM:Op.bytesLess Z.toList H.toList=decide (E5 (d.getD a [])<E5 y):=by
         rw[hZ,z.o.1,Aa2,Aa2];exact fG _ _ (by rw[ba,z.o.2.2])
        have a8:(Z.toList==H.toList)=decide (d.getD a []=y):=by
         rw[hZ,z.o.1,Aa2,Aa2]
         by_cases e:d.getD a []=y
         ·rw[zJ e,e];simp
         ·rw[zM e,Aat];exact fun k=>e (Nq _ _ k)
        clear hZ ba
        by_cases m:E5 (d.getD a [])<E5 y
        ·rw[zJ m]at aM;have bf:Aside (∀i,fr<=i->i<a+1->E5 (d.getD i [])<E5 y):=fun i h1 h2=>by
          rcases Abf i a with k|k
          ·exact ay.o i h1 k
          ·obtain rfl:i=a:=by omega
           exact m
         clear m a8;go_wp2_with fail;go_roundw
         case rel=>exact⟨a+1,by go_num,by omega,by omega,bf.o,by first|rfl|exact Ad2⟩
         case measure=>simp[intOf];omega
        ·rw[zM m]at aM
         by_cases U:d.getD a []=y
         ·rw[zJ U]at a8;have M:Aside (Hm.HS (cdL o) n (c+1) fr d):=F.o.same b R.o.2 (by rw[R.o.1];omega) (by rw[R.o.1,<-z.o.2.1,<-U];exact Wm ar);clear U m;go_wp2_with fail;go_roundw
          case rel=>exact⟨c+1,d,by omega,by go_num,M.o,t,s.o⟩
          case measure=>simp[intOf];omega
         ·rw[zM U]at a8;have M:Aside (Hm.HS (cdL o) n (c+1) fr (d.take a++y::d.drop a)):=by
           have:=F.o.put b R.o.2 (by rw[R.o.1];omega) a2 au (by rw[R.o.1,<-z.o.2.1];exact ay.o) (fun _=>by rw[R.o.1,<-z.o.2.1];exact⟨m,U⟩);rwa[R.o.1,<-z.o.2.1]at this
          clear U m
          go_wp2_with(at_builtin;refine Ay _ rfl (.tmp 57) (.tmp 58) 26 rfl W.heap.size 9 i0 (.string ⟨#[]⟩) 1 16 underlying26 hi aX av aY rfl (by decide) _ _ _ rfl (t.o.alloc _) (J wr.heap.size 0) 1 1 [.string ⟨#[]⟩] rfl rfl ?c1 ?c2 ?c3 ?c4 ?c5 ?_)
          case c1=>exact Ac6 _ _ _
          case c2=>intro u hu;simp at hu;subst hu;rfl
          case c3=>unfold maxLen;omega
          case c4=>omega
          case c5=>have:=s.o.size;simp;omega
          intro v5 Q an ai a6;have ak:Aee W Q:=(s.o.alloc _).grown ai (fun j hj=> .inl (t.o.lt j hj).1);obtain⟨l,f,q,aA,aa,N,a7,af,D,E⟩: ∃g f q,v5=S0 g (d.length+1) f/\W.heap.size<=g/\Q.heap[g]?=some (.cells q 9 (0,0))/\d.length+1<=f/\f<=maxLen/\q.size=f*1/\q.toList.take ((d.length+1)*1)=Ar d++[.string ⟨#[]⟩]:=by
           rcases an.2 with⟨_,h⟩|h
           ·omega
           ·exact h
          subst aA;rw[Acw]at D E;obtain⟨cl,ae⟩:=gx (q.toList:Aei);have ag:q=cl.toArray:=by rw[ae]
          rw[ag]at N D E;rw[Aaa]at D;clear ai a6 an ae ag;have B:Aside (W.heap.size<=l/\Q.heap[l]?=some (.cells cl.toArray 9 (0,0))/\Aee W Q/\f<=maxLen/\cl.take (d.length+1)=Ar d++[.string ⟨#[]⟩]):=⟨aa,N,ak,af,by simpa using E⟩;clear aa N ak af E;have bn:(a:Int)<=(d.length:Int):=by omega
          have aS:(d.length:Int)+1<=(f:Int):=by omega
          go_wp2_with fail;have aC:IntKind.i64.wrap ((a:Int)+1)=(a:Int)+1:=by rw[Aar];omega
          have a9:((a:Int)+1).toNat=a+1:=by omega
          have ac: ¬f=a:=by omega
          refine Aca (S:=fun _=>True) (by kernel_rfl) Ad2 (fun hHeld=>?_)
          refine tW 0 ⟨some 60,.move (.tmp 3),26,"hoardref.go:202",#[],none⟩ _ ?_
          refine tW 1 ⟨some 61,.move (.tmp 8),3,"hoardref.go:202",#[],none⟩ _ ?_
          refine tK 2 ⟨some 62,.binOp .add 3 (.tmp 61) (.const (.int .i64 1)) 3,3,"hoardref.go:202",#[⟨1,.data⟩],none⟩ (I ((a : Int) + 1)) ?_ ?_
          ·intro X Y;go_simp
           all_goals(try rw[aC])
           all_goals(try rfl)
          simp only[Act.put,zO,zW,z5]
          refine tK 3 ⟨some 63,.slice 26 (.tmp 60) (some (.tmp 62)) none none,26,"hoardref.go:202",#[⟨0,.data⟩,⟨2,.data⟩],none⟩ (.slice (if f = a + 1 then some (J l 0) else some (J l (a + 1))) (d.length + 1 - (a + 1)) (f - (a + 1))) ?_ ?_
          ·intro X Y;go_simp
           all_goals(try rw[iP])
           all_goals(try simp only[a9])
           all_goals(try rfl)
           all_goals(try(intro am;exfalso;omega))
          simp only[Act.put,zO,zW,z5]
          refine tW 4 ⟨some 64,.move (.tmp 3),26,"hoardref.go:202",#[],none⟩ _ ?_
          refine tW 5 ⟨some 65,.move (.tmp 8),3,"hoardref.go:202",#[],none⟩ _ ?_
          refine tK 6 ⟨some 66,.slice 26 (.tmp 64) (some (.tmp 65)) none none,26,"hoardref.go:202",#[⟨4,.data⟩,⟨5,.data⟩],none⟩ (.slice (some (J l a)) (d.length + 1 - a) (f - a)) ?_ ?_
          ·intro X Y;go_simp
           all_goals(try rw[iP])
           all_goals(try rw[if_neg ac])
           all_goals(try rfl)
           all_goals(try(intro am;exfalso;omega))
          simp only[Act.put,zO,zW,z5];refine Aaq (rs:=[7]) (by kernel_rfl) (by simp) ?_;refine Aad rfl (fun K hK=>?_) Aal;have A:((Ar d).drop a).length=d.length-a:=by rw[Aas,Bp]
          have ad: ∀i,i<d.length->cl[i]?=(Ar d)[i]?:=fun i hi=>by
           have h1:(cl.take (d.length+1))[i]?=cl[i]?:=Ab9 (by omega);rw[<-h1,B.o.2.2.2.2,Aav (by rw[Bp];omega)]
          refine step_copy_splice (o := ⟨some 67,.call ⟨.builtin .copy,#[.tmp 63,.tmp 66],#[26,26]⟩,3,"hoardref.go:202",#[⟨3,.data⟩,⟨6,.data⟩],none⟩) rfl (.tmp 63) (.tmp 66) 26 26 rfl 9 underlying26 (by rw [hi]; simp [av]) _ _ _ _ _ _ rfl rfl l (a + 1) cl 9 B.o.2.1 ((Ar d).drop a) ?d1 ?d2 ?d3 ?d4 l Q.drew (Below.refl _ _) (Nat.le_refl _) ?d5
          case d1=>rw[A];show _=min (d.length+1-a) (d.length+1-(a+1));omega
          case d2=>
           intro hp;rw[A]at hp;refine⟨by rw[iN],_,rfl,fun j v hj=>?_⟩;rw[Adq]at hj;have a5:a+j<d.length:=by
            have:=(List.getElem?_eq_some_iff.1 hj).1;rw[Bp]at this;exact this
           have a0:((J l a):Addr).add j=(J l (a+j)):=by cases j<;>simp[Addr.add]
           rw[a0];rw[zP _ _ (a+j) _ _ _ (show Q.drew.heap[l]?=_ from B.o.2.1),Aag,ad _ a5,hj]
          case d3=>rw[A];omega
          case d4=>
           intro v hv;have h1:=L0 d;rw[Acv]at h1;exact h1 v (by simpa using List.mem_of_mem_drop hv)
          case d5=>
           intro w6 aq r;refine hK.o _ _ Ad2 (fun hHeld=>?_);clear hK K;refine Ach (by kernel_rfl) ?_ _;have ap:(splice cl (a+1) ((Ar d).drop a)).length=f:=by rw[length_splice _ _ _ (by rw[A];omega)];exact D
           have al:Aa (fun j=>l<=j) Q.drew w6:=⟨r.os,r.tape,r.output,r.size,fun j _ hn=>r.block j (by omega)⟩;have V:Aee W w6:=(B.o.2.2.1.drew).trans al (fun j h1 h2=>by have:=B.o.1;omega);have C:=aZ (aI aq.o V);obtain⟨P,L⟩: ∃P,(splice cl (a+1) ((Ar d).drop a))[a]?=some P:=⟨_,zH (by rw[ap];omega)⟩;have bk:w6.cell? (J l a)=some P:=by rw[zP _ _ a _ _ _ C.o.1,Aag,L]
           have bl:=zR _ _ a _ _ C.o.1;have aL:(a:Int)<(d.length:Int)+1:=by omega
           have aw:Aside (((splice cl (a+1) ((Ar d).drop a)).set a (.string H)).take (d.length+1)=(Ar d).take a++ .string H::(Ar d).drop a):=pJ cl (Ar d) _ (.string H) d.length a (Bp _) au B.o.2.2.2.2 (by omega);clear r al V aq L ad;go_wp2_with fail;go_roundw
           case rel=>
            have G:(d.take a++y::d.drop a).length=d.length+1:=by rw[zL,Aau,zS,Aas];omega
            refine⟨c+1,d.take a++y::d.drop a,by omega,by go_num,M.o,?_,?_⟩
            ·show World.ownsRow _ _ _ _ _ _ _;rw[G];refine⟨by rw[Bp,G,Acw],.inr ⟨l,f,((splice cl (a+1) ((Ar d).drop a)).set a (.string H)).toArray,rfl,B.o.1,?_,a7,B.o.2.2.2.1,?_,?_⟩⟩
             ·rw[zI _ l a _ _ (.string H) C.o.1];congr 2;apply Abr;simp
             ·rw[Aaa,Abb,ap,Acw]
             ·rw[Acw,aw.o,z.o.1];simp[Ar,List.map_take,List.map_drop]
            ·exact C.o.2.setCell (p:=(J l a)) (.inl B.o.1) _
           case measure=>simp[intOf];omega
       ·have bp:=(dF a d.length).2;have M:Aside (Hm.HS (cdL o) n (c+1) fr (d.take a++y::d.drop a)):=by
         have:=F.o.put b R.o.2 (by rw[R.o.1];omega) a2 au (by rw[R.o.1,<-z.o.2.1];exact ay.o) (fun k=>absurd k ar);rwa[R.o.1,<-z.o.2.1]at this
        go_wp2_with(at_builtin;refine Ay _ rfl (.tmp 57) (.tmp 58) 26 rfl W.heap.size 9 i0 (.string ⟨#[]⟩) 1 16 underlying26 hi aX av aY rfl (by decide) _ _ _ rfl (t.o.alloc _) (J wr.heap.size 0) 1 1 [.string ⟨#[]⟩] rfl rfl ?c1 ?c2 ?c3 ?c4 ?c5 ?_)
        case c1=>exact Ac6 _ _ _
        case c2=>intro u hu;simp at hu;subst hu;rfl
        case c3=>unfold maxLen;omega
        case c4=>omega
        case c5=>have:=s.o.size;simp;omega
        intro v5 Q an ai a6;have ak:Aee W Q:=(s.o.alloc _).grown ai (fun j hj=> .inl (t.o.lt j hj).1);obtain⟨l,f,q,aA,aa,N,a7,af,D,E⟩: ∃g f q,v5=S0 g (d.length+1) f/\W.heap.size<=g/\Q.heap[g]?=some (.cells q 9 (0,0))/\d.length+1<=f/\f<=maxLen/\q.size=f*1/\q.toList.take ((d.length+1)*1)=Ar d++[.string ⟨#[]⟩]:=by
         rcases an.2 with⟨_,h⟩|h
         ·omega
         ·exact h
        subst aA;rw[Acw]at D E;obtain⟨cl,ae⟩:=gx (q.toList:Aei);have ag:q=cl.toArray:=by rw[ae]
        rw[ag]at N D E;rw[Aaa]at D;clear ai a6 an ae ag;have B:Aside (W.heap.size<=l/\Q.heap[l]?=some (.cells cl.toArray 9 (0,0))/\Aee W Q/\f<=maxLen/\cl.take (d.length+1)=Ar d++[.string ⟨#[]⟩]):=⟨aa,N,ak,af,by simpa using E⟩;clear aa N ak af E;have bn:(a:Int)<=(d.length:Int):=by omega
        have aS:(d.length:Int)+1<=(f:Int):=by omega
        go_wp2_with fail;have aC:IntKind.i64.wrap ((a:Int)+1)=(a:Int)+1:=by rw[Aar];omega
        have a9:((a:Int)+1).toNat=a+1:=by omega
        have ac: ¬f=a:=by omega
        refine Aca (S:=fun _=>True) (by kernel_rfl) Ad2 (fun hHeld=>?_)
        refine tW 0 ⟨some 60,.move (.tmp 3),26,"hoardref.go:202",#[],none⟩ _ ?_
        refine tW 1 ⟨some 61,.move (.tmp 8),3,"hoardref.go:202",#[],none⟩ _ ?_
        refine tK 2 ⟨some 62,.binOp .add 3 (.tmp 61) (.const (.int .i64 1)) 3,3,"hoardref.go:202",#[⟨1,.data⟩],none⟩ (I ((a : Int) + 1)) ?_ ?_
        ·intro X Y;go_simp
         all_goals(try rw[aC])
         all_goals(try rfl)
        simp only[Act.put,zO,zW,z5]
        refine tK 3 ⟨some 63,.slice 26 (.tmp 60) (some (.tmp 62)) none none,26,"hoardref.go:202",#[⟨0,.data⟩,⟨2,.data⟩],none⟩ (.slice (if f = a + 1 then some (J l 0) else some (J l (a + 1))) (d.length + 1 - (a + 1)) (f - (a + 1))) ?_ ?_
        ·intro X Y;go_simp
         all_goals(try rw[iP])
         all_goals(try simp only[a9])
         all_goals(try rfl)
         all_goals(try(intro am;exfalso;omega))
        simp only[Act.put,zO,zW,z5]
        refine tW 4 ⟨some 64,.move (.tmp 3),26,"hoardref.go:202",#[],none⟩ _ ?_
        refine tW 5 ⟨some 65,.move (.tmp 8),3,"hoardref.go:202",#[],none⟩ _ ?_
        refine tK 6 ⟨some 66,.slice 26 (.tmp 64) (some (.tmp 65)) none none,26,"hoardref.go:202",#[⟨4,.data⟩,⟨5,.data⟩],none⟩ (.slice (some (J l a)) (d.length + 1 - a) (f - a)) ?_ ?_
        ·intro X Y;go_simp
         all_goals(try rw[iP])
         all_goals(try rw[if_neg ac])
         all_goals(try rfl)
         all_goals(try(intro am;exfalso;omega))
        simp only[Act.put,zO,zW,z5];refine Aaq (rs:=[7]) (by kernel_rfl) (by simp) ?_;refine Aad rfl (fun K hK=>?_) Aal;have A:((Ar d).drop a).length=d.length-a:=by rw[Aas,Bp]
        have ad: ∀i,i<d.length->cl[i]?=(Ar d)[i]?:=fun i hi=>by
         have h1:(cl.take (d.length+1))[i]?=cl[i]?:=Ab9 (by omega);rw[<-h1,B.o.2.2.2.2,Aav (by rw[Bp];omega)]
        refine step_copy_splice (o := ⟨some 67,.call ⟨.builtin .copy,#[.tmp 63,.tmp 66],#[26,26]⟩,3,"hoardref.go:202",#[⟨3,.data⟩,⟨6,.data⟩],none⟩) rfl (.tmp 63) (.tmp 66) 26 26 rfl 9 underlying26 (by rw [hi]; simp [av]) _ _ _ _ _ _ rfl rfl l (a + 1) cl 9 B.o.2.1 ((Ar d).drop a) ?d1 ?d2 ?d3 ?d4 l Q.drew (Below.refl _ _) (Nat.le_refl _) ?d5
        case d1=>rw[A];show _=min (d.length+1-a) (d.length+1-(a+1));omega
        case d2=>
         intro hp;rw[A]at hp;refine⟨by rw[iN],_,rfl,fun j v hj=>?_⟩;rw[Adq]at hj;have a5:a+j<d.length:=by
          have:=(List.getElem?_eq_some_iff.1 hj).1;rw[Bp]at this;exact this
         have a0:((J l a):Addr).add j=(J l (a+j)):=by cases j<;>simp[Addr.add]
         rw[a0];rw[zP _ _ (a+j) _ _ _ (show Q.drew.heap[l]?=_ from B.o.2.1),Aag,ad _ a5,hj]
        case d3=>rw[A];omega
        case d4=>
         intro v hv;have h1:=L0 d;rw[Acv]at h1;exact h1 v (by simpa using List.mem_of_mem_drop hv)
        case d5=>
         intro w6 aq r;refine hK.o _ _ Ad2 (fun hHeld=>?_);clear hK K;refine Ach (by kernel_rfl) ?_ _;have ap:(splice cl (a+1) ((Ar d).drop a)).length=f:=by rw[length_splice _ _ _ (by rw[A];omega)];exact D
         have al:Aa (fun j=>l<=j) Q.drew w6:=⟨r.os,r.tape,r.output,r.size,fun j _ hn=>r.block j (by omega)⟩;have V:Aee W w6:=(B.o.2.2.1.drew).trans al (fun j h1 h2=>by have:=B.o.1;omega);have C:=aZ (aI aq.o V);obtain⟨P,L⟩: ∃P,(splice cl (a+1) ((Ar d).drop a))[a]?=some P:=⟨_,zH (by rw[ap];omega)⟩;have bk:w6.cell? (J l a)=some P:=by rw[zP _ _ a _ _ _ C.o.1,Aag,L]
         have bl:=zR _ _ a _ _ C.o.1;have aL:(a:Int)<(d.length:Int)+1:=by omega
         have aw:Aside (((splice cl (a+1) ((Ar d).drop a)).set a (.string H)).take (d.length+1)=(Ar d).take a++ .string H::(Ar d).drop a):=pJ cl (Ar d) _ (.string H) d.length a (Bp _) au B.o.2.2.2.2 (by omega);clear r al V aq L ad;go_wp2_with fail;go_roundw
         case rel=>
          have G:(d.take a++y::d.drop a).length=d.length+1:=by rw[zL,Aau,zS,Aas];omega
          refine⟨c+1,d.take a++y::d.drop a,by omega,by go_num,M.o,?_,?_⟩
          ·show World.ownsRow _ _ _ _ _ _ _;rw[G];refine⟨by rw[Bp,G,Acw],.inr ⟨l,f,((splice cl (a+1) ((Ar d).drop a)).set a (.string H)).toArray,rfl,B.o.1,?_,a7,B.o.2.2.2.1,?_,?_⟩⟩
           ·rw[zI _ l a _ _ (.string H) C.o.1];congr 2;apply Abr;simp
           ·rw[Aaa,Abb,ap,Acw]
           ·rw[Acw,aw.o,z.o.1];simp[Ar,List.map_take,List.map_drop]
          ·exact C.o.2.setCell (p:=(J l a)) (.inl B.o.1) _
         case measure=>simp[intOf];omega
    ·have ab:c=256:=by omega
     have ah:decide ((c:Int)<256)=false:=zM (by omega);have aH:Aside (Hm.HS (cdL o) n 256 fr d):=by rw[<-ab];exact F.o
     clear T ab
     by_cases O:d.length=fr
     ·have bo:((d.length:Int)==(fr:Int))=true:=by rw[O];simp
      have HH:=aZ (aH.o.stop O);have az:Aside (wr.ownsRow w.heap.size 9 1 (.slice aK d.length bj) d.length (Ar d)):=Fs t.o fun k hk=>by
       have h1:=(t.o.lt k hk).1;have h2:=HW.o.2.2;omega
      have ax:=aZ (HW.o.2.1.tr s.o);clear O;go_wp2_with fail;go_ret;exact⟨_,d,rfl,HH.o,a3,az.o,ax.o⟩
     ·have bo:((d.length:Int)==(fr:Int))=false:=by rw[Aat];omega
      have bh:=aZ aH.o.next;go_wp2_with fail;go_roundw
      case rel=>exact⟨n+1,d,by omega,by go_num,bh.o,t,s.o⟩
      case measure=>simp[intOf];omega
  ·have br:n=256:=by omega
   have ah:decide ((n:Int)<256)=false:=zM (by omega);have HH:Aside (Gf (cdL o) out):=HS.o.last fun b=>by
    have:=HG.o b.toNat b.toNat_lt;show(o.getD b.toNat []).length<=n;omega
   obtain⟨ao,co,aB,_⟩:=An HO.o;subst aB;have az:Aside (wr.ownsRow w.heap.size 9 1 (.slice ao out.length co) out.length (Ar out)):=Fs HO.o fun k hk=>by
    have h1:=(HO.o.lt k hk).1;have h2:=HW.o.2.2;omega
   have ax:=aZ (HW.o.2.1.tr aG.o);go_wp2_with fail;go_ret;exact⟨_,out,rfl,HH.o,aN,az.o,ax.o⟩
namespace Hm
def A4(cd:UInt8->List Bool)(h:List Bool)(col:Aeg):List Bool:=(col.filter fun b=>Ev (cd b) h).map fun b=>(cd b).getD h.length false
theorem lP(cd:UInt8->List Bool)(h:List Bool)(col:Aeg)(b:UInt8):A4 cd h (col++[b])=A4 cd h col++if Ev (cd b) h then [(cd b).getD h.length false]else []:=by
 unfold A4;rw[Abz,Abt];congr 1;cases e:Ev (cd b) h<;>simp[e]
theorem bH(cd:UInt8->List Bool)(h:List Bool)(col:Aeg):(A4 cd h col).length<=col.length:=by
 unfold A4;rw[Aai];exact Ac7 _ _
theorem Ra(cd:UInt8->List Bool)(hs:List (List Bool))(col:Aeg)(i:Nat)(hi:i<hs.length):Cf cd (hs.take (i+1)) col=Cf cd (hs.take i) col++A4 cd (hs.getD i []) col:=by
 unfold Cf A4;rw[zQ hi,Abo,zG,zH hi];simp
theorem bI(cd:UInt8->List Bool)(hs:List (List Bool))(col:Aeg): ∀i,i<=hs.length->(Cf cd (hs.take i) col).length<=i*col.length
 |0,_=>by simp[Cf]
 |i+1,h=>by
  have h1:=bI cd hs col i (by omega);have h2:=bH cd (hs.getD i []) col;rw[Ra cd hs col i h,zL,Ab4];omega
theorem yT(c h:List Bool):pre (Ae h) (Ae c)=Ev c h:=by
 unfold pre Ev;have a:(Ae h).length=h.length:=by simp[Ae]
 have b:(Ae c).length=c.length:=by simp[Ae]
 have d:(Ae c).take h.length=Ae (c.take h.length):=by simp[Ae,List.map_take]
 rw[a,b,d]
 by_cases k:h.length<=c.length
 ·by_cases q:c.take h.length=h
  ·rw[zJ k,zJ ⟨k,q⟩,q];simp
  ·rw[zJ k,zM (fun z=>q z.2),Bool.true_and,Aat];exact fun z=>q (Nq _ _ z)
 ·rw[zM k,zM (fun z=>k z.1)];rfl
end Hm
theorem oN(s:ByteArray)(o:List (List Bool))(w:World)(V:o.length=256)(X: ∀x∈o,x.length<=255)(hs:s.size<=6001)
  (az: ∀b∈s.data.toList,∀b' h,h.length<(cdL o b').length->(cdL o b').take h.length=h->Ev (cdL o b) h=true->h.length<(cdL o b).length):
  Calls prog 46 #[.string s,.agg (Ar o).toArray] w fun e w'=> ∃hs:List (List Bool),Gf (cdL o) hs/\e= .returned (.string ⟨(Ae (Cf (cdL o) hs s.data.toList)).toArray⟩)/\Aee w w':=by
 obtain⟨i0,hi,a0,a1,a2⟩:=Aa6 Ft;have A:Aside (s.data.toList.length=s.size):=by show _=_;simp
 have ao: ∀b:Nat,b<256->(o.getD b []).length<=255:=fun b hb=>by
  rw[zG,zH (show b<o.length from by omega)];exact X _ (z6 _)
 have HG:=aZ ao;have af:=aZ V;have aB:Aside _:=az;have ad:=fun W=>Wn o W V X;have a8:Aside _:=ad;clear ao X V az ad
 go_enter func46,ntmps46
 go_upto_region 2 with fail
 have g0:TR (w.alloc (.cells (Ar o).toArray 113)) w.heap.size o:=zY w _;have au:Aee w (w.alloc (.cells (Ar o).toArray 113)):=(Aa.refl _ _).alloc _;generalize w.alloc (.cells (Ar o).toArray 113)=W at*;have HW:=aZ (aI g0 au);obtain⟨TT,E⟩: ∃a,a=(Ar o).toArray:=⟨_,rfl⟩;have l:TT.size=256:=by rw[E,Aaa,Bp];exact af.o
 have K:W.heap[w.heap.size]?=some (.cells TT 113 (0,0)):=by rw[E];exact g0
 have Q:=a8.o W;rw[<-E]at Q|-;clear g0 au E
 go_wp2_with(first
  |(refine Aa0 rfl 113 _ rfl w.heap.size rfl 113 TT (0,0) _ K underlying113 rfl (by rw[l];exact C9) ?_))
 refine Q.mono ?_;rintro e m ⟨v,hd,rfl,aq,bj,z,R⟩;obtain⟨ah,ch,hv,_⟩:=An z;subst hv;have Z:Aside (Gf (cdL o) hd/\m.ownsRow W.heap.size 9 1 (.slice ah hd.length ch) hd.length (Ar hd)/\TR m w.heap.size o/\Aee w m):=⟨aq,z,HW.o.1.kept R id,HW.o.2.tr R⟩;clear aq z R Q K l;go_wp2_with fail
 go_loopw[5,7] (fun vs vi wr=> ∃i:Nat,i<=hd.length/\vi= .int .i64 i/\vs= .string ⟨(Ae (Cf (cdL o) (hd.take i) s.data.toList)).toArray⟩/\Aee m wr) (fun _ vi _=>hd.length-(intOf vi).toNat)
 case atStart=>exact⟨0,by omega,rfl,by simp[Cf,Ae],Aa.refl _ _⟩
 case round=>
  obtain⟨i,aJ,rfl,rfl,y⟩:=hrel;have ae:=aZ y;have aD:Aside (∀i,i<=hd.length->(Cf (cdL o) (hd.take i) s.data.toList).length<=i*s.data.toList.length):=bI _ _ _
  by_cases U:i<hd.length
  ·have r:=(dT i hd.length).2;have bk:(i:Int)<(hd.length:Int):=by omega
   obtain⟨g,hg⟩: ∃g,ah=some ⟨g,0,none⟩:=by
    rcases Z.o.2.1.2 with⟨e,h0⟩|⟨g,cap,cur,e,_⟩
    ·omega
    ·exact⟨g,(Value.slice.inj e).1⟩
   subst hg;obtain⟨h,hh⟩:=gx (hd.getD i []);obtain⟨H,hH⟩:=gx (⟨(Ae h).toArray⟩:ByteArray);have bf:wr.cell? ⟨g,i,none⟩=some (.string H):=by
    have ho:=y.owns Z.o.2.1 (fun _ _ h=>h);rw[ho.cellAt i (by omega),hH,hh];simp[Ar,List.getD_eq_getElem?_getD,List.getElem?_eq_getElem U]
   have ap:h∈hd:=by rw[hh];exact Wm U
   obtain⟨b',ai,aj⟩:=(Z.o.1.mem h).1 ap;have O:(cdL o b').length<=255:=HG.o b'.toNat b'.toNat_lt;have HH:=aZ (aI hH (aI hh (aI ai aj)));have bc:H.size=h.length:=by rw[hH];show(Ae h).toArray.size=_;simp[Ae]
   have bb:h.length<=255:=by omega
   clear hH hh ap ai aj O y;obtain⟨ts,l⟩:=gx (⟨(Ae (Cf (cdL o) (hd.take i) s.data.toList)).toArray⟩:ByteArray);rw[<-l];have aE:=aZ l;have bp:ts.size<=400000000:=by
    have h1:=aD.o i aJ;have h2:ts.size=(Cf (cdL o) (hd.take i) s.data.toList).length:=by rw[l];show(Ae _).toArray.size=_;simp[Ae]
    rw[A.o]at h1;have h3:i*s.size<=65792*6001:=Aa4 (by omega) hs;omega
   clear l
   go_wp2_with(at_make;refine wpList_make_own _ rfl _ _ 79 rfl m.heap.size 5 i0 (.int .u8 0) 1 underlying79 hi a0 a1 .i64 .i64 _ s.size rfl rfl rfl (by rw[a2];omega) (by unfold maxLen;omega) ae.o.size ?_;intro w3 ax am)
   have av:Aee m w3:=ae.o.grown am (fun k hk=>by cases hk);clear am
   go_loopw[9,10] (fun vb vk wx=> ∃k:Nat,k<=s.size/\vk= .int .i64 k/\Aside (wx.ownsRow m.heap.size 5 1 vb (A4 (cdL o) h (s.data.toList.take k)).length (Ag (Ae (A4 (cdL o) h (s.data.toList.take k)))))/\Aee m wx) (fun _ vk _=>s.size-(intOf vk).toNat)
   case atStart=>exact⟨0,by omega,rfl,ax,av⟩
   case round=>
    clear ax av;obtain⟨k,hk,rfl,n,F⟩:=hrel;have L:=aZ F;obtain⟨ab,cb,aN,_⟩:=An n.o;subst aN;have bh:(A4 (cdL o) h (s.data.toList.take k)).length<=6001:=by
     have h1:=bH (cdL o) h (s.data.toList.take k);rw[zS,A.o]at h1;omega
    by_cases f:k<s.size
    ·have r:=(dT k s.size).2;have h8:=(s[k]'f).toNat_lt;have be:((s[k]'f).toNat:Int)<256:=by omega
     have S:k<s.data.toList.length:=by rw[A.o];exact f
     have P:s.data.toList[k]'S=s[k]'f:=rfl;have G:s[k]'f∈s.data.toList:=by rw[<-P];exact z6 _
     obtain⟨c,hc⟩:=gx (cdL o (s[k]'f));obtain⟨C,N⟩:=gx (⟨(Ae c).toArray⟩:ByteArray);have al:wr.cell? ⟨w.heap.size,(s[k]'f).toNat,none⟩=some (.string C):=by
      rw[(Z.o.2.2.1.kept F id).cell (by rw[af.o];exact h8),N,hc];rfl
     have bg:c.length<=255:=by rw[hc];exact HG.o _ h8
     have ba:C.size=c.length:=by rw[N];show(Ae c).toArray.size=_;simp[Ae]
     have d:=fun W=>g8 C H W (by omega) (by omega);have hpb:pre H.data.toList C.data.toList=Ev c h:=by rw[HH.o.1,N];exact yT c h
     rw[hpb]at d;have D:Aside (A4 (cdL o) h (s.data.toList.take (k+1))=A4 (cdL o) h (s.data.toList.take k)++if Ev c h then [c.getD h.length false]else []):=by
      show _=_;rw[zQ S,lP,P,<-hc]
     have M:Aside (Ev c h=true->h.length<c.length):=fun hb=>by
      rw[hc]at hb|-;exact aB.o _ G b' h HH.o.2.2.1 HH.o.2.2.2 hb
     have HC:=aZ N;clear F hpb P G S N hc;cases hb:Ev c h with
     |true=>
      rw[hb]at d;have aw:h.length<c.length:=M.o hb;have T:h.length<C.size:=by omega
      have bm:(h.length:Int)<(C.size:Int):=by omega
      have ac:Aside (Ag (Ae (A4 (cdL o) h (s.data.toList.take (k+1))))=Ag (Ae (A4 (cdL o) h (s.data.toList.take k)))++[.int .u8 ((C[h.length]'T).toNat:Nat)]/\(A4 (cdL o) h (s.data.toList.take (k+1))).length=(A4 (cdL o) h (s.data.toList.take k)).length+1):=by
       have e:=D.o;rw[hb,if_pos rfl]at e;rw[e];refine⟨?_,by simp⟩;have e2:C[h.length]'T=if c.getD h.length false then 49 else 48:=by
        have N:=HC.o;subst N;show(Ae c).toArray[h.length]'_=_;rw[List.getElem_toArray];simp[Ae,List.getD_eq_getElem?_getD,List.getElem?_eq_getElem aw]
       rw[e2];simp[Ag,Ae]
      clear D M hb aw;go_wp2_with fail;refine(d _).mono ?_;rintro e w4 ⟨rfl,Y⟩;have p:Aside (w4.ownsRow m.heap.size 5 1 (.slice ab (A4 (cdL o) h (s.data.toList.take k)).length cb) (A4 (cdL o) h (s.data.toList.take k)).length (Ag (Ae (A4 (cdL o) h (s.data.toList.take k))))):=by
       obtain⟨q,rfl⟩:=Y;exact n.o
      have t:Aee m w4:=by
       obtain⟨q,rfl⟩:=Y;exact L.o.drewN q
      clear Y d n al
      go_wp2_with(at_builtin;refine Ay _ rfl (.tmp 43) (.tmp 48) 79 rfl m.heap.size 5 i0 (.int .u8 0) 1 1 underlying79 hi a0 a1 a2 rfl (by decide) _ _ _ rfl (p.o.alloc _) ⟨w4.heap.size,0,none⟩ 1 1 [.int .u8 ((C[h.length]'T).toNat:Nat)] rfl rfl ?c1 ?c2 ?c3 ?c4 ?c5 ?_)
      case c1=>exact Ac6 _ _ _
      case c2=>intro u hu;simp at hu;subst hu;rfl
      case c3=>unfold maxLen;omega
      case c4=>omega
      case c5=>have:=t.size;simp;omega
      intro v5 w5 ay an aM;have aK:Aee m w5:=(t.alloc _).grown an (fun j hj=> .inl (p.o.lt j hj).1);have aA:=aZ ay;clear ay an aM p t;go_wp2_with fail;go_roundw
      case rel=>
       refine⟨k+1,by omega,by go_num,?_,aK⟩;show World.ownsRow _ _ _ _ _ _ _;rw[ac.o.1,ac.o.2];exact aA.o
      case measure=>simp[intOf];omega
     |false=>
      rw[hb]at d;have ag:Aside (A4 (cdL o) h (s.data.toList.take (k+1))=A4 (cdL o) h (s.data.toList.take k)):=by
       show _=_;rw[D.o,hb];simp
      clear D M hb;go_wp2_with fail;refine(d _).mono ?_;rintro e w4 ⟨rfl,Y⟩;have p:Aside (w4.ownsRow m.heap.size 5 1 (.slice ab (A4 (cdL o) h (s.data.toList.take k)).length cb) (A4 (cdL o) h (s.data.toList.take k)).length (Ag (Ae (A4 (cdL o) h (s.data.toList.take k))))):=by
       obtain⟨q,rfl⟩:=Y;exact n.o
      have t:Aee m w4:=by
       obtain⟨q,rfl⟩:=Y;exact L.o.drewN q
      clear Y d n al;go_wp2_with fail;go_roundw
      case rel=>
       refine⟨k+1,by omega,by go_num,?_,t⟩;show World.ownsRow _ _ _ _ _ _ _;rw[ag.o];exact p.o
      case measure=>simp[intOf];omega
    ·have aL:k=s.size:=by omega
     have r:=(dF k s.size).2;have aH:=Ho n.o;obtain⟨B,hB⟩:=gx (⟨(Ae (A4 (cdL o) h (s.data.toList.take k))).toArray⟩:ByteArray);have aY:B.size<=6001:=by
      have:B.size=(A4 (cdL o) h (s.data.toList.take k)).length:=by rw[hB];show(Ae _).toArray.size=_;simp[Ae]
      omega
     rw[<-hB]at aH;have HR:Aside (ts++B=(⟨(Ae (Cf (cdL o) (hd.take (i+1)) s.data.toList)).toArray⟩:ByteArray)):=by
      show _=_;have hT:s.data.toList.take k=s.data.toList:=Aap (by rw[A.o];omega);rw[aE.o,hB,hT,Ss,Ra _ _ _ _ U,Ir,<-HH.o.2.1]
     have bo: ¬9223372036854775807<ts.size+B.size:=by omega
     clear hB F aL;go_wp2_with fail;go_roundw
     case rel=>exact⟨i+1,by omega,by go_num,by rw[HR.o],L.o⟩
     case measure=>simp[intOf];omega
  ·have ar:i=hd.length:=by omega
   have r:=(dF i hd.length).2;have HR:Aside (hd.take i=hd):=by show _=_;rw[ar,Aaw]
   have a9:Aside (Aee w wr):=Z.o.2.2.2.tr y;clear ar y;go_wp2_with fail;go_ret;exact⟨hd,Z.o.1,by rw[HR.o];rfl,a9.o⟩
end
section
namespace Hm
theorem Bz.prefixes(a:Bz L){b:UInt8}(hb:b∈Af L){b':UInt8}{h:List Bool}(h1:h.length<(Ih (lnB L) (Bq L) b').length)(h2:(Ih (lnB L) (Bq L) b').take h.length=h)(k:Ev (Ih (lnB L) (Bq L) b) h=true):h.length<(Ih (lnB L) (Bq L) b).length:=by
 obtain⟨N,_,g⟩:=a.ends;have m:Af L≠[]:=fun e=>by rw[e]at hb;simp at hb
 have d:=g.nodes;have c:=g.len;have o:=g.side0 m;have hk:=a.numk;have n:=d.heads hk (fun j f=>o j (by rw[c]at f;exact f)) a.num_lt (fun b hb=>(a.mem b).2 hb);have l:=(n.mem h).2 ⟨b',h1,h2⟩;unfold Sf at l;obtain⟨j,f,rfl⟩:=List.mem_map.1 l;have i:j<(Ao (lnB L) (Af L) (2*N)).1.length:=by simpa using f
 rw[d.begins hk a.num_lt i hb (a.pos b hb)]at k;have:=(Aay k).1;rw[By];show _<(Dl _ _).length;rw[By];exact this
theorem Rw(a:Bz L){o:List (List Bool)}{ok:Bool}(h:Cx L o ok):cdL o=Ih (lnB L) (Bq L):=funext (Yt a h).2
theorem vC(a:Bz L){o:List (List Bool)}{ok:Bool}(h:Cx L o ok)(c:o.length=256): ∀x∈o,x.length<=255:=by
 intro x b;obtain⟨i,hi,rfl⟩:=Aa5 b;have h1:=congrFun (Rw a h) (UInt8.ofNat i);have h2:(UInt8.ofNat i).toNat=i:=by rw[Aax];omega
 unfold cdL at h1;rw[h2,zG,zH hi]at h1;simp only[Ack]at h1;rw[h1];show(Dl _ _).length<=255;rw[By];exact a.le255 _
theorem vD(c h:List Bool)(k:Ev c h=true):h.length<=c.length/\c.take h.length=h:=Aay k
end Hm
open Go.RowKit
theorem iA(s:ByteArray)(L:Aeh)(o:List (List Bool))(ok:Bool)(N:Nat)(w:World)(a:Bz L)(i:Hm.Ends 32 (lnB L) (Af L) N)(g:o.length=256)(h:Cx L o ok)(hs:s.size<=6001)(f: ∀b∈s.data.toList,b∈Af L):
  Calls prog 46 #[.string s,.agg (Ar o).toArray] w fun e w'=>e= .returned (.string ⟨(Ae (D2 L N s.data.toList)).toArray⟩)/\Aee w w':=by
 have e:=Rw a h;refine(oN s o w g (vC a h g) hs ?_).mono ?_
 ·intro b hb b' hd h1 h2 c;rw[e]at h1 h2 c|-;exact a.prefixes (f b hb) h1 h2 c
 ·rintro j w' ⟨hd,d,rfl,hk⟩;rw[e]at d|-;rw[Oa a i f d];exact⟨rfl,hk⟩
end
namespace Hm
def Ln(ps:Aeh)(i:Nat):Nat:=if Av ps<i then Av ps else 0
theorem oO(h:ps.Perm (List.range (n+1)))(i:Nat)(hi:i<ps.length):Ln ps (i+1)=if ps[i]=0 then i else Ln ps i:=by
 have:=Ob h i hi;unfold Ln
 by_cases e:ps[i]=0
 ·have:=this.1 e;rw[if_pos e,iP];omega
 ·have a: ¬i=Av ps:=fun k=>e (this.2 k);rw[if_neg e]
  by_cases q:Av ps<i
  ·rw[iP,if_pos q]
  ·rw[iN,if_neg q]
theorem oP(h:ps.Perm (List.range (n+1))):Ln ps (n+1)=Av ps:=by
 have a:0∈ps:=h.symm.subset (by simp);have c:Av ps<ps.length:=List.findIdx_lt_length_of_exists ⟨0,a,by simp⟩;have b:ps.length=n+1:=by have:=h.length_eq;simpa using this
 unfold Ln;rw[iP]
end Hm
end Go.Proofs.YtegnkfdbmmndaaaGreat
