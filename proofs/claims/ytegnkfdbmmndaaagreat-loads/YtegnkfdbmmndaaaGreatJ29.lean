import Derived.Test.YtegnkfdbmmndaaaGreatJ00
import Derived.Test.YtegnkfdbmmndaaaGreatJ28
import Derived.Test.YtegnkfdbmmndaaaGreatJ13
import Derived.Laws.CopyOwn
import Derived.Laws.BitsLemmas
import Derived.Test.YtegnkfdbmmndaaaGreatJ25

namespace Go.Proofs.YtegnkfdbmmndaaaGreat
open Hm
namespace Hm
theorem Acj(l c:Nat):Da l c=(Av c l).reverse:=rfl
theorem Q4(x:Nat): ∀d l,Av(x*2^d)(l+d)=List.replicate d false++Av x l
 |0,l=>by simp
 |d+1,l=>by
  rw[←Ams,Oe,Amt,Ano,←Q4 x d l];have e:x*2^(d+1)=2*(x*2^d):=by rw[Amd];ac_rfl
  rw[e,show 2*(x*2^d)/2=x*2^d from by omega];congr 1;exact decide_eq_false(by omega)
theorem Ack(x l n:Nat)(h:l≤n):I4 n(Av x l)=Av(x*2^(n-l))n:=by
 unfold I4;rw[Dj,←Q4 x(n-l)l,show l+(n-l)=n from by omega]
structure Far(L:List Nat)(t k:Nat)(s:CS):Prop where
 le:k≤(Af L).length
 less: ∀i,i<k→Gq L((Af L).getD i 0)<256+t
 more: ∀i,k≤i→i<(Af L).length→256+t≤Gq L((Af L).getD i 0)
 on:s.on=decide(0<k)
 code:s.code=Av(Bh L(Af L)k).1(Bh L(Af L)k).2
 len:s.out.length=256
 made: ∀i,i<k→s.out.getD((Af L).getD i 0).toNat []=(Av(Bh L(Af L)(i+1)).1(Bh L(Af L)(i+1)).2).reverse
 none: ∀b:UInt8,(∀i,i<k→(Af L).getD i 0≠b)→s.out.getD b.toNat []=[]
theorem Ye(l:List(List Bool))(i:Nat)(x:List Bool)(h:i<l.length):(l.set i x).getD i []=x:=by
 rw[Ak7,Anp h];rfl
theorem So(l:List(List Bool))(i j:Nat)(x:List Bool)(h:i≠j):(l.set i x).getD j []=l.getD j []:=by
 rw[Ak7,Anm h,←Ak7]
theorem Bn.key_lt{L:List Nat}{i j:Nat}(hij:i<j)(hj:j<(Af L).length):Gq L((Af L).getD i 0)<Gq L((Af L).getD j 0):=by
 rw[Ak7,Ak8(by omega:i<(Af L).length),Ak7,Ak8 hj];exact List.pairwise_iff_getElem.1(Eg L)i j(by omega)hj hij
theorem Tg(L:List Nat)(b:UInt8):lnB L b=L.getD b.toNat 0:=rfl
theorem Far.step{L:List Nat}(hC:Bn L){t k:Nat}{s:CS}(h:Far L t k s): ∃k' s',Ml L(t/256+1)(t%256)s=some s'∧Far L(t+1)k' s':=by
 have hc:t%256<256:=Nat.mod_lt _(by omega);obtain⟨b,hb⟩: ∃b:UInt8,b.toNat=t%256:=⟨UInt8.ofNat(t%256),by rw[Al0];omega⟩
 by_cases he:L.getD(t%256)0=t/256+1
 ·have hlb:lnB L b=t/256+1:=by rw[Tg,hb,he]
  have hkey:Gq L b=256+t:=by unfold Gq;rw[hlb,hb];omega
  have hmem:b∈Af L:=(hC.mem b).2(by omega);obtain⟨i,hi,hib⟩:=Iv hmem;have hik:i=k:=by
   rcases Al4 i k with c|c|c
   ·have:=h.less i c;rw[hib,hkey]at this;omega
   ·exact c
   ·have h1:=Bn.key_lt(L:=L)c hi;have h2:=h.more k(Alc _)(by omega);rw[hib,hkey]at h1;omega
  subst hik;have hct:Bh L(Af L)(i+1)=Ma L(Bh L(Af L)i)i b:=by rw[Bh,hib]
  have hnx: ∃R,K3 s=some R∧I4(t/256+1)R=Av(Bh L(Af L)(i+1)).1(Bh L(Af L)(i+1)).2:=by
   rw[hct];unfold Ma;rw[hlb];cases i with
   |zero=>
    refine⟨s.code,?_,?_⟩
    ·unfold K3;rw[h.on];rfl
    ·rw[h.code];show I4(t/256+1)(Av 0 0)=_;rw[Ack _ _ _(by omega)];simp[Bh]
   |succ i=>
    have hlt:=hC.fits.lt i(by omega);have hlt2:=hC.fits.lt(i+1)hi;have hasc:=hC.fits.asc_get(i:=i)(j:=i+1)(by omega)hi;have hl2:(Bh L(Af L)(i+1)).2=lnB L((Af L).getD i 0):=Hr L _ i;rw[hct,hib]at hlt2;rw[hib,hlb]at hasc;unfold Ma at hlt2;rw[hlb,if_neg(by omega),hl2]at hlt2;simp only at hlt2;obtain⟨m,hm⟩: ∃m,m=(Bh L(Af L)(i+1)).1:=⟨_,rfl⟩;obtain⟨l,hl⟩: ∃l,l=lnB L((Af L).getD i 0):=⟨_,rfl⟩;rw[←hm,←hl]at hlt hlt2;rw[←hl]at hasc hl2;have hm1:m+1<2^l:=by
     have e:2^(t/256+1)=2^l*2^(t/256+1-l):=by rw[←Nat.pow_add];congr 1;omega
     rw[e]at hlt2;exact Nat.lt_of_mul_lt_mul_right hlt2
    refine⟨Av(m+1)l,?_,?_⟩
    ·unfold K3;rw[h.on,h.code,hl2,←hm];show E2 _=_;rw[Ve l m hlt,if_pos hm1]
    ·rw[Ack _ _ _ hasc,←hm,hl2,if_neg(by omega)]
  obtain⟨R,hR,hpad⟩:=hnx;refine⟨i+1,⟨s.out.set(t%256)(I4(t/256+1)R).reverse,I4(t/256+1)R,true⟩,?_,?_⟩
  ·unfold Ml;rw[if_pos he,hR];rfl
  ·refine⟨hi,fun j hj=>?_,fun j hj hjl=>?_,?_,hpad,?_,fun j hj=>?_,fun b' hb'=>?_⟩
   ·rcases Amn j i with c|c
    ·have:=h.less j c;omega
    ·obtain rfl:j=i:=by omega
     rw[hib,hkey];omega
   ·have h1:=Bn.key_lt(L:=L)(i:=i)(j:=j)(by omega)hjl;rw[hib,hkey]at h1;omega
   ·show true=_;rw[decide_eq_true(by omega)]
   ·show(s.out.set _ _).length=256;rw[Al8,h.len]
   ·show(s.out.set(t%256)_).getD _ []=_;rcases Amn j i with c|c
    ·rw[So _ _ _ _(fun e=>by
      have e2:(Af L).getD j 0=b:=UInt8.toNat_inj.1(by rw[hb];exact e.symm);have:=h.less j c;rw[e2,hkey]at this;omega)]
     exact h.made j c
    ·obtain rfl:j=i:=by omega
     rw[hib,hb,Ye _ _ _(by rw[h.len];exact hc),hpad]
   ·show(s.out.set(t%256)_).getD _ []=_;rw[So _ _ _ _(fun e=>hb' i(by omega)(by rw[hib];exact UInt8.toNat_inj.1(by rw[hb];exact e)))];exact h.none b'(fun j hj=>hb' j(by omega))
 ·refine⟨k,s,by unfold Ml;rw[if_neg he],h.le,fun i hi=>by have:=h.less i hi;omega,fun i hi hil=>?_,h.on,h.code,h.len,h.made,h.none⟩;have h1:=h.more i hi hil;rcases Amn(256+t)(Gq L((Af L).getD i 0))with c|c
  ·omega
  ·exfalso;have e:Gq L((Af L).getD i 0)=256+t:=by omega
   unfold Gq at e;have:=((Af L).getD i 0).toNat_lt;apply he;have e1:((Af L).getD i 0).toNat=t%256:=by omega
   have e2:lnB L((Af L).getD i 0)=t/256+1:=by omega
   rw[←e1,←Tg,e2]
theorem Aik{L:List Nat}(hC:Bn L): ∀t,∃k s,cTo L t=some s∧Far L t k s
 |0=>by
  refine⟨0,_,rfl,Alk _,fun i hi=>by omega,fun i _ hi=>?_,rfl,rfl,Alf,fun i hi=>by omega,fun b _=>?_⟩
  ·have:=hC.pos _(Jz hi);unfold Gq;omega
  ·rw[Ak7,Amh b.toNat_lt];rfl
 |t+1=>by
  obtain⟨k,s,hs,hf⟩:=Aik hC t;obtain⟨k',s',hs',hf'⟩:=hf.step hC;exact⟨k',s',by rw[cTo,hs,Option.bind_some,hs'],hf'⟩
theorem Ajw{L:List Nat}{s:CS}{k t:Nat}(hC:Bn L)(hf:Far L t k s)(ht:32*256≤t):k=(Af L).length:=by
 rcases Amn k(Af L).length with c|c
 ·exfalso;have h1:=hf.more k(Alc _)c;have h2:=hC.short((Af L).getD k 0);unfold Gq at h1;have:=((Af L).getD k 0).toNat_lt;omega
 ·have:=hf.le;omega
theorem Um{L:List Nat}(hC:Bn L){o:List(List Bool)}{ok:Bool}(h:Ck L o ok):ok=true∧ ∀b:UInt8,o.getD b.toNat []=Hb(lnB L)(Bp L)b:=by
 obtain⟨k,s,hs,hf⟩:=Aik hC 65280;obtain⟨rfl,rfl⟩:=Ck.to(some s)hs h;have hk:k=(Af L).length:=Ajw hC hf(by omega);clear h hs;generalize 65280=T at hf;refine⟨?_,fun b=>?_⟩
 ·rw[hf.on,hf.code];rcases hC.kind with h0|⟨h1,h2⟩|⟨h1,h2⟩
  ·rw[decide_eq_false(by omega)];rfl
  ·have hk1:k=1:=by omega
   have hl1:lnB L((Af L).getD 0 0)=1:=h2 _(Jz(by omega));have hc1:(Ai L).length=1:=by rw[←Io L hC.le255];exact h1
   have hcd:Bh L(Af L)k=(0,1):=by rw[hk1,Bh,Ma,hl1];simp[Bh]
   rw[hcd,decide_eq_true hc1];have:(Av 0 1==[false])=true:=by decide
   simp[this]
  ·have hi:(Af L).length-1<(Af L).length:=by omega
   have hnum:=hC.fits.num _ hi;have hkr:=Ny 32 L(Af L)_ hi;have hsh:=hC.short((Af L).getD((Af L).length-1)0);have hlt:=hC.fits.lt _ hi;rw[show(Af L).length-1+1=(Af L).length from by omega,Alx,h2,←hnum,show(Af L).length-1+1=(Af L).length from by omega]at hkr;rw[show(Af L).length-1+1=(Af L).length from by omega]at hlt;have hlen:(Bh L(Af L)(Af L).length).2=lnB L((Af L).getD((Af L).length-1)0):=by
    have:=Hr L(Af L)((Af L).length-1);rwa [show(Af L).length-1+1=(Af L).length from by omega]at this
   rw[hk,hlen,Ve _ _ hlt,if_neg]
   ·simp
   ·intro c;have e:(2:Nat)^32=2^lnB L((Af L).getD((Af L).length-1)0)*2^(32-lnB L((Af L).getD((Af L).length-1)0)):=by rw[←Nat.pow_add,Nat.add_sub_cancel' hsh]
    have hp:0<(2:Nat)^(32-lnB L((Af L).getD((Af L).length-1)0)):=Am2 _;have h3:=Nat.mul_lt_mul_of_pos_right c hp;rw[←e,Am5,Nat.one_mul]at h3;omega
 ·by_cases hb:b∈Af L
  ·obtain⟨i,hi,rfl⟩:=Iv hb;rw[hf.made i(by omega)];unfold Hb Bp;rw[Acj,Oo L i hi,Hr]
  ·rw[hf.none b(fun i hi e=>hb(by rw[←e];exact Jz(by omega)))];have h0:lnB L b=0:=by have:=mt(hC.mem b).2 hb;omega
   unfold Hb;rw[h0];rfl
end Hm
namespace Hm
theorem Ajx(l:List Bool): ∀x:Nat,l.foldl(fun a b=>2*a+b.toNat)x=x*2^l.length+Eo l:=by
 induction l with
 |nil=>intro x;simp[Eo]
 |cons b t ih=>
  intro x;rw[Aob,ih,Alz,Amd];unfold Eo;rw[Aob,ih(2*0+b.toNat)];unfold Eo;rw[Am5,Nat.mul_zero,Alv,Ams];congr 1;rw[Anx,Nat.mul_left_comm,Ann 2]
theorem My(b:Bool)(t:List Bool):Eo(b::t)=b.toNat*2^t.length+Eo t:=by
 show List.foldl _(2*0+b.toNat)t=_;rw[Ajx,Nat.mul_zero,Alv]
theorem Pr: ∀l:List Bool,Eo l<2^l.length
 |[]=>by decide
 |b::t=>by
  have:=Pr t;rw[My,Alz,Amd];cases b
  ·simp;omega
  ·simp;omega
theorem Vf: ∀a b:List Bool,a.length=b.length→Eo a=Eo b→a=b
 |[],[],_,_=>rfl
 |[],_::_,h,_=>by simp at h
 |_::_,[],h,_=>by simp at h
 |x::a,y::b,h,e=>by
  have hl:a.length=b.length:=by simpa using h
  have h1:=Pr a;have h2:=Pr b;rw[My,My,hl]at e;rw[hl]at h1;cases x<;>cases y
  ·rw[Vf a b hl(by simpa using e)]
  ·simp at e;omega
  ·simp at e;omega
  ·rw[Vf a b hl(by simpa using e)]
theorem Zb: ∀a b:List Bool,a.length=b.length→Op.bytesLess(Ad a)(Ad b)=decide(Eo a<Eo b)
 |[],[],_=>rfl
 |[],_::_,h=>by simp at h
 |_::_,[],h=>by simp at h
 |x::a,y::b,h=>by
  have hl:a.length=b.length:=by simpa using h
  have h1:=Pr a;have h2:=Pr b;have ih:=Zb a b hl;have e:Op.bytesLess(Ad(x::a))(Ad(y::b))=(decide((if x then(49:UInt8)else 48)<(if y then 49 else 48))||((if x then(49:UInt8)else 48)==(if y then 49 else 48)&&Op.bytesLess(Ad a)(Ad b))):=rfl;rw[e,ih,My,My,hl];rw[hl]at h1;cases x<;>cases y
  ·simp
  ·simp;omega
  ·simp;omega
  ·simp
structure HS(cd:UInt8→List Bool)(n c fr:Nat)(out:List(List Bool)):Prop where
 srt:out.Pairwise M0
 le:fr≤out.length
 low: ∀i,i<fr→(out.getD i []).length<n
 high: ∀i,fr≤i→i<out.length→(out.getD i []).length=n
 mem: ∀h,h∈out↔ ∃b:UInt8,h.length<(cd b).length∧(cd b).take h.length=h∧(h.length<n∨(h.length=n∧b.toNat<c))
 few:out.length≤n*256+c
section
variable{cd:UInt8→List Bool}{n c fr:Nat}{out:List(List Bool)}
theorem HS.start:HS cd 0 0 0 []:=⟨List.Pairwise.nil,Alc _,fun i h=>by omega,fun i _ h=>by simp at h,fun h=>by simp,Alk _⟩
theorem HS.skip(h:HS cd n c fr out)(b:UInt8)(hb:b.toNat=c)(hl:(cd b).length≤n):HS cd n(c+1)fr out:=by
 refine⟨h.srt,h.le,h.low,h.high,fun x=>?_,by have:=h.few;omega⟩;rw[h.mem];constructor
 ·rintro⟨b',h1,h2,h3⟩;exact⟨b',h1,h2,by omega⟩
 ·rintro⟨b',h1,h2,h3⟩;refine⟨b',h1,h2,?_⟩;rcases h3 with h3|⟨h3,h4⟩
  ·exact .inl h3
  ·rcases Amn b'.toNat c with k|k
   ·exact .inr⟨h3,k⟩
   ·have:b'=b:=UInt8.toNat_inj.1(by omega);subst this;omega
theorem HS.next(h:HS cd n 256 fr out):HS cd(n+1)0 out.length out:=by
 refine⟨h.srt,Alc _,fun i hi=>?_,fun i h1 h2=>by omega,fun x=>?_,by have:=h.few;omega⟩
 ·rcases Amn i fr with k|k
  ·have:=h.low i k;omega
  ·have:=h.high i k hi;omega
 ·rw[h.mem];constructor
  ·rintro⟨b',h1,h2,h3⟩;exact⟨b',h1,h2,by omega⟩
  ·rintro⟨b',h1,h2,h3⟩;have:=b'.toNat_lt;exact⟨b',h1,h2,by omega⟩
theorem HS.last(h:HS cd n 0 fr out)(hl: ∀b,(cd b).length≤n):Ev cd out:=by
 refine⟨h.srt,fun x=>?_⟩;rw[h.mem];constructor
 ·rintro⟨b',h1,h2,_⟩;exact⟨b',h1,h2⟩
 ·rintro⟨b',h1,h2⟩;have:=hl b';exact⟨b',h1,h2,by omega⟩
theorem Sp{l:List(List Bool)}{i:Nat}(h:i<l.length):l.getD i []∈l:=by
 rw[Ak7,Ak8 h];exact Alh _
theorem HS.stop(h:HS cd n 256 fr out)(he:out.length=fr):Ev cd out:=by
 have hs: ∀b,(cd b).length≤n:=by
  intro b;rcases Amn n(cd b).length with k|k
  ·exfalso;have hl:((cd b).take n).length=n:=by rw[Alg];omega
   have hm:(cd b).take n∈out:=(h.mem _).2⟨b,by omega,by rw[hl],.inr⟨hl,b.toNat_lt⟩⟩;obtain⟨i,hi,e⟩:=Al7 hm;have h1:=h.low i(by omega);rw[Ak7,Ak8 hi]at h1;simp only[Am1]at h1;rw[e,hl]at h1;omega
  ·exact k
 refine⟨h.srt,fun x=>?_⟩;rw[h.mem];constructor
 ·rintro⟨b',h1,h2,_⟩;exact⟨b',h1,h2⟩
 ·rintro⟨b',h1,h2⟩;have:=hs b';exact⟨b',h1,h2,by omega⟩
theorem HS.same(h:HS cd n c fr out)(b:UInt8)(hb:b.toNat=c)(hl:n<(cd b).length)(hm:(cd b).take n∈out):HS cd n(c+1)fr out:=by
 refine⟨h.srt,h.le,h.low,h.high,fun x=>?_,by have:=h.few;omega⟩;constructor
 ·intro hx;obtain⟨b',h1,h2,h3⟩:=(h.mem x).1 hx;exact⟨b',h1,h2,by omega⟩
 ·rintro⟨b',h1,h2,h3⟩;rcases h3 with h3|⟨h3,h4⟩
  ·exact(h.mem x).2⟨b',h1,h2,.inl h3⟩
  ·rcases Amn b'.toNat c with k|k
   ·exact(h.mem x).2⟨b',h1,h2,.inr⟨h3,k⟩⟩
   ·have:b'=b:=UInt8.toNat_inj.1(by omega);subst this;rw[←h2,h3];exact hm
theorem HS.put(h:HS cd n c fr out)(b:UInt8)(hb:b.toNat=c)(hl:n<(cd b).length){a:Nat}(hf:fr≤a)(ha:a≤out.length)(hlo: ∀i,fr≤i→i<a→Eo(out.getD i [])<Eo((cd b).take n))(hhi:a<out.length→ ¬Eo(out.getD a [])<Eo((cd b).take n)∧out.getD a []≠(cd b).take n):
  HS cd n(c+1)fr(out.take a++(cd b).take n::out.drop a):=by
 have hx:((cd b).take n).length=n:=by rw[Alg];omega
 obtain⟨x,hxe⟩: ∃x,x=(cd b).take n:=⟨_,rfl⟩;rw[←hxe]at hx hlo hhi⊢;have hget: ∀i,i<out.length→out[i]?=some(out.getD i []):=fun i hi=>by rw[Ak7,Ak8 hi];rfl
 have hlow: ∀y∈out.take a,M0 y x:=by
  intro y hy;obtain⟨i,hi,rfl⟩:=Al7 hy;have hia:i<a:=by rw[Alg]at hi;omega
  have e:(out.take a)[i]=out.getD i []:=by
   rw[List.getElem_take,Ak7,Ak8(by omega)];rfl
  rw[e];rcases Amn i fr with k|k
  ·exact .inl(by rw[hx];exact h.low i k)
  ·exact .inr⟨by rw[hx];exact h.high i k(by omega),hlo i k hia⟩
 have hhigh: ∀y∈out.drop a,M0 x y:=by
  intro y hy;obtain⟨i,hi,rfl⟩:=Al7 hy;have hil:a+i<out.length:=by rw[Aly]at hi;omega
  have e:(out.drop a)[i]=out.getD(a+i) []:=by
   rw[List.getElem_drop,Ak7,Ak8 hil];rfl
  rw[e];have h1:=h.high(a+i)(by omega)hil;obtain⟨q1,q2⟩:=hhi(by omega);have h0:=h.high a hf(by omega);have hva:Eo x<Eo(out.getD a []):=by
   rcases Al4(Eo(out.getD a []))(Eo x)with k|k|k
   ·exact absurd k q1
   ·exact absurd(Vf _ _(by rw[h0,hx])k)q2
   ·exact k
  refine .inr⟨by rw[hx,h1],?_⟩;rcases Nat.eq_zero_or_pos i with k|k
  ·subst k;exact hva
  ·have hp:=List.pairwise_iff_getElem.1 h.srt a(a+i)(by omega)hil(by omega);have e1:out[a]=out.getD a []:=by rw[Ak7,Ak8(by omega)];rfl
   have e2:out[a+i]=out.getD(a+i) []:=by rw[Ak7,Ak8 hil];rfl
   rw[e1,e2]at hp;unfold M0 at hp;omega
 refine⟨?_,?_,fun i hi=>?_,fun i h1 h2=>?_,fun y=>?_,?_⟩
 ·rw[List.pairwise_append,An5];refine⟨h.srt.sublist(List.take_sublist _ _),⟨hhigh,h.srt.sublist(List.drop_sublist _ _)⟩,fun y hy z hz=>?_⟩;rcases List.mem_cons.1 hz with rfl|hz
  ·exact hlow y hy
  ·have q1:=hlow y hy;have q2:=hhigh z hz;unfold M0 at*;omega
 ·simp;have:=h.le;omega
 ·have e:(out.take a++x::out.drop a).getD i []=out.getD i []:=by
   rw[Ak7,Al3(by rw[Alg];have:=h.le;omega),Amw(by omega),←Ak7]
  rw[e];exact h.low i hi
 ·have hl2:i<out.length+1:=by simp at h2;omega
  rcases Al4 i a with k|k|k
  ·have e:(out.take a++x::out.drop a).getD i []=out.getD i []:=by
    rw[Ak7,Al3(by rw[Alg];omega),Amw k,←Ak7]
   rw[e];exact h.high i h1(by omega)
  ·subst k;rw[Ak7,Alm(by rw[Alg];omega),Alg,Am3 ha,Ama];exact hx
  ·obtain⟨j,rfl⟩: ∃j,i=a+j+1:=⟨i-a-1,by omega⟩;rw[Ak7,Alm(by rw[Alg];omega),Alg,Am3 ha,show a+j+1-a=j+1 from by omega,Anl,List.getElem?_drop,←Ak7];exact h.high(a+j)(by omega)(by omega)
 ·have e:y∈out.take a++x::out.drop a↔y=x∨y∈out:=by
   rw[Aoa,List.mem_cons];constructor
   ·rintro(k|k|k)
    ·exact .inr(List.mem_of_mem_take k)
    ·exact .inl k
    ·exact .inr(List.mem_of_mem_drop k)
   ·rintro(k|k)
    ·exact .inr(.inl k)
    ·rw[←Amg a out,Aoa]at k;rcases k with k|k
     ·exact .inl k
     ·exact .inr(.inr k)
  rw[e];constructor
  ·rintro(rfl|k)
   ·exact⟨b,by omega,by rw[hx,hxe],.inr⟨hx,by omega⟩⟩
   ·obtain⟨b',h1,h2,h3⟩:=(h.mem y).1 k;exact⟨b',h1,h2,by omega⟩
  ·rintro⟨b',h1,h2,h3⟩;rcases h3 with h3|⟨h3,h4⟩
   ·exact .inr((h.mem y).2⟨b',h1,h2,.inl h3⟩)
   ·rcases Amn b'.toNat c with k|k
    ·exact .inr((h.mem y).2⟨b',h1,h2,.inr⟨h3,k⟩⟩)
    ·have:b'=b:=UInt8.toNat_inj.1(by omega);subst this;exact .inl(by rw[hxe,←h2,h3])
 ·simp;have:=h.few;omega
end
end Hm
end Go.Proofs.YtegnkfdbmmndaaaGreat
namespace Go.Proofs.YtegnkfdbmmndaaaGreat
open Hm
open Go.RowKit
theorem Acl:(Tryz.prog.info? 9).map(fun i=>(i.zero,i.size,i.bytes))=some(some(.string⟨#[]⟩),1,16):=by kernel_rfl
theorem Ae0(cur xs:List Value)(e H:Value)(m a:Nat)(hm:xs.length=m)(ha:a≤m)(hc:cur.take(m+1)=xs++[e])(hl:m+1≤cur.length):((splice cur(a+1)(xs.drop a)).set a H).take(m+1)=xs.take a++H::xs.drop a:=by
 have hcur: ∀i,i<m→cur[i]?=xs[i]?:=fun i hi=>by
  have h1:(cur.take(m+1))[i]?=cur[i]?:=Amw(by omega);rw[←h1,hc,Al3(by omega)]
 have hdl:(xs.drop a).length=m-a:=by rw[Aly,hm]
 have htl:(cur.take(a+1)).length=a+1:=by rw[Alg];omega
 have hxt:(xs.take a).length=a:=by rw[Alg];omega
 apply List.ext_getElem?;intro i;rcases Amn i(m+1)with k|k
 ·rw[Amw k];rcases Al4 i a with q|q|q
  ·rw[Anm(by omega),splice,Al3(by omega),Amw(by omega),hcur i(by omega),Al3(by omega),Amw q]
  ·subst q;rw[Anp(by rw[length_splice _ _ _(by rw[hdl];omega)];omega),Alm(by omega),hxt,Ama];rfl
  ·obtain⟨j,rfl⟩: ∃j,i=a+1+j:=⟨i-a-1,by omega⟩;rw[Anm(by omega),splice,Alm(by omega),htl,show a+1+j-(a+1)=j from by omega,Al3(by omega),Alm(by omega),hxt,show a+1+j-a=j+1 from by omega,Anl]
 ·rw[Als(by rw[Alg];omega),Als(by rw[Ald,Alz,hdl,hxt];omega)]
namespace Hm
def cdL(o:List(List Bool))(b:UInt8):List Bool:=o.getD b.toNat []
theorem Yf(x:List Bool)(n:Nat):(⟨(Ad x).toArray⟩:ByteArray).extract 0 n=⟨(Ad(x.take n)).toArray⟩:=by
 apply Am8;rw[Anq];apply Amm;rw[Anw,Am6];simp[Ad,List.map_take]
theorem Lx: ∀x y:List Bool,Ad x=Ad y→x=y
 |[],[],_=>rfl
 |[],_::_,h=>by simp[Ad]at h
 |_::_,[],h=>by simp[Ad]at h
 |a::x,b::y,h=>by
  have h1:(if a then(49:UInt8)else 48)=(if b then 49 else 48)∧Ad x=Ad y:=by
   have:=List.cons.inj h;exact this
  rw[Lx x y h1.2];have h2:=h1.1;cases a<;>cases b<;>first|rfl|simp at h2
end Hm
set_option maxRecDepth 20000 in
set_option maxHeartbeats 4000000 in
theorem Sq(o:List(List Bool))(w:World)(hol:o.length=256)(hox: ∀x∈o,x.length≤255):
  Calls Tryz.prog 90#[.agg(Ao o).toArray]w fun e w'=> ∃(v:Value)(hs:List(List Bool)),e= .returned v∧Ev(Hm.cdL o)hs∧hs.length≤65792∧w'.ownsRow w.heap.size 9 1 v hs.length(Ao hs)∧Aa(fun _=>False)w w':=by
 obtain⟨i0,hi,hz0,hz1,hz2⟩:=info_parts Acl;have hgx: ∀b:Nat,b<256→(o.getD b []).length≤255:=fun b hb=>by
  rw[Ak7,Ak8(show b<o.length from by omega)];exact hox _(Alh _)
 have HG:Aside(∀b:Nat,b<256→(o.getD b []).length≤255):=hgx;have HOL:Aside(o.length=256):=hol;clear hgx hox hol
 go_enter Tryz.func90,Tryz.ntmps90
 go_upto_region 1 with fail;have g0:TR(w.alloc(.cells(Ao o).toArray 113))w.heap.size o:=heap_alloc_new w _;have hk0:Aa(fun _=>False)w(w.alloc(.cells(Ao o).toArray 113)):=(Aa.refl _ _).alloc _;have hB:w.heap.size<(w.alloc(.cells(Ao o).toArray 113)).heap.size:=by simp
 generalize w.alloc(.cells(Ao o).toArray 113)=W at*;have HW:Aside(TR W w.heap.size o∧Aa(fun _=>False)w W∧w.heap.size<W.heap.size):=⟨g0,hk0,hB⟩;clear g0 hk0 hB;go_wp2_with fail
 go_loopw [3,4](fun vo vn wr=> ∃(n:Nat)(out:List(List Bool)),n≤256∧vn= .int .i64 n∧Hid(Hm.HS(Hm.cdL o)n 0 out.length out)∧Aside(wr.ownsRow W.heap.size 9 1 vo out.length(Ao out))∧Aa(fun _=>False)W wr)(fun _ vn _=>256-(intOf vn).toNat)
 case atStart=>exact⟨0,[],by omega,rfl,Hm.HS.start,⟨rfl,.inl⟨rfl,rfl⟩⟩,Aa.refl _ _⟩
 case round=>
  obtain⟨n,out,hn,rfl,HS,HO,hkr⟩:=hrel;have hfew:out.length≤65792:=by have:=HS.out.few;omega
  have HKR:Aside(Aa(fun _=>False)W wr):=hkr;clear hkr
  by_cases hlt:n<256
  ·have hdec:decide((n:Int)<256)=true:=decide_eq_true(by omega);obtain⟨ao,co,hvo,_⟩:=A0 HO.out;subst hvo;go_wp2_with fail;obtain⟨fr,hfr⟩: ∃fr,fr=out.length:=⟨_,rfl⟩;rw[←hfr];have HFR:Aside(fr=out.length):=hfr;clear hfr
   go_loopw [3,6](fun vo vc wx=> ∃(c:Nat)(out2:List(List Bool)),c≤256∧vc= .int .i64 c∧Hid(Hm.HS(Hm.cdL o)n c fr out2)∧Aside(wx.ownsRow W.heap.size 9 1 vo out2.length(Ao out2))∧Aa(fun _=>False)W wx)(fun _ vc _=>256-(intOf vc).toNat)
   case atStart=>exact⟨0,out,by omega,rfl,by rw[HFR.out];exact HS.out,by rw[HFR.out];exact HO,HKR.out⟩
   case round=>
    obtain⟨c,out2,hc,rfl,HS2,HO2,hkr2⟩:=hrel;have hfew2:out2.length≤65792:=by have:=HS2.out.few;omega
    have HKR2:Aside(Aa(fun _=>False)W wr):=hkr2;obtain⟨ao2,co2,hvo2,_⟩:=A0 HO2.out;subst hvo2;clear HO
    by_cases hlc:c<256
    ·have hdec:decide((c:Int)<256)=true:=decide_eq_true(by omega);have hcI:(c:Int)<256:=by omega
     have hcc:=(HW.out.1.kept hkr2 id).cell(i:=c)(by rw[HOL.out];exact hlc);clear hkr2;obtain⟨b,hb⟩: ∃b:UInt8,b.toNat=c:=⟨UInt8.ofNat c,by rw[Al0];omega⟩;obtain⟨x,hx⟩: ∃x,x=o.getD c []:=⟨_,rfl⟩;have HX:Aside(Hm.cdL o b=x∧b.toNat=c):=⟨by rw[hx];unfold Hm.cdL;rw[hb],hb⟩;rw[←hx]at hcc;have hxl:x.length≤255:=by rw[hx];exact HG.out c hlc
     obtain⟨S,hS⟩: ∃S,S=(⟨(Ad x).toArray⟩:ByteArray):=⟨_,rfl⟩;rw[←hS]at hcc;have hsz:S.size=x.length:=by rw[hS];show(Ad x).toArray.size=_;simp[Ad]
     have HSS:Aside(S=(⟨(Ad x).toArray⟩:ByteArray)):=hS;clear hx hS hb
     by_cases hle:x.length≤n
     ·have hdl:decide((S.size:Int)≤(n:Int))=true:=decide_eq_true(by omega);have HSk:Aside(Hm.HS(Hm.cdL o)n(c+1)fr out2):=HS2.out.skip b HX.out.2(by rw[HX.out.1];exact hle);go_wp2_with fail;go_roundw
      case rel=>exact⟨c+1,out2,by omega,by go_num,HSk.out,HO2,HKR2.out⟩
      case measure=>simp[intOf];omega
     ·have hdl:decide((S.size:Int)≤(n:Int))=false:=decide_eq_false(by omega);have hnI:(n:Int)≤(S.size:Int):=by omega
      go_wp2_with fail;obtain⟨H,hH⟩: ∃H,H=S.extract 0 n:=⟨_,rfl⟩;rw[←hH];obtain⟨y,hy⟩: ∃y,y=x.take n:=⟨_,rfl⟩;have HHs:Aside(H=(⟨(Ad y).toArray⟩:ByteArray)∧y=x.take n∧y.length=n):=⟨by rw[hH,HSS.out,hy];exact Yf x n,hy,by rw[hy,Alg];omega⟩;clear hH hy hcc
      go_loopw [8](fun va wy=> ∃a:Nat,va= .int .i64 a∧fr≤a∧a≤out2.length∧Hid(∀i,fr≤i→i<a→Eo(out2.getD i [])<Eo y)∧wr=wy)(fun va _=>out2.length-(intOf va).toNat)
      case atStart=>exact⟨fr,rfl,Alc _,HS2.out.le,fun i h1 h2=>by omega,rfl⟩
      case round=>
       obtain⟨a,rfl,hfa,hal,HLO,rfl⟩:=hrel
       by_cases haL:a<out2.length
       ·have hda:decide((a:Int)<(out2.length:Int))=true:=decide_eq_true(by omega);have haI0:(a:Int)<(out2.length:Int):=by omega
        obtain⟨g,hg⟩: ∃g,ao2=some⟨g,0,none⟩:=by
         rcases HO2.out.2 with⟨e,h0⟩|⟨g,cap,cur,e,_⟩
         ·omega
         ·exact⟨g,(Value.slice.inj e).1⟩
        subst hg;obtain⟨Z,hZ⟩: ∃Z,Z=(⟨(Ad(out2.getD a [])).toArray⟩:ByteArray):=⟨_,rfl⟩;have hca:wr.cell?⟨g,a,none⟩=some(.string Z):=by
         rw[HO2.out.cellAt a(by omega),hZ];simp[Ao,List.getD_eq_getElem?_getD,List.getElem?_eq_getElem haL]
        have hzl:(out2.getD a []).length=n:=HS2.out.high a hfa haL;have hbl:Op.bytesLess Z.toList H.toList=decide(Eo(out2.getD a [])<Eo y):=by
         rw[hZ,HHs.out.1,ByteArray.toList_eq,ByteArray.toList_eq];exact Zb _ _(by rw[hzl,HHs.out.2.2])
        have hqe:(Z.toList==H.toList)=decide(out2.getD a []=y):=by
         rw[hZ,HHs.out.1,ByteArray.toList_eq,ByteArray.toList_eq]
         by_cases e:out2.getD a []=y
         ·rw[decide_eq_true e,e];simp
         ·rw[decide_eq_false e,beq_eq_false_iff_ne];exact fun k=>e(Lx _ _ k)
        clear hZ hzl
        by_cases hless:Eo(out2.getD a [])<Eo y
        ·rw[decide_eq_true hless]at hbl;have HL2:Aside(∀i,fr≤i→i<a+1→Eo(out2.getD i [])<Eo y):=fun i h1 h2=>by
          rcases Amn i a with k|k
          ·exact HLO.out i h1 k
          ·obtain rfl:i=a:=by omega
           exact hless
         clear hless hqe;go_wp2_with fail;go_roundw
         case rel=>exact⟨a+1,by go_num,by omega,by omega,HL2.out,by first|rfl|trivial⟩
         case measure=>simp[intOf];omega
        ·rw[decide_eq_false hless]at hbl
         by_cases heq:out2.getD a []=y
         ·rw[decide_eq_true heq]at hqe;have HSk:Aside(Hm.HS(Hm.cdL o)n(c+1)fr out2):=HS2.out.same b HX.out.2(by rw[HX.out.1];omega)(by rw[HX.out.1,←HHs.out.2.1,←heq];exact Sp haL);clear heq hless;go_wp2_with fail;go_roundw
          case rel=>exact⟨c+1,out2,by omega,by go_num,HSk.out,HO2,HKR2.out⟩
          case measure=>simp[intOf];omega
         ·rw[decide_eq_false heq]at hqe;have HSk:Aside(Hm.HS(Hm.cdL o)n(c+1)fr(out2.take a++y::out2.drop a)):=by
           have:=HS2.out.put b HX.out.2(by rw[HX.out.1];omega)hfa hal(by rw[HX.out.1,←HHs.out.2.1];exact HLO.out)(fun _=>by rw[HX.out.1,←HHs.out.2.1];exact⟨hless,heq⟩);rwa [HX.out.1,←HHs.out.2.1]at this
          clear heq hless
          go_wp2_with(at_builtin;refine Ba _ rfl(.tmp 57)(.tmp 58)26 rfl W.heap.size 9 i0(.string⟨#[]⟩)1 16 Tryz.underlying26 hi hz0 hz1 hz2 rfl(by decide)_ _ _ rfl(HO2.out.alloc _)⟨wr.heap.size,0,none⟩1 1 [.string⟨#[]⟩]rfl rfl ?c1 ?c2 ?c3 ?c4 ?c5 ?_)
          case c1=>exact cell_one_new _ _ _
          case c2=>intro u hu;simp at hu;subst hu;rfl
          case c3=>unfold maxLen;omega
          case c4=>omega
          case c5=>have:=HKR2.out.size;simp;omega
          intro v5 w5 ho5 hg5 hm5;have hk5:Aa(fun _=>False)W w5:=(HKR2.out.alloc _).grown hg5(fun j hj=> .inl(HO2.out.lt j hj).1);obtain⟨g5,cap,cur,hv5,hbg,hgr,hnc,hcm,hcs,hct⟩: ∃g cap cur,v5= .slice(some⟨g,0,none⟩)(out2.length+1)cap∧W.heap.size≤g∧w5.heap[g]?=some(.cells cur 9(0,0))∧out2.length+1≤cap∧cap≤maxLen∧cur.size=cap*1∧cur.toList.take((out2.length+1)*1)=Ao out2++[.string⟨#[]⟩]:=by
           rcases ho5.2 with⟨_,h⟩|h
           ·omega
           ·exact h
          subst hv5;rw[Ana]at hcs hct;obtain⟨cl,hcl⟩: ∃cl:List Value,cl=cur.toList:=⟨_,rfl⟩;have hcu:cur=cl.toArray:=by rw[hcl]
          rw[hcu]at hgr hcs hct;rw[Alj]at hcs;clear hg5 hm5 ho5 hcl hcu;have H5:Aside(W.heap.size≤g5∧w5.heap[g5]?=some(.cells cl.toArray 9(0,0))∧Aa(fun _=>False)W w5∧cap≤maxLen∧cl.take(out2.length+1)=Ao out2++[.string⟨#[]⟩]):=⟨hbg,hgr,hk5,hcm,by simpa using hct⟩;clear hbg hgr hk5 hcm hct;have haI:(a:Int)≤(out2.length:Int):=by omega
          have hncI:(out2.length:Int)+1≤(cap:Int):=by omega
          go_wp2_with fail;have hwr:IntKind.i64.wrap((a:Int)+1)=(a:Int)+1:=by rw[IntKind.wrap_i64];omega
          have hto:((a:Int)+1).toNat=a+1:=by omega
          have hca2: ¬cap=a:=by omega
          refine wp_region_held_drew(S:=fun _=>True)(by kernel_rfl)trivial(fun hHeld=>?_)
          refine wpAnyH_take (i := 0) (oi := { dst := some 60, op := Op.move (Operand.tmp 3), type := 26, pos := "hoardref.go:202", after := #[], guard := none }) (v := ?_) rfl (by kernel_rfl) (by kernel_rfl) (by kernel_rfl) (fun _ _ _ h => h) (Or.inl ⟨by kernel_rfl, ?_⟩) (by assumption) ?_
          rotate_left
          ·intro X hSw;go_simp
           with_reducible rfl
          simp only[Act.put,Ak9,Ala,Alb]
          refine wpAnyH_take (i := 1) (oi := { dst := some 61, op := Op.move (Operand.tmp 8), type := 3, pos := "hoardref.go:202", after := #[], guard := none }) (v := ?_) rfl (by kernel_rfl) (by kernel_rfl) (by kernel_rfl) (fun _ _ _ h => h) (Or.inl ⟨by kernel_rfl, ?_⟩) (by assumption) ?_
          rotate_left
          ·intro X hSw;go_simp
           with_reducible rfl
          simp only[Act.put,Ak9,Ala,Alb]
          refine wpAnyH_take (i := 2) (oi := { dst := some 62, op := Op.binOp BinOp.add 3 (Operand.tmp 61) (Operand.const (Value.int IntKind.i64 1)) 3, type := 3, pos := "hoardref.go:202", after := #[{ on := 1, ground := Ground.data }], guard := none }) (v := .int .i64 ((a : Int) + 1)) rfl (by kernel_rfl) (by kernel_rfl) (by kernel_rfl) (fun _ _ _ h => h) (Or.inl ⟨by kernel_rfl, ?_⟩) (by assumption) ?_
          ·intro X hSw;go_simp
           all_goals(try rw[hwr])
           all_goals(try rfl)
          simp only[Act.put,Ak9,Ala,Alb]
          refine wpAnyH_take (i := 3) (oi := { dst := some 63, op := Op.slice 26 (Operand.tmp 60) (some (Operand.tmp 62)) none none, type := 26, pos := "hoardref.go:202", after := #[{ on := 0, ground := Ground.data }, { on := 2, ground := Ground.data }], guard := none }) (v := .slice (if cap = a + 1 then some ⟨g5, 0, none⟩ else some ⟨g5, a + 1, none⟩) (out2.length + 1 - (a + 1)) (cap - (a + 1))) rfl (by kernel_rfl) (by kernel_rfl) (by kernel_rfl) (fun _ _ _ h => h) (Or.inl ⟨by kernel_rfl, ?_⟩) (by assumption) ?_
          ·intro X hSw;go_simp
           all_goals(try rw[if_pos(by omega)])
           all_goals(try simp only[hto])
           all_goals(try rfl)
           all_goals(try(intro hneg;exfalso;omega))
          simp only[Act.put,Ak9,Ala,Alb]
          refine wpAnyH_take (i := 4) (oi := { dst := some 64, op := Op.move (Operand.tmp 3), type := 26, pos := "hoardref.go:202", after := #[], guard := none }) (v := ?_) rfl (by kernel_rfl) (by kernel_rfl) (by kernel_rfl) (fun _ _ _ h => h) (Or.inl ⟨by kernel_rfl, ?_⟩) (by assumption) ?_
          rotate_left
          ·intro X hSw;go_simp
           with_reducible rfl
          simp only[Act.put,Ak9,Ala,Alb]
          refine wpAnyH_take (i := 5) (oi := { dst := some 65, op := Op.move (Operand.tmp 8), type := 3, pos := "hoardref.go:202", after := #[], guard := none }) (v := ?_) rfl (by kernel_rfl) (by kernel_rfl) (by kernel_rfl) (fun _ _ _ h => h) (Or.inl ⟨by kernel_rfl, ?_⟩) (by assumption) ?_
          rotate_left
          ·intro X hSw;go_simp
           with_reducible rfl
          simp only[Act.put,Ak9,Ala,Alb]
          refine wpAnyH_take (i := 6) (oi := { dst := some 66, op := Op.slice 26 (Operand.tmp 64) (some (Operand.tmp 65)) none none, type := 26, pos := "hoardref.go:202", after := #[{ on := 4, ground := Ground.data }, { on := 5, ground := Ground.data }], guard := none }) (v := .slice (some ⟨g5, a, none⟩) (out2.length + 1 - a) (cap - a)) rfl (by kernel_rfl) (by kernel_rfl) (by kernel_rfl) (fun _ _ _ h => h) (Or.inl ⟨by kernel_rfl, ?_⟩) (by assumption) ?_
          ·intro X hSw;go_simp
           all_goals(try rw[if_pos(by omega)])
           all_goals(try rw[if_neg hca2])
           all_goals(try rfl)
           all_goals(try(intro hneg;exfalso;omega))
          simp only[Act.put,Ak9,Ala,Alb];refine wpAnyH_ready(rs:=[7])(by kernel_rfl)(by simp)?_
          refine AllReadyH.cons (o := { dst := some 67, op := Op.call { callee := Callee.builtin Builtin.copy, args := #[Operand.tmp 63, Operand.tmp 66], argTypes := #[26, 26] }, type := 3, pos := "hoardref.go:202", after := #[{ on := 3, ground := Ground.data }, { on := 6, ground := Ground.data }], guard := none }) rfl (fun K hK => ?_) AllReadyH.nil
          have hdl:((Ao out2).drop a).length=out2.length-a:=by rw[Aly,Bl]
          have hci: ∀i,i<out2.length→cl[i]?=(Ao out2)[i]?:=fun i hi=>by
           have h1:(cl.take(out2.length+1))[i]?=cl[i]?:=Amw(by omega);rw[←h1,H5.out.2.2.2.2,Al3(by rw[Bl];omega)]
          refine step_copy_splice (o := { dst := some 67, op := Op.call { callee := Callee.builtin Builtin.copy, args := #[Operand.tmp 63, Operand.tmp 66], argTypes := #[26, 26] }, type := 3, pos := "hoardref.go:202", after := #[{ on := 3, ground := Ground.data }, { on := 6, ground := Ground.data }], guard := none }) rfl (.tmp 63) (.tmp 66) 26 26 rfl 9 Tryz.underlying26 (by rw [hi]; simp [hz1]) _ _ _ _ _ _ rfl rfl g5 (a + 1) cl 9 H5.out.2.1 ((Ao out2).drop a) ?d1 ?d2 ?d3 ?d4 g5 w5.drew (Below.refl _ _) (Nat.le_refl _) ?d5
          case d1=>rw[hdl];show _=min(out2.length+1-a)(out2.length+1-(a+1));omega
          case d2=>
           intro hp;rw[hdl]at hp;refine⟨by rw[if_neg(by omega)],_,rfl,fun j v hj=>?_⟩;rw[List.getElem?_drop]at hj;have hjl:a+j<out2.length:=by
            have:=(List.getElem?_eq_some_iff.1 hj).1;rw[Bl]at this;exact this
           have had:(⟨g5,a,none⟩:Addr).add j=⟨g5,a+j,none⟩:=by cases j<;>simp[Addr.add]
           rw[had];rw[cell_of_row _ _(a+j)_ _ _(show w5.drew.heap[g5]?=_ from H5.out.2.1),Alp,hci _ hjl,hj]
          case d3=>rw[hdl];omega
          case d4=>
           intro v hv;have h1:=Kk out2;rw[Am9]at h1;exact h1 v(by simpa using List.mem_of_mem_drop hv)
          case d5=>
           intro w6 hw6 hb6;refine hK.out _ _ trivial(fun hHeld=>?_);clear hK K;refine wpAnyH_done(by kernel_rfl)?_ _;have hsl:(splice cl(a+1)((Ao out2).drop a)).length=cap:=by rw[length_splice _ _ _(by rw[hdl];omega)];exact hcs
           have hk6:Aa(fun j=>g5≤j)w5.drew w6:=⟨hb6.os,hb6.tape,hb6.output,hb6.size,fun j _ hn=>hb6.block j(by omega)⟩;have hK6:Aa(fun _=>False)W w6:=(H5.out.2.2.1.drew).trans hk6(fun j h1 h2=>by have:=H5.out.1;omega);have HR6:Aside(w6.heap[g5]?=some(.cells(splice cl(a+1)((Ao out2).drop a)).toArray 9(0,0))∧Aa(fun _=>False)W w6):=⟨hw6.out,hK6⟩;obtain⟨old,hold⟩: ∃old,(splice cl(a+1)((Ao out2).drop a))[a]?=some old:=⟨_,Ak8(by rw[hsl];omega)⟩;have co6:w6.cell?⟨g5,a,none⟩=some old:=by rw[cell_of_row _ _ a _ _ _ HR6.out.1,Alp,hold]
           have fo6:w6.frozen?⟨g5,a,none⟩=false:=frozen_of_row _ _ a _ _ HR6.out.1;have haI2:(a:Int)<(out2.length:Int)+1:=by omega
           have HIN:Aside(((splice cl(a+1)((Ao out2).drop a)).set a(.string H)).take(out2.length+1)=(Ao out2).take a++ .string H::(Ao out2).drop a):=Ae0 cl(Ao out2)_(.string H)out2.length a(Bl _)hal H5.out.2.2.2.2(by omega);clear hb6 hk6 hK6 hw6 hold hci;go_wp2_with fail;go_roundw
           case rel=>
            have hlen:(out2.take a++y::out2.drop a).length=out2.length+1:=by rw[Ald,Alz,Alg,Aly];omega
            refine⟨c+1,out2.take a++y::out2.drop a,by omega,by go_num,HSk.out,?_,?_⟩
            ·show World.ownsRow _ _ _ _ _ _ _;rw[hlen];refine⟨by rw[Bl,hlen,Ana],.inr⟨g5,cap,((splice cl(a+1)((Ao out2).drop a)).set a(.string H)).toArray,rfl,H5.out.1,?_,hnc,H5.out.2.2.2.1,?_,?_⟩⟩
             ·rw[heap_setCell_same _ g5 a _ _(.string H)HR6.out.1];congr 2;apply Amm;simp
             ·rw[Alj,Al8,hsl,Ana]
             ·rw[Ana,HIN.out,HHs.out.1];simp[Ao,List.map_take,List.map_drop]
            ·exact HR6.out.2.setCell(p:=⟨g5,a,none⟩)(.inl H5.out.1)_
           case measure=>simp[intOf];omega
       ·have hda:decide((a:Int)<(out2.length:Int))=false:=decide_eq_false(by omega);have HSk:Aside(Hm.HS(Hm.cdL o)n(c+1)fr(out2.take a++y::out2.drop a)):=by
         have:=HS2.out.put b HX.out.2(by rw[HX.out.1];omega)hfa hal(by rw[HX.out.1,←HHs.out.2.1];exact HLO.out)(fun k=>absurd k haL);rwa [HX.out.1,←HHs.out.2.1]at this
        go_wp2_with(at_builtin;refine Ba _ rfl(.tmp 57)(.tmp 58)26 rfl W.heap.size 9 i0(.string⟨#[]⟩)1 16 Tryz.underlying26 hi hz0 hz1 hz2 rfl(by decide)_ _ _ rfl(HO2.out.alloc _)⟨wr.heap.size,0,none⟩1 1 [.string⟨#[]⟩]rfl rfl ?c1 ?c2 ?c3 ?c4 ?c5 ?_)
        case c1=>exact cell_one_new _ _ _
        case c2=>intro u hu;simp at hu;subst hu;rfl
        case c3=>unfold maxLen;omega
        case c4=>omega
        case c5=>have:=HKR2.out.size;simp;omega
        intro v5 w5 ho5 hg5 hm5;have hk5:Aa(fun _=>False)W w5:=(HKR2.out.alloc _).grown hg5(fun j hj=> .inl(HO2.out.lt j hj).1);obtain⟨g5,cap,cur,hv5,hbg,hgr,hnc,hcm,hcs,hct⟩: ∃g cap cur,v5= .slice(some⟨g,0,none⟩)(out2.length+1)cap∧W.heap.size≤g∧w5.heap[g]?=some(.cells cur 9(0,0))∧out2.length+1≤cap∧cap≤maxLen∧cur.size=cap*1∧cur.toList.take((out2.length+1)*1)=Ao out2++[.string⟨#[]⟩]:=by
         rcases ho5.2 with⟨_,h⟩|h
         ·omega
         ·exact h
        subst hv5;rw[Ana]at hcs hct;obtain⟨cl,hcl⟩: ∃cl:List Value,cl=cur.toList:=⟨_,rfl⟩;have hcu:cur=cl.toArray:=by rw[hcl]
        rw[hcu]at hgr hcs hct;rw[Alj]at hcs;clear hg5 hm5 ho5 hcl hcu;have H5:Aside(W.heap.size≤g5∧w5.heap[g5]?=some(.cells cl.toArray 9(0,0))∧Aa(fun _=>False)W w5∧cap≤maxLen∧cl.take(out2.length+1)=Ao out2++[.string⟨#[]⟩]):=⟨hbg,hgr,hk5,hcm,by simpa using hct⟩;clear hbg hgr hk5 hcm hct;have haI:(a:Int)≤(out2.length:Int):=by omega
        have hncI:(out2.length:Int)+1≤(cap:Int):=by omega
        go_wp2_with fail;have hwr:IntKind.i64.wrap((a:Int)+1)=(a:Int)+1:=by rw[IntKind.wrap_i64];omega
        have hto:((a:Int)+1).toNat=a+1:=by omega
        have hca2: ¬cap=a:=by omega
        refine wp_region_held_drew(S:=fun _=>True)(by kernel_rfl)trivial(fun hHeld=>?_)
        refine wpAnyH_take (i := 0) (oi := { dst := some 60, op := Op.move (Operand.tmp 3), type := 26, pos := "hoardref.go:202", after := #[], guard := none }) (v := ?_) rfl (by kernel_rfl) (by kernel_rfl) (by kernel_rfl) (fun _ _ _ h => h) (Or.inl ⟨by kernel_rfl, ?_⟩) (by assumption) ?_
        rotate_left
        ·intro X hSw;go_simp
         with_reducible rfl
        simp only[Act.put,Ak9,Ala,Alb]
        refine wpAnyH_take (i := 1) (oi := { dst := some 61, op := Op.move (Operand.tmp 8), type := 3, pos := "hoardref.go:202", after := #[], guard := none }) (v := ?_) rfl (by kernel_rfl) (by kernel_rfl) (by kernel_rfl) (fun _ _ _ h => h) (Or.inl ⟨by kernel_rfl, ?_⟩) (by assumption) ?_
        rotate_left
        ·intro X hSw;go_simp
         with_reducible rfl
        simp only[Act.put,Ak9,Ala,Alb]
        refine wpAnyH_take (i := 2) (oi := { dst := some 62, op := Op.binOp BinOp.add 3 (Operand.tmp 61) (Operand.const (Value.int IntKind.i64 1)) 3, type := 3, pos := "hoardref.go:202", after := #[{ on := 1, ground := Ground.data }], guard := none }) (v := .int .i64 ((a : Int) + 1)) rfl (by kernel_rfl) (by kernel_rfl) (by kernel_rfl) (fun _ _ _ h => h) (Or.inl ⟨by kernel_rfl, ?_⟩) (by assumption) ?_
        ·intro X hSw;go_simp
         all_goals(try rw[hwr])
         all_goals(try rfl)
        simp only[Act.put,Ak9,Ala,Alb]
        refine wpAnyH_take (i := 3) (oi := { dst := some 63, op := Op.slice 26 (Operand.tmp 60) (some (Operand.tmp 62)) none none, type := 26, pos := "hoardref.go:202", after := #[{ on := 0, ground := Ground.data }, { on := 2, ground := Ground.data }], guard := none }) (v := .slice (if cap = a + 1 then some ⟨g5, 0, none⟩ else some ⟨g5, a + 1, none⟩) (out2.length + 1 - (a + 1)) (cap - (a + 1))) rfl (by kernel_rfl) (by kernel_rfl) (by kernel_rfl) (fun _ _ _ h => h) (Or.inl ⟨by kernel_rfl, ?_⟩) (by assumption) ?_
        ·intro X hSw;go_simp
         all_goals(try rw[if_pos(by omega)])
         all_goals(try simp only[hto])
         all_goals(try rfl)
         all_goals(try(intro hneg;exfalso;omega))
        simp only[Act.put,Ak9,Ala,Alb]
        refine wpAnyH_take (i := 4) (oi := { dst := some 64, op := Op.move (Operand.tmp 3), type := 26, pos := "hoardref.go:202", after := #[], guard := none }) (v := ?_) rfl (by kernel_rfl) (by kernel_rfl) (by kernel_rfl) (fun _ _ _ h => h) (Or.inl ⟨by kernel_rfl, ?_⟩) (by assumption) ?_
        rotate_left
        ·intro X hSw;go_simp
         with_reducible rfl
        simp only[Act.put,Ak9,Ala,Alb]
        refine wpAnyH_take (i := 5) (oi := { dst := some 65, op := Op.move (Operand.tmp 8), type := 3, pos := "hoardref.go:202", after := #[], guard := none }) (v := ?_) rfl (by kernel_rfl) (by kernel_rfl) (by kernel_rfl) (fun _ _ _ h => h) (Or.inl ⟨by kernel_rfl, ?_⟩) (by assumption) ?_
        rotate_left
        ·intro X hSw;go_simp
         with_reducible rfl
        simp only[Act.put,Ak9,Ala,Alb]
        refine wpAnyH_take (i := 6) (oi := { dst := some 66, op := Op.slice 26 (Operand.tmp 64) (some (Operand.tmp 65)) none none, type := 26, pos := "hoardref.go:202", after := #[{ on := 4, ground := Ground.data }, { on := 5, ground := Ground.data }], guard := none }) (v := .slice (some ⟨g5, a, none⟩) (out2.length + 1 - a) (cap - a)) rfl (by kernel_rfl) (by kernel_rfl) (by kernel_rfl) (fun _ _ _ h => h) (Or.inl ⟨by kernel_rfl, ?_⟩) (by assumption) ?_
        ·intro X hSw;go_simp
         all_goals(try rw[if_pos(by omega)])
         all_goals(try rw[if_neg hca2])
         all_goals(try rfl)
         all_goals(try(intro hneg;exfalso;omega))
        simp only[Act.put,Ak9,Ala,Alb];refine wpAnyH_ready(rs:=[7])(by kernel_rfl)(by simp)?_
        refine AllReadyH.cons (o := { dst := some 67, op := Op.call { callee := Callee.builtin Builtin.copy, args := #[Operand.tmp 63, Operand.tmp 66], argTypes := #[26, 26] }, type := 3, pos := "hoardref.go:202", after := #[{ on := 3, ground := Ground.data }, { on := 6, ground := Ground.data }], guard := none }) rfl (fun K hK => ?_) AllReadyH.nil
        have hdl:((Ao out2).drop a).length=out2.length-a:=by rw[Aly,Bl]
        have hci: ∀i,i<out2.length→cl[i]?=(Ao out2)[i]?:=fun i hi=>by
         have h1:(cl.take(out2.length+1))[i]?=cl[i]?:=Amw(by omega);rw[←h1,H5.out.2.2.2.2,Al3(by rw[Bl];omega)]
        refine step_copy_splice (o := { dst := some 67, op := Op.call { callee := Callee.builtin Builtin.copy, args := #[Operand.tmp 63, Operand.tmp 66], argTypes := #[26, 26] }, type := 3, pos := "hoardref.go:202", after := #[{ on := 3, ground := Ground.data }, { on := 6, ground := Ground.data }], guard := none }) rfl (.tmp 63) (.tmp 66) 26 26 rfl 9 Tryz.underlying26 (by rw [hi]; simp [hz1]) _ _ _ _ _ _ rfl rfl g5 (a + 1) cl 9 H5.out.2.1 ((Ao out2).drop a) ?d1 ?d2 ?d3 ?d4 g5 w5.drew (Below.refl _ _) (Nat.le_refl _) ?d5
        case d1=>rw[hdl];show _=min(out2.length+1-a)(out2.length+1-(a+1));omega
        case d2=>
         intro hp;rw[hdl]at hp;refine⟨by rw[if_neg(by omega)],_,rfl,fun j v hj=>?_⟩;rw[List.getElem?_drop]at hj;have hjl:a+j<out2.length:=by
          have:=(List.getElem?_eq_some_iff.1 hj).1;rw[Bl]at this;exact this
         have had:(⟨g5,a,none⟩:Addr).add j=⟨g5,a+j,none⟩:=by cases j<;>simp[Addr.add]
         rw[had];rw[cell_of_row _ _(a+j)_ _ _(show w5.drew.heap[g5]?=_ from H5.out.2.1),Alp,hci _ hjl,hj]
        case d3=>rw[hdl];omega
        case d4=>
         intro v hv;have h1:=Kk out2;rw[Am9]at h1;exact h1 v(by simpa using List.mem_of_mem_drop hv)
        case d5=>
         intro w6 hw6 hb6;refine hK.out _ _ trivial(fun hHeld=>?_);clear hK K;refine wpAnyH_done(by kernel_rfl)?_ _;have hsl:(splice cl(a+1)((Ao out2).drop a)).length=cap:=by rw[length_splice _ _ _(by rw[hdl];omega)];exact hcs
         have hk6:Aa(fun j=>g5≤j)w5.drew w6:=⟨hb6.os,hb6.tape,hb6.output,hb6.size,fun j _ hn=>hb6.block j(by omega)⟩;have hK6:Aa(fun _=>False)W w6:=(H5.out.2.2.1.drew).trans hk6(fun j h1 h2=>by have:=H5.out.1;omega);have HR6:Aside(w6.heap[g5]?=some(.cells(splice cl(a+1)((Ao out2).drop a)).toArray 9(0,0))∧Aa(fun _=>False)W w6):=⟨hw6.out,hK6⟩;obtain⟨old,hold⟩: ∃old,(splice cl(a+1)((Ao out2).drop a))[a]?=some old:=⟨_,Ak8(by rw[hsl];omega)⟩;have co6:w6.cell?⟨g5,a,none⟩=some old:=by rw[cell_of_row _ _ a _ _ _ HR6.out.1,Alp,hold]
         have fo6:w6.frozen?⟨g5,a,none⟩=false:=frozen_of_row _ _ a _ _ HR6.out.1;have haI2:(a:Int)<(out2.length:Int)+1:=by omega
         have HIN:Aside(((splice cl(a+1)((Ao out2).drop a)).set a(.string H)).take(out2.length+1)=(Ao out2).take a++ .string H::(Ao out2).drop a):=Ae0 cl(Ao out2)_(.string H)out2.length a(Bl _)hal H5.out.2.2.2.2(by omega);clear hb6 hk6 hK6 hw6 hold hci;go_wp2_with fail;go_roundw
         case rel=>
          have hlen:(out2.take a++y::out2.drop a).length=out2.length+1:=by rw[Ald,Alz,Alg,Aly];omega
          refine⟨c+1,out2.take a++y::out2.drop a,by omega,by go_num,HSk.out,?_,?_⟩
          ·show World.ownsRow _ _ _ _ _ _ _;rw[hlen];refine⟨by rw[Bl,hlen,Ana],.inr⟨g5,cap,((splice cl(a+1)((Ao out2).drop a)).set a(.string H)).toArray,rfl,H5.out.1,?_,hnc,H5.out.2.2.2.1,?_,?_⟩⟩
           ·rw[heap_setCell_same _ g5 a _ _(.string H)HR6.out.1];congr 2;apply Amm;simp
           ·rw[Alj,Al8,hsl,Ana]
           ·rw[Ana,HIN.out,HHs.out.1];simp[Ao,List.map_take,List.map_drop]
          ·exact HR6.out.2.setCell(p:=⟨g5,a,none⟩)(.inl H5.out.1)_
         case measure=>simp[intOf];omega
    ·have hc256:c=256:=by omega
     have hdec:decide((c:Int)<256)=false:=decide_eq_false(by omega);have HS3:Aside(Hm.HS(Hm.cdL o)n 256 fr out2):=by rw[←hc256];exact HS2.out
     clear hkr2 hc256
     by_cases hsame:out2.length=fr
     ·have hbq:((out2.length:Int)==(fr:Int))=true:=by rw[hsame];simp
      have HH:Aside(Ev(Hm.cdL o)out2):=HS3.out.stop hsame;have HOW:Aside(wr.ownsRow w.heap.size 9 1(.slice ao2 out2.length co2)out2.length(Ao out2)):=E8 HO2.out fun k hk=>by
       have h1:=(HO2.out.lt k hk).1;have h2:=HW.out.2.2;omega
      have HKW:Aside(Aa(fun _=>False)w wr):=HW.out.2.1.trans HKR2.out(fun _ _ h=>h);clear hsame;go_wp2_with fail;go_ret;exact⟨_,out2,rfl,HH.out,hfew2,HOW.out,HKW.out⟩
     ·have hbq:((out2.length:Int)==(fr:Int))=false:=by rw[beq_eq_false_iff_ne];omega
      have HS4:Aside(Hm.HS(Hm.cdL o)(n+1)0 out2.length out2):=HS3.out.next;go_wp2_with fail;go_roundw
      case rel=>exact⟨n+1,out2,by omega,by go_num,HS4.out,HO2,HKR2.out⟩
      case measure=>simp[intOf];omega
  ·have hn256:n=256:=by omega
   have hdec:decide((n:Int)<256)=false:=decide_eq_false(by omega);have HH:Aside(Ev(Hm.cdL o)out):=HS.out.last fun b=>by
    have:=HG.out b.toNat b.toNat_lt;show(o.getD b.toNat []).length≤n;omega
   obtain⟨ao,co,hvo,_⟩:=A0 HO.out;subst hvo;have HOW:Aside(wr.ownsRow w.heap.size 9 1(.slice ao out.length co)out.length(Ao out)):=E8 HO.out fun k hk=>by
    have h1:=(HO.out.lt k hk).1;have h2:=HW.out.2.2;omega
   have HKW:Aside(Aa(fun _=>False)w wr):=HW.out.2.1.trans HKR.out(fun _ _ h=>h);go_wp2_with fail;go_ret;exact⟨_,out,rfl,HH.out,hfew,HOW.out,HKW.out⟩
namespace Hm
def G9(l:List(List Bool))(h:List Bool):Option Nat:=l.findIdx?(fun x=>decide(x=h))
def Ly(l:List(List Bool))(h:List Bool):Int:=match G9 l h with
 |some i=>(i:Int)
 |none=> -1
theorem Qf{l:List(List Bool)}{h:List Bool}{i:Nat}(hi:i<l.length)(e:l[i]=h)(hn: ∀j,(hj:j<i)→l[j]≠h):G9 l h=some i:=by
 unfold G9;rw[List.findIdx?_eq_some_iff_getElem];exact⟨hi,by simpa using e,fun j hj=>by simpa using hn j hj⟩
theorem Ws{l:List(List Bool)}{h:List Bool}(hn: ∀j,(hj:j<l.length)→l[j]≠h):G9 l h=none:=by
 unfold G9;rw[List.findIdx?_eq_none_iff];intro x hx;obtain⟨j,hj,rfl⟩:=List.mem_iff_getElem.1 hx;simpa using hn j hj
theorem Acm{l:List(List Bool)}{h:List Bool}{i:Nat}(e:G9 l h=some i): ∃hi:i<l.length,l[i]=h:=by
 unfold G9 at e;rw[List.findIdx?_eq_some_iff_getElem]at e;obtain⟨hi,h1,_⟩:=e;exact⟨hi,by simpa using h1⟩
def E7(hd:List(List Bool))(i ones C5:Nat)(sz:List Nat):Nat→List Nat
 |0=>sz
 |j+1=>if hd.getD(i+1+j) []=hd.getD i []++[true]then(E7 hd i ones C5 sz j).set(i+1+j)ones
  else if hd.getD(i+1+j) []=hd.getD i []++[false]then(E7 hd i ones C5 sz j).set(i+1+j)C5
  else E7 hd i ones C5 sz j
theorem Kw(hd:List(List Bool))(i ones C5:Nat)(sz:List Nat): ∀j,(E7 hd i ones C5 sz j).length=sz.length
 |0=>rfl
 |j+1=>by
  have ih:=Kw hd i ones C5 sz j;rw[E7];split
  ·rw[Al8,ih]
  ·split
   ·rw[Al8,ih]
   ·exact ih
def G5(s:List UInt8)(fr n:Nat)(hd:List(List Bool)):Nat→Option(List(List Bool)×List Nat×Nat)
 |0=>some([],(List.replicate hd.length 0).set 0 n,0)
 |i+1=>match G5 s fr n hd i with
  |none=>none
  |some(rows,sz,a)=>
   if(Cu s(fr,false)(a+sz.getD i 0)).2.2=true then none
   else
    let row:=(Cu s(fr,false)(a+sz.getD i 0)).1.drop a
    some(rows++[row],E7 hd i(row.count true)(row.length-row.count true)sz(hd.length-(i+1)),a+sz.getD i 0)
def Gb(hd rows codes:List(List Bool)):Nat→List Nat→List Bool→Option(Nat×List Nat)
 |0,_,_=>none
 |f+1,nx,h=>match G9 hd h with
  |none=>none
  |some i=>
   if(rows.getD i []).length≤nx.getD i 0 then none
   else match G9 codes(h++[(rows.getD i []).getD(nx.getD i 0)false])with
    |some c=>some(c,nx.set i(nx.getD i 0+1))
    |none=>Gb hd rows codes f(nx.set i(nx.getD i 0+1))(h++[(rows.getD i []).getD(nx.getD i 0)false])
def Jk(hd rows codes:List(List Bool)):Nat→Option(List UInt8×List Nat)
 |0=>some([],List.replicate hd.length 0)
 |k+1=>match Jk hd rows codes k with
  |none=>none
  |some(b,nx)=>match Gb hd rows codes 256 nx []with
   |none=>none
   |some(c,nx')=>some(b++[UInt8.ofNat c],nx')
def Jl(s:List UInt8)(fr n:Nat)(hd codes:List(List Bool)):Option(List UInt8):=match G5 s fr n hd hd.length with
 |none=>none
 |some(rows,_,_)=>(Jk hd rows codes n).map(·.1)
end Hm
theorem Sr(ao:Option Addr)(c:Nat)(l:List(List Bool))(h:List Bool)(w:World)(hs:Mw w ao(l.map fun x=>⟨(Ad x).toArray⟩))(hl:l.length≤1000000):
  Calls Tryz.prog 122#[.slice ao l.length c,.string⟨(Ad h).toArray⟩]w fun e w'=>e= .returned(.int .i64(Ly l h))∧w'=w:=by
 have hc:=Ad2 ao c _⟨(Ad h).toArray⟩w hs(by simpa using hl);rw[show(Value.slice ao l.length c)= .slice ao(l.map fun x=>(⟨(Ad x).toArray⟩:ByteArray)).length c from by rw[Alu]];refine hc.mono ?_;have hinj: ∀x:List Bool,(⟨(Ad x).toArray⟩:ByteArray)=⟨(Ad h).toArray⟩↔x=h:=fun x=>by
  constructor
  ·intro e;have e2:=congrArg(fun b:ByteArray=>b.data.toList)e;exact Lx x h e2
  ·rintro rfl;rfl
 rintro e w'⟨⟨i,rfl,hi,e1,e2⟩|⟨rfl,e2⟩,rfl⟩
 ·refine⟨?_,rfl⟩;have hi':i<l.length:=by simpa using hi
  have h1:G9 l h=some i:=Qf hi'(by rw[Aml]at e1;exact(hinj _).1 e1)(fun j hj he=>e2 j hj(by rw[Aml];exact(hinj _).2 he));unfold Ly;rw[h1]
 ·refine⟨?_,rfl⟩;have h1:G9 l h=none:=Ws(fun j hj he=>e2 j(by simpa using hj)(by rw[Aml];exact(hinj _).2 he));unfold Ly;rw[h1]
end Go.Proofs.YtegnkfdbmmndaaaGreat
