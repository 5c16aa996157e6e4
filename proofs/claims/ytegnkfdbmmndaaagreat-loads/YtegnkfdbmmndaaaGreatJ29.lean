import Derived.Test.YtegnkfdbmmndaaaGreatJ00
import Derived.Test.YtegnkfdbmmndaaaGreatJ28
import Derived.Test.YtegnkfdbmmndaaaGreatJ13
import Derived.Test.YtegnkfdbmmndaaaGreatJ25

namespace Go.Proofs.YtegnkfdbmmndaaaGreat
open Hm
namespace Hm
theorem Ach(l c:Nat):C7 l c=(At c l).reverse:=rfl
theorem Qz(x:Nat): ∀d l,At (x*2^d) (l+d)=List.replicate d false++At x l
 |0,l=>by simp
 |d+1,l=>by
  rw[←Anc,Ob,Anf,Aok,←Qz x d l];have e:x*2^(d+1)=2*(x*2^d):=by rw[Amv];ac_rfl
  rw[e,show 2*(x*2^d)/2=x*2^d from by omega];congr 1;exact Ald (by omega)
theorem Aci(x l n:Nat)(h:l≤n):I2 n (At x l)=At (x*2^(n-l)) n:=by
 unfold I2;rw[Dg,←Qz x (n-l) l,show l+(n-l)=n from by omega]
structure Far(L:List Nat)(t k:Nat)(s:CS):Prop where
 le:k≤(Af L).length
 less: ∀i,i<k→Gn L ((Af L).getD i 0)<256+t
 more: ∀i,k≤i→i<(Af L).length→256+t≤Gn L ((Af L).getD i 0)
 on:s.on=decide (0<k)
 code:s.code=At (Be L (Af L) k).1 (Be L (Af L) k).2
 len:s.out.length=256
 made: ∀i,i<k→s.out.getD ((Af L).getD i 0).toNat []=(At (Be L (Af L) (i+1)).1 (Be L (Af L) (i+1)).2).reverse
 none: ∀b:UInt8,(∀i,i<k→(Af L).getD i 0≠b)→s.out.getD b.toNat []=[]
theorem Yb(l:List (List Bool))(i:Nat)(x:List Bool)(h:i<l.length):(l.set i x).getD i []=x:=by
 rw[Ak6,Aol h];rfl
theorem Sl(l:List (List Bool))(i j:Nat)(x:List Bool)(h:i≠j):(l.set i x).getD j []=l.getD j []:=by
 rw[Ak6,Aoh h,←Ak6]
theorem Bj.key_lt{L:List Nat}{i j:Nat}(hij:i<j)(hj:j<(Af L).length):Gn L ((Af L).getD i 0)<Gn L ((Af L).getD j 0):=by
 rw[Ak6,Ak7 (by omega:i<(Af L).length),Ak6,Ak7 hj];exact List.pairwise_iff_getElem.1 (Ec L) i j (by omega) hj hij
theorem Td(L:List Nat)(b:UInt8):lnB L b=L.getD b.toNat 0:=rfl
theorem Far.step{L:List Nat}(hC:Bj L){t k:Nat}{s:CS}(h:Far L t k s): ∃k' s',Mh L (t/256+1) (t%256) s=some s'∧Far L (t+1) k' s':=by
 have hc:t%256<256:=Nat.mod_lt _ (by omega);obtain⟨b,hb⟩: ∃b:UInt8,b.toNat=t%256:=⟨UInt8.ofNat (t%256),by rw[Ame];omega⟩
 by_cases he:L.getD (t%256) 0=t/256+1
 ·have hlb:lnB L b=t/256+1:=by rw[Td,hb,he]
  have hkey:Gn L b=256+t:=by unfold Gn;rw[hlb,hb];omega
  have hmem:b∈Af L:=(hC.mem b).2 (by omega);obtain⟨i,hi,hib⟩:=It hmem;have hik:i=k:=by
   rcases Ami i k with c|c|c
   ·have:=h.less i c;rw[hib,hkey]at this;omega
   ·exact c
   ·have h1:=Bj.key_lt (L:=L) c hi;have h2:=h.more k (Ale _) (by omega);rw[hib,hkey]at h1;omega
  subst hik;have hct:Be L (Af L) (i+1)=L6 L (Be L (Af L) i) i b:=by rw[Be,hib]
  have hnx: ∃R,Kz s=some R∧I2 (t/256+1) R=At (Be L (Af L) (i+1)).1 (Be L (Af L) (i+1)).2:=by
   rw[hct];unfold L6;rw[hlb];cases i with
   |zero=>
    refine⟨s.code,?_,?_⟩
    ·unfold Kz;rw[h.on];rfl
    ·rw[h.code];show I2 (t/256+1) (At 0 0)=_;rw[Aci _ _ _ (by omega)];simp[Be]
   |succ i=>
    have hlt:=hC.fits.lt i (by omega);have hlt2:=hC.fits.lt (i+1) hi;have hasc:=hC.fits.asc_get (i:=i) (j:=i+1) (by omega) hi;have hl2:(Be L (Af L) (i+1)).2=lnB L ((Af L).getD i 0):=Ho L _ i;rw[hct,hib]at hlt2;rw[hib,hlb]at hasc;unfold L6 at hlt2;rw[hlb,if_neg (by omega),hl2]at hlt2;simp only at hlt2;obtain⟨m,hm⟩: ∃m,m=(Be L (Af L) (i+1)).1:=⟨_,rfl⟩;obtain⟨l,hl⟩: ∃l,l=lnB L ((Af L).getD i 0):=⟨_,rfl⟩;rw[←hm,←hl]at hlt hlt2;rw[←hl]at hasc hl2;have hm1:m+1<2^l:=by
     have e:2^(t/256+1)=2^l*2^(t/256+1-l):=by rw[←Nat.pow_add];congr 1;omega
     rw[e]at hlt2;exact Nat.lt_of_mul_lt_mul_right hlt2
    refine⟨At (m+1) l,?_,?_⟩
    ·unfold Kz;rw[h.on,h.code,hl2,←hm];show Ey _=_;rw[Vb l m hlt,if_pos hm1]
    ·rw[Aci _ _ _ hasc,←hm,hl2,if_neg (by omega)]
  obtain⟨R,hR,hpad⟩:=hnx;refine⟨i+1,⟨s.out.set (t%256) (I2 (t/256+1) R).reverse,I2 (t/256+1) R,true⟩,?_,?_⟩
  ·unfold Mh;rw[if_pos he,hR];rfl
  ·refine⟨hi,fun j hj=>?_,fun j hj hjl=>?_,?_,hpad,?_,fun j hj=>?_,fun b' hb'=>?_⟩
   ·rcases Am7 j i with c|c
    ·have:=h.less j c;omega
    ·obtain rfl:j=i:=by omega
     rw[hib,hkey];omega
   ·have h1:=Bj.key_lt (L:=L) (i:=i) (j:=j) (by omega) hjl;rw[hib,hkey]at h1;omega
   ·show true=_;rw[Alb (by omega)]
   ·show(s.out.set _ _).length=256;rw[Amn,h.len]
   ·show(s.out.set (t%256) _).getD _ []=_;rcases Am7 j i with c|c
    ·rw[Sl _ _ _ _ (fun e=>by
      have e2:(Af L).getD j 0=b:=UInt8.toNat_inj.1 (by rw[hb];exact e.symm);have:=h.less j c;rw[e2,hkey]at this;omega)]
     exact h.made j c
    ·obtain rfl:j=i:=by omega
     rw[hib,hb,Yb _ _ _ (by rw[h.len];exact hc),hpad]
   ·show(s.out.set (t%256) _).getD _ []=_;rw[Sl _ _ _ _ (fun e=>hb' i (by omega) (by rw[hib];exact UInt8.toNat_inj.1 (by rw[hb];exact e)))];exact h.none b' (fun j hj=>hb' j (by omega))
 ·refine⟨k,s,by unfold Mh;rw[if_neg he],h.le,fun i hi=>by have:=h.less i hi;omega,fun i hi hil=>?_,h.on,h.code,h.len,h.made,h.none⟩;have h1:=h.more i hi hil;rcases Am7 (256+t) (Gn L ((Af L).getD i 0))with c|c
  ·omega
  ·exfalso;have e:Gn L ((Af L).getD i 0)=256+t:=by omega
   unfold Gn at e;have:=((Af L).getD i 0).toNat_lt;apply he;have e1:((Af L).getD i 0).toNat=t%256:=by omega
   have e2:lnB L ((Af L).getD i 0)=t/256+1:=by omega
   rw[←e1,←Td,e2]
theorem Aij{L:List Nat}(hC:Bj L): ∀t,∃k s,cTo L t=some s∧Far L t k s
 |0=>by
  refine⟨0,_,rfl,Alr _,fun i hi=>by omega,fun i _ hi=>?_,rfl,rfl,Alj,fun i hi=>by omega,fun b _=>?_⟩
  ·have:=hC.pos _ (Jw hi);unfold Gn;omega
  ·rw[Ak6,Am0 b.toNat_lt];rfl
 |t+1=>by
  obtain⟨k,s,hs,hf⟩:=Aij hC t;obtain⟨k',s',hs',hf'⟩:=hf.step hC;exact⟨k',s',by rw[cTo,hs,Option.bind_some,hs'],hf'⟩
theorem Ajv{L:List Nat}{s:CS}{k t:Nat}(hC:Bj L)(hf:Far L t k s)(ht:32*256≤t):k=(Af L).length:=by
 rcases Am7 k (Af L).length with c|c
 ·exfalso;have h1:=hf.more k (Ale _) c;have h2:=hC.short ((Af L).getD k 0);unfold Gn at h1;have:=((Af L).getD k 0).toNat_lt;omega
 ·have:=hf.le;omega
theorem Uj{L:List Nat}(hC:Bj L){o:List (List Bool)}{ok:Bool}(h:Ch L o ok):ok=true∧ ∀b:UInt8,o.getD b.toNat []=G9 (lnB L) (Bm L) b:=by
 obtain⟨k,s,hs,hf⟩:=Aij hC 65280;obtain⟨rfl,rfl⟩:=Ch.to (some s) hs h;have hk:k=(Af L).length:=Ajv hC hf (by omega);clear h hs;generalize 65280=T at hf;refine⟨?_,fun b=>?_⟩
 ·rw[hf.on,hf.code];rcases hC.kind with h0|⟨h1,h2⟩|⟨h1,h2⟩
  ·rw[Ald (by omega)];rfl
  ·have hk1:k=1:=by omega
   have hl1:lnB L ((Af L).getD 0 0)=1:=h2 _ (Jw (by omega));have hc1:(Ai L).length=1:=by rw[←Im L hC.le255];exact h1
   have hcd:Be L (Af L) k=(0,1):=by rw[hk1,Be,L6,hl1];simp[Be]
   rw[hcd,Alb hc1];have:(At 0 1==[false])=true:=by decide
   simp[this]
  ·have hi:(Af L).length-1<(Af L).length:=by omega
   have hnum:=hC.fits.num _ hi;have hkr:=Nv 32 L (Af L) _ hi;have hsh:=hC.short ((Af L).getD ((Af L).length-1) 0);have hlt:=hC.fits.lt _ hi;rw[show(Af L).length-1+1=(Af L).length from by omega,Ama,h2,←hnum,show(Af L).length-1+1=(Af L).length from by omega]at hkr;rw[show(Af L).length-1+1=(Af L).length from by omega]at hlt;have hlen:(Be L (Af L) (Af L).length).2=lnB L ((Af L).getD ((Af L).length-1) 0):=by
    have:=Ho L (Af L) ((Af L).length-1);rwa[show(Af L).length-1+1=(Af L).length from by omega]at this
   rw[hk,hlen,Vb _ _ hlt,if_neg]
   ·simp
   ·intro c;have e:(2:Nat)^32=2^lnB L ((Af L).getD ((Af L).length-1) 0)*2^(32-lnB L ((Af L).getD ((Af L).length-1) 0)):=by rw[←Nat.pow_add,Nat.add_sub_cancel' hsh]
    have hp:0<(2:Nat)^(32-lnB L ((Af L).getD ((Af L).length-1) 0)):=Ans _;have h3:=Nat.mul_lt_mul_of_pos_right c hp;rw[←e,Anv,Nat.one_mul]at h3;omega
 ·by_cases hb:b∈Af L
  ·obtain⟨i,hi,rfl⟩:=It hb;rw[hf.made i (by omega)];unfold G9 Bm;rw[Ach,Ol L i hi,Ho]
  ·rw[hf.none b (fun i hi e=>hb (by rw[←e];exact Jw (by omega)))];have h0:lnB L b=0:=by have:=mt (hC.mem b).2 hb;omega
   unfold G9;rw[h0];rfl
end Hm
namespace Hm
theorem Ajw(l:List Bool): ∀x:Nat,l.foldl (fun a b=>2*a+b.toNat) x=x*2^l.length+Ej l:=by
 induction l with
 |nil=>intro x;simp[Ej]
 |cons b t ih=>
  intro x;rw[Ao8,ih,Amc,Amv];unfold Ej;rw[Ao8,ih (2*0+b.toNat)];unfold Ej;rw[Anv,Nat.mul_zero,Al7,Anc];congr 1;rw[Aot,Nat.mul_left_comm,Aoj 2]
theorem Mu(b:Bool)(t:List Bool):Ej (b::t)=b.toNat*2^t.length+Ej t:=by
 show List.foldl _ (2*0+b.toNat) t=_;rw[Ajw,Nat.mul_zero,Al7]
theorem Po: ∀l:List Bool,Ej l<2^l.length
 |[]=>by decide
 |b::t=>by
  have:=Po t;rw[Mu,Amc,Amv];cases b
  ·simp;omega
  ·simp;omega
theorem Vc: ∀a b:List Bool,a.length=b.length→Ej a=Ej b→a=b
 |[],[],_,_=>rfl
 |[],_::_,h,_=>by simp at h
 |_::_,[],h,_=>by simp at h
 |x::a,y::b,h,e=>by
  have hl:a.length=b.length:=by simpa using h
  have h1:=Po a;have h2:=Po b;rw[Mu,Mu,hl]at e;rw[hl]at h1;cases x<;>cases y
  ·rw[Vc a b hl (by simpa using e)]
  ·simp at e;omega
  ·simp at e;omega
  ·rw[Vc a b hl (by simpa using e)]
theorem Y8: ∀a b:List Bool,a.length=b.length→Op.bytesLess (Ad a) (Ad b)=decide (Ej a<Ej b)
 |[],[],_=>rfl
 |[],_::_,h=>by simp at h
 |_::_,[],h=>by simp at h
 |x::a,y::b,h=>by
  have hl:a.length=b.length:=by simpa using h
  have h1:=Po a;have h2:=Po b;have ih:=Y8 a b hl;have e:Op.bytesLess (Ad (x::a)) (Ad (y::b))=(decide ((if x then(49:UInt8)else 48)<(if y then 49 else 48))||((if x then(49:UInt8)else 48)==(if y then 49 else 48)&&Op.bytesLess (Ad a) (Ad b))):=rfl;rw[e,ih,Mu,Mu,hl];rw[hl]at h1;cases x<;>cases y
  ·simp
  ·simp;omega
  ·simp;omega
  ·simp
structure HS(cd:UInt8→List Bool)(n c fr:Nat)(out:List (List Bool)):Prop where
 srt:out.Pairwise Mw
 le:fr≤out.length
 low: ∀i,i<fr→(out.getD i []).length<n
 high: ∀i,fr≤i→i<out.length→(out.getD i []).length=n
 mem: ∀h,h∈out↔ ∃b:UInt8,h.length<(cd b).length∧(cd b).take h.length=h∧(h.length<n∨(h.length=n∧b.toNat<c))
 few:out.length≤n*256+c
section
variable {cd:UInt8→List Bool} {n c fr:Nat} {out:List (List Bool)}
theorem HS.start:HS cd 0 0 0 []:=⟨List.Pairwise.nil,Ale _,fun i h=>by omega,fun i _ h=>by simp at h,fun h=>by simp,Alr _⟩
theorem HS.skip(h:HS cd n c fr out)(b:UInt8)(hb:b.toNat=c)(hl:(cd b).length≤n):HS cd n (c+1) fr out:=by
 refine⟨h.srt,h.le,h.low,h.high,fun x=>?_,by have:=h.few;omega⟩;rw[h.mem];constructor
 ·rintro⟨b',h1,h2,h3⟩;exact⟨b',h1,h2,by omega⟩
 ·rintro⟨b',h1,h2,h3⟩;refine⟨b',h1,h2,?_⟩;rcases h3 with h3|⟨h3,h4⟩
  ·exact .inl h3
  ·rcases Am7 b'.toNat c with k|k
   ·exact .inr ⟨h3,k⟩
   ·have:b'=b:=UInt8.toNat_inj.1 (by omega);subst this;omega
theorem HS.next(h:HS cd n 256 fr out):HS cd (n+1) 0 out.length out:=by
 refine⟨h.srt,Ale _,fun i hi=>?_,fun i h1 h2=>by omega,fun x=>?_,by have:=h.few;omega⟩
 ·rcases Am7 i fr with k|k
  ·have:=h.low i k;omega
  ·have:=h.high i k hi;omega
 ·rw[h.mem];constructor
  ·rintro⟨b',h1,h2,h3⟩;exact⟨b',h1,h2,by omega⟩
  ·rintro⟨b',h1,h2,h3⟩;have:=b'.toNat_lt;exact⟨b',h1,h2,by omega⟩
theorem HS.last(h:HS cd n 0 fr out)(hl: ∀b,(cd b).length≤n):Er cd out:=by
 refine⟨h.srt,fun x=>?_⟩;rw[h.mem];constructor
 ·rintro⟨b',h1,h2,_⟩;exact⟨b',h1,h2⟩
 ·rintro⟨b',h1,h2⟩;have:=hl b';exact⟨b',h1,h2,by omega⟩
theorem Sm{l:List (List Bool)}{i:Nat}(h:i<l.length):l.getD i []∈l:=by
 rw[Ak6,Ak7 h];exact Alo _
theorem HS.stop(h:HS cd n 256 fr out)(he:out.length=fr):Er cd out:=by
 have hs: ∀b,(cd b).length≤n:=by
  intro b;rcases Am7 n (cd b).length with k|k
  ·exfalso;have hl:((cd b).take n).length=n:=by rw[Aln];omega
   have hm:(cd b).take n∈out:=(h.mem _).2 ⟨b,by omega,by rw[hl],.inr ⟨hl,b.toNat_lt⟩⟩;obtain⟨i,hi,e⟩:=Aml hm;have h1:=h.low i (by omega);rw[Ak6,Ak7 hi]at h1;simp only[Anr]at h1;rw[e,hl]at h1;omega
  ·exact k
 refine⟨h.srt,fun x=>?_⟩;rw[h.mem];constructor
 ·rintro⟨b',h1,h2,_⟩;exact⟨b',h1,h2⟩
 ·rintro⟨b',h1,h2⟩;have:=hs b';exact⟨b',h1,h2,by omega⟩
theorem HS.same(h:HS cd n c fr out)(b:UInt8)(hb:b.toNat=c)(hl:n<(cd b).length)(hm:(cd b).take n∈out):HS cd n (c+1) fr out:=by
 refine⟨h.srt,h.le,h.low,h.high,fun x=>?_,by have:=h.few;omega⟩;constructor
 ·intro hx;obtain⟨b',h1,h2,h3⟩:=(h.mem x).1 hx;exact⟨b',h1,h2,by omega⟩
 ·rintro⟨b',h1,h2,h3⟩;rcases h3 with h3|⟨h3,h4⟩
  ·exact(h.mem x).2 ⟨b',h1,h2,.inl h3⟩
  ·rcases Am7 b'.toNat c with k|k
   ·exact(h.mem x).2 ⟨b',h1,h2,.inr ⟨h3,k⟩⟩
   ·have:b'=b:=UInt8.toNat_inj.1 (by omega);subst this;rw[←h2,h3];exact hm
theorem HS.put(h:HS cd n c fr out)(b:UInt8)(hb:b.toNat=c)(hl:n<(cd b).length){a:Nat}(hf:fr≤a)(ha:a≤out.length)(hlo: ∀i,fr≤i→i<a→Ej (out.getD i [])<Ej ((cd b).take n))(hhi:a<out.length→ ¬Ej (out.getD a [])<Ej ((cd b).take n)∧out.getD a []≠(cd b).take n):
  HS cd n (c+1) fr (out.take a++(cd b).take n::out.drop a):=by
 have hx:((cd b).take n).length=n:=by rw[Aln];omega
 obtain⟨x,hxe⟩: ∃x,x=(cd b).take n:=⟨_,rfl⟩;rw[←hxe]at hx hlo hhi⊢;have hget: ∀i,i<out.length→out[i]?=some (out.getD i []):=fun i hi=>by rw[Ak6,Ak7 hi];rfl
 have hlow: ∀y∈out.take a,Mw y x:=by
  intro y hy;obtain⟨i,hi,rfl⟩:=Aml hy;have hia:i<a:=by rw[Aln]at hi;omega
  have e:(out.take a)[i]=out.getD i []:=by
   rw[List.getElem_take,Ak6,Ak7 (by omega)];rfl
  rw[e];rcases Am7 i fr with k|k
  ·exact .inl (by rw[hx];exact h.low i k)
  ·exact .inr ⟨by rw[hx];exact h.high i k (by omega),hlo i k hia⟩
 have hhigh: ∀y∈out.drop a,Mw x y:=by
  intro y hy;obtain⟨i,hi,rfl⟩:=Aml hy;have hil:a+i<out.length:=by rw[Amb]at hi;omega
  have e:(out.drop a)[i]=out.getD (a+i) []:=by
   rw[List.getElem_drop,Ak6,Ak7 hil];rfl
  rw[e];have h1:=h.high (a+i) (by omega) hil;obtain⟨q1,q2⟩:=hhi (by omega);have h0:=h.high a hf (by omega);have hva:Ej x<Ej (out.getD a []):=by
   rcases Ami (Ej (out.getD a [])) (Ej x)with k|k|k
   ·exact absurd k q1
   ·exact absurd (Vc _ _ (by rw[h0,hx]) k) q2
   ·exact k
  refine .inr ⟨by rw[hx,h1],?_⟩;rcases Nat.eq_zero_or_pos i with k|k
  ·subst k;exact hva
  ·have hp:=List.pairwise_iff_getElem.1 h.srt a (a+i) (by omega) hil (by omega);have e1:out[a]=out.getD a []:=by rw[Ak6,Ak7 (by omega)];rfl
   have e2:out[a+i]=out.getD (a+i) []:=by rw[Ak6,Ak7 hil];rfl
   rw[e1,e2]at hp;unfold Mw at hp;omega
 refine⟨?_,?_,fun i hi=>?_,fun i h1 h2=>?_,fun y=>?_,?_⟩
 ·rw[List.pairwise_append,Ao0];refine⟨h.srt.sublist (List.take_sublist _ _),⟨hhigh,h.srt.sublist (List.drop_sublist _ _)⟩,fun y hy z hz=>?_⟩;rcases List.mem_cons.1 hz with rfl|hz
  ·exact hlow y hy
  ·have q1:=hlow y hy;have q2:=hhigh z hz;unfold Mw at*;omega
 ·simp;have:=h.le;omega
 ·have e:(out.take a++x::out.drop a).getD i []=out.getD i []:=by
   rw[Ak6,Amh (by rw[Aln];have:=h.le;omega),Ani (by omega),←Ak6]
  rw[e];exact h.low i hi
 ·have hl2:i<out.length+1:=by simp at h2;omega
  rcases Ami i a with k|k|k
  ·have e:(out.take a++x::out.drop a).getD i []=out.getD i []:=by
    rw[Ak6,Amh (by rw[Aln];omega),Ani k,←Ak6]
   rw[e];exact h.high i h1 (by omega)
  ·subst k;rw[Ak6,Alt (by rw[Aln];omega),Aln,Ant ha,Amr];exact hx
  ·obtain⟨j,rfl⟩: ∃j,i=a+j+1:=⟨i-a-1,by omega⟩;rw[Ak6,Alt (by rw[Aln];omega),Aln,Ant ha,show a+j+1-a=j+1 from by omega,Aog,List.getElem?_drop,←Ak6];exact h.high (a+j) (by omega) (by omega)
 ·have e:y∈out.take a++x::out.drop a↔y=x∨y∈out:=by
   rw[Ao7,List.mem_cons];constructor
   ·rintro(k|k|k)
    ·exact .inr (List.mem_of_mem_take k)
    ·exact .inl k
    ·exact .inr (List.mem_of_mem_drop k)
   ·rintro(k|k)
    ·exact .inr (.inl k)
    ·rw[←Amy a out,Ao7]at k;rcases k with k|k
     ·exact .inl k
     ·exact .inr (.inr k)
  rw[e];constructor
  ·rintro(rfl|k)
   ·exact⟨b,by omega,by rw[hx,hxe],.inr ⟨hx,by omega⟩⟩
   ·obtain⟨b',h1,h2,h3⟩:=(h.mem y).1 k;exact⟨b',h1,h2,by omega⟩
  ·rintro⟨b',h1,h2,h3⟩;rcases h3 with h3|⟨h3,h4⟩
   ·exact .inr ((h.mem y).2 ⟨b',h1,h2,.inl h3⟩)
   ·rcases Am7 b'.toNat c with k|k
    ·exact .inr ((h.mem y).2 ⟨b',h1,h2,.inr ⟨h3,k⟩⟩)
    ·have:b'=b:=UInt8.toNat_inj.1 (by omega);subst this;exact .inl (by rw[hxe,←h2,h3])
 ·simp;have:=h.few;omega
end
end Hm
end Go.Proofs.YtegnkfdbmmndaaaGreat
namespace Go.Proofs.YtegnkfdbmmndaaaGreat
open Hm
open Go.RowKit
theorem Acj:(Tryz.prog.info? 9).map (fun i=>(i.zero,i.size,i.bytes))=some (some (.string ⟨#[]⟩),1,16):=by kernel_rfl
theorem Aez(cur xs:List Value)(e H:Value)(m a:Nat)(hm:xs.length=m)(ha:a≤m)(hc:cur.take (m+1)=xs++[e])(hl:m+1≤cur.length):((splice cur (a+1) (xs.drop a)).set a H).take (m+1)=xs.take a++H::xs.drop a:=by
 have hcur: ∀i,i<m→cur[i]?=xs[i]?:=fun i hi=>by
  have h1:(cur.take (m+1))[i]?=cur[i]?:=Ani (by omega);rw[←h1,hc,Amh (by omega)]
 have hdl:(xs.drop a).length=m-a:=by rw[Amb,hm]
 have htl:(cur.take (a+1)).length=a+1:=by rw[Aln];omega
 have hxt:(xs.take a).length=a:=by rw[Aln];omega
 apply List.ext_getElem?;intro i;rcases Am7 i (m+1)with k|k
 ·rw[Ani k];rcases Ami i a with q|q|q
  ·rw[Aoh (by omega),splice,Amh (by omega),Ani (by omega),hcur i (by omega),Amh (by omega),Ani q]
  ·subst q;rw[Aol (by rw[length_splice _ _ _ (by rw[hdl];omega)];omega),Alt (by omega),hxt,Amr];rfl
  ·obtain⟨j,rfl⟩: ∃j,i=a+1+j:=⟨i-a-1,by omega⟩;rw[Aoh (by omega),splice,Alt (by omega),htl,show a+1+j-(a+1)=j from by omega,Amh (by omega),Alt (by omega),hxt,show a+1+j-a=j+1 from by omega,Aog]
 ·rw[Al3 (by rw[Aln];omega),Al3 (by rw[Alg,Amc,hdl,hxt];omega)]
namespace Hm
def cdL(o:List (List Bool))(b:UInt8):List Bool:=o.getD b.toNat []
theorem Yc(x:List Bool)(n:Nat):(⟨(Ad x).toArray⟩:ByteArray).extract 0 n=⟨(Ad (x.take n)).toArray⟩:=by
 apply An1;rw[Aom];apply Am6;rw[Aos,Anz];simp[Ad,List.map_take]
theorem Lt: ∀x y:List Bool,Ad x=Ad y→x=y
 |[],[],_=>rfl
 |[],_::_,h=>by simp[Ad]at h
 |_::_,[],h=>by simp[Ad]at h
 |a::x,b::y,h=>by
  have h1:(if a then(49:UInt8)else 48)=(if b then 49 else 48)∧Ad x=Ad y:=by
   have:=List.cons.inj h;exact this
  rw[Lt x y h1.2];have h2:=h1.1;cases a<;>cases b<;>first|rfl|simp at h2
end Hm
set_option maxRecDepth 20000 in
set_option maxHeartbeats 4000000 in
theorem Sn(o:List (List Bool))(w:World)(hol:o.length=256)(hox: ∀x∈o,x.length≤255):
  Calls Tryz.prog 90 #[.agg (An o).toArray] w fun e w'=> ∃(v:Value) (hs:List (List Bool)),e= .returned v∧Er (Hm.cdL o) hs∧hs.length≤65792∧w'.ownsRow w.heap.size 9 1 v hs.length (An hs)∧Apd w w':=by
 obtain⟨i0,hi,hz0,hz1,hz2⟩:=Amz Acj;have hgx: ∀b:Nat,b<256→(o.getD b []).length≤255:=fun b hb=>by
  rw[Ak6,Ak7 (show b<o.length from by omega)];exact hox _ (Alo _)
 have HG:Aside (∀b:Nat,b<256→(o.getD b []).length≤255):=hgx;have HOL:Aside (o.length=256):=hol;clear hgx hox hol
 go_enter Tryz.func90,Tryz.ntmps90
 go_upto_region 1 with fail
 have g0:TR (w.alloc (.cells (An o).toArray 113)) w.heap.size o:=All w _;have hk0:Apd w (w.alloc (.cells (An o).toArray 113)):=(Aa.refl _ _).alloc _;have hB:w.heap.size<(w.alloc (.cells (An o).toArray 113)).heap.size:=by simp
 generalize w.alloc (.cells (An o).toArray 113)=W at*;have HW:Aside (TR W w.heap.size o∧Apd w W∧w.heap.size<W.heap.size):=⟨g0,hk0,hB⟩;clear g0 hk0 hB;go_wp2_with fail
 go_loopw[3,4] (fun vo vn wr=> ∃(n:Nat) (out:List (List Bool)),n≤256∧vn= .int .i64 n∧Hid (Hm.HS (Hm.cdL o) n 0 out.length out)∧Aside (wr.ownsRow W.heap.size 9 1 vo out.length (An out))∧Apd W wr) (fun _ vn _=>256-(intOf vn).toNat)
 case atStart=>exact⟨0,[],by omega,rfl,Hm.HS.start,⟨rfl,.inl ⟨rfl,rfl⟩⟩,Aa.refl _ _⟩
 case round=>
  obtain⟨n,out,hn,rfl,HS,HO,hkr⟩:=hrel;have hfew:out.length≤65792:=by have:=HS.out.few;omega
  have HKR:Aside (Apd W wr):=hkr;clear hkr
  by_cases hlt:n<256
  ·have hdec:decide ((n:Int)<256)=true:=Alb (by omega);obtain⟨ao,co,hvo,_⟩:=Ay HO.out;subst hvo;go_wp2_with fail;obtain⟨fr,hfr⟩: ∃fr,fr=out.length:=⟨_,rfl⟩;rw[←hfr];have HFR:Aside (fr=out.length):=hfr;clear hfr
   go_loopw[3,6] (fun vo vc wx=> ∃(c:Nat) (out2:List (List Bool)),c≤256∧vc= .int .i64 c∧Hid (Hm.HS (Hm.cdL o) n c fr out2)∧Aside (wx.ownsRow W.heap.size 9 1 vo out2.length (An out2))∧Apd W wx) (fun _ vc _=>256-(intOf vc).toNat)
   case atStart=>exact⟨0,out,by omega,rfl,by rw[HFR.out];exact HS.out,by rw[HFR.out];exact HO,HKR.out⟩
   case round=>
    obtain⟨c,out2,hc,rfl,HS2,HO2,hkr2⟩:=hrel;have hfew2:out2.length≤65792:=by have:=HS2.out.few;omega
    have HKR2:Aside (Apd W wr):=hkr2;obtain⟨ao2,co2,hvo2,_⟩:=Ay HO2.out;subst hvo2;clear HO
    by_cases hlc:c<256
    ·have hdec:decide ((c:Int)<256)=true:=Alb (by omega);have hcI:(c:Int)<256:=by omega
     have hcc:=(HW.out.1.kept hkr2 id).cell (i:=c) (by rw[HOL.out];exact hlc);clear hkr2;obtain⟨b,hb⟩: ∃b:UInt8,b.toNat=c:=⟨UInt8.ofNat c,by rw[Ame];omega⟩;obtain⟨x,hx⟩: ∃x,x=o.getD c []:=⟨_,rfl⟩;have HX:Aside (Hm.cdL o b=x∧b.toNat=c):=⟨by rw[hx];unfold Hm.cdL;rw[hb],hb⟩;rw[←hx]at hcc;have hxl:x.length≤255:=by rw[hx];exact HG.out c hlc
     obtain⟨S,hS⟩: ∃S,S=(⟨(Ad x).toArray⟩:ByteArray):=⟨_,rfl⟩;rw[←hS]at hcc;have hsz:S.size=x.length:=by rw[hS];show(Ad x).toArray.size=_;simp[Ad]
     have HSS:Aside (S=(⟨(Ad x).toArray⟩:ByteArray)):=hS;clear hx hS hb
     by_cases hle:x.length≤n
     ·have hdl:decide ((S.size:Int)≤(n:Int))=true:=Alb (by omega);have HSk:Aside (Hm.HS (Hm.cdL o) n (c+1) fr out2):=HS2.out.skip b HX.out.2 (by rw[HX.out.1];exact hle);go_wp2_with fail;go_roundw
      case rel=>exact⟨c+1,out2,by omega,by go_num,HSk.out,HO2,HKR2.out⟩
      case measure=>simp[intOf];omega
     ·have hdl:decide ((S.size:Int)≤(n:Int))=false:=Ald (by omega);have hnI:(n:Int)≤(S.size:Int):=by omega
      go_wp2_with fail;obtain⟨H,hH⟩: ∃H,H=S.extract 0 n:=⟨_,rfl⟩;rw[←hH];obtain⟨y,hy⟩: ∃y,y=x.take n:=⟨_,rfl⟩;have HHs:Aside (H=(⟨(Ad y).toArray⟩:ByteArray)∧y=x.take n∧y.length=n):=⟨by rw[hH,HSS.out,hy];exact Yc x n,hy,by rw[hy,Aln];omega⟩;clear hH hy hcc
      go_loopw[8] (fun va wy=> ∃a:Nat,va= .int .i64 a∧fr≤a∧a≤out2.length∧Hid (∀i,fr≤i→i<a→Ej (out2.getD i [])<Ej y)∧wr=wy) (fun va _=>out2.length-(intOf va).toNat)
      case atStart=>exact⟨fr,rfl,Ale _,HS2.out.le,fun i h1 h2=>by omega,rfl⟩
      case round=>
       obtain⟨a,rfl,hfa,hal,HLO,rfl⟩:=hrel
       by_cases haL:a<out2.length
       ·have hda:decide ((a:Int)<(out2.length:Int))=true:=Alb (by omega);have haI0:(a:Int)<(out2.length:Int):=by omega
        obtain⟨g,hg⟩: ∃g,ao2=some ⟨g,0,none⟩:=by
         rcases HO2.out.2 with⟨e,h0⟩|⟨g,cap,cur,e,_⟩
         ·omega
         ·exact⟨g,(Value.slice.inj e).1⟩
        subst hg;obtain⟨Z,hZ⟩: ∃Z,Z=(⟨(Ad (out2.getD a [])).toArray⟩:ByteArray):=⟨_,rfl⟩;have hca:wr.cell? ⟨g,a,none⟩=some (.string Z):=by
         rw[HO2.out.cellAt a (by omega),hZ];simp[An,List.getD_eq_getElem?_getD,List.getElem?_eq_getElem haL]
        have hzl:(out2.getD a []).length=n:=HS2.out.high a hfa haL;have hbl:Op.bytesLess Z.toList H.toList=decide (Ej (out2.getD a [])<Ej y):=by
         rw[hZ,HHs.out.1,Amq,Amq];exact Y8 _ _ (by rw[hzl,HHs.out.2.2])
        have hqe:(Z.toList==H.toList)=decide (out2.getD a []=y):=by
         rw[hZ,HHs.out.1,Amq,Amq]
         by_cases e:out2.getD a []=y
         ·rw[Alb e,e];simp
         ·rw[Ald e,Al5];exact fun k=>e (Lt _ _ k)
        clear hZ hzl
        by_cases hless:Ej (out2.getD a [])<Ej y
        ·rw[Alb hless]at hbl;have HL2:Aside (∀i,fr≤i→i<a+1→Ej (out2.getD i [])<Ej y):=fun i h1 h2=>by
          rcases Am7 i a with k|k
          ·exact HLO.out i h1 k
          ·obtain rfl:i=a:=by omega
           exact hless
         clear hless hqe;go_wp2_with fail;go_roundw
         case rel=>exact⟨a+1,by go_num,by omega,by omega,HL2.out,by first|rfl|trivial⟩
         case measure=>simp[intOf];omega
        ·rw[Ald hless]at hbl
         by_cases heq:out2.getD a []=y
         ·rw[Alb heq]at hqe;have HSk:Aside (Hm.HS (Hm.cdL o) n (c+1) fr out2):=HS2.out.same b HX.out.2 (by rw[HX.out.1];omega) (by rw[HX.out.1,←HHs.out.2.1,←heq];exact Sm haL);clear heq hless;go_wp2_with fail;go_roundw
          case rel=>exact⟨c+1,out2,by omega,by go_num,HSk.out,HO2,HKR2.out⟩
          case measure=>simp[intOf];omega
         ·rw[Ald heq]at hqe;have HSk:Aside (Hm.HS (Hm.cdL o) n (c+1) fr (out2.take a++y::out2.drop a)):=by
           have:=HS2.out.put b HX.out.2 (by rw[HX.out.1];omega) hfa hal (by rw[HX.out.1,←HHs.out.2.1];exact HLO.out) (fun _=>by rw[HX.out.1,←HHs.out.2.1];exact⟨hless,heq⟩);rwa[HX.out.1,←HHs.out.2.1]at this
          clear heq hless
          go_wp2_with(at_builtin;refine A7 _ rfl (.tmp 57) (.tmp 58) 26 rfl W.heap.size 9 i0 (.string ⟨#[]⟩) 1 16 Tryz.underlying26 hi hz0 hz1 hz2 rfl (by decide) _ _ _ rfl (HO2.out.alloc _) ⟨wr.heap.size,0,none⟩ 1 1 [.string ⟨#[]⟩] rfl rfl ?c1 ?c2 ?c3 ?c4 ?c5 ?_)
          case c1=>exact An9 _ _ _
          case c2=>intro u hu;simp at hu;subst hu;rfl
          case c3=>unfold maxLen;omega
          case c4=>omega
          case c5=>have:=HKR2.out.size;simp;omega
          intro v5 w5 ho5 hg5 hm5;have hk5:Apd W w5:=(HKR2.out.alloc _).grown hg5 (fun j hj=> .inl (HO2.out.lt j hj).1);obtain⟨g5,cap,cur,hv5,hbg,hgr,hnc,hcm,hcs,hct⟩: ∃g cap cur,v5= .slice (some ⟨g,0,none⟩) (out2.length+1) cap∧W.heap.size≤g∧w5.heap[g]?=some (.cells cur 9 (0,0))∧out2.length+1≤cap∧cap≤maxLen∧cur.size=cap*1∧cur.toList.take ((out2.length+1)*1)=An out2++[.string ⟨#[]⟩]:=by
           rcases ho5.2 with⟨_,h⟩|h
           ·omega
           ·exact h
          subst hv5;rw[An3]at hcs hct;obtain⟨cl,hcl⟩: ∃cl:List Value,cl=cur.toList:=⟨_,rfl⟩;have hcu:cur=cl.toArray:=by rw[hcl]
          rw[hcu]at hgr hcs hct;rw[Alq]at hcs;clear hg5 hm5 ho5 hcl hcu;have H5:Aside (W.heap.size≤g5∧w5.heap[g5]?=some (.cells cl.toArray 9 (0,0))∧Apd W w5∧cap≤maxLen∧cl.take (out2.length+1)=An out2++[.string ⟨#[]⟩]):=⟨hbg,hgr,hk5,hcm,by simpa using hct⟩;clear hbg hgr hk5 hcm hct;have haI:(a:Int)≤(out2.length:Int):=by omega
          have hncI:(out2.length:Int)+1≤(cap:Int):=by omega
          go_wp2_with fail;have hwr:IntKind.i64.wrap ((a:Int)+1)=(a:Int)+1:=by rw[Al9];omega
          have hto:((a:Int)+1).toNat=a+1:=by omega
          have hca2: ¬cap=a:=by omega
          refine Ank (S:=fun _=>True) (by kernel_rfl) trivial (fun hHeld=>?_)
          refine wpAnyH_take (i := 0) (oi := { dst := some 60, op := Op.move (Operand.tmp 3), type := 26, pos := "hoardref.go:202", after := #[], guard := none }) (v := ?_) rfl (by kernel_rfl) (by kernel_rfl) (by kernel_rfl) (fun _ _ _ h => h) (Or.inl ⟨by kernel_rfl, ?_⟩) (by assumption) ?_
          rotate_left
          ·intro X hSw;go_simp
           with_reducible rfl
          simp only[Act.put,Ak8,Ak9,Ala]
          refine wpAnyH_take (i := 1) (oi := { dst := some 61, op := Op.move (Operand.tmp 8), type := 3, pos := "hoardref.go:202", after := #[], guard := none }) (v := ?_) rfl (by kernel_rfl) (by kernel_rfl) (by kernel_rfl) (fun _ _ _ h => h) (Or.inl ⟨by kernel_rfl, ?_⟩) (by assumption) ?_
          rotate_left
          ·intro X hSw;go_simp
           with_reducible rfl
          simp only[Act.put,Ak8,Ak9,Ala]
          refine wpAnyH_take (i := 2) (oi := { dst := some 62, op := Op.binOp BinOp.add 3 (Operand.tmp 61) (Operand.const (Value.int IntKind.i64 1)) 3, type := 3, pos := "hoardref.go:202", after := #[{ on := 1, ground := Ground.data }], guard := none }) (v := .int .i64 ((a : Int) + 1)) rfl (by kernel_rfl) (by kernel_rfl) (by kernel_rfl) (fun _ _ _ h => h) (Or.inl ⟨by kernel_rfl, ?_⟩) (by assumption) ?_
          ·intro X hSw;go_simp
           all_goals(try rw[hwr])
           all_goals(try rfl)
          simp only[Act.put,Ak8,Ak9,Ala]
          refine wpAnyH_take (i := 3) (oi := { dst := some 63, op := Op.slice 26 (Operand.tmp 60) (some (Operand.tmp 62)) none none, type := 26, pos := "hoardref.go:202", after := #[{ on := 0, ground := Ground.data }, { on := 2, ground := Ground.data }], guard := none }) (v := .slice (if cap = a + 1 then some ⟨g5, 0, none⟩ else some ⟨g5, a + 1, none⟩) (out2.length + 1 - (a + 1)) (cap - (a + 1))) rfl (by kernel_rfl) (by kernel_rfl) (by kernel_rfl) (fun _ _ _ h => h) (Or.inl ⟨by kernel_rfl, ?_⟩) (by assumption) ?_
          ·intro X hSw;go_simp
           all_goals(try rw[if_pos (by omega)])
           all_goals(try simp only[hto])
           all_goals(try rfl)
           all_goals(try(intro hneg;exfalso;omega))
          simp only[Act.put,Ak8,Ak9,Ala]
          refine wpAnyH_take (i := 4) (oi := { dst := some 64, op := Op.move (Operand.tmp 3), type := 26, pos := "hoardref.go:202", after := #[], guard := none }) (v := ?_) rfl (by kernel_rfl) (by kernel_rfl) (by kernel_rfl) (fun _ _ _ h => h) (Or.inl ⟨by kernel_rfl, ?_⟩) (by assumption) ?_
          rotate_left
          ·intro X hSw;go_simp
           with_reducible rfl
          simp only[Act.put,Ak8,Ak9,Ala]
          refine wpAnyH_take (i := 5) (oi := { dst := some 65, op := Op.move (Operand.tmp 8), type := 3, pos := "hoardref.go:202", after := #[], guard := none }) (v := ?_) rfl (by kernel_rfl) (by kernel_rfl) (by kernel_rfl) (fun _ _ _ h => h) (Or.inl ⟨by kernel_rfl, ?_⟩) (by assumption) ?_
          rotate_left
          ·intro X hSw;go_simp
           with_reducible rfl
          simp only[Act.put,Ak8,Ak9,Ala]
          refine wpAnyH_take (i := 6) (oi := { dst := some 66, op := Op.slice 26 (Operand.tmp 64) (some (Operand.tmp 65)) none none, type := 26, pos := "hoardref.go:202", after := #[{ on := 4, ground := Ground.data }, { on := 5, ground := Ground.data }], guard := none }) (v := .slice (some ⟨g5, a, none⟩) (out2.length + 1 - a) (cap - a)) rfl (by kernel_rfl) (by kernel_rfl) (by kernel_rfl) (fun _ _ _ h => h) (Or.inl ⟨by kernel_rfl, ?_⟩) (by assumption) ?_
          ·intro X hSw;go_simp
           all_goals(try rw[if_pos (by omega)])
           all_goals(try rw[if_neg hca2])
           all_goals(try rfl)
           all_goals(try(intro hneg;exfalso;omega))
          simp only[Act.put,Ak8,Ak9,Ala];refine Al0 (rs:=[7]) (by kernel_rfl) (by simp) ?_
          refine AllReadyH.cons (o := { dst := some 67, op := Op.call { callee := Callee.builtin Builtin.copy, args := #[Operand.tmp 63, Operand.tmp 66], argTypes := #[26, 26] }, type := 3, pos := "hoardref.go:202", after := #[{ on := 3, ground := Ground.data }, { on := 6, ground := Ground.data }], guard := none }) rfl (fun K hK => ?_) AllReadyH.nil
          have hdl:((An out2).drop a).length=out2.length-a:=by rw[Amb,Bh]
          have hci: ∀i,i<out2.length→cl[i]?=(An out2)[i]?:=fun i hi=>by
           have h1:(cl.take (out2.length+1))[i]?=cl[i]?:=Ani (by omega);rw[←h1,H5.out.2.2.2.2,Amh (by rw[Bh];omega)]
          refine step_copy_splice (o := { dst := some 67, op := Op.call { callee := Callee.builtin Builtin.copy, args := #[Operand.tmp 63, Operand.tmp 66], argTypes := #[26, 26] }, type := 3, pos := "hoardref.go:202", after := #[{ on := 3, ground := Ground.data }, { on := 6, ground := Ground.data }], guard := none }) rfl (.tmp 63) (.tmp 66) 26 26 rfl 9 Tryz.underlying26 (by rw [hi]; simp [hz1]) _ _ _ _ _ _ rfl rfl g5 (a + 1) cl 9 H5.out.2.1 ((An out2).drop a) ?d1 ?d2 ?d3 ?d4 g5 w5.drew (Below.refl _ _) (Nat.le_refl _) ?d5
          case d1=>rw[hdl];show _=min (out2.length+1-a) (out2.length+1-(a+1));omega
          case d2=>
           intro hp;rw[hdl]at hp;refine⟨by rw[if_neg (by omega)],_,rfl,fun j v hj=>?_⟩;rw[List.getElem?_drop]at hj;have hjl:a+j<out2.length:=by
            have:=(List.getElem?_eq_some_iff.1 hj).1;rw[Bh]at this;exact this
           have had:(⟨g5,a,none⟩:Addr).add j=⟨g5,a+j,none⟩:=by cases j<;>simp[Addr.add]
           rw[had];rw[Alc _ _ (a+j) _ _ _ (show w5.drew.heap[g5]?=_ from H5.out.2.1),Alz,hci _ hjl,hj]
          case d3=>rw[hdl];omega
          case d4=>
           intro v hv;have h1:=Kh out2;rw[An2]at h1;exact h1 v (by simpa using List.mem_of_mem_drop hv)
          case d5=>
           intro w6 hw6 hb6;refine hK.out _ _ trivial (fun hHeld=>?_);clear hK K;refine Anp (by kernel_rfl) ?_ _;have hsl:(splice cl (a+1) ((An out2).drop a)).length=cap:=by rw[length_splice _ _ _ (by rw[hdl];omega)];exact hcs
           have hk6:Aa (fun j=>g5≤j) w5.drew w6:=⟨hb6.os,hb6.tape,hb6.output,hb6.size,fun j _ hn=>hb6.block j (by omega)⟩;have hK6:Apd W w6:=(H5.out.2.2.1.drew).trans hk6 (fun j h1 h2=>by have:=H5.out.1;omega);have HR6:Aside (w6.heap[g5]?=some (.cells (splice cl (a+1) ((An out2).drop a)).toArray 9 (0,0))∧Apd W w6):=⟨hw6.out,hK6⟩;obtain⟨old,hold⟩: ∃old,(splice cl (a+1) ((An out2).drop a))[a]?=some old:=⟨_,Ak7 (by rw[hsl];omega)⟩;have co6:w6.cell? ⟨g5,a,none⟩=some old:=by rw[Alc _ _ a _ _ _ HR6.out.1,Alz,hold]
           have fo6:w6.frozen? ⟨g5,a,none⟩=false:=Alk _ _ a _ _ HR6.out.1;have haI2:(a:Int)<(out2.length:Int)+1:=by omega
           have HIN:Aside (((splice cl (a+1) ((An out2).drop a)).set a (.string H)).take (out2.length+1)=(An out2).take a++ .string H::(An out2).drop a):=Aez cl (An out2) _ (.string H) out2.length a (Bh _) hal H5.out.2.2.2.2 (by omega);clear hb6 hk6 hK6 hw6 hold hci;go_wp2_with fail;go_roundw
           case rel=>
            have hlen:(out2.take a++y::out2.drop a).length=out2.length+1:=by rw[Alg,Amc,Aln,Amb];omega
            refine⟨c+1,out2.take a++y::out2.drop a,by omega,by go_num,HSk.out,?_,?_⟩
            ·show World.ownsRow _ _ _ _ _ _ _;rw[hlen];refine⟨by rw[Bh,hlen,An3],.inr ⟨g5,cap,((splice cl (a+1) ((An out2).drop a)).set a (.string H)).toArray,rfl,H5.out.1,?_,hnc,H5.out.2.2.2.1,?_,?_⟩⟩
             ·rw[Alf _ g5 a _ _ (.string H) HR6.out.1];congr 2;apply Am6;simp
             ·rw[Alq,Amn,hsl,An3]
             ·rw[An3,HIN.out,HHs.out.1];simp[An,List.map_take,List.map_drop]
            ·exact HR6.out.2.setCell (p:=⟨g5,a,none⟩) (.inl H5.out.1) _
           case measure=>simp[intOf];omega
       ·have hda:decide ((a:Int)<(out2.length:Int))=false:=Ald (by omega);have HSk:Aside (Hm.HS (Hm.cdL o) n (c+1) fr (out2.take a++y::out2.drop a)):=by
         have:=HS2.out.put b HX.out.2 (by rw[HX.out.1];omega) hfa hal (by rw[HX.out.1,←HHs.out.2.1];exact HLO.out) (fun k=>absurd k haL);rwa[HX.out.1,←HHs.out.2.1]at this
        go_wp2_with(at_builtin;refine A7 _ rfl (.tmp 57) (.tmp 58) 26 rfl W.heap.size 9 i0 (.string ⟨#[]⟩) 1 16 Tryz.underlying26 hi hz0 hz1 hz2 rfl (by decide) _ _ _ rfl (HO2.out.alloc _) ⟨wr.heap.size,0,none⟩ 1 1 [.string ⟨#[]⟩] rfl rfl ?c1 ?c2 ?c3 ?c4 ?c5 ?_)
        case c1=>exact An9 _ _ _
        case c2=>intro u hu;simp at hu;subst hu;rfl
        case c3=>unfold maxLen;omega
        case c4=>omega
        case c5=>have:=HKR2.out.size;simp;omega
        intro v5 w5 ho5 hg5 hm5;have hk5:Apd W w5:=(HKR2.out.alloc _).grown hg5 (fun j hj=> .inl (HO2.out.lt j hj).1);obtain⟨g5,cap,cur,hv5,hbg,hgr,hnc,hcm,hcs,hct⟩: ∃g cap cur,v5= .slice (some ⟨g,0,none⟩) (out2.length+1) cap∧W.heap.size≤g∧w5.heap[g]?=some (.cells cur 9 (0,0))∧out2.length+1≤cap∧cap≤maxLen∧cur.size=cap*1∧cur.toList.take ((out2.length+1)*1)=An out2++[.string ⟨#[]⟩]:=by
         rcases ho5.2 with⟨_,h⟩|h
         ·omega
         ·exact h
        subst hv5;rw[An3]at hcs hct;obtain⟨cl,hcl⟩: ∃cl:List Value,cl=cur.toList:=⟨_,rfl⟩;have hcu:cur=cl.toArray:=by rw[hcl]
        rw[hcu]at hgr hcs hct;rw[Alq]at hcs;clear hg5 hm5 ho5 hcl hcu;have H5:Aside (W.heap.size≤g5∧w5.heap[g5]?=some (.cells cl.toArray 9 (0,0))∧Apd W w5∧cap≤maxLen∧cl.take (out2.length+1)=An out2++[.string ⟨#[]⟩]):=⟨hbg,hgr,hk5,hcm,by simpa using hct⟩;clear hbg hgr hk5 hcm hct;have haI:(a:Int)≤(out2.length:Int):=by omega
        have hncI:(out2.length:Int)+1≤(cap:Int):=by omega
        go_wp2_with fail;have hwr:IntKind.i64.wrap ((a:Int)+1)=(a:Int)+1:=by rw[Al9];omega
        have hto:((a:Int)+1).toNat=a+1:=by omega
        have hca2: ¬cap=a:=by omega
        refine Ank (S:=fun _=>True) (by kernel_rfl) trivial (fun hHeld=>?_)
        refine wpAnyH_take (i := 0) (oi := { dst := some 60, op := Op.move (Operand.tmp 3), type := 26, pos := "hoardref.go:202", after := #[], guard := none }) (v := ?_) rfl (by kernel_rfl) (by kernel_rfl) (by kernel_rfl) (fun _ _ _ h => h) (Or.inl ⟨by kernel_rfl, ?_⟩) (by assumption) ?_
        rotate_left
        ·intro X hSw;go_simp
         with_reducible rfl
        simp only[Act.put,Ak8,Ak9,Ala]
        refine wpAnyH_take (i := 1) (oi := { dst := some 61, op := Op.move (Operand.tmp 8), type := 3, pos := "hoardref.go:202", after := #[], guard := none }) (v := ?_) rfl (by kernel_rfl) (by kernel_rfl) (by kernel_rfl) (fun _ _ _ h => h) (Or.inl ⟨by kernel_rfl, ?_⟩) (by assumption) ?_
        rotate_left
        ·intro X hSw;go_simp
         with_reducible rfl
        simp only[Act.put,Ak8,Ak9,Ala]
        refine wpAnyH_take (i := 2) (oi := { dst := some 62, op := Op.binOp BinOp.add 3 (Operand.tmp 61) (Operand.const (Value.int IntKind.i64 1)) 3, type := 3, pos := "hoardref.go:202", after := #[{ on := 1, ground := Ground.data }], guard := none }) (v := .int .i64 ((a : Int) + 1)) rfl (by kernel_rfl) (by kernel_rfl) (by kernel_rfl) (fun _ _ _ h => h) (Or.inl ⟨by kernel_rfl, ?_⟩) (by assumption) ?_
        ·intro X hSw;go_simp
         all_goals(try rw[hwr])
         all_goals(try rfl)
        simp only[Act.put,Ak8,Ak9,Ala]
        refine wpAnyH_take (i := 3) (oi := { dst := some 63, op := Op.slice 26 (Operand.tmp 60) (some (Operand.tmp 62)) none none, type := 26, pos := "hoardref.go:202", after := #[{ on := 0, ground := Ground.data }, { on := 2, ground := Ground.data }], guard := none }) (v := .slice (if cap = a + 1 then some ⟨g5, 0, none⟩ else some ⟨g5, a + 1, none⟩) (out2.length + 1 - (a + 1)) (cap - (a + 1))) rfl (by kernel_rfl) (by kernel_rfl) (by kernel_rfl) (fun _ _ _ h => h) (Or.inl ⟨by kernel_rfl, ?_⟩) (by assumption) ?_
        ·intro X hSw;go_simp
         all_goals(try rw[if_pos (by omega)])
         all_goals(try simp only[hto])
         all_goals(try rfl)
         all_goals(try(intro hneg;exfalso;omega))
        simp only[Act.put,Ak8,Ak9,Ala]
        refine wpAnyH_take (i := 4) (oi := { dst := some 64, op := Op.move (Operand.tmp 3), type := 26, pos := "hoardref.go:202", after := #[], guard := none }) (v := ?_) rfl (by kernel_rfl) (by kernel_rfl) (by kernel_rfl) (fun _ _ _ h => h) (Or.inl ⟨by kernel_rfl, ?_⟩) (by assumption) ?_
        rotate_left
        ·intro X hSw;go_simp
         with_reducible rfl
        simp only[Act.put,Ak8,Ak9,Ala]
        refine wpAnyH_take (i := 5) (oi := { dst := some 65, op := Op.move (Operand.tmp 8), type := 3, pos := "hoardref.go:202", after := #[], guard := none }) (v := ?_) rfl (by kernel_rfl) (by kernel_rfl) (by kernel_rfl) (fun _ _ _ h => h) (Or.inl ⟨by kernel_rfl, ?_⟩) (by assumption) ?_
        rotate_left
        ·intro X hSw;go_simp
         with_reducible rfl
        simp only[Act.put,Ak8,Ak9,Ala]
        refine wpAnyH_take (i := 6) (oi := { dst := some 66, op := Op.slice 26 (Operand.tmp 64) (some (Operand.tmp 65)) none none, type := 26, pos := "hoardref.go:202", after := #[{ on := 4, ground := Ground.data }, { on := 5, ground := Ground.data }], guard := none }) (v := .slice (some ⟨g5, a, none⟩) (out2.length + 1 - a) (cap - a)) rfl (by kernel_rfl) (by kernel_rfl) (by kernel_rfl) (fun _ _ _ h => h) (Or.inl ⟨by kernel_rfl, ?_⟩) (by assumption) ?_
        ·intro X hSw;go_simp
         all_goals(try rw[if_pos (by omega)])
         all_goals(try rw[if_neg hca2])
         all_goals(try rfl)
         all_goals(try(intro hneg;exfalso;omega))
        simp only[Act.put,Ak8,Ak9,Ala];refine Al0 (rs:=[7]) (by kernel_rfl) (by simp) ?_
        refine AllReadyH.cons (o := { dst := some 67, op := Op.call { callee := Callee.builtin Builtin.copy, args := #[Operand.tmp 63, Operand.tmp 66], argTypes := #[26, 26] }, type := 3, pos := "hoardref.go:202", after := #[{ on := 3, ground := Ground.data }, { on := 6, ground := Ground.data }], guard := none }) rfl (fun K hK => ?_) AllReadyH.nil
        have hdl:((An out2).drop a).length=out2.length-a:=by rw[Amb,Bh]
        have hci: ∀i,i<out2.length→cl[i]?=(An out2)[i]?:=fun i hi=>by
         have h1:(cl.take (out2.length+1))[i]?=cl[i]?:=Ani (by omega);rw[←h1,H5.out.2.2.2.2,Amh (by rw[Bh];omega)]
        refine step_copy_splice (o := { dst := some 67, op := Op.call { callee := Callee.builtin Builtin.copy, args := #[Operand.tmp 63, Operand.tmp 66], argTypes := #[26, 26] }, type := 3, pos := "hoardref.go:202", after := #[{ on := 3, ground := Ground.data }, { on := 6, ground := Ground.data }], guard := none }) rfl (.tmp 63) (.tmp 66) 26 26 rfl 9 Tryz.underlying26 (by rw [hi]; simp [hz1]) _ _ _ _ _ _ rfl rfl g5 (a + 1) cl 9 H5.out.2.1 ((An out2).drop a) ?d1 ?d2 ?d3 ?d4 g5 w5.drew (Below.refl _ _) (Nat.le_refl _) ?d5
        case d1=>rw[hdl];show _=min (out2.length+1-a) (out2.length+1-(a+1));omega
        case d2=>
         intro hp;rw[hdl]at hp;refine⟨by rw[if_neg (by omega)],_,rfl,fun j v hj=>?_⟩;rw[List.getElem?_drop]at hj;have hjl:a+j<out2.length:=by
          have:=(List.getElem?_eq_some_iff.1 hj).1;rw[Bh]at this;exact this
         have had:(⟨g5,a,none⟩:Addr).add j=⟨g5,a+j,none⟩:=by cases j<;>simp[Addr.add]
         rw[had];rw[Alc _ _ (a+j) _ _ _ (show w5.drew.heap[g5]?=_ from H5.out.2.1),Alz,hci _ hjl,hj]
        case d3=>rw[hdl];omega
        case d4=>
         intro v hv;have h1:=Kh out2;rw[An2]at h1;exact h1 v (by simpa using List.mem_of_mem_drop hv)
        case d5=>
         intro w6 hw6 hb6;refine hK.out _ _ trivial (fun hHeld=>?_);clear hK K;refine Anp (by kernel_rfl) ?_ _;have hsl:(splice cl (a+1) ((An out2).drop a)).length=cap:=by rw[length_splice _ _ _ (by rw[hdl];omega)];exact hcs
         have hk6:Aa (fun j=>g5≤j) w5.drew w6:=⟨hb6.os,hb6.tape,hb6.output,hb6.size,fun j _ hn=>hb6.block j (by omega)⟩;have hK6:Apd W w6:=(H5.out.2.2.1.drew).trans hk6 (fun j h1 h2=>by have:=H5.out.1;omega);have HR6:Aside (w6.heap[g5]?=some (.cells (splice cl (a+1) ((An out2).drop a)).toArray 9 (0,0))∧Apd W w6):=⟨hw6.out,hK6⟩;obtain⟨old,hold⟩: ∃old,(splice cl (a+1) ((An out2).drop a))[a]?=some old:=⟨_,Ak7 (by rw[hsl];omega)⟩;have co6:w6.cell? ⟨g5,a,none⟩=some old:=by rw[Alc _ _ a _ _ _ HR6.out.1,Alz,hold]
         have fo6:w6.frozen? ⟨g5,a,none⟩=false:=Alk _ _ a _ _ HR6.out.1;have haI2:(a:Int)<(out2.length:Int)+1:=by omega
         have HIN:Aside (((splice cl (a+1) ((An out2).drop a)).set a (.string H)).take (out2.length+1)=(An out2).take a++ .string H::(An out2).drop a):=Aez cl (An out2) _ (.string H) out2.length a (Bh _) hal H5.out.2.2.2.2 (by omega);clear hb6 hk6 hK6 hw6 hold hci;go_wp2_with fail;go_roundw
         case rel=>
          have hlen:(out2.take a++y::out2.drop a).length=out2.length+1:=by rw[Alg,Amc,Aln,Amb];omega
          refine⟨c+1,out2.take a++y::out2.drop a,by omega,by go_num,HSk.out,?_,?_⟩
          ·show World.ownsRow _ _ _ _ _ _ _;rw[hlen];refine⟨by rw[Bh,hlen,An3],.inr ⟨g5,cap,((splice cl (a+1) ((An out2).drop a)).set a (.string H)).toArray,rfl,H5.out.1,?_,hnc,H5.out.2.2.2.1,?_,?_⟩⟩
           ·rw[Alf _ g5 a _ _ (.string H) HR6.out.1];congr 2;apply Am6;simp
           ·rw[Alq,Amn,hsl,An3]
           ·rw[An3,HIN.out,HHs.out.1];simp[An,List.map_take,List.map_drop]
          ·exact HR6.out.2.setCell (p:=⟨g5,a,none⟩) (.inl H5.out.1) _
         case measure=>simp[intOf];omega
    ·have hc256:c=256:=by omega
     have hdec:decide ((c:Int)<256)=false:=Ald (by omega);have HS3:Aside (Hm.HS (Hm.cdL o) n 256 fr out2):=by rw[←hc256];exact HS2.out
     clear hkr2 hc256
     by_cases hsame:out2.length=fr
     ·have hbq:((out2.length:Int)==(fr:Int))=true:=by rw[hsame];simp
      have HH:Aside (Er (Hm.cdL o) out2):=HS3.out.stop hsame;have HOW:Aside (wr.ownsRow w.heap.size 9 1 (.slice ao2 out2.length co2) out2.length (An out2)):=E4 HO2.out fun k hk=>by
       have h1:=(HO2.out.lt k hk).1;have h2:=HW.out.2.2;omega
      have HKW:Aside (Apd w wr):=HW.out.2.1.trans HKR2.out (fun _ _ h=>h);clear hsame;go_wp2_with fail;go_ret;exact⟨_,out2,rfl,HH.out,hfew2,HOW.out,HKW.out⟩
     ·have hbq:((out2.length:Int)==(fr:Int))=false:=by rw[Al5];omega
      have HS4:Aside (Hm.HS (Hm.cdL o) (n+1) 0 out2.length out2):=HS3.out.next;go_wp2_with fail;go_roundw
      case rel=>exact⟨n+1,out2,by omega,by go_num,HS4.out,HO2,HKR2.out⟩
      case measure=>simp[intOf];omega
  ·have hn256:n=256:=by omega
   have hdec:decide ((n:Int)<256)=false:=Ald (by omega);have HH:Aside (Er (Hm.cdL o) out):=HS.out.last fun b=>by
    have:=HG.out b.toNat b.toNat_lt;show(o.getD b.toNat []).length≤n;omega
   obtain⟨ao,co,hvo,_⟩:=Ay HO.out;subst hvo;have HOW:Aside (wr.ownsRow w.heap.size 9 1 (.slice ao out.length co) out.length (An out)):=E4 HO.out fun k hk=>by
    have h1:=(HO.out.lt k hk).1;have h2:=HW.out.2.2;omega
   have HKW:Aside (Apd w wr):=HW.out.2.1.trans HKR.out (fun _ _ h=>h);go_wp2_with fail;go_ret;exact⟨_,out,rfl,HH.out,hfew,HOW.out,HKW.out⟩
namespace Hm
def G6(l:List (List Bool))(h:List Bool):Option Nat:=l.findIdx? (fun x=>decide (x=h))
def Lu(l:List (List Bool))(h:List Bool):Int:=match G6 l h with
 |some i=>(i:Int)
 |none=> -1
theorem Qc{l:List (List Bool)}{h:List Bool}{i:Nat}(hi:i<l.length)(e:l[i]=h)(hn: ∀j,(hj:j<i)→l[j]≠h):G6 l h=some i:=by
 unfold G6;rw[List.findIdx?_eq_some_iff_getElem];exact⟨hi,by simpa using e,fun j hj=>by simpa using hn j hj⟩
theorem Wp{l:List (List Bool)}{h:List Bool}(hn: ∀j,(hj:j<l.length)→l[j]≠h):G6 l h=none:=by
 unfold G6;rw[List.findIdx?_eq_none_iff];intro x hx;obtain⟨j,hj,rfl⟩:=List.mem_iff_getElem.1 hx;simpa using hn j hj
theorem Ack{l:List (List Bool)}{h:List Bool}{i:Nat}(e:G6 l h=some i): ∃hi:i<l.length,l[i]=h:=by
 unfold G6 at e;rw[List.findIdx?_eq_some_iff_getElem]at e;obtain⟨hi,h1,_⟩:=e;exact⟨hi,by simpa using h1⟩
def E3(hd:List (List Bool))(i ones C1:Nat)(sz:List Nat):Nat→List Nat
 |0=>sz
 |j+1=>if hd.getD (i+1+j) []=hd.getD i []++[true]then(E3 hd i ones C1 sz j).set (i+1+j) ones
  else if hd.getD (i+1+j) []=hd.getD i []++[false]then(E3 hd i ones C1 sz j).set (i+1+j) C1
  else E3 hd i ones C1 sz j
theorem Ks(hd:List (List Bool))(i ones C1:Nat)(sz:List Nat): ∀j,(E3 hd i ones C1 sz j).length=sz.length
 |0=>rfl
 |j+1=>by
  have ih:=Ks hd i ones C1 sz j;rw[E3];split
  ·rw[Amn,ih]
  ·split
   ·rw[Amn,ih]
   ·exact ih
def G3(s:List UInt8)(fr n:Nat)(hd:List (List Bool)):Nat→Option (List (List Bool)×List Nat×Nat)
 |0=>some ([],(List.replicate hd.length 0).set 0 n,0)
 |i+1=>match G3 s fr n hd i with
  |none=>none
  |some (rows,sz,a)=>
   if(Cr s (fr,false) (a+sz.getD i 0)).2.2=true then none
   else
    let row:=(Cr s (fr,false) (a+sz.getD i 0)).1.drop a
    some (rows++[row],E3 hd i (row.count true) (row.length-row.count true) sz (hd.length-(i+1)),a+sz.getD i 0)
def F9(hd rows codes:List (List Bool)):Nat→List Nat→List Bool→Option (Nat×List Nat)
 |0,_,_=>none
 |f+1,nx,h=>match G6 hd h with
  |none=>none
  |some i=>
   if(rows.getD i []).length≤nx.getD i 0 then none
   else match G6 codes (h++[(rows.getD i []).getD (nx.getD i 0) false])with
    |some c=>some (c,nx.set i (nx.getD i 0+1))
    |none=>F9 hd rows codes f (nx.set i (nx.getD i 0+1)) (h++[(rows.getD i []).getD (nx.getD i 0) false])
def Jh(hd rows codes:List (List Bool)):Nat→Option (List UInt8×List Nat)
 |0=>some ([],List.replicate hd.length 0)
 |k+1=>match Jh hd rows codes k with
  |none=>none
  |some (b,nx)=>match F9 hd rows codes 256 nx []with
   |none=>none
   |some (c,nx')=>some (b++[UInt8.ofNat c],nx')
def Ji(s:List UInt8)(fr n:Nat)(hd codes:List (List Bool)):Option (List UInt8):=match G3 s fr n hd hd.length with
 |none=>none
 |some (rows,_,_)=>(Jh hd rows codes n).map (·.1)
end Hm
theorem So(ao:Option Addr)(c:Nat)(l:List (List Bool))(h:List Bool)(w:World)(hs:Ms w ao (l.map fun x=>⟨(Ad x).toArray⟩))(hl:l.length≤1000000):
  Calls Tryz.prog 122 #[.slice ao l.length c,.string ⟨(Ad h).toArray⟩] w fun e w'=>e= .returned (.int .i64 (Lu l h))∧w'=w:=by
 have hc:=Ad1 ao c _ ⟨(Ad h).toArray⟩ w hs (by simpa using hl);rw[show(Value.slice ao l.length c)= .slice ao (l.map fun x=>(⟨(Ad x).toArray⟩:ByteArray)).length c from by rw[Al6]];refine hc.mono ?_;have hinj: ∀x:List Bool,(⟨(Ad x).toArray⟩:ByteArray)=⟨(Ad h).toArray⟩↔x=h:=fun x=>by
  constructor
  ·intro e;have e2:=congrArg (fun b:ByteArray=>b.data.toList) e;exact Lt x h e2
  ·rintro rfl;rfl
 rintro e w' ⟨⟨i,rfl,hi,e1,e2⟩|⟨rfl,e2⟩,rfl⟩
 ·refine⟨?_,rfl⟩;have hi':i<l.length:=by simpa using hi
  have h1:G6 l h=some i:=Qc hi' (by rw[Am5]at e1;exact(hinj _).1 e1) (fun j hj he=>e2 j hj (by rw[Am5];exact(hinj _).2 he));unfold Lu;rw[h1]
 ·refine⟨?_,rfl⟩;have h1:G6 l h=none:=Wp (fun j hj he=>e2 j (by simpa using hj) (by rw[Am5];exact(hinj _).2 he));unfold Lu;rw[h1]
end Go.Proofs.YtegnkfdbmmndaaaGreat
