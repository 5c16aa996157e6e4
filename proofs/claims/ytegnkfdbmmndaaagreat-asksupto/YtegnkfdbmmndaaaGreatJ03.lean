import Derived.Test.YtegnkfdbmmndaaaGreatJ01

set_option maxHeartbeats 8000000
namespace Go.Proofs.YtegnkfdbmmndaaaGreat
open Hm Go.Proofs.Tryz
namespace Hm
def E4(nds:List Nd)(n s:Nat):List Nd:=nds.set n {Ab nds n with siz:=s}
def Ea(nds:List Nd)(n s:Nat):List Nd:=nds.set n {Ab nds n with frm:=s}
structure Bl where
 len:Nat
 nds:List Nd
 ws:Ard
def Dx(b:Br)(size:Nat)(st:Bl):Option Bl:=
 if b.whole then some {st with ws:=st.ws.set b.val.toNat size}
 else if 0<b.node then some {st with nds:=E4 st.nds b.node size}
 else if size=0 then some st else none
def Jj(f:Nat→Bool)(st:Bl)(i:Nat):Nat:=rk f (st.len+(Ab st.nds i).siz)-rk f st.len
def Hl(f:Nat→Bool)(LB i:Nat)(st:Bl):Option Bl:=
 if LB<st.len+(Ab st.nds i).siz then none
 else(Dx (Ab st.nds i).b0 ((Ab st.nds i).siz-Jj f st i) ⟨st.len+(Ab st.nds i).siz,Ea st.nds i st.len,st.ws⟩).bind (Dx (Ab st.nds i).b1 (Jj f st i))
def Hs(f:Nat→Bool)(LB:Nat)(nds:List Nd)(total:Nat)(ws:Ard):Nat→Option Bl
 |0=>some ⟨0,E4 nds 0 total,ws⟩
 |i+1=>(Hs f LB nds total ws i).bind (Hl f LB i)
def Oq(f:Nat→Bool)(LB:Nat)(nds:List Nd)(total:Nat)(ws:Ard):Option Bl:=Hs f LB nds total ws nds.length
theorem Nu(nds:List Nd)(n s:Nat):(E4 nds n s).length=nds.length:=by simp[E4]
theorem Gu(nds:List Nd)(n s:Nat):(Ea nds n s).length=nds.length:=by simp[Ea]
theorem Lp(nds:List Nd)(n s j:Nat)(h:n<nds.length):Ab (E4 nds n s) j=if n=j then{Ab nds j with siz:=s}else Ab nds j:=by
 unfold E4
 by_cases e:n=j
 ·subst e;rw[if_pos rfl,Gt _ _ _ h]
 ·rw[if_neg e,Ig _ _ _ _ e]
theorem Nf(nds:List Nd)(n s j:Nat)(h:n<nds.length):Ab (Ea nds n s) j=if n=j then{Ab nds j with frm:=s}else Ab nds j:=by
 unfold Ea
 by_cases e:n=j
 ·subst e;rw[if_pos rfl,Gt _ _ _ h]
 ·rw[if_neg e,Ig _ _ _ _ e]
def Wf(a b:Nd):Prop:=a.depth=b.depth∧a.num=b.num∧a.b0=b.b0∧a.b1=b.b1
def I3(a b:List Nd):Prop:=a.length=b.length∧ ∀j,Wf (Ab a j) (Ab b j)
theorem I3.refl(a:List Nd):I3 a a:=⟨rfl,fun _=>⟨rfl,rfl,rfl,rfl⟩⟩
theorem I3.trans{a b c:List Nd}(h:I3 a b)(k:I3 b c):I3 a c:=
 ⟨h.1.trans k.1,fun j=>⟨(h.2 j).1.trans (k.2 j).1,(h.2 j).2.1.trans (k.2 j).2.1,(h.2 j).2.2.1.trans (k.2 j).2.2.1,(h.2 j).2.2.2.trans (k.2 j).2.2.2⟩⟩
theorem Vr(nds:List Nd)(n s:Nat):I3 (E4 nds n s) nds:=by
 refine⟨Nu _ _ _,fun j=>?_⟩
 by_cases h:n<nds.length
 ·rw[Lp _ _ _ _ h];split<;>exact⟨rfl,rfl,rfl,rfl⟩
 ·unfold E4;rw[Aqj (by omega)];exact⟨rfl,rfl,rfl,rfl⟩
theorem Ot(nds:List Nd)(n s:Nat):I3 (Ea nds n s) nds:=by
 refine⟨Gu _ _ _,fun j=>?_⟩
 by_cases h:n<nds.length
 ·rw[Nf _ _ _ _ h];split<;>exact⟨rfl,rfl,rfl,rfl⟩
 ·unfold Ea;rw[Aqj (by omega)];exact⟨rfl,rfl,rfl,rfl⟩
theorem Ih{b:Br}{size:Nat}{st st':Bl}(h:Dx b size st=some st'):I3 st'.nds st.nds∧st'.len=st.len∧st'.ws.length=st.ws.length:=by
 unfold Dx at h;split at h
 ·cases h;exact⟨I3.refl _,rfl,by simp⟩
 ·split at h
  ·cases h;exact⟨Vr _ _ _,rfl,rfl⟩
  ·split at h
   ·cases h;exact⟨I3.refl _,rfl,rfl⟩
   ·cases h
theorem Ly{f:Nat→Bool}{LB i:Nat}{st st':Bl}(h:Hl f LB i st=some st'):I3 st'.nds st.nds∧st'.len=st.len+(Ab st.nds i).siz∧st'.len≤LB∧st'.ws.length=st.ws.length:=by
 unfold Hl at h;split at h
 ·cases h
 ·rename_i hn;obtain⟨s1,h1,h2⟩:=Option.bind_eq_some_iff.1 h;have a:=Ih h1;have b:=Ih h2;have el:st'.len=st.len+(Ab st.nds i).siz:=b.2.1.trans a.2.1;exact⟨b.1.trans (a.1.trans (Ot _ _ _)),el,by omega,b.2.2.trans a.2.2⟩
theorem Kp{f:Nat→Bool}{LB:Nat}{nds:List Nd}{total:Nat}{ws:Ard}: ∀{i:Nat} {st:Bl},Hs f LB nds total ws i=some st→I3 st.nds nds∧st.ws.length=ws.length
 |0,st,h=>by cases h;exact⟨Vr _ _ _,rfl⟩
 |i+1,st,h=>by
  obtain⟨s1,h1,h2⟩:=Option.bind_eq_some_iff.1 h;have a:=Kp h1;have b:=Ly h2;exact⟨b.1.trans a.1,b.2.2.2.trans a.2⟩
theorem Wg{b:Br}{size T:Nat}{st st':Bl}(h:Dx b size st=some st')(hs:size≤T)(a: ∀j,(Ab st.nds j).siz≤T): ∀j,(Ab st'.nds j).siz≤T:=by
 unfold Dx at h;split at h
 ·cases h;exact a
 ·split at h
  ·cases h;intro j;show(Ab (E4 st.nds b.node size) j).siz≤T
   by_cases hn:b.node<st.nds.length
   ·rw[Lp _ _ _ _ hn];split
    ·exact hs
    ·exact a j
   ·unfold E4;rw[Aqj (by omega)];exact a j
  ·split at h
   ·cases h;exact a
   ·cases h
theorem So(f:Nat→Bool)(st:Bl)(i:Nat):Jj f st i≤(Ab st.nds i).siz:=by
 unfold Jj;have:=Yb f (Aqv st.len (Ab st.nds i).siz);omega
theorem Ael{f:Nat→Bool}{LB i T:Nat}{st st':Bl}(h:Hl f LB i st=some st')(a: ∀j,(Ab st.nds j).siz≤T): ∀j,(Ab st'.nds j).siz≤T:=by
 unfold Hl at h;split at h
 ·cases h
 ·obtain⟨s1,h1,h2⟩:=Option.bind_eq_some_iff.1 h;have c:=So f st i;have hi:=a i;have b: ∀j,(Ab (Ea st.nds i st.len) j).siz≤T:=fun j=>by
   by_cases hn:i<st.nds.length
   ·rw[Nf _ _ _ _ hn];split
    ·exact a j
    ·exact a j
   ·unfold Ea;rw[Aqj (by omega)];exact a j
  exact Wg h2 (by omega) (Wg h1 (by omega) b)
theorem Ze{f:Nat→Bool}{LB:Nat}{nds:List Nd}{total:Nat}{ws:Ard}(a: ∀j,(Ab nds j).siz≤total): ∀{i:Nat} {st:Bl},Hs f LB nds total ws i=some st→ ∀j,(Ab st.nds j).siz≤total
 |0,st,h=>by
  cases h;intro j;show(Ab (E4 nds 0 total) j).siz≤total
  by_cases hn:0<nds.length
  ·rw[Lp _ _ _ _ hn];split
   ·exact Ane _
   ·exact a j
  ·unfold E4;rw[Aqj (by omega)];exact a j
 |i+1,st,h=>by
  obtain⟨s1,h1,h2⟩:=Option.bind_eq_some_iff.1 h;exact Ael h2 (Ze a h1)
theorem J7{f:Nat→Bool}{LB:Nat}{nds:List Nd}{total:Nat}{ws:Ard}: ∀{i:Nat} {st:Bl},Hs f LB nds total ws i=some st→st.len≤LB
 |0,st,h=>by cases h;exact Ann _
 |i+1,st,h=>by
  obtain⟨s1,_,h2⟩:=Option.bind_eq_some_iff.1 h;exact(Ly h2).2.2.1
end Hm
namespace Hm
def C9(nds:List Nd):Nat→Nat
 |0=>0
 |j+1=>C9 nds j+(Ab nds j).siz
def I4(f:Nat→Bool)(nds:List Nd)(j u:Nat):Nat:=
 if u=1 then rk f (C9 nds j+(Ab nds j).siz)-rk f (C9 nds j)else(Ab nds j).siz-(rk f (C9 nds j+(Ab nds j).siz)-rk f (C9 nds j))
theorem Jk{a b:List Nd}: ∀{j:Nat},(∀k,k<j→(Ab a k).siz=(Ab b k).siz)→C9 a j=C9 b j
 |0,_=>rfl
 |j+1,h=>by rw[C9,C9,Jk (fun k hk=>h k (by omega)),h j (by omega)]
theorem Ag0{f:Nat→Bool}{a b:List Nd}{j u:Nat}(h: ∀k,k≤j→(Ab a k).siz=(Ab b k).siz):I4 f a j u=I4 f b j u:=by
 unfold I4;rw[Jk (a:=a) (b:=b) (fun k hk=>h k (by omega)),h j (Ane _)]
structure Akn(b:Br)(size:Nat)(st st':Bl):Prop where
 len:st'.len=st.len
 other: ∀j,(b.whole=true∨j≠b.node∨b.node=0)→Ab st'.nds j=Ab st.nds j
 hit:b.whole=false→0<b.node→b.node<st.nds.length→Ab st'.nds b.node={Ab st.nds b.node with siz:=size}
 ws: ∀v:UInt8,¬(b.whole=true∧v=b.val)→st'.ws.getD v.toNat 0=st.ws.getD v.toNat 0
 wsHit:b.whole=true→st.ws.length=256→st'.ws.getD b.val.toNat 0=size
 none:b.whole=false→b.node=0→size=0
theorem Ai4(l:Ard)(i j x:Nat)(h:i<l.length):(l.set i x).getD j 0=if i=j then x else l.getD j 0:=by
 rw[Am4,List.getElem?_set]
 by_cases e:i=j
 ·rw[if_pos e,if_pos e,if_pos h];rfl
 ·rw[if_neg e,if_neg e,←Am4]
theorem Abv(l:Ard)(i j x:Nat)(h:i≠j):(l.set i x).getD j 0=l.getD j 0:=by
 rw[Am4,Ap9 h,←Am4]
theorem Kq{b:Br}{size:Nat}{st st':Bl}(h:Dx b size st=some st'):Akn b size st st':=by
 unfold Dx at h
 by_cases a:b.whole=true
 ·rw[if_pos a]at h;cases h;refine⟨rfl,fun _ _=>rfl,fun c=>absurd a (by rw[c];decide),fun v g=>?_,fun _ d=>?_,fun c=>absurd a (by rw[c];decide)⟩
  ·exact Abv _ _ _ _ fun e=>g ⟨a,UInt8.toNat_inj.1 e.symm⟩
  ·show(st.ws.set b.val.toNat size).getD b.val.toNat 0=size;rw[Ai4 _ _ _ _ (by rw[d];exact b.val.toNat_lt),if_pos rfl]
 ·have i:b.whole=false:=by simpa using a
  rw[if_neg a]at h
  by_cases hn:0<b.node
  ·rw[if_pos hn]at h;cases h;refine⟨rfl,fun j f=>?_,fun _ _ d=>?_,fun _ _=>rfl,fun c=>absurd c a,fun _ c=>by omega⟩
   ·show Ab (E4 st.nds b.node size) j=_;unfold E4;rw[Ig];rcases f with c|c|c
    ·exact absurd c a
    ·exact fun e=>c e.symm
    ·omega
   ·show Ab (E4 st.nds b.node size) b.node=_;rw[Lp _ _ _ _ d,if_pos rfl]
  ·rw[if_neg hn]at h
   by_cases hs:size=0
   ·rw[if_pos hs]at h;cases h;exact⟨rfl,fun _ _=>rfl,fun _ c=>by omega,fun _ _=>rfl,fun c=>absurd c a,fun _ _=>hs⟩
   ·rw[if_neg hs]at h;cases h
structure K5(f:Nat→Bool)(total i:Nat)(st:Bl):Prop where
 wl:st.ws.length=256
 root:(Ab st.nds 0).siz=total
 frm: ∀j,j<i→(Ab st.nds j).frm=C9 st.nds j
 len:st.len=C9 st.nds i
 leaf: ∀j u v,j<i→u<2→(Ab st.nds j).br u={whole:=true,val:=v}→st.ws.getD v.toNat 0=I4 f st.nds j u
 node: ∀j u n,j<i→u<2→0<n→(Ab st.nds j).br u={node:=n}→(Ab st.nds n).siz=I4 f st.nds j u
 none: ∀j u,j<i→u<2→(Ab st.nds j).br u={}→I4 f st.nds j u=0
 rest: ∀v:UInt8,(∀j u,j<i→u<2→(Ab st.nds j).br u≠{whole:=true,val:=v})→st.ws.getD v.toNat 0=0
section
variable {M:Nat} {ln num:UInt8→Nat} {o:Arc} {nds:List Nd}
theorem Wf.br{a b:Nd}(h:Wf a b)(u:Nat):a.br u=b.br u:=by unfold Nd.br;rw[h.2.2.1,h.2.2.2]
theorem Bo.like{nds':List Nd}(h:Bo M ln o nds)(a:I3 nds' nds):Bo M ln o nds':=by
 refine⟨by rw[a.1];exact h.more,by rw[a.1];exact h.few,by rw[(a.2 0).1,(a.2 0).2.1];exact h.root,fun j u b f=>?_,fun j j' h1 h2=>?_,fun n h1 h2=>?_⟩
 ·rw[a.1]at b;exact(h.good j u b f).mono (fun j _=>(a.2 j).1) (fun j _=>(a.2 j).2.1) ((a.2 j).br u) (Apx a.1.symm) b
 ·have:=h.sorted j j' h1 (by rw[←a.1];exact h2);unfold Jy at*;rw[(a.2 j).1,(a.2 j).2.1,(a.2 j').1,(a.2 j').2.1];exact this
 ·obtain⟨j,u,c,d,e⟩:=h.par n h1 (by rw[←a.1];exact h2);exact⟨j,u,c,d,((a.2 j).br u).trans e⟩
theorem Ai5{o:Arc}(hn:o.Nodup){i j:Nat}(hi:i<o.length)(a:j<o.length)(e:o.getD i 0=o.getD j 0):i=j:=by
 rw[Am4,Am5 hi,Am4,Am5 a]at e;have b:=List.pairwise_iff_getElem.1 (List.nodup_iff_pairwise_ne.1 hn);rcases Aop i j with c|c|c
 ·exact absurd e (b i j hi a c)
 ·exact c
 ·exact absurd e.symm (b j i a hi c)
theorem Bo.leaf_one(h:Bo M ln o nds)(hn:o.Nodup){j u j' u':Nat}{v:UInt8}(g:j<nds.length)(l:u<2)(b:j'<nds.length)(d:u'<2)(e:(Ab nds j).br u={whole:=true,val:=v})(e':(Ab nds j').br u'={whole:=true,val:=v}):j=j'∧u=u':=by
 cases h.good j u g l with
 |node n h1=>rw[h1]at e;cases e
 |none h1=>rw[h1]at e;cases e
 |leaf k hk h1 h2 f=>
  cases h.good j' u' b d with
  |node n a=>rw[a]at e';cases e'
  |none a=>rw[a]at e';cases e'
  |leaf k' c a m i=>
   rw[h1]at e;rw[a]at e';have e1:o.getD k 0=v:=by injection e
   have e2:o.getD k' 0=v:=by injection e'
   have ek:=Ai5 hn hk c (e1.trans e2.symm);subst ek;rw[←i]at f;have p:=Nat.eq_of_mul_eq_mul_right (App _) f;exact⟨h.same g b (by omega) (by omega),by omega⟩
theorem Ft{b:Br}{v:UInt8}(h:b={whole:=true,val:=v}):b.whole=true∧b.val=v∧b.node=0:=by subst h;exact⟨rfl,rfl,rfl⟩
theorem Mi{b:Br}{n:Nat}(h:b={node:=n}):b.whole=false∧b.node=n:=by subst h;exact⟨rfl,rfl⟩
theorem K5.step{f:Nat→Bool}{LB total i:Nat}{st st':Bl}(h:K5 f total i st)(hs:Bo M ln o st.nds)(hn:o.Nodup)(hi:i<st.nds.length)(s:Hl f LB i st=some st'):K5 f total (i+1) st':=by
 have t:=Ly s;unfold Hl at s;split at s
 ·cases s
 ·obtain⟨s1,h1,h2⟩:=Option.bind_eq_some_iff.1 s;have a:=Kq h1;have b:=Kq h2;have al:=Ih h1;have z:=So f st i;have n0: ∀u,u<2→ ∀n,(Ab st.nds i).br u={node:=n}→n=0∨i<n∧n<st.nds.length:=fun u g n e=>by
   rcases Aqi n with c|c
   ·exact .inl c
   ·have:=hs.child hi g c e;exact .inr ⟨this.1,this.2.1⟩
  have good0:=hs.good i 0 hi (by omega);have good1:=hs.good i 1 hi (by omega);have b0e:(Ab st.nds i).br 0=(Ab st.nds i).b0:=rfl;have b1e:(Ab st.nds i).br 1=(Ab st.nds i).b1:=rfl;have o0:(Ab st.nds i).b0.whole=true∨(Ab st.nds i).b0.node=0∨(i<(Ab st.nds i).b0.node∧(Ab st.nds i).b0.node<st.nds.length):=by
   cases good0 with
   |leaf k hk e=>rw[b0e]at e;exact .inl (Ft e).1
   |node n e q r=>rw[b0e]at e;right;right;rw[(Mi e).2];exact⟨q,r⟩
   |none e=>rw[b0e]at e;right;left;rw[e]
  have o1:(Ab st.nds i).b1.whole=true∨(Ab st.nds i).b1.node=0∨(i<(Ab st.nds i).b1.node∧(Ab st.nds i).b1.node<st.nds.length):=by
   cases good1 with
   |leaf k hk e=>rw[b1e]at e;exact .inl (Ft e).1
   |node n e q r=>rw[b1e]at e;right;right;rw[(Mi e).2];exact⟨q,r⟩
   |none e=>rw[b1e]at e;right;left;rw[e]
  have frm0: ∀j,Ab (Ea st.nds i st.len) j=if i=j then{Ab st.nds j with frm:=st.len}else Ab st.nds j:=fun j=>Nf _ _ _ _ hi;have low: ∀j,j≤i→Ab st'.nds j=if i=j then{Ab st.nds j with frm:=st.len}else Ab st.nds j:=fun j l=>by
   rw[b.other j (by rcases o1 with c|c|c;exact .inl c;exact .inr (.inr c);exact .inr (.inl (by omega))),a.other j (by rcases o0 with c|c|c;exact .inl c;exact .inr (.inr c);exact .inr (.inl (by omega)))];exact frm0 j
  have lowsiz: ∀j,j≤i→(Ab st'.nds j).siz=(Ab st.nds j).siz:=fun j l=>by rw[low j l];split<;>rfl
  have lowbr: ∀j,j≤i→ ∀u,(Ab st'.nds j).br u=(Ab st.nds j).br u:=fun j l u=>by rw[low j l];split<;>rfl
  have est: ∀j,j≤i+1→C9 st'.nds j=C9 st.nds j:=fun j l=>Jk fun k hk=>lowsiz k (by omega);have ec: ∀j u,j≤i→I4 f st'.nds j u=I4 f st.nds j u:=fun j u l=>Ag0 fun k hk=>lowsiz k (by omega);have p:=h.len;have eon:I4 f st.nds i 1=Jj f st i:=by unfold I4 Jj;rw[if_pos rfl,←p]
  have eze:I4 f st.nds i 0=(Ab st.nds i).siz-Jj f st i:=by unfold I4 Jj;rw[if_neg (by omega),←p]
  have wl1:s1.ws.length=256:=al.2.2.trans h.wl;have nl1:s1.nds.length=st.nds.length:=by have:=al.1.1;rw[this];exact Gu _ _ _
  have wsOld: ∀v:UInt8,(Ab st.nds i).b0≠{whole:=true,val:=v}→(Ab st.nds i).b1≠{whole:=true,val:=v}→st'.ws.getD v.toNat 0=st.ws.getD v.toNat 0:=by
   intro v c0 c1;rw[b.ws v ?_,a.ws v ?_]
   ·rintro⟨x,rfl⟩;cases good0 with
    |leaf k hk e=>rw[b0e]at e;rw[e]at c0;exact c0 rfl
    |node n e=>rw[b0e]at e;rw[e]at x;cases x
    |none e=>rw[b0e]at e;rw[e]at x;cases x
   ·rintro⟨x,rfl⟩;cases good1 with
    |leaf k hk e=>rw[b1e]at e;rw[e]at c1;exact c1 rfl
    |node n e=>rw[b1e]at e;rw[e]at x;cases x
    |none e=>rw[b1e]at e;rw[e]at x;cases x
  refine⟨t.2.2.2.trans h.wl,(lowsiz 0 (by omega)).trans h.root,fun j l=>?_,?_,fun j u v l g e=>?_,fun j u n l g d e=>?_,fun j u l g e=>?_,fun v w=>?_⟩
  ·rw[est j (by omega),low j (by omega)]
   by_cases c:i=j
   ·subst c;rw[if_pos rfl];exact p
   ·rw[if_neg c];exact h.frm j (by omega)
  ·rw[est (i+1) (Ane _),C9,←p];exact t.2.1
  ·rw[lowbr j (by omega) u]at e;rw[ec j u (by omega)]
   by_cases c:j=i
   ·subst c;rcases(show u=0∨u=1 by omega)with rfl|rfl
    ·have e':(Ab st.nds j).b0={whole:=true,val:=v}:=e;obtain⟨q1,q2,_⟩:=Ft e';rw[b.ws v ?_,←q2,a.wsHit q1 h.wl,eze];rintro⟨x,y⟩;have e1:(Ab st.nds j).br 1={whole:=true,val:=v}:=by
      cases good1 with
      |leaf k hk e=>rw[e];rw[b1e]at e;rw[e]at y;rw[y]
      |node n e=>rw[b1e]at e;rw[e]at x;cases x
      |none e=>rw[b1e]at e;rw[e]at x;cases x
     have:=hs.leaf_one hn hi (by omega) hi (by omega) e e1;omega
    ·have e':(Ab st.nds j).b1={whole:=true,val:=v}:=e;obtain⟨q1,q2,_⟩:=Ft e';rw[←q2,b.wsHit q1 wl1,eon]
   ·have m:j<st.nds.length:=by omega
    rw[wsOld v (fun x=>?_) (fun x=>?_)]
    ·exact h.leaf j u v (by omega) g e
    ·have:=hs.leaf_one hn m g hi (by omega:0<2) e x;omega
    ·have:=hs.leaf_one hn m g hi (by omega:1<2) e x;omega
  ·rw[lowbr j (by omega) u]at e;rw[ec j u (by omega)]
   by_cases c:j=i
   ·subst c;rcases(show u=0∨u=1 by omega)with rfl|rfl
    ·have e':(Ab st.nds j).b0={node:=n}:=e;obtain⟨q1,q2⟩:=Mi e';obtain⟨_,q4,_⟩:=hs.child hi (by omega) d e;rw[b.other n ?_]
     ·have:=a.hit q1 (by omega) (by show _<(Ea st.nds j st.len).length;rw[Gu];omega);rw[q2]at this;rw[this,eze]
     ·cases good1 with
      |leaf k hk e1=>rw[b1e]at e1;exact .inl (Ft e1).1
      |node n' e1 q r=>
       right;left;intro x;rw[b1e]at e1;rw[(Mi e1).2]at x;subst x;have:=hs.parent hi (by omega:0<2) hi (by omega:1<2) d e e1;omega
      |none e1=>rw[b1e]at e1;right;right;rw[e1]
    ·have e':(Ab st.nds j).b1={node:=n}:=e;obtain⟨q1,q2⟩:=Mi e';obtain⟨_,q4,_⟩:=hs.child hi (by omega) d e;have:=b.hit q1 (by omega) (by omega);rw[q2]at this;rw[this,eon]
   ·have m:j<st.nds.length:=by omega
    have key:Ab st'.nds n=Ab (Ea st.nds i st.len) n:=by
     rw[b.other n ?_,a.other n ?_]
     ·cases good0 with
      |leaf k hk e1=>rw[b0e]at e1;exact .inl (Ft e1).1
      |node n' e1 q r=>
       right;left;intro x;rw[(Mi (b0e▸e1)).2]at x;subst x;have:=hs.parent m g hi (by omega) d e e1;omega
      |none e1=>rw[b0e]at e1;right;right;rw[e1]
     ·cases good1 with
      |leaf k hk e1=>rw[b1e]at e1;exact .inl (Ft e1).1
      |node n' e1 q r=>
       right;left;intro x;rw[(Mi (b1e▸e1)).2]at x;subst x;have:=hs.parent m g hi (by omega) d e e1;omega
      |none e1=>rw[b1e]at e1;right;right;rw[e1]
    rw[key,frm0 n];have:=h.node j u n (by omega) g d e;split
    ·exact this
    ·exact this
  ·rw[lowbr j (by omega) u]at e;rw[ec j u (by omega)]
   by_cases c:j=i
   ·subst c;rcases(show u=0∨u=1 by omega)with rfl|rfl
    ·have e':(Ab st.nds j).b0={}:=e;rw[eze];exact a.none (by rw[e']) (by rw[e'])
    ·have e':(Ab st.nds j).b1={}:=e;rw[eon];exact b.none (by rw[e']) (by rw[e'])
   ·exact h.none j u (by omega) g e
  ·rw[wsOld v ?_ ?_]
   ·exact h.rest v fun j u l g=>by rw[←lowbr j (by omega) u];exact w j u (by omega) g
   ·have:=w i 0 (by omega) (by omega);rw[lowbr i (Ane _) 0]at this;exact this
   ·have:=w i 1 (by omega) (by omega);rw[lowbr i (Ane _) 1]at this;exact this
theorem Ng{f:Nat→Bool}{LB total:Nat}{ws:Ard}(hs:Bo M ln o nds)(hn:o.Nodup)(b:ws=List.replicate 256 0): ∀{i:Nat} {st:Bl},i≤nds.length→Hs f LB nds total ws i=some st→K5 f total i st
 |0,st,_,h=>by
  cases h;have e0:(Ab (E4 nds 0 total) 0).siz=total:=by rw[Lp _ _ _ _ hs.more,if_pos rfl]
  refine⟨by rw[b];exact Ani,e0,fun j a=>by omega,rfl,fun j u v a=>by omega,fun j u n a=>by omega,fun j u a=>by omega,fun v _=>?_⟩;show ws.getD v.toNat 0=0;rw[b,Am4,Ao1 v.toNat_lt];rfl
 |i+1,st,hi,h=>by
  obtain⟨s1,h1,h2⟩:=Option.bind_eq_some_iff.1 h;have ih:=Ng hs hn b (by omega) h1;have c:=(Kp h1).1;exact ih.step (hs.like c) hn (by rw[c.1];omega) h2
end
end Hm
namespace Hm
def J1:List Bool→Arc→Arc→Arc
 |[],_,_=>[]
 |false::r,a,b=>a.headD 0::J1 r a.tail b
 |true::r,a,b=>b.headD 0::J1 r a b.tail
def Ht(bs:List Bool):Nat:=bs.countP (!·)
def ones(bs:List Bool):Nat:=bs.countP id
theorem Sp: ∀(bs:List Bool) (a b:Arc),a.length=Ht bs→b.length=ones bs→ ∀x∈J1 bs a b,x∈a∨x∈b
 |[],_,_,_,_,x,e=>by simp[J1]at e
 |false::r,a,b,f,hb,x,e=>by
  cases a with
  |nil=>simp[Ht]at f
  |cons y t=>
   rw[J1]at e;rcases List.mem_cons.1 e with c|c
   ·exact .inl (by rw[c];exact Anl ..)
   ·rcases Sp r t b (by simpa[Ht]using f) (by simpa[ones]using hb) x c with d|d
    ·exact .inl (Anr _ d)
    ·exact .inr d
 |true::r,a,b,f,hb,x,e=>by
  cases b with
  |nil=>simp[ones]at hb
  |cons y t=>
   rw[J1]at e;rcases List.mem_cons.1 e with c|c
   ·exact .inr (by rw[c];exact Anl ..)
   ·rcases Sp r a t (by simpa[Ht]using f) (by simpa[ones]using hb) x c with d|d
    ·exact .inl d
    ·exact .inr (Anr _ d)
theorem Sq(g:UInt8→Bool): ∀(bs:List Bool) (a b:Arc),a.length=Ht bs→b.length=ones bs→(∀x∈a,g x=false)→(∀x∈b,g x=true)→(J1 bs a b).map g=bs
 |[],_,_,_,_,_,_=>rfl
 |false::r,a,b,d,hb,c,h1=>by
  cases a with
  |nil=>simp[Ht]at d
  |cons y t=>
   rw[J1,Aos,List.tail_cons,Sq g r t b (by simpa[Ht]using d) (by simpa[ones]using hb) (fun x e=>c x (Anr _ e)) h1];rw[show(y::t).headD 0=y from rfl,c y (Anl ..)]
 |true::r,a,b,d,hb,c,h1=>by
  cases b with
  |nil=>simp[ones]at hb
  |cons y t=>
   rw[J1,Aos,List.tail_cons,Sq g r a t (by simpa[Ht]using d) (by simpa[ones]using hb) c (fun x e=>h1 x (Anr _ e))];rw[show(y::t).headD 0=y from rfl,h1 y (Anl ..)]
theorem Ou(g:UInt8→Bool): ∀(bs:List Bool) (a b:Arc),a.length=Ht bs→b.length=ones bs→(∀x∈a,g x=false)→(∀x∈b,g x=true)→(J1 bs a b).filter (fun x=>!g x)=a∧(J1 bs a b).filter g=b
 |[],a,b,c,hb,_,_=>by
  rw[Aob (l:=a) (by simpa[Ht]using c),Aob (l:=b) (by simpa[ones]using hb)];exact⟨rfl,rfl⟩
 |false::r,a,b,c,hb,e,h1=>by
  cases a with
  |nil=>simp[Ht]at c
  |cons y t=>
   obtain⟨i1,i2⟩:=Ou g r t b (by simpa[Ht]using c) (by simpa[ones]using hb) (fun x f=>e x (Anr _ f)) h1;have d:=e y (Anl ..);rw[J1,List.tail_cons,show(y::t).headD 0=y from rfl];constructor
   ·rw[Ao3,d,i1];rfl
   ·rw[Ao3,d,i2];rfl
 |true::r,a,b,c,hb,e,h1=>by
  cases b with
  |nil=>simp[ones]at hb
  |cons y t=>
   obtain⟨i1,i2⟩:=Ou g r a t (by simpa[Ht]using c) (by simpa[ones]using hb) e (fun x f=>h1 x (Anr _ f));have d:=h1 y (Anl ..);rw[J1,List.tail_cons,show(y::t).headD 0=y from rfl];constructor
   ·rw[Ao3,d,i1];rfl
   ·rw[Ao3,d,i2];rfl
def D7(f:Nat→Bool)(s k:Nat):List Bool:=(List.range k).map fun p=>f (s+p)
theorem Hu(f:Nat→Bool)(s k:Nat):(D7 f s k).length=k:=by simp[D7]
theorem Aal(f:Nat→Bool)(s k:Nat):D7 f s (k+1)=D7 f s k++[f (s+k)]:=by simp[D7,List.range_succ]
theorem Sr(f:Nat→Bool)(s:Nat): ∀k,ones (D7 f s k)=rk f (s+k)-rk f s∧Ht (D7 f s k)+ones (D7 f s k)=k
 |0=>by simp[D7,ones,Ht]
 |k+1=>by
  obtain⟨h1,h2⟩:=Sr f s k;have b:=Ln f (Aqv s k);rw[Aal];unfold ones Ht at*;rw[Apd,Apd];have e:rk f (s+(k+1))=rk f (s+k)+(f (s+k)).toNat:=rfl;cases a:f (s+k)with
  |false=>rw[e,a];simp;omega
  |true=>rw[e,a];simp;omega
structure Rep(ln num:UInt8→Nat)(f:Nat→Bool)(nds:List Nd)(col:Arc):Prop where
 siz: ∀n,n<nds.length→(Ab nds n).siz=(Ap ln num nds col n).length
 frm: ∀n,n<nds.length→(Ab nds n).frm=C9 nds n
 bit: ∀n p,n<nds.length→p<(Ab nds n).siz→f ((Ab nds n).frm+p)=decide (At ln num (Ab nds n).depth ((Ap ln num nds col n).getD p 0)=1)
structure Amu(ln num:UInt8→Nat)(o:Arc)(f:Nat→Bool)(nds:List Nd)(C:Nat→Arc)(n:Nat):Prop where
 mem: ∀b∈C n,b∈o∧D9 ln num (Ab nds n) b=true
 bits:(C n).map (fun b=>decide (At ln num (Ab nds n).depth b=1))=D7 f (C9 nds n) (Ab nds n).siz
 sub: ∀u m,u<2→0<m→(Ab nds n).br u={node:=m}→(C n).filter (fun b=>At ln num (Ab nds n).depth b==u)=C m
 leaf: ∀u v,u<2→(Ab nds n).br u={whole:=true,val:=v}→(C n).filter (fun b=>At ln num (Ab nds n).depth b==u)=List.replicate (I4 f nds n u) v
section
variable {M:Nat} {ln num:UInt8→Nat} {o:Arc} {nds:List Nd} {f:Nat→Bool} {total:Nat}
theorem Bo.leaf_code(h:Bo M ln o nds)(hk:Hc M ln num o){j u:Nat}{v:UInt8}(f:j<nds.length)(g:u<2)(e:(Ab nds j).br u={whole:=true,val:=v}):v∈o∧D9 ln num (Ab nds j) v=true∧At ln num (Ab nds j).depth v=u∧ln v=(Ab nds j).depth+1:=by
 cases h.good j u f g with
 |node n h1=>rw[h1]at e;cases e
 |none h1=>rw[h1]at e;cases e
 |leaf k a h1 h2 d=>
  rw[h1]at e;have e1:o.getD k 0=v:=by injection e
  have c:=hk.num k a;rw[←d]at c;have b:=Nat.eq_of_mul_eq_mul_right (App _) c;rw[e1]at h2 b;refine⟨e1▸Pi a,Ana ⟨by omega,?_⟩,?_,h2⟩
  ·rw[h2,b,show(Ab nds j).depth+1-(Ab nds j).depth=1 from by omega];omega
  ·unfold At;rw[h2,b,show(Ab nds j).depth+1-1-(Ab nds j).depth=0 from by omega];omega
theorem Ai6(f:Nat→Bool)(nds:List Nd)(j:Nat):I4 f nds j 1=ones (D7 f (C9 nds j) (Ab nds j).siz)∧I4 f nds j 0=Ht (D7 f (C9 nds j) (Ab nds j).siz):=by
 obtain⟨h1,h2⟩:=Sr f (C9 nds j) (Ab nds j).siz;unfold I4;rw[if_pos rfl,if_neg (by omega)];omega
theorem Zf{st:Bl}(hi:K5 f total nds.length st)(i:st.nds=nds)(h:Bo M ln o nds)(hk:Hc M ln num o): ∀m k,nds.length-k≤m→k≤nds.length→ ∃C:Nat→Arc,∀n,k≤n→n<nds.length→Amu ln num o f nds C n
 |0,k,h1,h2=>⟨fun _=>[],fun n q j=>by omega⟩
 |m+1,k,h1,h2=>by
  by_cases B:k=nds.length
  ·exact⟨fun _=>[],fun n q j=>by omega⟩
  have g:k<nds.length:=by omega
  obtain⟨C,w⟩:=Zf hi i h hk m (k+1) (by omega) (by omega);have Mj: ∀u,u<2→ ∃l:Arc,l.length=I4 f nds k u∧(∀b∈l,b∈o∧D9 ln num (Ab nds k) b=true∧At ln num (Ab nds k).depth b=u)∧(∀n,0<n→(Ab nds k).br u={node:=n}→l=C n)∧(∀v,(Ab nds k).br u={whole:=true,val:=v}→l=List.replicate (I4 f nds k u) v):=by
   intro u a;cases F:h.good k u g a with
   |leaf kk A e q j=>
    refine⟨List.replicate (I4 f nds k u) (o.getD kk 0),by simp,fun b hb=>?_,fun n d e2=>?_,fun v e2=>?_⟩
    ·rw[List.eq_of_mem_replicate hb];obtain⟨q1,q2,q3,_⟩:=h.leaf_code hk g a e;exact⟨q1,q2,q3⟩
    ·rw[e]at e2;cases e2
    ·rw[e]at e2;injection e2 with _ e2;rw[e2]
   |node n e q j y z D E=>
    have p:=w n (by omega) j;have s:=hi.node k u n g a (by omega) (by rw[i];exact e);rw[i]at s;refine⟨C n,?_,fun b hb=>?_,fun n' _ e2=>?_,fun v e2=>?_⟩
    ·have:=congrArg List.length p.bits;rw[Anz,Hu]at this;rw[this,s]
    ·obtain⟨q1,q2⟩:=p.mem b hb;obtain⟨q3,q4⟩:=Oo a y z q2;exact⟨q1,q3,q4⟩
    ·rw[e]at e2;injection e2 with _ _ e2;rw[e2]
    ·rw[e]at e2;cases e2
   |none e q=>
    have d:=hi.none k u g a (by rw[i];exact e);rw[i]at d;refine⟨[],by rw[d];rfl,fun b hb=>by simp at hb,fun n d e2=>?_,fun v e2=>?_⟩
    ·rw[e]at e2;injection e2 with _ _ e2;omega
    ·rw[e]at e2;cases e2
  obtain⟨l0,a1,a2,a3,a4⟩:=Mj 0 (by omega);obtain⟨l1,b1,b2,b3,b4⟩:=Mj 1 (by omega);obtain⟨c1,c0⟩:=Ai6 f nds k;obtain⟨bs,r⟩: ∃bs,bs=D7 f (C9 nds k) (Ab nds k).siz:=⟨_,rfl⟩;rw[←r]at c1 c0;have g0: ∀x∈l0,decide (At ln num (Ab nds k).depth x=1)=false:=fun x t=>by rw[(a2 x t).2.2];rfl
  have g1: ∀x∈l1,decide (At ln num (Ab nds k).depth x=1)=true:=fun x t=>by rw[(b2 x t).2.2];rfl
  have W1:=Sq (fun x=>decide (At ln num (Ab nds k).depth x=1)) bs l0 l1 (by rw[a1,c0]) (by rw[b1,c1]) g0 g1;have W2:=Ou (fun x=>decide (At ln num (Ab nds k).depth x=1)) bs l0 l1 (by rw[a1,c0]) (by rw[b1,c1]) g0 g1;have W3:=Sp bs l0 l1 (by rw[a1,c0]) (by rw[b1,c1]);have flt: ∀(l:Arc) u,u<2→l.filter (fun b=>At ln num (Ab nds k).depth b==u)=l.filter (fun b=>if u=1 then decide (At ln num (Ab nds k).depth b=1)else !decide (At ln num (Ab nds k).depth b=1)):=fun l u a=>by
   refine List.filter_congr fun b _=>?_;have:=Fg ln num (Ab nds k).depth b;rcases(show u=0∨u=1 by omega)with rfl|rfl
   ·rw[if_neg (by omega)];rcases(show At ln num (Ab nds k).depth b=0∨At ln num (Ab nds k).depth b=1 by omega)with e|e<;>rw[e]<;>rfl
   ·rw[if_pos rfl];rcases(show At ln num (Ab nds k).depth b=0∨At ln num (Ab nds k).depth b=1 by omega)with e|e<;>rw[e]<;>rfl
  refine⟨fun n=>if n=k then J1 bs l0 l1 else C n,fun n q j=>?_⟩
  by_cases e:n=k
  ·subst e;refine⟨fun b hb=>?_,?_,fun u m' a d e2=>?_,fun u v a e2=>?_⟩
   ·rw[if_pos rfl]at hb;rcases W3 b hb with c|c
    ·exact⟨(a2 b c).1,(a2 b c).2.1⟩
    ·exact⟨(b2 b c).1,(b2 b c).2.1⟩
   ·rw[if_pos rfl,W1,r]
   ·obtain⟨q1,q2,_⟩:=h.child g a d e2;rw[if_pos rfl,if_neg (by omega),flt _ u a];rcases(show u=0∨u=1 by omega)with rfl|rfl
    ·rw[←a3 m' d e2];simpa using W2.1
    ·rw[←b3 m' d e2];simpa using W2.2
   ·rw[if_pos rfl,flt _ u a];rcases(show u=0∨u=1 by omega)with rfl|rfl
    ·rw[←a4 v e2];simpa using W2.1
    ·rw[←b4 v e2];simpa using W2.2
  ·have p:=w n (by omega) j;refine⟨fun b hb=>?_,?_,fun u m' a d e2=>?_,fun u v a e2=>?_⟩
   ·rw[if_neg e]at hb;exact p.mem b hb
   ·rw[if_neg e];exact p.bits
   ·obtain⟨q1,q2,_⟩:=h.child j a d e2;rw[if_neg e,if_neg (by omega)];exact p.sub u m' a d e2
   ·rw[if_neg e];exact p.leaf u v a e2
theorem Bo.leaf_of(h:Bo M ln o nds)(hk:Hc M ln num o)(a: ∀b∈o,num b<2^ln b)(c: ∀b∈o,0<ln b){v:UInt8}(d:v∈o): ∃j u,j<nds.length∧u<2∧(Ab nds j).br u={whole:=true,val:=v}:=by
 have t:=c v d;obtain⟨n,h1,h2,p⟩:=h.node_of hk a d (ln v-1) (by omega);have l:D9 ln num (Ab nds n) v=true:=Ana ⟨by omega,by rw[h2,p]⟩;refine⟨n,At ln num (Ab nds n).depth v,h1,Fg _ _ _ _,?_⟩;cases h.good n (At ln num (Ab nds n).depth v) h1 (Fg _ _ _ _)with
 |leaf k i g e m=>
  rw[g,←I1 hk d l i e m]
 |node n' g e m q r s=>
  have f:=We hk d l q r s;have:=(Aoc f).1;omega
 |none g e=>exact(I2 hk d l e).elim
theorem Vs{st:Bl}(hi:K5 f total nds.length st)(a:st.nds=nds)(h:Bo M ln o nds)(hk:Hc M ln num o)(l: ∀b∈o,num b<2^ln b)(r: ∀b∈o,0<ln b):
  ∃col:Arc,col.length=total∧(∀b∈col,b∈o)∧Rep ln num f nds col∧ ∀v:UInt8,st.ws.getD v.toNat 0=col.count v:=by
 obtain⟨C,i⟩:=Zf hi a h hk nds.length 0 (by omega) (by omega);have k:=i 0 (Ane _) h.more;have c: ∀b∈C 0,b∈o:=fun b hb=>(k.mem b hb).1;have len: ∀n,n<nds.length→(C n).length=(Ab nds n).siz:=fun n hn=>by
  have:=congrArg List.length (i n (Ann _) hn).bits;rwa[Anz,Hu]at this
 have key: ∀m n,n≤m→n<nds.length→Ap ln num nds (C 0) n=C n:=by
  intro m;induction m with
  |zero=>
   intro n hn s;obtain rfl:n=0:=by omega
   unfold Ap;exact List.filter_eq_self.2 fun b hb=>(k.mem b hb).2
  |succ m ih=>
   intro n hn s
   by_cases e:n=0
   ·exact ih n (by omega) s
   ·obtain⟨j,u,d,g,ej⟩:=h.par n (by omega) s;rw[h.col_child hk c (by omega) d (by omega) ej,ih j (by omega) (by omega)];exact(i j (Ann _) (by omega)).sub u n d (by omega) ej
 refine⟨C 0,?_,c,⟨fun n hn=>?_,fun n hn=>?_,fun n p hn x=>?_⟩,fun v=>?_⟩
 ·rw[len 0 h.more,←a];exact hi.root
 ·rw[key n n (Ane _) hn,len n hn]
 ·have:=hi.frm n hn;rwa[a]at this
 ·have w:=hi.frm n hn;rw[a]at w;rw[key n n (Ane _) hn,w];have hb:=(i n (Ann _) hn).bits;have e1:((C n).map (fun b=>decide (At ln num (Ab nds n).depth b=1)))[p]?=(D7 f (C9 nds n) (Ab nds n).siz)[p]?:=by rw[hb]
  have q:p<(C n).length:=by rw[len n hn];exact x
  rw[An2,Am5 q]at e1;unfold D7 at e1;rw[An2,Ao2 x]at e1;rw[Am4,Am5 q];exact(An0 e1).symm
 ·by_cases t:v∈o
  ·obtain⟨j,u,g,d,e⟩:=h.leaf_of hk l r t;obtain⟨_,q2,q3,_⟩:=h.leaf_code hk g d e;have h1:=hi.leaf j u v g d (by rw[a];exact e);rw[a]at h1;have h2:=(i j (Ann _) g).leaf u v d e;rw[h1];have y:(C 0).count v=((C j).filter (fun b=>At ln num (Ab nds j).depth b==u)).count v:=by
    rw[←key j j (Ane _) g,List.count_filter (by rw[q3];exact Aqa u)];unfold Ap;rw[List.count_filter q2]
   rw[y,h2,List.count_replicate_self]
  ·have A:(C 0).count v=0:=List.count_eq_zero.2 fun z=>t (c v z);rw[A];refine hi.rest v fun j u g d e=>?_;rw[a]at e;exact t (h.leaf_code hk g d e).1
end
end Hm
namespace Hm
section
variable {M:Nat} {ln num:UInt8→Nat} {o:Arc} {nds:List Nd} {f:Nat→Bool} {col:Arc}
def Mj(ln num:UInt8→Nat)(nds:List Nd)(l:Arc)(n u:Nat):Nat:=(l.filter fun b=>At ln num (Ab nds n).depth b==u).length
theorem Abw(ln num:UInt8→Nat)(nds:List Nd)(n:Nat): ∀l:Arc,Mj ln num nds l n 0+Mj ln num nds l n 1=l.length
 |[]=>rfl
 |b::r=>by
  have ih:=Abw ln num nds n r;have:=Fg ln num (Ab nds n).depth b;unfold Mj at*;rcases(show At ln num (Ab nds n).depth b=0∨At ln num (Ab nds n).depth b=1 by omega)with e|e
  ·rw[Ao3,Ao3,e];simp;omega
  ·rw[Ao3,Ao3,e];simp;omega
theorem Ako(ln num:UInt8→Nat)(nds:List Nd)(n:Nat)(l:Arc):ones (l.map fun b=>decide (At ln num (Ab nds n).depth b=1))=Mj ln num nds l n 1:=by
 unfold ones Mj;rw[List.countP_map,Apv];congr 1
theorem Uq(ln num:UInt8→Nat)(nds:List Nd)(col:Arc){N i p:Nat}(hi:i<N)(a:p<(Ap ln num nds col i).length):
  (Az ln num nds col N).getD ((Az ln num nds col i).length+p) 0=At ln num (Ab nds i).depth ((Ap ln num nds col i).getD p 0)∧(Az ln num nds col i).length+p<(Az ln num nds col N).length:=by
 have key: ∃r,Az ln num nds col N=Az ln num nds col (i+1)++r:=by
  clear a;induction N with
  |zero=>omega
  |succ N ih=>
   by_cases e:i=N
   ·subst e;exact⟨[],by simp⟩
   ·obtain⟨r,b⟩:=ih (by omega);exact⟨r++Hd ln num nds col N,by rw[Fc,b,An4]⟩
 obtain⟨r,b⟩:=key;have c:(Hd ln num nds col i).length=(Ap ln num nds col i).length:=by simp[Hd]
 rw[b,Fc];constructor
 ·rw[Am4,An4,Ans (by omega),Ap8,An6 (by omega)];unfold Hd;rw[An2,Am5 a,Am4,Am5 a];rfl
 ·simp only[Anf];omega
structure Abx(ln num:UInt8→Nat)(nds:List Nd)(col:Arc)(i:Nat)(st:Bl):Prop where
 like:I3 st.nds nds
 len:st.len=(Az ln num nds col i).length
 siz: ∀n,n<nds.length→(n=0∨ ∃j u,j<i∧u<2∧(Ab nds j).br u={node:=n})→(Ab st.nds n).siz=(Ap ln num nds col n).length
 st: ∀j,j≤i→C9 st.nds j=(Az ln num nds col j).length
theorem Akp{LB i:Nat}{st:Bl}(h:Bo M ln o nds)(hk:Hc M ln num o)(H: ∀b∈col,b∈o)(hi:i<nds.length)(g:Abx ln num nds col i st)(J: ∀k,k<(Az ln num nds col nds.length).length→f k=decide ((Az ln num nds col nds.length).getD k 0=1))(I:(Az ln num nds col nds.length).length≤LB):
  ∃st',Hl f LB i st=some st'∧Abx ln num nds col (i+1) st':=by
 have A:(Ab st.nds i).siz=(Ap ln num nds col i).length:=by
  refine g.siz i hi ?_
  by_cases e:i=0
  ·exact .inl e
  ·obtain⟨j,u,h1,h2,B⟩:=h.par i (by omega) hi;exact .inr ⟨j,u,h2,h1,B⟩
 have z:(Az ln num nds col (i+1)).length=st.len+(Ab st.nds i).siz:=by
  rw[Fc,Anf,←g.len,A];simp[Hd]
 have K:(Az ln num nds col (i+1)).length≤(Az ln num nds col nds.length).length:=by
  have: ∀m,i+1≤m→(Az ln num nds col (i+1)).length≤(Az ln num nds col m).length:=by
   intro m P;induction m with
   |zero=>omega
   |succ m ih=>
    by_cases e:i=m
    ·subst e;exact Ane _
    ·have:=ih (by omega);rw[Fc ln num nds col m,Anf];omega
  exact this _ hi
 have hpb:D7 f st.len (Ab st.nds i).siz=(Ap ln num nds col i).map fun b=>decide (At ln num (Ab nds i).depth b=1):=by
  apply Aon
  ·rw[Hu,Anz,A]
  ·intro p h1 h2;rw[Hu]at h1;have C:p<(Ap ln num nds col i).length:=by omega
   obtain⟨q1,q2⟩:=Uq ln num nds col hi C;have e0:(D7 f st.len (Ab st.nds i).siz)[p]?=some (f (st.len+p)):=by
    unfold D7;rw[An2,Ao2 h1];rfl
   rw[Am5 (by rw[Hu];exact h1)]at e0;rw[An0 e0,Aqb,g.len,J _ q2,q1,Am4,Am5 C];rfl
 obtain⟨o1,o2⟩:=Sr f st.len (Ab st.nds i).siz;rw[hpb,Ako]at o1;have eon:Jj f st i=Mj ln num nds (Ap ln num nds col i) i 1:=o1.symm;have L:=Abw ln num nds i (Ap ln num nds col i);have eze:(Ab st.nds i).siz-Jj f st i=Mj ln num nds (Ap ln num nds col i) i 0:=by omega
 have give: ∀u,u<2→ ∀s:Bl,I3 s.nds nds→ ∃s',Dx ((Ab nds i).br u) (Mj ln num nds (Ap ln num nds col i) i u) s=some s':=by
  intro u l s _;unfold Dx;cases h.good i u hi l with
  |leaf kk w e=>rw[e];exact⟨_,if_pos rfl⟩
  |node n e h1=>rw[e];exact⟨_,(if_neg (by simp)).trans (if_pos (by show 0<n;omega))⟩
  |none e h2=>
   rw[e];refine⟨s,(if_neg (by simp)).trans ((if_neg (by simp)).trans (if_pos ?_))⟩;unfold Mj;rw[List.length_eq_zero_iff,List.filter_eq_nil_iff];intro b hb N;have t:=List.mem_filter.1 hb;have E:At ln num (Ab nds i).depth b=u:=by simpa using N
   refine I2 hk (H b t.1) t.2 ?_;rw[E];exact h2
 have like1:=g.like.2 i;have b0e:(Ab st.nds i).b0=(Ab nds i).br 0:=like1.2.2.1;have b1e:(Ab st.nds i).b1=(Ab nds i).br 1:=like1.2.2.2;obtain⟨s1,h1⟩:=give 0 (by omega) ⟨st.len+(Ab st.nds i).siz,Ea st.nds i st.len,st.ws⟩ ((Ot _ _ _).trans g.like);have l1:=Ih h1;obtain⟨s2,h2⟩:=give 1 (by omega) s1 (l1.1.trans ((Ot _ _ _).trans g.like));have l2:=Ih h2;have a:=Kq h1;have b:=Kq h2;have q:Hl f LB i st=some s2:=by
  unfold Hl;rw[if_neg (by omega),eze,eon,b0e,b1e,h1];exact h2
 refine⟨s2,q,?_⟩;have lk:=Ly q;have D:i<st.nds.length:=by rw[g.like.1];exact hi
 have n1l:s1.nds.length=nds.length:=(l1.1.trans ((Ot _ _ _).trans g.like)).1;have frm0: ∀j,(Ab (Ea st.nds i st.len) j).siz=(Ab st.nds j).siz:=fun j=>by rw[Nf _ _ _ _ D];split<;>rfl
 have szs: ∀n,n<nds.length→(∀u,u<2→(Ab nds i).br u≠{node:=n}∨n=0)→(Ab s2.nds n).siz=(Ab st.nds n).siz:=by
  intro n hn r;have other: ∀u,u<2→((Ab nds i).br u).whole=true∨n≠((Ab nds i).br u).node∨((Ab nds i).br u).node=0:=by
   intro u l;cases h.good i u hi l with
   |leaf kk w e=>rw[e];exact .inl rfl
   |node m e B=>
    rcases r u l with c|c
    ·rw[e]at c⊢;right;left;intro x;subst x;exact c rfl
    ·rw[e];right;left;show n≠m;omega
   |none e=>rw[e];exact .inr (.inr rfl)
  rw[b.other n (other 1 (by omega)),a.other n (other 0 (by omega))];exact frm0 n
 have hit: ∀u n,u<2→0<n→(Ab nds i).br u={node:=n}→(Ab s2.nds n).siz=(Ap ln num nds col n).length:=by
  intro u n l d e;obtain⟨q1,q2,_⟩:=h.child hi l d e;have ecol:(Ap ln num nds col n).length=Mj ln num nds (Ap ln num nds col i) i u:=by rw[h.col_child hk H hi l d e];rfl
  rcases(show u=0∨u=1 by omega)with rfl|rfl
  ·have hb:((Ab nds i).br 1).whole=true∨n≠((Ab nds i).br 1).node∨((Ab nds i).br 1).node=0:=by
    cases h.good i 1 hi (by omega)with
    |leaf kk w e1=>rw[e1];exact .inl rfl
    |node m e1 B=>
     rw[e1];right;left;intro x;have x':n=m:=x;subst x';have:=h.parent hi (by omega) hi (by omega) d e e1;omega
    |none e1=>rw[e1];exact .inr (.inr rfl)
   rw[b.other n hb];have:=a.hit (by rw[e]) (by rw[e];exact d) (by rw[e];show n<(Ea st.nds i st.len).length;rw[Gu,g.like.1];exact q2);rw[e]at this;rw[this,ecol]
  ·have:=b.hit (by rw[e]) (by rw[e];exact d) (by rw[e];show n<_;omega);rw[e]at this;rw[this,ecol]
 refine⟨lk.1.trans g.like,by rw[lk.2.1,z],fun n hn C=>?_,fun j O=>?_⟩
 ·by_cases c: ∃u,u<2∧(Ab nds i).br u={node:=n}∧0<n
  ·obtain⟨u,l,e,d⟩:=c;exact hit u n l d e
  ·have r: ∀u,u<2→(Ab nds i).br u≠{node:=n}∨n=0:=fun u l=>by
    rcases Aqi n with x|x
    ·exact .inr x
    ·exact .inl fun e=>c ⟨u,l,e,x⟩
   rw[szs n hn r];refine g.siz n hn ?_;rcases C with x|⟨j,u,B,F,G⟩
   ·exact .inl x
   ·by_cases e:j=i
    ·subst e;rcases r u F with y|y
     ·exact absurd G y
     ·exact .inl y
    ·exact .inr ⟨j,u,by omega,F,G⟩
 ·have low: ∀k,k<i+1→(Ab s2.nds k).siz=(Ab st.nds k).siz:=fun k v=>szs k (by omega) fun u l=>by
   rcases Aqi k with x|x
   ·exact .inr x
   ·refine .inl fun e=>?_;have:=(h.child hi l x e).1;omega
  by_cases e:j=i+1
  ·subst e;rw[C9,Jk (b:=st.nds) (fun k v=>low k (by omega)),low i (by omega),g.st i (Ane _),←g.len,z]
  ·rw[Jk (b:=st.nds) (fun k v=>low k (by omega))];exact g.st j (by omega)
theorem Aby{LB:Nat}{ws:Ard}(h:Bo M ln o nds)(hk:Hc M ln num o)(e: ∀b∈col,b∈o)(c: ∀b∈o,0<ln b)(a: ∀b∈o,num b<2^ln b)(g: ∀k,k<(Az ln num nds col nds.length).length→f k=decide ((Az ln num nds col nds.length).getD k 0=1))(d:(Az ln num nds col nds.length).length≤LB):
  ∀i,i≤nds.length→ ∃st,Hs f LB nds col.length ws i=some st∧Abx ln num nds col i st
 |0,_=>by
  refine⟨_,rfl,Vr _ _ _,rfl,fun n hn p=>?_,fun j q=>?_⟩
  ·rcases p with x|⟨j,u,h1,_⟩
   ·subst x;show(Ab (E4 nds 0 col.length) 0).siz=_;rw[Lp _ _ _ _ h.more,if_pos rfl];unfold Ap;rw[List.filter_eq_self.2];intro b hb;refine Ana ⟨by rw[h.root.1];exact c b (e b hb),?_⟩;rw[h.root.1,h.root.2,Aqp];exact Nat.div_eq_of_lt (a b (e b hb))
   ·omega
  ·obtain rfl:j=0:=by omega
   rfl
 |i+1,hi=>by
  obtain⟨st,h1,h2⟩:=Aby (ws:=ws) h hk e c a g d i (by omega);obtain⟨st',l,m⟩:=Akp h hk e (by omega) h2 g d;exact⟨st',by rw[Hs,h1];exact l,m⟩
theorem Ag1{a b:Nd}(h:Wf a b):D9 ln num a=D9 ln num b:=by
 funext x;unfold D9;rw[h.1,h.2.1]
theorem Wh{nds':List Nd}(h:I3 nds' nds)(n:Nat):Ap ln num nds' col n=Ap ln num nds col n:=by
 unfold Ap;rw[Ag1 (h.2 n)]
theorem Amc{LB:Nat}(h:Bo M ln o nds)(hn:o.Nodup)(hk:Hc M ln num o)(E: ∀b∈col,b∈o)(B: ∀b∈o,0<ln b)(A: ∀b∈o,num b<2^ln b)(T: ∀k,k<(Az ln num nds col nds.length).length→f k=decide ((Az ln num nds col nds.length).getD k 0=1))(L:(Az ln num nds col nds.length).length≤LB):
  ∃st,Oq f LB nds col.length (List.replicate 256 0)=some st∧st.len=(Az ln num nds col nds.length).length∧I3 st.nds nds∧Rep ln num f st.nds col∧ ∀v:UInt8,st.ws.getD v.toNat 0=col.count v:=by
 obtain⟨st,h1,h2⟩:=Aby (ws:=List.replicate 256 0) h hk E B A T L nds.length (Ane _);have hi:=Ng h hn rfl (Ane _) h1;have d:=h2.like;have sizes: ∀n,n<nds.length→(Ab st.nds n).siz=(Ap ln num nds col n).length:=fun n z=>by
  refine h2.siz n z ?_
  by_cases e:n=0
  ·exact .inl e
  ·obtain⟨j,u,q1,q2,q3⟩:=h.par n (by omega) z;exact .inr ⟨j,u,by omega,q1,q3⟩
 have w:=h.like d;have rep:Rep ln num f st.nds col:=by
  refine⟨fun n z=>?_,fun n z=>hi.frm n (by rw[d.1]at z;exact z),fun n p z O=>?_⟩
  ·rw[d.1]at z;rw[Wh d,sizes n z]
  ·rw[d.1]at z;rw[sizes n z]at O;obtain⟨q1,q2⟩:=Uq ln num nds col z O;rw[hi.frm n z,h2.st n (by omega),T _ q2,q1,Wh d,(d.2 n).1]
 refine⟨st,h1,h2.len,d,rep,fun v=>?_⟩;have J:K5 f col.length st.nds.length st:=by rw[d.1];exact hi
 obtain⟨col',c1,c2,c3,c4⟩:=Vs J rfl w hk A B;have same: ∀m n,nds.length-n≤m→n<nds.length→Ap ln num st.nds col n=Ap ln num st.nds col' n:=by
  intro m;induction m with
  |zero=>intro n V R;omega
  |succ m ih=>
   intro n V R;have i:n<st.nds.length:=by rw[d.1];exact R
   have lens:(Ap ln num st.nds col n).length=(Ap ln num st.nds col' n).length:=by rw[←rep.siz n i,←c3.siz n i]
   have sub: ∀(c:Arc) (_: ∀b∈c,b∈o) u,u<2→(∀m',0<m'→(Ab st.nds n).br u={node:=m'}→(Ap ln num st.nds c n).filter (fun b=>At ln num (Ab st.nds n).depth b==u)=Ap ln num st.nds c m')∧(∀v,(Ab st.nds n).br u={whole:=true,val:=v}→ ∀b∈(Ap ln num st.nds c n).filter (fun b=>At ln num (Ab st.nds n).depth b==u),b=v):=by
    intro c s u C;refine⟨fun m' N e=>(w.col_child hk s i C N e).symm,fun v e b hb=>?_⟩;obtain⟨q1,q2⟩:=List.mem_filter.1 hb;obtain⟨q3,q4⟩:=List.mem_filter.1 q1;have q5:At ln num (Ab st.nds n).depth b=u:=by simpa using q2
    cases w.good n u i C with
    |leaf kk G e1 e2 e3=>
     rw[e1]at e;have ev:o.getD kk 0=v:=by injection e
     rw[←ev];exact I1 hk (s b q3) q4 G e2 (by rw[q5];exact e3)
    |node _ e1=>rw[e1]at e;cases e
    |none e1=>rw[e1]at e;cases e
   apply Aon lens;intro p W X;have O:p<(Ab st.nds n).siz:=by rw[rep.siz n i];exact W
   have bits:(Ap ln num st.nds col n).map (fun b=>At ln num (Ab st.nds n).depth b)=(Ap ln num st.nds col' n).map (fun b=>At ln num (Ab st.nds n).depth b):=by
    apply Aon
    ·rw[Anz,Anz,lens]
    ·intro q K S;rw[Anz]at K S;have U:q<(Ab st.nds n).siz:=by rw[rep.siz n i];exact K
     have e1:=rep.bit n q i U;have e2:=c3.bit n q i U;rw[e1,decide_eq_decide,Am4,Am5 K,Am4,Am5 S]at e2;rw[Aqb,Aqb];have b1:=Fg ln num (Ab st.nds n).depth (Ap ln num st.nds col n)[q];have b2:=Fg ln num (Ab st.nds n).depth (Ap ln num st.nds col' n)[q];have e3:At ln num (Ab st.nds n).depth (Ap ln num st.nds col n)[q]=1↔At ln num (Ab st.nds n).depth (Ap ln num st.nds col' n)[q]=1:=e2;omega
   have rank: ∀(a b:Arc) (g:UInt8→Nat),a.map g=b.map g→(∀u,a.filter (fun x=>g x==u)=b.filter (fun x=>g x==u))→a=b:=by
    intro a;induction a with
    |nil=>intro b g e _;cases b with
     |nil=>rfl
     |cons y t=>simp at e
    |cons x r ihr=>
     intro b g e F;cases b with
     |nil=>simp at e
     |cons y t=>
      rw[Aos,Aos]at e;injection e with e1 e2;have Q:=F (g x);rw[Ao3,Ao3,e1,if_pos (Aqa _),if_pos (Aqa _)]at Q;injection Q with I _;subst I;congr 1;refine ihr t g e2 fun u=>?_;have h1:=F u;rw[Ao3,Ao3]at h1;split at h1
      ·injection h1
      ·exact h1
   have fl: ∀u,(Ap ln num st.nds col n).filter (fun b=>At ln num (Ab st.nds n).depth b==u)=(Ap ln num st.nds col' n).filter (fun b=>At ln num (Ab st.nds n).depth b==u):=by
    intro u
    by_cases C:u<2
    ·have ln1:((Ap ln num st.nds col n).filter (fun b=>At ln num (Ab st.nds n).depth b==u)).length=((Ap ln num st.nds col' n).filter (fun b=>At ln num (Ab st.nds n).depth b==u)).length:=by
      have cp: ∀l:Arc,(l.filter (fun b=>At ln num (Ab st.nds n).depth b==u)).length=(l.map (fun b=>At ln num (Ab st.nds n).depth b)).countP (· ==u):=fun l=>by
       rw[List.countP_map,Apv];rfl
      rw[cp,cp,bits]
     cases Y:w.good n u i C with
     |leaf kk G e1=>
      have r1:=(sub col E u C).2 _ e1;have r2:=(sub col' c2 u C).2 _ e1;rw[List.eq_replicate_of_mem r1,List.eq_replicate_of_mem r2,ln1]
     |node m' e1 q1 q2=>
      rw[(sub col E u C).1 m' (by omega) e1,(sub col' c2 u C).1 m' (by omega) e1];rw[d.1]at q2;exact ih m' (by omega) q2
     |none e1 q1=>
      have em: ∀(c:Arc) (_: ∀b∈c,b∈o),(Ap ln num st.nds c n).filter (fun b=>At ln num (Ab st.nds n).depth b==u)=[]:=by
       intro c s;rw[List.filter_eq_nil_iff];intro b hb P;have D:=List.mem_filter.1 hb;have H:At ln num (Ab st.nds n).depth b=u:=by simpa using P
       refine I2 hk (s b D.1) D.2 ?_;rw[H];exact q1
      rw[em col E,em col' c2]
    ·have em: ∀l:Arc,l.filter (fun b=>At ln num (Ab st.nds n).depth b==u)=[]:=fun l=>by
      rw[List.filter_eq_nil_iff];intro b _ P;have H:At ln num (Ab st.nds n).depth b=u:=by simpa using P
      have:=Fg ln num (Ab st.nds n).depth b;omega
     rw[em,em]
   have:=rank _ _ _ bits fl;simp only[this]
 have root: ∀c:Arc,(∀b∈c,b∈o)→Ap ln num st.nds c 0=c:=fun c s=>by
  unfold Ap;refine List.filter_eq_self.2 fun b hb=>Ana ⟨by rw[w.root.1];exact B b (s b hb),?_⟩;rw[w.root.1,w.root.2,Aqp];exact Nat.div_eq_of_lt (A b (s b hb))
 have e:=same nds.length 0 (by omega) h.more;rw[root col E,root col' c2]at e;rw[c4 v,e]
end
end Hm
end Go.Proofs.YtegnkfdbmmndaaaGreat
