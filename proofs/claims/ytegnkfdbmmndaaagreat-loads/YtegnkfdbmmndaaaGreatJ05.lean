import Derived.Test.YtegnkfdbmmndaaaGreatJ00
import Derived.Test.YtegnkfdbmmndaaaGreatJ03
import Derived.Test.YtegnkfdbmmndaaaGreatJ04

namespace Go.Proofs.YtegnkfdbmmndaaaGreat
open Hm
namespace Hm
def Es(nds:List Nd)(n s:Nat):List Nd:=nds.set n {Ab nds n with siz:=s}
def D2(nds:List Nd)(n s:Nat):List Nd:=nds.set n {Ab nds n with frm:=s}
structure B0 where
 len:Nat
 nds:List Nd
 ws:List Nat
def Dm(b:Br)(size:Nat)(st:B0):Option B0:=
 if b.whole then some {st with ws:=st.ws.set b.val.toNat size}
 else if 0<b.node then some {st with nds:=Es st.nds b.node size}
 else if size=0 then some st else none
def I5(f:Nat→Bool)(st:B0)(i:Nat):Nat:=rk f (st.len+(Ab st.nds i).siz)-rk f st.len
def He(f:Nat→Bool)(LB i:Nat)(st:B0):Option B0:=
 if LB<st.len+(Ab st.nds i).siz then none
 else(Dm (Ab st.nds i).b0 ((Ab st.nds i).siz-I5 f st i) ⟨st.len+(Ab st.nds i).siz,D2 st.nds i st.len,st.ws⟩).bind (Dm (Ab st.nds i).b1 (I5 f st i))
def Hj(f:Nat→Bool)(LB:Nat)(nds:List Nd)(total:Nat)(ws:List Nat):Nat→Option B0
 |0=>some ⟨0,Es nds 0 total,ws⟩
 |i+1=>(Hj f LB nds total ws i).bind (He f LB i)
def Nn(f:Nat→Bool)(LB:Nat)(nds:List Nd)(total:Nat)(ws:List Nat):Option B0:=Hj f LB nds total ws nds.length
theorem Mx(nds:List Nd)(n s:Nat):(Es nds n s).length=nds.length:=by simp[Es]
theorem Ge(nds:List Nd)(n s:Nat):(D2 nds n s).length=nds.length:=by simp[D2]
theorem K7(nds:List Nd)(n s j:Nat)(h:n<nds.length):Ab (Es nds n s) j=if n=j then{Ab nds j with siz:=s}else Ab nds j:=by
 unfold Es
 by_cases e:n=j
 ·subst e;rw[if_pos rfl,Gd _ _ _ h]
 ·rw[if_neg e,Ia _ _ _ _ e]
theorem Mk(nds:List Nd)(n s j:Nat)(h:n<nds.length):Ab (D2 nds n s) j=if n=j then{Ab nds j with frm:=s}else Ab nds j:=by
 unfold D2
 by_cases e:n=j
 ·subst e;rw[if_pos rfl,Gd _ _ _ h]
 ·rw[if_neg e,Ia _ _ _ _ e]
def Vn(a b:Nd):Prop:=a.depth=b.depth∧a.num=b.num∧a.b0=b.b0∧a.b1=b.b1
def Iw(a b:List Nd):Prop:=a.length=b.length∧ ∀j,Vn (Ab a j) (Ab b j)
theorem Iw.refl(a:List Nd):Iw a a:=⟨rfl,fun _=>⟨rfl,rfl,rfl,rfl⟩⟩
theorem Iw.trans{a b c:List Nd}(h:Iw a b)(k:Iw b c):Iw a c:=
 ⟨h.1.trans k.1,fun j=>⟨(h.2 j).1.trans (k.2 j).1,(h.2 j).2.1.trans (k.2 j).2.1,(h.2 j).2.2.1.trans (k.2 j).2.2.1,(h.2 j).2.2.2.trans (k.2 j).2.2.2⟩⟩
theorem Uy(nds:List Nd)(n s:Nat):Iw (Es nds n s) nds:=by
 refine⟨Mx _ _ _,fun j=>?_⟩
 by_cases h:n<nds.length
 ·rw[K7 _ _ _ _ h];split<;>exact⟨rfl,rfl,rfl,rfl⟩
 ·unfold Es;rw[Aoq (by omega)];exact⟨rfl,rfl,rfl,rfl⟩
theorem No(nds:List Nd)(n s:Nat):Iw (D2 nds n s) nds:=by
 refine⟨Ge _ _ _,fun j=>?_⟩
 by_cases h:n<nds.length
 ·rw[Mk _ _ _ _ h];split<;>exact⟨rfl,rfl,rfl,rfl⟩
 ·unfold D2;rw[Aoq (by omega)];exact⟨rfl,rfl,rfl,rfl⟩
theorem Ib{b:Br}{size:Nat}{st st':B0}(h:Dm b size st=some st'):Iw st'.nds st.nds∧st'.len=st.len∧st'.ws.length=st.ws.length:=by
 unfold Dm at h;split at h
 ·cases h;exact⟨Iw.refl _,rfl,by simp⟩
 ·split at h
  ·cases h;exact⟨Uy _ _ _,rfl,rfl⟩
  ·split at h
   ·cases h;exact⟨Iw.refl _,rfl,rfl⟩
   ·cases h
theorem Lj{f:Nat→Bool}{LB i:Nat}{st st':B0}(h:He f LB i st=some st'):Iw st'.nds st.nds∧st'.len=st.len+(Ab st.nds i).siz∧st'.len≤LB∧st'.ws.length=st.ws.length:=by
 unfold He at h;split at h
 ·cases h
 ·rename_i hn;obtain⟨s1,h1,h2⟩:=Option.bind_eq_some_iff.1 h;have a:=Ib h1;have b:=Ib h2;have el:st'.len=st.len+(Ab st.nds i).siz:=b.2.1.trans a.2.1;exact⟨b.1.trans (a.1.trans (No _ _ _)),el,by omega,b.2.2.trans a.2.2⟩
theorem Lk{f:Nat→Bool}{LB:Nat}{nds:List Nd}{total:Nat}{ws:List Nat}: ∀{i:Nat} {st:B0},Hj f LB nds total ws i=some st→Iw st.nds nds∧st.ws.length=ws.length
 |0,st,h=>by cases h;exact⟨Uy _ _ _,rfl⟩
 |i+1,st,h=>by
  obtain⟨s1,h1,h2⟩:=Option.bind_eq_some_iff.1 h;have a:=Lk h1;have b:=Lj h2;exact⟨b.1.trans a.1,b.2.2.2.trans a.2⟩
theorem Vo{b:Br}{size T:Nat}{st st':B0}(h:Dm b size st=some st')(hs:size≤T)(hT: ∀j,(Ab st.nds j).siz≤T): ∀j,(Ab st'.nds j).siz≤T:=by
 unfold Dm at h;split at h
 ·cases h;exact hT
 ·split at h
  ·cases h;intro j;show(Ab (Es st.nds b.node size) j).siz≤T
   by_cases hn:b.node<st.nds.length
   ·rw[K7 _ _ _ _ hn];split
    ·exact hs
    ·exact hT j
   ·unfold Es;rw[Aoq (by omega)];exact hT j
  ·split at h
   ·cases h;exact hT
   ·cases h
theorem Ri(f:Nat→Bool)(st:B0)(i:Nat):I5 f st i≤(Ab st.nds i).siz:=by
 unfold I5;have:=Xf f (Apa st.len (Ab st.nds i).siz);omega
theorem Ac5{f:Nat→Bool}{LB i T:Nat}{st st':B0}(h:He f LB i st=some st')(hT: ∀j,(Ab st.nds j).siz≤T): ∀j,(Ab st'.nds j).siz≤T:=by
 unfold He at h;split at h
 ·cases h
 ·obtain⟨s1,h1,h2⟩:=Option.bind_eq_some_iff.1 h;have ho:=Ri f st i;have hi:=hT i;have h0: ∀j,(Ab (D2 st.nds i st.len) j).siz≤T:=fun j=>by
   by_cases hn:i<st.nds.length
   ·rw[Mk _ _ _ _ hn];split
    ·exact hT j
    ·exact hT j
   ·unfold D2;rw[Aoq (by omega)];exact hT j
  exact Vo h2 (by omega) (Vo h1 (by omega) h0)
theorem Yl{f:Nat→Bool}{LB:Nat}{nds:List Nd}{total:Nat}{ws:List Nat}(h0: ∀j,(Ab nds j).siz≤total): ∀{i:Nat} {st:B0},Hj f LB nds total ws i=some st→ ∀j,(Ab st.nds j).siz≤total
 |0,st,h=>by
  cases h;intro j;show(Ab (Es nds 0 total) j).siz≤total
  by_cases hn:0<nds.length
  ·rw[K7 _ _ _ _ hn];split
   ·exact Ale _
   ·exact h0 j
  ·unfold Es;rw[Aoq (by omega)];exact h0 j
 |i+1,st,h=>by
  obtain⟨s1,h1,h2⟩:=Option.bind_eq_some_iff.1 h;exact Ac5 h2 (Yl h0 h1)
theorem K8{f:Nat→Bool}{LB:Nat}{nds:List Nd}{total:Nat}{ws:List Nat}: ∀{i:Nat} {st:B0},Hj f LB nds total ws i=some st→st.len≤LB
 |0,st,h=>by cases h;exact Alr _
 |i+1,st,h=>by
  obtain⟨s1,_,h2⟩:=Option.bind_eq_some_iff.1 h;exact(Lj h2).2.2.1
end Hm
namespace Hm
def C3(nds:List Nd):Nat→Nat
 |0=>0
 |j+1=>C3 nds j+(Ab nds j).siz
def Ix(f:Nat→Bool)(nds:List Nd)(j u:Nat):Nat:=
 if u=1 then rk f (C3 nds j+(Ab nds j).siz)-rk f (C3 nds j)else(Ab nds j).siz-(rk f (C3 nds j+(Ab nds j).siz)-rk f (C3 nds j))
theorem I6{a b:List Nd}: ∀{j:Nat},(∀k,k<j→(Ab a k).siz=(Ab b k).siz)→C3 a j=C3 b j
 |0,_=>rfl
 |j+1,h=>by rw[C3,C3,I6 (fun k hk=>h k (by omega)),h j (by omega)]
theorem Aff{f:Nat→Bool}{a b:List Nd}{j u:Nat}(h: ∀k,k≤j→(Ab a k).siz=(Ab b k).siz):Ix f a j u=Ix f b j u:=by
 unfold Ix;rw[I6 (a:=a) (b:=b) (fun k hk=>h k (by omega)),h j (Ale _)]
structure Aiz(b:Br)(size:Nat)(st st':B0):Prop where
 len:st'.len=st.len
 other: ∀j,(b.whole=true∨j≠b.node∨b.node=0)→Ab st'.nds j=Ab st.nds j
 hit:b.whole=false→0<b.node→b.node<st.nds.length→Ab st'.nds b.node={Ab st.nds b.node with siz:=size}
 ws: ∀v:UInt8,¬(b.whole=true∧v=b.val)→st'.ws.getD v.toNat 0=st.ws.getD v.toNat 0
 wsHit:b.whole=true→st.ws.length=256→st'.ws.getD b.val.toNat 0=size
 none:b.whole=false→b.node=0→size=0
theorem Ahc(l:List Nat)(i j x:Nat)(h:i<l.length):(l.set i x).getD j 0=if i=j then x else l.getD j 0:=by
 rw[Ak6,List.getElem?_set]
 by_cases e:i=j
 ·rw[if_pos e,if_pos e,if_pos h];rfl
 ·rw[if_neg e,if_neg e,←Ak6]
theorem Aa0(l:List Nat)(i j x:Nat)(h:i≠j):(l.set i x).getD j 0=l.getD j 0:=by
 rw[Ak6,Aoh h,←Ak6]
theorem Kb{b:Br}{size:Nat}{st st':B0}(h:Dm b size st=some st'):Aiz b size st st':=by
 unfold Dm at h
 by_cases hw:b.whole=true
 ·rw[if_pos hw]at h;cases h;refine⟨rfl,fun _ _=>rfl,fun c=>absurd hw (by rw[c];decide),fun v hv=>?_,fun _ hl=>?_,fun c=>absurd hw (by rw[c];decide)⟩
  ·exact Aa0 _ _ _ _ fun e=>hv ⟨hw,UInt8.toNat_inj.1 e.symm⟩
  ·show(st.ws.set b.val.toNat size).getD b.val.toNat 0=size;rw[Ahc _ _ _ _ (by rw[hl];exact b.val.toNat_lt),if_pos rfl]
 ·have hw':b.whole=false:=by simpa using hw
  rw[if_neg hw]at h
  by_cases hn:0<b.node
  ·rw[if_pos hn]at h;cases h;refine⟨rfl,fun j hj=>?_,fun _ _ hl=>?_,fun _ _=>rfl,fun c=>absurd c hw,fun _ c=>by omega⟩
   ·show Ab (Es st.nds b.node size) j=_;unfold Es;rw[Ia];rcases hj with c|c|c
    ·exact absurd c hw
    ·exact fun e=>c e.symm
    ·omega
   ·show Ab (Es st.nds b.node size) b.node=_;rw[K7 _ _ _ _ hl,if_pos rfl]
  ·rw[if_neg hn]at h
   by_cases hs:size=0
   ·rw[if_pos hs]at h;cases h;exact⟨rfl,fun _ _=>rfl,fun _ c=>by omega,fun _ _=>rfl,fun c=>absurd c hw,fun _ _=>hs⟩
   ·rw[if_neg hs]at h;cases h
structure Ll(f:Nat→Bool)(total i:Nat)(st:B0):Prop where
 wl:st.ws.length=256
 root:(Ab st.nds 0).siz=total
 frm: ∀j,j<i→(Ab st.nds j).frm=C3 st.nds j
 len:st.len=C3 st.nds i
 leaf: ∀j u v,j<i→u<2→(Ab st.nds j).br u={whole:=true,val:=v}→st.ws.getD v.toNat 0=Ix f st.nds j u
 node: ∀j u n,j<i→u<2→0<n→(Ab st.nds j).br u={node:=n}→(Ab st.nds n).siz=Ix f st.nds j u
 none: ∀j u,j<i→u<2→(Ab st.nds j).br u={}→Ix f st.nds j u=0
 rest: ∀v:UInt8,(∀j u,j<i→u<2→(Ab st.nds j).br u≠{whole:=true,val:=v})→st.ws.getD v.toNat 0=0
section
variable {M:Nat} {ln num:UInt8→Nat} {o:List UInt8} {nds:List Nd}
theorem Vn.br{a b:Nd}(h:Vn a b)(u:Nat):a.br u=b.br u:=by unfold Nd.br;rw[h.2.2.1,h.2.2.2]
theorem Bg.like{nds':List Nd}(h:Bg M ln o nds)(hl:Iw nds' nds):Bg M ln o nds':=by
 refine⟨by rw[hl.1];exact h.more,by rw[hl.1];exact h.few,by rw[(hl.2 0).1,(hl.2 0).2.1];exact h.root,fun j u hj hu=>?_,fun j j' h1 h2=>?_,fun n h1 h2=>?_⟩
 ·rw[hl.1]at hj;exact(h.good j u hj hu).mono (fun j _=>(hl.2 j).1) (fun j _=>(hl.2 j).2.1) ((hl.2 j).br u) (Aob hl.1.symm) hj
 ·have:=h.sorted j j' h1 (by rw[←hl.1];exact h2);unfold Jf at*;rw[(hl.2 j).1,(hl.2 j).2.1,(hl.2 j').1,(hl.2 j').2.1];exact this
 ·obtain⟨j,u,h3,h4,h5⟩:=h.par n h1 (by rw[←hl.1];exact h2);exact⟨j,u,h3,h4,((hl.2 j).br u).trans h5⟩
theorem Ahd{o:List UInt8}(hn:o.Nodup){i j:Nat}(hi:i<o.length)(hj:j<o.length)(e:o.getD i 0=o.getD j 0):i=j:=by
 rw[Ak6,Ak7 hi,Ak6,Ak7 hj]at e;have hp:=List.pairwise_iff_getElem.1 (List.nodup_iff_pairwise_ne.1 hn);rcases Ami i j with c|c|c
 ·exact absurd e (hp i j hi hj c)
 ·exact c
 ·exact absurd e.symm (hp j i hj hi c)
theorem Bg.leaf_one(h:Bg M ln o nds)(hn:o.Nodup){j u j' u':Nat}{v:UInt8}(hj:j<nds.length)(hu:u<2)(hj':j'<nds.length)(hu':u'<2)(e:(Ab nds j).br u={whole:=true,val:=v})(e':(Ab nds j').br u'={whole:=true,val:=v}):j=j'∧u=u':=by
 cases h.good j u hj hu with
 |node n h1=>rw[h1]at e;cases e
 |none h1=>rw[h1]at e;cases e
 |leaf k hk h1 h2 h3=>
  cases h.good j' u' hj' hu' with
  |node n h4=>rw[h4]at e';cases e'
  |none h4=>rw[h4]at e';cases e'
  |leaf k' hk' h4 h5 h6=>
   rw[h1]at e;rw[h4]at e';have e1:o.getD k 0=v:=by injection e
   have e2:o.getD k' 0=v:=by injection e'
   have ek:=Ahd hn hk hk' (e1.trans e2.symm);subst ek;rw[←h6]at h3;have h7:=Nat.eq_of_mul_eq_mul_right (Ans _) h3;exact⟨h.same hj hj' (by omega) (by omega),by omega⟩
theorem Fj{b:Br}{v:UInt8}(h:b={whole:=true,val:=v}):b.whole=true∧b.val=v∧b.node=0:=by subst h;exact⟨rfl,rfl,rfl⟩
theorem L0{b:Br}{n:Nat}(h:b={node:=n}):b.whole=false∧b.node=n:=by subst h;exact⟨rfl,rfl⟩
theorem Ll.step{f:Nat→Bool}{LB total i:Nat}{st st':B0}(h:Ll f total i st)(hs:Bg M ln o st.nds)(hn:o.Nodup)(hi:i<st.nds.length)(he:He f LB i st=some st'):Ll f total (i+1) st':=by
 have hlk:=Lj he;unfold He at he;split at he
 ·cases he
 ·obtain⟨s1,h1,h2⟩:=Option.bind_eq_some_iff.1 he;have a:=Kb h1;have b:=Kb h2;have al:=Ib h1;have hon:=Ri f st i;have n0: ∀u,u<2→ ∀n,(Ab st.nds i).br u={node:=n}→n=0∨i<n∧n<st.nds.length:=fun u hu n e=>by
   rcases Nat.eq_zero_or_pos n with c|c
   ·exact .inl c
   ·have:=hs.child hi hu c e;exact .inr ⟨this.1,this.2.1⟩
  have good0:=hs.good i 0 hi (by omega);have good1:=hs.good i 1 hi (by omega);have b0e:(Ab st.nds i).br 0=(Ab st.nds i).b0:=rfl;have b1e:(Ab st.nds i).br 1=(Ab st.nds i).b1:=rfl;have o0:(Ab st.nds i).b0.whole=true∨(Ab st.nds i).b0.node=0∨(i<(Ab st.nds i).b0.node∧(Ab st.nds i).b0.node<st.nds.length):=by
   cases good0 with
   |leaf k hk e=>rw[b0e]at e;exact .inl (Fj e).1
   |node n e h3 h4=>rw[b0e]at e;right;right;rw[(L0 e).2];exact⟨h3,h4⟩
   |none e=>rw[b0e]at e;right;left;rw[e]
  have o1:(Ab st.nds i).b1.whole=true∨(Ab st.nds i).b1.node=0∨(i<(Ab st.nds i).b1.node∧(Ab st.nds i).b1.node<st.nds.length):=by
   cases good1 with
   |leaf k hk e=>rw[b1e]at e;exact .inl (Fj e).1
   |node n e h3 h4=>rw[b1e]at e;right;right;rw[(L0 e).2];exact⟨h3,h4⟩
   |none e=>rw[b1e]at e;right;left;rw[e]
  have frm0: ∀j,Ab (D2 st.nds i st.len) j=if i=j then{Ab st.nds j with frm:=st.len}else Ab st.nds j:=fun j=>Mk _ _ _ _ hi;have low: ∀j,j≤i→Ab st'.nds j=if i=j then{Ab st.nds j with frm:=st.len}else Ab st.nds j:=fun j hj=>by
   rw[b.other j (by rcases o1 with c|c|c;exact .inl c;exact .inr (.inr c);exact .inr (.inl (by omega))),a.other j (by rcases o0 with c|c|c;exact .inl c;exact .inr (.inr c);exact .inr (.inl (by omega)))];exact frm0 j
  have lowsiz: ∀j,j≤i→(Ab st'.nds j).siz=(Ab st.nds j).siz:=fun j hj=>by rw[low j hj];split<;>rfl
  have lowbr: ∀j,j≤i→ ∀u,(Ab st'.nds j).br u=(Ab st.nds j).br u:=fun j hj u=>by rw[low j hj];split<;>rfl
  have est: ∀j,j≤i+1→C3 st'.nds j=C3 st.nds j:=fun j hj=>I6 fun k hk=>lowsiz k (by omega);have ec: ∀j u,j≤i→Ix f st'.nds j u=Ix f st.nds j u:=fun j u hj=>Aff fun k hk=>lowsiz k (by omega);have hst:=h.len;have eon:Ix f st.nds i 1=I5 f st i:=by unfold Ix I5;rw[if_pos rfl,←hst]
  have eze:Ix f st.nds i 0=(Ab st.nds i).siz-I5 f st i:=by unfold Ix I5;rw[if_neg (by omega),←hst]
  have wl1:s1.ws.length=256:=al.2.2.trans h.wl;have nl1:s1.nds.length=st.nds.length:=by have:=al.1.1;rw[this];exact Ge _ _ _
  have wsOld: ∀v:UInt8,(Ab st.nds i).b0≠{whole:=true,val:=v}→(Ab st.nds i).b1≠{whole:=true,val:=v}→st'.ws.getD v.toNat 0=st.ws.getD v.toNat 0:=by
   intro v c0 c1;rw[b.ws v ?_,a.ws v ?_]
   ·rintro⟨x,rfl⟩;cases good0 with
    |leaf k hk e=>rw[b0e]at e;rw[e]at c0;exact c0 rfl
    |node n e=>rw[b0e]at e;rw[e]at x;cases x
    |none e=>rw[b0e]at e;rw[e]at x;cases x
   ·rintro⟨x,rfl⟩;cases good1 with
    |leaf k hk e=>rw[b1e]at e;rw[e]at c1;exact c1 rfl
    |node n e=>rw[b1e]at e;rw[e]at x;cases x
    |none e=>rw[b1e]at e;rw[e]at x;cases x
  refine⟨hlk.2.2.2.trans h.wl,(lowsiz 0 (by omega)).trans h.root,fun j hj=>?_,?_,fun j u v hj hu e=>?_,fun j u n hj hu hn0 e=>?_,fun j u hj hu e=>?_,fun v hv=>?_⟩
  ·rw[est j (by omega),low j (by omega)]
   by_cases c:i=j
   ·subst c;rw[if_pos rfl];exact hst
   ·rw[if_neg c];exact h.frm j (by omega)
  ·rw[est (i+1) (Ale _),C3,←hst];exact hlk.2.1
  ·rw[lowbr j (by omega) u]at e;rw[ec j u (by omega)]
   by_cases c:j=i
   ·subst c;rcases(show u=0∨u=1 by omega)with rfl|rfl
    ·have e':(Ab st.nds j).b0={whole:=true,val:=v}:=e;obtain⟨q1,q2,_⟩:=Fj e';rw[b.ws v ?_,←q2,a.wsHit q1 h.wl,eze];rintro⟨x,y⟩;have e1:(Ab st.nds j).br 1={whole:=true,val:=v}:=by
      cases good1 with
      |leaf k hk e=>rw[e];rw[b1e]at e;rw[e]at y;rw[y]
      |node n e=>rw[b1e]at e;rw[e]at x;cases x
      |none e=>rw[b1e]at e;rw[e]at x;cases x
     have:=hs.leaf_one hn hi (by omega) hi (by omega) e e1;omega
    ·have e':(Ab st.nds j).b1={whole:=true,val:=v}:=e;obtain⟨q1,q2,_⟩:=Fj e';rw[←q2,b.wsHit q1 wl1,eon]
   ·have hjl:j<st.nds.length:=by omega
    rw[wsOld v (fun x=>?_) (fun x=>?_)]
    ·exact h.leaf j u v (by omega) hu e
    ·have:=hs.leaf_one hn hjl hu hi (by omega:0<2) e x;omega
    ·have:=hs.leaf_one hn hjl hu hi (by omega:1<2) e x;omega
  ·rw[lowbr j (by omega) u]at e;rw[ec j u (by omega)]
   by_cases c:j=i
   ·subst c;rcases(show u=0∨u=1 by omega)with rfl|rfl
    ·have e':(Ab st.nds j).b0={node:=n}:=e;obtain⟨q1,q2⟩:=L0 e';obtain⟨_,q4,_⟩:=hs.child hi (by omega) hn0 e;rw[b.other n ?_]
     ·have:=a.hit q1 (by omega) (by show _<(D2 st.nds j st.len).length;rw[Ge];omega);rw[q2]at this;rw[this,eze]
     ·cases good1 with
      |leaf k hk e1=>rw[b1e]at e1;exact .inl (Fj e1).1
      |node n' e1 h3 h4=>
       right;left;intro x;rw[b1e]at e1;rw[(L0 e1).2]at x;subst x;have:=hs.parent hi (by omega:0<2) hi (by omega:1<2) hn0 e e1;omega
      |none e1=>rw[b1e]at e1;right;right;rw[e1]
    ·have e':(Ab st.nds j).b1={node:=n}:=e;obtain⟨q1,q2⟩:=L0 e';obtain⟨_,q4,_⟩:=hs.child hi (by omega) hn0 e;have:=b.hit q1 (by omega) (by omega);rw[q2]at this;rw[this,eon]
   ·have hjl:j<st.nds.length:=by omega
    have key:Ab st'.nds n=Ab (D2 st.nds i st.len) n:=by
     rw[b.other n ?_,a.other n ?_]
     ·cases good0 with
      |leaf k hk e1=>rw[b0e]at e1;exact .inl (Fj e1).1
      |node n' e1 h3 h4=>
       right;left;intro x;rw[(L0 (b0e▸e1)).2]at x;subst x;have:=hs.parent hjl hu hi (by omega) hn0 e e1;omega
      |none e1=>rw[b0e]at e1;right;right;rw[e1]
     ·cases good1 with
      |leaf k hk e1=>rw[b1e]at e1;exact .inl (Fj e1).1
      |node n' e1 h3 h4=>
       right;left;intro x;rw[(L0 (b1e▸e1)).2]at x;subst x;have:=hs.parent hjl hu hi (by omega) hn0 e e1;omega
      |none e1=>rw[b1e]at e1;right;right;rw[e1]
    rw[key,frm0 n];have:=h.node j u n (by omega) hu hn0 e;split
    ·exact this
    ·exact this
  ·rw[lowbr j (by omega) u]at e;rw[ec j u (by omega)]
   by_cases c:j=i
   ·subst c;rcases(show u=0∨u=1 by omega)with rfl|rfl
    ·have e':(Ab st.nds j).b0={}:=e;rw[eze];exact a.none (by rw[e']) (by rw[e'])
    ·have e':(Ab st.nds j).b1={}:=e;rw[eon];exact b.none (by rw[e']) (by rw[e'])
   ·exact h.none j u (by omega) hu e
  ·rw[wsOld v ?_ ?_]
   ·exact h.rest v fun j u hj hu=>by rw[←lowbr j (by omega) u];exact hv j u (by omega) hu
   ·have:=hv i 0 (by omega) (by omega);rw[lowbr i (Ale _) 0]at this;exact this
   ·have:=hv i 1 (by omega) (by omega);rw[lowbr i (Ale _) 1]at this;exact this
theorem Oi{f:Nat→Bool}{LB total:Nat}{ws:List Nat}(hs:Bg M ln o nds)(hn:o.Nodup)(hw:ws=List.replicate 256 0): ∀{i:Nat} {st:B0},i≤nds.length→Hj f LB nds total ws i=some st→Ll f total i st
 |0,st,_,h=>by
  cases h;have e0:(Ab (Es nds 0 total) 0).siz=total:=by rw[K7 _ _ _ _ hs.more,if_pos rfl]
  refine⟨by rw[hw];exact Alj,e0,fun j hj=>by omega,rfl,fun j u v hj=>by omega,fun j u n hj=>by omega,fun j u hj=>by omega,fun v _=>?_⟩;show ws.getD v.toNat 0=0;rw[hw,Ak6,Am0 v.toNat_lt];rfl
 |i+1,st,hi,h=>by
  obtain⟨s1,h1,h2⟩:=Option.bind_eq_some_iff.1 h;have ih:=Oi hs hn hw (by omega) h1;have hl:=(Lk h1).1;exact ih.step (hs.like hl) hn (by rw[hl.1];omega) h2
end
end Hm
namespace Hm
def Jk:List Bool→List UInt8→List UInt8→List UInt8
 |[],_,_=>[]
 |false::r,a,b=>a.headD 0::Jk r a.tail b
 |true::r,a,b=>b.headD 0::Jk r a b.tail
def C1(bs:List Bool):Nat:=bs.countP (!·)
def ones(bs:List Bool):Nat:=bs.countP id
theorem Rj: ∀(bs:List Bool) (a b:List UInt8),a.length=C1 bs→b.length=ones bs→ ∀x∈Jk bs a b,x∈a∨x∈b
 |[],_,_,_,_,x,hx=>by simp[Jk]at hx
 |false::r,a,b,ha,hb,x,hx=>by
  cases a with
  |nil=>simp[C1]at ha
  |cons y t=>
   rw[Jk]at hx;rcases List.mem_cons.1 hx with c|c
   ·exact .inl (by rw[c];exact Alp ..)
   ·rcases Rj r t b (by simpa[C1]using ha) (by simpa[ones]using hb) x c with d|d
    ·exact .inl (Als _ d)
    ·exact .inr d
 |true::r,a,b,ha,hb,x,hx=>by
  cases b with
  |nil=>simp[ones]at hb
  |cons y t=>
   rw[Jk]at hx;rcases List.mem_cons.1 hx with c|c
   ·exact .inr (by rw[c];exact Alp ..)
   ·rcases Rj r a t (by simpa[C1]using ha) (by simpa[ones]using hb) x c with d|d
    ·exact .inl d
    ·exact .inr (Als _ d)
theorem Rk(g:UInt8→Bool): ∀(bs:List Bool) (a b:List UInt8),a.length=C1 bs→b.length=ones bs→(∀x∈a,g x=false)→(∀x∈b,g x=true)→(Jk bs a b).map g=bs
 |[],_,_,_,_,_,_=>rfl
 |false::r,a,b,ha,hb,h0,h1=>by
  cases a with
  |nil=>simp[C1]at ha
  |cons y t=>
   rw[Jk,Amu,List.tail_cons,Rk g r t b (by simpa[C1]using ha) (by simpa[ones]using hb) (fun x hx=>h0 x (Als _ hx)) h1];rw[show(y::t).headD 0=y from rfl,h0 y (Alp ..)]
 |true::r,a,b,ha,hb,h0,h1=>by
  cases b with
  |nil=>simp[ones]at hb
  |cons y t=>
   rw[Jk,Amu,List.tail_cons,Rk g r a t (by simpa[C1]using ha) (by simpa[ones]using hb) h0 (fun x hx=>h1 x (Als _ hx))];rw[show(y::t).headD 0=y from rfl,h1 y (Alp ..)]
theorem Np(g:UInt8→Bool): ∀(bs:List Bool) (a b:List UInt8),a.length=C1 bs→b.length=ones bs→(∀x∈a,g x=false)→(∀x∈b,g x=true)→(Jk bs a b).filter (fun x=>!g x)=a∧(Jk bs a b).filter g=b
 |[],a,b,ha,hb,_,_=>by
  rw[Amj (l:=a) (by simpa[C1]using ha),Amj (l:=b) (by simpa[ones]using hb)];exact⟨rfl,rfl⟩
 |false::r,a,b,ha,hb,h0,h1=>by
  cases a with
  |nil=>simp[C1]at ha
  |cons y t=>
   obtain⟨i1,i2⟩:=Np g r t b (by simpa[C1]using ha) (by simpa[ones]using hb) (fun x hx=>h0 x (Als _ hx)) h1;have hy:=h0 y (Alp ..);rw[Jk,List.tail_cons,show(y::t).headD 0=y from rfl];constructor
   ·rw[Am1,hy,i1];rfl
   ·rw[Am1,hy,i2];rfl
 |true::r,a,b,ha,hb,h0,h1=>by
  cases b with
  |nil=>simp[ones]at hb
  |cons y t=>
   obtain⟨i1,i2⟩:=Np g r a t (by simpa[C1]using ha) (by simpa[ones]using hb) h0 (fun x hx=>h1 x (Als _ hx));have hy:=h1 y (Alp ..);rw[Jk,List.tail_cons,show(y::t).headD 0=y from rfl];constructor
   ·rw[Am1,hy,i1];rfl
   ·rw[Am1,hy,i2];rfl
def Dz(f:Nat→Bool)(s k:Nat):List Bool:=(List.range k).map fun p=>f (s+p)
theorem Hk(f:Nat→Bool)(s k:Nat):(Dz f s k).length=k:=by simp[Dz]
theorem Zp(f:Nat→Bool)(s k:Nat):Dz f s (k+1)=Dz f s k++[f (s+k)]:=by simp[Dz,List.range_succ]
theorem Rm(f:Nat→Bool)(s:Nat): ∀k,ones (Dz f s k)=rk f (s+k)-rk f s∧C1 (Dz f s k)+ones (Dz f s k)=k
 |0=>by simp[Dz,ones,C1]
 |k+1=>by
  obtain⟨h1,h2⟩:=Rm f s k;have hm:=J7 f (Apa s k);rw[Zp];unfold ones C1 at*;rw[Ann,Ann];have e:rk f (s+(k+1))=rk f (s+k)+(f (s+k)).toNat:=rfl;cases hf:f (s+k)with
  |false=>rw[e,hf];simp;omega
  |true=>rw[e,hf];simp;omega
structure Rep(ln num:UInt8→Nat)(f:Nat→Bool)(nds:List Nd)(col:List UInt8):Prop where
 siz: ∀n,n<nds.length→(Ab nds n).siz=(Ao ln num nds col n).length
 frm: ∀n,n<nds.length→(Ab nds n).frm=C3 nds n
 bit: ∀n p,n<nds.length→p<(Ab nds n).siz→f ((Ab nds n).frm+p)=decide (Av ln num (Ab nds n).depth ((Ao ln num nds col n).getD p 0)=1)
structure Aku(ln num:UInt8→Nat)(o:List UInt8)(f:Nat→Bool)(nds:List Nd)(C:Nat→List UInt8)(n:Nat):Prop where
 mem: ∀b∈C n,b∈o∧El ln num (Ab nds n) b=true
 bits:(C n).map (fun b=>decide (Av ln num (Ab nds n).depth b=1))=Dz f (C3 nds n) (Ab nds n).siz
 sub: ∀u m,u<2→0<m→(Ab nds n).br u={node:=m}→(C n).filter (fun b=>Av ln num (Ab nds n).depth b==u)=C m
 leaf: ∀u v,u<2→(Ab nds n).br u={whole:=true,val:=v}→(C n).filter (fun b=>Av ln num (Ab nds n).depth b==u)=List.replicate (Ix f nds n u) v
section
variable {M:Nat} {ln num:UInt8→Nat} {o:List UInt8} {nds:List Nd} {f:Nat→Bool} {total:Nat}
theorem Bg.leaf_code(h:Bg M ln o nds)(hk:G7 M ln num o){j u:Nat}{v:UInt8}(hj:j<nds.length)(hu:u<2)(e:(Ab nds j).br u={whole:=true,val:=v}):v∈o∧El ln num (Ab nds j) v=true∧Av ln num (Ab nds j).depth v=u∧ln v=(Ab nds j).depth+1:=by
 cases h.good j u hj hu with
 |node n h1=>rw[h1]at e;cases e
 |none h1=>rw[h1]at e;cases e
 |leaf k hk' h1 h2 h3=>
  rw[h1]at e;have e1:o.getD k 0=v:=by injection e
  have h4:=hk.num k hk';rw[←h3]at h4;have h5:=Nat.eq_of_mul_eq_mul_right (Ans _) h4;rw[e1]at h2 h5;refine⟨e1▸Og hk',Alb ⟨by omega,?_⟩,?_,h2⟩
  ·rw[h2,h5,show(Ab nds j).depth+1-(Ab nds j).depth=1 from by omega];omega
  ·unfold Av;rw[h2,h5,show(Ab nds j).depth+1-1-(Ab nds j).depth=0 from by omega];omega
theorem Ahe(f:Nat→Bool)(nds:List Nd)(j:Nat):Ix f nds j 1=ones (Dz f (C3 nds j) (Ab nds j).siz)∧Ix f nds j 0=C1 (Dz f (C3 nds j) (Ab nds j).siz):=by
 obtain⟨h1,h2⟩:=Rm f (C3 nds j) (Ab nds j).siz;unfold Ix;rw[if_pos rfl,if_neg (by omega)];omega
theorem Ym{st:B0}(hi:Ll f total nds.length st)(hst:st.nds=nds)(h:Bg M ln o nds)(hk:G7 M ln num o): ∀m k,nds.length-k≤m→k≤nds.length→ ∃C:Nat→List UInt8,∀n,k≤n→n<nds.length→Aku ln num o f nds C n
 |0,k,h1,h2=>⟨fun _=>[],fun n h3 h4=>by omega⟩
 |m+1,k,h1,h2=>by
  by_cases hkl:k=nds.length
  ·exact⟨fun _=>[],fun n h3 h4=>by omega⟩
  have hkn:k<nds.length:=by omega
  obtain⟨C,hC⟩:=Ym hi hst h hk m (k+1) (by omega) (by omega);have L2: ∀u,u<2→ ∃l:List UInt8,l.length=Ix f nds k u∧(∀b∈l,b∈o∧El ln num (Ab nds k) b=true∧Av ln num (Ab nds k).depth b=u)∧(∀n,0<n→(Ab nds k).br u={node:=n}→l=C n)∧(∀v,(Ab nds k).br u={whole:=true,val:=v}→l=List.replicate (Ix f nds k u) v):=by
   intro u hu;cases hg:h.good k u hkn hu with
   |leaf kk hkk e h3 h4=>
    refine⟨List.replicate (Ix f nds k u) (o.getD kk 0),by simp,fun b hb=>?_,fun n h0 e2=>?_,fun v e2=>?_⟩
    ·rw[Aod hb];obtain⟨q1,q2,q3,_⟩:=h.leaf_code hk hkn hu e;exact⟨q1,q2,q3⟩
    ·rw[e]at e2;cases e2
    ·rw[e]at e2;injection e2 with _ e2;rw[e2]
   |node n e h3 h4 h5 h6 h7 h8=>
    have hc:=hC n (by omega) h4;have hsz:=hi.node k u n hkn hu (by omega) (by rw[hst];exact e);rw[hst]at hsz;refine⟨C n,?_,fun b hb=>?_,fun n' _ e2=>?_,fun v e2=>?_⟩
    ·have:=congrArg List.length hc.bits;rw[Al6,Hk]at this;rw[this,hsz]
    ·obtain⟨q1,q2⟩:=hc.mem b hb;obtain⟨q3,q4⟩:=Nl hu h5 h6 q2;exact⟨q1,q3,q4⟩
    ·rw[e]at e2;injection e2 with _ _ e2;rw[e2]
    ·rw[e]at e2;cases e2
   |none e h3=>
    have h0:=hi.none k u hkn hu (by rw[hst];exact e);rw[hst]at h0;refine⟨[],by rw[h0];rfl,fun b hb=>by simp at hb,fun n h0 e2=>?_,fun v e2=>?_⟩
    ·rw[e]at e2;injection e2 with _ _ e2;omega
    ·rw[e]at e2;cases e2
  obtain⟨l0,a1,a2,a3,a4⟩:=L2 0 (by omega);obtain⟨l1,b1,b2,b3,b4⟩:=L2 1 (by omega);obtain⟨c1,c0⟩:=Ahe f nds k;obtain⟨bs,hbs⟩: ∃bs,bs=Dz f (C3 nds k) (Ab nds k).siz:=⟨_,rfl⟩;rw[←hbs]at c1 c0;have g0: ∀x∈l0,decide (Av ln num (Ab nds k).depth x=1)=false:=fun x hx=>by rw[(a2 x hx).2.2];rfl
  have g1: ∀x∈l1,decide (Av ln num (Ab nds k).depth x=1)=true:=fun x hx=>by rw[(b2 x hx).2.2];rfl
  have W1:=Rk (fun x=>decide (Av ln num (Ab nds k).depth x=1)) bs l0 l1 (by rw[a1,c0]) (by rw[b1,c1]) g0 g1;have W2:=Np (fun x=>decide (Av ln num (Ab nds k).depth x=1)) bs l0 l1 (by rw[a1,c0]) (by rw[b1,c1]) g0 g1;have W3:=Rj bs l0 l1 (by rw[a1,c0]) (by rw[b1,c1]);have flt: ∀(l:List UInt8) u,u<2→l.filter (fun b=>Av ln num (Ab nds k).depth b==u)=l.filter (fun b=>if u=1 then decide (Av ln num (Ab nds k).depth b=1)else !decide (Av ln num (Ab nds k).depth b=1)):=fun l u hu=>by
   refine List.filter_congr fun b _=>?_;have:=Fy ln num (Ab nds k).depth b;rcases(show u=0∨u=1 by omega)with rfl|rfl
   ·rw[if_neg (by omega)];rcases(show Av ln num (Ab nds k).depth b=0∨Av ln num (Ab nds k).depth b=1 by omega)with e|e<;>rw[e]<;>rfl
   ·rw[if_pos rfl];rcases(show Av ln num (Ab nds k).depth b=0∨Av ln num (Ab nds k).depth b=1 by omega)with e|e<;>rw[e]<;>rfl
  refine⟨fun n=>if n=k then Jk bs l0 l1 else C n,fun n h3 h4=>?_⟩
  by_cases e:n=k
  ·subst e;refine⟨fun b hb=>?_,?_,fun u m' hu h0 e2=>?_,fun u v hu e2=>?_⟩
   ·rw[if_pos rfl]at hb;rcases W3 b hb with c|c
    ·exact⟨(a2 b c).1,(a2 b c).2.1⟩
    ·exact⟨(b2 b c).1,(b2 b c).2.1⟩
   ·rw[if_pos rfl,W1,hbs]
   ·obtain⟨q1,q2,_⟩:=h.child hkn hu h0 e2;rw[if_pos rfl,if_neg (by omega),flt _ u hu];rcases(show u=0∨u=1 by omega)with rfl|rfl
    ·rw[←a3 m' h0 e2];simpa using W2.1
    ·rw[←b3 m' h0 e2];simpa using W2.2
   ·rw[if_pos rfl,flt _ u hu];rcases(show u=0∨u=1 by omega)with rfl|rfl
    ·rw[←a4 v e2];simpa using W2.1
    ·rw[←b4 v e2];simpa using W2.2
  ·have hc:=hC n (by omega) h4;refine⟨fun b hb=>?_,?_,fun u m' hu h0 e2=>?_,fun u v hu e2=>?_⟩
   ·rw[if_neg e]at hb;exact hc.mem b hb
   ·rw[if_neg e];exact hc.bits
   ·obtain⟨q1,q2,_⟩:=h.child h4 hu h0 e2;rw[if_neg e,if_neg (by omega)];exact hc.sub u m' hu h0 e2
   ·rw[if_neg e];exact hc.leaf u v hu e2
theorem Bg.leaf_of(h:Bg M ln o nds)(hk:G7 M ln num o)(hnum: ∀b∈o,num b<2^ln b)(hpos: ∀b∈o,0<ln b){v:UInt8}(hv:v∈o): ∃j u,j<nds.length∧u<2∧(Ab nds j).br u={whole:=true,val:=v}:=by
 have hp:=hpos v hv;obtain⟨n,h1,h2,h3⟩:=h.node_of hk hnum hv (ln v-1) (by omega);have hu:El ln num (Ab nds n) v=true:=Alb ⟨by omega,by rw[h2,h3]⟩;refine⟨n,Av ln num (Ab nds n).depth v,h1,Fy _ _ _ _,?_⟩;cases h.good n (Av ln num (Ab nds n).depth v) h1 (Fy _ _ _ _)with
 |leaf k hk' h4 h5 h6=>
  rw[h4,←Li hk hv hu hk' h5 h6]
 |node n' h4 h5 h6 h7 h8 h9=>
  have h10:=Vm hk hv hu h7 h8 h9;have:=(Amm h10).1;omega
 |none h4 h5=>exact(Ka hk hv hu h5).elim
theorem Aa1{st:B0}(hi:Ll f total nds.length st)(hst:st.nds=nds)(h:Bg M ln o nds)(hk:G7 M ln num o)(hnum: ∀b∈o,num b<2^ln b)(hpos: ∀b∈o,0<ln b):
  ∃col:List UInt8,col.length=total∧(∀b∈col,b∈o)∧Rep ln num f nds col∧ ∀v:UInt8,st.ws.getD v.toNat 0=col.count v:=by
 obtain⟨C,hC⟩:=Ym hi hst h hk nds.length 0 (by omega) (by omega);have hc0:=hC 0 (Ale _) h.more;have hmem: ∀b∈C 0,b∈o:=fun b hb=>(hc0.mem b hb).1;have len: ∀n,n<nds.length→(C n).length=(Ab nds n).siz:=fun n hn=>by
  have:=congrArg List.length (hC n (Alr _) hn).bits;rwa[Al6,Hk]at this
 have key: ∀m n,n≤m→n<nds.length→Ao ln num nds (C 0) n=C n:=by
  intro m;induction m with
  |zero=>
   intro n hn hl;obtain rfl:n=0:=by omega
   unfold Ao;exact List.filter_eq_self.2 fun b hb=>(hc0.mem b hb).2
  |succ m ih=>
   intro n hn hl
   by_cases e:n=0
   ·exact ih n (by omega) hl
   ·obtain⟨j,u,hu,hj,ej⟩:=h.par n (by omega) hl;rw[h.col_child hk hmem (by omega) hu (by omega) ej,ih j (by omega) (by omega)];exact(hC j (Alr _) (by omega)).sub u n hu (by omega) ej
 refine⟨C 0,?_,hmem,⟨fun n hn=>?_,fun n hn=>?_,fun n p hn hp=>?_⟩,fun v=>?_⟩
 ·rw[len 0 h.more,←hst];exact hi.root
 ·rw[key n n (Ale _) hn,len n hn]
 ·have:=hi.frm n hn;rwa[hst]at this
 ·have hf:=hi.frm n hn;rw[hst]at hf;rw[key n n (Ale _) hn,hf];have hb:=(hC n (Alr _) hn).bits;have e1:((C n).map (fun b=>decide (Av ln num (Ab nds n).depth b=1)))[p]?=(Dz f (C3 nds n) (Ab nds n).siz)[p]?:=by rw[hb]
  have hpl:p<(C n).length:=by rw[len n hn];exact hp
  rw[Alu,Ak7 hpl]at e1;unfold Dz at e1;rw[Alu,Amw hp]at e1;rw[Ak6,Ak7 hpl];exact(Al1 e1).symm
 ·by_cases hv:v∈o
  ·obtain⟨j,u,hj,hu,e⟩:=h.leaf_of hk hnum hpos hv;obtain⟨_,q2,q3,_⟩:=h.leaf_code hk hj hu e;have h1:=hi.leaf j u v hj hu (by rw[hst];exact e);rw[hst]at h1;have h2:=(hC j (Alr _) hj).leaf u v hu e;rw[h1];have h3:(C 0).count v=((C j).filter (fun b=>Av ln num (Ab nds j).depth b==u)).count v:=by
    rw[←key j j (Ale _) hj,List.count_filter (by rw[q3];exact Aoi u)];unfold Ao;rw[List.count_filter q2]
   rw[h3,h2,List.count_replicate_self]
  ·have hz:(C 0).count v=0:=List.count_eq_zero.2 fun hm=>hv (hmem v hm);rw[hz];refine hi.rest v fun j u hj hu e=>?_;rw[hst]at e;exact hv (h.leaf_code hk hj hu e).1
end
end Hm
namespace Hm
section
variable {M:Nat} {ln num:UInt8→Nat} {o:List UInt8} {nds:List Nd} {f:Nat→Bool} {col:List UInt8}
def L2(ln num:UInt8→Nat)(nds:List Nd)(l:List UInt8)(n u:Nat):Nat:=(l.filter fun b=>Av ln num (Ab nds n).depth b==u).length
theorem Aa2(ln num:UInt8→Nat)(nds:List Nd)(n:Nat): ∀l:List UInt8,L2 ln num nds l n 0+L2 ln num nds l n 1=l.length
 |[]=>rfl
 |b::r=>by
  have ih:=Aa2 ln num nds n r;have:=Fy ln num (Ab nds n).depth b;unfold L2 at*;rcases(show Av ln num (Ab nds n).depth b=0∨Av ln num (Ab nds n).depth b=1 by omega)with e|e
  ·rw[Am1,Am1,e];simp;omega
  ·rw[Am1,Am1,e];simp;omega
theorem Ai0(ln num:UInt8→Nat)(nds:List Nd)(n:Nat)(l:List UInt8):ones (l.map fun b=>decide (Av ln num (Ab nds n).depth b=1))=L2 ln num nds l n 1:=by
 unfold ones L2;rw[List.countP_map,Aow];congr 1
theorem Tq(ln num:UInt8→Nat)(nds:List Nd)(col:List UInt8){N i p:Nat}(hi:i<N)(hp:p<(Ao ln num nds col i).length):
  (A0 ln num nds col N).getD ((A0 ln num nds col i).length+p) 0=Av ln num (Ab nds i).depth ((Ao ln num nds col i).getD p 0)∧(A0 ln num nds col i).length+p<(A0 ln num nds col N).length:=by
 have key: ∃r,A0 ln num nds col N=A0 ln num nds col (i+1)++r:=by
  clear hp;induction N with
  |zero=>omega
  |succ N ih=>
   by_cases e:i=N
   ·subst e;exact⟨[],by simp⟩
   ·obtain⟨r,hr⟩:=ih (by omega);exact⟨r++Gy ln num nds col N,by rw[Ez,hr,Alx]⟩
 obtain⟨r,hr⟩:=key;have hnl:(Gy ln num nds col i).length=(Ao ln num nds col i).length:=by simp[Gy]
 rw[hr,Ez];constructor
 ·rw[Ak6,Alx,Alt (by omega),Aof,Amh (by omega)];unfold Gy;rw[Alu,Ak7 hp,Ak6,Ak7 hp];rfl
 ·simp only[Alg];omega
structure Aa3(ln num:UInt8→Nat)(nds:List Nd)(col:List UInt8)(i:Nat)(st:B0):Prop where
 like:Iw st.nds nds
 len:st.len=(A0 ln num nds col i).length
 siz: ∀n,n<nds.length→(n=0∨ ∃j u,j<i∧u<2∧(Ab nds j).br u={node:=n})→(Ab st.nds n).siz=(Ao ln num nds col n).length
 st: ∀j,j≤i→C3 st.nds j=(A0 ln num nds col j).length
theorem Ai1{LB i:Nat}{st:B0}(h:Bg M ln o nds)(hk:G7 M ln num o)(hc: ∀b∈col,b∈o)(hi:i<nds.length)(hv:Aa3 ln num nds col i st)(hf: ∀k,k<(A0 ln num nds col nds.length).length→f k=decide ((A0 ln num nds col nds.length).getD k 0=1))(hLB:(A0 ln num nds col nds.length).length≤LB):
  ∃st',He f LB i st=some st'∧Aa3 ln num nds col (i+1) st':=by
 have hsz:(Ab st.nds i).siz=(Ao ln num nds col i).length:=by
  refine hv.siz i hi ?_
  by_cases e:i=0
  ·exact .inl e
  ·obtain⟨j,u,h1,h2,h3⟩:=h.par i (by omega) hi;exact .inr ⟨j,u,h2,h1,h3⟩
 have hln:(A0 ln num nds col (i+1)).length=st.len+(Ab st.nds i).siz:=by
  rw[Ez,Alg,←hv.len,hsz];simp[Gy]
 have hle:(A0 ln num nds col (i+1)).length≤(A0 ln num nds col nds.length).length:=by
  have: ∀m,i+1≤m→(A0 ln num nds col (i+1)).length≤(A0 ln num nds col m).length:=by
   intro m hm;induction m with
   |zero=>omega
   |succ m ih=>
    by_cases e:i=m
    ·subst e;exact Ale _
    ·have:=ih (by omega);rw[Ez ln num nds col m,Alg];omega
  exact this _ hi
 have hpb:Dz f st.len (Ab st.nds i).siz=(Ao ln num nds col i).map fun b=>decide (Av ln num (Ab nds i).depth b=1):=by
  apply Amf
  ·rw[Hk,Al6,hsz]
  ·intro p h1 h2;rw[Hk]at h1;have hp:p<(Ao ln num nds col i).length:=by omega
   obtain⟨q1,q2⟩:=Tq ln num nds col hi hp;have e0:(Dz f st.len (Ab st.nds i).siz)[p]?=some (f (st.len+p)):=by
    unfold Dz;rw[Alu,Amw h1];rfl
   rw[Ak7 (by rw[Hk];exact h1)]at e0;rw[Al1 e0,Am5,hv.len,hf _ q2,q1,Ak6,Ak7 hp];rfl
 obtain⟨o1,o2⟩:=Rm f st.len (Ab st.nds i).siz;rw[hpb,Ai0]at o1;have eon:I5 f st i=L2 ln num nds (Ao ln num nds col i) i 1:=o1.symm;have hss:=Aa2 ln num nds i (Ao ln num nds col i);have eze:(Ab st.nds i).siz-I5 f st i=L2 ln num nds (Ao ln num nds col i) i 0:=by omega
 have give: ∀u,u<2→ ∀s:B0,Iw s.nds nds→ ∃s',Dm ((Ab nds i).br u) (L2 ln num nds (Ao ln num nds col i) i u) s=some s':=by
  intro u hu s _;unfold Dm;cases h.good i u hi hu with
  |leaf kk hkk e=>rw[e];exact⟨_,if_pos rfl⟩
  |node n e h1=>rw[e];exact⟨_,(if_neg (by simp)).trans (if_pos (by show 0<n;omega))⟩
  |none e h2=>
   rw[e];refine⟨s,(if_neg (by simp)).trans ((if_neg (by simp)).trans (if_pos ?_))⟩;unfold L2;rw[List.length_eq_zero_iff,List.filter_eq_nil_iff];intro b hb hx;have hb2:=List.mem_filter.1 hb;have hx2:Av ln num (Ab nds i).depth b=u:=by simpa using hx
   refine Ka hk (hc b hb2.1) hb2.2 ?_;rw[hx2];exact h2
 have like1:=hv.like.2 i;have b0e:(Ab st.nds i).b0=(Ab nds i).br 0:=like1.2.2.1;have b1e:(Ab st.nds i).b1=(Ab nds i).br 1:=like1.2.2.2;obtain⟨s1,h1⟩:=give 0 (by omega) ⟨st.len+(Ab st.nds i).siz,D2 st.nds i st.len,st.ws⟩ ((No _ _ _).trans hv.like);have l1:=Ib h1;obtain⟨s2,h2⟩:=give 1 (by omega) s1 (l1.1.trans ((No _ _ _).trans hv.like));have l2:=Ib h2;have a:=Kb h1;have b:=Kb h2;have hstep:He f LB i st=some s2:=by
  unfold He;rw[if_neg (by omega),eze,eon,b0e,b1e,h1];exact h2
 refine⟨s2,hstep,?_⟩;have lk:=Lj hstep;have hil:i<st.nds.length:=by rw[hv.like.1];exact hi
 have n1l:s1.nds.length=nds.length:=(l1.1.trans ((No _ _ _).trans hv.like)).1;have frm0: ∀j,(Ab (D2 st.nds i st.len) j).siz=(Ab st.nds j).siz:=fun j=>by rw[Mk _ _ _ _ hil];split<;>rfl
 have szs: ∀n,n<nds.length→(∀u,u<2→(Ab nds i).br u≠{node:=n}∨n=0)→(Ab s2.nds n).siz=(Ab st.nds n).siz:=by
  intro n hn hne;have other: ∀u,u<2→((Ab nds i).br u).whole=true∨n≠((Ab nds i).br u).node∨((Ab nds i).br u).node=0:=by
   intro u hu;cases h.good i u hi hu with
   |leaf kk hkk e=>rw[e];exact .inl rfl
   |node m e h3=>
    rcases hne u hu with c|c
    ·rw[e]at c⊢;right;left;intro x;subst x;exact c rfl
    ·rw[e];right;left;show n≠m;omega
   |none e=>rw[e];exact .inr (.inr rfl)
  rw[b.other n (other 1 (by omega)),a.other n (other 0 (by omega))];exact frm0 n
 have hit: ∀u n,u<2→0<n→(Ab nds i).br u={node:=n}→(Ab s2.nds n).siz=(Ao ln num nds col n).length:=by
  intro u n hu hn0 e;obtain⟨q1,q2,_⟩:=h.child hi hu hn0 e;have ecol:(Ao ln num nds col n).length=L2 ln num nds (Ao ln num nds col i) i u:=by rw[h.col_child hk hc hi hu hn0 e];rfl
  rcases(show u=0∨u=1 by omega)with rfl|rfl
  ·have hb:((Ab nds i).br 1).whole=true∨n≠((Ab nds i).br 1).node∨((Ab nds i).br 1).node=0:=by
    cases h.good i 1 hi (by omega)with
    |leaf kk hkk e1=>rw[e1];exact .inl rfl
    |node m e1 h3=>
     rw[e1];right;left;intro x;have x':n=m:=x;subst x';have:=h.parent hi (by omega) hi (by omega) hn0 e e1;omega
    |none e1=>rw[e1];exact .inr (.inr rfl)
   rw[b.other n hb];have:=a.hit (by rw[e]) (by rw[e];exact hn0) (by rw[e];show n<(D2 st.nds i st.len).length;rw[Ge,hv.like.1];exact q2);rw[e]at this;rw[this,ecol]
  ·have:=b.hit (by rw[e]) (by rw[e];exact hn0) (by rw[e];show n<_;omega);rw[e]at this;rw[this,ecol]
 refine⟨lk.1.trans hv.like,by rw[lk.2.1,hln],fun n hn hp=>?_,fun j hj=>?_⟩
 ·by_cases c: ∃u,u<2∧(Ab nds i).br u={node:=n}∧0<n
  ·obtain⟨u,hu,e,hn0⟩:=c;exact hit u n hu hn0 e
  ·have hne: ∀u,u<2→(Ab nds i).br u≠{node:=n}∨n=0:=fun u hu=>by
    rcases Nat.eq_zero_or_pos n with x|x
    ·exact .inr x
    ·exact .inl fun e=>c ⟨u,hu,e,x⟩
   rw[szs n hn hne];refine hv.siz n hn ?_;rcases hp with x|⟨j,u,h3,h4,h5⟩
   ·exact .inl x
   ·by_cases e:j=i
    ·subst e;rcases hne u h4 with y|y
     ·exact absurd h5 y
     ·exact .inl y
    ·exact .inr ⟨j,u,by omega,h4,h5⟩
 ·have low: ∀k,k<i+1→(Ab s2.nds k).siz=(Ab st.nds k).siz:=fun k hk'=>szs k (by omega) fun u hu=>by
   rcases Nat.eq_zero_or_pos k with x|x
   ·exact .inr x
   ·refine .inl fun e=>?_;have:=(h.child hi hu x e).1;omega
  by_cases e:j=i+1
  ·subst e;rw[C3,I6 (b:=st.nds) (fun k hk'=>low k (by omega)),low i (by omega),hv.st i (Ale _),←hv.len,hln]
  ·rw[I6 (b:=st.nds) (fun k hk'=>low k (by omega))];exact hv.st j (by omega)
theorem Aa4{LB:Nat}{ws:List Nat}(h:Bg M ln o nds)(hk:G7 M ln num o)(hc: ∀b∈col,b∈o)(hpos: ∀b∈o,0<ln b)(hnum: ∀b∈o,num b<2^ln b)(hf: ∀k,k<(A0 ln num nds col nds.length).length→f k=decide ((A0 ln num nds col nds.length).getD k 0=1))(hLB:(A0 ln num nds col nds.length).length≤LB):
  ∀i,i≤nds.length→ ∃st,Hj f LB nds col.length ws i=some st∧Aa3 ln num nds col i st
 |0,_=>by
  refine⟨_,rfl,Uy _ _ _,rfl,fun n hn hp=>?_,fun j hj=>?_⟩
  ·rcases hp with x|⟨j,u,h1,_⟩
   ·subst x;show(Ab (Es nds 0 col.length) 0).siz=_;rw[K7 _ _ _ _ h.more,if_pos rfl];unfold Ao;rw[List.filter_eq_self.2];intro b hb;refine Alb ⟨by rw[h.root.1];exact hpos b (hc b hb),?_⟩;rw[h.root.1,h.root.2,Aoz];exact Nat.div_eq_of_lt (hnum b (hc b hb))
   ·omega
  ·obtain rfl:j=0:=by omega
   rfl
 |i+1,hi=>by
  obtain⟨st,h1,h2⟩:=Aa4 (ws:=ws) h hk hc hpos hnum hf hLB i (by omega);obtain⟨st',h3,h4⟩:=Ai1 h hk hc (by omega) h2 hf hLB;exact⟨st',by rw[Hj,h1];exact h3,h4⟩
theorem Afg{a b:Nd}(h:Vn a b):El ln num a=El ln num b:=by
 funext x;unfold El;rw[h.1,h.2.1]
theorem Vp{nds':List Nd}(h:Iw nds' nds)(n:Nat):Ao ln num nds' col n=Ao ln num nds col n:=by
 unfold Ao;rw[Afg (h.2 n)]
theorem Akg{LB:Nat}(h:Bg M ln o nds)(hn:o.Nodup)(hk:G7 M ln num o)(hc: ∀b∈col,b∈o)(hpos: ∀b∈o,0<ln b)(hnum: ∀b∈o,num b<2^ln b)(hf: ∀k,k<(A0 ln num nds col nds.length).length→f k=decide ((A0 ln num nds col nds.length).getD k 0=1))(hLB:(A0 ln num nds col nds.length).length≤LB):
  ∃st,Nn f LB nds col.length (List.replicate 256 0)=some st∧st.len=(A0 ln num nds col nds.length).length∧Iw st.nds nds∧Rep ln num f st.nds col∧ ∀v:UInt8,st.ws.getD v.toNat 0=col.count v:=by
 obtain⟨st,h1,h2⟩:=Aa4 (ws:=List.replicate 256 0) h hk hc hpos hnum hf hLB nds.length (Ale _);have hi:=Oi h hn rfl (Ale _) h1;have hlk:=h2.like;have sizes: ∀n,n<nds.length→(Ab st.nds n).siz=(Ao ln num nds col n).length:=fun n hl=>by
  refine h2.siz n hl ?_
  by_cases e:n=0
  ·exact .inl e
  ·obtain⟨j,u,q1,q2,q3⟩:=h.par n (by omega) hl;exact .inr ⟨j,u,by omega,q1,q3⟩
 have hsh:=h.like hlk;have rep:Rep ln num f st.nds col:=by
  refine⟨fun n hl=>?_,fun n hl=>hi.frm n (by rw[hlk.1]at hl;exact hl),fun n p hl hp=>?_⟩
  ·rw[hlk.1]at hl;rw[Vp hlk,sizes n hl]
  ·rw[hlk.1]at hl;rw[sizes n hl]at hp;obtain⟨q1,q2⟩:=Tq ln num nds col hl hp;rw[hi.frm n hl,h2.st n (by omega),hf _ q2,q1,Vp hlk,(hlk.2 n).1]
 refine⟨st,h1,h2.len,hlk,rep,fun v=>?_⟩;have h2':Ll f col.length st.nds.length st:=by rw[hlk.1];exact hi
 obtain⟨col',c1,c2,c3,c4⟩:=Aa1 h2' rfl hsh hk hnum hpos;have same: ∀m n,nds.length-n≤m→n<nds.length→Ao ln num st.nds col n=Ao ln num st.nds col' n:=by
  intro m;induction m with
  |zero=>intro n h3 h4;omega
  |succ m ih=>
   intro n h3 h4;have h4':n<st.nds.length:=by rw[hlk.1];exact h4
   have lens:(Ao ln num st.nds col n).length=(Ao ln num st.nds col' n).length:=by rw[←rep.siz n h4',←c3.siz n h4']
   have sub: ∀(c:List UInt8) (_: ∀b∈c,b∈o) u,u<2→(∀m',0<m'→(Ab st.nds n).br u={node:=m'}→(Ao ln num st.nds c n).filter (fun b=>Av ln num (Ab st.nds n).depth b==u)=Ao ln num st.nds c m')∧(∀v,(Ab st.nds n).br u={whole:=true,val:=v}→ ∀b∈(Ao ln num st.nds c n).filter (fun b=>Av ln num (Ab st.nds n).depth b==u),b=v):=by
    intro c hcm u hu;refine⟨fun m' hm' e=>(hsh.col_child hk hcm h4' hu hm' e).symm,fun v e b hb=>?_⟩;obtain⟨q1,q2⟩:=List.mem_filter.1 hb;obtain⟨q3,q4⟩:=List.mem_filter.1 q1;have q5:Av ln num (Ab st.nds n).depth b=u:=by simpa using q2
    cases hsh.good n u h4' hu with
    |leaf kk hkk e1 e2 e3=>
     rw[e1]at e;have ev:o.getD kk 0=v:=by injection e
     rw[←ev];exact Li hk (hcm b q3) q4 hkk e2 (by rw[q5];exact e3)
    |node _ e1=>rw[e1]at e;cases e
    |none e1=>rw[e1]at e;cases e
   apply Amf lens;intro p h5 h6;have hp:p<(Ab st.nds n).siz:=by rw[rep.siz n h4'];exact h5
   have bits:(Ao ln num st.nds col n).map (fun b=>Av ln num (Ab st.nds n).depth b)=(Ao ln num st.nds col' n).map (fun b=>Av ln num (Ab st.nds n).depth b):=by
    apply Amf
    ·rw[Al6,Al6,lens]
    ·intro q h7 h8;rw[Al6]at h7 h8;have hq:q<(Ab st.nds n).siz:=by rw[rep.siz n h4'];exact h7
     have e1:=rep.bit n q h4' hq;have e2:=c3.bit n q h4' hq;rw[e1,decide_eq_decide,Ak6,Ak7 h7,Ak6,Ak7 h8]at e2;rw[Am5,Am5];have b1:=Fy ln num (Ab st.nds n).depth (Ao ln num st.nds col n)[q];have b2:=Fy ln num (Ab st.nds n).depth (Ao ln num st.nds col' n)[q];have e3:Av ln num (Ab st.nds n).depth (Ao ln num st.nds col n)[q]=1↔Av ln num (Ab st.nds n).depth (Ao ln num st.nds col' n)[q]=1:=e2;omega
   have rank: ∀(a b:List UInt8) (g:UInt8→Nat),a.map g=b.map g→(∀u,a.filter (fun x=>g x==u)=b.filter (fun x=>g x==u))→a=b:=by
    intro a;induction a with
    |nil=>intro b g e _;cases b with
     |nil=>rfl
     |cons y t=>simp at e
    |cons x r ihr=>
     intro b g e hfl;cases b with
     |nil=>simp at e
     |cons y t=>
      rw[Amu,Amu]at e;injection e with e1 e2;have h0:=hfl (g x);rw[Am1,Am1,e1,if_pos (Aoi _),if_pos (Aoi _)]at h0;injection h0 with h00 _;subst h00;congr 1;refine ihr t g e2 fun u=>?_;have h1:=hfl u;rw[Am1,Am1]at h1;split at h1
      ·injection h1
      ·exact h1
   have fl: ∀u,(Ao ln num st.nds col n).filter (fun b=>Av ln num (Ab st.nds n).depth b==u)=(Ao ln num st.nds col' n).filter (fun b=>Av ln num (Ab st.nds n).depth b==u):=by
    intro u
    by_cases hu:u<2
    ·have ln1:((Ao ln num st.nds col n).filter (fun b=>Av ln num (Ab st.nds n).depth b==u)).length=((Ao ln num st.nds col' n).filter (fun b=>Av ln num (Ab st.nds n).depth b==u)).length:=by
      have cp: ∀l:List UInt8,(l.filter (fun b=>Av ln num (Ab st.nds n).depth b==u)).length=(l.map (fun b=>Av ln num (Ab st.nds n).depth b)).countP (· ==u):=fun l=>by
       rw[List.countP_map,Aow];rfl
      rw[cp,cp,bits]
     cases hg:hsh.good n u h4' hu with
     |leaf kk hkk e1=>
      have r1:=(sub col hc u hu).2 _ e1;have r2:=(sub col' c2 u hu).2 _ e1;rw[List.eq_replicate_of_mem r1,List.eq_replicate_of_mem r2,ln1]
     |node m' e1 q1 q2=>
      rw[(sub col hc u hu).1 m' (by omega) e1,(sub col' c2 u hu).1 m' (by omega) e1];rw[hlk.1]at q2;exact ih m' (by omega) q2
     |none e1 q1=>
      have em: ∀(c:List UInt8) (_: ∀b∈c,b∈o),(Ao ln num st.nds c n).filter (fun b=>Av ln num (Ab st.nds n).depth b==u)=[]:=by
       intro c hcm;rw[List.filter_eq_nil_iff];intro b hb hx;have hb2:=List.mem_filter.1 hb;have hx2:Av ln num (Ab st.nds n).depth b=u:=by simpa using hx
       refine Ka hk (hcm b hb2.1) hb2.2 ?_;rw[hx2];exact q1
      rw[em col hc,em col' c2]
    ·have em: ∀l:List UInt8,l.filter (fun b=>Av ln num (Ab st.nds n).depth b==u)=[]:=fun l=>by
      rw[List.filter_eq_nil_iff];intro b _ hx;have hx2:Av ln num (Ab st.nds n).depth b=u:=by simpa using hx
      have:=Fy ln num (Ab st.nds n).depth b;omega
     rw[em,em]
   have:=rank _ _ _ bits fl;simp only[this]
 have root: ∀c:List UInt8,(∀b∈c,b∈o)→Ao ln num st.nds c 0=c:=fun c hcm=>by
  unfold Ao;refine List.filter_eq_self.2 fun b hb=>Alb ⟨by rw[hsh.root.1];exact hpos b (hcm b hb),?_⟩;rw[hsh.root.1,hsh.root.2,Aoz];exact Nat.div_eq_of_lt (hnum b (hcm b hb))
 have e:=same nds.length 0 (by omega) h.more;rw[root col hc,root col' c2]at e;rw[c4 v,e]
end
end Hm
end Go.Proofs.YtegnkfdbmmndaaaGreat
namespace Go.Proofs.YtegnkfdbmmndaaaGreat
open Hm
open Go.RowKit
def Du(b:Hm.Br):List Value:=[.bool b.whole,.int .u8 (b.val.toNat:Nat),.int .i64 (b.node:Nat)]
def Ce(n:Hm.Nd):List Value:=[.int .i64 (n.depth:Nat),.int .i64 (n.frm:Nat),.int .i64 (n.siz:Nat),.bool n.b0.whole,.int .u8 (n.b0.val.toNat:Nat),.int .i64 (n.b0.node:Nat),.bool n.b1.whole,.int .u8 (n.b1.val.toNat:Nat),.int .i64 (n.b1.node:Nat)]
def A9:List Hm.Nd→List Value
 |[]=>[]
 |n::r=>Ce n++A9 r
theorem My(a b:List Hm.Nd):A9 (a++b)=A9 a++A9 b:=by
 induction a with
 |nil=>rfl
 |cons n r ih=>show Ce n++A9 (r++b)=_;rw[ih,←Alx];rfl
theorem Zq(l:List Hm.Nd):(A9 l).length=l.length*9:=by
 induction l with
 |nil=>rfl
 |cons n r ih=>show(Ce n++A9 r).length=_;rw[Alg,ih,Amc];show 9+_=_;omega
theorem Afh(l:List Hm.Nd): ∀v∈A9 l,v.oneCell'=true:=by
 induction l with
 |nil=>intro v hv;simp[A9]at hv
 |cons n r ih=>
  intro v hv;rcases Ao7.1 hv with h|h
  ·simp only[Ce,List.mem_cons,List.not_mem_nil,or_false]at h;rcases h with rfl|rfl|rfl|rfl|rfl|rfl|rfl|rfl|rfl<;>rfl
  ·exact ih v h
theorem Yn(l:List Hm.Nd)(i:Nat)(h:i<l.length)(n:Hm.Nd):l.set i n=l.take i++(n::l.drop (i+1)):=by
 rw[List.set_eq_take_append_cons_drop,if_pos h]
theorem Ai2(l:List Hm.Nd)(i:Nat)(h:i<l.length):l=l.take i++(Ab l i::l.drop (i+1)):=by
 rw[←Yn l i h];unfold Ab;rw[Ak6,Ak7 h];exact(List.set_getElem_self h).symm
theorem Rn(l:List Hm.Nd)(i:Nat)(h:i<l.length)(n:Hm.Nd):A9 (l.set i n)=A9 (l.take i)++(Ce n++A9 (l.drop (i+1))):=by
 rw[Yn l i h,My];rfl
theorem O0(l:List Hm.Nd)(i:Nat)(h:i<l.length):A9 l=A9 (l.take i)++(Ce (Ab l i)++A9 (l.drop (i+1))):=by
 conv=>lhs;rw[Ai2 l i h]
 rw[My];rfl
theorem Aeq(a b c:List Value)(j:Nat)(v:Value)(h:j<b.length):(a++(b++c)).set (a.length+j) v=a++(b.set j v++c):=by
 rw[Amt _ _ (by omega),Aof,List.set_append_left _ _ h]
theorem Ih(l:List Hm.Nd)(i:Nat)(h:i<l.length):(A9 (l.take i)).length=i*9:=by
 rw[Zq,Aln,Ant (by omega)]
theorem Afi(l:List Hm.Nd)(i j:Nat)(h:i<l.length)(hj:j<9):(A9 l)[i*9+j]?=(Ce (Ab l i))[j]?:=by
 rw[O0 l i h,Alt (by rw[Ih l i h];omega),Ih l i h,Aof,Amh (by show j<9;exact hj)]
theorem Tr(l:List Hm.Nd)(i j:Nat)(h:i<l.length)(hj:j<9)(v:Value)(n:Hm.Nd)(e:Ce n=(Ce (Ab l i)).set j v):(A9 l).set (i*9+j) v=A9 (l.set i n):=by
 rw[Rn l i h n,e,O0 l i h];have:=Aeq (A9 (l.take i)) (Ce (Ab l i)) (A9 (l.drop (i+1))) j v (by show j<9;exact hj);rw[Ih l i h]at this;exact this
theorem Vq(l:List Hm.Nd)(i s:Nat)(h:i<l.length):(A9 l).set (i*9+2) (.int .i64 (s:Nat))=A9 (Es l i s):=Tr l i 2 h (by omega) _ _ rfl
theorem Afj(l:List Hm.Nd)(i s:Nat)(h:i<l.length):(A9 l).set (i*9+1) (.int .i64 (s:Nat))=A9 (D2 l i s):=Tr l i 1 h (by omega) _ _ rfl
theorem Yo(l:List Hm.Nd)(i s:Nat)(h:i<l.length)(hs:s<2)(b:Hm.Br):(((A9 l).set (i*9+3+s*3) (.bool b.whole)).set (i*9+3+s*3+1) (.int .u8 (b.val.toNat:Nat))).set (i*9+3+s*3+2) (.int .i64 (b.node:Nat))=A9 (Bz l i s b):=by
 unfold Bz;rw[Rn l i h,O0 l i h];have tl:=Ih l i h;have m1:=fun(B:List Value) (j:Nat) (v:Value) (hj:j<B.length)=>Aeq (A9 (l.take i)) B (A9 (l.drop (i+1))) j v hj;rw[tl]at m1;rcases(show s=0∨s=1 by omega)with rfl|rfl
 ·rw[show i*9+3+0*3=i*9+3 from by omega,show i*9+3+1=i*9+4 from by omega,show i*9+3+2=i*9+5 from by omega,m1 _ 3 _ (by show 3<9;omega),m1 _ 4 _ (by show 4<9;omega),m1 _ 5 _ (by show 5<9;omega)];rfl
 ·rw[show i*9+3+1*3=i*9+6 from by omega,show i*9+6+1=i*9+7 from by omega,show i*9+6+2=i*9+8 from by omega,m1 _ 6 _ (by show 6<9;omega),m1 _ 7 _ (by show 7<9;omega),m1 _ 8 _ (by show 8<9;omega)];rfl
theorem Hl{w:World}{base g cap n:Nat}{nds:List Hm.Nd}(h:w.ownsRow base 195 9 (.slice (some ⟨g,0,none⟩) n cap) n (A9 nds))(hn:n=nds.length){i:Nat}(hi:i<nds.length)(j:Nat)(hj:j<9):w.cell? ⟨g,i*9+j,none⟩=(Ce (Ab nds i))[j]?:=by
 rw[h.cellAt (i*9+j) (by omega),Afi _ _ _ hi hj]
theorem Afk{w:World}{base g cap n:Nat}{nds:List Hm.Nd}(h:w.ownsRow base 195 9 (.slice (some ⟨g,0,none⟩) n cap) n (A9 nds))(hn:n=nds.length){i:Nat}(hi:i<nds.length):w.cell? ⟨g,i*9,none⟩=some (.int .i64 ((Ab nds i).depth:Nat)):=Hl h hn hi 0 (by omega)
theorem Uz{w:World}{base g cap n:Nat}{nds:List Hm.Nd}(h:w.ownsRow base 195 9 (.slice (some ⟨g,0,none⟩) n cap) n (A9 nds))(hn:n=nds.length){i:Nat}(hi:i<nds.length):w.cell? ⟨g,i*9+1,none⟩=some (.int .i64 ((Ab nds i).frm:Nat)):=Hl h hn hi 1 (by omega)
theorem U0{w:World}{base g cap n:Nat}{nds:List Hm.Nd}(h:w.ownsRow base 195 9 (.slice (some ⟨g,0,none⟩) n cap) n (A9 nds))(hn:n=nds.length){i:Nat}(hi:i<nds.length):w.cell? ⟨g,i*9+2,none⟩=some (.int .i64 ((Ab nds i).siz:Nat)):=Hl h hn hi 2 (by omega)
theorem Ahf:(Tryz.prog.info? 195).map (fun i=>(i.zero,i.size,i.bytes))=some (some (.agg (Ce {}).toArray),9,56):=by kernel_rfl
end Go.Proofs.YtegnkfdbmmndaaaGreat
