import Derived.Test.YtegnkfdbmmndaaaGreatJ12

set_option maxHeartbeats 8000000
namespace Go.Proofs.YtegnkfdbmmndaaaGreat
open Hm Go.Proofs.Tryz Go.RowKit
namespace Hm
def Ky(gs:List Grp):Nat:=(gs.map (·.1)).sum
def Jz(gs:List Grp):Nat:=(gs.map (·.2.2.length)).sum
theorem U1(a b:List Grp):Ky (a++b)=Ky a+Ky b:=by simp[Ky]
theorem Aew(a b:List Grp):Jz (a++b)=Jz a+Jz b:=by simp[Jz]
theorem Vz(g:Grp):Ky [g]=g.1:=by simp[Ky]
theorem Aky(g:Grp):Jz [g]=g.2.2.length:=by simp[Jz]
theorem Kv: ∀(gs:List Grp) (i:Nat),i<gs.length→Ky (gs.eraseIdx i)+(gs.getD i (0,0,[])).1=Ky gs
 |g::gs,0,_=>by simp[Ky];omega
 |g::gs,i+1,h=>by
  have:=Kv gs i (by simpa using h);simp only[Ky,List.eraseIdx_cons_succ,Aos,Aqo,Aq8]at*;omega
theorem Od: ∀(gs:List Grp) (i:Nat),i<gs.length→Jz (gs.eraseIdx i)+(gs.getD i (0,0,[])).2.2.length=Jz gs
 |g::gs,0,_=>by simp[Jz];omega
 |g::gs,i+1,h=>by
  have:=Od gs i (by simpa using h);simp only[Jz,List.eraseIdx_cons_succ,Aos,Aqo,Aq8]at*;omega
theorem Aco(gs:List Grp)(i:Nat)(h:i<gs.length):gs.getD i (0,0,[])∈gs:=by
 rw[Am4,Am5 h];exact Anm _
structure Kz(gs:List Grp):Prop where
 w:Ky gs≤6000
 m:Jz gs≤256
 ne: ∀g∈gs,0<g.2.2.length
theorem Kz.len{gs:List Grp}(h:Kz gs):gs.length≤256:=by
 have h1:=h.m;have key: ∀l:List Grp,(∀g∈l,0<g.2.2.length)→l.length≤Jz l:=by
  intro l;induction l with
  |nil=>intro _;simp
  |cons g l ih=>
   intro a;have h2:=ih (fun x b=>a x (Anr _ b));have c:=a g Anl;simp only[Jz,Aos,Aqo,An8]at*;omega
 have:=key gs h.ne;omega
def Ar(gs:List Grp):Grp:=gs.getD (first gs) (0,0,[])
def left(gs:List Grp):List Grp:=gs.eraseIdx (first gs)
theorem Eh(gs:List Grp)(h:0<gs.length):(left gs).length+1=gs.length:=by
 rw[left,List.length_eraseIdx_of_lt (Gw gs h)];omega
theorem Kz.left{gs:List Grp}(h:Kz gs)(a:0<gs.length):Kz (left gs):=by
 have h1:=Kv gs (first gs) (Gw gs a);have h2:=Od gs (first gs) (Gw gs a);have:=h.w;have:=h.m;exact⟨by rw[Hm.left];omega,by rw[Hm.left];omega,fun g b=>h.ne g (List.mem_of_mem_eraseIdx b)⟩
def K0(gs:List Grp):Grp:=Ez (Ar gs) (Ar (left gs))
def step(gs:List Grp):List Grp:=left (left gs)++[K0 gs]
theorem U2(gs:List Grp)(h:1<gs.length):(step gs).length+1=gs.length:=by
 have h1:=Eh gs (by omega);have h2:=Eh (left gs) (by omega);rw[step,Anf,List.length_singleton];omega
theorem Acp{gs:List Grp}(h:Kz gs)(a:0<gs.length):Ky (left gs)+(Ar gs).1≤6000∧Jz (left gs)+(Ar gs).2.2.length≤256∧0<(Ar gs).2.2.length:=by
 have h1:=Kv gs (first gs) (Gw gs a);have h2:=Od gs (first gs) (Gw gs a);have:=h.w;have:=h.m;exact⟨by rw[left,Ar];omega,by rw[left,Ar];omega,h.ne _ (Aco gs _ (Gw gs a))⟩
theorem Agj{gs:List Grp}(h:Kz gs)(c:1<gs.length):Ky (left (left gs))+(Ar gs).1+(Ar (left gs)).1≤6000∧Jz (left (left gs))+(Ar gs).2.2.length+(Ar (left gs)).2.2.length≤256∧0<(Ar gs).2.2.length∧0<(Ar (left gs)).2.2.length:=by
 have d:=Eh gs (by omega);have a:=Acp h (by omega);have h1:=Kv (left gs) (first (left gs)) (Gw _ (by omega));have h2:=Od (left gs) (first (left gs)) (Gw _ (by omega));have b:=Acp (h.left (by omega)) (by omega);refine⟨?_,?_,a.2.2,b.2.2⟩
 ·rw[show left (left gs)=(left gs).eraseIdx (first (left gs))from rfl,show Ar (left gs)=(left gs).getD (first (left gs)) (0,0,[])from rfl];omega
 ·rw[show left (left gs)=(left gs).eraseIdx (first (left gs))from rfl,show Ar (left gs)=(left gs).getD (first (left gs)) (0,0,[])from rfl];omega
theorem Kz.step{gs:List Grp}(h:Kz gs)(b:1<gs.length):Kz (step gs):=by
 have hb:=Agj h b;have c:=Eh gs (by omega);have h2:=(h.left (by omega)).left (by omega);refine⟨?_,?_,?_⟩
 ·rw[Hm.step,U1,Vz,K0,Ez];simp only[];omega
 ·rw[Hm.step,Aew,Aky,K0,Ez];simp only[Anf];omega
 ·intro g a;rw[Hm.step,Aq3,List.mem_singleton]at a;rcases a with a|rfl
  ·exact h2.ne g a
  ·rw[K0,Ez];simp only[Anf];omega
def bump(L:Ard):Arc→Ard
 |[]=>L
 |b::bs=>bump (L.set b.toNat (L.getD b.toNat 0+1)) bs
theorem K7: ∀(bs:Arc) (L:Ard),(bump L bs).length=L.length
 |[],_=>rfl
 |b::bs,L=>by rw[bump,K7 bs];simp
theorem Yk: ∀(bs:Arc) (L:Ard) (M:Nat),(∀x∈L,x≤M)→ ∀x∈bump L bs,x≤M+bs.length
 |[],L,M,h,x,a=>by simpa using h x a
 |b::bs,L,M,h,x,a=>by
  have:=Yk bs _ (M+1) (fun y c=>by
   rcases List.mem_or_eq_of_mem_set c with c|rfl
   ·have:=h y c;omega
   ·have:L.getD b.toNat 0≤M:=by
     rw[Am4]
     by_cases hb:b.toNat<L.length
     ·rw[Am5 hb];exact h _ (Anm _)
     ·rw[Anx (by omega)];simp
    omega) x a
  simp only[An8];omega
theorem Zo: ∀(bs:Arc) (L:Ard) (b:UInt8),bump L (bs++[b])=(bump L bs).set b.toNat ((bump L bs).getD b.toNat 0+1)
 |[],_,_=>rfl
 |c::bs,L,b=>by rw[Aqw,bump,Zo bs,←bump]
def Bv(gs:List Grp)(L:Ard):Nat→List Grp×Ard
 |0=>(gs,L)
 |k+1=>(step (Bv gs L k).1,bump (Bv gs L k).2 (K0 (Bv gs L k).1).2.2)
def lens(t:Arc):Ard:=
 let gs:=Aj t 256
 let L:=List.replicate 256 0
 if gs.length=1 then L.set (gs.getD 0 (0,0,[])).2.1.toNat 1 else(Bv gs L (gs.length-1)).2
theorem Acq(t:Arc)(b:Nat):Jz (Aj t b)≤b:=by
 have:Jz (Aj t b)=(Aj t b).length:=by
  unfold Jz Aj;rw[List.map_map,Anz];generalize(List.range b).filter _=l;induction l with
  |nil=>rfl
  |cons x l ih=>simp only[Aos,Aqo,An8,Function.comp,ih];simp;omega
 rw[this];exact Qf t b
theorem Ta(t:Arc): ∀b,Ky (Aj t b)=t.countP fun x=>decide (x.toNat<b)
 |0=>by simp[Aj,Ky]
 |b+1=>by
  rw[S8,U1,Ta t b];have e:(t.countP fun x=>decide (x.toNat<b+1))=(t.countP fun x=>decide (x.toNat<b))+cnt t b:=by
   unfold cnt;induction t with
   |nil=>rfl
   |cons x t ih=>
    simp only[Aox,ih]
    by_cases h1:x.toNat<b
    ·have h2:x.toNat<b+1:=by omega
     have a: ¬x.toNat=b:=by omega
     simp[h1,h2,a];omega
    ·by_cases a:x.toNat=b
     ·have h2:x.toNat<b+1:=by omega
      simp[a];omega
     ·have h2: ¬x.toNat<b+1:=by omega
      simp[h1,h2,a]
  rw[e]
  by_cases h:0<cnt t b
  ·rw[if_pos h,Vz]
  ·rw[if_neg h];simp only[Ky,Aqy,List.sum_nil];omega
theorem Oz(t:Arc)(h:t.length≤6000):Kz (Aj t 256):=by
 refine⟨?_,Acq t 256,?_⟩
 ·rw[Ta];exact Ant List.countP_le_length h
 ·intro g a;unfold Aj at a;obtain⟨x,_,rfl⟩:=List.mem_map.1 a;simp
end Hm
end Go.Proofs.YtegnkfdbmmndaaaGreat
namespace Go.Proofs.YtegnkfdbmmndaaaGreat
open Hm Go.Proofs.Tryz
namespace Hm
def fib:Nat→Nat
 |0=>1
 |1=>2
 |n+2=>fib (n+1)+fib n
theorem Agk: ∀n,1≤fib n
 |0=>by decide
 |1=>by decide
 |n+2=>by have:=Agk (n+1);rw[fib];omega
theorem Akz: ∀n,fib n≤fib (n+1)
 |0=>by decide
 |n+1=>by rw[fib];omega
theorem Amx{m n:Nat}(h:m≤n):fib m≤fib n:=by
 induction h with
 |refl=>exact Ane _
 |step _ ih=>exact Ant ih (Akz _)
theorem Zp(n:Nat)(h:fib n≤6000):n≤17:=by
 apply Nat.le_of_not_lt;intro k;have:=Amx (show 18≤n from k);have e:fib 18=6765:=by decide
 omega
abbrev ln(L:Ard)(b:UInt8):Nat:=L.getD b.toNat 0
theorem Tb: ∀(bs:Arc) (L:Ard) (b:UInt8),b.toNat<L.length→ln (bump L bs) b=ln L b+bs.count b
 |[],L,b,_=>by simp[bump]
 |c::bs,L,b,h=>by
  rw[bump,Tb bs _ b (by simpa using h),List.count_cons]
  by_cases e:c=b
  ·subst e;have:(L.set c.toNat (L.getD c.toNat 0+1)).getD c.toNat 0=L.getD c.toNat 0+1:=by
    rw[Am4,Aqu h];rfl
   simp only[ln,this,Aqa,if_true];omega
  ·have a:c.toNat≠b.toNat:=fun k=>e (UInt8.toNat_inj.1 k);have:(L.set c.toNat (L.getD c.toNat 0+1)).getD b.toNat 0=L.getD b.toNat 0:=by
    rw[Am4,Ap9 a,←Am4]
   simp only[ln,this];have e2:(c==b)=false:=by simpa using e
   simp[e2]
theorem Ue{bs:Arc}{L:Ard}{b:UInt8}(a:L.length=256)(hn:bs.Nodup)(hb:b∈bs):ln (bump L bs) b=ln L b+1:=by
 rw[Tb bs L b (by rw[a];exact b.toNat_lt),List.Nodup.count hn,if_pos hb]
theorem V4{bs:Arc}{L:Ard}{b:UInt8}(a:L.length=256)(hb:b∉bs):ln (bump L bs) b=ln L b:=by
 rw[Tb bs L b (by rw[a];exact b.toNat_lt),List.count_eq_zero_of_not_mem hb];omega
def kr(M:Nat)(L:Ard)(ms:Arc):Nat:=(ms.map fun b=>2^(M-ln L b)).sum
theorem Pm(M:Nat)(L:Ard)(a b:Arc):kr M L (a++b)=kr M L a+kr M L b:=by simp[kr]
theorem Agl{M:Nat}{L:Ard}(a:L.length=256){bs:Arc}(hn:bs.Nodup): ∀ms:Arc,(∀b∈ms,b∈bs)→kr (M+1) (bump L bs) ms=kr M L ms
 |[],_=>rfl
 |b::ms,h=>by
  have ih:=Agl (M:=M) a hn ms (fun x c=>h x (Anr _ c));unfold kr at*;rw[Aos,Aqo,Aos,Aqo,ih,Ue a hn (h b Anl),show M+1-(ln L b+1)=M-ln L b from by omega]
theorem Agm{M:Nat}{L K:Ard}: ∀ms:Arc,(∀b∈ms,ln K b=ln L b)→kr M K ms=kr M L ms
 |[],_=>rfl
 |b::ms,h=>by
  have ih:=Agm (M:=M) ms (fun x a=>h x (Anr _ a));unfold kr at*;rw[Aos,Aqo,Aos,Aqo,ih,h b Anl]
theorem R3(gs:List Grp): ∀k,k≤gs.length→ ∀i,i<k→(gs.getD (Cn gs k) (0,0,[])).1≤(gs.getD i (0,0,[])).1
 |0,_,i,h=>by omega
 |k+1,hk,i,h=>by
  have ih:=R3 gs k (by omega);rw[Cn];have neg: ∀g h:Grp,Mn g h<0↔ltP (g.1,g.2.1.toNat) (h.1,h.2.1.toNat):=fun g h=>Ox (g.1,g.2.1.toNat) (h.1,h.2.1.toNat)
  by_cases c:Mn (gs.getD k (0,0,[])) (gs.getD (Cn gs k) (0,0,[]))<0
  ·rw[if_pos c];have c':=(neg _ _).1 c;unfold ltP at c';simp only at c'
   by_cases e:i=k
   ·subst e;exact Ane _
   ·have:=ih i (by omega);omega
  ·rw[if_neg c];have c':=mt (neg _ _).2 c;unfold ltP at c';simp only at c'
   by_cases e:i=k
   ·subst e;omega
   ·exact ih i (by omega)
theorem U3(gs:List Grp)(g:Grp)(a:g∈gs):(Ar gs).1≤g.1:=by
 obtain⟨i,hi,rfl⟩:=Aog a;have:=R3 gs gs.length (Ane _) i hi;rw[Am4 (i:=i),Am5 hi]at this;exact this
theorem Zq(gs:List Grp)(h:0<gs.length):Ar gs∈gs:=Aco gs _ (Gw gs h)
theorem Ww{α:Type}: ∀(l:List α) (i:Nat) (h:i<l.length),l.Perm (l[i]::l.eraseIdx i)
 |a::l,0,_=>List.Perm.refl _
 |a::l,i+1,h=>by
  have ih:=Ww l i (by simpa using h);rw[List.eraseIdx_cons_succ,List.getElem_cons_succ];exact(ih.cons a).trans (List.Perm.swap _ _ _)
theorem I5(gs:List Grp)(h:0<gs.length):gs.Perm (Ar gs::left gs):=by
 have a:=Gw gs h;have e:Ar gs=gs[first gs]:=by rw[Ar,Am4,Am5 a];rfl
 rw[e,left];exact Ww gs _ a
theorem O0(gs:List Grp)(h:1<gs.length):gs.Perm (Ar gs::Ar (left gs)::left (left gs)):=by
 have h1:=Eh gs (by omega);exact(I5 gs (by omega)).trans ((I5 (left gs) (by omega)).cons _)
def Bp(gs:List Grp):Arc:=gs.flatMap (·.2.2)
structure Mo(gs:List Grp)(L:Ard):Prop where
 len:L.length=256
 nd:(Bp gs).Nodup
 ne: ∀g∈gs,g.2.2≠[]
 kr: ∀g∈gs,∀M,(∀b∈g.2.2,ln L b≤M)→kr M L g.2.2=2^M
 f1: ∀g∈gs,∀b∈g.2.2,fib (ln L b)≤g.1
 f2:gs.Pairwise fun g h=>(∀b∈g.2.2,fib (ln L b-1)≤h.1)∧ ∀b∈h.2.2,fib (ln L b-1)≤g.1
theorem Mo.perm{gs hs:List Grp}{L:Ard}(h:Mo gs L)(p:gs.Perm hs):Mo hs L:=
 ⟨h.len,((p.flatMap_right _).nodup_iff).1 h.nd,fun g a=>h.ne g (p.mem_iff.2 a),fun g a=>h.kr g (p.mem_iff.2 a),fun g a=>h.f1 g (p.mem_iff.2 a),
  (p.pairwise_iff (fun{_ _} k=>⟨k.2,k.1⟩)).1 h.f2⟩
theorem Mo.merge{x y:Grp}{gs:List Grp}{L:Ard}(h:Mo (x::y::gs) L)(q: ∀g∈gs,x.1≤g.1)(s: ∀g∈gs,y.1≤g.1):Mo (Ez x y::gs) (bump L (Ez x y).2.2):=by
 have i:=h.nd;unfold Bp at i;rw[Aoe,Aoe,←An4]at i;have f:(Ez x y).2.2=x.2.2++y.2.2:=rfl;have hn:(Ez x y).2.2.Nodup:=by rw[f];exact(List.nodup_append.1 i).1
 have inn: ∀b∈(Ez x y).2.2,ln (bump L (Ez x y).2.2) b=ln L b+1:=fun b hb=>Ue h.len hn hb;have out: ∀g∈gs,∀b∈g.2.2,ln (bump L (Ez x y).2.2) b=ln L b:=fun g c b hb=>V4 h.len fun p=>by
  have:=(List.nodup_append.1 i).2.2;exact this b (by rw[←f];exact p) b (List.mem_flatMap.2 ⟨g,c,hb⟩) rfl
 have l:=h.f2;rw[Aqx,Aqx]at l;obtain⟨p1,p2,p3⟩:=l;have pxy:=p1 y Anl;have deep: ∀b∈(Ez x y).2.2,fib (ln L b+1)≤x.1+y.1:=fun b hb=>by
  rw[f,Aq3]at hb;have grow: ∀n a b:Nat,fib n≤a→fib (n-1)≤b→fib (n+1)≤a+b:=fun n a b h1 h2=>by
   cases n with
   |zero=>rw[show fib (0+1)=2 from rfl];have:=Agk 0;have e:fib (0-1)=1:=rfl;have e2:fib 0=1:=rfl;omega
   |succ n=>rw[fib];simp only[Ap1]at h2;omega
  rcases hb with hb|hb
  ·exact grow _ _ _ (h.f1 x Anl b hb) (pxy.1 b hb)
  ·have:=grow _ _ _ (h.f1 y (Anr _ Anl) b hb) (pxy.2 b hb);omega
 refine⟨by rw[K7];exact h.len,?_,fun g c=>?_,fun g c M hM=>?_,fun g c b hb=>?_,?_⟩
 ·unfold Bp;rw[Aoe,f];exact i
 ·rcases List.mem_cons.1 c with rfl|c
  ·rw[f];exact fun k=>h.ne x Anl (List.append_eq_nil_iff.1 k).1
  ·exact h.ne g (Anr _ (Anr _ c))
 ·rcases List.mem_cons.1 c with rfl|c
  ·have m:=h.ne x Anl;obtain⟨b0,j⟩:=List.exists_mem_of_ne_nil _ m;have o:=hM b0 (by rw[f];exact Ap0 _ j);rw[inn b0 (by rw[f];exact Ap0 _ j)]at o;obtain⟨M',rfl⟩: ∃M',M=M'+1:=⟨M-1,by omega⟩;rw[Agl h.len hn _ (fun _ hb=>hb),f,Pm,h.kr x Anl M' (fun b hb=>by
     have d:b∈(Ez x y).2.2:=by rw[f];exact Ap0 _ hb
     have:=hM b d;rw[inn b d]at this;omega),
    h.kr y (Anr _ Anl) M' (fun b hb=>by
     have d:b∈(Ez x y).2.2:=by rw[f];exact List.mem_append_right _ hb
     have:=hM b d;rw[inn b d]at this;omega),Aoz]
   omega
  ·rw[Agm _ (out g c)];exact h.kr g (Anr _ (Anr _ c)) M fun b hb=>by have:=hM b hb;rw[out g c b hb]at this;exact this
 ·rcases List.mem_cons.1 c with rfl|c
  ·rw[inn b hb];exact deep b hb
  ·rw[out g c b hb];exact h.f1 g (Anr _ (Anr _ c)) b hb
 ·rw[Aqx];refine⟨fun g c=>⟨fun b hb=>?_,fun b hb=>?_⟩,?_⟩
  ·rw[inn b hb,Ap1];rw[f,Aq3]at hb;rcases hb with hb|hb
   ·exact Ant (h.f1 x Anl b hb) (q g c)
   ·exact Ant (h.f1 y (Anr _ Anl) b hb) (s g c)
  ·rw[out g c b hb];have:=(p2 g c).2 b hb;show _≤x.1+y.1;omega
  ·refine p3.imp_of_mem fun{g k} c hk r=>⟨fun b hb=>?_,fun b hb=>?_⟩
   ·rw[out g c b hb];exact r.1 b hb
   ·rw[out k hk b hb];exact r.2 b hb
theorem Mo.step{gs:List Grp}{L:Ard}(h:Mo gs L)(h1:1<gs.length):Mo (step gs) (bump L (K0 gs).2.2):=by
 have b:=O0 gs h1;have c:=Eh gs (by omega);have w:=(h.perm b).merge (fun g a=>U3 gs g (b.mem_iff.2 (Anr _ (Anr _ a)))) (fun g a=>U3 (left gs) g ((I5 (left gs) (by omega)).mem_iff.2 (Anr _ a)));exact w.perm (by rw[Hm.step];exact(List.perm_append_singleton _ _).symm)
theorem Tc(gs:List Grp)(h1:1<gs.length):(Bp (step gs)).Perm (Bp gs):=by
 have a:=(O0 gs h1).flatMap_right (fun g:Grp=>g.2.2);refine List.Perm.trans ?_ a.symm;have e:(Bp (step gs)).Perm (Bp (K0 gs::left (left gs))):=by
  unfold Bp;rw[Hm.step];exact(List.perm_append_singleton _ _).flatMap_right _
 refine e.trans ?_;unfold Bp;rw[Aoe,Aoe,Aoe,←An4];exact List.Perm.refl _
theorem L6(t:Arc):Bp (Aj t 256)=((List.range 256).filter fun x=>decide (0<cnt t x)).map UInt8.ofNat:=by
 unfold Bp Aj;rw[List.flatMap_map];generalize(List.range 256).filter _=l;induction l with
 |nil=>rfl
 |cons x l ih=>rw[Aoe,ih];rfl
theorem Wx{l:Ard}(h:l.Nodup)(d: ∀x∈l,x<256):(l.map UInt8.ofNat).Nodup:=by
 rw[List.nodup_iff_pairwise_ne,List.pairwise_map];refine(List.nodup_iff_pairwise_ne.1 h).imp_of_mem fun{a b} f hb c e=>c ?_;have:=congrArg UInt8.toNat e;rw[Aoa,Aoa]at this;have:=d a f;have:=d b hb;omega
theorem Td(t:Arc):Mo (Aj t 256) (List.replicate 256 0):=by
 have d: ∀b:UInt8,ln (List.replicate 256 0) b=0:=fun b=>by
  rw[ln,Am4,Ao1 b.toNat_lt];rfl
 have a: ∀g∈Aj t 256,∃b,g.2.2=[b]∧0<g.1:=fun g a=>by
  unfold Aj at a;obtain⟨x,f,rfl⟩:=List.mem_map.1 a;exact⟨_,rfl,by simpa using(List.mem_filter.1 f).2⟩
 refine⟨Ani,?_,fun g h=>?_,fun g h M _=>?_,fun g h b _=>?_,?_⟩
 ·rw[L6];exact Wx (List.nodup_iff_pairwise_ne.2 ((List.nodup_iff_pairwise_ne.1 List.nodup_range).filter _)) fun x f=>by simpa using(List.mem_filter.1 f).1
 ·obtain⟨b,e,_⟩:=a g h;rw[e];simp
 ·obtain⟨b,e,_⟩:=a g h;rw[e];unfold Hm.kr;simp only[Aos,Aqy,Aqo,List.sum_nil,d];simp
 ·obtain⟨_,_,c⟩:=a g h;rw[d];exact c
 ·refine List.Pairwise.imp_of_mem (R:=fun _ _=>True) (fun{g k} h1 h2 _=>⟨fun b _=>?_,fun b _=>?_⟩) (List.pairwise_of_forall fun _ _=>trivial)
  ·obtain⟨_,_,c⟩:=a k h2;rw[d];exact c
  ·obtain⟨_,_,c⟩:=a g h1;rw[d];exact c
theorem Im(t:Arc): ∀k,k<(Aj t 256).length→(Bv (Aj t 256) (List.replicate 256 0) k).1.length+k=(Aj t 256).length∧Mo (Bv (Aj t 256) (List.replicate 256 0) k).1 (Bv (Aj t 256) (List.replicate 256 0) k).2∧(Bp (Bv (Aj t 256) (List.replicate 256 0) k).1).Perm (Bp (Aj t 256))∧(∀b,b∉Bp (Aj t 256)→ln (Bv (Aj t 256) (List.replicate 256 0) k).2 b=0)
 |0,_=>⟨rfl,Td t,List.Perm.refl _,fun b _=>by rw[Bv,ln,Am4,Ao1 b.toNat_lt];rfl⟩
 |k+1,h=>by
  obtain⟨h1,h2,a,c⟩:=Im t k (by omega);have hs:=U2 (Bv (Aj t 256) (List.replicate 256 0) k).1 (by omega);refine⟨by rw[Bv];simp only;omega,h2.step (by omega),(Tc _ (by omega)).trans a,fun b hb=>?_⟩;rw[Bv];simp only;rw[V4 h2.len,c b hb];intro d;refine hb (a.mem_iff.1 ((Tc _ (by omega)).mem_iff.1 ?_));unfold Bp;rw[Hm.step,Ao4,Aq3];exact .inr (by rw[Aoe,List.flatMap_nil,Aow];exact d)
structure Am0(t:Arc)(L:Ard):Prop where
 len:L.length=256
 pos: ∀b:UInt8,0<ln L b↔b∈t
 short:t.length≤6000→ ∀b:UInt8,ln L b≤17
 full: ∀ms:Arc,ms.Nodup→(∀b,b∈ms↔0<ln L b)→1<ms.length→ ∀M,(∀b∈ms,ln L b≤M)→kr M L ms=2^M
 one: ∀ms:Arc,ms.Nodup→(∀b,b∈ms↔0<ln L b)→ms.length=1→ ∀b∈ms,ln L b=1
theorem U4(t:Arc)(b:UInt8):b∈Bp (Aj t 256)↔b∈t:=by
 rw[L6,List.mem_map];constructor
 ·rintro⟨x,a,rfl⟩;have h1:=List.mem_filter.1 a;have h2:0<cnt t x:=by simpa using h1.2
  have d:x<256:=by simpa using h1.1
  unfold cnt at h2;obtain⟨y,c,e⟩:=List.countP_pos_iff.1 h2;have e':y.toNat=x:=by simpa using e
  rw[show UInt8.ofNat x=y from by rw[←e'];simp];exact c
 ·intro h;refine⟨b.toNat,List.mem_filter.2 ⟨List.mem_range.2 b.toNat_lt,?_⟩,by simp⟩;have:0<cnt t b.toNat:=List.countP_pos_iff.2 ⟨b,h,by simp⟩;simpa using this
theorem Yl{M:Nat}{L:Ard}{a b:Arc}(h:a.Perm b):kr M L a=kr M L b:=(h.map _).sum_nat
theorem Wy(t:Arc):Am0 t (lens t):=by
 have a:=U4 t;have y:=(Td t).nd;have uniq: ∀ms:Arc,ms.Nodup→(∀b,b∈ms↔b∈t)→ms.Perm (Bp (Aj t 256)):=fun ms h1 h2=>
  (List.perm_ext_iff_of_nodup h1 y).2 fun b=>by rw[h2,a]
 have H:(Bp (Aj t 256)).length=(Aj t 256).length:=by
  rw[L6];unfold Aj;simp
 have p:lens t=if(Aj t 256).length=1 then(List.replicate 256 0).set ((Aj t 256).getD 0 (0,0,[])).2.1.toNat 1 else(Bv (Aj t 256) (List.replicate 256 0) ((Aj t 256).length-1)).2:=rfl;rw[p]
 by_cases h1:(Aj t 256).length=1
 ·rw[if_pos h1];obtain⟨g,m⟩:=List.length_eq_one_iff.1 h1;have i:g∈Aj t 256:=by rw[m];exact List.mem_singleton.2 rfl
  obtain⟨x,K,e⟩: ∃x,x∈(List.range 256).filter (fun x=>decide (0<cnt t x))∧(cnt t x,UInt8.ofNat x,[UInt8.ofNat x])=g:=by
   unfold Aj at i;exact List.mem_map.1 i
  have v:Bp (Aj t 256)=[UInt8.ofNat x]:=by unfold Bp;rw[m,←e];rfl
  have e0:((Aj t 256).getD 0 (0,0,[])).2.1=UInt8.ofNat x:=by rw[m,←e];rfl
  rw[e0];have l: ∀b,ln ((List.replicate 256 0).set (UInt8.ofNat x).toNat 1) b=if b=UInt8.ofNat x then 1 else 0:=fun b=>by
   rw[ln,Am4]
   by_cases c:b=UInt8.ofNat x
   ·rw[if_pos c,c,Aqu (by rw[Ani];exact(UInt8.ofNat x).toNat_lt)];rfl
   ·rw[if_neg c,Ap9 (fun k=>c (UInt8.toNat_inj.1 k.symm)),Ao1 b.toNat_lt];rfl
  have f: ∀b,b∈t↔b=UInt8.ofNat x:=fun b=>by rw[←a,v,List.mem_singleton]
  refine⟨by rw[Aou,Ani],fun b=>?_,fun _ b=>?_,fun ms h2 j q=>?_,fun ms h2 j q b hb=>?_⟩
  ·rw[l,f];by_cases c:b=UInt8.ofNat x<;>simp[c]
  ·rw[l];split<;>omega
  ·have:=(uniq ms h2 (fun b=>by rw[j,l,f];by_cases c:b=UInt8.ofNat x<;>simp[c])).length_eq;omega
  ·have:=(j b).1 hb;rw[l]at this⊢;split
   ·rfl
   ·rw[if_neg (by assumption)]at this;omega
 ·rw[if_neg h1]
  by_cases s:(Aj t 256).length=0
  ·have C:=Aob s;have hno: ∀b,b∉t:=fun b hb=>by have:=(a b).2 hb;rw[C]at this;simp[Bp]at this
   have z: ∀b:UInt8,ln (Bv (Aj t 256) (List.replicate 256 0) ((Aj t 256).length-1)).2 b=0:=fun b=>by
    rw[s];show ln (List.replicate 256 0) b=0;rw[ln,Am4,Ao1 b.toNat_lt];rfl
   refine⟨by rw[s];exact Ani,fun b=>?_,fun _ b=>?_,fun ms h2 j q=>?_,fun ms h2 j q=>?_⟩
   ·rw[z];exact⟨fun h=>by omega,fun h=>absurd h (hno b)⟩
   ·rw[z];omega
   all_goals
    obtain⟨b,hb⟩:=List.exists_mem_of_length_pos (show 0<ms.length by omega);have:=(j b).1 hb;rw[z]at this;omega
  ·obtain⟨n,hn⟩: ∃n,(Aj t 256).length=n+2:=⟨(Aj t 256).length-2,by omega⟩;obtain⟨p1,p2,p3,p4⟩:=Im t (n+1) (by omega);obtain⟨q1,q2,q3,q4⟩:=Im t n (by omega);rw[show(Aj t 256).length-1=n+1 from by omega];obtain⟨g,m⟩:=List.length_eq_one_iff.1 (show(Bv (Aj t 256) (List.replicate 256 0) (n+1)).1.length=1 by omega);have i:g∈(Bv (Aj t 256) (List.replicate 256 0) (n+1)).1:=by rw[m];exact List.mem_singleton.2 rfl
   have r:Bp (Bv (Aj t 256) (List.replicate 256 0) (n+1)).1=g.2.2:=by rw[m];simp[Bp]
   rw[r]at p3;have f: ∀b,b∈g.2.2↔b∈t:=fun b=>by rw[←a,p3.mem_iff]
   have u:g.2.2=(K0 (Bv (Aj t 256) (List.replicate 256 0) n).1).2.2:=by
    have e:(Bv (Aj t 256) (List.replicate 256 0) (n+1)).1=Hm.step (Bv (Aj t 256) (List.replicate 256 0) n).1:=rfl;have F:=Eh (Bv (Aj t 256) (List.replicate 256 0) n).1 (by omega);have G:=Eh (left (Bv (Aj t 256) (List.replicate 256 0) n).1) (by omega);have e2:left (left (Bv (Aj t 256) (List.replicate 256 0) n).1)=[]:=Aob (by omega);rw[m,Hm.step,e2,Aqs]at e;rw[List.cons.inj e|>.1]
   have o:g.2.2.Nodup:=by have:=p2.nd;rw[r]at this;exact this
   have d: ∀b,0<ln (Bv (Aj t 256) (List.replicate 256 0) (n+1)).2 b↔b∈t:=fun b=>by
    constructor
    ·intro h;apply Aq0;intro B;have:=p4 b (fun k=>B ((a b).1 k));omega
    ·intro h;have hb:=(f b).2 h;have e:(Bv (Aj t 256) (List.replicate 256 0) (n+1)).2=bump (Bv (Aj t 256) (List.replicate 256 0) n).2 (K0 (Bv (Aj t 256) (List.replicate 256 0) n).1).2.2:=rfl;rw[e,←u,Ue q2.len o hb];omega
   refine⟨p2.len,d,fun E b=>?_,fun ms h2 j q M hM=>?_,fun ms h2 j q=>?_⟩
   ·by_cases hb:b∈t
    ·have I:=p2.f1 g i b ((f b).2 hb);have J:g.1≤6000:=by
      have D: ∀k,k<(Aj t 256).length→Kz (Bv (Aj t 256) (List.replicate 256 0) k).1:=fun k=>by
       induction k with
       |zero=>intro _;exact Oz t E
       |succ k ih=>
        intro hk;have:=(Im t k (by omega)).1;exact(ih (by omega)).step (by omega)
      have:=(D (n+1) (by omega)).w;rw[m,Vz]at this;exact this
     exact Zp _ (by omega)
    ·have:=mt (d b).1 hb;omega
   ·have A:ms.Perm g.2.2:=(List.perm_ext_iff_of_nodup h2 o).2 fun b=>by rw[j,d,f]
    rw[Yl A];exact p2.kr g i M fun b hb=>hM b (A.mem_iff.2 hb)
   ·have:=(uniq ms h2 (fun b=>by rw[j,d])).length_eq;omega
end Hm
namespace Hm
def Mp(L:Ard)(p:Nat×Nat)(k:Nat)(b:UInt8):Nat×Nat:=((p.1+if k=0 then 0 else 1)*2^(lnB L b-p.2),lnB L b)
def Bq(L:Ard)(o:Arc):Nat→Nat×Nat
 |0=>(0,0)
 |k+1=>Mp L (Bq L o k) k (o.getD k 0)
def Dj(L:Ard)(o:Arc)(z:Nat):Nat→List (Nat×Nat)
 |0=>List.replicate z (0,0)
 |k+1=>(Dj L o z k).set (o.getD k 0).toNat (Bq L o (k+1))
def A6(L:Ard):List (Nat×Nat):=Dj L (Ae L) 256 (Ae L).length
theorem A4(L:Ard)(o:Arc)(z k:Nat):(Dj L o z k).length=z:=by
 induction k with
 |zero=>simp[Dj]
 |succ k ih=>simp[Dj,ih]
structure Mq(L:Ard)(o:Arc):Prop where
 asc:o.Pairwise fun a b=>lnB L a≤lnB L b
 short: ∀b∈o,lnB L b≤32
 sum:kr 32 L o≤2^32
theorem Kd{o:Arc}{k:Nat}(h:k<o.length):o.getD k 0∈o:=by
 rw[Am4,Am5 h];exact Anm _
theorem O1(M:Nat)(L:Ard)(o:Arc)(k:Nat)(h:k<o.length):kr M L (o.take (k+1))=kr M L (o.take k)+2^(M-lnB L (o.getD k 0)):=by
 rw[Anh h,Pm];congr 1;rw[Am4,Am5 h];simp[kr]
theorem Ahh(M:Nat)(L:Ard)(o:Arc)(k:Nat):kr M L (o.take k)≤kr M L o:=by
 conv=>rhs;rw[←Ao5 k o,Pm]
 omega
theorem Mq.asc_get{L:Ard}{o:Arc}(h:Mq L o){i j:Nat}(b:i≤j)(a:j<o.length):lnB L (o.getD i 0)≤lnB L (o.getD j 0):=by
 rcases Aoq i j with c|c
 ·rw[Am4,Am5 (by omega:i<o.length),Am4,Am5 a];exact List.pairwise_iff_getElem.1 h.asc i j (by omega) a c
 ·obtain rfl:i=j:=by omega
  exact Ane _
theorem Hw(L:Ard)(o:Arc)(k:Nat):(Bq L o (k+1)).2=lnB L (o.getD k 0):=rfl
theorem Mq.num{L:Ard}{o:Arc}(h:Mq L o): ∀k,k<o.length→(Bq L o (k+1)).1*2^(32-lnB L (o.getD k 0))=kr 32 L (o.take k)
 |0,hk=>by simp[Bq,Mp,kr]
 |k+1,hk=>by
  have ih:=h.num k (by omega);have h1:=h.asc_get (i:=k) (j:=k+1) (by omega) hk;have h2:=h.short _ (Kd hk);rw[O1 _ _ _ _ (by omega),←ih];show((Bq L o (k+1)).1+if k+1=0 then 0 else 1)*2^(lnB L (o.getD (k+1) 0)-(Bq L o (k+1)).2)*2^(32-lnB L (o.getD (k+1) 0))=_;rw[Hw,if_neg (by omega),Aqn,←Nat.pow_add,show lnB L (o.getD (k+1) 0)-lnB L (o.getD k 0)+(32-lnB L (o.getD (k+1) 0))=32-lnB L (o.getD k 0)from by omega,Ape,Nat.one_mul]
theorem Mq.lt{L:Ard}{o:Arc}(h:Mq L o)(k:Nat)(hk:k<o.length):(Bq L o (k+1)).1<2^lnB L (o.getD k 0):=by
 have h1:=h.num k hk;have h2:=O1 32 L o k hk;have b:=Ahh 32 L o (k+1);have c:=h.sum;have d:=h.short _ (Kd hk);have e:(2:Nat)^32=2^lnB L (o.getD k 0)*2^(32-lnB L (o.getD k 0)):=by rw[←Nat.pow_add];congr 1;omega
 have f:0<(2:Nat)^(32-lnB L (o.getD k 0)):=App _;refine Nat.lt_of_mul_lt_mul_right (a:=2^(32-lnB L (o.getD k 0))) ?_;rw[h1,←e];omega
theorem Acr{l:Nat}(h:l≤32):2^l≤4294967296:=by
 have:=Ao9 (show 0<2 by omega) h;have e:(2:Nat)^32=4294967296:=by decide
 omega
theorem Mq.num_le{L:Ard}{o:Arc}(h:Mq L o)(k:Nat)(hk:k≤o.length):(Bq L o k).1<4294967296∧(Bq L o k).2≤32:=by
 cases k with
 |zero=>simp[Bq]
 |succ k=>
  have h1:=h.lt k hk;have h2:=h.short _ (Kd hk);have a:=Acr h2;exact⟨by omega,by rw[Hw];exact h2⟩
theorem Mq.step_le{L:Ard}{o:Arc}(h:Mq L o)(k:Nat)(hk:k<o.length):(Bq L o k).2≤lnB L (o.getD k 0):=by
 cases k with
 |zero=>exact Ann _
 |succ k=>rw[Hw];exact h.asc_get (by omega) hk
end Hm
namespace Hm
theorem Ym(l:List (Nat×Nat))(i:Nat)(x:Nat×Nat)(h:i<l.length):(l.set i x).getD i (0,0)=x:=by
 rw[Am4,Aqu h];rfl
theorem Te(l:List (Nat×Nat))(i j:Nat)(x:Nat×Nat)(h:i≠j):(l.set i x).getD j (0,0)=l.getD j (0,0):=by
 rw[Am4,Ap9 h,←Am4]
theorem Ak0{o:Arc}(hn:o.Nodup){i j:Nat}(hi:i<o.length)(a:j<o.length)(e:o.getD i 0=o.getD j 0):i=j:=by
 rw[Am4,Am5 hi,Am4,Am5 a]at e;have b:=List.pairwise_iff_getElem.1 (List.nodup_iff_pairwise_ne.1 hn);rcases Aop i j with c|c|c
 ·exact absurd e (b i j hi a c)
 ·exact c
 ·exact absurd e.symm (b j i a hi c)
theorem Acs(L:Ard)(o:Arc)(hn:o.Nodup)(i:Nat): ∀k,i<k→k≤o.length→(Dj L o 256 k).getD (o.getD i 0).toNat (0,0)=Bq L o (i+1)
 |0,h,_=>by omega
 |k+1,h,hk=>by
  rw[Dj]
  by_cases e:i=k
  ·subst e;exact Ym _ _ _ (by rw[A4];exact UInt8.toNat_lt _)
  ·rw[Te _ _ _ _ (fun c=>e (Ak0 hn (by omega) (by omega) (UInt8.toNat_inj.1 c.symm)))];exact Acs L o hn i k (by omega) (by omega)
theorem Acu(L:Ard)(o:Arc)(b:UInt8)(hb:b∉o): ∀k,k≤o.length→(Dj L o 256 k).getD b.toNat (0,0)=(0,0)
 |0,_=>by
  rw[Dj,Am4,Ao1 b.toNat_lt];rfl
 |k+1,hk=>by
  rw[Dj,Te _ _ _ _ (fun c=>hb (by rw[←UInt8.toNat_inj.1 c];exact Kd hk))];exact Acu L o b hb k (by omega)
def Jm(L:Ard)(b:UInt8):Nat×Nat:=(A6 L).getD b.toNat (0,0)
theorem Pn(L:Ard)(k:Nat)(hk:k<(Ae L).length):Jm L ((Ae L).getD k 0)=Bq L (Ae L) (k+1):=
 Acs L _ (Hf (Ek L)) k _ hk (Ane _)
theorem Zr(L:Ard)(b:UInt8)(hb:b∉Ae L):Jm L b=(0,0):=Acu L _ b hb _ (Ane _)
theorem Q4(L:Ard)(a: ∀b:UInt8,lnB L b≤255)(b:UInt8):(Jm L b).2=lnB L b:=by
 by_cases hb:b∈Ae L
 ·obtain⟨k,hk,e⟩:=Aog hb;have e2:(Ae L).getD k 0=b:=by rw[Am4,Am5 hk];exact e
  rw[←e2,Pn L k hk,Hw]
 ·rw[Zr L b hb];have:=mt (Jt L a b).2 hb;show 0=_;omega
theorem Ajg(L:Ard)(a:Mq L (Ae L))(b:UInt8)(hb:b∈Ae L):(Jm L b).1<2^(Jm L b).2:=by
 obtain⟨k,hk,e⟩:=Aog hb;have e2:(Ae L).getD k 0=b:=by rw[Am4,Am5 hk];exact e
 rw[←e2,Pn L k hk,Hw];exact a.lt k hk
end Hm
namespace Hm
structure Bu(L:Ard):Prop where
 len:L.length=256
 short: ∀b:UInt8,lnB L b≤32
 kind:(Ae L).length=0∨((Ae L).length=1∧ ∀b∈Ae L,lnB L b=1)∨(1<(Ae L).length∧kr 32 L (Ae L)=2^32)
def Bh(L:Ard)(b:UInt8):Nat:=(Jm L b).1
section
variable {L:Ard}
theorem Bu.le255(h:Bu L)(b:UInt8):lnB L b≤255:=by have:=h.short b;omega
theorem Bu.mem(h:Bu L)(b:UInt8):b∈Ae L↔0<lnB L b:=Jt L h.le255 b
theorem Bu.asc(_h:Bu L):(Ae L).Pairwise fun a b=>lnB L a≤lnB L b:=by
 refine(Ek L).imp fun{a b} h=>?_;unfold G3 at h;have:=a.toNat_lt;have:=b.toNat_lt;omega
theorem Bu.nodup(_h:Bu L):(Ae L).Nodup:=Hf (Ek L)
theorem Bu.fits(h:Bu L):Mq L (Ae L):=by
 refine⟨h.asc,fun b _=>h.short b,?_⟩;rcases h.kind with a|⟨h1,h2⟩|⟨_,h2⟩
 ·have:Ae L=[]:=Aob a;rw[this];simp[kr]
 ·obtain⟨b,hb⟩:=List.length_eq_one_iff.1 h1;have c:=h2 b (by rw[hb];exact List.mem_singleton.2 rfl);rw[hb];have d:ln L b=1:=c;simp only[kr,Aos,Aqy,Aqo,List.sum_nil,d];decide
 ·exact Apx h2
theorem Bu.numk(h:Bu L):Hc 32 (lnB L) (Bh L) (Ae L):=by
 refine⟨fun k hk=>?_,fun b _=>h.short b⟩;unfold Bh;rw[Pn L k hk];exact h.fits.num k hk
theorem Bu.num_lt(h:Bu L): ∀b∈Ae L,Bh L b<2^lnB L b:=fun b hb=>by
 have:=Ajg L h.fits b hb;rwa[Q4 L h.le255]at this
theorem Bu.pos(h:Bu L): ∀b∈Ae L,0<lnB L b:=fun b hb=>(h.mem b).1 hb
theorem Bu.few(h:Bu L):(Ae L).length≤256:=by
 rw[Is L h.le255];exact Fw L 256
theorem Bu.ends(h:Bu L): ∃N,0<N∧Ends 32 (lnB L) (Ae L) N:=by
 rcases h.kind with a|⟨h1,h2⟩|⟨h1,h2⟩
 ·have:Ae L=[]:=Aob a;rw[this];exact⟨1,by omega,Agy 32 _⟩
 ·obtain⟨b,hb⟩:=List.length_eq_one_iff.1 h1;have c:=h2 b (by rw[hb];exact List.mem_singleton.2 rfl);rw[hb];exact⟨1,by omega,Ai1 32 _ b c⟩
 ·exact Agx ⟨h.asc,h.pos,fun b _=>h.short b,h2⟩ (by omega) h.few
end
theorem I6(t:Arc)(ht:t.length≤6000):Bu (lens t):=by
 have a:=Wy t;have hs: ∀b:UInt8,lnB (lens t) b≤17:=a.short ht;have d: ∀b:UInt8,lnB (lens t) b≤255:=fun b=>by have:=hs b;omega
 have hn:=Hf (Ek (lens t));have c: ∀b,b∈Ae (lens t)↔0<ln (lens t) b:=Jt (lens t) d;refine⟨a.len,fun b=>by have:=hs b;omega,?_⟩;rcases Aop (Ae (lens t)).length 1 with h|h|h
 ·exact .inl (by omega)
 ·exact .inr (.inl ⟨h,a.one _ hn c h⟩)
 ·exact .inr (.inr ⟨h,a.full _ hn c h 32 fun b _=>Ant (hs b) (by omega)⟩)
theorem O2(t:Arc)(ht:t.length≤6000)(b:UInt8):b∈Ae (lens t)↔b∈t:=by
 rw[(I6 t ht).mem];exact(Wy t).pos b
end Hm
end Go.Proofs.YtegnkfdbmmndaaaGreat
namespace Go.Proofs.YtegnkfdbmmndaaaGreat
open Hm Go.Proofs.Tryz Go.RowKit
namespace Hm
def Gx(L:Ard):Nat:=L.foldl max 0
theorem Yn(r:Ard): ∀a:Nat,(r.map fun x:Nat=>(x:Int)).foldl max (a:Int)=((r.foldl max a:Nat):Int):=by
 induction r with
 |nil=>intro a;rfl
 |cons x r ih=>
  intro a;rw[Aos,Aq4,Aq4,←ih (max a x)];congr 1;omega
theorem Amg(L:Ard):Lib.maxOf (L.map fun x:Nat=>(x:Int))=(Gx L:Int):=by
 cases L with
 |nil=>rfl
 |cons x r=>
  unfold Lib.maxOf Gx;rw[Aos,List.headD_cons,Aq4,Aq4,Int.max_self,Yn];simp
theorem Acv(r:Ard): ∀a,a≤r.foldl max a∧ ∀x∈r,x≤r.foldl max a:=by
 induction r with
 |nil=>intro a;exact⟨Ane _,fun x h=>by cases h⟩
 |cons y r ih=>
  intro a;obtain⟨h1,h2⟩:=ih (max a y);rw[Aq4];refine⟨by omega,fun x b=>?_⟩;rcases List.mem_cons.1 b with rfl|h
  ·omega
  ·exact h2 x h
theorem Acw(r:Ard): ∀a,r.foldl max a=a∨r.foldl max a∈r:=by
 induction r with
 |nil=>intro a;exact .inl rfl
 |cons y r ih=>
  intro a;rw[Aq4];rcases ih (max a y)with h|h
  ·rw[h];rcases Nat.le_total a y with h1|h1
   ·right;rw[Nat.max_eq_right h1];exact Anl ..
   ·left;exact Nat.max_eq_left h1
  ·exact .inr (Anr _ h)
theorem Uf(L:Ard)(x:Nat)(h:x∈L):x≤Gx L:=(Acv L 0).2 x h
theorem Ug(L:Ard)(h:0<Gx L):Gx L∈L:=by
 rcases Acw L 0 with h1|h1
 ·unfold Gx at h;omega
 ·exact h1
theorem Tf(L:Ard)(c: ∀b:UInt8,lnB L b≤255):(Ae L).Perm (Ai L):=by
 have hn:(Ai L).Nodup:=by
  rw[List.nodup_iff_pairwise_ne];exact(M1 L).imp fun{a b} k e=>by subst e;omega
 exact(List.perm_ext_iff_of_nodup (Hf (Ek L)) hn).2 fun b=>by rw[Jt L c,Il]
theorem Acx{L:Ard}(a:L.length=256)(B:Nat)(h: ∀x∈L,x≤B)(b:UInt8):lnB L b≤B:=by
 have hb:=b.toNat_lt;unfold lnB;rw[Am4,Am5 (by omega)];exact h _ (Anm _)
theorem Amh(M:Nat)(L:Ard)(ms:Arc)(k:Nat)(h:k<ms.length):kr M L (ms.take (k+1))=kr M L (ms.take k)+2^(M-lnB L ms[k]):=by
 rw[Anh h,Pm];show _+([ms[k]].map fun b=>2^(M-ln L b)).sum=_;rw[Aos,Aqy,Aqo,List.sum_nil,Ap3]
theorem Am1(M:Nat)(L:Ard)(ms:Arc):kr M L ms≤ms.length*2^M:=by
 induction ms with
 |nil=>simp[kr]
 |cons b r ih=>
  have h1:2^(M-ln L b)≤2^M:=Ao9 (by omega) (by omega);have h2:kr M L (b::r)=2^(M-ln L b)+kr M L r:=by simp[kr]
  rw[h2,An8,Ape];omega
theorem Acy{L:Ard}(h:(Ai L).length=0)(b:UInt8):lnB L b=0:=by
 have h1: ¬0<lnB L b:=fun a=>by
  have h2:=(Il L b).2 a;rw[Aob h]at h2;cases h2
 omega
end Hm
theorem U5(L:Ard)(w:World)(f:L.length=256):
  Calls prog 170 #[.agg (Ad L).toArray] w fun e w'=>e= .returned (.int .i64 (Gx L:Nat))∧Ara w w':=by
 have a:=Anj w (.cells (Ad L).toArray 139);have b:=Tryz.slices_Max_int w.heap.size 0 256 256 (L.map fun x:Nat=>(x:Int)) (w.alloc (.cells (Ad L).toArray 139)) (by omega) (by simp;omega) (by omega) (fun j d=>by
  have c:j<L.length:=by simpa using d
  rw[An3,Am7 _ _ _ _ _ _ a];simp[Ad,List.getD_eq_getElem?_getD,c])
 rw[An5 (by simp;omega),Amg]at b;have hk:Ara w (w.alloc (.cells (Ad L).toArray 139)):=(Aa.refl _ _).alloc _;generalize(Ad L).toArray=arr at*;clear a
 go_enter func170,ntmps170
 go_wp2_with fail;refine b.mono ?_;rintro e w1 ⟨rfl,rfl⟩;go_wp2_with fail;go_ret;exact⟨rfl,hk⟩
theorem Aas(L:Ard)(w:World)(Y:L.length=256)(M: ∀x∈L,x≤255):
  Calls prog 169 #[.agg (Ad L).toArray] w fun e w'=> ∃b,e= .returned (.bool b)∧(b=true↔Bu L)∧Ara w w':=by
 have X:=Acx Y 255 M;have ak:=Is L X;have f:=Anj w (.cells (Ad L).toArray 139);have s:(Ad L).toArray.size=256:=by rw[Bm,Y]
 have U:=fun W=>Sy L W Y (fun x h=>by have:=M x h;omega);have H:=fun W=>U5 L W Y;have F:Ara w (w.alloc (.cells (Ad L).toArray 139)):=(Aa.refl _ _).alloc _;have D:Hid (∀W,Ara (w.alloc (.cells (Ad L).toArray 139)) W→W.heap[w.heap.size]?=some (.cells (Ad L).toArray 139 (0,0))∧ ∀b:UInt8,W.cell? ⟨w.heap.size,b.toNat,none⟩=some (.int .i64 (Hm.lnB L b:Nat))):=fun W hk=>by
  have h1:=hk.row f id;refine⟨h1,fun b=>?_⟩;have hb:=b.toNat_lt;rw[Am7 _ _ _ _ _ _ h1];simp[Ad,Hm.lnB,List.getD_eq_getElem?_getD,List.getElem?_eq_getElem (show b.toNat<L.length from by omega)]
 have af:=Fw L 256
 change (Ai L).length≤256 at af
 obtain⟨arr,I⟩: ∃a,a=(Ad L).toArray:=⟨_,rfl⟩;rw[←I]at f s U H F D⊢;have q:Hid (L.length=256∧(∀x∈L,x≤255)∧(∀b,Hm.lnB L b≤255)∧(Ae L).length=(Ai L).length):=⟨Y,M,X,ak⟩;obtain⟨W0,S⟩: ∃W0,W0=w.alloc (.cells arr 139):=⟨_,rfl⟩;rw[←S]at f F D;have HW:Hid (w.alloc (.cells arr 139)=W0):=S.symm;clear I S M X ak Y
 go_enter func169,ntmps169
 go_upto_region 1 with fail
 rw[HW.o];clear HW
 go_wp2_with(first
  |(refine Aoh rfl 139 _ rfl w.heap.size rfl 139 arr (0,0) _ f underlying139 rfl (by rw[s];exact Cf) ?_))
 refine(U _).mono ?_;rintro e w1 ⟨v,rfl,ho,l⟩;clear U
 have P:Hid (Ara W0 w1∧Ara w w1):=⟨l,F.trans l (fun _ _ h=>h)⟩;clear F
 by_cases R:(Ai L).length=0
 ·obtain⟨ao,cp,hv,_⟩:=Aq ho;rw[R]at hv;subst hv;have HC:Hid (Bu L):=⟨q.o.1,fun b=>by rw[Acy R b];omega,.inl (by rw[q.o.2.2.2,R])⟩;clear ho l f R;go_wp2_with fail;go_ret;exact⟨true,rfl,⟨fun _=>HC.o,fun _=>rfl⟩,P.o.2⟩
 ·obtain⟨g,cap,hv,_,aA⟩:=Ck ho (by omega);subst hv;obtain⟨n,hn⟩: ∃n,n=(Ai L).length:=⟨_,rfl⟩;have d: ∀i,(h:i<(Ai L).length)→w1.cell? ⟨g,i,none⟩=some (.int .u8 (((Ai L)[i]).toNat:Nat)):=fun i h=>by
   rw[ho.cellAt i (by omega)];simp[Ah,h]
  have C:Hid (∀i,(h:i<(Ai L).length)→w1.cell? ⟨g,i,none⟩=some (.int .u8 (((Ai L)[i]).toNat:Nat))):=d;have E:=D.o w1 l;have r:Hid (∀b:UInt8,w1.cell? ⟨w.heap.size,b.toNat,none⟩=some (.int .i64 (Hm.lnB L b:Nat))):=E.2;have ad:=E.1;have HN:Hid (n=(Ai L).length):=hn;rw[←hn]at af R⊢;have aD:((n:Int)==0)=false:=by rw[Aod];omega
  by_cases h1:n=1
  ·have ay:=d 0 (by omega);obtain⟨b,hb⟩: ∃b,b=(Ai L)[0]'(by omega):=⟨_,rfl⟩;rw[←hb]at ay;have V:=r.o b;have T:((b.toNat:Nat):Int)<256:=by have:=b.toNat_lt;omega
   have HB:Hid ((decide (Hm.lnB L b=1)=true)↔Bu L):=by
    have J:Ai L=[b]:=by
     obtain⟨y,hy⟩:=List.length_eq_one_iff.1 (show(Ai L).length=1 from by omega);rw[hy];simp only[hy,List.getElem_cons_zero]at hb;rw[hb]
    have A:=Tf L q.o.2.2.1;rw[J]at A;have u:Ae L=[b]:=List.perm_singleton.1 A;have hz: ∀c,c≠b→Hm.lnB L c=0:=fun c Z=>by
     have h2: ¬0<Hm.lnB L c:=fun hp=>by
      have h3:=(Il L c).2 hp;rw[J]at h3;exact Z (List.mem_singleton.1 h3)
     omega
    constructor
    ·intro h;have h2:=Aoc h;refine⟨q.o.1,fun c=>?_,.inr (.inl ⟨by rw[u];rfl,fun c Z=>?_⟩)⟩
     ·by_cases ae:c=b
      ·rw[ae,h2];omega
      ·rw[hz c ae];omega
     ·rw[u]at Z;rw[List.mem_singleton.1 Z];exact h2
    ·intro h;rcases h.kind with h2|⟨_,h2⟩|⟨h2,_⟩
     ·rw[u]at h2;cases h2
     ·exact Ana (h2 b (by rw[u];exact List.mem_singleton.2 rfl))
     ·rw[u]at h2;simp at h2
   generalize Hm.lnB L b=x at*;subst h1;clear ho l f R hn d hb r E C D;go_wp2_with fail;go_ret;refine⟨decide (x=1),?_,HB.o,P.o.2⟩;have e:(((x:Nat):Int)==1)=decide (x=1):=by rw[Bool.eq_iff_iff];simp;omega
   rw[←e];rfl
  ·have aE:((n:Int)==1)=false:=by rw[Aod];omega
   have aj:1<n:=by omega
   have ax:Hid (1<n):=aj;have O:Hid (Gx L≤32→(decide (Hm.kr 32 L (Ai L)=4294967296)=true↔Bu L)):=fun B=>by
    have A:=Tf L q.o.2.2.1;have ah:1<(Ae L).length:=by rw[q.o.2.2.2,←HN.o];exact ax.o
    constructor
    ·intro h;refine⟨q.o.1,Acx q.o.1 32 (fun x M=>Ant (Uf L x M) B),.inr (.inr ⟨ah,?_⟩)⟩;rw[Yl A,Aoc h]
    ·intro h;rcases h.kind with h2|⟨h2,_⟩|⟨_,h2⟩
     ·omega
     ·omega
     ·rw[Yl A]at h2;exact Ana h2
   have ac:Hid (¬Gx L≤32→ ¬Bu L):=fun B hC=>by
    obtain⟨i,hi,he⟩:=Aog (Ug L (by omega));have h1:=hC.short (UInt8.ofNat i);have h2:(UInt8.ofNat i).toNat=i:=by rw[Aoa];have:=q.o.1;omega
    unfold Hm.lnB at h1;rw[h2,Am4,Am5 hi,he]at h1;exact B h1
   have Q:Hid (∀b,Gx L≤32→Hm.lnB L b≤32):=fun b B=>Acx q.o.1 32 (fun x M=>Ant (Uf L x M) B) b;have ai:Gx L≤255:=by
    by_cases h:0<Gx L
    ·exact q.o.2.1 _ (Ug L h)
    ·omega
   obtain⟨mx,K⟩: ∃x,x=Gx L:=⟨_,rfl⟩;rw[←K]at H O ac Q ai;clear ho l f R hn d E h1 aj K
   go_wp2_with(first
    |(refine Aoh rfl 139 _ rfl w.heap.size rfl 139 arr (0,0) _ ad underlying139 rfl (by rw[s];exact Cf) ?_))
   refine(H _).mono ?_;rintro e w2 ⟨rfl,m⟩;have ab:Hid (Ara w1 w2∧Ara w w2):=⟨m,P.o.2.trans m (fun _ _ h=>h)⟩;clear H ad
   by_cases B:mx≤32
   ·have hd:decide ((32:Int)<(mx:Int))=false:=Anc (by omega);have ar:Hid (∀i,(h:i<(Ai L).length)→w2.cell? ⟨g,i,none⟩=some (.int .u8 (((Ai L)[i]).toNat:Nat))):=fun i h=>(m.cell (p:=⟨g,i,none⟩) (Ank _ _ (C.o i h)) id).trans (C.o i h);have av:Hid (∀b:UInt8,w2.cell? ⟨w.heap.size,b.toNat,none⟩=some (.int .i64 (Hm.lnB L b:Nat))):=fun b=>(m.cell (p:=⟨w.heap.size,b.toNat,none⟩) (Ank _ _ (r.o b)) id).trans (r.o b);have HM:Hid (mx≤32):=B;clear C r m B;go_wp2_with fail
    go_loopw[4,26] (fun vt vi wr=> ∃k:Nat,k≤n∧vi= .int .i64 k∧vt= .int .u64 (Hm.kr 32 L ((Ai L).take k):Nat)∧wr=w2) (fun _ vi _=>n-(intOf vi).toNat)
    case atStart=>exact⟨0,by omega,rfl,by simp[Hm.kr],rfl⟩
    case round=>
     obtain⟨k,hk,rfl,rfl,rfl⟩:=hrel;have G:=Am1 32 L ((Ai L).take k);have az:Hm.kr 32 L ((Ai L).take k)≤1099511627776:=Ant G (Aoj (show((Ai L).take k).length≤256 from by rw[Anp];have:=HN.o;omega) (Ane (2^32)))
     by_cases aB:k<n
     ·have ag:k<(Ai L).length:=by have:=HN.o;omega
      have Z:=ar.o k ag;have V:=av.o (Ai L)[k];have N:=Q.o (Ai L)[k] HM.o;have HS:Hid (Hm.kr 32 L ((Ai L).take (k+1))=Hm.kr 32 L ((Ai L).take k)+2^(32-Hm.lnB L (Ai L)[k])):=Amh 32 L _ k ag;obtain⟨b,hb⟩: ∃b,b=(Ai L)[k]:=⟨_,rfl⟩;rw[←hb]at Z V N HS;have T:((b.toNat:Nat):Int)<256:=by have:=b.toNat_lt;omega
      obtain⟨x,am⟩: ∃x,x=Hm.lnB L b:=⟨_,rfl⟩;rw[←am]at V N HS;obtain⟨y,hy⟩: ∃y,y=32-x:=⟨_,rfl⟩;have zy:(32:Int)-(x:Int)=(y:Int):=by omega
      rw[←hy]at HS;have aF:(2:Nat)^y≤4294967296:=Ao9 (n:=2) (i:=y) (j:=32) (by omega) (by omega);generalize Hm.kr 32 L ((Ai L).take k)=t at*;clear G hb am hy;go_wp2_with fail;have al: ∀z:Nat,z<18446744073709551616→IntKind.u64.wrap (z:Int)=(z:Int):=fun z hz=>by
       simp[IntKind.wrap,IntKind.signed,IntKind.bits];omega
      have e1:((2:Int)^y)=((2^y:Nat):Int):=by simp
      have e2:IntKind.u64.wrap ((t:Int)+IntKind.u64.wrap ((2:Int)^y))=((t+2^y:Nat):Int):=by
       rw[e1,al (2^y) (by omega),←Int.natCast_add,al (t+2^y) (by omega)]
      exact⟨⟨k+1,by omega,by go_num,by rw[e2,HS.o],trivial⟩,by simp[intOf];omega⟩
     ·obtain rfl:k=n:=by omega
      have HT:Hid ((Ai L).take k=Ai L):=by show _=_;rw[HN.o,Aof]
      rw[HT.o];have HF:=O.o HM.o;have au:Hid (decide (Hm.kr 32 L (Ai L)=4294967296)=true↔Bu L):=HF;rw[HT.o]at az G;generalize Hm.kr 32 L (Ai L)=t at*;clear HF G;go_wp2_with fail;go_ret;refine⟨decide (t=4294967296),?_,au.o,ab.o.2⟩;have e:(((t:Nat):Int)==4294967296)=decide (t=4294967296):=by rw[Bool.eq_iff_iff];simp;omega
      rw[←e];rfl
   ·have hd:decide ((32:Int)<(mx:Int))=true:=Ana (by omega);have aw:Hid (¬Bu L):=ac.o B;clear B O Q m;go_wp2_with fail;go_ret;exact⟨false,rfl,⟨fun h=>(by cases h),fun h=>absurd h aw.o⟩,ab.o.2⟩
end Go.Proofs.YtegnkfdbmmndaaaGreat
namespace Go.Proofs.YtegnkfdbmmndaaaGreat
open Hm Go.Proofs.Tryz Go.RowKit Go.Sort Go.Shelf
def As(x:UInt8):Value:= .int .u8 (x.toNat:Nat)
theorem Ak1:OneCell As:=fun _=>rfl
set_option maxRecDepth 100000 in
theorem Aat(w0:World)(blk cap a b n:Nat)(d0 d:Array UInt8)(f:Value)(w:World)(R:Row1 As w0 blk 0 d0)(hs:d0.size=d.size)(S:SW As w0 blk 0 d w)(m:a+n≤b)(hb:b+n≤d.size)(r:d.size≤256):
  Calls prog 227 #[.slice (some ⟨blk,0,none⟩) d.size cap,.int .i64 a,.int .i64 b,.int .i64 n,f] w fun e w'=>e= .returned (.tuple #[])∧ ∃d',Hm.Swr d d' a b n∧SW As w0 blk 0 d' w':=by
 have S0:Aside (SW As w0 blk 0 d w):=S;clear S
 go_enter func227,ntmps227
 go_wp2
 go_loopg [10] n (fun g1 vi wr=> ∃(k:Nat) (dk:Array UInt8),vi= .int .i64 k∧k+g1=n∧dk.size=d.size∧Aside (SW As w0 blk 0 dk wr)∧Hid (Hm.Swr d dk a b k))
 case atStart=>exact⟨0,d,rfl,by omega,rfl,S0,Hm.Swr.zero d a b⟩
 case round=>
  clear S0;obtain⟨k,dk,rfl,hk,h,S1,g⟩:=hrel
  by_cases q:k<n
  ·have c:(k:Int)<(n:Int):=by omega
   have S3:Aside (SW As w0 blk 0 (swp dk (a+k) (b+k)) ((wr.setCell ⟨blk,a+k,none⟩ (.int .u8 (dk[b+k]!.toNat:Nat))).setCell ⟨blk,b+k,none⟩ (.int .u8 (dk[a+k]!.toNat:Nat))).drew):=by
    have:=S1.o.swapped R (a+k) (b+k) (by omega) (by omega);rw[An3,An3]at this;exact this
   have c1:=S1.o.c1 R (by omega) (a+k) (by omega);have c2:=S1.o.c1 R (by omega) (b+k) (by omega);have f1:=S1.o.f1 R (by omega) (a+k) (by omega);have f2:=S1.o.f1 R (by omega) (b+k) (by omega);obtain⟨u,c3⟩:=S1.o.c2 R (by omega) (a+k) (b+k) (by omega) (by omega) (As dk[b+k]!);rw[An3]at c1 c2 f1 f2;rw[An3,An3]at c3;have j:Hid (Hm.Swr d (swp dk (a+k) (b+k)) a b (k+1)):=g.o.step (by omega) (by omega);have i:(swp dk (a+k) (b+k)).size=d.size:=by rw[size_swp];exact h
   clear S1 g;unfold As at c1 c2 c3;generalize s:dk[a+k]!.toNat=x at*;generalize t:dk[b+k]!.toNat=y at*;generalize swp dk (a+k) (b+k)=e at*;have l:(a:Int)+(k:Int)<(d.size:Int):=by omega
   have p:(b:Int)+(k:Int)<(d.size:Int):=by omega
   clear s t;go_wp2
   go_region
   go_wp2
   go_roundg (gk-1)
   case measure=>omega
   case rel=>exact⟨k+1,e,by go_num,by omega,i,S3,j⟩
  ·have c: ¬(k:Int)<(n:Int):=by omega
   obtain rfl:k=n:=by omega
   go_wp2
   go_end0
   exact⟨rfl,dk,g.o,S1.o⟩
set_option maxRecDepth 100000 in
theorem Ahi(w0:World)(blk cap a m b:Nat)(d0 d:Array UInt8)(f:Value)(w:World)(R:Row1 As w0 blk 0 d0)(hs:d0.size=d.size)(S:SW As w0 blk 0 d w)(D:a<m)(F:m<b)(hb:b≤d.size)(G:d.size≤256):
  Calls prog 226 #[.slice (some ⟨blk,0,none⟩) d.size cap,.int .i64 a,.int .i64 m,.int .i64 b,f] w fun e w'=>e= .returned (.tuple #[])∧ ∃d',Hm.Rot d d' a m b∧SW As w0 blk 0 d' w':=by
 have S0:Aside (SW As w0 blk 0 d w):=S;clear S;have c: ∀(dk:Array UInt8) (p q n:Nat) (W:World),dk.size=d.size→Aside (SW As w0 blk 0 dk W)→p+n≤q→q+n≤d.size→Calls prog 227 #[.slice (some ⟨blk,0,none⟩) d.size cap,.int .i64 p,.int .i64 q,.int .i64 n,f] W fun e w'=>e= .returned (.tuple #[])∧ ∃d',Hm.Swr dk d' p q n∧SW As w0 blk 0 d' w':=fun dk p q n W h1 h2 C H=>by
  rw[←h1];exact Aat w0 blk cap p q n d0 dk f W R (by omega) h2.o C (by omega) (by omega)
 go_enter func226,ntmps226
 go_wp2
 go_loopg [10,11] (b-a) (fun g1 vi vj wr=> ∃(i j:Nat) (dk:Array UInt8),vi= .int .i64 i∧vj= .int .i64 j∧0<i∧0<j∧i+j=g1∧i≤m-a∧j≤b-m∧dk.size=d.size∧Aside (SW As w0 blk 0 dk wr)∧Hid (∀e,Hm.Rot dk e (m-i) m (m+j)→Hm.Rot d e a m b))
 case atStart=>
  refine⟨m-a,b-m,d,by go_num,by go_num,by omega,by omega,by omega,Ane _,Ane _,rfl,S0,?_⟩;intro e s;rw[show m-(m-a)=a from by omega,show m+(b-m)=b from by omega]at s;exact s
 case round=>
  clear S0;obtain⟨i,j,dk,rfl,rfl,x,z,E,y,A,h,S1,r⟩:=hrel;have zi:((m-i:Nat):Int)=(m:Int)-(i:Int):=by omega
  by_cases B:i=j
  ·subst B;have g:=c dk (m-i) m i wr h S1 (by omega) (by omega);rw[zi]at g;have u:((i:Int) !=(i:Int))=false:=by simp
   clear c;go_wp2_with fail;refine g.mono ?_;rintro e w' ⟨rfl,d',k,S'⟩;have t:Hid (Hm.Rot d d' a m b):=r.o d' (Hm.Rot.of_swr k (by omega));have SS:Aside (SW As w0 blk 0 d' w'):=S';clear S' k g S1 r;go_wp2
   go_end0
   exact⟨rfl,d',t.o,SS.o⟩
  ·have u:((i:Int) !=(j:Int))=true:=by simp;omega
   by_cases v:j<i
   ·have hd:decide ((i:Int)>(j:Int))=true:=by simp;omega
    have g:=c dk (m-i) m j wr h S1 (by omega) (by omega);rw[zi]at g;clear c;go_wp2_with fail;refine g.mono ?_;rintro e w' ⟨rfl,d',k,S'⟩;have t:Hid (∀e,Hm.Rot d' e (m-(i-j)) m (m+j)→Hm.Rot d e a m b):=fun e s=>r.o e (Hm.Rot.by_left k v (by omega) s);have l:d'.size=d.size:=k.size.trans h;have SS:Aside (SW As w0 blk 0 d' w'):=S';clear S' k g S1 r;go_wp2
    go_roundg (i-j+j)
    case measure=>omega
    case rel=>exact⟨i-j,j,d',by go_num,rfl,by omega,z,rfl,by omega,A,l,SS,t⟩
   ·have hd:decide ((i:Int)>(j:Int))=false:=by simp;omega
    have g:=c dk (m-i) (m+j-i) i wr h S1 (by omega) (by omega);rw[zi,show((m+j-i:Nat):Int)=(m:Int)+(j:Int)-(i:Int)from by omega]at g;clear c;go_wp2_with fail;refine g.mono ?_;rintro e w' ⟨rfl,d',k,S'⟩;have t:Hid (∀e,Hm.Rot d' e (m-i) m (m+(j-i))→Hm.Rot d e a m b):=fun e s=>r.o e (Hm.Rot.by_right k (by omega) (by omega) s);have l:d'.size=d.size:=k.size.trans h;have SS:Aside (SW As w0 blk 0 d' w'):=S';clear S' k g S1 r;go_wp2
    go_roundg (i+(j-i))
    case measure=>omega
    case rel=>exact⟨i,j-i,d',rfl,by go_num,x,by omega,rfl,y,by omega,l,SS,t⟩
end Go.Proofs.YtegnkfdbmmndaaaGreat
