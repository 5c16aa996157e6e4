import Derived.Test.YtegnkfdbmmndaaaGreatJ22

set_option maxHeartbeats 8000000
namespace Go.Proofs.YtegnkfdbmmndaaaGreat
open Hm Go.Proofs.Tryz
namespace Hm
theorem Adj(es:Ard)(n:Nat)(hn:n≤6000):(B4 es n).length=Ak es.length n:=by
 unfold B4 Ak;rw[Ks,Anf,Hn,Ani,Zk _ _ hn]
structure Adk(es:Ard)(n:Nat):Prop where
 asc: ∀i j,i<j→j<es.length→es.getD i 0≤es.getD j 0
 le: ∀i,i<es.length→es.getD i 0≤n
 last:(if es.length=0 then 0 else es.getD (es.length-1) 0)=n
theorem Aml(es:Ard)(n:Nat)(hn:n≤6000)(h:Adk es n):let f:=fun p=>(B4 es n).getD p false
  rk f (Ak es.length n)=rk f (es.length*Cr es.length n)+es.length∧ ∀i,i<es.length→Fu f es.length (Cr es.length n) i=es.getD i 0:=by
 intro f;obtain⟨m,x⟩: ∃m,m=es.length:=⟨_,rfl⟩;obtain⟨lo,l⟩: ∃lo,lo=Cr m n:=⟨_,rfl⟩;rw[←x,←l];have w:Dw m n=lo:=by rw[l,Zk _ _ hn]
 have u:(Co es lo).length=m*lo:=by rw[Hn,x]
 obtain⟨dv,a⟩: ∃dv:Nat→Nat,∀i,es.getD i 0/2^lo=dv i:=⟨_,fun _=>rfl⟩;obtain⟨dn,d⟩: ∃dn,n/2^lo=dn:=⟨_,rfl⟩;have b: ∀i,i<m→dv i≤dn:=fun i hi=>by rw[←a,←d];exact Nat.div_le_div_right (h.le i (by omega))
 have o: ∀i j,i<j→j<m→dv i≤dv j:=fun i j g t=>by rw[←a,←a];exact Nat.div_le_div_right (h.asc i j g (by omega))
 have q: ∀p,f p=((List.range m).any (fun i=>decide (p=m*lo+dv i+i))||(Co es lo++List.replicate (m+dn+1) false).getD p false):=by
  intro p;show(B4 es n).getD p false=_;unfold B4;rw[←x,w,d,Vf es lo _ _ p m (fun i hi=>by rw[u,Anf,u,Ani,a];have:=b i hi;omega),u];simp only[a]
 have c:Ak m n=m*lo+(m+dn+1):=by unfold Ak;rw[←l,d]
 have v: ∀p,m*lo≤p→(Co es lo++List.replicate (m+dn+1) false).getD p false=false:=fun p z=>by
  rw[Am4,Ans (by omega),List.getElem?_replicate];split<;>rfl
 have key:=Alf f (m*lo) (Ak m n) m (fun i=>m*lo+dv i+i)
  (fun i j g t=>by
   have:=o i j g t;show m*lo+dv i+i<m*lo+dv j+j;omega)
  (fun i hi=>by have:=b i hi;rw[c];exact⟨by show _≤m*lo+dv i+i;omega,by show m*lo+dv i+i<_;omega⟩)
  (by rw[c];omega)
  (fun p h1 h2=>by
   rw[q p,v p h1,Bool.or_false,List.any_eq_true];constructor
   ·rintro⟨i,hi,e⟩;exact⟨i,List.mem_range.1 hi,Aoc e⟩
   ·rintro⟨i,hi,e⟩;exact⟨i,List.mem_range.2 hi,Ana e⟩)
 refine⟨key.2,fun i hi=>?_⟩;have r:=key.1 i hi;unfold Fu;rw[Aca (p:=m*lo+dv i+i) ⟨r.1,r.2⟩];unfold Ag9;have s:Gg f (i*lo) lo=es.getD i 0%2^lo:=Tt f (i*lo) (es.getD i 0) lo (fun j t=>by
  have y:i*lo+j<m*lo:=by
   have h1:(i+1)*lo≤m*lo:=Apa _ (by omega);rw[Ape]at h1;omega
  rw[q,show(List.range m).any (fun k=>decide (i*lo+j=m*lo+dv k+k))=false from by
   rw[List.any_eq_false];intro k _ hk;have:=Aoc hk;omega,Bool.false_or,Am4,An6 (by omega),←Am4]
  exact Rb lo es i j (by omega) t)
 rw[s,show m*lo+dv i+i-m*lo-i=dv i from by omega,←a,Aqh];exact Nat.div_add_mod _ _
theorem Xq(es:Ard)(n:Nat)(hn:n≤6000)(h:Adk es n)(X:Arc):Ga (Ag (B4 es n)++X) es.length n∧(Ag (B4 es n)++X).drop (szB (Ak es.length n))=X∧
  ∀i,i<es.length→Fu (Am ((Ag (B4 es n)++X).take (szB (Ak es.length n)))) es.length (Cr es.length n) i=es.getD i 0:=by
 have d:=Adj es n hn;have b:(Ag (B4 es n)).length=szB (Ak es.length n):=by rw[Lk,d]
 have ht:(Ag (B4 es n)++X).take (szB (Ak es.length n))=Ag (B4 es n):=by rw[←b,Aqq]
 have c:Am (Ag (B4 es n))=fun p=>(B4 es n).getD p false:=by funext p;exact Nb _ p
 have key:=Aml es n hn h;simp only at key;rw[←c]at key;have a: ∀i,i≤es.length→E5 (Am (Ag (B4 es n))) es.length (Cr es.length n) i=if i=0 then 0 else es.getD (i-1) 0:=fun i hi=>by
  unfold E5;split
  ·rfl
  ·exact key.2 (i-1) (by omega)
 refine⟨⟨by rw[Anf];omega,?_⟩,by rw[←b,List.drop_left],fun i hi=>by rw[ht];exact key.2 i hi⟩;rw[ht];refine⟨key.1,fun i hi=>?_,?_⟩
 ·rw[a i (by omega),key.2 i hi];split
  ·exact Ann _
  ·exact h.asc (i-1) i (by omega) hi
 ·rw[a _ (Ane _)];exact h.last
end Hm
namespace Hm
noncomputable def ltB(a b:Arc):Bool:= @decide (Dg a b) (Classical.propDecidable _)
theorem Rc{a b:Arc}(h:Dg a b):ltB a b=true:=by unfold ltB;exact @Ana _ (Classical.propDecidable _) h
theorem Np{a b:Arc}(h: ¬Dg a b):ltB a b=false:=by unfold ltB;exact @Anc _ (Classical.propDecidable _) h
theorem Alg(a b:UInt8)(l m:Arc):ltB (a::l) (b::m)=(decide (a.toNat<b.toNat)||((a==b)&&ltB l m)):=by
 by_cases h:Dg (a::l) (b::m)
 ·rw[Rc h];rcases h with h|⟨h1,h2⟩
  ·rw[Ana h];rfl
  ·rw[h1,Rc h2];simp
 ·rw[Np h];have h1: ¬a.toNat<b.toNat:=fun x=>h (.inl x);rw[Anc h1,Bool.false_or]
  by_cases e:a=b
  ·have h2: ¬Dg l m:=fun x=>h (.inr ⟨e,x⟩);rw[Np h2,Bool.and_false]
  ·rw[show(a==b)=false from by rw[Aod];exact e];rfl
theorem Tu{t:Arc}{ps:Ard}(h:C5 t ps)(g:Nat→Bool)(i:Nat)(hi:i<ps.length):ps.countP (fun p=>g p&&ltB (t.drop p) (t.drop ps[i]))=(ps.take i).countP g:=by
 have e:ps=ps.take i++ps[i]::ps.drop (i+1):=by rw[←An7 hi,Ao5]
 have b:=h.ord;rw[e]at b;obtain⟨_,h2,d⟩:=List.pairwise_append.1 b;have f:=(Aqx.1 h2).1;have key:(ps.take i++ps[i]::ps.drop (i+1)).countP (fun p=>g p&&ltB (t.drop p) (t.drop ps[i]))=(ps.take i).countP g:=by
  rw[Apd,Aox];have z1:(ps.drop (i+1)).countP (fun p=>g p&&ltB (t.drop p) (t.drop ps[i]))=0:=by
   rw[List.countP_eq_zero];intro p a c;have j:=f p a;rw[Np (fun x=>Kc _ (Mz j x)),Bool.and_false]at c;cases c
  have z2:(g ps[i]&&ltB (t.drop ps[i]) (t.drop ps[i]))=false:=by rw[Np (Kc _),Bool.and_false]
  have z3:(ps.take i).countP (fun p=>g p&&ltB (t.drop p) (t.drop ps[i]))=(ps.take i).countP g:=by
   refine List.countP_congr fun p a=>?_;rw[Rc (d p a _ (Anl ..)),Bool.and_true]
  rw[z1,z2,z3];simp
 rw[←e]at key;exact key
theorem Tv{t:Arc}{ps:Ard}(h:C5 t ps)(i:Nat)(hi:i<ps.length):ps.countP (fun p=>ltB (t.drop p) (t.drop ps[i]))=i:=by
 have:=Tu h (fun _=>true) i hi;simp only[Bool.true_and]at this;rw[this,List.countP_true,Anp];omega
theorem Qj(t:Arc):(List.range t.length).map (fun p=>t.getD p 0)=t:=by
 apply Aon (by simp);intro i h1 h2;rw[Aqb,List.getElem_range,Am4,Am5 h2];rfl
theorem Ah5{t:Arc}{ps:Ard}(h:ps.Perm (List.range (t.length+1))):(Al t ps).Perm t:=by
 have h1:(Al t ps).Perm (Al t (List.range (t.length+1))):=(h.filter _).map _;have h2:Al t (List.range (t.length+1))=t:=by
  unfold Al;rw[List.range_succ_eq_map,Ao3,if_neg (by simp),List.filter_map,List.map_map]
  conv=>rhs;rw[←Qj t]
  rw[List.filter_eq_self.2 (fun p _=>by simp)];rfl
 rw[h2]at h1;exact h1
theorem Qk{α:Type}(p q:α→Bool): ∀l:List α,(∀x∈l,¬(p x=true∧q x=true))→l.countP (fun x=>p x||q x)=l.countP p+l.countP q
 |[],_=>rfl
 |x::r,h=>by
  have ih:=Qk p q r (fun y a=>h y (Anr _ a));have b:=h x (Anl ..);rw[Aox,Aox,Aox,ih];cases e1:p x<;>cases e2:q x<;>simp_all<;>omega
end Hm
namespace Hm
theorem Vg(t:Arc)(b:UInt8): ∀ps:Ard,(Al t ps).count b=ps.countP (fun p=>decide (0<p)&&(t.getD (p-1) 0==b))
 |[]=>rfl
 |p::r=>by
  have ih:=Vg t b r;unfold Al at ih⊢;rw[Ao3,Aox]
  by_cases h:0<p
  ·rw[Ana h,if_pos rfl,Aos,List.count_cons,ih,Bool.true_and]
  ·rw[Anc h,if_neg (by simp),ih];simp
theorem N1{t:Arc}{ps:Ard}(h:ps.Perm (List.range (t.length+1)))(i:Nat)(hi:i<ps.length):(Al t ps).take (Cl (A8 ps) i)=Al t (ps.take i):=by
 have e:Al t ps=Al t (ps.take i)++Al t (ps.drop i):=by
  unfold Al;rw[←Apk,←Ao8,Ao5]
 have d:(Al t (ps.take i)).length=Cl (A8 ps) i:=by
  unfold Al;rw[Anz,←Apv];have f:ps.Nodup:=h.symm.nodup List.nodup_range;have key: ∀k,k≤ps.length→(ps.take k).countP (fun p=>decide (0<p))=Cl (A8 ps) k:=by
   intro k;induction k with
   |zero=>intro _;simp[Cl]
   |succ k ih=>
    intro hk;have a:=Q9 h k (by omega);rw[Anh (by omega),Apd,ih (by omega),Aox,Aq5]
    by_cases c:ps[k]=0
    ·have b:=a.1 c;have a1:Cl (A8 ps) k=k:=if_neg (by omega);have a2:Cl (A8 ps) (k+1)=k+1-1:=if_pos (by omega);rw[Anc (by omega),a1,a2];rfl
    ·have c2:k≠A8 ps:=fun x=>c (a.2 x);rw[Ana (by omega)];rcases Nat.lt_or_gt_of_ne c2 with c3|c3
     ·have a1:Cl (A8 ps) k=k:=if_neg (by omega);have a2:Cl (A8 ps) (k+1)=k+1:=if_neg (by omega);rw[a1,a2];rfl
     ·have a1:Cl (A8 ps) k=k-1:=if_pos (by omega);have a2:Cl (A8 ps) (k+1)=k+1-1:=if_pos (by omega);rw[a1,a2,if_pos rfl];omega
  exact key i (by omega)
 rw[e,←d,Aqq]
theorem Tw{t:Arc}{ps ws:Ard}(h:C5 t ps)(A:Et ws (Al t ps))(i j q:Nat)(hi:i<ps.length)(v:j<ps.length)(e1:ps[i]=q+1)(e2:ps[j]=q):Bw (Al t ps) ws (A8 ps) i=(t.getD q 0,j):=by
 have z:ps.length=t.length+1:=by have:=h.perm.length_eq;simpa using this
 have f:i≠A8 ps:=fun x=>by have:=(Q9 h.perm i hi).2 x;omega
 have o:q<t.length:=by
  have:=List.mem_range.1 (h.perm.subset (Anm hi));omega
 have a:(Al t ps).getD (Cl (A8 ps) i) 0=t.getD q 0:=by
  have ht:=N1 h.perm i hi;have e:Al t ps=Al t (ps.take i)++t.getD q 0::Al t (ps.drop (i+1)):=by
   conv=>lhs;rw[←Ao5 i ps,An7 hi]
   unfold Al;rw[Ao8,Apk,Ao3,e1,Ana (by omega:0<q+1),if_pos rfl,Aos,show q+1-1=q from by omega]
  have w:=congrArg List.length ht;rw[Anp]at w;have n:=Gm h.perm;have d:=(Kw h.perm).2;have u:=V6 d (show i≤t.length by omega) f;have m:(Al t (ps.take i)).length=Cl (A8 ps) i:=by omega
  rw[e,←m,Am4,Ans (Ane _),Aoy];rfl
 unfold Bw;rw[if_neg f,a];obtain⟨b,hb⟩: ∃b,b=t.getD q 0:=⟨_,rfl⟩;rw[←hb];congr 1;have l:t.drop q=b::t.drop (q+1):=by
  rw[An7 o,hb,Am4,Am5 o];rfl
 rw[N1 h.perm i hi,Vg,A.first _ (by have:=b.toNat_lt;omega),(Ah5 h.perm).countP_eq];have c:=Tv h j v;rw[e2]at c;rw[h.perm.countP_eq,Apu,Apd,Aox,Aq5,Apy,l,Rc (show Dg [] (b::t.drop (q+1))from trivial)]at c;have hA:(List.range t.length).countP (fun p=>ltB (t.drop p) (b::t.drop (q+1)))=(List.range t.length).countP (fun p=>decide ((t.getD p 0).toNat<b.toNat))+(List.range t.length).countP (fun p=>(t.getD p 0==b)&&ltB (t.drop (p+1)) (t.drop (q+1))):=by
  rw[←Qk _ _ _ (fun p _ B=>by
   obtain⟨x1,x2⟩:=B;have x3:=Aoc x1;have x4:=(Bool.and_eq_true _ _▸x2:_∧_).1;rw[eq_of_beq x4]at x3;omega)]
  refine List.countP_congr fun p y=>?_;have g:=List.mem_range.1 y;have k:t.drop p=t.getD p 0::t.drop (p+1):=by
   rw[An7 g,Am4,Am5 g];rfl
  rw[k,Alg]
 have r:(List.range t.length).countP (fun p=>decide ((t.getD p 0).toNat<b.toNat))=t.countP (fun x=>decide (x.toNat<b.toNat)):=by
  conv=>rhs;rw[←Qj t]
  rw[List.countP_map];rfl
 have s:(List.range t.length).countP (fun p=>(t.getD p 0==b)&&ltB (t.drop (p+1)) (t.drop (q+1)))=(ps.take i).countP (fun p=>decide (0<p)&&(t.getD (p-1) 0==b)):=by
  have hs:=Tu h (fun p=>decide (0<p)&&(t.getD (p-1) 0==b)) i hi;rw[e1,h.perm.countP_eq,List.range_succ_eq_map,Aox,List.countP_map]at hs;rw[←hs];simp;rfl
 rw[hA,r,s,if_pos rfl]at c;omega
end Hm
namespace Hm
theorem Pe{t:Arc}{ps:Ard}(h:C5 t ps)(q:Nat)(c:q≤t.length): ∃j,∃b:j<ps.length,ps[j]=q:=by
 have a:q∈ps:=h.perm.symm.subset (List.mem_range.2 (by omega));exact Aog a
theorem Zy{t:Arc}{ps:Ard}(h:C5 t ps)(f:0<ps.length):ps[0]=t.length:=by
 obtain⟨j,a,e⟩:=Pe h t.length (Ane _);have b:=Tv h j a;rw[e,Apy]at b;have d:ps.countP (fun p=>ltB (t.drop p) [])=0:=by
  rw[List.countP_eq_zero];intro p _ c;rw[Np (S5 _)]at c;cases c
 rw[d]at b;subst b;exact e
theorem Vh{t:Arc}{ps ws:Ard}(h:C5 t ps)(c:Et ws (Al t ps)): ∀k,k≤t.length→(A5 (Bw (Al t ps) ws (A8 ps)) 0 k).1=t.drop (t.length-k)∧ ∃b:(A5 (Bw (Al t ps) ws (A8 ps)) 0 k).2<ps.length,ps[(A5 (Bw (Al t ps) ws (A8 ps)) 0 k).2]=t.length-k
 |0,_=>by
  have f:ps.length=t.length+1:=by have:=h.perm.length_eq;simpa using this
  refine⟨by rw[Aqp,Apy];rfl,by show 0<_;omega,?_⟩;exact Zy h (by omega)
 |k+1,hk=>by
  obtain⟨h1,b,h2⟩:=Vh h c k (by omega);obtain⟨j,a,e⟩:=Pe h (t.length-(k+1)) (by omega);have d:=Tw h c _ j (t.length-(k+1)) b a (by rw[h2];omega) e;have e1:A5 (Bw (Al t ps) ws (A8 ps)) 0 (k+1)=(t.getD (t.length-(k+1)) 0::(A5 (Bw (Al t ps) ws (A8 ps)) 0 k).1,j):=by
   rw[A5,d]
  rw[e1];refine⟨?_,a,e⟩;show _::_=_;rw[h1,An7 (show t.length-(k+1)<t.length by omega),Am4,Am5 (show t.length-(k+1)<t.length by omega),show t.length-(k+1)+1=t.length-k from by omega];rfl
theorem Ah6{t:Arc}{ps ws:Ard}(h:C5 t ps)(a:Et ws (Al t ps)):(A5 (Bw (Al t ps) ws (A8 ps)) 0 t.length).1=t:=by
 rw[(Vh h a t.length (Ane _)).1,Aoy];rfl
end Hm
end Go.Proofs.YtegnkfdbmmndaaaGreat
namespace Go.Proofs.YtegnkfdbmmndaaaGreat
open Hm Go.Proofs.Tryz Go.RowKit
theorem Alh(hones:Bd)(hLn:El)(s:Arc)(w:World)(hs:s.length≤281474976710656):
  Calls prog 31 #[.string ⟨s.toArray⟩] w fun e w'=>Ara w w'∧ ∃pa ok,w.heap.size≤pa∧e= .returned (.tuple #[.pointer (some ⟨pa,0,none⟩),.bool ok])∧Lu w.heap.size w' s pa ok:=by
 obtain⟨S,hS⟩: ∃S,S=(⟨s.toArray⟩:ByteArray):=⟨_,rfl⟩;rw[←hS];have HS:Hid (S=(⟨s.toArray⟩:ByteArray)):=hS;clear hS
 go_enter func31,ntmps31
 go_wp2_with fail;have bb:Ax (w.alloc (.cells #[.string S,.bool false] 132)) w.heap.size (some s):=by rw[HS.o];exact Anj w _
 refine(Lg w.heap.size (some s) 6 _ bb (by show s.length≤_;omega) (by omega)).mono ?_;rintro e w1 ⟨rfl,bc,aO⟩;have H1:Hid (Ax w1 w.heap.size (Bb (some s) 6).2∧Ara w w1):=⟨bc,((Aa.refl (fun _=>False) w).alloc _).trans aO (fun j h1 h2=>by omega)⟩;clear bb bc aO;have l:Hid (Hm.rdA s=Da (Bb (some s) 6).2 ((⟨(Bb (some s) 6).1.toArray⟩:ByteArray).toList==[72,79,65,82,68,49])):=rfl;generalize(⟨(Bb (some s) 6).1.toArray⟩:ByteArray)=T1 at*;have aU:Bj (Hm.rdA s)≤s.length:=by rw[l.o];exact Ant (Iq _ _) (Ed _ _)
 go_wp2_with fail;refine(Ik w.heap.size _ _ w1 H1.o.1).mono ?_;rintro e w2 ⟨rfl,aB,aP⟩;rw[←l.o]at aB;have H2:Hid (Ax w2 w.heap.size (Hm.rdA s)∧Ara w w2):=⟨aB,H1.o.2.trans aP (fun j h1 h2=>by omega)⟩;clear aB aP H1 l;go_wp2_with fail;refine(Kt w.heap.size (Hm.rdA s) 1 w2 H2.o.1 (by omega) (by omega)).mono ?_;rintro e w3 ⟨rfl,bd,aQ⟩;have ac:=Ho (Hm.rdA s) 1;have aV:Bj (Hm.rdF s).2≤s.length:=Ant (Ed _ _) aU;have H3:Hid (Ax w3 w.heap.size (Hm.rdF s).2∧Ara w w3):=⟨bd,H2.o.2.trans aQ (fun j h1 h2=>by omega)⟩;rw[show B5 (Hm.rdA s) 1=Hm.rdF s from rfl]at ac⊢;clear bd aQ H2;go_wp2_with fail;refine(Kt w.heap.size (Hm.rdF s).2 2 w3 H3.o.1 (by omega) (by omega)).mono ?_;rintro e w4 ⟨rfl,be,aR⟩;have ag:=Ho (Hm.rdF s).2 2;have aW:Bj (Hm.rdN s).2≤s.length:=Ant (Ed _ _) aV;have H4:Hid (Ax w4 w.heap.size (Hm.rdN s).2∧Ara w w4):=⟨be,H3.o.2.trans aR (fun j h1 h2=>by omega)⟩;rw[show B5 (Hm.rdF s).2 2=Hm.rdN s from rfl]at ag⊢;clear be aR H3;go_wp2_with fail;refine(Kt w.heap.size (Hm.rdN s).2 2 w4 H4.o.1 (by omega) (by omega)).mono ?_;rintro e w5 ⟨rfl,bf,aS⟩;have ah:=Ho (Hm.rdN s).2 2;have aX:Bj (Hm.rdR s).2≤s.length:=Ant (Ed _ _) aW;have H5:Hid (Ax w5 w.heap.size (Hm.rdR s).2∧Ara w w5):=⟨bf,H4.o.2.trans aS (fun j h1 h2=>by omega)⟩;rw[show B5 (Hm.rdN s).2 2=Hm.rdR s from rfl]at ah⊢;have aa:Hid (Hm.rdB s=Da (Hm.rdR s).2 (decide ((Hm.rdR s).1≤(Hm.rdN s).1))):=rfl;have aY:Bj (Hm.rdB s)≤s.length:=by rw[aa.o];exact Ant (Iq _ _) aX
 have a1:Hid (Hm.rdM s=Au (Hm.rdF s).1 (Hm.rdB s)):=rfl;clear bf aS H4 aU aV aW aX;obtain⟨m,hm⟩: ∃m,m=(Hm.rdF s).1:=⟨_,rfl⟩;obtain⟨n,hn⟩: ∃n,n=(Hm.rdN s).1:=⟨_,rfl⟩;obtain⟨root,E⟩: ∃r,r=(Hm.rdR s).1:=⟨_,rfl⟩;rw[←hm]at ac a1⊢;rw[←hn]at ag aa⊢;rw[←E]at ah aa⊢;have ba:m≤255:=by simp at ac;omega
 have af:n≤65535:=by simp at ag;omega
 have b0:root≤65535:=by simp at ah;omega
 have HV:Hid (m=(Hm.rdF s).1∧n=(Hm.rdN s).1∧root=(Hm.rdR s).1):=⟨hm,hn,E⟩;clear ac ag ah hm hn E;go_wp2_with fail;refine(Ik w.heap.size (Hm.rdR s).2 (decide (root≤n)) w5 H5.o.1).mono ?_;rintro e w6 ⟨rfl,aC,aT⟩;rw[←aa.o]at aC;have H6:Hid (Ax w6 w.heap.size (Hm.rdB s)∧Ara w w6):=⟨aC,H5.o.2.trans aT (fun j h1 h2=>by omega)⟩;clear aC aT H5;go_wp2_with fail;have bv:=Anu H6.o.1;generalize aA:w6.heap.size=pa at bv⊢;have H7:Hid (Ax (w6.alloc (.cells Tryz.zeroCells102 102)) w.heap.size (Hm.rdB s)∧Ara w (w6.alloc (.cells Tryz.zeroCells102 102))∧(w6.alloc (.cells Tryz.zeroCells102 102)).heap[pa]?=some (.cells (I7 (.slice none 0 0) Gv (Cd Tryz.zeroCells96 0 (List.replicate 256 0)) Ds).toArray 102 (0,0))∧pa<(w6.alloc (.cells Tryz.zeroCells102 102)).heap.size):=by
  refine⟨H6.o.1.kept ((Aa.refl (fun _=>False) w6).alloc _) id,H6.o.2.alloc _,?_,?_⟩
  ·rw[←Ae7,←aA];exact Anj w6 _
  ·rw[←aA];simp
 generalize w6.alloc (.cells Tryz.zeroCells102 102)=W7 at H7⊢;obtain⟨R0,a4⟩: ∃R0,R0=Cd Tryz.zeroCells96 0 (List.replicate 256 0):=⟨_,rfl⟩;have aL:R0.length=1030:=by rw[a4];exact Gl _ 0 _ Hp Ani
 rw[←a4]at H7;clear aA H6 a4;refine(Ajn w.heap.size (Hm.rdB s) m W7 H7.o.1 ba (by omega)).mono ?_;rintro e w8 ⟨rfl,ad,aD,a8⟩;rw[←a1.o]at ad aD;have bt:pa<W7.heap.size:=H7.o.2.2.2;generalize W7.heap.size=gn at ad bt⊢;have q:=a8.row H7.o.2.2.1 (fun h=>by omega);have c0:w8.cell? ⟨pa,0,none⟩=some (.slice none 0 0):=Am7 _ _ 0 _ _ _ q;have f0:w8.frozen? ⟨pa,0,none⟩=false:=Ang _ _ 0 _ _ q;have aZ:Bj (Hm.rdM s).2≤s.length:=by rw[a1.o];exact Ant (Pb _ _) aY
 have H8:Hid (Ax w8 w.heap.size (Hm.rdM s).2∧Ara w w8∧w8.heap[pa]?=some (.cells (I7 (.slice none 0 0) Gv R0 Ds).toArray 102 (0,0))∧w8.heap[gn]?=some (.cells (Fx (Hm.rdM s).1).toArray 9 (0,0))):=⟨aD,H7.o.2.1.trans a8 (fun j h1 h2=>by omega),q,ad⟩;clear aD a8 ad q H7 aY;go_wp2_with fail;have ae:Aa (fun j=>j=pa) w8 (w8.setCell ⟨pa,0,none⟩ (.slice (some ⟨gn,0,none⟩) m m)):=(Aa.refl (fun j=>j=pa) w8).setCell (p:=⟨pa,0,none⟩) (.inr rfl) _;have F:=Anb _ _ 0 _ _ (.slice (some ⟨gn,0,none⟩) m m) H8.o.2.2.1;rw[Ah0]at F;have H9:Hid (Ax (w8.setCell ⟨pa,0,none⟩ (.slice (some ⟨gn,0,none⟩) m m)) w.heap.size (Hm.rdM s).2∧Ara w (w8.setCell ⟨pa,0,none⟩ (.slice (some ⟨gn,0,none⟩) m m))∧(w8.setCell ⟨pa,0,none⟩ (.slice (some ⟨gn,0,none⟩) m m)).heap[pa]?=some (.cells (I7 (.slice (some ⟨gn,0,none⟩) m m) Gv R0 Ds).toArray 102 (0,0))∧(w8.setCell ⟨pa,0,none⟩ (.slice (some ⟨gn,0,none⟩) m m)).heap[gn]?=some (.cells (Fx (Hm.rdM s).1).toArray 9 (0,0))):=
  ⟨H8.o.1.kept ae (fun h=>by omega),H8.o.2.1.trans ae (fun j h1 h2=>by omega),F,ae.row H8.o.2.2.2 (fun h=>by omega)⟩
 generalize w8.setCell ⟨pa,0,none⟩ (.slice (some ⟨gn,0,none⟩) m m)=W9 at H9⊢;obtain⟨NV,a3⟩: ∃x,x=(Value.slice (some ⟨gn,0,none⟩) m m):=⟨_,rfl⟩;rw[←a3]at H9⊢;have bn:Hid (NV=(Value.slice (some ⟨gn,0,none⟩) m m)):=a3;clear a3;clear ae F H8 c0 f0;refine(Ahy hones w.heap.size (Hm.rdM s).2 m n W9 H9.o.1 ba af (by omega)).mono ?_;rintro e w10 ⟨G,EV,st7,rfl,Q,ap⟩;have bq:gn<W9.heap.size:=Anu H9.o.2.2.2;have H:=G.row H9.o.2.2.1 (fun h=>by omega);have am:Bj st7≤s.length:=Ant Q.rest aZ;have P:Hid (Ax w10 w.heap.size st7∧Ara w w10∧w10.heap[gn]?=some (.cells (Fx (Hm.rdM s).1).toArray 9 (0,0))∧Fj (gn+1) w10 (Hm.rdM s).2 m n EV st7):=⟨ap,H9.o.2.1.trans G (fun j h1 h2=>by omega),G.row H9.o.2.2.2 (fun h=>by omega),Q.le bq⟩;have R:EV.toArray.size=5:=Q.len;have aH:=Q.one;have A:w10.heap[pa]?=some (.cells ([NV]++(Gv++(R0++Ds))).toArray 102 (0,0)):=H;obtain⟨EA,a2⟩: ∃EA,EA=EV.toArray:=⟨_,rfl⟩;rw[←a2]at R aH⊢;have bm:Hid (EA=EV.toArray):=a2;clear ap G Q H H9 aZ a2
 go_wp2_with(first
  |(refine Lh _ rfl 87 _ _ rfl pa 1 102 [NV] Gv (R0++Ds) EA rfl rfl A rfl R.symm (by rw[R];exact Ahr) aH ?_;intro w11 av u))
 have K:Hid (Ax w11 w.heap.size st7∧Ara w w11∧w11.heap[gn]?=some (.cells (Fx (Hm.rdM s).1).toArray 9 (0,0))∧Fj (gn+1) w11 (Hm.rdM s).2 m n EV st7∧w11.heap[pa]?=some (.cells ([NV]++(EA.toList++(R0++Ds))).toArray 102 (0,0))):=
  ⟨P.o.1.kept u (fun h=>by omega),P.o.2.1.trans u (fun j h1 h2=>by omega),u.row P.o.2.2.1 (fun h=>by omega),P.o.2.2.2.kept u (fun j h1 h2 O=>by omega),av⟩
 clear av u P A;obtain⟨L,hL⟩: ∃L,L=(Hm.rdL st7).1:=⟨_,rfl⟩;obtain⟨st8,I⟩: ∃x,x=(Hm.rdL st7).2:=⟨_,rfl⟩;have br:L.length=256:=by rw[hL];exact Jo _ _
 have aK: ∀x∈L,x≤255:=by rw[hL];exact Zw _ _
 have an:Bj st8≤s.length:=by rw[I];exact Ant (P3 _ _) (Ant (Ed _ _) am)
 refine(Afb w.heap.size st7 w11 K.o.1 (by omega)).mono ?_;rintro e w12 ⟨rfl,z,v⟩
 replace z:Ax w12 w.heap.size (Hm.rdL st7).2:=z
 rw[show Bt (B5 st7 2).2 (B5 st7 2).1=Hm.rdL st7 from rfl];rw[←I]at z;rw[←hL];have HL:Hid (L=(Hm.rdL st7).1∧st8=(Hm.rdL st7).2):=⟨hL,I⟩;have B:Hid (Ax w12 w.heap.size st8∧Ara w w12∧w12.heap[gn]?=some (.cells (Fx (Hm.rdM s).1).toArray 9 (0,0))∧Fj (gn+1) w12 (Hm.rdM s).2 m n EV st7∧w12.heap[pa]?=some (.cells ([NV]++(EA.toList++(R0++Ds))).toArray 102 (0,0))):=
  ⟨z,K.o.2.1.trans v (fun j h1 h2=>by omega),v.row K.o.2.2.1 (fun h=>by omega),K.o.2.2.2.1.kept v (fun j h1 h2 O=>by omega),v.row K.o.2.2.2.2 (fun h=>by omega)⟩
 clear z v K hL I am;have aE:=Aho hones w.heap.size st8 n L w12 B.o.1 af br aK (by omega);obtain⟨LA,aJ⟩: ∃x,x=(Ad L).toArray:=⟨_,rfl⟩;rw[←aJ]at aE⊢;clear aJ aK;go_wp2_with fail;refine aE.mono ?_;rintro e w13 ⟨y,VA,T,ok,rfl,N,V⟩;obtain⟨st9,J⟩: ∃x,x=(Bb (Da st8 ok) T.size).2:=⟨_,rfl⟩;rw[←J]at V;have ao:Bj st9≤s.length:=by rw[J];exact Ant (Ed _ _) (Ant (Iq _ _) an)
 obtain⟨ws,Y,Z,ay⟩:=N.weights af;have aj:gn<w12.heap.size:=Anu B.o.2.2.1;have a9:=fun W=>Ac9 VA root ws W N.size N.one Y Z ay;have ab:(Cd VA root (Hm.firsts ws)).toArray.size=1030:=by rw[Anq];exact Gl VA root _ N.size (by unfold Hm.firsts;rw[Anz,Apq])
 have aM:=Tm VA root (Hm.firsts ws) N.one;obtain⟨RA,a5⟩: ∃x,x=(Cd VA root (Hm.firsts ws)).toArray:=⟨_,rfl⟩;rw[←a5]at a9 ab aM;have l:Hid (RA=(Cd VA root (Hm.firsts ws)).toArray∧ws.length=256∧(∀b,b<256→VA[516+b]?=some (.int .i64 (ws.getD b 0:Nat)))∧st9=(Bb (Da st8 ok) T.size).2):=⟨a5,Y,Z,J⟩;have C:Hid (Ax w13 w.heap.size st9∧Ara w w13∧w13.heap[gn]?=some (.cells (Fx (Hm.rdM s).1).toArray 9 (0,0))∧Fj (gn+1) w13 (Hm.rdM s).2 m n EV st7∧w13.heap[pa]?=some (.cells ([NV]++(EA.toList++(R0++Ds))).toArray 102 (0,0))∧De (gn+1) w13 (st8.getD []) n L VA T ok):=
  ⟨V,B.o.2.1.trans y (fun j h1 h2=>by omega),y.row B.o.2.2.1 (fun h=>by omega),B.o.2.2.2.1.kept y (fun j h1 h2 O=>by omega),y.row B.o.2.2.2.2 (fun h=>by omega),N.le aj⟩
 clear V y B aE N J a5 Y Z ay an aj;go_wp2_with fail;refine(a9 _).mono ?_;rintro e w14 ⟨rfl,d⟩;have A:w14.heap[pa]?=some (.cells (([NV]++EA.toList)++(R0++Ds)).toArray 102 (0,0)):=by rw[An4];exact d.row C.o.2.2.2.2.1 id
 have M:Hid (Ax w14 w.heap.size st9∧Ara w w14∧w14.heap[gn]?=some (.cells (Fx (Hm.rdM s).1).toArray 9 (0,0))∧Fj (gn+1) w14 (Hm.rdM s).2 m n EV st7∧De (gn+1) w14 (st8.getD []) n L VA T ok):=
  ⟨C.o.1.kept d id,C.o.2.1.trans d (fun _ _ h=>h),d.row C.o.2.2.1 id,C.o.2.2.2.1.kept d (fun _ _ _=>id),C.o.2.2.2.2.2.kept d (fun _ _ _=>id)⟩
 have bp:([NV]++EA.toList).length=6:=by simp[R]
 clear d C a9
 go_wp2_with(first
  |(refine Lh _ rfl 98 _ _ rfl pa 6 102 ([NV]++EA.toList) R0 Ds RA rfl rfl A bp (by rw[ab];exact aL) (by rw[ab];exact Nk) aM ?_;intro w15 aw i))
 have t:Hid (Ax w15 w.heap.size st9∧Ara w w15∧w15.heap[gn]?=some (.cells (Fx (Hm.rdM s).1).toArray 9 (0,0))∧Fj (gn+1) w15 (Hm.rdM s).2 m n EV st7∧De (gn+1) w15 (st8.getD []) n L VA T ok∧w15.heap[pa]?=some (.cells (([NV]++EA.toList)++(RA.toList++Ds)).toArray 102 (0,0))):=
  ⟨M.o.1.kept i (fun h=>by omega),M.o.2.1.trans i (fun j h1 h2=>by omega),i.row M.o.2.2.1 (fun h=>by omega),M.o.2.2.2.1.kept i (fun j h1 h2 O=>by omega),M.o.2.2.2.2.kept i (fun j h1 h2 O=>by omega),aw⟩
 clear aw i M A;refine(Ahz hones hLn w.heap.size st9 n w15 t.o.1 af (by omega)).mono ?_;rintro e w16 ⟨k,SV,st10,rfl,c,aq⟩;have ak:gn<w15.heap.size:=Anu t.o.2.2.1;have bz:Bj st10≤s.length:=Ant c.rest ao;have a7:SV.toArray.size=4:=c.len;have aN:=c.one;have A:w16.heap[pa]?=some (.cells ((([NV]++EA.toList)++RA.toList)++(Ds++[])).toArray 102 (0,0)):=by rw[Aow,An4 ([NV]++EA.toList)];exact k.row t.o.2.2.2.2.2 (fun h=>by omega)
 have D:Hid (Ax w16 w.heap.size st10∧Ara w w16∧w16.heap[gn]?=some (.cells (Fx (Hm.rdM s).1).toArray 9 (0,0))∧Fj (gn+1) w16 (Hm.rdM s).2 m n EV st7∧De (gn+1) w16 (st8.getD []) n L VA T ok∧Iu (gn+1) w16 st9 n SV st10):=
  ⟨aq,t.o.2.1.trans k (fun j h1 h2=>by omega),k.row t.o.2.2.1 (fun h=>by omega),t.o.2.2.2.1.kept k (fun j h1 h2 O=>by omega),t.o.2.2.2.2.1.kept k (fun j h1 h2 O=>by omega),c.le ak⟩
 obtain⟨SA,a6⟩: ∃x,x=SV.toArray:=⟨_,rfl⟩;rw[←a6]at a7 aN⊢;have bo:Hid (SA=SV.toArray):=a6;have aG:(([NV]++EA.toList)++RA.toList).length=1036:=by simp[R,ab]
 clear aq k t c ao a6 ak
 go_wp2_with(first
  |(refine Lh _ rfl 100 _ _ rfl pa 1036 102 (([NV]++EA.toList)++RA.toList) Ds [] SA rfl rfl A aG a7.symm (by rw[a7];exact Ajs) aN ?_;intro w17 ax f))
 have U:w.heap.size≤gn+1:=by omega
 have a:Hid (Ax w17 w.heap.size st10∧Ara w w17∧w17.heap[gn]?=some (.cells (Fx (Hm.rdM s).1).toArray 9 (0,0))∧Fj (gn+1) w17 (Hm.rdM s).2 m n EV st7∧De (gn+1) w17 (st8.getD []) n L VA T ok∧Iu (gn+1) w17 st9 n SV st10∧w17.heap[pa]?=some (.cells (I7 NV EV (Cd VA root (Hm.firsts ws)) SV).toArray 102 (0,0))):=
  ⟨D.o.1.kept f (fun h=>by omega),D.o.2.1.trans f (fun j h1 h2=>by omega),f.row D.o.2.2.1 (fun h=>by omega),D.o.2.2.2.1.kept f (fun j h1 h2 O=>by omega),D.o.2.2.2.2.1.kept f (fun j h1 h2 O=>by omega),D.o.2.2.2.2.2.kept f (fun j h1 h2 O=>by omega),by
   rw[ax,bm.o,l.o.1,bo.o];unfold I7;simp only[Aow,An4,Aqw,Aqs]⟩
 clear ax f D A;have al:(B5 st10 4).2=some []→4≤s.length∧s.length≤1000000:=fun hx=>by
  obtain⟨v1,v2,v3⟩:=HV.o;have Q:=a.o.2.2.2.1;have N:=a.o.2.2.2.2.1;have c:=a.o.2.2.2.2.2.1;rw[v1,v2]at Q;rw[v2]at N c;exact(Va Q HL.o N l.o.2.2.2 c hx).1
 have X:=Ajt w.heap.size st10 s w17 a.o.1 (by omega) al (by omega);rw[←HS.o]at X;clear al;refine X.mono ?_;rintro e w18 ⟨rfl,ar,g⟩;have cb:=ar.bad;have az:Hid (Ara w w18∧Lu w.heap.size w18 s pa (!(N0 s st10).isNone)):=by
  obtain⟨v1,v2,v3⟩:=HV.o;refine⟨a.o.2.1.trans g (fun j h1 h2=>by omega),?_⟩;have Q:=(a.o.2.2.2.1.kept g (fun j h1 h2 O=>by omega)).le (show w.heap.size≤_ from U);have N:=(a.o.2.2.2.2.1.kept g (fun j h1 h2 O=>by omega)).le (show w.heap.size≤_ from U);have c:=(a.o.2.2.2.2.2.1.kept g (fun j h1 h2 O=>by omega)).le (show w.heap.size≤_ from U);have au:=g.row a.o.2.2.2.2.2.2 (fun h=>by omega);rw[bn.o,v1,v3]at au;rw[v1,v2]at Q;rw[v2]at N c;exact Ah1 Q HL.o N l.o.2.2.2 c ⟨l.o.2.1,l.o.2.2.1⟩ au (g.row a.o.2.2.1 (fun h=>by omega)) (by omega)
 generalize(N0 s st10).isNone=bad at cb az;clear ar g X a;go_wp2_with fail;go_quiet(fail);go_wp2_with fail;go_ret2;exact⟨az.o.1.drewN _,pa,_,by omega,rfl,az.o.2.kept ((Aa.refl (fun _=>False) w18).drewN _) (fun _ _ _=>id) id⟩
def Dl(B:Nat)(w:World)(pa:Nat)(s l6:Arc)(L:Ard)(l8:Arc)(st:Bl):Prop:=
 ∃gn ge g ng nc gs,B≤gn∧B≤ge∧B≤g∧B≤ng∧B≤gs∧
   w.heap[pa]?=some (.cells (I7 (.slice (some ⟨gn,0,none⟩) (Hm.rdF s).1 (Hm.rdF s).1) (F8 l6 (Hm.rdF s).1 (Hm.rdN s).1 ge)
    (Cd (Ay ⟨(l8.take (Hm.szB st.len)).toArray⟩ st.len g (A6 L) (.slice (some ⟨ng,0,none⟩) st.nds.length nc) st.ws (Hm.rdN s).1).toArray (Hm.rdR s).1 (Hm.firsts st.ws))
    (G6 (l8.drop (Hm.szB st.len)) (Hm.rdN s).1 gs)).toArray 102 (0,0))∧
   w.heap[gn]?=some (.cells (Fx (Hm.rdM s).1).toArray 9 (0,0))∧
   IntRow w ge (B6 (l6.take (Hm.szB (Ak (Hm.rdF s).1 (Hm.rdN s).1))))∧IntRow w g (B6 (l8.take (Hm.szB st.len)))∧
   w.ownsRow 0 195 9 (.slice (some ⟨ng,0,none⟩) st.nds.length nc) st.nds.length (Be st.nds)∧
   IntRow w gs (B6 ((l8.drop (Hm.szB st.len)).take (Hm.szB (An (Hm.rdN s).1))))
theorem Lu.arch{B:Nat}{w':World}{s:Arc}{pa:Nat}{ok:Bool}(h:Lu B w' s pa ok):(ok=true∧ ∃l6 L l8 st,Cy s l6 L l8 st∧Dl B w' pa s l6 L l8 st)∨(ok=false∧ ∀l6 L l8 st,¬Cy s l6 L l8 st):=by
 rcases h with⟨h1,l6,L,l8,st,gn,ge,g,ng,nc,gs,a1,b⟩|h1
 ·exact .inl ⟨h1,l6,L,l8,st,a1,gn,ge,g,ng,nc,gs,b⟩
 ·exact .inr h1
theorem Dl.kept{B:Nat}{w' w2:World}{pa:Nat}{s l6:Arc}{L:Ard}{l8:Arc}{st:Bl}(h:Dl B w' pa s l6 L l8 st){S:Nat→Prop}(hk:Aa S w' w2)(hn: ∀j,B≤j→j<w'.heap.size→ ¬S j)(b: ¬S pa):Dl B w2 pa s l6 L l8 st:=by
 obtain⟨gn,ge,g,ng,nc,gs,b1,b2,b3,b4,b5,a2,a3,a4,a5,a6,a7⟩:=h;exact⟨gn,ge,g,ng,nc,gs,b1,b2,b3,b4,b5,hk.row a2 b,hk.row a3 (hn gn b1 (Anu a3)),a4.kept hk (hn ge b2 a4.lt),a5.kept hk (hn g b3 a5.lt),hk.owns a6 (fun j a=>by have e1:ng=j:=An0 a;rw[←e1];exact hn ng b4 (a6.lt ng rfl).2),a7.kept hk (hn gs b5 a7.lt)⟩
theorem Of(nv:Value)(E R S:Are)(a:E.length=5)(j:Nat)(b:j<R.length):(I7 nv E R S)[6+j]?=R[j]?:=by
 unfold I7;rw[show 6+j=(5+j)+1 from by omega,Apz,Ans (by omega),a,show 5+j-5=j from by omega,An6 b]
theorem Ah7(nv:Value)(E R S:Are)(a:E.length=5)(b:R.length=1030)(j:Nat):(I7 nv E R S)[1036+j]?=S[j]?:=by
 unfold I7;rw[show 1036+j=(1035+j)+1 from by omega,Apz,Ans (by omega),a,Ans (by omega),b,show 1035+j-5-1030=j from by omega]
theorem Xr(VA:Array Value)(root:Nat)(fs:Ard)(b:VA.size=773)(j:Nat)(a:j<773):(Cd VA root fs)[j]?=VA[j]?:=by
 unfold Cd;rw[An6 (by rw[Ao6];omega),Array.getElem?_toList]
theorem Ah8(VA:Array Value)(root:Nat)(fs:Ard)(a:VA.size=773):(Cd VA root fs)[773]?=some (.int .i64 (root:Nat)):=by
 unfold Cd;rw[Ans (by rw[Ao6];omega),Ao6,a,Aoy];rfl
theorem Adl(VA:Array Value)(root:Nat)(ws:Ard)(a:VA.size=773)(b:Nat)(hb:b<256):(Cd VA root (Hm.firsts ws))[774+b]?=some (.int .i64 (Ci ws b:Nat)):=by
 unfold Cd;rw[Ans (by rw[Ao6];omega),Ao6,a,show 774+b-773=b+1 from by omega,Apz];unfold Ad Hm.firsts;rw[An2,An2,Ao2 hb];rfl
structure Tx(w:World)(pa:Nat)(s l6:Arc)(L:Ard)(l8:Arc)(st:Bl)(gn ge g ng nc gs:Nat):Prop where
 names:w.cell? ⟨pa,0,none⟩=some (.slice (some ⟨gn,0,none⟩) (Hm.rdF s).1 (Hm.rdF s).1)
 nblock:w.heap[gn]?=some (.cells (Fx (Hm.rdM s).1).toArray 9 (0,0))
 ends:D4 w pa 1 ⟨(l6.take (Hm.szB (Ak (Hm.rdF s).1 (Hm.rdN s).1))).toArray⟩ (Ak (Hm.rdF s).1 (Hm.rdN s).1) ge (Hm.rdF s).1 (Cr (Hm.rdF s).1 (Hm.rdN s).1)
 rows:Dd w pa 6 ⟨(l8.take (Hm.szB st.len)).toArray⟩ st.len g ng nc st.nds (Hm.rdR s).1 st.ws
 total:w.cell? ⟨pa,778,none⟩=some (.int .i64 ((Hm.rdN s).1:Nat))
theorem Dl.parts{B:Nat}{w:World}{pa:Nat}{s l6:Arc}{L:Ard}{l8:Arc}{st:Bl}(h:Dl B w pa s l6 L l8 st)(e:Cy s l6 L l8 st): ∃gn ge g ng nc gs,Tx w pa s l6 L l8 st gn ge g ng nc gs:=by
 obtain⟨gn,ge,g,ng,nc,gs,b1,b2,b3,b4,b5,a2,a3,a4,a5,a6,a7⟩:=h;refine⟨gn,ge,g,ng,nc,gs,?_⟩;have i:=e.ends.fits;have f:(⟨(l6.take (Hm.szB (Ak (Hm.rdF s).1 (Hm.rdN s).1))).toArray⟩:ByteArray).size=Hm.szB (Ak (Hm.rdF s).1 (Hm.rdN s).1):=by
  show(l6.take _).toArray.size=_;rw[Anq,Anp];omega
 have m:=Hz e.tree (Jp s);obtain⟨col,c1,c2,cw⟩:=Kf e.tree;have c:(Ay ⟨(l8.take (Hm.szB st.len)).toArray⟩ st.len g (A6 L) (.slice (some ⟨ng,0,none⟩) st.nds.length nc) st.ws (Hm.rdN s).1).toArray.size=773:=by
  rw[Anq];exact Cm _ _ _ _ _ _ _ (A4 _ _ _ _) cw.1
 have a:(F8 l6 (Hm.rdF s).1 (Hm.rdN s).1 ge).length=5:=rfl;have l:=Gl (Ay ⟨(l8.take (Hm.szB st.len)).toArray⟩ st.len g (A6 L) (.slice (some ⟨ng,0,none⟩) st.nds.length nc) st.ws (Hm.rdN s).1).toArray (Hm.rdR s).1 (Hm.firsts st.ws) c (by unfold Hm.firsts;rw[Anz,Apq]);have d: ∀j,j<773→w.cell? ⟨pa,6+j,none⟩=(Ay ⟨(l8.take (Hm.szB st.len)).toArray⟩ st.len g (A6 L) (.slice (some ⟨ng,0,none⟩) st.nds.length nc) st.ws (Hm.rdN s).1)[j]?:=fun j k=>by
  rw[Am7 _ _ (6+j) _ _ _ a2,Anw,Of _ _ _ _ a j (by omega),Xr _ _ _ c j k,Anw]
 refine⟨Am7 _ _ 0 _ _ _ a2,a3,⟨⟨Am7 _ _ 1 _ _ _ a2,Am7 _ _ 2 _ _ _ a2,?_,?_⟩,Am7 _ _ 4 _ _ _ a2,Am7 _ _ 5 _ _ _ a2⟩,⟨⟨⟨d 0 (by omega),d 1 (by omega),d 2 (by omega),?_⟩,?_,a6⟩,?_,fun b hb=>?_⟩,?_⟩
 ·rw[f];exact Am7 _ _ 3 _ _ _ a2
 ·exact a4
 ·exact a5
 ·rw[show 6+515=6+515 from rfl,d 515 (by omega)];exact Pp _ _ _ _ _ _ _ (A4 _ _ _ _)
 ·rw[Am7 _ _ (6+773) _ _ _ a2,Anw,Of _ _ _ _ a 773 (by omega),Ah8 _ _ _ c]
 ·rw[Am7 _ _ (6+774+b) _ _ _ a2,Anw,show 6+774+b=6+(774+b)from by omega,Of _ _ _ _ a (774+b) (by omega),Adl _ _ _ c b hb]
 ·rw[show(778:Nat)=6+772 from rfl,d 772 (by omega)];exact Pq _ _ _ _ _ _ _ (A4 _ _ _ _) cw.1
theorem Zz:(prog.info? 38).map (fun i=>(i.zero,i.size,i.bytes))=some (some (.agg #[.string ⟨#[]⟩,.string ⟨#[]⟩]),2,32):=by kernel_rfl
section
variable {P:Program}
end
namespace Hm
abbrev Fl:=ByteArray×ByteArray
def Fz:List Fl→Are
 |[]=>[]
 |p::r=> .string p.1:: .string p.2::Fz r
theorem Sb(l:List Fl):(Fz l).length=l.length*2:=by
 induction l with
 |nil=>rfl
 |cons p r ih=>simp[Fz,ih];omega
theorem Re(l:List Fl): ∀i,(h:i<l.length)→(Fz l)[i*2]?=some (.string l[i].1):=by
 induction l with
 |nil=>intro i h;simp at h
 |cons p r ih=>
  intro i h;cases i with
  |zero=>rfl
  |succ i=>
   have:=ih i (by simpa using h);rw[show(i+1)*2=i*2+1+1 from by omega];simpa[Fz]using this
theorem Rf(l:List Fl): ∀i,(h:i<l.length)→(Fz l)[i*2+1]?=some (.string l[i].2):=by
 induction l with
 |nil=>intro i h;simp at h
 |cons p r ih=>
  intro i h;cases i with
  |zero=>rfl
  |succ i=>
   have:=ih i (by simpa using h);rw[show(i+1)*2+1=i*2+1+1+1 from by omega];simpa[Fz]using this
theorem Afj(l:List Fl)(x:ByteArray): ∀i,(h:i<l.length)→(Fz l).set (i*2) (.string x)=Fz (l.set i (x,l[i].2)):=by
 induction l with
 |nil=>intro i h;simp at h
 |cons p r ih=>
  intro i h;cases i with
  |zero=>rfl
  |succ i=>
   have:=ih i (by simpa using h);rw[show(i+1)*2=i*2+1+1 from by omega];simp[Fz,this]
end Hm
def D2(w:World)(g:Nat)(l:List Hm.Fl):Prop:=w.heap[g]?=some (.cells (Fz l).toArray 38 (0,0))
theorem D2.fst{w:World}{g:Nat}{l:List Hm.Fl}(h:D2 w g l){i:Nat}(hi:i<l.length):w.cell? ⟨g,i*2,none⟩=some (.string l[i].1):=by
 rw[Am7 _ _ _ _ _ _ h];simpa using Re l i hi
theorem D2.snd{w:World}{g:Nat}{l:List Hm.Fl}(h:D2 w g l){i:Nat}(hi:i<l.length):w.cell? ⟨g,i*2+1,none⟩=some (.string l[i].2):=by
 rw[Am7 _ _ _ _ _ _ h];simpa using Rf l i hi
theorem D2.free{w:World}{g:Nat}{l:List Hm.Fl}(h:D2 w g l)(i:Nat):w.frozen? ⟨g,i,none⟩=false:=Ang _ _ i _ _ h
theorem D2.set1{w:World}{g:Nat}{l:List Hm.Fl}(h:D2 w g l)(i:Nat)(x:ByteArray)(hi:i<l.length):D2 (w.setCell ⟨g,i*2,none⟩ (.string x)) g (l.set i (x,l[i].2)):=by
 have h2:=Anb w g (i*2) _ _ (.string x) h;unfold D2;rw[h2,←Afj l x i hi];congr 2;apply Api;simp
theorem D2.lt{w:World}{g:Nat}{l:List Hm.Fl}(h:D2 w g l):g<w.heap.size:=Anu h
theorem D2.kept{S:Nat→Prop}{w w':World}{g:Nat}{l:List Hm.Fl}(h:D2 w g l)(hk:Aa S w w')(hn: ¬S g):D2 w' g l:=hk.row h hn
theorem D2.at{w:World}{g:Nat}{l r:List Hm.Fl}(h:D2 w g (l++r)):Ba w (some ⟨g,0,none⟩) l:=fun i hi=>by
 have h1:=h.fst (i:=i) (by simp;omega);have h2:=h.snd (i:=i) (by simp;omega);rw[List.getElem_append_left hi]at h1 h2;exact⟨g,0,rfl,h.lt,by rw[An3];exact h1,by rw[An3];exact h2⟩
theorem Ah9(n:Nat):(madeCells (Value.agg #[.string ⟨#[]⟩,.string ⟨#[]⟩]).cells (n*2)).toList=Fz (List.replicate n (⟨#[]⟩,⟨#[]⟩)):=by
 have c:(Fz (List.replicate n (⟨#[]⟩,⟨#[]⟩))).length=n*2:=by rw[Sb];simp
 apply Aon
 ·rw[c];simp[madeCells]
 ·intro i h1 h2;have d:(Value.agg #[.string ⟨#[]⟩,.string ⟨#[]⟩]).cells= #[.string ⟨#[]⟩,.string ⟨#[]⟩]:=rfl;have e1:(madeCells (Value.agg #[.string ⟨#[]⟩,.string ⟨#[]⟩]).cells (n*2)).toList[i]= .string ⟨#[]⟩:=by
   simp[madeCells,d];rcases Aqc i with h|h<;>simp[h]
  rw[e1];have b:i<n*2:=by omega
  rcases Aqc i with h|h
  ·have a:=Re (List.replicate n (⟨#[]⟩,⟨#[]⟩)) (i/2) (by simp;omega);rw[show i/2*2=i from by omega,Am5 h2]at a;simp at a;exact a.symm
  ·have a:=Rf (List.replicate n (⟨#[]⟩,⟨#[]⟩)) (i/2) (by simp;omega);rw[show i/2*2+1=i from by omega,Am5 h2]at a;simp at a;exact a.symm
theorem D2.made{w':World}{g n:Nat}{base:Nat}(h:w'.ownsRow base 38 2 (.slice (some ⟨g,0,none⟩) n n) n (madeCells (Value.agg #[.string ⟨#[]⟩,.string ⟨#[]⟩]).cells (n*2)).toList):D2 w' g (List.replicate n (⟨#[]⟩,⟨#[]⟩)):=by
 rcases h.2 with⟨h1,_⟩|⟨g2,cap,cur,h1,_,a,_,_,hs,ht⟩
 ·cases h1
 ·cases h1;unfold D2;rw[a];congr 2;apply Api;have e:cur.toList.take (n*2)=cur.toList:=An5 (by simp;omega);rw[←e,ht,Ah9]
namespace Hm
end Hm
namespace Hm
noncomputable def M3(l8:Arc)(n:Nat)(st:Bl):Arc:=Classical.epsilon fun col=>col.length=n∧J2 (l8.take (szB st.len)) st.nds col∧Et st.ws col
theorem I9{l8:Arc}{n:Nat}{L:Ard}{st:Bl}(h:E9 l8 n L st):(M3 l8 n st).length=n∧J2 (l8.take (szB st.len)) st.nds (M3 l8 n st)∧Et st.ws (M3 l8 n st):=
 Classical.epsilon_spec (p:=fun col=>col.length=n∧J2 (l8.take (szB st.len)) st.nds col∧Et st.ws col) (Kf h)
def part(t:Arc)(a b:Nat):Arc:=(t.drop a).take (b-a)
noncomputable def F0(s l8:Arc)(st:Bl):Arc:=(A5 (Bw (M3 l8 (rdN s).1 st) st.ws (rdR s).1) 0 (rdN s).1).1
theorem N2(s l8:Arc)(st:Bl):(F0 s l8 st).length=(rdN s).1:=R9 _ _ _
noncomputable def Hg(s l6:Arc)(i:Nat):Nat:=E5 (Am (l6.take (szB (Ak (rdF s).1 (rdN s).1)))) (rdF s).1 (Cr (rdF s).1 (rdN s).1) i
noncomputable def Gi(s l6:Arc)(i:Nat):Nat:=Fu (Am (l6.take (szB (Ak (rdF s).1 (rdN s).1)))) (rdF s).1 (Cr (rdF s).1 (rdN s).1) i
noncomputable def Ajy(s l6 l8:Arc)(st:Bl)(i:Nat):ByteArray×ByteArray:=((rdM s).1.getD i ⟨#[]⟩,⟨(part (F0 s l8 st) (Hg s l6 i) (Gi s l6 i)).toArray⟩)
noncomputable def Bn(s l6 l8:Arc)(st:Bl):Arb:=(List.range (rdF s).1).map (Ajy s l6 l8 st)
theorem Iw(s l6 l8:Arc)(st:Bl):(Bn s l6 l8 st).length=(rdF s).1:=by unfold Bn;rw[Anz,Apq]
theorem Afk(l:List Fl)(x:ByteArray): ∀i,(h:i<l.length)→(Fz l).set (i*2+1) (.string x)=Fz (l.set i (l[i].1,x)):=by
 induction l with
 |nil=>intro i h;simp at h
 |cons p r ih=>
  intro i h;cases i with
  |zero=>simp[Fz]
  |succ i=>
   have:=ih i (by simpa using h);rw[show(i+1)*2+1=(i*2+1)+1+1 from by omega];simp[Fz,this]
end Hm
theorem D2.set2{w:World}{g:Nat}{l:List Hm.Fl}(h:D2 w g l)(i:Nat)(x:ByteArray)(hi:i<l.length):D2 (w.setCell ⟨g,i*2+1,none⟩ (.string x)) g (l.set i (l[i].1,x)):=by
 have h2:=Anb w g (i*2+1) _ _ (.string x) h;unfold D2;rw[h2,←Afk l x i hi];congr 2;apply Api;simp
theorem D2.put{w:World}{g:Nat}{l:List Hm.Fl}(h:D2 w g l)(i:Nat)(x y:ByteArray)(hi:i<l.length):D2 ((w.setCell ⟨g,i*2,none⟩ (.string x)).setCell ⟨g,i*2+1,none⟩ (.string y)) g (l.set i (x,y)):=by
 have h2:=(h.set1 i x hi).set2 i y (by simpa using hi);simpa using h2
theorem L8{w:World}{g:Nat}{t:Arc}(h:w.heap[g]?=some (.cells (Ah t).toArray 5 (0,0)))(o k c:Nat)(hk:o+k≤t.length):
  (convert 79 9 (.slice (some ⟨g,o,none⟩) k c)).run prog w= .ok (.string ⟨((t.drop o).take k).toArray⟩) w:=by
 have d:((t.drop o).take k).length=k:=by rw[Anp,Aoi];omega
 have f:=run_convert_bytes_arg w _ _ underlying79 underlying5 g o k c (((t.drop o).take k).map fun b=>(b.toNat:Int)) (by rw[Anz];exact d) (fun i hi=>by
  have a:i<((t.drop o).take k).length:=by omega
  rw[Am7 _ _ (o+i) _ _ _ h,Anw,Ah,An2,Am4,An2,Am5 a,Am5 (show o+i<t.length by omega),List.getElem_take,List.getElem_drop];rfl) _ underlying9
 have e:strOfNums (((t.drop o).take k).map fun b=>(b.toNat:Int))=⟨((t.drop o).take k).toArray⟩:=by
  unfold strOfNums;rw[List.map_map];have e2:((fun n:Int=>UInt8.ofNat n.toNat)∘fun b:UInt8=>(b.toNat:Int))=id:=by funext b;simp
  rw[e2,List.map_id]
 rw[e]at f;exact f
theorem Afl{P:Program}{ρ:Operand→Value}{o:Oper}(w:World)(a b:TypeId)(x:Operand)(c:o.op= .convert a b x)(v r:Value)(d:ρ x=v)(h:(convert a b v).run P w= .ok r w):(execOp ρ o).run P w= .ok (.value r) w:=by
 unfold execOp;simp only[c,d,Sem.run_bind,h,Ap6,Sem.run_pure]
theorem Z0(pb o n:Nat)(w:World)(h:w.cell? ⟨pb,o+772,none⟩=some (.int .i64 (n:Nat))):
  Calls prog 35 #[.pointer (some ⟨pb,o,none⟩)] w fun e w'=>e= .returned (.int .i64 (n:Nat))∧w'=w:=by
 go_enter func35,ntmps35
 go_wp2;go_ret;exact⟨rfl,rfl⟩
end Go.Proofs.YtegnkfdbmmndaaaGreat
namespace Go.Proofs.YtegnkfdbmmndaaaGreat
open Hm Go.Proofs.Tryz
namespace Hm
theorem Jv(fs:Arb)(i:Nat)(hi:i<fs.length):(Bf fs).getD i 0=(Ac (fs.take (i+1))).length:=by
 unfold Bf;rw[Am4,An2,Ao2 hi];rfl
theorem Mu(fs:Arb){i j:Nat}(h:i≤j):(Ac (fs.take i)).length≤(Ac (fs.take j)).length:=by
 have:=Nn (fs.take j) i;rwa[List.take_take,Ap7 h]at this
theorem Z1(fs:Arb):Adk (Bf fs) (Ac fs).length:=by
 have b:=Ej fs;refine⟨fun i j a d=>?_,fun i hi=>?_,?_⟩
 ·rw[Jv fs i (by omega),Jv fs j (by omega)];exact Mu fs (by omega)
 ·rw[Jv fs i (by omega)];exact Nn fs _
 ·rw[b]
  by_cases c:fs.length=0
  ·rw[if_pos c,Aob c];rfl
  ·rw[if_neg c,Jv fs _ (by omega),show fs.length-1+1=fs.length from by omega,Aof]
theorem Z2(fs:Arb)(i:Nat)(hi:i<fs.length):part (Ac fs) (Ac (fs.take i)).length (Ac (fs.take (i+1))).length=fs[i].2.data.toList:=by
 have e:Ac fs=Ac (fs.take i)++(fs[i].2.data.toList++Ac (fs.drop (i+1))):=by
  conv=>lhs;rw[←Ao5 i fs,An7 hi]
  unfold Ac;rw[Ao4,Aoe]
 have a:(Ac (fs.take (i+1))).length=(Ac (fs.take i)).length+fs[i].2.data.toList.length:=by rw[Vb fs i hi,Anf]
 unfold part;rw[a,Ap8,e,List.drop_left,Aqq]
theorem Xs{L:Ard}(h:Bu L): ∀x∈L,x≤255:=fun x a=>by
 have h1:=Uf L x a;have h2:=Xi h;omega
theorem Ajz{fs:Arb}{s:Arc}(F:Cq fs=0)(hA:Ia fs s): ∃l6 L l8 st,Cy s l6 L l8 st∧Bn s l6 l8 st=fs:=by
 obtain⟨K,C,hn⟩:=Li F;obtain⟨ps,N,e,_,H,es⟩:=hA.is;have D:=I6 (Ac fs) hn;have A: ∀b∈Al (Ac fs) ps,b∈Ae (lens (Ac fs)):=fun b hb=>(O2 _ hn b).2 (No e.perm b hb);have o:=(Kw e.perm).2;have w:=Gm e.perm;obtain⟨t,ht⟩: ∃t,t=Ac fs:=⟨_,rfl⟩;obtain⟨tr,g⟩: ∃tr,tr=D5 (lens (Ac fs)) N (Al (Ac fs) ps):=⟨_,rfl⟩;obtain⟨SB,h⟩: ∃x,x=leBytes (crc (Cz fs ps tr)) 4:=⟨_,rfl⟩;have E:SB.length=4:=by rw[h,Dn]
 obtain⟨X9,v⟩: ∃x,x=Ag (A7 ps)++SB:=⟨_,rfl⟩;obtain⟨X8,k⟩: ∃x,x=Ag tr++X9:=⟨_,rfl⟩;obtain⟨X7,u⟩: ∃x,x=leBytes (Ai (lens (Ac fs))).length 2++(Cc (lens (Ac fs)) (Ai (lens (Ac fs)))++X8):=⟨_,rfl⟩;obtain⟨X6,r⟩: ∃x,x=Ag (B4 (Bf fs) (Ac fs).length)++X7:=⟨_,rfl⟩;have hs:s=[72,79,65,82,68,49,UInt8.ofNat fs.length]++(leBytes (Ac fs).length 2++(leBytes (A8 ps) 2++(nameBytes fs++X6))):=by
  rw[es,←g,r,u,k,v,h];unfold K9 Cz;simp only[An4]
 have d:s=Cz fs ps tr++SB:=by rw[es,←g,h];rfl
 have a:=Adh fs (Ac fs).length (A8 ps) X6 (by omega) (by omega) o (fun f I=>(C f I).1);simp only at a;rw[←hs]at a;obtain⟨eF,eN,eR,eM⟩:=a;have G:=Ej fs;obtain⟨q1,q2,q3⟩:=Xq (Bf fs) (Ac fs).length hn (Z1 fs) X7;rw[←r,G]at q1 q2 q3;obtain⟨st,t1,t2,t3⟩:=Xp D H A X9;rw[←g,←k,w]at t1;rw[←g]at t2;rw[←g,←k]at t3;obtain⟨s1,s2⟩:=Xo e.perm SB;rw[←v]at s1 s2;have y:X8.drop (szB st.len)=X9:=by rw[t2,k,List.drop_left]
 have hP:Cy s X6 (lens (Ac fs)) X8 st:=by
  refine⟨by rw[eM],by rw[eF,eN];exact q1,?_,by rw[eN];exact t1,by rw[eN,y];exact s1,?_⟩
  ·rw[eF,eN,q2,u];exact Agp _ _ D.len (Xs D)
  ·rw[eN,y,s2];have z:s.length-4=(Cz fs ps tr).length:=by rw[d,Anf,E];omega
   have p:s.take (s.length-4)=Cz fs ps tr:=by rw[z,d,Aqq]
   unfold N0;rw[p,show B5 (some SB) 4=(crc (Cz fs ps tr),some [])from by
    have:=Lj (crc (Cz fs ps tr)) 4 [] (by have:=To (Cz fs ps tr);omega);rwa[Aow,←h]at this]
   exact if_pos ⟨rfl,rfl⟩
 refine⟨X6,lens (Ac fs),X8,st,hP,?_⟩;have l:M3 X8 (Ac fs).length st=Al (Ac fs) ps:=by
  obtain⟨c1,c2,_⟩:=I9 t1;exact c2.unique t3 (by rw[c1,w])
 have B:=(I9 t1).2.2;rw[l]at B;have q:F0 s X8 st=Ac fs:=by
  unfold F0;rw[eN,eR,l];exact Ah6 e B
 unfold Bn;rw[eF];apply Aon (by simp);intro i h1 h2;rw[Aqb,List.getElem_range];unfold Ajy;have hi:i<fs.length:=h2;have m: ∀j,j<fs.length→Gi s X6 j=(Ac (fs.take (j+1))).length:=fun j J=>by
  unfold Gi;rw[eF,eN,q3 j (by omega),Jv fs j J]
 have n:Hg s X6 i=(Ac (fs.take i)).length:=by
  show(if i=0 then 0 else _)=_
  by_cases c:i=0
  ·rw[if_pos c,c];rfl
  ·rw[if_neg c];have:=m (i-1) (by omega);rw[show i-1+1=i from by omega]at this;exact this
 rw[q,m i hi,n,Z2 fs i hi,eM];show(((fs.map (·.1)).getD i ⟨#[]⟩),_)=_;rw[Am4,An2,Am5 hi];rfl
end Hm
end Go.Proofs.YtegnkfdbmmndaaaGreat
