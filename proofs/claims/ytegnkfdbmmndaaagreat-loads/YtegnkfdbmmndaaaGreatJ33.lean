import Derived.Test.YtegnkfdbmmndaaaGreatJ00
import Derived.Test.YtegnkfdbmmndaaaGreatJ32
import Derived.Test.YtegnkfdbmmndaaaGreatJ22
import Derived.Test.YtegnkfdbmmndaaaGreatJ25
import Derived.Test.YtegnkfdbmmndaaaGreatJ24

namespace Go.Proofs.YtegnkfdbmmndaaaGreat
open Hm
namespace Hm
theorem Ae2(f:Nat→Bool)(a:Nat): ∀d,(∀p,a≤p→p<a+d→f p=false)→rk f (a+d)=rk f a
 |0,_=>rfl
 |d+1,h=>by
  have ih:=Ae2 f a d (fun p h1 h2=>h p h1 (by omega));have e:rk f (a+(d+1))=rk f (a+d)+(f (a+d)).toNat:=rfl;rw[e,ih,h (a+d) (by omega) (by omega)];rfl
theorem Qd(f:Nat→Bool)(a b:Nat)(hab:a≤b)(h: ∀p,a≤p→p<b→f p=false):rk f b=rk f a:=by
 have:=Ae2 f a (b-a) (fun p h1 h2=>h p h1 (by omega));rwa[show a+(b-a)=b from by omega]at this
theorem Aj1(f:Nat→Bool)(h len m:Nat)(pos:Nat→Nat)(hinc: ∀i j,i<j→j<m→pos i<pos j)(hin: ∀i,i<m→h≤pos i∧pos i<len)(hhl:h≤len)(hf: ∀p,h≤p→p<len→(f p=true↔ ∃i,i<m∧p=pos i)):
  (∀i,i<m→f (pos i)=true∧rk f (pos i)=rk f h+i)∧rk f len=rk f h+m:=by
 have hone: ∀i,i<m→f (pos i)=true:=fun i hi=>(hf _ (hin i hi).1 (hin i hi).2).2 ⟨i,hi,rfl⟩;have no: ∀p,h≤p→p<len→(∀i,i<m→p≠pos i)→f p=false:=fun p h1 h2 h3=>by
  cases e:f p with
  |false=>rfl
  |true=>
   obtain⟨i,hi,e2⟩:=(hf p h1 h2).1 e;exact absurd e2 (h3 i hi)
 have ranks: ∀i,i<m→rk f (pos i)=rk f h+i:=by
  intro i;induction i with
  |zero=>
   intro hi;have:=Qd f h (pos 0) (hin 0 hi).1 (fun p h1 h2=>no p h1 (by have:=(hin 0 hi).2;omega) (fun j hj e=>by
    rcases Nat.eq_zero_or_pos j with c|c
    ·subst c;omega
    ·have:=hinc 0 j c hj;omega))
   omega
  |succ i ih=>
   intro hi;have ih':=ih (by omega);have e:rk f (pos i+1)=rk f (pos i)+(f (pos i)).toNat:=rfl;rw[hone i (by omega)]at e;have hlt:=hinc i (i+1) (by omega) hi;have:=Qd f (pos i+1) (pos (i+1)) hlt (fun p h1 h2=>no p (by have:=(hin i (by omega)).1;omega) (by have:=(hin (i+1) hi).2;omega) (fun j hj e=>by
    rcases Ami j i with c|c|c
    ·have:=hinc j i c (by omega);omega
    ·subst c;omega
    ·by_cases c2:j=i+1
     ·subst c2;omega
     ·have:=hinc (i+1) j (by omega) hj;omega))
   simp at e;omega
 refine⟨fun i hi=>⟨hone i hi,ranks i hi⟩,?_⟩;rcases Nat.eq_zero_or_pos m with c|c
 ·subst c;have:=Qd f h len hhl (fun p h1 h2=>no p h1 h2 (fun i hi=>by omega));omega
 ·have hr:=ranks (m-1) (by omega);have e:rk f (pos (m-1)+1)=rk f (pos (m-1))+(f (pos (m-1))).toNat:=rfl;rw[hone (m-1) (by omega)]at e;have:=Qd f (pos (m-1)+1) len (hin (m-1) (by omega)).2 (fun p h1 h2=>no p (by have:=(hin (m-1) (by omega)).1;omega) h2 (fun j hj e=>by
   by_cases c2:j=m-1
   ·subst c2;omega
   ·have:=hinc j (m-1) (by omega) (by omega);omega))
  simp at e;omega
theorem Aae(l:List Bool)(q p:Nat)(hq:q<l.length):(l.set q true).getD p false=(decide (p=q)||l.getD p false):=by
 rw[Ak6,Ak6,List.getElem?_set]
 by_cases e:q=p
 ·subst e;simp[hq]
 ·rw[if_neg e,Ald (fun x=>e x.symm)];rfl
theorem Uo(es:List Nat)(l h:Nat)(R:List Bool)(p:Nat): ∀k,(∀i,i<k→h+es.getD i 0/2^l+i<R.length)→(Fu es l h R k).getD p false=((List.range k).any (fun i=>decide (p=h+es.getD i 0/2^l+i))||R.getD p false)
 |0,_=>by simp[Fu]
 |k+1,hk=>by
  rw[Fu,Aae _ _ _ (by rw[J6];exact hk k (by omega)),Uo es l h R p k (fun i hi=>hk i (by omega)),An4,List.any_append];simp only[List.any_cons,List.any_nil,Bool.or_false];cases decide (p=h+es.getD k 0/2^l+k)<;>simp
theorem Wu(l:Nat): ∀(es:List Nat) (i j:Nat),i<es.length→j<l→(Co es l).getD (i*l+j) false=decide (es.getD i 0/2^j%2=1)
 |[],i,j,hi,_=>by simp at hi
 |e::r,0,j,_,hj=>by
  unfold Co;rw[Amg,Nat.zero_mul,Al7,Ak6,Amh (by rw[Dg];exact hj)];unfold At;rw[Alu,Amw hj];rfl
 |e::r,i+1,j,hi,hj=>by
  have ih:=Wu l r i j (by simpa using hi) hj;unfold Co at ih⊢;rw[Amg,Ak6,Alt (by rw[Dg,Anv];omega),Dg,show(i+1)*l+j-l=i*l+j from by rw[Anv];omega,←Ak6,ih];rfl
theorem Zd(f:Nat→Bool)(a x:Nat): ∀k,(∀j,j<k→f (a+j)=decide (x/2^j%2=1))→Gm f a k=x%2^k
 |0,_=>by simp[Gm,Nat.mod_one]
 |k+1,h=>by
  rw[Gm,Zd f a x k (fun j hj=>h j (by omega)),h k (by omega),Nat.mod_pow_succ];have:=Nat.mod_lt (x/2^k) (show 0<2 by omega);rcases(show x/2^k%2=0∨x/2^k%2=1 by omega)with e|e
  ·rw[e];simp
  ·rw[e];simp
end Hm
namespace Hm
theorem Ss(es:List Nat)(n:Nat)(hn:n≤6000):(Bf es n).length=Am es.length n:=by
 unfold Bf Am;rw[J6,Alg,Hc,Alj,Rp _ _ hn]
structure St(es:List Nat)(n:Nat):Prop where
 asc: ∀i j,i<j→j<es.length→es.getD i 0≤es.getD j 0
 le: ∀i,i<es.length→es.getD i 0≤n
 last:(if es.length=0 then 0 else es.getD (es.length-1) 0)=n
theorem Ae3(es:List Nat)(n:Nat)(hn:n≤6000)(h:St es n):let f:=fun p=>(Bf es n).getD p false
  rk f (Am es.length n)=rk f (es.length*Cy es.length n)+es.length∧ ∀i,i<es.length→Fb f es.length (Cy es.length n) i=es.getD i 0:=by
 intro f;obtain⟨m,hm⟩: ∃m,m=es.length:=⟨_,rfl⟩;obtain⟨lo,hlo⟩: ∃lo,lo=Cy m n:=⟨_,rfl⟩;rw[←hm,←hlo];have hlw:By m n=lo:=by rw[hlo,Rp _ _ hn]
 have hh:(Co es lo).length=m*lo:=by rw[Hc,hm]
 obtain⟨dv,hdv⟩: ∃dv:Nat→Nat,∀i,es.getD i 0/2^lo=dv i:=⟨_,fun _=>rfl⟩;obtain⟨dn,hdn⟩: ∃dn,n/2^lo=dn:=⟨_,rfl⟩;have hdiv: ∀i,i<m→dv i≤dn:=fun i hi=>by rw[←hdv,←hdn];exact Nat.div_le_div_right (h.le i (by omega))
 have hdas: ∀i j,i<j→j<m→dv i≤dv j:=fun i j hij hj=>by rw[←hdv,←hdv];exact Nat.div_le_div_right (h.asc i j hij (by omega))
 have hfd: ∀p,f p=((List.range m).any (fun i=>decide (p=m*lo+dv i+i))||(Co es lo++List.replicate (m+dn+1) false).getD p false):=by
  intro p;show(Bf es n).getD p false=_;unfold Bf;rw[←hm,hlw,hdn,Uo es lo _ _ p m (fun i hi=>by rw[hh,Alg,hh,Alj,hdv];have:=hdiv i hi;omega),hh];simp only[hdv]
 have hlen:Am m n=m*lo+(m+dn+1):=by unfold Am;rw[←hlo,hdn]
 have hhi: ∀p,m*lo≤p→(Co es lo++List.replicate (m+dn+1) false).getD p false=false:=fun p hp=>by
  rw[Ak6,Alt (by omega),Aov];split<;>rfl
 have key:=Aj1 f (m*lo) (Am m n) m (fun i=>m*lo+dv i+i)
  (fun i j hij hj=>by
   have:=hdas i j hij hj;show m*lo+dv i+i<m*lo+dv j+j;omega)
  (fun i hi=>by have:=hdiv i hi;rw[hlen];exact⟨by show _≤m*lo+dv i+i;omega,by show m*lo+dv i+i<_;omega⟩)
  (by rw[hlen];omega)
  (fun p h1 h2=>by
   rw[hfd p,hhi p h1,Bool.or_false,List.any_eq_true];constructor
   ·rintro⟨i,hi,e⟩;exact⟨i,List.mem_range.1 hi,Amm e⟩
   ·rintro⟨i,hi,e⟩;exact⟨i,List.mem_range.2 hi,Alb e⟩)
 refine⟨key.2,fun i hi=>?_⟩;have hi1:=key.1 i hi;unfold Fb;rw[U1 (p:=m*lo+dv i+i) ⟨hi1.1,hi1.2⟩];unfold Aa5;have hnum:Gm f (i*lo) lo=es.getD i 0%2^lo:=Zd f (i*lo) (es.getD i 0) lo (fun j hj=>by
  have hlt:i*lo+j<m*lo:=by
   have h1:(i+1)*lo≤m*lo:=Anj _ (by omega);rw[Anv]at h1;omega
  rw[hfd,show(List.range m).any (fun k=>decide (i*lo+j=m*lo+dv k+k))=false from by
   rw[List.any_eq_false];intro k _ hk;have:=Amm hk;omega,Bool.false_or,Ak6,Amh (by omega),←Ak6]
  exact Wu lo es i j (by omega) hj)
 rw[hnum,show m*lo+dv i+i-m*lo-i=dv i from by omega,←hdv,Aoj];exact Nat.div_add_mod _ _
theorem Agw(es:List Nat)(n:Nat)(hn:n≤6000)(h:St es n)(X:List UInt8):F6 (Ah (Bf es n)++X) es.length n∧(Ah (Bf es n)++X).drop (szB (Am es.length n))=X∧
  ∀i,i<es.length→Fb (Ak ((Ah (Bf es n)++X).take (szB (Am es.length n)))) es.length (Cy es.length n) i=es.getD i 0:=by
 have hl:=Ss es n hn;have hz:(Ah (Bf es n)).length=szB (Am es.length n):=by rw[Vd,hl]
 have ht:(Ah (Bf es n)++X).take (szB (Am es.length n))=Ah (Bf es n):=by rw[←hz,Apc]
 have hf:Ak (Ah (Bf es n))=fun p=>(Bf es n).getD p false:=by funext p;exact Of _ p
 have key:=Ae3 es n hn h;simp only at key;rw[←hf]at key;have hfrom: ∀i,i≤es.length→Et (Ak (Ah (Bf es n))) es.length (Cy es.length n) i=if i=0 then 0 else es.getD (i-1) 0:=fun i hi=>by
  unfold Et;split
  ·rfl
  ·exact key.2 (i-1) (by omega)
 refine⟨⟨by rw[Alg];omega,?_⟩,by rw[←hz,List.drop_left],fun i hi=>by rw[ht];exact key.2 i hi⟩;rw[ht];refine⟨key.1,fun i hi=>?_,?_⟩
 ·rw[hfrom i (by omega),key.2 i hi];split
  ·exact Alr _
  ·exact h.asc (i-1) i (by omega) hi
 ·rw[hfrom _ (Ale _)];exact h.last
end Hm
namespace Hm
noncomputable def ltB(a b:List UInt8):Bool:= @decide (Dd a b) (Classical.propDecidable _)
theorem Qe{a b:List UInt8}(h:Dd a b):ltB a b=true:=by unfold ltB;exact @Alb _ (Classical.propDecidable _) h
theorem Mv{a b:List UInt8}(h: ¬Dd a b):ltB a b=false:=by unfold ltB;exact @Ald _ (Classical.propDecidable _) h
theorem Aj2(a b:UInt8)(l m:List UInt8):ltB (a::l) (b::m)=(decide (a.toNat<b.toNat)||((a==b)&&ltB l m)):=by
 by_cases h:Dd (a::l) (b::m)
 ·rw[Qe h];rcases h with h|⟨h1,h2⟩
  ·rw[Alb h];rfl
  ·rw[h1,Qe h2];simp
 ·rw[Mv h];have h1: ¬a.toNat<b.toNat:=fun x=>h (.inl x);rw[Ald h1,Bool.false_or]
  by_cases e:a=b
  ·have h2: ¬Dd l m:=fun x=>h (.inr ⟨e,x⟩);rw[Mv h2,Bool.and_false]
  ·rw[show(a==b)=false from by rw[Al5];exact e];rfl
theorem Su{t:List UInt8}{ps:List Nat}(h:Dr t ps)(g:Nat→Bool)(i:Nat)(hi:i<ps.length):ps.countP (fun p=>g p&&ltB (t.drop p) (t.drop ps[i]))=(ps.take i).countP g:=by
 have e:ps=ps.take i++ps[i]::ps.drop (i+1):=by rw[←Al4 hi,Amy]
 have hp:=h.ord;rw[e]at hp;obtain⟨_,h2,h3⟩:=List.pairwise_append.1 hp;have h4:=(Ao0.1 h2).1;have key:(ps.take i++ps[i]::ps.drop (i+1)).countP (fun p=>g p&&ltB (t.drop p) (t.drop ps[i]))=(ps.take i).countP g:=by
  rw[Ann,Am8];have z1:(ps.drop (i+1)).countP (fun p=>g p&&ltB (t.drop p) (t.drop ps[i]))=0:=by
   rw[List.countP_eq_zero];intro p hpm hx;have hl:=h4 p hpm;rw[Mv (fun x=>Jv _ (Md hl x)),Bool.and_false]at hx;cases hx
  have z2:(g ps[i]&&ltB (t.drop ps[i]) (t.drop ps[i]))=false:=by rw[Mv (Jv _),Bool.and_false]
  have z3:(ps.take i).countP (fun p=>g p&&ltB (t.drop p) (t.drop ps[i]))=(ps.take i).countP g:=by
   refine List.countP_congr fun p hpm=>?_;rw[Qe (h3 p hpm _ (Alp ..)),Bool.and_true]
  rw[z1,z2,z3];simp
 rw[←e]at key;exact key
theorem Sv{t:List UInt8}{ps:List Nat}(h:Dr t ps)(i:Nat)(hi:i<ps.length):ps.countP (fun p=>ltB (t.drop p) (t.drop ps[i]))=i:=by
 have:=Su h (fun _=>true) i hi;simp only[Bool.true_and]at this;rw[this,List.countP_true,Aln];omega
theorem Pq(t:List UInt8):(List.range t.length).map (fun p=>t.getD p 0)=t:=by
 apply Amf (by simp);intro i h1 h2;rw[Am5,Aor,Ak6,Ak7 h2];rfl
theorem Agx{t:List UInt8}{ps:List Nat}(h:ps.Perm (List.range (t.length+1))):(Ap t ps).Perm t:=by
 have h1:(Ap t ps).Perm (Ap t (List.range (t.length+1))):=(h.filter _).map _;have h2:Ap t (List.range (t.length+1))=t:=by
  unfold Ap;rw[List.range_succ_eq_map,Am1,if_neg (by simp),List.filter_map,List.map_map]
  conv=>rhs;rw[←Pq t]
  rw[List.filter_eq_self.2 (fun p _=>by simp)];rfl
 rw[h2]at h1;exact h1
theorem Pr{α:Type}(p q:α→Bool): ∀l:List α,(∀x∈l,¬(p x=true∧q x=true))→l.countP (fun x=>p x||q x)=l.countP p+l.countP q
 |[],_=>rfl
 |x::r,h=>by
  have ih:=Pr p q r (fun y hy=>h y (Als _ hy));have hx:=h x (Alp ..);rw[Am8,Am8,Am8,ih];cases e1:p x<;>cases e2:q x<;>simp_all<;>omega
end Hm
namespace Hm
theorem Up(t:List UInt8)(b:UInt8): ∀ps:List Nat,(Ap t ps).count b=ps.countP (fun p=>decide (0<p)&&(t.getD (p-1) 0==b))
 |[]=>rfl
 |p::r=>by
  have ih:=Up t b r;unfold Ap at ih⊢;rw[Am1,Am8]
  by_cases h:0<p
  ·rw[Alb h,if_pos rfl,Amu,List.count_cons,ih,Bool.true_and]
  ·rw[Ald h,if_neg (by simp),ih];simp
theorem Q3{t:List UInt8}{ps:List Nat}(h:ps.Perm (List.range (t.length+1)))(i:Nat)(hi:i<ps.length):(Ap t ps).take (Cl (Bn ps) i)=Ap t (ps.take i):=by
 have e:Ap t ps=Ap t (ps.take i)++Ap t (ps.drop i):=by
  unfold Ap;rw[←Am9,←Ang,Amy]
 have hl:(Ap t (ps.take i)).length=Cl (Bn ps) i:=by
  unfold Ap;rw[Al6,←Aow];have hnd:ps.Nodup:=h.symm.nodup List.nodup_range;have key: ∀k,k≤ps.length→(ps.take k).countP (fun p=>decide (0<p))=Cl (Bn ps) k:=by
   intro k;induction k with
   |zero=>intro _;simp[Cl]
   |succ k ih=>
    intro hk;have hr:=Od h k (by omega);rw[Ali (by omega),Ann,ih (by omega),Am8,List.countP_nil]
    by_cases c:ps[k]=0
    ·have hk0:=hr.1 c;have a1:Cl (Bn ps) k=k:=if_neg (by omega);have a2:Cl (Bn ps) (k+1)=k+1-1:=if_pos (by omega);rw[Ald (by omega),a1,a2];rfl
    ·have c2:k≠Bn ps:=fun x=>c (hr.2 x);rw[Alb (by omega)];rcases Nat.lt_or_gt_of_ne c2 with c3|c3
     ·have a1:Cl (Bn ps) k=k:=if_neg (by omega);have a2:Cl (Bn ps) (k+1)=k+1:=if_neg (by omega);rw[a1,a2];rfl
     ·have a1:Cl (Bn ps) k=k-1:=if_pos (by omega);have a2:Cl (Bn ps) (k+1)=k+1-1:=if_pos (by omega);rw[a1,a2,if_pos rfl];omega
  exact key i (by omega)
 rw[e,←hl,Apc]
theorem Ze{t:List UInt8}{ps ws:List Nat}(h:Dr t ps)(hw:Gj ws (Ap t ps))(i j q:Nat)(hi:i<ps.length)(hj:j<ps.length)(e1:ps[i]=q+1)(e2:ps[j]=q):Dn (Ap t ps) ws (Bn ps) i=(t.getD q 0,j):=by
 have hpl:ps.length=t.length+1:=by have:=h.perm.length_eq;simpa using this
 have hne:i≠Bn ps:=fun x=>by have:=(Od h.perm i hi).2 x;omega
 have hq:q<t.length:=by
  have:=List.mem_range.1 (h.perm.subset (Alo hi));omega
 have hbyte:(Ap t ps).getD (Cl (Bn ps) i) 0=t.getD q 0:=by
  have ht:=Q3 h.perm i hi;have e:Ap t ps=Ap t (ps.take i)++t.getD q 0::Ap t (ps.drop (i+1)):=by
   conv=>lhs;rw[←Amy i ps,Al4 hi]
   unfold Ap;rw[Ang,Am9,Am1,e1,Alb (by omega:0<q+1),if_pos rfl,Amu,show q+1-1=q from by omega]
  have hl:=congrArg List.length ht;rw[Aln]at hl;have hlen:=F7 h.perm;have hroot:=(Kg h.perm).2;have hix:=L9 hroot (show i≤t.length by omega) hne;have hl2:(Ap t (ps.take i)).length=Cl (Bn ps) i:=by omega
  rw[e,←hl2,Ak6,Alt (Ale _),Amr];rfl
 unfold Dn;rw[if_neg hne,hbyte];obtain⟨b,hb⟩: ∃b,b=t.getD q 0:=⟨_,rfl⟩;rw[←hb];congr 1;have hdq:t.drop q=b::t.drop (q+1):=by
  rw[Al4 hq,hb,Ak6,Ak7 hq];rfl
 rw[Q3 h.perm i hi,Up,hw.first _ (by have:=b.toNat_lt;omega),(Agx h.perm).countP_eq];have hj1:=Sv h j hj;rw[e2]at hj1;rw[h.perm.countP_eq,An4,Ann,Am8,List.countP_nil,Anl,hdq,Qe (show Dd [] (b::t.drop (q+1))from trivial)]at hj1;have hA:(List.range t.length).countP (fun p=>ltB (t.drop p) (b::t.drop (q+1)))=(List.range t.length).countP (fun p=>decide ((t.getD p 0).toNat<b.toNat))+(List.range t.length).countP (fun p=>(t.getD p 0==b)&&ltB (t.drop (p+1)) (t.drop (q+1))):=by
  rw[←Pr _ _ _ (fun p _ hx=>by
   obtain⟨x1,x2⟩:=hx;have x3:=Amm x1;have x4:=(Bool.and_eq_true _ _▸x2:_∧_).1;rw[eq_of_beq x4]at x3;omega)]
  refine List.countP_congr fun p hp=>?_;have hp':=List.mem_range.1 hp;have hdp:t.drop p=t.getD p 0::t.drop (p+1):=by
   rw[Al4 hp',Ak6,Ak7 hp'];rfl
  rw[hdp,Aj2]
 have hB:(List.range t.length).countP (fun p=>decide ((t.getD p 0).toNat<b.toNat))=t.countP (fun x=>decide (x.toNat<b.toNat)):=by
  conv=>rhs;rw[←Pq t]
  rw[List.countP_map];rfl
 have hC:(List.range t.length).countP (fun p=>(t.getD p 0==b)&&ltB (t.drop (p+1)) (t.drop (q+1)))=(ps.take i).countP (fun p=>decide (0<p)&&(t.getD (p-1) 0==b)):=by
  have hs:=Su h (fun p=>decide (0<p)&&(t.getD (p-1) 0==b)) i hi;rw[e1,h.perm.countP_eq,List.range_succ_eq_map,Am8,List.countP_map]at hs;rw[←hs];simp;rfl
 rw[hA,hB,hC,if_pos rfl]at hj1;omega
end Hm
namespace Hm
theorem Acs{t:List UInt8}{ps:List Nat}(h:Dr t ps)(q:Nat)(hq:q≤t.length): ∃j,∃hj:j<ps.length,ps[j]=q:=by
 have hm:q∈ps:=h.perm.symm.subset (List.mem_range.2 (by omega));exact Aml hm
theorem Zf{t:List UInt8}{ps:List Nat}(h:Dr t ps)(hj:0<ps.length):ps[0]=t.length:=by
 obtain⟨j,hj2,e⟩:=Acs h t.length (Ale _);have hx:=Sv h j hj2;rw[e,Anl]at hx;have hz:ps.countP (fun p=>ltB (t.drop p) [])=0:=by
  rw[List.countP_eq_zero];intro p _ hp;rw[Mv (Rs _)]at hp;cases hp
 rw[hz]at hx;subst hx;exact e
theorem Uq{t:List UInt8}{ps ws:List Nat}(h:Dr t ps)(hw:Gj ws (Ap t ps)): ∀k,k≤t.length→(Cm (Dn (Ap t ps) ws (Bn ps)) 0 k).1=t.drop (t.length-k)∧ ∃hj:(Cm (Dn (Ap t ps) ws (Bn ps)) 0 k).2<ps.length,ps[(Cm (Dn (Ap t ps) ws (Bn ps)) 0 k).2]=t.length-k
 |0,_=>by
  have hpl:ps.length=t.length+1:=by have:=h.perm.length_eq;simpa using this
  refine⟨by rw[Aoz,Anl];rfl,by show 0<_;omega,?_⟩;exact Zf h (by omega)
 |k+1,hk=>by
  obtain⟨h1,hj,h2⟩:=Uq h hw k (by omega);obtain⟨j,hj2,e⟩:=Acs h (t.length-(k+1)) (by omega);have hl:=Ze h hw _ j (t.length-(k+1)) hj hj2 (by rw[h2];omega) e;have e1:Cm (Dn (Ap t ps) ws (Bn ps)) 0 (k+1)=(t.getD (t.length-(k+1)) 0::(Cm (Dn (Ap t ps) ws (Bn ps)) 0 k).1,j):=by
   rw[Cm,hl]
  rw[e1];refine⟨?_,hj2,e⟩;show _::_=_;rw[h1,Al4 (show t.length-(k+1)<t.length by omega),Ak6,Ak7 (show t.length-(k+1)<t.length by omega),show t.length-(k+1)+1=t.length-k from by omega];rfl
theorem Agy{t:List UInt8}{ps ws:List Nat}(h:Dr t ps)(hw:Gj ws (Ap t ps)):(Cm (Dn (Ap t ps) ws (Bn ps)) 0 t.length).1=t:=by
 rw[(Uq h hw t.length (Ale _)).1,Amr];rfl
end Hm
namespace Hm
theorem Ig(fs:List (ByteArray×ByteArray))(i:Nat)(hi:i<fs.length):(Az fs).getD i 0=(Ae (fs.take (i+1))).length:=by
 unfold Az;rw[Ak6,Alu,Amw hi];rfl
theorem Ye(fs:List (ByteArray×ByteArray)){i j:Nat}(h:i≤j):(Ae (fs.take i)).length≤(Ae (fs.take j)).length:=by
 have:=Mq (fs.take j) i;rwa[List.take_take,Ant h]at this
theorem Sw(fs:List (ByteArray×ByteArray)):St (Az fs) (Ae fs).length:=by
 have hl:=Ds fs;refine⟨fun i j hij hj=>?_,fun i hi=>?_,?_⟩
 ·rw[Ig fs i (by omega),Ig fs j (by omega)];exact Ye fs (by omega)
 ·rw[Ig fs i (by omega)];exact Mq fs _
 ·rw[hl]
  by_cases c:fs.length=0
  ·rw[if_pos c,Amj c];rfl
  ·rw[if_neg c,Ig fs _ (by omega),show fs.length-1+1=fs.length from by omega,Ama]
theorem Zg(fs:List (ByteArray×ByteArray))(i:Nat)(hi:i<fs.length):part (Ae fs) (Ae (fs.take i)).length (Ae (fs.take (i+1))).length=fs[i].2.data.toList:=by
 have e:Ae fs=Ae (fs.take i)++(fs[i].2.data.toList++Ae (fs.drop (i+1))):=by
  conv=>lhs;rw[←Amy i fs,Al4 hi]
  unfold Ae;rw[Ana,Amg]
 have hl:(Ae (fs.take (i+1))).length=(Ae (fs.take i)).length+fs[i].2.data.toList.length:=by rw[Ud fs i hi,Alg]
 unfold part;rw[hl,Aof,e,List.drop_left,Apc]
theorem Wv{L:List Nat}(h:Bj L): ∀x∈L,x≤255:=fun x hx=>by
 have h1:=S8 L x hx;have h2:=Wg h;omega
theorem Zh{fs:List (ByteArray×ByteArray)}{s:List UInt8}(hck:Bl fs=0)(hA:Cn fs s): ∃l6 L l8 st,Fe s l6 L l8 st∧A8 s l6 l8 st=fs:=by
 obtain⟨hm,h32,hn⟩:=K3 hck;obtain⟨ps,N,hps,_,hE,es⟩:=hA.is;have hC:=Hp (Ae fs) hn;have hmem: ∀b∈Ap (Ae fs) ps,b∈Af (lens (Ae fs)):=fun b hb=>(Nx _ hn b).2 (Mr hps.perm b hb);have hroot:=(Kg hps.perm).2;have hcl:=F7 hps.perm;obtain⟨t,ht⟩: ∃t,t=Ae fs:=⟨_,rfl⟩;obtain⟨tr,htr⟩: ∃tr,tr=Dt (lens (Ae fs)) N (Ap (Ae fs) ps):=⟨_,rfl⟩;obtain⟨SB,hSB⟩: ∃x,x=leBytes (crc (D0 fs ps tr)) 4:=⟨_,rfl⟩;have hSl:SB.length=4:=by rw[hSB,Cw]
 obtain⟨X9,hX9⟩: ∃x,x=Ah (Da ps)++SB:=⟨_,rfl⟩;obtain⟨X8,hX8⟩: ∃x,x=Ah tr++X9:=⟨_,rfl⟩;obtain⟨X7,hX7⟩: ∃x,x=leBytes (Ai (lens (Ae fs))).length 2++(Bo (lens (Ae fs)) (Ai (lens (Ae fs)))++X8):=⟨_,rfl⟩;obtain⟨X6,hX6⟩: ∃x,x=Ah (Bf (Az fs) (Ae fs).length)++X7:=⟨_,rfl⟩;have hs:s=[72,79,65,82,68,49,UInt8.ofNat fs.length]++(leBytes (Ae fs).length 2++(leBytes (Bn ps) 2++(nameBytes fs++X6))):=by
  rw[es,←htr,hX6,hX7,hX8,hX9,hSB];unfold Kr D0;simp only[Alx]
 have hbody:s=D0 fs ps tr++SB:=by rw[es,←htr,hSB];rfl
 have hhead:=Ajy fs (Ae fs).length (Bn ps) X6 (by omega) (by omega) hroot (fun f hf=>(h32 f hf).1);simp only at hhead;rw[←hs]at hhead;obtain⟨eF,eN,eR,eM⟩:=hhead;have hel:=Ds fs;obtain⟨q1,q2,q3⟩:=Agw (Az fs) (Ae fs).length hn (Sw fs) X7;rw[←hX6,hel]at q1 q2 q3;obtain⟨st,t1,t2,t3⟩:=Agv hC hE hmem X9;rw[←htr,←hX8,hcl]at t1;rw[←htr]at t2;rw[←htr,←hX8]at t3;obtain⟨s1,s2⟩:=Agu hps.perm SB;rw[←hX9]at s1 s2;have hd8:X8.drop (szB st.len)=X9:=by rw[t2,hX8,List.drop_left]
 have hP:Fe s X6 (lens (Ae fs)) X8 st:=by
  refine⟨by rw[eM],by rw[eF,eN];exact q1,?_,by rw[eN];exact t1,by rw[eN,hd8];exact s1,?_⟩
  ·rw[eF,eN,q2,hX7];exact Aks _ _ hC.len (Wv hC)
  ·rw[eN,hd8,s2];have hlen:s.length-4=(D0 fs ps tr).length:=by rw[hbody,Alg,hSl];omega
   have htake:s.take (s.length-4)=D0 fs ps tr:=by rw[hlen,hbody,Apc]
   unfold N6;rw[htake,show Bu (some SB) 4=(crc (D0 fs ps tr),some [])from by
    have:=Mb (crc (D0 fs ps tr)) 4 [] (by have:=Vj (D0 fs ps tr);omega);rwa[Am4,←hSB]at this]
   exact if_pos ⟨rfl,rfl⟩
 refine⟨X6,lens (Ae fs),X8,st,hP,?_⟩;have hcol:Tb X8 (Ae fs).length st=Ap (Ae fs) ps:=by
  obtain⟨c1,c2,_⟩:=U9 t1;exact c2.unique t3 (by rw[c1,hcl])
 have hwe:=(U9 t1).2.2;rw[hcol]at hwe;have htext:Fp s X8 st=Ae fs:=by
  unfold Fp;rw[eN,eR,hcol];exact Agy hps hwe
 unfold A8;rw[eF];apply Amf (by simp);intro i h1 h2;rw[Am5,Aor];unfold Ah1;have hi:i<fs.length:=h2;have hend: ∀j,j<fs.length→Ii s X6 j=(Ae (fs.take (j+1))).length:=fun j hj=>by
  unfold Ii;rw[eF,eN,q3 j (by omega),Ig fs j hj]
 have hfrom:Iq s X6 i=(Ae (fs.take i)).length:=by
  show(if i=0 then 0 else _)=_
  by_cases c:i=0
  ·rw[if_pos c,c];rfl
  ·rw[if_neg c];have:=hend (i-1) (by omega);rw[show i-1+1=i from by omega]at this;exact this
 rw[htext,hend i hi,hfrom,Zg fs i hi,eM];show(((fs.map (·.1)).getD i ⟨#[]⟩),_)=_;rw[Ak6,Alu,Ak7 hi];rfl
end Hm
namespace Hm
theorem M5{s P B:List UInt8}{a:Nat}(h:s.drop a=P++B):s.drop (a+P.length)=B:=by
 rw[←List.drop_drop,h,List.drop_left]
theorem Ve{s X:List UInt8}{a:Nat}(h:s.drop a=X)(ha:a≤s.length):a+X.length=s.length:=by
 rw[←h,Amb];omega
theorem J3{s B:List UInt8}{a x k:Nat}{bad:Bool}(h:s.drop a=leBytes x k++B)(ha:a≤s.length)(hx:x<256^k):Cb s (a,bad) k=(x,(a+k,bad))∧s.drop (a+k)=B∧a+k≤s.length:=by
 have hl:=Ve h ha;rw[Alg,Cw]at hl;have h2:=M5 h;rw[Cw]at h2;refine⟨?_,h2,by omega⟩;unfold Cb;rw[if_neg (by show¬_<a+k;omega)];show(C0 ((s.drop a).take k),_)=_;rw[h,List.take_left' (Cw x k),Q0 x k hx]
theorem Ww{s P B:List UInt8}{a k:Nat}(h:s.drop a=P++B)(ha:a≤s.length)(hk:P.length=k):D4 s (a,false) k=(P,(a+k,false))∧s.drop (a+k)=B∧a+k≤s.length:=by
 have hl:=Ve h ha;rw[Alg]at hl;have h2:=M5 h;rw[hk]at h2 hl;refine⟨?_,h2,by omega⟩;unfold D4;rw[if_neg (by show¬(false=true∨_<a+k);simp;omega)];show((s.drop a).take k,_)=_;rw[h,List.take_left' hk]
theorem Wx{s B:List UInt8}{bits:List Bool}{a:Nat}(h:s.drop a=Ah bits++B)(ha:a≤s.length)(m:Nat)(hm:m≤bits.length):Cr s (a,false) m=(bits.take m,(a+(m+7)/8,false)):=by
 have hz:=A1 bits;have hle:(m+7)/8≤(Ah bits).length:=by rw[hz];omega
 have e:s.drop a=(Ah bits).take ((m+7)/8)++((Ah bits).drop ((m+7)/8)++B):=by
  rw[←Alx,Amy,h]
 have hp:=(Ww (k:=(m+7)/8) e ha (by rw[Aln];omega)).1;unfold Cr;rw[hp,if_neg (by simp)];simp only[Prod.mk.injEq,and_true];apply Amf (by simp;omega);intro i h1 h2;have hi:i<m:=by simpa using h1
 rw[Am5,Aor,K1 _ _ _ (by omega),Of,List.getElem_take,Ak6,Ak7 (by omega)];rfl
def Ck(s:List UInt8)(st:RS):Nat→List (List UInt8)×RS
 |0=>([],st)
 |i+1=>((Ck s st i).1++[(D4 s (Cb s (Ck s st i).2 1).2 (Cb s (Ck s st i).2 1).1).1],(D4 s (Cb s (Ck s st i).2 1).2 (Cb s (Ck s st i).2 1).1).2)
theorem Zi(s:List UInt8)(st:RS)(h:st.1≤s.length): ∀i,(Ck s st i).2.1≤s.length
 |0=>h
 |i+1=>Uw s _ _ (Lx s _ 1 (Zi s st h i))
theorem Q4(s:List UInt8)(st:RS): ∀i,(Ck s st i).1.length=i
 |0=>rfl
 |i+1=>by rw[Ck,Alg,Q4 s st i];rfl
theorem Ur{s B:List UInt8}{fs:List (ByteArray×ByteArray)}{a:Nat}(h:s.drop a=nameBytes fs++B)(ha:a≤s.length)(hs: ∀f∈fs,f.1.size≤32): ∀k,k≤fs.length→ ∃a',Ck s (a,false) k=((fs.take k).map (fun f=>f.1.data.toList),(a',false))∧s.drop a'=nameBytes (fs.drop k)++B∧a'≤s.length
 |0,_=>⟨a,by simp[Ck],by rw[List.drop_zero];exact h,ha⟩
 |k+1,hk=>by
  obtain⟨a1,e1,d1,l1⟩:=Ur h ha hs k (by omega);have hkl:k<fs.length:=by omega
  have hsz:=hs fs[k] (Alo hkl);have e:nameBytes (fs.drop k)=leBytes fs[k].1.size 1++(fs[k].1.data.toList++nameBytes (fs.drop (k+1))):=by
   rw[Al4 hkl,Je];unfold nameBytes;rw[Amg];simp
  rw[e,Alx]at d1;obtain⟨e2,d2,l2⟩:=J3 (bad:=false) d1 l1 (by omega);rw[Alx]at d2;obtain⟨e3,d3,l3⟩:=Ww d2 l2 (show _=fs[k].1.size by simp);refine⟨_,?_,d3,l3⟩;rw[Ck,e1,e2,e3,Ali hkl,Am9];rfl
theorem Wy{s B:List UInt8}{L:List Nat}{l:List UInt8}{a:Nat}(hL: ∀x∈L,x≤255)(h:s.drop a=Bo L l++B)(ha:a≤s.length): ∀k,k≤l.length→ ∃a',Cs s (a,false) k=(Hx L (l.take k),(a',false))∧s.drop a'=Bo L (l.drop k)++B∧a'≤s.length
 |0,_=>by
  have:Hx L []=List.replicate 256 0:=by
   apply Amf (by rw[Hh,Alj]);intro j h1 h2;unfold Hx;simp only[Am5,List.getElem_replicate,List.not_mem_nil,if_false]
  exact⟨a,by rw[Cs,Apb,this],by rw[List.drop_zero];exact h,ha⟩
 |k+1,hk=>by
  obtain⟨a1,e1,d1,l1⟩:=Wy hL h ha k (by omega);have hkl:k<l.length:=by omega
  have hx:L.getD l[k].toNat 0≤255:=by
   rw[Ak6];cases h:L[l[k].toNat]? with
   |none=>simp
   |some y=>exact hL y (List.mem_of_getElem? h)
  have e:Bo L (l.drop k)=leBytes l[k].toNat 1++(leBytes (L.getD l[k].toNat 0) 1++Bo L (l.drop (k+1))):=by
   rw[Al4 hkl,Je,Je,UInt8.ofNat_toNat];rfl
  rw[e,Alx]at d1;obtain⟨e2,d2,l2⟩:=J3 (bad:=false) d1 l1 (by have:=l[k].toNat_lt;omega);rw[Alx]at d2;obtain⟨e3,d3,l3⟩:=J3 (bad:=false) d2 l2 (by omega);refine⟨_,?_,d3,l3⟩;rw[Cs,e1,if_neg (by simp)];simp only;rw[e2];simp only;rw[e3,Ali hkl,←Un]
theorem Aiq{s B:List UInt8}{L:List Nat}{a:Nat}(hL:L.length=256)(hx: ∀x∈L,x≤255)(h:s.drop a=leBytes (Ai L).length 2++(Bo L (Ai L)++B))(ha:a≤s.length): ∃a',Kj s (a,false)=(L,(a',false))∧s.drop a'=B∧a'≤s.length:=by
 have hc:(Ai L).length≤256:=E0 L 256;obtain⟨e1,d1,l1⟩:=J3 (bad:=false) h ha (by omega);obtain⟨a',e2,d2,l2⟩:=Wy hx d1 l1 _ (Ale _);rw[Anl]at d2;refine⟨a',?_,d2,l2⟩;unfold Kj;rw[e1];show Cs s (a+2,false) (Ai L).length=_;rw[e2,Ama,Sr L hL]
theorem Acu(bs:List Bool): ∀l a,a+l≤bs.length→Hb ((bs.drop a).take l)=Gm (fun p=>bs.getD p false) a l
 |0,a,_=>by simp[Hb,Gm]
 |l+1,a,h=>by
  have ih:=Acu bs l a (by omega);rw[Gm,←ih,Ali (by rw[Amb];omega),List.getElem_drop];have key: ∀(x:List Bool) (b:Bool),Hb (x++[b])=Hb x+b.toNat*2^x.length:=by
   intro x b;induction x with
   |nil=>simp[Hb]
   |cons y r ih=>rw[Aok,Hb,ih,Hb,Amc,Amv,Nat.mul_add,←Anc,Aoj (2^r.length) 2,Nat.mul_left_comm]
  rw[key,show((bs.drop a).take l).length=l from by rw[Aln,Amb];omega,Ak6,Ak7 (show a+l<bs.length by omega)];rfl
theorem Ae4(bs:List Bool)(es:List Nat)(l d:Nat)(f:Nat→Bool)(hf:f=fun p=>bs.getD p false)(hlen:bs.length=es.length*l+d)(hr:rk f (es.length*l+d)=rk f (es.length*l)+es.length)(he: ∀i,i<es.length→Fb f es.length l i=es.getD i 0): ∀k,k≤d→Ex bs es.length l k=es.take (rk f (es.length*l+k)-rk f (es.length*l))
 |0,_=>by rw[Aon,Amr];rfl
 |k+1,hk=>by
  have ih:=Ae4 bs es l d f hf hlen hr he k (by omega);have hm1:=J7 f (show es.length*l≤es.length*l+k by omega);have hm2:=J7 f (show es.length*l+k+1≤es.length*l+d by omega);have hs:rk f (es.length*l+k+1)=rk f (es.length*l+k)+(f (es.length*l+k)).toNat:=rfl;obtain⟨c,hc⟩: ∃c,c=rk f (es.length*l+k)-rk f (es.length*l):=⟨_,rfl⟩;have hcl:c≤es.length:=by omega
  have htl:(es.take c).length=c:=by rw[Aln];omega
  have hfb:bs.getD (es.length*l+k) false=f (es.length*l+k):=by rw[hf]
  rw[←Anc,Ex,ih,hs,←hc,htl,hfb];cases hb:f (es.length*l+k)with
  |false=>
   rw[if_neg (by simp),show rk f (es.length*l+k)+false.toNat-rk f (es.length*l)=c from by show _+0-_=_;omega]
  |true=>
   rw[hb]at hs;have hcl2:c<es.length:=by
    have:rk f (es.length*l+k+1)=rk f (es.length*l+k)+1:=hs;omega
   rw[if_pos ⟨rfl,hcl2⟩,show rk f (es.length*l+k)+true.toNat-rk f (es.length*l)=c+1 from by show _+1-_=_;omega,Ali hcl2];congr 2;have h1:=he c hcl2;have hpos:Vr f (rk f (es.length*l)+c)=es.length*l+k:=U1 ⟨hb,by omega⟩;unfold Fb at h1;rw[hpos]at h1;unfold Aa5 at h1;have hmul:(c+1)*l≤es.length*l:=Anj _ hcl2;rw[Anv]at hmul;rw[Acu bs l (c*l) (by omega),←hf];rw[show es.length*l+k-es.length*l-c=k-c from by omega]at h1;rw[h1,Ak6,Ak7 hcl2];rfl
theorem Agz{s B:List UInt8}{es:List Nat}{n a:Nat}(hn:n≤6000)(hu:St es n)(h:s.drop a=Ah (Bf es n)++B)(ha:a≤s.length): ∃a',Iz s (a,false) es.length n=(es,(a',false))∧s.drop a'=B∧a'≤s.length:=by
 have hl:=Ss es n hn;have hlw:=Rp es.length n hn;have hel:Am es.length n=es.length*By es.length n+(es.length+n/2^By es.length n+1):=by unfold Am;rw[hlw]
 have hN:es.length*By es.length n+es.length+n/2^By es.length n+1=(Bf es n).length:=by rw[hl,hel];omega
 have hb:=Wx h ha _ (Ale _);rw[Ama]at hb;have hp:=A1 (Bf es n);have h2:=M5 h;rw[hp]at h2;have h3:=Ve h ha;rw[Alg,hp]at h3;obtain⟨k1,k2⟩:=Ae3 es n hn hu;rw[hlw,hel]at k1;rw[hlw]at k2;refine⟨_,?_,h2,by omega⟩;unfold Iz;rw[hN,hb,if_neg (by simp)];simp only[Prod.mk.injEq,and_true];rw[Ae4 (Bf es n) es (By es.length n) (es.length+n/2^By es.length n+1) _ rfl (by rw[hl,hel]) k1 k2 _ (Ale _),k1];rw[Aof,Ama]
theorem Zj(col:List UInt8)(c:UInt8)(i:Nat): ∀j,j≤col.length→Fr col c i j=(col.take j).countP (fun x=>decide (x.toNat<c.toNat))+(col.take (min i j)).count c
 |0,_=>by simp[Fr,rk]
 |j+1,hj=>by
  have ih:=Zj col c i j (by omega);unfold Fr at ih⊢;have hg:col.getD j 0=col[j]:=by rw[Ak6,Ak7 (show j<col.length by omega)];rfl
  rw[rk,ih,Ali (show j<col.length by omega),Ann,Am8,List.countP_nil];unfold Ku;rw[hg];have hlt:decide (col[j]<c)=decide (col[j].toNat<c.toNat):=by rw[decide_eq_decide];exact UInt8.lt_iff_toNat_lt
  rw[hlt]
  by_cases c1:j<i
  ·rw[Nat.min_eq_right (show j≤i by omega),Nat.min_eq_right (show j+1≤i by omega),Ali (show j<col.length by omega),List.count_append,List.count_cons,List.count_nil,Alb c1,Bool.and_true]
   by_cases c2:col[j]=c
   ·rw[c2,Ald (by omega),Aoi];simp;omega
   ·rw[Al5.2 c2];cases decide (col[j].toNat<c.toNat)<;>simp<;>omega
  ·rw[Ant (show i≤j by omega),Ant (show i≤j+1 by omega),Ald c1,Bool.and_false,Bool.or_false];cases decide (col[j].toNat<c.toNat)<;>simp<;>omega
theorem Aaf{col:List UInt8}{ws:List Nat}(hw:Gj ws col){root row:Nat}(h1:root≤col.length)(h2:row≤col.length)(hne:row≠root):Sq col root row=Dn col ws root row:=by
 have hi:=L9 h1 h2 hne;unfold Sq Dn;rw[if_neg hne];simp only[Prod.mk.injEq,true_and];rw[Zj col _ _ _ (Ale _),Ama,Ant (by omega),hw.first _ (by have:=(col.getD (Cl root row) 0).toNat_lt;omega)];omega
theorem Aeg(col:List UInt8): ∃ws,Gj ws col:=by
 refine⟨(List.range 256).map fun i=>col.count (UInt8.ofNat i),by simp,fun v=>?_⟩;rw[Ak6,Alu,Amw v.toNat_lt];show col.count (UInt8.ofNat v.toNat)=_;rw[UInt8.ofNat_toNat]
theorem Zk{t:List UInt8}{ps:List Nat}(h:Dr t ps): ∀k,k≤t.length→ ∃j,∃hj:j<ps.length,ps[j]=t.length-k∧G4 (Ap t ps) (Bn ps) k=some (t.drop (t.length-k),j)
 |0,_=>by
  have hpl:ps.length=t.length+1:=by have:=h.perm.length_eq;simpa using this
  exact⟨0,by omega,Zf h (by omega),by rw[G4,Aoz,Anl]⟩
 |k+1,hk=>by
  obtain⟨i,hi,e1,e2⟩:=Zk h k (by omega);obtain⟨j,hj,e3⟩:=Acs h (t.length-(k+1)) (by omega);obtain⟨ws,hw⟩:=Aeg (Ap t ps);have hpl:ps.length=t.length+1:=by have:=h.perm.length_eq;simpa using this
  have hcl:=F7 h.perm;have hroot:=(Kg h.perm).2;have hne:i≠Bn ps:=fun x=>by have:=(Od h.perm i hi).2 x;omega
  refine⟨j,hj,e3,?_⟩;rw[G4,e2];simp only;rw[if_neg hne,Aaf hw (by omega) (by omega) hne,Ze h hw i j (t.length-(k+1)) hi hj (by omega) e3];rw[Al4 (show t.length-(k+1)<t.length by omega),Ak6,Ak7 (show t.length-(k+1)<t.length by omega),show t.length-(k+1)+1=t.length-k from by omega];rfl
theorem Aj3{t:List UInt8}{ps:List Nat}(h:Dr t ps):G4 (Ap t ps) (Bn ps) (Ap t ps).length=some (t,Bn ps):=by
 obtain⟨j,hj,e1,e2⟩:=Zk h t.length (Ale _);rw[Amr]at e1 e2;rw[F7 h.perm,e2,List.drop_zero,(Od h.perm j hj).1 e1]
end Hm
end Go.Proofs.YtegnkfdbmmndaaaGreat
namespace Go.Proofs.YtegnkfdbmmndaaaGreat
open Hm
open Go.RowKit
namespace Hm
end Hm
end Go.Proofs.YtegnkfdbmmndaaaGreat
namespace Go.Proofs.YtegnkfdbmmndaaaGreat
open Hm
namespace Hm
theorem Bj.cd_inj{L:List Nat}(hC:Bj L){b b':UInt8}(hb:b∈Af L)(hb':b'∈Af L)(e:G9 (lnB L) (Bm L) b=G9 (lnB L) (Bm L) b'):b=b':=by
 have hk:=hC.numk;have hl:=congrArg List.length e;unfold G9 at e hl;rw[Bs,Bs]at hl;rw[←hl]at e;have hn:=Rh (hC.num_lt b hb) (by rw[hl];exact hC.num_lt b' hb') e;obtain⟨i,hi,rfl⟩:=It hb;obtain⟨j,hj,rfl⟩:=It hb';have h1:=hk.num i hi;have h2:=hk.num j hj;rw[hn,hl,h2]at h1;rcases Ami i j with c|c|c
 ·have:=Rc 32 (lnB L) (Af L) c hi;omega
 ·rw[c]
 ·have:=Rc 32 (lnB L) (Af L) c hj;omega
theorem Bj.colCd{L:List Nat}(hC:Bj L){o hd:List (List Bool)}{ok:Bool}{col:List UInt8}(h:Ch L o ok)(ho:o.length=256)(hh:Er (cdL o) hd)(hm: ∀b∈col,b∈Af L):Gb o hd col:=by
 have e:=Ov hC h;have hne: ∀b,cdL o b≠[]↔b∈Af L:=fun b=>by
  rw[hC.mem b,e,←List.length_pos_iff];unfold G9;rw[Bs]
 refine⟨ho,hh,fun b hb x hx hg=>?_,fun b b' hb hbb=>?_,fun b=>?_,fun b hb=>(hne b).2 (hm b hb)⟩
 ·obtain⟨b',h1,h2⟩:=(hh.mem x).1 hx;rw[e]at h1 h2 hg⊢;exact hC.prefixes ((hne b).1 hb) h1 h2 hg
 ·have hb':cdL o b'≠[]:=by rw[←hbb];exact hb
  rw[e]at hbb;exact hC.cd_inj ((hne b).1 hb) ((hne b').1 hb') hbb
 ·rw[e];unfold G9;rw[Bs];exact hC.le255 b
theorem Wz{fs:List Fl}{s:List UInt8}(hck:Bl fs=0)(hA:Cn fs s):11≤s.length∧s.length≤30000:=by
 obtain⟨hm,h32,hn⟩:=K3 hck;obtain⟨ps,N,hps,_,hE,es⟩:=hA.is;have hC:=Hp (Ae fs) hn;have hcl:=F7 hps.perm;have htr:(Dt (lens (Ae fs)) N (Ap (Ae fs) ps)).length≤6000*32:=by
  unfold Dt;rw[Al6];have:=Oe (lnB (lens (Ae fs))) (Bm (lens (Ae fs))) (Al (lnB (lens (Ae fs))) (Af (lens (Ae fs))) (2*N)).1 N 32 (fun b=>by
   refine Al2 (Ox hE.nodes b _ (by rw[hE.len];exact Ale _) (lnB (lens (Ae fs)) b) (fun j _ hj=>(Amm hj).1)) (hC.short b)) (Ap (Ae fs) ps)
  rw[hcl]at this;exact Al2 this (Anj _ hn)
 have hsm:=Kf hps.perm;have hbl:Lib.bitLen ((Ae fs).length/8)≤10:=Lib.bitLen_le _ 10 (by omega) (by omega);have hmul:((Ae fs).length/8+1)*Lib.bitLen ((Ae fs).length/8)≤751*10:=Amk (by omega) hbl;have hel:=Lq (Az fs) (Ae fs).length;have hlw:=Ni (Az fs).length (Ae fs).length hn;have hq:(Ae fs).length/2^By (Az fs).length (Ae fs).length≤(Ae fs).length:=Anu _ _;have hel2:=Ds fs;have hm2:(Az fs).length*By (Az fs).length (Ae fs).length≤40*12:=Amk (by omega) hlw;have hnb:=Js fs (fun f hf=>(h32 f hf).1);have hco:(Ai (lens (Ae fs))).length≤256:=E0 _ 256;have hlb:=Jl (lens (Ae fs)) (Ai (lens (Ae fs)));rw[es];unfold Kr D0;simp only[Alg,Amc,List.length_nil,Cw,A1];omega
structure Th(s:List UInt8)(fs:List Fl)(a1 a2 a3 rt:Nat)(cl:List UInt8):Prop where
 len:11≤s.length∧s.length≤30000
 magic:s.take 6=[72,79,65,82,68,49]
 m:Cb s (6,false) 1=(fs.length,(7,false))
 n:Cb s (7,false) 2=((Ae fs).length,(9,false))
 root:Cb s (9,false) 2=(rt,(11,false))
 le:fs.length≤40∧(Ae fs).length≤6000∧rt≤(Ae fs).length
 names:Ck s (11,false) fs.length=(fs.map (fun f=>f.1.data.toList),(a1,false))
 ends:Iz s (a1,false) fs.length (Ae fs).length=(Az fs,(a2,false))
 lens:Kj s (a2,false)=(lens (Ae fs),(a3,false))
 codes: ∀o ok,Ch (Hm.lens (Ae fs)) o ok→ok=true
 col: ∀o ok hd,Ch (Hm.lens (Ae fs)) o ok→o.length=256→Er (cdL o) hd→Ji s a3 (Ae fs).length hd o=some cl
 back:cl.length=(Ae fs).length∧G4 cl rt cl.length=some (Ae fs,rt)
theorem Ag0{fs:List Fl}{s:List UInt8}(hck:Bl fs=0)(hA:Cn fs s): ∃a1 a2 a3 root col,Th s fs a1 a2 a3 root col:=by
 have hlen:=Wz hck hA;obtain⟨hm,h32,hn⟩:=K3 hck;obtain⟨ps,N,hps,_,hE,es⟩:=hA.is;have hC:=Hp (Ae fs) hn;have hmem: ∀b∈Ap (Ae fs) ps,b∈Af (lens (Ae fs)):=fun b hb=>(Nx _ hn b).2 (Mr hps.perm b hb);have hroot:=(Kg hps.perm).2;have hcl:=F7 hps.perm;obtain⟨tr,htr⟩: ∃tr,tr=Dt (lens (Ae fs)) N (Ap (Ae fs) ps):=⟨_,rfl⟩;obtain⟨X9,hX9⟩: ∃x,x=Ah (Da ps)++leBytes (crc (D0 fs ps tr)) 4:=⟨_,rfl⟩;have hs:s=[72,79,65,82,68,49]++(leBytes fs.length 1++(leBytes (Ae fs).length 2++(leBytes (Bn ps) 2++(nameBytes fs++(Ah (Bf (Az fs) (Ae fs).length)++(leBytes (Ai (lens (Ae fs))).length 2++(Bo (lens (Ae fs)) (Ai (lens (Ae fs)))++(Ah tr++X9)))))))):=by
  rw[es,←htr,hX9,Je];unfold Kr D0;simp only[Alx,Aok,Aoo]
 have d0:s.drop 6=leBytes fs.length 1++(leBytes (Ae fs).length 2++(leBytes (Bn ps) 2++(nameBytes fs++(Ah (Bf (Az fs) (Ae fs).length)++(leBytes (Ai (lens (Ae fs))).length 2++(Bo (lens (Ae fs)) (Ai (lens (Ae fs)))++(Ah tr++X9))))))):=by
  rw[hs];exact List.drop_left' rfl
 have hmag:s.take 6=[72,79,65,82,68,49]:=by rw[hs];exact List.take_left' rfl
 clear hs;obtain⟨e1,d1,l1⟩:=J3 (bad:=false) d0 (by omega) (by omega);obtain⟨e2,d2,l2⟩:=J3 (bad:=false) d1 l1 (by omega);obtain⟨e3,d3,l3⟩:=J3 (bad:=false) d2 l2 (by omega);obtain⟨a1,e4,d4,l4⟩:=Ur d3 l3 (fun f hf=>(h32 f hf).1) fs.length (Ale _);rw[Anl,Ama]at*;obtain⟨a2,e5,d5,l5⟩:=Agz hn (Sw fs) d4 l4;rw[Ds]at e5;obtain⟨a3,e6,d6,l6⟩:=Aiq hC.len (Wv hC) d5 l5;refine⟨a1,a2,a3,Bn ps,Ap (Ae fs) ps,hlen,hmag,e1,e2,e3,⟨hm,hn,hroot⟩,e4,e5,e6,fun o ok h=>(Uj hC h).1,fun o ok hd h ho hh=>?_,hcl,Aj3 hps⟩;have H:=hC.colCd h ho hh hmem;have et:Bw (cdL o) hd (Ap (Ae fs) ps)=tr:=by
  have e:=Ov hC h;rw[htr,e];rw[e]at hh;exact(Ma hC hE hmem hh).symm
 rw[←hcl];refine H.col_is fun m hm=>?_;rw[et]at hm⊢;exact⟨_,Wx d6 l6 m hm⟩
end Hm
end Go.Proofs.YtegnkfdbmmndaaaGreat
