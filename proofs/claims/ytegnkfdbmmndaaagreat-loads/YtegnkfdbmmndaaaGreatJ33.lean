import Derived.Test.YtegnkfdbmmndaaaGreatJ00
import Derived.Test.YtegnkfdbmmndaaaGreatJ32
import Derived.Test.YtegnkfdbmmndaaaGreatJ22
import Derived.Test.YtegnkfdbmmndaaaGreatJ25
import Derived.Test.YtegnkfdbmmndaaaGreatJ24

namespace Go.Proofs.YtegnkfdbmmndaaaGreat
open Hm
namespace Hm
theorem Ae3(f:Nat→Bool)(a:Nat): ∀d,(∀p,a≤p→p<a+d→f p=false)→rk f(a+d)=rk f a
 |0,_=>rfl
 |d+1,h=>by
  have ih:=Ae3 f a d(fun p h1 h2=>h p h1(by omega));have e:rk f(a+(d+1))=rk f(a+d)+(f(a+d)).toNat:=rfl;rw[e,ih,h(a+d)(by omega)(by omega)];rfl
theorem Qg(f:Nat→Bool)(a b:Nat)(hab:a≤b)(h: ∀p,a≤p→p<b→f p=false):rk f b=rk f a:=by
 have:=Ae3 f a(b-a)(fun p h1 h2=>h p h1(by omega));rwa [show a+(b-a)=b from by omega]at this
theorem Aj2(f:Nat→Bool)(h len m:Nat)(pos:Nat→Nat)(hinc: ∀i j,i<j→j<m→pos i<pos j)(hin: ∀i,i<m→h≤pos i∧pos i<len)(hhl:h≤len)(hf: ∀p,h≤p→p<len→(f p=true↔ ∃i,i<m∧p=pos i)):
  (∀i,i<m→f(pos i)=true∧rk f(pos i)=rk f h+i)∧rk f len=rk f h+m:=by
 have hone: ∀i,i<m→f(pos i)=true:=fun i hi=>(hf _(hin i hi).1(hin i hi).2).2⟨i,hi,rfl⟩;have no: ∀p,h≤p→p<len→(∀i,i<m→p≠pos i)→f p=false:=fun p h1 h2 h3=>by
  cases e:f p with
  |false=>rfl
  |true=>
   obtain⟨i,hi,e2⟩:=(hf p h1 h2).1 e;exact absurd e2(h3 i hi)
 have ranks: ∀i,i<m→rk f(pos i)=rk f h+i:=by
  intro i;induction i with
  |zero=>
   intro hi;have:=Qg f h(pos 0)(hin 0 hi).1(fun p h1 h2=>no p h1(by have:=(hin 0 hi).2;omega)(fun j hj e=>by
    rcases Nat.eq_zero_or_pos j with c|c
    ·subst c;omega
    ·have:=hinc 0 j c hj;omega))
   omega
  |succ i ih=>
   intro hi;have ih':=ih(by omega);have e:rk f(pos i+1)=rk f(pos i)+(f(pos i)).toNat:=rfl;rw[hone i(by omega)]at e;have hlt:=hinc i(i+1)(by omega)hi;have:=Qg f(pos i+1)(pos(i+1))hlt(fun p h1 h2=>no p(by have:=(hin i(by omega)).1;omega)(by have:=(hin(i+1)hi).2;omega)(fun j hj e=>by
    rcases Al4 j i with c|c|c
    ·have:=hinc j i c(by omega);omega
    ·subst c;omega
    ·by_cases c2:j=i+1
     ·subst c2;omega
     ·have:=hinc(i+1)j(by omega)hj;omega))
   simp at e;omega
 refine⟨fun i hi=>⟨hone i hi,ranks i hi⟩,?_⟩;rcases Nat.eq_zero_or_pos m with c|c
 ·subst c;have:=Qg f h len hhl(fun p h1 h2=>no p h1 h2(fun i hi=>by omega));omega
 ·have hr:=ranks(m-1)(by omega);have e:rk f(pos(m-1)+1)=rk f(pos(m-1))+(f(pos(m-1))).toNat:=rfl;rw[hone(m-1)(by omega)]at e;have:=Qg f(pos(m-1)+1)len(hin(m-1)(by omega)).2(fun p h1 h2=>no p(by have:=(hin(m-1)(by omega)).1;omega)h2(fun j hj e=>by
   by_cases c2:j=m-1
   ·subst c2;omega
   ·have:=hinc j(m-1)(by omega)(by omega);omega))
  simp at e;omega
theorem Aah(l:List Bool)(q p:Nat)(hq:q<l.length):(l.set q true).getD p false=(decide(p=q)||l.getD p false):=by
 rw[Ak7,Ak7,List.getElem?_set]
 by_cases e:q=p
 ·subst e;simp[hq]
 ·rw[if_neg e,decide_eq_false(fun x=>e x.symm)];rfl
theorem Ur(es:List Nat)(l h:Nat)(R:List Bool)(p:Nat): ∀k,(∀i,i<k→h+es.getD i 0/2^l+i<R.length)→(Fw es l h R k).getD p false=((List.range k).any(fun i=>decide(p=h+es.getD i 0/2^l+i))||R.getD p false)
 |0,_=>by simp[Fw]
 |k+1,hk=>by
  rw[Fw,Aah _ _ _(by rw[J9];exact hk k(by omega)),Ur es l h R p k(fun i hi=>hk i(by omega)),Anb,List.any_append];simp only[List.any_cons,List.any_nil,Bool.or_false];cases decide(p=h+es.getD k 0/2^l+k)<;>simp
theorem Wx(l:Nat): ∀(es:List Nat)(i j:Nat),i<es.length→j<l→(Cr es l).getD(i*l+j)false=decide(es.getD i 0/2^j%2=1)
 |[],i,j,hi,_=>by simp at hi
 |e::r,0,j,_,hj=>by
  unfold Cr;rw[Al2,Nat.zero_mul,Alv,Ak7,Al3(by rw[Dj];exact hj)];unfold Av;rw[Aln,Ame hj];rfl
 |e::r,i+1,j,hi,hj=>by
  have ih:=Wx l r i j(by simpa using hi)hj;unfold Cr at ih⊢;rw[Al2,Ak7,Alm(by rw[Dj,Am5];omega),Dj,show(i+1)*l+j-l=i*l+j from by rw[Am5];omega,←Ak7,ih];rfl
theorem Zg(f:Nat→Bool)(a x:Nat): ∀k,(∀j,j<k→f(a+j)=decide(x/2^j%2=1))→Gp f a k=x%2^k
 |0,_=>by simp[Gp,Nat.mod_one]
 |k+1,h=>by
  rw[Gp,Zg f a x k(fun j hj=>h j(by omega)),h k(by omega),Nat.mod_pow_succ];have:=Nat.mod_lt(x/2^k)(show 0<2 by omega);rcases(show x/2^k%2=0∨x/2^k%2=1 by omega)with e|e
  ·rw[e];simp
  ·rw[e];simp
end Hm
namespace Hm
theorem Sv(es:List Nat)(n:Nat)(hn:n≤6000):(Bi es n).length=An es.length n:=by
 unfold Bi An;rw[J9,Ald,He,Alf,Rs _ _ hn]
structure Sw(es:List Nat)(n:Nat):Prop where
 asc: ∀i j,i<j→j<es.length→es.getD i 0≤es.getD j 0
 le: ∀i,i<es.length→es.getD i 0≤n
 last:(if es.length=0 then 0 else es.getD(es.length-1)0)=n
theorem Ae4(es:List Nat)(n:Nat)(hn:n≤6000)(h:Sw es n):let f:=fun p=>(Bi es n).getD p false
  rk f(An es.length n)=rk f(es.length*C1 es.length n)+es.length∧ ∀i,i<es.length→Ff f es.length(C1 es.length n)i=es.getD i 0:=by
 intro f;obtain⟨m,hm⟩: ∃m,m=es.length:=⟨_,rfl⟩;obtain⟨lo,hlo⟩: ∃lo,lo=C1 m n:=⟨_,rfl⟩;rw[←hm,←hlo];have hlw:B4 m n=lo:=by rw[hlo,Rs _ _ hn]
 have hh:(Cr es lo).length=m*lo:=by rw[He,hm]
 obtain⟨dv,hdv⟩: ∃dv:Nat→Nat,∀i,es.getD i 0/2^lo=dv i:=⟨_,fun _=>rfl⟩;obtain⟨dn,hdn⟩: ∃dn,n/2^lo=dn:=⟨_,rfl⟩;have hdiv: ∀i,i<m→dv i≤dn:=fun i hi=>by rw[←hdv,←hdn];exact Nat.div_le_div_right(h.le i(by omega))
 have hdas: ∀i j,i<j→j<m→dv i≤dv j:=fun i j hij hj=>by rw[←hdv,←hdv];exact Nat.div_le_div_right(h.asc i j hij(by omega))
 have hfd: ∀p,f p=((List.range m).any(fun i=>decide(p=m*lo+dv i+i))||(Cr es lo++List.replicate(m+dn+1)false).getD p false):=by
  intro p;show(Bi es n).getD p false=_;unfold Bi;rw[←hm,hlw,hdn,Ur es lo _ _ p m(fun i hi=>by rw[hh,Ald,hh,Alf,hdv];have:=hdiv i hi;omega),hh];simp only[hdv]
 have hlen:An m n=m*lo+(m+dn+1):=by unfold An;rw[←hlo,hdn]
 have hhi: ∀p,m*lo≤p→(Cr es lo++List.replicate(m+dn+1)false).getD p false=false:=fun p hp=>by
  rw[Ak7,Alm(by omega),An0];split<;>rfl
 have key:=Aj2 f(m*lo)(An m n)m(fun i=>m*lo+dv i+i)
  (fun i j hij hj=>by
   have:=hdas i j hij hj;show m*lo+dv i+i<m*lo+dv j+j;omega)
  (fun i hi=>by have:=hdiv i hi;rw[hlen];exact⟨by show _≤m*lo+dv i+i;omega,by show m*lo+dv i+i<_;omega⟩)
  (by rw[hlen];omega)
  (fun p h1 h2=>by
   rw[hfd p,hhi p h1,Bool.or_false,List.any_eq_true];constructor
   ·rintro⟨i,hi,e⟩;exact⟨i,List.mem_range.1 hi,of_decide_eq_true e⟩
   ·rintro⟨i,hi,e⟩;exact⟨i,List.mem_range.2 hi,decide_eq_true e⟩)
 refine⟨key.2,fun i hi=>?_⟩;have hi1:=key.1 i hi;unfold Ff;rw[U4(p:=m*lo+dv i+i)⟨hi1.1,hi1.2⟩];unfold Aa8;have hnum:Gp f(i*lo)lo=es.getD i 0%2^lo:=Zg f(i*lo)(es.getD i 0)lo(fun j hj=>by
  have hlt:i*lo+j<m*lo:=by
   have h1:(i+1)*lo≤m*lo:=Amx _(by omega);rw[Am5]at h1;omega
  rw[hfd,show(List.range m).any(fun k=>decide(i*lo+j=m*lo+dv k+k))=false from by
   rw[List.any_eq_false];intro k _ hk;have:=of_decide_eq_true hk;omega,Bool.false_or,Ak7,Al3(by omega),←Ak7]
  exact Wx lo es i j(by omega)hj)
 rw[hnum,show m*lo+dv i+i-m*lo-i=dv i from by omega,←hdv,Ann];exact Nat.div_add_mod _ _
theorem Agx(es:List Nat)(n:Nat)(hn:n≤6000)(h:Sw es n)(X:List UInt8):F8(Ah(Bi es n)++X)es.length n∧(Ah(Bi es n)++X).drop(szB(An es.length n))=X∧
  ∀i,i<es.length→Ff(Al((Ah(Bi es n)++X).take(szB(An es.length n))))es.length(C1 es.length n)i=es.getD i 0:=by
 have hl:=Sv es n hn;have hz:(Ah(Bi es n)).length=szB(An es.length n):=by rw[Vg,hl]
 have ht:(Ah(Bi es n)++X).take(szB(An es.length n))=Ah(Bi es n):=by rw[←hz,Aof]
 have hf:Al(Ah(Bi es n))=fun p=>(Bi es n).getD p false:=by funext p;exact Oi _ p
 have key:=Ae4 es n hn h;simp only at key;rw[←hf]at key;have hfrom: ∀i,i≤es.length→Ex(Al(Ah(Bi es n)))es.length(C1 es.length n)i=if i=0 then 0 else es.getD(i-1)0:=fun i hi=>by
  unfold Ex;split
  ·rfl
  ·exact key.2(i-1)(by omega)
 refine⟨⟨by rw[Ald];omega,?_⟩,by rw[←hz,List.drop_left],fun i hi=>by rw[ht];exact key.2 i hi⟩;rw[ht];refine⟨key.1,fun i hi=>?_,?_⟩
 ·rw[hfrom i(by omega),key.2 i hi];split
  ·exact Alk _
  ·exact h.asc(i-1)i(by omega)hi
 ·rw[hfrom _(Alc _)];exact h.last
end Hm
namespace Hm
noncomputable def ltB(a b:List UInt8):Bool:= @decide(Dg a b)(Classical.propDecidable _)
theorem Qh{a b:List UInt8}(h:Dg a b):ltB a b=true:=by unfold ltB;exact @decide_eq_true _(Classical.propDecidable _)h
theorem Mz{a b:List UInt8}(h: ¬Dg a b):ltB a b=false:=by unfold ltB;exact @decide_eq_false _(Classical.propDecidable _)h
theorem Aj3(a b:UInt8)(l m:List UInt8):ltB(a::l)(b::m)=(decide(a.toNat<b.toNat)||((a==b)&&ltB l m)):=by
 by_cases h:Dg(a::l)(b::m)
 ·rw[Qh h];rcases h with h|⟨h1,h2⟩
  ·rw[decide_eq_true h];rfl
  ·rw[h1,Qh h2];simp
 ·rw[Mz h];have h1: ¬a.toNat<b.toNat:=fun x=>h(.inl x);rw[decide_eq_false h1,Bool.false_or]
  by_cases e:a=b
  ·have h2: ¬Dg l m:=fun x=>h(.inr⟨e,x⟩);rw[Mz h2,Bool.and_false]
  ·rw[show(a==b)=false from by rw[beq_eq_false_iff_ne];exact e];rfl
theorem Sx{t:List UInt8}{ps:List Nat}(h:Du t ps)(g:Nat→Bool)(i:Nat)(hi:i<ps.length):ps.countP(fun p=>g p&&ltB(t.drop p)(t.drop ps[i]))=(ps.take i).countP g:=by
 have e:ps=ps.take i++ps[i]::ps.drop(i+1):=by rw[←Alt hi,Amg]
 have hp:=h.ord;rw[e]at hp;obtain⟨_,h2,h3⟩:=List.pairwise_append.1 hp;have h4:=(An5.1 h2).1;have key:(ps.take i++ps[i]::ps.drop(i+1)).countP(fun p=>g p&&ltB(t.drop p)(t.drop ps[i]))=(ps.take i).countP g:=by
  rw[Am0,Amo];have z1:(ps.drop(i+1)).countP(fun p=>g p&&ltB(t.drop p)(t.drop ps[i]))=0:=by
   rw[List.countP_eq_zero];intro p hpm hx;have hl:=h4 p hpm;rw[Mz(fun x=>Jy _(Mh hl x)),Bool.and_false]at hx;cases hx
  have z2:(g ps[i]&&ltB(t.drop ps[i])(t.drop ps[i]))=false:=by rw[Mz(Jy _),Bool.and_false]
  have z3:(ps.take i).countP(fun p=>g p&&ltB(t.drop p)(t.drop ps[i]))=(ps.take i).countP g:=by
   refine List.countP_congr fun p hpm=>?_;rw[Qh(h3 p hpm _(Ali ..)),Bool.and_true]
  rw[z1,z2,z3];simp
 rw[←e]at key;exact key
theorem Sy{t:List UInt8}{ps:List Nat}(h:Du t ps)(i:Nat)(hi:i<ps.length):ps.countP(fun p=>ltB(t.drop p)(t.drop ps[i]))=i:=by
 have:=Sx h(fun _=>true)i hi;simp only[Bool.true_and]at this;rw[this,List.countP_true,Alg];omega
theorem Pt(t:List UInt8):(List.range t.length).map(fun p=>t.getD p 0)=t:=by
 apply Al1(by simp);intro i h1 h2;rw[Aml,Anv,Ak7,Ak8 h2];rfl
theorem Agy{t:List UInt8}{ps:List Nat}(h:ps.Perm(List.range(t.length+1))):(Ar t ps).Perm t:=by
 have h1:(Ar t ps).Perm(Ar t(List.range(t.length+1))):=(h.filter _).map _;have h2:Ar t(List.range(t.length+1))=t:=by
  unfold Ar;rw[List.range_succ_eq_map,Ami,if_neg(by simp),List.filter_map,List.map_map]
  conv=>rhs;rw[←Pt t]
  rw[List.filter_eq_self.2(fun p _=>by simp)];rfl
 rw[h2]at h1;exact h1
theorem Pu{α:Type}(p q:α→Bool): ∀l:List α,(∀x∈l,¬(p x=true∧q x=true))→l.countP(fun x=>p x||q x)=l.countP p+l.countP q
 |[],_=>rfl
 |x::r,h=>by
  have ih:=Pu p q r(fun y hy=>h y(All _ hy));have hx:=h x(Ali ..);rw[Amo,Amo,Amo,ih];cases e1:p x<;>cases e2:q x<;>simp_all<;>omega
end Hm
namespace Hm
theorem Us(t:List UInt8)(b:UInt8): ∀ps:List Nat,(Ar t ps).count b=ps.countP(fun p=>decide(0<p)&&(t.getD(p-1)0==b))
 |[]=>rfl
 |p::r=>by
  have ih:=Us t b r;unfold Ar at ih⊢;rw[Ami,Amo]
  by_cases h:0<p
  ·rw[decide_eq_true h,if_pos rfl,Amc,List.count_cons,ih,Bool.true_and]
  ·rw[decide_eq_false h,if_neg(by simp),ih];simp
theorem Q6{t:List UInt8}{ps:List Nat}(h:ps.Perm(List.range(t.length+1)))(i:Nat)(hi:i<ps.length):(Ar t ps).take(Co(Bq ps)i)=Ar t(ps.take i):=by
 have e:Ar t ps=Ar t(ps.take i)++Ar t(ps.drop i):=by
  unfold Ar;rw[←Amp,←Amu,Amg]
 have hl:(Ar t(ps.take i)).length=Co(Bq ps)i:=by
  unfold Ar;rw[Alu,←An1];have hnd:ps.Nodup:=h.symm.nodup List.nodup_range;have key: ∀k,k≤ps.length→(ps.take k).countP(fun p=>decide(0<p))=Co(Bq ps)k:=by
   intro k;induction k with
   |zero=>intro _;simp[Co]
   |succ k ih=>
    intro hk;have hr:=Og h k(by omega);rw[Ale(by omega),Am0,ih(by omega),Amo,List.countP_nil]
    by_cases c:ps[k]=0
    ·have hk0:=hr.1 c;have a1:Co(Bq ps)k=k:=if_neg(by omega);have a2:Co(Bq ps)(k+1)=k+1-1:=if_pos(by omega);rw[decide_eq_false(by omega),a1,a2];rfl
    ·have c2:k≠Bq ps:=fun x=>c(hr.2 x);rw[decide_eq_true(by omega)];rcases Nat.lt_or_gt_of_ne c2 with c3|c3
     ·have a1:Co(Bq ps)k=k:=if_neg(by omega);have a2:Co(Bq ps)(k+1)=k+1:=if_neg(by omega);rw[a1,a2];rfl
     ·have a1:Co(Bq ps)k=k-1:=if_pos(by omega);have a2:Co(Bq ps)(k+1)=k+1-1:=if_pos(by omega);rw[a1,a2,if_pos rfl];omega
  exact key i(by omega)
 rw[e,←hl,Aof]
theorem Zh{t:List UInt8}{ps ws:List Nat}(h:Du t ps)(hw:Gl ws(Ar t ps))(i j q:Nat)(hi:i<ps.length)(hj:j<ps.length)(e1:ps[i]=q+1)(e2:ps[j]=q):Dq(Ar t ps)ws(Bq ps)i=(t.getD q 0,j):=by
 have hpl:ps.length=t.length+1:=by have:=h.perm.length_eq;simpa using this
 have hne:i≠Bq ps:=fun x=>by have:=(Og h.perm i hi).2 x;omega
 have hq:q<t.length:=by
  have:=List.mem_range.1(h.perm.subset(Alh hi));omega
 have hbyte:(Ar t ps).getD(Co(Bq ps)i)0=t.getD q 0:=by
  have ht:=Q6 h.perm i hi;have e:Ar t ps=Ar t(ps.take i)++t.getD q 0::Ar t(ps.drop(i+1)):=by
   conv=>lhs;rw[←Amg i ps,Alt hi]
   unfold Ar;rw[Amu,Amp,Ami,e1,decide_eq_true(by omega:0<q+1),if_pos rfl,Amc,show q+1-1=q from by omega]
  have hl:=congrArg List.length ht;rw[Alg]at hl;have hlen:=F9 h.perm;have hroot:=(Kj h.perm).2;have hix:=Md hroot(show i≤t.length by omega)hne;have hl2:(Ar t(ps.take i)).length=Co(Bq ps)i:=by omega
  rw[e,←hl2,Ak7,Alm(Alc _),Ama];rfl
 unfold Dq;rw[if_neg hne,hbyte];obtain⟨b,hb⟩: ∃b,b=t.getD q 0:=⟨_,rfl⟩;rw[←hb];congr 1;have hdq:t.drop q=b::t.drop(q+1):=by
  rw[Alt hq,hb,Ak7,Ak8 hq];rfl
 rw[Q6 h.perm i hi,Us,hw.first _(by have:=b.toNat_lt;omega),(Agy h.perm).countP_eq];have hj1:=Sy h j hj;rw[e2]at hj1;rw[h.perm.countP_eq,Anb,Am0,Amo,List.countP_nil,Amy,hdq,Qh(show Dg [](b::t.drop(q+1))from trivial)]at hj1;have hA:(List.range t.length).countP(fun p=>ltB(t.drop p)(b::t.drop(q+1)))=(List.range t.length).countP(fun p=>decide((t.getD p 0).toNat<b.toNat))+(List.range t.length).countP(fun p=>(t.getD p 0==b)&&ltB(t.drop(p+1))(t.drop(q+1))):=by
  rw[←Pu _ _ _(fun p _ hx=>by
   obtain⟨x1,x2⟩:=hx;have x3:=of_decide_eq_true x1;have x4:=(Bool.and_eq_true _ _▸x2:_∧_).1;rw[eq_of_beq x4]at x3;omega)]
  refine List.countP_congr fun p hp=>?_;have hp':=List.mem_range.1 hp;have hdp:t.drop p=t.getD p 0::t.drop(p+1):=by
   rw[Alt hp',Ak7,Ak8 hp'];rfl
  rw[hdp,Aj3]
 have hB:(List.range t.length).countP(fun p=>decide((t.getD p 0).toNat<b.toNat))=t.countP(fun x=>decide(x.toNat<b.toNat)):=by
  conv=>rhs;rw[←Pt t]
  rw[List.countP_map];rfl
 have hC:(List.range t.length).countP(fun p=>(t.getD p 0==b)&&ltB(t.drop(p+1))(t.drop(q+1)))=(ps.take i).countP(fun p=>decide(0<p)&&(t.getD(p-1)0==b)):=by
  have hs:=Sx h(fun p=>decide(0<p)&&(t.getD(p-1)0==b))i hi;rw[e1,h.perm.countP_eq,List.range_succ_eq_map,Amo,List.countP_map]at hs;rw[←hs];simp;rfl
 rw[hA,hB,hC,if_pos rfl]at hj1;omega
end Hm
namespace Hm
theorem Acv{t:List UInt8}{ps:List Nat}(h:Du t ps)(q:Nat)(hq:q≤t.length): ∃j,∃hj:j<ps.length,ps[j]=q:=by
 have hm:q∈ps:=h.perm.symm.subset(List.mem_range.2(by omega));exact Al7 hm
theorem Zi{t:List UInt8}{ps:List Nat}(h:Du t ps)(hj:0<ps.length):ps[0]=t.length:=by
 obtain⟨j,hj2,e⟩:=Acv h t.length(Alc _);have hx:=Sy h j hj2;rw[e,Amy]at hx;have hz:ps.countP(fun p=>ltB(t.drop p) [])=0:=by
  rw[List.countP_eq_zero];intro p _ hp;rw[Mz(Rv _)]at hp;cases hp
 rw[hz]at hx;subst hx;exact e
theorem Ut{t:List UInt8}{ps ws:List Nat}(h:Du t ps)(hw:Gl ws(Ar t ps)): ∀k,k≤t.length→(Cp(Dq(Ar t ps)ws(Bq ps))0 k).1=t.drop(t.length-k)∧ ∃hj:(Cp(Dq(Ar t ps)ws(Bq ps))0 k).2<ps.length,ps[(Cp(Dq(Ar t ps)ws(Bq ps))0 k).2]=t.length-k
 |0,_=>by
  have hpl:ps.length=t.length+1:=by have:=h.perm.length_eq;simpa using this
  refine⟨by rw[An4,Amy];rfl,by show 0<_;omega,?_⟩;exact Zi h(by omega)
 |k+1,hk=>by
  obtain⟨h1,hj,h2⟩:=Ut h hw k(by omega);obtain⟨j,hj2,e⟩:=Acv h(t.length-(k+1))(by omega);have hl:=Zh h hw _ j(t.length-(k+1))hj hj2(by rw[h2];omega)e;have e1:Cp(Dq(Ar t ps)ws(Bq ps))0(k+1)=(t.getD(t.length-(k+1))0::(Cp(Dq(Ar t ps)ws(Bq ps))0 k).1,j):=by
   rw[Cp,hl]
  rw[e1];refine⟨?_,hj2,e⟩;show _::_=_;rw[h1,Alt(show t.length-(k+1)<t.length by omega),Ak7,Ak8(show t.length-(k+1)<t.length by omega),show t.length-(k+1)+1=t.length-k from by omega];rfl
theorem Agz{t:List UInt8}{ps ws:List Nat}(h:Du t ps)(hw:Gl ws(Ar t ps)):(Cp(Dq(Ar t ps)ws(Bq ps))0 t.length).1=t:=by
 rw[(Ut h hw t.length(Alc _)).1,Ama];rfl
end Hm
namespace Hm
theorem Ii(fs:List(ByteArray×ByteArray))(i:Nat)(hi:i<fs.length):(A1 fs).getD i 0=(Ae(fs.take(i+1))).length:=by
 unfold A1;rw[Ak7,Aln,Ame hi];rfl
theorem Yh(fs:List(ByteArray×ByteArray)){i j:Nat}(h:i≤j):(Ae(fs.take i)).length≤(Ae(fs.take j)).length:=by
 have:=Mu(fs.take j)i;rwa [List.take_take,Am3 h]at this
theorem Sz(fs:List(ByteArray×ByteArray)):Sw(A1 fs)(Ae fs).length:=by
 have hl:=Dv fs;refine⟨fun i j hij hj=>?_,fun i hi=>?_,?_⟩
 ·rw[Ii fs i(by omega),Ii fs j(by omega)];exact Yh fs(by omega)
 ·rw[Ii fs i(by omega)];exact Mu fs _
 ·rw[hl]
  by_cases c:fs.length=0
  ·rw[if_pos c,Al5 c];rfl
  ·rw[if_neg c,Ii fs _(by omega),show fs.length-1+1=fs.length from by omega,Alx]
theorem Zj(fs:List(ByteArray×ByteArray))(i:Nat)(hi:i<fs.length):Jj(Ae fs)(Ae(fs.take i)).length(Ae(fs.take(i+1))).length=fs[i].2.data.toList:=by
 have e:Ae fs=Ae(fs.take i)++(fs[i].2.data.toList++Ae(fs.drop(i+1))):=by
  conv=>lhs;rw[←Amg i fs,Alt hi]
  unfold Ae;rw[Amq,Al2]
 have hl:(Ae(fs.take(i+1))).length=(Ae(fs.take i)).length+fs[i].2.data.toList.length:=by rw[Ug fs i hi,Ald]
 unfold Jj;rw[hl,Ank,e,List.drop_left,Aof]
theorem Wy{L:List Nat}(h:Bn L): ∀x∈L,x≤255:=fun x hx=>by
 have h1:=Tb L x hx;have h2:=Wj h;omega
theorem Zk{fs:List(ByteArray×ByteArray)}{s:List UInt8}(hck:Bo fs=0)(hA:Cq fs s): ∃l6 L l8 st,Fh s l6 L l8 st∧Bb s l6 l8 st=fs:=by
 obtain⟨hm,h32,hn⟩:=K8 hck;obtain⟨ps,N,hps,_,hE,es⟩:=hA.is;have hC:=Hs(Ae fs)hn;have hmem: ∀b∈Ar(Ae fs)ps,b∈Af(lens(Ae fs)):=fun b hb=>(N0 _ hn b).2(Mv hps.perm b hb);have hroot:=(Kj hps.perm).2;have hcl:=F9 hps.perm;obtain⟨t,ht⟩: ∃t,t=Ae fs:=⟨_,rfl⟩;obtain⟨tr,htr⟩: ∃tr,tr=Dw(lens(Ae fs))N(Ar(Ae fs)ps):=⟨_,rfl⟩;obtain⟨SB,hSB⟩: ∃x,x=Ak(crc(D3 fs ps tr))4:=⟨_,rfl⟩;have hSl:SB.length=4:=by rw[hSB,Cz]
 obtain⟨X9,hX9⟩: ∃x,x=Ah(Dd ps)++SB:=⟨_,rfl⟩;obtain⟨X8,hX8⟩: ∃x,x=Ah tr++X9:=⟨_,rfl⟩;obtain⟨X7,hX7⟩: ∃x,x=Ak(Ai(lens(Ae fs))).length 2++(Bs(lens(Ae fs))(Ai(lens(Ae fs)))++X8):=⟨_,rfl⟩;obtain⟨X6,hX6⟩: ∃x,x=Ah(Bi(A1 fs)(Ae fs).length)++X7:=⟨_,rfl⟩;have hs:s=[72,79,65,82,68,49,UInt8.ofNat fs.length]++(Ak(Ae fs).length 2++(Ak(Bq ps)2++(Aq fs++X6))):=by
  rw[es,←htr,hX6,hX7,hX8,hX9,hSB];unfold Kv D3;simp only[Alo]
 have hbody:s=D3 fs ps tr++SB:=by rw[es,←htr,hSB];rfl
 have hhead:=Ajz fs(Ae fs).length(Bq ps)X6(by omega)(by omega)hroot(fun f hf=>(h32 f hf).1);simp only at hhead;rw[←hs]at hhead;obtain⟨eF,eN,eR,eM⟩:=hhead;have hel:=Dv fs;obtain⟨q1,q2,q3⟩:=Agx(A1 fs)(Ae fs).length hn(Sz fs)X7;rw[←hX6,hel]at q1 q2 q3;obtain⟨st,t1,t2,t3⟩:=Agw hC hE hmem X9;rw[←htr,←hX8,hcl]at t1;rw[←htr]at t2;rw[←htr,←hX8]at t3;obtain⟨s1,s2⟩:=Agv hps.perm SB;rw[←hX9]at s1 s2;have hd8:X8.drop(szB st.len)=X9:=by rw[t2,hX8,List.drop_left]
 have hP:Fh s X6(lens(Ae fs))X8 st:=by
  refine⟨by rw[eM],by rw[eF,eN];exact q1,?_,by rw[eN];exact t1,by rw[eN,hd8];exact s1,?_⟩
  ·rw[eF,eN,q2,hX7];exact Akt _ _ hC.len(Wy hC)
  ·rw[eN,hd8,s2];have hlen:s.length-4=(D3 fs ps tr).length:=by rw[hbody,Ald,hSl];omega
   have htake:s.take(s.length-4)=D3 fs ps tr:=by rw[hlen,hbody,Aof]
   unfold N9;rw[htake,show Bx(some SB)4=(crc(D3 fs ps tr),some [])from by
    have:=Mf(crc(D3 fs ps tr))4 [](by have:=Vm(D3 fs ps tr);omega);rwa [Amk,←hSB]at this]
   exact if_pos⟨rfl,rfl⟩
 refine⟨X6,lens(Ae fs),X8,st,hP,?_⟩;have hcol:Te X8(Ae fs).length st=Ar(Ae fs)ps:=by
  obtain⟨c1,c2,_⟩:=Vc t1;exact c2.unique t3(by rw[c1,hcl])
 have hwe:=(Vc t1).2.2;rw[hcol]at hwe;have htext:Fr s X8 st=Ae fs:=by
  unfold Fr;rw[eN,eR,hcol];exact Agz hps hwe
 unfold Bb;rw[eF];apply Al1(by simp);intro i h1 h2;rw[Aml,Anv];unfold Ah2;have hi:i<fs.length:=h2;have hend: ∀j,j<fs.length→Ik s X6 j=(Ae(fs.take(j+1))).length:=fun j hj=>by
  unfold Ik;rw[eF,eN,q3 j(by omega),Ii fs j hj]
 have hfrom:Is s X6 i=(Ae(fs.take i)).length:=by
  show(if i=0 then 0 else _)=_
  by_cases c:i=0
  ·rw[if_pos c,c];rfl
  ·rw[if_neg c];have:=hend(i-1)(by omega);rw[show i-1+1=i from by omega]at this;exact this
 rw[htext,hend i hi,hfrom,Zj fs i hi,eM];show(((fs.map(·.1)).getD i⟨#[]⟩),_)=_;rw[Ak7,Aln,Ak8 hi];rfl
end Hm
namespace Hm
theorem M9{s P B:List UInt8}{a:Nat}(h:s.drop a=P++B):s.drop(a+P.length)=B:=by
 rw[←List.drop_drop,h,List.drop_left]
theorem Vh{s X:List UInt8}{a:Nat}(h:s.drop a=X)(ha:a≤s.length):a+X.length=s.length:=by
 rw[←h,Aly];omega
theorem J6{s B:List UInt8}{a x k:Nat}{bad:Bool}(h:s.drop a=Ak x k++B)(ha:a≤s.length)(hx:x<256^k):Ce s(a,bad)k=(x,(a+k,bad))∧s.drop(a+k)=B∧a+k≤s.length:=by
 have hl:=Vh h ha;rw[Ald,Cz]at hl;have h2:=M9 h;rw[Cz]at h2;refine⟨?_,h2,by omega⟩;unfold Ce;rw[if_neg(by show¬_<a+k;omega)];show(C3((s.drop a).take k),_)=_;rw[h,List.take_left'(Cz x k),Q5 x k hx]
theorem Wz{s P B:List UInt8}{a k:Nat}(h:s.drop a=P++B)(ha:a≤s.length)(hk:P.length=k):D8 s(a,false)k=(P,(a+k,false))∧s.drop(a+k)=B∧a+k≤s.length:=by
 have hl:=Vh h ha;rw[Ald]at hl;have h2:=M9 h;rw[hk]at h2 hl;refine⟨?_,h2,by omega⟩;unfold D8;rw[if_neg(by show¬(false=true∨_<a+k);simp;omega)];show((s.drop a).take k,_)=_;rw[h,List.take_left' hk]
theorem Xa{s B:List UInt8}{bits:List Bool}{a:Nat}(h:s.drop a=Ah bits++B)(ha:a≤s.length)(m:Nat)(hm:m≤bits.length):Cu s(a,false)m=(bits.take m,(a+(m+7)/8,false)):=by
 have hz:=A4 bits;have hle:(m+7)/8≤(Ah bits).length:=by rw[hz];omega
 have e:s.drop a=(Ah bits).take((m+7)/8)++((Ah bits).drop((m+7)/8)++B):=by
  rw[←Alo,Amg,h]
 have hp:=(Wz(k:=(m+7)/8)e ha(by rw[Alg];omega)).1;unfold Cu;rw[hp,if_neg(by simp)];simp only[Prod.mk.injEq,and_true];apply Al1(by simp;omega);intro i h1 h2;have hi:i<m:=by simpa using h1
 rw[Aml,Anv,K6 _ _ _(by omega),Oi,List.getElem_take,Ak7,Ak8(by omega)];rfl
def Cn(s:List UInt8)(st:RS):Nat→List(List UInt8)×RS
 |0=>([],st)
 |i+1=>((Cn s st i).1++[(D8 s(Ce s(Cn s st i).2 1).2(Ce s(Cn s st i).2 1).1).1],(D8 s(Ce s(Cn s st i).2 1).2(Ce s(Cn s st i).2 1).1).2)
theorem Zl(s:List UInt8)(st:RS)(h:st.1≤s.length): ∀i,(Cn s st i).2.1≤s.length
 |0=>h
 |i+1=>Uz s _ _(L2 s _ 1(Zl s st h i))
theorem Q7(s:List UInt8)(st:RS): ∀i,(Cn s st i).1.length=i
 |0=>rfl
 |i+1=>by rw[Cn,Ald,Q7 s st i];rfl
theorem Uu{s B:List UInt8}{fs:List(ByteArray×ByteArray)}{a:Nat}(h:s.drop a=Aq fs++B)(ha:a≤s.length)(hs: ∀f∈fs,f.1.size≤32): ∀k,k≤fs.length→ ∃a',Cn s(a,false)k=((fs.take k).map(fun f=>f.1.data.toList),(a',false))∧s.drop a'=Aq(fs.drop k)++B∧a'≤s.length
 |0,_=>⟨a,by simp[Cn],by rw[List.drop_zero];exact h,ha⟩
 |k+1,hk=>by
  obtain⟨a1,e1,d1,l1⟩:=Uu h ha hs k(by omega);have hkl:k<fs.length:=by omega
  have hsz:=hs fs[k](Alh hkl);have e:Aq(fs.drop k)=Ak fs[k].1.size 1++(fs[k].1.data.toList++Aq(fs.drop(k+1))):=by
   rw[Alt hkl,Jg];unfold Aq;rw[Al2];simp
  rw[e,Alo]at d1;obtain⟨e2,d2,l2⟩:=J6(bad:=false)d1 l1(by omega);rw[Alo]at d2;obtain⟨e3,d3,l3⟩:=Wz d2 l2(show _=fs[k].1.size by simp);refine⟨_,?_,d3,l3⟩;rw[Cn,e1,e2,e3,Ale hkl,Amp];rfl
theorem Xb{s B:List UInt8}{L:List Nat}{l:List UInt8}{a:Nat}(hL: ∀x∈L,x≤255)(h:s.drop a=Bs L l++B)(ha:a≤s.length): ∀k,k≤l.length→ ∃a',Cv s(a,false)k=(Hz L(l.take k),(a',false))∧s.drop a'=Bs L(l.drop k)++B∧a'≤s.length
 |0,_=>by
  have:Hz L []=List.replicate 256 0:=by
   apply Al1(by rw[Hk,Alf]);intro j h1 h2;unfold Hz;simp only[Aml,List.getElem_replicate,List.not_mem_nil,if_false]
  exact⟨a,by rw[Cv,Aoe,this],by rw[List.drop_zero];exact h,ha⟩
 |k+1,hk=>by
  obtain⟨a1,e1,d1,l1⟩:=Xb hL h ha k(by omega);have hkl:k<l.length:=by omega
  have hx:L.getD l[k].toNat 0≤255:=by
   rw[Ak7];cases h:L[l[k].toNat]? with
   |none=>simp
   |some y=>exact hL y(List.mem_of_getElem? h)
  have e:Bs L(l.drop k)=Ak l[k].toNat 1++(Ak(L.getD l[k].toNat 0)1++Bs L(l.drop(k+1))):=by
   rw[Alt hkl,Jg,Jg,UInt8.ofNat_toNat];rfl
  rw[e,Alo]at d1;obtain⟨e2,d2,l2⟩:=J6(bad:=false)d1 l1(by have:=l[k].toNat_lt;omega);rw[Alo]at d2;obtain⟨e3,d3,l3⟩:=J6(bad:=false)d2 l2(by omega);refine⟨_,?_,d3,l3⟩;rw[Cv,e1,if_neg(by simp)];simp only;rw[e2];simp only;rw[e3,Ale hkl,←Uq]
theorem Air{s B:List UInt8}{L:List Nat}{a:Nat}(hL:L.length=256)(hx: ∀x∈L,x≤255)(h:s.drop a=Ak(Ai L).length 2++(Bs L(Ai L)++B))(ha:a≤s.length): ∃a',Km s(a,false)=(L,(a',false))∧s.drop a'=B∧a'≤s.length:=by
 have hc:(Ai L).length≤256:=E4 L 256;obtain⟨e1,d1,l1⟩:=J6(bad:=false)h ha(by omega);obtain⟨a',e2,d2,l2⟩:=Xb hx d1 l1 _(Alc _);rw[Amy]at d2;refine⟨a',?_,d2,l2⟩;unfold Km;rw[e1];show Cv s(a+2,false)(Ai L).length=_;rw[e2,Alx,Su L hL]
theorem Acw(bs:List Bool): ∀l a,a+l≤bs.length→Hd((bs.drop a).take l)=Gp(fun p=>bs.getD p false)a l
 |0,a,_=>by simp[Hd,Gp]
 |l+1,a,h=>by
  have ih:=Acw bs l a(by omega);rw[Gp,←ih,Ale(by rw[Aly];omega),List.getElem_drop];have key: ∀(x:List Bool)(b:Bool),Hd(x++[b])=Hd x+b.toNat*2^x.length:=by
   intro x b;induction x with
   |nil=>simp[Hd]
   |cons y r ih=>rw[Ano,Hd,ih,Hd,Alz,Amd,Nat.mul_add,←Ams,Ann(2^r.length)2,Nat.mul_left_comm]
  rw[key,show((bs.drop a).take l).length=l from by rw[Alg,Aly];omega,Ak7,Ak8(show a+l<bs.length by omega)];rfl
theorem Ae5(bs:List Bool)(es:List Nat)(l d:Nat)(f:Nat→Bool)(hf:f=fun p=>bs.getD p false)(hlen:bs.length=es.length*l+d)(hr:rk f(es.length*l+d)=rk f(es.length*l)+es.length)(he: ∀i,i<es.length→Ff f es.length l i=es.getD i 0): ∀k,k≤d→E1 bs es.length l k=es.take(rk f(es.length*l+k)-rk f(es.length*l))
 |0,_=>by rw[Anr,Ama];rfl
 |k+1,hk=>by
  have ih:=Ae5 bs es l d f hf hlen hr he k(by omega);have hm1:=Ka f(show es.length*l≤es.length*l+k by omega);have hm2:=Ka f(show es.length*l+k+1≤es.length*l+d by omega);have hs:rk f(es.length*l+k+1)=rk f(es.length*l+k)+(f(es.length*l+k)).toNat:=rfl;obtain⟨c,hc⟩: ∃c,c=rk f(es.length*l+k)-rk f(es.length*l):=⟨_,rfl⟩;have hcl:c≤es.length:=by omega
  have htl:(es.take c).length=c:=by rw[Alg];omega
  have hfb:bs.getD(es.length*l+k)false=f(es.length*l+k):=by rw[hf]
  rw[←Ams,E1,ih,hs,←hc,htl,hfb];cases hb:f(es.length*l+k)with
  |false=>
   rw[if_neg(by simp),show rk f(es.length*l+k)+false.toNat-rk f(es.length*l)=c from by show _+0-_=_;omega]
  |true=>
   rw[hb]at hs;have hcl2:c<es.length:=by
    have:rk f(es.length*l+k+1)=rk f(es.length*l+k)+1:=hs;omega
   rw[if_pos⟨rfl,hcl2⟩,show rk f(es.length*l+k)+true.toNat-rk f(es.length*l)=c+1 from by show _+1-_=_;omega,Ale hcl2];congr 2;have h1:=he c hcl2;have hpos:Vu f(rk f(es.length*l)+c)=es.length*l+k:=U4⟨hb,by omega⟩;unfold Ff at h1;rw[hpos]at h1;unfold Aa8 at h1;have hmul:(c+1)*l≤es.length*l:=Amx _ hcl2;rw[Am5]at hmul;rw[Acw bs l(c*l)(by omega),←hf];rw[show es.length*l+k-es.length*l-c=k-c from by omega]at h1;rw[h1,Ak7,Ak8 hcl2];rfl
theorem Ag0{s B:List UInt8}{es:List Nat}{n a:Nat}(hn:n≤6000)(hu:Sw es n)(h:s.drop a=Ah(Bi es n)++B)(ha:a≤s.length): ∃a',I1 s(a,false)es.length n=(es,(a',false))∧s.drop a'=B∧a'≤s.length:=by
 have hl:=Sv es n hn;have hlw:=Rs es.length n hn;have hel:An es.length n=es.length*B4 es.length n+(es.length+n/2^B4 es.length n+1):=by unfold An;rw[hlw]
 have hN:es.length*B4 es.length n+es.length+n/2^B4 es.length n+1=(Bi es n).length:=by rw[hl,hel];omega
 have hb:=Xa h ha _(Alc _);rw[Alx]at hb;have hp:=A4(Bi es n);have h2:=M9 h;rw[hp]at h2;have h3:=Vh h ha;rw[Ald,hp]at h3;obtain⟨k1,k2⟩:=Ae4 es n hn hu;rw[hlw,hel]at k1;rw[hlw]at k2;refine⟨_,?_,h2,by omega⟩;unfold I1;rw[hN,hb,if_neg(by simp)];simp only[Prod.mk.injEq,and_true];rw[Ae5(Bi es n)es(B4 es.length n)(es.length+n/2^B4 es.length n+1)_ rfl(by rw[hl,hel])k1 k2 _(Alc _),k1];rw[Ank,Alx]
theorem Zm(col:List UInt8)(c:UInt8)(i:Nat): ∀j,j≤col.length→Ft col c i j=(col.take j).countP(fun x=>decide(x.toNat<c.toNat))+(col.take(min i j)).count c
 |0,_=>by simp[Ft,rk]
 |j+1,hj=>by
  have ih:=Zm col c i j(by omega);unfold Ft at ih⊢;have hg:col.getD j 0=col[j]:=by rw[Ak7,Ak8(show j<col.length by omega)];rfl
  rw[rk,ih,Ale(show j<col.length by omega),Am0,Amo,List.countP_nil];unfold Ky;rw[hg];have hlt:decide(col[j]<c)=decide(col[j].toNat<c.toNat):=by rw[decide_eq_decide];exact UInt8.lt_iff_toNat_lt
  rw[hlt]
  by_cases c1:j<i
  ·rw[Nat.min_eq_right(show j≤i by omega),Nat.min_eq_right(show j+1≤i by omega),Ale(show j<col.length by omega),List.count_append,List.count_cons,List.count_nil,decide_eq_true c1,Bool.and_true]
   by_cases c2:col[j]=c
   ·rw[c2,decide_eq_false(by omega),beq_self_eq_true];simp;omega
   ·rw[beq_eq_false_iff_ne.2 c2];cases decide(col[j].toNat<c.toNat)<;>simp<;>omega
  ·rw[Am3(show i≤j by omega),Am3(show i≤j+1 by omega),decide_eq_false c1,Bool.and_false,Bool.or_false];cases decide(col[j].toNat<c.toNat)<;>simp<;>omega
theorem Aai{col:List UInt8}{ws:List Nat}(hw:Gl ws col){root row:Nat}(h1:root≤col.length)(h2:row≤col.length)(hne:row≠root):St col root row=Dq col ws root row:=by
 have hi:=Md h1 h2 hne;unfold St Dq;rw[if_neg hne];simp only[Prod.mk.injEq,true_and];rw[Zm col _ _ _(Alc _),Alx,Am3(by omega),hw.first _(by have:=(col.getD(Co root row)0).toNat_lt;omega)];omega
theorem Aeh(col:List UInt8): ∃ws,Gl ws col:=by
 refine⟨(List.range 256).map fun i=>col.count(UInt8.ofNat i),by simp,fun v=>?_⟩;rw[Ak7,Aln,Ame v.toNat_lt];show col.count(UInt8.ofNat v.toNat)=_;rw[UInt8.ofNat_toNat]
theorem Zn{t:List UInt8}{ps:List Nat}(h:Du t ps): ∀k,k≤t.length→ ∃j,∃hj:j<ps.length,ps[j]=t.length-k∧G6(Ar t ps)(Bq ps)k=some(t.drop(t.length-k),j)
 |0,_=>by
  have hpl:ps.length=t.length+1:=by have:=h.perm.length_eq;simpa using this
  exact⟨0,by omega,Zi h(by omega),by rw[G6,An4,Amy]⟩
 |k+1,hk=>by
  obtain⟨i,hi,e1,e2⟩:=Zn h k(by omega);obtain⟨j,hj,e3⟩:=Acv h(t.length-(k+1))(by omega);obtain⟨ws,hw⟩:=Aeh(Ar t ps);have hpl:ps.length=t.length+1:=by have:=h.perm.length_eq;simpa using this
  have hcl:=F9 h.perm;have hroot:=(Kj h.perm).2;have hne:i≠Bq ps:=fun x=>by have:=(Og h.perm i hi).2 x;omega
  refine⟨j,hj,e3,?_⟩;rw[G6,e2];simp only;rw[if_neg hne,Aai hw(by omega)(by omega)hne,Zh h hw i j(t.length-(k+1))hi hj(by omega)e3];rw[Alt(show t.length-(k+1)<t.length by omega),Ak7,Ak8(show t.length-(k+1)<t.length by omega),show t.length-(k+1)+1=t.length-k from by omega];rfl
theorem Aj4{t:List UInt8}{ps:List Nat}(h:Du t ps):G6(Ar t ps)(Bq ps)(Ar t ps).length=some(t,Bq ps):=by
 obtain⟨j,hj,e1,e2⟩:=Zn h t.length(Alc _);rw[Ama]at e1 e2;rw[F9 h.perm,e2,List.drop_zero,(Og h.perm j hj).1 e1]
end Hm
end Go.Proofs.YtegnkfdbmmndaaaGreat
namespace Go.Proofs.YtegnkfdbmmndaaaGreat
open Hm
open Go.RowKit
namespace Hm
end Hm
end Go.Proofs.YtegnkfdbmmndaaaGreat
namespace Go.Proofs.YtegnkfdbmmndaaaGreat
open Hm
namespace Hm
theorem Bn.cd_inj{L:List Nat}(hC:Bn L){b b':UInt8}(hb:b∈Af L)(hb':b'∈Af L)(e:Hb(lnB L)(Bp L)b=Hb(lnB L)(Bp L)b'):b=b':=by
 have hk:=hC.numk;have hl:=congrArg List.length e;unfold Hb at e hl;rw[Bv,Bv]at hl;rw[←hl]at e;have hn:=Rk(hC.num_lt b hb)(by rw[hl];exact hC.num_lt b' hb')e;obtain⟨i,hi,rfl⟩:=Iv hb;obtain⟨j,hj,rfl⟩:=Iv hb';have h1:=hk.num i hi;have h2:=hk.num j hj;rw[hn,hl,h2]at h1;rcases Al4 i j with c|c|c
 ·have:=Rg 32(lnB L)(Af L)c hi;omega
 ·rw[c]
 ·have:=Rg 32(lnB L)(Af L)c hj;omega
theorem Bn.colCd{L:List Nat}(hC:Bn L){o hd:List(List Bool)}{ok:Bool}{col:List UInt8}(h:Ck L o ok)(ho:o.length=256)(hh:Ev(cdL o)hd)(hm: ∀b∈col,b∈Af L):Gd o hd col:=by
 have e:=Oy hC h;have hne: ∀b,cdL o b≠[]↔b∈Af L:=fun b=>by
  rw[hC.mem b,e,←List.length_pos_iff];unfold Hb;rw[Bv]
 refine⟨ho,hh,fun b hb x hx hg=>?_,fun b b' hb hbb=>?_,fun b=>?_,fun b hb=>(hne b).2(hm b hb)⟩
 ·obtain⟨b',h1,h2⟩:=(hh.mem x).1 hx;rw[e]at h1 h2 hg⊢;exact hC.prefixes((hne b).1 hb)h1 h2 hg
 ·have hb':cdL o b'≠[]:=by rw[←hbb];exact hb
  rw[e]at hbb;exact hC.cd_inj((hne b).1 hb)((hne b').1 hb')hbb
 ·rw[e];unfold Hb;rw[Bv];exact hC.le255 b
theorem Xc{fs:List Fl}{s:List UInt8}(hck:Bo fs=0)(hA:Cq fs s):11≤s.length∧s.length≤30000:=by
 obtain⟨hm,h32,hn⟩:=K8 hck;obtain⟨ps,N,hps,_,hE,es⟩:=hA.is;have hC:=Hs(Ae fs)hn;have hcl:=F9 hps.perm;have htr:(Dw(lens(Ae fs))N(Ar(Ae fs)ps)).length≤6000*32:=by
  unfold Dw;rw[Alu];have:=Oh(lnB(lens(Ae fs)))(Bp(lens(Ae fs)))(Am(lnB(lens(Ae fs)))(Af(lens(Ae fs)))(2*N)).1 N 32(fun b=>by
   refine Alr(O0 hE.nodes b _(by rw[hE.len];exact Alc _)(lnB(lens(Ae fs))b)(fun j _ hj=>(of_decide_eq_true hj).1))(hC.short b))(Ar(Ae fs)ps)
  rw[hcl]at this;exact Alr this(Amx _ hn)
 have hsm:=Ki hps.perm;have hbl:Lib.bitLen((Ae fs).length/8)≤10:=Lib.bitLen_le _ 10(by omega)(by omega);have hmul:((Ae fs).length/8+1)*Lib.bitLen((Ae fs).length/8)≤751*10:=Al6(by omega)hbl;have hel:=Lu(A1 fs)(Ae fs).length;have hlw:=Nl(A1 fs).length(Ae fs).length hn;have hq:(Ae fs).length/2^B4(A1 fs).length(Ae fs).length≤(Ae fs).length:=Am4 _ _;have hel2:=Dv fs;have hm2:(A1 fs).length*B4(A1 fs).length(Ae fs).length≤40*12:=Al6(by omega)hlw;have hnb:=Jv fs(fun f hf=>(h32 f hf).1);have hco:(Ai(lens(Ae fs))).length≤256:=E4 _ 256;have hlb:=Jo(lens(Ae fs))(Ai(lens(Ae fs)));rw[es];unfold Kv D3;simp only[Ald,Alz,List.length_nil,Cz,A4];omega
structure Tl(s:List UInt8)(fs:List Fl)(a1 a2 a3 rt:Nat)(cl:List UInt8):Prop where
 len:11≤s.length∧s.length≤30000
 magic:s.take 6=[72,79,65,82,68,49]
 m:Ce s(6,false)1=(fs.length,(7,false))
 n:Ce s(7,false)2=((Ae fs).length,(9,false))
 root:Ce s(9,false)2=(rt,(11,false))
 le:fs.length≤40∧(Ae fs).length≤6000∧rt≤(Ae fs).length
 names:Cn s(11,false)fs.length=(fs.map(fun f=>f.1.data.toList),(a1,false))
 ends:I1 s(a1,false)fs.length(Ae fs).length=(A1 fs,(a2,false))
 lens:Km s(a2,false)=(lens(Ae fs),(a3,false))
 codes: ∀o ok,Ck(Hm.lens(Ae fs))o ok→ok=true
 col: ∀o ok hd,Ck(Hm.lens(Ae fs))o ok→o.length=256→Ev(cdL o)hd→Jl s a3(Ae fs).length hd o=some cl
 back:cl.length=(Ae fs).length∧G6 cl rt cl.length=some(Ae fs,rt)
theorem Ag1{fs:List Fl}{s:List UInt8}(hck:Bo fs=0)(hA:Cq fs s): ∃a1 a2 a3 root col,Tl s fs a1 a2 a3 root col:=by
 have hlen:=Xc hck hA;obtain⟨hm,h32,hn⟩:=K8 hck;obtain⟨ps,N,hps,_,hE,es⟩:=hA.is;have hC:=Hs(Ae fs)hn;have hmem: ∀b∈Ar(Ae fs)ps,b∈Af(lens(Ae fs)):=fun b hb=>(N0 _ hn b).2(Mv hps.perm b hb);have hroot:=(Kj hps.perm).2;have hcl:=F9 hps.perm;obtain⟨tr,htr⟩: ∃tr,tr=Dw(lens(Ae fs))N(Ar(Ae fs)ps):=⟨_,rfl⟩;obtain⟨X9,hX9⟩: ∃x,x=Ah(Dd ps)++Ak(crc(D3 fs ps tr))4:=⟨_,rfl⟩;have hs:s=[72,79,65,82,68,49]++(Ak fs.length 1++(Ak(Ae fs).length 2++(Ak(Bq ps)2++(Aq fs++(Ah(Bi(A1 fs)(Ae fs).length)++(Ak(Ai(lens(Ae fs))).length 2++(Bs(lens(Ae fs))(Ai(lens(Ae fs)))++(Ah tr++X9)))))))):=by
  rw[es,←htr,hX9,Jg];unfold Kv D3;simp only[Alo,Ano,Ans]
 have d0:s.drop 6=Ak fs.length 1++(Ak(Ae fs).length 2++(Ak(Bq ps)2++(Aq fs++(Ah(Bi(A1 fs)(Ae fs).length)++(Ak(Ai(lens(Ae fs))).length 2++(Bs(lens(Ae fs))(Ai(lens(Ae fs)))++(Ah tr++X9))))))):=by
  rw[hs];exact List.drop_left' rfl
 have hmag:s.take 6=[72,79,65,82,68,49]:=by rw[hs];exact List.take_left' rfl
 clear hs;obtain⟨e1,d1,l1⟩:=J6(bad:=false)d0(by omega)(by omega);obtain⟨e2,d2,l2⟩:=J6(bad:=false)d1 l1(by omega);obtain⟨e3,d3,l3⟩:=J6(bad:=false)d2 l2(by omega);obtain⟨a1,e4,d4,l4⟩:=Uu d3 l3(fun f hf=>(h32 f hf).1)fs.length(Alc _);rw[Amy,Alx]at*;obtain⟨a2,e5,d5,l5⟩:=Ag0 hn(Sz fs)d4 l4;rw[Dv]at e5;obtain⟨a3,e6,d6,l6⟩:=Air hC.len(Wy hC)d5 l5;refine⟨a1,a2,a3,Bq ps,Ar(Ae fs)ps,hlen,hmag,e1,e2,e3,⟨hm,hn,hroot⟩,e4,e5,e6,fun o ok h=>(Um hC h).1,fun o ok hd h ho hh=>?_,hcl,Aj4 hps⟩;have H:=hC.colCd h ho hh hmem;have et:Bz(cdL o)hd(Ar(Ae fs)ps)=tr:=by
  have e:=Oy hC h;rw[htr,e];rw[e]at hh;exact(Me hC hE hmem hh).symm
 rw[←hcl];refine H.col_is fun m hm=>?_;rw[et]at hm⊢;exact⟨_,Xa d6 l6 m hm⟩
end Hm
end Go.Proofs.YtegnkfdbmmndaaaGreat
