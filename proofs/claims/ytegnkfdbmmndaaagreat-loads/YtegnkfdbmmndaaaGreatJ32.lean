import Derived.Test.YtegnkfdbmmndaaaGreatJ00
import Derived.Test.YtegnkfdbmmndaaaGreatJ29
import Derived.Test.YtegnkfdbmmndaaaGreatJ31
import Derived.Test.YtegnkfdbmmndaaaGreatJ20
import Derived.Test.YtegnkfdbmmndaaaGreatJ08
import Derived.Deep.Cut
import Derived.Deep.CutRange
import Derived.Test.YtegnkfdbmmndaaaGreatJ22
import Derived.Test.YtegnkfdbmmndaaaGreatJ24
import Derived.Test.YtegnkfdbmmndaaaGreatJ17
import Derived.Test.YtegnkfdbmmndaaaGreatJ23
import Derived.Test.YtegnkfdbmmndaaaGreatJ04

namespace Go.Proofs.YtegnkfdbmmndaaaGreat
open Hm
namespace Hm
theorem Aco(hd:List(List Bool))(i ones C5:Nat)(sz:List Nat)(k:Nat)(hk:k<sz.length): ∀j,(E7 hd i ones C5 sz j).getD k 0=if i<k∧k<i+1+j∧hd.getD k []=hd.getD i []++[true]then ones else if i<k∧k<i+1+j∧hd.getD k []=hd.getD i []++[false]then C5 else sz.getD k 0
 |0=>by
  rw[E7,if_neg(by omega),if_neg(by omega)]
 |j+1=>by
  have ih:=Aco hd i ones C5 sz k hk j;have hl:=Kw hd i ones C5 sz j;have hset: ∀x,((E7 hd i ones C5 sz j).set(i+1+j)x).getD k 0=if i+1+j=k then x else(E7 hd i ones C5 sz j).getD k 0:=fun x=>by
   rw[Ak7,List.getElem?_set,hl]
   by_cases c:i+1+j=k
   ·rw[if_pos c,if_pos c,if_pos(by omega)];rfl
   ·rw[if_neg c,if_neg c,←Ak7]
  have hne: ∀x:List Bool,x++[true]≠x++[false]:=fun x h=>by simp at h
  rw[E7]
  by_cases c:i+1+j=k
  ·subst c;have hI:(E7 hd i ones C5 sz j).getD(i+1+j)0=sz.getD(i+1+j)0:=by rw[ih,if_neg(by omega),if_neg(by omega)]
   by_cases c1:hd.getD(i+1+j) []=hd.getD i []++[true]
   ·rw[if_pos c1,hset,if_pos rfl,if_pos⟨by omega,by omega,c1⟩]
   ·have n1: ¬(i<i+1+j∧i+1+j<i+1+(j+1)∧hd.getD(i+1+j) []=hd.getD i []++[true]):=fun h=>c1 h.2.2;rw[if_neg c1,if_neg n1]
    by_cases c2:hd.getD(i+1+j) []=hd.getD i []++[false]
    ·rw[if_pos c2,hset,if_pos rfl,if_pos⟨by omega,by omega,c2⟩]
    ·have n2: ¬(i<i+1+j∧i+1+j<i+1+(j+1)∧hd.getD(i+1+j) []=hd.getD i []++[false]):=fun h=>c2 h.2.2;rw[if_neg c2,if_neg n2,hI]
  ·have e1: ∀P:Prop,(i<k∧k<i+1+(j+1)∧P)↔(i<k∧k<i+1+j∧P):=fun P=>⟨fun h=>⟨h.1,by omega,h.2.2⟩,fun h=>⟨h.1,by omega,h.2.2⟩⟩;simp only[e1];split
   ·rw[hset,if_neg c,ih]
   ·split
    ·rw[hset,if_neg c,ih]
    ·exact ih
theorem Ajy(c:List Bool):Ee c []=true:=decide_eq_true⟨Alk _,rfl⟩
theorem Aio(c h:List Bool)(x:Bool):Ee c(h++[x])=(Ee c h&&decide(h.length<c.length)&&(c.getD h.length false==x)):=by
 unfold Ee;rw[Ald,List.length_singleton]
 by_cases c1:h.length<c.length
 ·have e:c.take(h.length+1)=c.take h.length++[c.getD h.length false]:=by
   rw[Ale c1,Ak7,Ak8 c1];rfl
  rw[e]
  by_cases c2:c.take h.length=h
  ·rw[decide_eq_true(show h.length≤c.length∧c.take h.length=h from⟨by omega,c2⟩),decide_eq_true c1,c2]
   by_cases c3:c.getD h.length false=x
   ·rw[c3,beq_self_eq_true];exact decide_eq_true⟨by omega,rfl⟩
   ·rw[beq_eq_false_iff_ne.2 c3];exact decide_eq_false(fun z=>c3(by simpa using z.2))
  ·rw[decide_eq_false(show¬(h.length≤c.length∧c.take h.length=h)from fun z=>c2 z.2)];exact decide_eq_false(fun z=>c2(List.append_inj_left' z.2(by simp)))
 ·rw[decide_eq_false(show¬(h.length+1≤c.length∧_)from fun z=>c1(by omega)),decide_eq_false c1];simp
theorem Kl(cd:UInt8→List Bool)(h:List Bool)(col:List UInt8):(Az cd h col).length=col.countP fun b=>Ee(cd b)h:=by
 unfold Az;rw[Alu,An1]
structure Gd(o hd:List(List Bool))(col:List UInt8):Prop where
 len:o.length=256
 heads:Ev(cdL o)hd
 pre: ∀b:UInt8,cdL o b≠[]→ ∀h∈hd,Ee(cdL o b)h=true→h.length<(cdL o b).length
 inj: ∀b b':UInt8,cdL o b≠[]→cdL o b=cdL o b'→b=b'
 short: ∀b:UInt8,(cdL o b).length≤255
 col: ∀b∈col,cdL o b≠[]
section
variable{o hd:List(List Bool)}{col:List UInt8}
theorem Gd.ones(H:Gd o hd col){h:List Bool}(hh:h∈hd):(Az(cdL o)h col).count true=(Az(cdL o)(h++[true])col).length∧(Az(cdL o)h col).length-(Az(cdL o)h col).count true=(Az(cdL o)(h++[false])col).length:=by
 have e: ∀x,(Az(cdL o)h col).count x=(Az(cdL o)(h++[x])col).length:=fun x=>by
  rw[Kl];unfold Az;rw[List.count,List.countP_map,List.countP_filter];refine List.countP_congr fun b hb=>?_;show((cdL o b).getD h.length false==x&&Ee(cdL o b)h)=true↔_;rw[Aio];cases c:Ee(cdL o b)h
  ·simp
  ·rw[decide_eq_true(H.pre b(H.col b hb)h hh c)];simp
 refine⟨e true,?_⟩;rw[←e false];have key: ∀l:List Bool,l.length=l.count true+l.count false:=by
  intro l;induction l with
  |nil=>rfl
  |cons b r ih=>cases b<;>simp<;>omega
 have:=key(Az(cdL o)h col);omega
theorem Gd.nodup(H:Gd o hd col){i j:Nat}(hi:i<hd.length)(hj:j<hd.length)(e:hd[i]=hd[j]):i=j:=by
 have hp:=List.pairwise_iff_getElem.1 H.heads.srt;rcases Al4 i j with c|c|c
 ·have:=hp i j hi hj c;rw[e]at this;exact absurd this(P6 _ _ this)
 ·exact c
 ·have:=hp j i hj hi c;rw[e]at this;exact absurd this(P6 _ _ this)
theorem Gd.parent(H:Gd o hd col){k:Nat}(hk:k<hd.length)(h0:hd[k]≠[]): ∃i,∃hi:i<k,∃x,hd[k]=hd[i]++[x]:=by
 obtain⟨b,h1,h2⟩:=(H.heads.mem _).1(Alh hk);have hl:0<hd[k].length:=List.length_pos_iff.2 h0;have hm:hd[k].dropLast∈hd:=(H.heads.mem _).2⟨b,by rw[List.length_dropLast];omega,by
  rw[List.dropLast_eq_take,←h2,List.take_take];rw[Alg];congr 1;rw[Alg];omega⟩
 obtain⟨i,hi,e⟩:=List.mem_iff_getElem.1 hm;have hp:=List.pairwise_iff_getElem.1 H.heads.srt;refine⟨i,?_,hd[k].getLast h0,by rw[e];exact(List.dropLast_concat_getLast h0).symm⟩;rcases Al4 i k with c|c|c
 ·exact c
 ·subst c;have:=congrArg List.length e;rw[List.length_dropLast]at this;omega
 ·have:=hp k i hk hi c;unfold M0 at this;rw[e,List.length_dropLast]at this;omega
theorem Gd.first(H:Gd o hd col)(hk:0<hd.length):hd[0]=[]:=by
 by_cases h:hd[0]=[]
 ·exact h
 ·obtain⟨i,hi,_⟩:=H.parent hk h;omega
theorem Aee(cd:UInt8→List Bool)(hs:List(List Bool))(i:Nat):(Bz cd(hs.take i)col).length≤(Bz cd hs col).length:=by
 conv=>rhs;rw[←Amg i hs]
 unfold Bz;rw[Amq,Ald];omega
theorem Aef(cd:UInt8→List Bool)(hs:List(List Bool))(i:Nat):(Bz cd hs col).take(Bz cd(hs.take i)col).length=Bz cd(hs.take i)col:=by
 have e:Bz cd hs col=Bz cd(hs.take i)col++Bz cd(hs.drop i)col:=by
  unfold Bz;rw[←Amq,Amg]
 rw[e,Aof]
theorem Gd.rows(H:Gd o hd col){s:List UInt8}{fr:Nat}(hb: ∀m,m≤(Bz(cdL o)hd col).length→ ∃e,Cu s(fr,false)m=((Bz(cdL o)hd col).take m,(e,false))): ∀i,i≤hd.length→ ∃sz,sz.length=hd.length∧G5 s fr col.length hd i=some((hd.take i).map fun h=>Az(cdL o)h col,sz,(Bz(cdL o)(hd.take i)col).length)∧ ∀k,(hk:k<hd.length)→(k=0∨ ∃j,∃hj:j<hd.length,j<i∧ ∃x,hd[k]=hd[j]++[x])→sz.getD k 0=(Az(cdL o)hd[k]col).length
 |0,_=>by
  refine⟨(List.replicate hd.length 0).set 0 col.length,by simp,rfl,fun k hk hc=>?_⟩;rcases hc with rfl|⟨j,_,hj,_⟩
  ·rw[H.first hk,Kl,Ak7,Anp(by simpa using hk)];rw[List.countP_eq_length.2(fun b _=>Ajy _)];rfl
  ·omega
 |i+1,hi=>by
  obtain⟨sz,hzl,hr,hz⟩:=Gd.rows H hb i(by omega);have hil:i<hd.length:=hi;have hg:hd.getD i []=hd[i]:=by rw[Ak7,Ak8 hil];rfl
  have hzi:sz.getD i 0=(Az(cdL o)hd[i]col).length:=by
   refine hz i hil ?_
   by_cases c:hd[i]=[]
   ·left;have h0:0<hd.length:=by omega
    exact H.nodup hil h0(by rw[c,H.first h0])
   ·obtain⟨j,hj,x,e⟩:=H.parent hil c;exact .inr⟨j,by omega,hj,x,e⟩
  have ht:=Of(cdL o)hd col i hil;rw[hg]at ht;have hA:(Bz(cdL o)(hd.take i)col).length+sz.getD i 0=(Bz(cdL o)(hd.take(i+1))col).length:=by rw[ht,Ald,hzi]
  obtain⟨e,hbits⟩:=hb _(Aee(cdL o)hd(i+1));rw[Aef]at hbits;have hrow:(Bz(cdL o)(hd.take(i+1))col).drop(Bz(cdL o)(hd.take i)col).length=Az(cdL o)hd[i]col:=by rw[ht,List.drop_left]
  obtain⟨o1,o2⟩:=H.ones(Alh hil);refine⟨E7 hd i((Az(cdL o)hd[i]col).count true)((Az(cdL o)hd[i]col).length-(Az(cdL o)hd[i]col).count true)sz(hd.length-(i+1)),by rw[Kw,hzl],?_,fun k hk hc=>?_⟩
  ·rw[G5,hr];simp only;rw[hA,hbits,if_neg(by simp)];simp only;rw[hrow];congr 2;rw[Ale hil,Amp];rfl
  ·rw[Aco _ _ _ _ _ _(by omega),o2,o1];have hgk:hd.getD k []=hd[k]:=by rw[Ak7,Ak8 hk];rfl
   rw[hg,hgk]
   by_cases c1:i<k∧k<i+1+(hd.length-(i+1))∧hd[k]=hd[i]++[true]
   ·rw[if_pos c1,c1.2.2]
   ·rw[if_neg c1]
    by_cases c2:i<k∧k<i+1+(hd.length-(i+1))∧hd[k]=hd[i]++[false]
    ·rw[if_pos c2,c2.2.2]
    ·rw[if_neg c2];refine hz k hk ?_;rcases hc with h|⟨j,hj,h1,x,h2⟩
     ·exact .inl h
     ·by_cases c:j<i
      ·exact .inr⟨j,hj,c,x,h2⟩
      ·have hji:j=i:=by omega
       subst hji;exfalso;have hlt:j<k:=by
        have hp:=List.pairwise_iff_getElem.1 H.heads.srt;rcases Al4 j k with c|c|c
        ·exact c
        ·subst c;have:=congrArg List.length h2;rw[Ald]at this;simp at this
        ·have:=hp k j hk hj c;unfold M0 at this;rw[h2,Ald,List.length_singleton]at this;omega
       cases x
       ·exact c2⟨hlt,by omega,h2⟩
       ·exact c1⟨hlt,by omega,h2⟩
def La(o hd:List(List Bool))(p:List UInt8)(b:UInt8)(j:Nat):List Nat:=hd.map fun h=>p.countP(fun x=>Ee(cdL o x)h)+if h.length<j∧Ee(cdL o b)h=true then 1 else 0
theorem Acp(o hd:List(List Bool))(p:List UInt8)(b:UInt8)(j r:Nat)(h:r<(La o hd p b j).length)(hr:r<hd.length):(La o hd p b j)[r]=p.countP(fun x=>Ee(cdL o x)hd[r])+if hd[r].length<j∧Ee(cdL o b)hd[r]=true then 1 else 0:=by
 simp only[La,Aml]
theorem Gd.byte(H:Gd o hd col){p q:List UInt8}{b:UInt8}(hc:col=p++b::q): ∀f j,j<(cdL o b).length→(cdL o b).length≤j+f→Gb hd(hd.map fun h=>Az(cdL o)h col)o f(La o hd p b j)((cdL o b).take j)=some(b.toNat,La o hd p b(cdL o b).length)
 |0,j,h1,h2=>by omega
 |f+1,j,h1,h2=>by
  have hbn:cdL o b≠[]:=H.col b(by rw[hc];simp);obtain⟨h,hh⟩: ∃h,h=(cdL o b).take j:=⟨_,rfl⟩;have hhl:h.length=j:=by rw[hh,Alg];omega
  have hm:h∈hd:=(H.heads.mem _).2⟨b,by omega,by rw[hhl,hh]⟩;obtain⟨i,hi,e⟩:=List.mem_iff_getElem.1 hm;have hf:G9 hd h=some i:=Qf hi e(fun j' hj' e'=>by
   have:=H.nodup(show j'<hd.length by omega)hi(by rw[e',e]);omega)
  have hrow:(hd.map fun h=>Az(cdL o)h col).getD i []=Az(cdL o)h col:=by
   rw[Ak7,Aln,Ak8 hi,e];rfl
  have hnx:(La o hd p b j).getD i 0=(Az(cdL o)h p).length:=by
   unfold La;rw[Ak7,Aln,Ak8 hi,e];show _+(if h.length<j∧_ then 1 else 0)=_;rw[if_neg(by omega),Kl];rfl
  have hbeg:Ee(cdL o b)h=true:=decide_eq_true⟨by omega,by rw[hhl,hh]⟩;have hsplit:Az(cdL o)h col=Az(cdL o)h p++((cdL o b).getD j false::Az(cdL o)h q):=by
   unfold Az;rw[hc,Amu,Amp,Ami,hbeg,if_pos rfl,Amc,hhl]
  have hnext:h++[(cdL o b).getD j false]=(cdL o b).take(j+1):=by
   rw[Ale h1,←hh,Ak7,Ak8 h1];rfl
  have hset:(La o hd p b j).set i((Az(cdL o)h p).length+1)=La o hd p b(j+1):=by
   apply Al1(by simp[La]);intro r r1 r2;have hr:r<hd.length:=by simpa[La]using r2
   rw[Anf,Acp _ _ _ _ _ _ _ hr,Acp _ _ _ _ _ _ _ hr]
   by_cases c:i=r
   ·subst c;rw[if_pos rfl,e,if_pos⟨by omega,hbeg⟩,Kl]
   ·rw[if_neg c];congr 1
    by_cases c1:hd[r].length<j∧Ee(cdL o b)hd[r]=true
    ·rw[if_pos c1,if_pos⟨by omega,c1.2⟩]
    ·rw[if_neg c1,if_neg(fun z=>?_)];have hl:hd[r].length=j:=by
      rcases Amn hd[r].length j with c2|c2
      ·exact absurd⟨c2,z.2⟩c1
      ·omega
     have:=(Ain _ _ z.2).2;rw[hl,←hh]at this;exact c(H.nodup hi hr(by rw[e,this]))
  rw[←hh,Gb,hf];simp only;rw[hrow,hnx,if_neg(by rw[hsplit,Ald,Alz];omega)];have hbit:(Az(cdL o)h col).getD(Az(cdL o)h p).length false=(cdL o b).getD j false:=by
   rw[hsplit,Ak7,Alm(Alc _),Ama];rfl
  rw[hbit,hset,hnext];have hbl:b.toNat<o.length:=by have:=b.toNat_lt;have:=H.len;omega
  have hcd: ∀r,(hr:r<o.length)→o[r]=cdL o(UInt8.ofNat r):=fun r hr=>by
   unfold cdL;rw[Al0,Amr(by have:=H.len;omega),Ak7,Ak8 hr];rfl
  by_cases c:j+1=(cdL o b).length
  ·rw[c,Alx];have hfc:G9 o(cdL o b)=some b.toNat:=Qf hbl(by rw[hcd _ hbl,UInt8.ofNat_toNat])(fun r hr e'=>by
    rw[hcd r(by omega)]at e';have:=congrArg UInt8.toNat(H.inj _ _ hbn e'.symm);rw[Al0]at this;have:=H.len;omega)
   rw[hfc]
  ·have hfc:G9 o((cdL o b).take(j+1))=none:=Ws(fun r hr e'=>by
    rw[hcd r hr]at e';have hl:(cdL o(UInt8.ofNat r)).length=j+1:=by rw[e',Alg];omega
    have hmm:(cdL o b).take(j+1)∈hd:=(H.heads.mem _).2⟨b,by rw[Alg];omega,by rw[Alg,Am3(by omega)]⟩;have:=H.pre(UInt8.ofNat r)(fun z=>by rw[z]at hl;simp at hl)_ hmm(by rw[e'];exact decide_eq_true⟨Alc _,by rw[Alx]⟩);rw[hl,Alg]at this;omega)
   rw[hfc];exact Gd.byte H hc f(j+1)(by omega)(by omega)
theorem Gd.bytes(H:Gd o hd col): ∀k,k≤col.length→Jk hd(hd.map fun h=>Az(cdL o)h col)o k=some(col.take k,hd.map fun h=>(col.take k).countP fun x=>Ee(cdL o x)h)
 |0,_=>by
  rw[Jk];congr 2;apply Al1(by simp);intro i h1 h2;simp
 |k+1,hk=>by
  obtain⟨b,hb⟩: ∃b,b=col[k]:=⟨_,rfl⟩;have hc:col=col.take k++b::col.drop(k+1):=by
   rw[hb,←Alt hk,Amg]
  have hbn:cdL o b≠[]:=H.col b(by rw[hb];exact Alh _);have hbl:0<(cdL o b).length:=List.length_pos_iff.2 hbn;have hs:=H.short b;have h1:=H.byte hc 256 0 hbl(by omega);have e0:La o hd(col.take k)b 0=hd.map fun h=>(col.take k).countP fun x=>Ee(cdL o x)h:=by
   unfold La;refine Ang fun h _=>?_;rw[if_neg(by omega)];rfl
  have e1:La o hd(col.take k)b(cdL o b).length=hd.map fun h=>(col.take(k+1)).countP fun x=>Ee(cdL o x)h:=by
   unfold La;refine Ang fun h hh=>?_;rw[Ale hk,←hb,Am0,Amo,List.countP_nil];congr 1;cases c:Ee(cdL o b)h
   ·simp
   ·rw[if_pos⟨H.pre b hbn h hh c,rfl⟩,if_pos rfl]
  rw[e0,e1,Aoe]at h1;rw[Jk,Gd.bytes H k(by omega)];simp only;rw[h1];simp only;rw[Ale hk,←hb,UInt8.ofNat_toNat]
theorem Gd.col_is(H:Gd o hd col){s:List UInt8}{fr:Nat}(hb: ∀m,m≤(Bz(cdL o)hd col).length→ ∃e,Cu s(fr,false)m=((Bz(cdL o)hd col).take m,(e,false))):Jl s fr col.length hd o=some col:=by
 obtain⟨sz,_,hr,_⟩:=H.rows hb hd.length(Alc _);rw[Alx]at hr;unfold Jl;rw[hr];simp only;rw[H.bytes col.length(Alc _),Alx];rfl
end
theorem Zd(L:List Nat): ∀t s,cTo L t=some s→(∀x∈s.out,x.length≤t/256+1)∧s.code.length≤t/256+1∧(t%256=0→(∀x∈s.out,x.length≤t/256)∧s.code.length≤t/256)
 |0,s,h=>by
  rw[cTo]at h;injection h with h;subst h;refine⟨fun x hx=>?_,by simp,fun _=>⟨fun x hx=>?_,by simp⟩⟩
  ·rw[Anj hx];simp
  ·rw[Anj hx];simp
 |t+1,s,h=>by
  rw[cTo]at h;cases h0:cTo L t with
  |none=>rw[h0]at h;cases h
  |some s0=>
   rw[h0,Option.bind_some]at h;obtain⟨i1,i2,_⟩:=Zd L t s0 h0;have key:(∀x∈s.out,x.length≤t/256+1)∧s.code.length≤t/256+1:=by
    unfold Ml at h;split at h
    ·cases h1:K3 s0 with
     |none=>rw[h1]at h;cases h
     |some R=>
      rw[h1,Option.map_some]at h;injection h with h;subst h;have hl:=Sm s0 R h1;have hp:=Ad9(t/256+1)R(by omega);refine⟨fun x hx=>?_,by show(I4 _ _).length≤_;omega⟩;rcases Ane hx with h2|h2
      ·exact i1 x h2
      ·rw[h2,List.length_reverse];omega
    ·injection h with h;subst h;exact⟨i1,i2⟩
   refine⟨fun x hx=>?_,?_,fun hm=>⟨fun x hx=>?_,?_⟩⟩
   ·have:=key.1 x hx;omega
   ·have:=key.2;omega
   ·have:=key.1 x hx;omega
   ·have:=key.2;omega
theorem Aag{L:List Nat}{T:Nat}{one:Bool}{o:List(List Bool)}(h:Tf(cTo L T)one o true)(hT:T%256=0)(h2:T/256≤255): ∀x∈o,x.length≤255:=by
 cases h0:cTo L T with
 |none=>rw[h0]at h;cases h
 |some s=>
  rw[h0]at h;obtain⟨rfl,_⟩:=h;intro x hx;have:=((Zd L T s h0).2.2 hT).1 x hx;omega
theorem Ck.short{L:List Nat}{o:List(List Bool)}(h:Ck L o true): ∀x∈o,x.length≤255:=by
 obtain⟨T,hT⟩: ∃T,T=65280:=⟨_,rfl⟩;unfold Ck at h;rw[←hT]at h;exact Aag h(by omega)(by omega)
end Hm
end Go.Proofs.YtegnkfdbmmndaaaGreat
namespace Go.Proofs.YtegnkfdbmmndaaaGreat
open Hm
open Go.RowKit
namespace Hm
def Cv(s:List UInt8)(st:RS):Nat→List Nat×RS
 |0=>(List.replicate 256 0,st)
 |i+1=>if(Cv s st i).2.2=true then Cv s st i else((Cv s st i).1.set(Ce s(Cv s st i).2 1).1(Ce s(Ce s(Cv s st i).2 1).2 1).1,(Ce s(Ce s(Cv s st i).2 1).2 1).2)
theorem Kx(s:List UInt8)(st:RS): ∀i,(Cv s st i).1.length=256
 |0=>by rw[Cv,Alf]
 |i+1=>by
  rw[Cv];split
  ·exact Kx s st i
  ·show(List.set _ _ _).length=256;rw[Al8,Kx s st i]
theorem Th(s:List UInt8)(st:RS)(h:st.1≤s.length): ∀i,(Cv s st i).2.1≤s.length
 |0=>h
 |i+1=>by
  rw[Cv];split
  ·exact Th s st h i
  ·exact L2 s _ 1(L2 s _ 1(Th s st h i))
theorem Ti(s:List UInt8)(st:RS):(Ce s st 1).1<256:=by
 unfold Ce;split
 ·show 0<256;omega
 ·have h1:=L0((s.drop st.1).take 1);have h2:256^((s.drop st.1).take 1).length≤256^1:=Amj(by omega)(by rw[Alg];omega);show C3 _<256;omega
theorem Ze(s:List UInt8)(st:RS)(i:Nat)(h:(Cv s st i).2.2=true): ∀m,Cv s st(i+m)=Cv s st i
 |0=>rfl
 |m+1=>by
  have ih:=Ze s st i h m;rw[←Ams,Cv,ih,if_pos h]
def Km(s:List UInt8)(st:RS):List Nat×RS:=Cv s(Ce s st 2).2(Ce s st 2).1
end Hm
theorem Wv:Tryz.zeroCells94=(Ac(List.replicate 256 0)).toArray:=by kernel_rfl
theorem Kn:(Tryz.prog.info? 94).map(·.size)=some 256:=by kernel_rfl
set_option maxRecDepth 20000 in
set_option maxHeartbeats 2000000 in
theorem Acq(p:Nat)(s:List UInt8)(st:Hm.RS)(w:World)(h:Cj w p s st)(hst:st.1≤s.length)(hs:s.length≤30000):
  Calls Tryz.prog 76#[.pointer(some⟨p,0,none⟩)]w fun e w'=>e= .returned(.agg(Ac(Km s st).1).toArray)∧Cj w' p s(Km s st).2∧Aa(fun j=>j=p)w w':=by
 have hpw:p<w.heap.size:=lt_of_block h;obtain⟨W0,hW0⟩: ∃W0,W0=(w.alloc(.cells Tryz.zeroCells94 94)).alloc(.cells Tryz.zeroCells94 94):=⟨_,rfl⟩;have hb0:W0.heap[w.heap.size]?=some(.cells Tryz.zeroCells94 94(0,0)):=by rw[hW0];exact heap_alloc2_old w _ _
 have hb1:W0.heap[w.heap.size+1]?=some(.cells(Ac(List.replicate 256 0)).toArray 94(0,0)):=by rw[hW0,←Wv];exact heap_alloc2_new w _ _
 have hk0:Aa(fun _=>False)w W0:=by rw[hW0];exact((Aa.refl _ _).alloc _).alloc _
 have hnum:=Ib p 2 s st W0(hk0.row h id)(Alc _)hst hs;have hat2:=L2 s st 2 hst;have HRL:Hid(Km s st=Cv s(Ce s st 2).2(Ce s st 2).1):=rfl;have hKb:(Ce s st 2).1<65536:=by
  unfold Ce;split
  ·show 0<65536;omega
  ·have h1:=L0((s.drop st.1).take 2);have h2:256^((s.drop st.1).take 2).length≤256^2:=Amj(by omega)(by rw[Alg];omega);show C3 _<65536;omega
 obtain⟨K,hK⟩: ∃K,K=(Ce s st 2).1:=⟨_,rfl⟩;obtain⟨s1,hs1⟩: ∃x,x=(Ce s st 2).2:=⟨_,rfl⟩;rw[←hK]at hnum HRL hKb;rw[←hs1]at hnum HRL hat2;have H0:Hid(Aa(fun _=>False)w W0∧W0.heap[w.heap.size]?=some(.cells Tryz.zeroCells94 94(0,0))∧W0.heap[w.heap.size+1]?=some(.cells(Ac(List.replicate 256 0)).toArray 94(0,0))):=⟨hk0,hb0,hb1⟩;have HW:Hid(W0=(w.alloc(.cells Tryz.zeroCells94 94)).alloc(.cells Tryz.zeroCells94 94)):=hW0;clear h hb0 hb1 hk0 hW0 hK hs1
 go_enter Tryz.func76,Tryz.ntmps76
 go_wp2_with fail;rw[←HW.out];refine hnum.mono ?_;rintro e w1⟨rfl,hrd1,hk1⟩;have H1:Hid(Cj w1 p s s1∧Aa(fun j=>j=p)w w1∧w1.heap[w.heap.size]?=some(.cells Tryz.zeroCells94 94(0,0))∧w1.heap[w.heap.size+1]?=some(.cells(Ac(List.replicate 256 0)).toArray 94(0,0))):=
  ⟨hrd1,(H0.out.1.wider(T:=fun j=>j=p)(fun _ _ h=>h.elim)).trans hk1(fun _ _ h=>h),hk1.row H0.out.2.1(by omega),hk1.row H0.out.2.2(by omega)⟩
 clear hnum hrd1 hk1 H0 HW;go_wp2_with fail
 go_loopw [5,6](fun vi _ wr=> ∃i:Nat,i≤K∧vi= .int .i64 i∧Cj wr p s(Cv s s1 i).2∧Aa(fun j=>j=p)w wr∧wr.heap[w.heap.size]?=some(.cells Tryz.zeroCells94 94(0,0))∧wr.heap[w.heap.size+1]?=some(.cells(Ac(Cv s s1 i).1).toArray 94(0,0)))(fun vi _ _=>K-(intOf vi).toNat)
 case atStart=>exact⟨0,Alk _,rfl,H1.out⟩
 case round=>
  obtain⟨i,hi,rfl,hrd,hkr,hrow0,hrow1⟩:=hrel;have hrd':wr.heap[p]?=some(.cells#[.string⟨s.toArray⟩,.int .i64((Cv s s1 i).2.1:Nat),.bool(Cv s s1 i).2.2]145(0,0)):=hrd;have cb:wr.cell?⟨p,2,none⟩=some(.bool(Cv s s1 i).2.2):=cell_of_row _ _ 2 _ _ _ hrd';rcases(show(i<K∧(Cv s s1 i).2.2=false)∨((¬i<K∨(i<K∧(Cv s s1 i).2.2=true))∧Cv s s1 K=Cv s s1 i)from by
    by_cases hlt:i<K
    ·cases hbad:(Cv s s1 i).2.2 with
     |false=>exact .inl⟨hlt,rfl⟩
     |true=>
      refine .inr⟨.inr⟨hlt,rfl⟩,?_⟩;have:=Ze s s1 i hbad(K-i);rwa [show i+(K-i)=K from by omega]at this
    ·exact .inr⟨.inl hlt,by rw[show K=i from by omega]⟩)with⟨hlt,hbad⟩|⟨hend,HFI'⟩
  ·have hltI:(i:Int)<(K:Int):=by omega
   have hdK:decide((i:Int)<(K:Int))=true:=decide_eq_true hltI;rw[hbad]at cb;have hai:=Th s s1 hat2 i;have hlen:=Kx s s1 i;have HST:Hid(Cv s s1(i+1)=((Cv s s1 i).1.set(Ce s(Cv s s1 i).2 1).1(Ce s(Ce s(Cv s s1 i).2 1).2 1).1,(Ce s(Ce s(Cv s s1 i).2 1).2 1).2)):=by
    show _=_;rw[Cv,if_neg(by rw[hbad];simp)]
   obtain⟨L,hL⟩: ∃L,L=(Cv s s1 i).1:=⟨_,rfl⟩;obtain⟨st2,hst2⟩: ∃x,x=(Cv s s1 i).2:=⟨_,rfl⟩;rw[←hL]at hlen hrow1;rw[←hst2]at hai hrd;have HST2:Hid(Cv s s1(i+1)=(L.set(Ce s st2 1).1(Ce s(Ce s st2 1).2 1).1,(Ce s(Ce s st2 1).2 1).2)):=by rw[hL,hst2];exact HST.out
   have hn1:=Ib p 1 s st2 wr hrd(by omega)hai hs;have hai2:=L2 s st2 1 hai;have hc:=Ti s st2;have HR:Hid(Aa(fun j=>j=p)w wr∧wr.heap[w.heap.size]?=some(.cells Tryz.zeroCells94 94(0,0))∧wr.heap[w.heap.size+1]?=some(.cells(Ac L).toArray 94(0,0))):=⟨hkr,hrow0,hrow1⟩;clear hrd hrd' hkr hrow0 hrow1 HST hbad hL hst2;go_wp2_with fail;refine hn1.mono ?_;rintro e w2⟨rfl,hrd2,hk2⟩;have hn2:=Ib p 1 s _ w2 hrd2(by omega)hai2 hs;have hx:=Ti s(Ce s st2 1).2;have HR2:Hid(Aa(fun j=>j=p)w w2∧w2.heap[w.heap.size]?=some(.cells Tryz.zeroCells94 94(0,0))∧w2.heap[w.heap.size+1]?=some(.cells(Ac L).toArray 94(0,0))):=⟨HR.out.1.trans hk2(fun _ _ h=>h),hk2.row HR.out.2.1(by omega),hk2.row HR.out.2.2(by omega)⟩;generalize Ce s st2 1=y at*;obtain⟨c,st3⟩:=y;generalize Ce s st3 1=z at*;obtain⟨x,st4⟩:=z;clear hn1 hrd2 hk2 HR;go_wp2_with fail;refine hn2.mono ?_;rintro e w3⟨rfl,hrd3,hk3⟩;have HR3:Hid(Cj w3 p s st4∧Aa(fun j=>j=p)w w3∧w3.heap[w.heap.size]?=some(.cells Tryz.zeroCells94 94(0,0))∧w3.heap[w.heap.size+1]?=some(.cells(Ac L).toArray 94(0,0))):=⟨hrd3,HR2.out.1.trans hk3(fun _ _ h=>h),hk3.row HR2.out.2.1(by omega),hk3.row HR2.out.2.2(by omega)⟩;have c0:w3.cell?⟨w.heap.size+1,c,none⟩=some(.int .i64(L.getD c 0:Nat)):=by
    rw[cell_of_row _ _ c _ _ _ HR3.out.2.2.2];have hc':c<L.length:=by rw[hlen];exact hc
    simp[Ac,List.getElem?_eq_getElem hc']
   have f0:w3.frozen?⟨w.heap.size+1,c,none⟩=false:=frozen_of_row _ _ c _ _ HR3.out.2.2.2;clear hn2 hrd3 hk3 HR2;have hcI:(c:Int)<256:=by have:c<256:=hc;omega
   have hc3:c<256:=hc;go_wp2_with fail;have hk4:Aa(fun j=>j=w.heap.size+1)w3(w3.setCell⟨w.heap.size+1,c,none⟩(.int .i64(x:Nat))):=(Aa.refl(fun j=>j=w.heap.size+1)w3).setCell(p:=⟨w.heap.size+1,c,none⟩)(.inr rfl)_;refine⟨⟨i+1,by omega,rfl,by rw[HST2.out];exact hk4.row HR3.out.1(by omega),HR3.out.2.1.setCell(p:=⟨w.heap.size+1,c,none⟩)(.inl(Nat.le_succ _))_,hk4.row HR3.out.2.2.1(by omega),?_⟩,by show K-((i:Int)+1).toNat<K-((i:Int)).toNat;omega⟩;rw[heap_setCell_same w3(w.heap.size+1)c _ _ _ HR3.out.2.2.2,HST2.out];congr 2;simp[Ac,List.map_set]
  ·have HFI:Hid(Cv s s1 K=Cv s s1 i):=HFI';clear hrd' HFI';obtain⟨ARR,hARR⟩: ∃A,A=(Ac(Cv s s1 i).1).toArray:=⟨_,rfl⟩;have HAR:Hid(ARR=(Ac(Cv s s1 i).1).toArray):=hARR;rw[←hARR]at hrow1;have HZ:Hid(Cj wr p s(Cv s s1 i).2∧Aa(fun j=>j=p)w wr∧wr.heap[w.heap.size]?=some(.cells Tryz.zeroCells94 94(0,0))∧wr.heap[w.heap.size+1]?=some(.cells ARR 94(0,0))):=⟨hrd,hkr,hrow0,hrow1⟩;have hasz:ARR.size=256:=by rw[HAR.out,A5,Kx]
   have hall:ARR.all(·.oneCell')=true:=by rw[HAR.out];exact Ef _
   have hzs:Tryz.zeroCells94.size=ARR.size:=by rw[hasz,Wv,A5,Alf]
   clear hARR hrd hkr hrow0 hrow1;rcases hend with hlt|⟨hlt,hbad⟩
   ·have hltI: ¬(i:Int)<(K:Int):=by omega
    have hdK:decide((i:Int)<(K:Int))=false:=decide_eq_false hltI;clear cb
    go_wp2_with(first
     |(refine wpList_load_row rfl 94 _ rfl(w.heap.size+1)rfl 94 ARR(0,0)_ HZ.out.2.2.2 Tryz.underlying94 rfl(by rw[hasz];exact Kn)?_)
     |(refine A3 _ rfl 94 _ _ rfl w.heap.size 94 _ ARR rfl rfl HZ.out.2.2.1(by rw[hasz];exact Kn)hzs hall ?_;intro w9 hw9 hk9))
    refine bodyPost_ret(v:= .agg ARR)(results_cell_row Tryz.results76 _ w9 w.heap.size 94 ARR(0,0)_ rfl hw9 Tryz.underlying94 rfl(by rw[hasz];exact Kn))rfl⟨by rw[HAR.out,HRL.out,HFI.out],by rw[HRL.out,HFI.out];exact hk9.row HZ.out.1(fun e=>by omega),HZ.out.2.1.trans hk9(fun j hj e=>by omega)⟩
   ·have hltI:(i:Int)<(K:Int):=by omega
    have hdK:decide((i:Int)<(K:Int))=true:=decide_eq_true hltI;rw[hbad]at cb;clear hbad
    go_wp2_with(first
     |(refine wpList_load_row rfl 94 _ rfl(w.heap.size+1)rfl 94 ARR(0,0)_ HZ.out.2.2.2 Tryz.underlying94 rfl(by rw[hasz];exact Kn)?_)
     |(refine A3 _ rfl 94 _ _ rfl w.heap.size 94 _ ARR rfl rfl HZ.out.2.2.1(by rw[hasz];exact Kn)hzs hall ?_;intro w9 hw9 hk9))
    refine bodyPost_ret(v:= .agg ARR)(results_cell_row Tryz.results76 _ w9 w.heap.size 94 ARR(0,0)_ rfl hw9 Tryz.underlying94 rfl(by rw[hasz];exact Kn))rfl⟨by rw[HAR.out,HRL.out,HFI.out],by rw[HRL.out,HFI.out];exact hk9.row HZ.out.1(fun e=>by omega),HZ.out.2.1.trans hk9(fun j hj e=>by omega)⟩
namespace Hm
def Ky(col:List UInt8)(c:UInt8)(i q:Nat):Bool:=decide(col.getD q 0<c)||(col.getD q 0==c&&decide(q<i))
def Ft(col:List UInt8)(c:UInt8)(i j:Nat):Nat:=rk(Ky col c i)j
def St(col:List UInt8)(root row:Nat):UInt8×Nat:=(col.getD(Co root row)0,1+Ft col(col.getD(Co root row)0)(Co root row)col.length)
def G6(col:List UInt8)(root:Nat):Nat→Option(List UInt8×Nat)
 |0=>some([],0)
 |k+1=>match G6 col root k with
  |none=>none
  |some(t,row)=>if row=root then none else some((St col root row).1::t,(St col root row).2)
theorem Yg(f:Nat→Bool): ∀n,rk f n≤n
 |0=>Alc _
 |n+1=>by have:=Yg f n;have:=Jt(f n);rw[rk];omega
theorem Aip(col:List UInt8)(i:Nat)(hi:i<col.length):Ft col(col.getD i 0)i col.length<col.length:=by
 have h0:Ky col(col.getD i 0)i i=false:=by
  unfold Ky;rw[decide_eq_false(show¬col.getD i 0<col.getD i 0 from UInt8.lt_irrefl _),decide_eq_false(show¬i<i by omega)];simp
 have h1: ∀n,i<n→rk(Ky col(col.getD i 0)i)n<n:=by
  intro n;induction n with
  |zero=>intro h;omega
  |succ n ih=>
   intro h;rw[rk];have:=Jt(Ky col(col.getD i 0)i n);rcases Nat.lt_or_eq_of_le(show i≤n by omega)with h2|h2
   ·have:=ih h2;omega
   ·subst h2;rw[h0];have:=Yg(Ky col(col.getD i 0)i)i;show _+0<_;omega
 exact h1 _ hi
theorem Tj(col:List UInt8)(root:Nat)(hr:root≤col.length): ∀k t row,G6 col root k=some(t,row)→row≤col.length∧t.length=k
 |0,t,row,h=>by
  injection h with h;injection h with h1 h2;subst h1 h2;exact⟨Alk _,rfl⟩
 |k+1,t,row,h=>by
  rw[G6]at h;split at h
  ·cases h
  ·rename_i t0 row0 h0;obtain⟨a1,a2⟩:=Tj col root hr k t0 row0 h0;split at h
   ·cases h
   ·rename_i hne;injection h with h;injection h with h1 h2;subst h1 h2;refine⟨?_,by rw[Alz,a2]⟩;have:=Aip col(Co root row0)(Md hr a1 hne);show 1+Ft col(col.getD(Co root row0)0)(Co root row0)col.length≤_;omega
theorem Zf(col:List UInt8)(root:Nat)(k:Nat)(h:G6 col root k=none): ∀m,G6 col root(k+m)=none
 |0=>h
 |m+1=>by rw[←Ams,G6,Zf col root k h m]
def Ps(col:List UInt8)(root:Nat):Value:=match G6 col root col.length with
 |none=> .tuple#[.string⟨#[]⟩,.bool false]
 |some(t,row)=> .tuple#[.string⟨t.toArray⟩,.bool(decide(row=root))]
end Hm
set_option maxRecDepth 20000 in
set_option maxHeartbeats 2000000 in
theorem Aeg(col:List UInt8)(root:Nat)(w:World)(hr:root≤col.length)(hn:col.length≤6000):
  Calls Tryz.prog 78#[.string⟨col.toArray⟩,.int .i64 root]w fun e w'=>e= .returned(Ps col root)∧Aa(fun _=>False)w w':=by
 obtain⟨i0,hi,hz0,hz1,hz2⟩:=info_parts Ow;obtain⟨S,hS⟩: ∃S,S=(⟨col.toArray⟩:ByteArray):=⟨_,rfl⟩;have hSs:S.size=col.length:=by rw[hS];show col.toArray.size=_;simp
 have HG:Hid(∀q,(h:q<col.length)→ ∃hq:q<S.size,S[q]=col.getD q 0):=fun q hq=>by
  have h1:q<S.size:=by omega
  refine⟨h1,?_⟩;rw[Ak7,Ak8 hq];subst hS;rfl
 rw[←hS];obtain⟨n,hne⟩: ∃n,n=col.length:=⟨_,rfl⟩;rw[←hne]at hSs hr hn;have HN:Hid(n=col.length):=hne;clear hS hne
 go_enter Tryz.func78,Tryz.ntmps78
 go_wp2_with(at_make;refine wpList_make_full _ rfl(.tmp 16)(.tmp 16)79 rfl w.heap.size 5 i0(.int .u8 0)1 Tryz.underlying79 hi hz0 hz1 .i64 .i64 _ _ n rfl rfl rfl rfl(by rw[hz2];omega)(by unfold maxLen;omega)(Alc _)?_;intro w1 ho1 hg1)
 have hk1:Aa(fun _=>False)w w1:=(Aa.refl _ _).grown hg1(fun k hk=>by cases hk);have hr1:w1.heap[w.heap.size]?=some(.cells(D0 []n).toArray 5(0,0)):=by
  rw[Ana,show(Value.int .u8 0).cells= #[Value.int .u8 0]from rfl,toList_madeCells_one]at ho1;rcases ho1.2 with⟨h1,_⟩|⟨g2,cap,cur,h1,_,hg,_,_,hs,ht⟩
  ·cases h1
  ·cases h1;have e:cur.toList.take(n*1)=cur.toList:=Alw(by simp;omega);have e2:cur=(D0 []n).toArray:=by
    apply Amm;rw[←e,ht];simp[D0,Ag]
   rw[hg,e2]
 have HX:Hid(w1.heap[w.heap.size]?=some(.cells(D0 []n).toArray 5(0,0))∧Aa(fun _=>False)w w1):=⟨hr1,hk1⟩;clear ho1 hg1 hr1 hk1;have hwn:IntKind.i64.wrap((n:Int)-1)=(n:Int)-1:=by rw[IntKind.wrap_i64];omega
 go_wp2_with fail
 go_loopw [8,9](fun vr vk wr=> ∃(j k row:Nat)(t:List UInt8),j+k=n∧vk= .int .i64((j:Int)-1)∧vr= .int .i64 row∧Hid(G6 col root k=some(t,row))∧row≤n∧wr.heap[w.heap.size]?=some(.cells(D0 t j).toArray 5(0,0))∧Aa(fun _=>False)w wr)(fun _ vk _=>(intOf vk+1).toNat)
 case atStart=>exact⟨n,0,0,[],rfl,rfl,rfl,rfl,Alk _,HX.out.1,HX.out.2⟩
 case round=>
  obtain⟨j,k,row,t,hjk,rfl,rfl,HRB,hrn,hrow,hkr⟩:=hrel;cases j with
  |zero=>
   have hv:((0:Nat):Int)-1= -1:=rfl;rw[hv];have htl:=(Tj col root(by rw[←HN.out];exact hr)k t row HRB.out).2;have hrow2:wr.heap[w.heap.size]?=some(.cells(Ag t).toArray 5(0,0)):=hrow;have hcv:=Ud hrow2 n n(by omega);have HF:Hid(Aa(fun _=>False)w wr∧Ps col root= .tuple#[.string⟨t.toArray⟩,.bool(decide(row=root))]):=by
    refine⟨hkr,?_⟩;unfold Ps;rw[←HN.out,show n=k from by omega,HRB.out]
   have HDE:Hid(((row:Int)==(root:Int))=decide(row=root)):=by
    show _=_
    by_cases e:row=root
    ·rw[e];simp
    ·rw[decide_eq_false e,beq_eq_false_iff_ne];omega
   clear hrow hrow2 hkr htl;go_wp2_with fail;go_ret2;exact⟨by rw[HF.out.2];first|rfl|(rw[←HDE.out];rfl)|(simp;done)|(simp;omega),HF.out.1⟩
  |succ j=>
   have hv:((j+1:Nat):Int)-1=(j:Int):=by omega
   rw[hv];have hd0:decide((0:Int)≤(j:Int))=true:=decide_eq_true(by omega)
   by_cases hrr:row=root
   ·have hE:((row:Int)==(root:Int))=true:=by rw[beq_iff_eq];omega
    have HF:Hid(Aa(fun _=>False)w wr∧Ps col root= .tuple#[.string⟨#[]⟩,.bool false]):=by
     refine⟨hkr,?_⟩;have h1:G6 col root(k+1)=none:=by rw[G6,HRB.out];exact if_pos hrr
     unfold Ps;rw[←HN.out,show n=k+1+j from by omega,Zf col root(k+1)h1 j]
    have hrrI:(row:Int)=(root:Int):=by omega
    clear hrow hkr hrr;go_wp2_with fail;go_ret2;exact⟨by rw[HF.out.2];rfl,HF.out.1⟩
   ·have hE:((row:Int)==(root:Int))=false:=by rw[beq_eq_false_iff_ne];omega
    obtain⟨i,hie⟩: ∃i,i=Co root row:=⟨_,rfl⟩;have hin:i<n:=by rw[hie];exact Md hr hrn hrr
    have HRN:Hid(G6 col root(k+1)=some(col.getD i 0::t,1+Ft col(col.getD i 0)i n)):=by
     show _=_;rw[G6,HRB.out];simp only;rw[if_neg hrr];unfold St;rw[←hie,←HN.out]
    have HIE:Hid(i=Co root row):=hie;have HR:Hid(wr.heap[w.heap.size]?=some(.cells(D0 t(j+1)).toArray 5(0,0))∧Aa(fun _=>False)w wr):=⟨hrow,hkr⟩;have HRR:Hid(¬row=root):=hrr;clear hrow hkr hie hrr;go_upto_if 30 with fail
    go_cut [10]from 28 to 65(fun v wx=>v= .int .i64 i∧wr=wx)
    case first=>
     by_cases hgt:root<row
     ·have hg1:decide((root:Int)<(row:Int))=true:=decide_eq_true(by omega);have hg2:decide(root<row)=true:=decide_eq_true hgt;have hzi:(row:Int)-1=(i:Int):=by have:=HIE.out;unfold Co at this;rw[if_pos hgt]at this;omega
      go_wp2_with fail;go_meet
      case rel=>exact⟨by first|rfl|(congr 1;omega),rfl⟩
     ·have hg1:decide((root:Int)<(row:Int))=false:=decide_eq_false(by omega);have hg2:decide(root<row)=false:=decide_eq_false hgt;have hzi:row=i:=by have:=HIE.out;unfold Co at this;rw[if_neg hgt]at this;exact this.symm
      have HZ:Hid(row=i):=hzi;clear hzi;go_wp2_with fail;go_meet
      case rel=>exact⟨by rw[HZ.out],rfl⟩
    case rest=>
     obtain⟨rfl,rfl⟩:=hcut;obtain⟨hiS,hSi⟩:=HG.out i(by rw[←HN.out];exact hin);have c0:wr.cell?⟨w.heap.size,j,none⟩=some(.int .u8 0):=by
      rw[cell_of_row _ _ j _ _ _ HR.out.1];simpa using Uc t j
     have f0:wr.frozen?⟨w.heap.size,j,none⟩=false:=frozen_of_row _ _ j _ _ HR.out.1;have hiI:(i:Int)<(S.size:Int):=by omega
     have hiN:(i:Int)<(n:Int):=by omega
     have hjn:(j:Int)<(n:Int):=by omega
     have HSi:Hid(S[i]=col.getD i 0):=hSi;clear hSi;go_wp2_with fail;generalize S[i]=c at*;have HRW:Hid((wr.setCell⟨w.heap.size,j,none⟩(.int .u8(c.toNat:Nat))).heap[w.heap.size]?=some(.cells(D0(c::t)j).toArray 5(0,0))∧Aa(fun _=>False)w(wr.setCell⟨w.heap.size,j,none⟩(.int .u8(c.toNat:Nat)))):=by
      refine⟨?_,HR.out.2.setCell(p:=⟨w.heap.size,j,none⟩)(.inl(Alc _))_⟩;rw[heap_setCell_same wr w.heap.size j _ _ _ HR.out.1,←Ub];congr 2;apply Amm;simp
     generalize wr.setCell⟨w.heap.size,j,none⟩(.int .u8(c.toNat:Nat))=W1 at*;clear c0 f0;have hcn:=c.toNat_lt
     go_loopw [12,13](fun v12 v13 wq=> ∃q:Nat,q≤n∧v13= .int .i64 q∧v12= .int .i64(Ft col c i q:Nat)∧wq=W1)(fun _ v13 _=>n-(intOf v13).toNat)
     case atStart=>exact⟨0,Alk _,rfl,rfl,rfl⟩
     case round=>
      obtain⟨q,hq,rfl,rfl,rfl⟩:=hrel;have hlq:Ft col c i q≤q:=Yg _ _
      by_cases hqn:q<n
      ·have hqI:(q:Int)<(n:Int):=by omega
       obtain⟨hqS,hSq⟩:=HG.out q(by rw[←HN.out];exact hqn);have hqSI:(q:Int)<(S.size:Int):=by omega
       have HNX:Hid(Ft col c i(q+1)=Ft col c i q+(Ky col c i q).toNat):=rfl;have HSq:Hid(S[q]=col.getD q 0):=hSq;clear hSq;have HAH:Hid(Ky col c i q=(decide(S[q].toNat<c.toNat)||(decide(S[q].toNat=c.toNat)&&decide(q<i)))):=by
        show _=_;unfold Ky;rw[←HSq.out];congr 1;congr 1
        by_cases e:S[q]=c
        ·rw[e];simp
        ·have e2: ¬S[q].toNat=c.toNat:=fun h=>e(UInt8.toNat_inj.1 h);rw[decide_eq_false e2];simpa using e
       generalize Ft col c i q=ls at*
       by_cases hA:S[q].toNat<c.toNat
       ·have d1:decide((S[q].toNat:Int)<(c.toNat:Int))=true:=decide_eq_true(by omega);have d2:decide(S[q].toNat<c.toNat)=true:=decide_eq_true hA;have d3:decide(S[q]<c)=true:=decide_eq_true hA;have HLS:Hid(Ft col c i(q+1)=ls+1):=by show _=_;rw[HNX.out,HAH.out,d2];rfl
        clear HAH HNX hA;go_wp2_with fail;go_roundw
        case rel=>exact⟨q+1,by omega,by go_num,by rw[HLS.out];go_num,trivial⟩
        case measure=>simp[intOf];omega
       ·have d1:decide((S[q].toNat:Int)<(c.toNat:Int))=false:=decide_eq_false(by omega);have d2:decide(S[q].toNat<c.toNat)=false:=decide_eq_false hA;have d3:decide(S[q]<c)=false:=decide_eq_false hA
        by_cases hB:S[q].toNat=c.toNat
        ·have b1:((S[q].toNat:Int)==(c.toNat:Int))=true:=by rw[beq_iff_eq];omega
         have b3:(S[q]==c)=true:=by rw[beq_iff_eq];exact UInt8.toNat_inj.1 hB
         by_cases hD:q<i
         ·have e1:decide((q:Int)<(i:Int))=true:=decide_eq_true(by omega);have HLS:Hid(Ft col c i(q+1)=ls+1):=by show _=_;rw[HNX.out,HAH.out,d2,decide_eq_true hB,decide_eq_true hD];rfl
          clear HAH HNX hA hB;go_wp2_with fail;go_roundw
          case rel=>exact⟨q+1,by omega,by go_num,by rw[HLS.out];go_num,trivial⟩
          case measure=>simp[intOf];omega
         ·have e1:decide((q:Int)<(i:Int))=false:=decide_eq_false(by omega);have HLS:Hid(Ft col c i(q+1)=ls):=by show _=_;rw[HNX.out,HAH.out,d2,decide_eq_true hB,decide_eq_false hD];rfl
          clear HAH HNX hA hB;go_wp2_with fail;go_roundw
          case rel=>exact⟨q+1,by omega,by go_num,by rw[HLS.out],trivial⟩
          case measure=>simp[intOf];omega
        ·have b1:((S[q].toNat:Int)==(c.toNat:Int))=false:=by rw[beq_eq_false_iff_ne];omega
         have b3:(S[q]==c)=false:=by rw[beq_eq_false_iff_ne];exact fun e=>hB(by rw[e])
         have HLS:Hid(Ft col c i(q+1)=ls):=by show _=_;rw[HNX.out,HAH.out,d2,decide_eq_false hB];rfl
         clear HAH HNX hA hB;go_wp2_with fail;go_roundw
         case rel=>exact⟨q+1,by omega,by go_num,by rw[HLS.out],trivial⟩
         case measure=>simp[intOf];omega
      ·have hqn2:q=n:=by omega
       have hqI: ¬(q:Int)<(n:Int):=by omega
       have HFIN:Hid(G6 col root(k+1)=some(c::t,1+Ft col c i q)∧1+Ft col c i q≤n):=by
        have h1:=HRN.out;rw[←HSi.out,←hqn2]at h1;exact⟨h1,by rw[HN.out];exact(Tj col root(by rw[←HN.out];exact hr)_ _ _ h1).1⟩
       generalize Ft col c i q=ls at*;have hwj:IntKind.i64.wrap((j:Int)-1)=(j:Int)-1:=by rw[IntKind.wrap_i64];omega
       clear hqn2;go_wp2_with fail;go_roundw
       case rel=>exact⟨j,k+1,1+ls,c::t,by omega,rfl,by go_num,HFIN.out.1,HFIN.out.2,HRW.out.1,HRW.out.2⟩
       case measure=>simp[intOf]
end Go.Proofs.YtegnkfdbmmndaaaGreat
namespace Go.Proofs.YtegnkfdbmmndaaaGreat
open Hm
namespace Hm
theorem Na(x:Nat): ∀k,C3(Ak x k)=x%256^k
 |0=>by simp[Ak,C3,Nat.mod_one]
 |k+1=>by
  rw[Ak,Rc,Na x k,Cz,Nat.mod_pow_succ];have:C3 [UInt8.ofNat(x/256^k)]=x/256^k%256:=by simp[C3]
  rw[this]
theorem Q5(x k:Nat)(h:x<256^k):C3(Ak x k)=x:=by rw[Na,Amr h]
theorem Oz(a b:List UInt8)(k:Nat)(h:a.length=k):A8(some(a++b))k=(a,some b):=by
 subst h;rw[F6(by rw[Ald];omega),Aof,List.drop_left]
theorem Mf(x k:Nat)(b:List UInt8)(h:x<256^k):Bx(some(Ak x k++b))k=(x,some b):=by
 unfold Bx;rw[Oz _ _ _(Cz x k),Q5 x k h]
theorem Jg(x:Nat):Ak x 1=[UInt8.ofNat x]:=by simp[Ak]
theorem Up(fs:List(ByteArray×ByteArray))(b:List UInt8)(hs: ∀f∈fs,f.1.size≤32): ∀k,k≤fs.length→Au k(some(Aq fs++b))=((fs.take k).map(·.1),some(Aq(fs.drop k)++b))
 |0,_=>by simp[Au]
 |k+1,hk=>by
  have ih:=Up fs b hs k(by omega);have hkl:k<fs.length:=by omega
  have hsz:=hs fs[k](Alh hkl);have e:Aq(fs.drop k)=Ak fs[k].1.size 1++(fs[k].1.data.toList++Aq(fs.drop(k+1))):=by
   rw[Alt hkl,Jg];unfold Aq;rw[Al2];simp
  rw[Au,ih,e,Alo,Mf _ _ _(by omega),Alo,Oz _ _ _(by simp)];rw[Ale hkl,Amp];rfl
def Hz(L:List Nat)(l:List UInt8):List Nat:=(List.range 256).map fun j=>if UInt8.ofNat j∈l then L.getD j 0 else 0
theorem Hk(L:List Nat)(l:List UInt8):(Hz L l).length=256:=by unfold Hz;rw[Alu,Ani]
theorem Uq(L:List Nat)(l:List UInt8)(b:UInt8):(Hz L l).set b.toNat(L.getD b.toNat 0)=Hz L(l++[b]):=by
 apply Al1(by rw[Al8,Hk,Hk]);intro j h1 h2;rw[Hk]at h2;rw[Anf];unfold Hz;simp only[Aml,Anv,Aoa,List.mem_singleton]
 by_cases e:b.toNat=j
 ·subst e;simp
 ·have: ¬UInt8.ofNat j=b:=fun x=>e(by rw[←x];simp;omega);rw[if_neg e];simp[this]
theorem Ww(L:List Nat)(l b:List UInt8)(hL: ∀x∈L,x≤255): ∀k,k≤l.length→Bt(some(Bs L l++b))k=(Hz L(l.take k),some(Bs L(l.drop k)++b))
 |0,_=>by
  have:Hz L []=List.replicate 256 0:=by
   apply Al1(by rw[Hk,Alf]);intro j h1 h2;unfold Hz;simp only[Aml,List.getElem_replicate,List.not_mem_nil,if_false]
  rw[Bt,Aoe,List.drop_zero,this]
 |k+1,hk=>by
  have ih:=Ww L l b hL k(by omega);have hkl:k<l.length:=by omega
  have hx:L.getD l[k].toNat 0≤255:=by
   rw[Ak7];cases h:L[l[k].toNat]? with
   |none=>simp
   |some y=>exact hL y(List.mem_of_getElem? h)
  have e:Bs L(l.drop k)=[l[k],UInt8.ofNat(L.getD l[k].toNat 0)]++Bs L(l.drop(k+1)):=by
   rw[Alt hkl];rfl
  rw[Bt,ih,Gy];simp only;rw[e,Alo,Oz _ _ 2 rfl];simp only[List.getD_cons_zero,List.getD_cons_succ];rw[Ale hkl,←Uq];simp only[Prod.mk.injEq,and_true];congr 1;rw[Al0];omega
end Hm
namespace Hm
theorem Acr(L:List Nat)(j:Nat)(hj:j<256):UInt8.ofNat j∈Ai L↔0<L.getD j 0:=by
 unfold Ai Bm;rw[List.mem_map];constructor
 ·rintro⟨i,hi,e⟩;obtain⟨h1,h2⟩:=List.mem_filter.1 hi;have h1':=List.mem_range.1 h1;have e2:=congrArg UInt8.toNat e;rw[Al0,Al0,Amr(by omega),Amr(by omega)]at e2;subst e2;exact of_decide_eq_true h2
 ·intro h;exact⟨j,List.mem_filter.2⟨List.mem_range.2 hj,decide_eq_true h⟩,rfl⟩
theorem Agu(L:List Nat)(l:List UInt8)(j:Nat)(hj:j<256):(Hz L l)[j]?=some(if UInt8.ofNat j∈l then L.getD j 0 else 0):=by
 unfold Hz;rw[Aln,Ame hj];rfl
theorem Su(L:List Nat)(hL:L.length=256):Hz L(Ai L)=L:=by
 apply List.ext_getElem?;intro j
 by_cases hj:j<256
 ·have hm:=Acr L j hj;have e:L.getD j 0=L[j]:=by rw[Ak7,Ak8(by omega)];rfl
  rw[Agu L _ j hj,Ak8(by omega),←e];split
  ·rfl
  ·rename_i hn;rw[hm]at hn;rw[show L.getD j 0=0 by omega]
 ·rw[Als(by rw[Hk];omega),Als(by omega)]
theorem Akt(L:List Nat)(b:List UInt8)(hL:L.length=256)(hx: ∀x∈L,x≤255):rdL(some(Ak(Ai L).length 2++(Bs L(Ai L)++b)))=(L,some b):=by
 have hc:=E4 L 256;have hc':(Ai L).length≤256:=hc;unfold rdL;rw[Mf _ _ _(by omega)];show Bt(some(Bs L(Ai L)++b))(Ai L).length=_;rw[Ww L(Ai L)b hx _(Alc _),Alx,Amy,Su L hL];rfl
theorem Ajz(fs:List(ByteArray×ByteArray))(n r:Nat)(X:List UInt8)(hm:fs.length≤255)(hn:n<65536)(hr:r≤n)(hs: ∀f∈fs,f.1.size≤32):
  let s:=[72,79,65,82,68,49,UInt8.ofNat fs.length]++(Ak n 2++(Ak r 2++(Aq fs++X)))
  (rdF s).1=fs.length∧(rdN s).1=n∧(rdR s).1=r∧rdM s=(fs.map(·.1),some X):=by
 intro s;have e0:s=[72,79,65,82,68,49]++(Ak fs.length 1++(Ak n 2++(Ak r 2++(Aq fs++X)))):=by rw[Jg];rfl
 have e1:rdA s=some(Ak fs.length 1++(Ak n 2++(Ak r 2++(Aq fs++X)))):=by
  unfold rdA;rw[e0,Oz _ _ 6 rfl,ByteArray.toList_eq];rfl
 have e2:rdF s=(fs.length,some(Ak n 2++(Ak r 2++(Aq fs++X)))):=by
  unfold rdF;rw[e1,Mf _ _ _(by omega)]
 have e3:rdN s=(n,some(Ak r 2++(Aq fs++X))):=by
  unfold rdN;rw[e2];exact Mf _ _ _(by omega)
 have e4:rdR s=(r,some(Aq fs++X)):=by
  unfold rdR;rw[e3];exact Mf _ _ _(by omega)
 have e5:rdB s=some(Aq fs++X):=by
  unfold rdB;rw[e4,e3];exact if_pos(decide_eq_true hr)
 refine⟨by rw[e2],by rw[e3],by rw[e4],?_⟩;unfold rdM;rw[e2,e5];show Au fs.length _=_;rw[Up fs X hs _(Alc _),Alx,Amy];rfl
end Hm
namespace Hm
theorem Ae2(f:Nat→Bool)(bs:List Bool)(h: ∀p,p<bs.length→f p=bs.getD p false): ∀q,q≤bs.length→rk f q=(bs.take q).countP id
 |0,_=>by simp[rk]
 |q+1,hq=>by
  have ih:=Ae2 f bs h q(by omega);have e:rk f(q+1)=rk f q+(f q).toNat:=rfl;have h1:=h q(by omega);have e2:bs.take(q+1)=bs.take q++[bs.getD q false]:=by
   rw[List.take_add_one,Ak7,Ak8(show q<bs.length by omega)];rfl
  rw[e,e2,Am0,←ih,h1];cases bs.getD q false<;>rfl
theorem Acs(n:Nat):(List.range(n+1)).countP(fun p=>decide(p%8=0))=n/8+1:=by
 induction n with
 |zero=>rfl
 |succ n ih=>
  rw[Anb,Am0,ih,Amo,List.countP_nil]
  by_cases h:(n+1)%8=0
  ·rw[decide_eq_true h];simp;omega
  ·rw[decide_eq_false h];simp;omega
theorem Vg(bits:List Bool):(Ah bits).length=szB bits.length:=A4 bits
theorem Agv{n:Nat}{ps:List Nat}(h:ps.Perm(List.range(n+1)))(X:List UInt8):Gm(Ah(Dd ps)++X)n∧(Ah(Dd ps)++X).drop(szB(Ay n))=X:=by
 have hl:ps.length=n+1:=by have:=h.length_eq;simpa using this
 have hc:ps.countP(fun p=>decide(p%8=0))=n/8+1:=by rw[h.countP_eq,Acs]
 have hs:(Dd ps).length=Ay n:=Ki h;have hz:(Ah(Dd ps)).length=szB(Ay n):=by rw[Vg,hs]
 have ht:(Ah(Dd ps)++X).take(szB(Ay n))=Ah(Dd ps):=by rw[←hz,Aof]
 refine⟨⟨by rw[Ald];omega,?_⟩,by rw[←hz,List.drop_left]⟩;rw[ht,Ae2 _(Dd ps)(fun p _=>Oi _ p)(n+1)(by rw[hs];unfold Ay;omega)];unfold Dd;rw[List.take_left'(by rw[Alu,hl]),List.countP_map,←hc];rfl
end Hm
namespace Hm
theorem Cq.unique{fs:List(ByteArray×ByteArray)}(hn:(Ae fs).length≤6000){s s':List UInt8}(h:Cq fs s)(h':Cq fs s'):s=s':=by
 obtain⟨ps,N,hps,_,hE,rfl⟩:=h.is;obtain⟨ps',N',hps',_,hE',rfl⟩:=h'.is;obtain rfl:=hps.unique hps';have hC:=Hs(Ae fs)hn;have hm: ∀b∈Ar(Ae fs)ps,b∈Af(lens(Ae fs)):=fun b hb=>(N0 _ hn b).2(Mv hps.perm b hb)
 by_cases h0:Af(lens(Ae fs))=[]
 ·have hc:Ar(Ae fs)ps=[]:=by
   cases e:Ar(Ae fs)ps with
   |nil=>rfl
   |cons b r=>have:=hm b(by rw[e];exact Ali ..);rw[h0]at this;simp at this
  rw[hc];unfold Dw;rw[It,It]
 ·have hh:=hE.nodes.heads hC.numk(fun j hj=>hE.side0 h0 j(by rw[hE.len]at hj;exact hj))hC.num_lt(fun b hb=>(hC.mem b).2 hb);rw[Me hC hE hm hh,Me hC hE' hm hh]
theorem Og{n:Nat}{ps:List Nat}(h:ps.Perm(List.range(n+1)))(i:Nat)(hi:i<ps.length):ps[i]=0↔i=Bq ps:=by
 have hnd:ps.Nodup:=h.symm.nodup List.nodup_range;have hmem:0∈ps:=h.symm.subset(by simp);have hr:Bq ps<ps.length:=List.findIdx_lt_length_of_exists⟨0,hmem,by simp⟩;have hz:ps[Bq ps]=0:=by
  have:=List.findIdx_getElem(p:=fun x:Nat=>x==0)(xs:=ps)(w:=hr);exact eq_of_beq this
 constructor
 ·intro e;have hp:=List.pairwise_iff_getElem.1(List.nodup_iff_pairwise_ne.1 hnd);rcases Al4 i(Bq ps)with c|c|c
  ·exact absurd(e.trans hz.symm)(hp i _ hi hr c)
  ·exact c
  ·exact absurd(hz.trans e.symm)(hp _ i hr hi c)
 ·rintro rfl;exact hz
end Hm
namespace Hm
theorem Aiq{L:List Nat}{N N':Nat}{col:List UInt8}(hC:Bn L)(hE:Id 32(lnB L)(Af L)N)(hE':Id 32(lnB L)(Af L)N')(hm: ∀b∈col,b∈Af L):Dw L N col=Dw L N' col:=by
 by_cases h0:Af L=[]
 ·have hc:col=[]:=by
   cases e:col with
   |nil=>rfl
   |cons b r=>have:=hm b(by rw[e];exact Ali ..);rw[h0]at this;simp at this
  rw[hc];unfold Dw;rw[It,It]
 ·have hh:=hE.nodes.heads hC.numk(fun j hj=>hE.side0 h0 j(by rw[hE.len]at hj;exact hj))hC.num_lt(fun b hb=>(hC.mem b).2 hb);rw[Me hC hE hm hh,Me hC hE' hm hh]
section
variable{M:Nat}{ln num:UInt8→Nat}{o:List UInt8}{nds:List Nd}
theorem O0(h:Bj M ln o nds)(b:UInt8): ∀k,k≤nds.length→ ∀d,(∀j,j<k→Er ln num(Ab nds j)b=true→(Ab nds j).depth<d)→(List.range k).countP(fun j=>Er ln num(Ab nds j)b)≤d
 |0,_,d,_=>Alk _
 |k+1,hk,d,hd=>by
  rw[Anb,Am0,Amo,List.countP_nil]
  by_cases hu:Er ln num(Ab nds k)b=true
  ·have h1:=hd k(by omega)hu;have h2:=O0 h b k(by omega)(Ab nds k).depth(fun j hj hj2=>by
    have hs:=h.sorted j k hj(by omega);have e1:=(of_decide_eq_true hj2).2;have e2:=(of_decide_eq_true hu).2;rcases hs with c|⟨c1,c2⟩
    ·exact c
    ·rw[c1]at e1;omega)
   rw[if_pos hu];omega
  ·have h2:=O0 h b k(by omega)d(fun j hj hj2=>hd j(by omega)hj2);rw[if_neg hu];omega
theorem Oh(ln num:UInt8→Nat)(nds:List Nd)(N B:Nat)(hB: ∀b:UInt8,(List.range N).countP(fun j=>Er ln num(Ab nds j)b)≤B): ∀col:List UInt8,(A2 ln num nds col N).length≤col.length*B
 |[]=>by rw[It];simp
 |b::r=>by
  have ih:=Oh ln num nds N B hB r;have hb:=hB b;have key: ∀n,(A2 ln num nds(b::r)n).length=(List.range n).countP(fun j=>Er ln num(Ab nds j)b)+(A2 ln num nds r n).length:=by
   intro n;induction n with
   |zero=>simp[A2]
   |succ n ih2=>
    rw[E3,E3,Ald,Ald,ih2,Anb,Am0,Amo,List.countP_nil];unfold G0 Ap;rw[Alu,Alu,Ami]
    by_cases hu:Er ln num(Ab nds n)b=true
    ·rw[if_pos hu,if_pos hu,Alz];omega
    ·rw[if_neg hu,if_neg hu];omega
  rw[key,Alz,Am5];omega
end
theorem Aj0{L:List Nat}(hL:L.length=256)(b:UInt8):lnB L b≤Gj L:=by
 have hb:=b.toNat_lt;have e:lnB L b=L[b.toNat]:=by
  show L.getD b.toNat 0=_;rw[Ak7,Ak8(by omega)];rfl
 rw[e];exact Tb L _(Alh _)
theorem Aj1{l:List UInt8}{n:Nat}{L:List Nat}{st:B6}{col:List UInt8}(h:Fp l n L st)(c3:Rep(lnB L)(Bp L)(Al(l.take(szB(Fo l n L))))st.nds col)(c2: ∀b∈col,b∈Af L):K1(l.take(szB st.len))st.nds col:=by
 obtain⟨hC,hl⟩:=h;obtain⟨h0,hE⟩:=P9 hC;have hsh:=hE.nodes;have hlk:=Lo hl;have hinv:=Ol hsh hC.nodup rfl(Alc _)hl;have hle:=Lc hl;have hs2:=hsh.like hlk.1;have hll0:(Dz L).length=st.nds.length:=hlk.1.1.symm
 replace hinv:Lp(Al(l.take(szB(Fo l n L))))n(Dz L).length st:=hinv
 rw[hll0]at hinv;have hm:Fo l n L≤8*l.length:=Nat.min_le_left _ _;have hsz:st.len≤8*szB st.len:=by unfold szB;omega
 have hll:(l.take(szB st.len)).length=szB st.len:=by rw[Alg];unfold szB;omega
 have fits: ∀j,j<st.nds.length→(Ab st.nds j).frm+(Ab st.nds j).siz≤st.len:=fun j hj=>by
  rw[c3.frm j hj,hinv.len];exact Sg st.nds(show j+1≤st.nds.length by omega)
 refine⟨32,lnB L,Bp L,Af L,⟨c3.siz,c3.frm,fun j p hj hp=>?_⟩,hs2,hC.numk,c2,hC.pos,hC.num_lt,fun j hj=>?_⟩
 ·have hf:=fits j hj;rw[←c3.bit j p hj hp,K6 l _ _(by omega),K6 l _ _(by unfold szB;omega)]
 ·rw[hll];have hf:=fits j hj;omega
theorem Acu{M M':Nat}{ln num ln' num':UInt8→Nat}{o o' l col col':List UInt8}{nds:List Nd}(h:S9 M ln num o l nds col)(h':S9 M' ln' num' o' l nds col'){a:Nat}: ∀d n q,nds.length-n≤d→Way ln num nds col a n q→Way ln' num' nds col' a n q→col.getD a 0=col'.getD a 0
 |0,n,q,hd,w,_=>by have:=w.lt;omega
 |d+1,n,q,hd,w,w'=>by
  obtain⟨u,hu,hf,hc⟩:=w.step h.rep h.shp h.numk h.mem;obtain⟨u',hu',hf',hc'⟩:=w'.step h'.rep h'.shp h'.numk h'.mem;have e:u=u':=by
   rw[hf]at hf';have:=decide_eq_decide.1 hf';omega
  subst e;rcases hc with⟨b1,_⟩|⟨m,hm0,hm1,b1,w2⟩
  ·rcases hc' with⟨b2,_⟩|⟨m',_,_,b2,_⟩
   ·rw[b1]at b2;injection b2
   ·rw[b1]at b2;cases b2
  ·rcases hc' with⟨b2,_⟩|⟨m',_,_,b2,w2'⟩
   ·rw[b1]at b2;cases b2
   ·rw[b1]at b2;have em:m=m':=by injection b2
    subst em;exact Acu h h' d m _(by omega)w2 w2'
theorem K1.unique{l col col':List UInt8}{nds:List Nd}(h:K1 l nds col)(h':K1 l nds col')(hl:col.length=col'.length):col=col':=by
 obtain⟨M,ln,num,o,h⟩:=h;obtain⟨M',ln',num',o',h'⟩:=h';apply Al1 hl;intro a h1 h2;have e:=Acu h h' _ 0 a(Alc _)(Way.start h.shp h.mem h.pos h.num h1)(Way.start h'.shp h'.mem h'.pos h'.num h2);rw[Ak7,Ak8 h1,Ak7,Ak8 h2]at e;exact e
theorem Agw{L:List Nat}{N:Nat}{col:List UInt8}(hC:Bn L)(hE:Id 32(lnB L)(Af L)N)(hm: ∀b∈col,b∈Af L)(X:List UInt8):
  ∃st,Fp(Ah(Dw L N col)++X)col.length L st∧szB st.len=(Ah(Dw L N col)).length∧K1((Ah(Dw L N col)++X).take(szB st.len))st.nds col:=by
 obtain⟨h0,hE'⟩:=P9 hC;rw[Aiq hC hE hE' hm];have hlen:(Dz L).length=Gr L:=hE'.len;have htl:(Dw L(Gr L)col).length=(A2(lnB L)(Bp L)(Dz L)col(Dz L).length).length:=by
  unfold Dw;rw[Alu,hlen];rfl
 have hfew:=Oh(lnB L)(Bp L)(Dz L)(Dz L).length(Gj L)(fun b=>by
  refine Alr(O0 hE'.nodes b _(Alc _)(lnB L b)(fun j _ hj=>(of_decide_eq_true hj).1))(Aj0 hC.len b))col
 have hmost:(A2(lnB L)(Bp L)(Dz L)col(Dz L).length).length≤Fo(Ah(Dw L(Gr L)col)++X)col.length L:=by
  unfold Fo;refine Nat.le_min.2⟨?_,hfew⟩;rw[Ald,A4,htl];omega
 obtain⟨st,q1,q2,q3,q4,-⟩:=Akh(f:=Al((Ah(Dw L(Gr L)col)++X).take(szB(Fo(Ah(Dw L(Gr L)col)++X)col.length L))))hE'.nodes hC.nodup hC.numk hm hC.pos hC.num_lt(fun k hk=>by
  have hk':k<(Dw L(Gr L)col).length:=by rw[htl];exact hk
  rw[K6 _ _ _(by unfold szB;have:=hmost;have hk2:k<(A2(lnB L)(Bp L)(Dz L)col(Dz L).length).length:=hk;omega)];have e1:Al(Ah(Dw L(Gr L)col)++X)k=Al(Ah(Dw L(Gr L)col))k:=by
   rw[←K6(Ah(Dw L(Gr L)col)++X)(Ah(Dw L(Gr L)col)).length k(by rw[A4];omega),Aof]
  rw[e1,Oi];unfold Dw;rw[Ak7,Aln,hE'.len];have hk3:k<(A2(lnB L)(Bp L)(Am(lnB L)(Af L)(2*Gr L)).1 col(Gr L)).length:=by
   have hk2:k<(A2(lnB L)(Bp L)(Dz L)col(Dz L).length).length:=hk;rw[hlen]at hk2;exact hk2
  rw[Ak7,Ak8 hk3];rfl)hmost
 have q2':st.len=(A2(lnB L)(Bp L)(Dz L)col(Dz L).length).length:=q2;have hok:Fp(Ah(Dw L(Gr L)col)++X)col.length L st:=⟨hC,q1⟩;refine⟨st,hok,by rw[Vg,htl,q2'],Aj1 hok q4 hm⟩
end Hm
end Go.Proofs.YtegnkfdbmmndaaaGreat
