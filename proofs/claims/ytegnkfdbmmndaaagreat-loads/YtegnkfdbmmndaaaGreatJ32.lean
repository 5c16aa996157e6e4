import Derived.Test.YtegnkfdbmmndaaaGreatJ00
import Derived.Test.YtegnkfdbmmndaaaGreatJ29
import Derived.Test.YtegnkfdbmmndaaaGreatJ31
import Derived.Test.YtegnkfdbmmndaaaGreatJ20
import Derived.Test.YtegnkfdbmmndaaaGreatJ08
import Derived.Test.YtegnkfdbmmndaaaGreatJ22
import Derived.Test.YtegnkfdbmmndaaaGreatJ24
import Derived.Test.YtegnkfdbmmndaaaGreatJ17
import Derived.Test.YtegnkfdbmmndaaaGreatJ23
import Derived.Test.YtegnkfdbmmndaaaGreatJ04

namespace Go.Proofs.YtegnkfdbmmndaaaGreat
open Hm
namespace Hm
theorem Acm(hd:List (List Bool))(i ones C1:Nat)(sz:List Nat)(k:Nat)(hk:k<sz.length): ∀j,(E3 hd i ones C1 sz j).getD k 0=if i<k∧k<i+1+j∧hd.getD k []=hd.getD i []++[true]then ones else if i<k∧k<i+1+j∧hd.getD k []=hd.getD i []++[false]then C1 else sz.getD k 0
 |0=>by
  rw[E3,if_neg (by omega),if_neg (by omega)]
 |j+1=>by
  have ih:=Acm hd i ones C1 sz k hk j;have hl:=Ks hd i ones C1 sz j;have hset: ∀x,((E3 hd i ones C1 sz j).set (i+1+j) x).getD k 0=if i+1+j=k then x else(E3 hd i ones C1 sz j).getD k 0:=fun x=>by
   rw[Ak6,List.getElem?_set,hl]
   by_cases c:i+1+j=k
   ·rw[if_pos c,if_pos c,if_pos (by omega)];rfl
   ·rw[if_neg c,if_neg c,←Ak6]
  have hne: ∀x:List Bool,x++[true]≠x++[false]:=fun x h=>by simp at h
  rw[E3]
  by_cases c:i+1+j=k
  ·subst c;have hI:(E3 hd i ones C1 sz j).getD (i+1+j) 0=sz.getD (i+1+j) 0:=by rw[ih,if_neg (by omega),if_neg (by omega)]
   by_cases c1:hd.getD (i+1+j) []=hd.getD i []++[true]
   ·rw[if_pos c1,hset,if_pos rfl,if_pos ⟨by omega,by omega,c1⟩]
   ·have n1: ¬(i<i+1+j∧i+1+j<i+1+(j+1)∧hd.getD (i+1+j) []=hd.getD i []++[true]):=fun h=>c1 h.2.2;rw[if_neg c1,if_neg n1]
    by_cases c2:hd.getD (i+1+j) []=hd.getD i []++[false]
    ·rw[if_pos c2,hset,if_pos rfl,if_pos ⟨by omega,by omega,c2⟩]
    ·have n2: ¬(i<i+1+j∧i+1+j<i+1+(j+1)∧hd.getD (i+1+j) []=hd.getD i []++[false]):=fun h=>c2 h.2.2;rw[if_neg c2,if_neg n2,hI]
  ·have e1: ∀P:Prop,(i<k∧k<i+1+(j+1)∧P)↔(i<k∧k<i+1+j∧P):=fun P=>⟨fun h=>⟨h.1,by omega,h.2.2⟩,fun h=>⟨h.1,by omega,h.2.2⟩⟩;simp only[e1];split
   ·rw[hset,if_neg c,ih]
   ·split
    ·rw[hset,if_neg c,ih]
    ·exact ih
theorem Ajx(c:List Bool):Ea c []=true:=Alb ⟨Alr _,rfl⟩
theorem Ain(c h:List Bool)(x:Bool):Ea c (h++[x])=(Ea c h&&decide (h.length<c.length)&&(c.getD h.length false==x)):=by
 unfold Ea;rw[Alg,List.length_singleton]
 by_cases c1:h.length<c.length
 ·have e:c.take (h.length+1)=c.take h.length++[c.getD h.length false]:=by
   rw[Ali c1,Ak6,Ak7 c1];rfl
  rw[e]
  by_cases c2:c.take h.length=h
  ·rw[Alb (show h.length≤c.length∧c.take h.length=h from⟨by omega,c2⟩),Alb c1,c2]
   by_cases c3:c.getD h.length false=x
   ·rw[c3,Aoi];exact Alb ⟨by omega,rfl⟩
   ·rw[Al5.2 c3];exact Ald (fun z=>c3 (by simpa using z.2))
  ·rw[Ald (show¬(h.length≤c.length∧c.take h.length=h)from fun z=>c2 z.2)];exact Ald (fun z=>c2 (List.append_inj_left' z.2 (by simp)))
 ·rw[Ald (show¬(h.length+1≤c.length∧_)from fun z=>c1 (by omega)),Ald c1];simp
theorem Ki(cd:UInt8→List Bool)(h:List Bool)(col:List UInt8):(Ax cd h col).length=col.countP fun b=>Ea (cd b) h:=by
 unfold Ax;rw[Al6,Aow]
structure Gb(o hd:List (List Bool))(col:List UInt8):Prop where
 len:o.length=256
 heads:Er (cdL o) hd
 pre: ∀b:UInt8,cdL o b≠[]→ ∀h∈hd,Ea (cdL o b) h=true→h.length<(cdL o b).length
 inj: ∀b b':UInt8,cdL o b≠[]→cdL o b=cdL o b'→b=b'
 short: ∀b:UInt8,(cdL o b).length≤255
 col: ∀b∈col,cdL o b≠[]
section
variable {o hd:List (List Bool)} {col:List UInt8}
theorem Gb.ones(H:Gb o hd col){h:List Bool}(hh:h∈hd):(Ax (cdL o) h col).count true=(Ax (cdL o) (h++[true]) col).length∧(Ax (cdL o) h col).length-(Ax (cdL o) h col).count true=(Ax (cdL o) (h++[false]) col).length:=by
 have e: ∀x,(Ax (cdL o) h col).count x=(Ax (cdL o) (h++[x]) col).length:=fun x=>by
  rw[Ki];unfold Ax;rw[List.count,List.countP_map,List.countP_filter];refine List.countP_congr fun b hb=>?_;show((cdL o b).getD h.length false==x&&Ea (cdL o b) h)=true↔_;rw[Ain];cases c:Ea (cdL o b) h
  ·simp
  ·rw[Alb (H.pre b (H.col b hb) h hh c)];simp
 refine⟨e true,?_⟩;rw[←e false];have key: ∀l:List Bool,l.length=l.count true+l.count false:=by
  intro l;induction l with
  |nil=>rfl
  |cons b r ih=>cases b<;>simp<;>omega
 have:=key (Ax (cdL o) h col);omega
theorem Gb.nodup(H:Gb o hd col){i j:Nat}(hi:i<hd.length)(hj:j<hd.length)(e:hd[i]=hd[j]):i=j:=by
 have hp:=List.pairwise_iff_getElem.1 H.heads.srt;rcases Ami i j with c|c|c
 ·have:=hp i j hi hj c;rw[e]at this;exact absurd this (P3 _ _ this)
 ·exact c
 ·have:=hp j i hj hi c;rw[e]at this;exact absurd this (P3 _ _ this)
theorem Gb.parent(H:Gb o hd col){k:Nat}(hk:k<hd.length)(h0:hd[k]≠[]): ∃i,∃hi:i<k,∃x,hd[k]=hd[i]++[x]:=by
 obtain⟨b,h1,h2⟩:=(H.heads.mem _).1 (Alo hk);have hl:0<hd[k].length:=List.length_pos_iff.2 h0;have hm:hd[k].dropLast∈hd:=(H.heads.mem _).2 ⟨b,by rw[List.length_dropLast];omega,by
  rw[List.dropLast_eq_take,←h2,List.take_take];rw[Aln];congr 1;rw[Aln];omega⟩
 obtain⟨i,hi,e⟩:=List.mem_iff_getElem.1 hm;have hp:=List.pairwise_iff_getElem.1 H.heads.srt;refine⟨i,?_,hd[k].getLast h0,by rw[e];exact(List.dropLast_concat_getLast h0).symm⟩;rcases Ami i k with c|c|c
 ·exact c
 ·subst c;have:=congrArg List.length e;rw[List.length_dropLast]at this;omega
 ·have:=hp k i hk hi c;unfold Mw at this;rw[e,List.length_dropLast]at this;omega
theorem Gb.first(H:Gb o hd col)(hk:0<hd.length):hd[0]=[]:=by
 by_cases h:hd[0]=[]
 ·exact h
 ·obtain⟨i,hi,_⟩:=H.parent hk h;omega
theorem Aed(cd:UInt8→List Bool)(hs:List (List Bool))(i:Nat):(Bw cd (hs.take i) col).length≤(Bw cd hs col).length:=by
 conv=>rhs;rw[←Amy i hs]
 unfold Bw;rw[Ana,Alg];omega
theorem Aee(cd:UInt8→List Bool)(hs:List (List Bool))(i:Nat):(Bw cd hs col).take (Bw cd (hs.take i) col).length=Bw cd (hs.take i) col:=by
 have e:Bw cd hs col=Bw cd (hs.take i) col++Bw cd (hs.drop i) col:=by
  unfold Bw;rw[←Ana,Amy]
 rw[e,Apc]
theorem Gb.rows(H:Gb o hd col){s:List UInt8}{fr:Nat}(hb: ∀m,m≤(Bw (cdL o) hd col).length→ ∃e,Cr s (fr,false) m=((Bw (cdL o) hd col).take m,(e,false))): ∀i,i≤hd.length→ ∃sz,sz.length=hd.length∧G3 s fr col.length hd i=some ((hd.take i).map fun h=>Ax (cdL o) h col,sz,(Bw (cdL o) (hd.take i) col).length)∧ ∀k,(hk:k<hd.length)→(k=0∨ ∃j,∃hj:j<hd.length,j<i∧ ∃x,hd[k]=hd[j]++[x])→sz.getD k 0=(Ax (cdL o) hd[k] col).length
 |0,_=>by
  refine⟨(List.replicate hd.length 0).set 0 col.length,by simp,rfl,fun k hk hc=>?_⟩;rcases hc with rfl|⟨j,_,hj,_⟩
  ·rw[H.first hk,Ki,Ak6,Aol (by simpa using hk)];rw[List.countP_eq_length.2 (fun b _=>Ajx _)];rfl
  ·omega
 |i+1,hi=>by
  obtain⟨sz,hzl,hr,hz⟩:=Gb.rows H hb i (by omega);have hil:i<hd.length:=hi;have hg:hd.getD i []=hd[i]:=by rw[Ak6,Ak7 hil];rfl
  have hzi:sz.getD i 0=(Ax (cdL o) hd[i] col).length:=by
   refine hz i hil ?_
   by_cases c:hd[i]=[]
   ·left;have h0:0<hd.length:=by omega
    exact H.nodup hil h0 (by rw[c,H.first h0])
   ·obtain⟨j,hj,x,e⟩:=H.parent hil c;exact .inr ⟨j,by omega,hj,x,e⟩
  have ht:=Oc (cdL o) hd col i hil;rw[hg]at ht;have hA:(Bw (cdL o) (hd.take i) col).length+sz.getD i 0=(Bw (cdL o) (hd.take (i+1)) col).length:=by rw[ht,Alg,hzi]
  obtain⟨e,hbits⟩:=hb _ (Aed (cdL o) hd (i+1));rw[Aee]at hbits;have hrow:(Bw (cdL o) (hd.take (i+1)) col).drop (Bw (cdL o) (hd.take i) col).length=Ax (cdL o) hd[i] col:=by rw[ht,List.drop_left]
  obtain⟨o1,o2⟩:=H.ones (Alo hil);refine⟨E3 hd i ((Ax (cdL o) hd[i] col).count true) ((Ax (cdL o) hd[i] col).length-(Ax (cdL o) hd[i] col).count true) sz (hd.length-(i+1)),by rw[Ks,hzl],?_,fun k hk hc=>?_⟩
  ·rw[G3,hr];simp only;rw[hA,hbits,if_neg (by simp)];simp only;rw[hrow];congr 2;rw[Ali hil,Am9];rfl
  ·rw[Acm _ _ _ _ _ _ (by omega),o2,o1];have hgk:hd.getD k []=hd[k]:=by rw[Ak6,Ak7 hk];rfl
   rw[hg,hgk]
   by_cases c1:i<k∧k<i+1+(hd.length-(i+1))∧hd[k]=hd[i]++[true]
   ·rw[if_pos c1,c1.2.2]
   ·rw[if_neg c1]
    by_cases c2:i<k∧k<i+1+(hd.length-(i+1))∧hd[k]=hd[i]++[false]
    ·rw[if_pos c2,c2.2.2]
    ·rw[if_neg c2];refine hz k hk ?_;rcases hc with h|⟨j,hj,h1,x,h2⟩
     ·exact .inl h
     ·by_cases c:j<i
      ·exact .inr ⟨j,hj,c,x,h2⟩
      ·have hji:j=i:=by omega
       subst hji;exfalso;have hlt:j<k:=by
        have hp:=List.pairwise_iff_getElem.1 H.heads.srt;rcases Ami j k with c|c|c
        ·exact c
        ·subst c;have:=congrArg List.length h2;rw[Alg]at this;simp at this
        ·have:=hp k j hk hj c;unfold Mw at this;rw[h2,Alg,List.length_singleton]at this;omega
       cases x
       ·exact c2 ⟨hlt,by omega,h2⟩
       ·exact c1 ⟨hlt,by omega,h2⟩
def K6(o hd:List (List Bool))(p:List UInt8)(b:UInt8)(j:Nat):List Nat:=hd.map fun h=>p.countP (fun x=>Ea (cdL o x) h)+if h.length<j∧Ea (cdL o b) h=true then 1 else 0
theorem Acn(o hd:List (List Bool))(p:List UInt8)(b:UInt8)(j r:Nat)(h:r<(K6 o hd p b j).length)(hr:r<hd.length):(K6 o hd p b j)[r]=p.countP (fun x=>Ea (cdL o x) hd[r])+if hd[r].length<j∧Ea (cdL o b) hd[r]=true then 1 else 0:=by
 simp only[K6,Am5]
theorem Gb.byte(H:Gb o hd col){p q:List UInt8}{b:UInt8}(hc:col=p++b::q): ∀f j,j<(cdL o b).length→(cdL o b).length≤j+f→F9 hd (hd.map fun h=>Ax (cdL o) h col) o f (K6 o hd p b j) ((cdL o b).take j)=some (b.toNat,K6 o hd p b (cdL o b).length)
 |0,j,h1,h2=>by omega
 |f+1,j,h1,h2=>by
  have hbn:cdL o b≠[]:=H.col b (by rw[hc];simp);obtain⟨h,hh⟩: ∃h,h=(cdL o b).take j:=⟨_,rfl⟩;have hhl:h.length=j:=by rw[hh,Aln];omega
  have hm:h∈hd:=(H.heads.mem _).2 ⟨b,by omega,by rw[hhl,hh]⟩;obtain⟨i,hi,e⟩:=List.mem_iff_getElem.1 hm;have hf:G6 hd h=some i:=Qc hi e (fun j' hj' e'=>by
   have:=H.nodup (show j'<hd.length by omega) hi (by rw[e',e]);omega)
  have hrow:(hd.map fun h=>Ax (cdL o) h col).getD i []=Ax (cdL o) h col:=by
   rw[Ak6,Alu,Ak7 hi,e];rfl
  have hnx:(K6 o hd p b j).getD i 0=(Ax (cdL o) h p).length:=by
   unfold K6;rw[Ak6,Alu,Ak7 hi,e];show _+(if h.length<j∧_ then 1 else 0)=_;rw[if_neg (by omega),Ki];rfl
  have hbeg:Ea (cdL o b) h=true:=Alb ⟨by omega,by rw[hhl,hh]⟩;have hsplit:Ax (cdL o) h col=Ax (cdL o) h p++((cdL o b).getD j false::Ax (cdL o) h q):=by
   unfold Ax;rw[hc,Ang,Am9,Am1,hbeg,if_pos rfl,Amu,hhl]
  have hnext:h++[(cdL o b).getD j false]=(cdL o b).take (j+1):=by
   rw[Ali h1,←hh,Ak6,Ak7 h1];rfl
  have hset:(K6 o hd p b j).set i ((Ax (cdL o) h p).length+1)=K6 o hd p b (j+1):=by
   apply Amf (by simp[K6]);intro r r1 r2;have hr:r<hd.length:=by simpa[K6]using r2
   rw[An8,Acn _ _ _ _ _ _ _ hr,Acn _ _ _ _ _ _ _ hr]
   by_cases c:i=r
   ·subst c;rw[if_pos rfl,e,if_pos ⟨by omega,hbeg⟩,Ki]
   ·rw[if_neg c];congr 1
    by_cases c1:hd[r].length<j∧Ea (cdL o b) hd[r]=true
    ·rw[if_pos c1,if_pos ⟨by omega,c1.2⟩]
    ·rw[if_neg c1,if_neg (fun z=>?_)];have hl:hd[r].length=j:=by
      rcases Am7 hd[r].length j with c2|c2
      ·exact absurd ⟨c2,z.2⟩ c1
      ·omega
     have:=(Aim _ _ z.2).2;rw[hl,←hh]at this;exact c (H.nodup hi hr (by rw[e,this]))
  rw[←hh,F9,hf];simp only;rw[hrow,hnx,if_neg (by rw[hsplit,Alg,Amc];omega)];have hbit:(Ax (cdL o) h col).getD (Ax (cdL o) h p).length false=(cdL o b).getD j false:=by
   rw[hsplit,Ak6,Alt (Ale _),Amr];rfl
  rw[hbit,hset,hnext];have hbl:b.toNat<o.length:=by have:=b.toNat_lt;have:=H.len;omega
  have hcd: ∀r,(hr:r<o.length)→o[r]=cdL o (UInt8.ofNat r):=fun r hr=>by
   unfold cdL;rw[Ame,Anb (by have:=H.len;omega),Ak6,Ak7 hr];rfl
  by_cases c:j+1=(cdL o b).length
  ·rw[c,Ama];have hfc:G6 o (cdL o b)=some b.toNat:=Qc hbl (by rw[hcd _ hbl,UInt8.ofNat_toNat]) (fun r hr e'=>by
    rw[hcd r (by omega)]at e';have:=congrArg UInt8.toNat (H.inj _ _ hbn e'.symm);rw[Ame]at this;have:=H.len;omega)
   rw[hfc]
  ·have hfc:G6 o ((cdL o b).take (j+1))=none:=Wp (fun r hr e'=>by
    rw[hcd r hr]at e';have hl:(cdL o (UInt8.ofNat r)).length=j+1:=by rw[e',Aln];omega
    have hmm:(cdL o b).take (j+1)∈hd:=(H.heads.mem _).2 ⟨b,by rw[Aln];omega,by rw[Aln,Ant (by omega)]⟩;have:=H.pre (UInt8.ofNat r) (fun z=>by rw[z]at hl;simp at hl) _ hmm (by rw[e'];exact Alb ⟨Ale _,by rw[Ama]⟩);rw[hl,Aln]at this;omega)
   rw[hfc];exact Gb.byte H hc f (j+1) (by omega) (by omega)
theorem Gb.bytes(H:Gb o hd col): ∀k,k≤col.length→Jh hd (hd.map fun h=>Ax (cdL o) h col) o k=some (col.take k,hd.map fun h=>(col.take k).countP fun x=>Ea (cdL o x) h)
 |0,_=>by
  rw[Jh];congr 2;apply Amf (by simp);intro i h1 h2;simp
 |k+1,hk=>by
  obtain⟨b,hb⟩: ∃b,b=col[k]:=⟨_,rfl⟩;have hc:col=col.take k++b::col.drop (k+1):=by
   rw[hb,←Al4 hk,Amy]
  have hbn:cdL o b≠[]:=H.col b (by rw[hb];exact Alo _);have hbl:0<(cdL o b).length:=List.length_pos_iff.2 hbn;have hs:=H.short b;have h1:=H.byte hc 256 0 hbl (by omega);have e0:K6 o hd (col.take k) b 0=hd.map fun h=>(col.take k).countP fun x=>Ea (cdL o x) h:=by
   unfold K6;refine Aoa fun h _=>?_;rw[if_neg (by omega)];rfl
  have e1:K6 o hd (col.take k) b (cdL o b).length=hd.map fun h=>(col.take (k+1)).countP fun x=>Ea (cdL o x) h:=by
   unfold K6;refine Aoa fun h hh=>?_;rw[Ali hk,←hb,Ann,Am8,List.countP_nil];congr 1;cases c:Ea (cdL o b) h
   ·simp
   ·rw[if_pos ⟨H.pre b hbn h hh c,rfl⟩,if_pos rfl]
  rw[e0,e1,Apb]at h1;rw[Jh,Gb.bytes H k (by omega)];simp only;rw[h1];simp only;rw[Ali hk,←hb,UInt8.ofNat_toNat]
theorem Gb.col_is(H:Gb o hd col){s:List UInt8}{fr:Nat}(hb: ∀m,m≤(Bw (cdL o) hd col).length→ ∃e,Cr s (fr,false) m=((Bw (cdL o) hd col).take m,(e,false))):Ji s fr col.length hd o=some col:=by
 obtain⟨sz,_,hr,_⟩:=H.rows hb hd.length (Ale _);rw[Ama]at hr;unfold Ji;rw[hr];simp only;rw[H.bytes col.length (Ale _),Ama];rfl
end
theorem Za(L:List Nat): ∀t s,cTo L t=some s→(∀x∈s.out,x.length≤t/256+1)∧s.code.length≤t/256+1∧(t%256=0→(∀x∈s.out,x.length≤t/256)∧s.code.length≤t/256)
 |0,s,h=>by
  rw[cTo]at h;injection h with h;subst h;refine⟨fun x hx=>?_,by simp,fun _=>⟨fun x hx=>?_,by simp⟩⟩
  ·rw[Aod hx];simp
  ·rw[Aod hx];simp
 |t+1,s,h=>by
  rw[cTo]at h;cases h0:cTo L t with
  |none=>rw[h0]at h;cases h
  |some s0=>
   rw[h0,Option.bind_some]at h;obtain⟨i1,i2,_⟩:=Za L t s0 h0;have key:(∀x∈s.out,x.length≤t/256+1)∧s.code.length≤t/256+1:=by
    unfold Mh at h;split at h
    ·cases h1:Kz s0 with
     |none=>rw[h1]at h;cases h
     |some R=>
      rw[h1,Option.map_some]at h;injection h with h;subst h;have hl:=Sj s0 R h1;have hp:=Ad8 (t/256+1) R (by omega);refine⟨fun x hx=>?_,by show(I2 _ _).length≤_;omega⟩;rcases An6 hx with h2|h2
      ·exact i1 x h2
      ·rw[h2,List.length_reverse];omega
    ·injection h with h;subst h;exact⟨i1,i2⟩
   refine⟨fun x hx=>?_,?_,fun hm=>⟨fun x hx=>?_,?_⟩⟩
   ·have:=key.1 x hx;omega
   ·have:=key.2;omega
   ·have:=key.1 x hx;omega
   ·have:=key.2;omega
theorem Aad{L:List Nat}{T:Nat}{one:Bool}{o:List (List Bool)}(h:Tc (cTo L T) one o true)(hT:T%256=0)(h2:T/256≤255): ∀x∈o,x.length≤255:=by
 cases h0:cTo L T with
 |none=>rw[h0]at h;cases h
 |some s=>
  rw[h0]at h;obtain⟨rfl,_⟩:=h;intro x hx;have:=((Za L T s h0).2.2 hT).1 x hx;omega
theorem Ch.short{L:List Nat}{o:List (List Bool)}(h:Ch L o true): ∀x∈o,x.length≤255:=by
 obtain⟨T,hT⟩: ∃T,T=65280:=⟨_,rfl⟩;unfold Ch at h;rw[←hT]at h;exact Aad h (by omega) (by omega)
end Hm
end Go.Proofs.YtegnkfdbmmndaaaGreat
namespace Go.Proofs.YtegnkfdbmmndaaaGreat
open Hm
open Go.RowKit
namespace Hm
def Cs(s:List UInt8)(st:RS):Nat→List Nat×RS
 |0=>(List.replicate 256 0,st)
 |i+1=>if(Cs s st i).2.2=true then Cs s st i else((Cs s st i).1.set (Cb s (Cs s st i).2 1).1 (Cb s (Cb s (Cs s st i).2 1).2 1).1,(Cb s (Cb s (Cs s st i).2 1).2 1).2)
theorem Kt(s:List UInt8)(st:RS): ∀i,(Cs s st i).1.length=256
 |0=>by rw[Cs,Alj]
 |i+1=>by
  rw[Cs];split
  ·exact Kt s st i
  ·show(List.set _ _ _).length=256;rw[Amn,Kt s st i]
theorem Te(s:List UInt8)(st:RS)(h:st.1≤s.length): ∀i,(Cs s st i).2.1≤s.length
 |0=>h
 |i+1=>by
  rw[Cs];split
  ·exact Te s st h i
  ·exact Lx s _ 1 (Lx s _ 1 (Te s st h i))
theorem Tf(s:List UInt8)(st:RS):(Cb s st 1).1<256:=by
 unfold Cb;split
 ·show 0<256;omega
 ·have h1:=Lw ((s.drop st.1).take 1);have h2:256^((s.drop st.1).take 1).length≤256^1:=Am2 (by omega) (by rw[Aln];omega);show C0 _<256;omega
theorem Zb(s:List UInt8)(st:RS)(i:Nat)(h:(Cs s st i).2.2=true): ∀m,Cs s st (i+m)=Cs s st i
 |0=>rfl
 |m+1=>by
  have ih:=Zb s st i h m;rw[←Anc,Cs,ih,if_pos h]
def Kj(s:List UInt8)(st:RS):List Nat×RS:=Cs s (Cb s st 2).2 (Cb s st 2).1
end Hm
theorem Ws:Tryz.zeroCells94=(Ac (List.replicate 256 0)).toArray:=by kernel_rfl
theorem Kk:(Tryz.prog.info? 94).map (·.size)=some 256:=by kernel_rfl
set_option maxRecDepth 20000 in
set_option maxHeartbeats 2000000 in
theorem Aco(p:Nat)(s:List UInt8)(st:Hm.RS)(w:World)(h:Cg w p s st)(hst:st.1≤s.length)(hs:s.length≤30000):
  Calls Tryz.prog 76 #[.pointer (some ⟨p,0,none⟩)] w fun e w'=>e= .returned (.agg (Ac (Kj s st).1).toArray)∧Cg w' p s (Kj s st).2∧Aa (fun j=>j=p) w w':=by
 have hpw:p<w.heap.size:=Alw h;obtain⟨W0,hW0⟩: ∃W0,W0=(w.alloc (.cells Tryz.zeroCells94 94)).alloc (.cells Tryz.zeroCells94 94):=⟨_,rfl⟩;have hb0:W0.heap[w.heap.size]?=some (.cells Tryz.zeroCells94 94 (0,0)):=by rw[hW0];exact Anw w _ _
 have hb1:W0.heap[w.heap.size+1]?=some (.cells (Ac (List.replicate 256 0)).toArray 94 (0,0)):=by rw[hW0,←Ws];exact Anx w _ _
 have hk0:Apd w W0:=by rw[hW0];exact((Aa.refl _ _).alloc _).alloc _
 have hnum:=Hz p 2 s st W0 (hk0.row h id) (Ale _) hst hs;have hat2:=Lx s st 2 hst;have HRL:Hid (Kj s st=Cs s (Cb s st 2).2 (Cb s st 2).1):=rfl;have hKb:(Cb s st 2).1<65536:=by
  unfold Cb;split
  ·show 0<65536;omega
  ·have h1:=Lw ((s.drop st.1).take 2);have h2:256^((s.drop st.1).take 2).length≤256^2:=Am2 (by omega) (by rw[Aln];omega);show C0 _<65536;omega
 obtain⟨K,hK⟩: ∃K,K=(Cb s st 2).1:=⟨_,rfl⟩;obtain⟨s1,hs1⟩: ∃x,x=(Cb s st 2).2:=⟨_,rfl⟩;rw[←hK]at hnum HRL hKb;rw[←hs1]at hnum HRL hat2;have H0:Hid (Apd w W0∧W0.heap[w.heap.size]?=some (.cells Tryz.zeroCells94 94 (0,0))∧W0.heap[w.heap.size+1]?=some (.cells (Ac (List.replicate 256 0)).toArray 94 (0,0))):=⟨hk0,hb0,hb1⟩;have HW:Hid (W0=(w.alloc (.cells Tryz.zeroCells94 94)).alloc (.cells Tryz.zeroCells94 94)):=hW0;clear h hb0 hb1 hk0 hW0 hK hs1
 go_enter Tryz.func76,Tryz.ntmps76
 go_wp2_with fail;rw[←HW.out];refine hnum.mono ?_;rintro e w1 ⟨rfl,hrd1,hk1⟩;have H1:Hid (Cg w1 p s s1∧Aa (fun j=>j=p) w w1∧w1.heap[w.heap.size]?=some (.cells Tryz.zeroCells94 94 (0,0))∧w1.heap[w.heap.size+1]?=some (.cells (Ac (List.replicate 256 0)).toArray 94 (0,0))):=
  ⟨hrd1,(H0.out.1.wider (T:=fun j=>j=p) (fun _ _ h=>h.elim)).trans hk1 (fun _ _ h=>h),hk1.row H0.out.2.1 (by omega),hk1.row H0.out.2.2 (by omega)⟩
 clear hnum hrd1 hk1 H0 HW;go_wp2_with fail
 go_loopw[5,6] (fun vi _ wr=> ∃i:Nat,i≤K∧vi= .int .i64 i∧Cg wr p s (Cs s s1 i).2∧Aa (fun j=>j=p) w wr∧wr.heap[w.heap.size]?=some (.cells Tryz.zeroCells94 94 (0,0))∧wr.heap[w.heap.size+1]?=some (.cells (Ac (Cs s s1 i).1).toArray 94 (0,0))) (fun vi _ _=>K-(intOf vi).toNat)
 case atStart=>exact⟨0,Alr _,rfl,H1.out⟩
 case round=>
  obtain⟨i,hi,rfl,hrd,hkr,hrow0,hrow1⟩:=hrel;have hrd':wr.heap[p]?=some (.cells #[.string ⟨s.toArray⟩,.int .i64 ((Cs s s1 i).2.1:Nat),.bool (Cs s s1 i).2.2] 145 (0,0)):=hrd;have cb:wr.cell? ⟨p,2,none⟩=some (.bool (Cs s s1 i).2.2):=Alc _ _ 2 _ _ _ hrd';rcases(show(i<K∧(Cs s s1 i).2.2=false)∨((¬i<K∨(i<K∧(Cs s s1 i).2.2=true))∧Cs s s1 K=Cs s s1 i)from by
    by_cases hlt:i<K
    ·cases hbad:(Cs s s1 i).2.2 with
     |false=>exact .inl ⟨hlt,rfl⟩
     |true=>
      refine .inr ⟨.inr ⟨hlt,rfl⟩,?_⟩;have:=Zb s s1 i hbad (K-i);rwa[show i+(K-i)=K from by omega]at this
    ·exact .inr ⟨.inl hlt,by rw[show K=i from by omega]⟩)with⟨hlt,hbad⟩|⟨hend,HFI'⟩
  ·have hltI:(i:Int)<(K:Int):=by omega
   have hdK:decide ((i:Int)<(K:Int))=true:=Alb hltI;rw[hbad]at cb;have hai:=Te s s1 hat2 i;have hlen:=Kt s s1 i;have HST:Hid (Cs s s1 (i+1)=((Cs s s1 i).1.set (Cb s (Cs s s1 i).2 1).1 (Cb s (Cb s (Cs s s1 i).2 1).2 1).1,(Cb s (Cb s (Cs s s1 i).2 1).2 1).2)):=by
    show _=_;rw[Cs,if_neg (by rw[hbad];simp)]
   obtain⟨L,hL⟩: ∃L,L=(Cs s s1 i).1:=⟨_,rfl⟩;obtain⟨st2,hst2⟩: ∃x,x=(Cs s s1 i).2:=⟨_,rfl⟩;rw[←hL]at hlen hrow1;rw[←hst2]at hai hrd;have HST2:Hid (Cs s s1 (i+1)=(L.set (Cb s st2 1).1 (Cb s (Cb s st2 1).2 1).1,(Cb s (Cb s st2 1).2 1).2)):=by rw[hL,hst2];exact HST.out
   have hn1:=Hz p 1 s st2 wr hrd (by omega) hai hs;have hai2:=Lx s st2 1 hai;have hc:=Tf s st2;have HR:Hid (Aa (fun j=>j=p) w wr∧wr.heap[w.heap.size]?=some (.cells Tryz.zeroCells94 94 (0,0))∧wr.heap[w.heap.size+1]?=some (.cells (Ac L).toArray 94 (0,0))):=⟨hkr,hrow0,hrow1⟩;clear hrd hrd' hkr hrow0 hrow1 HST hbad hL hst2;go_wp2_with fail;refine hn1.mono ?_;rintro e w2 ⟨rfl,hrd2,hk2⟩;have hn2:=Hz p 1 s _ w2 hrd2 (by omega) hai2 hs;have hx:=Tf s (Cb s st2 1).2;have HR2:Hid (Aa (fun j=>j=p) w w2∧w2.heap[w.heap.size]?=some (.cells Tryz.zeroCells94 94 (0,0))∧w2.heap[w.heap.size+1]?=some (.cells (Ac L).toArray 94 (0,0))):=⟨HR.out.1.trans hk2 (fun _ _ h=>h),hk2.row HR.out.2.1 (by omega),hk2.row HR.out.2.2 (by omega)⟩;generalize Cb s st2 1=y at*;obtain⟨c,st3⟩:=y;generalize Cb s st3 1=z at*;obtain⟨x,st4⟩:=z;clear hn1 hrd2 hk2 HR;go_wp2_with fail;refine hn2.mono ?_;rintro e w3 ⟨rfl,hrd3,hk3⟩;have HR3:Hid (Cg w3 p s st4∧Aa (fun j=>j=p) w w3∧w3.heap[w.heap.size]?=some (.cells Tryz.zeroCells94 94 (0,0))∧w3.heap[w.heap.size+1]?=some (.cells (Ac L).toArray 94 (0,0))):=⟨hrd3,HR2.out.1.trans hk3 (fun _ _ h=>h),hk3.row HR2.out.2.1 (by omega),hk3.row HR2.out.2.2 (by omega)⟩;have c0:w3.cell? ⟨w.heap.size+1,c,none⟩=some (.int .i64 (L.getD c 0:Nat)):=by
    rw[Alc _ _ c _ _ _ HR3.out.2.2.2];have hc':c<L.length:=by rw[hlen];exact hc
    simp[Ac,List.getElem?_eq_getElem hc']
   have f0:w3.frozen? ⟨w.heap.size+1,c,none⟩=false:=Alk _ _ c _ _ HR3.out.2.2.2;clear hn2 hrd3 hk3 HR2;have hcI:(c:Int)<256:=by have:c<256:=hc;omega
   have hc3:c<256:=hc;go_wp2_with fail;have hk4:Aa (fun j=>j=w.heap.size+1) w3 (w3.setCell ⟨w.heap.size+1,c,none⟩ (.int .i64 (x:Nat))):=(Aa.refl (fun j=>j=w.heap.size+1) w3).setCell (p:=⟨w.heap.size+1,c,none⟩) (.inr rfl) _;refine⟨⟨i+1,by omega,rfl,by rw[HST2.out];exact hk4.row HR3.out.1 (by omega),HR3.out.2.1.setCell (p:=⟨w.heap.size+1,c,none⟩) (.inl (Nat.le_succ _)) _,hk4.row HR3.out.2.2.1 (by omega),?_⟩,by show K-((i:Int)+1).toNat<K-((i:Int)).toNat;omega⟩;rw[Alf w3 (w.heap.size+1) c _ _ _ HR3.out.2.2.2,HST2.out];congr 2;simp[Ac,List.map_set]
  ·have HFI:Hid (Cs s s1 K=Cs s s1 i):=HFI';clear hrd' HFI';obtain⟨ARR,hARR⟩: ∃A,A=(Ac (Cs s s1 i).1).toArray:=⟨_,rfl⟩;have HAR:Hid (ARR=(Ac (Cs s s1 i).1).toArray):=hARR;rw[←hARR]at hrow1;have HZ:Hid (Cg wr p s (Cs s s1 i).2∧Aa (fun j=>j=p) w wr∧wr.heap[w.heap.size]?=some (.cells Tryz.zeroCells94 94 (0,0))∧wr.heap[w.heap.size+1]?=some (.cells ARR 94 (0,0))):=⟨hrd,hkr,hrow0,hrow1⟩;have hasz:ARR.size=256:=by rw[HAR.out,A2,Kt]
   have hall:ARR.all (·.oneCell')=true:=by rw[HAR.out];exact Eb _
   have hzs:Tryz.zeroCells94.size=ARR.size:=by rw[hasz,Ws,A2,Alj]
   clear hARR hrd hkr hrow0 hrow1;rcases hend with hlt|⟨hlt,hbad⟩
   ·have hltI: ¬(i:Int)<(K:Int):=by omega
    have hdK:decide ((i:Int)<(K:Int))=false:=Ald hltI;clear cb
    go_wp2_with(first
     |(refine Amd rfl 94 _ rfl (w.heap.size+1) rfl 94 ARR (0,0) _ HZ.out.2.2.2 Tryz.underlying94 rfl (by rw[hasz];exact Kk) ?_)
     |(refine wpList_store_row _ rfl 94 _ _ rfl w.heap.size 94 _ ARR rfl rfl HZ.out.2.2.1 (by rw[hasz];exact Kk) hzs hall ?_;intro w9 hw9 hk9))
    refine Amo (v:= .agg ARR) (Am3 Tryz.results76 _ w9 w.heap.size 94 ARR (0,0) _ rfl hw9 Tryz.underlying94 rfl (by rw[hasz];exact Kk)) rfl ⟨by rw[HAR.out,HRL.out,HFI.out],by rw[HRL.out,HFI.out];exact hk9.row HZ.out.1 (fun e=>by omega),HZ.out.2.1.trans hk9 (fun j hj e=>by omega)⟩
   ·have hltI:(i:Int)<(K:Int):=by omega
    have hdK:decide ((i:Int)<(K:Int))=true:=Alb hltI;rw[hbad]at cb;clear hbad
    go_wp2_with(first
     |(refine Amd rfl 94 _ rfl (w.heap.size+1) rfl 94 ARR (0,0) _ HZ.out.2.2.2 Tryz.underlying94 rfl (by rw[hasz];exact Kk) ?_)
     |(refine wpList_store_row _ rfl 94 _ _ rfl w.heap.size 94 _ ARR rfl rfl HZ.out.2.2.1 (by rw[hasz];exact Kk) hzs hall ?_;intro w9 hw9 hk9))
    refine Amo (v:= .agg ARR) (Am3 Tryz.results76 _ w9 w.heap.size 94 ARR (0,0) _ rfl hw9 Tryz.underlying94 rfl (by rw[hasz];exact Kk)) rfl ⟨by rw[HAR.out,HRL.out,HFI.out],by rw[HRL.out,HFI.out];exact hk9.row HZ.out.1 (fun e=>by omega),HZ.out.2.1.trans hk9 (fun j hj e=>by omega)⟩
namespace Hm
def Ku(col:List UInt8)(c:UInt8)(i q:Nat):Bool:=decide (col.getD q 0<c)||(col.getD q 0==c&&decide (q<i))
def Fr(col:List UInt8)(c:UInt8)(i j:Nat):Nat:=rk (Ku col c i) j
def Sq(col:List UInt8)(root row:Nat):UInt8×Nat:=(col.getD (Cl root row) 0,1+Fr col (col.getD (Cl root row) 0) (Cl root row) col.length)
def G4(col:List UInt8)(root:Nat):Nat→Option (List UInt8×Nat)
 |0=>some ([],0)
 |k+1=>match G4 col root k with
  |none=>none
  |some (t,row)=>if row=root then none else some ((Sq col root row).1::t,(Sq col root row).2)
theorem Yd(f:Nat→Bool): ∀n,rk f n≤n
 |0=>Ale _
 |n+1=>by have:=Yd f n;have:=Jq (f n);rw[rk];omega
theorem Aio(col:List UInt8)(i:Nat)(hi:i<col.length):Fr col (col.getD i 0) i col.length<col.length:=by
 have h0:Ku col (col.getD i 0) i i=false:=by
  unfold Ku;rw[Ald (show¬col.getD i 0<col.getD i 0 from UInt8.lt_irrefl _),Ald (show¬i<i by omega)];simp
 have h1: ∀n,i<n→rk (Ku col (col.getD i 0) i) n<n:=by
  intro n;induction n with
  |zero=>intro h;omega
  |succ n ih=>
   intro h;rw[rk];have:=Jq (Ku col (col.getD i 0) i n);rcases Nat.lt_or_eq_of_le (show i≤n by omega)with h2|h2
   ·have:=ih h2;omega
   ·subst h2;rw[h0];have:=Yd (Ku col (col.getD i 0) i) i;show _+0<_;omega
 exact h1 _ hi
theorem Tg(col:List UInt8)(root:Nat)(hr:root≤col.length): ∀k t row,G4 col root k=some (t,row)→row≤col.length∧t.length=k
 |0,t,row,h=>by
  injection h with h;injection h with h1 h2;subst h1 h2;exact⟨Alr _,rfl⟩
 |k+1,t,row,h=>by
  rw[G4]at h;split at h
  ·cases h
  ·rename_i t0 row0 h0;obtain⟨a1,a2⟩:=Tg col root hr k t0 row0 h0;split at h
   ·cases h
   ·rename_i hne;injection h with h;injection h with h1 h2;subst h1 h2;refine⟨?_,by rw[Amc,a2]⟩;have:=Aio col (Cl root row0) (L9 hr a1 hne);show 1+Fr col (col.getD (Cl root row0) 0) (Cl root row0) col.length≤_;omega
theorem Zc(col:List UInt8)(root:Nat)(k:Nat)(h:G4 col root k=none): ∀m,G4 col root (k+m)=none
 |0=>h
 |m+1=>by rw[←Anc,G4,Zc col root k h m]
def Pp(col:List UInt8)(root:Nat):Value:=match G4 col root col.length with
 |none=> .tuple #[.string ⟨#[]⟩,.bool false]
 |some (t,row)=> .tuple #[.string ⟨t.toArray⟩,.bool (decide (row=root))]
end Hm
set_option maxRecDepth 20000 in
set_option maxHeartbeats 2000000 in
theorem Aef(col:List UInt8)(root:Nat)(w:World)(hr:root≤col.length)(hn:col.length≤6000):
  Calls Tryz.prog 78 #[.string ⟨col.toArray⟩,.int .i64 root] w fun e w'=>e= .returned (Pp col root)∧Apd w w':=by
 obtain⟨i0,hi,hz0,hz1,hz2⟩:=Amz Ot;obtain⟨S,hS⟩: ∃S,S=(⟨col.toArray⟩:ByteArray):=⟨_,rfl⟩;have hSs:S.size=col.length:=by rw[hS];show col.toArray.size=_;simp
 have HG:Hid (∀q,(h:q<col.length)→ ∃hq:q<S.size,S[q]=col.getD q 0):=fun q hq=>by
  have h1:q<S.size:=by omega
  refine⟨h1,?_⟩;rw[Ak6,Ak7 hq];subst hS;rfl
 rw[←hS];obtain⟨n,hne⟩: ∃n,n=col.length:=⟨_,rfl⟩;rw[←hne]at hSs hr hn;have HN:Hid (n=col.length):=hne;clear hS hne
 go_enter Tryz.func78,Tryz.ntmps78
 go_wp2_with(at_make;refine Ane _ rfl (.tmp 16) (.tmp 16) 79 rfl w.heap.size 5 i0 (.int .u8 0) 1 Tryz.underlying79 hi hz0 hz1 .i64 .i64 _ _ n rfl rfl rfl rfl (by rw[hz2];omega) (by unfold maxLen;omega) (Ale _) ?_;intro w1 ho1 hg1)
 have hk1:Apd w w1:=(Aa.refl _ _).grown hg1 (fun k hk=>by cases hk);have hr1:w1.heap[w.heap.size]?=some (.cells (Dx [] n).toArray 5 (0,0)):=by
  rw[An3,show(Value.int .u8 0).cells= #[Value.int .u8 0]from rfl,An7]at ho1;rcases ho1.2 with⟨h1,_⟩|⟨g2,cap,cur,h1,_,hg,_,_,hs,ht⟩
  ·cases h1
  ·cases h1;have e:cur.toList.take (n*1)=cur.toList:=Al8 (by simp;omega);have e2:cur=(Dx [] n).toArray:=by
    apply Am6;rw[←e,ht];simp[Dx,Ag]
   rw[hg,e2]
 have HX:Hid (w1.heap[w.heap.size]?=some (.cells (Dx [] n).toArray 5 (0,0))∧Apd w w1):=⟨hr1,hk1⟩;clear ho1 hg1 hr1 hk1;have hwn:IntKind.i64.wrap ((n:Int)-1)=(n:Int)-1:=by rw[Al9];omega
 go_wp2_with fail
 go_loopw[8,9] (fun vr vk wr=> ∃(j k row:Nat) (t:List UInt8),j+k=n∧vk= .int .i64 ((j:Int)-1)∧vr= .int .i64 row∧Hid (G4 col root k=some (t,row))∧row≤n∧wr.heap[w.heap.size]?=some (.cells (Dx t j).toArray 5 (0,0))∧Apd w wr) (fun _ vk _=>(intOf vk+1).toNat)
 case atStart=>exact⟨n,0,0,[],rfl,rfl,rfl,rfl,Alr _,HX.out.1,HX.out.2⟩
 case round=>
  obtain⟨j,k,row,t,hjk,rfl,rfl,HRB,hrn,hrow,hkr⟩:=hrel;cases j with
  |zero=>
   have hv:((0:Nat):Int)-1= -1:=rfl;rw[hv];have htl:=(Tg col root (by rw[←HN.out];exact hr) k t row HRB.out).2;have hrow2:wr.heap[w.heap.size]?=some (.cells (Ag t).toArray 5 (0,0)):=hrow;have hcv:=Ua hrow2 n n (by omega);have HF:Hid (Apd w wr∧Pp col root= .tuple #[.string ⟨t.toArray⟩,.bool (decide (row=root))]):=by
    refine⟨hkr,?_⟩;unfold Pp;rw[←HN.out,show n=k from by omega,HRB.out]
   have HDE:Hid (((row:Int)==(root:Int))=decide (row=root)):=by
    show _=_
    by_cases e:row=root
    ·rw[e];simp
    ·rw[Ald e,Al5];omega
   clear hrow hrow2 hkr htl;go_wp2_with fail;go_ret2;exact⟨by rw[HF.out.2];first|rfl|(rw[←HDE.out];rfl)|(simp;done)|(simp;omega),HF.out.1⟩
  |succ j=>
   have hv:((j+1:Nat):Int)-1=(j:Int):=by omega
   rw[hv];have hd0:decide ((0:Int)≤(j:Int))=true:=Alb (by omega)
   by_cases hrr:row=root
   ·have hE:((row:Int)==(root:Int))=true:=by rw[beq_iff_eq];omega
    have HF:Hid (Apd w wr∧Pp col root= .tuple #[.string ⟨#[]⟩,.bool false]):=by
     refine⟨hkr,?_⟩;have h1:G4 col root (k+1)=none:=by rw[G4,HRB.out];exact if_pos hrr
     unfold Pp;rw[←HN.out,show n=k+1+j from by omega,Zc col root (k+1) h1 j]
    have hrrI:(row:Int)=(root:Int):=by omega
    clear hrow hkr hrr;go_wp2_with fail;go_ret2;exact⟨by rw[HF.out.2];rfl,HF.out.1⟩
   ·have hE:((row:Int)==(root:Int))=false:=by rw[Al5];omega
    obtain⟨i,hie⟩: ∃i,i=Cl root row:=⟨_,rfl⟩;have hin:i<n:=by rw[hie];exact L9 hr hrn hrr
    have HRN:Hid (G4 col root (k+1)=some (col.getD i 0::t,1+Fr col (col.getD i 0) i n)):=by
     show _=_;rw[G4,HRB.out];simp only;rw[if_neg hrr];unfold Sq;rw[←hie,←HN.out]
    have HIE:Hid (i=Cl root row):=hie;have HR:Hid (wr.heap[w.heap.size]?=some (.cells (Dx t (j+1)).toArray 5 (0,0))∧Apd w wr):=⟨hrow,hkr⟩;have HRR:Hid (¬row=root):=hrr;clear hrow hkr hie hrr;go_upto_if 30 with fail
    go_cut[10]from 28 to 65 (fun v wx=>v= .int .i64 i∧wr=wx)
    case first=>
     by_cases hgt:root<row
     ·have hg1:decide ((root:Int)<(row:Int))=true:=Alb (by omega);have hg2:decide (root<row)=true:=Alb hgt;have hzi:(row:Int)-1=(i:Int):=by have:=HIE.out;unfold Cl at this;rw[if_pos hgt]at this;omega
      go_wp2_with fail;go_meet
      case rel=>exact⟨by first|rfl|(congr 1;omega),rfl⟩
     ·have hg1:decide ((root:Int)<(row:Int))=false:=Ald (by omega);have hg2:decide (root<row)=false:=Ald hgt;have hzi:row=i:=by have:=HIE.out;unfold Cl at this;rw[if_neg hgt]at this;exact this.symm
      have HZ:Hid (row=i):=hzi;clear hzi;go_wp2_with fail;go_meet
      case rel=>exact⟨by rw[HZ.out],rfl⟩
    case rest=>
     obtain⟨rfl,rfl⟩:=hcut;obtain⟨hiS,hSi⟩:=HG.out i (by rw[←HN.out];exact hin);have c0:wr.cell? ⟨w.heap.size,j,none⟩=some (.int .u8 0):=by
      rw[Alc _ _ j _ _ _ HR.out.1];simpa using T9 t j
     have f0:wr.frozen? ⟨w.heap.size,j,none⟩=false:=Alk _ _ j _ _ HR.out.1;have hiI:(i:Int)<(S.size:Int):=by omega
     have hiN:(i:Int)<(n:Int):=by omega
     have hjn:(j:Int)<(n:Int):=by omega
     have HSi:Hid (S[i]=col.getD i 0):=hSi;clear hSi;go_wp2_with fail;generalize S[i]=c at*;have HRW:Hid ((wr.setCell ⟨w.heap.size,j,none⟩ (.int .u8 (c.toNat:Nat))).heap[w.heap.size]?=some (.cells (Dx (c::t) j).toArray 5 (0,0))∧Apd w (wr.setCell ⟨w.heap.size,j,none⟩ (.int .u8 (c.toNat:Nat)))):=by
      refine⟨?_,HR.out.2.setCell (p:=⟨w.heap.size,j,none⟩) (.inl (Ale _)) _⟩;rw[Alf wr w.heap.size j _ _ _ HR.out.1,←T8];congr 2;apply Am6;simp
     generalize wr.setCell ⟨w.heap.size,j,none⟩ (.int .u8 (c.toNat:Nat))=W1 at*;clear c0 f0;have hcn:=c.toNat_lt
     go_loopw[12,13] (fun v12 v13 wq=> ∃q:Nat,q≤n∧v13= .int .i64 q∧v12= .int .i64 (Fr col c i q:Nat)∧wq=W1) (fun _ v13 _=>n-(intOf v13).toNat)
     case atStart=>exact⟨0,Alr _,rfl,rfl,rfl⟩
     case round=>
      obtain⟨q,hq,rfl,rfl,rfl⟩:=hrel;have hlq:Fr col c i q≤q:=Yd _ _
      by_cases hqn:q<n
      ·have hqI:(q:Int)<(n:Int):=by omega
       obtain⟨hqS,hSq⟩:=HG.out q (by rw[←HN.out];exact hqn);have hqSI:(q:Int)<(S.size:Int):=by omega
       have HNX:Hid (Fr col c i (q+1)=Fr col c i q+(Ku col c i q).toNat):=rfl;have HSq:Hid (S[q]=col.getD q 0):=hSq;clear hSq;have HAH:Hid (Ku col c i q=(decide (S[q].toNat<c.toNat)||(decide (S[q].toNat=c.toNat)&&decide (q<i)))):=by
        show _=_;unfold Ku;rw[←HSq.out];congr 1;congr 1
        by_cases e:S[q]=c
        ·rw[e];simp
        ·have e2: ¬S[q].toNat=c.toNat:=fun h=>e (UInt8.toNat_inj.1 h);rw[Ald e2];simpa using e
       generalize Fr col c i q=ls at*
       by_cases hA:S[q].toNat<c.toNat
       ·have d1:decide ((S[q].toNat:Int)<(c.toNat:Int))=true:=Alb (by omega);have d2:decide (S[q].toNat<c.toNat)=true:=Alb hA;have d3:decide (S[q]<c)=true:=Alb hA;have HLS:Hid (Fr col c i (q+1)=ls+1):=by show _=_;rw[HNX.out,HAH.out,d2];rfl
        clear HAH HNX hA;go_wp2_with fail;go_roundw
        case rel=>exact⟨q+1,by omega,by go_num,by rw[HLS.out];go_num,trivial⟩
        case measure=>simp[intOf];omega
       ·have d1:decide ((S[q].toNat:Int)<(c.toNat:Int))=false:=Ald (by omega);have d2:decide (S[q].toNat<c.toNat)=false:=Ald hA;have d3:decide (S[q]<c)=false:=Ald hA
        by_cases hB:S[q].toNat=c.toNat
        ·have b1:((S[q].toNat:Int)==(c.toNat:Int))=true:=by rw[beq_iff_eq];omega
         have b3:(S[q]==c)=true:=by rw[beq_iff_eq];exact UInt8.toNat_inj.1 hB
         by_cases hD:q<i
         ·have e1:decide ((q:Int)<(i:Int))=true:=Alb (by omega);have HLS:Hid (Fr col c i (q+1)=ls+1):=by show _=_;rw[HNX.out,HAH.out,d2,Alb hB,Alb hD];rfl
          clear HAH HNX hA hB;go_wp2_with fail;go_roundw
          case rel=>exact⟨q+1,by omega,by go_num,by rw[HLS.out];go_num,trivial⟩
          case measure=>simp[intOf];omega
         ·have e1:decide ((q:Int)<(i:Int))=false:=Ald (by omega);have HLS:Hid (Fr col c i (q+1)=ls):=by show _=_;rw[HNX.out,HAH.out,d2,Alb hB,Ald hD];rfl
          clear HAH HNX hA hB;go_wp2_with fail;go_roundw
          case rel=>exact⟨q+1,by omega,by go_num,by rw[HLS.out],trivial⟩
          case measure=>simp[intOf];omega
        ·have b1:((S[q].toNat:Int)==(c.toNat:Int))=false:=by rw[Al5];omega
         have b3:(S[q]==c)=false:=by rw[Al5];exact fun e=>hB (by rw[e])
         have HLS:Hid (Fr col c i (q+1)=ls):=by show _=_;rw[HNX.out,HAH.out,d2,Ald hB];rfl
         clear HAH HNX hA hB;go_wp2_with fail;go_roundw
         case rel=>exact⟨q+1,by omega,by go_num,by rw[HLS.out],trivial⟩
         case measure=>simp[intOf];omega
      ·have hqn2:q=n:=by omega
       have hqI: ¬(q:Int)<(n:Int):=by omega
       have HFIN:Hid (G4 col root (k+1)=some (c::t,1+Fr col c i q)∧1+Fr col c i q≤n):=by
        have h1:=HRN.out;rw[←HSi.out,←hqn2]at h1;exact⟨h1,by rw[HN.out];exact(Tg col root (by rw[←HN.out];exact hr) _ _ _ h1).1⟩
       generalize Fr col c i q=ls at*;have hwj:IntKind.i64.wrap ((j:Int)-1)=(j:Int)-1:=by rw[Al9];omega
       clear hqn2;go_wp2_with fail;go_roundw
       case rel=>exact⟨j,k+1,1+ls,c::t,by omega,rfl,by go_num,HFIN.out.1,HFIN.out.2,HRW.out.1,HRW.out.2⟩
       case measure=>simp[intOf]
end Go.Proofs.YtegnkfdbmmndaaaGreat
namespace Go.Proofs.YtegnkfdbmmndaaaGreat
open Hm
namespace Hm
theorem M6(x:Nat): ∀k,C0 (leBytes x k)=x%256^k
 |0=>by simp[leBytes,C0,Nat.mod_one]
 |k+1=>by
  rw[leBytes,Q9,M6 x k,Cw,Nat.mod_pow_succ];have:C0 [UInt8.ofNat (x/256^k)]=x/256^k%256:=by simp[C0]
  rw[this]
theorem Q0(x k:Nat)(h:x<256^k):C0 (leBytes x k)=x:=by rw[M6,Anb h]
theorem Ow(a b:List UInt8)(k:Nat)(h:a.length=k):A5 (some (a++b)) k=(a,some b):=by
 subst h;rw[F4 (by rw[Alg];omega),Apc,List.drop_left]
theorem Mb(x k:Nat)(b:List UInt8)(h:x<256^k):Bu (some (leBytes x k++b)) k=(x,some b):=by
 unfold Bu;rw[Ow _ _ _ (Cw x k),Q0 x k h]
theorem Je(x:Nat):leBytes x 1=[UInt8.ofNat x]:=by simp[leBytes]
theorem Um(fs:List (ByteArray×ByteArray))(b:List UInt8)(hs: ∀f∈fs,f.1.size≤32): ∀k,k≤fs.length→As k (some (nameBytes fs++b))=((fs.take k).map (·.1),some (nameBytes (fs.drop k)++b))
 |0,_=>by simp[As]
 |k+1,hk=>by
  have ih:=Um fs b hs k (by omega);have hkl:k<fs.length:=by omega
  have hsz:=hs fs[k] (Alo hkl);have e:nameBytes (fs.drop k)=leBytes fs[k].1.size 1++(fs[k].1.data.toList++nameBytes (fs.drop (k+1))):=by
   rw[Al4 hkl,Je];unfold nameBytes;rw[Amg];simp
  rw[As,ih,e,Alx,Mb _ _ _ (by omega),Alx,Ow _ _ _ (by simp)];rw[Ali hkl,Am9];rfl
def Hx(L:List Nat)(l:List UInt8):List Nat:=(List.range 256).map fun j=>if UInt8.ofNat j∈l then L.getD j 0 else 0
theorem Hh(L:List Nat)(l:List UInt8):(Hx L l).length=256:=by unfold Hx;rw[Al6,Aoc]
theorem Un(L:List Nat)(l:List UInt8)(b:UInt8):(Hx L l).set b.toNat (L.getD b.toNat 0)=Hx L (l++[b]):=by
 apply Amf (by rw[Amn,Hh,Hh]);intro j h1 h2;rw[Hh]at h2;rw[An8];unfold Hx;simp only[Am5,Aor,Ao7,List.mem_singleton]
 by_cases e:b.toNat=j
 ·subst e;simp
 ·have: ¬UInt8.ofNat j=b:=fun x=>e (by rw[←x];simp;omega);rw[if_neg e];simp[this]
theorem Wt(L:List Nat)(l b:List UInt8)(hL: ∀x∈L,x≤255): ∀k,k≤l.length→Bp (some (Bo L l++b)) k=(Hx L (l.take k),some (Bo L (l.drop k)++b))
 |0,_=>by
  have:Hx L []=List.replicate 256 0:=by
   apply Amf (by rw[Hh,Alj]);intro j h1 h2;unfold Hx;simp only[Am5,List.getElem_replicate,List.not_mem_nil,if_false]
  rw[Bp,Apb,List.drop_zero,this]
 |k+1,hk=>by
  have ih:=Wt L l b hL k (by omega);have hkl:k<l.length:=by omega
  have hx:L.getD l[k].toNat 0≤255:=by
   rw[Ak6];cases h:L[l[k].toNat]? with
   |none=>simp
   |some y=>exact hL y (List.mem_of_getElem? h)
  have e:Bo L (l.drop k)=[l[k],UInt8.ofNat (L.getD l[k].toNat 0)]++Bo L (l.drop (k+1)):=by
   rw[Al4 hkl];rfl
  rw[Bp,ih,Gw];simp only;rw[e,Alx,Ow _ _ 2 rfl];simp only[List.getD_cons_zero,List.getD_cons_succ];rw[Ali hkl,←Un];simp only[Prod.mk.injEq,and_true];congr 1;rw[Ame];omega
end Hm
namespace Hm
theorem Acp(L:List Nat)(j:Nat)(hj:j<256):UInt8.ofNat j∈Ai L↔0<L.getD j 0:=by
 unfold Ai Bi;rw[List.mem_map];constructor
 ·rintro⟨i,hi,e⟩;obtain⟨h1,h2⟩:=List.mem_filter.1 hi;have h1':=List.mem_range.1 h1;have e2:=congrArg UInt8.toNat e;rw[Ame,Ame,Anb (by omega),Anb (by omega)]at e2;subst e2;exact Amm h2
 ·intro h;exact⟨j,List.mem_filter.2 ⟨List.mem_range.2 hj,Alb h⟩,rfl⟩
theorem Agt(L:List Nat)(l:List UInt8)(j:Nat)(hj:j<256):(Hx L l)[j]?=some (if UInt8.ofNat j∈l then L.getD j 0 else 0):=by
 unfold Hx;rw[Alu,Amw hj];rfl
theorem Sr(L:List Nat)(hL:L.length=256):Hx L (Ai L)=L:=by
 apply List.ext_getElem?;intro j
 by_cases hj:j<256
 ·have hm:=Acp L j hj;have e:L.getD j 0=L[j]:=by rw[Ak6,Ak7 (by omega)];rfl
  rw[Agt L _ j hj,Ak7 (by omega),←e];split
  ·rfl
  ·rename_i hn;rw[hm]at hn;rw[show L.getD j 0=0 by omega]
 ·rw[Al3 (by rw[Hh];omega),Al3 (by omega)]
theorem Aks(L:List Nat)(b:List UInt8)(hL:L.length=256)(hx: ∀x∈L,x≤255):rdL (some (leBytes (Ai L).length 2++(Bo L (Ai L)++b)))=(L,some b):=by
 have hc:=E0 L 256;have hc':(Ai L).length≤256:=hc;unfold rdL;rw[Mb _ _ _ (by omega)];show Bp (some (Bo L (Ai L)++b)) (Ai L).length=_;rw[Wt L (Ai L) b hx _ (Ale _),Ama,Anl,Sr L hL];rfl
theorem Ajy(fs:List (ByteArray×ByteArray))(n r:Nat)(X:List UInt8)(hm:fs.length≤255)(hn:n<65536)(hr:r≤n)(hs: ∀f∈fs,f.1.size≤32):
  let s:=[72,79,65,82,68,49,UInt8.ofNat fs.length]++(leBytes n 2++(leBytes r 2++(nameBytes fs++X)))
  (rdF s).1=fs.length∧(rdN s).1=n∧(rdR s).1=r∧rdM s=(fs.map (·.1),some X):=by
 intro s;have e0:s=[72,79,65,82,68,49]++(leBytes fs.length 1++(leBytes n 2++(leBytes r 2++(nameBytes fs++X)))):=by rw[Je];rfl
 have e1:rdA s=some (leBytes fs.length 1++(leBytes n 2++(leBytes r 2++(nameBytes fs++X)))):=by
  unfold rdA;rw[e0,Ow _ _ 6 rfl,Amq];rfl
 have e2:rdF s=(fs.length,some (leBytes n 2++(leBytes r 2++(nameBytes fs++X)))):=by
  unfold rdF;rw[e1,Mb _ _ _ (by omega)]
 have e3:rdN s=(n,some (leBytes r 2++(nameBytes fs++X))):=by
  unfold rdN;rw[e2];exact Mb _ _ _ (by omega)
 have e4:rdR s=(r,some (nameBytes fs++X)):=by
  unfold rdR;rw[e3];exact Mb _ _ _ (by omega)
 have e5:rdB s=some (nameBytes fs++X):=by
  unfold rdB;rw[e4,e3];exact if_pos (Alb hr)
 refine⟨by rw[e2],by rw[e3],by rw[e4],?_⟩;unfold rdM;rw[e2,e5];show As fs.length _=_;rw[Um fs X hs _ (Ale _),Ama,Anl];rfl
end Hm
namespace Hm
theorem Ae1(f:Nat→Bool)(bs:List Bool)(h: ∀p,p<bs.length→f p=bs.getD p false): ∀q,q≤bs.length→rk f q=(bs.take q).countP id
 |0,_=>by simp[rk]
 |q+1,hq=>by
  have ih:=Ae1 f bs h q (by omega);have e:rk f (q+1)=rk f q+(f q).toNat:=rfl;have h1:=h q (by omega);have e2:bs.take (q+1)=bs.take q++[bs.getD q false]:=by
   rw[List.take_add_one,Ak6,Ak7 (show q<bs.length by omega)];rfl
  rw[e,e2,Ann,←ih,h1];cases bs.getD q false<;>rfl
theorem Acq(n:Nat):(List.range (n+1)).countP (fun p=>decide (p%8=0))=n/8+1:=by
 induction n with
 |zero=>rfl
 |succ n ih=>
  rw[An4,Ann,ih,Am8,List.countP_nil]
  by_cases h:(n+1)%8=0
  ·rw[Alb h];simp;omega
  ·rw[Ald h];simp;omega
theorem Vd(bits:List Bool):(Ah bits).length=szB bits.length:=A1 bits
theorem Agu{n:Nat}{ps:List Nat}(h:ps.Perm (List.range (n+1)))(X:List UInt8):Gk (Ah (Da ps)++X) n∧(Ah (Da ps)++X).drop (szB (Aw n))=X:=by
 have hl:ps.length=n+1:=by have:=h.length_eq;simpa using this
 have hc:ps.countP (fun p=>decide (p%8=0))=n/8+1:=by rw[h.countP_eq,Acq]
 have hs:(Da ps).length=Aw n:=Kf h;have hz:(Ah (Da ps)).length=szB (Aw n):=by rw[Vd,hs]
 have ht:(Ah (Da ps)++X).take (szB (Aw n))=Ah (Da ps):=by rw[←hz,Apc]
 refine⟨⟨by rw[Alg];omega,?_⟩,by rw[←hz,List.drop_left]⟩;rw[ht,Ae1 _ (Da ps) (fun p _=>Of _ p) (n+1) (by rw[hs];unfold Aw;omega)];unfold Da;rw[List.take_left' (by rw[Al6,hl]),List.countP_map,←hc];rfl
end Hm
namespace Hm
theorem Cn.unique{fs:List (ByteArray×ByteArray)}(hn:(Ae fs).length≤6000){s s':List UInt8}(h:Cn fs s)(h':Cn fs s'):s=s':=by
 obtain⟨ps,N,hps,_,hE,rfl⟩:=h.is;obtain⟨ps',N',hps',_,hE',rfl⟩:=h'.is;obtain rfl:=hps.unique hps';have hC:=Hp (Ae fs) hn;have hm: ∀b∈Ap (Ae fs) ps,b∈Af (lens (Ae fs)):=fun b hb=>(Nx _ hn b).2 (Mr hps.perm b hb)
 by_cases h0:Af (lens (Ae fs))=[]
 ·have hc:Ap (Ae fs) ps=[]:=by
   cases e:Ap (Ae fs) ps with
   |nil=>rfl
   |cons b r=>have:=hm b (by rw[e];exact Alp ..);rw[h0]at this;simp at this
  rw[hc];unfold Dt;rw[Ir,Ir]
 ·have hh:=hE.nodes.heads hC.numk (fun j hj=>hE.side0 h0 j (by rw[hE.len]at hj;exact hj)) hC.num_lt (fun b hb=>(hC.mem b).2 hb);rw[Ma hC hE hm hh,Ma hC hE' hm hh]
theorem Od{n:Nat}{ps:List Nat}(h:ps.Perm (List.range (n+1)))(i:Nat)(hi:i<ps.length):ps[i]=0↔i=Bn ps:=by
 have hnd:ps.Nodup:=h.symm.nodup List.nodup_range;have hmem:0∈ps:=h.symm.subset (by simp);have hr:Bn ps<ps.length:=List.findIdx_lt_length_of_exists ⟨0,hmem,by simp⟩;have hz:ps[Bn ps]=0:=by
  have:=List.findIdx_getElem (p:=fun x:Nat=>x==0) (xs:=ps) (w:=hr);exact eq_of_beq this
 constructor
 ·intro e;have hp:=List.pairwise_iff_getElem.1 (List.nodup_iff_pairwise_ne.1 hnd);rcases Ami i (Bn ps)with c|c|c
  ·exact absurd (e.trans hz.symm) (hp i _ hi hr c)
  ·exact c
  ·exact absurd (hz.trans e.symm) (hp _ i hr hi c)
 ·rintro rfl;exact hz
end Hm
namespace Hm
theorem Aip{L:List Nat}{N N':Nat}{col:List UInt8}(hC:Bj L)(hE:Ends 32 (lnB L) (Af L) N)(hE':Ends 32 (lnB L) (Af L) N')(hm: ∀b∈col,b∈Af L):Dt L N col=Dt L N' col:=by
 by_cases h0:Af L=[]
 ·have hc:col=[]:=by
   cases e:col with
   |nil=>rfl
   |cons b r=>have:=hm b (by rw[e];exact Alp ..);rw[h0]at this;simp at this
  rw[hc];unfold Dt;rw[Ir,Ir]
 ·have hh:=hE.nodes.heads hC.numk (fun j hj=>hE.side0 h0 j (by rw[hE.len]at hj;exact hj)) hC.num_lt (fun b hb=>(hC.mem b).2 hb);rw[Ma hC hE hm hh,Ma hC hE' hm hh]
section
variable {M:Nat} {ln num:UInt8→Nat} {o:List UInt8} {nds:List Nd}
theorem Ox(h:Bg M ln o nds)(b:UInt8): ∀k,k≤nds.length→ ∀d,(∀j,j<k→El ln num (Ab nds j) b=true→(Ab nds j).depth<d)→(List.range k).countP (fun j=>El ln num (Ab nds j) b)≤d
 |0,_,d,_=>Alr _
 |k+1,hk,d,hd=>by
  rw[An4,Ann,Am8,List.countP_nil]
  by_cases hu:El ln num (Ab nds k) b=true
  ·have h1:=hd k (by omega) hu;have h2:=Ox h b k (by omega) (Ab nds k).depth (fun j hj hj2=>by
    have hs:=h.sorted j k hj (by omega);have e1:=(Amm hj2).2;have e2:=(Amm hu).2;rcases hs with c|⟨c1,c2⟩
    ·exact c
    ·rw[c1]at e1;omega)
   rw[if_pos hu];omega
  ·have h2:=Ox h b k (by omega) d (fun j hj hj2=>hd j (by omega) hj2);rw[if_neg hu];omega
theorem Oe(ln num:UInt8→Nat)(nds:List Nd)(N B:Nat)(hB: ∀b:UInt8,(List.range N).countP (fun j=>El ln num (Ab nds j) b)≤B): ∀col:List UInt8,(A0 ln num nds col N).length≤col.length*B
 |[]=>by rw[Ir];simp
 |b::r=>by
  have ih:=Oe ln num nds N B hB r;have hb:=hB b;have key: ∀n,(A0 ln num nds (b::r) n).length=(List.range n).countP (fun j=>El ln num (Ab nds j) b)+(A0 ln num nds r n).length:=by
   intro n;induction n with
   |zero=>simp[A0]
   |succ n ih2=>
    rw[Ez,Ez,Alg,Alg,ih2,An4,Ann,Am8,List.countP_nil];unfold Gy Ao;rw[Al6,Al6,Am1]
    by_cases hu:El ln num (Ab nds n) b=true
    ·rw[if_pos hu,if_pos hu,Amc];omega
    ·rw[if_neg hu,if_neg hu];omega
  rw[key,Amc,Anv];omega
end
theorem Ajz{L:List Nat}(hL:L.length=256)(b:UInt8):lnB L b≤Gh L:=by
 have hb:=b.toNat_lt;have e:lnB L b=L[b.toNat]:=by
  show L.getD b.toNat 0=_;rw[Ak6,Ak7 (by omega)];rfl
 rw[e];exact S8 L _ (Alo _)
theorem Aj0{l:List UInt8}{n:Nat}{L:List Nat}{st:B0}{col:List UInt8}(h:Fm l n L st)(c3:Rep (lnB L) (Bm L) (Ak (l.take (szB (Fk l n L)))) st.nds col)(c2: ∀b∈col,b∈Af L):Kx (l.take (szB st.len)) st.nds col:=by
 obtain⟨hC,hl⟩:=h;obtain⟨h0,hE⟩:=P6 hC;have hsh:=hE.nodes;have hlk:=Lk hl;have hinv:=Oi hsh hC.nodup rfl (Ale _) hl;have hle:=K8 hl;have hs2:=hsh.like hlk.1;have hll0:(Dw L).length=st.nds.length:=hlk.1.1.symm
 replace hinv:Ll (Ak (l.take (szB (Fk l n L)))) n (Dw L).length st:=hinv
 rw[hll0]at hinv;have hm:Fk l n L≤8*l.length:=Nat.min_le_left _ _;have hsz:st.len≤8*szB st.len:=by unfold szB;omega
 have hll:(l.take (szB st.len)).length=szB st.len:=by rw[Aln];unfold szB;omega
 have fits: ∀j,j<st.nds.length→(Ab st.nds j).frm+(Ab st.nds j).siz≤st.len:=fun j hj=>by
  rw[c3.frm j hj,hinv.len];exact Sd st.nds (show j+1≤st.nds.length by omega)
 refine⟨32,lnB L,Bm L,Af L,⟨c3.siz,c3.frm,fun j p hj hp=>?_⟩,hs2,hC.numk,c2,hC.pos,hC.num_lt,fun j hj=>?_⟩
 ·have hf:=fits j hj;rw[←c3.bit j p hj hp,K1 l _ _ (by omega),K1 l _ _ (by unfold szB;omega)]
 ·rw[hll];have hf:=fits j hj;omega
theorem Acr{M M':Nat}{ln num ln' num':UInt8→Nat}{o o' l col col':List UInt8}{nds:List Nd}(h:S6 M ln num o l nds col)(h':S6 M' ln' num' o' l nds col'){a:Nat}: ∀d n q,nds.length-n≤d→Way ln num nds col a n q→Way ln' num' nds col' a n q→col.getD a 0=col'.getD a 0
 |0,n,q,hd,w,_=>by have:=w.lt;omega
 |d+1,n,q,hd,w,w'=>by
  obtain⟨u,hu,hf,hc⟩:=w.step h.rep h.shp h.numk h.mem;obtain⟨u',hu',hf',hc'⟩:=w'.step h'.rep h'.shp h'.numk h'.mem;have e:u=u':=by
   rw[hf]at hf';have:=decide_eq_decide.1 hf';omega
  subst e;rcases hc with⟨b1,_⟩|⟨m,hm0,hm1,b1,w2⟩
  ·rcases hc' with⟨b2,_⟩|⟨m',_,_,b2,_⟩
   ·rw[b1]at b2;injection b2
   ·rw[b1]at b2;cases b2
  ·rcases hc' with⟨b2,_⟩|⟨m',_,_,b2,w2'⟩
   ·rw[b1]at b2;cases b2
   ·rw[b1]at b2;have em:m=m':=by injection b2
    subst em;exact Acr h h' d m _ (by omega) w2 w2'
theorem Kx.unique{l col col':List UInt8}{nds:List Nd}(h:Kx l nds col)(h':Kx l nds col')(hl:col.length=col'.length):col=col':=by
 obtain⟨M,ln,num,o,h⟩:=h;obtain⟨M',ln',num',o',h'⟩:=h';apply Amf hl;intro a h1 h2;have e:=Acr h h' _ 0 a (Ale _) (Way.start h.shp h.mem h.pos h.num h1) (Way.start h'.shp h'.mem h'.pos h'.num h2);rw[Ak6,Ak7 h1,Ak6,Ak7 h2]at e;exact e
theorem Agv{L:List Nat}{N:Nat}{col:List UInt8}(hC:Bj L)(hE:Ends 32 (lnB L) (Af L) N)(hm: ∀b∈col,b∈Af L)(X:List UInt8):
  ∃st,Fm (Ah (Dt L N col)++X) col.length L st∧szB st.len=(Ah (Dt L N col)).length∧Kx ((Ah (Dt L N col)++X).take (szB st.len)) st.nds col:=by
 obtain⟨h0,hE'⟩:=P6 hC;rw[Aip hC hE hE' hm];have hlen:(Dw L).length=Gp L:=hE'.len;have htl:(Dt L (Gp L) col).length=(A0 (lnB L) (Bm L) (Dw L) col (Dw L).length).length:=by
  unfold Dt;rw[Al6,hlen];rfl
 have hfew:=Oe (lnB L) (Bm L) (Dw L) (Dw L).length (Gh L) (fun b=>by
  refine Al2 (Ox hE'.nodes b _ (Ale _) (lnB L b) (fun j _ hj=>(Amm hj).1)) (Ajz hC.len b)) col
 have hmost:(A0 (lnB L) (Bm L) (Dw L) col (Dw L).length).length≤Fk (Ah (Dt L (Gp L) col)++X) col.length L:=by
  unfold Fk;refine Nat.le_min.2 ⟨?_,hfew⟩;rw[Alg,A1,htl];omega
 obtain⟨st,q1,q2,q3,q4,-⟩:=Akg (f:=Ak ((Ah (Dt L (Gp L) col)++X).take (szB (Fk (Ah (Dt L (Gp L) col)++X) col.length L)))) hE'.nodes hC.nodup hC.numk hm hC.pos hC.num_lt (fun k hk=>by
  have hk':k<(Dt L (Gp L) col).length:=by rw[htl];exact hk
  rw[K1 _ _ _ (by unfold szB;have:=hmost;have hk2:k<(A0 (lnB L) (Bm L) (Dw L) col (Dw L).length).length:=hk;omega)];have e1:Ak (Ah (Dt L (Gp L) col)++X) k=Ak (Ah (Dt L (Gp L) col)) k:=by
   rw[←K1 (Ah (Dt L (Gp L) col)++X) (Ah (Dt L (Gp L) col)).length k (by rw[A1];omega),Apc]
  rw[e1,Of];unfold Dt;rw[Ak6,Alu,hE'.len];have hk3:k<(A0 (lnB L) (Bm L) (Al (lnB L) (Af L) (2*Gp L)).1 col (Gp L)).length:=by
   have hk2:k<(A0 (lnB L) (Bm L) (Dw L) col (Dw L).length).length:=hk;rw[hlen]at hk2;exact hk2
  rw[Ak6,Ak7 hk3];rfl) hmost
 have q2':st.len=(A0 (lnB L) (Bm L) (Dw L) col (Dw L).length).length:=q2;have hok:Fm (Ah (Dt L (Gp L) col)++X) col.length L st:=⟨hC,q1⟩;refine⟨st,hok,by rw[Vd,htl,q2'],Aj0 hok q4 hm⟩
end Hm
end Go.Proofs.YtegnkfdbmmndaaaGreat
