import Derived.Test.YtegnkfdbmmndaaaGreatJ00
import Derived.Test.YtegnkfdbmmndaaaGreatJ26

namespace Go.Proofs.YtegnkfdbmmndaaaGreat
open Hm
open Go.RowKit
def A6(t:List UInt8)(r:Nat):List Hm.Grp×List Nat:=Bq (Aj t 256) (List.replicate 256 0) r
theorem Ls(t:List UInt8)(r:Nat)(h:r<(Aj t 256).length):(A6 t r).1.length+r=(Aj t 256).length∧L5 (A6 t r).1 (A6 t r).2∧(Bd (A6 t r).1).Perm (Bd (Aj t 256)):=⟨(Ie t r h).1,(Ie t r h).2.1,(Ie t r h).2.2.1⟩
theorem Qb(t:List UInt8)(ht:t.length≤6000): ∀r,(r=0∨r<(Aj t 256).length)→Km (A6 t r).1
 |0,_=>Nt t ht
 |r+1,h=>by
  have:=(Ls t r (by omega)).1;exact(Qb t ht r (by omega)).step (by omega)
theorem Hm.Sim.le{gs:List Hm.Grp}{wt inn:List Nat}(h:Hm.Sim gs wt inn)(hf:Km gs): ∀x∈wt,x≤6000:=fun x hx=>by
 obtain⟨c,hc,rfl⟩:=Aml hx;have e:wt.getD c 0=wt[c]:=by rw[Ak6,Ak7 hc];rfl
 rw[←e]
 by_cases hn: ∃g∈gs,g.2.1.toNat=c
 ·obtain⟨g,hg,rfl⟩:=hn;rw[h.wi g hg];obtain⟨i,hi,rfl⟩:=Aml hg;have h1:=Kd gs i hi;have h2:=hf.w;rw[Ak6,Ak7 hi]at h1;simp only[Anr]at h1;omega
 ·rw[h.wo c (fun g hg e=>hn ⟨g,hg,e⟩)];omega
set_option maxHeartbeats 1000000 in
set_option maxRecDepth 100000 in
theorem Ya(s:ByteArray)(w:World)(hs:s.size≤6000):
  Calls Tryz.prog 44 #[.string s] w fun e w'=>e= .returned (.agg (Ac (Hm.lens s.data.toList)).toArray)∧Apd w w':=by
 have HSL:Aside (s.data.toList.length=s.size):=by show _=_;simp
 have HZ:Aside (Tryz.zeroCells94=(Ac (List.replicate 256 0)).toArray):=Si
 go_enter Tryz.func44,Tryz.ntmps44
 go_upto_region 4 with fail
 have g0:AR ((((w.alloc (.cells Tryz.zeroCells94 94)).alloc (.cells Tryz.zeroCells94 94)).alloc (.cells Tryz.zeroCells94 94)).alloc (.cells Tryz.zeroCells94 94)) w.heap.size (List.replicate 256 0):=by
  unfold AR;rw[←HZ.out];exact((((Aa.refl (fun _=>False) (w.alloc (.cells Tryz.zeroCells94 94))).alloc _).alloc _).alloc _).row (All w _) id
 have g1:AR ((((w.alloc (.cells Tryz.zeroCells94 94)).alloc (.cells Tryz.zeroCells94 94)).alloc (.cells Tryz.zeroCells94 94)).alloc (.cells Tryz.zeroCells94 94)) (w.heap.size+1) (List.replicate 256 0):=by
  unfold AR;rw[←HZ.out];exact(((Aa.refl (fun _=>False) ((w.alloc (.cells Tryz.zeroCells94 94)).alloc (.cells Tryz.zeroCells94 94))).alloc _).alloc _).row (Anx w _ _) id
 have g2:AR ((((w.alloc (.cells Tryz.zeroCells94 94)).alloc (.cells Tryz.zeroCells94 94)).alloc (.cells Tryz.zeroCells94 94)).alloc (.cells Tryz.zeroCells94 94)) (w.heap.size+1+1) (List.replicate 256 0):=by
  unfold AR;rw[←HZ.out];have:=((Aa.refl (fun _=>False) (((w.alloc (.cells Tryz.zeroCells94 94)).alloc (.cells Tryz.zeroCells94 94)).alloc (.cells Tryz.zeroCells94 94))).alloc (.cells Tryz.zeroCells94 94)).row (All _ _) id;simpa using this
 have g3:AR ((((w.alloc (.cells Tryz.zeroCells94 94)).alloc (.cells Tryz.zeroCells94 94)).alloc (.cells Tryz.zeroCells94 94)).alloc (.cells Tryz.zeroCells94 94)) (w.heap.size+1+1+1) (List.replicate 256 0):=by
  unfold AR;rw[←HZ.out];have:=All (((w.alloc (.cells Tryz.zeroCells94 94)).alloc (.cells Tryz.zeroCells94 94)).alloc (.cells Tryz.zeroCells94 94)) (.cells Tryz.zeroCells94 94);simpa using this
 have hk0:Apd w ((((w.alloc (.cells Tryz.zeroCells94 94)).alloc (.cells Tryz.zeroCells94 94)).alloc (.cells Tryz.zeroCells94 94)).alloc (.cells Tryz.zeroCells94 94)):=((((Aa.refl _ _).alloc _).alloc _).alloc _).alloc _;generalize((((w.alloc (.cells Tryz.zeroCells94 94)).alloc (.cells Tryz.zeroCells94 94)).alloc (.cells Tryz.zeroCells94 94)).alloc (.cells Tryz.zeroCells94 94))=W at*;obtain⟨b3,hb3⟩: ∃b,b=w.heap.size+1+1+1:=⟨_,rfl⟩;rw[←hb3]at g3⊢;obtain⟨b2,hb2⟩: ∃b,b=w.heap.size+1+1:=⟨_,rfl⟩;rw[←hb2]at g2⊢;obtain⟨b1,hb1⟩: ∃b,b=w.heap.size+1:=⟨_,rfl⟩;rw[←hb1]at g1⊢;have n1:b1≠b2:=by omega
 have n2:b1≠b3:=by omega
 have n3:b2≠b3:=by omega
 have HB:Aside (b1=w.heap.size+1∧b2=w.heap.size+1+1∧b3=w.heap.size+1+1+1):=⟨hb1,hb2,hb3⟩;have HW:Aside (AR W w.heap.size (List.replicate 256 0)∧AR W b1 (List.replicate 256 0)∧AR W b2 (List.replicate 256 0)∧AR W b3 (List.replicate 256 0)∧Apd w W):=⟨g0,g1,g2,g3,hk0⟩;clear hb1 hb2 hb3 g0 g1 g2 g3 hk0;go_wp2_with fail
 go_loopw[6] (fun i wr=> ∃k:Nat,k≤256∧i= .int .i64 k∧AR wr b2 (List.range k++List.replicate (256-k) 0)∧Aa (fun j=>j=b2) W wr) (fun i _=>256-(intOf i).toNat)
 case atStart=>exact⟨0,by omega,rfl,HW.out.2.2.1,Aa.refl _ _⟩
 case round=>
  obtain⟨k,hk,rfl,hr,hkr⟩:=hrel
  by_cases hlt:k<256
  ·have hdec:decide ((k:Int)<256)=true:=Alb (by omega);have hkI:(k:Int)<256:=by omega
   have hl:(List.range k++List.replicate (256-k) 0).length=256:=by rw[Alg,Aoc,Alj];omega
   have hc:=hr.cell (i:=k) (by omega);have hf:=hr.free k;have HS:=hr.set k k;rw[Ys _ _ hlt]at HS;have H2:Hid (AR _ b2 (List.range (k+1)++List.replicate (256-(k+1)) 0)):=HS;generalize(List.range k++List.replicate (256-k) 0).getD k 0=old at hc;clear HS hr hl;go_wp2;go_roundw
   case rel=>exact⟨k+1,by omega,by go_num,H2.out,hkr.setCell (.inr rfl) _⟩
   case measure=>simp[intOf];omega
  ·have hk256:k=256:=by omega
   have hdec:decide ((k:Int)<256)=false:=Ald (by omega);obtain⟨W1,rfl⟩: ∃X,X=wr:=⟨_,rfl⟩;have HR2:Aside (AR W1 b2 (List.range 256)∧Aa (fun j=>j=b2) W W1):=by
    rw[hk256,Amr,Ao9,Am4]at hr;exact⟨hr,hkr⟩
   clear hr hkr hk256 hlt hk;go_wp2_with fail
   go_loopw[7] (fun i wx=> ∃k:Nat,k≤s.size∧i= .int .i64 k∧AR wx b1 (Hm.weights (s.data.toList.take k))∧Aa (fun j=>j=b1) W1 wx) (fun i _=>s.size-(intOf i).toNat)
   case atStart=>exact⟨0,Alr _,rfl,by rw[Apb,Tw];exact HW.out.2.1.kept HR2.out.2 n1,Aa.refl _ _⟩
   case round=>
    clear hdec;obtain⟨k,hk,rfl,hr,hkr⟩:=hrel
    by_cases hlt:k<s.size
    ·have hdec:decide ((k:Int)<(s.size:Int))=true:=Alb (by omega);have hkl:k<s.data.toList.length:=by rw[HSL.out];exact hlt
     have h8:=(s[k]'hlt).toNat_lt;have hc:=hr.cell (i:=(s[k]'hlt).toNat) (by rw[Fz];exact h8);have hf:=hr.free (s[k]'hlt).toNat;have hle:(Hm.weights (s.data.toList.take k)).getD (s[k]'hlt).toNat 0≤6000:=by
      have h1:=Abg (s.data.toList.take k) (s[k]'hlt).toNat;have h2:(s.data.toList.take k).length≤6000:=by rw[Aln,HSL.out];omega
      unfold Hm.weights;rw[Ak6,Alu,Amw h8];show Hm.cnt (s.data.toList.take k) (s[k]'hlt).toNat≤6000;omega
     have hge:s.data.toList[k]'hkl=s[k]'hlt:=rfl;have HS:=hr.set (s[k]'hlt).toNat ((Hm.weights (s.data.toList.take k)).getD (s[k]'hlt).toNat 0+1);have e1:(Hm.weights (s.data.toList.take k)).set (s[k]'hlt).toNat ((Hm.weights (s.data.toList.take k)).getD (s[k]'hlt).toNat 0+1)=Hm.weights (s.data.toList.take (k+1)):=by
      rw[Ru _ _ hkl,hge];congr 2;unfold Hm.weights;rw[Ak6,Alu,Amw h8];rfl
     rw[e1]at HS;have H2:Hid (AR _ b1 (Hm.weights (s.data.toList.take (k+1)))):=HS;generalize(Hm.weights (s.data.toList.take k)).getD (s[k]'hlt).toNat 0=old at*;have hbI:((s[k]'hlt).toNat:Int)<256:=by omega
     clear HS hr e1 hge hkl;go_wp2;go_roundw
     case rel=>exact⟨k+1,by omega,by go_num,by simpa using H2.out,hkr.setCell (.inr rfl) _⟩
     case measure=>simp[intOf];omega
    ·obtain rfl:s.size=k:=by omega
     have hdec:decide ((s.size:Int)<(s.size:Int))=false:=Ald (by omega);have eT:s.data.toList.take s.size=s.data.toList:=by rw[←HSL.out,Ama]
     rw[eT]at hr;obtain⟨W2,rfl⟩: ∃X,X=wr:=⟨_,rfl⟩;have HR3:Aside (AR W2 b1 (Hm.weights s.data.toList)∧AR W2 b2 (List.range 256)∧AR W2 b3 (List.replicate 256 0)∧AR W2 w.heap.size (List.replicate 256 0)∧Apd w W2):=by
      have:=HB.out;have h3:AR W1 b3 (List.replicate 256 0):=HW.out.2.2.2.1.kept HR2.out.2 (fun e=>n3 e.symm);have h0:AR W1 w.heap.size (List.replicate 256 0):=HW.out.1.kept HR2.out.2 (fun e=>by omega);refine⟨hr,HR2.out.1.kept hkr (fun e=>n1 e.symm),h3.kept hkr (fun e=>n2 e.symm),h0.kept hkr (fun e=>by omega),?_⟩;exact(HW.out.2.2.2.2.trans HR2.out.2 (fun j h1 h2=>by omega)).trans hkr (fun j h1 h2=>by omega)
     clear hr hkr eT HR2 HW hk hlt;have HT:Aside (s.data.toList.length≤6000):=by show _≤_;rw[HSL.out];exact hs
     go_wp2_with fail
     go_loopg [8] ((Aj s.data.toList 256).length) (fun g1 vf wx=> ∃(r:Nat) (wt inn:List Nat),vf= .bool (decide (r=0))∧(r=0∨r<(Aj s.data.toList 256).length)∧r+g1=(Aj s.data.toList 256).length∧Hid (Hm.Sim (A6 s.data.toList r).1 wt inn)∧Aside (AR wx b1 wt∧AR wx b2 inn∧AR wx b3 (A6 s.data.toList r).2)∧Aa (fun j=>j=b1∨j=b2∨j=b3) W2 wx)
     case atStart=>exact⟨0,Hm.weights s.data.toList,List.range 256,rfl,.inl rfl,by omega,Ad7 _,⟨HR3.out.1,HR3.out.2.1,HR3.out.2.2.1⟩,Aa.refl _ _⟩
     case round=>
      obtain⟨r,wt,inn,rfl,hr0,hgk,HSm,HA,hkr⟩:=hrel;have hbw:Aside (b1<W2.heap.size∧b2<W2.heap.size∧b3<W2.heap.size):=⟨HR3.out.1.lt,HR3.out.2.1.lt,HR3.out.2.2.1.lt⟩;have hin:=HSm.out.lw;have hii:=HSm.out.li;have hfine:=Qb s.data.toList HT.out r hr0;have hle:=HSm.out.le hfine;have hle2: ∀x∈wt,x≤100000:=fun x hx=>by have:=hle x hx;omega
      have hl1:=fun W=>Oa wt (-1) W hin hle2 (by omega) (by omega);have hasz:(Ac wt).toArray.size=256:=by rw[A2,hin]
      have hbox:wr.heap[b1]?=some (.cells (Ac wt).toArray 94 (0,0)):=HA.out.1
      by_cases hg2:2≤gk
      ·have hrn:r<(Aj s.data.toList 256).length:=by omega
       obtain⟨hwl,hw,hpm⟩:=Ls s.data.toList r hrn;have hgl:2≤(A6 s.data.toList r).1.length:=by omega
       have hll:=D8 (A6 s.data.toList r).1 (by omega);have hnd:(Bd (Aq (A6 s.data.toList r).1::Aq (Hm.left (A6 s.data.toList r).1)::Hm.left (Hm.left (A6 s.data.toList r).1))).Nodup:=(hw.perm (Nu _ (by omega))).nd;have hS2:=HSm.out.perm (Nu _ (by omega));have hf1:=HSm.out.first (by omega);have hf2:=(HSm.out.perm (Iy _ (by omega))).second ((hw.perm (Iy _ (by omega))).nd);rw[if_pos (by omega)]at hf2;have hxy:=Jz hnd (hS2.name _ Alp) Alp (hS2.name _ (Als _ Alp));have hl2:=fun W=>Oa wt ((Aq (A6 s.data.toList r).1).2.1.toNat:Int) W hin hle2 (by omega) (by have:=(Aq (A6 s.data.toList r).1).2.1.toNat_lt;omega);rw[hf1]at hl1;rw[hf2]at hl2;obtain⟨X,hX⟩: ∃X,X=Aq (A6 s.data.toList r).1:=⟨_,rfl⟩;obtain⟨Y,hY⟩: ∃Y,Y=Aq (Hm.left (A6 s.data.toList r).1):=⟨_,rfl⟩;have HXY:Aside (X=Aq (A6 s.data.toList r).1∧Y=Aq (Hm.left (A6 s.data.toList r).1)∧Hm.Sim (X::Y::Hm.left (Hm.left (A6 s.data.toList r).1)) wt inn∧(Bd (X::Y::Hm.left (Hm.left (A6 s.data.toList r).1))).Nodup∧L5 (A6 s.data.toList r).1 (A6 s.data.toList r).2∧(Bd (A6 s.data.toList r).1).Perm (Bd (Aj s.data.toList 256))):=by
        rw[hX,hY];exact⟨rfl,rfl,hS2,hnd,hw,hpm⟩
       rw[←hX]at hl1 hl2 hxy;rw[←hY]at hl2 hxy;have hX8:=X.2.1.toNat_lt;have hY8:=Y.2.1.toNat_lt;have HC:Aside (wt.length=256∧inn.length=256∧ ∀x∈wt,x≤6000):=⟨hin,hii,hle⟩;clear hf1 hf2 hS2 hnd hw hpm hwl hll hgl hX hY hle hle2 hin hii hfine HSm;obtain⟨xa,hxa⟩: ∃n,n=X.2.1.toNat:=⟨_,rfl⟩;obtain⟨yb,hyb⟩: ∃n,n=Y.2.1.toNat:=⟨_,rfl⟩;have HXN:Aside (xa=X.2.1.toNat∧yb=Y.2.1.toNat):=⟨hxa,hyb⟩;rw[←hxa]at hl1 hl2 hxy hX8;rw[←hyb]at hl2 hxy hY8;rw[show N9 (some xa)=(xa:Int)from rfl]at hl1;rw[show N9 (some yb)=(yb:Int)from rfl]at hl2;clear hxa hyb;obtain⟨arr,harr⟩: ∃a,a=(Ac wt).toArray:=⟨_,rfl⟩;rw[←harr]at hl1 hl2 hasz hbox;have HARR:Aside (arr=(Ac wt).toArray):=harr;clear harr;have hxd:decide (0≤(xa:Int))=true:=Alb (by omega);have hyd:decide ((yb:Int)<0)=false:=Ald (by omega);obtain⟨W3,rfl⟩: ∃V,V=wr:=⟨_,rfl⟩
       go_wp2_with(first
        |(refine Amd rfl 94 _ rfl b1 rfl 94 arr (0,0) _ hbox Tryz.underlying94 rfl (by rw[hasz];exact Dp) ?_))
       refine(hl1 _).mono ?_;rintro e W4 ⟨rfl,hk4⟩;have hbox4:=hk4.row hbox id
       go_wp2_with(first
        |(refine Amd rfl 94 _ rfl b1 rfl 94 arr (0,0) _ hbox4 Tryz.underlying94 rfl (by rw[hasz];exact Dp) ?_))
       refine(hl2 _).mono ?_;rintro e W5 ⟨rfl,hk5⟩;have hk35:Apd W3 W5:=hk4.trans hk5 (fun _ _ h=>h);have HA5:Aside (AR W5 b1 wt∧AR W5 b2 inn∧AR W5 b3 (A6 s.data.toList r).2∧Aa (fun j=>j=b1∨j=b2∨j=b3) W2 W5):=
        ⟨HA.out.1.kept hk35 id,HA.out.2.1.kept hk35 id,HA.out.2.2.kept hk35 id,hkr.trans hk35 (fun _ _ h=>h.elim)⟩
       clear hl1 hl2 hbox hbox4 hk4 hk5 hk35 HA hkr;go_upto_if 55 with fail
       go_cut[11,12]from 34 to 95 (fun vx vy wx=>vx= .int .i64 ((min xa yb:Nat):Int)∧vy= .int .i64 ((max xa yb:Nat):Int)∧W5=wx)
       case first=>
        by_cases hlt:yb<xa
        ·have hd:decide ((yb:Int)<(xa:Int))=true:=Alb (by omega);have hd2:decide (yb<xa)=true:=Alb hlt;go_wp2_with fail;go_meet
         case rel=>exact⟨by congr 1;omega,by congr 1;omega,rfl⟩
        ·have hd:decide ((yb:Int)<(xa:Int))=false:=Ald (by omega);have hd2:decide (yb<xa)=false:=Ald hlt;go_wp2_with fail;go_meet
         case rel=>exact⟨by congr 1;omega,by congr 1;omega,rfl⟩
       case rest=>
        obtain⟨rfl,rfl,rfl⟩:=hcut;obtain⟨mn,hmn⟩: ∃n,n=min xa yb:=⟨_,rfl⟩;obtain⟨mx,hmx⟩: ∃n,n=max xa yb:=⟨_,rfl⟩;rw[←hmn,←hmx];have hmm:mn<mx:=by omega
        have hm8:mx<256:=by omega
        have HMN:Aside (mn=min xa yb∧mx=max xa yb):=⟨hmn,hmx⟩;clear hmn hmx;have HHit:Aside (∀c,c<256→(inn.getD c 0=mn∨inn.getD c 0=mx)→K5 s.data.toList c=true∧(A6 s.data.toList r).2.getD c 0≤17):=by
         intro c hc hh;obtain⟨q1,q2,q3,q4,q5,q6⟩:=HXY.out;obtain⟨p1,p2⟩:=HXN.out;obtain⟨o1,o2⟩:=HMN.out;have hbc:(UInt8.ofNat c).toNat=c:=by rw[Ame];omega
         have hin:=(q3.either q4 (UInt8.ofNat c)).1 (by rw[hbc,←p1,←p2];omega);have hmg:UInt8.ofNat c∈Bd (A6 s.data.toList r).1:=by
          have hp:=(Nu (A6 s.data.toList r).1 (by have:=(Ls s.data.toList r hrn).1;omega)).flatMap_right (fun g:Hm.Grp=>g.2.2);refine hp.mem_iff.2 ?_;rw[←q1,←q2,Amg,Amg,←Alx];exact Ao5 _ hin
         refine⟨Aif ((T4 s.data.toList _).1 (q6.mem_iff.1 hmg)) hbc,?_⟩;obtain⟨g,hg,hb⟩:=List.mem_flatMap.1 hmg;have hf:=q5.f1 g hg _ hb;rw[Hm.ln,hbc]at hf;refine Yv _ (Al2 hf ?_);have hfi:=Qb s.data.toList HT.out r hr0;obtain⟨j,hj,rfl⟩:=Aml hg;have h1:=Kd _ j hj;have h2:=hfi.w;rw[Ak6,Ak7 hj]at h1;simp only[Anr]at h1;omega
        have hmxI:(mx:Int)<256:=by omega
        go_wp2_with fail
        go_loopw[13] (fun i wx=> ∃c:Nat,c≤256∧i= .int .i64 c∧AR wx b2 (J0 inn mn mx c)∧AR wx b3 (I1 inn (A6 s.data.toList r).2 mn mx c)∧Aa (fun j=>j=b2∨j=b3) W5 wx) (fun i _=>256-(intOf i).toNat)
        case atStart=>exact⟨0,by omega,rfl,by rw[Aic _ _ _ HC.out.2.1];exact HA5.out.2.1,by rw[Agm _ _ _ _ HXY.out.2.2.2.2.1.len];exact HA5.out.2.2.1,Aa.refl _ _⟩
        case round=>
         obtain⟨c,hc,rfl,hib,hob,hkr⟩:=hrel
         by_cases hlt:c<256
         ·have hdec:decide ((c:Int)<256)=true:=Alb (by omega);have hcI:(c:Int)<256:=by omega
          have ci:=hib.cell (i:=c) (by rw[Gt];exact hlt);rw[J1 _ _ _ _ _ hlt,if_neg (by omega)]at ci
          by_cases h1:inn.getD c 0=mn
          ·have HIT:inn.getD c 0=mn∨inn.getD c 0=mx:= .inl h1;have hmem:=(HHit.out c hlt HIT).1;have hl17:=(HHit.out c hlt HIT).2;have hmb:=fun V=>Qx s c V hs hlt;rw[hmem]at hmb;have co:=hob.cell (i:=c) (by rw[Fq];exact hlt);rw[Hv _ _ _ _ _ _ hlt,if_neg (by omega)]at co;have fo:=hob.free c;have fi:=hib.free c;have e2:=Acf inn mn mx c hlt HIT;have e3:=Y7 inn (A6 s.data.toList r).2 mn mx c hlt HIT;have hs3:=(hob.set c ((A6 s.data.toList r).2.getD c 0+1)).other c (.int .i64 (mn:Nat)) (h:=b2) (fun e=>n3 e.symm);have hs2:=(hib.other c (.int .i64 (((A6 s.data.toList r).2.getD c 0+1:Nat):Int)) (h:=b3) n3).set c mn;rw[←e3]at hs3;rw[←e2]at hs2;obtain⟨l,hl⟩: ∃l,l=(A6 s.data.toList r).2.getD c 0:=⟨_,rfl⟩;rw[←hl]at co hs2 hs3 hl17;have ci2:(wr.setCell ⟨b3,c,none⟩ (.int .i64 ((l:Int)+1))).cell? ⟨b2,c,none⟩=some (.int .i64 (inn.getD c 0:Nat)):=by
            rw[Anq _ _ _ _ (by intro e';simp only[Addr.mk.injEq]at e';exact n3 e'.1.symm)];exact ci
           have HS:Aside (AR ((wr.setCell ⟨b3,c,none⟩ (.int .i64 ((l:Int)+1))).setCell ⟨b2,c,none⟩ (.int .i64 (mn:Nat))) b2 (J0 inn mn mx (c+1))∧AR ((wr.setCell ⟨b3,c,none⟩ (.int .i64 ((l:Int)+1))).setCell ⟨b2,c,none⟩ (.int .i64 (mn:Nat))) b3 (I1 inn (A6 s.data.toList r).2 mn mx (c+1))):=by
            rw[show((l+1:Nat):Int)=(l:Int)+1 from by omega]at hs2 hs3;exact⟨hs2,hs3⟩
           clear hl e2 e3 hs2 hs3 hmem hib hob;clear HIT;rw[h1]at ci ci2;have hb1:((mn:Int)==(mn:Int))=true:=by simp
           clear h1;go_wp2_with fail;refine(hmb _).mono ?_;rintro e W6 ⟨rfl,hw6⟩;subst W6;clear hmb;go_wp2;go_roundw
           case rel=>exact⟨c+1,by omega,by go_num,HS.out.1,HS.out.2,(hkr.setCell (.inr (.inr rfl)) _).setCell (.inr (.inl rfl)) _⟩
           case measure=>simp[intOf];omega
          ·by_cases h2:inn.getD c 0=mx
           ·have HIT:inn.getD c 0=mn∨inn.getD c 0=mx:= .inr h2;have hmem:=(HHit.out c hlt HIT).1;have hl17:=(HHit.out c hlt HIT).2;have hmb:=fun V=>Qx s c V hs hlt;rw[hmem]at hmb;have co:=hob.cell (i:=c) (by rw[Fq];exact hlt);rw[Hv _ _ _ _ _ _ hlt,if_neg (by omega)]at co;have fo:=hob.free c;have fi:=hib.free c;have e2:=Acf inn mn mx c hlt HIT;have e3:=Y7 inn (A6 s.data.toList r).2 mn mx c hlt HIT;have hs3:=(hob.set c ((A6 s.data.toList r).2.getD c 0+1)).other c (.int .i64 (mn:Nat)) (h:=b2) (fun e=>n3 e.symm);have hs2:=(hib.other c (.int .i64 (((A6 s.data.toList r).2.getD c 0+1:Nat):Int)) (h:=b3) n3).set c mn;rw[←e3]at hs3;rw[←e2]at hs2;obtain⟨l,hl⟩: ∃l,l=(A6 s.data.toList r).2.getD c 0:=⟨_,rfl⟩;rw[←hl]at co hs2 hs3 hl17;have ci2:(wr.setCell ⟨b3,c,none⟩ (.int .i64 ((l:Int)+1))).cell? ⟨b2,c,none⟩=some (.int .i64 (inn.getD c 0:Nat)):=by
             rw[Anq _ _ _ _ (by intro e';simp only[Addr.mk.injEq]at e';exact n3 e'.1.symm)];exact ci
            have HS:Aside (AR ((wr.setCell ⟨b3,c,none⟩ (.int .i64 ((l:Int)+1))).setCell ⟨b2,c,none⟩ (.int .i64 (mn:Nat))) b2 (J0 inn mn mx (c+1))∧AR ((wr.setCell ⟨b3,c,none⟩ (.int .i64 ((l:Int)+1))).setCell ⟨b2,c,none⟩ (.int .i64 (mn:Nat))) b3 (I1 inn (A6 s.data.toList r).2 mn mx (c+1))):=by
             rw[show((l+1:Nat):Int)=(l:Int)+1 from by omega]at hs2 hs3;exact⟨hs2,hs3⟩
            clear hl e2 e3 hs2 hs3 hmem hib hob;clear HIT;rw[h2]at ci ci2;have hb1:((mx:Int)==(mn:Int))=false:=by simp;omega
            have hb2:((mx:Int)==(mx:Int))=true:=by simp
            clear h1 h2;go_wp2_with fail;refine(hmb _).mono ?_;rintro e W6 ⟨rfl,hw6⟩;subst W6;clear hmb;go_wp2;go_roundw
            case rel=>exact⟨c+1,by omega,by go_num,HS.out.1,HS.out.2,(hkr.setCell (.inr (.inr rfl)) _).setCell (.inr (.inl rfl)) _⟩
            case measure=>simp[intOf];omega
           ·have hb1:(((inn.getD c 0:Nat):Int)==(mn:Int))=false:=by rw[Al5];omega
            have hb2:(((inn.getD c 0:Nat):Int)==(mx:Int))=false:=by rw[Al5];omega
            have e2:=Aid inn mn mx c (by omega);have e3:=Agn inn (A6 s.data.toList r).2 mn mx c (by omega);rw[←e2]at hib;rw[←e3]at hob;have HS:Aside (AR wr b2 (J0 inn mn mx (c+1))∧AR wr b3 (I1 inn (A6 s.data.toList r).2 mn mx (c+1))):=⟨hib,hob⟩;clear hib hob e2 e3 h1 h2;generalize inn.getD c 0=v at*;go_wp2;go_roundw
            case rel=>exact⟨c+1,by omega,by go_num,HS.out.1,HS.out.2,hkr⟩
            case measure=>simp[intOf];omega
         ·have hc256:c=256:=by omega
          have hdec:decide ((c:Int)<256)=false:=Ald (by omega);rw[hc256]at hib hob;have hb1r:=HA5.out.1.kept hkr (fun e=>by rcases e with e|e<;>omega);have cx:=hb1r.cell (i:=mn) (by rw[HC.out.1];omega);have cy:=hb1r.cell (i:=mx) (by rw[HC.out.1];omega);have fx:=hb1r.free mn;have fy:=hb1r.free mx;have lx:wt.getD mn 0≤6000:=HC.out.2.2 _ (by rw[Ak6,Ak7 (show mn<wt.length by rw[HC.out.1];omega)];exact Alo _);have ly:wt.getD mx 0≤6000:=HC.out.2.2 _ (by rw[Ak6,Ak7 (show mx<wt.length by rw[HC.out.1];omega)];exact Alo _);have hS1:=(hb1r.set mn (wt.getD mn 0+wt.getD mx 0)).set mx 0;have cy2:(wr.setCell ⟨b1,mn,none⟩ (.int .i64 (((wt.getD mn 0:Nat):Int)+((wt.getD mx 0:Nat):Int)))).cell? ⟨b1,mx,none⟩=some (.int .i64 (wt.getD mx 0:Nat)):=by
           rw[Anq _ _ _ _ (by intro e';simp only[Addr.mk.injEq]at e';omega)];exact cy
          rw[show((wt.getD mn 0+wt.getD mx 0:Nat):Int)=((wt.getD mn 0:Nat):Int)+((wt.getD mx 0:Nat):Int)from by omega]at hS1;have HF:Aside (Hm.Sim (A6 s.data.toList (r+1)).1 (Mt wt mn mx) (J0 inn mn mx 256)∧I1 inn (A6 s.data.toList r).2 mn mx 256=(A6 s.data.toList (r+1)).2):=by
           obtain⟨q1,q2,q3,q4,q5,q6⟩:=HXY.out;obtain⟨p1,p2⟩:=HXN.out;obtain⟨o1,o2⟩:=HMN.out;rw[Ajr _ _ _ HC.out.2.1,o1,o2,p1,p2];refine⟨(q3.merge q4).perm ?_,?_⟩
           ·show(Em X Y::Hm.left (Hm.left (A6 s.data.toList r).1)).Perm (Hm.left (Hm.left (A6 s.data.toList r).1)++[Em (Aq (A6 s.data.toList r).1) (Aq (Hm.left (A6 s.data.toList r).1))]);rw[←q1,←q2];exact(List.perm_append_singleton _ _).symm
           ·rw[Aie q3 q4 q5.len];show _=Hm.bump (A6 s.data.toList r).2 (Em (Aq (A6 s.data.toList r).1) (Aq (Hm.left (A6 s.data.toList r).1))).2.2;rw[←q1,←q2]
          have HG:Aside (AR wr b2 (J0 inn mn mx 256)∧AR wr b3 (A6 s.data.toList (r+1)).2∧Aa (fun j=>j=b2∨j=b3) W5 wr):=⟨hib,by rw[←HF.out.2];exact hob,hkr⟩;obtain⟨vx,hvx⟩: ∃n,n=wt.getD mn 0:=⟨_,rfl⟩;obtain⟨vy,hvy⟩: ∃n,n=wt.getD mx 0:=⟨_,rfl⟩;rw[←hvx]at cx lx;rw[←hvy]at cy ly;rw[←hvx,←hvy]at cy2;have HS1:Aside (AR ((wr.setCell ⟨b1,mn,none⟩ (.int .i64 ((vx:Int)+(vy:Int)))).setCell ⟨b1,mx,none⟩ (.int .i64 0)) b1 (Mt wt mn mx)):=by
           unfold Mt;rw[hvx,hvy];exact hS1
          have hmnI:(mn:Int)<256:=by omega
          clear hS1 hib hob hkr hb1r hvx hvy hc256;go_wp2_with fail
          go_region
          go_wp2
          go_roundg (gk-1)
          case measure=>omega
          case rel=>
           refine⟨r+1,Mt wt mn mx,J0 inn mn mx 256,by simp,.inr (by omega),by omega,HF.out.1,⟨HS1.out,?_,?_⟩,?_⟩
           ·exact(HG.out.1.other _ _ (fun e=>n1 e.symm)).other _ _ (fun e=>n1 e.symm)
           ·exact(HG.out.2.1.other _ _ (fun e=>n2 e.symm)).other _ _ (fun e=>n2 e.symm)
           ·exact((((HA5.out.2.2.2).trans HG.out.2.2 (fun _ _ h=> .inr h)).setCell (.inr (.inl rfl)) _).setCell (.inr (.inl rfl)) _).drew
      ·have hwr0:AR wr w.heap.size (List.replicate 256 0):=HR3.out.2.2.2.1.kept hkr (fun e=>by have:=HB.out;omega);have hkw:Apd w wr:=HR3.out.2.2.2.2.trans hkr (fun j h1 h2=>by have:=HB.out;omega);have hlen:(A6 s.data.toList r).2.length=256:=by
        rcases hr0 with e|e
        ·rw[e];exact Alj
        ·exact(Ls s.data.toList r e).2.1.len
       obtain⟨arr,harr⟩: ∃a,a=(Ac wt).toArray:=⟨_,rfl⟩;rw[←harr]at hl1 hasz hbox;have HARR:Aside (arr=(Ac wt).toArray):=harr;clear harr
       by_cases hg0:gk=0
       ·have hr00:r=0:=by omega
        have hn0:(Aj s.data.toList 256).length=0:=by omega
        have hnone:Ca wt (-1) 256=none:=by
         cases hL:Ca wt (-1) 256 with
         |none=>rfl
         |some j=>
          exfalso;have h1:=((Lr wt (-1) 256).1 j hL).2.1;have h2:=HSm.out.wo j (fun g hg=>by
           rw[hr00]at hg;have:Aj s.data.toList 256=[]:=Amj hn0
           change g∈Aj s.data.toList 256 at hg
           rw[this]at hg;simp at hg)
          omega
        rw[hnone,show N9 none= -1 from rfl]at hl1;have HLE:Aside (Hm.lens s.data.toList=(A6 s.data.toList r).2):=by
         show _=_;unfold Hm.lens;simp only;rw[if_neg (by omega),hn0,hr00];rfl
        have hfd:decide (r=0)=true:=Alb hr00;clear hr00 hnone hn0 hle hle2 hfine hin hii HSm
        go_wp2_with(first
         |(refine Amd rfl 94 _ rfl b1 rfl 94 arr (0,0) _ hbox Tryz.underlying94 rfl (by rw[hasz];exact Dp) ?_))
        refine(hl1 _).mono ?_;rintro e W4 ⟨rfl,hk4⟩;have hrow3:AR W4 b3 (A6 s.data.toList r).2:=HA.out.2.2.kept hk4 id;have hrow0:AR W4 w.heap.size (List.replicate 256 0):=hwr0.kept hk4 id;have hkeep:Apd w W4:=hkw.trans hk4 (fun _ _ h=>h);clear hl1 hbox hk4 HA hkr hwr0 hkw;obtain⟨TT,hTT⟩: ∃a,a=(Ac (A6 s.data.toList r).2).toArray:=⟨_,rfl⟩;have HTT:Aside (TT=(Ac (A6 s.data.toList r).2).toArray∧TT.size=256∧TT.all (·.oneCell')=true∧W4.heap[b3]?=some (.cells TT 94 (0,0))∧W4.heap[w.heap.size]?=some (.cells Tryz.zeroCells94 94 (0,0))∧Apd w W4∧Tryz.zeroCells94.size=256):=by
         rw[hTT];exact⟨rfl,by rw[A2,hlen],Eb _,hrow3,by rw[HZ.out];exact hrow0,hkeep,by rw[HZ.out,A2,Alj]⟩
        clear hTT hrow3 hrow0 hkeep
        go_wp2_with(first
         |(refine Amd rfl 94 _ rfl b3 rfl 94 TT (0,0) _ HTT.out.2.2.2.1 Tryz.underlying94 rfl (by rw[HTT.out.2.1];exact Dp) ?_)
         |(refine wpList_store_row _ rfl 94 _ _ rfl w.heap.size 94 Tryz.zeroCells94 TT rfl rfl HTT.out.2.2.2.2.1 (by rw[HTT.out.2.1];exact Dp) (by rw[HTT.out.2.1];exact HTT.out.2.2.2.2.2.2) HTT.out.2.2.1 ?_;intro w9 hw9 hk9))
        refine Amo (v:= .agg TT) (Am3 Tryz.results44 _ w9 w.heap.size 94 _ (0,0) _ rfl hw9 Tryz.underlying94 rfl (by rw[HTT.out.2.1];exact Dp)) rfl ⟨by rw[HTT.out.1,HLE.out],?_⟩;exact HTT.out.2.2.2.2.2.1.trans hk9 (fun j h1 h2=>by omega)
       ·have hgk1:gk=1:=by omega
        have hrn:r<(Aj s.data.toList 256).length:=by omega
        obtain⟨hwl,hw,_⟩:=Ls s.data.toList r hrn;have hgl:(A6 s.data.toList r).1.length=1:=by omega
        have hll:=D8 (A6 s.data.toList r).1 (by omega);have hf1:=HSm.out.first (by omega);have hf2:=(HSm.out.perm (Iy _ (by omega))).second ((hw.perm (Iy _ (by omega))).nd);rw[if_neg (by omega)]at hf2;have hl2:=fun W=>Oa wt ((Aq (A6 s.data.toList r).1).2.1.toNat:Int) W hin hle2 (by omega) (by have:=(Aq (A6 s.data.toList r).1).2.1.toNat_lt;omega);rw[hf1]at hl1;rw[hf2,←HARR.out,show N9 none= -1 from rfl]at hl2;obtain⟨xa,hxa⟩: ∃n,n=(Aq (A6 s.data.toList r).1).2.1.toNat:=⟨_,rfl⟩;have hx8:xa<256:=by rw[hxa];exact UInt8.toNat_lt _
        have HXA:Aside (xa=(Aq (A6 s.data.toList r).1).2.1.toNat):=hxa;rw[←hxa]at hl1 hl2;rw[show N9 (some xa)=(xa:Int)from rfl]at hl1;have hxd:decide (0≤(xa:Int))=true:=Alb (by omega);have hxI:(xa:Int)<256:=by omega
        clear hxa hf1 hf2 hle hle2 hfine hin hii;have HNL:Aside ((Aj s.data.toList 256).length=r+1):=by show _=_;omega
        go_wp2_with(first
         |(refine Amd rfl 94 _ rfl b1 rfl 94 arr (0,0) _ hbox Tryz.underlying94 rfl (by rw[hasz];exact Dp) ?_))
        refine(hl1 _).mono ?_;rintro e W4 ⟨rfl,hk4⟩;have hbox4:=hk4.row hbox id
        go_wp2_with(first
         |(refine Amd rfl 94 _ rfl b1 rfl 94 arr (0,0) _ hbox4 Tryz.underlying94 rfl (by rw[hasz];exact Dp) ?_))
        refine(hl2 _).mono ?_;rintro e W5 ⟨rfl,hk5⟩;have hk45:Apd wr W5:=hk4.trans hk5 (fun _ _ h=>h);have h3:AR W5 b3 (A6 s.data.toList r).2:=HA.out.2.2.kept hk45 id;have h0:AR W5 w.heap.size (List.replicate 256 0):=hwr0.kept hk45 id;have hk0:Apd w W5:=hkw.trans hk45 (fun _ _ h=>h);have n0:w.heap.size≠b3:=by have:=HB.out;omega
        clear hl1 hl2 hbox hbox4 hk4 hk5 hk45 HA hkr hwr0 hkw hgk hr0 hwl hll
        by_cases hrz:r=0
        ·have HLE:Aside (Hm.lens s.data.toList=(A6 s.data.toList r).2.set xa 1):=by
          show _=_;have e1:(Aj s.data.toList 256).length=1:=by have:=HNL.out;omega
          unfold Hm.lens;simp only;rw[if_pos e1,HXA.out,hrz];have e2:Aq (A6 s.data.toList 0).1=(Aj s.data.toList 256).getD 0 (0,0,[]):=by
           show(Aj s.data.toList 256).getD (Hm.first (Aj s.data.toList 256)) (0,0,[])=_;have:=Gg (Aj s.data.toList 256) (by omega);rw[show Hm.first (Aj s.data.toList 256)=0 from by omega]
          rw[e2];rfl
         have co:=h3.cell (i:=xa) (by rw[hlen];exact hx8);have fo:=h3.free xa;have hs3:=h3.set xa 1;have hlen2:((A6 s.data.toList r).2.set xa 1).length=256:=by rw[Amn];exact hlen
         have hrow3:AR (W5.setCell ⟨b3,xa,none⟩ (.int .i64 1)) b3 ((A6 s.data.toList r).2.set xa 1):=hs3;have hrow0:AR (W5.setCell ⟨b3,xa,none⟩ (.int .i64 1)) w.heap.size (List.replicate 256 0):=h0.other xa (.int .i64 1) n0;have hkeep:Apd w (W5.setCell ⟨b3,xa,none⟩ (.int .i64 1)):=hk0.setCell (p:=⟨b3,xa,none⟩) (.inl (by have:=HB.out;show _≤b3;omega)) _;generalize(A6 s.data.toList r).2.getD xa 0=old at co;have hfd:decide (r=0)=true:=Alb hrz;clear h3 h0 hk0 hs3 hrz;obtain⟨TT,hTT⟩: ∃a,a=(Ac ((A6 s.data.toList r).2.set xa 1)).toArray:=⟨_,rfl⟩;have HTT:Aside (TT=(Ac ((A6 s.data.toList r).2.set xa 1)).toArray∧TT.size=256∧TT.all (·.oneCell')=true∧(W5.setCell ⟨b3,xa,none⟩ (.int .i64 1)).heap[b3]?=some (.cells TT 94 (0,0))∧(W5.setCell ⟨b3,xa,none⟩ (.int .i64 1)).heap[w.heap.size]?=some (.cells Tryz.zeroCells94 94 (0,0))∧Apd w (W5.setCell ⟨b3,xa,none⟩ (.int .i64 1))∧Tryz.zeroCells94.size=256):=by
          rw[hTT];exact⟨rfl,by rw[A2,hlen2],Eb _,hrow3,by rw[HZ.out];exact hrow0,hkeep,by rw[HZ.out,A2,Alj]⟩
         clear hTT hrow3 hrow0 hkeep
         go_wp2_with(first
          |(refine Amd rfl 94 _ rfl b3 rfl 94 TT (0,0) _ HTT.out.2.2.2.1 Tryz.underlying94 rfl (by rw[HTT.out.2.1];exact Dp) ?_)
          |(refine wpList_store_row _ rfl 94 _ _ rfl w.heap.size 94 Tryz.zeroCells94 TT rfl rfl HTT.out.2.2.2.2.1 (by rw[HTT.out.2.1];exact Dp) (by rw[HTT.out.2.1];exact HTT.out.2.2.2.2.2.2) HTT.out.2.2.1 ?_;intro w9 hw9 hk9))
         refine Amo (v:= .agg TT) (Am3 Tryz.results44 _ w9 w.heap.size 94 _ (0,0) _ rfl hw9 Tryz.underlying94 rfl (by rw[HTT.out.2.1];exact Dp)) rfl ⟨by rw[HTT.out.1,HLE.out],?_⟩;exact HTT.out.2.2.2.2.2.1.trans hk9 (fun j h1 h2=>by omega)
        ·have HLE:Aside (Hm.lens s.data.toList=(A6 s.data.toList r).2):=by
          show _=_;have e1:(Aj s.data.toList 256).length=r+1:=HNL.out;unfold Hm.lens;simp only;rw[if_neg (by omega),e1,An0];rfl
         have hrow3:=h3;have hrow0:=h0;have hkeep:=hk0;have hfd:decide (r=0)=false:=Ald hrz;clear h3 h0 hk0 hrz;obtain⟨TT,hTT⟩: ∃a,a=(Ac (A6 s.data.toList r).2).toArray:=⟨_,rfl⟩;have HTT:Aside (TT=(Ac (A6 s.data.toList r).2).toArray∧TT.size=256∧TT.all (·.oneCell')=true∧W5.heap[b3]?=some (.cells TT 94 (0,0))∧W5.heap[w.heap.size]?=some (.cells Tryz.zeroCells94 94 (0,0))∧Apd w W5∧Tryz.zeroCells94.size=256):=by
          rw[hTT];exact⟨rfl,by rw[A2,hlen],Eb _,hrow3,by rw[HZ.out];exact hrow0,hkeep,by rw[HZ.out,A2,Alj]⟩
         clear hTT hrow3 hrow0 hkeep
         go_wp2_with(first
          |(refine Amd rfl 94 _ rfl b3 rfl 94 TT (0,0) _ HTT.out.2.2.2.1 Tryz.underlying94 rfl (by rw[HTT.out.2.1];exact Dp) ?_)
          |(refine wpList_store_row _ rfl 94 _ _ rfl w.heap.size 94 Tryz.zeroCells94 TT rfl rfl HTT.out.2.2.2.2.1 (by rw[HTT.out.2.1];exact Dp) (by rw[HTT.out.2.1];exact HTT.out.2.2.2.2.2.2) HTT.out.2.2.1 ?_;intro w9 hw9 hk9))
         refine Amo (v:= .agg TT) (Am3 Tryz.results44 _ w9 w.heap.size 94 _ (0,0) _ rfl hw9 Tryz.underlying94 rfl (by rw[HTT.out.2.1];exact Dp)) rfl ⟨by rw[HTT.out.1,HLE.out],?_⟩;exact HTT.out.2.2.2.2.2.1.trans hk9 (fun j h1 h2=>by omega)
namespace Hm
def Ey:List Bool→Option (List Bool)
 |[]=>none
 |false::t=>some (true::t)
 |true::t=>(Ey t).map (false:: ·)
theorem Ob(x k:Nat):At x (k+1)=decide (x%2=1)::At (x/2) k:=by
 unfold At;rw[List.range_succ_eq_map,Amu,List.map_map];refine List.cons_eq_cons.2 ⟨by simp,?_⟩;refine Aoa fun i _=>?_;simp only[Function.comp,Nat.succ_eq_add_one];rw[Amv,Aoj,Aox]
theorem Vb: ∀(l c:Nat),c<2^l→Ey (At c l)=if c+1<2^l then some (At (c+1) l)else none
 |0,c,h=>by
  have:c=0:=by simpa using h
  subst this;rfl
 |l+1,c,h=>by
  have ih:=Vb l (c/2) (by rw[Amv]at h;omega);rw[Ob,Ob (c+1)];have hp:2^(l+1)=2^l*2:=Amv ..
  by_cases e:c%2=1
  ·have e1:decide (c%2=1)=true:=Alb e;have e2:decide ((c+1)%2=1)=false:=Ald (by omega);rw[e1,e2,Ey,ih,show(c+1)/2=c/2+1 from by omega]
   by_cases k:c/2+1<2^l
   ·rw[if_pos k,if_pos (by omega)];rfl
   ·rw[if_neg k,if_neg (by omega)];rfl
  ·have e1:decide (c%2=1)=false:=Ald e;have e2:decide ((c+1)%2=1)=true:=Alb (by omega);rw[e1,e2,Ey,show(c+1)/2=c/2 from by omega,if_pos (by omega)]
def Ee(R:List Bool)(k:Nat):List Bool:=List.replicate k false++R.drop k
theorem Acg(R:List Bool)(k:Nat)(h:k≤R.length):(Ee R k).length=R.length:=by simp[Ee];omega
theorem Aig(R:List Bool)(k:Nat)(h:k<R.length)(h2:k<(Ee R k).length):(Ee R k)[k]=R[k]:=by
 have e:(Ee R k)[k]?=some R[k]:=by
  unfold Ee;rw[Alt (by simp),Alj,Amr,List.getElem?_drop,Aon,Ak7 h]
 rw[Ak7 h2]at e;exact Al1 e
theorem Ago(R:List Bool)(k:Nat)(h:k<R.length):Ee R (k+1)=(Ee R k).set k false:=by
 unfold Ee;have hl:(List.replicate k false).length=k:=by simp
 rw[Amt _ _ (by omega),hl,Amr,Al4 h,Ao4,Alx];rfl
theorem Agp(R:List Bool)(k:Nat)(h:k<R.length)(h0:R[k]=true)(hi:Ey R=(Ey (R.drop k)).map (List.replicate k false++ ·)):Ey R=(Ey (R.drop (k+1))).map (List.replicate (k+1) false++ ·):=by
 rw[hi,Al4 h,h0,Ey,Option.map_map];congr 1;funext l;simp[List.replicate_succ']
theorem Ajs(R:List Bool)(k:Nat)(h:k<R.length)(h0:R[k]=false)(hi:Ey R=(Ey (R.drop k)).map (List.replicate k false++ ·)):Ey R=some ((Ee R k).set k true):=by
 rw[hi,Al4 h,h0,Ey];unfold Ee;have hl:(List.replicate k false).length=k:=by simp
 rw[Amt _ _ (by omega),hl,Amr,Al4 h];rfl
theorem Aey(l:List Bool)(k:Nat)(h:k<l.length)(b:Bool):(l.set k b).reverse=l.reverse.set (l.length-1-k) b:=by
 apply Amf
 ·simp
 ·intro i h1 h2;have hi:i<l.length:=by simpa using h2
  rw[List.getElem_reverse,An8,An8,List.getElem_reverse];simp only[Amn]
  by_cases e:k=l.length-1-i
  ·rw[if_pos e,if_pos (by omega)]
  ·rw[if_neg e,if_neg (by omega)]
end Hm
def Jd(w:World)(g:Nat)(l:List UInt8):Prop:=g<w.heap.size∧ ∀j,(h:j<l.length)→w.cell? ⟨g,j,none⟩=some (.int .u8 (l[j].toNat:Nat))∧w.frozen? ⟨g,j,none⟩=false
theorem Jd.set{w:World}{g:Nat}{l:List UInt8}(h:Jd w g l)(i:Nat)(hi:i<l.length)(x:UInt8):Jd (w.setCell ⟨g,i,none⟩ (.int .u8 (x.toNat:Nat))) g (l.set i x):=by
 refine⟨by simpa using h.1,fun j hj=>⟨?_,by rw[World.frozen?_setCell];exact(h.2 j (by simpa using hj)).2⟩⟩;have hj':j<l.length:=by simpa using hj
 rw[An8]
 by_cases e:i=j
 ·subst e;rw[if_pos rfl];exact World.cell?_setCell_same _ _ _ (h.2 i hi).1
 ·rw[if_neg e,Anq _ _ _ _ (by intro e';simp only[Addr.mk.injEq]at e';omega)];exact(h.2 j hj').1
theorem Jd.back{w:World}{g:Nat}{l:List UInt8}(h:Jd w g l)(c:Nat):(convert 79 9 (.slice (some ⟨g,0,none⟩) l.length c)).run Tryz.prog w= .ok (.string ⟨l.toArray⟩) w:=by
 have hr:=run_convert_bytes_arg w _ _ Tryz.underlying79 Tryz.underlying5 g 0 l.length c (l.map fun b=>(b.toNat:Int)) (by simp) (fun i hi=>by
  have hil:i<l.length:=by simpa using hi
  rw[Al7,(h.2 i hil).1,Ak6,Alu,Ak7 hil];rfl) _ Tryz.underlying9
 have e:strOfNums (l.map fun b=>(b.toNat:Int))=⟨l.toArray⟩:=by
  unfold strOfNums;rw[List.map_map];have e2:((fun n:Int=>UInt8.ofNat n.toNat)∘fun b:UInt8=>(b.toNat:Int))=id:=by funext b;simp
  rw[e2,List.map_id]
 rw[e]at hr;exact hr
theorem Jd.made(w:World)(s:ByteArray):Jd (Lib.bytesWorld w 5 s) w.heap.size s.data.toList:=by
 refine⟨by rw[Lib.bytesWorld_size];omega,fun j hj=>?_⟩;have hj':j<s.size:=by simpa using hj
 refine⟨?_,?_⟩
 ·rw[Lib.bytesWorld_cell w 5 s j hj',Ak6,Ak7 hj];rfl
 ·unfold World.frozen?;rw[Lib.bytesWorld_at_new];simp[Lib.bytesCells];omega
def If(R:List Bool):Value:=match Ey R with
 |some R'=> .tuple #[.string ⟨(Ad R'.reverse).toArray⟩,.bool true]
 |none=> .tuple #[.string ⟨(Ad R.reverse).toArray⟩,.bool false]
set_option maxHeartbeats 400000 in
theorem Uh(R:List Bool)(w:World)(hR:R.length≤300):
  Calls Tryz.prog 88 #[.string ⟨(Ad R.reverse).toArray⟩] w fun e w'=>e= .returned (If R)∧Apd w w':=by
 obtain⟨s,hs⟩: ∃s,s=(⟨(Ad R.reverse).toArray⟩:ByteArray):=⟨_,rfl⟩;have hsz:s.size=R.length:=by rw[hs];show(Ad R.reverse).toArray.size=_;simp[Ad]
 have hsd:s.data.toList=Ad R.reverse:=by rw[hs]
 have hcv:=fun W=>Lib.run_convert_string_bytes (P:=Tryz.prog) W 9 79 5 s Tryz.underlying9 Tryz.underlying79 Tryz.underlying5;have hmd:=Jd.made w s;rw[hsd]at hmd;have hk1:Apd w (Lib.bytesWorld w 5 s):=by
  refine⟨rfl,rfl,rfl,by rw[Lib.bytesWorld_size];omega,fun k hk _=>Lib.bytesWorld_at_old w _ s k hk⟩
 rw[←hs];have hcw:=hcv w;rw[hsz]at hcw;obtain⟨cp,hcp⟩: ∃c,c=grownCap w R.length 0 5:=⟨_,rfl⟩;rw[←hcp]at hcw;obtain⟨W,hW⟩: ∃W,W=Lib.bytesWorld w 5 s:=⟨_,rfl⟩;rw[←hW]at hmd hk1 hcw;have HS:Aside (s=(⟨(Ad R.reverse).toArray⟩:ByteArray)):=hs;clear hcv hs hsd hcp hW hsz
 go_enter Tryz.func88,Tryz.ntmps88
 go_wp2_with fail
 go_loopw[5] (fun vi wr=> ∃k:Nat,k≤R.length∧vi= .int .i64 ((R.length:Int)-1-(k:Int))∧Jd wr w.heap.size (Ad (Ee R k).reverse)∧Hid (Ey R=(Ey (R.drop k)).map (List.replicate k false++ ·))∧Apd w wr) (fun i _=>(intOf i+1).toNat)
 case atStart=>exact⟨0,Alr _,by simp,hmd,by show _=_;simp,hk1⟩
 case round=>
  clear hmd hk1 hcw;obtain⟨k,hk,rfl,hb,HI,hkr⟩:=hrel;have hwl:=Acg R k hk
  by_cases hlt:k<R.length
  ·obtain⟨j,hj⟩: ∃j,j=R.length-1-k:=⟨_,rfl⟩;have zj:(R.length:Int)-1-(k:Int)=(j:Int):=by omega
   have hbl:(Ad (Ee R k).reverse).length=R.length:=by rw[E1,List.length_reverse,hwl]
   have hjl:j<(Ad (Ee R k).reverse).length:=by omega
   obtain⟨c1,f1⟩:=hb.2 j hjl;have hbit:(Ad (Ee R k).reverse)[j]=if R[k]then 49 else 48:=by
    have e1:(Ee R k).reverse[j]'(by rw[List.length_reverse];omega)=R[k]:=by
     rw[List.getElem_reverse];have e2:(Ee R k).length-1-j=k:=by omega
     simp only[e2];exact Aig R k hlt (by omega)
    have e0:(Ad (Ee R k).reverse)[j]?=some (if R[k]then 49 else 48):=by
     show(List.map _ _)[j]?=_;rw[Alu,Ak7 (by rw[List.length_reverse];omega),e1];rfl
    rw[Ak7 hjl]at e0;exact Al1 e0
   rw[hbit]at c1;have hjI:(j:Int)<(R.length:Int):=by omega
   have hd:decide (0≤(j:Int))=true:=Alb (by omega);have hst:=fun x=>hb.set j hjl x;rw[zj];cases hRk:R[k]with
   |false=>
    rw[hRk,if_neg (by simp)]at c1;have HR:Aside (Ey R=some ((Ee R k).set k true)):=Ajs R k hlt hRk HI.out;have h49:=hst 49;have e3:(Ad (Ee R k).reverse).set j 49=Ad ((Ee R k).set k true).reverse:=by
     rw[Aey _ _ (by omega),hwl,←hj,Wn]
    rw[e3]at h49;have hlen:(Ad ((Ee R k).set k true).reverse).length=R.length:=by rw[E1,List.length_reverse,Amn,hwl]
    have hbk:=h49.back cp;rw[hlen]at hbk;have hk9:Apd w (wr.setCell ⟨w.heap.size,j,none⟩ (.int .u8 49)):=hkr.setCell (p:=⟨w.heap.size,j,none⟩) (.inl (Ale _)) _;have HK9:Aside _:=hk9;obtain⟨q,hq⟩: ∃q,q=(⟨(Ad ((Ee R k).set k true).reverse).toArray⟩:ByteArray):=⟨_,rfl⟩;rw[←hq]at hbk;have HQ:Aside (q=(⟨(Ad ((Ee R k).set k true).reverse).toArray⟩:ByteArray)):=hq;have hbk2:(convert 79 9 (.slice (some ⟨w.heap.size,0,none⟩) R.length cp)).run Tryz.prog (wr.setCell ⟨w.heap.size,j,none⟩ (.int .u8 49))= .ok (.string q) (wr.setCell ⟨w.heap.size,j,none⟩ (.int .u8 49)):=hbk;have c2:wr.cell? ⟨w.heap.size,j,none⟩=some (.int .u8 48):=c1;clear h49 e3 hst hb hbit hbk hk9 hq hlen hbl hjl hj hwl hRk c1 HI;go_wp2;go_ret2;exact⟨by unfold If;rw[HR.out];simp only;rw[←HQ.out];rfl,HK9.out⟩
   |true=>
    rw[hRk,if_pos rfl]at c1;have HI2:Hid (Ey R=(Ey (R.drop (k+1))).map (List.replicate (k+1) false++ ·)):=Agp R k hlt hRk HI.out;have h48:=hst 48;have e3:(Ad (Ee R k).reverse).set j 48=Ad (Ee R (k+1)).reverse:=by
     rw[Ago R k hlt,Aey _ _ (by omega),hwl,←hj];unfold Ad;rw[Anm];rfl
    rw[e3]at h48;have H8:Aside (Jd (wr.setCell ⟨w.heap.size,j,none⟩ (.int .u8 48)) w.heap.size (Ad (Ee R (k+1)).reverse)):=h48;have c2:wr.cell? ⟨w.heap.size,j,none⟩=some (.int .u8 49):=c1;have HJ:Aside ((R.length:Int)-1-(k:Int)=(j:Int)):=zj;clear h48 e3 hst hb hbit hbl hjl hwl hRk c1 HI zj hj;go_wp2;go_roundw
    case rel=>exact⟨k+1,by omega,by have:=HJ.out;first|go_num|(congr 1;omega),H8.out,HI2,hkr.setCell (.inl (Ale _)) _⟩
    case measure=>simp[intOf]
  ·obtain rfl:R.length=k:=by omega
   have zj:(R.length:Int)-1-(R.length:Int)= -1:=by omega
   have HR:Aside (Ey R=none):=by
    show _=_;rw[HI.out,Anl];rfl
   rw[zj];clear hb hwl;go_wp2;go_ret2;exact⟨by unfold If;rw[HR.out];simp only;rw[←HS.out];rfl,hkr⟩
set_option maxHeartbeats 400000 in
theorem Agq(L:List Nat)(w:World)(hL:L.length=256)(hx: ∀x∈L,x≤100000):
  Calls Tryz.prog 89 #[.agg (Ac L).toArray] w fun e w'=>e= .returned (.bool (decide ((Ai L).length=1)))∧Apd w w':=by
 have hbox:(w.alloc (.cells (Ac L).toArray 94)).heap[w.heap.size]?=some (.cells (Ac L).toArray 94 (0,0)):=All w _;have hcell: ∀W:World,W.heap[w.heap.size]?=some (.cells (Ac L).toArray 94 (0,0))→ ∀b:Nat,b<256→W.cell? ⟨w.heap.size,b,none⟩=some (.int .i64 (L.getD b 0:Nat)):=by
  intro W hW b hb;rw[Alc _ _ b _ _ _ hW];simp[Ac,List.getD_eq_getElem?_getD,List.getElem?_eq_getElem (show b<L.length from by omega)]
 have hgx: ∀b:Nat,b<256→L.getD b 0≤100000:=fun b hb=>by
  rw[Ak6,Ak7 (show b<L.length from by omega)];exact hx _ (Alo _)
 have HC:Aside _:=hcell;have HG:Aside _:=hgx;have hcells:=fun b hb=>HC.out (w.alloc (.cells (Ac L).toArray 94)) hbox b hb;have HCE:Aside _:=hcells;clear hcell hgx hx hL hbox hcells;generalize(Ac L).toArray=arr at*
 go_enter Tryz.func89,Tryz.ntmps89
 go_wp2_with fail
 go_loopw[3,4] (fun n i wr=> ∃c:Nat,c≤256∧i= .int .i64 c∧n= .int .i64 ((Bi L c).length:Nat)∧wr=w.alloc (.cells arr 94)) (fun _ i _=>256-(intOf i).toNat)
 case atStart=>exact⟨0,by omega,rfl,rfl,rfl⟩
 case round=>
  obtain⟨c,hc,rfl,rfl,hwr⟩:=hrel;have HW:Aside (wr=w.alloc (.cells arr 94)):=hwr;have hle:=E0 L c
  by_cases hlt:c<256
  ·have hdec:decide ((c:Int)<256)=true:=Alb (by omega);have hcI:(c:Int)<256:=by omega
   have hcc:wr.cell? ⟨w.heap.size,c,none⟩=some (.int .i64 (L.getD c 0:Nat)):=by rw[hwr];exact HCE.out c hlt
   have hgc:=HG.out c hlt;have HT:Aside ((Bi L (c+1)).length=(Bi L c).length+if 0<L.getD c 0 then 1 else 0):=by
    show _=_;rw[Nq,Alg]
    by_cases h:0<L.getD c 0
    ·rw[if_pos h,if_pos h];rfl
    ·rw[if_neg h,if_neg h];rfl
   clear hwr;obtain⟨m,hm⟩: ∃m,m=(Bi L c).length:=⟨_,rfl⟩;rw[←hm]at hle HT;rw[←hm];clear hm
   by_cases h2:0<L.getD c 0
   ·have hd2:decide (0<L.getD c 0)=true:=Alb h2;rw[if_pos h2]at HT;generalize L.getD c 0=x at*;clear h2;go_wp2;go_roundw
    case rel=>exact⟨c+1,by omega,by go_num,by rw[HT.out];go_num,HW.out⟩
    case measure=>simp[intOf];omega
   ·have hx0:L.getD c 0=0:=by omega
    rw[if_neg h2,Aon]at HT;rw[hx0]at hcc;clear h2 hx0 hgc;go_wp2;go_roundw
    case rel=>exact⟨c+1,by omega,by go_num,by rw[HT.out];rfl,HW.out⟩
    case measure=>simp[intOf];omega
  ·have hc256:c=256:=by omega
   have hdec:decide ((c:Int)<256)=false:=Ald (by omega);have HR:Aside ((Bi L c).length=(Ai L).length):=by show _=_;rw[hc256];rfl
   have HK:Aside (Apd w wr):=by rw[hwr];exact(Aa.refl _ _).alloc _
   have HB:Aside ((((Bi L c).length:Int)==1)=decide ((Ai L).length=1)):=by
    show _=_;rw[HR.out]
    by_cases e:(Ai L).length=1
    ·rw[e];rfl
    ·rw[Ald e,Al5];omega
   clear hwr hc256;obtain⟨m,hm⟩: ∃m,m=(Bi L c).length:=⟨_,rfl⟩;rw[←hm]at hle HB;rw[←hm];clear hm;go_wp2;go_ret;exact⟨by rw[←HB.out];rfl,HK.out⟩
namespace Hm
def pre(h c:List UInt8):Bool:=decide (h.length≤c.length)&&c.take h.length==h
end Hm
set_option maxHeartbeats 400000 in
theorem Aab(s h:ByteArray)(w:World)(_hs:s.size≤100000)(_hh:h.size≤100000):
  Calls Tryz.prog 91 #[.string s,.string h] w fun e w'=>e= .returned (.bool (Hm.pre h.data.toList s.data.toList))∧ ∃q,w'=w.drewN q:=by
 have HP:Aside (Hm.pre h.data.toList s.data.toList=(decide (h.size≤s.size)&&(s.extract 0 h.size).toList==h.toList)):=by
  show _=_;unfold Hm.pre;have e1:h.data.toList.length=h.size:=by simp
  have e2:s.data.toList.length=s.size:=by simp
  have e3:(s.extract 0 h.size).toList=s.data.toList.take h.size:=by
   rw[Amq,Aom,Aos,Anz,Aoz,List.drop_zero]
  rw[e1,e2,e3,Amq]
 by_cases hle:h.size≤s.size
 ·have hd:decide ((s.size:Int)≥(h.size:Int))=true:=Alb (by omega);have hd2:(h.size:Int)≤(s.size:Int):=by omega
  have HQ:Aside (Hm.pre h.data.toList s.data.toList=((s.extract 0 h.size).toList==h.toList)):=by
   show _=_;rw[HP.out,Alb hle,Bool.true_and]
  clear HP
  go_enter Tryz.func91,Tryz.ntmps91
  go_wp2;go_ret;exact⟨by rw[HQ.out];rfl,0,rfl⟩
 ·have hd:decide ((s.size:Int)≥(h.size:Int))=false:=Ald (by omega);have hd2: ¬(h.size:Int)≤(s.size:Int):=by omega
  have HQ:Aside (Hm.pre h.data.toList s.data.toList=false):=by
   show _=_;rw[HP.out,Ald hle,Bool.false_and]
  clear HP
  go_enter Tryz.func91,Tryz.ntmps91
  go_wp2;go_ret;exact⟨by rw[HQ.out];rfl,0,rfl⟩
end Go.Proofs.YtegnkfdbmmndaaaGreat
