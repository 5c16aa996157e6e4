import Derived.Test.YtegnkfdbmmndaaaGreatJ00
import Derived.Test.YtegnkfdbmmndaaaGreatJ08
import Derived.Test.YtegnkfdbmmndaaaGreatJ11
import Derived.Test.YtegnkfdbmmndaaaGreatJ02

namespace Go.Proofs.YtegnkfdbmmndaaaGreat
open Hm
open Go.RowKit
def Fc(w:World)(v:Value)(ms:List UInt8):Prop:= ∃g c,v= .slice (some ⟨g,0,none⟩) ms.length c∧ms.length≤c∧c≤maxLen∧g<w.heap.size∧ ∀i,(h:i<ms.length)→w.cell? ⟨g,i,none⟩=some (.int .u8 (ms[i].toNat:Nat))
theorem Fc.kept{S:Nat→Prop}{w w':World}{v:Value}{ms:List UInt8}(h:Fc w v ms)(hk:Aa S w w')(hn: ∀k,v.ownBlock=some k→ ¬S k):Fc w' v ms:=by
 obtain⟨g,c,rfl,h1,h2,h3,h4⟩:=h;exact⟨g,c,rfl,h1,h2,Amp h3 hk.size,fun i hi=>(hk.cell (p:=⟨g,i,none⟩) h3 (hn g rfl)).trans (h4 i hi)⟩
namespace Hm
abbrev Grp:=Nat×UInt8×List UInt8
def Ct:List Grp→List Value→List Value
 |g::gs,v::vs=> .int .i64 (g.1:Nat):: .int .u8 (g.2.1.toNat:Nat)::v::Ct gs vs
 |_,_=>[]
theorem M0: ∀(gs:List Grp) (vs:List Value),vs.length=gs.length→(Ct gs vs).length=gs.length*3
 |[],[],_=>rfl
 |g::gs,v::vs,h=>by
  have:=M0 gs vs (by simpa using h);simp only[Ct,Amc,this];omega
 |[],v::vs,h=>by simp at h
 |g::gs,[],h=>by simp at h
theorem Qm: ∀(gs:List Grp) (vs:List Value) (hs:List Grp) (us:List Value),vs.length=gs.length→Ct (gs++hs) (vs++us)=Ct gs vs++Ct hs us
 |[],[],hs,us,_=>rfl
 |g::gs,v::vs,hs,us,h=>by
  have:=Qm gs vs hs us (by simpa using h);simp only[Ct,Aok,this]
 |[],v::vs,_,_,h=>by simp at h
 |g::gs,[],_,_,h=>by simp at h
theorem Vw: ∀(gs:List Grp) (vs:List Value) (i:Nat) (h:i<gs.length) (h2:i<vs.length),(Ct gs vs)[3*i]?=some (.int .i64 (gs[i].1:Nat))∧(Ct gs vs)[3*i+1]?=some (.int .u8 (gs[i].2.1.toNat:Nat))∧(Ct gs vs)[3*i+2]?=some vs[i]
 |g::gs,v::vs,0,_,_=>⟨rfl,rfl,rfl⟩
 |g::gs,v::vs,i+1,h,h2=>by
  have:=Vw gs vs i (by simpa using h) (by simpa using h2);simp only[show 3*(i+1)=3*i+3 from rfl,show 3*i+3+1=(3*i+1)+3 from rfl,show 3*i+3+2=(3*i+2)+3 from rfl,Ct,Aog,List.getElem_cons_succ];exact this
def cnt(l:List UInt8)(b:Nat):Nat:=l.countP fun x=>x.toNat==b
def weights(l:List UInt8):List Nat:=(List.range 256).map (cnt l)
theorem Fz(l:List UInt8):(weights l).length=256:=by simp[weights]
theorem Mg(l:List UInt8)(b:Nat)(h:b<(weights l).length):(weights l)[b]=cnt l b:=by simp[weights]
theorem Abg(l:List UInt8)(b:Nat):cnt l b≤l.length:=List.countP_le_length
theorem Tw:weights []=List.replicate 256 0:=by
 unfold weights cnt;generalize 256=n;apply Amf
 ·simp
 ·intro i h1 h2;simp
theorem Ru(l:List UInt8)(k:Nat)(h:k<l.length):weights (l.take (k+1))=(weights (l.take k)).set l[k].toNat (cnt (l.take k) l[k].toNat+1):=by
 apply Amf
 ·simp[weights]
 ·intro i h1 h2;rw[An8,Mg,Mg,Ali h];unfold cnt;rw[Ann]
  by_cases e:l[k].toNat=i
  ·subst e;simp
  ·simp[e]
def Aj(l:List UInt8)(b:Nat):List Grp:=((List.range b).filter fun x=>decide (0<cnt l x)).map fun x=>(cnt l x,UInt8.ofNat x,[UInt8.ofNat x])
theorem Rv(l:List UInt8)(b:Nat):Aj l (b+1)=Aj l b++if 0<cnt l b then [(cnt l b,UInt8.ofNat b,[UInt8.ofNat b])]else []:=by
 unfold Aj;rw[An4,Ang,Am9];congr 1
 by_cases h:0<cnt l b<;>simp[h]
theorem Ph(l:List UInt8)(b:Nat):(Aj l b).length≤b:=by
 unfold Aj;rw[Al6];exact Al2 (Ao2 _ _) (by simp)
end Hm
structure C8(w:World)(base:Nat)(v:Value)(gs:List Hm.Grp)(vs:List Value):Prop where
 len:vs.length=gs.length
 own:w.ownsRow base 216 3 v gs.length (Ct gs vs)
 mem: ∀i,(h:i<gs.length)→(h2:i<vs.length)→Fc w vs[i] gs[i].2.2∧ ∀k,vs[i].ownBlock=some k→v.ownBlock≠some k
theorem C8.append{w w1 w2:World}{base:Nat}{v v':Value}{gs:List Hm.Grp}{vs:List Value}{g:Hm.Grp}{mv:Value}(h:C8 w base v gs vs)(hk:Apd w w1)(_hb:base≤w.heap.size)
  (hm:Fc w1 mv g.2.2) (hmv: ∀k,mv.ownBlock=some k→v.ownBlock≠some k)
  (ho:w2.ownsRow base 216 3 v' (gs.length+1) (Ct gs vs++Ct [g] [mv])) (hg:w1.grownBy w2 v.ownBlock) (hmo:Cc w1 v v'):C8 w2 base v' (gs++[g]) (vs++[mv]):=by
 have hk2:Aa (fun k=>v.ownBlock=some k) w1 w2:=(Aa.refl _ _).grown hg (fun j hj=> .inr hj);refine⟨by simp[h.len],by rw[Qm _ _ _ _ h.len,Alg];exact ho,fun i hi h2=>?_⟩;have key: ∀(x:Value) (ms:List UInt8),Fc w1 x ms→(∀k,x.ownBlock=some k→v.ownBlock≠some k)→Fc w2 x ms∧ ∀k,x.ownBlock=some k→v'.ownBlock≠some k:=by
  intro x ms hx hxv;refine⟨hx.kept hk2 hxv,fun k hk' e=>?_⟩;obtain⟨gb,c,rfl,_,_,hlt,_⟩:=hx;cases hk';rcases hmo _ e with y|y
  ·exact hxv _ rfl y
  ·exact Nat.lt_irrefl _ (Amp hlt y)
 have hl:=h.len
 by_cases hlt:i<gs.length
 ·rw[List.getElem_append_left (by omega),List.getElem_append_left hlt];obtain⟨h3,h4⟩:=h.mem i hlt (by omega);exact key _ _ (h3.kept hk (fun _ _=>id)) h4
 ·have:i=gs.length:=by simp at hi;omega
  subst this;rw[List.getElem_append_right (by omega),List.getElem_append_right (by omega)];simp only[Amr,hl,List.getElem_cons_zero];exact key _ _ hm hmv
set_option maxHeartbeats 1000000 in
theorem Tx(s:ByteArray)(w:World)(hs:s.size≤6000):
  Calls Tryz.prog 138 #[.string s] w fun e w'=> ∃v vs,e= .returned v∧C8 w' w.heap.size v (Aj s.data.toList 256) vs∧Apd w w':=by
 obtain⟨i0,hi,hz0,hz1,hz2⟩:=Amz M9;have hsl:s.data.toList.length=s.size:=by simp
 have hza:=Ai6;have hr0:Eh (w.alloc (.cells Tryz.zeroCells94 94)) 94 w.heap.size (Hm.weights (s.data.toList.take 0)):=by
  unfold Eh;rw[All,hza,Apb,Tw]
 have HR0:Hid (Eh (w.alloc (.cells Tryz.zeroCells94 94)) 94 w.heap.size (Hm.weights (s.data.toList.take 0))):=hr0;clear hr0 hza
 go_enter Tryz.func138,Tryz.ntmps138
 go_wp2_with fail
 go_loopw[10] (fun i wr=> ∃k:Nat,k≤s.size∧i= .int .i64 k∧Eh wr 94 w.heap.size (Hm.weights (s.data.toList.take k))∧Apd w wr) (fun i _=>s.size-(intOf i).toNat)
 case atStart=>exact⟨0,Alr _,rfl,HR0.out,(Aa.refl _ _).alloc _⟩
 case round=>
  clear HR0;obtain⟨k,hk,rfl,hr,hkr⟩:=hrel
  by_cases hlt:k<s.size
  ·have hll:=Fz (s.data.toList.take k);obtain⟨cn,hck⟩: ∃cn:Nat,s[k].toNat=cn:=⟨_,rfl⟩;have hcn:cn<256:=by rw[←hck];exact UInt8.toNat_lt _
   have hd:=hr.cell (i:=cn) (by omega);have hf:=hr.free cn;rw[Mg]at hd;have hle:=Abg (s.data.toList.take k) cn;rw[Aln]at hle;have HS:=hr.set cn (Hm.cnt (s.data.toList.take k) cn+1);have hck2:s.data.toList[k].toNat=cn:=by rw[←hck];simp[ByteArray.getElem_eq_getElem_data]
   have ew:=Ru s.data.toList k (by omega);rw[hck2]at ew;rw[←ew]at HS;have H2:Hid (Eh _ 94 w.heap.size (Hm.weights (s.data.toList.take (k+1)))):=HS;generalize Hm.cnt (s.data.toList.take k) cn=q at*;clear HS hr hll ew hck2;go_wp2;go_roundw
   case rel=>exact⟨k+1,by omega,by go_num,H2.out,hkr.setCell (.inl (Ale _)) _⟩
   case measure=>simp[intOf];omega
  ·obtain rfl:k=s.size:=by omega
   rw[Al8 (by omega)]at hr;have hrow:=hr;unfold Eh at hrow;have hix: ∀b,(h:b<256)→ ∀W,(Instr.index 94 (.agg (Ac (Hm.weights s.data.toList)).toArray) (.int .i64 (b:Nat))).run Tryz.prog W= .ok (.int .i64 ((Hm.cnt s.data.toList b:Nat):Nat)) W:=by
    intro b hb W;rw[Mz 94 256 Tryz.underlying94 _ b (by rw[Fz];exact hb) (Fz _) W,Mg]
   have hasz:(Ac (Hm.weights s.data.toList)).toArray.size=256:=by
    rw[Alq,Ac,Al6,Fz]
   generalize(Ac (Hm.weights s.data.toList)).toArray=arr at hrow hix hasz;clear hr
   go_wp2_with(refine Amd rfl 94 _ rfl w.heap.size rfl 94 arr (0,0) _ hrow Tryz.underlying94 rfl (by rw[hasz];kernel_rfl) ?_)
   go_loopw[5,22] (fun u i wr=> ∃(b:Nat) (vs:List Value),b≤256∧i= .int .i64 b∧C8 wr w.heap.size u (Aj s.data.toList b) vs∧Apd w wr) (fun _ i _=>256-(intOf i).toNat)
   case atStart=>exact⟨0,[],by omega,rfl,⟨rfl,Aoe _ _ _ _,fun i h=>by simp[Aj]at h⟩,hkr⟩
   case round=>
    clear hkr hrow;obtain⟨b,vs,hb,rfl,hu,hkr⟩:=hrel
    by_cases hlt2:b<256
    ·have hixb:=hix b hlt2;have hdec:decide ((b:Int)<256)=true:=by simp;omega
     have hsuc:=Rv s.data.toList b;have hcle:=Abg s.data.toList b;have hslen:=Ph s.data.toList b;generalize Hm.cnt s.data.toList b=q at hixb hsuc hcle;clear hix hasz
     by_cases hq:0<q
     ·rw[if_pos hq]at hsuc;have hpos:decide (0<q)=true:=by simp;omega
      have HSUC:Hid (Aj s.data.toList (b+1)=Aj s.data.toList b++[(q,UInt8.ofNat b,[UInt8.ofNat b])]):=hsuc;clear hsuc;generalize Aj s.data.toList b=gs at hu HSUC hslen
      go_wp2_with(at_builtin;refine A7 _ rfl (.tmp 28) (.tmp 36) 213 rfl w.heap.size 216 i0 _ 3 40 Tryz.underlying213 hi hz0 hz1 hz2 rfl (by decide) _ gs.length (Ct gs vs) rfl ?c0 ⟨wr.heap.size+1,0,none⟩ 1 1 [.int .i64 (q:Nat),.int .u8 (b:Nat),.slice (some ⟨wr.heap.size,0,none⟩) 1 1] rfl rfl ?c1 ?c2 ?c3 ?c4 ?c5 ?_)
      case c0=>exact(((Aa.refl (fun _=>False) wr).alloc _).alloc _).owns hu.own (fun _ _=>id)
      case c1=>
       intro j u hj;rw[Addr.add_lit,Al7,Alc _ _ j _ _ _ (Anx wr _ _)];simpa using hj
      case c2=>first|exact⟨rfl,rfl,rfl⟩|(intro u hu;simp at hu;rcases hu with rfl|rfl|rfl<;>rfl)
      case c3=>unfold maxLen;omega
      case c5=>have:=hkr.size;simp;omega
      case c4=>omega
      intro v' w2 ho2 hg2 hm2;have hbz:w.heap.size≤wr.heap.size:=hkr.size;have hG:C8 w2 w.heap.size v' (gs++[(q,UInt8.ofNat b,[UInt8.ofNat b])]) (vs++[.slice (some ⟨wr.heap.size,0,none⟩) 1 1]):=by
       refine hu.append (((Aa.refl (fun _=>False) wr).alloc _).alloc _) hbz ⟨wr.heap.size,1,rfl,Ale _,by decide,?_,fun i hi=>?_⟩ (fun k hk' e=>?_) ?_ hg2 hm2
       ·simp;omega
       ·obtain rfl:i=0:=by simp at hi;exact hi
        rw[Alc _ _ 0 _ _ _ (Anw wr _ _)];simp;omega
       ·cases hk';exact Nat.lt_irrefl _ (hu.own.lt _ e).2
       ·simp only[Ct,Ame,Anb hlt2];exact ho2
      rw[←HSUC.out]at hG;have hk2:Apd w w2:=((hkr.alloc _).alloc _).grown hg2 (fun j hj=> .inl (hu.own.lt _ hj).1);clear hg2 hm2 ho2 hu HSUC;go_wp2;go_roundw
      case rel=>exact⟨b+1,_,by omega,by go_num,hG,hk2⟩
      case measure=>simp[intOf];omega
     ·rw[if_neg hq,Am4]at hsuc;obtain rfl:q=0:=by omega
      have HSUC:Hid (Aj s.data.toList (b+1)=Aj s.data.toList b):=hsuc;clear hsuc;go_wp2;go_roundw
      case rel=>
       refine⟨b+1,vs,by omega,by go_num,?_,hkr⟩;rw[HSUC.out];exact hu
      case measure=>simp[intOf];omega
    ·have hdec:decide ((b:Int)<256)=false:=by simp;omega
     obtain rfl:b=256:=by omega
     clear hix hasz;go_wp2;go_ret;exact⟨_,vs,rfl,hu,hkr⟩
namespace Hm
def Mn(cur:Array Value):Nat→List Value→Array Value
 |_,[]=>cur
 |o,v::r=>Mn (cur.setIfInBounds o v) (o+1) r
theorem M1: ∀(vs:List Value) (cur:Array Value) (o:Nat),o+vs.length≤cur.size→(Mn cur o vs).toList=cur.toList.take o++vs++cur.toList.drop (o+vs.length)
 |[],cur,o,_=>by simp[Mn]
 |v::r,cur,o,h=>by
  simp only[Amc]at h;rw[Mn,M1 r _ (o+1) (by simp;omega),Array.toList_setIfInBounds];have hl:o<cur.toList.length:=by simp;omega
  have e1:(cur.toList.set o v).take (o+1)=cur.toList.take o++[v]:=by
   rw[List.take_set,Ali hl,Amt _ _ (by simp;omega)];have hm:min o cur.size=o:=Ant (by omega);simp[hm]
  have e2:(cur.toList.set o v).drop (o+1+r.length)=cur.toList.drop (o+(v::r).length):=by
   rw[List.drop_set_of_lt (by omega)];congr 1;simp;omega
  rw[e1,e2];simp
theorem Vx: ∀(gs:List Grp) (vs:List Value),(∀k,(h:k<vs.length)→vs[k].oneCell'=true)→ ∀u∈Ct gs vs,u.oneCell'=true
 |[],_,_,u,hu=>by simp[Ct]at hu
 |g::gs,[],_,u,hu=>by simp[Ct]at hu
 |g::gs,v::vs,h,u,hu=>by
  simp only[Ct,List.mem_cons]at hu;rcases hu with rfl|rfl|rfl|hu
  ·rfl
  ·rfl
  ·exact h 0 (by simp)
  ·exact Vx gs vs (fun k hk=>h (k+1) (by simpa using hk)) u hu
theorem Jc: ∀(vs:List Value) (cur:Array Value) (o:Nat),(Mn cur o vs).size=cur.size
 |[],_,_=>rfl
 |v::r,cur,o=>by rw[Mn,Jc r];simp
theorem Rw: ∀(gs:List Grp) (vs:List Value) (i:Nat),vs.length=gs.length→i<gs.length→Ct (gs.eraseIdx i) (vs.eraseIdx i)=(Ct gs vs).take (i*3)++(Ct gs vs).drop ((i+1)*3)
 |g::gs,v::vs,0,_,_=>by simp[Ct]
 |g::gs,v::vs,i+1,h,hi=>by
  have:=Rw gs vs i (by simpa using h) (by simpa using hi);simp only[List.eraseIdx_cons_succ,Ct,show(i+1)*3=i*3+1+1+1 from by omega,show(i+1+1)*3=(i+1)*3+1+1+1 from by omega,List.take_succ_cons,List.drop_succ_cons,this,Aok]
 |[],_,_,_,hi=>by simp at hi
 |g::gs,[],_,h,_=>by simp at h
end Hm
theorem M2(g:Nat)(e:TypeId): ∀(vs:List Value) (cur:Array Value) (o:Nat) (w:World),w.heap[g]?=some (.cells cur e (0,0))→(w.setCells g o vs).heap[g]?=some (.cells (Mn cur o vs) e (0,0))
 |[],_,_,_,h=>h
 |v::r,cur,o,w,h=>M2 g e r _ (o+1) _ (Alf w g o cur e v h)
theorem Aa.setCells{S:Nat→Prop}{g:Nat}{a:World}(hp:a.heap.size≤g∨S g): ∀(vs:List Value) (o:Nat) {b:World},Aa S a b→Aa S a (b.setCells g o vs)
 |[],_,_,h=>h
 |v::r,o,_,h=>Aa.setCells hp r (o+1) (h.setCell (p:=⟨g,o,none⟩) hp v)
theorem Vy(w:World)(ty:TypeId)(b o c:Nat)(cur:Array Value)(e:TypeId)(hg:w.heap[b]?=some (.cells cur e (0,0)))(hs:o+3≤cur.size):
  (Builtin.clear_ #[213] ty #[.slice (some ⟨b,o,none⟩) 1 c]).run Tryz.prog w= .ok (.tuple #[]) (w.setCells b o [.int .i64 0,.int .u8 0,.slice none 0 0]):=by
 obtain⟨i0,hi,hz0,hz1,hz2⟩:=Amz M9;have hv: ∀w,(zeroValue 216).run Tryz.prog w= .ok (.agg #[.int .i64 0,.int .u8 0,.slice none 0 0]) w:=fun w=>by
  unfold zeroValue;kernel_rfl
 have hst:=run_storeCells_cells (P:=Tryz.prog) b o [.int .i64 0,.int .u8 0,.slice none 0 0] 0 w (fun j hj=>by
   simp only[Amc,List.length_nil]at hj;rw[Aon,Alc _ _ (o+j) _ _ _ hg,Array.getElem?_eq_getElem (by omega)];rfl) (fun j hj=>Alk _ _ _ _ _ hg) (by intro v hv;simp at hv;rcases hv with rfl|rfl|rfl<;>rfl)
 simp only[Aon]at hst;have hzc:(Builtin.zeroCells (Value.agg #[.int .i64 0,.int .u8 0,.slice none 0 0]).cells 1).toList=[.int .i64 0,.int .u8 0,.slice none 0 0]:=by kernel_rfl
 simp[Builtin.clear_,run_underlying Tryz.underlying213,hv,hzc,hst]
set_option maxHeartbeats 1000000 in
set_option maxRecDepth 100000 in
theorem Afr(base:Nat)(v:Value)(gs:List Hm.Grp)(vs:List Value)(i j:Nat)(w:World)(h:C8 w base v gs vs)(hl:gs.length≤256)(hi:i<gs.length)(hj:j=i+1):
  Calls Tryz.prog 179 #[v,.int .i64 i,.int .i64 j] w fun e w'=> ∃v',e= .returned v'∧C8 w' base v' (gs.eraseIdx i) (vs.eraseIdx i)∧v'.ownBlock=v.ownBlock∧Aa (fun k=>v.ownBlock=some k) w w':=by
 obtain⟨i0,hi0,hz0,hz1,hz2⟩:=Amz M9;rcases h.own.2 with⟨_,h0⟩|⟨g,cap,cur,rfl,hb,hg,hnc,hcm,hcs,htake⟩
 ·omega
 have hXl:(Ct gs vs).length=gs.length*3:=M0 gs vs h.len;have hlt:i<j:=by omega
 have hjn:j≤gs.length:=by omega
 have hm:cap≤9223372036854775807:=by unfold maxLen at hcm;omega
 obtain⟨news,hnews⟩: ∃news,news=(Ct gs vs).drop (j*3):=⟨_,rfl⟩;have hlen:news.length=(gs.length-j)*3:=by rw[hnews,Amb,hXl];omega
 have hcell: ∀k u,(Ct gs vs)[k]?=some u→w.drew.cell? ⟨g,k,none⟩=some u:=by
  intro k u hu;have hk:k<gs.length*3:=by have:=(List.getElem?_eq_some_iff.1 hu).1;omega
  show w.cell? _=_;rw[Alc _ _ k _ _ _ hg,←hu,←htake,Ani hk,Array.getElem?_toList]
 have hone: ∀u∈Ct gs vs,u.oneCell'=true:=Vx gs vs (fun k hk=>by
  obtain⟨⟨gg,cc,e,_⟩,_⟩:=h.mem k (by have:=h.len;omega) hk;rw[e];rfl)
 obtain⟨A,hA,hsrc⟩: ∃A:Addr,(if cap=j then some (⟨g,0,none⟩:Addr)else some ⟨g,j*3,none⟩)=some A∧Hid (∀t u,news[t]?=some u→w.drew.cell? (A.add t)=some u):=by
  by_cases hcj:cap=j
  ·refine⟨⟨g,0,none⟩,by simp[hcj],fun t u hu=>?_⟩;have h0:news.length=0:=by rw[hlen];omega
   rw[List.length_eq_zero_iff.1 h0]at hu;simp at hu
  ·refine⟨⟨g,j*3,none⟩,by simp[hcj],fun t u hu=>?_⟩;rw[hnews,List.getElem?_drop]at hu;rw[Addr.add_lit];exact hcell _ _ hu
 have s1:Hid (news.length=(gs.length-j)*3):=hlen;have s2:Hid (∀u∈news,u.oneCell'=true):=fun u hu=>hone u (by rw[hnews]at hu;exact List.mem_of_mem_drop hu);have s3:Hid (∀t,t<news.length→(w.drew.cell? ⟨g,0+i*3+t,none⟩).isSome=true∧w.drew.frozen? ⟨g,0+i*3+t,none⟩=false):=by
  intro t ht;refine⟨?_,Alk w _ _ _ _ hg⟩;show(w.cell? _).isSome=true;rw[Alc _ _ (0+i*3+t) _ _ _ hg,Array.getElem?_eq_getElem (by omega)];rfl
 obtain⟨W1,hW1⟩: ∃W1,W1=w.drew.setCells g (0+i*3) news:=⟨_,rfl⟩;have hg1:W1.heap[g]?=some (.cells (Mn cur (0+i*3) news) 216 (0,0)):=by rw[hW1];exact M2 g _ news cur _ _ hg
 have hcl:=fun ty=>Vy W1 ty g ((i+(gs.length-j))*3) (cap-(i+(gs.length-j))) _ _ hg1 (by rw[Jc];omega);have hW:Hid (W1=w.drew.setCells g (0+i*3) news):=hW1;have HX:Hid (j=i+1):=hj;have hcall:Calls Tryz.prog 179 #[.slice (some ⟨g,0,none⟩) gs.length cap,.int .i64 i,.int .i64 j] w fun e w'=>e= .returned (.slice (some ⟨g,0,none⟩) (i+(gs.length-j)) cap)∧w'=W1.setCells g ((i+(gs.length-j))*3) [.int .i64 0,.int .u8 0,.slice none 0 0]:=by
  have hone1:gs.length-(i+(gs.length-j))=1:=by omega
  generalize gs.length=n at*;have mixed:Tryz.prog.follows Departure.mixedOrders=true:=by kernel_rfl
  have hic:i≤cap:=by omega
  have hjc:j≤cap:=by omega
  clear hcm hj h hg hcs htake hXl hg1 hW1 hnews hlen hcell hone
  go_enter Tryz.func179,Tryz.ntmps179
  go_wp2_with fail
  go_region_law_o (refine step_append_room rfl (.tmp 22) (.tmp 25) 213 rfl 216 i0 3 Tryz.underlying213 hi0 hz1 g 0 i cap (by simp[Act.eval,Act.put]) A (n-j) (cap-j) news (by simp[Act.eval,Act.put]) s1.out hsrc.out s2.out (by omega) s3.out ?_;rw[←hW.out])
  go_wp2;go_ret;exact⟨rfl,rfl⟩
 clear hA hsrc s1 s2 s3 hcl hW;refine hcall.mono ?_;rintro e w' ⟨rfl,rfl⟩;have hk1:Aa (fun k=>k=g) w (W1.setCells g ((i+(gs.length-j))*3) [.int .i64 0,.int .u8 0,.slice none 0 0]):=by
  rw[hW1];have hS:w.heap.size≤g∨(fun k=>k=g) g:= .inr rfl;exact Aa.setCells (S:=fun k=>k=g) hS _ _ (Aa.setCells (S:=fun k=>k=g) hS _ _ (Aa.refl _ w).drew)
 have hg2:=M2 g 216 [.int .i64 0,.int .u8 0,.slice none 0 0] _ ((i+(gs.length-j))*3) _ hg1;have hle:(gs.eraseIdx i).length=i+(gs.length-j):=by rw[List.length_eraseIdx_of_lt hi];omega
 have hlv:(vs.eraseIdx i).length=i+(gs.length-j):=by have:=h.len;rw[List.length_eraseIdx_of_lt (by omega)];omega
 refine⟨_,rfl,⟨by rw[hle,hlv],⟨?_,.inr ⟨g,cap,_,by rw[hle],hb,hg2,by omega,hcm,by rw[Jc,Jc,hcs],?_⟩⟩,?_⟩,rfl,hk1.wider (fun k _ e=>by rw[e];rfl)⟩
 ·rw[M0 _ _ (by rw[hle,hlv])]
 ·rw[hle,M1 _ _ _ (by rw[Jc];simp;omega),Alx,List.take_append_of_le_length (by simp[Jc];omega),List.take_take,Nat.min_self,M1 _ _ _ (by omega)];rw[List.take_append_of_le_length (by simp;omega),Rw _ _ _ h.len hi,←hj,←hnews,←htake,List.take_take,Al8 (by simp;omega)];congr 2<;>omega
 ·intro k hk1' hk2;have key: ∀m,(hm1:m<gs.length)→(hm2:m<vs.length)→Fc (W1.setCells g ((i+(gs.length-j))*3) [.int .i64 0,.int .u8 0,.slice none 0 0]) vs[m] gs[m].2.2∧ ∀k,vs[m].ownBlock=some k→(some g:Option Nat)≠some k:=by
   intro m hm1 hm2;obtain⟨h3,h4⟩:=h.mem m hm1 hm2;exact⟨h3.kept hk1 (fun k hk e=>h4 k hk (by rw[e];rfl)),h4⟩
  have hvl:=h.len;rw[List.getElem_eraseIdx,List.getElem_eraseIdx]
  by_cases hki:k<i
  ·rw[dif_pos hki,dif_pos hki];exact key k (by omega) (by omega)
  ·rw[dif_neg hki,dif_neg hki];exact key (k+1) (by omega) (by omega)
end Go.Proofs.YtegnkfdbmmndaaaGreat
namespace Go.Proofs.YtegnkfdbmmndaaaGreat
open Hm
open Go.RowKit Go.Sort
namespace Hm
def L4(g h:Grp):Int:=orI (Lib.compareInt g.1 h.1) (Lib.compareInt g.2.1.toNat h.2.1.toNat)
end Hm
theorem Vz(x:Int)(w:World):Calls Tryz.prog 217 #[.int .u8 x] w fun e w'=>e= .returned (.bool false)∧w'=w:=by
 go_enter Tryz.func217,Tryz.ntmps217
 go_wp2;go_ret;exact⟨rfl,rfl⟩
theorem Abh(x y:Int)(w:World):Calls Tryz.prog 199 #[.int .u8 x,.int .u8 y] w fun e w'=>e= .returned (.int .i64 (Lib.compareInt x y))∧w'=w:=by
 have h1:=fun W=>Vz x W;have h2:=fun W=>Vz y W;rcases Int.lt_trichotomy x y with h|h|h
 ·have hd:decide (x<y)=true:=by simp;omega
  have HE:Hid (Lib.compareInt x y= -1):=by show _=_;unfold Lib.compareInt;simp;omega
  go_enter Tryz.func199,Tryz.ntmps199
  go_wp2_with(first|(go_at_call_of 217 x;refine(h1 _).mono ?_;rintro e w' ⟨rfl,rfl⟩)|(go_at_call_of 217 y;refine(h2 _).mono ?_;rintro e w' ⟨rfl,rfl⟩))
  go_ret;exact⟨by rw[HE.out];rfl,rfl⟩
 ·subst h;have hd:decide (x<x)=false:=by simp
  have HE:Hid (Lib.compareInt x x=0):=by show _=_;unfold Lib.compareInt;simp
  go_enter Tryz.func199,Tryz.ntmps199
  go_wp2_with(first|(go_at_call_of 217 x;refine(h1 _).mono ?_;rintro e w' ⟨rfl,rfl⟩)|(go_at_call_of 217 y;refine(h2 _).mono ?_;rintro e w' ⟨rfl,rfl⟩))
  go_ret;exact⟨by rw[HE.out];rfl,rfl⟩
 ·have hd:decide (x<y)=false:=by simp;omega
  have hd2:decide (y<x)=true:=by simp;omega
  have HE:Hid (Lib.compareInt x y=1):=by show _=_;unfold Lib.compareInt;rw[if_neg (by omega),if_pos (by omega)]
  go_enter Tryz.func199,Tryz.ntmps199
  go_wp2_with(first|(go_at_call_of 217 x;refine(h1 _).mono ?_;rintro e w' ⟨rfl,rfl⟩)|(go_at_call_of 217 y;refine(h2 _).mono ?_;rintro e w' ⟨rfl,rfl⟩))
  go_ret;exact⟨by rw[HE.out];rfl,rfl⟩
set_option maxHeartbeats 2000000 in
theorem Tj(g h:Hm.Grp)(mv nv:Value)(w:World):
  Calls Tryz.prog 178 #[.agg #[.int .i64 (g.1:Nat),.int .u8 (g.2.1.toNat:Nat),mv],.agg #[.int .i64 (h.1:Nat),.int .u8 (h.2.1.toNat:Nat),nv]] w fun e w'=>e= .returned (.int .i64 (L4 g h))∧Ha w w':=by
 have hc1:=fun W=>Tryz.cmp_Compare_int (g.1:Int) (h.1:Int) W;have hc2:=fun W=>Abh (g.2.1.toNat:Int) (h.2.1.toNat:Int) W;have HE:Hid (L4 g h=Hm.orI (Lib.compareInt g.1 h.1) (Lib.compareInt g.2.1.toNat h.2.1.toNat)):=rfl;generalize Lib.compareInt (g.1:Int) (h.1:Int)=x at hc1 HE;generalize Lib.compareInt (g.2.1.toNat:Int) (h.2.1.toNat:Int)=y at hc2 HE;generalize g.1=a at*;generalize h.1=c at*;generalize g.2.1.toNat=b at*;generalize h.2.1.toNat=d at*;have ho:=Ahj ((w.alloc (.cells #[.int .i64 (a:Nat),.int .u8 (b:Nat),mv] 216)).alloc (.cells #[.int .i64 (c:Nat),.int .u8 (d:Nat),nv] 216)) x y;rw[show((w.alloc (.cells #[.int .i64 (a:Nat),.int .u8 (b:Nat),mv] 216)).alloc (.cells #[.int .i64 (c:Nat),.int .u8 (d:Nat),nv] 216)).heap.size=w.heap.size+1+1 from by simp]at ho
 go_enter Tryz.func178,Tryz.ntmps178
 go_wp2
 go_region_held(fun W=>W.cell? ⟨w.heap.size,0,none⟩=some (.int .i64 (a:Nat))∧W.cell? ⟨w.heap.size,1,none⟩=some (.int .u8 (b:Nat))∧W.cell? ⟨w.heap.size+1,0,none⟩=some (.int .i64 (c:Nat))∧W.cell? ⟨w.heap.size+1,1,none⟩=some (.int .u8 (d:Nat))) (go_keep)
  (first
  |(go_at_call_of 177 (a:Int);refine(hc1 _).mono ?_;rintro e w' ⟨rfl,rfl⟩)
  |(go_at_call_of 199 (b:Int);refine(hc2 _).mono ?_;rintro e w' ⟨rfl,rfl⟩)
  |(go_at_call 176;refine ho.mono ?_;rintro e w' ⟨rfl,rfl⟩))
 go_wp2;go_ret;exact⟨by rw[HE.out];rfl,(((((Ha.refl w).alloc _).alloc _).alloc _).drew)⟩
theorem Ha.kept{w w':World}(h:Ha w w')(S:Nat→Prop):Aa S w w':=by
 obtain⟨q,os,rfl⟩:=h;exact⟨rfl,rfl,rfl,by unfold grow World.drewN;simp,fun k hk _=>by
  unfold grow World.drewN;simp only[];rw[Array.getElem?_append_left hk]⟩
namespace Hm
def Ci(gs:List Grp):Nat→Nat
 |0=>0
 |k+1=>if L4 (gs.getD k (0,0,[])) (gs.getD (Ci gs k) (0,0,[]))<0 then k else Ci gs k
def first(gs:List Grp):Nat:=Ci gs gs.length
theorem V0(gs:List Grp)(h:0<gs.length)(k:Nat)(hk:k≤gs.length):Ci gs k<gs.length:=by
 induction k with
 |zero=>exact h
 |succ k ih=>
  rw[Ci];split
  ·omega
  ·exact ih (by omega)
theorem Gg(gs:List Grp)(h:0<gs.length):first gs<gs.length:=V0 gs h _ (Ale _)
end Hm
theorem C8.cells{w:World}{base:Nat}{g n cap:Nat}{gs:List Hm.Grp}{vs:List Value}(h:C8 w base (.slice (some ⟨g,0,none⟩) n cap) gs vs){i:Nat}(hi:i<gs.length)(h2:i<vs.length):
  w.cell? ⟨g,i*3,none⟩=some (.int .i64 (gs[i].1:Nat))∧w.cell? ⟨g,i*3+1,none⟩=some (.int .u8 (gs[i].2.1.toNat:Nat))∧w.cell? ⟨g,i*3+2,none⟩=some vs[i]:=by
 obtain⟨h3,h4,h5⟩:=Vw gs vs i hi h2;have hn:n=gs.length:=by
  rcases h.own.2 with⟨e,_⟩|⟨_,_,_,e,_⟩
  ·cases e
  ·cases e;rfl
 subst hn;refine⟨?_,?_,?_⟩
 ·rw[h.own.cellAt _ (by omega),Aoj,h3]
 ·rw[h.own.cellAt _ (by omega),Aoj,h4]
 ·rw[h.own.cellAt _ (by omega),Aoj,h5]
theorem C8.cellsD{w:World}{base:Nat}{g n cap:Nat}{gs:List Hm.Grp}{vs:List Value}(h:C8 w base (.slice (some ⟨g,0,none⟩) n cap) gs vs){i:Nat}(hi:i<gs.length):
  w.cell? ⟨g,i*3,none⟩=some (.int .i64 ((gs.getD i (0,0,[])).1:Nat))∧w.cell? ⟨g,i*3+1,none⟩=some (.int .u8 ((gs.getD i (0,0,[])).2.1.toNat:Nat))∧w.cell? ⟨g,i*3+2,none⟩=some (vs.getD i undef):=by
 have h2:i<vs.length:=by have:=h.len;omega
 rw[Ak6,Ak6,Ak7 hi,Ak7 h2];exact h.cells hi h2
theorem C8.memD{w:World}{base:Nat}{v:Value}{gs:List Hm.Grp}{vs:List Value}(h:C8 w base v gs vs){i:Nat}(hi:i<gs.length):
  Fc w (vs.getD i undef) (gs.getD i (0,0,[])).2.2∧ ∀k,(vs.getD i undef).ownBlock=some k→v.ownBlock≠some k:=by
 have h2:i<vs.length:=by have:=h.len;omega
 rw[Ak6,Ak6,Ak7 hi,Ak7 h2];exact h.mem i hi h2
set_option maxHeartbeats 2000000 in
theorem Qn(base pb:Nat)(v:Value)(gs:List Hm.Grp)(vs:List Value)(w:World)(h:C8 w base v gs vs)(hp:w.heap[pb]?=some (.cells #[v] 213 (0,0)))(hpv:v.ownBlock≠some pb)
  (hpm: ∀m,(h:m<vs.length)→vs[m].ownBlock≠some pb) (hl:gs.length≤256) (h0:0<gs.length):
  Calls Tryz.prog 139 #[.pointer (some ⟨pb,0,none⟩)] w fun e w'=> ∃v' gw gl gv,e= .returned (.agg #[.int .i64 (gw:Nat),.int .u8 (gl:Nat),gv])∧gw=(gs.getD (Hm.first gs) (0,0,[])).1∧gl=(gs.getD (Hm.first gs) (0,0,[])).2.1.toNat∧gv=vs.getD (Hm.first gs) undef∧
   w'.heap[pb]?=some (.cells #[v'] 213 (0,0))∧C8 w' base v' (gs.eraseIdx (Hm.first gs)) (vs.eraseIdx (Hm.first gs))∧v'.ownBlock=v.ownBlock∧Aa (fun k=>k=pb∨v.ownBlock=some k) w w':=by
 have hlen:=h.len;obtain⟨g,cap,hv,hnc,hgw⟩:=Cf h.own (by omega);subst hv;have hpc:w.cell? ⟨pb,0,none⟩=some (.slice (some ⟨g,0,none⟩) gs.length cap):=Alc _ _ 0 _ _ _ hp;have hpw:pb<w.heap.size:=Alw hp;have hgp:g≠pb:=fun e=>hpv (by rw[e];rfl);have HH:Hid (C8 w base (.slice (some ⟨g,0,none⟩) gs.length cap) gs vs∧w.heap[pb]?=some (.cells #[.slice (some ⟨g,0,none⟩) gs.length cap] 213 (0,0))∧(∀m,(h:m<vs.length)→vs[m].ownBlock≠some pb)∧vs.length=gs.length∧g≠pb):=⟨h,hp,hpm,hlen,hgp⟩;clear h hp hpv hpm hlen hgp
 go_enter Tryz.func139,Tryz.ntmps139
 go_wp2_with fail
 go_loopw[3,11] (fun f i wr=> ∃k:Nat,k≤gs.length∧i= .int .i64 k∧f= .int .i64 (Ci gs k:Nat)∧Apd (w.alloc (.cells #[.int .i64 0,.int .u8 0,.slice none 0 0] 216)) wr) (fun _ i _=>gs.length-(intOf i).toNat)
 case atStart=>exact⟨0,Alr _,rfl,rfl,Aa.refl _ _⟩
 case round=>
  clear hpc;obtain⟨k,hk,rfl,rfl,hkr⟩:=hrel;have hkw:Apd w wr:=((Aa.refl _ w).alloc _).trans hkr (fun _ _ h=>h);have hsz:=hkw.size;have hpc:wr.cell? ⟨pb,0,none⟩=some (.slice (some ⟨g,0,none⟩) gs.length cap):=(hkw.cell (p:=⟨pb,0,none⟩) hpw id).trans (Alc _ _ 0 _ _ _ HH.out.2.1);have hG:C8 wr base (.slice (some ⟨g,0,none⟩) gs.length cap) gs vs:=⟨HH.out.2.2.2.1,hkw.owns HH.out.1.own (fun _ _=>id),fun i h1 h2=>⟨(HH.out.1.mem i h1 h2).1.kept hkw (fun _ _=>id),(HH.out.1.mem i h1 h2).2⟩⟩;have hfl:=V0 gs h0 k hk
  by_cases hlt:k<gs.length
  ·have hdec:decide ((k:Int)<(gs.length:Int))=true:=by simp;omega
   obtain⟨a1,a2,a3⟩:=hG.cellsD hlt;obtain⟨b1,b2,b3⟩:=hG.cellsD hfl;have hcmp:=fun W=>Tj (gs.getD k (0,0,[])) (gs.getD (Ci gs k) (0,0,[])) (vs.getD k undef) (vs.getD (Ci gs k) undef) W;have HF:Hid (Ci gs (k+1)=if L4 (gs.getD k (0,0,[])) (gs.getD (Ci gs k) (0,0,[]))<0 then k else Ci gs k):=rfl;obtain⟨mk,ck,ek,-⟩:=(hG.memD hlt).1;obtain⟨mf,cf,ef,-⟩:=(hG.memD hfl).1;rw[ek]at a3 hcmp;rw[ef]at b3 hcmp;clear ek ef;generalize Ci gs k=f at*;generalize gs.getD k (0,0,[])=gk at*;generalize gs.getD f (0,0,[])=gf at*;generalize gk.2.2.length=lk at*;generalize gf.2.2.length=lf at*;have hff:(f:Int)<(gs.length:Int):=by omega
   have hfk:(k:Int)<(gs.length:Int):=by omega
   clear hG
   by_cases hneg:L4 gk gf<0
   ·have hdn:decide (L4 gk gf<0)=true:=by simp;exact hneg
    rw[if_pos hneg]at HF;generalize L4 gk gf=r at*;go_wp2_with fail;have hal:Apd wr (wr.alloc (.cells #[.int .i64 (gk.1:Nat),.int .u8 (gk.2.1.toNat:Nat),.slice (some ⟨mk,0,none⟩) lk ck] 216)):=(Aa.refl _ _).alloc _;have hnw:=All wr (.cells #[.int .i64 (gk.1:Nat),.int .u8 (gk.2.1.toNat:Nat),.slice (some ⟨mk,0,none⟩) lk ck] 216);have hk1:=hkr.alloc (.cells #[.int .i64 (gk.1:Nat),.int .u8 (gk.2.1.toNat:Nat),.slice (some ⟨mk,0,none⟩) lk ck] 216);generalize wr.alloc (.cells #[.int .i64 (gk.1:Nat),.int .u8 (gk.2.1.toNat:Nat),.slice (some ⟨mk,0,none⟩) lk ck] 216)=W1 at*;have p0:W1.cell? ⟨pb,0,none⟩=some (.slice (some ⟨g,0,none⟩) gs.length cap):=(hal.cell (p:=⟨pb,0,none⟩) (Amp hpw hsz) id).trans hpc;have p1:W1.cell? ⟨g,f*3,none⟩=_:=(hal.cell (p:=⟨g,f*3,none⟩) (Amp hgw hsz) id).trans b1;have p2:W1.cell? ⟨g,f*3+1,none⟩=_:=(hal.cell (p:=⟨g,f*3+1,none⟩) (Amp hgw hsz) id).trans b2;have p3:W1.cell? ⟨g,f*3+2,none⟩=_:=(hal.cell (p:=⟨g,f*3+2,none⟩) (Amp hgw hsz) id).trans b3;have p4:W1.cell? ⟨wr.heap.size,0,none⟩=some (.int .i64 (gk.1:Nat)):=Alc _ _ 0 _ _ _ hnw;have p5:W1.cell? ⟨wr.heap.size,1,none⟩=some (.int .u8 (gk.2.1.toNat:Nat)):=Alc _ _ 1 _ _ _ hnw;have p6:W1.cell? ⟨wr.heap.size,2,none⟩=some (.slice (some ⟨mk,0,none⟩) lk ck):=Alc _ _ 2 _ _ _ hnw;clear a1 a2 a3 b1 b2 b3 hal hnw hkr hkw hpc
    go_region_held(fun W=>W.cell? ⟨pb,0,none⟩=some (.slice (some ⟨g,0,none⟩) gs.length cap)∧W.cell? ⟨g,f*3,none⟩=some (.int .i64 (gf.1:Nat))∧W.cell? ⟨g,f*3+1,none⟩=some (.int .u8 (gf.2.1.toNat:Nat))∧W.cell? ⟨g,f*3+2,none⟩=some (.slice (some ⟨mf,0,none⟩) lf cf)∧
      W.cell? ⟨wr.heap.size,0,none⟩=some (.int .i64 (gk.1:Nat))∧W.cell? ⟨wr.heap.size,1,none⟩=some (.int .u8 (gk.2.1.toNat:Nat))∧W.cell? ⟨wr.heap.size,2,none⟩=some (.slice (some ⟨mk,0,none⟩) lk ck)) (go_keep)
     (first
     |(go_at_call 178;refine(hcmp _).mono ?_;rintro e w2 ⟨rfl,hg2⟩;have k0:=hg2.cell p0;have k1:=hg2.cell p1;have k2:=hg2.cell p2;have k3:=hg2.cell p3;have k4:=hg2.cell p4;have k5:=hg2.cell p5;have k6:=hg2.cell p6))
    have hk2:=hk1.drew.trans (hg2.kept (fun _=>False)) (fun _ _ h=>h);clear hg2 hcmp p0 p1 p2 p3 p4 p5 p6 hk1 k0 k1 k2 k3 k4 k5 k6;go_wp2;go_roundw
    case rel=>exact⟨k+1,by omega,by go_num,by rw[HF.out],hk2⟩
    case measure=>simp[intOf];omega
   ·have hdn:decide (L4 gk gf<0)=false:=by simp;omega
    rw[if_neg hneg]at HF;generalize L4 gk gf=r at*;go_wp2_with fail;have hal:Apd wr (wr.alloc (.cells #[.int .i64 (gk.1:Nat),.int .u8 (gk.2.1.toNat:Nat),.slice (some ⟨mk,0,none⟩) lk ck] 216)):=(Aa.refl _ _).alloc _;have hnw:=All wr (.cells #[.int .i64 (gk.1:Nat),.int .u8 (gk.2.1.toNat:Nat),.slice (some ⟨mk,0,none⟩) lk ck] 216);have hk1:=hkr.alloc (.cells #[.int .i64 (gk.1:Nat),.int .u8 (gk.2.1.toNat:Nat),.slice (some ⟨mk,0,none⟩) lk ck] 216);generalize wr.alloc (.cells #[.int .i64 (gk.1:Nat),.int .u8 (gk.2.1.toNat:Nat),.slice (some ⟨mk,0,none⟩) lk ck] 216)=W1 at*;have p0:W1.cell? ⟨pb,0,none⟩=some (.slice (some ⟨g,0,none⟩) gs.length cap):=(hal.cell (p:=⟨pb,0,none⟩) (Amp hpw hsz) id).trans hpc;have p1:W1.cell? ⟨g,f*3,none⟩=_:=(hal.cell (p:=⟨g,f*3,none⟩) (Amp hgw hsz) id).trans b1;have p2:W1.cell? ⟨g,f*3+1,none⟩=_:=(hal.cell (p:=⟨g,f*3+1,none⟩) (Amp hgw hsz) id).trans b2;have p3:W1.cell? ⟨g,f*3+2,none⟩=_:=(hal.cell (p:=⟨g,f*3+2,none⟩) (Amp hgw hsz) id).trans b3;have p4:W1.cell? ⟨wr.heap.size,0,none⟩=some (.int .i64 (gk.1:Nat)):=Alc _ _ 0 _ _ _ hnw;have p5:W1.cell? ⟨wr.heap.size,1,none⟩=some (.int .u8 (gk.2.1.toNat:Nat)):=Alc _ _ 1 _ _ _ hnw;have p6:W1.cell? ⟨wr.heap.size,2,none⟩=some (.slice (some ⟨mk,0,none⟩) lk ck):=Alc _ _ 2 _ _ _ hnw;clear a1 a2 a3 b1 b2 b3 hal hnw hkr hkw hpc
    go_region_held(fun W=>W.cell? ⟨pb,0,none⟩=some (.slice (some ⟨g,0,none⟩) gs.length cap)∧W.cell? ⟨g,f*3,none⟩=some (.int .i64 (gf.1:Nat))∧W.cell? ⟨g,f*3+1,none⟩=some (.int .u8 (gf.2.1.toNat:Nat))∧W.cell? ⟨g,f*3+2,none⟩=some (.slice (some ⟨mf,0,none⟩) lf cf)∧
      W.cell? ⟨wr.heap.size,0,none⟩=some (.int .i64 (gk.1:Nat))∧W.cell? ⟨wr.heap.size,1,none⟩=some (.int .u8 (gk.2.1.toNat:Nat))∧W.cell? ⟨wr.heap.size,2,none⟩=some (.slice (some ⟨mk,0,none⟩) lk ck)) (go_keep)
     (first
     |(go_at_call 178;refine(hcmp _).mono ?_;rintro e w2 ⟨rfl,hg2⟩;have k0:=hg2.cell p0;have k1:=hg2.cell p1;have k2:=hg2.cell p2;have k3:=hg2.cell p3;have k4:=hg2.cell p4;have k5:=hg2.cell p5;have k6:=hg2.cell p6))
    have hk2:=hk1.drew.trans (hg2.kept (fun _=>False)) (fun _ _ h=>h);clear hg2 hcmp p0 p1 p2 p3 p4 p5 p6 hk1 k0 k1 k2 k3 k4 k5 k6;go_wp2;go_roundw
    case rel=>exact⟨k+1,by omega,by go_num,by rw[HF.out],hk2⟩
    case measure=>simp[intOf];omega
  ·have hke:k=gs.length:=by omega
   have hdec:decide ((gs.length:Int)<(gs.length:Int))=false:=by simp
   obtain⟨b1,b2,b3⟩:=hG.cellsD hfl;obtain⟨mf,cf,ef,-⟩:=(hG.memD hfl).1;rw[ef]at b3;have HE:Hid (Ci gs k=Hm.first gs∧vs.getD (Ci gs k) undef= .slice (some ⟨mf,0,none⟩) (gs.getD (Ci gs k) (0,0,[])).2.2.length cf):=⟨by rw[hke];rfl,ef⟩;have hdel:=fun W (hk:Apd wr W)=>Afr base _ gs vs (Ci gs k) (Ci gs k+1) W ⟨hG.len,hk.owns hG.own (fun _ _=>id),fun i h1 h2=>⟨(hG.mem i h1 h2).1.kept hk (fun _ _=>id),(hG.mem i h1 h2).2⟩⟩ hl hfl rfl;have HD:Hid (∀W (_:Apd wr W),Calls Tryz.prog 179 #[.slice (some ⟨g,0,none⟩) gs.length cap,.int .i64 (Ci gs k:Nat),.int .i64 (Ci gs k+1:Nat)] W fun e w'=> ∃v',e= .returned v'∧C8 w' base v' (gs.eraseIdx (Ci gs k)) (vs.eraseIdx (Ci gs k))∧v'.ownBlock=some g∧Aa (fun k=>(some g:Option Nat)=some k) W w'):=hdel;clear ef hdel hG;generalize Ci gs k=f at*;generalize hgf:gs.getD f (0,0,[])=gf at*;generalize hlf:gf.2.2.length=lf at*;have hff:(f:Int)<(gs.length:Int):=by omega
   subst hke;clear hlt hk;have hpr:pb<wr.heap.size:=by omega
   have hrr:w.heap.size<wr.heap.size:=by have:=hkr.size;simp at this;omega
   have hres:wr.heap[w.heap.size]?=some (.cells #[.int .i64 0,.int .u8 0,.slice none 0 0] 216 (0,0)):=hkr.row (All w _) id;have HRES:Hid (wr.heap[w.heap.size]?=some (.cells #[.int .i64 0,.int .u8 0,.slice none 0 0] 216 (0,0))):=hres;clear hres;go_wp2_with fail;refine(HD.out _ ((Aa.refl _ _).alloc _)).mono ?_;rintro e w3 ⟨v3,rfl,hG3,ho3,hk3⟩;obtain⟨n3,cap3,hv3⟩: ∃n3 cap3,v3= .slice (some ⟨g,0,none⟩) n3 cap3:=by
    rcases hG3.own.2 with⟨rfl,_⟩|⟨g3,cap3,cur3,rfl,_⟩
    ·cases ho3
    ·cases ho3;exact⟨_,_,rfl⟩
   subst hv3;have hgp:=HH.out.2.2.2.2;have hp3:w3.heap[pb]?=some (.cells #[.slice (some ⟨g,0,none⟩) gs.length cap] 213 (0,0)):=hk3.row ((((Aa.refl (fun _=>False) wr).alloc _).row (hkw.row HH.out.2.1 id)) id) (fun e=>hgp (by cases e;rfl));have ht3:w3.heap[wr.heap.size]?=some (.cells #[.int .i64 (gf.1:Nat),.int .u8 (gf.2.1.toNat:Nat),.slice (some ⟨mf,0,none⟩) lf cf] 216 (0,0)):=hk3.row (All wr _) (fun e=>by cases e;omega);have hr3:w3.heap[w.heap.size]?=some (.cells #[.int .i64 0,.int .u8 0,.slice none 0 0] 216 (0,0)):=hk3.row ((((Aa.refl (fun _=>False) wr).alloc _).row HRES.out) id) (fun e=>by cases e;omega);have hkw3:Aa (fun k=>(some g:Option Nat)=some k) w w3:=((hkw.alloc _).wider (T:=fun k=>(some g:Option Nat)=some k) (fun _ _ h=>h.elim)).trans hk3 (fun _ _ h=>h);have c0:w3.cell? ⟨pb,0,none⟩=_:=Alc _ _ 0 _ _ _ hp3;have f0:w3.frozen? ⟨pb,0,none⟩=false:=Alk _ _ 0 _ _ hp3;have t0:w3.cell? ⟨wr.heap.size,0,none⟩=some (.int .i64 (gf.1:Nat)):=Alc _ _ 0 _ _ _ ht3;have t1:w3.cell? ⟨wr.heap.size,1,none⟩=some (.int .u8 (gf.2.1.toNat:Nat)):=Alc _ _ 1 _ _ _ ht3;have t2:w3.cell? ⟨wr.heap.size,2,none⟩=some (.slice (some ⟨mf,0,none⟩) lf cf):=Alc _ _ 2 _ _ _ ht3;have r0:w3.cell? ⟨w.heap.size,0,none⟩=some (.int .i64 0):=Alc _ _ 0 _ _ _ hr3;have r1:w3.cell? ⟨w.heap.size,1,none⟩=some (.int .u8 0):=Alc _ _ 1 _ _ _ hr3;have r2:w3.cell? ⟨w.heap.size,2,none⟩=some (.slice none 0 0):=Alc _ _ 2 _ _ _ hr3;have q0:w3.frozen? ⟨w.heap.size,0,none⟩=false:=Alk _ _ 0 _ _ hr3;have q1:w3.frozen? ⟨w.heap.size,1,none⟩=false:=Alk _ _ 1 _ _ hr3;have q2:w3.frozen? ⟨w.heap.size,2,none⟩=false:=Alk _ _ 2 _ _ hr3;have n1:pb≠wr.heap.size:=by omega
   have n2:pb≠w.heap.size:=by omega
   have n3':wr.heap.size≠w.heap.size:=by omega
   have HX:Hid (w3.heap[pb]?=some (.cells #[.slice (some ⟨g,0,none⟩) gs.length cap] 213 (0,0))∧w3.heap[w.heap.size]?=some (.cells #[.int .i64 0,.int .u8 0,.slice none 0 0] 216 (0,0))∧C8 w3 base (.slice (some ⟨g,0,none⟩) n3 cap3) (gs.eraseIdx f) (vs.eraseIdx f)∧Aa (fun k=>(some g:Option Nat)=some k) w w3):=⟨hp3,hr3,hG3,hkw3⟩;clear hp3 ht3 hr3 hG3 hkw3 hk3 ho3 HD hkw hkr hpc b1 b2 b3;go_wp2;obtain⟨hp3,hr3,hG3,hkw3⟩:=HX.out;have hr4:(w3.setCell ⟨pb,0,none⟩ (.slice (some ⟨g,0,none⟩) n3 cap3)).heap[w.heap.size]?=some (.cells #[.int .i64 0,.int .u8 0,.slice none 0 0] 216 (0,0)):=(Ano _ _ _ _ (fun e=>n2 e.symm)).trans hr3;have hr5:=Alf _ _ 2 _ _ (.slice (some ⟨mf,0,none⟩) lf cf) (Alf _ _ 1 _ _ (.int .u8 (gf.2.1.toNat:Nat)) (Alf _ _ 0 _ _ (.int .i64 (gf.1:Nat)) hr4));have hp4:(w3.setCell ⟨pb,0,none⟩ (.slice (some ⟨g,0,none⟩) n3 cap3)).heap[pb]?=some (.cells #[.slice (some ⟨g,0,none⟩) n3 cap3] 213 (0,0)):=Alf _ _ 0 _ _ _ hp3;refine Amo (v:= .agg #[.int .i64 (gf.1:Nat),.int .u8 (gf.2.1.toNat:Nat),.slice (some ⟨mf,0,none⟩) lf cf]) (Am3 Tryz.results139 _ _ w.heap.size 216 _ (0,0) _ rfl hr5 Tryz.underlying216 rfl (by kernel_rfl)) rfl ⟨.slice (some ⟨g,0,none⟩) n3 cap3,_,_,_,rfl,?_,?_,?_,?_,?_,rfl,?_⟩
   ·rw[←HE.out.1,hgf]
   ·rw[←HE.out.1,hgf]
   ·rw[←HE.out.1,HE.out.2]
   ·rw[Ano _ _ _ _ n2,Ano _ _ _ _ n2,Ano _ _ _ _ n2];exact hp4
   ·rw[←HE.out.1];have hkk:Aa (fun k=>k=pb∨w.heap.size=k) w3 ((((w3.setCell ⟨pb,0,none⟩ (.slice (some ⟨g,0,none⟩) n3 cap3)).setCell ⟨w.heap.size,0,none⟩ (.int .i64 (gf.1:Nat))).setCell ⟨w.heap.size,1,none⟩ (.int .u8 (gf.2.1.toNat:Nat))).setCell ⟨w.heap.size,2,none⟩ (.slice (some ⟨mf,0,none⟩) lf cf)):=
     ((((Aa.refl _ _).setCell (.inr (.inl rfl)) _).setCell (.inr (.inr rfl)) _).setCell (.inr (.inr rfl)) _).setCell (.inr (.inr rfl)) _
    refine⟨hG3.len,hkk.owns hG3.own (fun k hk e=>?_),fun i h1 h2=>⟨(hG3.mem i h1 h2).1.kept hkk (fun k hk e=>?_),(hG3.mem i h1 h2).2⟩⟩
    ·cases hk;rcases e with e|e
     ·exact HH.out.2.2.2.2 e
     ·exact Nat.ne_of_gt hgw e
    ·have hvl:=HH.out.2.2.2.1;have hmem: ∀m,(hm:m<vs.length)→vs[m].ownBlock=some k→k<w.heap.size∧k≠pb:=by
      intro m hm hk';refine⟨?_,fun e=>HH.out.2.2.1 m hm (by rw[hk',e])⟩;obtain⟨gg,cc,ee,_,_,hlt',_⟩:=(HH.out.1.mem m (by omega) hm).1;rw[ee]at hk';cases hk';exact hlt'
     rw[List.getElem_eraseIdx]at hk;have hb:k<w.heap.size∧k≠pb:=by
      by_cases hki:i<f
      ·rw[dif_pos hki]at hk;exact hmem _ _ hk
      ·rw[dif_neg hki]at hk;exact hmem _ _ hk
     rcases e with e|e
     ·exact hb.2 e
     ·omega
   ·have hkk:Aa (fun k=>k=pb∨(some g:Option Nat)=some k) w w3:=hkw3.wider (fun _ _ h=> .inr h);exact(((hkk.setCell (.inr (.inl rfl)) _).setCell (.inl (Ale _)) _).setCell (.inl (Ale _)) _).setCell (.inl (Ale _)) _
end Go.Proofs.YtegnkfdbmmndaaaGreat
namespace Go.Proofs.YtegnkfdbmmndaaaGreat
open Hm
open Go.RowKit
set_option maxHeartbeats 1000000 in
theorem Adf(n:Nat)(w:World)(h0:0<n)(hn:n≤1000):
  Calls Tryz.prog 200 #[.slice none 0 0,.int .i64 n] w fun e w'=> ∃G,e= .returned (.slice (some ⟨w.heap.size,0,none⟩) 0 G)∧w'.ownsRow w.heap.size 5 1 (.slice (some ⟨w.heap.size,0,none⟩) 0 G) 0 []∧Apd w w':=by
 obtain⟨i0,hi,hz0,hz1,hz2⟩:=Amz Ft;have h1: ¬((n:Int)<0):=by omega
 have h4:(n:Int)>0:=by omega
 have hrz: ∀ty,(Builtin.append_ #[79,3] ty #[.slice none 0 0,.int .i64 n]).run Tryz.prog w= .ok (.slice (some ⟨w.heap.size,0,none⟩) n (grownCap w n 0 5)) (w.drew.alloc (.cells (Builtin.zeroCells (Value.int .u8 0).cells n++Builtin.zeroCells (Value.int .u8 0).cells (grownCap w n 0 5-n)) 5)):=fun ty=>by
  have h:=Lib.run_append_grow_zeros w 79 3 ty 5 i0 (.int .u8 0) .i64 .i64 Tryz.underlying79 Tryz.underlying3 hi hz0 none 0 0 [] (run_firstCells_none w.drew i0.size 0 0 0) n h0 (by omega) (by omega) (by omega) (by rw[hz2];omega)
   (by rw[Al7];exact growslice_fits (by omega) (by rw[hz2];omega))
  simpa using h
 have hGn:n≤grownCap w n 0 5:=grownCap_ge w _ _ _;have hGm:grownCap w n 0 5≤maxLen:=grownCap_le_maxLen w n 0 5 (by unfold maxLen;omega);generalize grownCap w n 0 5=G at hrz hGn hGm;have hG63:G≤9223372036854775807:=by unfold maxLen at hGm;omega
 have HG:Hid (G≤maxLen):=hGm;clear hGm
 go_enter Tryz.func200,Tryz.ntmps200
 go_wp2_with(at_builtin;refine Lib.wpList_append_run _ rfl _ _ _ _ rfl _ _ rfl rfl _ _ (hrz _) ?_)
 all_goals go_ret
 all_goals refine⟨G,rfl,⟨rfl,.inr ⟨w.heap.size,G,_,rfl,Ale _,All w.drew _,Alr _,HG.out,?_,rfl⟩⟩,((Aa.refl _ w).drew).alloc _⟩
 all_goals(simp[Builtin.zeroCells];omega)
theorem Ty(l:List UInt8): ∀u∈Ag l,u.oneCell'=true:=by
 intro u hu;unfold Ag at hu;obtain⟨x,_,rfl⟩:=List.mem_map.1 hu;rfl
set_option maxHeartbeats 2000000 in
set_option maxRecDepth 100000 in
theorem Afs(sb:Nat)(a b:List UInt8)(va vb:Value)(w:World)(h0:w.cell? ⟨sb,0,none⟩=some va)(h1:w.cell? ⟨sb,1,none⟩=some vb)(hsb:sb<w.heap.size)(ha:Fc w va a)(hb:Fc w vb b)(hl0:0<a.length)(hl:a.length+b.length≤600):
  Calls Tryz.prog 180 #[.slice (some ⟨sb,0,none⟩) 2 2] w fun e w'=> ∃v,e= .returned v∧Fc w' v (a++b)∧(∀k,v.ownBlock=some k→w.heap.size≤k)∧Apd w w':=by
 obtain⟨i0,hi,hz0,hz1,hz2⟩:=Amz Ft;obtain⟨ga,ca,ea,hca,hcam,hga,hac⟩:=ha;obtain⟨gb,cb,eb,hcb,hcbm,hgb,hbc⟩:=hb;subst ea;subst eb;have HA:Hid (∀i,(h:i<a.length)→w.cell? ⟨ga,i,none⟩=some (.int .u8 (a[i].toNat:Nat))):=hac;have HB:Hid (∀i,(h:i<b.length)→w.cell? ⟨gb,i,none⟩=some (.int .u8 (b[i].toNat:Nat))):=hbc;clear hac hbc hcam hcbm;have hgr:=fun W=>Adf (a.length+b.length) W (by omega) (by omega);have hd1: ¬((a.length:Int)<0):=by omega
 have hd2: ¬((a.length:Int)+(b.length:Int)<0):=by omega
 go_enter Tryz.func180,Tryz.ntmps180
 go_wp2;refine wp_loop_rounds 3 ?_;rw[rounds_succ];go_wp2;rw[rounds_succ];go_wp2;rw[rounds_succ];go_wp2_with fail;have hgw:=hgr w;rw[show(((a.length+b.length:Nat):Nat):Int)=(a.length:Int)+(b.length:Int)from by omega]at hgw;refine hgw.mono ?_;rintro e w1 ⟨G,rfl,ho1,hk1⟩;clear hgr hgw;have hsz:=hk1.size;have s0:w1.cell? ⟨sb,0,none⟩=some (.slice (some ⟨ga,0,none⟩) a.length ca):=(hk1.cell (p:=⟨sb,0,none⟩) hsb id).trans h0;have s1:w1.cell? ⟨sb,1,none⟩=some (.slice (some ⟨gb,0,none⟩) b.length cb):=(hk1.cell (p:=⟨sb,1,none⟩) hsb id).trans h1;clear h0 h1;go_wp2;have na:Hid (∀j u,(Ag a)[j]?=some u→w1.cell? (Addr.add ⟨ga,0,none⟩ j)=some u):=fun j u hu=>by
  rw[Addr.add_lit,Al7];have hj:j<a.length:=by have:=(List.getElem?_eq_some_iff.1 hu).1;simpa[Ag]using this
  rw[(hk1.cell (p:=⟨ga,j,none⟩) hga id),HA.out j hj,←hu];simp[Ag,hj]
 refine wp_loop_rounds 3 ?_;rw[rounds_succ]
 go_wp2_with(at_builtin;refine A7 _ rfl (.tmp 31) (.tmp 32) 79 rfl w.heap.size 5 i0 (.int .u8 0) 1 1 Tryz.underlying79 hi hz0 hz1 hz2 rfl (by decide) _ 0 [] rfl ho1 ⟨ga,0,none⟩ a.length ca (Ag a) rfl (by simp[Ag]) na.out (Ty a) (by unfold maxLen;omega) (by omega) hsz ?_;intro v2 w2 ho2 hg2 hm2)
 rw[Al7,Aoo]at ho2;have hk2:Apd w w2:=hk1.grown hg2 (fun k hk=> .inl (ho1.lt k hk).1);have hsz2:=hk2.size;have hb2: ∀k,v2.ownBlock=some k→w.heap.size≤k:=fun k hk=>(ho2.lt k hk).1;have nb:Hid (∀j u,(Ag b)[j]?=some u→w2.cell? (Addr.add ⟨gb,0,none⟩ j)=some u):=fun j u hu=>by
  rw[Addr.add_lit,Al7];have hj:j<b.length:=by have:=(List.getElem?_eq_some_iff.1 hu).1;simpa[Ag]using this
  rw[(hk2.cell (p:=⟨gb,j,none⟩) hgb id),HB.out j hj,←hu];simp[Ag,hj]
 have s2:w2.cell? ⟨sb,1,none⟩=some (.slice (some ⟨gb,0,none⟩) b.length cb):=by
  have e1:=hk2.cell (p:=⟨sb,1,none⟩) hsb id;have e2:=hk1.cell (p:=⟨sb,1,none⟩) hsb id;rw[e1,←e2];exact s1
 clear s0 s1 hg2 hm2 ho1 na;rw[rounds_succ]
 go_wp2_with(at_builtin;refine A7 _ rfl (.tmp 31) (.tmp 32) 79 rfl w.heap.size 5 i0 (.int .u8 0) 1 1 Tryz.underlying79 hi hz0 hz1 hz2 rfl (by decide) _ a.length (Ag a) rfl ho2 ⟨gb,0,none⟩ b.length cb (Ag b) rfl (by simp[Ag]) nb.out (Ty b) (by unfold maxLen;omega) (by omega) hsz2 ?_;intro v3 w3 ho3 hg3 hm3)
 have hk3:Apd w w3:=hk2.grown hg3 (fun k hk=> .inl (hb2 k hk));have HO:Hid (w3.ownsRow w.heap.size 5 1 v3 (a.length+b.length) (Ag a++Ag b)):=ho3;clear s2 hg3 hm3 ho2 nb ho3;rw[rounds_succ];go_wp2;go_ret;refine⟨v3,rfl,?_,fun k hk=>(HO.out.lt k hk).1,hk3⟩;obtain⟨g3,c3,ev,hc3,hlt3⟩:=Cf HO.out (by omega);subst ev;have hcm:c3≤maxLen:=by
  rcases HO.out.2 with⟨e,_⟩|⟨_,_,_,e,_,_,_,h,_⟩
  ·cases e
  ·cases e;exact h
 refine⟨g3,c3,by rw[Alg],by rw[Alg];exact hc3,hcm,hlt3,fun i hi'=>?_⟩;have hi2:=hi';rw[Alg]at hi2;rw[HO.out.cellAt i (by omega)];have:Ag a++Ag b=Ag (a++b):=by simp[Ag]
 rw[this];simp only[Ag,Alu,Ak7 hi'];rfl
end Go.Proofs.YtegnkfdbmmndaaaGreat
