import Derived.Test.YtegnkfdbmmndaaaGreatJ00
import Derived.Test.YtegnkfdbmmndaaaGreatJ17
import Derived.Test.YtegnkfdbmmndaaaGreatJ16
import Derived.Test.YtegnkfdbmmndaaaGreatJ15
import Derived.Test.YtegnkfdbmmndaaaGreatJ13

namespace Go.Proofs.YtegnkfdbmmndaaaGreat
open Hm
open Go.RowKit
namespace Hm
theorem Yz(nds:List Nd)(i s:Nat)(b:Br)(j:Nat):(Ab (Bz nds i s b) j).siz=(Ab nds j).siz:=by
 unfold Bz
 by_cases hi:i<nds.length
 ·by_cases e:i=j
  ·subst e;rw[Gd _ _ _ hi];unfold Nd.put;split<;>rfl
  ·rw[Ia _ _ _ _ e]
 ·rw[Aoq (by omega)]
theorem O3(ln:UInt8→Nat)(o:List UInt8): ∀t j,(Ab (Al ln o t).1 j).siz=0
 |0,j=>by
  show(Ab [{}] j).siz=0;cases j<;>rfl
 |t+1,j=>by
  have ih:=O3 ln o t;show(Ab (Fi ln (t/2) (t%2) (Al ln o t).1 (Al ln o t).2).1 j).siz=0;generalize(Al ln o t).1=nds at*;generalize(Al ln o t).2=l at*;cases l with
  |nil=>exact ih j
  |cons b r=>
   rw[I8];split
   ·exact(Yz _ _ _ _ j).trans (ih j)
   ·show(Ab (Bz nds (t/2) (t%2) _++[_]) j).siz=0;rcases Ami j (Bz nds (t/2) (t%2) {node:=nds.length}).length with c|c|c
    ·rw[J9 _ _ _ c];exact(Yz _ _ _ _ j).trans (ih j)
    ·rw[c,Lh]
    ·unfold Ab;rw[Ak6,Al3 (by rw[Alg];exact c)];rfl
def tb(ln num:UInt8→Nat)(nds:List Nd)(col:List UInt8)(i p:Nat):List Bool:=(A0 ln num nds col i++((Ao ln num nds col i).take p).map (Av ln num (Ab nds i).depth)).map fun x=>decide (x=1)
theorem Xv(ln num:UInt8→Nat)(nds:List Nd)(col:List UInt8)(i:Nat):tb ln num nds col i 0=(A0 ln num nds col i).map fun x=>decide (x=1):=by simp[tb]
theorem Akl(ln num:UInt8→Nat)(nds:List Nd)(col:List UInt8)(i:Nat):tb ln num nds col i (Ao ln num nds col i).length=tb ln num nds col (i+1) 0:=by
 rw[Xv,Ez,tb,Ama];rfl
theorem Akm(ln num:UInt8→Nat)(nds:List Nd)(col:List UInt8)(i p:Nat)(h:p<(Ao ln num nds col i).length):tb ln num nds col i (p+1)=tb ln num nds col i p++[decide (Av ln num (Ab nds i).depth ((Ao ln num nds col i).getD p 0)=1)]:=by
 unfold tb;rw[Ali h,Ak6,Ak7 h];simp only[Am9,Alx];rfl
theorem Ahr(ln num:UInt8→Nat)(nds:List Nd)(col:List UInt8)(i p:Nat):(tb ln num nds col i p).length≤(i+1)*col.length:=by
 unfold tb;have h1:=Mc ln num nds col i;have h2:=Nm ln num nds col i;rw[Al6,Alg,Al6,Anv,Nat.one_mul];have:((Ao ln num nds col i).take p).length≤(Ao ln num nds col i).length:=by rw[Aln];omega
 omega
end Hm
theorem F0:Tryz.zeroCells96.size=773:=by kernel_rfl
theorem Ajg:(Tryz.prog.info? 79).map (fun i=>(i.zero,i.size,i.bytes))=some (some (.slice none 0 0),1,24):=by kernel_rfl
set_option maxHeartbeats 16000000 in
set_option maxRecDepth 100000 in
theorem Abw(L:List Nat)(N:Nat)(col:List UInt8)(ca:Option Addr)(cc:Nat)(w:World)(hC:Bj L)(hE:Hm.Ends 32 (Hm.lnB L) (Af L) N)(h0:0<N)(hcol:w.ownsRow 0 5 1 (.slice ca col.length cc) col.length (Ag col))(hl:col.length≤6000)(hm: ∀b∈col,b∈Af L):
  Calls Tryz.prog 98 #[.slice ca col.length cc,.agg (Ac L).toArray] w fun e w'=> ∃g v ws,e= .returned (.agg (Ba ⟨(Ah ((A0 (Hm.lnB L) (Bm L) (Al (Hm.lnB L) (Af L) (2*N)).1 col N).map fun x=>decide (x=1))).toArray⟩ (A0 (Hm.lnB L) (Bm L) (Al (Hm.lnB L) (Af L) (2*N)).1 col N).length g (Bc L) v ws col.length).toArray)∧ws.length=256∧v.oneCell'=true∧Apd w w':=by
 obtain⟨i0,hi,hz0,hz1,hz2⟩:=Amz Ajg;obtain⟨i8,hi8,hz80,hz81,hz82⟩:=Amz Ft;have hL:=hC.len;have hx: ∀x∈L,x≤255:=fun x hx=>by
  obtain⟨k,hk,e⟩:=Aml hx;have:=hC.short (UInt8.ofNat k);have e1:(UInt8.ofNat k).toNat=k:=by rw[Ame,Anb (by omega)]
  rw[Hm.lnB,e1,Ak6,Ak7 hk]at this;have e2:L[k]≤32:=this;omega
 have hasz:(Ac L).toArray.size=256:=by rw[A2,hL]
 have has:=fun W=>V7 L W hL hx hC.fits;have hsh:=fun W=>Yy 32 L N W hL hx hE (fun W=>R7 L W hL hx);have hN:N≤255:=by have h1:=hE.len;have h2:=hE.few (2*N) (Ale _);omega
 have hnl:=hE.len;have hnod:=hE.nodes;have hsz0: ∀j,(Ab (Al (Hm.lnB L) (Af L) (2*N)).1 j).siz≤col.length:=fun j=>by rw[O3];exact Alr _
 generalize(Al (Hm.lnB L) (Af L) (2*N)).1=nds at*;have HSZ:Aside _:=hsz0;clear hsz0;have HH:Aside (Bj L∧Bg 32 (Hm.lnB L) (Af L) nds∧nds.length=N∧ ∀b∈col,b∈Af L):=⟨hC,hnod,hnl,hm⟩;have hts:(Cu (Bc L)).toArray.size=512:=by rw[Alq,C9,Bc,A3]
 have hta:=P5 (Bc L);obtain⟨TT,hTT⟩: ∃TT,TT=(Cu (Bc L)).toArray:=⟨_,rfl⟩;rw[←hTT]at has hts hta;have HT:Aside (TT=(Cu (Bc L)).toArray∧TT.size=512∧TT.all (·.oneCell')=true):=⟨hTT,hts,hta⟩;obtain⟨arr,harr⟩: ∃arr,arr=(Ac L).toArray:=⟨_,rfl⟩;rw[←harr]at hasz has hsh⊢;have hbox0:((w.alloc (.cells arr 139)).alloc (.cells Tryz.zeroCells96 96)).heap[w.heap.size]?=some (.cells arr 139 (0,0)):=Anw w _ _;have hres0:((w.alloc (.cells arr 139)).alloc (.cells Tryz.zeroCells96 96)).heap[w.heap.size+1]?=some (.cells Tryz.zeroCells96 96 (0,0)):=Anx w _ _;have hk0:Apd w ((w.alloc (.cells arr 139)).alloc (.cells Tryz.zeroCells96 96)):=((Aa.refl _ _).alloc _).alloc _;clear hTT hts hta harr hnod hE hm hnl hx hC hL
 go_enter Tryz.func98,Tryz.ntmps98
 go_upto_region 1 with fail
 generalize(w.alloc (.cells arr 139)).alloc (.cells Tryz.zeroCells96 96)=W at*;have has1:=has W
 go_wp2_with(first
  |(refine Amd rfl 139 _ rfl w.heap.size rfl 139 arr (0,0) _ hbox0 Tryz.underlying139 rfl (by rw[hasz];exact B9) ?_))
 refine has1.mono ?_;rintro e w2 ⟨rfl,hk2⟩;clear has has1;have hbox2:=hk2.row hbox0 id;have hres2:=hk2.row hres0 id;have hkw2:=hk0.trans hk2 (fun _ _ h=>h);clear hbox0 hres0 hk0 hk2
 go_wp2_with(first
  |(refine wpList_store_row _ rfl 92 _ _ rfl w2.heap.size 92 Tryz.zeroCells92 TT rfl rfl (All w2 _) (by rw[HT.out.2.1];exact Nz) (by rw[HT.out.2.1];exact Qp) HT.out.2.2 ?_;intro w3 hw3 hk3)
  |(refine Amd rfl 139 _ rfl w.heap.size rfl 139 arr (0,0) _ (hk3.row (((Aa.refl (fun _=>False) w2).alloc _).row hbox2 id) (by have:=Alw hbox2;omega)) Tryz.underlying139 rfl (by rw[hasz];exact B9) ?_))
 refine(hsh w3).mono ?_;rintro e w4 ⟨nv,rfl,hno,hk4⟩;clear hsh;have hk23:Apd w2 w3:=((Aa.refl (fun _=>False) w2).alloc _).trans hk3 (fun j h1 h2=>by omega);have hk24:=hk23.trans hk4 (fun _ _ h=>h);have hres4:=hk24.row hres2 id;have htab4:=hk4.row hw3 id;have hkw4:=hkw2.trans hk24 (fun _ _ h=>h);have hs23:w2.heap.size<w3.heap.size:=Alw hw3;have hbs:w.heap.size+1<w2.heap.size:=Alw hres2;obtain⟨ng,nc,hnv,hnc,hngw⟩:=Cf hno h0;subst hnv;have hng3:w3.heap.size≤ng:=(hno.lt ng rfl).1;clear hk3 hk4 hk23 hk24 hres2 hbox2 hw3 hkw2;go_upto_region 4 with(at_make;refine Ane _ rfl (.tmp 21) (.tmp 21) 229 rfl w4.heap.size 79 i0 (.slice none 0 0) 1 Tryz.underlying229 hi hz0 hz1 .i64 .i64 _ _ N rfl rfl (by omega) (by omega) (by rw[hz2];omega) (by unfold maxLen;omega) (Ale _) ?_;intro w5 ho5 hg5)
 have hblk5:w5.heap[w4.heap.size]?=some (.cells (List.replicate N (Value.slice none 0 0)).toArray 79 (0,0)):=by
  have:=Ahq ho5;rwa[An3,show(Value.slice none 0 0).cells= #[Value.slice none 0 0]from rfl,An7]at this
 have hk45:Apd w4 w5:=(Aa.refl _ _).grown hg5 (fun k hk=>by cases hk);obtain⟨gc,hgc⟩: ∃gc,gc=w4.heap.size:=⟨_,rfl⟩;rw[←hgc]at hblk5⊢;have hs5:gc<w5.heap.size:=Alw hblk5;have hc5:w5.cell? ⟨gc,0,none⟩=some (.slice none 0 0):=by
  rw[Alc _ _ 0 _ _ _ hblk5];simp[h0]
 have hf5:w5.frozen? ⟨gc,0,none⟩=false:=Alk _ _ 0 _ _ hblk5;have hNI:(0:Int)<(N:Int):=by omega
 have H5:Aside _:=And.intro hblk5 (And.intro hk45 hgc);have H4:Aside _:=And.intro hres4 (And.intro htab4 (And.intro hkw4 (And.intro hno hcol)));clear hblk5 hk45 ho5 hg5 hgc hres4 htab4 hkw4 hno hcol;go_wp2_with fail;have hW0:TSt ((w5.setCell ⟨gc,0,none⟩ (.slice ca col.length cc)).alloc (.cells #[.slice none 0 0,.int .i64 0] 221)) ((w5.setCell ⟨gc,0,none⟩ (.slice ca col.length cc)).alloc (.cells #[.slice none 0 0,.int .i64 0] 221)) gc w5.heap.size (.slice ca col.length cc::List.replicate (N-1) (.slice none 0 0)) (col::List.replicate (N-1) []) (.slice none 0 0) []:=by
  obtain⟨hres4,htab4,hkw4,hno,hcol⟩:=H4.out;obtain⟨hblk5,hk45,hgc⟩:=H5.out;have hkW:Apd w ((w5.setCell ⟨gc,0,none⟩ (.slice ca col.length cc)).alloc (.cells #[.slice none 0 0,.int .i64 0] 221)):=
   ((hkw4.trans hk45 (fun _ _ h=>h)).setCell (p:=⟨gc,0,none⟩) (.inl (by have:=hkw4.size;show _≤gc;omega)) _).alloc _
  have hgw:w.heap.size≤gc:=by have:=hkw4.size;omega
  have hnil: ∀n,0<n→n<N→(Value.slice ca col.length cc::List.replicate (N-1) (.slice none 0 0)).getD n undef= .slice none 0 0:=fun n h1 h2=>by
   obtain⟨m,rfl⟩: ∃m,n=m+1:=⟨n-1,by omega⟩;rw[List.getD_cons_succ,Ak6,Am0 (by omega)];rfl
  have hcsn: ∀n,0<n→(col::List.replicate (N-1) []).getD n []=([]:List UInt8):=fun n h1=>by
   obtain⟨m,rfl⟩: ∃m,n=m+1:=⟨n-1,by omega⟩;rw[List.getD_cons_succ,Ak6]
   by_cases h:m<N-1
   ·rw[Am0 h];rfl
   ·rw[Al3 (by simp;omega)];rfl
  have hlcs:(col::List.replicate (N-1) ([]:List UInt8)).length=N:=by simp;omega
  have hszW:((w5.setCell ⟨gc,0,none⟩ (.slice ca col.length cc)).alloc (.cells #[.slice none 0 0,.int .i64 0] 221)).heap.size=w5.heap.size+1:=by simp
  have hb0: ∀k,(Value.slice ca col.length cc).ownBlock=some k→k<w.heap.size:=fun k e=>(hcol.lt k e).2;refine⟨⟨?_,by simp,fun n hn=>?_,fun n m k h1 h2 h3 e1 e2=>?_,fun n k h1 e=>?_⟩,⟨?_,?_,fun e=>(by cases e)⟩,Aa.refl _ _,fun n k h1 h2 e=>?_,fun n k h1 e e2=>(by cases e2),fun k e=>(by cases e),fun k e=>?_,by omega,by omega,by omega⟩
  ·rw[Below.heap_alloc _ _ _ (by simp;omega)];have:=Alf w5 gc 0 _ _ (.slice ca col.length cc) hblk5;rw[this];congr 2;obtain⟨m,rfl⟩: ∃m,N=m+1:=⟨N-1,by omega⟩;simp[List.replicate_succ]
  ·rw[hlcs]at hn
   by_cases c:n=0
   ·subst c;exact hkW.owns hcol (fun _ _=>id)
   ·rw[hnil n (by omega) hn,hcsn n (by omega)];exact Aoe _ _ _ _
  ·rw[hlcs]at h2;rw[hnil n h1 h2]at e1;cases e1
  ·rw[hlcs]at h1
   by_cases c:n=0
   ·subst c;have:=hb0 k e;omega
   ·rw[hnil n (by omega) h1]at e;cases e
  ·have:=All (w5.setCell ⟨gc,0,none⟩ (.slice ca col.length cc)) (.cells #[.slice none 0 0,.int .i64 0] 221);simpa using this
  ·exact Aoe _ _ _ _
  ·rw[hlcs]at h2;rw[hnil n h1 h2]at e;cases e
  ·have:=hb0 k e;rw[hszW];omega
 have hkW0:Apd w ((w5.setCell ⟨gc,0,none⟩ (.slice ca col.length cc)).alloc (.cells #[.slice none 0 0,.int .i64 0] 221))∧((w5.setCell ⟨gc,0,none⟩ (.slice ca col.length cc)).alloc (.cells #[.slice none 0 0,.int .i64 0] 221)).heap[w.heap.size+1]?=some (.cells Tryz.zeroCells96 96 (0,0))∧((w5.setCell ⟨gc,0,none⟩ (.slice ca col.length cc)).alloc (.cells #[.slice none 0 0,.int .i64 0] 221)).heap[w2.heap.size]?=some (.cells TT 92 (0,0))∧((w5.setCell ⟨gc,0,none⟩ (.slice ca col.length cc)).alloc (.cells #[.slice none 0 0,.int .i64 0] 221)).ownsRow w3.heap.size 195 9 (.slice (some ⟨ng,0,none⟩) N nc) N (A9 nds):=by
  obtain⟨hres4,htab4,hkw4,hno,hcol⟩:=H4.out;obtain⟨hblk5,hk45,hgc⟩:=H5.out;have hk5:Aa (fun j=>j=gc) w4 ((w5.setCell ⟨gc,0,none⟩ (.slice ca col.length cc)).alloc (.cells #[.slice none 0 0,.int .i64 0] 221)):=
   ((hk45.wider (T:=fun j=>j=gc) (fun _ _ h=>h.elim)).setCell (p:=⟨gc,0,none⟩) (.inr rfl) _).alloc _
  have hlt1:=Alw hres4;have hlt2:=Alw htab4;have hkw:w.heap.size≤w4.heap.size:=hkw4.size;refine⟨hkw4.trans hk5 (fun j h1 h2=>by omega),hk5.row hres4 (by omega),hk5.row htab4 (by omega),hk5.owns hno (fun j hj e=>by have e1:ng=j:=Al1 hj;omega)⟩
 obtain⟨b8,hb8⟩: ∃b,b=w5.heap.size:=⟨_,rfl⟩;rw[←hb8]at hW0⊢;have hb8s:gc<b8:=by omega
 obtain⟨W0,hW0e⟩: ∃W0,W0=(w5.setCell ⟨gc,0,none⟩ (.slice ca col.length cc)).alloc (.cells #[.slice none 0 0,.int .i64 0] 221):=⟨_,rfl⟩;rw[←hW0e]at hW0 hkW0⊢;have HB:Aside (w.heap.size+1<w2.heap.size∧w2.heap.size<w3.heap.size∧w3.heap.size≤ng∧ng<gc∧gc<b8):=⟨hbs,hs23,hng3,by rw[H5.out.2.2];exact hngw,hb8s⟩;have H0:Aside _:=And.intro hW0 hkW0;clear hW0 hkW0 hW0e hb8 hc5 hf5 H5 H4 hbs hs23 hng3 hngw hs5 hb8s
 go_loopw[28] (fun vi wr=> ∃(i:Nat) (vals:List Value) (cs:List (List UInt8)) (v8:Value),i≤N∧vi= .int .i64 i∧Ik (Hm.lnB L) (Bm L) nds col i 0 cs∧TSt W0 wr gc b8 vals cs v8 (Hm.tb (Hm.lnB L) (Bm L) nds col i 0)) (fun vi _=>N-(intOf vi).toNat)
 case atStart=>
  refine⟨0,_,_,_,Alr _,rfl,?_,by rw[Xv];exact H0.out.1⟩;have:=Ik.start (num:=Bm L) (col:=col) HH.out.2.1;rw[HH.out.2.2.1]at this;exact this
 case round=>
  obtain⟨i,vals,cs,v8,hiN,rfl,hco,hts⟩:=hrel
  by_cases hlt:i<N
  ·have hnw:=hts.kept.owns H0.out.2.2.2.2 (fun j hj e=>by have e1:ng=j:=Al1 hj;have:=HB.out;rcases e with e|e<;>omega);have hnn:N=nds.length:=HH.out.2.2.1.symm;have nc:=fun j hj=>Hl hnw hnn (i:=i) (by omega) j hj;obtain⟨nd,hnd⟩: ∃nd,nd=Ab nds i:=⟨_,rfl⟩;rw[←hnd]at nc;have n0:wr.cell? ⟨ng,i*9,none⟩=some (.int .i64 (nd.depth:Nat)):=nc 0 (by omega);have n1:wr.cell? ⟨ng,i*9+1,none⟩=some (.int .i64 (nd.frm:Nat)):=nc 1 (by omega);have n2:wr.cell? ⟨ng,i*9+2,none⟩=some (.int .i64 (nd.siz:Nat)):=nc 2 (by omega);have n3:wr.cell? ⟨ng,i*9+3,none⟩=some (.bool nd.b0.whole):=nc 3 (by omega);have n4:wr.cell? ⟨ng,i*9+4,none⟩=some (.int .u8 (nd.b0.val.toNat:Nat)):=nc 4 (by omega);have n5:wr.cell? ⟨ng,i*9+5,none⟩=some (.int .i64 (nd.b0.node:Nat)):=nc 5 (by omega);have n6:wr.cell? ⟨ng,i*9+6,none⟩=some (.bool nd.b1.whole):=nc 6 (by omega);have n7:wr.cell? ⟨ng,i*9+7,none⟩=some (.int .u8 (nd.b1.val.toNat:Nat)):=nc 7 (by omega);have n8:wr.cell? ⟨ng,i*9+8,none⟩=some (.int .i64 (nd.b1.node:Nat)):=nc 8 (by omega);have hiI:(i:Int)<(N:Int):=by omega
   have hdec:decide ((i:Int)<(N:Int))=true:=Alb hiI;have H1:Aside _:=And.intro hco (And.intro hts (And.intro hnn hnd));clear hnw hco hts nc hnn hnd;go_upto_region 9 with fail
   obtain⟨hco,hts,hnn,hnd⟩:=H1.out;have hbk0:(wr.alloc (.cells #[.int .i64 (nd.depth:Nat),.int .i64 (nd.frm:Nat),.int .i64 (nd.siz:Nat),.bool nd.b0.whole,.int .u8 (nd.b0.val.toNat:Nat),.int .i64 (nd.b0.node:Nat),.bool nd.b1.whole,.int .u8 (nd.b1.val.toNat:Nat),.int .i64 (nd.b1.node:Nat)] 195)).heap[wr.heap.size]?=some (.cells (Ce nd).toArray 195 (0,0)):=All wr _;have hts1:=hts.grew ((Aa.refl (fun _=>False) wr).alloc (.cells #[.int .i64 (nd.depth:Nat),.int .i64 (nd.frm:Nat),.int .i64 (nd.siz:Nat),.bool nd.b0.whole,.int .u8 (nd.b0.val.toNat:Nat),.int .i64 (nd.b0.node:Nat),.bool nd.b1.whole,.int .u8 (nd.b1.val.toNat:Nat),.int .i64 (nd.b1.node:Nat)] 195));have hno1:=hts.fresh;generalize wr.alloc (.cells #[.int .i64 (nd.depth:Nat),.int .i64 (nd.frm:Nat),.int .i64 (nd.siz:Nat),.bool nd.b0.whole,.int .u8 (nd.b0.val.toNat:Nat),.int .i64 (nd.b0.node:Nat),.bool nd.b1.whole,.int .u8 (nd.b1.val.toNat:Nat),.int .i64 (nd.b1.node:Nat)] 195)=W1 at*;obtain⟨hb,hhb⟩: ∃hb,hb=wr.heap.size:=⟨_,rfl⟩;rw[←hhb]at hbk0 hno1⊢;clear hhb n0 n1 n2 n3 n4 n5 n6 n7 n8 hts H1;have hpos:=HH.out.1.pos;have hnl2:=HH.out.1.num_lt;have hcl:cs.length=N:=by rw[hco.len];exact hnn.symm
   have hhere:=hco.here HH.out.2.1 HH.out.2.2.2 hpos hnl2 (by omega:i<nds.length);have hown:=hts1.cols.own i (by omega);rw[hhere]at hown;obtain⟨ia,ic,hiv,_⟩:=Ay hown;have hcv:W1.cell? ⟨gc,i,none⟩=some (.slice ia (Ao (Hm.lnB L) (Bm L) nds col i).length ic):=by
    rw[Alc _ _ i _ _ _ hts1.cols.blk,Alz,←hiv,Ak6,Ak7 (by rw[hts1.cols.len];omega)];rfl
   have hli:=Nm (Hm.lnB L) (Bm L) nds col i;obtain⟨ci,hci⟩: ∃ci,ci=Ao (Hm.lnB L) (Bm L) nds col i:=⟨_,rfl⟩;rw[←hci]at hcv hli hiv;obtain⟨li,hlie⟩: ∃li,li=ci.length:=⟨_,rfl⟩;rw[←hlie]at hcv hli hiv;have H1:Aside (Ik (Hm.lnB L) (Bm L) nds col i 0 cs∧TSt W0 W1 gc b8 vals cs v8 (Hm.tb (Hm.lnB L) (Bm L) nds col i 0)∧Kq hb gc b8 vals v8∧W1.heap[hb]?=some (.cells (Ce nd).toArray 195 (0,0))∧vals.getD i undef= .slice ia li ic):=⟨hco,hts1,hno1,hbk0,hiv⟩;have HN:Aside (N=nds.length∧nd=Ab nds i∧ci=Ao (Hm.lnB L) (Bm L) nds col i∧li=ci.length):=⟨hnn,hnd,hci,hlie⟩;clear hco hts1 hno1 hbk0 hiv hnn hnd hci hlie hown hhere hcl hpos hnl2;go_wp2_with fail;clear hcv
   go_loopw[38] (fun vp wr=> ∃(p:Nat) (vals:List Value) (cs:List (List UInt8)) (v8:Value),p≤li∧vp= .int .i64 p∧Ik (Hm.lnB L) (Bm L) nds col i p cs∧TSt W0 wr gc b8 vals cs v8 (Hm.tb (Hm.lnB L) (Bm L) nds col i p)∧Kq hb gc b8 vals v8∧wr.heap[hb]?=some (.cells (Ce nd).toArray 195 (0,0))∧vals.getD i undef= .slice ia li ic) (fun vp _=>li-(intOf vp).toNat)
   case atStart=>
    obtain⟨q1,q2,q3,q4,q5⟩:=H1.out;exact⟨0,vals,cs,v8,Alr _,rfl,q1,q2,q3,q4,q5⟩
   case round=>
    clear H1;obtain⟨p,vals,cs,v8,hp,rfl,hco,hts,hno,hbk,hiv⟩:=hrel;obtain⟨W2,rfl⟩: ∃X,X=wr:=⟨_,rfl⟩;obtain⟨hnn,hnd,hci,hlie⟩:=HN.out;have hcl:cs.length=N:=by rw[hco.len];exact hnn.symm
    by_cases hpl:p<li
    ·have hpc:p<(Ao (Hm.lnB L) (Bm L) nds col i).length:=by rw[←hci,←hlie];exact hpl
     have hhere:=hco.here HH.out.2.1 HH.out.2.2.2 HH.out.1.pos HH.out.1.num_lt (by omega:i<nds.length);have hown:=hts.cols.own i (by omega);rw[hhere,hiv,←hci,←hlie]at hown;obtain⟨gi,icc,hgi,_,hgiw⟩:=Cf hown (by omega);simp only[Value.slice.injEq]at hgi;obtain⟨hia,_,hicc⟩:=hgi;subst hia;subst hicc;obtain⟨b,hb'⟩: ∃b,b=(Ao (Hm.lnB L) (Bm L) nds col i).getD p 0:=⟨_,rfl⟩;have hbm:b∈Ao (Hm.lnB L) (Bm L) nds col i:=by rw[hb',Ak6,Ak7 hpc];exact Alo _
     obtain⟨hbc,hbu⟩:=List.mem_filter.1 hbm;have hbo:=HH.out.2.2.2 b hbc;rw[←hnd]at hbu;obtain⟨hdl,_⟩:=Amm hbu;have hcb:W2.cell? ⟨gi,p,none⟩=some (.int .u8 (b.toNat:Nat)):=by
      rw[hown.cellAt p (by omega),hb',←hci];simp[Ag,List.getElem?_eq_getElem (show p<ci.length by omega),List.getD_eq_getElem?_getD]
     have hgo:=HH.out.2.1.goes HH.out.1.numk HH.out.2.2.2 (by omega:i<nds.length) hpc;rw[←hb',←hnd]at hgo;have htb:=Akm (Hm.lnB L) (Bm L) nds col i p hpc;rw[←hb',←hnd]at htb;have htl:=Ahr (Hm.lnB L) (Bm L) nds col i p;have htab:=hts.kept.row H0.out.2.2.2.1 (fun e=>by have:=HB.out;rcases e with e|e<;>omega);have hbn:=b.toNat_lt;have htlen:(Bc L).length=256:=A3 _ _ _ _;have htg:=V6 (Bc L) b.toNat (by omega);have hcode:(Bc L)[b.toNat]'(by omega)=(Bm L b,Hm.lnB L b):=by
      have e1:(Bc L).getD b.toNat (0,0)=(Bc L)[b.toNat]'(by omega):=by rw[Ak6,Ak7 (by omega)];rfl
      rw[←e1];show Nw L b=_;rw[Prod.ext_iff];exact⟨rfl,V4 L HH.out.1.le255 b⟩
     rw[hcode]at htg;have t0:W2.cell? ⟨w2.heap.size,b.toNat*2,none⟩=some (.int .u64 (Bm L b:Nat)):=by
      rw[Alc _ _ _ _ _ _ htab,HT.out.1,Alz];exact htg.1
     have t1:W2.cell? ⟨w2.heap.size,b.toNat*2+1,none⟩=some (.int .i64 (Hm.lnB L b:Nat)):=by
      rw[Alc _ _ _ _ _ _ htab,HT.out.1,Alz];exact htg.2
     have hl32:=HH.out.1.short b;have hc32:Bm L b<4294967296:=Amp (HH.out.1.num_lt b hbo) (Abl hl32);have hbit:=fun X=>Adl (Bm L b) (Hm.lnB L b) nd.depth X hc32 hl32 hdl;have hsd:=Fy (Hm.lnB L) (Bm L) nd.depth b;have ebit:Bm L b/2^(Hm.lnB L b-1-nd.depth)%2=Av (Hm.lnB L) (Bm L) nd.depth b:=rfl;rw[ebit]at hbit;obtain⟨sd,hsde⟩: ∃sd,sd=Av (Hm.lnB L) (Bm L) nd.depth b:=⟨_,rfl⟩;rw[←hsde]at hbit hsd hgo htb;have d0:W2.cell? ⟨hb,0,none⟩=some (.int .i64 (nd.depth:Nat)):=Alc _ _ 0 _ _ _ hbk;have HP:Aside (Ik (Hm.lnB L) (Bm L) nds col i p cs∧TSt W0 W2 gc b8 vals cs v8 (Hm.tb (Hm.lnB L) (Bm L) nds col i p)∧Kq hb gc b8 vals v8∧W2.heap[hb]?=some (.cells (Ce nd).toArray 195 (0,0))∧vals.getD i undef= .slice (some ⟨gi,0,none⟩) li ic∧cs.length=N∧Hm.tb (Hm.lnB L) (Bm L) nds col i (p+1)=Hm.tb (Hm.lnB L) (Bm L) nds col i p++[decide (sd=1)]∧(Hm.tb (Hm.lnB L) (Bm L) nds col i p).length≤(i+1)*col.length∧b=(Ao (Hm.lnB L) (Bm L) nds col i).getD p 0∧p<(Ao (Hm.lnB L) (Bm L) nds col i).length∧sd=Av (Hm.lnB L) (Bm L) nd.depth b):=⟨hco,hts,hno,hbk,hiv,hcl,htb,htl,hb',hpc,hsde⟩;have HGO:Aside _:=hgo;have hplI:(p:Int)<(li:Int):=by omega
     have hdec2:decide ((p:Int)<(li:Int))=true:=Alb hplI;obtain⟨bn,hbne⟩: ∃bn,bn=b.toNat:=⟨_,rfl⟩;rw[←hbne]at hcb t0 t1 hbn;have HBN:Aside (bn=b.toNat):=hbne;have hbI:(bn:Int)<256:=by omega
     obtain⟨cnum,hcnum⟩: ∃x,x=Bm L b:=⟨_,rfl⟩;obtain⟨clen,hclen⟩: ∃x,x=Hm.lnB L b:=⟨_,rfl⟩;rw[←hcnum]at t0 hbit;rw[←hclen]at t1 hbit;clear hco hts hno hbk hiv hcl htb htl hb' hpc hgo hown hhere hbm hbc hbu hbo hdl htab htlen htg hcode hl32 hc32 ebit hsde hnn hnd hci hlie hbne hcnum hclen;go_wp2_with fail
     go_region_held(fun X=>X.cell? ⟨w2.heap.size,bn*2,none⟩=some (.int .u64 (cnum:Nat))∧X.cell? ⟨w2.heap.size,bn*2+1,none⟩=some (.int .i64 (clen:Nat))∧X.cell? ⟨hb,0,none⟩=some (.int .i64 (nd.depth:Nat))) (first|exact⟨t0,t1,d0⟩|exact⟨k0,k1,k2⟩)
      (first|(go_at_call 151;(refine(hbit _).mono ?_;rintro e w6 ⟨rfl,hk6⟩;have k0:=(hk6.cell (p:=⟨w2.heap.size,bn*2,none⟩) (Aly _ _ t0) id).trans t0;have k1:=(hk6.cell (p:=⟨w2.heap.size,bn*2+1,none⟩) (Aly _ _ t1) id).trans t1;have k2:=(hk6.cell (p:=⟨hb,0,none⟩) (Aly _ _ d0) id).trans d0)))
     obtain⟨hco,hts,hno,hbk,hiv,hcl,htb,htl,hb',hpc,hsde⟩:=HP.out;have hk26:Apd W2 w6:=(Aa.refl (fun _=>False) W2).drew.trans hk6 (fun _ _ h=>h);have hts6:=hts.grew hk26;have hbk6:=hk26.row hbk id;have hmul:(i+1)*col.length≤255*6000:=Amk (by omega) hl;have hadd:=Sy 221 b8 v8 _ sd w6 hts6.bat (by omega) (by omega);rw[←htb]at hadd;have H6:Aside _:=And.intro hts6 (And.intro hbk6 hno);have hs26:=hk26.size;clear hts6 hbk6 hk26 hk6 k0 k1 k2 t0 t1 d0 hbit hcb hco hts hno hbk hiv hcl htb htl hb' hpc hsde hmul;go_wp2_with fail;refine hadd.mono ?_;rintro e w7 ⟨v7,rfl,hb7,hk7,hm7⟩;clear hadd;obtain⟨hts6,hbk6,hno6⟩:=H6.out;have hhbw:hb<w6.heap.size:=Alw hbk6;have hts7:=hts6.add hb7 hk7 hm7;have hno7:=hno6.add hhbw hm7;have hbk7:=hk7.row hbk6 (fun e=>by rcases e with e|e;exact hno6.2.2.2 e;exact hno6.2.1 e);obtain⟨br,hbr⟩: ∃br,br=nd.br sd:=⟨_,rfl⟩;have e0:w7.cell? ⟨hb,3+sd*3,none⟩=some (.bool br.whole):=by
      rw[Alc _ _ _ _ _ _ hbk7,Alz,hbr];rcases(show sd=0∨sd=1 by omega)with e|e<;>rw[e]<;>rfl
     have e1:w7.cell? ⟨hb,3+sd*3+1,none⟩=some (.int .u8 (br.val.toNat:Nat)):=by
      rw[Alc _ _ _ _ _ _ hbk7,Alz,hbr];rcases(show sd=0∨sd=1 by omega)with e|e<;>rw[e]<;>rfl
     have e2:w7.cell? ⟨hb,3+sd*3+2,none⟩=some (.int .i64 (br.node:Nat)):=by
      rw[Alc _ _ _ _ _ _ hbk7,Alz,hbr];rcases(show sd=0∨sd=1 by omega)with e|e<;>rw[e]<;>rfl
     have hsI:(sd:Int)<2:=by omega
     have hgo:=HGO.out;rw[←hbr]at hgo;have H7:Aside _:=And.intro hts7 (And.intro hno7 (And.intro hbk7 hbr));clear H6 hts6 hbk6 hno6 hts7 hno7 hbk7 hbr hb7 hk7 hm7 HGO;rcases hgo with⟨lv,hlv⟩|⟨n,hn0,hnN,hin,hnode⟩
     ·have hw1:br.whole=true:=by rw[hlv]
      rw[hw1]at e0;have HLV:Aside _:=hlv;generalize br.val.toNat=bv at*;generalize br.node=bnd at*;clear hlv hw1;go_wp2;go_roundw
      case rel=>
       obtain⟨hts7,hno7,hbk7,hbr⟩:=H7.out;obtain⟨hco,_,_,_,hiv,_,_,_,hb',hpc,hsde⟩:=HP.out;have hkl:Apd w7 (w7.alloc (.cells #[.bool true,.int .u8 (bv:Nat),.int .i64 (bnd:Nat)] 192)):=(Aa.refl _ _).alloc _;refine⟨p+1,vals,cs,v7,by omega,by go_num,?_,hts7.grew hkl,hno7,hkl.row hbk7 id,hiv⟩;refine hco.leaf hpc (v:=lv) ?_;rw[←hb',←HN.out.2.1,←hsde,←hbr];exact HLV.out
      case measure=>simp[intOf];omega
     ·have hw1:br.whole=false:=by rw[hnode]
      have hn1:br.node=n:=by rw[hnode]
      rw[hw1]at e0;rw[hn1]at e2;have HNO:Aside _:=And.intro hnode (And.intro hn0 (And.intro hnN hin));generalize br.val.toNat=bv at*;clear hnode hw1 hn1;go_wp2_with fail;obtain⟨hts7,hno7,hbk7,hbr⟩:=H7.out;have hkl:Apd w7 (w7.alloc (.cells #[.bool false,.int .u8 (bv:Nat),.int .i64 (n:Nat)] 192)):=(Aa.refl _ _).alloc _;have hnbk:=All w7 (.cells #[.bool false,.int .u8 (bv:Nat),.int .i64 (n:Nat)] 192);have hts8:=hts7.grew hkl;have hbk8:=hkl.row hbk7 id;generalize w7.alloc (.cells #[.bool false,.int .u8 (bv:Nat),.int .i64 (n:Nat)] 192)=w8 at*;have hncs:n<cs.length:=by rw[HP.out.2.2.2.2.2.1];have:=HN.out.1;omega
      have hva:=hts8.cols.own n hncs;obtain⟨na,ncap,hvae,_⟩:=Ay hva;have q0:w8.cell? ⟨w7.heap.size,2,none⟩=some (.int .i64 (n:Nat)):=Alc _ _ 2 _ _ _ hnbk;have q1:w8.cell? ⟨gc,n,none⟩=some (.slice na (cs.getD n []).length ncap):=by
       rw[Alc _ _ n _ _ _ hts8.cols.blk,Alz,←hvae,Ak6,Ak7 (by rw[hts8.cols.len];exact hncs)];rfl
      have hnI:(n:Int)<(N:Int):=by have:=HN.out.1;omega
      have hnbl:w7.heap.size<w8.heap.size:=Alw hnbk;have hnbn: ∀k,(vals.getD n undef).ownBlock=some k→k≠w7.heap.size:=fun k e=>by have:=(hts7.cols.own n hncs).lt k e;omega
      rw[hvae]at hva;have hcsl:(cs.getD n []).length≤6000:=by
       have hat:=(HP.out.1.at_ n i sd hnN hn0 (by omega) (by omega) (by rw[←HN.out.2.1,←hbr];exact HNO.out.1)).2.1 rfl;rw[hat];have h1:=Ao2 (fun b=>Av (Hm.lnB L) (Bm L) (Ab nds i).depth b==sd) ((Ao (Hm.lnB L) (Bm L) nds col i).take p);have h2:=Nm (Hm.lnB L) (Bm L) nds col i;rw[Aln]at h1;omega
      have H8:Aside _:=And.intro hts8 (And.intro hno7 (And.intro hbk8 (And.intro hvae (And.intro hncs (And.intro hnbk hnbn)))));obtain⟨nl,hnl⟩: ∃nl,nl=(cs.getD n []).length:=⟨_,rfl⟩;rw[←hnl]at q1 hva hcsl;have HNL:Aside (nl=(cs.getD n []).length):=hnl;have HBR:Aside (br=nd.br sd):=hbr;clear H7 hts7 hno7 hbk7 hkl hts8 hbk8 hvae hbr hnl hnbn;refine Ank (S:=fun X=>X.cell? ⟨w7.heap.size,2,none⟩=some (.int .i64 (n:Nat))) (by kernel_rfl) ?_ (fun hHeld=>?_)
      ·exact q0
      have q2:(w8.alloc (.cells #[.int .u8 (bn:Nat)] 5)).cell? ⟨w7.heap.size,2,none⟩=some (.int .i64 (n:Nat)):=(((Aa.refl (fun _=>False) w8).alloc _).cell (p:=⟨w7.heap.size,2,none⟩) hnbl id).trans q0;have hgcw:gc<w8.heap.size:=Aly _ _ q1;have q3:(w8.alloc (.cells #[.int .u8 (bn:Nat)] 5)).cell? ⟨gc,n,none⟩=some (.slice na nl ncap):=(((Aa.refl (fun _=>False) w8).alloc _).cell (p:=⟨gc,n,none⟩) hgcw id).trans q1
      refine wpAnyH_take (i := 0) (oi := { dst := some 57, op := Op.move (Operand.tmp 7), type := 229, pos := "tree.go:70", after := #[], guard := none }) (v := ?_) rfl (by kernel_rfl) (by kernel_rfl) (by kernel_rfl) (fun _ _ _ h => h) (Or.inl ⟨by kernel_rfl, ?_⟩) (by assumption) ?_
      rotate_left
      ·intro X hSw;try dsimp only at hSw
       go_simp
       with_reducible rfl
      simp only[Act.put,Ak8,Ak9,Ala]
      refine wpAnyH_take (i := 1) (oi := { dst := some 58, op := Op.fieldAddr 192 (Operand.tmp 14) 2, type := 0, pos := "tree.go:70", after := #[], guard := none }) (v := ?_) rfl (by kernel_rfl) (by kernel_rfl) (by kernel_rfl) (fun _ _ _ h => h) (Or.inl ⟨by kernel_rfl, ?_⟩) (by assumption) ?_
      rotate_left
      ·intro X hSw;try dsimp only at hSw
       go_simp
       with_reducible rfl
      simp only[Act.put,Ak8,Ak9,Ala]
      refine wpAnyH_take (i := 2) (oi := { dst := some 59, op := Op.load 3 (Operand.tmp 58), type := 3, pos := "tree.go:70", after := #[{ on := 1, ground := Ground.data }], guard := none }) (v := ?_) rfl (by kernel_rfl) (by kernel_rfl) (by kernel_rfl) (fun _ _ _ h => h) (Or.inl ⟨by kernel_rfl, ?_⟩) (by assumption) ?_
      rotate_left
      ·intro X hSw;try dsimp only at hSw
       go_simp
       with_reducible rfl
      simp only[Act.put,Ak8,Ak9,Ala]
      refine wpAnyH_take (i := 3) (oi := { dst := some 60, op := Op.move (Operand.tmp 7), type := 229, pos := "tree.go:70", after := #[], guard := none }) (v := ?_) rfl (by kernel_rfl) (by kernel_rfl) (by kernel_rfl) (fun _ _ _ h => h) (Or.inl ⟨by kernel_rfl, ?_⟩) (by assumption) ?_
      rotate_left
      ·intro X hSw;try dsimp only at hSw
       go_simp
       with_reducible rfl
      simp only[Act.put,Ak8,Ak9,Ala]
      refine wpAnyH_take (i := 4) (oi := { dst := some 61, op := Op.fieldAddr 192 (Operand.tmp 14) 2, type := 0, pos := "tree.go:70", after := #[], guard := none }) (v := ?_) rfl (by kernel_rfl) (by kernel_rfl) (by kernel_rfl) (fun _ _ _ h => h) (Or.inl ⟨by kernel_rfl, ?_⟩) (by assumption) ?_
      rotate_left
      ·intro X hSw;try dsimp only at hSw
       go_simp
       with_reducible rfl
      simp only[Act.put,Ak8,Ak9,Ala]
      refine wpAnyH_take (i := 5) (oi := { dst := some 62, op := Op.load 3 (Operand.tmp 61), type := 3, pos := "tree.go:70", after := #[{ on := 4, ground := Ground.data }], guard := none }) (v := ?_) rfl (by kernel_rfl) (by kernel_rfl) (by kernel_rfl) (fun _ _ _ h => h) (Or.inl ⟨by kernel_rfl, ?_⟩) (by assumption) ?_
      rotate_left
      ·intro X hSw;try dsimp only at hSw
       go_simp
       with_reducible rfl
      simp only[Act.put,Ak8,Ak9,Ala]
      refine wpAnyH_take (i := 6) (oi := { dst := some 63, op := Op.indexAddr 229 (Operand.tmp 60) (Operand.tmp 62), type := 0, pos := "tree.go:70", after := #[{ on := 3, ground := Ground.data }, { on := 5, ground := Ground.data }], guard := none }) (v := ?_) rfl (by kernel_rfl) (by kernel_rfl) (by kernel_rfl) (fun _ _ _ h => h) (Or.inl ⟨by kernel_rfl, ?_⟩) (by assumption) ?_
      rotate_left
      ·intro X hSw;try dsimp only at hSw
       go_simp
       with_reducible rfl
      simp only[Act.put,Ak8,Ak9,Ala]
      refine wpAnyH_take (i := 8) (oi := { dst := some 65, op := Op.move (Operand.tmp 12), type := 5, pos := "tree.go:70", after := #[], guard := none }) (v := ?_) rfl (by kernel_rfl) (by kernel_rfl) (by kernel_rfl) (fun _ _ _ h => h) (Or.inl ⟨by kernel_rfl, ?_⟩) (by assumption) ?_
      rotate_left
      ·intro X hSw;try dsimp only at hSw
       go_simp
       with_reducible rfl
      simp only[Act.put,Ak8,Ak9,Ala];refine Al0 (rs:=[7,9]) (by kernel_rfl) (by simp) ?_
      refine AllReadyH.cons (o := { dst := some 64, op := Op.load 79 (Operand.tmp 63), type := 79, pos := "tree.go:70", after := #[{ on := 6, ground := Ground.data }], guard := none }) rfl (fun K hK => ?_) (AllReadyH.cons (o := { dst := some 66, op := Op.buildSlice 79 1 #[(0, Operand.tmp 65)], type := 79, pos := "tree.go:70", after := #[{ on := 8, ground := Ground.data }], guard := none }) rfl (fun K hK => ?_) AllReadyH.nil)
      ·go_simp;refine hK.out _ _ q0 (fun hHeld=>?_);clear hK K;refine Al0 (rs:=[9]) (by kernel_rfl) (by simp) ?_
       refine AllReadyH.cons (o := { dst := some 66, op := Op.buildSlice 79 1 #[(0, Operand.tmp 65)], type := 79, pos := "tree.go:70", after := #[{ on := 8, ground := Ground.data }], guard := none }) rfl (fun K hK => ?_) AllReadyH.nil
       go_simp;refine hK.out _ _ q2 (fun hHeld=>?_);clear hK K;refine Al0 (rs:=[10]) (by kernel_rfl) (by simp) ?_
       refine AllReadyH.cons (o := { dst := some 67, op := Op.call { callee := Callee.builtin Builtin.append, args := #[Operand.tmp 64, Operand.tmp 66], argTypes := #[79, 79] }, type := 79, pos := "tree.go:70", after := #[{ on := 7, ground := Ground.data }, { on := 9, ground := Ground.data }], guard := none }) rfl (fun K hK => ?_) AllReadyH.nil
       refine step_append_lies _ rfl (.tmp 64) (.tmp 66) 79 rfl 0 5 i8 (.int .u8 0) 1 1 Tryz.underlying79 hi8 hz80 hz81 hz82 rfl (by decide) (.slice na nl ncap) nl (Ag (cs.getD n [])) rfl (hva.alloc _).drew ⟨w8.heap.size,0,none⟩ 1 1 [.int .u8 (bn:Nat)] rfl rfl (fun j u h=>An9 w8 _ _ j u h) (by intro u hu;simp at hu;subst hu;rfl) (by decide) (by unfold maxLen;omega) (by omega) (Alr _) _ rfl ?_;intro g9 cap9 w9 ho9 hg9 hgo9 hlt9;obtain⟨hts8,hno7,hbk8,hvae,hncs',hnbk,hnbn⟩:=H8.out;rw[←HNL.out]at hvae;have hk9:Aa (fun j=>(vals.getD n undef).ownBlock=some j) w8 w9:=((Aa.refl (fun j=>(vals.getD n undef).ownBlock=some j) w8).alloc _).drew.grown hg9 (fun k hk=> .inr (by rw[hvae];exact hk.symm▸rfl));have hmv9:Cc w8 (vals.getD n undef) (.slice (some ⟨g9,0,none⟩) (nl+1) cap9):=fun k hk=>by
        have e:g9=k:=Al1 hk;rcases hgo9 with c|c
        ·exact .inl (by rw[hvae,←e];exact c)
        ·right;have:(w8.alloc (.cells #[.int .u8 (bn:Nat)] 5)).drew.heap.size=w8.heap.size+1:=by simp
         omega
       have hbcl:Ag (cs.getD n [])++[.int .u8 (bn:Nat)]=Ag (cs.getD n []++[b]):=by rw[HBN.out];simp[Ag]
       have hll:(cs.getD n []++[b]).length=nl+1:=by rw[Alg,←HNL.out];rfl
       rw[hbcl]at ho9;have hT9:=hts8.app (l:=cs.getD n []++[b]) hn0 hncs hk9 (by rw[hll];exact ho9) hmv9;have hno9:=hno7.app (n:=n) (by rw[hts8.cols.len];exact hncs) (wr:=w8) (Alw hbk8) hmv9;have hbk9':w9.heap[hb]?=some (.cells (Ce nd).toArray 195 (0,0)):=hk9.row hbk8 (fun e=>hno7.1 n hb (by rw[hts8.cols.len];exact hncs) e rfl);have hbk9:(w9.setCell ⟨gc,n,none⟩ (.slice (some ⟨g9,0,none⟩) (nl+1) cap9)).heap[hb]?=some (.cells (Ce nd).toArray 195 (0,0)):=by
        rw[Ano _ _ _ _ hno7.2.2.1];exact hbk9'
       have hgb9:=hk9.row hts8.cols.blk (fun e=>hts8.cols.ne n gc hncs e rfl);have r0:w9.cell? ⟨w7.heap.size,2,none⟩=some (.int .i64 (n:Nat)):=(hk9.cell (p:=⟨w7.heap.size,2,none⟩) hnbl (fun e=>hnbn _ e rfl)).trans q0;have r1:w9.cell? ⟨gc,n,none⟩=some (.slice na nl ncap):=(hk9.cell (p:=⟨gc,n,none⟩) hgcw (fun e=>hts8.cols.ne n gc hncs e rfl)).trans q1;have r2:w9.frozen? ⟨gc,n,none⟩=false:=Alk _ _ n _ _ hgb9;have hgn:gc≠w7.heap.size:=by have h1:=hts8.gB;have h2:=hts8.kept.size;intro e;rw[←e]at hnbk;have:=hts8.cols.blk;rw[this]at hnbk;simp only[Option.some.injEq,Obj.cells.injEq]at hnbk;exact absurd hnbk.2.1 (by decide)
       have r3:(w9.setCell ⟨gc,n,none⟩ (.slice (some ⟨g9,0,none⟩) (nl+1) cap9)).cell? ⟨w7.heap.size,2,none⟩=some (.int .i64 (n:Nat)):=by
        rw[Anq _ _ _ _ (by intro e';simp only[Addr.mk.injEq]at e';exact hgn e'.1)];exact r0
       have H9:Aside _:=And.intro hT9 (And.intro hno9 hbk9);clear hts8 hno7 hbk8 hvae hnbk hnbn hk9 hmv9 hbcl hll ho9 hg9 hgo9 hT9 hno9 hbk9 hbk9' hgb9 hgn;simp only[Act.put,Ak8,Ak9,Ala];refine hK.out _ _ r0 (fun hHeld=>?_);clear hK K
       refine wpAnyH_take (i := 11) (oi := { dst := some 68, op := Op.indexAddr 229 (Operand.tmp 57) (Operand.tmp 59), type := 0, pos := "tree.go:70", after := #[{ on := 0, ground := Ground.data }, { on := 2, ground := Ground.data }, { on := 0, ground := Ground.phase }, { on := 1, ground := Ground.phase }, { on := 2, ground := Ground.phase }, { on := 3, ground := Ground.phase }, { on := 4, ground := Ground.phase }, { on := 5, ground := Ground.phase }, { on := 6, ground := Ground.phase }, { on := 7, ground := Ground.phase }, { on := 8, ground := Ground.phase }, { on := 9, ground := Ground.phase }, { on := 10, ground := Ground.phase }], guard := none }) (v := ?_) rfl (by kernel_rfl) (by kernel_rfl) (by kernel_rfl) (fun _ _ _ h => h) (Or.inl ⟨by kernel_rfl, ?_⟩) (by assumption) ?_
       rotate_left
       ·intro X hSw;try dsimp only at hSw
        go_simp
        with_reducible rfl
       simp only[Act.put,Ak8,Ak9,Ala];refine Al0 (rs:=[12]) (by kernel_rfl) (by simp) ?_
       refine AllReadyH.cons (o := { dst := none, op := Op.store 79 (Operand.tmp 68) (Operand.tmp 67), type := 0, pos := "tree.go:70", after := #[{ on := 11, ground := Ground.data }, { on := 10, ground := Ground.data }, { on := 10, ground := Ground.chain }, { on := 0, ground := Ground.phase }, { on := 1, ground := Ground.phase }, { on := 2, ground := Ground.phase }, { on := 3, ground := Ground.phase }, { on := 4, ground := Ground.phase }, { on := 5, ground := Ground.phase }, { on := 6, ground := Ground.phase }, { on := 7, ground := Ground.phase }, { on := 8, ground := Ground.phase }, { on := 9, ground := Ground.phase }, { on := 10, ground := Ground.phase }], guard := none }) rfl (fun K hK => ?_) AllReadyH.nil
       go_simp;refine hK.out _ _ r3 (fun hHeld=>?_);clear hK K;refine Anp (by kernel_rfl) ?_ _;clear r0 r1 r2 r3 q0 q1 q2 q3 hva hHeld;go_wp2;go_roundw
       case rel=>
        obtain⟨hT9,hno9,hbk9⟩:=H9.out;obtain⟨hco,_,_,_,hiv,hcl,_,_,hb',hpc,hsde⟩:=HP.out;refine⟨p+1,_,_,v7,by omega,by go_num,?_,hT9,hno9,hbk9,?_⟩
        ·rw[hb'];refine hco.node HH.out.2.1 (by have:=HN.out.1;omega) hpc hn0 ?_;rw[←hb',←HN.out.2.1,←hsde];exact HBR.out.symm.trans HNO.out.1
        ·rw[Hs _ _ _ _ (by have:=hT9.cols.len;rw[Amn,Amn]at this;omega),if_neg (by omega)];exact hiv
       case measure=>simp[intOf];omega
      ·go_simp;refine hK.out _ _ q2 (fun hHeld=>?_);clear hK K;refine Al0 (rs:=[7]) (by kernel_rfl) (by simp) ?_
       refine AllReadyH.cons (o := { dst := some 64, op := Op.load 79 (Operand.tmp 63), type := 79, pos := "tree.go:70", after := #[{ on := 6, ground := Ground.data }], guard := none }) rfl (fun K hK => ?_) AllReadyH.nil
       go_simp;refine hK.out _ _ q2 (fun hHeld=>?_);clear hK K;refine Al0 (rs:=[10]) (by kernel_rfl) (by simp) ?_
       refine AllReadyH.cons (o := { dst := some 67, op := Op.call { callee := Callee.builtin Builtin.append, args := #[Operand.tmp 64, Operand.tmp 66], argTypes := #[79, 79] }, type := 79, pos := "tree.go:70", after := #[{ on := 7, ground := Ground.data }, { on := 9, ground := Ground.data }], guard := none }) rfl (fun K hK => ?_) AllReadyH.nil
       refine step_append_lies _ rfl (.tmp 64) (.tmp 66) 79 rfl 0 5 i8 (.int .u8 0) 1 1 Tryz.underlying79 hi8 hz80 hz81 hz82 rfl (by decide) (.slice na nl ncap) nl (Ag (cs.getD n [])) rfl (hva.alloc _).drew ⟨w8.heap.size,0,none⟩ 1 1 [.int .u8 (bn:Nat)] rfl rfl (fun j u h=>An9 w8 _ _ j u h) (by intro u hu;simp at hu;subst hu;rfl) (by decide) (by unfold maxLen;omega) (by omega) (Alr _) _ rfl ?_;intro g9 cap9 w9 ho9 hg9 hgo9 hlt9;obtain⟨hts8,hno7,hbk8,hvae,hncs',hnbk,hnbn⟩:=H8.out;rw[←HNL.out]at hvae;have hk9:Aa (fun j=>(vals.getD n undef).ownBlock=some j) w8 w9:=((Aa.refl (fun j=>(vals.getD n undef).ownBlock=some j) w8).alloc _).drew.grown hg9 (fun k hk=> .inr (by rw[hvae];exact hk.symm▸rfl));have hmv9:Cc w8 (vals.getD n undef) (.slice (some ⟨g9,0,none⟩) (nl+1) cap9):=fun k hk=>by
        have e:g9=k:=Al1 hk;rcases hgo9 with c|c
        ·exact .inl (by rw[hvae,←e];exact c)
        ·right;have:(w8.alloc (.cells #[.int .u8 (bn:Nat)] 5)).drew.heap.size=w8.heap.size+1:=by simp
         omega
       have hbcl:Ag (cs.getD n [])++[.int .u8 (bn:Nat)]=Ag (cs.getD n []++[b]):=by rw[HBN.out];simp[Ag]
       have hll:(cs.getD n []++[b]).length=nl+1:=by rw[Alg,←HNL.out];rfl
       rw[hbcl]at ho9;have hT9:=hts8.app (l:=cs.getD n []++[b]) hn0 hncs hk9 (by rw[hll];exact ho9) hmv9;have hno9:=hno7.app (n:=n) (by rw[hts8.cols.len];exact hncs) (wr:=w8) (Alw hbk8) hmv9;have hbk9':w9.heap[hb]?=some (.cells (Ce nd).toArray 195 (0,0)):=hk9.row hbk8 (fun e=>hno7.1 n hb (by rw[hts8.cols.len];exact hncs) e rfl);have hbk9:(w9.setCell ⟨gc,n,none⟩ (.slice (some ⟨g9,0,none⟩) (nl+1) cap9)).heap[hb]?=some (.cells (Ce nd).toArray 195 (0,0)):=by
        rw[Ano _ _ _ _ hno7.2.2.1];exact hbk9'
       have hgb9:=hk9.row hts8.cols.blk (fun e=>hts8.cols.ne n gc hncs e rfl);have r0:w9.cell? ⟨w7.heap.size,2,none⟩=some (.int .i64 (n:Nat)):=(hk9.cell (p:=⟨w7.heap.size,2,none⟩) hnbl (fun e=>hnbn _ e rfl)).trans q0;have r1:w9.cell? ⟨gc,n,none⟩=some (.slice na nl ncap):=(hk9.cell (p:=⟨gc,n,none⟩) hgcw (fun e=>hts8.cols.ne n gc hncs e rfl)).trans q1;have r2:w9.frozen? ⟨gc,n,none⟩=false:=Alk _ _ n _ _ hgb9;have hgn:gc≠w7.heap.size:=by have h1:=hts8.gB;have h2:=hts8.kept.size;intro e;rw[←e]at hnbk;have:=hts8.cols.blk;rw[this]at hnbk;simp only[Option.some.injEq,Obj.cells.injEq]at hnbk;exact absurd hnbk.2.1 (by decide)
       have r3:(w9.setCell ⟨gc,n,none⟩ (.slice (some ⟨g9,0,none⟩) (nl+1) cap9)).cell? ⟨w7.heap.size,2,none⟩=some (.int .i64 (n:Nat)):=by
        rw[Anq _ _ _ _ (by intro e';simp only[Addr.mk.injEq]at e';exact hgn e'.1)];exact r0
       have H9:Aside _:=And.intro hT9 (And.intro hno9 hbk9);clear hts8 hno7 hbk8 hvae hnbk hnbn hk9 hmv9 hbcl hll ho9 hg9 hgo9 hT9 hno9 hbk9 hbk9' hgb9 hgn;simp only[Act.put,Ak8,Ak9,Ala];refine hK.out _ _ r0 (fun hHeld=>?_);clear hK K
       refine wpAnyH_take (i := 11) (oi := { dst := some 68, op := Op.indexAddr 229 (Operand.tmp 57) (Operand.tmp 59), type := 0, pos := "tree.go:70", after := #[{ on := 0, ground := Ground.data }, { on := 2, ground := Ground.data }, { on := 0, ground := Ground.phase }, { on := 1, ground := Ground.phase }, { on := 2, ground := Ground.phase }, { on := 3, ground := Ground.phase }, { on := 4, ground := Ground.phase }, { on := 5, ground := Ground.phase }, { on := 6, ground := Ground.phase }, { on := 7, ground := Ground.phase }, { on := 8, ground := Ground.phase }, { on := 9, ground := Ground.phase }, { on := 10, ground := Ground.phase }], guard := none }) (v := ?_) rfl (by kernel_rfl) (by kernel_rfl) (by kernel_rfl) (fun _ _ _ h => h) (Or.inl ⟨by kernel_rfl, ?_⟩) (by assumption) ?_
       rotate_left
       ·intro X hSw;try dsimp only at hSw
        go_simp
        with_reducible rfl
       simp only[Act.put,Ak8,Ak9,Ala];refine Al0 (rs:=[12]) (by kernel_rfl) (by simp) ?_
       refine AllReadyH.cons (o := { dst := none, op := Op.store 79 (Operand.tmp 68) (Operand.tmp 67), type := 0, pos := "tree.go:70", after := #[{ on := 11, ground := Ground.data }, { on := 10, ground := Ground.data }, { on := 10, ground := Ground.chain }, { on := 0, ground := Ground.phase }, { on := 1, ground := Ground.phase }, { on := 2, ground := Ground.phase }, { on := 3, ground := Ground.phase }, { on := 4, ground := Ground.phase }, { on := 5, ground := Ground.phase }, { on := 6, ground := Ground.phase }, { on := 7, ground := Ground.phase }, { on := 8, ground := Ground.phase }, { on := 9, ground := Ground.phase }, { on := 10, ground := Ground.phase }], guard := none }) rfl (fun K hK => ?_) AllReadyH.nil
       go_simp;refine hK.out _ _ r3 (fun hHeld=>?_);clear hK K;refine Anp (by kernel_rfl) ?_ _;clear r0 r1 r2 r3 q0 q1 q2 q3 hva hHeld;go_wp2;go_roundw
       case rel=>
        obtain⟨hT9,hno9,hbk9⟩:=H9.out;obtain⟨hco,_,_,_,hiv,hcl,_,_,hb',hpc,hsde⟩:=HP.out;refine⟨p+1,_,_,v7,by omega,by go_num,?_,hT9,hno9,hbk9,?_⟩
        ·rw[hb'];refine hco.node HH.out.2.1 (by have:=HN.out.1;omega) hpc hn0 ?_;rw[←hb',←HN.out.2.1,←hsde];exact HBR.out.symm.trans HNO.out.1
        ·rw[Hs _ _ _ _ (by have:=hT9.cols.len;rw[Amn,Amn]at this;omega),if_neg (by omega)];exact hiv
       case measure=>simp[intOf];omega
    ·obtain rfl:p=li:=by omega
     have hdec2:decide ((p:Int)<(p:Int))=false:=Ald (by omega);have H2:Aside (Ik (Hm.lnB L) (Bm L) nds col (i+1) 0 cs∧TSt W0 W2 gc b8 vals cs v8 (Hm.tb (Hm.lnB L) (Bm L) nds col (i+1) 0)):=by
      refine⟨?_,?_⟩
      ·refine Ik.next (i:=i) ?_ HH.out.2.1 HH.out.1.numk HH.out.2.2.2;rw[←hci,←hlie];exact hco
      ·rw[←Akl,←hci,←hlie];exact hts
     clear hco hts hno hbk hiv hnn hnd hci hlie hcl;go_wp2;go_roundw
     case rel=>exact⟨i+1,vals,cs,v8,by omega,by go_num,H2.out.1,H2.out.2⟩
     case measure=>simp[intOf];omega
  ·obtain rfl:i=N:=by omega
   have hdec:decide ((i:Int)<(i:Int))=false:=Ald (by omega);obtain⟨R,hR⟩: ∃R,R=(A0 (Hm.lnB L) (Bm L) nds col i).map (fun x=>decide (x=1)):=⟨_,rfl⟩;rw[Xv,←hR]at hts;have hRl:R.length≤2000000:=by
    rw[hR,Al6];have h1:=Mc (Hm.lnB L) (Bm L) nds col i;have h2:i*col.length≤255*6000:=Amk (by omega) hl;omega
   have HR:Aside (R=(A0 (Hm.lnB L) (Bm L) nds col i).map (fun x=>decide (x=1))∧(A0 (Hm.lnB L) (Bm L) nds col i).length=R.length):=⟨hR,by rw[hR,Al6]⟩;have htabr:=hts.kept.row H0.out.2.2.2.1 (fun e=>by have:=HB.out;rcases e with e|e<;>omega);have hresr:=hts.kept.row H0.out.2.2.1 (fun e=>by have:=HB.out;rcases e with e|e<;>omega);have hnodr:=hts.kept.owns H0.out.2.2.2.2 (fun j hj e=>by have e1:ng=j:=Al1 hj;have:=HB.out;rcases e with e|e<;>omega);have hkwr:Apd w wr:=H0.out.2.1.trans hts.kept (fun j h1 h2=>by have:=HB.out;rcases h2 with h2|h2<;>omega);have hbat:=hts.bat;have hpl:(⟨(Ah R).toArray⟩:ByteArray).size=(Ah R).length:=by show(Ah R).toArray.size=_;simp
   have hpl2:=A1 R;have hcnt:=fun W=>Jp Jx ⟨(Ah R).toArray⟩ R.length W (by rw[hpl,hpl2];omega);have hps:(⟨(Ah R).toArray⟩:ByteArray).size≤1000000:=by rw[hpl,hpl2];omega
   have hrow:=fun(X:World) (hX:Dq X 221 b8 v8 R)=>Xc 221 b8 v8 R X hX;obtain⟨s,hS⟩: ∃s,s=(⟨(Ah R).toArray⟩:ByteArray):=⟨_,rfl⟩;rw[←hS]at hcnt hrow hps;have hlen8:R.length≤8*s.size:=by rw[hS,hpl,hpl2];omega
   have HS:Aside (s=(⟨(Ah R).toArray⟩:ByteArray)):=hS;have HCN:Aside _:=hcnt;have HRW:Aside _:=hrow;have H3:Aside _:=And.intro hresr (And.intro hnodr (And.intro hkwr (And.intro hbat htabr)));have hbt:=fun g=>V9 s R.length g col.length (Bc L) (some ⟨ng,0,none⟩) i nc (A3 _ _ _ _);rw[←HT.out.1]at hbt;obtain⟨TA,hTA⟩: ∃TA:Nat→Array Value,∀g,TA g=(Ba s R.length g (Bc L) (.slice (some ⟨ng,0,none⟩) i nc) (List.replicate 256 0) col.length).toArray:=⟨_,fun _=>rfl⟩;have hbt2: ∀g,Tryz.prog.built 96 [(0,.agg #[.string s,.int .i64 (R.length:Nat),.slice (some ⟨g,0,none⟩) (s.size+1) (s.size+1)]),(1,.agg TT),(2,.slice (some ⟨ng,0,none⟩) i nc),(4,.int .i64 (col.length:Nat))]=some (TA g):=fun g=>by rw[hTA];exact hbt g
   have HTA:Aside _:=hTA;have HBT:Aside _:=hbt2;clear hbt hbt2 hTA;have hbsz:w2.heap.size<wr.heap.size:=Alw htabr;have hngz:ng<wr.heap.size:=(hnodr.lt ng rfl).2;have hrsz:w.heap.size+1<wr.heap.size:=Alw hresr;clear hR hpl hpl2 hcnt hrow hS hresr hnodr hkwr hbat hts hco H0;go_wp2_with fail
   go_cut[15]from 16 (fun v15 wz=> ∃tb g:Nat,v15= .pointer (some ⟨tb,0,none⟩)∧Aside (A4 wz tb s R.length g (Bc L) (.slice (some ⟨ng,0,none⟩) i nc) nds (List.replicate 256 0) col.length∧Apd w wz∧wz.heap[w.heap.size+1]?=some (.cells Tryz.zeroCells96 96 (0,0))∧w.heap.size+1<tb))
   case first=>
    refine Ank (S:=fun X=>X.heap[w2.heap.size]?=some (.cells TT 92 (0,0))) (by kernel_rfl) ?_ (fun hHeld=>?_)
    ·exact htabr
    refine wpAnyH_take (i := 2) (oi := { dst := some 73, op := Op.load 92 (Operand.tmp 5), type := 92, pos := "tree.go:74", after := #[], guard := none }) (v := .agg TT) rfl (by kernel_rfl) (by kernel_rfl) (by kernel_rfl) (fun _ _ _ h => h) (Or.inl ⟨by kernel_rfl, fun X hX => Ev X 92 (.tmp 5) rfl w2.heap.size rfl 92 TT (0, 0) _ hX Tryz.underlying92 rfl (by rw [HT.out.2.1]; exact Nz)⟩) (by assumption) ?_
    simp only[Act.put,Ak8,Ak9,Ala]
    refine wpAnyH_take (i := 3) (oi := { dst := some 74, op := Op.move (Operand.tmp 6), type := 93, pos := "tree.go:74", after := #[], guard := none }) (v := ?_) rfl (by kernel_rfl) (by kernel_rfl) (by kernel_rfl) (fun _ _ _ h => h) (Or.inl ⟨by kernel_rfl, ?_⟩) (by assumption) ?_
    rotate_left
    ·intro X hSw;try dsimp only at hSw
     go_simp
     with_reducible rfl
    simp only[Act.put,Ak8,Ak9,Ala]
    refine wpAnyH_take (i := 4) (oi := { dst := some 75, op := Op.move (Operand.tmp 0), type := 79, pos := "tree.go:74", after := #[], guard := none }) (v := ?_) rfl (by kernel_rfl) (by kernel_rfl) (by kernel_rfl) (fun _ _ _ h => h) (Or.inl ⟨by kernel_rfl, ?_⟩) (by assumption) ?_
    rotate_left
    ·intro X hSw;try dsimp only at hSw
     go_simp
     with_reducible rfl
    simp only[Act.put,Ak8,Ak9,Ala]
    refine wpAnyH_take (i := 5) (oi := { dst := some 76, op := Op.call { callee := Callee.builtin Builtin.len, args := #[Operand.tmp 75], argTypes := #[79] }, type := 3, pos := "tree.go:74", after := #[{ on := 4, ground := Ground.data }], guard := none }) (v := ?_) rfl (by kernel_rfl) (by kernel_rfl) (by kernel_rfl) (fun _ _ _ h => h) (Or.inl ⟨by kernel_rfl, ?_⟩) (by assumption) ?_
    rotate_left
    ·intro X hSw;try dsimp only at hSw
     go_simp
     with_reducible rfl
    simp only[Act.put,Ak8,Ak9,Ala];refine Al0 (rs:=[0,7]) (by kernel_rfl) (by simp) ?_
    refine AllReadyH.cons (o := { dst := some 71, op := Op.call { callee := Callee.value (Operand.func 148), args := #[Operand.tmp 8], argTypes := #[221] }, type := 83, pos := "tree.go:74", after := #[], guard := none }) rfl (fun K hK => ?_) (AllReadyH.cons (o := { dst := some 15, op := Op.alloc 96, type := 0, pos := "tree.go:74", after := #[], guard := none }) rfl (fun K hK => ?_) AllReadyH.nil)
    ·go_simp;refine(HRW.out _ (H3.out.2.2.2.1.kept (Aa.refl (fun _=>False) wr).drew id (fun _ _=>id))).mono ?_;rintro e wa ⟨rfl,hka⟩;have hkA:Apd wr wa:=(Aa.refl (fun _=>False) wr).drew.trans hka (fun _ _ h=>h);refine hK.out _ _ (hkA.row H3.out.2.2.2.2 id) (fun hHeld=>?_);clear hK K hka;refine Al0 (rs:=[1,7]) (by kernel_rfl) (by simp) ?_
     refine AllReadyH.cons (o := { dst := some 72, op := Op.call { callee := Callee.value (Operand.func 147), args := #[Operand.tmp 71], argTypes := #[83] }, type := 85, pos := "tree.go:74", after := #[{ on := 0, ground := Ground.data }, { on := 0, ground := Ground.chain }], guard := none }) rfl (fun K hK => ?_) (AllReadyH.cons (o := { dst := some 15, op := Op.alloc 96, type := 0, pos := "tree.go:74", after := #[], guard := none }) rfl (fun K hK => ?_) AllReadyH.nil)
     ·go_simp;refine(HCN.out wa).mono ?_;rintro e wb ⟨g,hg,rfl,hir,hkb⟩;have hkB:Apd wr wb:=hkA.trans hkb (fun _ _ h=>h);refine hK.out _ _ (hkB.row H3.out.2.2.2.2 id) (fun hHeld=>?_);clear hK K hkb
      refine wpAnyH_take (i := 6) (oi := { dst := some 77, op := Op.build 96 #[(0, Operand.tmp 72), (1, Operand.tmp 73), (2, Operand.tmp 74), (4, Operand.tmp 76)], type := 96, pos := "tree.go:74", after := #[{ on := 1, ground := Ground.data }, { on := 2, ground := Ground.data }, { on := 3, ground := Ground.data }, { on := 5, ground := Ground.data }], guard := none }) (v := .agg (TA g)) rfl (by kernel_rfl) (by kernel_rfl) (by kernel_rfl) (fun _ _ _ h => h) (Or.inl ⟨by kernel_rfl, fun X _ => Hr X 96 0 1 2 4 (.tmp 72) (.tmp 73) (.tmp 74) (.tmp 76) rfl _ _ _ _ rfl rfl rfl rfl _ (HBT.out g)⟩) (by assumption) ?_
      simp only[Act.put,Ak8,Ak9,Ala];refine Al0 (rs:=[7]) (by kernel_rfl) (by simp) ?_
      refine AllReadyH.cons (o := { dst := some 15, op := Op.alloc 96, type := 0, pos := "tree.go:74", after := #[], guard := none }) rfl (fun K hK => ?_) AllReadyH.nil
      go_simp;have hkX:Apd wr (wb.alloc (.cells Tryz.zeroCells96 96)):=hkB.alloc _;have htb:=All wb (.cells Tryz.zeroCells96 96);have hirX:IntRow (wb.alloc (.cells Tryz.zeroCells96 96)) g (Bt s.data.toList):=hir.kept ((Aa.refl (fun _=>False) wb).alloc _) id;have hgt:g≠wb.heap.size:=Nat.ne_of_lt hir.lt;have hgw:wr.heap.size≤g:=Al2 hkA.size hg;have htw:wr.heap.size≤wb.heap.size:=hkB.size;refine hK.out _ _ (hkX.row H3.out.2.2.2.2 id) (fun hHeld=>?_);clear hK K hir hkB hkA hg;generalize wb.alloc (.cells Tryz.zeroCells96 96)=X at*;generalize wb.heap.size=tb at*;refine Al0 (rs:=[8]) (by kernel_rfl) (by simp) ?_
      refine AllReadyH.cons (o := { dst := none, op := Op.store 96 (Operand.tmp 15) (Operand.tmp 77), type := 0, pos := "tree.go:74", after := #[{ on := 7, ground := Ground.data }, { on := 6, ground := Ground.data }, { on := 1, ground := Ground.chain }, { on := 0, ground := Ground.phase }, { on := 1, ground := Ground.phase }, { on := 2, ground := Ground.phase }, { on := 3, ground := Ground.phase }, { on := 4, ground := Ground.phase }, { on := 5, ground := Ground.phase }, { on := 6, ground := Ground.phase }, { on := 7, ground := Ground.phase }], guard := none }) rfl (fun K hK => ?_) AllReadyH.nil
      have hTAs:(TA g).size=773:=by rw[HTA.out,Alq,Cz s R.length g (Bc L) (.slice (some ⟨ng,0,none⟩) i nc) (List.replicate 256 0) col.length (A3 _ _ _ _) Alj]
      have hTA1:(TA g).all (·.oneCell')=true:=by rw[HTA.out];exact D9 _ _ _ _ _ _ _ rfl
      refine B5 X (op := { dst := none, op := Op.store 96 (Operand.tmp 15) (Operand.tmp 77), type := 0, pos := "tree.go:74", after := #[{ on := 7, ground := Ground.data }, { on := 6, ground := Ground.data }, { on := 1, ground := Ground.chain }, { on := 0, ground := Ground.phase }, { on := 1, ground := Ground.phase }, { on := 2, ground := Ground.phase }, { on := 3, ground := Ground.phase }, { on := 4, ground := Ground.phase }, { on := 5, ground := Ground.phase }, { on := 6, ground := Ground.phase }, { on := 7, ground := Ground.phase }], guard := none }) rfl 96 (.tmp 15) (.tmp 77) rfl tb 96 Tryz.zeroCells96 (TA g) rfl rfl htb (by rw [hTAs]; exact B6) (by rw [hTAs]; exact F0) hTA1 ?_
      intro wz hwz hkz;have hnt:w2.heap.size≠tb:=by omega
      refine hK.out _ _ (hkz.row (hkX.row H3.out.2.2.2.2 id) hnt) (fun hHeld=>?_);clear hK K;refine Anp (by kernel_rfl) ?_ _;have hnn:i=nds.length:=HH.out.2.2.1.symm;have hTr:A4 wz tb s R.length g (Bc L) (.slice (some ⟨ng,0,none⟩) i nc) nds (List.replicate 256 0) col.length:=by
       refine⟨by rw[←HTA.out g];exact hwz,hirX.kept hkz hgt,?_,A3 _ _ _ _,Alj,?_,hgt,?_⟩
       ·rw[←hnn];exact Gq (hkz.owns (hkX.owns H3.out.2.1 (fun _ _=>id)) (fun j hj e=>by have e1:ng=j:=Al1 hj;omega))
       ·intro e;have e1:ng=tb:=Al1 e;omega
       ·intro e;have e1:ng=g:=Al1 e;omega
      have hkwz:Apd w wz:=(H3.out.2.2.1.trans hkX (fun _ _ h=>h)).trans hkz (fun j h1 h2=>by omega);have hresz:=hkz.row (hkX.row H3.out.1 id) (by omega:w.heap.size+1≠tb);have H4:Aside (A4 wz tb s R.length g (Bc L) (.slice (some ⟨ng,0,none⟩) i nc) nds (List.replicate 256 0) col.length∧Apd w wz∧wz.heap[w.heap.size+1]?=some (.cells Tryz.zeroCells96 96 (0,0))∧w.heap.size+1<tb):=⟨hTr,hkwz,hresz,by omega⟩;clear hTr hkwz hresz hwz hkz hirX hkX htb hTAs hTA1 hHeld hnn;go_wp2_with fail;go_meet
      case rel=>exact⟨tb,g,rfl,H4⟩
     ·go_simp;have hkY:Apd wr (wa.alloc (.cells Tryz.zeroCells96 96)):=hkA.alloc _;have htbY:=All wa (.cells Tryz.zeroCells96 96);refine hK.out _ _ (hkY.row H3.out.2.2.2.2 id) (fun hHeld=>?_);clear hK K;refine Al0 (rs:=[1]) (by kernel_rfl) (by simp) ?_
      refine AllReadyH.cons (o := { dst := some 72, op := Op.call { callee := Callee.value (Operand.func 147), args := #[Operand.tmp 71], argTypes := #[83] }, type := 85, pos := "tree.go:74", after := #[{ on := 0, ground := Ground.data }, { on := 0, ground := Ground.chain }], guard := none }) rfl (fun K hK => ?_) AllReadyH.nil
      go_simp;refine(HCN.out _).mono ?_;rintro e X ⟨g,hg,rfl,hirX,hkb⟩;have hkX:Apd wr X:=hkY.trans hkb (fun _ _ h=>h);have htb:=hkb.row htbY id;have hlY:=Alw htbY;have hgt:g≠wa.heap.size:=by omega
      have hgw:wr.heap.size≤g:=Al2 hkY.size hg;have htw:wr.heap.size≤wa.heap.size:=hkA.size;refine hK.out _ _ (hkX.row H3.out.2.2.2.2 id) (fun hHeld=>?_);clear hK K hkY htbY hkb hkA hg hlY
      refine wpAnyH_take (i := 6) (oi := { dst := some 77, op := Op.build 96 #[(0, Operand.tmp 72), (1, Operand.tmp 73), (2, Operand.tmp 74), (4, Operand.tmp 76)], type := 96, pos := "tree.go:74", after := #[{ on := 1, ground := Ground.data }, { on := 2, ground := Ground.data }, { on := 3, ground := Ground.data }, { on := 5, ground := Ground.data }], guard := none }) (v := .agg (TA g)) rfl (by kernel_rfl) (by kernel_rfl) (by kernel_rfl) (fun _ _ _ h => h) (Or.inl ⟨by kernel_rfl, fun X _ => Hr X 96 0 1 2 4 (.tmp 72) (.tmp 73) (.tmp 74) (.tmp 76) rfl _ _ _ _ rfl rfl rfl rfl _ (HBT.out g)⟩) (by assumption) ?_
      simp only[Act.put,Ak8,Ak9,Ala];generalize wa.heap.size=tb at*;refine Al0 (rs:=[8]) (by kernel_rfl) (by simp) ?_
      refine AllReadyH.cons (o := { dst := none, op := Op.store 96 (Operand.tmp 15) (Operand.tmp 77), type := 0, pos := "tree.go:74", after := #[{ on := 7, ground := Ground.data }, { on := 6, ground := Ground.data }, { on := 1, ground := Ground.chain }, { on := 0, ground := Ground.phase }, { on := 1, ground := Ground.phase }, { on := 2, ground := Ground.phase }, { on := 3, ground := Ground.phase }, { on := 4, ground := Ground.phase }, { on := 5, ground := Ground.phase }, { on := 6, ground := Ground.phase }, { on := 7, ground := Ground.phase }], guard := none }) rfl (fun K hK => ?_) AllReadyH.nil
      have hTAs:(TA g).size=773:=by rw[HTA.out,Alq,Cz s R.length g (Bc L) (.slice (some ⟨ng,0,none⟩) i nc) (List.replicate 256 0) col.length (A3 _ _ _ _) Alj]
      have hTA1:(TA g).all (·.oneCell')=true:=by rw[HTA.out];exact D9 _ _ _ _ _ _ _ rfl
      refine B5 X (op := { dst := none, op := Op.store 96 (Operand.tmp 15) (Operand.tmp 77), type := 0, pos := "tree.go:74", after := #[{ on := 7, ground := Ground.data }, { on := 6, ground := Ground.data }, { on := 1, ground := Ground.chain }, { on := 0, ground := Ground.phase }, { on := 1, ground := Ground.phase }, { on := 2, ground := Ground.phase }, { on := 3, ground := Ground.phase }, { on := 4, ground := Ground.phase }, { on := 5, ground := Ground.phase }, { on := 6, ground := Ground.phase }, { on := 7, ground := Ground.phase }], guard := none }) rfl 96 (.tmp 15) (.tmp 77) rfl tb 96 Tryz.zeroCells96 (TA g) rfl rfl htb (by rw [hTAs]; exact B6) (by rw [hTAs]; exact F0) hTA1 ?_
      intro wz hwz hkz;have hnt:w2.heap.size≠tb:=by omega
      refine hK.out _ _ (hkz.row (hkX.row H3.out.2.2.2.2 id) hnt) (fun hHeld=>?_);clear hK K;refine Anp (by kernel_rfl) ?_ _;have hnn:i=nds.length:=HH.out.2.2.1.symm;have hTr:A4 wz tb s R.length g (Bc L) (.slice (some ⟨ng,0,none⟩) i nc) nds (List.replicate 256 0) col.length:=by
       refine⟨by rw[←HTA.out g];exact hwz,hirX.kept hkz hgt,?_,A3 _ _ _ _,Alj,?_,hgt,?_⟩
       ·rw[←hnn];exact Gq (hkz.owns (hkX.owns H3.out.2.1 (fun _ _=>id)) (fun j hj e=>by have e1:ng=j:=Al1 hj;omega))
       ·intro e;have e1:ng=tb:=Al1 e;omega
       ·intro e;have e1:ng=g:=Al1 e;omega
      have hkwz:Apd w wz:=(H3.out.2.2.1.trans hkX (fun _ _ h=>h)).trans hkz (fun j h1 h2=>by omega);have hresz:=hkz.row (hkX.row H3.out.1 id) (by omega:w.heap.size+1≠tb);have H4:Aside (A4 wz tb s R.length g (Bc L) (.slice (some ⟨ng,0,none⟩) i nc) nds (List.replicate 256 0) col.length∧Apd w wz∧wz.heap[w.heap.size+1]?=some (.cells Tryz.zeroCells96 96 (0,0))∧w.heap.size+1<tb):=⟨hTr,hkwz,hresz,by omega⟩;clear hTr hkwz hresz hwz hkz hirX hkX htb hTAs hTA1 hHeld hnn;go_wp2_with fail;go_meet
      case rel=>exact⟨tb,g,rfl,H4⟩
    ·go_simp;have hkY:Apd wr (wr.alloc (.cells Tryz.zeroCells96 96)).drew:=((Aa.refl (fun _=>False) wr).alloc _).drew;have htbY:(wr.alloc (.cells Tryz.zeroCells96 96)).drew.heap[wr.heap.size]?=some (.cells Tryz.zeroCells96 96 (0,0)):=All wr _;refine hK.out _ _ (hkY.row H3.out.2.2.2.2 id) (fun hHeld=>?_);clear hK K;refine Al0 (rs:=[0]) (by kernel_rfl) (by simp) ?_
     refine AllReadyH.cons (o := { dst := some 71, op := Op.call { callee := Callee.value (Operand.func 148), args := #[Operand.tmp 8], argTypes := #[221] }, type := 83, pos := "tree.go:74", after := #[], guard := none }) rfl (fun K hK => ?_) AllReadyH.nil
     go_simp;refine(HRW.out _ (H3.out.2.2.2.1.kept hkY id (fun _ _=>id))).mono ?_;rintro e wa ⟨rfl,hka⟩;have hkA:Apd wr wa:=hkY.trans hka (fun _ _ h=>h);have htbA:=hka.row htbY id;refine hK.out _ _ (hkA.row H3.out.2.2.2.2 id) (fun hHeld=>?_);clear hK K hka htbY hkY;refine Al0 (rs:=[1]) (by kernel_rfl) (by simp) ?_
     refine AllReadyH.cons (o := { dst := some 72, op := Op.call { callee := Callee.value (Operand.func 147), args := #[Operand.tmp 71], argTypes := #[83] }, type := 85, pos := "tree.go:74", after := #[{ on := 0, ground := Ground.data }, { on := 0, ground := Ground.chain }], guard := none }) rfl (fun K hK => ?_) AllReadyH.nil
     go_simp;refine(HCN.out _).mono ?_;rintro e X ⟨g,hg,rfl,hirX,hkb⟩;have hkX:Apd wr X:=hkA.trans hkb (fun _ _ h=>h);have htb:=hkb.row htbA id;have hlA:=Alw htbA;have hgt:g≠wr.heap.size:=by omega
     have hgw:wr.heap.size≤g:=Al2 hkA.size hg;have htw:wr.heap.size≤wr.heap.size:=Ale _;refine hK.out _ _ (hkX.row H3.out.2.2.2.2 id) (fun hHeld=>?_);clear hK K htbA hkb hkA hg hlA
     refine wpAnyH_take (i := 6) (oi := { dst := some 77, op := Op.build 96 #[(0, Operand.tmp 72), (1, Operand.tmp 73), (2, Operand.tmp 74), (4, Operand.tmp 76)], type := 96, pos := "tree.go:74", after := #[{ on := 1, ground := Ground.data }, { on := 2, ground := Ground.data }, { on := 3, ground := Ground.data }, { on := 5, ground := Ground.data }], guard := none }) (v := .agg (TA g)) rfl (by kernel_rfl) (by kernel_rfl) (by kernel_rfl) (fun _ _ _ h => h) (Or.inl ⟨by kernel_rfl, fun X _ => Hr X 96 0 1 2 4 (.tmp 72) (.tmp 73) (.tmp 74) (.tmp 76) rfl _ _ _ _ rfl rfl rfl rfl _ (HBT.out g)⟩) (by assumption) ?_
     simp only[Act.put,Ak8,Ak9,Ala];obtain⟨tb,htbe⟩: ∃tb,tb=wr.heap.size:=⟨_,rfl⟩;rw[←htbe]at hgt htb⊢;have htw:wr.heap.size≤tb:=by omega
     refine Al0 (rs:=[8]) (by kernel_rfl) (by simp) ?_
     refine AllReadyH.cons (o := { dst := none, op := Op.store 96 (Operand.tmp 15) (Operand.tmp 77), type := 0, pos := "tree.go:74", after := #[{ on := 7, ground := Ground.data }, { on := 6, ground := Ground.data }, { on := 1, ground := Ground.chain }, { on := 0, ground := Ground.phase }, { on := 1, ground := Ground.phase }, { on := 2, ground := Ground.phase }, { on := 3, ground := Ground.phase }, { on := 4, ground := Ground.phase }, { on := 5, ground := Ground.phase }, { on := 6, ground := Ground.phase }, { on := 7, ground := Ground.phase }], guard := none }) rfl (fun K hK => ?_) AllReadyH.nil
     have hTAs:(TA g).size=773:=by rw[HTA.out,Alq,Cz s R.length g (Bc L) (.slice (some ⟨ng,0,none⟩) i nc) (List.replicate 256 0) col.length (A3 _ _ _ _) Alj]
     have hTA1:(TA g).all (·.oneCell')=true:=by rw[HTA.out];exact D9 _ _ _ _ _ _ _ rfl
     refine B5 X (op := { dst := none, op := Op.store 96 (Operand.tmp 15) (Operand.tmp 77), type := 0, pos := "tree.go:74", after := #[{ on := 7, ground := Ground.data }, { on := 6, ground := Ground.data }, { on := 1, ground := Ground.chain }, { on := 0, ground := Ground.phase }, { on := 1, ground := Ground.phase }, { on := 2, ground := Ground.phase }, { on := 3, ground := Ground.phase }, { on := 4, ground := Ground.phase }, { on := 5, ground := Ground.phase }, { on := 6, ground := Ground.phase }, { on := 7, ground := Ground.phase }], guard := none }) rfl 96 (.tmp 15) (.tmp 77) rfl tb 96 Tryz.zeroCells96 (TA g) rfl rfl htb (by rw [hTAs]; exact B6) (by rw [hTAs]; exact F0) hTA1 ?_
     intro wz hwz hkz;have hnt:w2.heap.size≠tb:=by omega
     refine hK.out _ _ (hkz.row (hkX.row H3.out.2.2.2.2 id) hnt) (fun hHeld=>?_);clear hK K;refine Anp (by kernel_rfl) ?_ _;have hnn:i=nds.length:=HH.out.2.2.1.symm;have hTr:A4 wz tb s R.length g (Bc L) (.slice (some ⟨ng,0,none⟩) i nc) nds (List.replicate 256 0) col.length:=by
      refine⟨by rw[←HTA.out g];exact hwz,hirX.kept hkz hgt,?_,A3 _ _ _ _,Alj,?_,hgt,?_⟩
      ·rw[←hnn];exact Gq (hkz.owns (hkX.owns H3.out.2.1 (fun _ _=>id)) (fun j hj e=>by have e1:ng=j:=Al1 hj;omega))
      ·intro e;have e1:ng=tb:=Al1 e;omega
      ·intro e;have e1:ng=g:=Al1 e;omega
     have hkwz:Apd w wz:=(H3.out.2.2.1.trans hkX (fun _ _ h=>h)).trans hkz (fun j h1 h2=>by omega);have hresz:=hkz.row (hkX.row H3.out.1 id) (by omega:w.heap.size+1≠tb);have H4:Aside (A4 wz tb s R.length g (Bc L) (.slice (some ⟨ng,0,none⟩) i nc) nds (List.replicate 256 0) col.length∧Apd w wz∧wz.heap[w.heap.size+1]?=some (.cells Tryz.zeroCells96 96 (0,0))∧w.heap.size+1<tb):=⟨hTr,hkwz,hresz,by omega⟩;clear hTr hkwz hresz hwz hkz hirX hkX htb hTAs hTA1 hHeld hnn;go_wp2_with fail;go_meet
     case rel=>exact⟨tb,g,rfl,H4⟩
   case rest=>
    obtain⟨tb,g,rfl,H4⟩:=hcut;have htbw:=H4.out.2.2.2;clear H3 HCN HRW HTA HBT;have hlay:=Aev Jx tb g R.length col.length i nc ng s (Bc L) nds (List.replicate 256 0) wc H4.out.1 HH.out.2.2.1.symm h0 hN HH.out.2.1.inside HSZ.out (by omega) hlen8 (by omega);have hng2:ng≠w.heap.size+1:=by have:=HB.out;omega
    have hng3:w.heap.size≤ng:=by have:=HB.out;omega
    go_wp2_with fail;refine hlay.mono ?_;rintro e w9 ⟨nds',ws',hsay,hnl',hwl',hT9,hk9⟩;obtain⟨r1,r2,he⟩: ∃(a:Int) (b:Bool),e= .returned (.tuple #[.int .i64 a,.bool b]):=by
     unfold Nj at hsay;cases hly:Nn (Ak s.data.toList) R.length nds col.length (List.replicate 256 0)with
     |none=>rw[hly]at hsay;exact⟨_,_,hsay⟩
     |some st=>rw[hly]at hsay;exact⟨_,_,hsay.1⟩
    subst he;have hblk9:=hT9.blk;have htl9:(Ba s R.length g (Bc L) (.slice (some ⟨ng,0,none⟩) i nc) ws' col.length).toArray.size=773:=by rw[Alq,Cz s R.length g (Bc L) (.slice (some ⟨ng,0,none⟩) i nc) ws' col.length (A3 _ _ _ _) hwl']
    have hone9:=D9 s R.length g col.length (Bc L) (.slice (some ⟨ng,0,none⟩) i nc) ws' rfl;have hres9:=hk9.row H4.out.2.2.1 (fun e=>by rcases e with e|e;omega;exact hng2 (Al1 e));have hkw9:Apd w w9:=H4.out.2.1.trans hk9 (fun j h1 h2=>by rcases h2 with h2|h2;omega;have e1:ng=j:=Al1 h2;omega);obtain⟨TB,hTB⟩: ∃TB,TB=(Ba s R.length g (Bc L) (.slice (some ⟨ng,0,none⟩) i nc) ws' col.length).toArray:=⟨_,rfl⟩;rw[←hTB]at hblk9 htl9 hone9;have HTB:Aside _:=hTB;clear hsay hT9 hk9 hlay hTB hnl'
    go_wp2_with(first
     |(refine Amd rfl 96 _ rfl tb rfl 96 TB (0,0) _ hblk9 Tryz.underlying96 rfl (by rw[htl9];exact B6) ?_)
     |(refine wpList_store_row _ rfl 96 _ _ rfl (w.heap.size+1) 96 Tryz.zeroCells96 TB rfl rfl hres9 (by rw[htl9];exact B6) (by rw[htl9];exact F0) hone9 ?_;intro wf hwf hkf))
    refine Amo (v:= .agg TB) (Am3 Tryz.results98 _ wf (w.heap.size+1) 96 _ (0,0) _ rfl hwf Tryz.underlying96 rfl (by rw[htl9];exact B6)) rfl ⟨g,.slice (some ⟨ng,0,none⟩) i nc,ws',?_,hwl',rfl,hkw9.trans hkf (fun j h1 h2=>by omega)⟩;rw[HTB.out,HS.out,HR.out.2,HR.out.1]
end Go.Proofs.YtegnkfdbmmndaaaGreat
