import Derived.Test.YtegnkfdbmmndaaaGreatJ16

set_option maxHeartbeats 8000000
namespace Go.Proofs.YtegnkfdbmmndaaaGreat
open Hm Go.Proofs.Tryz Go.RowKit
namespace Hm
theorem Zu(nds:List Nd)(i s:Nat)(b:Br)(j:Nat):(Ab (B7 nds i s b) j).siz=(Ab nds j).siz:=by
 unfold B7
 by_cases hi:i<nds.length
 ·by_cases e:i=j
  ·subst e;rw[Gt _ _ _ hi];unfold Nd.put;split<;>rfl
  ·rw[Ig _ _ _ _ e]
 ·rw[Aqj (by omega)]
theorem Pz(ln:UInt8→Nat)(o:Arc): ∀t j,(Ab (Ao ln o t).1 j).siz=0
 |0,j=>by
  show(Ab [{}] j).siz=0;cases j<;>rfl
 |t+1,j=>by
  have ih:=Pz ln o t;show(Ab (Fs ln (t/2) (t%2) (Ao ln o t).1 (Ao ln o t).2).1 j).siz=0;generalize(Ao ln o t).1=nds at*;generalize(Ao ln o t).2=l at*;cases l with
  |nil=>exact ih j
  |cons b r=>
   rw[Jn];split
   ·exact(Zu _ _ _ _ j).trans (ih j)
   ·show(Ab (B7 nds (t/2) (t%2) _++[_]) j).siz=0;rcases Aop j (B7 nds (t/2) (t%2) {node:=nds.length}).length with c|c|c
    ·rw[Ko _ _ _ c];exact(Zu _ _ _ _ j).trans (ih j)
    ·rw[c,Lx]
    ·unfold Ab;rw[Am4,Anx (by rw[Anf];exact c)];rfl
def tb(ln num:UInt8→Nat)(nds:List Nd)(col:Arc)(i p:Nat):List Bool:=(Az ln num nds col i++((Ap ln num nds col i).take p).map (At ln num (Ab nds i).depth)).map fun x=>decide (x=1)
theorem Ys(ln num:UInt8→Nat)(nds:List Nd)(col:Arc)(i:Nat):tb ln num nds col i 0=(Az ln num nds col i).map fun x=>decide (x=1):=by simp[tb]
theorem Ami(ln num:UInt8→Nat)(nds:List Nd)(col:Arc)(i:Nat):tb ln num nds col i (Ap ln num nds col i).length=tb ln num nds col (i+1) 0:=by
 rw[Ys,Fc,tb,Aof];rfl
theorem Amj(ln num:UInt8→Nat)(nds:List Nd)(col:Arc)(i p:Nat)(h:p<(Ap ln num nds col i).length):tb ln num nds col i (p+1)=tb ln num nds col i p++[decide (At ln num (Ab nds i).depth ((Ap ln num nds col i).getD p 0)=1)]:=by
 unfold tb;rw[Anh h,Am4,Am5 h];simp only[Apk,An4];rfl
theorem Ajj(ln num:UInt8→Nat)(nds:List Nd)(col:Arc)(i p:Nat):(tb ln num nds col i p).length≤(i+1)*col.length:=by
 unfold tb;have h1:=K3 ln num nds col i;have h2:=Mh ln num nds col i;rw[Anz,Anf,Anz,Ape,Nat.one_mul];have:((Ap ln num nds col i).take p).length≤(Ap ln num nds col i).length:=by rw[Anp];omega
 omega
end Hm
theorem Ge:Tryz.zeroCells96.size=773:=by kernel_rfl
theorem Ak4:(prog.info? 79).map (fun i=>(i.zero,i.size,i.bytes))=some (some (.slice none 0 0),1,24):=by kernel_rfl
set_option maxRecDepth 100000 in
theorem Ac2(L:Ard)(N:Nat)(col:Arc)(ca:Arf)(cc:Nat)(w:World)(hC:Bu L)(hE:Hm.Ends 32 (Hm.lnB L) (Ae L) N)(h0:0<N)(az:w.ownsRow 0 5 1 (.slice ca col.length cc) col.length (Ah col))(hl:col.length≤6000)(hm: ∀b∈col,b∈Ae L):
  Calls prog 98 #[.slice ca col.length cc,.agg (Ad L).toArray] w fun e w'=> ∃g v ws,e= .returned (.agg (Ay ⟨(Ag ((Az (Hm.lnB L) (Bh L) (Ao (Hm.lnB L) (Ae L) (2*N)).1 col N).map fun x=>decide (x=1))).toArray⟩ (Az (Hm.lnB L) (Bh L) (Ao (Hm.lnB L) (Ae L) (2*N)).1 col N).length g (A6 L) v ws col.length).toArray)∧ws.length=256∧v.oneCell'=true∧Ara w w':=by
 obtain⟨i0,hi,dL,dM,dN⟩:=Aoo Ak4;obtain⟨i8,dc,cj,ck,cl⟩:=Aoo Fh;have hL:=hC.len;have hx: ∀x∈L,x≤255:=fun x hx=>by
  obtain⟨k,hk,e⟩:=Aog hx;have:=hC.short (UInt8.ofNat k);have e1:(UInt8.ofNat k).toNat=k:=by rw[Aoa,Ao7 (by omega)]
  rw[Hm.lnB,e1,Am4,Am5 hk]at this;have e2:L[k]≤32:=this;omega
 have bc:(Ad L).toArray.size=256:=by rw[Bm,hL]
 have bF:=fun W=>Xa L W hL hx hC.fits;have c7:=fun W=>Zt 32 L N W hL hx hE (fun W=>Th L W hL hx);have hN:N≤255:=by have h1:=hE.len;have h2:=hE.few (2*N) (Ane _);omega
 have aZ:=hE.len;have cd:=hE.nodes;have cg: ∀j,(Ab (Ao (Hm.lnB L) (Ae L) (2*N)).1 j).siz≤col.length:=fun j=>by rw[Pz];exact Ann _
 generalize(Ao (Hm.lnB L) (Ae L) (2*N)).1=nds at*;have d1:Aside _:=cg;clear cg;have HH:Aside (Bu L∧Bo 32 (Hm.lnB L) (Ae L) nds∧nds.length=N∧ ∀b∈col,b∈Ae L):=⟨hC,cd,aZ,hm⟩;have f:(Cu (A6 L)).toArray.size=512:=by rw[Anq,C7,A6,A4]
 have c8:=Q6 (A6 L);obtain⟨TT,cr⟩: ∃TT,TT=(Cu (A6 L)).toArray:=⟨_,rfl⟩;rw[←cr]at bF f c8;have HT:Aside (TT=(Cu (A6 L)).toArray∧TT.size=512∧TT.all (·.oneCell')=true):=⟨cr,f,c8⟩;obtain⟨arr,bO⟩: ∃arr,arr=(Ad L).toArray:=⟨_,rfl⟩;rw[←bO]at bc bF c7⊢;have aG:((w.alloc (.cells arr 139)).alloc (.cells Tryz.zeroCells96 96)).heap[w.heap.size]?=some (.cells arr 139 (0,0)):=Apb w _ _;have b4:((w.alloc (.cells arr 139)).alloc (.cells Tryz.zeroCells96 96)).heap[w.heap.size+1]?=some (.cells Tryz.zeroCells96 96 (0,0)):=Apc w _ _;have de:Ara w ((w.alloc (.cells arr 139)).alloc (.cells Tryz.zeroCells96 96)):=((Aa.refl _ _).alloc _).alloc _;clear cr f c8 bO cd hE hm aZ hx hC hL
 go_enter func98,ntmps98
 go_upto_region 1 with fail
 generalize(w.alloc (.cells arr 139)).alloc (.cells Tryz.zeroCells96 96)=W at*;have bP:=bF W
 go_wp2_with(first
  |(refine Aoh rfl 139 _ rfl w.heap.size rfl 139 arr (0,0) _ aG underlying139 rfl (by rw[bc];exact Cf) ?_))
 refine bP.mono ?_;rintro e w2 ⟨rfl,bG⟩;clear bF bP;have aH:=bG.row aG id;have aL:=bG.row b4 id;have bW:=de.trans bG (fun _ _ h=>h);clear aG b4 de bG
 go_wp2_with(first
  |(refine wpList_store_row _ rfl 92 _ _ rfl w2.heap.size 92 Tryz.zeroCells92 TT rfl rfl (Anj w2 _) (by rw[HT.o.2.1];exact O4) (by rw[HT.o.2.1];exact R4) HT.o.2.2 ?_;intro w3 cB cz)
  |(refine Aoh rfl 139 _ rfl w.heap.size rfl 139 arr (0,0) _ (cz.row (((Aa.refl (fun _=>False) w2).alloc _).row aH id) (by have:=Anu aH;omega)) underlying139 rfl (by rw[bc];exact Cf) ?_))
 refine(c7 w3).mono ?_;rintro e w4 ⟨nv,rfl,hno,c0⟩;clear c7;have bV:Ara w2 w3:=((Aa.refl (fun _=>False) w2).alloc _).trans cz (fun j h1 h2=>by omega);have bp:=bV.trans c0 (fun _ _ h=>h);have ad:=bp.row aL id;have ae:=c0.row cB id;have Z:=bW.trans bp (fun _ _ h=>h);have cf:w2.heap.size<w3.heap.size:=Anu cB;have cS:w.heap.size+1<w2.heap.size:=Anu aL;obtain⟨ng,nc,dG,el,bZ⟩:=Ck hno h0;subst dG;have bx:w3.heap.size≤ng:=(hno.lt ng rfl).1;clear cz c0 bV bp aL aH cB bW;go_upto_region 4 with(at_make;refine Apr _ rfl (.tmp 21) (.tmp 21) 229 rfl w4.heap.size 79 i0 (.slice none 0 0) 1 underlying229 hi dL dM .i64 .i64 _ _ N rfl rfl (by omega) (by omega) (by rw[dN];omega) (by unfold maxLen;omega) (Ane _) ?_;intro w5 dq cY)
 have E:w5.heap[w4.heap.size]?=some (.cells (List.replicate N (Value.slice none 0 0)).toArray 79 (0,0)):=by
  have:=Aji dq;rwa[Aqk,show(Value.slice none 0 0).cells= #[Value.slice none 0 0]from rfl,toList_madeCells_one]at this
 have a0:Ara w4 w5:=(Aa.refl _ _).grown cY (fun k hk=>by cases hk);obtain⟨gc,bl⟩: ∃gc,gc=w4.heap.size:=⟨_,rfl⟩;rw[←bl]at E⊢;have dI:gc<w5.heap.size:=Anu E;have d7:w5.cell? ⟨gc,0,none⟩=some (.slice none 0 0):=by
  rw[Am7 _ _ 0 _ _ _ E];simp[h0]
 have d8:w5.frozen? ⟨gc,0,none⟩=false:=Ang _ _ 0 _ _ E;have ed:(0:Int)<(N:Int):=by omega
 have H5:Aside _:=And.intro E (And.intro a0 bl);have H4:Aside _:=And.intro ad (And.intro ae (And.intro Z (And.intro hno az)));clear E a0 dq cY bl ad ae Z hno az;go_wp2_with fail;have bE:TSt ((w5.setCell ⟨gc,0,none⟩ (.slice ca col.length cc)).alloc (.cells #[.slice none 0 0,.int .i64 0] 221)) ((w5.setCell ⟨gc,0,none⟩ (.slice ca col.length cc)).alloc (.cells #[.slice none 0 0,.int .i64 0] 221)) gc w5.heap.size (.slice ca col.length cc::List.replicate (N-1) (.slice none 0 0)) (col::List.replicate (N-1) []) (.slice none 0 0) []:=by
  obtain⟨ad,ae,Z,hno,az⟩:=H4.o;obtain⟨E,a0,bl⟩:=H5.o;have dC:Ara w ((w5.setCell ⟨gc,0,none⟩ (.slice ca col.length cc)).alloc (.cells #[.slice none 0 0,.int .i64 0] 221)):=
   ((Z.trans a0 (fun _ _ h=>h)).setCell (p:=⟨gc,0,none⟩) (.inl (by have:=Z.size;show _≤gc;omega)) _).alloc _
  have cx:w.heap.size≤gc:=by have:=Z.size;omega
  have aS: ∀n,0<n→n<N→(Value.slice ca col.length cc::List.replicate (N-1) (.slice none 0 0)).getD n undef= .slice none 0 0:=fun n h1 h2=>by
   obtain⟨m,rfl⟩: ∃m,n=m+1:=⟨n-1,by omega⟩;rw[Aq8,Am4,Ao1 (by omega)];rfl
  have cV: ∀n,0<n→(col::List.replicate (N-1) []).getD n []=([]:Arc):=fun n h1=>by
   obtain⟨m,rfl⟩: ∃m,n=m+1:=⟨n-1,by omega⟩;rw[Aq8,Am4]
   by_cases h:m<N-1
   ·rw[Ao1 h];rfl
   ·rw[Anx (by simp;omega)];rfl
  have aR:(col::List.replicate (N-1) ([]:Arc)).length=N:=by simp;omega
  have ds:((w5.setCell ⟨gc,0,none⟩ (.slice ca col.length cc)).alloc (.cells #[.slice none 0 0,.int .i64 0] 221)).heap.size=w5.heap.size+1:=by simp
  have cM: ∀k,(Value.slice ca col.length cc).ownBlock=some k→k<w.heap.size:=fun k e=>(az.lt k e).2;refine⟨⟨?_,by simp,fun n hn=>?_,fun n m k h1 h2 h3 e1 e2=>?_,fun n k h1 e=>?_⟩,⟨?_,?_,fun e=>(by cases e)⟩,Aa.refl _ _,fun n k h1 h2 e=>?_,fun n k h1 e e2=>(by cases e2),fun k e=>(by cases e),fun k e=>?_,by omega,by omega,by omega⟩
  ·rw[Below.heap_alloc _ _ _ (by simp;omega)];have:=Anb w5 gc 0 _ _ (.slice ca col.length cc) E;rw[this];congr 2;obtain⟨m,rfl⟩: ∃m,N=m+1:=⟨N-1,by omega⟩;simp[List.replicate_succ]
  ·rw[aR]at hn
   by_cases c:n=0
   ·subst c;exact dC.owns az (fun _ _=>id)
   ·rw[aS n (by omega) hn,cV n (by omega)];exact World.ownsRow_nil _ _ _ _
  ·rw[aR]at h2;rw[aS n h1 h2]at e1;cases e1
  ·rw[aR]at h1
   by_cases c:n=0
   ·subst c;have:=cM k e;omega
   ·rw[aS n (by omega) h1]at e;cases e
  ·have:=Anj (w5.setCell ⟨gc,0,none⟩ (.slice ca col.length cc)) (.cells #[.slice none 0 0,.int .i64 0] 221);simpa using this
  ·exact World.ownsRow_nil _ _ _ _
  ·rw[aR]at h2;rw[aS n h1 h2]at e;cases e
  ·have:=cM k e;rw[ds];omega
 have bs:Ara w ((w5.setCell ⟨gc,0,none⟩ (.slice ca col.length cc)).alloc (.cells #[.slice none 0 0,.int .i64 0] 221))∧((w5.setCell ⟨gc,0,none⟩ (.slice ca col.length cc)).alloc (.cells #[.slice none 0 0,.int .i64 0] 221)).heap[w.heap.size+1]?=some (.cells Tryz.zeroCells96 96 (0,0))∧((w5.setCell ⟨gc,0,none⟩ (.slice ca col.length cc)).alloc (.cells #[.slice none 0 0,.int .i64 0] 221)).heap[w2.heap.size]?=some (.cells TT 92 (0,0))∧((w5.setCell ⟨gc,0,none⟩ (.slice ca col.length cc)).alloc (.cells #[.slice none 0 0,.int .i64 0] 221)).ownsRow w3.heap.size 195 9 (.slice (some ⟨ng,0,none⟩) N nc) N (Be nds):=by
  obtain⟨ad,ae,Z,hno,az⟩:=H4.o;obtain⟨E,a0,bl⟩:=H5.o;have bH:Aa (fun j=>j=gc) w4 ((w5.setCell ⟨gc,0,none⟩ (.slice ca col.length cc)).alloc (.cells #[.slice none 0 0,.int .i64 0] 221)):=
   ((a0.wider (T:=fun j=>j=gc) (fun _ _ h=>h.elim)).setCell (p:=⟨gc,0,none⟩) (.inr rfl) _).alloc _
  have dV:=Anu ad;have dW:=Anu ae;have ei:w.heap.size≤w4.heap.size:=Z.size;refine⟨Z.trans bH (fun j h1 h2=>by omega),bH.row ad (by omega),bH.row ae (by omega),bH.owns hno (fun j hj e=>by have e1:ng=j:=An0 hj;omega)⟩
 obtain⟨b8,cO⟩: ∃b,b=w5.heap.size:=⟨_,rfl⟩;rw[←cO]at bE⊢;have bQ:gc<b8:=by omega
 obtain⟨W0,bN⟩: ∃W0,W0=(w5.setCell ⟨gc,0,none⟩ (.slice ca col.length cc)).alloc (.cells #[.slice none 0 0,.int .i64 0] 221):=⟨_,rfl⟩;rw[←bN]at bE bs⊢;have HB:Aside (w.heap.size+1<w2.heap.size∧w2.heap.size<w3.heap.size∧w3.heap.size≤ng∧ng<gc∧gc<b8):=⟨cS,cf,bx,by rw[H5.o.2.2];exact bZ,bQ⟩;have H0:Aside _:=And.intro bE bs;clear bE bs bN cO d7 d8 H5 H4 cS cf bx bZ dI bQ
 go_loopw[28] (fun vi wr=> ∃(i:Nat) (vals:Are) (cs:List Arc) (v8:Value),i≤N∧vi= .int .i64 i∧Ip (Hm.lnB L) (Bh L) nds col i 0 cs∧TSt W0 wr gc b8 vals cs v8 (Hm.tb (Hm.lnB L) (Bh L) nds col i 0)) (fun vi _=>N-(intOf vi).toNat)
 case atStart=>
  refine⟨0,_,_,_,Ann _,rfl,?_,by rw[Ys];exact H0.o.1⟩;have:=Ip.start (num:=Bh L) (col:=col) HH.o.2.1;rw[HH.o.2.2.1]at this;exact this
 case round=>
  obtain⟨i,vals,cs,v8,eh,rfl,t,f⟩:=hrel
  by_cases ej:i<N
  ·have dp:=f.kept.owns H0.o.2.2.2.2 (fun j hj e=>by have e1:ng=j:=An0 hj;have:=HB.o;rcases e with e|e<;>omega);have D:N=nds.length:=HH.o.2.2.1.symm;have nc:=fun j hj=>Hv dp D (i:=i) (by omega) j hj;obtain⟨nd,an⟩: ∃nd,nd=Ab nds i:=⟨_,rfl⟩;rw[←an]at nc;have n0:wr.cell? ⟨ng,i*9,none⟩=some (.int .i64 (nd.depth:Nat)):=nc 0 (by omega);have n1:wr.cell? ⟨ng,i*9+1,none⟩=some (.int .i64 (nd.frm:Nat)):=nc 1 (by omega);have n2:wr.cell? ⟨ng,i*9+2,none⟩=some (.int .i64 (nd.siz:Nat)):=nc 2 (by omega);have n3:wr.cell? ⟨ng,i*9+3,none⟩=some (.bool nd.b0.whole):=nc 3 (by omega);have n4:wr.cell? ⟨ng,i*9+4,none⟩=some (.int .u8 (nd.b0.val.toNat:Nat)):=nc 4 (by omega);have n5:wr.cell? ⟨ng,i*9+5,none⟩=some (.int .i64 (nd.b0.node:Nat)):=nc 5 (by omega);have n6:wr.cell? ⟨ng,i*9+6,none⟩=some (.bool nd.b1.whole):=nc 6 (by omega);have n7:wr.cell? ⟨ng,i*9+7,none⟩=some (.int .u8 (nd.b1.val.toNat:Nat)):=nc 7 (by omega);have n8:wr.cell? ⟨ng,i*9+8,none⟩=some (.int .i64 (nd.b1.node:Nat)):=nc 8 (by omega);have d9:(i:Int)<(N:Int):=by omega
   have cW:decide ((i:Int)<(N:Int))=true:=Ana d9;have H1:Aside _:=And.intro t (And.intro f (And.intro D an));clear dp t f nc D an;go_upto_region 9 with fail
   obtain⟨t,f,D,an⟩:=H1.o;have bd:(wr.alloc (.cells #[.int .i64 (nd.depth:Nat),.int .i64 (nd.frm:Nat),.int .i64 (nd.siz:Nat),.bool nd.b0.whole,.int .u8 (nd.b0.val.toNat:Nat),.int .i64 (nd.b0.node:Nat),.bool nd.b1.whole,.int .u8 (nd.b1.val.toNat:Nat),.int .i64 (nd.b1.node:Nat)] 195)).heap[wr.heap.size]?=some (.cells (Ch nd).toArray 195 (0,0)):=Anj wr _;have aD:=f.grew ((Aa.refl (fun _=>False) wr).alloc (.cells #[.int .i64 (nd.depth:Nat),.int .i64 (nd.frm:Nat),.int .i64 (nd.siz:Nat),.bool nd.b0.whole,.int .u8 (nd.b0.val.toNat:Nat),.int .i64 (nd.b0.node:Nat),.bool nd.b1.whole,.int .u8 (nd.b1.val.toNat:Nat),.int .i64 (nd.b1.node:Nat)] 195));have bz:=f.fresh;generalize wr.alloc (.cells #[.int .i64 (nd.depth:Nat),.int .i64 (nd.frm:Nat),.int .i64 (nd.siz:Nat),.bool nd.b0.whole,.int .u8 (nd.b0.val.toNat:Nat),.int .i64 (nd.b0.node:Nat),.bool nd.b1.whole,.int .u8 (nd.b1.val.toNat:Nat),.int .i64 (nd.b1.node:Nat)] 195)=W1 at*;obtain⟨hb,da⟩: ∃hb,hb=wr.heap.size:=⟨_,rfl⟩;rw[←da]at bd bz⊢;clear da n0 n1 n2 n3 n4 n5 n6 n7 n8 f H1;have ce:=HH.o.1.pos;have cb:=HH.o.1.num_lt;have a4:cs.length=N:=by rw[t.len];exact D.symm
   have ar:=t.here HH.o.2.1 HH.o.2.2.2 ce cb (by omega:i<nds.length);have aj:=aD.cols.own i (by omega);rw[ar]at aj;obtain⟨ia,ic,F,_⟩:=Aq aj;have cv:W1.cell? ⟨gc,i,none⟩=some (.slice ia (Ap (Hm.lnB L) (Bh L) nds col i).length ic):=by
    rw[Am7 _ _ i _ _ _ aD.cols.blk,Anw,←F,Am4,Am5 (by rw[aD.cols.len];omega)];rfl
   have dg:=Mh (Hm.lnB L) (Bh L) nds col i;obtain⟨ci,aq⟩: ∃ci,ci=Ap (Hm.lnB L) (Bh L) nds col i:=⟨_,rfl⟩;rw[←aq]at cv dg F;obtain⟨li,U⟩: ∃li,li=ci.length:=⟨_,rfl⟩;rw[←U]at cv dg F;have H1:Aside (Ip (Hm.lnB L) (Bh L) nds col i 0 cs∧TSt W0 W1 gc b8 vals cs v8 (Hm.tb (Hm.lnB L) (Bh L) nds col i 0)∧K8 hb gc b8 vals v8∧W1.heap[hb]?=some (.cells (Ch nd).toArray 195 (0,0))∧vals.getD i undef= .slice ia li ic):=⟨t,aD,bz,bd,F⟩;have HN:Aside (N=nds.length∧nd=Ab nds i∧ci=Ap (Hm.lnB L) (Bh L) nds col i∧li=ci.length):=⟨D,an,aq,U⟩;clear t aD bz bd F D an aq U aj ar a4 ce cb;go_wp2_with fail;clear cv
   go_loopw[38] (fun vp wr=> ∃(p:Nat) (vals:Are) (cs:List Arc) (v8:Value),p≤li∧vp= .int .i64 p∧Ip (Hm.lnB L) (Bh L) nds col i p cs∧TSt W0 wr gc b8 vals cs v8 (Hm.tb (Hm.lnB L) (Bh L) nds col i p)∧K8 hb gc b8 vals v8∧wr.heap[hb]?=some (.cells (Ch nd).toArray 195 (0,0))∧vals.getD i undef= .slice ia li ic) (fun vp _=>li-(intOf vp).toNat)
   case atStart=>
    obtain⟨q1,q2,q3,q4,q5⟩:=H1.o;exact⟨0,vals,cs,v8,Ann _,rfl,q1,q2,q3,q4,q5⟩
   case round=>
    clear H1;obtain⟨p,vals,cs,v8,hp,rfl,t,f,hno,aF,F⟩:=hrel;obtain⟨W2,rfl⟩: ∃X,X=wr:=⟨_,rfl⟩;obtain⟨D,an,aq,U⟩:=HN.o;have a4:cs.length=N:=by rw[t.len];exact D.symm
    by_cases ba:p<li
    ·have ac:p<(Ap (Hm.lnB L) (Bh L) nds col i).length:=by rw[←aq,←U];exact ba
     have ar:=t.here HH.o.2.1 HH.o.2.2.2 HH.o.1.pos HH.o.1.num_lt (by omega:i<nds.length);have aj:=f.cols.own i (by omega);rw[ar,F,←aq,←U]at aj;obtain⟨gi,icc,cZ,_,dT⟩:=Ck aj (by omega);simp only[Value.slice.injEq]at cZ;obtain⟨dA,_,dd⟩:=cZ;subst dA;subst dd;obtain⟨b,O⟩: ∃b,b=(Ap (Hm.lnB L) (Bh L) nds col i).getD p 0:=⟨_,rfl⟩;have cQ:b∈Ap (Hm.lnB L) (Bh L) nds col i:=by rw[O,Am4,Am5 ac];exact Anm _
     obtain⟨cP,cu⟩:=List.mem_filter.1 cQ;have cR:=HH.o.2.2.2 b cP;rw[←an]at cu;obtain⟨cX,_⟩:=Aoc cu;have cT:W2.cell? ⟨gi,p,none⟩=some (.int .u8 (b.toNat:Nat)):=by
      rw[aj.cellAt p (by omega),O,←aq];simp[Ah,List.getElem?_eq_getElem (show p<ci.length by omega),List.getD_eq_getElem?_getD]
     have aI:=HH.o.2.1.goes HH.o.1.numk HH.o.2.2.2 (by omega:i<nds.length) ac;rw[←O,←an]at aI;have M:=Amj (Hm.lnB L) (Bh L) nds col i p ac;rw[←O,←an]at M;have bK:=Ajj (Hm.lnB L) (Bh L) nds col i p;have b6:=f.kept.row H0.o.2.2.2.1 (fun e=>by have:=HB.o;rcases e with e|e<;>omega);have d6:=b.toNat_lt;have c9:(A6 L).length=256:=A4 _ _ _ _;have bJ:=Q5 (A6 L) b.toNat (by omega);have bj:(A6 L)[b.toNat]'(by omega)=(Bh L b,Hm.lnB L b):=by
      have e1:(A6 L).getD b.toNat (0,0)=(A6 L)[b.toNat]'(by omega):=by rw[Am4,Am5 (by omega)];rfl
      rw[←e1];show Jm L b=_;rw[Prod.ext_iff];exact⟨rfl,Q4 L HH.o.1.le255 b⟩
     rw[bj]at bJ;have t0:W2.cell? ⟨w2.heap.size,b.toNat*2,none⟩=some (.int .u64 (Bh L b:Nat)):=by
      rw[Am7 _ _ _ _ _ _ b6,HT.o.1,Anw];exact bJ.1
     have t1:W2.cell? ⟨w2.heap.size,b.toNat*2+1,none⟩=some (.int .i64 (Hm.lnB L b:Nat)):=by
      rw[Am7 _ _ _ _ _ _ b6,HT.o.1,Anw];exact bJ.2
     have bt:=HH.o.1.short b;have bT:Bh L b<4294967296:=Aom (HH.o.1.num_lt b cR) (Acr bt);have ax:=fun X=>U7 (Bh L b) (Hm.lnB L b) nd.depth X bT bt cX;have dJ:=Fg (Hm.lnB L) (Bh L) nd.depth b;have ebit:Bh L b/2^(Hm.lnB L b-1-nd.depth)%2=At (Hm.lnB L) (Bh L) nd.depth b:=rfl;rw[ebit]at ax;obtain⟨sd,J⟩: ∃sd,sd=At (Hm.lnB L) (Bh L) nd.depth b:=⟨_,rfl⟩;rw[←J]at ax dJ aI M;have d0:W2.cell? ⟨hb,0,none⟩=some (.int .i64 (nd.depth:Nat)):=Am7 _ _ 0 _ _ _ aF;have HP:Aside (Ip (Hm.lnB L) (Bh L) nds col i p cs∧TSt W0 W2 gc b8 vals cs v8 (Hm.tb (Hm.lnB L) (Bh L) nds col i p)∧K8 hb gc b8 vals v8∧W2.heap[hb]?=some (.cells (Ch nd).toArray 195 (0,0))∧vals.getD i undef= .slice (some ⟨gi,0,none⟩) li ic∧cs.length=N∧Hm.tb (Hm.lnB L) (Bh L) nds col i (p+1)=Hm.tb (Hm.lnB L) (Bh L) nds col i p++[decide (sd=1)]∧(Hm.tb (Hm.lnB L) (Bh L) nds col i p).length≤(i+1)*col.length∧b=(Ap (Hm.lnB L) (Bh L) nds col i).getD p 0∧p<(Ap (Hm.lnB L) (Bh L) nds col i).length∧sd=At (Hm.lnB L) (Bh L) nd.depth b):=⟨t,f,hno,aF,F,a4,M,bK,O,ac,J⟩;have cI:Aside _:=aI;have dr:(p:Int)<(li:Int):=by omega
     have cw:decide ((p:Int)<(li:Int))=true:=Ana dr;obtain⟨bn,bf⟩: ∃bn,bn=b.toNat:=⟨_,rfl⟩;rw[←bf]at cT t0 t1 d6;have cG:Aside (bn=b.toNat):=bf;have ef:(bn:Int)<256:=by omega
     obtain⟨cnum,bi⟩: ∃x,x=Bh L b:=⟨_,rfl⟩;obtain⟨clen,bg⟩: ∃x,x=Hm.lnB L b:=⟨_,rfl⟩;rw[←bi]at t0 ax;rw[←bg]at t1 ax;clear t f hno aF F a4 M bK O ac aI aj ar cQ cP cu cR cX b6 c9 bJ bj bt bT ebit J D an aq U bf bi bg;go_wp2_with fail
     go_region_held(fun X=>X.cell? ⟨w2.heap.size,bn*2,none⟩=some (.int .u64 (cnum:Nat))∧X.cell? ⟨w2.heap.size,bn*2+1,none⟩=some (.int .i64 (clen:Nat))∧X.cell? ⟨hb,0,none⟩=some (.int .i64 (nd.depth:Nat))) (first|exact⟨t0,t1,d0⟩|exact⟨k0,k1,k2⟩)
      (first|(go_at_call 151;(refine(ax _).mono ?_;rintro e w6 ⟨rfl,bq⟩;have k0:=(bq.cell (p:=⟨w2.heap.size,bn*2,none⟩) (Ank _ _ t0) id).trans t0;have k1:=(bq.cell (p:=⟨w2.heap.size,bn*2+1,none⟩) (Ank _ _ t1) id).trans t1;have k2:=(bq.cell (p:=⟨hb,0,none⟩) (Ank _ _ d0) id).trans d0)))
     obtain⟨t,f,hno,aF,F,a4,M,bK,O,ac,J⟩:=HP.o;have aQ:Ara W2 w6:=(Aa.refl (fun _=>False) W2).drew.trans bq (fun _ _ h=>h);have a3:=f.grew aQ;have ay:=aQ.row aF id;have dj:(i+1)*col.length≤255*6000:=Aoj (by omega) hl;have bb:=Ub 221 b8 v8 _ sd w6 a3.bat (by omega) (by omega);rw[←M]at bb;have H6:Aside _:=And.intro a3 (And.intro ay hno);have ea:=aQ.size;clear a3 ay aQ bq k0 k1 k2 t0 t1 d0 ax cT t f hno aF F a4 M bK O ac J dj;go_wp2_with fail;refine bb.mono ?_;rintro e w7 ⟨v7,rfl,cN,c1,c4⟩;clear bb;obtain⟨a3,ay,aT⟩:=H6.o;have db:hb<w6.heap.size:=Anu ay;have ak:=a3.add cN c1 c4;have q:=aT.add db c4;have P:=c1.row ay (fun e=>by rcases e with e|e;exact aT.2.2.2 e;exact aT.2.1 e);obtain⟨br,al⟩: ∃br,br=nd.br sd:=⟨_,rfl⟩;have e0:w7.cell? ⟨hb,3+sd*3,none⟩=some (.bool br.whole):=by
      rw[Am7 _ _ _ _ _ _ P,Anw,al];rcases(show sd=0∨sd=1 by omega)with e|e<;>rw[e]<;>rfl
     have e1:w7.cell? ⟨hb,3+sd*3+1,none⟩=some (.int .u8 (br.val.toNat:Nat)):=by
      rw[Am7 _ _ _ _ _ _ P,Anw,al];rcases(show sd=0∨sd=1 by omega)with e|e<;>rw[e]<;>rfl
     have e2:w7.cell? ⟨hb,3+sd*3+2,none⟩=some (.int .i64 (br.node:Nat)):=by
      rw[Am7 _ _ _ _ _ _ P,Anw,al];rcases(show sd=0∨sd=1 by omega)with e|e<;>rw[e]<;>rfl
     have em:(sd:Int)<2:=by omega
     have aI:=cI.o;rw[←al]at aI;have H7:Aside _:=And.intro ak (And.intro q (And.intro P al));clear H6 a3 ay aT ak q P al cN c1 c4 cI;rcases aI with⟨lv,c3⟩|⟨n,aY,dl,dB,a7⟩
     ·have b9:br.whole=true:=by rw[c3]
      rw[b9]at e0;have dz:Aside _:=c3;generalize br.val.toNat=bv at*;generalize br.node=bnd at*;clear c3 b9;go_wp2;go_roundw
      case rel=>
       obtain⟨ak,q,P,al⟩:=H7.o;obtain⟨t,_,_,_,F,_,_,_,O,ac,J⟩:=HP.o;have aX:Ara w7 (w7.alloc (.cells #[.bool true,.int .u8 (bv:Nat),.int .i64 (bnd:Nat)] 192)):=(Aa.refl _ _).alloc _;refine⟨p+1,vals,cs,v7,by omega,by go_num,?_,ak.grew aX,q,aX.row P id,F⟩;refine t.leaf ac (v:=lv) ?_;rw[←O,←HN.o.2.1,←J,←al];exact dz.o
      case measure=>simp[intOf];omega
     ·have b9:br.whole=false:=by rw[a7]
      have dk:br.node=n:=by rw[a7]
      rw[b9]at e0;rw[dk]at e2;have cm:Aside _:=And.intro a7 (And.intro aY (And.intro dl dB));generalize br.val.toNat=bv at*;clear a7 b9 dk;go_wp2_with fail;obtain⟨ak,q,P,al⟩:=H7.o;have aX:Ara w7 (w7.alloc (.cells #[.bool false,.int .u8 (bv:Nat),.int .i64 (n:Nat)] 192)):=(Aa.refl _ _).alloc _;have y:=Anj w7 (.cells #[.bool false,.int .u8 (bv:Nat),.int .i64 (n:Nat)] 192);have d:=ak.grew aX;have Q:=aX.row P id;generalize w7.alloc (.cells #[.bool false,.int .u8 (bv:Nat),.int .i64 (n:Nat)] 192)=w8 at*;have z:n<cs.length:=by rw[HP.o.2.2.2.2.2.1];have:=HN.o.1;omega
      have aO:=d.cols.own n z;obtain⟨na,ncap,A,_⟩:=Aq aO;have q0:w8.cell? ⟨w7.heap.size,2,none⟩=some (.int .i64 (n:Nat)):=Am7 _ _ 2 _ _ _ y;have q1:w8.cell? ⟨gc,n,none⟩=some (.slice na (cs.getD n []).length ncap):=by
       rw[Am7 _ _ n _ _ _ d.cols.blk,Anw,←A,Am4,Am5 (by rw[d.cols.len];exact z)];rfl
      have ek:(n:Int)<(N:Int):=by have:=HN.o.1;omega
      have bw:w7.heap.size<w8.heap.size:=Anu y;have ai: ∀k,(vals.getD n undef).ownBlock=some k→k≠w7.heap.size:=fun k e=>by have:=(ak.cols.own n z).lt k e;omega
      rw[A]at aO;have cU:(cs.getD n []).length≤6000:=by
       have d5:=(HP.o.1.at_ n i sd dl aY (by omega) (by omega) (by rw[←HN.o.2.1,←al];exact cm.o.1)).2.1 rfl;rw[d5];have h1:=Ap4 (fun b=>At (Hm.lnB L) (Bh L) (Ab nds i).depth b==sd) ((Ap (Hm.lnB L) (Bh L) nds col i).take p);have h2:=Mh (Hm.lnB L) (Bh L) nds col i;rw[Anp]at h1;omega
      have H8:Aside _:=And.intro d (And.intro q (And.intro Q (And.intro A (And.intro z (And.intro y ai)))));obtain⟨nl,aZ⟩: ∃nl,nl=(cs.getD n []).length:=⟨_,rfl⟩;rw[←aZ]at q1 aO cU;have bD:Aside (nl=(cs.getD n []).length):=aZ;have cH:Aside (br=nd.br sd):=al;clear H7 ak q P aX d Q A al aZ ai;refine Aph (S:=fun X=>X.cell? ⟨w7.heap.size,2,none⟩=some (.int .i64 (n:Nat))) (by kernel_rfl) ?_ (fun hHeld=>?_)
      ·exact q0
      have q2:(w8.alloc (.cells #[.int .u8 (bn:Nat)] 5)).cell? ⟨w7.heap.size,2,none⟩=some (.int .i64 (n:Nat)):=(((Aa.refl (fun _=>False) w8).alloc _).cell (p:=⟨w7.heap.size,2,none⟩) bw id).trans q0;have bm:gc<w8.heap.size:=Ank _ _ q1;have q3:(w8.alloc (.cells #[.int .u8 (bn:Nat)] 5)).cell? ⟨gc,n,none⟩=some (.slice na nl ncap):=(((Aa.refl (fun _=>False) w8).alloc _).cell (p:=⟨gc,n,none⟩) bm id).trans q1
      refine tK 0 ⟨some 57,.move (.tmp 7),229,"tree.go:70",#[],none⟩ ?_ ?_ ?_
      rotate_left
      ·intro X r;try dsimp only at r
       go_simp
       with_reducible rfl
      simp only[Act.put,Am6,Am8,Am9]
      refine tK 1 ⟨some 58,.fieldAddr 192 (.tmp 14) 2,0,"tree.go:70",#[],none⟩ ?_ ?_ ?_
      rotate_left
      ·intro X r;try dsimp only at r
       go_simp
       with_reducible rfl
      simp only[Act.put,Am6,Am8,Am9]
      refine tK 2 ⟨some 59,.load 3 (.tmp 58),3,"tree.go:70",#[⟨1,.data⟩],none⟩ ?_ ?_ ?_
      rotate_left
      ·intro X r;try dsimp only at r
       go_simp
       with_reducible rfl
      simp only[Act.put,Am6,Am8,Am9]
      refine tK 3 ⟨some 60,.move (.tmp 7),229,"tree.go:70",#[],none⟩ ?_ ?_ ?_
      rotate_left
      ·intro X r;try dsimp only at r
       go_simp
       with_reducible rfl
      simp only[Act.put,Am6,Am8,Am9]
      refine tK 4 ⟨some 61,.fieldAddr 192 (.tmp 14) 2,0,"tree.go:70",#[],none⟩ ?_ ?_ ?_
      rotate_left
      ·intro X r;try dsimp only at r
       go_simp
       with_reducible rfl
      simp only[Act.put,Am6,Am8,Am9]
      refine tK 5 ⟨some 62,.load 3 (.tmp 61),3,"tree.go:70",#[⟨4,.data⟩],none⟩ ?_ ?_ ?_
      rotate_left
      ·intro X r;try dsimp only at r
       go_simp
       with_reducible rfl
      simp only[Act.put,Am6,Am8,Am9]
      refine tK 6 ⟨some 63,.indexAddr 229 (.tmp 60) (.tmp 62),0,"tree.go:70",#[⟨3,.data⟩,⟨5,.data⟩],none⟩ ?_ ?_ ?_
      rotate_left
      ·intro X r;try dsimp only at r
       go_simp
       with_reducible rfl
      simp only[Act.put,Am6,Am8,Am9]
      refine tK 8 ⟨some 65,.move (.tmp 12),5,"tree.go:70",#[],none⟩ ?_ ?_ ?_
      rotate_left
      ·intro X r;try dsimp only at r
       go_simp
       with_reducible rfl
      simp only[Act.put,Am6,Am8,Am9];refine An1 (rs:=[7,9]) (by kernel_rfl) (by simp) ?_
      refine AllReadyH.cons (o := ⟨some 64,.load 79 (.tmp 63),79,"tree.go:70",#[⟨6,.data⟩],none⟩) rfl (fun K hK => ?_) (AllReadyH.cons (o := ⟨some 66,.buildSlice 79 1 #[(0, .tmp 65)],79,"tree.go:70",#[⟨8,.data⟩],none⟩) rfl (fun K hK => ?_) AllReadyH.nil)
      ·go_simp;refine hK.o _ _ q0 (fun hHeld=>?_);clear hK K;refine An1 (rs:=[9]) (by kernel_rfl) (by simp) ?_
       refine AllReadyH.cons (o := ⟨some 66,.buildSlice 79 1 #[(0, .tmp 65)],79,"tree.go:70",#[⟨8,.data⟩],none⟩) rfl (fun K hK => ?_) AllReadyH.nil
       go_simp;refine hK.o _ _ q2 (fun hHeld=>?_);clear hK K;refine An1 (rs:=[10]) (by kernel_rfl) (by simp) ?_
       refine AllReadyH.cons (o := ⟨some 67,.call ⟨.builtin .append,#[.tmp 64,.tmp 66],#[79,79]⟩,79,"tree.go:70",#[⟨7,.data⟩,⟨9,.data⟩],none⟩) rfl (fun K hK => ?_) AllReadyH.nil
       refine step_append_lies _ rfl (.tmp 64) (.tmp 66) 79 rfl 0 5 i8 (.int .u8 0) 1 1 underlying79 dc cj ck cl rfl (by decide) (.slice na nl ncap) nl (Ah (cs.getD n [])) rfl (aO.alloc _).drew ⟨w8.heap.size,0,none⟩ 1 1 [.int .u8 (bn:Nat)] rfl rfl (fun j u h=>cell_one_new w8 _ _ j u h) (by intro u hu;simp at hu;subst hu;rfl) (by decide) (by unfold maxLen;omega) (by omega) (Ann _) _ rfl ?_;intro g9 cap9 w9 aK bk aB dh;obtain⟨d,q,Q,A,c5,y,ai⟩:=H8.o;rw[←bD.o]at A;have H:Aa (fun j=>(vals.getD n undef).ownBlock=some j) w8 w9:=((Aa.refl (fun j=>(vals.getD n undef).ownBlock=some j) w8).alloc _).drew.grown bk (fun k hk=> .inr (by rw[A];exact hk.symm▸rfl));have au:Cb w8 (vals.getD n undef) (.slice (some ⟨g9,0,none⟩) (nl+1) cap9):=fun k hk=>by
        have e:g9=k:=An0 hk;rcases aB with c|c
        ·exact .inl (by rw[A,←e];exact c)
        ·right;have:(w8.alloc (.cells #[.int .u8 (bn:Nat)] 5)).drew.heap.size=w8.heap.size+1:=by simp
         omega
       have a9:Ah (cs.getD n [])++[.int .u8 (bn:Nat)]=Ah (cs.getD n []++[b]):=by rw[cG.o];simp[Ah]
       have bu:(cs.getD n []++[b]).length=nl+1:=by rw[Anf,←bD.o];rfl
       rw[a9]at aK;have V:=d.app (l:=cs.getD n []++[b]) aY z H (by rw[bu];exact aK) au;have aa:=q.app (n:=n) (by rw[d.cols.len];exact z) (wr:=w8) (Anu Q) au;have ap:w9.heap[hb]?=some (.cells (Ch nd).toArray 195 (0,0)):=H.row Q (fun e=>q.1 n hb (by rw[d.cols.len];exact z) e rfl);have Y:(w9.setCell ⟨gc,n,none⟩ (.slice (some ⟨g9,0,none⟩) (nl+1) cap9)).heap[hb]?=some (.cells (Ch nd).toArray 195 (0,0)):=by
        rw[Apm _ _ _ _ q.2.2.1];exact ap
       have aA:=H.row d.cols.blk (fun e=>d.cols.ne n gc z e rfl);have r0:w9.cell? ⟨w7.heap.size,2,none⟩=some (.int .i64 (n:Nat)):=(H.cell (p:=⟨w7.heap.size,2,none⟩) bw (fun e=>ai _ e rfl)).trans q0;have r1:w9.cell? ⟨gc,n,none⟩=some (.slice na nl ncap):=(H.cell (p:=⟨gc,n,none⟩) bm (fun e=>d.cols.ne n gc z e rfl)).trans q1;have r2:w9.frozen? ⟨gc,n,none⟩=false:=Ang _ _ n _ _ aA;have bo:gc≠w7.heap.size:=by have h1:=d.gB;have h2:=d.kept.size;intro e;rw[←e]at y;have:=d.cols.blk;rw[this]at y;simp only[Option.some.injEq,Obj.cells.injEq]at y;exact absurd y.2.1 (by decide)
       have r3:(w9.setCell ⟨gc,n,none⟩ (.slice (some ⟨g9,0,none⟩) (nl+1) cap9)).cell? ⟨w7.heap.size,2,none⟩=some (.int .i64 (n:Nat)):=by
        rw[Apo _ _ _ _ (by intro e';simp only[Addr.mk.injEq]at e';exact bo e'.1)];exact r0
       have H9:Aside _:=And.intro V (And.intro aa Y);clear d q Q A y ai H au a9 bu aK bk aB V aa Y ap aA bo;simp only[Act.put,Am6,Am8,Am9];refine hK.o _ _ r0 (fun hHeld=>?_);clear hK K
       refine tK 11 ⟨some 68,.indexAddr 229 (.tmp 57) (.tmp 59),0,"tree.go:70",#[⟨0,.data⟩,⟨2,.data⟩,⟨0,.phase⟩,⟨1,.phase⟩,⟨2,.phase⟩,⟨3,.phase⟩,⟨4,.phase⟩,⟨5,.phase⟩,⟨6,.phase⟩,⟨7,.phase⟩,⟨8,.phase⟩,⟨9,.phase⟩,⟨10,.phase⟩],none⟩ ?_ ?_ ?_
       rotate_left
       ·intro X r;try dsimp only at r
        go_simp
        with_reducible rfl
       simp only[Act.put,Am6,Am8,Am9];refine An1 (rs:=[12]) (by kernel_rfl) (by simp) ?_
       refine AllReadyH.cons (o := ⟨none,.store 79 (.tmp 68) (.tmp 67),0,"tree.go:70",#[⟨11,.data⟩,⟨10,.data⟩,⟨10,.chain⟩,⟨0,.phase⟩,⟨1,.phase⟩,⟨2,.phase⟩,⟨3,.phase⟩,⟨4,.phase⟩,⟨5,.phase⟩,⟨6,.phase⟩,⟨7,.phase⟩,⟨8,.phase⟩,⟨9,.phase⟩,⟨10,.phase⟩],none⟩) rfl (fun K hK => ?_) AllReadyH.nil
       go_simp;refine hK.o _ _ r3 (fun hHeld=>?_);clear hK K;refine Apn (by kernel_rfl) ?_ _;clear r0 r1 r2 r3 q0 q1 q2 q3 aO hHeld;go_wp2;go_roundw
       case rel=>
        obtain⟨V,aa,Y⟩:=H9.o;obtain⟨t,_,_,_,F,a4,_,_,O,ac,J⟩:=HP.o;refine⟨p+1,_,_,v7,by omega,by go_num,?_,V,aa,Y,?_⟩
        ·rw[O];refine t.node HH.o.2.1 (by have:=HN.o.1;omega) ac aY ?_;rw[←O,←HN.o.2.1,←J];exact cH.o.symm.trans cm.o.1
        ·rw[Hy _ _ _ _ (by have:=V.cols.len;rw[Aou,Aou]at this;omega),if_neg (by omega)];exact F
       case measure=>simp[intOf];omega
      ·go_simp;refine hK.o _ _ q2 (fun hHeld=>?_);clear hK K;refine An1 (rs:=[7]) (by kernel_rfl) (by simp) ?_
       refine AllReadyH.cons (o := ⟨some 64,.load 79 (.tmp 63),79,"tree.go:70",#[⟨6,.data⟩],none⟩) rfl (fun K hK => ?_) AllReadyH.nil
       go_simp;refine hK.o _ _ q2 (fun hHeld=>?_);clear hK K;refine An1 (rs:=[10]) (by kernel_rfl) (by simp) ?_
       refine AllReadyH.cons (o := ⟨some 67,.call ⟨.builtin .append,#[.tmp 64,.tmp 66],#[79,79]⟩,79,"tree.go:70",#[⟨7,.data⟩,⟨9,.data⟩],none⟩) rfl (fun K hK => ?_) AllReadyH.nil
       refine step_append_lies _ rfl (.tmp 64) (.tmp 66) 79 rfl 0 5 i8 (.int .u8 0) 1 1 underlying79 dc cj ck cl rfl (by decide) (.slice na nl ncap) nl (Ah (cs.getD n [])) rfl (aO.alloc _).drew ⟨w8.heap.size,0,none⟩ 1 1 [.int .u8 (bn:Nat)] rfl rfl (fun j u h=>cell_one_new w8 _ _ j u h) (by intro u hu;simp at hu;subst hu;rfl) (by decide) (by unfold maxLen;omega) (by omega) (Ann _) _ rfl ?_;intro g9 cap9 w9 aK bk aB dh;obtain⟨d,q,Q,A,c5,y,ai⟩:=H8.o;rw[←bD.o]at A;have H:Aa (fun j=>(vals.getD n undef).ownBlock=some j) w8 w9:=((Aa.refl (fun j=>(vals.getD n undef).ownBlock=some j) w8).alloc _).drew.grown bk (fun k hk=> .inr (by rw[A];exact hk.symm▸rfl));have au:Cb w8 (vals.getD n undef) (.slice (some ⟨g9,0,none⟩) (nl+1) cap9):=fun k hk=>by
        have e:g9=k:=An0 hk;rcases aB with c|c
        ·exact .inl (by rw[A,←e];exact c)
        ·right;have:(w8.alloc (.cells #[.int .u8 (bn:Nat)] 5)).drew.heap.size=w8.heap.size+1:=by simp
         omega
       have a9:Ah (cs.getD n [])++[.int .u8 (bn:Nat)]=Ah (cs.getD n []++[b]):=by rw[cG.o];simp[Ah]
       have bu:(cs.getD n []++[b]).length=nl+1:=by rw[Anf,←bD.o];rfl
       rw[a9]at aK;have V:=d.app (l:=cs.getD n []++[b]) aY z H (by rw[bu];exact aK) au;have aa:=q.app (n:=n) (by rw[d.cols.len];exact z) (wr:=w8) (Anu Q) au;have ap:w9.heap[hb]?=some (.cells (Ch nd).toArray 195 (0,0)):=H.row Q (fun e=>q.1 n hb (by rw[d.cols.len];exact z) e rfl);have Y:(w9.setCell ⟨gc,n,none⟩ (.slice (some ⟨g9,0,none⟩) (nl+1) cap9)).heap[hb]?=some (.cells (Ch nd).toArray 195 (0,0)):=by
        rw[Apm _ _ _ _ q.2.2.1];exact ap
       have aA:=H.row d.cols.blk (fun e=>d.cols.ne n gc z e rfl);have r0:w9.cell? ⟨w7.heap.size,2,none⟩=some (.int .i64 (n:Nat)):=(H.cell (p:=⟨w7.heap.size,2,none⟩) bw (fun e=>ai _ e rfl)).trans q0;have r1:w9.cell? ⟨gc,n,none⟩=some (.slice na nl ncap):=(H.cell (p:=⟨gc,n,none⟩) bm (fun e=>d.cols.ne n gc z e rfl)).trans q1;have r2:w9.frozen? ⟨gc,n,none⟩=false:=Ang _ _ n _ _ aA;have bo:gc≠w7.heap.size:=by have h1:=d.gB;have h2:=d.kept.size;intro e;rw[←e]at y;have:=d.cols.blk;rw[this]at y;simp only[Option.some.injEq,Obj.cells.injEq]at y;exact absurd y.2.1 (by decide)
       have r3:(w9.setCell ⟨gc,n,none⟩ (.slice (some ⟨g9,0,none⟩) (nl+1) cap9)).cell? ⟨w7.heap.size,2,none⟩=some (.int .i64 (n:Nat)):=by
        rw[Apo _ _ _ _ (by intro e';simp only[Addr.mk.injEq]at e';exact bo e'.1)];exact r0
       have H9:Aside _:=And.intro V (And.intro aa Y);clear d q Q A y ai H au a9 bu aK bk aB V aa Y ap aA bo;simp only[Act.put,Am6,Am8,Am9];refine hK.o _ _ r0 (fun hHeld=>?_);clear hK K
       refine tK 11 ⟨some 68,.indexAddr 229 (.tmp 57) (.tmp 59),0,"tree.go:70",#[⟨0,.data⟩,⟨2,.data⟩,⟨0,.phase⟩,⟨1,.phase⟩,⟨2,.phase⟩,⟨3,.phase⟩,⟨4,.phase⟩,⟨5,.phase⟩,⟨6,.phase⟩,⟨7,.phase⟩,⟨8,.phase⟩,⟨9,.phase⟩,⟨10,.phase⟩],none⟩ ?_ ?_ ?_
       rotate_left
       ·intro X r;try dsimp only at r
        go_simp
        with_reducible rfl
       simp only[Act.put,Am6,Am8,Am9];refine An1 (rs:=[12]) (by kernel_rfl) (by simp) ?_
       refine AllReadyH.cons (o := ⟨none,.store 79 (.tmp 68) (.tmp 67),0,"tree.go:70",#[⟨11,.data⟩,⟨10,.data⟩,⟨10,.chain⟩,⟨0,.phase⟩,⟨1,.phase⟩,⟨2,.phase⟩,⟨3,.phase⟩,⟨4,.phase⟩,⟨5,.phase⟩,⟨6,.phase⟩,⟨7,.phase⟩,⟨8,.phase⟩,⟨9,.phase⟩,⟨10,.phase⟩],none⟩) rfl (fun K hK => ?_) AllReadyH.nil
       go_simp;refine hK.o _ _ r3 (fun hHeld=>?_);clear hK K;refine Apn (by kernel_rfl) ?_ _;clear r0 r1 r2 r3 q0 q1 q2 q3 aO hHeld;go_wp2;go_roundw
       case rel=>
        obtain⟨V,aa,Y⟩:=H9.o;obtain⟨t,_,_,_,F,a4,_,_,O,ac,J⟩:=HP.o;refine⟨p+1,_,_,v7,by omega,by go_num,?_,V,aa,Y,?_⟩
        ·rw[O];refine t.node HH.o.2.1 (by have:=HN.o.1;omega) ac aY ?_;rw[←O,←HN.o.2.1,←J];exact cH.o.symm.trans cm.o.1
        ·rw[Hy _ _ _ _ (by have:=V.cols.len;rw[Aou,Aou]at this;omega),if_neg (by omega)];exact F
       case measure=>simp[intOf];omega
    ·obtain rfl:p=li:=by omega
     have cw:decide ((p:Int)<(p:Int))=false:=Anc (by omega);have H2:Aside (Ip (Hm.lnB L) (Bh L) nds col (i+1) 0 cs∧TSt W0 W2 gc b8 vals cs v8 (Hm.tb (Hm.lnB L) (Bh L) nds col (i+1) 0)):=by
      refine⟨?_,?_⟩
      ·refine Ip.next (i:=i) ?_ HH.o.2.1 HH.o.1.numk HH.o.2.2.2;rw[←aq,←U];exact t
      ·rw[←Ami,←aq,←U];exact f
     clear t f hno aF F D an aq U a4;go_wp2;go_roundw
     case rel=>exact⟨i+1,vals,cs,v8,by omega,by go_num,H2.o.1,H2.o.2⟩
     case measure=>simp[intOf];omega
  ·obtain rfl:i=N:=by omega
   have cW:decide ((i:Int)<(i:Int))=false:=Anc (by omega);obtain⟨R,hR⟩: ∃R,R=(Az (Hm.lnB L) (Bh L) nds col i).map (fun x=>decide (x=1)):=⟨_,rfl⟩;rw[Ys,←hR]at f;have ee:R.length≤2000000:=by
    rw[hR,Anz];have h1:=K3 (Hm.lnB L) (Bh L) nds col i;have h2:i*col.length≤255*6000:=Aoj (by omega) hl;omega
   have HR:Aside (R=(Az (Hm.lnB L) (Bh L) nds col i).map (fun x=>decide (x=1))∧(Az (Hm.lnB L) (Bh L) nds col i).length=R.length):=⟨hR,by rw[hR,Anz]⟩;have aN:=f.kept.row H0.o.2.2.2.1 (fun e=>by have:=HB.o;rcases e with e|e<;>omega);have aM:=f.kept.row H0.o.2.2.1 (fun e=>by have:=HB.o;rcases e with e|e<;>omega);have aJ:=f.kept.owns H0.o.2.2.2.2 (fun j hj e=>by have e1:ng=j:=An0 hj;have:=HB.o;rcases e with e|e<;>omega);have bX:Ara w wr:=H0.o.2.1.trans f.kept (fun j h1 h2=>by have:=HB.o;rcases h2 with h2|h2<;>omega);have bR:=f.bat;have ba:(⟨(Ag R).toArray⟩:ByteArray).size=(Ag R).length:=by show(Ag R).toArray.size=_;simp
   have aU:=Bi R;have bh:=fun W=>J9 Gk ⟨(Ag R).toArray⟩ R.length W (by rw[ba,aU];omega);have dH:(⟨(Ag R).toArray⟩:ByteArray).size≤1000000:=by rw[ba,aU];omega
   have b5:=fun(X:World) (hX:D3 X 221 b8 v8 R)=>Yc 221 b8 v8 R X hX;obtain⟨s,hS⟩: ∃s,s=(⟨(Ag R).toArray⟩:ByteArray):=⟨_,rfl⟩;rw[←hS]at bh b5 dH;have c2:R.length≤8*s.size:=by rw[hS,ba,aU];omega
   have HS:Aside (s=(⟨(Ag R).toArray⟩:ByteArray)):=hS;have bB:Aside _:=bh;have cn:Aside _:=b5;have H3:Aside _:=And.intro aM (And.intro aJ (And.intro bX (And.intro bR aN)));have ct:=fun g=>Xc s R.length g col.length (A6 L) (some ⟨ng,0,none⟩) i nc (A4 _ _ _ _);rw[←HT.o.1]at ct;obtain⟨TA,cp⟩: ∃TA:Nat→Array Value,∀g,TA g=(Ay s R.length g (A6 L) (.slice (some ⟨ng,0,none⟩) i nc) (List.replicate 256 0) col.length).toArray:=⟨_,fun _=>rfl⟩;have bS: ∀g,prog.built 96 [(0,.agg #[.string s,.int .i64 (R.length:Nat),.slice (some ⟨g,0,none⟩) (s.size+1) (s.size+1)]),(1,.agg TT),(2,.slice (some ⟨ng,0,none⟩) i nc),(4,.int .i64 (col.length:Nat))]=some (TA g):=fun g=>by rw[cp];exact ct g
   have av:Aside _:=cp;have bA:Aside _:=bS;clear ct bS cp;have dS:w2.heap.size<wr.heap.size:=Anu aN;have dY:ng<wr.heap.size:=(aJ.lt ng rfl).2;have dZ:w.heap.size+1<wr.heap.size:=Anu aM;clear hR ba aU bh b5 hS aM aJ bX bR f t H0;go_wp2_with fail
   go_cut[15]from 16 (fun v15 wz=> ∃tb g:Nat,v15= .pointer (some ⟨tb,0,none⟩)∧Aside (A9 wz tb s R.length g (A6 L) (.slice (some ⟨ng,0,none⟩) i nc) nds (List.replicate 256 0) col.length∧Ara w wz∧wz.heap[w.heap.size+1]?=some (.cells Tryz.zeroCells96 96 (0,0))∧w.heap.size+1<tb))
   case first=>
    refine Aph (S:=fun X=>X.heap[w2.heap.size]?=some (.cells TT 92 (0,0))) (by kernel_rfl) ?_ (fun hHeld=>?_)
    ·exact aN
    refine tK 2 ⟨some 73,.load 92 (.tmp 5),92,"tree.go:74",#[],none⟩ (.agg TT) (fun X hX => E7 X 92 (.tmp 5) rfl w2.heap.size rfl 92 TT (0, 0) _ hX underlying92 rfl (by rw [HT.o.2.1]; exact O4)) ?_
    simp only[Act.put,Am6,Am8,Am9]
    refine tK 3 ⟨some 74,.move (.tmp 6),93,"tree.go:74",#[],none⟩ ?_ ?_ ?_
    rotate_left
    ·intro X r;try dsimp only at r
     go_simp
     with_reducible rfl
    simp only[Act.put,Am6,Am8,Am9]
    refine tK 4 ⟨some 75,.move (.tmp 0),79,"tree.go:74",#[],none⟩ ?_ ?_ ?_
    rotate_left
    ·intro X r;try dsimp only at r
     go_simp
     with_reducible rfl
    simp only[Act.put,Am6,Am8,Am9]
    refine tK 5 ⟨some 76,.call ⟨.builtin .len,#[.tmp 75],#[79]⟩,3,"tree.go:74",#[⟨4,.data⟩],none⟩ ?_ ?_ ?_
    rotate_left
    ·intro X r;try dsimp only at r
     go_simp
     with_reducible rfl
    simp only[Act.put,Am6,Am8,Am9];refine An1 (rs:=[0,7]) (by kernel_rfl) (by simp) ?_
    refine AllReadyH.cons (o := ⟨some 71,.call ⟨.value (.func 148),#[.tmp 8],#[221]⟩,83,"tree.go:74",#[],none⟩) rfl (fun K hK => ?_) (AllReadyH.cons (o := ⟨some 15,.alloc 96,0,"tree.go:74",#[],none⟩) rfl (fun K hK => ?_) AllReadyH.nil)
    ·go_simp;refine(cn.o _ (H3.o.2.2.2.1.kept (Aa.refl (fun _=>False) wr).drew id (fun _ _=>id))).mono ?_;rintro e wa ⟨rfl,aW⟩;have am:Ara wr wa:=(Aa.refl (fun _=>False) wr).drew.trans aW (fun _ _ h=>h);refine hK.o _ _ (am.row H3.o.2.2.2.2 id) (fun hHeld=>?_);clear hK K aW;refine An1 (rs:=[1,7]) (by kernel_rfl) (by simp) ?_
     refine AllReadyH.cons (o := ⟨some 72,.call ⟨.value (.func 147),#[.tmp 71],#[83]⟩,85,"tree.go:74",#[⟨0,.data⟩,⟨0,.chain⟩],none⟩) rfl (fun K hK => ?_) (AllReadyH.cons (o := ⟨some 15,.alloc 96,0,"tree.go:74",#[],none⟩) rfl (fun K hK => ?_) AllReadyH.nil)
     ·go_simp;refine(bB.o wa).mono ?_;rintro e wb ⟨g,hg,rfl,cy,aw⟩;have bI:Ara wr wb:=am.trans aw (fun _ _ h=>h);refine hK.o _ _ (bI.row H3.o.2.2.2.2 id) (fun hHeld=>?_);clear hK K aw
      refine tK 6 ⟨some 77,.build 96 #[(0, .tmp 72), (1, .tmp 73), (2, .tmp 74), (4, .tmp 76)],96,"tree.go:74",#[⟨1,.data⟩,⟨2,.data⟩,⟨3,.data⟩,⟨5,.data⟩],none⟩ (.agg (TA g)) (fun X _ => Hx X 96 0 1 2 4 (.tmp 72) (.tmp 73) (.tmp 74) (.tmp 76) rfl _ _ _ _ rfl rfl rfl rfl _ (bA.o g)) ?_
      simp only[Act.put,Am6,Am8,Am9];refine An1 (rs:=[7]) (by kernel_rfl) (by simp) ?_
      refine AllReadyH.cons (o := ⟨some 15,.alloc 96,0,"tree.go:74",#[],none⟩) rfl (fun K hK => ?_) AllReadyH.nil
      go_simp;have B:Ara wr (wb.alloc (.cells Tryz.zeroCells96 96)):=bI.alloc _;have M:=Anj wb (.cells Tryz.zeroCells96 96);have ag:IntRow (wb.alloc (.cells Tryz.zeroCells96 96)) g (B6 s.data.toList):=cy.kept ((Aa.refl (fun _=>False) wb).alloc _) id;have a5:g≠wb.heap.size:=Nat.ne_of_lt cy.lt;have cx:wr.heap.size≤g:=Ant am.size hg;have cA:wr.heap.size≤wb.heap.size:=bI.size;refine hK.o _ _ (B.row H3.o.2.2.2.2 id) (fun hHeld=>?_);clear hK K cy bI am hg;generalize wb.alloc (.cells Tryz.zeroCells96 96)=X at*;generalize wb.heap.size=tb at*;refine An1 (rs:=[8]) (by kernel_rfl) (by simp) ?_
      refine AllReadyH.cons (o := ⟨none,.store 96 (.tmp 15) (.tmp 77),0,"tree.go:74",#[⟨7,.data⟩,⟨6,.data⟩,⟨1,.chain⟩,⟨0,.phase⟩,⟨1,.phase⟩,⟨2,.phase⟩,⟨3,.phase⟩,⟨4,.phase⟩,⟨5,.phase⟩,⟨6,.phase⟩,⟨7,.phase⟩],none⟩) rfl (fun K hK => ?_) AllReadyH.nil
      have G:(TA g).size=773:=by rw[av.o,Anq,Cm s R.length g (A6 L) (.slice (some ⟨ng,0,none⟩) i nc) (List.replicate 256 0) col.length (A4 _ _ _ _) Ani]
      have af:(TA g).all (·.oneCell')=true:=by rw[av.o];exact Ei _ _ _ _ _ _ _ rfl
      refine B9 X (op := ⟨none,.store 96 (.tmp 15) (.tmp 77),0,"tree.go:74",#[⟨7,.data⟩,⟨6,.data⟩,⟨1,.chain⟩,⟨0,.phase⟩,⟨1,.phase⟩,⟨2,.phase⟩,⟨3,.phase⟩,⟨4,.phase⟩,⟨5,.phase⟩,⟨6,.phase⟩,⟨7,.phase⟩],none⟩) rfl 96 (.tmp 15) (.tmp 77) rfl tb 96 Tryz.zeroCells96 (TA g) rfl rfl M (by rw [G]; exact Ca) (by rw [G]; exact Ge) af ?_
      intro wz aE C;have b2:w2.heap.size≠tb:=by omega
      refine hK.o _ _ (C.row (B.row H3.o.2.2.2.2 id) b2) (fun hHeld=>?_);clear hK K;refine Apn (by kernel_rfl) ?_ _;have D:i=nds.length:=HH.o.2.2.1.symm;have a8:A9 wz tb s R.length g (A6 L) (.slice (some ⟨ng,0,none⟩) i nc) nds (List.replicate 256 0) col.length:=by
       refine⟨by rw[←av.o g];exact aE,ag.kept C a5,?_,A4 _ _ _ _,Ani,?_,a5,?_⟩
       ·rw[←D];exact G5 (C.owns (B.owns H3.o.2.1 (fun _ _=>id)) (fun j hj e=>by have e1:ng=j:=An0 hj;omega))
       ·intro e;have e1:ng=tb:=An0 e;omega
       ·intro e;have e1:ng=g:=An0 e;omega
      have ah:Ara w wz:=(H3.o.2.2.1.trans B (fun _ _ h=>h)).trans C (fun j h1 h2=>by omega);have I:=C.row (B.row H3.o.1 id) (by omega:w.heap.size+1≠tb);have H4:Aside (A9 wz tb s R.length g (A6 L) (.slice (some ⟨ng,0,none⟩) i nc) nds (List.replicate 256 0) col.length∧Ara w wz∧wz.heap[w.heap.size+1]?=some (.cells Tryz.zeroCells96 96 (0,0))∧w.heap.size+1<tb):=⟨a8,ah,I,by omega⟩;clear a8 ah I aE C ag B M G af hHeld D;go_wp2_with fail;go_meet
      case rel=>exact⟨tb,g,rfl,H4⟩
     ·go_simp;have a6:Ara wr (wa.alloc (.cells Tryz.zeroCells96 96)):=am.alloc _;have a2:=Anj wa (.cells Tryz.zeroCells96 96);refine hK.o _ _ (a6.row H3.o.2.2.2.2 id) (fun hHeld=>?_);clear hK K;refine An1 (rs:=[1]) (by kernel_rfl) (by simp) ?_
      refine AllReadyH.cons (o := ⟨some 72,.call ⟨.value (.func 147),#[.tmp 71],#[83]⟩,85,"tree.go:74",#[⟨0,.data⟩,⟨0,.chain⟩],none⟩) rfl (fun K hK => ?_) AllReadyH.nil
      go_simp;refine(bB.o _).mono ?_;rintro e X ⟨g,hg,rfl,ag,aw⟩;have B:Ara wr X:=a6.trans aw (fun _ _ h=>h);have M:=aw.row a2 id;have dF:=Anu a2;have a5:g≠wa.heap.size:=by omega
      have cx:wr.heap.size≤g:=Ant a6.size hg;have cA:wr.heap.size≤wa.heap.size:=am.size;refine hK.o _ _ (B.row H3.o.2.2.2.2 id) (fun hHeld=>?_);clear hK K a6 a2 aw am hg dF
      refine tK 6 ⟨some 77,.build 96 #[(0, .tmp 72), (1, .tmp 73), (2, .tmp 74), (4, .tmp 76)],96,"tree.go:74",#[⟨1,.data⟩,⟨2,.data⟩,⟨3,.data⟩,⟨5,.data⟩],none⟩ (.agg (TA g)) (fun X _ => Hx X 96 0 1 2 4 (.tmp 72) (.tmp 73) (.tmp 74) (.tmp 76) rfl _ _ _ _ rfl rfl rfl rfl _ (bA.o g)) ?_
      simp only[Act.put,Am6,Am8,Am9];generalize wa.heap.size=tb at*;refine An1 (rs:=[8]) (by kernel_rfl) (by simp) ?_
      refine AllReadyH.cons (o := ⟨none,.store 96 (.tmp 15) (.tmp 77),0,"tree.go:74",#[⟨7,.data⟩,⟨6,.data⟩,⟨1,.chain⟩,⟨0,.phase⟩,⟨1,.phase⟩,⟨2,.phase⟩,⟨3,.phase⟩,⟨4,.phase⟩,⟨5,.phase⟩,⟨6,.phase⟩,⟨7,.phase⟩],none⟩) rfl (fun K hK => ?_) AllReadyH.nil
      have G:(TA g).size=773:=by rw[av.o,Anq,Cm s R.length g (A6 L) (.slice (some ⟨ng,0,none⟩) i nc) (List.replicate 256 0) col.length (A4 _ _ _ _) Ani]
      have af:(TA g).all (·.oneCell')=true:=by rw[av.o];exact Ei _ _ _ _ _ _ _ rfl
      refine B9 X (op := ⟨none,.store 96 (.tmp 15) (.tmp 77),0,"tree.go:74",#[⟨7,.data⟩,⟨6,.data⟩,⟨1,.chain⟩,⟨0,.phase⟩,⟨1,.phase⟩,⟨2,.phase⟩,⟨3,.phase⟩,⟨4,.phase⟩,⟨5,.phase⟩,⟨6,.phase⟩,⟨7,.phase⟩],none⟩) rfl 96 (.tmp 15) (.tmp 77) rfl tb 96 Tryz.zeroCells96 (TA g) rfl rfl M (by rw [G]; exact Ca) (by rw [G]; exact Ge) af ?_
      intro wz aE C;have b2:w2.heap.size≠tb:=by omega
      refine hK.o _ _ (C.row (B.row H3.o.2.2.2.2 id) b2) (fun hHeld=>?_);clear hK K;refine Apn (by kernel_rfl) ?_ _;have D:i=nds.length:=HH.o.2.2.1.symm;have a8:A9 wz tb s R.length g (A6 L) (.slice (some ⟨ng,0,none⟩) i nc) nds (List.replicate 256 0) col.length:=by
       refine⟨by rw[←av.o g];exact aE,ag.kept C a5,?_,A4 _ _ _ _,Ani,?_,a5,?_⟩
       ·rw[←D];exact G5 (C.owns (B.owns H3.o.2.1 (fun _ _=>id)) (fun j hj e=>by have e1:ng=j:=An0 hj;omega))
       ·intro e;have e1:ng=tb:=An0 e;omega
       ·intro e;have e1:ng=g:=An0 e;omega
      have ah:Ara w wz:=(H3.o.2.2.1.trans B (fun _ _ h=>h)).trans C (fun j h1 h2=>by omega);have I:=C.row (B.row H3.o.1 id) (by omega:w.heap.size+1≠tb);have H4:Aside (A9 wz tb s R.length g (A6 L) (.slice (some ⟨ng,0,none⟩) i nc) nds (List.replicate 256 0) col.length∧Ara w wz∧wz.heap[w.heap.size+1]?=some (.cells Tryz.zeroCells96 96 (0,0))∧w.heap.size+1<tb):=⟨a8,ah,I,by omega⟩;clear a8 ah I aE C ag B M G af hHeld D;go_wp2_with fail;go_meet
      case rel=>exact⟨tb,g,rfl,H4⟩
    ·go_simp;have a6:Ara wr (wr.alloc (.cells Tryz.zeroCells96 96)).drew:=((Aa.refl (fun _=>False) wr).alloc _).drew;have a2:(wr.alloc (.cells Tryz.zeroCells96 96)).drew.heap[wr.heap.size]?=some (.cells Tryz.zeroCells96 96 (0,0)):=Anj wr _;refine hK.o _ _ (a6.row H3.o.2.2.2.2 id) (fun hHeld=>?_);clear hK K;refine An1 (rs:=[0]) (by kernel_rfl) (by simp) ?_
     refine AllReadyH.cons (o := ⟨some 71,.call ⟨.value (.func 148),#[.tmp 8],#[221]⟩,83,"tree.go:74",#[],none⟩) rfl (fun K hK => ?_) AllReadyH.nil
     go_simp;refine(cn.o _ (H3.o.2.2.2.1.kept a6 id (fun _ _=>id))).mono ?_;rintro e wa ⟨rfl,aW⟩;have am:Ara wr wa:=a6.trans aW (fun _ _ h=>h);have b7:=aW.row a2 id;refine hK.o _ _ (am.row H3.o.2.2.2.2 id) (fun hHeld=>?_);clear hK K aW a2 a6;refine An1 (rs:=[1]) (by kernel_rfl) (by simp) ?_
     refine AllReadyH.cons (o := ⟨some 72,.call ⟨.value (.func 147),#[.tmp 71],#[83]⟩,85,"tree.go:74",#[⟨0,.data⟩,⟨0,.chain⟩],none⟩) rfl (fun K hK => ?_) AllReadyH.nil
     go_simp;refine(bB.o _).mono ?_;rintro e X ⟨g,hg,rfl,ag,aw⟩;have B:Ara wr X:=am.trans aw (fun _ _ h=>h);have M:=aw.row b7 id;have dE:=Anu b7;have a5:g≠wr.heap.size:=by omega
     have cx:wr.heap.size≤g:=Ant am.size hg;have cA:wr.heap.size≤wr.heap.size:=Ane _;refine hK.o _ _ (B.row H3.o.2.2.2.2 id) (fun hHeld=>?_);clear hK K b7 aw am hg dE
     refine tK 6 ⟨some 77,.build 96 #[(0, .tmp 72), (1, .tmp 73), (2, .tmp 74), (4, .tmp 76)],96,"tree.go:74",#[⟨1,.data⟩,⟨2,.data⟩,⟨3,.data⟩,⟨5,.data⟩],none⟩ (.agg (TA g)) (fun X _ => Hx X 96 0 1 2 4 (.tmp 72) (.tmp 73) (.tmp 74) (.tmp 76) rfl _ _ _ _ rfl rfl rfl rfl _ (bA.o g)) ?_
     simp only[Act.put,Am6,Am8,Am9];obtain⟨tb,dt⟩: ∃tb,tb=wr.heap.size:=⟨_,rfl⟩;rw[←dt]at a5 M⊢;have cA:wr.heap.size≤tb:=by omega
     refine An1 (rs:=[8]) (by kernel_rfl) (by simp) ?_
     refine AllReadyH.cons (o := ⟨none,.store 96 (.tmp 15) (.tmp 77),0,"tree.go:74",#[⟨7,.data⟩,⟨6,.data⟩,⟨1,.chain⟩,⟨0,.phase⟩,⟨1,.phase⟩,⟨2,.phase⟩,⟨3,.phase⟩,⟨4,.phase⟩,⟨5,.phase⟩,⟨6,.phase⟩,⟨7,.phase⟩],none⟩) rfl (fun K hK => ?_) AllReadyH.nil
     have G:(TA g).size=773:=by rw[av.o,Anq,Cm s R.length g (A6 L) (.slice (some ⟨ng,0,none⟩) i nc) (List.replicate 256 0) col.length (A4 _ _ _ _) Ani]
     have af:(TA g).all (·.oneCell')=true:=by rw[av.o];exact Ei _ _ _ _ _ _ _ rfl
     refine B9 X (op := ⟨none,.store 96 (.tmp 15) (.tmp 77),0,"tree.go:74",#[⟨7,.data⟩,⟨6,.data⟩,⟨1,.chain⟩,⟨0,.phase⟩,⟨1,.phase⟩,⟨2,.phase⟩,⟨3,.phase⟩,⟨4,.phase⟩,⟨5,.phase⟩,⟨6,.phase⟩,⟨7,.phase⟩],none⟩) rfl 96 (.tmp 15) (.tmp 77) rfl tb 96 Tryz.zeroCells96 (TA g) rfl rfl M (by rw [G]; exact Ca) (by rw [G]; exact Ge) af ?_
     intro wz aE C;have b2:w2.heap.size≠tb:=by omega
     refine hK.o _ _ (C.row (B.row H3.o.2.2.2.2 id) b2) (fun hHeld=>?_);clear hK K;refine Apn (by kernel_rfl) ?_ _;have D:i=nds.length:=HH.o.2.2.1.symm;have a8:A9 wz tb s R.length g (A6 L) (.slice (some ⟨ng,0,none⟩) i nc) nds (List.replicate 256 0) col.length:=by
      refine⟨by rw[←av.o g];exact aE,ag.kept C a5,?_,A4 _ _ _ _,Ani,?_,a5,?_⟩
      ·rw[←D];exact G5 (C.owns (B.owns H3.o.2.1 (fun _ _=>id)) (fun j hj e=>by have e1:ng=j:=An0 hj;omega))
      ·intro e;have e1:ng=tb:=An0 e;omega
      ·intro e;have e1:ng=g:=An0 e;omega
     have ah:Ara w wz:=(H3.o.2.2.1.trans B (fun _ _ h=>h)).trans C (fun j h1 h2=>by omega);have I:=C.row (B.row H3.o.1 id) (by omega:w.heap.size+1≠tb);have H4:Aside (A9 wz tb s R.length g (A6 L) (.slice (some ⟨ng,0,none⟩) i nc) nds (List.replicate 256 0) col.length∧Ara w wz∧wz.heap[w.heap.size+1]?=some (.cells Tryz.zeroCells96 96 (0,0))∧w.heap.size+1<tb):=⟨a8,ah,I,by omega⟩;clear a8 ah I aE C ag B M G af hHeld D;go_wp2_with fail;go_meet
     case rel=>exact⟨tb,g,rfl,H4⟩
   case rest=>
    obtain⟨tb,g,rfl,H4⟩:=hcut;have eb:=H4.o.2.2.2;clear H3 bB cn av bA;have bY:=Agn Gk tb g R.length col.length i nc ng s (A6 L) nds (List.replicate 256 0) wc H4.o.1 HH.o.2.2.1.symm h0 hN HH.o.2.1.inside d1.o (by omega) c2 (by omega);have dm:ng≠w.heap.size+1:=by have:=HB.o;omega
    have bx:w.heap.size≤ng:=by have:=HB.o;omega
    go_wp2_with fail;refine bY.mono ?_;rintro e w9 ⟨nds',ws',a1,dn,ch,V,H⟩;obtain⟨r1,r2,he⟩: ∃(a:Int) (b:Bool),e= .returned (.tuple #[.int .i64 a,.bool b]):=by
     unfold Ol at a1;cases di:Oq (Am s.data.toList) R.length nds col.length (List.replicate 256 0)with
     |none=>rw[di]at a1;exact⟨_,_,a1⟩
     |some st=>rw[di]at a1;exact⟨_,_,a1.1⟩
    subst he;have be:=V.blk;have aC:(Ay s R.length g (A6 L) (.slice (some ⟨ng,0,none⟩) i nc) ws' col.length).toArray.size=773:=by rw[Anq,Cm s R.length g (A6 L) (.slice (some ⟨ng,0,none⟩) i nc) ws' col.length (A4 _ _ _ _) ch]
    have b3:=Ei s R.length g col.length (A6 L) (.slice (some ⟨ng,0,none⟩) i nc) ws' rfl;have c6:=H.row H4.o.2.2.1 (fun e=>by rcases e with e|e;omega;exact dm (An0 e));have df:Ara w w9:=H4.o.2.1.trans H (fun j h1 h2=>by rcases h2 with h2|h2;omega;have e1:ng=j:=An0 h2;omega);obtain⟨TB,cq⟩: ∃TB,TB=(Ay s R.length g (A6 L) (.slice (some ⟨ng,0,none⟩) i nc) ws' col.length).toArray:=⟨_,rfl⟩;rw[←cq]at be aC b3;have d2:Aside _:=cq;clear a1 V H bY cq dn
    go_wp2_with(first
     |(refine Aoh rfl 96 _ rfl tb rfl 96 TB (0,0) _ be underlying96 rfl (by rw[aC];exact Ca) ?_)
     |(refine wpList_store_row _ rfl 96 _ _ rfl (w.heap.size+1) 96 Tryz.zeroCells96 TB rfl rfl c6 (by rw[aC];exact Ca) (by rw[aC];exact Ge) b3 ?_;intro wf dK dD))
    refine Aok (v:= .agg TB) (Ao0 results98 _ wf (w.heap.size+1) 96 _ (0,0) _ rfl dK underlying96 rfl (by rw[aC];exact Ca)) rfl ⟨g,.slice (some ⟨ng,0,none⟩) i nc,ws',?_,ch,rfl,df.trans dD (fun j h1 h2=>by omega)⟩;rw[d2.o,HS.o,HR.o.2,HR.o.1]
end Go.Proofs.YtegnkfdbmmndaaaGreat
