import Derived.Test.YtegnkfdbmmndaaaGreatK12

set_option maxHeartbeats 8000000
set_option maxRecDepth 100000
namespace Go.Proofs.YtegnkfdbmmndaaaGreat
open Hm Go.Proofs.Tryz
section
open Go.RowKit
namespace Hm
theorem eO(nds:List Nd)(i s:Nat)(b:Br)(j:Nat):(Ab (Cc nds i s b) j).siz=(Ab nds j).siz:=by
 unfold Cc
 by_cases hi:i<nds.length
 ·by_cases e:i=j
  ·subst e;rw[G9 _ _ _ hi];unfold Nd.put;split<;>rfl
  ·rw[Ja _ _ _ _ e]
 ·rw[Ado (by omega)]
theorem R4(ln:UInt8->Nat)(o:Aeg): ∀t j,(Ab (Ao ln o t).1 j).siz=0
 |0,j=>by
  show(Ab [{}] j).siz=0;cases j<;>rfl
 |t+1,j=>by
  have a:=R4 ln o t;show(Ab (F6 ln (t/2) (t%2) (Ao ln o t).1 (Ao ln o t).2).1 j).siz=0;generalize(Ao ln o t).1=nds at*;generalize(Ao ln o t).2=l at*;cases l with
  |nil=>exact a j
  |cons b r=>
   rw[Ki];split
   ·exact(eO _ _ _ _ j).trans (a j)
   ·show(Ab (Cc nds (t/2) (t%2) _++[_]) j).siz=0;rcases Aa7 j (Cc nds (t/2) (t%2) {node:=nds.length}).length with c|c|c
    ·rw[Lp _ _ _ c];exact(eO _ _ _ _ j).trans (a j)
    ·rw[c,M8]
    ·unfold Ab;rw[zG,Aam (by rw[zL];exact c)];rfl
def tb(ln num:UInt8->Nat)(nds:List Nd)(col:Aeg)(i p:Nat):List Bool:=(Ax ln num nds col i++((Aq ln num nds col i).take p).map (As ln num (Ab nds i).depth)).map fun x=>decide (x=1)
theorem cM(ln num:UInt8->Nat)(nds:List Nd)(col:Aeg)(i:Nat):tb ln num nds col i 0=(Ax ln num nds col i).map fun x=>decide (x=1):=by simp[tb]
theorem yK(ln num:UInt8->Nat)(nds:List Nd)(col:Aeg)(i:Nat):tb ln num nds col i (Aq ln num nds col i).length=tb ln num nds col (i+1) 0:=by
 rw[cM,Fm,tb,Aaw];rfl
theorem yL(ln num:UInt8->Nat)(nds:List Nd)(col:Aeg)(i p:Nat)(h:p<(Aq ln num nds col i).length):tb ln num nds col i (p+1)=tb ln num nds col i p++[decide (As ln num (Ab nds i).depth ((Aq ln num nds col i).getD p 0)=1)]:=by
 unfold tb;rw[zQ h,zG,zH h];simp only[Abt,Aaj];rfl
theorem tQ(ln num:UInt8->Nat)(nds:List Nd)(col:Aeg)(i p:Nat):(tb ln num nds col i p).length<=(i+1)*col.length:=by
 unfold tb;have h1:=Mb ln num nds col i;have h2:=Nt ln num nds col i;rw[Aai,zL,Aai,Ab4,Nat.one_mul];have:((Aq ln num nds col i).take p).length<=(Aq ln num nds col i).length:=by rw[zS];omega
 omega
end Hm
theorem Gv:Tryz.zeroCells96.size=773:=by kernel_rfl
theorem wJ:(prog.info? 79).map (fun i=>(i.zero,i.size,i.bytes))=some (some (.slice none 0 0),1,24):=by kernel_rfl
theorem jY(L:Aeh)(N:Nat)(col:Aeg)(ca:Aej)(cc:Nat)(w:World)(hC:Bz L)(hE:Hm.Ends 32 (lnB L) (Af L) N)(h0:0<N)(a4:w.ownsRow 0 5 1 (.slice ca col.length cc) col.length (Ag col))(hl:col.length<=6000)(hm: ∀b∈col,b∈Af L):
  Calls prog 98 #[.slice ca col.length cc,.agg (Ad L).toArray] w fun e w'=> ∃g v ws,e= .returned (.agg (A6 ⟨(Ah ((Ax (lnB L) (Bq L) (Ao (lnB L) (Af L) (2*N)).1 col N).map fun x=>decide (x=1))).toArray⟩ (Ax (lnB L) (Bq L) (Ao (lnB L) (Af L) (2*N)).1 col N).length g (Bf L) v ws col.length).toArray)/\ws.length=256/\v.oneCell'=true/\Aee w w':=by
 obtain⟨i0,hi,e7,e8,e9⟩:=Aa6 wJ;obtain⟨i8,dI,c9,cA,cB⟩:=Aa6 Ft;have hL:=hC.len;have hx: ∀x∈L,x<=255:=fun x hx=>by
  obtain⟨k,hk,e⟩:=Aa5 hx;have:=hC.short (UInt8.ofNat k);have e1:(UInt8.ofNat k).toNat=k:=by rw[Aax,Aby (by omega)]
  rw[lnB,e1,zG,zH hk]at this;have e2:L[k]<=32:=this;omega
 have bx:(Ad L).toArray.size=256:=by rw[Ba,hL]
 have cb:=fun W=>Z9 L W hL hx hC.fits;have cY:=fun W=>eK 32 L N W hL hx hE (fun W=>Vn L W hL hx);have hN:N<=255:=by have h1:=hE.len;have h2:=hE.few (2*N) (zK _);omega
 have bt:=hE.len;have c4:=hE.nodes;have c7: ∀j,(Ab (Ao (lnB L) (Af L) (2*N)).1 j).siz<=col.length:=fun j=>by rw[R4];exact zZ _
 generalize(Ao (lnB L) (Af L) (2*N)).1=nds at*;have ej:Aside _:=c7;clear c7;have HH:=aZ (aI hC (aI c4 (aI bt hm)));have f:(C8 (Bf L)).toArray.size=512:=by rw[Aaa,Db,Bf,A5]
 have cZ:=Te (Bf L);obtain⟨TT,cI⟩:=gx ((C8 (Bf L)).toArray);rw[<-cI]at cb f cZ;have HT:=aZ (aI cI (aI f cZ));obtain⟨aS,cq⟩:=gx ((Ad L).toArray);rw[<-cq]at bx cb cY|-;have aU:((w.alloc (.cells aS 139)).alloc (.cells Tryz.zeroCells96 96)).heap[w.heap.size]?=some (.cells aS 139 (0,0)):=Ab2 w _ _;have bN:((w.alloc (.cells aS 139)).alloc (.cells Tryz.zeroCells96 96)).heap[w.heap.size+1]?=some (.cells Tryz.zeroCells96 96 (0,0)):=Ab3 w _ _;have dK:Aee w ((w.alloc (.cells aS 139)).alloc (.cells Tryz.zeroCells96 96)):=((Aa.refl _ _).alloc _).alloc _;clear cI f cZ cq c4 hE hm bt hx hC hL
 go_enter func98,ntmps98
 go_upto_region 1 with fail
 generalize(w.alloc (.cells aS 139)).alloc (.cells Tryz.zeroCells96 96)=W at*;have cr:=cb W
 go_wp2_with(first
  |(refine Aa0 rfl 139 _ rfl w.heap.size rfl 139 aS (0,0) _ aU underlying139 rfl (by rw[bx];exact Ci) ?_))
 refine cr.mono ?_;rintro e w2 ⟨rfl,cd⟩;clear cb cr;have aV:=cd.row aU id;have ba:=cd.row bN id;have cz:=dK.tr cd;clear aU bN dK cd
 go_wp2_with(first
  |(refine wpList_store_row _ rfl 92 _ _ rfl w2.heap.size 92 Tryz.zeroCells92 TT rfl rfl (zY w2 _) (by rw[HT.o.2.1];exact Qr) (by rw[HT.o.2.1];exact Ub) HT.o.2.2 ?_;intro w3 dc cQ)
  |(refine Aa0 rfl 139 _ rfl w.heap.size rfl 139 aS (0,0) _ (cQ.row (((Aa.refl (fun _=>False) w2).alloc _).row aV id) (by have:=Aac aV;omega)) underlying139 rfl (by rw[bx];exact Ci) ?_))
 refine(cY w3).mono ?_;rintro e w4 ⟨nv,rfl,hno,cR⟩;clear cY;have cy:Aee w2 w3:=((Aa.refl (fun _=>False) w2).alloc _).trans cQ (fun j h1 h2=>by omega);have bD:=cy.tr cR;have ae:=bD.row ba id;have af:=cR.row dc id;have aa:=cz.tr bD;have c6:w2.heap.size<w3.heap.size:=Aac dc;have d7:w.heap.size+1<w2.heap.size:=Aac ba;obtain⟨ng,nc,ez,fp,c2⟩:=Co hno h0;subst ez;have bJ:w3.heap.size<=ng:=(hno.lt ng rfl).1;clear cQ cR cy bD ba aV dc cz;go_upto_region 4 with(at_make;refine Abv _ rfl (.tmp 21) (.tmp 21) 229 rfl w4.heap.size 79 i0 (.slice none 0 0) 1 underlying229 hi e7 e8 .i64 .i64 _ _ N rfl rfl (by omega) (by omega) (by rw[e9];omega) (by unfold maxLen;omega) (zK _) ?_;intro w5 dW dD)
 have D:w5.heap[w4.heap.size]?=some (.cells (List.replicate N (Value.slice none 0 0)).toArray 79 (0,0)):=by
  have:=tP dW;rwa[Acw,show(Value.slice none 0 0).cells= #[Value.slice none 0 0]from rfl,Ac4]at this
 have a5:Aee w4 w5:=(Aa.refl _ _).grown dD (fun k hk=>by cases hk);obtain⟨gc,bA⟩:=gx w4.heap.size;rw[<-bA]at D|-;have e4:gc<w5.heap.size:=Aac D;have er:w5.cell? ⟨gc,0,none⟩=some (.slice none 0 0):=by
  rw[zP _ _ 0 _ _ _ D];simp[h0]
 have es:w5.frozen? ⟨gc,0,none⟩=false:=zR _ _ 0 _ _ D;have ff:(0:Int)<(N:Int):=by omega
 have H5:Aside _:=aI D (aI a5 bA);have H4:Aside _:=aI ae (aI af (aI aa (aI hno a4)));clear D a5 dW dD bA ae af aa hno a4;go_wp2_with fail;have bZ:TSt ((w5.setCell ⟨gc,0,none⟩ (.slice ca col.length cc)).alloc (.cells #[.slice none 0 0,.int .i64 0] 221)) ((w5.setCell ⟨gc,0,none⟩ (.slice ca col.length cc)).alloc (.cells #[.slice none 0 0,.int .i64 0] 221)) gc w5.heap.size (.slice ca col.length cc::List.replicate (N-1) (.slice none 0 0)) (col::List.replicate (N-1) []) (.slice none 0 0) []:=by
  obtain⟨ae,af,aa,hno,a4⟩:=H4.o;obtain⟨D,a5,bA⟩:=H5.o;have ev:Aee w ((w5.setCell ⟨gc,0,none⟩ (.slice ca col.length cc)).alloc (.cells #[.slice none 0 0,.int .i64 0] 221)):=
   ((aa.tr a5).setCell (p:=⟨gc,0,none⟩) (.inl (by have:=aa.size;show _<=gc;omega)) _).alloc _
  have cO:w.heap.size<=gc:=by have:=aa.size;omega
  have bi: ∀n,0<n->n<N->(Value.slice ca col.length cc::List.replicate (N-1) (.slice none 0 0)).getD n undef= .slice none 0 0:=fun n h1 h2=>by
   obtain⟨m,rfl⟩: ∃m,n=m+1:=⟨n-1,by omega⟩;rw[Aea,zG,Abp (by omega)];rfl
  have dA: ∀n,0<n->(col::List.replicate (N-1) []).getD n []=([]:Aeg):=fun n h1=>by
   obtain⟨m,rfl⟩: ∃m,n=m+1:=⟨n-1,by omega⟩;rw[Aea,zG]
   by_cases h:m<N-1
   ·rw[Abp h];rfl
   ·rw[Aam (by simp;omega)];rfl
  have bh:(col::List.replicate (N-1) ([]:Aeg)).length=N:=by simp;omega
  have dX:((w5.setCell ⟨gc,0,none⟩ (.slice ca col.length cc)).alloc (.cells #[.slice none 0 0,.int .i64 0] 221)).heap.size=w5.heap.size+1:=by simp
  have d1: ∀k,(Value.slice ca col.length cc).ownBlock=some k->k<w.heap.size:=fun k e=>(a4.lt k e).2;refine⟨⟨?_,by simp,fun n hn=>?_,fun n m k h1 h2 h3 e1 e2=>?_,fun n k h1 e=>?_⟩,⟨?_,?_,fun e=>(by cases e)⟩,Aa.refl _ _,fun n k h1 h2 e=>?_,fun n k h1 e e2=>(by cases e2),fun k e=>(by cases e),fun k e=>?_,by omega,by omega,by omega⟩
  ·rw[Below.heap_alloc _ _ _ (by simp;omega)];have:=zI w5 gc 0 _ _ (.slice ca col.length cc) D;rw[this];congr 2;obtain⟨m,rfl⟩: ∃m,N=m+1:=⟨N-1,by omega⟩;simp[List.replicate_succ]
  ·rw[bh]at hn
   by_cases c:n=0
   ·subst c;exact ev.owns a4 (fun _ _=>id)
   ·rw[bi n (by omega) hn,dA n (by omega)];exact Aco _ _ _ _
  ·rw[bh]at h2;rw[bi n h1 h2]at e1;cases e1
  ·rw[bh]at h1
   by_cases c:n=0
   ·subst c;have:=d1 k e;omega
   ·rw[bi n (by omega) h1]at e;cases e
  ·have:=zY (w5.setCell ⟨gc,0,none⟩ (.slice ca col.length cc)) (.cells #[.slice none 0 0,.int .i64 0] 221);simpa using this
  ·exact Aco _ _ _ _
  ·rw[bh]at h2;rw[bi n h1 h2]at e;cases e
  ·have:=d1 k e;rw[dX];omega
 have bF:Aee w ((w5.setCell ⟨gc,0,none⟩ (.slice ca col.length cc)).alloc (.cells #[.slice none 0 0,.int .i64 0] 221))/\((w5.setCell ⟨gc,0,none⟩ (.slice ca col.length cc)).alloc (.cells #[.slice none 0 0,.int .i64 0] 221)).heap[w.heap.size+1]?=some (.cells Tryz.zeroCells96 96 (0,0))/\((w5.setCell ⟨gc,0,none⟩ (.slice ca col.length cc)).alloc (.cells #[.slice none 0 0,.int .i64 0] 221)).heap[w2.heap.size]?=some (.cells TT 92 (0,0))/\((w5.setCell ⟨gc,0,none⟩ (.slice ca col.length cc)).alloc (.cells #[.slice none 0 0,.int .i64 0] 221)).ownsRow w3.heap.size 195 9 (.slice (some ⟨ng,0,none⟩) N nc) N (Bj nds):=by
  obtain⟨ae,af,aa,hno,a4⟩:=H4.o;obtain⟨D,a5,bA⟩:=H5.o;have ce:Aa (fun j=>j=gc) w4 ((w5.setCell ⟨gc,0,none⟩ (.slice ca col.length cc)).alloc (.cells #[.slice none 0 0,.int .i64 0] 221)):=
   ((a5.wider (T:=fun j=>j=gc) (fun _ _ h=>h.elim)).setCell (p:=⟨gc,0,none⟩) (.inr rfl) _).alloc _
  have eO:=Aac ae;have eP:=Aac af;have fl:w.heap.size<=w4.heap.size:=aa.size;refine⟨aa.trans ce (fun j h1 h2=>by omega),ce.row ae (by omega),ce.row af (by omega),ce.owns hno (fun j hj e=>by have e1:ng=j:=Aak hj;omega)⟩
 obtain⟨b8,d3⟩: ∃b,b=w5.heap.size:=⟨_,rfl⟩;rw[<-d3]at bZ|-;have ct:gc<b8:=by omega
 obtain⟨W0,cp⟩:=gx ((w5.setCell ⟨gc,0,none⟩ (.slice ca col.length cc)).alloc (.cells #[.slice none 0 0,.int .i64 0] 221));rw[<-cp]at bZ bF|-;have HB:Aside (w.heap.size+1<w2.heap.size/\w2.heap.size<w3.heap.size/\w3.heap.size<=ng/\ng<gc/\gc<b8):=⟨d7,c6,bJ,by rw[H5.o.2.2];exact c2,ct⟩;have H0:Aside _:=aI bZ bF;clear bZ bF cp d3 er es H5 H4 d7 c6 bJ c2 e4 ct
 go_loopw[28] (fun vi wr=> ∃(i:Nat) (vals:Aei) (cs:List Aeg) (v8:Value),i<=N/\vi= .int .i64 i/\Kv (lnB L) (Bq L) nds col i 0 cs/\TSt W0 wr gc b8 vals cs v8 (Hm.tb (lnB L) (Bq L) nds col i 0)) (fun vi _=>N-(intOf vi).toNat)
 case atStart=>
  refine⟨0,_,_,_,zZ _,rfl,?_,by rw[cM];exact H0.o.1⟩;have:=Kv.start (num:=Bq L) (col:=col) HH.o.2.1;rw[HH.o.2.2.1]at this;exact this
 case round=>
  obtain⟨i,vals,cs,v8,fk,rfl,r,f⟩:=hrel
  by_cases fm:i<N
  ·have dV:=f.kept.owns H0.o.2.2.2.2 (fun j hj e=>by have e1:ng=j:=Aak hj;have:=HB.o;rcases e with e|e<;>omega);have C:N=nds.length:=HH.o.2.2.1.symm;have nc:=fun j hj=>It dV C (i:=i) (by omega) j hj;obtain⟨nd,ao⟩:=gx (Ab nds i);rw[<-ao]at nc;have n0:wr.cell? ⟨ng,i*9,none⟩=some (.int .i64 nd.depth):=nc 0 (by omega);have n1:wr.cell? ⟨ng,i*9+1,none⟩=some (.int .i64 nd.frm):=nc 1 (by omega);have n2:wr.cell? ⟨ng,i*9+2,none⟩=some (.int .i64 nd.siz):=nc 2 (by omega);have n3:wr.cell? ⟨ng,i*9+3,none⟩=some (.bool nd.b0.whole):=nc 3 (by omega);have n4:wr.cell? ⟨ng,i*9+4,none⟩=some (.int .u8 nd.b0.val.toNat):=nc 4 (by omega);have n5:wr.cell? ⟨ng,i*9+5,none⟩=some (.int .i64 nd.b0.node):=nc 5 (by omega);have n6:wr.cell? ⟨ng,i*9+6,none⟩=some (.bool nd.b1.whole):=nc 6 (by omega);have n7:wr.cell? ⟨ng,i*9+7,none⟩=some (.int .u8 nd.b1.val.toNat):=nc 7 (by omega);have n8:wr.cell? ⟨ng,i*9+8,none⟩=some (.int .i64 nd.b1.node):=nc 8 (by omega);obtain⟨fj,dB⟩:=dT i N;have H1:Aside _:=aI r (aI f (aI C ao));clear dV r f nc C ao;go_upto_region 9 with fail
   obtain⟨r,f,C,ao⟩:=H1.o;have bz:(wr.alloc (.cells #[.int .i64 nd.depth,.int .i64 nd.frm,.int .i64 nd.siz,.bool nd.b0.whole,.int .u8 nd.b0.val.toNat,.int .i64 nd.b0.node,.bool nd.b1.whole,.int .u8 nd.b1.val.toNat,.int .i64 nd.b1.node] 195)).heap[wr.heap.size]?=some (.cells (Cw nd).toArray 195 (0,0)):=zY wr _;have aO:=f.grew ((Aa.refl (fun _=>False) wr).alloc (.cells #[.int .i64 nd.depth,.int .i64 nd.frm,.int .i64 nd.siz,.bool nd.b0.whole,.int .u8 nd.b0.val.toNat,.int .i64 nd.b0.node,.bool nd.b1.whole,.int .u8 nd.b1.val.toNat,.int .i64 nd.b1.node] 195));have bK:=f.fresh;generalize wr.alloc (.cells #[.int .i64 nd.depth,.int .i64 nd.frm,.int .i64 nd.siz,.bool nd.b0.whole,.int .u8 nd.b0.val.toNat,.int .i64 nd.b0.node,.bool nd.b1.whole,.int .u8 nd.b1.val.toNat,.int .i64 nd.b1.node] 195)=W1 at*;obtain⟨hb,dG⟩:=gx wr.heap.size;rw[<-dG]at bz bK|-;clear dG n0 n1 n2 n3 n4 n5 n6 n7 n8 f H1;have c5:=HH.o.1.pos;have c3:=HH.o.1.num_lt;have aC:cs.length=N:=by rw[r.len];exact C.symm
   have av:=r.here HH.o.2.1 HH.o.2.2.2 c5 c3 (by omega:i<nds.length);have ak:=aO.cols.own i (by omega);rw[av]at ak;obtain⟨ia,ic,E,_⟩:=An ak;have cL:W1.cell? ⟨gc,i,none⟩=some (.slice ia (Aq (lnB L) (Bq L) nds col i).length ic):=by
    rw[zP _ _ i _ _ _ aO.cols.blk,Aag,<-E,zG,zH (by rw[aO.cols.len];omega)];rfl
   have dM:=Nt (lnB L) (Bq L) nds col i;obtain⟨ci,au⟩:=gx (Aq (lnB L) (Bq L) nds col i);rw[<-au]at cL dM E;obtain⟨li,V⟩:=gx ci.length;rw[<-V]at cL dM E;have H1:=aZ (aI r (aI aO (aI bK (aI bz E))));have HN:=aZ (aI C (aI ao (aI au V)));clear r aO bK bz E C ao au V ak av aC c5 c3;go_wp2_with fail;clear cL
   go_loopw[38] (fun vp wr=> ∃(p:Nat) (vals:Aei) (cs:List Aeg) (v8:Value),p<=li/\vp= .int .i64 p/\Kv (lnB L) (Bq L) nds col i p cs/\TSt W0 wr gc b8 vals cs v8 (Hm.tb (lnB L) (Bq L) nds col i p)/\O0 hb gc b8 vals v8/\wr.heap[hb]?=some (.cells (Cw nd).toArray 195 (0,0))/\vals.getD i undef= .slice ia li ic) (fun vp _=>li-(intOf vp).toNat)
   case atStart=>
    obtain⟨q1,q2,q3,q4,q5⟩:=H1.o;exact⟨0,vals,cs,v8,zZ _,rfl,q1,q2,q3,q4,q5⟩
   case round=>
    clear H1;obtain⟨p,vals,cs,v8,hp,rfl,r,f,hno,aT,E⟩:=hrel;obtain⟨W2,rfl⟩: ∃X,X=wr:=⟨_,rfl⟩;obtain⟨C,ao,au,V⟩:=HN.o;have aC:cs.length=N:=by rw[r.len];exact C.symm
    by_cases bu:p<li
    ·have ad:p<(Aq (lnB L) (Bq L) nds col i).length:=by rw[<-au,<-V];exact bu
     have av:=r.here HH.o.2.1 HH.o.2.2.2 HH.o.1.pos HH.o.1.num_lt (by omega:i<nds.length);have ak:=f.cols.own i (by omega);rw[av,E,<-au,<-V]at ak;obtain⟨gi,fs,dE,_,eM⟩:=Co ak (by omega);simp only[Value.slice.injEq]at dE;obtain⟨et,_,dJ⟩:=dE;subst et;subst dJ;obtain⟨b,P⟩:=gx ((Aq (lnB L) (Bq L) nds col i).getD p 0);have d5:b∈Aq (lnB L) (Bq L) nds col i:=by rw[P,zG,zH ad];exact z6 _
     obtain⟨d4,cK⟩:=List.mem_filter.1 d5;have d6:=HH.o.2.2.2 b d4;rw[<-ao]at cK;obtain⟨dC,_⟩:=Aay cK;have d8:W2.cell? ⟨gi,p,none⟩=some (.int .u8 b.toNat):=by
      rw[ak.cellAt p (by omega),P,<-au];simp[Ag,List.getElem?_eq_getElem (show p<ci.length by omega),List.getD_eq_getElem?_getD]
     have aW:=HH.o.2.1.goes HH.o.1.numk HH.o.2.2.2 (by omega:i<nds.length) ad;rw[<-P,<-ao]at aW;have O:=yL (lnB L) (Bq L) nds col i p ad;rw[<-P,<-ao]at O;have ch:=tQ (lnB L) (Bq L) nds col i p;have bP:=f.kept.row H0.o.2.2.2.1 (fun e=>by have:=HB.o;rcases e with e|e<;>omega);have ep:=b.toNat_lt;have da:(Bf L).length=256:=A5 _ _ _ _;have cg:=Td (Bf L) b.toNat (by omega);have b7:(Bf L)[b.toNat]'(by omega)=(Bq L b,lnB L b):=by
      have e1:(Bf L).getD b.toNat (0,0)=(Bf L)[b.toNat]'(by omega):=by rw[zG,zH (by omega)];rfl
      rw[<-e1];show Kh L b=_;rw[Prod.ext_iff];exact⟨rfl,Tc L HH.o.1.le255 b⟩
     rw[b7]at cg;have t0:W2.cell? ⟨w2.heap.size,b.toNat*2,none⟩=some (.int .u64 (Bq L b:Nat)):=by
      rw[zP _ _ _ _ _ _ bP,HT.o.1,Aag];exact cg.1
     have t1:W2.cell? ⟨w2.heap.size,b.toNat*2+1,none⟩=some (.int .i64 (lnB L b:Nat)):=by
      rw[zP _ _ _ _ _ _ bP,HT.o.1,Aag];exact cg.2
     have bG:=HH.o.1.short b;have cw:Bq L b<4294967296:=Aa9 (HH.o.1.num_lt b d6) (jO bG);have a2:=fun X=>X4 (Bq L b) (lnB L b) nd.depth X cw bG dC;have e5:=Fq (lnB L) (Bq L) nd.depth b;have co:Bq L b/2^(lnB L b-1-nd.depth)%2=As (lnB L) (Bq L) nd.depth b:=rfl;rw[co]at a2;obtain⟨sd,M⟩:=gx (As (lnB L) (Bq L) nd.depth b);rw[<-M]at a2 e5 aW O;have d0:W2.cell? ⟨hb,0,none⟩=some (.int .i64 nd.depth):=zP _ _ 0 _ _ _ aT;have HP:=aZ (aI r (aI f (aI hno (aI aT (aI E (aI aC (aI O (aI ch (aI P (aI ad M))))))))));have ds:Aside _:=aW;obtain⟨eS,cN⟩:=dT p li;obtain⟨bn,b3⟩:=gx b.toNat;rw[<-b3]at d8 t0 t1 ep;have dq:=aZ b3;have fh:(bn:Int)<256:=by omega
     obtain⟨du,b6⟩: ∃x,x=Bq L b:=⟨_,rfl⟩;obtain⟨dt,b4⟩: ∃x,x=lnB L b:=⟨_,rfl⟩;rw[<-b6]at t0 a2;rw[<-b4]at t1 a2;clear r f hno aT E aC O ch P ad aW ak av d5 d4 cK d6 dC bP da cg b7 bG cw co M C ao au V b3 b6 b4;go_wp2_with fail
     go_region_held(fun X=>X.cell? ⟨w2.heap.size,bn*2,none⟩=some (.int .u64 du)/\X.cell? ⟨w2.heap.size,bn*2+1,none⟩=some (.int .i64 dt)/\X.cell? ⟨hb,0,none⟩=some (.int .i64 nd.depth)) (first|exact⟨t0,t1,d0⟩|exact⟨k0,k1,k2⟩)
      (first|(go_at_call 151;(refine(a2 _).mono ?_;rintro e w6 ⟨rfl,bE⟩;have k0:=(bE.cell (p:=⟨w2.heap.size,bn*2,none⟩) (z9 _ _ t0) id).trans t0;have k1:=(bE.cell (p:=⟨w2.heap.size,bn*2+1,none⟩) (z9 _ _ t1) id).trans t1;have k2:=(bE.cell (p:=⟨hb,0,none⟩) (z9 _ _ d0) id).trans d0)))
     obtain⟨r,f,hno,aT,E,aC,O,ch,P,ad,M⟩:=HP.o;have bg:Aee W2 w6:=(Aa.refl (fun _=>False) W2).drew.tr bE;have a8:=f.grew bg;have a3:=bg.row aT id;have dP:(i+1)*col.length<=255*6000:=Aa4 (by omega) hl;have bw:=Wt 221 b8 v8 _ sd w6 a8.bat (by omega) (by omega);rw[<-O]at bw;have H6:Aside _:=aI a8 (aI a3 hno);have eU:=bg.size;clear a8 a3 bg bE k0 k1 k2 t0 t1 d0 a2 d8 r f hno aT E aC O ch P ad M dP;go_wp2_with fail;refine bw.mono ?_;rintro e w7 ⟨v7,rfl,d2,cS,cV⟩;clear bw;obtain⟨a8,a3,bj⟩:=H6.o;have dH:hb<w6.heap.size:=Aac a3;have al:=a8.add d2 cS cV;have q:=bj.add dH cV;have Q:=cS.row a3 (fun e=>by rcases e with e|e;exact bj.2.2.2 e;exact bj.2.1 e);obtain⟨br,am⟩:=gx (nd.br sd);have e0:w7.cell? ⟨hb,3+sd*3,none⟩=some (.bool br.whole):=by
      rw[zP _ _ _ _ _ _ Q,Aag,am];rcases(show sd=0\/sd=1 by omega)with e|e<;>rw[e]<;>rfl
     have e1:w7.cell? ⟨hb,3+sd*3+1,none⟩=some (.int .u8 br.val.toNat):=by
      rw[zP _ _ _ _ _ _ Q,Aag,am];rcases(show sd=0\/sd=1 by omega)with e|e<;>rw[e]<;>rfl
     have e2:w7.cell? ⟨hb,3+sd*3+2,none⟩=some (.int .i64 br.node):=by
      rw[zP _ _ _ _ _ _ Q,Aag,am];rcases(show sd=0\/sd=1 by omega)with e|e<;>rw[e]<;>rfl
     have fq:(sd:Int)<2:=by omega
     have aW:=ds.o;rw[<-am]at aW;have H7:Aside _:=aI al (aI q (aI Q am));clear H6 a8 a3 bj al q Q am d2 cS cV ds;rcases aW with⟨lv,cU⟩|⟨n,bs,dR,eu,aF⟩
     ·have bR:br.whole=true:=by rw[cU]
      rw[bR]at e0;have ei:Aside _:=cU;generalize br.val.toNat=bv at*;generalize br.node=bnd at*;clear cU bR;go_wp2;go_roundw
      case rel=>
       obtain⟨al,q,Q,am⟩:=H7.o;obtain⟨r,_,_,_,E,_,_,_,P,ad,M⟩:=HP.o;have bq:Aee w7 (w7.alloc (.cells #[.bool true,.int .u8 bv,.int .i64 bnd] 192)):=(Aa.refl _ _).alloc _;refine⟨p+1,vals,cs,v7,by omega,by go_num,?_,al.grew bq,q,bq.row Q id,E⟩;refine r.leaf ad (v:=lv) ?_;rw[<-P,<-HN.o.2.1,<-M,<-am];exact ei.o
      case measure=>simp[intOf];omega
     ·have bR:br.whole=false:=by rw[aF]
      have dQ:br.node=n:=by rw[aF]
      rw[bR]at e0;rw[dQ]at e2;have cC:Aside _:=aI aF (aI bs (aI dR eu));generalize br.val.toNat=bv at*;clear aF bR dQ;go_wp2_with fail;obtain⟨al,q,Q,am⟩:=H7.o;have bq:Aee w7 (w7.alloc (.cells #[.bool false,.int .u8 bv,.int .i64 n] 192)):=(Aa.refl _ _).alloc _;have t:=zY w7 (.cells #[.bool false,.int .u8 bv,.int .i64 n] 192);have d:=al.grew bq;have U:=bq.row Q id;generalize w7.alloc (.cells #[.bool false,.int .u8 bv,.int .i64 n] 192)=w8 at*;have y:n<cs.length:=by rw[HP.o.2.2.2.2.2.1];have:=HN.o.1;omega
      have bd:=d.cols.own n y;obtain⟨na,a9,z,_⟩:=An bd;have q0:w8.cell? ⟨w7.heap.size,2,none⟩=some (.int .i64 n):=zP _ _ 2 _ _ _ t;have q1:w8.cell? ⟨gc,n,none⟩=some (.slice na (cs.getD n []).length a9):=by
       rw[zP _ _ n _ _ _ d.cols.blk,Aag,<-z,zG,zH (by rw[d.cols.len];exact y)];rfl
      have fo:(n:Int)<(N:Int):=by have:=HN.o.1;omega
      have bI:w7.heap.size<w8.heap.size:=Aac t;have aj: ∀k,(vals.getD n undef).ownBlock=some k->k≠w7.heap.size:=fun k e=>by have:=(al.cols.own n y).lt k e;omega
      rw[z]at bd;have d9:(cs.getD n []).length<=6000:=by
       have eo:=(HP.o.1.at_ n i sd dR bs (by omega) (by omega) (by rw[<-HN.o.2.1,<-am];exact cC.o.1)).2.1 rfl;rw[eo];have h1:=Ac7 (fun b=>As (lnB L) (Bq L) (Ab nds i).depth b==sd) ((Aq (lnB L) (Bq L) nds col i).take p);have h2:=Nt (lnB L) (Bq L) nds col i;rw[zS]at h1;omega
      have H8:Aside _:=aI d (aI q (aI U (aI z (aI y (aI t aj)))));obtain⟨nl,bt⟩:=gx ((cs.getD n []).length);rw[<-bt]at q1 bd d9;have bX:=aZ bt;have dr:=aZ am;clear H7 al q Q bq d U z am bt aj;refine Aca (S:=fun X=>X.cell? ⟨w7.heap.size,2,none⟩=some (.int .i64 n)) (by kernel_rfl) ?_ (fun hHeld=>?_)
      ·exact q0
      have q2:(w8.alloc (.cells #[.int .u8 bn] 5)).cell? ⟨w7.heap.size,2,none⟩=some (.int .i64 n):=(((Aa.refl (fun _=>False) w8).alloc _).cell (p:=⟨w7.heap.size,2,none⟩) bI id).trans q0;have bB:gc<w8.heap.size:=z9 _ _ q1;have q3:(w8.alloc (.cells #[.int .u8 bn] 5)).cell? ⟨gc,n,none⟩=some (.slice na nl a9):=(((Aa.refl (fun _=>False) w8).alloc _).cell (p:=⟨gc,n,none⟩) bB id).trans q1
      refine tW 0 ⟨some 57,.move (.tmp 7),229,"tree.go:70",#[],none⟩ _ ?_
      refine tW 1 ⟨some 58,.fieldAddr 192 (.tmp 14) 2,0,"tree.go:70",#[],none⟩ _ ?_
      refine tW 2 ⟨some 59,.load 3 (.tmp 58),3,"tree.go:70",#[⟨1,.data⟩],none⟩ _ ?_
      refine tW 3 ⟨some 60,.move (.tmp 7),229,"tree.go:70",#[],none⟩ _ ?_
      refine tW 4 ⟨some 61,.fieldAddr 192 (.tmp 14) 2,0,"tree.go:70",#[],none⟩ _ ?_
      refine tW 5 ⟨some 62,.load 3 (.tmp 61),3,"tree.go:70",#[⟨4,.data⟩],none⟩ _ ?_
      refine tW 6 ⟨some 63,.indexAddr 229 (.tmp 60) (.tmp 62),0,"tree.go:70",#[⟨3,.data⟩,⟨5,.data⟩],none⟩ _ ?_
      refine tW 8 ⟨some 65,.move (.tmp 12),5,"tree.go:70",#[],none⟩ _ ?_
      refine Aaq (rs:=[7,9]) (by kernel_rfl) (by simp) ?_;refine Aad rfl (fun K hK=>?_) (Aad rfl (fun K hK=>?_) Aal)
      ·go_simp;refine hK.o _ _ q0 (fun hHeld=>?_);clear hK K;refine Aaq (rs:=[9]) (by kernel_rfl) (by simp) ?_;refine Aad rfl (fun K hK=>?_) Aal;go_simp;refine hK.o _ _ q2 (fun hHeld=>?_);clear hK K;refine Aaq (rs:=[10]) (by kernel_rfl) (by simp) ?_;refine Aad rfl (fun K hK=>?_) Aal;refine step_append_lies _ rfl (.tmp 64) (.tmp 66) 79 rfl 0 5 i8 (.int .u8 0) 1 1 underlying79 dI c9 cA cB rfl (by decide) (.slice na nl a9) nl (Ag (cs.getD n [])) rfl (bd.alloc _).drew ⟨w8.heap.size,0,none⟩ 1 1 [.int .u8 bn] rfl rfl (fun j u h=>Ac6 w8 _ _ j u h) (by intro u hu;simp at hu;subst hu;rfl) (by decide) (by unfold maxLen;omega) (by omega) (zZ _) _ rfl ?_;intro g9 aq w9 aY b9 aM dN;obtain⟨d,q,U,z,cW,t,aj⟩:=H8.o;rw[<-bX.o]at z;have G:Aa (fun j=>(vals.getD n undef).ownBlock=some j) w8 w9:=((Aa.refl (fun j=>(vals.getD n undef).ownBlock=some j) w8).alloc _).drew.grown b9 (fun k hk=> .inr (by rw[z];exact hk.symm▸rfl));have aw:Ck w8 (vals.getD n undef) (.slice (some ⟨g9,0,none⟩) (nl+1) aq):=fun k hk=>by
        have e:g9=k:=Aak hk;rcases aM with c|c
        ·exact .inl (by rw[z,<-e];exact c)
        ·right;have:(w8.alloc (.cells #[.int .u8 bn] 5)).drew.heap.size=w8.heap.size+1:=by simp
         omega
       have aK:Ag (cs.getD n [])++[.int .u8 bn]=Ag (cs.getD n []++[b]):=by rw[dq.o];simp[Ag]
       have bH:(cs.getD n []++[b]).length=nl+1:=by rw[zL,<-bX.o];rfl
       rw[aK]at aY;have Y:=d.app (l:=cs.getD n []++[b]) bs y G (by rw[bH];exact aY) aw;have ab:=q.app (n:=n) (by rw[d.cols.len];exact y) (wr:=w8) (Aac U) aw;have ar:w9.heap[hb]?=some (.cells (Cw nd).toArray 195 (0,0)):=G.row U (fun e=>q.1 n hb (by rw[d.cols.len];exact y) e rfl);have Z:(w9.setCell ⟨gc,n,none⟩ (.slice (some ⟨g9,0,none⟩) (nl+1) aq)).heap[hb]?=some (.cells (Cw nd).toArray 195 (0,0)):=by
        rw[Acg _ _ _ _ q.2.2.1];exact ar
       have aL:=G.row d.cols.blk (fun e=>d.cols.ne n gc y e rfl);have r0:w9.cell? ⟨w7.heap.size,2,none⟩=some (.int .i64 n):=(G.cell (p:=⟨w7.heap.size,2,none⟩) bI (fun e=>aj _ e rfl)).trans q0;have r1:w9.cell? ⟨gc,n,none⟩=some (.slice na nl a9):=(G.cell (p:=⟨gc,n,none⟩) bB (fun e=>d.cols.ne n gc y e rfl)).trans q1;have r2:w9.frozen? ⟨gc,n,none⟩=false:=zR _ _ n _ _ aL;have bC:gc≠w7.heap.size:=by have h1:=d.gB;have h2:=d.kept.size;intro e;rw[<-e]at t;have:=d.cols.blk;rw[this]at t;simp only[Option.some.injEq,Obj.cells.injEq]at t;exact absurd t.2.1 (by decide)
       have r3:(w9.setCell ⟨gc,n,none⟩ (.slice (some ⟨g9,0,none⟩) (nl+1) aq)).cell? ⟨w7.heap.size,2,none⟩=some (.int .i64 n):=by
        rw[Aci _ _ _ _ (by intro e';simp only[Addr.mk.injEq]at e';exact bC e'.1)];exact r0
       have H9:Aside _:=aI Y (aI ab Z);clear d q U z t aj G aw aK bH aY b9 aM Y ab Z ar aL bC;simp only[Act.put,zO];refine hK.o _ _ r0 (fun hHeld=>?_);clear hK K
       refine tW 11 ⟨some 68,.indexAddr 229 (.tmp 57) (.tmp 59),0,"tree.go:70",#[⟨0,.data⟩,⟨2,.data⟩,⟨0,.phase⟩,⟨1,.phase⟩,⟨2,.phase⟩,⟨3,.phase⟩,⟨4,.phase⟩,⟨5,.phase⟩,⟨6,.phase⟩,⟨7,.phase⟩,⟨8,.phase⟩,⟨9,.phase⟩,⟨10,.phase⟩],none⟩ _ ?_
       refine Aaq (rs:=[12]) (by kernel_rfl) (by simp) ?_;refine Aad rfl (fun K hK=>?_) Aal;go_simp;refine hK.o _ _ r3 (fun hHeld=>?_);clear hK K;refine Ach (by kernel_rfl) ?_ _;clear r0 r1 r2 r3 q0 q1 q2 q3 bd hHeld;go_wp2;go_roundw
       case rel=>
        obtain⟨Y,ab,Z⟩:=H9.o;obtain⟨r,_,_,_,E,aC,_,_,P,ad,M⟩:=HP.o;refine⟨p+1,_,_,v7,by omega,by go_num,?_,Y,ab,Z,?_⟩
        ·rw[P];refine r.node HH.o.2.1 (by have:=HN.o.1;omega) ad bs ?_;rw[<-P,<-HN.o.2.1,<-M];exact dr.o.symm.trans cC.o.1
        ·rw[Iz _ _ _ _ (by have:=Y.cols.len;rw[Abb,Abb]at this;omega),iN];exact E
       case measure=>simp[intOf];omega
      ·go_simp;refine hK.o _ _ q2 (fun hHeld=>?_);clear hK K;refine Aaq (rs:=[7]) (by kernel_rfl) (by simp) ?_;refine Aad rfl (fun K hK=>?_) Aal;go_simp;refine hK.o _ _ q2 (fun hHeld=>?_);clear hK K;refine Aaq (rs:=[10]) (by kernel_rfl) (by simp) ?_;refine Aad rfl (fun K hK=>?_) Aal;refine step_append_lies _ rfl (.tmp 64) (.tmp 66) 79 rfl 0 5 i8 (.int .u8 0) 1 1 underlying79 dI c9 cA cB rfl (by decide) (.slice na nl a9) nl (Ag (cs.getD n [])) rfl (bd.alloc _).drew ⟨w8.heap.size,0,none⟩ 1 1 [.int .u8 bn] rfl rfl (fun j u h=>Ac6 w8 _ _ j u h) (by intro u hu;simp at hu;subst hu;rfl) (by decide) (by unfold maxLen;omega) (by omega) (zZ _) _ rfl ?_;intro g9 aq w9 aY b9 aM dN;obtain⟨d,q,U,z,cW,t,aj⟩:=H8.o;rw[<-bX.o]at z;have G:Aa (fun j=>(vals.getD n undef).ownBlock=some j) w8 w9:=((Aa.refl (fun j=>(vals.getD n undef).ownBlock=some j) w8).alloc _).drew.grown b9 (fun k hk=> .inr (by rw[z];exact hk.symm▸rfl));have aw:Ck w8 (vals.getD n undef) (.slice (some ⟨g9,0,none⟩) (nl+1) aq):=fun k hk=>by
        have e:g9=k:=Aak hk;rcases aM with c|c
        ·exact .inl (by rw[z,<-e];exact c)
        ·right;have:(w8.alloc (.cells #[.int .u8 bn] 5)).drew.heap.size=w8.heap.size+1:=by simp
         omega
       have aK:Ag (cs.getD n [])++[.int .u8 bn]=Ag (cs.getD n []++[b]):=by rw[dq.o];simp[Ag]
       have bH:(cs.getD n []++[b]).length=nl+1:=by rw[zL,<-bX.o];rfl
       rw[aK]at aY;have Y:=d.app (l:=cs.getD n []++[b]) bs y G (by rw[bH];exact aY) aw;have ab:=q.app (n:=n) (by rw[d.cols.len];exact y) (wr:=w8) (Aac U) aw;have ar:w9.heap[hb]?=some (.cells (Cw nd).toArray 195 (0,0)):=G.row U (fun e=>q.1 n hb (by rw[d.cols.len];exact y) e rfl);have Z:(w9.setCell ⟨gc,n,none⟩ (.slice (some ⟨g9,0,none⟩) (nl+1) aq)).heap[hb]?=some (.cells (Cw nd).toArray 195 (0,0)):=by
        rw[Acg _ _ _ _ q.2.2.1];exact ar
       have aL:=G.row d.cols.blk (fun e=>d.cols.ne n gc y e rfl);have r0:w9.cell? ⟨w7.heap.size,2,none⟩=some (.int .i64 n):=(G.cell (p:=⟨w7.heap.size,2,none⟩) bI (fun e=>aj _ e rfl)).trans q0;have r1:w9.cell? ⟨gc,n,none⟩=some (.slice na nl a9):=(G.cell (p:=⟨gc,n,none⟩) bB (fun e=>d.cols.ne n gc y e rfl)).trans q1;have r2:w9.frozen? ⟨gc,n,none⟩=false:=zR _ _ n _ _ aL;have bC:gc≠w7.heap.size:=by have h1:=d.gB;have h2:=d.kept.size;intro e;rw[<-e]at t;have:=d.cols.blk;rw[this]at t;simp only[Option.some.injEq,Obj.cells.injEq]at t;exact absurd t.2.1 (by decide)
       have r3:(w9.setCell ⟨gc,n,none⟩ (.slice (some ⟨g9,0,none⟩) (nl+1) aq)).cell? ⟨w7.heap.size,2,none⟩=some (.int .i64 n):=by
        rw[Aci _ _ _ _ (by intro e';simp only[Addr.mk.injEq]at e';exact bC e'.1)];exact r0
       have H9:Aside _:=aI Y (aI ab Z);clear d q U z t aj G aw aK bH aY b9 aM Y ab Z ar aL bC;simp only[Act.put,zO];refine hK.o _ _ r0 (fun hHeld=>?_);clear hK K
       refine tW 11 ⟨some 68,.indexAddr 229 (.tmp 57) (.tmp 59),0,"tree.go:70",#[⟨0,.data⟩,⟨2,.data⟩,⟨0,.phase⟩,⟨1,.phase⟩,⟨2,.phase⟩,⟨3,.phase⟩,⟨4,.phase⟩,⟨5,.phase⟩,⟨6,.phase⟩,⟨7,.phase⟩,⟨8,.phase⟩,⟨9,.phase⟩,⟨10,.phase⟩],none⟩ _ ?_
       refine Aaq (rs:=[12]) (by kernel_rfl) (by simp) ?_;refine Aad rfl (fun K hK=>?_) Aal;go_simp;refine hK.o _ _ r3 (fun hHeld=>?_);clear hK K;refine Ach (by kernel_rfl) ?_ _;clear r0 r1 r2 r3 q0 q1 q2 q3 bd hHeld;go_wp2;go_roundw
       case rel=>
        obtain⟨Y,ab,Z⟩:=H9.o;obtain⟨r,_,_,_,E,aC,_,_,P,ad,M⟩:=HP.o;refine⟨p+1,_,_,v7,by omega,by go_num,?_,Y,ab,Z,?_⟩
        ·rw[P];refine r.node HH.o.2.1 (by have:=HN.o.1;omega) ad bs ?_;rw[<-P,<-HN.o.2.1,<-M];exact dr.o.symm.trans cC.o.1
        ·rw[Iz _ _ _ _ (by have:=Y.cols.len;rw[Abb,Abb]at this;omega),iN];exact E
       case measure=>simp[intOf];omega
    ·obtain rfl:p=li:=by omega
     have cN:=(dF p p).2;have H2:Aside (Kv (lnB L) (Bq L) nds col (i+1) 0 cs/\TSt W0 W2 gc b8 vals cs v8 (Hm.tb (lnB L) (Bq L) nds col (i+1) 0)):=by
      refine⟨?_,?_⟩
      ·refine Kv.next (i:=i) ?_ HH.o.2.1 HH.o.1.numk HH.o.2.2.2;rw[<-au,<-V];exact r
      ·rw[<-yK,<-au,<-V];exact f
     clear r f hno aT E C ao au V aC;go_wp2;go_roundw
     case rel=>exact⟨i+1,vals,cs,v8,by omega,by go_num,H2.o.1,H2.o.2⟩
     case measure=>simp[intOf];omega
  ·obtain rfl:i=N:=by omega
   have dB:=(dF i i).2;obtain⟨R,hR⟩:=gx ((Ax (lnB L) (Bq L) nds col i).map (fun x=>decide (x=1)));rw[cM,<-hR]at f;have fg:R.length<=2000000:=by
    rw[hR,Aai];have h1:=Mb (lnB L) (Bq L) nds col i;have h2:i*col.length<=255*6000:=Aa4 (by omega) hl;omega
   have HR:Aside (R=(Ax (lnB L) (Bq L) nds col i).map (fun x=>decide (x=1))/\(Ax (lnB L) (Bq L) nds col i).length=R.length):=⟨hR,by rw[hR,Aai]⟩;have bc:=f.kept.row H0.o.2.2.2.1 (fun e=>by have:=HB.o;rcases e with e|e<;>omega);have bb:=f.kept.row H0.o.2.2.1 (fun e=>by have:=HB.o;rcases e with e|e<;>omega);have aX:=f.kept.owns H0.o.2.2.2.2 (fun j hj e=>by have e1:ng=j:=Aak hj;have:=HB.o;rcases e with e|e<;>omega);have c0:Aee w wr:=H0.o.2.1.trans f.kept (fun j h1 h2=>by have:=HB.o;rcases h2 with h2|h2<;>omega);have cu:=f.bat;have bu:(⟨(Ah R).toArray⟩:ByteArray).size=(Ah R).length:=by show(Ah R).toArray.size=_;simp
   have bk:=A8 R;have b5:=fun W=>Ld Fa ⟨(Ah R).toArray⟩ R.length W (by rw[bu,bk];omega);have e3:(⟨(Ah R).toArray⟩:ByteArray).size<=1000000:=by rw[bu,bk];omega
   have bO:=fun(X:World) (hX:Em X 221 b8 v8 R)=>bU 221 b8 v8 R X hX;obtain⟨s,hS⟩:=gx (⟨(Ah R).toArray⟩:ByteArray);rw[<-hS]at b5 bO e3;have cT:R.length<=8*s.size:=by rw[hS,bu,bk];omega
   have HS:=aZ hS;have bV:Aside _:=b5;have cD:Aside _:=bO;have H3:Aside _:=aI bb (aI aX (aI c0 (aI cu bc)));have cJ:=fun g=>aB s R.length g col.length (Bf L) (some ⟨ng,0,none⟩) i nc (A5 _ _ _ _);rw[<-HT.o.1]at cJ;obtain⟨TA,cG⟩: ∃TA:Nat->Array Value,∀g,TA g=(A6 s R.length g (Bf L) (.slice (some ⟨ng,0,none⟩) i nc) (List.replicate 256 0) col.length).toArray:=⟨_,fun _=>rfl⟩;have cv: ∀g,prog.built 96 [(0,.agg #[.string s,.int .i64 R.length,.slice (some ⟨g,0,none⟩) (s.size+1) (s.size+1)]),(1,.agg TT),(2,.slice (some ⟨ng,0,none⟩) i nc),(4,.int .i64 col.length)]=some (TA g):=fun g=>by rw[cG];exact cJ g
   have ay:Aside _:=cG;have bT:Aside _:=cv;clear cJ cv cG;have eL:w2.heap.size<wr.heap.size:=Aac bc;have eR:ng<wr.heap.size:=(aX.lt ng rfl).2;have eT:w.heap.size+1<wr.heap.size:=Aac bb;clear hR bu bk b5 bO hS bb aX c0 cu f r H0;go_wp2_with fail
   go_cut[15]from 16 (fun eA wz=> ∃tb g:Nat,eA= .pointer (some ⟨tb,0,none⟩)/\Aside (Bg wz tb s R.length g (Bf L) (.slice (some ⟨ng,0,none⟩) i nc) nds (List.replicate 256 0) col.length/\Aee w wz/\wz.heap[w.heap.size+1]?=some (.cells Tryz.zeroCells96 96 (0,0))/\w.heap.size+1<tb))
   case first=>
    refine Aca (S:=fun X=>X.heap[w2.heap.size]?=some (.cells TT 92 (0,0))) (by kernel_rfl) ?_ (fun hHeld=>?_)
    ·exact bc
    refine tK 2 ⟨some 73,.load 92 (.tmp 5),92,"tree.go:74",#[],none⟩ (.agg TT) (fun X hX => Fi X 92 (.tmp 5) rfl w2.heap.size rfl 92 TT (0, 0) _ hX underlying92 rfl (by rw [HT.o.2.1]; exact Qr)) ?_
    simp only[Act.put,zO,zW,z5]
    refine tW 3 ⟨some 74,.move (.tmp 6),93,"tree.go:74",#[],none⟩ _ ?_
    refine tW 4 ⟨some 75,.move (.tmp 0),79,"tree.go:74",#[],none⟩ _ ?_
    refine tW 5 ⟨some 76,.call ⟨.builtin .len,#[.tmp 75],#[79]⟩,3,"tree.go:74",#[⟨4,.data⟩],none⟩ _ ?_
    refine Aaq (rs:=[0,7]) (by kernel_rfl) (by simp) ?_;refine Aad rfl (fun K hK=>?_) (Aad rfl (fun K hK=>?_) Aal)
    ·go_simp;refine(cD.o _ (H3.o.2.2.2.1.kept (Aa.refl (fun _=>False) wr).drew id (fun _ _=>id))).mono ?_;rintro e wa ⟨rfl,bp⟩;have an:Aee wr wa:=(Aa.refl (fun _=>False) wr).drew.tr bp;refine hK.o _ _ (an.row H3.o.2.2.2.2 id) (fun hHeld=>?_);clear hK K bp;refine Aaq (rs:=[1,7]) (by kernel_rfl) (by simp) ?_;refine Aad rfl (fun K hK=>?_) (Aad rfl (fun K hK=>?_) Aal)
     ·go_simp;refine(bV.o wa).mono ?_;rintro e wb ⟨g,hg,rfl,cP,az⟩;have cf:Aee wr wb:=an.tr az;refine hK.o _ _ (cf.row H3.o.2.2.2.2 id) (fun hHeld=>?_);clear hK K az
      refine tK 6 ⟨some 77,.build 96 #[(0, .tmp 72), (1, .tmp 73), (2, .tmp 74), (4, .tmp 76)],96,"tree.go:74",#[⟨1,.data⟩,⟨2,.data⟩,⟨3,.data⟩,⟨5,.data⟩],none⟩ (.agg (TA g)) (fun X _ => Iy X 96 0 1 2 4 (.tmp 72) (.tmp 73) (.tmp 74) (.tmp 76) rfl _ _ _ _ rfl rfl rfl rfl _ (bT.o g)) ?_
      simp only[Act.put,zO,zW,z5];refine Aaq (rs:=[7]) (by kernel_rfl) (by simp) ?_;refine Aad rfl (fun K hK=>?_) Aal;go_simp;have A:Aee wr (wb.alloc (.cells Tryz.zeroCells96 96)):=cf.alloc _;have O:=zY wb (.cells Tryz.zeroCells96 96);have ah:IntRow (wb.alloc (.cells Tryz.zeroCells96 96)) g (B8 s.data.toList):=cP.kept ((Aa.refl (fun _=>False) wb).alloc _) id;have aD:g≠wb.heap.size:=Nat.ne_of_lt cP.lt;have cO:wr.heap.size<=g:=Aaf an.size hg;have db:wr.heap.size<=wb.heap.size:=cf.size;refine hK.o _ _ (A.row H3.o.2.2.2.2 id) (fun hHeld=>?_);clear hK K cP cf an hg;generalize wb.alloc (.cells Tryz.zeroCells96 96)=X at*;generalize wb.heap.size=tb at*;refine Aaq (rs:=[8]) (by kernel_rfl) (by simp) ?_;refine Aad rfl (fun K hK=>?_) Aal;have F:(TA g).size=773:=by rw[ay.o,Aaa,Cq s R.length g (Bf L) (.slice (some ⟨ng,0,none⟩) i nc) (List.replicate 256 0) col.length (A5 _ _ _ _) zV]
      have ag:(TA g).all (·.oneCell')=true:=by rw[ay.o];exact Eu _ _ _ _ _ _ _ rfl
      refine Cd X (op := ⟨none,.store 96 (.tmp 15) (.tmp 77),0,"tree.go:74",#[⟨7,.data⟩,⟨6,.data⟩,⟨1,.chain⟩,⟨0,.phase⟩,⟨1,.phase⟩,⟨2,.phase⟩,⟨3,.phase⟩,⟨4,.phase⟩,⟨5,.phase⟩,⟨6,.phase⟩,⟨7,.phase⟩],none⟩) rfl 96 (.tmp 15) (.tmp 77) rfl tb 96 Tryz.zeroCells96 (TA g) rfl rfl O (by rw [F]; exact Ce) (by rw [F]; exact Gv) ag ?_
      intro wz aP B;have bL:w2.heap.size≠tb:=by omega
      refine hK.o _ _ (B.row (A.row H3.o.2.2.2.2 id) bL) (fun hHeld=>?_);clear hK K;refine Ach (by kernel_rfl) ?_ _;have C:i=nds.length:=HH.o.2.2.1.symm;have aJ:Bg wz tb s R.length g (Bf L) (.slice (some ⟨ng,0,none⟩) i nc) nds (List.replicate 256 0) col.length:=by
       refine⟨by rw[<-ay.o g];exact aP,ah.kept B aD,?_,A5 _ _ _ _,zV,?_,aD,?_⟩
       ·rw[<-C];exact Hn (B.owns (A.owns H3.o.2.1 (fun _ _=>id)) (fun j hj e=>by have e1:ng=j:=Aak hj;omega))
       ·intro e;have e1:ng=tb:=Aak e;omega
       ·intro e;have e1:ng=g:=Aak e;omega
      have ai:Aee w wz:=(H3.o.2.2.1.tr A).trans B (fun j h1 h2=>by omega);have H:=B.row (A.row H3.o.1 id) (by omega:w.heap.size+1≠tb);have H4:Aside (Bg wz tb s R.length g (Bf L) (.slice (some ⟨ng,0,none⟩) i nc) nds (List.replicate 256 0) col.length/\Aee w wz/\wz.heap[w.heap.size+1]?=some (.cells Tryz.zeroCells96 96 (0,0))/\w.heap.size+1<tb):=⟨aJ,ai,H,by omega⟩;clear aJ ai H aP B ah A O F ag hHeld C;go_wp2_with fail;go_meet
      case rel=>exact⟨tb,g,rfl,H4⟩
     ·go_simp;have aE:Aee wr (wa.alloc (.cells Tryz.zeroCells96 96)):=an.alloc _;have a7:=zY wa (.cells Tryz.zeroCells96 96);refine hK.o _ _ (aE.row H3.o.2.2.2.2 id) (fun hHeld=>?_);clear hK K;refine Aaq (rs:=[1]) (by kernel_rfl) (by simp) ?_;refine Aad rfl (fun K hK=>?_) Aal;go_simp;refine(bV.o _).mono ?_;rintro e X ⟨g,hg,rfl,ah,az⟩;have A:Aee wr X:=aE.tr az;have O:=az.row a7 id;have ey:=Aac a7;have aD:g≠wa.heap.size:=by omega
      have cO:wr.heap.size<=g:=Aaf aE.size hg;have db:wr.heap.size<=wa.heap.size:=an.size;refine hK.o _ _ (A.row H3.o.2.2.2.2 id) (fun hHeld=>?_);clear hK K aE a7 az an hg ey
      refine tK 6 ⟨some 77,.build 96 #[(0, .tmp 72), (1, .tmp 73), (2, .tmp 74), (4, .tmp 76)],96,"tree.go:74",#[⟨1,.data⟩,⟨2,.data⟩,⟨3,.data⟩,⟨5,.data⟩],none⟩ (.agg (TA g)) (fun X _ => Iy X 96 0 1 2 4 (.tmp 72) (.tmp 73) (.tmp 74) (.tmp 76) rfl _ _ _ _ rfl rfl rfl rfl _ (bT.o g)) ?_
      simp only[Act.put,zO,zW,z5];generalize wa.heap.size=tb at*;refine Aaq (rs:=[8]) (by kernel_rfl) (by simp) ?_;refine Aad rfl (fun K hK=>?_) Aal;have F:(TA g).size=773:=by rw[ay.o,Aaa,Cq s R.length g (Bf L) (.slice (some ⟨ng,0,none⟩) i nc) (List.replicate 256 0) col.length (A5 _ _ _ _) zV]
      have ag:(TA g).all (·.oneCell')=true:=by rw[ay.o];exact Eu _ _ _ _ _ _ _ rfl
      refine Cd X (op := ⟨none,.store 96 (.tmp 15) (.tmp 77),0,"tree.go:74",#[⟨7,.data⟩,⟨6,.data⟩,⟨1,.chain⟩,⟨0,.phase⟩,⟨1,.phase⟩,⟨2,.phase⟩,⟨3,.phase⟩,⟨4,.phase⟩,⟨5,.phase⟩,⟨6,.phase⟩,⟨7,.phase⟩],none⟩) rfl 96 (.tmp 15) (.tmp 77) rfl tb 96 Tryz.zeroCells96 (TA g) rfl rfl O (by rw [F]; exact Ce) (by rw [F]; exact Gv) ag ?_
      intro wz aP B;have bL:w2.heap.size≠tb:=by omega
      refine hK.o _ _ (B.row (A.row H3.o.2.2.2.2 id) bL) (fun hHeld=>?_);clear hK K;refine Ach (by kernel_rfl) ?_ _;have C:i=nds.length:=HH.o.2.2.1.symm;have aJ:Bg wz tb s R.length g (Bf L) (.slice (some ⟨ng,0,none⟩) i nc) nds (List.replicate 256 0) col.length:=by
       refine⟨by rw[<-ay.o g];exact aP,ah.kept B aD,?_,A5 _ _ _ _,zV,?_,aD,?_⟩
       ·rw[<-C];exact Hn (B.owns (A.owns H3.o.2.1 (fun _ _=>id)) (fun j hj e=>by have e1:ng=j:=Aak hj;omega))
       ·intro e;have e1:ng=tb:=Aak e;omega
       ·intro e;have e1:ng=g:=Aak e;omega
      have ai:Aee w wz:=(H3.o.2.2.1.tr A).trans B (fun j h1 h2=>by omega);have H:=B.row (A.row H3.o.1 id) (by omega:w.heap.size+1≠tb);have H4:Aside (Bg wz tb s R.length g (Bf L) (.slice (some ⟨ng,0,none⟩) i nc) nds (List.replicate 256 0) col.length/\Aee w wz/\wz.heap[w.heap.size+1]?=some (.cells Tryz.zeroCells96 96 (0,0))/\w.heap.size+1<tb):=⟨aJ,ai,H,by omega⟩;clear aJ ai H aP B ah A O F ag hHeld C;go_wp2_with fail;go_meet
      case rel=>exact⟨tb,g,rfl,H4⟩
    ·go_simp;have aE:Aee wr (wr.alloc (.cells Tryz.zeroCells96 96)).drew:=((Aa.refl (fun _=>False) wr).alloc _).drew;have a7:(wr.alloc (.cells Tryz.zeroCells96 96)).drew.heap[wr.heap.size]?=some (.cells Tryz.zeroCells96 96 (0,0)):=zY wr _;refine hK.o _ _ (aE.row H3.o.2.2.2.2 id) (fun hHeld=>?_);clear hK K;refine Aaq (rs:=[0]) (by kernel_rfl) (by simp) ?_;refine Aad rfl (fun K hK=>?_) Aal;go_simp;refine(cD.o _ (H3.o.2.2.2.1.kept aE id (fun _ _=>id))).mono ?_;rintro e wa ⟨rfl,bp⟩;have an:Aee wr wa:=aE.tr bp;have bQ:=bp.row a7 id;refine hK.o _ _ (an.row H3.o.2.2.2.2 id) (fun hHeld=>?_);clear hK K bp a7 aE;refine Aaq (rs:=[1]) (by kernel_rfl) (by simp) ?_;refine Aad rfl (fun K hK=>?_) Aal;go_simp;refine(bV.o _).mono ?_;rintro e X ⟨g,hg,rfl,ah,az⟩;have A:Aee wr X:=an.tr az;have O:=az.row bQ id;have ex:=Aac bQ;have aD:g≠wr.heap.size:=by omega
     have cO:wr.heap.size<=g:=Aaf an.size hg;have db:wr.heap.size<=wr.heap.size:=zK _;refine hK.o _ _ (A.row H3.o.2.2.2.2 id) (fun hHeld=>?_);clear hK K bQ az an hg ex
     refine tK 6 ⟨some 77,.build 96 #[(0, .tmp 72), (1, .tmp 73), (2, .tmp 74), (4, .tmp 76)],96,"tree.go:74",#[⟨1,.data⟩,⟨2,.data⟩,⟨3,.data⟩,⟨5,.data⟩],none⟩ (.agg (TA g)) (fun X _ => Iy X 96 0 1 2 4 (.tmp 72) (.tmp 73) (.tmp 74) (.tmp 76) rfl _ _ _ _ rfl rfl rfl rfl _ (bT.o g)) ?_
     simp only[Act.put,zO,zW,z5];obtain⟨tb,dY⟩:=gx wr.heap.size;rw[<-dY]at aD O|-;have db:wr.heap.size<=tb:=by omega
     refine Aaq (rs:=[8]) (by kernel_rfl) (by simp) ?_;refine Aad rfl (fun K hK=>?_) Aal;have F:(TA g).size=773:=by rw[ay.o,Aaa,Cq s R.length g (Bf L) (.slice (some ⟨ng,0,none⟩) i nc) (List.replicate 256 0) col.length (A5 _ _ _ _) zV]
     have ag:(TA g).all (·.oneCell')=true:=by rw[ay.o];exact Eu _ _ _ _ _ _ _ rfl
     refine Cd X (op := ⟨none,.store 96 (.tmp 15) (.tmp 77),0,"tree.go:74",#[⟨7,.data⟩,⟨6,.data⟩,⟨1,.chain⟩,⟨0,.phase⟩,⟨1,.phase⟩,⟨2,.phase⟩,⟨3,.phase⟩,⟨4,.phase⟩,⟨5,.phase⟩,⟨6,.phase⟩,⟨7,.phase⟩],none⟩) rfl 96 (.tmp 15) (.tmp 77) rfl tb 96 Tryz.zeroCells96 (TA g) rfl rfl O (by rw [F]; exact Ce) (by rw [F]; exact Gv) ag ?_
     intro wz aP B;have bL:w2.heap.size≠tb:=by omega
     refine hK.o _ _ (B.row (A.row H3.o.2.2.2.2 id) bL) (fun hHeld=>?_);clear hK K;refine Ach (by kernel_rfl) ?_ _;have C:i=nds.length:=HH.o.2.2.1.symm;have aJ:Bg wz tb s R.length g (Bf L) (.slice (some ⟨ng,0,none⟩) i nc) nds (List.replicate 256 0) col.length:=by
      refine⟨by rw[<-ay.o g];exact aP,ah.kept B aD,?_,A5 _ _ _ _,zV,?_,aD,?_⟩
      ·rw[<-C];exact Hn (B.owns (A.owns H3.o.2.1 (fun _ _=>id)) (fun j hj e=>by have e1:ng=j:=Aak hj;omega))
      ·intro e;have e1:ng=tb:=Aak e;omega
      ·intro e;have e1:ng=g:=Aak e;omega
     have ai:Aee w wz:=(H3.o.2.2.1.tr A).trans B (fun j h1 h2=>by omega);have H:=B.row (A.row H3.o.1 id) (by omega:w.heap.size+1≠tb);have H4:Aside (Bg wz tb s R.length g (Bf L) (.slice (some ⟨ng,0,none⟩) i nc) nds (List.replicate 256 0) col.length/\Aee w wz/\wz.heap[w.heap.size+1]?=some (.cells Tryz.zeroCells96 96 (0,0))/\w.heap.size+1<tb):=⟨aJ,ai,H,by omega⟩;clear aJ ai H aP B ah A O F ag hHeld C;go_wp2_with fail;go_meet
     case rel=>exact⟨tb,g,rfl,H4⟩
   case rest=>
    obtain⟨tb,g,rfl,H4⟩:=hcut;have eV:=H4.o.2.2.2;clear H3 bV cD ay bT;have c1:=pA Fa tb g R.length col.length i nc ng s (Bf L) nds (List.replicate 256 0) wc H4.o.1 HH.o.2.2.1.symm h0 hN HH.o.2.1.inside ej.o (by omega) cT (by omega);have dS:ng≠w.heap.size+1:=by have:=HB.o;omega
    have bJ:w.heap.size<=ng:=by have:=HB.o;omega
    go_wp2_with fail;refine c1.mono ?_;rintro e w9 ⟨fc,bS,a6,dU,c8,Y,G⟩;obtain⟨r1,r2,he⟩: ∃(a:Int) (b:Bool),e= .returned (.tuple #[.int .i64 a,.bool b]):=by
     unfold Qb at a6;cases dO:Qf (Al s.data.toList) R.length nds col.length (List.replicate 256 0)with
     |none=>rw[dO]at a6;exact⟨_,_,a6⟩
     |some st=>rw[dO]at a6;exact⟨_,_,a6.1⟩
    subst he;have b2:=Y.blk;have aN:(A6 s R.length g (Bf L) (.slice (some ⟨ng,0,none⟩) i nc) bS col.length).toArray.size=773:=by rw[Aaa,Cq s R.length g (Bf L) (.slice (some ⟨ng,0,none⟩) i nc) bS col.length (A5 _ _ _ _) c8]
    have bM:=Eu s R.length g col.length (Bf L) (.slice (some ⟨ng,0,none⟩) i nc) bS rfl;have cX:=G.row H4.o.2.2.1 (fun e=>by rcases e with e|e;omega;exact dS (Aak e));have dL:Aee w w9:=H4.o.2.1.trans G (fun j h1 h2=>by rcases h2 with h2|h2;omega;have e1:ng=j:=Aak h2;omega);obtain⟨TB,cH⟩:=gx ((A6 s R.length g (Bf L) (.slice (some ⟨ng,0,none⟩) i nc) bS col.length).toArray);rw[<-cH]at b2 aN bM;have ek:Aside _:=cH;clear a6 Y G c1 cH dU
    go_wp2_with(first
     |(refine Aa0 rfl 96 _ rfl tb rfl 96 TB (0,0) _ b2 underlying96 rfl (by rw[aN];exact Ce) ?_)
     |(refine wpList_store_row _ rfl 96 _ _ rfl (w.heap.size+1) 96 Tryz.zeroCells96 TB rfl rfl cX (by rw[aN];exact Ce) (by rw[aN];exact Gv) bM ?_;intro wf e6 ew))
    refine Aa8 (v:= .agg TB) (Abj results98 _ wf (w.heap.size+1) 96 _ (0,0) _ rfl e6 underlying96 rfl (by rw[aN];exact Ce)) rfl ⟨g,.slice (some ⟨ng,0,none⟩) i nc,bS,?_,c8,rfl,dL.trans ew (fun j h1 h2=>by omega)⟩;rw[ek.o,HS.o,HR.o.2,HR.o.1]
namespace Hm
noncomputable def Hl(L:Aeh):Nat:=Classical.epsilon fun N=>0<N/\Ends 32 (lnB L) (Af L) N
theorem Qv{L:Aeh}(h:Bz L):0<Hl L/\Ends 32 (lnB L) (Af L) (Hl L):=Classical.epsilon_spec (p:=fun N=>0<N/\Ends 32 (lnB L) (Af L) N) h.ends
noncomputable def Ek(L:Aeh):List Nd:=(Ao (lnB L) (Af L) (2*Hl L)).1
def Fv(l:Aeg)(n:Nat)(L:Aeh):Nat:=min (8*l.length) (n*Hk L)
def Fj(l:Aeg)(n:Nat)(L:Aeh)(st:Bl):Prop:=Bz L/\Qf (Al (l.take (szB (Fv l n L)))) (Fv l n L) (Ek L) n (List.replicate 256 0)=some st
end Hm
theorem qJ(x:Nat)(h:x<9223372036854775808):wrap64 (x:Int)=(x:Int):=by unfold wrap64;omega
theorem mU(x:Nat)(h:x<9223372036854775808):IntKind.i64.wrap (x:Int)=(x:Int):=by rw[Aar];omega
theorem Rm{P:Program}{w:World}{ops:Array Oper}{rest:List Oper}{o:Oper}{a:Act}{Q:Exit->Act->World->Prop}(b:o.guard=none)(t:TypeId)(c:o.op= .build t #[])(cells:Array Value)(hb:P.built t []=some cells)
  (h:wpList P ops Q rest (a.put o.dst (.agg cells)) w):wpList P ops Q (o::rest) a w:=by
 refine wpList_plain b fun K hK=>?_;unfold Oper.wp;rw[Qt w t #[] c cells (by simpa using hb)];exact hK _ _ h
theorem jZ(hones:Bc)(l:Aeg)(n:Nat)(L:Aeh)(w:World)(hn:n<=65535)(hL:L.length=256)(hx: ∀x∈L,x<=255)(dd:l.length<=281474976710656):
  Calls prog 118 #[.string ⟨l.toArray⟩,.int .i64 n,.agg (Ad L).toArray] w fun e w'=>Aee w w'/\
   ((∃st g ng nc,Fj l n L st/\w.heap.size<=g/\w.heap.size<=ng/\g≠ng/\e= .returned (.tuple #[.agg (A6 ⟨(l.take (szB st.len)).toArray⟩ st.len g (Bf L) (.slice (some ⟨ng,0,none⟩) st.nds.length nc) st.ws n).toArray,.bool true])/\st.ws.length=256/\
     IntRow w' g (B8 (l.take (szB st.len)))/\w'.ownsRow 0 195 9 (.slice (some ⟨ng,0,none⟩) st.nds.length nc) st.nds.length (Bj st.nds))\/
    ((∀st,¬Fj l n L st)/\e= .returned (.tuple #[.agg Tryz.zeroCells96,.bool false]))):=by
 have bn:=fun W=>gA L W hL hx;have ax:=fun W=>X2 L W hL;obtain⟨u,R⟩: ∃a,a=(Ad L).toArray:=⟨_,rfl⟩;have U:u.size=256:=by rw[R,Ba,hL]
 obtain⟨S,hS⟩:=gx (⟨l.toArray⟩:ByteArray);have hz:S.size=l.length:=by rw[hS];show l.toArray.size=_;simp
 obtain⟨W0,aq⟩:=gx ((w.alloc (.cells u 139)).alloc (.cells Tryz.zeroCells96 96));have bK:Aee w W0:=by rw[aq];exact((Aa.refl _ _).alloc _).alloc _
 have bh:W0.heap[w.heap.size]?=some (.cells u 139 (0,0)):=by rw[aq];exact Ab2 w _ _
 have bH:W0.heap[w.heap.size+1]?=some (.cells Tryz.zeroCells96 96 (0,0)):=by rw[aq];exact Ab3 w _ _
 have HW:=hZ aq.symm;rw[<-R]at bn ax|-;rw[<-hS];have HA:=hZ (aI R (aI hS (aI hL hx)));have z:Tryz.zeroCells96.size=773:=In;have bo:Tryz.zeroCells96.all (·.oneCell')=true:=Vp;clear aq R hS hL hx
 go_enter func118,ntmps118
 go_upto_region 1 with fail
 rw[HW.o];clear HW
 go_wp2_with(first
  |(refine Aa0 rfl 139 _ rfl w.heap.size rfl 139 u (0,0) _ bh underlying139 rfl (by rw[U];exact Ci) ?_))
 refine(bn _).mono ?_;rintro e w1 ⟨b,rfl,hb,aE⟩;clear bn;have V:=aE.row bh id;have Y:=aE.row bH id;have H1:Hid (Aee w w1/\w1.heap[w.heap.size]?=some (.cells u 139 (0,0))/\w1.heap[w.heap.size+1]?=some (.cells Tryz.zeroCells96 96 (0,0))):=⟨bK.tr aE,V,Y⟩;clear bK bh bH aE;cases b with
 |false=>
  have bd:Hid (∀st,¬Fj l n L st):=fun st h=>by have:=hb.2 h.1;cases this
  clear hb ax
  go_wp2_with(first
   |(refine Rm rfl 96 rfl Tryz.zeroCells96 aC ?_)
   |(refine wpList_store_row _ rfl 96 _ _ rfl (w.heap.size+1) 96 _ Tryz.zeroCells96 rfl rfl Y (by rw[z];exact Ce) rfl bo ?_;intro w9 a6 P))
  refine Aa8 (v:= .tuple #[.agg Tryz.zeroCells96,.bool false]) (Dr results118 _ _ (w.heap.size+1) 96 _ (0,0) _ rfl a6 underlying96 rfl (by rw[z];exact Ce)) rfl ⟨H1.o.1.trans P (fun j h1 h2=>by omega),.inr ⟨bd.o,rfl⟩⟩
 |true=>
  have hC:Bz L:=hb.1 rfl;obtain⟨bC,hE⟩:=Qv hC;have bl:Hk L<=32:=by
   by_cases h:0<Hk L
   ·obtain⟨i,hi,he⟩:=Aa5 (Wy L h);have h1:=hC.short (UInt8.ofNat i);have h2:(UInt8.ofNat i).toNat=i:=by rw[Aax];have:=HA.o.2.2.1;omega
    unfold lnB at h1;rwa[h2,zG,zH hi,he]at h1
   ·omega
  have cm:Fv l n L<=2097120:=Aaf (Nat.min_le_right _ _) (Aa4 hn bl);have bk:szB (Fv l n L)<=l.length:=by
   have:=Nat.min_le_left (8*l.length) (n*Hk L);unfold szB Fv;omega
  have aH:=fun W=>Ng l (Fv l n L) W bk (by omega) (by omega);rw[<-HA.o.2.1]at aH;have a9:Hid (Fv l n L=min (8*l.length) (n*Hk L)):=rfl;obtain⟨mx,aW⟩: ∃x,x=Hk L:=⟨_,rfl⟩;rw[<-aW]at ax a9 bl;obtain⟨nm,az⟩: ∃x,x=n*mx:=⟨_,rfl⟩;have cf:=hZ az;have aY:nm<=2097120:=by rw[az];exact Aa4 hn bl
  have dq:IntKind.i64.wrap ((n:Int)*(mx:Int))=(nm:Int):=by rw[<-Adb,<-az];exact mU nm (Abm aY (by decide))
  rw[<-az]at a9;clear az;obtain⟨s,ay⟩: ∃x,x=Fv l n L:=⟨_,rfl⟩;rw[<-ay]at aH bk cm a9;have c9:min (8*(l.length:Int)) (nm:Int)=(s:Int):=by rw[a9.o];omega
  have b6:=hZ ay;have dp:wrap64 ((n:Int)*(mx:Int))=(nm:Int):=by rw[<-Adb,<-cf.o];exact qJ nm (Abm aY (by decide))
  clear aW ay hb
  go_wp2_with(first
   |(refine Aa0 rfl 139 _ rfl w.heap.size rfl 139 u (0,0) _ V underlying139 rfl (by rw[U];exact Ci) ?_))
  refine(ax _).mono ?_;rintro e w2 ⟨rfl,aF⟩;clear ax;have c:=aF.row V id;have H2:Hid (Aee w w2/\w2.heap[w.heap.size]?=some (.cells u 139 (0,0))/\w2.heap[w.heap.size+1]?=some (.cells Tryz.zeroCells96 96 (0,0))):=⟨H1.o.1.tr aF,c,aF.row Y id⟩;clear aF V Y H1;go_wp2_with fail;have cj:=HA.o;obtain⟨T,hT⟩:=gx (⟨(l.take (szB s)).toArray⟩:ByteArray);have bF:T.data.toList=l.take (szB s):=by rw[hT]
  have bG:T.size=szB s:=by rw[hT];show(l.take _).toArray.size=_;simp;omega
  have ba:szB s<=300000:=by unfold szB;omega
  have be:Hid (∀W,Calls prog 167 #[.string S,.int .i64 s] W fun e w'=>e= .returned (.agg #[.string T,.int .i64 s])/\Aee W w'):=fun W=>by rw[hT];exact aH W
  have a8:Hid (∀W,Calls prog 147 #[.agg #[.string T,.int .i64 s]] W fun e w'=> ∃g,W.heap.size<=g/\e= .returned (.agg #[.string T,.int .i64 s,.slice (some ⟨g,0,none⟩) (T.size+1) (T.size+1)])/\IntRow w' g (B8 T.data.toList)/\Aee W w'):=fun W=>Ld hones T s W (by omega);obtain⟨TT,bg⟩:=gx ((C8 (Bf L)).toArray);have an:Hid (∀W,Calls prog 149 #[.agg u] W fun e w'=>e= .returned (.agg TT)/\Aee W w'):=fun W=>by rw[bg,HA.o.1];exact Z9 L W HA.o.2.2.1 HA.o.2.2.2 hC.fits
  obtain⟨N,aj⟩:=gx (Hl L);obtain⟨nds,Z⟩:=gx (Ek L);have bO:nds.length=N:=by rw[Z,aj];exact hE.len
  rw[<-aj]at bC;have ag:Hid (∀W,Calls prog 150 #[.agg u] W fun e w'=> ∃v,e= .returned v/\w'.ownsRow W.heap.size 195 9 v N (Bj nds)/\Aee W w'):=fun W=>by
   rw[Z,aj,HA.o.1];exact eK 32 L (Hl L) W HA.o.2.2.1 HA.o.2.2.2 hE (fun W=>Vn L W HA.o.2.2.1 HA.o.2.2.2)
  obtain⟨O,aA⟩: ∃O:Nat->Nat->Nat->Array Value,∀g ng nc,O g ng nc=(A6 T s g (Bf L) (.slice (some ⟨ng,0,none⟩) N nc) (List.replicate 256 0) n).toArray:=⟨_,fun _ _ _=>rfl⟩;have af:Hid (∀g ng nc,prog.built 96 [(0,.agg #[.string T,.int .i64 s,.slice (some ⟨g,0,none⟩) (T.size+1) (T.size+1)]),(1,.agg TT),(2,.slice (some ⟨ng,0,none⟩) N nc),(4,.int .i64 n)]=some (O g ng nc)):=fun g ng nc=>by rw[aA,bg];exact aB T s g n (Bf L) (some ⟨ng,0,none⟩) N nc (A5 _ _ _ _)
  have ah:=hZ aA;have q:Hid (∀g ng nc,(O g ng nc).size=773/\(O g ng nc).all (·.oneCell')=true):=fun g ng nc=>by
   rw[aA];exact⟨by rw[Aaa,Cq T s g (Bf L) (.slice (some ⟨ng,0,none⟩) N nc) (List.replicate 256 0) n (A5 _ _ _ _) zV],Eu _ _ _ _ _ _ _ rfl⟩
  have B:Hid (Bz L/\0<N/\N=Hl L/\nds=Ek L/\nds.length=N/\Hm.Ends 32 (lnB L) (Af L) N/\T=(⟨(l.take (szB s)).toArray⟩:ByteArray)/\T.data.toList=l.take (szB s)/\T.size=szB s/\szB s<=300000):=⟨hC,bC,aj,Z,bO,by rw[aj];exact hE,hT,bF,bG,ba⟩;have dn:=Aac c;have cM:w.heap.size+1<w2.heap.size:=Aac H2.o.2.2;clear cj aH hT bF bG ba bg aj Z bO aA hC hE
  go_cut[9]from 10 (fun v9 M=> ∃tb g ng nc:Nat,v9= .pointer (some ⟨tb,0,none⟩)/\Aside (Bg M tb T s g (Bf L) (.slice (some ⟨ng,0,none⟩) N nc) nds (List.replicate 256 0) n/\Aee w2 M/\w2.heap.size<=tb/\w2.heap.size<=g/\w2.heap.size<=ng))
  case first=>
   refine Aca (S:=fun X=>X.heap[w.heap.size]?=some (.cells u 139 (0,0))) (by kernel_rfl) ?_ (fun hHeld=>?_)
   ·exact c
   refine tW 0 ⟨some 24,.move (.tmp 0),9,"tree.go:87",#[],none⟩ _ ?_
   refine tW 1 ⟨some 25,.move (.tmp 8),3,"tree.go:87",#[],none⟩ _ ?_
   refine tK 4 ⟨some 28,.load 139 (.tmp 5),139,"tree.go:87",#[],none⟩ (.agg u) (fun X hX => Fi X 139 (.tmp 5) rfl w.heap.size rfl 139 u (0, 0) _ hX underlying139 rfl (by rw [U]; exact Ci)) ?_
   simp only[Act.put,zO,zW,z5]
   refine tK 6 ⟨some 30,.load 139 (.tmp 5),139,"tree.go:87",#[],none⟩ (.agg u) (fun X hX => Fi X 139 (.tmp 5) rfl w.heap.size rfl 139 u (0, 0) _ hX underlying139 rfl (by rw [U]; exact Ci)) ?_
   simp only[Act.put,zO,zW,z5]
   refine tW 8 ⟨some 32,.move (.tmp 1),3,"tree.go:87",#[],none⟩ _ ?_
   refine Aaq (rs:=[2,10]) (by kernel_rfl) (by simp) ?_;refine Aad rfl (fun K hK=>?_) (Aad rfl (fun K hK=>?_) Aal)
   ·go_simp;refine(be.o _).mono ?_;rintro e x1 ⟨rfl,hk⟩;have k1:Aee w2 x1:=(Aa.refl (fun _=>False) w2).drew.tr hk;have df:=hk.size;have bo:=k1.size;refine hK.o _ _ (k1.row c id) (fun hHeld=>?_);clear hK K hk;refine Aaq (rs:=[3,10]) (by kernel_rfl) (by simp) ?_;refine Aad rfl (fun K hK=>?_) (Aad rfl (fun K hK=>?_) Aal)
    ·go_simp;refine(a8.o _).mono ?_;rintro e x2 ⟨g,hg,rfl,y,hk⟩;have k2:Aee w2 x2:=k1.tr hk;have dg:=hk.size;have du:=k2.size;have m:=y;have bJ:=m.lt;clear y;refine hK.o _ _ (k2.row c id) (fun hHeld=>?_);clear hK K hk;refine Aaq (rs:=[5,10]) (by kernel_rfl) (by simp) ?_;refine Aad rfl (fun K hK=>?_) (Aad rfl (fun K hK=>?_) Aal)
     ·go_simp;refine(an.o _).mono ?_;rintro e x3 ⟨rfl,hk⟩;have k3:Aee w2 x3:=k2.tr hk;have dh:=hk.size;have dv:=k3.size;have m:=m.kept hk id;refine hK.o _ _ (k3.row c id) (fun hHeld=>?_);clear hK K hk;refine Aaq (rs:=[7,10]) (by kernel_rfl) (by simp) ?_;refine Aad rfl (fun K hK=>?_) (Aad rfl (fun K hK=>?_) Aal)
      ·go_simp;refine(ag.o _).mono ?_;rintro e x4 ⟨v,rfl,f,hk⟩;have k4:Aee w2 x4:=k3.tr hk;have cn:=hk.size;have dw:=k4.size;have m:=m.kept hk id;obtain⟨ng,nc,hv,_,G⟩:=Co f (by omega);subst hv;have aG:=(f.lt ng rfl).1;have hno:=f;clear f;refine hK.o _ _ (k4.row c id) (fun hHeld=>?_);clear hK K hk
       refine tK 9 ⟨some 33,.build 96 #[(0, .tmp 27), (1, .tmp 29), (2, .tmp 31), (4, .tmp 32)],96,"tree.go:87",#[⟨3,.data⟩,⟨5,.data⟩,⟨7,.data⟩,⟨8,.data⟩],none⟩ (.agg (O g ng nc)) (fun X _ => Iy X 96 0 1 2 4 (.tmp 27) (.tmp 29) (.tmp 31) (.tmp 32) rfl _ _ _ _ rfl rfl rfl rfl _ (af.o g ng nc)) ?_
       simp only[Act.put,zO,zW,z5];refine Aaq (rs:=[10]) (by kernel_rfl) (by simp) ?_;refine Aad rfl (fun K hK=>?_) Aal;go_simp;obtain⟨x5,aL⟩: ∃X,X=(x4.alloc (.cells Tryz.zeroCells96 96)):=⟨_,rfl⟩;have hk:Aee x4 x5:=by rw[aL];exact((Aa.refl _ _).alloc _)
       have d:x5.heap[x4.heap.size]?=some (.cells Tryz.zeroCells96 96 (0,0)):=by rw[aL];exact zY x4 _
       obtain⟨tb,k⟩: ∃t,t=x4.heap.size:=⟨_,rfl⟩;rw[<-k]at d|-;have aJ:=Acx k;have ab:=Acx k.symm;clear k;rw[<-aL];have H:=Aac d;have k5:Aee w2 x5:=k4.tr hk;have di:=hk.size;have dx:=k5.size;have m:=m.kept hk id;have hno:=hk.owns hno (fun _ _ h=>h);refine hK.o _ _ (k5.row c id) (fun hHeld=>?_);clear hK K hk aL;refine Aaq (rs:=[11]) (by kernel_rfl) (by simp) ?_;refine Aad rfl (fun K hK=>?_) Aal;refine Cd x5 rfl 96 (.tmp 9) (.tmp 33) rfl tb 96 Tryz.zeroCells96 (O g ng nc) rfl rfl d (by rw[(q.o g ng nc).1];exact Ce) (by rw[(q.o g ng nc).1];exact z) (q.o g ng nc).2 ?_;intro M E p;refine hK.o _ _ (p.row (k5.row c id) (by omega)) (fun hHeld=>?_);clear hK K;refine Ach (by kernel_rfl) ?_ _;have H4:Aside (Bg M tb T s g (Bf L) (.slice (some ⟨ng,0,none⟩) N nc) nds (List.replicate 256 0) n/\Aee w2 M/\w2.heap.size<=tb/\w2.heap.size<=g/\w2.heap.size<=ng):=by
        refine⟨⟨by rw[<-ah.o];exact E,m.kept p (by omega),?_,A5 _ _ _ _,zV,?_,by omega,?_⟩,k5.trans p (fun j h1 h2=>by omega),by omega,by omega,by omega⟩
        ·rw[B.o.2.2.2.2.1];exact Hn (p.owns hno (fun j hj e=>by have C:ng=j:=Aak hj;omega))
        ·intro e;have C:ng=tb:=Aak e;omega
        ·intro e;have C:ng=g:=Aak e;omega
       go_wp2_with fail;go_meet
       case rel=>exact⟨tb,g,ng,nc,rfl,H4⟩
      ·go_simp;obtain⟨x6,aM⟩: ∃X,X=(x3.alloc (.cells Tryz.zeroCells96 96)):=⟨_,rfl⟩;have hk:Aee x3 x6:=by rw[aM];exact((Aa.refl _ _).alloc _)
       have d:x6.heap[x3.heap.size]?=some (.cells Tryz.zeroCells96 96 (0,0)):=by rw[aM];exact zY x3 _
       obtain⟨tb,k⟩: ∃t,t=x3.heap.size:=⟨_,rfl⟩;rw[<-k]at d|-;have aJ:=Acx k;have ab:=Acx k.symm;clear k;rw[<-aM];have H:=Aac d;have k6:Aee w2 x6:=k3.tr hk;have dj:=hk.size;have dy:=k6.size;have m:=m.kept hk id;refine hK.o _ _ (k6.row c id) (fun hHeld=>?_);clear hK K hk aM;refine Aaq (rs:=[7]) (by kernel_rfl) (by simp) ?_;refine Aad rfl (fun K hK=>?_) Aal;go_simp;refine(ag.o _).mono ?_;rintro e x7 ⟨v,rfl,f,hk⟩;have k7:Aee w2 x7:=k6.tr hk;have dk:=hk.size;have dz:=k7.size;have m:=m.kept hk id;have d:=hk.row d id;obtain⟨ng,nc,hv,_,G⟩:=Co f (by omega);subst hv;have aG:=(f.lt ng rfl).1;have hno:=f;clear f;refine hK.o _ _ (k7.row c id) (fun hHeld=>?_);clear hK K hk
       refine tK 9 ⟨some 33,.build 96 #[(0, .tmp 27), (1, .tmp 29), (2, .tmp 31), (4, .tmp 32)],96,"tree.go:87",#[⟨3,.data⟩,⟨5,.data⟩,⟨7,.data⟩,⟨8,.data⟩],none⟩ (.agg (O g ng nc)) (fun X _ => Iy X 96 0 1 2 4 (.tmp 27) (.tmp 29) (.tmp 31) (.tmp 32) rfl _ _ _ _ rfl rfl rfl rfl _ (af.o g ng nc)) ?_
       simp only[Act.put,zO,zW,z5];refine Aaq (rs:=[11]) (by kernel_rfl) (by simp) ?_;refine Aad rfl (fun K hK=>?_) Aal;refine Cd x7 rfl 96 (.tmp 9) (.tmp 33) rfl tb 96 Tryz.zeroCells96 (O g ng nc) rfl rfl d (by rw[(q.o g ng nc).1];exact Ce) (by rw[(q.o g ng nc).1];exact z) (q.o g ng nc).2 ?_;intro M E p;refine hK.o _ _ (p.row (k7.row c id) (by omega)) (fun hHeld=>?_);clear hK K;refine Ach (by kernel_rfl) ?_ _;have H4:Aside (Bg M tb T s g (Bf L) (.slice (some ⟨ng,0,none⟩) N nc) nds (List.replicate 256 0) n/\Aee w2 M/\w2.heap.size<=tb/\w2.heap.size<=g/\w2.heap.size<=ng):=by
        refine⟨⟨by rw[<-ah.o];exact E,m.kept p (by omega),?_,A5 _ _ _ _,zV,?_,by omega,?_⟩,k7.trans p (fun j h1 h2=>by omega),by omega,by omega,by omega⟩
        ·rw[B.o.2.2.2.2.1];exact Hn (p.owns hno (fun j hj e=>by have C:ng=j:=Aak hj;omega))
        ·intro e;have C:ng=tb:=Aak e;omega
        ·intro e;have C:ng=g:=Aak e;omega
       go_wp2_with fail;go_meet
       case rel=>exact⟨tb,g,ng,nc,rfl,H4⟩
     ·go_simp;obtain⟨x8,aN⟩: ∃X,X=(x2.alloc (.cells Tryz.zeroCells96 96)):=⟨_,rfl⟩;have hk:Aee x2 x8:=by rw[aN];exact((Aa.refl _ _).alloc _)
      have d:x8.heap[x2.heap.size]?=some (.cells Tryz.zeroCells96 96 (0,0)):=by rw[aN];exact zY x2 _
      obtain⟨tb,k⟩: ∃t,t=x2.heap.size:=⟨_,rfl⟩;rw[<-k]at d|-;have aJ:=Acx k;have ab:=Acx k.symm;clear k;rw[<-aN];have H:=Aac d;have k8:Aee w2 x8:=k2.tr hk;have dl:=hk.size;have d0:=k8.size;have m:=m.kept hk id;refine hK.o _ _ (k8.row c id) (fun hHeld=>?_);clear hK K hk aN;refine Aaq (rs:=[5]) (by kernel_rfl) (by simp) ?_;refine Aad rfl (fun K hK=>?_) Aal;go_simp;refine(an.o _).mono ?_;rintro e x9 ⟨rfl,hk⟩;have k9:Aee w2 x9:=k8.tr hk;have dm:=hk.size;have d1:=k9.size;have m:=m.kept hk id;have d:=hk.row d id;refine hK.o _ _ (k9.row c id) (fun hHeld=>?_);clear hK K hk;refine Aaq (rs:=[7]) (by kernel_rfl) (by simp) ?_;refine Aad rfl (fun K hK=>?_) Aal;go_simp;refine(ag.o _).mono ?_;rintro e bR ⟨v,rfl,f,hk⟩;have aO:Aee w2 bR:=k9.tr hk;have cB:=hk.size;have cN:=aO.size;have m:=m.kept hk id;have d:=hk.row d id;obtain⟨ng,nc,hv,_,G⟩:=Co f (by omega);subst hv;have aG:=(f.lt ng rfl).1;have hno:=f;clear f;refine hK.o _ _ (aO.row c id) (fun hHeld=>?_);clear hK K hk
      refine tK 9 ⟨some 33,.build 96 #[(0, .tmp 27), (1, .tmp 29), (2, .tmp 31), (4, .tmp 32)],96,"tree.go:87",#[⟨3,.data⟩,⟨5,.data⟩,⟨7,.data⟩,⟨8,.data⟩],none⟩ (.agg (O g ng nc)) (fun X _ => Iy X 96 0 1 2 4 (.tmp 27) (.tmp 29) (.tmp 31) (.tmp 32) rfl _ _ _ _ rfl rfl rfl rfl _ (af.o g ng nc)) ?_
      simp only[Act.put,zO,zW,z5];refine Aaq (rs:=[11]) (by kernel_rfl) (by simp) ?_;refine Aad rfl (fun K hK=>?_) Aal;refine Cd bR rfl 96 (.tmp 9) (.tmp 33) rfl tb 96 Tryz.zeroCells96 (O g ng nc) rfl rfl d (by rw[(q.o g ng nc).1];exact Ce) (by rw[(q.o g ng nc).1];exact z) (q.o g ng nc).2 ?_;intro M E p;refine hK.o _ _ (p.row (aO.row c id) (by omega)) (fun hHeld=>?_);clear hK K;refine Ach (by kernel_rfl) ?_ _;have H4:Aside (Bg M tb T s g (Bf L) (.slice (some ⟨ng,0,none⟩) N nc) nds (List.replicate 256 0) n/\Aee w2 M/\w2.heap.size<=tb/\w2.heap.size<=g/\w2.heap.size<=ng):=by
       refine⟨⟨by rw[<-ah.o];exact E,m.kept p (by omega),?_,A5 _ _ _ _,zV,?_,by omega,?_⟩,aO.trans p (fun j h1 h2=>by omega),by omega,by omega,by omega⟩
       ·rw[B.o.2.2.2.2.1];exact Hn (p.owns hno (fun j hj e=>by have C:ng=j:=Aak hj;omega))
       ·intro e;have C:ng=tb:=Aak e;omega
       ·intro e;have C:ng=g:=Aak e;omega
      go_wp2_with fail;go_meet
      case rel=>exact⟨tb,g,ng,nc,rfl,H4⟩
    ·go_simp;obtain⟨bx,ad⟩: ∃X,X=(x1.alloc (.cells Tryz.zeroCells96 96)):=⟨_,rfl⟩;have hk:Aee x1 bx:=by rw[ad];exact((Aa.refl _ _).alloc _)
     have d:bx.heap[x1.heap.size]?=some (.cells Tryz.zeroCells96 96 (0,0)):=by rw[ad];exact zY x1 _
     obtain⟨tb,k⟩: ∃t,t=x1.heap.size:=⟨_,rfl⟩;rw[<-k]at d|-;have aJ:=Acx k;have ab:=Acx k.symm;clear k;rw[<-ad];have H:=Aac d;have bp:Aee w2 bx:=k1.tr hk;have cC:=hk.size;have cO:=bp.size;refine hK.o _ _ (bp.row c id) (fun hHeld=>?_);clear hK K hk ad;refine Aaq (rs:=[3]) (by kernel_rfl) (by simp) ?_;refine Aad rfl (fun K hK=>?_) Aal;go_simp;refine(a8.o _).mono ?_;rintro e cv ⟨g,hg,rfl,y,hk⟩;have bq:Aee w2 cv:=bp.tr hk;have cD:=hk.size;have cP:=bq.size;have d:=hk.row d id;have m:=y;have bJ:=m.lt;clear y;refine hK.o _ _ (bq.row c id) (fun hHeld=>?_);clear hK K hk;refine Aaq (rs:=[5]) (by kernel_rfl) (by simp) ?_;refine Aad rfl (fun K hK=>?_) Aal;go_simp;refine(an.o _).mono ?_;rintro e cw ⟨rfl,hk⟩;have br:Aee w2 cw:=bq.tr hk;have cE:=hk.size;have cQ:=br.size;have m:=m.kept hk id;have d:=hk.row d id;refine hK.o _ _ (br.row c id) (fun hHeld=>?_);clear hK K hk;refine Aaq (rs:=[7]) (by kernel_rfl) (by simp) ?_;refine Aad rfl (fun K hK=>?_) Aal;go_simp;refine(ag.o _).mono ?_;rintro e bS ⟨v,rfl,f,hk⟩;have aP:Aee w2 bS:=br.tr hk;have cF:=hk.size;have cR:=aP.size;have m:=m.kept hk id;have d:=hk.row d id;obtain⟨ng,nc,hv,_,G⟩:=Co f (by omega);subst hv;have aG:=(f.lt ng rfl).1;have hno:=f;clear f;refine hK.o _ _ (aP.row c id) (fun hHeld=>?_);clear hK K hk
     refine tK 9 ⟨some 33,.build 96 #[(0, .tmp 27), (1, .tmp 29), (2, .tmp 31), (4, .tmp 32)],96,"tree.go:87",#[⟨3,.data⟩,⟨5,.data⟩,⟨7,.data⟩,⟨8,.data⟩],none⟩ (.agg (O g ng nc)) (fun X _ => Iy X 96 0 1 2 4 (.tmp 27) (.tmp 29) (.tmp 31) (.tmp 32) rfl _ _ _ _ rfl rfl rfl rfl _ (af.o g ng nc)) ?_
     simp only[Act.put,zO,zW,z5];refine Aaq (rs:=[11]) (by kernel_rfl) (by simp) ?_;refine Aad rfl (fun K hK=>?_) Aal;refine Cd bS rfl 96 (.tmp 9) (.tmp 33) rfl tb 96 Tryz.zeroCells96 (O g ng nc) rfl rfl d (by rw[(q.o g ng nc).1];exact Ce) (by rw[(q.o g ng nc).1];exact z) (q.o g ng nc).2 ?_;intro M E p;refine hK.o _ _ (p.row (aP.row c id) (by omega)) (fun hHeld=>?_);clear hK K;refine Ach (by kernel_rfl) ?_ _;have H4:Aside (Bg M tb T s g (Bf L) (.slice (some ⟨ng,0,none⟩) N nc) nds (List.replicate 256 0) n/\Aee w2 M/\w2.heap.size<=tb/\w2.heap.size<=g/\w2.heap.size<=ng):=by
      refine⟨⟨by rw[<-ah.o];exact E,m.kept p (by omega),?_,A5 _ _ _ _,zV,?_,by omega,?_⟩,aP.trans p (fun j h1 h2=>by omega),by omega,by omega,by omega⟩
      ·rw[B.o.2.2.2.2.1];exact Hn (p.owns hno (fun j hj e=>by have C:ng=j:=Aak hj;omega))
      ·intro e;have C:ng=tb:=Aak e;omega
      ·intro e;have C:ng=g:=Aak e;omega
     go_wp2_with fail;go_meet
     case rel=>exact⟨tb,g,ng,nc,rfl,H4⟩
   ·go_simp;obtain⟨bz,ae⟩: ∃X,X=(w2.alloc (.cells Tryz.zeroCells96 96)).drew:=⟨_,rfl⟩;have hk:Aee w2 bz:=by rw[ae];exact((Aa.refl _ _).alloc _).drew
    have d:bz.heap[w2.heap.size]?=some (.cells Tryz.zeroCells96 96 (0,0)):=by rw[ae];exact zY w2 _
    obtain⟨tb,k⟩: ∃t,t=w2.heap.size:=⟨_,rfl⟩;rw[<-k]at d|-;have aJ:=Acx k;have ab:=Acx k.symm;clear k;rw[<-ae];have H:=Aac d;have bs:Aee w2 bz:=hk;have cG:=hk.size;have cS:=bs.size;refine hK.o _ _ (bs.row c id) (fun hHeld=>?_);clear hK K hk ae;refine Aaq (rs:=[2]) (by kernel_rfl) (by simp) ?_;refine Aad rfl (fun K hK=>?_) Aal;go_simp;refine(be.o _).mono ?_;rintro e cx ⟨rfl,hk⟩;have bt:Aee w2 cx:=bs.tr hk;have cH:=hk.size;have cT:=bt.size;have d:=hk.row d id;refine hK.o _ _ (bt.row c id) (fun hHeld=>?_);clear hK K hk;refine Aaq (rs:=[3]) (by kernel_rfl) (by simp) ?_;refine Aad rfl (fun K hK=>?_) Aal;go_simp;refine(a8.o _).mono ?_;rintro e cy ⟨g,hg,rfl,y,hk⟩;have bu:Aee w2 cy:=bt.tr hk;have cI:=hk.size;have cU:=bu.size;have d:=hk.row d id;have m:=y;have bJ:=m.lt;clear y;refine hK.o _ _ (bu.row c id) (fun hHeld=>?_);clear hK K hk;refine Aaq (rs:=[5]) (by kernel_rfl) (by simp) ?_;refine Aad rfl (fun K hK=>?_) Aal;go_simp;refine(an.o _).mono ?_;rintro e cz ⟨rfl,hk⟩;have bv:Aee w2 cz:=bu.tr hk;have cJ:=hk.size;have cV:=bv.size;have m:=m.kept hk id;have d:=hk.row d id;refine hK.o _ _ (bv.row c id) (fun hHeld=>?_);clear hK K hk;refine Aaq (rs:=[7]) (by kernel_rfl) (by simp) ?_;refine Aad rfl (fun K hK=>?_) Aal;go_simp;refine(ag.o _).mono ?_;rintro e bT ⟨v,rfl,f,hk⟩;have aQ:Aee w2 bT:=bv.tr hk;have cK:=hk.size;have cW:=aQ.size;have m:=m.kept hk id;have d:=hk.row d id;obtain⟨ng,nc,hv,_,G⟩:=Co f (by omega);subst hv;have aG:=(f.lt ng rfl).1;have hno:=f;clear f;refine hK.o _ _ (aQ.row c id) (fun hHeld=>?_);clear hK K hk
    refine tK 9 ⟨some 33,.build 96 #[(0, .tmp 27), (1, .tmp 29), (2, .tmp 31), (4, .tmp 32)],96,"tree.go:87",#[⟨3,.data⟩,⟨5,.data⟩,⟨7,.data⟩,⟨8,.data⟩],none⟩ (.agg (O g ng nc)) (fun X _ => Iy X 96 0 1 2 4 (.tmp 27) (.tmp 29) (.tmp 31) (.tmp 32) rfl _ _ _ _ rfl rfl rfl rfl _ (af.o g ng nc)) ?_
    simp only[Act.put,zO,zW,z5];refine Aaq (rs:=[11]) (by kernel_rfl) (by simp) ?_;refine Aad rfl (fun K hK=>?_) Aal;refine Cd bT rfl 96 (.tmp 9) (.tmp 33) rfl tb 96 Tryz.zeroCells96 (O g ng nc) rfl rfl d (by rw[(q.o g ng nc).1];exact Ce) (by rw[(q.o g ng nc).1];exact z) (q.o g ng nc).2 ?_;intro M E p;refine hK.o _ _ (p.row (aQ.row c id) (by omega)) (fun hHeld=>?_);clear hK K;refine Ach (by kernel_rfl) ?_ _;have H4:Aside (Bg M tb T s g (Bf L) (.slice (some ⟨ng,0,none⟩) N nc) nds (List.replicate 256 0) n/\Aee w2 M/\w2.heap.size<=tb/\w2.heap.size<=g/\w2.heap.size<=ng):=by
     refine⟨⟨by rw[<-ah.o];exact E,m.kept p (by omega),?_,A5 _ _ _ _,zV,?_,by omega,?_⟩,aQ.trans p (fun j h1 h2=>by omega),by omega,by omega,by omega⟩
     ·rw[B.o.2.2.2.2.1];exact Hn (p.owns hno (fun j hj e=>by have C:ng=j:=Aak hj;omega))
     ·intro e;have C:ng=tb:=Aak e;omega
     ·intro e;have C:ng=g:=Aak e;omega
    go_wp2_with fail;go_meet
    case rel=>exact⟨tb,g,ng,nc,rfl,H4⟩
  case rest=>
   obtain⟨tb,g,ng,nc,rfl,H3⟩:=hcut;clear be a8 an ag af ah q;have bM:N<=255:=by have h4:=B.o.2.2.2.2.2.1.len;have h5:=B.o.2.2.2.2.2.1.few (2*N) (zK _);omega
   have aU:Sl nds:=by
    have h:=B.o.2.2.2.2.2.1.nodes.inside;rw[B.o.2.2.1]at h;rw[B.o.2.2.2.1];exact h
   have aZ: ∀j,(Ab nds j).siz<=n:=fun j=>by rw[B.o.2.2.2.1];unfold Ek;rw[R4];exact zZ _
   have aw:=pA hones tb g s n N nc ng T (Bf L) nds (List.replicate 256 0) wc H3.o.1 B.o.2.2.2.2.1.symm B.o.2.1 bM aU aZ hn (by rw[B.o.2.2.2.2.2.2.2.2.1];unfold szB;omega) (by have h1:=B.o.2.2.2.2.2.2.2.2.1;have h2:=B.o.2.2.2.2.2.2.2.2.2;omega);rw[B.o.2.2.2.2.2.2.2.1]at aw;have b7:Hid (∀st,Fj l n L st↔Qf (Al (l.take (szB s))) s nds n (List.replicate 256 0)=some st):=fun st=>by
    unfold Fj;rw[b6.o,B.o.2.2.2.1];exact⟨fun h=>h.2,fun h=>⟨B.o.1,h⟩⟩
   have a2:=H3.o.2.1.row H2.o.2.2 id;have H5:Hid (Aee w wc/\wc.heap[w.heap.size+1]?=some (.cells Tryz.zeroCells96 96 (0,0))):=⟨H2.o.1.tr H3.o.2.1,a2⟩;have dt:w.heap.size+1<tb:=by have:=H3.o.2.2.1;omega
   have dr:w.heap.size+1<g:=by have:=H3.o.2.2.2.1;omega
   have ds:w.heap.size+1<ng:=by have:=H3.o.2.2.2.2;omega
   clear aU aZ a2 c;go_wp2_with fail;refine aw.mono ?_;rintro e w3 ⟨cX,d5,aa,aX,bb,bQ,bi⟩;clear aw;have D:=bi.row H5.o.2 (fun h=>h.elim (fun h=>by omega) (fun h=>by have C:ng=w.heap.size+1:=Aak h;omega));have aV:Aee w w3:=H5.o.1.trans bi (fun j h1 h2=>h2.elim (fun h=>by omega) (fun h=>by have C:ng=j:=Aak h;omega));have H6:=hZ (aI bQ (aI aX (aI bb (aI D aV))));clear bQ aX bb aV bi H5;cases Q:Qf (Al (l.take (szB s))) s nds n (List.replicate 256 0)with
   |none=>
    rw[Q]at aa;have bd:Hid (∀st,¬Fj l n L st):=fun st h=>by have:=(b7.o st).1 h;rw[Q]at this;cases this
    obtain rfl:=aa;clear Q
    go_wp2_with(first
     |(refine Rm rfl 96 rfl Tryz.zeroCells96 aC ?_)
     |(refine wpList_store_row _ rfl 96 _ _ rfl (w.heap.size+1) 96 _ Tryz.zeroCells96 rfl rfl D (by rw[z];exact Ce) rfl bo ?_;intro w9 a6 P))
    refine Aa8 (v:= .tuple #[.agg Tryz.zeroCells96,.bool false]) (Dr results118 _ _ (w.heap.size+1) 96 _ (0,0) _ rfl a6 underlying96 rfl (by rw[z];exact Ce)) rfl ⟨H6.o.2.2.2.2.trans P (fun j h1 h2=>by omega),.inr ⟨bd.o,rfl⟩⟩
   |some st=>
    rw[Q]at aa;obtain⟨rfl,rfl,rfl⟩:=aa;have ch:Hid (Fj l n L st):=(b7.o st).2 Q;have dc:st.len<=s:=Lc Q;have bI:szB st.len<=l.length:=Aaf (by unfold szB;omega) bk;have d2:szB st.len<=300000:=Aaf (by unfold szB;omega) B.o.2.2.2.2.2.2.2.2.2;have a0:=fun W=>Ng l st.len W bI (by omega) (by omega);rw[<-HA.o.2.1]at a0;obtain⟨T2,ao⟩: ∃T,T=(⟨(l.take (szB st.len)).toArray⟩:ByteArray):=⟨_,rfl⟩;have aT:T2.data.toList=l.take (szB st.len):=by rw[ao]
    have bE:T2.size=szB st.len:=by rw[ao];show(l.take _).toArray.size=_;simp;omega
    have a1: ∀W,Calls prog 167 #[.string S,.int .i64 st.len] W fun e w'=>e= .returned (.agg #[.string T2,.int .i64 st.len])/\Aee W w':=fun W=>by rw[ao];exact a0 W
    have ar:=fun W=>Ld hones T2 st.len W (by omega);have b8:=hZ (aI ao aT);obtain⟨sl,bm⟩: ∃x,x=st.len:=⟨_,rfl⟩;have cg:=hZ bm;rw[<-bm]at a1 ar|-;clear Q a0 ao aT bE bm;go_wp2_with fail;refine(a1 _).mono ?_;rintro e w4 ⟨rfl,bj⟩;clear a1;go_wp2_with fail;refine(ar _).mono ?_;rintro e w5 ⟨g2,cl,rfl,au,bL⟩;clear ar;have F:=bj.tr bL;have r:=H6.o.1.kept F id id (fun _ _ h=>h);have cL:=F.size;have cn:=bj.size;have c0:w5.cell? ⟨tb,0,none⟩=some (.string T):=r.cellAt 0;have c1:w5.cell? ⟨tb,1,none⟩=some (.int .i64 s):=r.cellAt 1;have c2:w5.cell? ⟨tb,2,none⟩=some (.slice (some ⟨g,0,none⟩) (T.size+1) (T.size+1)):=r.cellAt 2;have f0:=r.free 0;have f1:=r.free 1;have f2:=r.free 2;have H:=H6.o.1.lt;have G:=(H6.o.1.nod.lt ng rfl).2;have de:=(r.nod.lt ng rfl).2;have c8:=au.lt;obtain⟨W6,aD⟩:=gx (((w5.setCell ⟨tb,0,none⟩ (.string T2)).setCell ⟨tb,1,none⟩ (.int .i64 sl)).setCell ⟨tb,2,none⟩ (.slice (some ⟨g2,0,none⟩) (T2.size+1) (T2.size+1)));obtain⟨TB,ap⟩: ∃A,A=(A6 T2 sl g2 (Bf L) (.slice (some ⟨ng,0,none⟩) N nc) st.ws n).toArray:=⟨_,rfl⟩;have a5:W6.heap[tb]?=some (.cells TB 96 (0,0)):=by
     rw[aD,ap,zI _ _ 2 _ _ _ (zI _ _ 1 _ _ _ (zI _ _ 0 _ _ _ r.blk))];rfl
    have av:Aa (fun j=>j=tb) w5 W6:=by rw[aD];exact Nc w5 tb _ _ _
    have a3:=F.row D id;have a4:=av.row a3 (by omega);have ac:TB.size=773:=by rw[ap,Aaa,Cq T2 sl g2 (Bf L) (.slice (some ⟨ng,0,none⟩) N nc) st.ws n (A5 _ _ _ _) H6.o.2.2.1]
    have bP:TB.all (·.oneCell')=true:=by rw[ap];exact Eu _ _ _ _ _ _ _ rfl
    have bN:ng≠g2:=by omega
    have H7:Hid (W6.heap[tb]?=some (.cells TB 96 (0,0))/\IntRow W6 g2 (B8 T2.data.toList)/\W6.ownsRow 0 195 9 (.slice (some ⟨ng,0,none⟩) N nc) N (Bj st.nds)/\W6.heap[w.heap.size+1]?=some (.cells Tryz.zeroCells96 96 (0,0))/\Aee w W6/\w.heap.size+1<g2):=by
     refine⟨a5,au.kept av (by omega),?_,a4,(H6.o.2.2.2.2.tr F).trans av (fun j h1 h2=>by omega),by omega⟩;have ho:=av.owns r.nod (fun j hj e=>by have C:ng=j:=Aak hj;have e2:=H6.o.1.n1;subst C;exact e2 (by rw[e];rfl));rwa[H6.o.2.1]at ho
    have b9:Hid (((w5.setCell ⟨tb,0,none⟩ (.string T2)).setCell ⟨tb,1,none⟩ (.int .i64 sl)).setCell ⟨tb,2,none⟩ (.slice (some ⟨g2,0,none⟩) (T2.size+1) (T2.size+1))=W6):=aD.symm;have ci:=hZ ap;clear bj bL F r au aD ap a5 av a3 a4 D cl;go_upto_region 9 with fail
    rw[b9.o];clear b9
    go_wp2_with(first
     |(refine Aa0 rfl 96 _ rfl tb rfl 96 TB (0,0) _ H7.o.1 underlying96 rfl (by rw[ac];exact Ce) ?_)
     |(refine wpList_store_row _ rfl 96 _ _ rfl (w.heap.size+1) 96 _ TB rfl rfl H7.o.2.2.2.1 (by rw[ac];exact Ce) (by rw[ac];exact z) bP ?_;intro w9 a6 P))
    refine Aa8 (v:= .tuple #[.agg TB,.bool true]) (Dr results118 _ _ (w.heap.size+1) 96 _ (0,0) _ rfl a6 underlying96 rfl (by rw[ac];exact Ce)) rfl ⟨H7.o.2.2.2.2.1.trans P (fun j h1 h2=>by omega),.inl ⟨st,g2,ng,nc,ch.o,by have:=H7.o.2.2.2.2.2;omega,by omega,fun e=>bN e.symm,?_,H6.o.2.2.1,?_,?_⟩⟩
    ·rw[ci.o,b8.o.1,cg.o,H6.o.2.1]
    ·rw[<-b8.o.2];exact H7.o.2.1.kept P (by have:=H7.o.2.2.2.2.2;omega)
    ·have ho:=P.owns H7.o.2.2.1 (fun j hj e=>by have C:ng=j:=Aak hj;omega);rwa[H6.o.2.1]
end
end Go.Proofs.YtegnkfdbmmndaaaGreat
