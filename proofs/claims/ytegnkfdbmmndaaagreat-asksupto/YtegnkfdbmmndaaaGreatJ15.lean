import Derived.Test.YtegnkfdbmmndaaaGreatJ14

set_option maxHeartbeats 8000000
namespace Go.Proofs.YtegnkfdbmmndaaaGreat
open Hm Go.Proofs.Tryz Go.RowKit
def Cu:List (Nat×Nat)→Are
 |[]=>[]
 |p::r=> .int .u64 (p.1:Nat):: .int .i64 (p.2:Nat)::Cu r
theorem C7(l:List (Nat×Nat)):(Cu l).length=l.length*2:=by
 induction l with
 |nil=>rfl
 |cons p r ih=>simp[Cu,ih];omega
theorem Q5(l:List (Nat×Nat)): ∀i,(h:i<l.length)→(Cu l)[i*2]?=some (.int .u64 (l[i].1:Nat))∧(Cu l)[i*2+1]?=some (.int .i64 (l[i].2:Nat)):=by
 induction l with
 |nil=>intro i h;simp at h
 |cons p r ih=>
  intro i h;cases i with
  |zero=>exact⟨rfl,rfl⟩
  |succ i=>
   have:=ih i (by simpa using h);rw[show(i+1)*2=i*2+1+1 from by omega];simpa[Cu]using this
theorem Ahl(l:List (Nat×Nat))(p:Nat×Nat): ∀i,(h:i<l.length)→((Cu l).set (i*2) (.int .u64 (p.1:Nat))).set (i*2+1) (.int .i64 (p.2:Nat))=Cu (l.set i p):=by
 induction l with
 |nil=>intro i h;simp at h
 |cons q r ih=>
  intro i h;cases i with
  |zero=>rfl
  |succ i=>
   have:=ih i (by simpa using h);rw[show(i+1)*2=i*2+1+1 from by omega];simp[Cu,this]
theorem U6(n:Nat):Cu (List.replicate n (0,0))=O3 n:=by
 induction n with
 |zero=>rfl
 |succ n ih=>rw[Apf,Cu,ih];simp[O3,List.replicate_succ]
theorem Q6(l:List (Nat×Nat)):(Cu l).toArray.all (·.oneCell')=true:=by
 rw[Apw];intro v b;have a:v∈Cu l:=by simpa using b
 clear b;induction l with
 |nil=>simp[Cu]at a
 |cons p r ih=>
  simp only[Cu,List.mem_cons]at a;rcases a with rfl|rfl|h
  ·rfl
  ·rfl
  ·exact ih h
def It(w:World)(g:Nat)(T:List (Nat×Nat)):Prop:=w.heap[g]?=some (.cells (Cu T).toArray 92 (0,0))
theorem It.set{w:World}{g:Nat}{T:List (Nat×Nat)}(h:It w g T)(i:Nat)(hi:i<T.length)(p:Nat×Nat):It ((w.setCell ⟨g,i*2,none⟩ (.int .u64 (p.1:Nat))).setCell ⟨g,i*2+1,none⟩ (.int .i64 (p.2:Nat))) g (T.set i p):=by
 have h2:=Anb _ g (i*2+1) _ _ (.int .i64 (p.2:Nat)) (Anb w g (i*2) _ _ (.int .u64 (p.1:Nat)) h);unfold It;rw[h2,←Ahl T p i hi];congr 2;simp
theorem Ti{wr:World}{b2 b3 bn:Nat}{T:List (Nat×Nat)}{x y:Value}(ht:It wr b2 T)(hn:wr.heap[b3]?=some (.cells #[x,y] 90 (0,0)))(a:b2≠b3)(hb:bn<T.length)(p:Nat×Nat):
  It ((((wr.setCell ⟨b3,0,none⟩ (.int .u64 (p.1:Nat))).setCell ⟨b3,1,none⟩ (.int .i64 (p.2:Nat))).setCell ⟨b2,bn*2,none⟩ (.int .u64 (p.1:Nat))).setCell ⟨b2,bn*2+1,none⟩ (.int .i64 (p.2:Nat))) b2 (T.set bn p)∧
  ((((wr.setCell ⟨b3,0,none⟩ (.int .u64 (p.1:Nat))).setCell ⟨b3,1,none⟩ (.int .i64 (p.2:Nat))).setCell ⟨b2,bn*2,none⟩ (.int .u64 (p.1:Nat))).setCell ⟨b2,bn*2+1,none⟩ (.int .i64 (p.2:Nat))).heap[b3]?=some (.cells #[.int .u64 (p.1:Nat),.int .i64 (p.2:Nat)] 90 (0,0))∧
  Aa (fun j=>j=b2∨j=b3) wr ((((wr.setCell ⟨b3,0,none⟩ (.int .u64 (p.1:Nat))).setCell ⟨b3,1,none⟩ (.int .i64 (p.2:Nat))).setCell ⟨b2,bn*2,none⟩ (.int .u64 (p.1:Nat))).setCell ⟨b2,bn*2+1,none⟩ (.int .i64 (p.2:Nat))):=by
 have h1:=Anb _ b3 1 _ _ (.int .i64 (p.2:Nat)) (Anb wr b3 0 _ _ (.int .u64 (p.1:Nat)) hn);have h2:It ((wr.setCell ⟨b3,0,none⟩ (.int .u64 (p.1:Nat))).setCell ⟨b3,1,none⟩ (.int .i64 (p.2:Nat))) b2 T:=by
  unfold It;rw[Apm _ _ _ _ a,Apm _ _ _ _ a];exact ht
 refine⟨h2.set bn hb p,?_,?_⟩
 ·rw[Apm _ _ _ _ (fun e=>a e.symm),Apm _ _ _ _ (fun e=>a e.symm)];exact h1
 ·exact((((Aa.refl (fun j=>j=b2∨j=b3) wr).setCell (p:=⟨b3,0,none⟩) (.inr (.inr rfl)) _).setCell (p:=⟨b3,1,none⟩) (.inr (.inr rfl)) _).setCell (p:=⟨b2,bn*2,none⟩) (.inr (.inl rfl)) _).setCell (p:=⟨b2,bn*2+1,none⟩) (.inr (.inl rfl)) _
set_option maxRecDepth 100000 in
theorem Xa(L:Ard)(w:World)(hL:L.length=256)(hx: ∀x∈L,x≤255)(hF:Mq L (Ae L)):
  Calls prog 149 #[.agg (Ad L).toArray] w fun e w'=>e= .returned (.agg (Cu (A6 L)).toArray)∧Ara w w':=by
 have ai:(Ad L).toArray.size=256:=by rw[Bm,hL]
 have ah:Aside (Tryz.zeroCells92=(Cu (Dj L (Ae L) 256 0)).toArray):=by show _=_;rw[Ak3,Dj,U6]
 have D:=fun W=>Th L W hL hx;have F: ∀W:World,W.heap[w.heap.size]?=some (.cells (Ad L).toArray 139 (0,0))→ ∀b:UInt8,W.cell? ⟨w.heap.size,b.toNat,none⟩=some (.int .i64 (Hm.lnB L b:Nat)):=by
  intro W hW b;have hb:=b.toNat_lt;rw[Am7 _ _ _ _ _ _ hW];simp[Ad,Hm.lnB,List.getD_eq_getElem?_getD,List.getElem?_eq_getElem (show b.toNat<L.length from by omega)]
 have aK:(Ae L).length≤256:=by
  have a5: ∀b:UInt8,Hm.lnB L b≤255:=fun b=>by
   have hb:=b.toNat_lt;rw[Hm.lnB,Am4,Am5 (show b.toNat<L.length from by omega)];exact hx _ (Anm _)
  rw[Is L a5];exact Fw L 256
 have E:Aside _:=F;have HF:Aside _:=hF;have HR:Hid (A6 L=Dj L (Ae L) 256 (Ae L).length):=rfl;rw[HR.o];have r:(((((w.alloc (.cells (Ad L).toArray 139)).alloc (.cells Tryz.zeroCells92 92)).alloc (.cells Tryz.zeroCells92 92))).alloc (.cells #[.int .u64 0,.int .i64 0] 90)).heap[w.heap.size]?=some (.cells (Ad L).toArray 139 (0,0)):=
  ((((Aa.refl (fun _=>False) (w.alloc (.cells (Ad L).toArray 139))).alloc _).alloc _).alloc _).row (Anj w _) id
 have t:(((((w.alloc (.cells (Ad L).toArray 139)).alloc (.cells Tryz.zeroCells92 92)).alloc (.cells Tryz.zeroCells92 92))).alloc (.cells #[.int .u64 0,.int .i64 0] 90)).heap[w.heap.size+1]?=some (.cells Tryz.zeroCells92 92 (0,0)):=
  (((Aa.refl (fun _=>False) ((w.alloc (.cells (Ad L).toArray 139)).alloc (.cells Tryz.zeroCells92 92))).alloc _).alloc _).row (Apc w _ _) id
 have u:(((((w.alloc (.cells (Ad L).toArray 139)).alloc (.cells Tryz.zeroCells92 92)).alloc (.cells Tryz.zeroCells92 92))).alloc (.cells #[.int .u64 0,.int .i64 0] 90)).heap[w.heap.size+1+1]?=some (.cells Tryz.zeroCells92 92 (0,0)):=by
  have:=((Aa.refl (fun _=>False) (((w.alloc (.cells (Ad L).toArray 139)).alloc (.cells Tryz.zeroCells92 92)).alloc (.cells Tryz.zeroCells92 92))).alloc (.cells #[.int .u64 0,.int .i64 0] 90)).row (Anj _ _) id;simpa using this
 have z:(((((w.alloc (.cells (Ad L).toArray 139)).alloc (.cells Tryz.zeroCells92 92)).alloc (.cells Tryz.zeroCells92 92))).alloc (.cells #[.int .u64 0,.int .i64 0] 90)).heap[w.heap.size+1+1+1]?=some (.cells #[.int .u64 0,.int .i64 0] 90 (0,0)):=by
  have:=Anj (((w.alloc (.cells (Ad L).toArray 139)).alloc (.cells Tryz.zeroCells92 92)).alloc (.cells Tryz.zeroCells92 92)) (.cells #[.int .u64 0,.int .i64 0] 90);simpa using this
 have B:Ara w (((((w.alloc (.cells (Ad L).toArray 139)).alloc (.cells Tryz.zeroCells92 92)).alloc (.cells Tryz.zeroCells92 92))).alloc (.cells #[.int .u64 0,.int .i64 0] 90)):=((((Aa.refl _ _).alloc _).alloc _).alloc _).alloc _;clear F hF;generalize(Ad L).toArray=arr at*
 go_enter func149,ntmps149
 go_upto_region 3 with fail
 generalize((((w.alloc (.cells arr 139)).alloc (.cells Tryz.zeroCells92 92)).alloc (.cells Tryz.zeroCells92 92))).alloc (.cells #[.int .u64 0,.int .i64 0] 90)=W at*;obtain⟨b3,Z⟩: ∃b,b=w.heap.size+1+1+1:=⟨_,rfl⟩;rw[←Z]at z⊢;obtain⟨b2,Y⟩: ∃b,b=w.heap.size+1+1:=⟨_,rfl⟩;rw[←Y]at u⊢;obtain⟨b1,X⟩: ∃b,b=w.heap.size+1:=⟨_,rfl⟩;rw[←X]at t⊢;have n1:w.heap.size≠b3:=by omega
 have n2:w.heap.size≠b2:=by omega
 have n3:b1≠b2:=by omega
 have n4:b1≠b3:=by omega
 have n5:b2≠b3:=by omega
 have HB:Aside (b1=w.heap.size+1∧b2=w.heap.size+1+1∧b3=w.heap.size+1+1+1):=⟨X,Y,Z⟩;have aE:b3<W.heap.size:=Anu z;have S:=D W;clear X Y Z
 go_wp2_with(first
  |(refine Aoh rfl 139 _ rfl w.heap.size rfl 139 arr (0,0) _ r underlying139 rfl (by rw[ai];exact Cf) ?_))
 refine S.mono ?_;rintro e w2 ⟨v,rfl,ho,C⟩;have P:=C.row r id;have n:=C.row t id;have G:=C.row u id;have d:=C.row z id;have Q:=B.trans C (fun _ _ h=>h);rw[ah.o]at G;have aq: ∀k,v.ownBlock=some k→b3<k:=fun k hk=>by have:=ho.lt k hk;omega
 obtain⟨ao,cp,hv,_⟩:=Aq ho;subst hv;have I:Aside (w2.ownsRow W.heap.size 5 1 (.slice ao (Ae L).length cp) (Ae L).length (Ah (Ae L))∧w2.heap[w.heap.size]?=some (.cells arr 139 (0,0))∧w2.heap[b1]?=some (.cells Tryz.zeroCells92 92 (0,0))∧It w2 b2 (Dj L (Ae L) 256 0)∧w2.heap[b3]?=some (.cells #[.int .u64 0,.int .i64 0] 90 (0,0))∧Ara w w2∧ ∀k,(Value.slice ao (Ae L).length cp).ownBlock=some k→b3<k):=⟨ho,P,n,G,d,Q,aq⟩;have aL:b3<w2.heap.size:=Anu d;clear D S ho P n G d Q aq r t u z B C ah;generalize hO:Ae L=o at*;go_wp2_with fail
 go_loopw[11] (fun i wr=> ∃k:Nat,k≤o.length∧i= .int .i64 k∧It wr b2 (Dj L o 256 k)∧wr.heap[b3]?=some (.cells #[.int .u64 ((Bq L o k).1:Nat),.int .i64 ((Bq L o k).2:Nat)] 90 (0,0))∧Aa (fun j=>j=b2∨j=b3) w2 wr) (fun i _=>o.length-(intOf i).toNat)
 case atStart=>exact⟨0,Ann _,rfl,I.o.2.2.2.1,I.o.2.2.2.2.1,Aa.refl _ _⟩
 case round=>
  obtain⟨k,hk,rfl,q,d,s⟩:=hrel
  by_cases O:k<o.length
  ·obtain⟨b,A⟩: ∃b,b=o.getD k 0:=⟨_,rfl⟩;have D:=s.owns I.o.1 (fun j hj e=>by have:=I.o.2.2.2.2.2.2 j hj;have:=HB.o;rcases e with e|e<;>omega);have aj:=s.row I.o.2.1 (fun e=>by rcases e with e|e<;>omega);obtain⟨g,cap,hv,_,aH⟩:=Ck D (by omega);simp only[Value.slice.injEq]at hv;obtain⟨ax,_,a0⟩:=hv;subst ax;subst a0;have az:wr.cell? ⟨g,k,none⟩=some (.int .u8 (b.toNat:Nat)):=by
    rw[D.cellAt k (by omega),A];simp[Ah,O]
   have ak:=E.o wr aj b;have am:=HF.o.short b (by rw[A];exact Kd O);have f:=HF.o.step_le k O;have y:=HF.o.num_le k hk;have a:=HF.o.num_le (k+1) O;have e1:Bq L o (k+1)=(((Bq L o k).1+if k=0 then 0 else 1)*2^(Hm.lnB L b-(Bq L o k).2),Hm.lnB L b):=by rw[A];rfl
   have e2:Dj L o 256 (k+1)=(Dj L o 256 k).set b.toNat (Bq L o (k+1)):=by rw[A];rfl
   rw[←A]at f;have K:=b.toNat_lt;have hT:=A4 L o 256 k;have ac:=Q5 (Dj L o 256 k) b.toNat (by omega);have c0:wr.cell? ⟨b3,0,none⟩=some (.int .u64 ((Bq L o k).1:Nat)):=Am7 _ _ 0 _ _ _ d;have c1:wr.cell? ⟨b3,1,none⟩=some (.int .i64 ((Bq L o k).2:Nat)):=Am7 _ _ 1 _ _ _ d;have f0:wr.frozen? ⟨b3,0,none⟩=false:=Ang _ _ 0 _ _ d;have f1:wr.frozen? ⟨b3,1,none⟩=false:=Ang _ _ 1 _ _ d;obtain⟨x0,t0⟩: ∃x,wr.cell? ⟨b2,b.toNat*2,none⟩=some x:=⟨_,(Am7 _ _ _ _ _ _ q).trans (by rw[Anw];exact ac.1)⟩;obtain⟨x1,t1⟩: ∃x,wr.cell? ⟨b2,b.toNat*2+1,none⟩=some x:=⟨_,(Am7 _ _ _ _ _ _ q).trans (by rw[Anw];exact ac.2)⟩;have g0:wr.frozen? ⟨b2,b.toNat*2,none⟩=false:=Ang _ _ _ _ _ q;have g1:wr.frozen? ⟨b2,b.toNat*2+1,none⟩=false:=Ang _ _ _ _ _ q;obtain⟨lg,N⟩: ∃lg,Hm.lnB L b=(Bq L o k).2+lg:=⟨Hm.lnB L b-(Bq L o k).2,by omega⟩;rw[show Hm.lnB L b-(Bq L o k).2=lg from by omega]at e1;have H:Aside (It wr b2 (Dj L o 256 k)∧wr.heap[b3]?=some (.cells #[.int .u64 ((Bq L o k).1:Nat),.int .i64 ((Bq L o k).2:Nat)] 90 (0,0))∧Bq L o (k+1)=(((Bq L o k).1+if k=0 then 0 else 1)*2^lg,Hm.lnB L b)∧Dj L o 256 (k+1)=(Dj L o 256 k).set b.toNat (Bq L o (k+1))∧(Dj L o 256 k).length=256∧b.toNat<256):=⟨q,d,e1,e2,hT,K⟩;rw[e1]at a;clear D aj q d e1 e2 hT ac A;obtain⟨c,hc⟩: ∃c,c=(Bq L o k).1:=⟨_,rfl⟩;obtain⟨l0,M⟩: ∃c,c=(Bq L o k).2:=⟨_,rfl⟩;obtain⟨l,hl⟩: ∃c,c=Hm.lnB L b:=⟨_,rfl⟩;obtain⟨bn,aa⟩: ∃c,c=b.toNat:=⟨_,rfl⟩;have HE:Aside (c=(Bq L o k).1∧l0=(Bq L o k).2∧l=Hm.lnB L b∧bn=b.toNat):=⟨hc,M,hl,aa⟩;rw[←hc,←M]at y;rw[←hc]at c0 a;rw[←M]at c1 f N;rw[←hl]at ak am f N;rw[←aa]at az ak t0 t1 g0 g1 K;clear hc M hl aa;have zl:(l:Int)-(l0:Int)=(lg:Int):=by omega
   have aF:(bn:Int)<256:=by omega
   have a2:decide ((k:Int)<(o.length:Int))=true:=Ana (by omega);have aG:lg≤64:=by omega
   have m1:g≠b3:=by have:=I.o.2.2.2.2.2.2 g rfl;omega
   have m2:g≠b2:=by have:=I.o.2.2.2.2.2.2 g rfl;have:=HB.o;omega
   by_cases B:k=0
   ·subst B;rw[if_pos rfl,Ap3]at a;obtain⟨c2,m⟩: ∃c2,c2=c*2^lg:=⟨_,rfl⟩;rw[←m]at a;have zs:IntKind.u64.wrap ((c:Int)*2^lg)=(c2:Int):=by
     have e:(c:Int)*2^lg=(c2:Int):=by rw[m];simp
     rw[e,IntKind.wrap_u64];have:=a.1;omega
    have HN:Aside (Bq L o (0+1)=(c2,l)):=by
     obtain⟨q1,q2,q3,q4⟩:=HE.o;show _=_;rw[H.o.2.2.1,if_pos rfl,Ap3,←q1,←q3,m]
    have HS:=Ti H.o.1 H.o.2.1 n5 (bn:=bn) (by rw[H.o.2.2.2.2.1];exact K) (c2,l);have U:Aside _:=HS;have ab:Aside (Dj L o 256 (0+1)=(Dj L o 256 0).set bn (c2,l)):=by
     show _=_;rw[H.o.2.2.2.1,HN.o,HE.o.2.2.2]
    clear N m HS H HE y a f;go_wp2_with fail
    go_region
    go_wp2_with fail
    go_region
    go_wp2;go_roundw
    case rel=>
     obtain⟨s1,s2,s3⟩:=U.o;refine⟨0+1,by omega,by go_num,?_,?_,?_⟩
     ·rw[ab.o];exact s1
     ·rw[HN.o];exact s2
     ·exact(s.trans s3 (fun _ _ h=>h)).drew.drew
    case measure=>simp[intOf];omega
   ·have aJ:decide ((k:Int)>0)=true:=Ana (by omega);have a9:decide (0<k)=true:=Ana (by omega);rw[if_neg B]at a;obtain⟨c2,m⟩: ∃c2,c2=(c+1)*2^lg:=⟨_,rfl⟩;rw[←m]at a;have zs:IntKind.u64.wrap (((c:Int)+1)*2^lg)=(c2:Int):=by
     have e:((c:Int)+1)*2^lg=(c2:Int):=by rw[m];simp
     rw[e,IntKind.wrap_u64];have:=a.1;omega
    have HN:Aside (Bq L o (k+1)=(c2,l)):=by
     obtain⟨q1,q2,q3,q4⟩:=HE.o;show _=_;rw[H.o.2.2.1,if_neg B,←q1,←q3,m]
    have T:It (wr.setCell ⟨b3,0,none⟩ (.int .u64 ((c:Int)+1))) b2 (Dj L o 256 k):=by
     unfold It;rw[Apm _ _ _ _ n5];exact H.o.1
    have R:=Anb wr b3 0 _ _ (.int .u64 ((c:Int)+1)) H.o.2.1;have HS:=Ti T R n5 (bn:=bn) (by rw[H.o.2.2.2.2.1];exact K) (c2,l);have U:Aside _:=HS;have ab:Aside (Dj L o 256 (k+1)=(Dj L o 256 k).set bn (c2,l)):=by
     show _=_;rw[H.o.2.2.2.1,HN.o,HE.o.2.2.2]
    have ay:(c:Int)<4294967296:=by have:=y.1;omega
    clear N m HS H HE y a f T R;go_wp2_with fail
    go_region
    go_wp2_with fail
    go_region
    go_wp2;go_roundw
    case rel=>
     obtain⟨s1,s2,s3⟩:=U.o;refine⟨k+1,by omega,by go_num,?_,?_,?_⟩
     ·rw[ab.o];exact s1
     ·rw[HN.o];exact s2
     ·exact((s.setCell (p:=⟨b3,0,none⟩) (.inr (.inr rfl)) _).trans s3 (fun _ _ h=>h)).drew.drew
    case measure=>simp[intOf];omega
  ·obtain rfl:k=o.length:=by omega
   have a2:decide ((o.length:Int)<(o.length:Int))=false:=Anc (by omega);have ap:(Cu (Dj L o 256 o.length)).toArray.size=512:=by rw[Anq,C7,A4]
   have n:=s.row I.o.2.2.1 (fun e=>by have:=HB.o;rcases e with e|e<;>omega);have al:=I.o.2.2.2.2.2.1.trans s (fun j h1 h2=>by have:=HB.o;rcases h2 with h2|h2<;>omega);have an:=Q6 (Dj L o 256 o.length);have J:Aside (wr.heap[b1]?=some (.cells Tryz.zeroCells92 92 (0,0))∧Ara w wr∧wr.heap[b2]?=some (.cells (Cu (Dj L o 256 o.length)).toArray 92 (0,0))∧(Cu (Dj L o 256 o.length)).toArray.size=512∧(Cu (Dj L o 256 o.length)).toArray.all (·.oneCell')=true):=⟨n,al,q,ap,an⟩;clear n al q ap an d s I HF E;have a8:w.heap.size≤b1:=by have:=HB.o;omega
   obtain⟨TT,V⟩: ∃TT,TT=(Cu (Dj L o 256 o.length)).toArray:=⟨_,rfl⟩;rw[←V]at J;have aw:Aside (TT=(Cu (Dj L o 256 o.length)).toArray):=V;clear V
   go_wp2_with(first
    |(refine Aoh rfl 92 _ rfl b2 rfl 92 TT (0,0) _ J.o.2.2.1 underlying92 rfl (by rw[J.o.2.2.2.1];exact O4) ?_)
    |(refine wpList_store_row _ rfl 92 _ _ rfl b1 92 Tryz.zeroCells92 TT rfl rfl J.o.1 (by rw[J.o.2.2.2.1];exact O4) (by rw[J.o.2.2.2.1];exact R4) J.o.2.2.2.2 ?_;intro w5 a4 a1))
   refine Aok (v:= .agg TT) (Ao0 results149 _ w5 b1 92 _ (0,0) _ rfl a4 underlying92 rfl (by rw[J.o.2.2.2.1];exact O4)) rfl ⟨by rw[aw.o,hO],?_⟩;exact J.o.2.1.trans a1 (fun j h1 h2=>by omega)
def Ay(s:ByteArray)(len g:Nat)(T:List (Nat×Nat))(v:Value)(ws:Ard)(total:Nat):Are:=
 [.string s,.int .i64 (len:Nat),.slice (some ⟨g,0,none⟩) (s.size+1) (s.size+1)]++(Cu T++(v::(Ad ws++[.int .i64 (total:Nat)])))
theorem R6(s:ByteArray)(len g:Nat)(T:List (Nat×Nat))(v:Value)(ws:Ard)(total i:Nat)(h:i<T.length*2):(Ay s len g T v ws total)[3+i]?=(Cu T)[i]?:=by
 unfold Ay;rw[Ans (by simp),show 3+i-[Value.string s,.int .i64 (len:Nat),.slice (some ⟨g,0,none⟩) (s.size+1) (s.size+1)].length=i from by simp,An6 (by rw[C7];exact h)]
theorem Pp(s:ByteArray)(len g:Nat)(T:List (Nat×Nat))(v:Value)(ws:Ard)(total:Nat)(h:T.length=256):(Ay s len g T v ws total)[515]?=some v:=by
 unfold Ay;rw[Ans (by simp),Ans (by rw[C7,h];simp),C7,h];rw[show 515-[Value.string s,.int .i64 (len:Nat),.slice (some ⟨g,0,none⟩) (s.size+1) (s.size+1)].length-256*2=0 from by simp,List.getElem?_cons_zero]
theorem O5(s:ByteArray)(len g:Nat)(T:List (Nat×Nat))(v:Value)(ws:Ard)(total i:Nat)(h:T.length=256)(hi:i<ws.length):(Ay s len g T v ws total)[516+i]?=some (.int .i64 (ws.getD i 0:Nat)):=by
 unfold Ay;rw[Ans (by simp;omega),Ans (by rw[C7,h];simp;omega),C7,h];rw[show 516+i-[Value.string s,.int .i64 (len:Nat),.slice (some ⟨g,0,none⟩) (s.size+1) (s.size+1)].length-256*2=i+1 from by simp;omega,Apz,An6 (by simp[Ad];exact hi)];simp[Ad,List.getElem?_map,List.getD_eq_getElem?_getD,List.getElem?_eq_getElem hi]
theorem Pq(s:ByteArray)(len g:Nat)(T:List (Nat×Nat))(v:Value)(ws:Ard)(total:Nat)(h:T.length=256)(a:ws.length=256):(Ay s len g T v ws total)[772]?=some (.int .i64 (total:Nat)):=by
 unfold Ay;rw[Ans (by simp),Ans (by rw[C7,h];simp),C7,h];rw[show 772-[Value.string s,.int .i64 (len:Nat),.slice (some ⟨g,0,none⟩) (s.size+1) (s.size+1)].length-256*2=256+1 from by simp,Apz,Ans (by simp[Ad,a])];simp[Ad,a]
theorem Xb(s:ByteArray)(len g:Nat)(T:List (Nat×Nat))(v:Value)(ws:Ard)(total i x:Nat)(h:T.length=256)(hi:i<ws.length):(Ay s len g T v ws total).set (516+i) (.int .i64 (x:Nat))=Ay s len g T v (ws.set i x) total:=by
 unfold Ay;rw[Aot _ _ (by simp;omega),Aot _ _ (by rw[C7,h];simp;omega),C7,h];rw[show 516+i-[Value.string s,.int .i64 (len:Nat),.slice (some ⟨g,0,none⟩) (s.size+1) (s.size+1)].length-256*2=i+1 from by simp;omega,Am9,List.set_append_left _ _ (by simp[Ad];exact hi)];congr 4;simp[Ad,List.map_set]
theorem Cm(s:ByteArray)(len g:Nat)(T:List (Nat×Nat))(v:Value)(ws:Ard)(total:Nat)(h:T.length=256)(a:ws.length=256):(Ay s len g T v ws total).length=773:=by
 unfold Ay;simp[C7,h,Ad,a]
structure A9(w:World)(tb:Nat)(s:ByteArray)(len g:Nat)(T:List (Nat×Nat))(v:Value)(nds:List Hm.Nd)(ws:Ard)(total:Nat):Prop where
 blk:w.heap[tb]?=some (.cells (Ay s len g T v ws total).toArray 96 (0,0))
 row:IntRow w g (B6 s.data.toList)
 nod:w.ownsRow 0 195 9 v nds.length (Be nds)
 tl:T.length=256
 wl:ws.length=256
 n1:v.ownBlock≠some tb
 n2:g≠tb
 n3:v.ownBlock≠some g
section
variable {w w':World} {tb len g total:Nat} {s:ByteArray} {T:List (Nat×Nat)} {v:Value} {nds:List Hm.Nd} {ws:Ard} {S:Nat→Prop}
theorem A9.kept(h:A9 w tb s len g T v nds ws total)(hk:Aa S w w')(h1: ¬S tb)(h2: ¬S g)(a: ∀j,v.ownBlock=some j→ ¬S j):A9 w' tb s len g T v nds ws total:=
 ⟨hk.row h.blk h1,h.row.kept hk h2,hk.owns h.nod a,h.tl,h.wl,h.n1,h.n2,h.n3⟩
theorem A9.drew(h:A9 w tb s len g T v nds ws total):A9 w.drew tb s len g T v nds ws total:=⟨h.blk,h.row,h.nod,h.tl,h.wl,h.n1,h.n2,h.n3⟩
theorem A9.drewN(h:A9 w tb s len g T v nds ws total)(k:Nat):A9 (w.drewN k) tb s len g T v nds ws total:=⟨h.blk,h.row,h.nod,h.tl,h.wl,h.n1,h.n2,h.n3⟩
theorem A9.cellAt(h:A9 w tb s len g T v nds ws total)(i:Nat):w.cell? ⟨tb,i,none⟩=(Ay s len g T v ws total)[i]?:=by
 rw[Am7 _ _ i _ _ _ h.blk,Anw]
theorem A9.counted(h:A9 w tb s len g T v nds ws total):Cs w tb 0 s len g:=⟨h.cellAt 0,h.cellAt 1,h.cellAt 2,h.row⟩
theorem A9.nodes(h:A9 w tb s len g T v nds ws total):w.cell? ⟨tb,515,none⟩=some v:=(h.cellAt 515).trans (Pp s len g T v ws total h.tl)
theorem A9.tot(h:A9 w tb s len g T v nds ws total):w.cell? ⟨tb,772,none⟩=some (.int .i64 (total:Nat)):=(h.cellAt 772).trans (Pq s len g T v ws total h.tl h.wl)
theorem A9.weight(h:A9 w tb s len g T v nds ws total)(i:Nat)(hi:i<256):w.cell? ⟨tb,516+i,none⟩=some (.int .i64 (ws.getD i 0:Nat)):=(h.cellAt (516+i)).trans (O5 s len g T v ws total i h.tl (by rw[h.wl];exact hi))
theorem A9.free(h:A9 w tb s len g T v nds ws total)(i:Nat):w.frozen? ⟨tb,i,none⟩=false:=Ang _ _ i _ _ h.blk
theorem A9.lt(h:A9 w tb s len g T v nds ws total):tb<w.heap.size:=Anu h.blk
theorem A9.setW(h:A9 w tb s len g T v nds ws total)(i x:Nat)(hi:i<256):A9 (w.setCell ⟨tb,516+i,none⟩ (.int .i64 (x:Nat))) tb s len g T v nds (ws.set i x) total:=by
 have hk:Aa (fun j=>j=tb) w (w.setCell ⟨tb,516+i,none⟩ (.int .i64 (x:Nat))):=(Aa.refl (fun j=>j=tb) w).setCell (p:=⟨tb,516+i,none⟩) (.inr rfl) _;refine⟨?_,h.row.kept hk h.n2,hk.owns h.nod (fun j a e=>h.n1 (by rw[a,e])),h.tl,by rw[Aou];exact h.wl,h.n1,h.n2,h.n3⟩;have:=Anb w tb (516+i) _ _ (.int .i64 (x:Nat)) h.blk;rw[this,←Xb s len g T v ws total i x h.tl (by rw[h.wl];exact hi)];simp
theorem A9.setN(h:A9 w tb s len g T v nds ws total){ng cap n:Nat}(f:v= .slice (some ⟨ng,0,none⟩) n cap)(i:Nat)(x:Value){nds':List Hm.Nd}(d:nds'.length=nds.length)(b:(Be nds).set i x=Be nds'):A9 (w.setCell ⟨ng,i,none⟩ x) tb s len g T v nds' ws total:=by
 subst f;have hk:Aa (fun j=>j=ng) w (w.setCell ⟨ng,i,none⟩ x):=(Aa.refl (fun j=>j=ng) w).setCell (p:=⟨ng,i,none⟩) (.inr rfl) _;have hno:=h.nod;obtain⟨a,c,e,_⟩:=Aq hno;simp only[Value.slice.injEq]at e;obtain⟨-,e,-⟩:=e;subst e;have e1:tb≠ng:=fun e=>h.n1 (by rw[e];rfl);have e2:g≠ng:=fun e=>h.n3 (by rw[e];rfl);refine⟨hk.row h.blk e1,h.row.kept hk e2,?_,h.tl,h.wl,h.n1,h.n2,h.n3⟩;rw[d,←b];exact(hno.stored i x).1
end
abbrev Tk(tb:Nat)(v:Value):Nat→Prop:=fun j=>j=tb∨v.ownBlock=some j
theorem Zs(tb g len total size l n cap ng:Nat)(s:ByteArray)(T:List (Nat×Nat))(nds:List Hm.Nd)(ws:Ard)(b:Hm.Br)(w:World)(h:A9 w tb s len g T (.slice (some ⟨ng,0,none⟩) n cap) nds ws total)(hn:n=nds.length)(_hnl:n≤255)(hb:b.node<n)(A:size≤100000):
  Calls prog 183 #[.pointer (some ⟨tb,0,none⟩),.agg (Dz b).toArray,.int .i64 size] w fun e w'=>
   e= .returned (.bool (Dx b size ⟨l,nds,ws⟩).isSome)∧A9 w' tb s len g T (.slice (some ⟨ng,0,none⟩) n cap) ((Dx b size ⟨l,nds,ws⟩).getD ⟨l,nds,ws⟩).nds ((Dx b size ⟨l,nds,ws⟩).getD ⟨l,nds,ws⟩).ws total∧Aa (Tk tb (.slice (some ⟨ng,0,none⟩) n cap)) w w':=by
 have d:Ara w (w.alloc (.cells (Dz b).toArray 192)):=(Aa.refl _ _).alloc _;have h1:=h.kept d id id (fun _ _=>id);have c:=Anj w (.cells (Dz b).toArray 192);have c0:(w.alloc (.cells (Dz b).toArray 192)).cell? ⟨w.heap.size,0,none⟩=some (.bool b.whole):=Am7 _ _ 0 _ _ _ c;have c1:(w.alloc (.cells (Dz b).toArray 192)).cell? ⟨w.heap.size,1,none⟩=some (.int .u8 (b.val.toNat:Nat)):=Am7 _ _ 1 _ _ _ c;have c2:(w.alloc (.cells (Dz b).toArray 192)).cell? ⟨w.heap.size,2,none⟩=some (.int .i64 (b.node:Nat)):=Am7 _ _ 2 _ _ _ c;have y:tb<w.heap.size:=h.lt;obtain⟨bw,bv,bn⟩:=b;have c0':(w.alloc (.cells #[.bool bw,.int .u8 (bv.toNat:Nat),.int .i64 (bn:Nat)] 192)).cell? ⟨w.heap.size,0,none⟩=some (.bool bw):=c0;have c1':(w.alloc (.cells #[.bool bw,.int .u8 (bv.toNat:Nat),.int .i64 (bn:Nat)] 192)).cell? ⟨w.heap.size,1,none⟩=some (.int .u8 (bv.toNat:Nat)):=c1;have c2':(w.alloc (.cells #[.bool bw,.int .u8 (bv.toNat:Nat),.int .i64 (bn:Nat)] 192)).cell? ⟨w.heap.size,2,none⟩=some (.int .i64 (bn:Nat)):=c2;have a:A9 (w.alloc (.cells #[.bool bw,.int .u8 (bv.toNat:Nat),.int .i64 (bn:Nat)] 192)) tb s len g T (.slice (some ⟨ng,0,none⟩) n cap) nds ws total:=h1;have hK:Aa (Tk tb (.slice (some ⟨ng,0,none⟩) n cap)) w (w.alloc (.cells #[.bool bw,.int .u8 (bv.toNat:Nat),.int .i64 (bn:Nat)] 192)):=d.wider (fun _ _ h=>h.elim);have j:=bv.toNat_lt;clear d h1 c c0 c1 c2 h;show Calls prog 183 #[.pointer (some ⟨tb,0,none⟩),.agg #[.bool bw,.int .u8 (bv.toNat:Nat),.int .i64 (bn:Nat)],.int .i64 size] w _;cases bw with
 |true=>
  have e:Dx {whole:=true,val:=bv,node:=bn} size ⟨l,nds,ws⟩=some ⟨l,nds,ws.set bv.toNat size⟩:=rfl;rw[e];clear e
  go_enter func183,ntmps183
  go_wp2_with fail;generalize w.alloc (.cells #[.bool true,.int .u8 (bv.toNat:Nat),.int .i64 (bn:Nat)] 192)=W at*;have i:Aside (A9 (W.setCell ⟨tb,516+bv.toNat,none⟩ (.int .i64 (size:Nat))) tb s len g T (.slice (some ⟨ng,0,none⟩) n cap) nds (ws.set bv.toNat size) total∧Aa (Tk tb (.slice (some ⟨ng,0,none⟩) n cap)) w (W.setCell ⟨tb,516+bv.toNat,none⟩ (.int .i64 (size:Nat)))):=⟨a.setW bv.toNat size (by omega),hK.setCell (.inr (.inl rfl)) _⟩;obtain⟨old,m⟩: ∃old,W.cell? ⟨tb,516+bv.toNat,none⟩=some old:=⟨_,a.weight bv.toNat (by omega)⟩;have u:=a.free (516+bv.toNat);have r:(bv.toNat:Int)<256:=by omega
  clear a hK j
  go_region
  go_wp2;go_ret;exact⟨rfl,i.o.1.drew,i.o.2.drew⟩
 |false=>
  by_cases k:0<bn
  ·have e:Dx {whole:=false,val:=bv,node:=bn} size ⟨l,nds,ws⟩=some ⟨l,E4 nds bn size,ws⟩:=by
    unfold Dx;rw[if_neg (by simp),if_pos k]
   rw[e];clear e;have v:decide (0<bn)=true:=Ana k;have t:bn<n:=hb;have q:Aside (n=nds.length):=hn;have r:(bn:Int)<(n:Int):=by omega
   clear hn hb
   go_enter func183,ntmps183
   go_wp2_with fail;generalize w.alloc (.cells #[.bool false,.int .u8 (bv.toNat:Nat),.int .i64 (bn:Nat)] 192)=W at*;have i:Aside (A9 (W.setCell ⟨ng,bn*9+2,none⟩ (.int .i64 (size:Nat))) tb s len g T (.slice (some ⟨ng,0,none⟩) n cap) (E4 nds bn size) ws total∧Aa (Tk tb (.slice (some ⟨ng,0,none⟩) n cap)) w (W.setCell ⟨ng,bn*9+2,none⟩ (.int .i64 (size:Nat)))):=
    ⟨a.setN rfl (bn*9+2) _ (Nu _ _ _) (Wl nds bn size (by have:=q.o;omega)),hK.setCell (p:=⟨ng,bn*9+2,none⟩) (.inr (.inr rfl)) _⟩
   have hno:=a.nod;rw[←q.o]at hno;obtain⟨old,m⟩: ∃old,W.cell? ⟨ng,bn*9+2,none⟩=some old:=⟨_,Vu hno q.o (by have:=q.o;omega)⟩;have u:=hno.frozenAt (bn*9+2);have x:=a.nodes;clear a hK j hno
   go_region
   go_wp2;go_ret;exact⟨rfl,i.o.1.drew,i.o.2.drew⟩
  ·obtain rfl:bn=0:=by omega
   clear hn
   by_cases f:size=0
   ·subst f;have e:Dx {whole:=false,val:=bv,node:=0} 0 ⟨l,nds,ws⟩=some ⟨l,nds,ws⟩:=rfl;rw[e];clear e
    go_enter func183,ntmps183
    go_wp2;go_ret;exact⟨rfl,a,hK⟩
   ·have e:Dx {whole:=false,val:=bv,node:=0} size ⟨l,nds,ws⟩=none:=by
     unfold Dx;rw[if_neg (by simp),if_neg (by simp),if_neg f]
    rw[e];clear e;have z:((size:Int)==0)=false:=by rw[Aod];omega
    clear f
    go_enter func183,ntmps183
    go_wp2;go_ret;exact⟨rfl,a,hK⟩
namespace Hm
theorem Oe{f:Nat→Bool}{LB:Nat}{nds:List Nd}{total:Nat}{ws:Ard}{i:Nat}(h:Hs f LB nds total ws i=none): ∀m,i≤m→Hs f LB nds total ws m=none
 |0,a=>by
  obtain rfl:i=0:=by omega
  exact h
 |m+1,a=>by
  by_cases e:i=m+1
  ·subst e;exact h
  ·rw[Hs,Oe h m (by omega)];rfl
def Qg(nds:List Nd):Prop:= ∀j,(Ab nds j).b0.node<nds.length∧(Ab nds j).b1.node<nds.length∧((Ab nds j).b0.node=0∨j<(Ab nds j).b0.node)∧((Ab nds j).b1.node=0∨j<(Ab nds j).b1.node)
theorem Qg.like{a b:List Nd}(h:Qg b)(c:I3 a b):Qg a:=fun j=>by
 rw[(c.2 j).2.2.1,(c.2 j).2.2.2,c.1];exact h j
theorem Bo.inside{M:Nat}{ln:UInt8→Nat}{o:Arc}{nds:List Nd}(h:Bo M ln o nds):Qg nds:=fun j=>by
 by_cases b:j<nds.length
 ·have key: ∀u,u<2→((Ab nds j).br u).node<nds.length:=fun u a=>by
   cases h.good j u b a with
   |leaf k hk e=>rw[e];exact h.more
   |node n e h1 h2=>rw[e];exact h2
   |none e=>rw[e];exact h.more
  refine⟨key 0 (by omega),key 1 (by omega),?_⟩;have: ∀u,u<2→((Ab nds j).br u).node=0∨j<((Ab nds j).br u).node:=fun u a=>by
   cases h.good j u b a with
   |leaf k hk e=>rw[e];exact .inl rfl
   |node n e h1 h2=>rw[e];exact .inr h1
   |none e=>rw[e];exact .inl rfl
  exact⟨this 0 (by omega),this 1 (by omega)⟩
 ·unfold Ab;rw[Am4,Anx (by omega)];exact⟨h.more,h.more,.inl rfl,.inl rfl⟩
end Hm
def Ol(r:Option Bl)(e:Ending)(nds:List Hm.Nd)(ws:Ard):Prop:=match r with
 |some st=>e= .returned (.tuple #[.int .i64 (st.len:Nat),.bool true])∧nds=st.nds∧ws=st.ws
 |none=>e= .returned (.tuple #[.int .i64 0,.bool false])
theorem Agn(hones:Bd)(tb g LB total n cap ng:Nat)(s:ByteArray)(T:List (Nat×Nat))(nds:List Hm.Nd)(ws:Ard)(w:World)(h:A9 w tb s LB g T (.slice (some ⟨ng,0,none⟩) n cap) nds ws total)
  (hn:n=nds.length) (h0:0<n) (aJ:n≤255) (aD:Qg nds) (aO: ∀j,(Ab nds j).siz≤total) (ht:total≤65535) (bg:LB≤8*s.size) (hs:s.size≤100000000):
  Calls prog 153 #[.pointer (some ⟨tb,0,none⟩)] w fun e w'=> ∃nds' ws',Ol (Oq (Am s.data.toList) LB nds total ws) e nds' ws'∧nds'.length=n∧ws'.length=256∧A9 w' tb s LB g T (.slice (some ⟨ng,0,none⟩) n cap) nds' ws' total∧Aa (Tk tb (.slice (some ⟨ng,0,none⟩) n cap)) w w':=by
 have aT:Aside _:=hones;obtain⟨f,hf⟩: ∃f,f=Am s.data.toList:=⟨_,rfl⟩;have an: ∀(W:World) (p:Nat),Cs W tb 0 s LB g→p≤8*s.size→Calls prog 126 #[.pointer (some ⟨tb,0,none⟩),.int .i64 p] W fun e w'=>e= .returned (.int .i64 (Hm.rk f p:Nat))∧w'=W:=fun W p hc hp=>by
  rw[hf];exact Ij aT.o tb 0 g LB p s W hc hp hs
 rw[←hf];have aq:A9 (w.setCell ⟨ng,2,none⟩ (.int .i64 (total:Nat))) tb s LB g T (.slice (some ⟨ng,0,none⟩) n cap) (E4 nds 0 total) ws total:=by
  have:=h.setN rfl (0*9+2) _ (Nu nds 0 total) (Wl nds 0 total (by omega));simpa using this
 have aE:Aa (Tk tb (.slice (some ⟨ng,0,none⟩) n cap)) w (w.setCell ⟨ng,2,none⟩ (.int .i64 (total:Nat))):=(Aa.refl _ w).setCell (p:=⟨ng,2,none⟩) (.inr (.inr rfl)) _;have hno:=h.nod;rw[←hn]at hno;have c1:=h.nodes;have c2:=h.tot;obtain⟨old,U⟩: ∃old,w.cell? ⟨ng,2,none⟩=some old:=by
  have:=Vu hno hn (i:=0) (by omega);rw[show 0*9+2=2 from rfl]at this;exact⟨_,this⟩
 have aW:=hno.frozenAt 2;have bk:(0:Int)<(n:Int):=by omega
 have HH:Aside _:=And.intro aq aE;have HO:Aside _:=an;have HI:Aside _:=And.intro aD (And.intro aO (And.intro hn hf));have aU:(w.setCell ⟨ng,2,none⟩ (.int .i64 (total:Nat))).cell? ⟨tb,515,none⟩=some (.slice (some ⟨ng,0,none⟩) n cap):=aq.nodes;have bl:ng≠tb:=fun e=>h.n1 (by rw[e];rfl);clear aq aE hno an aD aO hn h hf
 go_enter func153,ntmps153
 go_wp2_with fail
 go_region
 go_wp2_with fail;clear c1 c2 U aW aU
 go_loopw[22,2] (fun vi vl wr=> ∃(i:Nat) (st:Bl),i≤n∧vi= .int .i64 i∧Hs f LB nds total ws i=some st∧vl= .int .i64 (st.len:Nat)∧A9 wr tb s LB g T (.slice (some ⟨ng,0,none⟩) n cap) st.nds st.ws total∧Aa (Tk tb (.slice (some ⟨ng,0,none⟩) n cap)) w wr) (fun vi _ _=>n-(intOf vi).toNat)
 case atStart=>exact⟨0,_,Ann _,rfl,rfl,rfl,HH.o.1.drew,HH.o.2.drew⟩
 case round=>
  clear HH;obtain⟨i,st,hi,rfl,O,rfl,hT,av⟩:=hrel;have aw:=Kp O;have af:=HI.o.1.like aw.1;have au:=Ze HI.o.2.1 O;have aH:=J7 O;have d:n=st.nds.length:=by rw[aw.1.1];exact HI.o.2.2.1
  by_cases bj:i<n
  ·have u:i<st.nds.length:=by omega
   have hno:=hT.nod;rw[←d]at hno;have c0:=hT.nodes;have c2:=Vu hno d u;obtain⟨old,U⟩: ∃old,wr.cell? ⟨ng,i*9+1,none⟩=some old:=⟨_,Vt hno d u⟩;have aX:=hno.frozenAt (i*9+1);have C:=hT.setN rfl (i*9+1) _ (Gu st.nds i st.len) (Ag5 st.nds i st.len u);have E:Aa (Tk tb (.slice (some ⟨ng,0,none⟩) n cap)) w (wr.setCell ⟨ng,i*9+1,none⟩ (.int .i64 (st.len:Nat))):=av.setCell (p:=⟨ng,i*9+1,none⟩) (.inr (.inr rfl)) _;have ba:=au i;have an:=So f st i;have I:=af i;obtain⟨z,hz⟩: ∃z,z=(Ab st.nds i).siz:=⟨_,rfl⟩;obtain⟨l,hl⟩: ∃l,l=st.len:=⟨_,rfl⟩;have a8:Jj f st i=Hm.rk f (l+z)-Hm.rk f l:=by rw[hl,hz];rfl
   have y:=Ln f (Aqv l z);have aM:=Qt f (l+z);obtain⟨q,hq⟩: ∃q,q=Jj f st i:=⟨_,rfl⟩;rw[←hq]at a8 an;rw[←hz]at c2 ba an;rw[←hl]at C E aH;have aY:(i:Int)<(n:Int):=by omega
   have aC:decide ((i:Int)<(n:Int))=true:=Ana aY;have ar:Hs f LB nds total ws (i+1)=Hl f LB i st:=by rw[Hs,O];rfl
   have a1:Hl f LB i st=if LB<l+z then none else(Dx (Ab st.nds i).b0 (z-q) ⟨l+z,Ea st.nds i l,st.ws⟩).bind (Dx (Ab st.nds i).b1 q):=by
    rw[hz,hl,hq];rfl
   have ak:=Ur tb 0 LB (wr.setCell ⟨ng,i*9+1,none⟩ (.int .i64 (l:Nat))) C.counted.len;have P:(wr.setCell ⟨ng,i*9+1,none⟩ (.int .i64 (l:Nat))).cell? ⟨ng,i*9+1,none⟩=some (.int .i64 (l:Nat)):=World.cell?_setCell_same _ _ _ U;have Q:(wr.setCell ⟨ng,i*9+1,none⟩ (.int .i64 (l:Nat))).cell? ⟨ng,i*9+2,none⟩=some (.int .i64 (z:Nat)):=by
    rw[Apo _ _ _ _ (by intro e';simp only[Addr.mk.injEq]at e';omega)];exact c2
   have HS:Aside (A9 (wr.setCell ⟨ng,i*9+1,none⟩ (.int .i64 (l:Nat))) tb s LB g T (.slice (some ⟨ng,0,none⟩) n cap) (Ea st.nds i l) st.ws total∧Aa (Tk tb (.slice (some ⟨ng,0,none⟩) n cap)) w (wr.setCell ⟨ng,i*9+1,none⟩ (.int .i64 (l:Nat)))∧Hs f LB nds total ws (i+1)=(if LB<l+z then none else(Dx (Ab st.nds i).b0 (z-q) ⟨l+z,Ea st.nds i l,st.ws⟩).bind (Dx (Ab st.nds i).b1 q))∧i<st.nds.length∧n=st.nds.length∧q=Hm.rk f (l+z)-Hm.rk f l∧Hm.rk f l≤Hm.rk f (l+z)):=⟨C,E,ar.trans a1,u,d,a8,y⟩;have HZ:Aside (z=(Ab st.nds i).siz):=hz;rw[←hl];clear hz hl hq ar a1 C E hT av hno O aw af au a8 y d u;go_wp2_with fail;refine ak.mono ?_;rintro e w2 ⟨rfl,rfl⟩;clear ak U aX c0 c2
   by_cases a0:LB<l+z
   ·have hd:decide ((l:Int)+(z:Int)>(LB:Int))=true:=Ana (by omega);have aV:(LB:Int)<(l:Int)+(z:Int):=by omega
    obtain⟨C,E,m,u,d,_⟩:=HS.o;have HL:Aside (n=st.nds.length):=d;have HN:Aside (Oq f LB nds total ws=none):=by
     rw[if_pos a0]at m;have:=Oe m n (by omega);rw[HI.o.2.2.1]at this;exact this
    have D:Aside _:=And.intro C E;clear C E m d u HS P Q;go_wp2;go_ret2;refine⟨_,_,?_,?_,D.o.1.wl,D.o.1,D.o.2⟩
    ·unfold Ol;rw[HN.o];rfl
    ·rw[Gu];exact HL.o.symm
   ·have hd:decide ((l:Int)+(z:Int)>(LB:Int))=false:=Anc (by omega);have aV: ¬(LB:Int)<(l:Int)+(z:Int):=by omega
    generalize wr.setCell ⟨ng,i*9+1,none⟩ (.int .i64 (l:Nat))=W at*;have t:=HS.o.1.counted;have a4: ∀k,Calls prog 126 #[.pointer (some ⟨tb,0,none⟩),.int .i64 ((l:Int)+(z:Int))] (W.drewN k) fun e w'=>e= .returned (.int .i64 (Hm.rk f (l+z):Nat))∧w'=W.drewN k:=fun k=>by
     have:=HO.o (W.drewN k) (l+z) ⟨t.str,t.len,t.cnt,t.row⟩ (by omega);rwa[show((l+z:Nat):Int)=(l:Int)+(z:Int)from by omega]at this
    have a5: ∀k,Calls prog 126 #[.pointer (some ⟨tb,0,none⟩),.int .i64 (l:Nat)] (W.drewN k) fun e w'=>e= .returned (.int .i64 (Hm.rk f l:Nat))∧w'=W.drewN k:=fun k=>
     HO.o (W.drewN k) l ⟨t.str,t.len,t.cnt,t.row⟩ (by omega)
    obtain⟨C,E,m,u,d,a9,y⟩:=HS.o;rw[if_neg a0]at m;obtain⟨r1,aK⟩: ∃r,r=Hm.rk f (l+z):=⟨_,rfl⟩;obtain⟨r2,aL⟩: ∃r,r=Hm.rk f l:=⟨_,rfl⟩;rw[←aK]at a4 a9 y aM;rw[←aL]at a5 a9 y;have zq:(r1:Int)-(r2:Int)=(q:Int):=by omega
    have zq':IntKind.i64.wrap ((r1:Int)-(r2:Int))=(q:Int):=by rw[An9];omega
    have H1:Aside _:=And.intro C (And.intro E (And.intro m (And.intro u d)));clear C E m u d aK aL a9 y HS t;go_wp2_with fail;go_quiet(first|(go_at_call_of 126 (Value.int .i64 ((l:Int)+(z:Int)));refine Aol (a4 _))|(go_at_call_of 126 (Value.int .i64 (l:Int));refine Aol (a5 _)));go_wp2_with fail;have t:=H1.o.1.drewN nq;have ag:=H1.o.2.1.drewN nq;obtain⟨_,_,m,u,d⟩:=H1.o;clear a4 a5 H1 P Q;generalize W.drewN nq=W2 at*;have R:=Ot st.nds i l;have al:=R.2 i;obtain⟨b0,V⟩: ∃b,b=(Ab st.nds i).b0:=⟨_,rfl⟩;obtain⟨b1,Y⟩: ∃b,b=(Ab st.nds i).b1:=⟨_,rfl⟩;have e0:(Ab (Ea st.nds i l) i).b0=b0:=by rw[V];exact al.2.2.1
    have e1:(Ab (Ea st.nds i l) i).b1=b1:=by rw[Y];exact al.2.2.2
    have e2:(Ab (Ea st.nds i l) i).siz=(Ab st.nds i).siz:=by rw[Nf _ _ _ _ u];split<;>rfl
    rw[←V,←Y]at m;rw[←V,←Y,←d]at I;have L:n=(Ea st.nds i l).length:=by rw[Gu];exact d
    obtain⟨nds1,F⟩: ∃x,x=Ea st.nds i l:=⟨_,rfl⟩;rw[←F]at t e0 e1 e2 L m;have ae:i<nds1.length:=by omega
    have e3:(Ab nds1 i).siz=z:=by rw[e2];exact HZ.o.symm
    have cells: ∀X (nn:List Hm.Nd) (xs:Ard),A9 X tb s LB g T (.slice (some ⟨ng,0,none⟩) n cap) nn xs total→n=nn.length→(Ab nn i).b0=b0→(Ab nn i).b1=b1→(Ab nn i).siz=z→X.cell? ⟨ng,i*9+2,none⟩=some (.int .i64 (z:Nat))∧X.cell? ⟨ng,i*9+3,none⟩=some (.bool b0.whole)∧X.cell? ⟨ng,i*9+3+1,none⟩=some (.int .u8 (b0.val.toNat:Nat))∧X.cell? ⟨ng,i*9+3+2,none⟩=some (.int .i64 (b0.node:Nat))∧X.cell? ⟨ng,i*9+6,none⟩=some (.bool b1.whole)∧X.cell? ⟨ng,i*9+6+1,none⟩=some (.int .u8 (b1.val.toNat:Nat))∧X.cell? ⟨ng,i*9+6+2,none⟩=some (.int .i64 (b1.node:Nat)):=by
     intro X nn xs hX aG q0 q1 q2;have hx:=hX.nod;rw[←aG]at hx;have:=fun j hj=>Hv hx aG (i:=i) (by omega) j hj;refine⟨(this 2 (by omega)).trans ?_,(this 3 (by omega)).trans ?_,(this 4 (by omega)).trans ?_,(this 5 (by omega)).trans ?_,(this 6 (by omega)).trans ?_,(this 7 (by omega)).trans ?_,(this 8 (by omega)).trans ?_⟩
     ·show some (Value.int .i64 ((Ab nn i).siz:Nat))=_;rw[q2]
     ·show some (Value.bool (Ab nn i).b0.whole)=_;rw[q0]
     ·show some (Value.int .u8 ((Ab nn i).b0.val.toNat:Nat))=_;rw[q0]
     ·show some (Value.int .i64 ((Ab nn i).b0.node:Nat))=_;rw[q0]
     ·show some (Value.bool (Ab nn i).b1.whole)=_;rw[q1]
     ·show some (Value.int .u8 ((Ab nn i).b1.val.toNat:Nat))=_;rw[q1]
     ·show some (Value.int .i64 ((Ab nn i).b1.node:Nat))=_;rw[q1]
    obtain⟨Z,d0,d1,d2,d3,d4,d5⟩:=cells W2 nds1 st.ws t L e0 e1 e3;obtain⟨z0,az⟩: ∃z0,z0=z-q:=⟨_,rfl⟩;have zz:(z:Int)-(q:Int)=(z0:Int):=by omega
    have zz':IntKind.i64.wrap (z0:Int)=(z0:Int):=by rw[An9];omega
    rw[←az]at m;have a2:=Zs tb g LB total z0 (l+z) n cap ng s T nds1 st.ws b0 W2.drew t.drew L aJ I.1 (by omega);have v:Calls prog 183 #[.pointer (some ⟨tb,0,none⟩),.agg #[.bool b0.whole,.int .u8 (b0.val.toNat:Nat),.int .i64 (b0.node:Nat)],.int .i64 z0] W2.drew _:=a2;clear a2;have G:Aside _:=cells;cases hR:Dx b0 z0 ⟨l+z,nds1,st.ws⟩with
    |none=>
     rw[hR]at v m;have HN:Aside (Oq f LB nds total ws=none):=by
      have:=Oe m n (by omega);rw[HI.o.2.2.1]at this;exact this
     have aN:Calls prog 183 #[.pointer (some ⟨tb,0,none⟩),.agg #[.bool b0.whole,.int .u8 (b0.val.toNat:Nat),.int .i64 (b0.node:Nat)],.int .i64 z0] W2.drew fun e w'=>e= .returned (.bool false)∧A9 w' tb s LB g T (.slice (some ⟨ng,0,none⟩) n cap) nds1 st.ws total∧Aa (Tk tb (.slice (some ⟨ng,0,none⟩) n cap)) W2.drew w':=v;have A:Aside _:=And.intro ag (And.intro L (And.intro e0 (And.intro e1 e3)));clear v ag L m t cells e0 e1 e2 e3 V Y al R F u d hR az ae;obtain⟨b0w,b0v,b0n⟩:=b0;refine Aph (S:=fun X=>X.cell? ⟨ng,i*9+2,none⟩=some (.int .i64 (z:Nat))∧X.cell? ⟨ng,i*9+3,none⟩=some (.bool b0w)∧X.cell? ⟨ng,i*9+3+1,none⟩=some (.int .u8 (b0v.toNat:Nat))∧X.cell? ⟨ng,i*9+3+2,none⟩=some (.int .i64 (b0n:Nat))) (by kernel_rfl) ?_ (fun hHeld=>?_)
     ·exact⟨Z,d0,d1,d2⟩
     refine tK 0 ⟨some 62,.move (.tmp 0),153,"tree.go:109",#[],none⟩ ?_ ?_ ?_
     rotate_left
     ·intro X a;try dsimp only at a
      go_simp
      with_reducible rfl
     simp only[Act.put,Am6,Am8,Am9]
     refine tK 1 ⟨some 63,.move (.tmp 5),255,"tree.go:109",#[],none⟩ ?_ ?_ ?_
     rotate_left
     ·intro X a;try dsimp only at a
      go_simp
      with_reducible rfl
     simp only[Act.put,Am6,Am8,Am9]
     refine tK 2 ⟨some 64,.nilCheck (.tmp 63),0,"tree.go:109",#[⟨1,.data⟩],none⟩ ?_ ?_ ?_
     rotate_left
     ·intro X a;try dsimp only at a
      go_simp
      with_reducible rfl
     simp only[Act.put,Am6,Am8,Am9]
     refine tK 3 ⟨some 65,.fieldAddr 195 (.tmp 64) 3,0,"tree.go:109",#[⟨2,.data⟩],none⟩ ?_ ?_ ?_
     rotate_left
     ·intro X a;try dsimp only at a
      go_simp
      with_reducible rfl
     simp only[Act.put,Am6,Am8,Am9]
     refine tK 4 ⟨some 66,.indexAddr 193 (.tmp 65) (.const (.int .i64 0)),0,"tree.go:109",#[⟨3,.data⟩],none⟩ ?_ ?_ ?_
     rotate_left
     ·intro X a;try dsimp only at a
      go_simp
      with_reducible rfl
     simp only[Act.put,Am6,Am8,Am9]
     refine tK 5 ⟨some 67,.load 192 (.tmp 66),192,"tree.go:109",#[⟨4,.data⟩],none⟩ ?_ ?_ ?_
     rotate_left
     ·intro X a;try dsimp only at a
      go_simp
      with_reducible rfl
     simp only[Act.put,Am6,Am8,Am9]
     refine tK 6 ⟨some 68,.move (.tmp 5),255,"tree.go:109",#[],none⟩ ?_ ?_ ?_
     rotate_left
     ·intro X a;try dsimp only at a
      go_simp
      with_reducible rfl
     simp only[Act.put,Am6,Am8,Am9]
     refine tK 7 ⟨some 69,.nilCheck (.tmp 68),0,"tree.go:109",#[⟨6,.data⟩],none⟩ ?_ ?_ ?_
     rotate_left
     ·intro X a;try dsimp only at a
      go_simp
      with_reducible rfl
     simp only[Act.put,Am6,Am8,Am9]
     refine tK 8 ⟨some 70,.fieldAddr 195 (.tmp 69) 2,0,"tree.go:109",#[⟨7,.data⟩],none⟩ ?_ ?_ ?_
     rotate_left
     ·intro X a;try dsimp only at a
      go_simp
      with_reducible rfl
     simp only[Act.put,Am6,Am8,Am9]
     refine tK 9 ⟨some 71,.load 3 (.tmp 70),3,"tree.go:109",#[⟨8,.data⟩],none⟩ ?_ ?_ ?_
     rotate_left
     ·intro X a;try dsimp only at a
      go_simp
      with_reducible rfl
     simp only[Act.put,Am6,Am8,Am9]
     refine tK 10 ⟨some 72,.move (.tmp 6),3,"tree.go:109",#[],none⟩ ?_ ?_ ?_
     rotate_left
     ·intro X a;try dsimp only at a
      go_simp
      with_reducible rfl
     simp only[Act.put,Am6,Am8,Am9]
     refine tK 11 ⟨some 73,.binOp .sub 3 (.tmp 71) (.tmp 72) 3,3,"tree.go:109",#[⟨9,.data⟩,⟨10,.data⟩],none⟩ ?_ ?_ ?_
     rotate_left
     ·intro X a;try dsimp only at a
      go_simp
      with_reducible rfl
     simp only[Act.put,Am6,Am8,Am9];refine An1 (rs:=[12]) (by kernel_rfl) (by simp) ?_;refine Ano rfl (fun K hK=>?_) Anv;go_simp;refine aN.mono ?_;rintro e w1 ⟨rfl,B,J⟩;obtain⟨k0,k1,k2,k3,k4,k5,k6⟩:=G.o w1 nds1 st.ws B A.o.2.1 A.o.2.2.1 A.o.2.2.2.1 A.o.2.2.2.2;clear hHeld;refine hK.o _ _ ⟨k0,k1,k2,k3⟩ (fun hHeld=>?_);clear hK K
     refine tK 13 ⟨some 75,.unOp .not 4 (.tmp 74),4,"tree.go:109",#[⟨12,.data⟩],none⟩ ?_ ?_ ?_
     rotate_left
     ·intro X a;try dsimp only at a
      go_simp
      with_reducible rfl
     simp only[Act.put,Am6,Am8,Am9]
     refine tK 14 ⟨some 76,.move (.tmp 75),4,"tree.go:109",#[⟨13,.data⟩,⟨12,.chain⟩],none⟩ ?_ ?_ ?_
     rotate_left
     ·intro X a;try dsimp only at a
      go_simp
      with_reducible rfl
     simp only[Act.put,Am6,Am8,Am9]
     refine tU 15 ⟨some 77,.move (.tmp 0),153,"tree.go:109",#[⟨14,.guard⟩],some (14,false)⟩ ?_
     simp only[Act.put,Am6,Am8,Am9]
     refine tU 16 ⟨some 78,.move (.tmp 5),255,"tree.go:109",#[⟨14,.guard⟩],some (14,false)⟩ ?_
     simp only[Act.put,Am6,Am8,Am9]
     refine tU 17 ⟨some 79,.nilCheck (.tmp 78),0,"tree.go:109",#[⟨16,.data⟩,⟨14,.guard⟩],some (14,false)⟩ ?_
     simp only[Act.put,Am6,Am8,Am9]
     refine tU 18 ⟨some 80,.fieldAddr 195 (.tmp 79) 3,0,"tree.go:109",#[⟨17,.data⟩,⟨14,.guard⟩],some (14,false)⟩ ?_
     simp only[Act.put,Am6,Am8,Am9]
     refine tU 19 ⟨some 81,.indexAddr 193 (.tmp 80) (.const (.int .i64 1)),0,"tree.go:109",#[⟨18,.data⟩,⟨14,.guard⟩],some (14,false)⟩ ?_
     simp only[Act.put,Am6,Am8,Am9]
     refine tU 20 ⟨some 82,.load 192 (.tmp 81),192,"tree.go:109",#[⟨19,.data⟩,⟨14,.guard⟩],some (14,false)⟩ ?_
     simp only[Act.put,Am6,Am8,Am9]
     refine tU 21 ⟨some 83,.move (.tmp 6),3,"tree.go:109",#[⟨14,.guard⟩],some (14,false)⟩ ?_
     simp only[Act.put,Am6,Am8,Am9]
     refine tU 22 ⟨some 84,.call ⟨.value (.func 183),#[.tmp 77,.tmp 82,.tmp 83],#[153,192,3]⟩,4,"tree.go:109",#[⟨15,.data⟩,⟨20,.data⟩,⟨21,.data⟩,⟨14,.chain⟩,⟨14,.guard⟩],some (14,false)⟩ ?_
     simp only[Act.put,Am6,Am8,Am9]
     refine tU 23 ⟨some 85,.unOp .not 4 (.tmp 84),4,"tree.go:109",#[⟨22,.data⟩,⟨14,.guard⟩],some (14,false)⟩ ?_
     simp only[Act.put,Am6,Am8,Am9]
     refine tK 24 ⟨some 86,.pick (.tmp 76) (.const (.bool true)) (.tmp 85),4,"tree.go:109",#[⟨14,.data⟩,⟨23,.data⟩],none⟩ ?_ ?_ ?_
     rotate_left
     ·intro X a;try dsimp only at a
      go_simp
      with_reducible rfl
     simp only[Act.put,Am6,Am8,Am9];refine Apn (by kernel_rfl) ?_ _;have D:Aside _:=And.intro B (And.intro (A.o.1.drew.trans J (fun _ _ h=>h)) A.o.2.1);clear B J k0 k1 k2 k3 k4 k5 k6 A G aN hHeld Z d0 d1 d2 d3 d4 d5;go_wp2;go_ret2;refine⟨nds1,st.ws,?_,D.o.2.2.symm,D.o.1.wl,D.o.1,D.o.2.1⟩;unfold Ol;rw[HN.o];rfl
    |some s1=>
     rw[hR]at v m;have M:Hs f LB nds total ws (i+1)=Dx b1 q s1:=m;have ai:=Ih hR;have am:n=s1.nds.length:=by rw[ai.1.1];exact L
     have ac:=Kq hR;have ao:Ab s1.nds i=Ab nds1 i:=by
      refine ac.other i ?_;rcases I.2.2.1 with c|c
      ·exact .inr (.inr c)
      ·exact .inr (.inl (by omega))
     have f0:(Ab s1.nds i).b0=b0:=by rw[ao];exact e0
     have f1:(Ab s1.nds i).b1=b1:=by rw[ao];exact e1
     have f3:(Ab s1.nds i).siz=z:=by rw[ao];exact e3
     have ax:Calls prog 183 #[.pointer (some ⟨tb,0,none⟩),.agg #[.bool b0.whole,.int .u8 (b0.val.toNat:Nat),.int .i64 (b0.node:Nat)],.int .i64 z0] W2.drew fun e w'=>e= .returned (.bool true)∧A9 w' tb s LB g T (.slice (some ⟨ng,0,none⟩) n cap) s1.nds s1.ws total∧Aa (Tk tb (.slice (some ⟨ng,0,none⟩) n cap)) W2.drew w':=v;have ay:=fun(X:World) (hX:A9 X tb s LB g T (.slice (some ⟨ng,0,none⟩) n cap) s1.nds s1.ws total)=>Zs tb g LB total q s1.len n cap ng s T s1.nds s1.ws b1 X hX am aJ I.2.1 (by omega);have be:Aside (s1.len=l+z):=ai.2.1;have A:Aside _:=And.intro ag (And.intro am (And.intro f0 (And.intro f1 f3)));cases H:Dx b1 q s1 with
     |none=>
      have ap: ∀(X:World),A9 X tb s LB g T (.slice (some ⟨ng,0,none⟩) n cap) s1.nds s1.ws total→Calls prog 183 #[.pointer (some ⟨tb,0,none⟩),.agg #[.bool b1.whole,.int .u8 (b1.val.toNat:Nat),.int .i64 (b1.node:Nat)],.int .i64 q] X fun e w'=>e= .returned (.bool false)∧A9 w' tb s LB g T (.slice (some ⟨ng,0,none⟩) n cap) s1.nds s1.ws total∧Aa (Tk tb (.slice (some ⟨ng,0,none⟩) n cap)) X w':=fun X hX=>by
       have:=ay X hX;rw[show(⟨s1.len,s1.nds,s1.ws⟩:Bl)=s1 from rfl,H]at this;exact this
      have HN:Aside (Oq f LB nds total ws=none):=by
       rw[H]at M;have:=Oe M n (by omega);rw[HI.o.2.2.1]at this;exact this
      have ab:Aside _:=ap;clear v ag L m M t cells e0 e1 e2 e3 V Y al R F u d hR az ae ay ap ai am ac ao f0 f1 f3 H;obtain⟨b0w,b0v,b0n⟩:=b0;obtain⟨b1w,b1v,b1n⟩:=b1
      go_region_held(fun X=>X.cell? ⟨ng,i*9+2,none⟩=some (.int .i64 (z:Nat))∧X.cell? ⟨ng,i*9+3,none⟩=some (.bool b0w)∧X.cell? ⟨ng,i*9+3+1,none⟩=some (.int .u8 (b0v.toNat:Nat))∧X.cell? ⟨ng,i*9+3+2,none⟩=some (.int .i64 (b0n:Nat))∧X.cell? ⟨ng,i*9+3+3,none⟩=some (.bool b1w)∧X.cell? ⟨ng,i*9+3+3+1,none⟩=some (.int .u8 (b1v.toNat:Nat))∧X.cell? ⟨ng,i*9+3+3+2,none⟩=some (.int .i64 (b1n:Nat))) (first|exact⟨Z,d0,d1,d2,d3,d4,d5⟩|exact⟨k0,k1,k2,k3,k4,k5,k6⟩|exact⟨m0,m1,m2,m3,m4,m5,m6⟩)
       (first
       |(go_at_call_of 183 (Value.int .i64 (z0:Int));refine ax.mono ?_;rintro e w1 ⟨rfl,B,J⟩;obtain⟨k0,k1,k2,k3,k4,k5,k6⟩:=G.o w1 s1.nds s1.ws B A.o.2.1 A.o.2.2.1 A.o.2.2.2.1 A.o.2.2.2.2)
       |(go_at_call_of 183 (Value.int .i64 (q:Int));refine(ab.o _ B).mono ?_;rintro e w2 ⟨rfl,N,ah⟩;obtain⟨m0,m1,m2,m3,m4,m5,m6⟩:=G.o w2 s1.nds s1.ws N A.o.2.1 A.o.2.2.1 A.o.2.2.2.1 A.o.2.2.2.2))
      have D:Aside _:=And.intro N (And.intro ((A.o.1.drew.trans J (fun _ _ h=>h)).trans ah (fun _ _ h=>h)) A.o.2.1);clear B N J ah k0 k1 k2 k3 k4 k5 k6 m0 m1 m2 m3 m4 m5 m6 A G ax ab Z d0 d1 d2 d3 d4 d5;go_wp2;go_ret2;refine⟨s1.nds,s1.ws,?_,D.o.2.2.symm,D.o.1.wl,D.o.1,D.o.2.1⟩;unfold Ol;rw[HN.o];rfl
     |some s2=>
      have aj:=Ih H;have ad:=Kq H;have aI:n=s2.nds.length:=by rw[aj.1.1];exact am
      have g0:(Ab s2.nds i).b0=b0:=by rw[(aj.1.2 i).2.2.1];exact f0
      have g1:(Ab s2.nds i).b1=b1:=by rw[(aj.1.2 i).2.2.2];exact f1
      have g3:(Ab s2.nds i).siz=z:=by
       rw[ad.other i ?_]
       ·exact f3
       ·rcases I.2.2.2 with c|c
        ·exact .inr (.inr c)
        ·exact .inr (.inl (by omega))
      have ap: ∀(X:World),A9 X tb s LB g T (.slice (some ⟨ng,0,none⟩) n cap) s1.nds s1.ws total→Calls prog 183 #[.pointer (some ⟨tb,0,none⟩),.agg #[.bool b1.whole,.int .u8 (b1.val.toNat:Nat),.int .i64 (b1.node:Nat)],.int .i64 q] X fun e w'=>e= .returned (.bool true)∧A9 w' tb s LB g T (.slice (some ⟨ng,0,none⟩) n cap) s2.nds s2.ws total∧Aa (Tk tb (.slice (some ⟨ng,0,none⟩) n cap)) X w':=fun X hX=>by
       have:=ay X hX;rw[show(⟨s1.len,s1.nds,s1.ws⟩:Bl)=s1 from rfl,H]at this;exact this
      have HN:Aside (Hs f LB nds total ws (i+1)=some s2∧s2.len=l+z):=⟨by rw[M,H],aj.2.1.trans ai.2.1⟩;have H4:Aside _:=And.intro aI (And.intro g0 (And.intro g1 g3));have ab:Aside _:=ap;clear v ag L m M t cells e0 e1 e2 e3 V Y al R F u d hR az ae ay ap ai am ac ao f0 f1 f3 H aj ad aI g0 g1 g3;obtain⟨b0w,b0v,b0n⟩:=b0;obtain⟨b1w,b1v,b1n⟩:=b1
      go_region_held(fun X=>X.cell? ⟨ng,i*9+2,none⟩=some (.int .i64 (z:Nat))∧X.cell? ⟨ng,i*9+3,none⟩=some (.bool b0w)∧X.cell? ⟨ng,i*9+3+1,none⟩=some (.int .u8 (b0v.toNat:Nat))∧X.cell? ⟨ng,i*9+3+2,none⟩=some (.int .i64 (b0n:Nat))∧X.cell? ⟨ng,i*9+3+3,none⟩=some (.bool b1w)∧X.cell? ⟨ng,i*9+3+3+1,none⟩=some (.int .u8 (b1v.toNat:Nat))∧X.cell? ⟨ng,i*9+3+3+2,none⟩=some (.int .i64 (b1n:Nat))) (first|exact⟨Z,d0,d1,d2,d3,d4,d5⟩|exact⟨k0,k1,k2,k3,k4,k5,k6⟩|exact⟨m0,m1,m2,m3,m4,m5,m6⟩)
       (first
       |(go_at_call_of 183 (Value.int .i64 (z0:Int));refine ax.mono ?_;rintro e w1 ⟨rfl,B,J⟩;obtain⟨k0,k1,k2,k3,k4,k5,k6⟩:=G.o w1 s1.nds s1.ws B A.o.2.1 A.o.2.2.1 A.o.2.2.2.1 A.o.2.2.2.2)
       |(go_at_call_of 183 (Value.int .i64 (q:Int));refine(ab.o _ B).mono ?_;rintro e w2 ⟨rfl,N,ah⟩;obtain⟨m0,m1,m2,m3,m4,m5,m6⟩:=G.o w2 s2.nds s2.ws N H4.o.1 H4.o.2.1 H4.o.2.2.1 H4.o.2.2.2))
      have D:Aside _:=And.intro N ((A.o.1.drew.trans J (fun _ _ h=>h)).trans ah (fun _ _ h=>h));clear B N J ah k0 k1 k2 k3 k4 k5 k6 m0 m1 m2 m3 m4 m5 m6 A H4 G ax ab Z d0 d1 d2 d3 d4 d5;go_wp2;go_roundw
      case rel=>exact⟨i+1,s2,by omega,by go_num,HN.o.1,by rw[HN.o.2];go_num,D.o.1,D.o.2⟩
      case measure=>simp[intOf];omega
  ·obtain rfl:i=n:=by omega
   have aC:decide ((i:Int)<(i:Int))=false:=Anc (by omega);have HN:Aside (Oq f LB nds total ws=some st∧i=st.nds.length):=by
    refine⟨?_,d⟩;unfold Oq;rw[←HI.o.2.2.1];exact O
   have D:Aside _:=And.intro hT av;clear hT av O aw af au d;go_wp2;go_ret2;refine⟨st.nds,st.ws,?_,HN.o.2.symm,D.o.1.wl,D.o.1,D.o.2⟩;unfold Ol;rw[HN.o.1];exact⟨rfl,rfl,rfl⟩
end Go.Proofs.YtegnkfdbmmndaaaGreat
