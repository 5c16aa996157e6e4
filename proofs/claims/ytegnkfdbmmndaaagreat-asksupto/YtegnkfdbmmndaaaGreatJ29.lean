import Derived.Test.YtegnkfdbmmndaaaGreatJ28

set_option maxHeartbeats 8000000
namespace Go.Proofs.YtegnkfdbmmndaaaGreat
open Hm Go.Proofs.Tryz Go.RowKit
def Ef(w:World)(e:TypeId)(x y:Value)(g cap q:Nat):Prop:=
 ∃cur:Array Value,w.heap[g]?=some (.cells cur e (0,0))∧cur.size=cap*2∧cap≤maxLen∧q≤cap∧ ∀i,i<q→cur[i*2]?=some x∧cur[i*2+1]?=some y
theorem Ef.less{w:World}{e:TypeId}{x y:Value}{g cap q:Nat}(h:Ef w e x y g cap q){p:Nat}(d:p≤q):Ef w e x y g cap p:=by
 obtain⟨cur,h1,h2,a,c,b⟩:=h;exact⟨cur,h1,h2,a,by omega,fun i hi=>b i (by omega)⟩
theorem Ef.kept{S:Nat→Prop}{w w':World}{e:TypeId}{x y:Value}{g cap q:Nat}(h:Ef w e x y g cap q)(hk:Aa S w w')(hn: ¬S g):Ef w' e x y g cap q:=by
 obtain⟨cur,h1,h2⟩:=h;exact⟨cur,hk.row h1 hn,h2⟩
theorem Ef.put{w:World}{e:TypeId}{x y:Value}{g cap q:Nat}(h:Ef w e x y g cap q)(i:Nat)(hi:i<cap)(p:Nat)(f:p≤cap)(hs: ∀j,j<p→j<q∨j=i):Ef ((w.setCell ⟨g,i*2,none⟩ x).setCell ⟨g,i*2+1,none⟩ y) e x y g cap p:=by
 obtain⟨cur,h1,h2,a,l,b⟩:=h;have r1:=Anb w g (i*2) _ _ x h1;have r2:=Anb _ g (i*2+1) _ _ y r1;refine⟨_,r2,by simpa using h2,a,f,fun j d=>?_⟩
 by_cases c:j=i
 ·subst c;refine⟨?_,?_⟩
  ·rw[Aq7 (by omega),Array.getElem?_setIfInBounds_self_of_lt (by omega)]
  ·rw[Array.getElem?_setIfInBounds_self_of_lt (by rw[Array.size_setIfInBounds];omega)]
 ·have k:j<q:=by
   rcases hs j d with h|h
   ·exact h
   ·exact absurd h c
  obtain⟨a1,a2⟩:=b j k;refine⟨?_,?_⟩
  ·rw[Aq7 (by omega),Aq7 (by omega)];exact a1
  ·rw[Aq7 (by omega),Aq7 (by omega)];exact a2
def Ex(x y:Value):Nat→Are
 |0=>[]
 |m+1=>x::y::Ex x y m
theorem Jw(x y:Value): ∀m,(Ex x y m).length=m*2
 |0=>rfl
 |m+1=>by rw[Ex,An8,An8,Jw x y m];omega
theorem V8(x y:Value): ∀m i,i<m→(Ex x y m)[i*2]?=some x∧(Ex x y m)[i*2+1]?=some y
 |0,i,h=>by omega
 |m+1,0,_=>⟨rfl,rfl⟩
 |m+1,i+1,h=>by
  have:=V8 x y m i (by omega);rw[show(i+1)*2=i*2+1+1 from by omega];simpa[Ex]using this
theorem Alr(x y:Value)(n m:Nat):Ex x y (n+m)=Ex x y n++Ex x y m:=by
 induction n with
 |zero=>simp[Ex]
 |succ n ih=>rw[show n+1+m=n+m+1 from by omega,Ex,ih,Ex];rfl
theorem Ef.puts{e:TypeId}{x y:Value}{g cap:Nat}: ∀m n q p (w:World),Ef w e x y g cap q→n+m≤cap→p≤cap→(∀j,j<p→j<q∨(n≤j∧j<n+m))→Ef (w.setCells g (n*2) (Ex x y m)) e x y g cap p
 |0,n,q,p,w,h,_,b,hs=>h.less (Nat.le_of_not_lt fun c=>by rcases hs q c with h|h<;>omega)
 |m+1,n,q,p,w,h,k,b,hs=>by
  have e1:w.setCells g (n*2) (Ex x y (m+1))=((w.setCell ⟨g,n*2,none⟩ x).setCell ⟨g,n*2+1,none⟩ y).setCells g ((n+1)*2) (Ex x y m):=by
   rw[show(n+1)*2=n*2+1+1 from by omega];rfl
  rw[e1]
  by_cases c:n<q
  ·have h1:=h.put n (by omega) q (by obtain⟨_,_,_,_,f,_⟩:=h;exact f) (fun j a=> .inl a);exact Ef.puts m (n+1) q p _ h1 (by omega) b (fun j a=>by rcases hs j a with h|h<;>omega)
  ·by_cases d:n=q
   ·subst d;have h1:=h.put n (by omega) (n+1) (by omega) (fun j a=>by omega);exact Ef.puts m (n+1) (n+1) p _ h1 (by omega) b (fun j a=>by rcases hs j a with h|h<;>omega)
   ·have i:p≤q:=Nat.le_of_not_lt fun c2=>by rcases hs q c2 with h|h<;>omega
    have h1:=h.put n (by omega) q (by obtain⟨_,_,_,_,f,_⟩:=h;exact f) (fun j a=> .inl a);exact Ef.puts m (n+1) q p _ h1 (by omega) b (fun j a=> .inl (by omega))
def LX(w:World)(base:Nat)(e:TypeId)(x y:Value)(v:Value)(n:Nat):Prop:=(v= .slice none 0 0∧n=0)∨ ∃g cap,v= .slice (some ⟨g,0,none⟩) n cap∧base≤g∧Ef w e x y g cap n
def Eo(w w':World)(e:TypeId)(x y:Value):Prop:= ∀g cap q,Ef w e x y g cap q→Ef w' e x y g cap q
theorem Eo.lx{w w':World}{e:TypeId}{x y:Value}(h:Eo w w' e x y){base:Nat}{v:Value}{n:Nat}(b:LX w base e x y v n):LX w' base e x y v n:=by
 rcases b with h1|⟨g,cap,h1,h2,a⟩
 ·exact .inl h1
 ·exact .inr ⟨g,cap,h1,h2,h _ _ _ a⟩
theorem LX.mark{w:World}{base:Nat}{e:TypeId}{x y:Value}{v:Value}{n:Nat}(h:LX w base e x y v n): ∃ao c,v= .slice ao n c∧F3 w ao n 0 x∧F3 w ao n 1 y∧(∀a,ao=some a→base≤a.block∧a.block<w.heap.size∧ ∃cur,w.heap[a.block]?=some (.cells cur e (0,0))):=by
 rcases h with⟨rfl,rfl⟩|⟨g,cap,rfl,hb,cur,h1,h2,f,j,b⟩
 ·exact⟨none,0,rfl,F3.none _ _ _,F3.none _ _ _,fun a h=>by cases h⟩
 ·refine⟨_,cap,rfl,fun i hi=>⟨g,0,rfl,Anu h1,?_⟩,fun i hi=>⟨g,0,rfl,Anu h1,?_⟩,fun a d=>by cases d;exact⟨hb,Anu h1,cur,h1⟩⟩
  ·rw[An3,Ap3,Am7 _ _ _ _ _ _ h1];exact(b i hi).1
  ·rw[An3,Am7 _ _ _ _ _ _ h1];exact(b i hi).2
theorem LX.owns{w:World}{base:Nat}{e:TypeId}{x y:Value}{v:Value}{n:Nat}(h:w.ownsRow base e 2 v n (Ex x y n)):LX w base e x y v n:=by
 rcases h.2 with⟨rfl,rfl⟩|⟨g,cap,cur,rfl,h1,h2,a,b,c,d⟩
 ·exact .inl ⟨rfl,rfl⟩
 ·refine .inr ⟨g,cap,rfl,h1,cur,h2,c,b,a,fun i hi=>?_⟩;obtain⟨q1,q2⟩:=V8 x y n i hi;rw[←d,List.getElem?_take,if_pos (by omega)]at q1 q2;exact⟨by simpa using q1,by simpa using q2⟩
theorem C8{P:Program}(w:World){ops:Array Oper}{rest:List Oper}{o:Oper}{a:Act}{Q:Exit→Act→World→Prop}
  (T:o.guard=none) (s x:Operand) (t:TypeId) (C:o.op=Op.call {callee:=Callee.builtin Builtin.append,args:= #[s,x],argTypes:= #[t,t]})
  (e:TypeId) (i:TypeInfo) (z:Value) (bytes:Nat) (h1:P.underlying t=some (.slice e)) (h2:P.info? e=some i) (M:i.zero=some z) (N:i.size=2) (O:i.bytes=bytes) (R:z.cells.size=2)
  (base:Nat) (x1 x2:Value) (v:Value) (n m:Nat) (W:0<m) (hs:a.eval s=v) (V:LX w base e x1 x2 v n) (G:base≤w.heap.size)
  (ad:Addr) (c:Nat) (L:a.eval x= .slice (some ad) m c) (H: ∀j u,(Ex x1 x2 m)[j]?=some u→w.cell? (ad.add j)=some u) (J:x1.oneCell'=true) (K:x2.oneCell'=true)
  (b1:n+m≤maxLen) (b2:(n+m)*bytes≤140737488355328)
  (h: ∀v' w',LX w' base e x1 x2 v' (n+m)→Eo w w' e x1 x2→Aa (fun j=>v.ownBlock=some j) w w'→wpList P ops Q rest (a.put o.dst v') w'):
  wpList P ops Q (o::rest) a w:=by
 have p: ∀u∈Ex x1 x2 m,u.oneCell'=true:=by
  intro u y;clear H b1 b2 h L W;induction m with
  |zero=>cases y
  |succ m ih=>
   rcases List.mem_cons.1 y with rfl|y
   ·exact J
   ·rcases List.mem_cons.1 y with rfl|y
    ·exact K
    ·exact ih y
 have f: ∀v' w',w'.ownsRow w.heap.size e 2 v' (n+m) (Ex x1 x2 n++Ex x1 x2 m)→w.grownBy w' none→wpList P ops Q rest (a.put o.dst v') w':=fun v' w' r d=>by
  rw[←Alr]at r;have hk:Aa (fun j=>v.ownBlock=some j) w w':=(Aa.refl _ _).grown d (fun k hk=>by cases hk);have I:Ara w w':=(Aa.refl _ _).grown d (fun k hk=>by cases hk);refine h v' w' ?_ (fun g cap q D=>D.kept I id) hk;rcases LX.owns r with h|⟨g,cap,e1,e2,e3⟩
  ·exact .inl h
  ·exact .inr ⟨g,cap,e1,by omega,e3⟩
 rcases V with⟨rfl,rfl⟩|⟨g,cap,rfl,hb,D⟩
 ·exact wpList_append_grows w T s x t C e i z 2 bytes h1 h2 M N O R (by omega) none 0 0 [] hs (fun _=>⟨rfl,rfl⟩) rfl (fun b hb=>by cases hb) ad m c (Ex x1 x2 m) L (Jw _ _ _) H p
   (by omega) b1 b2 (fun v' w' r d=>f v' w' r d)
 ·have F:=D;obtain⟨cur,r1,r2,r3,r4,r5⟩:=D;refine wpList_append_arg w T s x t C e i z 2 bytes h1 h2 M N O R (by omega) g 0 n cap (Ex x1 x2 n) hs (Jw _ _ _) (fun j u l=>?_) ad m c (Ex x1 x2 m) L (Jw _ _ _) H p (fun E j l=>?_) b1 b2 (fun E=>?_) (fun _ v' w' r d=>f v' w' r d)
  ·rw[An3,Am7 _ _ _ _ _ _ r1];have U:j<n*2:=by
    have:=(List.getElem?_eq_some_iff.1 l).1;rwa[Jw]at this
   obtain⟨q1,q2⟩:=V8 x1 x2 n (j/2) (by omega);obtain⟨p1,p2⟩:=r5 (j/2) (by omega);rcases Aqc j with c|c
   ·rw[show j/2*2=j from by omega]at q1 p1;rw[p1,←q1,l]
   ·rw[show j/2*2+1=j from by omega]at q2 p2;rw[p2,←q2,l]
  ·rw[Jw]at l;refine⟨?_,Ang _ _ _ _ _ r1⟩;rw[Am7 _ _ _ _ _ _ r1,Apl (by omega)];rfl
  ·rw[An3];have hk:Aa (fun j=>(Value.slice (some ⟨g,0,none⟩) n cap).ownBlock=some j) w (w.setCells g (n*2) (Ex x1 x2 m)):=Aa.setCells (S:=fun j=>(Value.slice (some ⟨g,0,none⟩) n cap).ownBlock=some j) (.inr rfl) _ _ (Aa.refl _ _);refine h _ _ (.inr ⟨g,cap,rfl,hb,Ef.puts m n n (n+m) w F E E (fun j l=>by omega)⟩) (fun g' cap' q A=>?_) hk
   by_cases c:g'=g
   ·subst c;obtain⟨cur',s1,s2,s3,s4,s5⟩:=A;have B:cap'=cap:=by
     rw[r1]at s1;injection s1 with s1;injection s1 with s1;subst s1;omega
    subst B;exact Ef.puts m n q q w ⟨cur',s1,s2,s3,s4,s5⟩ E s4 (fun j l=> .inl l)
   ·exact A.kept hk (fun e=>c (An0 e).symm)
def Rm(base m:Nat)(v:Value)(w w':World)(e:Ending):Prop:= ∃r:Rec,e= .returned (.agg r.cells.toArray)∧Jd w' r∧r.mark=m∧(∀j a,j<12→(r.sl j).1=some a→base≤a.block∧a.block<w'.heap.size)∧Aa (fun j=>v.ownBlock=some j) w w'
theorem LX.alloc{w:World}{base:Nat}{e:TypeId}{x y:Value}{v:Value}{n:Nat}(h:LX w base e x y v n)(o:Obj):LX (w.alloc o) base e x y v n:=by
 rcases h with h|⟨g,cap,h1,h2,a⟩
 ·exact .inl h
 ·exact .inr ⟨g,cap,h1,h2,a.kept ((Aa.refl (fun _=>False) w).alloc o) id⟩
theorem Eo.alloc(w:World)(e:TypeId)(x y:Value)(o:Obj):Eo w (w.alloc o) e x y:=fun _ _ _ h=>h.kept ((Aa.refl (fun _=>False) w).alloc o) id
theorem Eo.trans{a b c:World}{e:TypeId}{x y:Value}(h:Eo a b e x y)(k:Eo b c e x y):Eo a c e x y:=fun _ _ _ d=>k _ _ _ (h _ _ _ d)
theorem Hq{w:World}{e:TypeId}(l:Are): ∀j u,l[j]?=some u→(w.alloc (.cells l.toArray e)).cell? ((⟨w.heap.size,0,none⟩:Addr).add j)=some u:=fun j u a=>by
 rw[Addr.add_lit,An3];exact(Am7 _ _ j _ _ _ (Anj w _)).trans (by rw[Anw];exact a)
theorem Ail{w:World}{g:Nat}{e:TypeId}(h:w.heap[g]?=some (.cells #[.slice none 0 0,.slice none 0 0,.slice none 0 0,.slice none 0 0,.slice none 0 0,.slice none 0 0,.slice none 0 0,.slice none 0 0,.slice none 0 0,.slice none 0 0,.slice none 0 0,.slice none 0 0,.int .i64 0] e (0,0)))(v0 v1 v2 v3 v4 v5 v6 v7 v8 v9 v10 v11 v12:Value):(((((((((((((w.setCell ⟨g,0,none⟩ v0).setCell ⟨g,1,none⟩ v1).setCell ⟨g,2,none⟩ v2).setCell ⟨g,3,none⟩ v3).setCell ⟨g,4,none⟩ v4).setCell ⟨g,5,none⟩ v5).setCell ⟨g,6,none⟩ v6).setCell ⟨g,7,none⟩ v7).setCell ⟨g,8,none⟩ v8).setCell ⟨g,9,none⟩ v9).setCell ⟨g,10,none⟩ v10).setCell ⟨g,11,none⟩ v11).setCell ⟨g,12,none⟩ v12).heap[g]?=some (.cells #[v0,v1,v2,v3,v4,v5,v6,v7,v8,v9,v10,v11,v12] e (0,0))∧Aa (fun j=>j=g) w (((((((((((((w.setCell ⟨g,0,none⟩ v0).setCell ⟨g,1,none⟩ v1).setCell ⟨g,2,none⟩ v2).setCell ⟨g,3,none⟩ v3).setCell ⟨g,4,none⟩ v4).setCell ⟨g,5,none⟩ v5).setCell ⟨g,6,none⟩ v6).setCell ⟨g,7,none⟩ v7).setCell ⟨g,8,none⟩ v8).setCell ⟨g,9,none⟩ v9).setCell ⟨g,10,none⟩ v10).setCell ⟨g,11,none⟩ v11).setCell ⟨g,12,none⟩ v12):=by
 have r0:=Anb _ g 0 _ _ v0 h;have r1:=Anb _ g 1 _ _ v1 r0;have r2:=Anb _ g 2 _ _ v2 r1;have r3:=Anb _ g 3 _ _ v3 r2;have r4:=Anb _ g 4 _ _ v4 r3;have r5:=Anb _ g 5 _ _ v5 r4;have r6:=Anb _ g 6 _ _ v6 r5;have r7:=Anb _ g 7 _ _ v7 r6;have r8:=Anb _ g 8 _ _ v8 r7;have r9:=Anb _ g 9 _ _ v9 r8;have r10:=Anb _ g 10 _ _ v10 r9;have r11:=Anb _ g 11 _ _ v11 r10;have r12:=Anb _ g 12 _ _ v12 r11;simp only[Am6,Am8,Am9]at r12;exact⟨r12,(((((((((((((Aa.refl (fun j=>j=g) w).setCell (p:=⟨g,0,none⟩) (.inr rfl) v0).setCell (p:=⟨g,1,none⟩) (.inr rfl) v1).setCell (p:=⟨g,2,none⟩) (.inr rfl) v2).setCell (p:=⟨g,3,none⟩) (.inr rfl) v3).setCell (p:=⟨g,4,none⟩) (.inr rfl) v4).setCell (p:=⟨g,5,none⟩) (.inr rfl) v5).setCell (p:=⟨g,6,none⟩) (.inr rfl) v6).setCell (p:=⟨g,7,none⟩) (.inr rfl) v7).setCell (p:=⟨g,8,none⟩) (.inr rfl) v8).setCell (p:=⟨g,9,none⟩) (.inr rfl) v9).setCell (p:=⟨g,10,none⟩) (.inr rfl) v10).setCell (p:=⟨g,11,none⟩) (.inr rfl) v11).setCell (p:=⟨g,12,none⟩) (.inr rfl) v12⟩
def Je(j m:Nat)(a b c d:Arf×Nat×Nat):Rec:=⟨fun k=>if k=j then a else if k=j+1 then b else if k=j+2 then c else if k=j+3 then d else(none,0,0),m⟩
theorem Gz(j m k:Nat)(a b c d:Arf×Nat×Nat):(Je j m a b c d).sl k=a∧k=j∨(Je j m a b c d).sl k=b∧k=j+1∨(Je j m a b c d).sl k=c∧k=j+2∨(Je j m a b c d).sl k=d∧k=j+3∨(Je j m a b c d).sl k=(none,0,0)∧(k<j∨j+3<k):=by
 unfold Je;dsimp only
 by_cases h1:k=j
 ·rw[if_pos h1];exact .inl ⟨rfl,h1⟩
 ·rw[if_neg h1]
  by_cases h2:k=j+1
  ·rw[if_pos h2];exact .inr (.inl ⟨rfl,h2⟩)
  ·rw[if_neg h2]
   by_cases e:k=j+2
   ·rw[if_pos e];exact .inr (.inr (.inl ⟨rfl,e⟩))
   ·rw[if_neg e]
    by_cases f:k=j+3
    ·rw[if_pos f];exact .inr (.inr (.inr (.inl ⟨rfl,f⟩)))
    ·rw[if_neg f];exact .inr (.inr (.inr (.inr ⟨rfl,by omega⟩)))
theorem On(w:World)(j:Nat)(v:Value):F3 w none 0 j v:=fun i hi=>by omega
set_option maxRecDepth 20000 in
theorem Afy(v:Value)(n m base:Nat)(xs:Are)(w:World)(ho:w.ownsRow base 42 2 v n xs)(hb:base≤w.heap.size)(hn:n≤100000)(hm:m≤1000000000000):
  Calls prog 107 #[v,.int .i64 m] w fun e w'=>Rm base m v w w' e:=by
 obtain⟨i0,hi,S,T,U⟩:=Aoo Xy;obtain⟨ao,c,hv,a5⟩:=Aq ho;subst hv;have H0:Hid ((ao=none∧n=0∧c=0)∨ ∃g,ao=some ⟨g,0,none⟩∧base≤g∧g<w.heap.size∧Ef w 42 (.string ⟨#[]⟩) (.int .i64 (m:Nat)) g c 0):=by
  rcases ho.2 with⟨e,h0⟩|⟨g,cap,cur,e,h1,h2,D,X,h5,h6⟩
  ·cases e;exact .inl ⟨rfl,rfl,rfl⟩
  ·cases e;exact .inr ⟨g,rfl,h1,Anu h2,cur,h2,h5,X,Ann _,fun i hi=>by omega⟩
 clear ho
 go_enter func107,ntmps107
 go_wp2_with fail;obtain⟨ZA,L⟩: ∃Z:Array Value,Z= #[.slice none 0 0,.slice none 0 0,.slice none 0 0,.slice none 0 0,.slice none 0 0,.slice none 0 0,.slice none 0 0,.slice none 0 0,.slice none 0 0,.slice none 0 0,.slice none 0 0,.slice none 0 0,.int .i64 0]:=⟨_,rfl⟩;have ay:ZA.size=13:=by rw[L];rfl
 rw[←L];have r0:((w.alloc (.cells ZA 122)).alloc (.cells #[.string ⟨#[]⟩,.int .i64 (m:Nat)] 42)).heap[w.heap.size]?=some (.cells ZA 122 (0,0)):=Apb _ _ _;have r1:((w.alloc (.cells ZA 122)).alloc (.cells #[.string ⟨#[]⟩,.int .i64 (m:Nat)] 42)).heap[w.heap.size+1]?=some (.cells #[.string ⟨#[]⟩,.int .i64 (m:Nat)] 42 (0,0)):=Apc _ _ _;have ah:Ara w ((w.alloc (.cells ZA 122)).alloc (.cells #[.string ⟨#[]⟩,.int .i64 (m:Nat)] 42)):=((Aa.refl _ _).alloc _).alloc _;generalize(w.alloc (.cells ZA 122)).alloc (.cells #[.string ⟨#[]⟩,.int .i64 (m:Nat)] 42)=W1 at*;obtain⟨p0,N⟩: ∃p,p=w.heap.size:=⟨_,rfl⟩;obtain⟨p1,O⟩: ∃p,p=w.heap.size+1:=⟨_,rfl⟩;have W:Hid (p0=w.heap.size∧p1=w.heap.size+1):=⟨N,O⟩;rw[←N]at r0;rw[←O]at r1;rw[←O,←N];have Y:Hid (W1.heap[p0]?=some (.cells ZA 122 (0,0))∧W1.heap[p1]?=some (.cells #[.string ⟨#[]⟩,.int .i64 (m:Nat)] 42 (0,0))∧Ara w W1):=⟨r0,r1,ah⟩;have am:Hid (ZA= #[.slice none 0 0,.slice none 0 0,.slice none 0 0,.slice none 0 0,.slice none 0 0,.slice none 0 0,.slice none 0 0,.slice none 0 0,.slice none 0 0,.slice none 0 0,.slice none 0 0,.slice none 0 0,.int .i64 0]):=L;clear N O r0 r1 ah L;have r:Hid (∀j,(Value.slice ao n c).ownBlock=some j→j<p0):=fun j C=>by
  rcases H0.o with⟨rfl,_⟩|⟨g,rfl,_,hg,_⟩
  ·cases C
  ·have:j=g:=by injection C with C;exact C.symm
   have:=W.o;omega
 go_loopw[6] (fun vi wr=> ∃i:Nat,i≤n∧vi= .int .i64 i∧Hid ((ao=none∧n=0∧c=0)∨ ∃g,ao=some ⟨g,0,none⟩∧base≤g∧g<w.heap.size∧Ef wr 42 (.string ⟨#[]⟩) (.int .i64 (m:Nat)) g c i)∧Hid (Aa (fun j=>(Value.slice ao n c).ownBlock=some j) W1 wr)) (fun vi _=>n-(intOf vi).toNat)
 case atStart=>
  refine⟨0,Ann _,rfl,?_,Aa.refl _ _⟩;rcases H0.o with h|⟨g,h1,h2,D,X⟩
  ·exact .inl h
  ·exact .inr ⟨g,h1,h2,D,X.kept Y.o.2.2 id⟩
 case round=>
  obtain⟨i,az,rfl,HL,V⟩:=hrel;have rw1:wr.heap[p1]?=some (.cells #[.string ⟨#[]⟩,.int .i64 (m:Nat)] 42 (0,0)):=V.o.row Y.o.2.1 (fun e=>by have:=r.o _ e;have:=W.o;omega);have rw0:wr.heap[p0]?=some (.cells ZA 122 (0,0)):=V.o.row Y.o.1 (fun e=>by have:=r.o _ e;omega);have x1:wr.cell? ⟨p1,0,none⟩=some (.string ⟨#[]⟩):=Am7 _ _ 0 _ _ _ rw1;have x2:wr.cell? ⟨p1,1,none⟩=some (.int .i64 (m:Nat)):=Am7 _ _ 1 _ _ _ rw1
  by_cases ar:i<n
  ·have J:(i:Int)<(n:Int):=by omega
   have aq:decide ((i:Int)<(n:Int))=true:=Ana J;obtain⟨g,rfl,an,ap,af⟩: ∃g,ao=some ⟨g,0,none⟩∧base≤g∧g<w.heap.size∧Ef wr 42 (.string ⟨#[]⟩) (.int .i64 (m:Nat)) g c i:=by
    rcases HL.o with⟨_,h,_⟩|h
    ·omega
    ·exact h
   have al:Hid (Ef wr 42 (.string ⟨#[]⟩) (.int .i64 (m:Nat)) g c i):=af;obtain⟨cur,s1,s2,s3,s4,s5⟩:=af;obtain⟨u1,q1⟩: ∃u,wr.cell? ⟨g,i*2,none⟩=some u:=⟨_,by rw[Am7 _ _ _ _ _ _ s1,Apl (by omega)]⟩;obtain⟨u2,q2⟩: ∃u,wr.cell? ⟨g,i*2+1,none⟩=some u:=⟨_,by rw[Am7 _ _ _ _ _ _ s1,Apl (by omega)]⟩;have f1:wr.frozen? ⟨g,i*2,none⟩=false:=Ang _ _ _ _ _ s1;have f2:wr.frozen? ⟨g,i*2+1,none⟩=false:=Ang _ _ _ _ _ s1;have HN:Hid (Ef ((wr.setCell ⟨g,i*2,none⟩ (.string ⟨#[]⟩)).setCell ⟨g,i*2+1,none⟩ (.int .i64 (m:Nat))) 42 (.string ⟨#[]⟩) (.int .i64 (m:Nat)) g c (i+1)∧Aa (fun j=>(Value.slice (some ⟨g,0,none⟩) n c).ownBlock=some j) W1 ((wr.setCell ⟨g,i*2,none⟩ (.string ⟨#[]⟩)).setCell ⟨g,i*2+1,none⟩ (.int .i64 (m:Nat)))):=⟨al.o.put i (by omega) (i+1) (by omega) (fun j C=>by omega),(V.o.setCell (p:=⟨g,i*2,none⟩) (.inr rfl) _).setCell (p:=⟨g,i*2+1,none⟩) (.inr rfl) _⟩;clear s1 s2 s3 s4 s5 rw1 rw0 HL V H0;go_wp2_with fail;go_roundw
   case rel=>exact⟨i+1,by omega,by go_num,.inr ⟨g,rfl,an,ap,HN.o.1⟩,HN.o.2⟩
   case measure=>simp[intOf];omega
  ·have J: ¬(i:Int)<(n:Int):=by omega
   have aq:decide ((i:Int)<(n:Int))=false:=Anc J;have ag:i=n:=by omega
   have E:Hid (LX wr base 42 (.string ⟨#[]⟩) (.int .i64 (m:Nat)) (.slice ao n c) n):=by
    rw[ag]at HL;rcases HL.o with⟨h1,h2,D⟩|⟨g,h1,h2,D,X⟩
    ·subst h1 h2 D;exact .inl ⟨rfl,rfl⟩
    ·subst h1;exact .inr ⟨g,c,rfl,h2,X⟩
   have k:Hid (Aa (fun j=>(Value.slice ao n c).ownBlock=some j) w wr∧base≤wr.heap.size):=by
    have h1:Aa (fun j=>(Value.slice ao n c).ownBlock=some j) w wr:=(Y.o.2.2.wider (fun _ _ h=>h.elim)).trans V.o (fun _ _ h=>h);exact⟨h1,Ant hb h1.size⟩
   have I:Hid (wr.heap[p1]?=some (.cells #[.string ⟨#[]⟩,.int .i64 (m:Nat)] 42 (0,0))∧wr.heap[p0]?=some (.cells ZA 122 (0,0))):=⟨rw1,rw0⟩;clear rw1 rw0 HL V H0 ag Y
   go_wp2_with(at_builtin;refine C8 _ rfl (.tmp 22) (.tmp 24) 39 rfl 42 i0 (.agg #[.string ⟨#[]⟩,.int .i64 0]) 24 underlying39 hi S T U rfl base (.string ⟨#[]⟩) (.int .i64 (m:Nat)) _ n 1 (by omega) rfl (E.o.alloc _) ?b0 ⟨wr.heap.size,0,none⟩ 1 rfl (Hq (Ex (.string ⟨#[]⟩) (.int .i64 (m:Nat)) 1)) rfl rfl ?b1 ?b2 ?_)
   case b0=>first|exact Ant k.o.2 ((Aa.refl (fun _=>False) _).alloc _).size|(have:=k.o.2;omega)
   case b1=>unfold maxLen;omega
   case b2=>omega
   intro v1 w1 z A y;have d:Aa (fun j=>(Value.slice ao n c).ownBlock=some j) wr w1:=((Aa.refl _ wr).alloc _).trans y (fun _ _ h=>h);have f:Eo wr w1 42 (.string ⟨#[]⟩) (.int .i64 (m:Nat)):=(Eo.alloc _ _ _ _ _).trans A;have ac:Hid (LX w1 base 42 (.string ⟨#[]⟩) (.int .i64 (m:Nat)) v1 (n+1)):=z;have F:Hid (LX w1 base 42 (.string ⟨#[]⟩) (.int .i64 (m:Nat)) (.slice ao n c) n):=f.lx E.o;have l:Hid (Aa (fun j=>(Value.slice ao n c).ownBlock=some j) w w1∧base≤w1.heap.size):=⟨k.o.1.trans d (fun _ _ h=>h),Ant k.o.2 d.size⟩;have s:Hid (w1.heap[p1]?=some (.cells #[.string ⟨#[]⟩,.int .i64 (m:Nat)] 42 (0,0))∧w1.heap[p0]?=some (.cells ZA 122 (0,0))):=⟨d.row I.o.1 (fun e=>by have:=r.o _ e;have:=W.o;omega),d.row I.o.2 (fun e=>by have:=r.o _ e;omega)⟩;clear E k I z A y d f x1 x2;have x1:w1.cell? ⟨p1,0,none⟩=some (.string ⟨#[]⟩):=Am7 _ _ 0 _ _ _ s.o.1;have x2:w1.cell? ⟨p1,1,none⟩=some (.int .i64 (m:Nat)):=Am7 _ _ 1 _ _ _ s.o.1
   go_wp2_with(at_builtin;refine C8 _ rfl (.tmp 26) (.tmp 29) 39 rfl 42 i0 (.agg #[.string ⟨#[]⟩,.int .i64 0]) 24 underlying39 hi S T U rfl base (.string ⟨#[]⟩) (.int .i64 (m:Nat)) _ n 2 (by omega) rfl (F.o.alloc _) ?b0 ⟨w1.heap.size,0,none⟩ 2 rfl (Hq (Ex (.string ⟨#[]⟩) (.int .i64 (m:Nat)) 2)) rfl rfl ?b1 ?b2 ?_)
   case b0=>first|exact Ant l.o.2 ((Aa.refl (fun _=>False) _).alloc _).size|(have:=l.o.2;omega)
   case b1=>unfold maxLen;omega
   case b2=>omega
   intro v2 w2 z A y;have d:Aa (fun j=>(Value.slice ao n c).ownBlock=some j) w1 w2:=((Aa.refl _ w1).alloc _).trans y (fun _ _ h=>h);have f:Eo w1 w2 42 (.string ⟨#[]⟩) (.int .i64 (m:Nat)):=(Eo.alloc _ _ _ _ _).trans A;have Q:Hid (LX w2 base 42 (.string ⟨#[]⟩) (.int .i64 (m:Nat)) v1 (n+1)∧LX w2 base 42 (.string ⟨#[]⟩) (.int .i64 (m:Nat)) v2 (n+2)):=⟨f.lx ac.o,z⟩;have G:Hid (LX w2 base 42 (.string ⟨#[]⟩) (.int .i64 (m:Nat)) (.slice ao n c) n):=f.lx F.o;have q:Hid (Aa (fun j=>(Value.slice ao n c).ownBlock=some j) w w2∧base≤w2.heap.size):=⟨l.o.1.trans d (fun _ _ h=>h),Ant l.o.2 d.size⟩;have t:Hid (w2.heap[p1]?=some (.cells #[.string ⟨#[]⟩,.int .i64 (m:Nat)] 42 (0,0))∧w2.heap[p0]?=some (.cells ZA 122 (0,0))):=⟨d.row s.o.1 (fun e=>by have:=r.o _ e;have:=W.o;omega),d.row s.o.2 (fun e=>by have:=r.o _ e;omega)⟩;clear F l s z A y d f x1 x2 ac;have x1:w2.cell? ⟨p1,0,none⟩=some (.string ⟨#[]⟩):=Am7 _ _ 0 _ _ _ t.o.1;have x2:w2.cell? ⟨p1,1,none⟩=some (.int .i64 (m:Nat)):=Am7 _ _ 1 _ _ _ t.o.1
   go_wp2_with(at_builtin;refine C8 _ rfl (.tmp 31) (.tmp 35) 39 rfl 42 i0 (.agg #[.string ⟨#[]⟩,.int .i64 0]) 24 underlying39 hi S T U rfl base (.string ⟨#[]⟩) (.int .i64 (m:Nat)) _ n 3 (by omega) rfl (G.o.alloc _) ?b0 ⟨w2.heap.size,0,none⟩ 3 rfl (Hq (Ex (.string ⟨#[]⟩) (.int .i64 (m:Nat)) 3)) rfl rfl ?b1 ?b2 ?_)
   case b0=>first|exact Ant q.o.2 ((Aa.refl (fun _=>False) _).alloc _).size|(have:=q.o.2;omega)
   case b1=>unfold maxLen;omega
   case b2=>omega
   intro v3 w3 z A y;have d:Aa (fun j=>(Value.slice ao n c).ownBlock=some j) w2 w3:=((Aa.refl _ w2).alloc _).trans y (fun _ _ h=>h);have f:Eo w2 w3 42 (.string ⟨#[]⟩) (.int .i64 (m:Nat)):=(Eo.alloc _ _ _ _ _).trans A;have K:Hid (LX w3 base 42 (.string ⟨#[]⟩) (.int .i64 (m:Nat)) v1 (n+1)∧LX w3 base 42 (.string ⟨#[]⟩) (.int .i64 (m:Nat)) v2 (n+2)∧LX w3 base 42 (.string ⟨#[]⟩) (.int .i64 (m:Nat)) v3 (n+3)):=⟨f.lx Q.o.1,f.lx Q.o.2,z⟩;have P:Hid (LX w3 base 42 (.string ⟨#[]⟩) (.int .i64 (m:Nat)) (.slice ao n c) n):=f.lx G.o;have aa:Hid (Aa (fun j=>(Value.slice ao n c).ownBlock=some j) w w3∧base≤w3.heap.size):=⟨q.o.1.trans d (fun _ _ h=>h),Ant q.o.2 d.size⟩;have x:Hid (w3.heap[p1]?=some (.cells #[.string ⟨#[]⟩,.int .i64 (m:Nat)] 42 (0,0))∧w3.heap[p0]?=some (.cells ZA 122 (0,0))):=⟨d.row t.o.1 (fun e=>by have:=r.o _ e;have:=W.o;omega),d.row t.o.2 (fun e=>by have:=r.o _ e;omega)⟩;clear G q t z A y d f x1 x2 Q;have x1:w3.cell? ⟨p1,0,none⟩=some (.string ⟨#[]⟩):=Am7 _ _ 0 _ _ _ x.o.1;have x2:w3.cell? ⟨p1,1,none⟩=some (.int .i64 (m:Nat)):=Am7 _ _ 1 _ _ _ x.o.1;obtain⟨a1,c1,e1,A1,B1,C1⟩:=K.o.1.mark;obtain⟨a2,c2,e2,A2,B2,C2⟩:=K.o.2.1.mark;obtain⟨a3,c3,e3,A3,B3,C3⟩:=K.o.2.2.mark;obtain⟨a0,c0,e0,A0,B0,C0⟩:=P.o.mark;cases e0;subst e1 e2 e3;have H:Hid (Jd w3 (Je 4 m (ao,n,c) (a1,n+1,c1) (a2,n+2,c2) (a3,n+3,c3))∧ ∀j a,j<12→((Je 4 m (ao,n,c) (a1,n+1,c1) (a2,n+2,c2) (a3,n+3,c3)).sl j).1=some a→base≤a.block∧a.block<w3.heap.size∧a.block≠p0):=by
    have M: ∀a:Addr,(base≤a.block∧a.block<w3.heap.size∧ ∃cur,w3.heap[a.block]?=some (.cells cur 42 (0,0)))→base≤a.block∧a.block<w3.heap.size∧a.block≠p0:=fun a ⟨h1,h2,cur,D⟩=>⟨h1,h2,fun e=>by
     rw[e,x.o.2]at D;injection D with D;injection D with _ D;exact absurd D (by decide)⟩
    refine⟨⟨hm,fun j C=>?_,fun j C=>?_,fun j X C=>?_⟩,fun j a C e=>?_⟩
    ·rcases Gz 4 m j (ao,n,c) (a1,n+1,c1) (a2,n+2,c2) (a3,n+3,c3)with⟨h,_⟩|⟨h,_⟩|⟨h,_⟩|⟨h,_⟩|⟨h,_⟩<;>rw[h]<;>dsimp only<;>omega
    ·rcases Gz 4 m j (ao,n,c) (a1,n+1,c1) (a2,n+2,c2) (a3,n+3,c3)with⟨h,B⟩|⟨h,B⟩|⟨h,B⟩|⟨h,B⟩|⟨h,B⟩
     ·omega
     ·omega
     ·omega
     ·omega
     ·rw[h];exact On _ _ _
    ·rcases Gz 4 m j (ao,n,c) (a1,n+1,c1) (a2,n+2,c2) (a3,n+3,c3)with⟨h,B⟩|⟨h,B⟩|⟨h,B⟩|⟨h,B⟩|⟨h,B⟩
     ·rw[h];exact B0
     ·rw[h];exact B1
     ·rw[h];exact B2
     ·rw[h];exact B3
     ·rw[h];exact On _ _ _
    ·rcases Gz 4 m j (ao,n,c) (a1,n+1,c1) (a2,n+2,c2) (a3,n+3,c3)with⟨h,B⟩|⟨h,B⟩|⟨h,B⟩|⟨h,B⟩|⟨h,B⟩<;>rw[h]at e
     ·exact M a (C0 a e)
     ·exact M a (C1 a e)
     ·exact M a (C2 a e)
     ·exact M a (C3 a e)
     ·cases e
   clear A0 B0 C0 A1 B1 C1 A2 B2 C2 A3 B3 C3 K P;have ad:Hid (w3.heap[p0]?=some (.cells ZA 122 (0,0))):=x.o.2;have b:=ad.o;rw[am.o]at b;have p10:w3.cell? ⟨p0,0,none⟩=some (.slice none 0 0):=Am7 _ _ 0 _ _ _ b;have f10:w3.frozen? ⟨p0,0,none⟩=false:=Ang _ _ 0 _ _ b;have p11:w3.cell? ⟨p0,1,none⟩=some (.slice none 0 0):=Am7 _ _ 1 _ _ _ b;have f11:w3.frozen? ⟨p0,1,none⟩=false:=Ang _ _ 1 _ _ b;have p12:w3.cell? ⟨p0,2,none⟩=some (.slice none 0 0):=Am7 _ _ 2 _ _ _ b;have f12:w3.frozen? ⟨p0,2,none⟩=false:=Ang _ _ 2 _ _ b;have p13:w3.cell? ⟨p0,3,none⟩=some (.slice none 0 0):=Am7 _ _ 3 _ _ _ b;have f13:w3.frozen? ⟨p0,3,none⟩=false:=Ang _ _ 3 _ _ b;have p14:w3.cell? ⟨p0,4,none⟩=some (.slice none 0 0):=Am7 _ _ 4 _ _ _ b;have f14:w3.frozen? ⟨p0,4,none⟩=false:=Ang _ _ 4 _ _ b;have p15:w3.cell? ⟨p0,5,none⟩=some (.slice none 0 0):=Am7 _ _ 5 _ _ _ b;have f15:w3.frozen? ⟨p0,5,none⟩=false:=Ang _ _ 5 _ _ b;have p16:w3.cell? ⟨p0,6,none⟩=some (.slice none 0 0):=Am7 _ _ 6 _ _ _ b;have f16:w3.frozen? ⟨p0,6,none⟩=false:=Ang _ _ 6 _ _ b;have p17:w3.cell? ⟨p0,7,none⟩=some (.slice none 0 0):=Am7 _ _ 7 _ _ _ b;have f17:w3.frozen? ⟨p0,7,none⟩=false:=Ang _ _ 7 _ _ b;have p18:w3.cell? ⟨p0,8,none⟩=some (.slice none 0 0):=Am7 _ _ 8 _ _ _ b;have f18:w3.frozen? ⟨p0,8,none⟩=false:=Ang _ _ 8 _ _ b;have p19:w3.cell? ⟨p0,9,none⟩=some (.slice none 0 0):=Am7 _ _ 9 _ _ _ b;have f19:w3.frozen? ⟨p0,9,none⟩=false:=Ang _ _ 9 _ _ b;have p20:w3.cell? ⟨p0,10,none⟩=some (.slice none 0 0):=Am7 _ _ 10 _ _ _ b;have f20:w3.frozen? ⟨p0,10,none⟩=false:=Ang _ _ 10 _ _ b;have p21:w3.cell? ⟨p0,11,none⟩=some (.slice none 0 0):=Am7 _ _ 11 _ _ _ b;have f21:w3.frozen? ⟨p0,11,none⟩=false:=Ang _ _ 11 _ _ b;have p22:w3.cell? ⟨p0,12,none⟩=some (.int .i64 0):=Am7 _ _ 12 _ _ _ b;have f22:w3.frozen? ⟨p0,12,none⟩=false:=Ang _ _ 12 _ _ b;obtain⟨aj,ai⟩:=Ail b (.slice none 0 0) (.slice none 0 0) (.slice none 0 0) (.slice none 0 0) (.slice ao n c) (.slice a1 (n+1) c1) (.slice a2 (n+2) c2) (.slice a3 (n+3) c3) (.slice none 0 0) (.slice none 0 0) (.slice none 0 0) (.slice none 0 0) (.int .i64 (m:Nat));have ae:Hid ((((((((((((((w3.setCell ⟨p0,0,none⟩ (.slice none 0 0)).setCell ⟨p0,1,none⟩ (.slice none 0 0)).setCell ⟨p0,2,none⟩ (.slice none 0 0)).setCell ⟨p0,3,none⟩ (.slice none 0 0)).setCell ⟨p0,4,none⟩ (.slice ao n c)).setCell ⟨p0,5,none⟩ (.slice a1 (n+1) c1)).setCell ⟨p0,6,none⟩ (.slice a2 (n+2) c2)).setCell ⟨p0,7,none⟩ (.slice a3 (n+3) c3)).setCell ⟨p0,8,none⟩ (.slice none 0 0)).setCell ⟨p0,9,none⟩ (.slice none 0 0)).setCell ⟨p0,10,none⟩ (.slice none 0 0)).setCell ⟨p0,11,none⟩ (.slice none 0 0)).setCell ⟨p0,12,none⟩ (.int .i64 (m:Nat))).heap[p0]?=some (.cells #[.slice none 0 0,.slice none 0 0,.slice none 0 0,.slice none 0 0,.slice ao n c,.slice a1 (n+1) c1,.slice a2 (n+2) c2,.slice a3 (n+3) c3,.slice none 0 0,.slice none 0 0,.slice none 0 0,.slice none 0 0,.int .i64 (m:Nat)] 122 (0,0))∧Aa (fun j=>j=p0) w3 (((((((((((((w3.setCell ⟨p0,0,none⟩ (.slice none 0 0)).setCell ⟨p0,1,none⟩ (.slice none 0 0)).setCell ⟨p0,2,none⟩ (.slice none 0 0)).setCell ⟨p0,3,none⟩ (.slice none 0 0)).setCell ⟨p0,4,none⟩ (.slice ao n c)).setCell ⟨p0,5,none⟩ (.slice a1 (n+1) c1)).setCell ⟨p0,6,none⟩ (.slice a2 (n+2) c2)).setCell ⟨p0,7,none⟩ (.slice a3 (n+3) c3)).setCell ⟨p0,8,none⟩ (.slice none 0 0)).setCell ⟨p0,9,none⟩ (.slice none 0 0)).setCell ⟨p0,10,none⟩ (.slice none 0 0)).setCell ⟨p0,11,none⟩ (.slice none 0 0)).setCell ⟨p0,12,none⟩ (.int .i64 (m:Nat)))):=⟨aj,ai⟩;clear aj ai;clear b x x1 x2;go_wp2_with fail;have av:=ae.o.1;have R:=ae.o.2;refine Aok (v:= .agg #[.slice none 0 0,.slice none 0 0,.slice none 0 0,.slice none 0 0,.slice ao n c,.slice a1 (n+1) c1,.slice a2 (n+2) c2,.slice a3 (n+3) c3,.slice none 0 0,.slice none 0 0,.slice none 0 0,.slice none 0 0,.int .i64 (m:Nat)]) (Ao0 results107 _ _ p0 122 _ (0,0) _ rfl av underlying122 rfl Mb) rfl ?_;have ar:p0<w3.heap.size:=Anu ad.o;refine⟨(Je 4 m (ao,n,c) (a1,n+1,c1) (a2,n+2,c2) (a3,n+3,c3)),rfl,H.o.1.kept R (fun j a C e h=>?_),rfl,fun j a C e=>?_,aa.o.1.trans R (fun j h1 h2=>by have:=W.o;omega)⟩
   ·exact(H.o.2 j a C e).2.2 h
   ·have h1:=H.o.2 j a C e;have:=R.size;omega
theorem Als(rs:List Rec): ∀i (h:i<rs.length) j v,rs[i].cells[j]?=some v→(rs.flatMap Rec.cells)[i*13+j]?=some v:=by
 induction rs with
 |nil=>intro i h;simp at h
 |cons r t ih=>
  intro i h j v b;rw[Aoe];have a:r.cells.length=13:=rfl;cases i with
  |zero=>
   have c:j<r.cells.length:=(List.getElem?_eq_some_iff.1 b).1;rw[Nat.zero_mul,An3,An6 c];exact b
  |succ i=>
   rw[Ans (by omega),a,show(i+1)*13+j-13=i*13+j from by omega];exact ih i (by simpa using h) j v b
theorem Nq.owns{w:World}{base c n:Nat}{ao:Arf}{rs:List Rec}(h:w.ownsRow base 122 13 (.slice ao n c) rs.length (rs.flatMap Rec.cells)):Nq w ao rs:=fun i hi=>by
 rcases h.2 with⟨e,b⟩|⟨g,cap,cur,e,h1,h2,d⟩
 ·omega
 ·cases e;refine⟨g,0,rfl,Anu h2,fun j v a=>?_⟩;have f:j<13:=(List.getElem?_eq_some_iff.1 a).1;rw[An3,h.cellAt _ (by omega)];exact Als rs i hi j v a
structure Cv(w0:World)(pg:Nat)(xs:Are)(v:Value)(rs:List Rec)(w:World):Prop where
 kept:Aa (fun j=>j=pg) w0 w
 row:w.heap[pg]?=some (.cells (xs++[v]).toArray 57 (0,0))
 owns:w.ownsRow w0.heap.size 122 13 v rs.length (rs.flatMap Rec.cells)
 recs: ∀r∈rs,Jd w r
 far: ∀r∈rs,∀j a,j<12→(r.sl j).1=some a→w0.heap.size≤a.block∧a.block<w.heap.size∧v.ownBlock≠some a.block
theorem Cv.step{w0 w w':World}{pg:Nat}{xs:Are}{v:Value}{rs:List Rec}{S:Nat→Prop}(h:Cv w0 pg xs v rs w)(hk:Aa S w w')(e: ∀j,j<w.heap.size→ ¬S j):Cv w0 pg xs v rs w':=
 ⟨h.kept.trans hk (fun j b hs=>absurd hs (e j (by have:=h.kept.size;omega))),hk.row h.row (e _ (Anu h.row)),hk.owns h.owns (fun k hk=>e k (h.owns.lt k hk).2),fun r c=>(h.recs r c).kept hk (fun j a b d=>e _ (h.far r c j a b d).2.1),fun r c j a b d=>⟨(h.far r c j a b d).1,by have:=(h.far r c j a b d).2.1;have:=hk.size;omega,(h.far r c j a b d).2.2⟩⟩
theorem Cv.push{w0 w w1:World}{pg:Nat}{xs:Are}{v v':Value}{rs:List Rec}{r:Rec}(h:Cv w0 pg xs v rs w)(n:pg<w0.heap.size)(q:xs.length=8)(o:Jd w r)(i: ∀j a,j<12→(r.sl j).1=some a→w0.heap.size≤a.block∧a.block<w.heap.size∧v.ownBlock≠some a.block)
  (g:w1.ownsRow w0.heap.size 122 13 v' (rs.length+1) (rs.flatMap Rec.cells++r.cells)) (l:w.grownBy w1 v.ownBlock) (m:Cb w v v'):Cv w0 pg xs v' (rs++[r]) (w1.setCell ⟨pg,8,none⟩ v'):=by
 have k1:Aa (fun j=>v.ownBlock=some j) w w1:=(Aa.refl _ w).grown l (fun k e=> .inr e);have k2:Aa (fun j=>j=pg) w1 (w1.setCell ⟨pg,8,none⟩ v'):=(Aa.refl (fun j=>j=pg) w1).setCell (p:=⟨pg,8,none⟩) (.inr rfl) _;have k3:Aa (fun j=>j=pg∨v.ownBlock=some j) w (w1.setCell ⟨pg,8,none⟩ v'):=(k1.wider (fun _ _ h=> .inr h)).trans k2 (fun _ _ h=> .inl h);have b: ∀s∈rs++[r],Jd w s∧ ∀j a,j<12→(s.sl j).1=some a→w0.heap.size≤a.block∧a.block<w.heap.size∧v.ownBlock≠some a.block:=fun s hs=>by
  rcases Aq3.1 hs with hs|hs
  ·exact⟨h.recs s hs,h.far s hs⟩
  ·rw[List.mem_singleton.1 hs];exact⟨o,i⟩
 refine⟨?_,?_,?_,fun s hs=>(b s hs).1.kept k3 ?_,fun s hs j a c d=>?_⟩
 ·refine h.kept.trans k3 fun j c hs=>?_;rcases hs with hs|hs
  ·exact hs
  ·have:=(h.owns.lt j hs).1;omega
 ·have f:=k1.row h.row (fun e=>by have:=(h.owns.lt pg e).1;omega);rw[Anb _ pg 8 _ _ v' f];congr 2;simp[q]
 ·rw[Anf,Ao4];refine k2.owns ?_ (fun k hk e=>by have:=(g.lt k hk).1;omega);simpa using g
 ·intro j a c d hb;obtain⟨f1,f2,f3⟩:=(b s hs).2 j a c d;rcases hb with hb|hb
  ·omega
  ·exact f3 hb
 ·obtain⟨f1,f2,f3⟩:=(b s hs).2 j a c d;refine⟨f1,by have:=k3.size;omega,fun e=>?_⟩;rcases m _ e with e|e
  ·exact f3 e
  ·omega
theorem Cv.cell{w0 w:World}{pg:Nat}{xs:Are}{v:Value}{rs:List Rec}(h:Cv w0 pg xs v rs w)(i:Nat)(u:Value)(a:xs[i]?=some u):w.cell? ⟨pg,i,none⟩=some u:=by
 rw[Am7 _ _ i _ _ _ h.row,Anw,An6 (List.getElem?_eq_some_iff.1 a).1];exact a
theorem Cv.all{w0 w:World}{pg:Nat}{xs:Are}{v:Value}{rs:List Rec}(h:Cv w0 pg xs v rs w)(a:xs.length=8):w.cell? ⟨pg,8,none⟩=some v:=by
 rw[Am7 _ _ 8 _ _ _ h.row,Anw,Ans (by omega),a];rfl
theorem Cv.stay{w0 w:World}{pg:Nat}{xs:Are}{v:Value}{rs:List Rec}(h:Cv w0 pg xs v rs w)(a:rs.length≤1000000000):Calls prog 59 #[v] w fun e w'=>e= .returned (.bool true)∧Ara w w':=by
 obtain⟨ao,c,b,_⟩:=Aq h.owns;subst b;exact Alq ao c rs w (Nq.owns h.owns) h.recs a
theorem Rec.one(r:Rec): ∀u∈r.cells,u.oneCell'=true:=fun u a=>by
 unfold Rec.cells Rec.v at a;simp only[List.mem_cons,List.not_mem_nil,or_false]at a;rcases a with rfl|rfl|rfl|rfl|rfl|rfl|rfl|rfl|rfl|rfl|rfl|rfl|rfl<;>rfl
structure Ix(w0:World)(pg:Nat)(xs:Are)(v:Value)(rs:List Rec)(w:World)(r:Rec):Prop where
 game:Cv w0 pg xs v rs w
 low:pg<w0.heap.size
 eight:xs.length=8
 ok:Jd w r
 far: ∀j a,j<12→(r.sl j).1=some a→w0.heap.size≤a.block∧a.block<w.heap.size∧v.ownBlock≠some a.block
theorem Ix.step{w0 w w':World}{pg:Nat}{xs:Are}{v:Value}{rs:List Rec}{r:Rec}(h:Ix w0 pg xs v rs w r)(hk:Ara w w'):Ix w0 pg xs v rs w' r:=
 ⟨h.game.step hk (fun _ _=>id),h.low,h.eight,h.ok.kept hk (fun _ _ _ _=>id),fun j a c b=>⟨(h.far j a c b).1,by have:=(h.far j a c b).2.1;have:=hk.size;omega,(h.far j a c b).2.2⟩⟩
theorem Ix.of{w0 wA W w2:World}{pg m n:Nat}{xs ys:Are}{v l:Value}{rs:List Rec}{e:TypeId}{E:Ending}(b:Cv w0 pg xs v rs wA)(c:pg<w0.heap.size)(o:xs.length=8)(hk:Ara wA W)(k:W.ownsRow wA.heap.size e 2 l n ys)(hM:Rm wA.heap.size m l W w2 E):
  ∃(r:Rec) (u:Nat→Value),E= .returned (.agg #[u 0,u 1,u 2,u 3,u 4,u 5,u 6,u 7,u 8,u 9,u 10,u 11,u 12])∧Hid (r.cells=[u 0,u 1,u 2,u 3,u 4,u 5,u 6,u 7,u 8,u 9,u 10,u 11,u 12]∧Ix w0 pg xs v rs w2 r):=by
 obtain⟨r,rfl,h1,_,f,g⟩:=hM;have k2:Ara wA w2:=hk.trans g (fun j d e=>by have:=(k.lt j e).1;omega);refine⟨r,fun i=>r.cells.getD i undef,rfl,rfl,b.step k2 (fun _ _=>id),c,o,h1,fun j a d h=>?_⟩;obtain⟨f1,f2⟩:=f j a d h;exact⟨by have:=b.kept.size;omega,f2,fun e=>by have:=(b.owns.lt _ e).2;omega⟩
theorem Ix.push{w0 w w1:World}{pg:Nat}{xs:Are}{v v':Value}{rs:List Rec}{r:Rec}(h:Ix w0 pg xs v rs w r)(d:w1.ownsRow w0.heap.size 122 13 v' (rs.length+1) (rs.flatMap Rec.cells++r.cells))(b:w.grownBy w1 v.ownBlock)(c:Cb w v v'):
  Cv w0 pg xs v' (rs++[r]) (w1.setCell ⟨pg,8,none⟩ v')∧w1.cell? ⟨pg,8,none⟩=some v∧w1.frozen? ⟨pg,8,none⟩=false:=by
 have k1:Aa (fun j=>v.ownBlock=some j) w w1:=(Aa.refl _ w).grown b (fun k e=> .inr e);have a:=k1.row h.game.row (fun e=>by have:=(h.game.owns.lt pg e).1;have:=h.low;omega);refine⟨h.game.push h.low h.eight h.ok h.far d b c,?_,Ang _ _ 8 _ _ a⟩;rw[Am7 _ _ 8 _ _ _ a,Anw,Ans (by rw[h.eight];omega),h.eight];rfl
structure Mv(w0 w:World)(pg k:Nat)(xs:Are)(v:Value)(rs:List Rec)(o:Bool)(x:Value)(yo:Arf)(c:Nat)(fs:List Hm.Fl):Prop where
 game:Cv w0 pg xs v rs w
 low:pg<w0.heap.size
 eight:xs.length=8
 few:rs.length≤2000000
 lt:k<4
 gx:xs[k]?=some x
 gy:xs[4+k]?=some (.slice yo fs.length c)
 sub:Sub o w x fs
 files:Ba w yo fs
 small:fs.length≤40∧ ∀f∈fs,f.2.size≤3000
theorem Ll:(prog.info? 122).map (fun i=>(i.zero,i.size,i.bytes))=some (some (.agg #[.slice none 0 0,.slice none 0 0,.slice none 0 0,.slice none 0 0,.slice none 0 0,.slice none 0 0,.slice none 0 0,.slice none 0 0,.slice none 0 0,.slice none 0 0,.slice none 0 0,.slice none 0 0,.int .i64 0]),13,296):=by kernel_rfl
section
variable {P:Program} {ops:Array Oper} {Q:Exit→Act→World→Prop}
theorem Mw{o:Oper}{a:Act}{K:Act→World→Prop}{E:Prop}(w:World)(q:o.guard=none)(s x:Operand)(t:TypeId)
  (D:o.op= .call {callee:= .builtin .append,args:= #[s,x],argTypes:= #[t,t]})
  (base:Nat) (e:TypeId) (i:TypeInfo) (z:Value) (size bytes:Nat) (ht:P.underlying t=some (.slice e)) (hi:P.info? e=some i) (H:i.zero=some z)
  (g:i.size=size) (p:i.bytes=bytes) (y:z.cells.size=size) (r:0<size)
  (v:Value) (n:Nat) (xs:Are) (hs:a.eval s=v) (k:w.ownsRow base e size v n xs)
  (ad:Addr) (m c:Nat) (news:Are) (G:a.eval x= .slice (some ad) m c) (C:news.length=m*size) (f: ∀j u,news[j]?=some u→w.cell? (ad.add j)=some u) (h1: ∀u∈news,u.oneCell'=true)
  (l:n+m≤maxLen) (b:(n+m)*bytes≤140737488355328) (d:base≤w.heap.size)
  (h: ∀v' w',w'.ownsRow base e size v' (n+m) (xs++news)→w.grownBy w' v.ownBlock→Cb w v v'→K (a.put o.dst v') w'):if Region.wanted o (yielded ops a.tmps)=true then Oper.wp P o a w K Q else E:=by
 obtain⟨v',w',F,h2,A,B⟩:=Rv (P:=P) w base t o.type e i z size bytes ht hi H g p y r v n xs k ad m c news C f h1 l b d;rw[if_pos (by simp[Region.wanted,q])];unfold Oper.wp execOp;simp only[D,resolve,invoke,builtin,Sem.run_bind,Sem.run_pure,Ap6,List.map_toArray,Aos,Aqy,hs,G,F];exact h v' w' h2 A B
theorem tB{md:Region.Mode}{fuel:Nat}{listed:Array Bool}{a:Act}{w:World}(i:Nat){oi:Oper}(v:Value)(hi:ops[i]?=some oi)(g: ∀w,(execOp a.eval oi).run P w= .ok (.value v) w)
  (h:wpAny P md ops Q fuel (listed.setIfInBounds i true) (a.put oi.dst v) w) (hs:Region.noSelect ops=true:=by kernel_rfl) (d:Region.free md ops listed i=true:=by kernel_rfl) (e:(Region.ready md ops listed).contains i=true:=by kernel_rfl)
  (b: ∀c a w,Q (.panic c) (a.put oi.dst v) w→Q (.panic c) a w:=by exact fun _ _ _ h=>h) (f:Region.wanted oi (yielded ops a.tmps)=true:=by rfl):wpAny P md ops Q (fuel+1) listed a w:=
 wpAny_take hi hs d e b (.inl ⟨f,g⟩) h
theorem rB{md:Region.Mode}{fuel:Nat}{listed:Array Bool}{a:Act}{w:World}(i:Nat){o:Oper}(b:ops[i]?=some o)
  (h: ∀K':Act→World→Prop,(∀a w,wpAny P md ops Q fuel (listed.setIfInBounds i true) a w→K' a w)→if Region.wanted o (yielded ops a.tmps)=true then Oper.wp P o a w K' Q else K' (a.put o.dst undef) w) (c:Region.ready md ops listed=[i]:=by kernel_rfl):wpAny P md ops Q (fuel+1) listed a w:=
 wpAny_ready c (by simp) (AllReady.cons b h AllReady.nil)
theorem rC{md:Region.Mode}{fuel:Nat}{listed:Array Bool}{a:Act}{w:World}(i j:Nat){o o':Oper}(d:ops[i]?=some o)(b:ops[j]?=some o')
  (h: ∀K':Act→World→Prop,(∀a w,wpAny P md ops Q fuel (listed.setIfInBounds i true) a w→K' a w)→if Region.wanted o (yielded ops a.tmps)=true then Oper.wp P o a w K' Q else K' (a.put o.dst undef) w)
  (c: ∀K':Act→World→Prop,(∀a w,wpAny P md ops Q fuel (listed.setIfInBounds j true) a w→K' a w)→if Region.wanted o' (yielded ops a.tmps)=true then Oper.wp P o' a w K' Q else K' (a.put o'.dst undef) w) (e:Region.ready md ops listed=[i,j]:=by kernel_rfl):wpAny P md ops Q (fuel+1) listed a w:=
 wpAny_ready e (by simp) (AllReady.cons d h (AllReady.cons b c AllReady.nil))
end
theorem Lw(c:Int)(w:World)(a: -9223372036854775808≤c)(b:c≤9223372036854775807):
  Calls prog 52 #[.int .i64 c,.int .i64 4] w fun e w'=>(∃r:Nat,e= .returned (.int .i64 (r:Nat))∧r<4)∧w'=w:=by
 by_cases h:c<0
 ·go_enter func52,ntmps52
  go_wp2;go_ret;have e: -(c+1).tmod 4=(-(c+1))%4:=by rw[←Int.neg_tmod,Int.tmod_eq_emod_of_nonneg (by omega)]
  exact⟨⟨((-(c+1))%4).toNat,by rw[e,Int.toNat_of_nonneg (Int.emod_nonneg _ (by omega))];rfl,by omega⟩,rfl⟩
 ·go_enter func52,ntmps52
  go_wp2;go_ret;exact⟨⟨(c%4).toNat,by rw[Int.toNat_of_nonneg (Int.emod_nonneg _ (by omega))];rfl,by omega⟩,rfl⟩
theorem Amo{w:World}{b c:Nat}{ao:Arf}{n:Nat}{fs:List Hm.Fl}(h:w.ownsRow b 42 2 (.slice ao n c) fs.length (Jr (Dt fs)))(i:Nat)(hi:i<fs.length): ∃g,ao=some ⟨g,0,none⟩∧g<w.heap.size∧w.cell? ⟨g,i*2,none⟩=some (.string fs[i].1)∧w.cell? ⟨g,i*2+1,none⟩=some (.int .i64 (fs[i].2.size:Nat)):=by
 rcases h.2 with⟨e,d⟩|⟨g,cap,cur,e,h1,h2,f⟩
 ·omega
 ·cases e;have a:i<(Dt fs).length:=by unfold Dt;rw[Anz];exact hi
  obtain⟨e1,e2⟩:=Oi (Dt fs) i a;refine⟨g,rfl,Anu h2,?_,?_⟩
  ·rw[h.cellAt _ (by omega),e1];simp[Dt]
  ·rw[h.cellAt _ (by omega),e2];simp[Dt]
set_option maxRecDepth 20000 in
theorem Ad3{w0 w:World}{pg k m:Nat}{xs:Are}{v:Value}{rs:List Rec}{o:Bool}{x:Value}{yo:Arf}{c:Nat}{fs:List Hm.Fl}(T:Mv w0 w pg k xs v rs o x yo c fs)(X:m≤1000000000000):
  Calls prog 53 #[.pointer (some ⟨pg,0,none⟩),.int .i64 (k:Nat),.int .i64 (m:Nat)] w fun e w'=>e= .returned (.bool true)∧ ∃v' r,Cv w0 pg xs v' (rs++[r]) w':=by
 obtain⟨i0,hi,E,F,G⟩:=Aoo Ll;have I:=T.sub.list;have c0:=T.game.cell k x T.gx;have c1:=T.game.cell (4+k) _ T.gy;have S:=T.lt;have U:(k:Int)<4:=by omega
 have N:(0:Int)≤(k:Int):=by omega
 have Q:=T.small.1;have L:=T.few;have f:Hid (Mv w0 w pg k xs v rs o x yo c fs):=T;clear T
 go_enter func53,ntmps53
 go_wp2_with fail;refine I.mono ?_;rintro e w1 ⟨l,rfl,a,d⟩;obtain⟨lo,lc,V,_⟩:=Aq a;subst V;have c11:w1.cell? ⟨pg,4+k,none⟩=some (.slice yo fs.length c):=(d.cell (p:=⟨pg,4+k,none⟩) (Ank _ _ c1) id).trans c1;have P:Hid (∀i,(h:i<fs.length)→ ∃g,lo=some ⟨g,0,none⟩∧g<w1.heap.size∧w1.cell? ⟨g,i*2,none⟩=some (.string fs[i].1)∧w1.cell? ⟨g,i*2+1,none⟩=some (.int .i64 (fs[i].2.size:Nat))):=Amo a;have B:Hid (Ba w1 yo fs∧pg<w1.heap.size):=⟨f.o.files.kept d (fun _ _=>id),by have:=Anu f.o.game.row;have:=d.size;omega⟩;have H:Hid (∀W,Ara w1 W→Calls prog 107 #[.slice lo fs.length lc,.int .i64 (m:Nat)] W fun e w2=> ∃(r:Rec) (u:Nat→Value),e= .returned (.agg #[u 0,u 1,u 2,u 3,u 4,u 5,u 6,u 7,u 8,u 9,u 10,u 11,u 12])∧Hid (r.cells=[u 0,u 1,u 2,u 3,u 4,u 5,u 6,u 7,u 8,u 9,u 10,u 11,u 12]∧Ix w0 pg xs v rs w2 r)):=fun W J=>by
  have O:=J.owns a (fun _ _=>id);have hk:=d.trans J (fun _ _ h=>h);exact(Afy _ _ m _ _ W O hk.size (by omega) X).mono fun e w2 h=>Ix.of f.o.game f.o.low f.o.eight hk O h
 have c8:w1.cell? ⟨pg,8,none⟩=some v:=(d.cell (p:=⟨pg,8,none⟩) (Anu f.o.game.row) id).trans (f.o.game.all f.o.eight);clear I c0 c1 a d f;go_wp2_with fail
 go_loopw[8,9] (fun vb vi wr=> ∃i:Nat,i≤fs.length∧vi= .int .i64 i∧vb= .bool true∧Hid (Ara w1 wr)) (fun _ vi _=>fs.length-(intOf vi).toNat)
 case atStart=>exact⟨0,Ann _,rfl,rfl,Aa.refl _ _⟩
 case round=>
  obtain⟨i,R,rfl,rfl,q⟩:=hrel
  by_cases z:i<fs.length
  ·have t:(i:Int)<(fs.length:Int):=by omega
   have hd:decide ((i:Int)<(fs.length:Int))=true:=Ana t;obtain⟨g,rfl,M,e1,e2⟩:=P.o i z;obtain⟨b,off,rfl,_,f1,f2⟩:=(B.o.1.kept q.o (fun _ _=>id)) i z;have g1:=(q.o.cell (p:=⟨g,i*2,none⟩) M id).trans e1;have g2:=(q.o.cell (p:=⟨g,i*2+1,none⟩) M id).trans e2;have c12:=(q.o.cell (p:=⟨pg,4+k,none⟩) B.o.2 id).trans c11;generalize fs[i]=p at*;obtain⟨p1,p2⟩:=p;clear e1 e2 c11;go_wp2_with fail;go_quiet(fail);go_wp2_with fail;go_roundw
   case rel=>exact⟨i+1,by omega,by go_num,by first|rfl|simp,q.o.drewN _⟩
   case measure=>simp[intOf];omega
  ·have t: ¬(i:Int)<(fs.length:Int):=by omega
   have hd:decide ((i:Int)<(fs.length:Int))=false:=Anc t;have c88:=(q.o.cell (p:=⟨pg,8,none⟩) B.o.2 id).trans c8;clear c8 c11;go_wp2_with fail;refine wp_region_any (by kernel_rfl) ?_
   change wpAny _ _ _ _ _ _ _ (World.drew _)
   refine tB 0 (.pointer (some ⟨pg,0,none⟩)) rfl (fun w=>by go_simp) ?_;refine tB 1 (.pointer (some ⟨pg,0,none⟩)) rfl (fun w=>by go_simp) ?_;refine tB 2 (.pointer (some ⟨pg,0,none⟩)) rfl (fun w=>by go_simp) ?_;refine tB 3 (.pointer (some ⟨pg,8,none⟩)) rfl (fun w=>by go_simp) ?_;refine tB 5 (.slice lo fs.length lc) rfl (fun w=>by go_simp) ?_;refine tB 6 (.int .i64 (m:Nat)) rfl (fun w=>by go_simp) ?_;refine rC 4 7 rfl rfl (fun K hK=>?_) (fun K hK=>?_)
   focus
    go_simp;refine hK _ _ ?_;clear hK K;refine rB 7 rfl (fun K hK=>?_);go_simp;refine(H.o _ q.o.drew).mono ?_;rintro e w2 ⟨r,u,rfl,n⟩;refine hK _ _ ?_;clear hK K;refine rB 8 rfl (fun K hK=>?_);go_simp;refine hK _ _ ?_;clear hK K
   rotate_left
   focus
    go_simp;refine(H.o _ q.o.drew).mono ?_;rintro e w2 ⟨r,u,rfl,n⟩;refine hK _ _ ?_;clear hK K;have c82:=n.o.2.game.all n.o.2.eight;have c84:=(n.o.2.step ((Aa.refl _ _).alloc (.cells #[u 0,u 1,u 2,u 3,u 4,u 5,u 6,u 7,u 8,u 9,u 10,u 11,u 12] 122))).game.all n.o.2.eight;refine rC 4 8 rfl rfl (fun K hK=>?_) (fun K hK=>?_)
    focus
     go_simp;refine hK _ _ ?_;clear hK K;refine rB 8 rfl (fun K hK=>?_);go_simp;refine hK _ _ ?_;clear hK K
    rotate_left
    focus
     go_simp;refine hK _ _ ?_;clear hK K;refine rB 4 rfl (fun K hK=>?_);go_simp;refine hK _ _ ?_;clear hK K
   all_goals
    have s:=n.o.2.step ((Aa.refl _ _).alloc (.cells #[u 0,u 1,u 2,u 3,u 4,u 5,u 6,u 7,u 8,u 9,u 10,u 11,u 12] 122));refine rB 9 rfl (fun K hK=>?_);refine Mw _ rfl (.tmp 67) (.tmp 71) 55 rfl w0.heap.size 122 i0 _ 13 296 underlying55 hi E F G rfl (by decide) v rs.length (rs.flatMap Rec.cells) rfl s.game.owns ⟨w2.heap.size,0,none⟩ 1 1 [u 0,u 1,u 2,u 3,u 4,u 5,u 6,u 7,u 8,u 9,u 10,u 11,u 12] rfl rfl (Hq _) (by rw[←n.o.1];exact r.one) (by unfold maxLen;omega) (by omega) (by have:=s.game.kept.size;omega) ?_;intro v3 w3 j y A;obtain⟨a3,c3,D,_⟩:=Aq j;subst D;rw[←n.o.1]at j;have C:Hid _:=s.push j y A;have c83:=C.o.2.1;have f83:=C.o.2.2;clear j y A;refine hK _ _ ?_;clear hK K;refine tB 10 (.pointer (some ⟨pg,0,none⟩)) rfl (fun w=>by go_simp) ?_;refine tB 11 (.pointer (some ⟨pg,8,none⟩)) rfl (fun w=>by go_simp) ?_;refine rB 12 rfl (fun K hK=>?_);go_simp;refine hK _ _ ?_;clear hK K;refine wpAny_done (by kernel_rfl) ?_ _;go_wp2_with fail;go_ret;exact⟨rfl,_,_,C.o.1⟩
end Go.Proofs.YtegnkfdbmmndaaaGreat
