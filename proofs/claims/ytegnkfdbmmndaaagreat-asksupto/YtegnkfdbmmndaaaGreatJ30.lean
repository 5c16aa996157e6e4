import Derived.Test.YtegnkfdbmmndaaaGreatJ29

set_option maxHeartbeats 8000000
namespace Go.Proofs.YtegnkfdbmmndaaaGreat
open Hm Go.Proofs.Tryz Go.RowKit
set_option maxRecDepth 20000 in
theorem Ad4(v:Value)(n m base:Nat)(xs:Are)(w:World)(ho:w.ownsRow base 38 2 v n xs)(hb:base≤w.heap.size)(hn:n≤100000)(hm:m≤1000000000000):
  Calls prog 54 #[v,.int .i64 m] w fun e w'=>Rm base m v w w' e:=by
 obtain⟨i0,hi,V,X,Y⟩:=Aoo Zz;obtain⟨ao,c,hv,aD⟩:=Aq ho;subst hv;have T:=fun W=>T4 m W hm;obtain⟨N,hN⟩: ∃N,N=M7 m:=⟨_,rfl⟩;rw[←hN]at T;have ar:Hid (N=M7 m):=hN;clear hN;have H0:Hid ((ao=none∧n=0∧c=0)∨ ∃g,ao=some ⟨g,0,none⟩∧base≤g∧g<w.heap.size∧Ef w 38 (.string N) (.string ⟨#[]⟩) g c 0):=by
  rcases ho.2 with⟨e,h0⟩|⟨g,cap,cur,e,h1,h2,E,h4,h5,h6⟩
  ·cases e;exact .inl ⟨rfl,rfl,rfl⟩
  ·cases e;exact .inr ⟨g,rfl,h1,Anu h2,cur,h2,h5,h4,Ann _,fun i hi=>by omega⟩
 clear ho
 go_enter func54,ntmps54
 go_wp2_with fail;obtain⟨ZA,B⟩: ∃Z:Array Value,Z= #[.slice none 0 0,.slice none 0 0,.slice none 0 0,.slice none 0 0,.slice none 0 0,.slice none 0 0,.slice none 0 0,.slice none 0 0,.slice none 0 0,.slice none 0 0,.slice none 0 0,.slice none 0 0,.int .i64 0]:=⟨_,rfl⟩;have aB:ZA.size=13:=by rw[B];rfl
 rw[←B];have q0:(w.alloc (.cells ZA 122)).heap[w.heap.size]?=some (.cells ZA 122 (0,0)):=Anj _ _;have kq:Ara w (w.alloc (.cells ZA 122)):=(Aa.refl _ _).alloc _;generalize w.alloc (.cells ZA 122)=W0 at*;refine(T _).mono ?_;rintro e wn ⟨rfl,S⟩;have q1:=S.row q0 id;have kn:=kq.trans S (fun _ _ h=>h);have HQ:Hid (wn.heap[w.heap.size]?=some (.cells ZA 122 (0,0))∧Ara w wn∧ZA= #[.slice none 0 0,.slice none 0 0,.slice none 0 0,.slice none 0 0,.slice none 0 0,.slice none 0 0,.slice none 0 0,.slice none 0 0,.slice none 0 0,.slice none 0 0,.slice none 0 0,.slice none 0 0,.int .i64 0]):=⟨q1,kn,B⟩;clear q0 kq S q1 kn T B;go_wp2_with fail;have B:=HQ.o.2.2;have r0:(wn.alloc (.cells #[.string N,.string ⟨#[]⟩] 38)).heap[w.heap.size]?=some (.cells ZA 122 (0,0)):=((Aa.refl (fun _=>False) wn).alloc _).row HQ.o.1 id;have r1:(wn.alloc (.cells #[.string N,.string ⟨#[]⟩] 38)).heap[wn.heap.size]?=some (.cells #[.string N,.string ⟨#[]⟩] 38 (0,0)):=Anj _ _;have al:Ara w (wn.alloc (.cells #[.string N,.string ⟨#[]⟩] 38)):=HQ.o.2.1.alloc _;have a6:w.heap.size<wn.heap.size:=Anu HQ.o.1;generalize wn.alloc (.cells #[.string N,.string ⟨#[]⟩] 38)=W1 at*;obtain⟨p0,O⟩: ∃p,p=w.heap.size:=⟨_,rfl⟩;obtain⟨p1,U⟩: ∃p,p=wn.heap.size:=⟨_,rfl⟩;have HP:Hid (p0=w.heap.size∧w.heap.size<p1):=⟨O,by omega⟩;rw[←O]at r0;rw[←U]at r1;rw[←U,←O];have H1:Hid (W1.heap[p0]?=some (.cells ZA 122 (0,0))∧W1.heap[p1]?=some (.cells #[.string N,.string ⟨#[]⟩] 38 (0,0))∧Ara w W1):=⟨r0,r1,al⟩;have av:Hid (ZA= #[.slice none 0 0,.slice none 0 0,.slice none 0 0,.slice none 0 0,.slice none 0 0,.slice none 0 0,.slice none 0 0,.slice none 0 0,.slice none 0 0,.slice none 0 0,.slice none 0 0,.slice none 0 0,.int .i64 0]):=B;clear O U r0 r1 al B a6;have r:Hid (∀j,(Value.slice ao n c).ownBlock=some j→j<p0):=fun j D=>by
  rcases H0.o with⟨rfl,_⟩|⟨g,rfl,_,hg,_⟩
  ·cases D
  ·have:j=g:=by injection D with D;exact D.symm
   have:=HP.o;omega
 go_loopw[6] (fun vi wr=> ∃i:Nat,i≤n∧vi= .int .i64 i∧Hid ((ao=none∧n=0∧c=0)∨ ∃g,ao=some ⟨g,0,none⟩∧base≤g∧g<w.heap.size∧Ef wr 38 (.string N) (.string ⟨#[]⟩) g c i)∧Hid (Aa (fun j=>(Value.slice ao n c).ownBlock=some j) W1 wr)) (fun vi _=>n-(intOf vi).toNat)
 case atStart=>
  refine⟨0,Ann _,rfl,?_,Aa.refl _ _⟩;rcases H0.o with h|⟨g,h1,h2,E,h4⟩
  ·exact .inl h
  ·exact .inr ⟨g,h1,h2,E,h4.kept H1.o.2.2 id⟩
 case round=>
  obtain⟨i,aC,rfl,HL,HK⟩:=hrel;have rw1:wr.heap[p1]?=some (.cells #[.string N,.string ⟨#[]⟩] 38 (0,0)):=HK.o.row H1.o.2.1 (fun e=>by have:=r.o _ e;have:=HP.o;omega);have rw0:wr.heap[p0]?=some (.cells ZA 122 (0,0)):=HK.o.row H1.o.1 (fun e=>by have:=r.o _ e;omega);have x1:wr.cell? ⟨p1,0,none⟩=some (.string N):=Am7 _ _ 0 _ _ _ rw1;have x2:wr.cell? ⟨p1,1,none⟩=some (.string ⟨#[]⟩):=Am7 _ _ 1 _ _ _ rw1
  by_cases a4:i<n
  ·have K:(i:Int)<(n:Int):=by omega
   have az:decide ((i:Int)<(n:Int))=true:=Ana K;obtain⟨g,rfl,ax,ay,aj⟩: ∃g,ao=some ⟨g,0,none⟩∧base≤g∧g<w.heap.size∧Ef wr 38 (.string N) (.string ⟨#[]⟩) g c i:=by
    rcases HL.o with⟨_,h,_⟩|h
    ·omega
    ·exact h
   have au:Hid (Ef wr 38 (.string N) (.string ⟨#[]⟩) g c i):=aj;obtain⟨cur,s1,s2,s3,s4,s5⟩:=aj;obtain⟨u1,q1⟩: ∃u,wr.cell? ⟨g,i*2,none⟩=some u:=⟨_,by rw[Am7 _ _ _ _ _ _ s1,Apl (by omega)]⟩;obtain⟨u2,q2⟩: ∃u,wr.cell? ⟨g,i*2+1,none⟩=some u:=⟨_,by rw[Am7 _ _ _ _ _ _ s1,Apl (by omega)]⟩;have f1:wr.frozen? ⟨g,i*2,none⟩=false:=Ang _ _ _ _ _ s1;have f2:wr.frozen? ⟨g,i*2+1,none⟩=false:=Ang _ _ _ _ _ s1;have HN:Hid (Ef ((wr.setCell ⟨g,i*2,none⟩ (.string N)).setCell ⟨g,i*2+1,none⟩ (.string ⟨#[]⟩)) 38 (.string N) (.string ⟨#[]⟩) g c (i+1)∧Aa (fun j=>(Value.slice (some ⟨g,0,none⟩) n c).ownBlock=some j) W1 ((wr.setCell ⟨g,i*2,none⟩ (.string N)).setCell ⟨g,i*2+1,none⟩ (.string ⟨#[]⟩))):=⟨au.o.put i (by omega) (i+1) (by omega) (fun j D=>by omega),(HK.o.setCell (p:=⟨g,i*2,none⟩) (.inr rfl) _).setCell (p:=⟨g,i*2+1,none⟩) (.inr rfl) _⟩;clear s1 s2 s3 s4 s5 rw1 rw0 HL HK H0;go_wp2_with fail;go_roundw
   case rel=>exact⟨i+1,by omega,by go_num,.inr ⟨g,rfl,ax,ay,HN.o.1⟩,HN.o.2⟩
   case measure=>simp[intOf];omega
  ·have K: ¬(i:Int)<(n:Int):=by omega
   have az:decide ((i:Int)<(n:Int))=false:=Anc K;have ak:i=n:=by omega
   have F:Hid (LX wr base 38 (.string N) (.string ⟨#[]⟩) (.slice ao n c) n):=by
    rw[ak]at HL;rcases HL.o with⟨h1,h2,E⟩|⟨g,h1,h2,E,h4⟩
    ·subst h1 h2 E;exact .inl ⟨rfl,rfl⟩
    ·subst h1;exact .inr ⟨g,c,rfl,h2,h4⟩
   have k:Hid (Aa (fun j=>(Value.slice ao n c).ownBlock=some j) w wr∧base≤wr.heap.size):=by
    have h1:Aa (fun j=>(Value.slice ao n c).ownBlock=some j) w wr:=(H1.o.2.2.wider (fun _ _ h=>h.elim)).trans HK.o (fun _ _ h=>h);exact⟨h1,Ant hb h1.size⟩
   have J:Hid (wr.heap[p1]?=some (.cells #[.string N,.string ⟨#[]⟩] 38 (0,0))∧wr.heap[p0]?=some (.cells ZA 122 (0,0))):=⟨rw1,rw0⟩;clear rw1 rw0 HL HK H0 ak H1
   go_wp2_with(at_builtin;refine C8 _ rfl (.tmp 23) (.tmp 25) 22 rfl 38 i0 (.agg #[.string ⟨#[]⟩,.string ⟨#[]⟩]) 32 underlying22 hi V X Y rfl base (.string N) (.string ⟨#[]⟩) _ n 1 (by omega) rfl (F.o.alloc _) ?b0 ⟨wr.heap.size,0,none⟩ 1 rfl (Hq (Ex (.string N) (.string ⟨#[]⟩) 1)) rfl rfl ?b1 ?b2 ?_)
   case b0=>first|exact Ant k.o.2 ((Aa.refl (fun _=>False) _).alloc _).size|(have:=k.o.2;omega)
   case b1=>unfold maxLen;omega
   case b2=>omega
   intro v1 w1 z A y;have d:Aa (fun j=>(Value.slice ao n c).ownBlock=some j) wr w1:=((Aa.refl _ wr).alloc _).trans y (fun _ _ h=>h);have f:Eo wr w1 38 (.string N) (.string ⟨#[]⟩):=(Eo.alloc _ _ _ _ _).trans A;have ag:Hid (LX w1 base 38 (.string N) (.string ⟨#[]⟩) v1 (n+1)):=z;have G:Hid (LX w1 base 38 (.string N) (.string ⟨#[]⟩) (.slice ao n c) n):=f.lx F.o;have l:Hid (Aa (fun j=>(Value.slice ao n c).ownBlock=some j) w w1∧base≤w1.heap.size):=⟨k.o.1.trans d (fun _ _ h=>h),Ant k.o.2 d.size⟩;have s:Hid (w1.heap[p1]?=some (.cells #[.string N,.string ⟨#[]⟩] 38 (0,0))∧w1.heap[p0]?=some (.cells ZA 122 (0,0))):=⟨d.row J.o.1 (fun e=>by have:=r.o _ e;have:=HP.o;omega),d.row J.o.2 (fun e=>by have:=r.o _ e;omega)⟩;clear F k J z A y d f x1 x2;have x1:w1.cell? ⟨p1,0,none⟩=some (.string N):=Am7 _ _ 0 _ _ _ s.o.1;have x2:w1.cell? ⟨p1,1,none⟩=some (.string ⟨#[]⟩):=Am7 _ _ 1 _ _ _ s.o.1
   go_wp2_with(at_builtin;refine C8 _ rfl (.tmp 27) (.tmp 30) 22 rfl 38 i0 (.agg #[.string ⟨#[]⟩,.string ⟨#[]⟩]) 32 underlying22 hi V X Y rfl base (.string N) (.string ⟨#[]⟩) _ n 2 (by omega) rfl (G.o.alloc _) ?b0 ⟨w1.heap.size,0,none⟩ 2 rfl (Hq (Ex (.string N) (.string ⟨#[]⟩) 2)) rfl rfl ?b1 ?b2 ?_)
   case b0=>first|exact Ant l.o.2 ((Aa.refl (fun _=>False) _).alloc _).size|(have:=l.o.2;omega)
   case b1=>unfold maxLen;omega
   case b2=>omega
   intro v2 w2 z A y;have d:Aa (fun j=>(Value.slice ao n c).ownBlock=some j) w1 w2:=((Aa.refl _ w1).alloc _).trans y (fun _ _ h=>h);have f:Eo w1 w2 38 (.string N) (.string ⟨#[]⟩):=(Eo.alloc _ _ _ _ _).trans A;have Q:Hid (LX w2 base 38 (.string N) (.string ⟨#[]⟩) v1 (n+1)∧LX w2 base 38 (.string N) (.string ⟨#[]⟩) v2 (n+2)):=⟨f.lx ag.o,z⟩;have H:Hid (LX w2 base 38 (.string N) (.string ⟨#[]⟩) (.slice ao n c) n):=f.lx G.o;have q:Hid (Aa (fun j=>(Value.slice ao n c).ownBlock=some j) w w2∧base≤w2.heap.size):=⟨l.o.1.trans d (fun _ _ h=>h),Ant l.o.2 d.size⟩;have t:Hid (w2.heap[p1]?=some (.cells #[.string N,.string ⟨#[]⟩] 38 (0,0))∧w2.heap[p0]?=some (.cells ZA 122 (0,0))):=⟨d.row s.o.1 (fun e=>by have:=r.o _ e;have:=HP.o;omega),d.row s.o.2 (fun e=>by have:=r.o _ e;omega)⟩;clear G l s z A y d f x1 x2 ag;have x1:w2.cell? ⟨p1,0,none⟩=some (.string N):=Am7 _ _ 0 _ _ _ t.o.1;have x2:w2.cell? ⟨p1,1,none⟩=some (.string ⟨#[]⟩):=Am7 _ _ 1 _ _ _ t.o.1
   go_wp2_with(at_builtin;refine C8 _ rfl (.tmp 32) (.tmp 36) 22 rfl 38 i0 (.agg #[.string ⟨#[]⟩,.string ⟨#[]⟩]) 32 underlying22 hi V X Y rfl base (.string N) (.string ⟨#[]⟩) _ n 3 (by omega) rfl (H.o.alloc _) ?b0 ⟨w2.heap.size,0,none⟩ 3 rfl (Hq (Ex (.string N) (.string ⟨#[]⟩) 3)) rfl rfl ?b1 ?b2 ?_)
   case b0=>first|exact Ant q.o.2 ((Aa.refl (fun _=>False) _).alloc _).size|(have:=q.o.2;omega)
   case b1=>unfold maxLen;omega
   case b2=>omega
   intro v3 w3 z A y;have d:Aa (fun j=>(Value.slice ao n c).ownBlock=some j) w2 w3:=((Aa.refl _ w2).alloc _).trans y (fun _ _ h=>h);have f:Eo w2 w3 38 (.string N) (.string ⟨#[]⟩):=(Eo.alloc _ _ _ _ _).trans A;have L:Hid (LX w3 base 38 (.string N) (.string ⟨#[]⟩) v1 (n+1)∧LX w3 base 38 (.string N) (.string ⟨#[]⟩) v2 (n+2)∧LX w3 base 38 (.string N) (.string ⟨#[]⟩) v3 (n+3)):=⟨f.lx Q.o.1,f.lx Q.o.2,z⟩;have P:Hid (LX w3 base 38 (.string N) (.string ⟨#[]⟩) (.slice ao n c) n):=f.lx H.o;have ae:Hid (Aa (fun j=>(Value.slice ao n c).ownBlock=some j) w w3∧base≤w3.heap.size):=⟨q.o.1.trans d (fun _ _ h=>h),Ant q.o.2 d.size⟩;have x:Hid (w3.heap[p1]?=some (.cells #[.string N,.string ⟨#[]⟩] 38 (0,0))∧w3.heap[p0]?=some (.cells ZA 122 (0,0))):=⟨d.row t.o.1 (fun e=>by have:=r.o _ e;have:=HP.o;omega),d.row t.o.2 (fun e=>by have:=r.o _ e;omega)⟩;clear H q t z A y d f x1 x2 Q;have x1:w3.cell? ⟨p1,0,none⟩=some (.string N):=Am7 _ _ 0 _ _ _ x.o.1;have x2:w3.cell? ⟨p1,1,none⟩=some (.string ⟨#[]⟩):=Am7 _ _ 1 _ _ _ x.o.1;obtain⟨a1,c1,e1,A1,B1,C1⟩:=L.o.1.mark;obtain⟨a2,c2,e2,A2,B2,C2⟩:=L.o.2.1.mark;obtain⟨a3,c3,e3,A3,B3,C3⟩:=L.o.2.2.mark;obtain⟨a0,c0,e0,A0,B0,C0⟩:=P.o.mark;cases e0;subst e1 e2 e3;have I:Hid (Jd w3 (Je 0 m (ao,n,c) (a1,n+1,c1) (a2,n+2,c2) (a3,n+3,c3))∧ ∀j a,j<12→((Je 0 m (ao,n,c) (a1,n+1,c1) (a2,n+2,c2) (a3,n+3,c3)).sl j).1=some a→base≤a.block∧a.block<w3.heap.size∧a.block≠p0):=by
    have M: ∀a:Addr,(base≤a.block∧a.block<w3.heap.size∧ ∃cur,w3.heap[a.block]?=some (.cells cur 38 (0,0)))→base≤a.block∧a.block<w3.heap.size∧a.block≠p0:=fun a ⟨h1,h2,cur,E⟩=>⟨h1,h2,fun e=>by
     rw[e,x.o.2]at E;injection E with E;injection E with _ E;exact absurd E (by decide)⟩
    refine⟨⟨hm,fun j D=>?_,fun j D=>?_,fun j h4 D=>?_⟩,fun j a D e=>?_⟩
    ·rcases Gz 0 m j (ao,n,c) (a1,n+1,c1) (a2,n+2,c2) (a3,n+3,c3)with⟨h,_⟩|⟨h,_⟩|⟨h,_⟩|⟨h,_⟩|⟨h,_⟩<;>rw[h]<;>dsimp only<;>omega
    ·show F3 w3 _ _ 0 (.string (M7 m));rw[←ar.o];rcases Gz 0 m j (ao,n,c) (a1,n+1,c1) (a2,n+2,c2) (a3,n+3,c3)with⟨h,C⟩|⟨h,C⟩|⟨h,C⟩|⟨h,C⟩|⟨h,C⟩
     ·rw[h];exact A0
     ·rw[h];exact A1
     ·rw[h];exact A2
     ·rw[h];exact A3
     ·rw[h];exact On _ _ _
    ·rcases Gz 0 m j (ao,n,c) (a1,n+1,c1) (a2,n+2,c2) (a3,n+3,c3)with⟨h,C⟩|⟨h,C⟩|⟨h,C⟩|⟨h,C⟩|⟨h,C⟩
     ·omega
     ·omega
     ·omega
     ·omega
     ·rw[h];exact On _ _ _
    ·rcases Gz 0 m j (ao,n,c) (a1,n+1,c1) (a2,n+2,c2) (a3,n+3,c3)with⟨h,C⟩|⟨h,C⟩|⟨h,C⟩|⟨h,C⟩|⟨h,C⟩<;>rw[h]at e
     ·exact M a (C0 a e)
     ·exact M a (C1 a e)
     ·exact M a (C2 a e)
     ·exact M a (C3 a e)
     ·cases e
   clear A0 B0 C0 A1 B1 C1 A2 B2 C2 A3 B3 C3 L P;have ah:Hid (w3.heap[p0]?=some (.cells ZA 122 (0,0))):=x.o.2;have b:=ah.o;rw[av.o]at b;have p10:w3.cell? ⟨p0,0,none⟩=some (.slice none 0 0):=Am7 _ _ 0 _ _ _ b;have f10:w3.frozen? ⟨p0,0,none⟩=false:=Ang _ _ 0 _ _ b;have p11:w3.cell? ⟨p0,1,none⟩=some (.slice none 0 0):=Am7 _ _ 1 _ _ _ b;have f11:w3.frozen? ⟨p0,1,none⟩=false:=Ang _ _ 1 _ _ b;have p12:w3.cell? ⟨p0,2,none⟩=some (.slice none 0 0):=Am7 _ _ 2 _ _ _ b;have f12:w3.frozen? ⟨p0,2,none⟩=false:=Ang _ _ 2 _ _ b;have p13:w3.cell? ⟨p0,3,none⟩=some (.slice none 0 0):=Am7 _ _ 3 _ _ _ b;have f13:w3.frozen? ⟨p0,3,none⟩=false:=Ang _ _ 3 _ _ b;have p14:w3.cell? ⟨p0,4,none⟩=some (.slice none 0 0):=Am7 _ _ 4 _ _ _ b;have f14:w3.frozen? ⟨p0,4,none⟩=false:=Ang _ _ 4 _ _ b;have p15:w3.cell? ⟨p0,5,none⟩=some (.slice none 0 0):=Am7 _ _ 5 _ _ _ b;have f15:w3.frozen? ⟨p0,5,none⟩=false:=Ang _ _ 5 _ _ b;have p16:w3.cell? ⟨p0,6,none⟩=some (.slice none 0 0):=Am7 _ _ 6 _ _ _ b;have f16:w3.frozen? ⟨p0,6,none⟩=false:=Ang _ _ 6 _ _ b;have p17:w3.cell? ⟨p0,7,none⟩=some (.slice none 0 0):=Am7 _ _ 7 _ _ _ b;have f17:w3.frozen? ⟨p0,7,none⟩=false:=Ang _ _ 7 _ _ b;have p18:w3.cell? ⟨p0,8,none⟩=some (.slice none 0 0):=Am7 _ _ 8 _ _ _ b;have f18:w3.frozen? ⟨p0,8,none⟩=false:=Ang _ _ 8 _ _ b;have p19:w3.cell? ⟨p0,9,none⟩=some (.slice none 0 0):=Am7 _ _ 9 _ _ _ b;have f19:w3.frozen? ⟨p0,9,none⟩=false:=Ang _ _ 9 _ _ b;have p20:w3.cell? ⟨p0,10,none⟩=some (.slice none 0 0):=Am7 _ _ 10 _ _ _ b;have f20:w3.frozen? ⟨p0,10,none⟩=false:=Ang _ _ 10 _ _ b;have p21:w3.cell? ⟨p0,11,none⟩=some (.slice none 0 0):=Am7 _ _ 11 _ _ _ b;have f21:w3.frozen? ⟨p0,11,none⟩=false:=Ang _ _ 11 _ _ b;have p22:w3.cell? ⟨p0,12,none⟩=some (.int .i64 0):=Am7 _ _ 12 _ _ _ b;have f22:w3.frozen? ⟨p0,12,none⟩=false:=Ang _ _ 12 _ _ b;obtain⟨an,am⟩:=Ail b (.slice ao n c) (.slice a1 (n+1) c1) (.slice a2 (n+2) c2) (.slice a3 (n+3) c3) (.slice none 0 0) (.slice none 0 0) (.slice none 0 0) (.slice none 0 0) (.slice none 0 0) (.slice none 0 0) (.slice none 0 0) (.slice none 0 0) (.int .i64 (m:Nat));have ai:Hid ((((((((((((((w3.setCell ⟨p0,0,none⟩ (.slice ao n c)).setCell ⟨p0,1,none⟩ (.slice a1 (n+1) c1)).setCell ⟨p0,2,none⟩ (.slice a2 (n+2) c2)).setCell ⟨p0,3,none⟩ (.slice a3 (n+3) c3)).setCell ⟨p0,4,none⟩ (.slice none 0 0)).setCell ⟨p0,5,none⟩ (.slice none 0 0)).setCell ⟨p0,6,none⟩ (.slice none 0 0)).setCell ⟨p0,7,none⟩ (.slice none 0 0)).setCell ⟨p0,8,none⟩ (.slice none 0 0)).setCell ⟨p0,9,none⟩ (.slice none 0 0)).setCell ⟨p0,10,none⟩ (.slice none 0 0)).setCell ⟨p0,11,none⟩ (.slice none 0 0)).setCell ⟨p0,12,none⟩ (.int .i64 (m:Nat))).heap[p0]?=some (.cells #[.slice ao n c,.slice a1 (n+1) c1,.slice a2 (n+2) c2,.slice a3 (n+3) c3,.slice none 0 0,.slice none 0 0,.slice none 0 0,.slice none 0 0,.slice none 0 0,.slice none 0 0,.slice none 0 0,.slice none 0 0,.int .i64 (m:Nat)] 122 (0,0))∧Aa (fun j=>j=p0) w3 (((((((((((((w3.setCell ⟨p0,0,none⟩ (.slice ao n c)).setCell ⟨p0,1,none⟩ (.slice a1 (n+1) c1)).setCell ⟨p0,2,none⟩ (.slice a2 (n+2) c2)).setCell ⟨p0,3,none⟩ (.slice a3 (n+3) c3)).setCell ⟨p0,4,none⟩ (.slice none 0 0)).setCell ⟨p0,5,none⟩ (.slice none 0 0)).setCell ⟨p0,6,none⟩ (.slice none 0 0)).setCell ⟨p0,7,none⟩ (.slice none 0 0)).setCell ⟨p0,8,none⟩ (.slice none 0 0)).setCell ⟨p0,9,none⟩ (.slice none 0 0)).setCell ⟨p0,10,none⟩ (.slice none 0 0)).setCell ⟨p0,11,none⟩ (.slice none 0 0)).setCell ⟨p0,12,none⟩ (.int .i64 (m:Nat)))):=⟨an,am⟩;clear an am;clear b x x1 x2;go_wp2_with fail;have a7:=ai.o.1;have R:=ai.o.2;refine Aok (v:= .agg #[.slice ao n c,.slice a1 (n+1) c1,.slice a2 (n+2) c2,.slice a3 (n+3) c3,.slice none 0 0,.slice none 0 0,.slice none 0 0,.slice none 0 0,.slice none 0 0,.slice none 0 0,.slice none 0 0,.slice none 0 0,.int .i64 (m:Nat)]) (Ao0 results54 _ _ p0 122 _ (0,0) _ rfl a7 underlying122 rfl Mb) rfl ?_;have a4:p0<w3.heap.size:=Anu ah.o;refine⟨(Je 0 m (ao,n,c) (a1,n+1,c1) (a2,n+2,c2) (a3,n+3,c3)),rfl,I.o.1.kept R (fun j a D e h=>?_),rfl,fun j a D e=>?_,ae.o.1.trans R (fun j h1 h2=>by have:=HP.o;omega)⟩
   ·exact(I.o.2 j a D e).2.2 h
   ·have h1:=I.o.2 j a D e;have:=R.size;omega
end Go.Proofs.YtegnkfdbmmndaaaGreat
namespace Go.Proofs.YtegnkfdbmmndaaaGreat
open Hm Go.Proofs.Tryz Go.ChangeShapes Go.WideShapes Go.ChangeAt Go.RowKit Go.Deep
theorem Mx{H:Type}{P:Program}{e:TypeId}: ∀{l:List (DataW H)} {d:DataW H},d∈l→ ∀n∈d.weights P e,n∈DataW.weightsAll P e l
 |x::r,d,h,n,hn=>by
  simp only[DataW.weightsAll,Aq3];rcases List.mem_cons.1 h with rfl|h
  ·exact .inl hn
  ·exact .inr (Mx h n hn)
def Aim:Value→ByteArray
 | .string s=>s
 |_=>⟨#[]⟩
set_option maxRecDepth 100000 in
theorem Ain{H:Type}{enc:TypeId×Value→H}{W:World}{base:Nat}{v:Value}{d:DataW H}{ps:List MemPlace}(B:Value.okWide prog W .any base 22 v)
  (h:DataW.Trod enc prog W 0 (fun _=>true) true 22 v d ps):
  v= .slice none 0 0∨ ∃(a:Addr) (c:Nat) (fs:List Hm.Fl),v= .slice (some a) fs.length c∧Ba W (some a) fs∧
   ((∀n∈d.weights prog 22,n≤reachBytes)→fs.length≤4398046511103∧ ∀f∈fs,f.1.size≤140737488355328∧f.2.size≤140737488355328):=by
 obtain⟨a0,l0,c0,rfl⟩:=okWide_slice underlying22 B;obtain⟨fuel,x⟩:=h;rcases open_slice_pairs underlying22 underlying38 (by kernel_rfl) rfl rfl (by kernel_rfl) (by kernel_rfl) x with⟨j,_⟩|⟨a,len,cap,m,n,V0,V1,D0,D1,P0,P1,j,_,y,_,w,C,r⟩
 ·left;simpa[Value.cells]using j
 ·right;have D:len≤m:=by rw[w];simp;exact y
  have g: ∀i,i<len→ ∃s t:ByteArray,V0 i= .string s∧V1 i= .string t∧D0 i= .lit (.string s.data.toList)∧D1 i= .lit (.string t.data.toList):=fun i hi=>by
   obtain⟨_,_,t0,t1⟩:=r i (by omega);obtain⟨s,e1,e2,_⟩:=DataW.trod_string underlying9 t0;obtain⟨t,g1,g2,_⟩:=DataW.trod_string underlying9 t1;exact⟨s,t,by simpa using e1,by simpa using g1,(Prod.mk.inj e2).1,(Prod.mk.inj g2).1⟩
  obtain⟨fs,l⟩: ∃fs:List Hm.Fl,fs=(List.range len).map fun i=>(Aim (V0 i),Aim (V1 i)):=⟨_,rfl⟩;have p:fs.length=len:=by rw[l];simp
  have e: ∀i,(hi:i<fs.length)→V0 i= .string fs[i].1∧V1 i= .string fs[i].2:=fun i hi=>by
   obtain⟨s,t,e1,e2,_⟩:=g i (by omega);have:fs[i]=(s,t):=by simp[l,Aim,e1,e2]
   rw[this,e1,e2];exact⟨rfl,rfl⟩
  refine⟨a,cap,fs,by rw[p];simpa[Value.cells]using j,fun i hi=>?_,fun q=>?_⟩
  ·obtain⟨k0,k1,_⟩:=r i (by omega);obtain⟨b,off,spot⟩:=a;have k:spot=none:=by
    obtain⟨z0,_⟩:=r 0 (by omega);simpa[Addr.add]using World.cell?_spot z0
   subst k;rw[add_plain]at k0 k1;obtain⟨e1,e2⟩:=e i hi;refine⟨b,off,rfl,Ank _ _ k0,by rw[k0,e1],?_⟩;rw[Apj,k1,e2]
  ·obtain⟨hd,_⟩:=Prod.mk.inj C;subst hd;rw[DataW.weights,underlying22]at q;have hb:prog.bytesOf 38=32:=by kernel_rfl
   have h1:=q _ (Anl ..);rw[hb]at h1;unfold reachBytes at h1 q;simp only[Anz,Apq]at h1;refine⟨by omega,fun f u=>?_⟩;obtain⟨i,hi,rfl⟩:=Aog u;obtain⟨s,t,e1,e2,e3,e4⟩:=g i (by omega);obtain⟨g1,g2⟩:=e i hi;have hs:s=fs[i].1:=by rw[e1]at g1;cases g1;rfl
   have ht:t=fs[i].2:=by rw[e2]at g2;cases g2;rfl
   have o:(DataW.agg [D0 i,D1 i])∈(List.range len).map fun i=>DataW.agg [D0 i,D1 i]:=List.mem_map.2 ⟨i,List.mem_range.2 (by omega),rfl⟩;have z:=q s.size (Anr _ (Ap0 _ (Mx o _ (by rw[DataW.weights,underlying38];simp[DataW.weightsEach,e3,e4,DataW.weights]))));have A:=q t.size (Anr _ (Ap0 _ (Mx o _ (by rw[DataW.weights,underlying38];simp[DataW.weightsEach,e3,e4,DataW.weights]))));rw[←hs,←ht];omega
structure Qn where
 k:Int
 on:Int
 a:Int
 b:Int
 c:Int
 s:ByteArray
instance:Inhabited Qn:=⟨⟨0,0,0,0,0,⟨#[]⟩⟩⟩
def Qn.cells(q:Qn):Are:=[.int .i64 q.k,.int .i64 q.on,.int .i64 q.a,.int .i64 q.b,.int .i64 q.c,.string q.s]
def inI(z:Int):Prop:= -9223372036854775808≤z∧z≤9223372036854775807
structure Qn.Ok(q:Qn):Prop where
 k:inI q.k
 on:inI q.on
 a:inI q.a
 b:inI q.b
 c:inI q.c
 s:q.s.size≤1048576
def Um(w:World)(ao:Arf)(qs:List Qn):Prop:= ∀i,(h:i<qs.length)→ ∃b o,ao=some ⟨b,o,none⟩∧b<w.heap.size∧w.rangeAt b (o+i*6) qs[i].cells
theorem Um.kept{S:Nat→Prop}{w w':World}{ao:Arf}{qs:List Qn}(h:Um w ao qs)(hk:Aa S w w')(hn: ∀a,ao=some a→ ¬S a.block):Um w' ao qs:=fun i hi=>by
 obtain⟨b,o,e,hb,h1⟩:=h i hi;refine⟨b,o,e,by have:=hk.size;omega,fun j v c=>?_⟩;rw[hk.cell (p:=⟨b,o+i*6+j,none⟩) hb (hn ⟨b,o,none⟩ e)];exact h1 j v c
theorem T5{a:Int}(h:(Lit.int .i64 a).wf=true):inI a:=by
 simpa[inI,Lit.wf,IntKind.min,IntKind.max,IntKind.signed,IntKind.bits]using h
def Qn.data{H:Type}(q:Qn):DataW H:= .agg [.lit (.int .i64 q.k),.lit (.int .i64 q.on),.lit (.int .i64 q.a),.lit (.int .i64 q.b),.lit (.int .i64 q.c),.lit (.string q.s.data.toList)]
theorem Alt{H:Type}{d:DataW H}{l:List (DataW H)}(h:d∈l):Rows.uptoBulk d≤Rows.uptoBulkAll l:=by
 induction l with
 |nil=>cases h
 |cons x r ih=>
  simp only[Rows.uptoBulkAll];cases List.mem_cons.1 h with
  |inl e=>subst e;omega
  |inr e=>have:=ih e;omega
theorem Amp{H:Type}(f:Nat→Qn)(l:Ard):l.length≤Rows.uptoBulkAll (l.map fun i=>(f i).data (H:=H)):=by
 induction l with
 |nil=>simp[Rows.uptoBulkAll]
 |cons x r ih=>simp only[Qn.data,Aos,Rows.uptoBulkAll,Rows.uptoBulk,An8]at ih⊢;omega
set_option maxRecDepth 100000 in
theorem Afz{H:Type}{enc:TypeId×Value→H}{W:World}{base:Nat}{v:Value}{d:DataW H}{ps:List MemPlace}(Q:Value.okWide prog W .any base 51 v)
  (h:DataW.Trod enc prog W 0 (fun _=>true) true 51 v d ps) (hb:Rows.uptoBulk d≤1048576):
  ∃(ao:Arf) (c:Nat) (qs:List Qn),v= .slice ao qs.length c∧Um W ao qs∧qs.length≤1048576∧ ∀q∈qs,q.Ok:=by
 obtain⟨a0,l0,c0,rfl⟩:=okWide_slice underlying51 Q;obtain⟨fuel,M⟩:=h;have ce:prog.cellsOf 62=6:=by kernel_rfl
 have ci:prog.cellsOf 3=1:=by kernel_rfl
 have cs:prog.cellsOf 9=1:=by kernel_rfl
 rcases open_slice underlying51 M with⟨r,_⟩|⟨a,len,cap,m,n,D,Pl,r,_,N,R,C,G,L⟩
 ·exact⟨none,0,[],by simpa[Value.cells]using r,fun i hi=>by simp at hi,Ann _,fun x G=>by cases G⟩
 ·have O:len≤m:=by rw[C];simp;exact N
  have each: ∀i,i<m→ ∃q:Qn,(∀j,j<6→W.cell? (a.add (i*6+j))=q.cells[j]?)∧(inI q.k∧inI q.on∧inI q.a∧inI q.b∧inI q.c)∧D i=q.data:=fun i hi=>by
   obtain⟨cs',h1,h2⟩:=L i hi;rw[ce]at h1;obtain⟨_,f,p⟩:=World.cells?_some h1;obtain⟨xs,k,hk,y,_,I,e⟩:=DataW.trod_struct underlying62 h2
   match xs,I,cs',f with
   |[y0,y1,y2,y3,y4,y5],_,[v0,v1,v2,v3,v4,v5],_=>
    have g0:=e 0 _ rfl;have g1:=e 1 _ rfl;have g2:=e 2 _ rfl;have g3:=e 3 _ rfl;have g4:=e 4 _ rfl;have g5:=e 5 _ rfl;simp[ci,cs]at g0 g1 g2 g3 g4 g5;obtain⟨z0,e0,f0,w0⟩:=DataW.trod_int underlying3 g0;obtain⟨z1,e1,f1,w1⟩:=DataW.trod_int underlying3 g1;obtain⟨z2,e2,f2,w2⟩:=DataW.trod_int underlying3 g2;obtain⟨z3,e3,f3,w3⟩:=DataW.trod_int underlying3 g3;obtain⟨z4,e4,f4,w4⟩:=DataW.trod_int underlying3 g4;obtain⟨s,e5,f5,_⟩:=DataW.trod_string underlying9 g5;refine⟨⟨z0,z1,z2,z3,z4,s⟩,fun j B=>?_,⟨T5 w0,T5 w1,T5 w2,T5 w3,T5 w4⟩,?_⟩
    ·have:=p j B;rw[add_add]at this;rw[this];simp only[List.cons.injEq,and_true]at e0 e1 e2 e3 e4 e5;subst e0 e1 e2 e3 e4 e5;rfl
    ·simp only[Prod.mk.injEq]at y;rw[y.1,f0,f1,f2,f3,f4,f5];rfl
  obtain⟨q,z⟩:=choose_lt each;obtain⟨qs,w⟩: ∃qs:List Qn,qs=(List.range len).map q:=⟨_,rfl⟩;have f:qs.length=len:=by rw[w];simp
  have o: ∀i,(hi:i<qs.length)→qs[i]=q i:=fun i hi=>by simp[w]
  obtain⟨hd,_⟩:=Prod.mk.inj G;have A:Rows.uptoBulkAll ((List.range len).map fun i=>(q i).data (H:=H))≤1048576:=by
   rw[hd]at hb;simp only[Rows.uptoBulk]at hb;rw[Aqe (g:=D) (fun i hi=>((z i (by have:=List.mem_range.1 hi;omega)).2.2).symm)];omega
  have E:=Amp (H:=H) q (List.range len);rw[Apq]at E;refine⟨some a,cap,qs,by rw[f];simpa[Value.cells]using r,fun i hi=>?_,by omega,fun x J=>?_⟩
  ·obtain⟨b,off,spot⟩:=a;have t:spot=none:=by
    have z0:=(z 0 (by omega)).1 0 (by omega);simpa[Addr.add]using World.cell?_spot z0
   subst t;have h1:=(z i (by omega)).1;refine⟨b,off,rfl,by have K:=Ank _ _ ((h1 0 (by omega)).trans rfl);rwa[add_plain]at K,fun j u F=>?_⟩;rw[o i hi]at F;have B:j<6:=(List.getElem?_eq_some_iff.1 F).1;have h2:=h1 j B;rw[add_plain]at h2;rw[Apj,h2];exact F
  ·obtain⟨i,hi,rfl⟩:=Aog J;rw[o i hi];obtain⟨_,⟨r0,r1,r2,r3,r4⟩,_⟩:=z i (by omega);refine⟨r0,r1,r2,r3,r4,?_⟩;have:=Alt (H:=H) (l:=(List.range len).map fun i=>(q i).data) (List.mem_map.2 ⟨i,List.mem_range.2 (by omega),rfl⟩);simp only[Qn.data,Rows.uptoBulk,Rows.uptoBulkAll]at this;have P:(q i).s.data.toList.length=(q i).s.size:=by simp
   simp only[Qn.data]at A;omega
end Go.Proofs.YtegnkfdbmmndaaaGreat
namespace Go.Proofs.YtegnkfdbmmndaaaGreat
open Hm Go.Proofs.Tryz Go.RowKit
theorem Abe(ao bo:Arf)(c d:Nat)(fs:List Hm.Fl)(w:World)(l:Ba w ao fs)(hb:Ba w bo fs)(m:fs.length≤1000000):
  Calls prog 15 #[.slice ao fs.length c,.slice bo fs.length d] w fun e w'=>e= .returned (.bool true)∧Ara w w':=by
 have j:Hid (Ba w ao fs∧Ba w bo fs):=⟨l,hb⟩;clear l hb
 go_enter func15,ntmps15
 go_wp2_with fail
 go_loopw[5] (fun vi wr=> ∃k:Nat,k≤fs.length∧vi= .int .i64 k∧Hid (Ara w wr)) (fun vi _=>fs.length-(intOf vi).toNat)
 case atStart=>exact⟨0,by omega,rfl,Aa.refl _ _⟩
 case round=>
  obtain⟨k,hk,rfl,h⟩:=hrel
  by_cases g:k<fs.length
  ·have a:(k:Int)<(fs.length:Int):=by omega
   have f:decide ((k:Int)<(fs.length:Int))=true:=Ana a;obtain⟨b,o,hb,_,c1,c2⟩:=(j.o.1.kept h.o (fun _ _=>id)) k g;obtain⟨b',o',i,_,c3,c4⟩:=(j.o.2.kept h.o (fun _ _=>id)) k g;cases hb;cases i;generalize fs[k]=p at*;obtain⟨p1,p2⟩:=p;go_wp2_with fail;go_quiet(fail);go_wp2_with fail;go_roundw
   case rel=>exact⟨k+1,by omega,by go_num,h.o.drewN _⟩
   case measure=>simp[intOf];omega
  ·have a: ¬(k:Int)<(fs.length:Int):=by omega
   have f:decide ((k:Int)<(fs.length:Int))=false:=Anc a;go_wp2_with fail;go_ret;exact⟨rfl,h.o⟩
namespace Hm
end Hm
namespace Hm
theorem Af0{fs:List Fl}{s:Arc}(d:Cq fs=0)(hA:Ia fs s):s.length≤10000000∧0<s.length:=by
 obtain⟨u,b,hn⟩:=Li d;obtain⟨ps,N,a,_,h,es⟩:=hA.is;have k:N≤255:=by have h1:=h.len;have h2:=h.few (2*N) (Ane _);omega
 have e:=Gm a.perm;have t:(D5 (lens (Ac fs)) N (Al (Ac fs) ps)).length≤255*6000:=by
  unfold D5;rw[Anz];refine Ant (K3 _ _ _ _ _) (Aoj k ?_);rw[e];exact hn
 have r:=Fk a.perm;have c:Lib.bitLen ((Ac fs).length/8)≤10:=Lib.bitLen_le _ 10 (by omega) (by omega);have j:((Ac fs).length/8+1)*Lib.bitLen ((Ac fs).length/8)≤751*10:=Aoj (by omega) c;have m:=L7 (Bf fs) (Ac fs).length;have g:=Qa (Bf fs).length (Ac fs).length hn;have v:(Ac fs).length/2^Dw (Bf fs).length (Ac fs).length≤(Ac fs).length:=Apt _ _;have i:=Ej fs;have p:(Bf fs).length*Dw (Bf fs).length (Ac fs).length≤40*12:=Aoj (by omega) g;have q:=Ka fs (fun f n=>(b f n).1);have l:(Ai (lens (Ac fs))).length≤256:=Fw _ 256;have o:=J3 (lens (Ac fs)) (Ai (lens (Ac fs)));rw[es];unfold K9 Cz;simp only[Anf,An8,List.length_nil,Dn,Bi];omega
end Hm
theorem Abf{w:World}{base:Nat}{v:Value}{fs:List Hm.Fl}(h:w.ownsRow base 38 2 v fs.length (Fz fs)): ∃ao c,v= .slice ao fs.length c∧Ba w ao fs∧ ∀a,ao=some a→a.block<w.heap.size:=by
 rcases h.2 with⟨rfl,d⟩|⟨g,cap,cur,rfl,_,hb,_⟩
 ·exact⟨none,0,by rw[d],fun i hi=>by omega,by simp⟩
 ·have b:g<w.heap.size:=(h.lt g rfl).2;refine⟨_,cap,rfl,fun i hi=>⟨g,0,rfl,b,?_,?_⟩,fun a e=>by cases e;exact b⟩
  ·rw[An3,h.cellAt _ (by omega)];exact Re fs i hi
  ·rw[An3,h.cellAt _ (by omega)];exact Rf fs i hi
def Iz(w0 w:World)(pg:Nat)(xs:Are)(v:Value)(rs:List Rec):Prop:= ∀k,k<4→ ∃x yo c fs,Mv w0 w pg k xs v rs (decide (k=2)) x yo c fs
theorem Mv.step{w0 w w':World}{pg k:Nat}{xs:Are}{v:Value}{rs:List Rec}{o:Bool}{x:Value}{yo:Arf}{c:Nat}{fs:List Hm.Fl}(T:Mv w0 w pg k xs v rs o x yo c fs)(hk:Ara w w'):Mv w0 w' pg k xs v rs o x yo c fs:=
 ⟨T.game.step hk (fun _ _=>id),T.low,T.eight,T.few,T.lt,T.gx,T.gy,T.sub.step hk,T.files.kept hk (fun _ _=>id),T.small⟩
def My(w0:World)(pg:Nat)(xs:Are)(rs:List Rec)(e:Ending)(w':World):Prop:=e= .returned (.bool true)∧ ∃v' rs',Cv w0 pg xs v' rs' w'∧rs'.length≤rs.length+1
set_option maxRecDepth 20000 in
theorem Alu{w0 w:World}{pg m:Nat}{xs:Are}{v:Value}{rs:List Rec}{q:Qn}(z:Iz w0 w pg xs v rs)(p:q.Ok)(C:m≤1000000000000)(hk:q.k=1):
  Calls prog 24 #[.pointer (some ⟨pg,0,none⟩),.agg q.cells.toArray,.int .i64 (m:Nat)] w fun e w'=>My w0 pg xs rs e w':=by
 obtain⟨i0,hi,D,E,F⟩:=Aoo Ll;obtain⟨q0,q1,q2,q3,q4,q5⟩:=q;dsimp only at hk;subst hk;have G:Hid (Qn.Ok ⟨1,q1,q2,q3,q4,q5⟩):=p
 change Calls _ _ #[.pointer (some ⟨pg,0,none⟩),.agg #[.int .i64 1,.int .i64 q1,.int .i64 q2,.int .i64 q3,.int .i64 q4,.string q5],.int .i64 (m:Nat)] w _
 have d:=Anj w (.cells #[.int .i64 1,.int .i64 q1,.int .i64 q2,.int .i64 q3,.int .i64 q4,.string q5] 62);have d0:(w.alloc (.cells #[.int .i64 1,.int .i64 q1,.int .i64 q2,.int .i64 q3,.int .i64 q4,.string q5] 62)).cell? ⟨w.heap.size,0,none⟩=some (.int .i64 1):=Am7 _ _ 0 _ _ _ d;have d1:(w.alloc (.cells #[.int .i64 1,.int .i64 q1,.int .i64 q2,.int .i64 q3,.int .i64 q4,.string q5] 62)).cell? ⟨w.heap.size,1,none⟩=some (.int .i64 q1):=Am7 _ _ 1 _ _ _ d;have g:Ara w (w.alloc (.cells #[.int .i64 1,.int .i64 q1,.int .i64 q2,.int .i64 q3,.int .i64 q4,.string q5] 62)):=(Aa.refl _ _).alloc _;have j:=Lw q1 (w.alloc (.cells #[.int .i64 1,.int .i64 q1,.int .i64 q2,.int .i64 q3,.int .i64 q4,.string q5] 62)) p.on.1 p.on.2;clear d p
 go_enter func24,ntmps24
 go_wp2_with fail;refine j.mono ?_;rintro e W1 ⟨⟨k,rfl,t⟩,rfl⟩;clear j;generalize w.alloc (.cells #[.int .i64 1,.int .i64 q1,.int .i64 q2,.int .i64 q3,.int .i64 q4,.string q5] 62)=W0 at*;obtain⟨qb,l⟩: ∃b,b=w.heap.size:=⟨_,rfl⟩;rw[←l]at d0 d1⊢;obtain⟨x,yo,c,fs,T0⟩:=z k t;have T:=T0.step g;have u:=T.small;have A:=T.few;have y:Hid (Mv w0 W0 pg k xs v rs (decide (k=2)) x yo c fs):=T;clear T T0 g z l;have i:=Ad3 (m:=m) y.o C;clear u;go_wp2_with fail;refine i.mono ?_;rintro e w1 ⟨rfl,v1,r,f⟩;have a:Hid (Cv w0 pg xs v1 (rs++[r]) w1):=f;clear i f d0 d1;have n:=(a.o).stay (by rw[Anf,List.length_singleton];omega);have s:=(a.o).all y.o.eight;go_wp2_with fail;refine n.mono ?_;rintro e wz ⟨rfl,h⟩;clear n s;have B:Hid (Cv _ _ _ _ _ wz):=(a.o).step h (fun _ _=>id);clear h;go_wp2_with fail;go_ret;exact⟨rfl,_,_,B.o,by simp⟩
set_option maxRecDepth 20000 in
theorem Alv{w0 w:World}{pg m:Nat}{xs:Are}{v:Value}{rs:List Rec}{q:Qn}(X:Iz w0 w pg xs v rs)(L:q.Ok)(hm:m≤1000000000000)(hk:q.k=2):
  Calls prog 24 #[.pointer (some ⟨pg,0,none⟩),.agg q.cells.toArray,.int .i64 (m:Nat)] w fun e w'=>My w0 pg xs rs e w':=by
 obtain⟨i0,hi,Q,R,S⟩:=Aoo Ll;obtain⟨q0,q1,q2,q3,q4,q5⟩:=q;dsimp only at hk;subst hk;have HQ:Hid (Qn.Ok ⟨2,q1,q2,q3,q4,q5⟩):=L
 change Calls _ _ #[.pointer (some ⟨pg,0,none⟩),.agg #[.int .i64 2,.int .i64 q1,.int .i64 q2,.int .i64 q3,.int .i64 q4,.string q5],.int .i64 (m:Nat)] w _
 have t:=Anj w (.cells #[.int .i64 2,.int .i64 q1,.int .i64 q2,.int .i64 q3,.int .i64 q4,.string q5] 62);have d0:(w.alloc (.cells #[.int .i64 2,.int .i64 q1,.int .i64 q2,.int .i64 q3,.int .i64 q4,.string q5] 62)).cell? ⟨w.heap.size,0,none⟩=some (.int .i64 2):=Am7 _ _ 0 _ _ _ t;have d1:(w.alloc (.cells #[.int .i64 2,.int .i64 q1,.int .i64 q2,.int .i64 q3,.int .i64 q4,.string q5] 62)).cell? ⟨w.heap.size,1,none⟩=some (.int .i64 q1):=Am7 _ _ 1 _ _ _ t;have A:Ara w (w.alloc (.cells #[.int .i64 2,.int .i64 q1,.int .i64 q2,.int .i64 q3,.int .i64 q4,.string q5] 62)):=(Aa.refl _ _).alloc _;have D:=Lw q1 (w.alloc (.cells #[.int .i64 2,.int .i64 q1,.int .i64 q2,.int .i64 q3,.int .i64 q4,.string q5] 62)) L.on.1 L.on.2;clear t L
 go_enter func24,ntmps24
 go_wp2_with fail;refine D.mono ?_;rintro e W1 ⟨⟨k,rfl,O⟩,rfl⟩;clear D;generalize w.alloc (.cells #[.int .i64 2,.int .i64 q1,.int .i64 q2,.int .i64 q3,.int .i64 q4,.string q5] 62)=W0 at*;obtain⟨qb,E⟩: ∃b,b=w.heap.size:=⟨_,rfl⟩;rw[←E]at d0 d1⊢;obtain⟨x,yo,c,fs,T0⟩:=X k O;have T:=T0.step A;have G:=T.small;have Z:=T.few;have a:Hid (Mv w0 W0 pg k xs v rs (decide (k=2)) x yo c fs):=T;clear T T0 A X E;have I:=a.o.sub.unpack;have c0:=a.o.game.cell k x a.o.gx;have c1:=a.o.game.cell (4+k) _ a.o.gy;have ae:(k:Int)<4:=by omega
 have aa:(0:Int)≤(k:Int):=by omega
 have ad:=G.1;clear G;go_wp2_with fail;refine I.mono ?_;rintro e w1 ⟨l,rfl,f,d⟩;have hpb:pg<W0.heap.size:=Anu a.o.game.row;have c11:w1.cell? ⟨pg,4+k,none⟩=some (.slice yo fs.length c):=(d.cell (p:=⟨pg,4+k,none⟩) hpb id).trans c1;obtain⟨lo,lc,hl,y,_⟩:=Abf f;subst hl;have F:=Abe lo yo lc c fs w1 y (a.o.files.kept d (fun _ _=>id)) (by omega);have V:Hid (∀W,Ara w1 W→Calls prog 54 #[.slice lo fs.length lc,.int .i64 (m:Nat)] W fun e w2=> ∃(r:Rec) (u:Nat→Value),e= .returned (.agg #[u 0,u 1,u 2,u 3,u 4,u 5,u 6,u 7,u 8,u 9,u 10,u 11,u 12])∧Hid (r.cells=[u 0,u 1,u 2,u 3,u 4,u 5,u 6,u 7,u 8,u 9,u 10,u 11,u 12]∧Ix w0 pg xs v rs w2 r)):=fun W Y=>by
  have ho:=Y.owns f (fun _ _=>id);have hk:=d.trans Y (fun _ _ h=>h);exact(Ad4 _ _ m _ _ W ho hk.size (by omega) hm).mono fun e w2 h=>Ix.of a.o.game a.o.low a.o.eight hk ho h
 have U:Hid (pg<w1.heap.size∧w1.cell? ⟨pg,8,none⟩=some v):=⟨by have:=d.size;omega,(d.cell (p:=⟨pg,8,none⟩) hpb id).trans (a.o.game.all a.o.eight)⟩;clear I c0 c1 f d y d0 d1;go_wp2_with fail;refine F.mono ?_;rintro e w4 ⟨rfl,j⟩;have M:Hid (Ara w1 w4):=j;have c88:=(M.o.cell (p:=⟨pg,8,none⟩) U.o.1 id).trans U.o.2;clear F c11 j;go_wp2_with fail;refine wp_region_any (by kernel_rfl) ?_
 change wpAny _ _ _ _ _ _ _ (World.drew _)
 refine tB 0 (.pointer (some ⟨pg,0,none⟩)) rfl (fun w=>by go_simp) ?_;refine tB 1 (.pointer (some ⟨pg,0,none⟩)) rfl (fun w=>by go_simp) ?_;refine tB 2 (.pointer (some ⟨pg,0,none⟩)) rfl (fun w=>by go_simp) ?_;refine tB 3 (.pointer (some ⟨pg,8,none⟩)) rfl (fun w=>by go_simp) ?_;refine tB 5 (.slice lo fs.length lc) rfl (fun w=>by go_simp) ?_;refine tB 6 (.int .i64 (m:Nat)) rfl (fun w=>by go_simp) ?_;refine rC 4 7 rfl rfl (fun K hK=>?_) (fun K hK=>?_)
 focus
  go_simp;refine hK _ _ ?_;clear hK K;refine rB 7 rfl (fun K hK=>?_);go_simp;refine(V.o _ M.o.drew).mono ?_;rintro e w2 ⟨r,u,rfl,i⟩;refine hK _ _ ?_;clear hK K;refine rB 8 rfl (fun K hK=>?_);go_simp;refine hK _ _ ?_;clear hK K
 rotate_left
 focus
  go_simp;refine(V.o _ M.o.drew).mono ?_;rintro e w2 ⟨r,u,rfl,i⟩;refine hK _ _ ?_;clear hK K;have c82:=i.o.2.game.all i.o.2.eight;have c84:=(i.o.2.step ((Aa.refl _ _).alloc (.cells #[u 0,u 1,u 2,u 3,u 4,u 5,u 6,u 7,u 8,u 9,u 10,u 11,u 12] 122))).game.all i.o.2.eight;refine rC 4 8 rfl rfl (fun K hK=>?_) (fun K hK=>?_)
  focus
   go_simp;refine hK _ _ ?_;clear hK K;refine rB 8 rfl (fun K hK=>?_);go_simp;refine hK _ _ ?_;clear hK K
  rotate_left
  focus
   go_simp;refine hK _ _ ?_;clear hK K;refine rB 4 rfl (fun K hK=>?_);go_simp;refine hK _ _ ?_;clear hK K
 all_goals
  have s:=i.o.2.step ((Aa.refl _ _).alloc (.cells #[u 0,u 1,u 2,u 3,u 4,u 5,u 6,u 7,u 8,u 9,u 10,u 11,u 12] 122));refine rB 9 rfl (fun K hK=>?_);refine Mw _ rfl (.tmp 59) (.tmp 63) 55 rfl w0.heap.size 122 i0 _ 13 296 underlying55 hi Q R S rfl (by decide) v rs.length (rs.flatMap Rec.cells) rfl s.game.owns ⟨w2.heap.size,0,none⟩ 1 1 [u 0,u 1,u 2,u 3,u 4,u 5,u 6,u 7,u 8,u 9,u 10,u 11,u 12] rfl rfl (Hq _) (by rw[←i.o.1];exact r.one) (by unfold maxLen;omega) (by omega) (by have:=s.game.kept.size;omega) ?_;intro v3 w3 g z C;obtain⟨a3,c3,P,_⟩:=Aq g;subst P;rw[←i.o.1]at g;have J:Hid _:=s.push g z C;have c83:=J.o.2.1;have f83:=J.o.2.2;clear g z C;refine hK _ _ ?_;clear hK K;refine tB 10 (.pointer (some ⟨pg,0,none⟩)) rfl (fun w=>by go_simp) ?_;refine tB 11 (.pointer (some ⟨pg,8,none⟩)) rfl (fun w=>by go_simp) ?_;refine rB 12 rfl (fun K hK=>?_);go_simp;refine hK _ _ ?_;clear hK K;refine wpAny_done (by kernel_rfl) ?_ _;have n:Hid _:=J.o.1;clear J c83 f83 c88;have H:=(n.o).stay (by rw[Anf,List.length_singleton];omega);have N:=(n.o).all a.o.eight;go_wp2_with fail;refine H.mono ?_;rintro e wz ⟨rfl,B⟩;clear H N;have HZ:Hid (Cv _ _ _ _ _ wz):=(n.o).step B (fun _ _=>id);clear B;go_wp2_with fail;go_ret;exact⟨rfl,_,_,HZ.o,by simp⟩
set_option maxRecDepth 20000 in
theorem Alw{w0 w:World}{pg m:Nat}{xs:Are}{v:Value}{rs:List Rec}{q:Qn}(B:Iz w0 w pg xs v rs)(l:q.Ok)(_hm:m≤1000000000000)(r: ¬q.k=1)(s: ¬q.k=2)(t: ¬q.k=3)(u: ¬q.k=4)(y: ¬q.k=5):
  Calls prog 24 #[.pointer (some ⟨pg,0,none⟩),.agg q.cells.toArray,.int .i64 (m:Nat)] w fun e w'=>My w0 pg xs rs e w':=by
 obtain⟨i0,hi,E,F,G⟩:=Aoo Ll;obtain⟨q0,q1,q2,q3,q4,q5⟩:=q;dsimp only at r s t u y;have H:Hid (Qn.Ok ⟨q0,q1,q2,q3,q4,q5⟩):=l
 change Calls _ _ #[.pointer (some ⟨pg,0,none⟩),.agg #[.int .i64 q0,.int .i64 q1,.int .i64 q2,.int .i64 q3,.int .i64 q4,.string q5],.int .i64 (m:Nat)] w _
 have d:=Anj w (.cells #[.int .i64 q0,.int .i64 q1,.int .i64 q2,.int .i64 q3,.int .i64 q4,.string q5] 62);have d0:(w.alloc (.cells #[.int .i64 q0,.int .i64 q1,.int .i64 q2,.int .i64 q3,.int .i64 q4,.string q5] 62)).cell? ⟨w.heap.size,0,none⟩=some (.int .i64 q0):=Am7 _ _ 0 _ _ _ d;have d1:(w.alloc (.cells #[.int .i64 q0,.int .i64 q1,.int .i64 q2,.int .i64 q3,.int .i64 q4,.string q5] 62)).cell? ⟨w.heap.size,1,none⟩=some (.int .i64 q1):=Am7 _ _ 1 _ _ _ d;have f:Ara w (w.alloc (.cells #[.int .i64 q0,.int .i64 q1,.int .i64 q2,.int .i64 q3,.int .i64 q4,.string q5] 62)):=(Aa.refl _ _).alloc _;have h:=Lw q1 (w.alloc (.cells #[.int .i64 q0,.int .i64 q1,.int .i64 q2,.int .i64 q3,.int .i64 q4,.string q5] 62)) l.on.1 l.on.2;clear d l
 go_enter func24,ntmps24
 go_wp2_with fail;refine h.mono ?_;rintro e W1 ⟨⟨k,rfl,p⟩,rfl⟩;clear h;generalize w.alloc (.cells #[.int .i64 q0,.int .i64 q1,.int .i64 q2,.int .i64 q3,.int .i64 q4,.string q5] 62)=W0 at*;obtain⟨qb,i⟩: ∃b,b=w.heap.size:=⟨_,rfl⟩;rw[←i]at d0 d1⊢;obtain⟨x,yo,c,fs,T0⟩:=B k p;have T:=T0.step f;have z:=T.small;have C:=T.few;have A:Hid (Mv w0 W0 pg k xs v rs (decide (k=2)) x yo c fs):=T;clear T T0 f B i;have a:Hid (Cv w0 pg xs v rs W0):=A.o.game;clear z;have j:=(a.o).stay (by omega);have n:=(a.o).all A.o.eight;go_wp2_with fail;refine j.mono ?_;rintro e wz ⟨rfl,g⟩;clear j n;have D:Hid (Cv _ _ _ _ _ wz):=(a.o).step g (fun _ _=>id);clear g;go_wp2_with fail;go_ret;exact⟨rfl,_,_,D.o,by simp⟩
end Go.Proofs.YtegnkfdbmmndaaaGreat
