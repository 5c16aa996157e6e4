import Derived.Test.YtegnkfdbmmndaaaGreatJ30

set_option maxHeartbeats 8000000
namespace Go.Proofs.YtegnkfdbmmndaaaGreat
open Hm Go.Proofs.Tryz Go.RowKit
set_option maxRecDepth 20000 in
theorem Alx{w0 w:World}{pg m:Nat}{xs:Are}{v:Value}{rs:List Rec}{q:Qn}(O:Iz w0 w pg xs v rs)(I:q.Ok)(_hm:m≤1000000000000)(hk:q.k=3):
  Calls prog 24 #[.pointer (some ⟨pg,0,none⟩),.agg q.cells.toArray,.int .i64 (m:Nat)] w fun e w'=>My w0 pg xs rs e w':=by
 obtain⟨i0,hi,aa,ab,ac⟩:=Aoo Ll;obtain⟨q0,q1,q2,q3,q4,q5⟩:=q;dsimp only at hk;subst hk;have H:Hid (Qn.Ok ⟨3,q1,q2,q3,q4,q5⟩):=I
 change Calls _ _ #[.pointer (some ⟨pg,0,none⟩),.agg #[.int .i64 3,.int .i64 q1,.int .i64 q2,.int .i64 q3,.int .i64 q4,.string q5],.int .i64 (m:Nat)] w _
 have j:=Anj w (.cells #[.int .i64 3,.int .i64 q1,.int .i64 q2,.int .i64 q3,.int .i64 q4,.string q5] 62);have d0:(w.alloc (.cells #[.int .i64 3,.int .i64 q1,.int .i64 q2,.int .i64 q3,.int .i64 q4,.string q5] 62)).cell? ⟨w.heap.size,0,none⟩=some (.int .i64 3):=Am7 _ _ 0 _ _ _ j;have d1:(w.alloc (.cells #[.int .i64 3,.int .i64 q1,.int .i64 q2,.int .i64 q3,.int .i64 q4,.string q5] 62)).cell? ⟨w.heap.size,1,none⟩=some (.int .i64 q1):=Am7 _ _ 1 _ _ _ j;have d2:(w.alloc (.cells #[.int .i64 3,.int .i64 q1,.int .i64 q2,.int .i64 q3,.int .i64 q4,.string q5] 62)).cell? ⟨w.heap.size,2,none⟩=some (.int .i64 q2):=Am7 _ _ 2 _ _ _ j;have d3:(w.alloc (.cells #[.int .i64 3,.int .i64 q1,.int .i64 q2,.int .i64 q3,.int .i64 q4,.string q5] 62)).cell? ⟨w.heap.size,3,none⟩=some (.int .i64 q3):=Am7 _ _ 3 _ _ _ j;have d4:(w.alloc (.cells #[.int .i64 3,.int .i64 q1,.int .i64 q2,.int .i64 q3,.int .i64 q4,.string q5] 62)).cell? ⟨w.heap.size,4,none⟩=some (.int .i64 q4):=Am7 _ _ 4 _ _ _ j;have B:Ara w (w.alloc (.cells #[.int .i64 3,.int .i64 q1,.int .i64 q2,.int .i64 q3,.int .i64 q4,.string q5] 62)):=(Aa.refl _ _).alloc _;have D:=Lw q1 (w.alloc (.cells #[.int .i64 3,.int .i64 q1,.int .i64 q2,.int .i64 q3,.int .i64 q4,.string q5] 62)) I.on.1 I.on.2;clear j I
 go_enter func24,ntmps24
 go_wp2_with fail;refine D.mono ?_;rintro e W1 ⟨⟨k,rfl,L⟩,rfl⟩;clear D;generalize w.alloc (.cells #[.int .i64 3,.int .i64 q1,.int .i64 q2,.int .i64 q3,.int .i64 q4,.string q5] 62)=W0 at*;obtain⟨qb,F⟩: ∃b,b=w.heap.size:=⟨_,rfl⟩;rw[←F]at d0 d1 d2 d3 d4⊢;obtain⟨x,yo,c,fs,T0⟩:=O k L;have T:=T0.step B;have z:=T.small;have P:=T.few;have l:Hid (Mv w0 W0 pg k xs v rs (decide (k=2)) x yo c fs):=T;clear T T0 B O F;have c0:=l.o.game.cell k x l.o.gx;have c1:=l.o.game.cell (4+k) _ l.o.gy;have Y:(k:Int)<4:=by omega
 have Q:(0:Int)≤(k:Int):=by omega
 have K:=z.1;have R:Hid (∀f∈fs,f.2.size≤30000):=fun f V=>by have:=z.2 f V;omega
 have hpb:pg<W0.heap.size:=Anu l.o.game.row;have i:qb<W0.heap.size:=Ank _ _ d0;have N:Hid (∀W,Ara W0 W→Calls prog 26 #[x,.int .i64 q2,.int .i64 q3,.int .i64 q4] W fun e w'=>(∃S E,(S,E)=(if decide (k=2)=true then(⟨#[]⟩,9)else M5 fs q2 q3 q4)∧e= .returned (.tuple #[.string S,.int .i64 (E:Nat)]))∧Ara W w'):=fun W g=>(l.o.sub.step g).extract q2 q3 q4 H.o.b.1 H.o.b.2;have M:Hid (∀W,Ara W0 W→Calls prog 55 #[.slice yo fs.length c,.int .i64 q2,.int .i64 q3,.int .i64 q4] W fun e w'=>(∃S E,(S,E)=M5 fs q2 q3 q4∧e= .returned (.tuple #[.string S,.int .i64 (E:Nat)]))∧Ara W w'):=fun W g=>(Abd yo c fs q2 q3 q4 W (l.o.files.kept g (fun _ _=>id)) K R.o H.o.b.2 H.o.c.2).mono fun e w' ⟨h1,h2⟩=>⟨h1,by rw[h2];exact Aa.refl _ _⟩;have t:Hid (∀X,Ara W0 X→X.cell? ⟨pg,k,none⟩=some (x)∧X.cell? ⟨qb,2,none⟩=some (.int .i64 q2)∧X.cell? ⟨qb,3,none⟩=some (.int .i64 q3)∧X.cell? ⟨qb,4,none⟩=some (.int .i64 q4)):=fun X g=>⟨(g.cell (p:=⟨pg,k,none⟩) hpb id).trans c0,(g.cell (p:=⟨qb,2,none⟩) i id).trans d2,(g.cell (p:=⟨qb,3,none⟩) i id).trans d3,(g.cell (p:=⟨qb,4,none⟩) i id).trans d4⟩;have u:Hid (∀X,Ara W0 X→X.cell? ⟨pg,4+k,none⟩=some (.slice yo fs.length c)∧X.cell? ⟨qb,2,none⟩=some (.int .i64 q2)∧X.cell? ⟨qb,3,none⟩=some (.int .i64 q3)∧X.cell? ⟨qb,4,none⟩=some (.int .i64 q4)):=fun X g=>⟨(g.cell (p:=⟨pg,4+k,none⟩) hpb id).trans c1,(g.cell (p:=⟨qb,2,none⟩) i id).trans d2,(g.cell (p:=⟨qb,3,none⟩) i id).trans d3,(g.cell (p:=⟨qb,4,none⟩) i id).trans d4⟩;clear z;clear d2 d3 d4 c0 c1;go_wp2_with fail;have s1:W0.drew.cell? ⟨pg,k,none⟩=some (x)∧W0.drew.cell? ⟨qb,2,none⟩=some (.int .i64 q2)∧W0.drew.cell? ⟨qb,3,none⟩=some (.int .i64 q3)∧W0.drew.cell? ⟨qb,4,none⟩=some (.int .i64 q4):=t.o _ (Aa.refl _ _).drew
 go_region_held(fun X=>X.cell? ⟨pg,k,none⟩=some (x)∧X.cell? ⟨qb,2,none⟩=some (.int .i64 q2)∧X.cell? ⟨qb,3,none⟩=some (.int .i64 q3)∧X.cell? ⟨qb,4,none⟩=some (.int .i64 q4)) (first|exact t1|exact s1)
  (first|(go_at_call 26;refine(N.o _ (Aa.refl _ _).drew).mono ?_;rintro e w1 ⟨⟨S,E,A,rfl⟩,y⟩;have t1:w1.cell? ⟨pg,k,none⟩=some (x)∧w1.cell? ⟨qb,2,none⟩=some (.int .i64 q2)∧w1.cell? ⟨qb,3,none⟩=some (.int .i64 q3)∧w1.cell? ⟨qb,4,none⟩=some (.int .i64 q4):=t.o _ ((Aa.refl (fun _=>False) W0).drew.trans y (fun _ _ h=>h))))
 have a:Hid (Ara W0 w1∧(S,E)=(if decide (k=2)=true then(⟨#[]⟩,9)else M5 fs q2 q3 q4)):=⟨(Aa.refl (fun _=>False) W0).drew.trans y (fun _ _ h=>h),A⟩;clear s1 t1 y A N t;go_wp2_with fail;have s2:w1.drew.cell? ⟨pg,4+k,none⟩=some (.slice yo fs.length c)∧w1.drew.cell? ⟨qb,2,none⟩=some (.int .i64 q2)∧w1.drew.cell? ⟨qb,3,none⟩=some (.int .i64 q3)∧w1.drew.cell? ⟨qb,4,none⟩=some (.int .i64 q4):=u.o _ a.o.1.drew
 go_region_held(fun X=>X.cell? ⟨pg,4+k,none⟩=some (.slice yo fs.length c)∧X.cell? ⟨qb,2,none⟩=some (.int .i64 q2)∧X.cell? ⟨qb,3,none⟩=some (.int .i64 q3)∧X.cell? ⟨qb,4,none⟩=some (.int .i64 q4)) (first|exact t2|exact s2)
  (first|(go_at_call 55;refine(M.o _ a.o.1.drew).mono ?_;rintro e w2 ⟨⟨S2,E2,n,rfl⟩,d⟩;have t2:w2.cell? ⟨pg,4+k,none⟩=some (.slice yo fs.length c)∧w2.cell? ⟨qb,2,none⟩=some (.int .i64 q2)∧w2.cell? ⟨qb,3,none⟩=some (.int .i64 q3)∧w2.cell? ⟨qb,4,none⟩=some (.int .i64 q4):=u.o _ (a.o.1.drew.trans d (fun _ _ h=>h))))
 have s:Hid (Ara W0 w2∧(S2,E2)=M5 fs q2 q3 q4):=⟨a.o.1.drew.trans d (fun _ _ h=>h),n⟩;clear s2 t2 d n M u;go_upto_if 101 with fail
 go_cut[13,14]from 101 to 102 (fun v13 v14 wx=>v13= .string S∧v14= .int .i64 (E:Nat)∧w2=wx)
 case first=>
  by_cases d:k=2
  ·have h1:=a.o.2;rw[if_pos (Ana d)]at h1;cases h1;subst d;go_wp2_with fail;go_meet
   case rel=>exact⟨rfl,rfl,rfl⟩
  ·have h1:=a.o.2;rw[if_neg (by simp[d])]at h1;cases h1.trans s.o.2.symm;have Z: ¬(k:Int)=2:=by omega
   clear h1;go_wp2_with fail;go_meet
   case rel=>exact⟨rfl,rfl,rfl⟩
 case rest=>
  obtain⟨rfl,rfl,rfl⟩:=hcut;have r:Hid (Cv w0 pg xs v rs w2):=l.o.game.step s.o.1 (fun _ _=>id);clear a s;have G:=(r.o).stay (by omega);have J:=(r.o).all l.o.eight;go_wp2_with fail;refine G.mono ?_;rintro e wz ⟨rfl,C⟩;clear G J;have U:Hid (Cv _ _ _ _ _ wz):=(r.o).step C (fun _ _=>id);clear C;go_wp2_with fail;go_ret;exact⟨rfl,_,_,U.o,by simp⟩
set_option maxRecDepth 20000 in
theorem Aly{w0 w:World}{pg m:Nat}{xs:Are}{v:Value}{rs:List Rec}{q:Qn}(P:Iz w0 w pg xs v rs)(J:q.Ok)(_hm:m≤1000000000000)(hk:q.k=4):
  Calls prog 24 #[.pointer (some ⟨pg,0,none⟩),.agg q.cells.toArray,.int .i64 (m:Nat)] w fun e w'=>My w0 pg xs rs e w':=by
 obtain⟨i0,hi,ac,ad,ae⟩:=Aoo Ll;obtain⟨q0,q1,q2,q3,q4,q5⟩:=q;dsimp only at hk;subst hk;have V:Hid (Qn.Ok ⟨4,q1,q2,q3,q4,q5⟩):=J
 change Calls _ _ #[.pointer (some ⟨pg,0,none⟩),.agg #[.int .i64 4,.int .i64 q1,.int .i64 q2,.int .i64 q3,.int .i64 q4,.string q5],.int .i64 (m:Nat)] w _
 have j:=Anj w (.cells #[.int .i64 4,.int .i64 q1,.int .i64 q2,.int .i64 q3,.int .i64 q4,.string q5] 62);have d0:(w.alloc (.cells #[.int .i64 4,.int .i64 q1,.int .i64 q2,.int .i64 q3,.int .i64 q4,.string q5] 62)).cell? ⟨w.heap.size,0,none⟩=some (.int .i64 4):=Am7 _ _ 0 _ _ _ j;have d1:(w.alloc (.cells #[.int .i64 4,.int .i64 q1,.int .i64 q2,.int .i64 q3,.int .i64 q4,.string q5] 62)).cell? ⟨w.heap.size,1,none⟩=some (.int .i64 q1):=Am7 _ _ 1 _ _ _ j;have d5:(w.alloc (.cells #[.int .i64 4,.int .i64 q1,.int .i64 q2,.int .i64 q3,.int .i64 q4,.string q5] 62)).cell? ⟨w.heap.size,5,none⟩=some (.string q5):=Am7 _ _ 5 _ _ _ j;have B:Ara w (w.alloc (.cells #[.int .i64 4,.int .i64 q1,.int .i64 q2,.int .i64 q3,.int .i64 q4,.string q5] 62)):=(Aa.refl _ _).alloc _;have D:=Lw q1 (w.alloc (.cells #[.int .i64 4,.int .i64 q1,.int .i64 q2,.int .i64 q3,.int .i64 q4,.string q5] 62)) J.on.1 J.on.2;clear j J
 go_enter func24,ntmps24
 go_wp2_with fail;refine D.mono ?_;rintro e W1 ⟨⟨k,rfl,M⟩,rfl⟩;clear D;generalize w.alloc (.cells #[.int .i64 4,.int .i64 q1,.int .i64 q2,.int .i64 q3,.int .i64 q4,.string q5] 62)=W0 at*;obtain⟨qb,G⟩: ∃b,b=w.heap.size:=⟨_,rfl⟩;rw[←G]at d0 d1 d5⊢;obtain⟨x,yo,c,fs,T0⟩:=P k M;have T:=T0.step B;have z:=T.small;have Q:=T.few;have g:Hid (Mv w0 W0 pg k xs v rs (decide (k=2)) x yo c fs):=T;clear T T0 B P G;have c0:=g.o.game.cell k x g.o.gx;have c1:=g.o.game.cell (4+k) _ g.o.gy;have aa:(k:Int)<4:=by omega
 have R:(0:Int)≤(k:Int):=by omega
 have L:=z.1;have U:Hid (∀f∈fs,f.2.size≤30000):=fun f Z=>by have:=z.2 f Z;omega
 have hpb:pg<W0.heap.size:=Anu g.o.game.row;have H:qb<W0.heap.size:=Ank _ _ d0;have F:q5.data.toList.length≤281474976710656:=Ant (Apx (by simp)) (Ant V.o.s (by decide));have O:Hid (∀W,Ara W0 W→Calls prog 27 #[x,.string q5] W fun e w'=>(∃S E,(S,E)=(if decide (k=2)=true then(0,9)else Uk fs q5.data.toList)∧e= .returned (.tuple #[.int .i64 S,.int .i64 E]))∧Ara W w'):=fun W i=>(g.o.sub.step i).count q5.data.toList F;have N:Hid (∀W,Ara W0 W→Calls prog 56 #[.slice yo fs.length c,.string q5] W fun e w'=>(∃S E,(S,E)=Uk fs q5.data.toList∧e= .returned (.tuple #[.int .i64 S,.int .i64 E]))∧Ara W w'):=fun W i=>(Afx yo c fs q5.data.toList W (g.o.files.kept i (fun _ _=>id)) L U.o F);have t:Hid (∀X,Ara W0 X→X.cell? ⟨pg,k,none⟩=some (x)∧X.cell? ⟨qb,5,none⟩=some (.string q5)):=fun X i=>⟨(i.cell (p:=⟨pg,k,none⟩) hpb id).trans c0,(i.cell (p:=⟨qb,5,none⟩) H id).trans d5⟩;have u:Hid (∀X,Ara W0 X→X.cell? ⟨pg,4+k,none⟩=some (.slice yo fs.length c)∧X.cell? ⟨qb,5,none⟩=some (.string q5)):=fun X i=>⟨(i.cell (p:=⟨pg,4+k,none⟩) hpb id).trans c1,(i.cell (p:=⟨qb,5,none⟩) H id).trans d5⟩;clear z;clear d5 c0 c1;go_wp2_with fail;have s1:W0.drew.cell? ⟨pg,k,none⟩=some (x)∧W0.drew.cell? ⟨qb,5,none⟩=some (.string q5):=t.o _ (Aa.refl _ _).drew
 go_region_held(fun X=>X.cell? ⟨pg,k,none⟩=some (x)∧X.cell? ⟨qb,5,none⟩=some (.string q5)) (first|exact t1|exact s1)
  (first|(go_at_call 27;refine(O.o _ (Aa.refl _ _).drew).mono ?_;rintro e w1 ⟨⟨S,E,A,rfl⟩,y⟩;have t1:w1.cell? ⟨pg,k,none⟩=some (x)∧w1.cell? ⟨qb,5,none⟩=some (.string q5):=t.o _ ((Aa.refl (fun _=>False) W0).drew.trans y (fun _ _ h=>h))))
 have a:Hid (Ara W0 w1∧(S,E)=(if decide (k=2)=true then(0,9)else Uk fs q5.data.toList)):=⟨(Aa.refl (fun _=>False) W0).drew.trans y (fun _ _ h=>h),A⟩;clear s1 t1 y A O t;go_wp2_with fail;have s2:w1.drew.cell? ⟨pg,4+k,none⟩=some (.slice yo fs.length c)∧w1.drew.cell? ⟨qb,5,none⟩=some (.string q5):=u.o _ a.o.1.drew
 go_region_held(fun X=>X.cell? ⟨pg,4+k,none⟩=some (.slice yo fs.length c)∧X.cell? ⟨qb,5,none⟩=some (.string q5)) (first|exact t2|exact s2)
  (first|(go_at_call 56;refine(N.o _ a.o.1.drew).mono ?_;rintro e w2 ⟨⟨S2,E2,l,rfl⟩,d⟩;have t2:w2.cell? ⟨pg,4+k,none⟩=some (.slice yo fs.length c)∧w2.cell? ⟨qb,5,none⟩=some (.string q5):=u.o _ (a.o.1.drew.trans d (fun _ _ h=>h))))
 have r:Hid (Ara W0 w2∧(S2,E2)=Uk fs q5.data.toList):=⟨a.o.1.drew.trans d (fun _ _ h=>h),l⟩;clear s2 t2 d l N u;go_upto_if 136 with fail
 go_cut[17,18]from 136 to 137 (fun v17 v18 wx=>v17= .int .i64 S∧v18= .int .i64 E∧w2=wx)
 case first=>
  by_cases d:k=2
  ·have h1:=a.o.2;rw[if_pos (Ana d)]at h1;cases h1;subst d;go_wp2_with fail;go_meet
   case rel=>exact⟨rfl,rfl,rfl⟩
  ·have h1:=a.o.2;rw[if_neg (by simp[d])]at h1;cases h1.trans r.o.2.symm;have ab: ¬(k:Int)=2:=by omega
   clear h1;go_wp2_with fail;go_meet
   case rel=>exact⟨rfl,rfl,rfl⟩
 case rest=>
  obtain⟨rfl,rfl,rfl⟩:=hcut;have n:Hid (Cv w0 pg xs v rs w2):=g.o.game.step r.o.1 (fun _ _=>id);clear a r;have I:=(n.o).stay (by omega);have K:=(n.o).all g.o.eight;go_wp2_with fail;refine I.mono ?_;rintro e wz ⟨rfl,C⟩;clear I K;have Y:Hid (Cv _ _ _ _ _ wz):=(n.o).step C (fun _ _=>id);clear C;go_wp2_with fail;go_ret;exact⟨rfl,_,_,Y.o,by simp⟩
set_option maxRecDepth 20000 in
theorem Aio(v:Value)(n m base:Nat)(xs:Are)(w:World)(ho:w.ownsRow base 73 2 v n xs)(hb:base≤w.heap.size)(hn:n≤100000)(hm:m≤1000000000000):
  Calls prog 58 #[v,.int .i64 m] w fun e w'=>Rm base m v w w' e:=by
 obtain⟨i0,hi,S,T,U⟩:=Aoo Oh;obtain⟨ao,c,hv,a5⟩:=Aq ho;subst hv;have H0:Hid ((ao=none∧n=0∧c=0)∨ ∃g,ao=some ⟨g,0,none⟩∧base≤g∧g<w.heap.size∧Ef w 73 (.int .i64 0) (.int .i64 (m:Nat)) g c 0):=by
  rcases ho.2 with⟨e,h0⟩|⟨g,cap,cur,e,h1,h2,D,X,h5,h6⟩
  ·cases e;exact .inl ⟨rfl,rfl,rfl⟩
  ·cases e;exact .inr ⟨g,rfl,h1,Anu h2,cur,h2,h5,X,Ann _,fun i hi=>by omega⟩
 clear ho
 go_enter func58,ntmps58
 go_wp2_with fail;obtain⟨ZA,L⟩: ∃Z:Array Value,Z= #[.slice none 0 0,.slice none 0 0,.slice none 0 0,.slice none 0 0,.slice none 0 0,.slice none 0 0,.slice none 0 0,.slice none 0 0,.slice none 0 0,.slice none 0 0,.slice none 0 0,.slice none 0 0,.int .i64 0]:=⟨_,rfl⟩;have ay:ZA.size=13:=by rw[L];rfl
 rw[←L];have r0:((w.alloc (.cells ZA 122)).alloc (.cells #[.int .i64 0,.int .i64 (m:Nat)] 73)).heap[w.heap.size]?=some (.cells ZA 122 (0,0)):=Apb _ _ _;have r1:((w.alloc (.cells ZA 122)).alloc (.cells #[.int .i64 0,.int .i64 (m:Nat)] 73)).heap[w.heap.size+1]?=some (.cells #[.int .i64 0,.int .i64 (m:Nat)] 73 (0,0)):=Apc _ _ _;have ah:Ara w ((w.alloc (.cells ZA 122)).alloc (.cells #[.int .i64 0,.int .i64 (m:Nat)] 73)):=((Aa.refl _ _).alloc _).alloc _;generalize(w.alloc (.cells ZA 122)).alloc (.cells #[.int .i64 0,.int .i64 (m:Nat)] 73)=W1 at*;obtain⟨p0,N⟩: ∃p,p=w.heap.size:=⟨_,rfl⟩;obtain⟨p1,O⟩: ∃p,p=w.heap.size+1:=⟨_,rfl⟩;have W:Hid (p0=w.heap.size∧p1=w.heap.size+1):=⟨N,O⟩;rw[←N]at r0;rw[←O]at r1;rw[←O,←N];have Y:Hid (W1.heap[p0]?=some (.cells ZA 122 (0,0))∧W1.heap[p1]?=some (.cells #[.int .i64 0,.int .i64 (m:Nat)] 73 (0,0))∧Ara w W1):=⟨r0,r1,ah⟩;have am:Hid (ZA= #[.slice none 0 0,.slice none 0 0,.slice none 0 0,.slice none 0 0,.slice none 0 0,.slice none 0 0,.slice none 0 0,.slice none 0 0,.slice none 0 0,.slice none 0 0,.slice none 0 0,.slice none 0 0,.int .i64 0]):=L;clear N O r0 r1 ah L;have r:Hid (∀j,(Value.slice ao n c).ownBlock=some j→j<p0):=fun j C=>by
  rcases H0.o with⟨rfl,_⟩|⟨g,rfl,_,hg,_⟩
  ·cases C
  ·have:j=g:=by injection C with C;exact C.symm
   have:=W.o;omega
 go_loopw[6] (fun vi wr=> ∃i:Nat,i≤n∧vi= .int .i64 i∧Hid ((ao=none∧n=0∧c=0)∨ ∃g,ao=some ⟨g,0,none⟩∧base≤g∧g<w.heap.size∧Ef wr 73 (.int .i64 0) (.int .i64 (m:Nat)) g c i)∧Hid (Aa (fun j=>(Value.slice ao n c).ownBlock=some j) W1 wr)) (fun vi _=>n-(intOf vi).toNat)
 case atStart=>
  refine⟨0,Ann _,rfl,?_,Aa.refl _ _⟩;rcases H0.o with h|⟨g,h1,h2,D,X⟩
  ·exact .inl h
  ·exact .inr ⟨g,h1,h2,D,X.kept Y.o.2.2 id⟩
 case round=>
  obtain⟨i,az,rfl,HL,V⟩:=hrel;have rw1:wr.heap[p1]?=some (.cells #[.int .i64 0,.int .i64 (m:Nat)] 73 (0,0)):=V.o.row Y.o.2.1 (fun e=>by have:=r.o _ e;have:=W.o;omega);have rw0:wr.heap[p0]?=some (.cells ZA 122 (0,0)):=V.o.row Y.o.1 (fun e=>by have:=r.o _ e;omega);have x1:wr.cell? ⟨p1,0,none⟩=some (.int .i64 0):=Am7 _ _ 0 _ _ _ rw1;have x2:wr.cell? ⟨p1,1,none⟩=some (.int .i64 (m:Nat)):=Am7 _ _ 1 _ _ _ rw1
  by_cases ar:i<n
  ·have J:(i:Int)<(n:Int):=by omega
   have aq:decide ((i:Int)<(n:Int))=true:=Ana J;obtain⟨g,rfl,an,ap,af⟩: ∃g,ao=some ⟨g,0,none⟩∧base≤g∧g<w.heap.size∧Ef wr 73 (.int .i64 0) (.int .i64 (m:Nat)) g c i:=by
    rcases HL.o with⟨_,h,_⟩|h
    ·omega
    ·exact h
   have al:Hid (Ef wr 73 (.int .i64 0) (.int .i64 (m:Nat)) g c i):=af;obtain⟨cur,s1,s2,s3,s4,s5⟩:=af;obtain⟨u1,q1⟩: ∃u,wr.cell? ⟨g,i*2,none⟩=some u:=⟨_,by rw[Am7 _ _ _ _ _ _ s1,Apl (by omega)]⟩;obtain⟨u2,q2⟩: ∃u,wr.cell? ⟨g,i*2+1,none⟩=some u:=⟨_,by rw[Am7 _ _ _ _ _ _ s1,Apl (by omega)]⟩;have f1:wr.frozen? ⟨g,i*2,none⟩=false:=Ang _ _ _ _ _ s1;have f2:wr.frozen? ⟨g,i*2+1,none⟩=false:=Ang _ _ _ _ _ s1;have HN:Hid (Ef ((wr.setCell ⟨g,i*2,none⟩ (.int .i64 0)).setCell ⟨g,i*2+1,none⟩ (.int .i64 (m:Nat))) 73 (.int .i64 0) (.int .i64 (m:Nat)) g c (i+1)∧Aa (fun j=>(Value.slice (some ⟨g,0,none⟩) n c).ownBlock=some j) W1 ((wr.setCell ⟨g,i*2,none⟩ (.int .i64 0)).setCell ⟨g,i*2+1,none⟩ (.int .i64 (m:Nat)))):=⟨al.o.put i (by omega) (i+1) (by omega) (fun j C=>by omega),(V.o.setCell (p:=⟨g,i*2,none⟩) (.inr rfl) _).setCell (p:=⟨g,i*2+1,none⟩) (.inr rfl) _⟩;clear s1 s2 s3 s4 s5 rw1 rw0 HL V H0;go_wp2_with fail;go_roundw
   case rel=>exact⟨i+1,by omega,by go_num,.inr ⟨g,rfl,an,ap,HN.o.1⟩,HN.o.2⟩
   case measure=>simp[intOf];omega
  ·have J: ¬(i:Int)<(n:Int):=by omega
   have aq:decide ((i:Int)<(n:Int))=false:=Anc J;have ag:i=n:=by omega
   have E:Hid (LX wr base 73 (.int .i64 0) (.int .i64 (m:Nat)) (.slice ao n c) n):=by
    rw[ag]at HL;rcases HL.o with⟨h1,h2,D⟩|⟨g,h1,h2,D,X⟩
    ·subst h1 h2 D;exact .inl ⟨rfl,rfl⟩
    ·subst h1;exact .inr ⟨g,c,rfl,h2,X⟩
   have k:Hid (Aa (fun j=>(Value.slice ao n c).ownBlock=some j) w wr∧base≤wr.heap.size):=by
    have h1:Aa (fun j=>(Value.slice ao n c).ownBlock=some j) w wr:=(Y.o.2.2.wider (fun _ _ h=>h.elim)).trans V.o (fun _ _ h=>h);exact⟨h1,Ant hb h1.size⟩
   have I:Hid (wr.heap[p1]?=some (.cells #[.int .i64 0,.int .i64 (m:Nat)] 73 (0,0))∧wr.heap[p0]?=some (.cells ZA 122 (0,0))):=⟨rw1,rw0⟩;clear rw1 rw0 HL V H0 ag Y
   go_wp2_with(at_builtin;refine C8 _ rfl (.tmp 22) (.tmp 24) 69 rfl 73 i0 (.agg #[.int .i64 0,.int .i64 0]) 16 underlying69 hi S T U rfl base (.int .i64 0) (.int .i64 (m:Nat)) _ n 1 (by omega) rfl (E.o.alloc _) ?b0 ⟨wr.heap.size,0,none⟩ 1 rfl (Hq (Ex (.int .i64 0) (.int .i64 (m:Nat)) 1)) rfl rfl ?b1 ?b2 ?_)
   case b0=>first|exact Ant k.o.2 ((Aa.refl (fun _=>False) _).alloc _).size|(have:=k.o.2;omega)
   case b1=>unfold maxLen;omega
   case b2=>omega
   intro v1 w1 z A y;have d:Aa (fun j=>(Value.slice ao n c).ownBlock=some j) wr w1:=((Aa.refl _ wr).alloc _).trans y (fun _ _ h=>h);have f:Eo wr w1 73 (.int .i64 0) (.int .i64 (m:Nat)):=(Eo.alloc _ _ _ _ _).trans A;have ac:Hid (LX w1 base 73 (.int .i64 0) (.int .i64 (m:Nat)) v1 (n+1)):=z;have F:Hid (LX w1 base 73 (.int .i64 0) (.int .i64 (m:Nat)) (.slice ao n c) n):=f.lx E.o;have l:Hid (Aa (fun j=>(Value.slice ao n c).ownBlock=some j) w w1∧base≤w1.heap.size):=⟨k.o.1.trans d (fun _ _ h=>h),Ant k.o.2 d.size⟩;have s:Hid (w1.heap[p1]?=some (.cells #[.int .i64 0,.int .i64 (m:Nat)] 73 (0,0))∧w1.heap[p0]?=some (.cells ZA 122 (0,0))):=⟨d.row I.o.1 (fun e=>by have:=r.o _ e;have:=W.o;omega),d.row I.o.2 (fun e=>by have:=r.o _ e;omega)⟩;clear E k I z A y d f x1 x2;have x1:w1.cell? ⟨p1,0,none⟩=some (.int .i64 0):=Am7 _ _ 0 _ _ _ s.o.1;have x2:w1.cell? ⟨p1,1,none⟩=some (.int .i64 (m:Nat)):=Am7 _ _ 1 _ _ _ s.o.1
   go_wp2_with(at_builtin;refine C8 _ rfl (.tmp 26) (.tmp 29) 69 rfl 73 i0 (.agg #[.int .i64 0,.int .i64 0]) 16 underlying69 hi S T U rfl base (.int .i64 0) (.int .i64 (m:Nat)) _ n 2 (by omega) rfl (F.o.alloc _) ?b0 ⟨w1.heap.size,0,none⟩ 2 rfl (Hq (Ex (.int .i64 0) (.int .i64 (m:Nat)) 2)) rfl rfl ?b1 ?b2 ?_)
   case b0=>first|exact Ant l.o.2 ((Aa.refl (fun _=>False) _).alloc _).size|(have:=l.o.2;omega)
   case b1=>unfold maxLen;omega
   case b2=>omega
   intro v2 w2 z A y;have d:Aa (fun j=>(Value.slice ao n c).ownBlock=some j) w1 w2:=((Aa.refl _ w1).alloc _).trans y (fun _ _ h=>h);have f:Eo w1 w2 73 (.int .i64 0) (.int .i64 (m:Nat)):=(Eo.alloc _ _ _ _ _).trans A;have Q:Hid (LX w2 base 73 (.int .i64 0) (.int .i64 (m:Nat)) v1 (n+1)∧LX w2 base 73 (.int .i64 0) (.int .i64 (m:Nat)) v2 (n+2)):=⟨f.lx ac.o,z⟩;have G:Hid (LX w2 base 73 (.int .i64 0) (.int .i64 (m:Nat)) (.slice ao n c) n):=f.lx F.o;have q:Hid (Aa (fun j=>(Value.slice ao n c).ownBlock=some j) w w2∧base≤w2.heap.size):=⟨l.o.1.trans d (fun _ _ h=>h),Ant l.o.2 d.size⟩;have t:Hid (w2.heap[p1]?=some (.cells #[.int .i64 0,.int .i64 (m:Nat)] 73 (0,0))∧w2.heap[p0]?=some (.cells ZA 122 (0,0))):=⟨d.row s.o.1 (fun e=>by have:=r.o _ e;have:=W.o;omega),d.row s.o.2 (fun e=>by have:=r.o _ e;omega)⟩;clear F l s z A y d f x1 x2 ac;have x1:w2.cell? ⟨p1,0,none⟩=some (.int .i64 0):=Am7 _ _ 0 _ _ _ t.o.1;have x2:w2.cell? ⟨p1,1,none⟩=some (.int .i64 (m:Nat)):=Am7 _ _ 1 _ _ _ t.o.1
   go_wp2_with(at_builtin;refine C8 _ rfl (.tmp 31) (.tmp 35) 69 rfl 73 i0 (.agg #[.int .i64 0,.int .i64 0]) 16 underlying69 hi S T U rfl base (.int .i64 0) (.int .i64 (m:Nat)) _ n 3 (by omega) rfl (G.o.alloc _) ?b0 ⟨w2.heap.size,0,none⟩ 3 rfl (Hq (Ex (.int .i64 0) (.int .i64 (m:Nat)) 3)) rfl rfl ?b1 ?b2 ?_)
   case b0=>first|exact Ant q.o.2 ((Aa.refl (fun _=>False) _).alloc _).size|(have:=q.o.2;omega)
   case b1=>unfold maxLen;omega
   case b2=>omega
   intro v3 w3 z A y;have d:Aa (fun j=>(Value.slice ao n c).ownBlock=some j) w2 w3:=((Aa.refl _ w2).alloc _).trans y (fun _ _ h=>h);have f:Eo w2 w3 73 (.int .i64 0) (.int .i64 (m:Nat)):=(Eo.alloc _ _ _ _ _).trans A;have K:Hid (LX w3 base 73 (.int .i64 0) (.int .i64 (m:Nat)) v1 (n+1)∧LX w3 base 73 (.int .i64 0) (.int .i64 (m:Nat)) v2 (n+2)∧LX w3 base 73 (.int .i64 0) (.int .i64 (m:Nat)) v3 (n+3)):=⟨f.lx Q.o.1,f.lx Q.o.2,z⟩;have P:Hid (LX w3 base 73 (.int .i64 0) (.int .i64 (m:Nat)) (.slice ao n c) n):=f.lx G.o;have aa:Hid (Aa (fun j=>(Value.slice ao n c).ownBlock=some j) w w3∧base≤w3.heap.size):=⟨q.o.1.trans d (fun _ _ h=>h),Ant q.o.2 d.size⟩;have x:Hid (w3.heap[p1]?=some (.cells #[.int .i64 0,.int .i64 (m:Nat)] 73 (0,0))∧w3.heap[p0]?=some (.cells ZA 122 (0,0))):=⟨d.row t.o.1 (fun e=>by have:=r.o _ e;have:=W.o;omega),d.row t.o.2 (fun e=>by have:=r.o _ e;omega)⟩;clear G q t z A y d f x1 x2 Q;have x1:w3.cell? ⟨p1,0,none⟩=some (.int .i64 0):=Am7 _ _ 0 _ _ _ x.o.1;have x2:w3.cell? ⟨p1,1,none⟩=some (.int .i64 (m:Nat)):=Am7 _ _ 1 _ _ _ x.o.1;obtain⟨a1,c1,e1,A1,B1,C1⟩:=K.o.1.mark;obtain⟨a2,c2,e2,A2,B2,C2⟩:=K.o.2.1.mark;obtain⟨a3,c3,e3,A3,B3,C3⟩:=K.o.2.2.mark;obtain⟨a0,c0,e0,A0,B0,C0⟩:=P.o.mark;cases e0;subst e1 e2 e3;have H:Hid (Jd w3 (Je 8 m (ao,n,c) (a1,n+1,c1) (a2,n+2,c2) (a3,n+3,c3))∧ ∀j a,j<12→((Je 8 m (ao,n,c) (a1,n+1,c1) (a2,n+2,c2) (a3,n+3,c3)).sl j).1=some a→base≤a.block∧a.block<w3.heap.size∧a.block≠p0):=by
    have M: ∀a:Addr,(base≤a.block∧a.block<w3.heap.size∧ ∃cur,w3.heap[a.block]?=some (.cells cur 73 (0,0)))→base≤a.block∧a.block<w3.heap.size∧a.block≠p0:=fun a ⟨h1,h2,cur,D⟩=>⟨h1,h2,fun e=>by
     rw[e,x.o.2]at D;injection D with D;injection D with _ D;exact absurd D (by decide)⟩
    refine⟨⟨hm,fun j C=>?_,fun j C=>?_,fun j X C=>?_⟩,fun j a C e=>?_⟩
    ·rcases Gz 8 m j (ao,n,c) (a1,n+1,c1) (a2,n+2,c2) (a3,n+3,c3)with⟨h,_⟩|⟨h,_⟩|⟨h,_⟩|⟨h,_⟩|⟨h,_⟩<;>rw[h]<;>dsimp only<;>omega
    ·rcases Gz 8 m j (ao,n,c) (a1,n+1,c1) (a2,n+2,c2) (a3,n+3,c3)with⟨h,B⟩|⟨h,B⟩|⟨h,B⟩|⟨h,B⟩|⟨h,B⟩
     ·omega
     ·omega
     ·omega
     ·omega
     ·rw[h];exact On _ _ _
    ·rcases Gz 8 m j (ao,n,c) (a1,n+1,c1) (a2,n+2,c2) (a3,n+3,c3)with⟨h,B⟩|⟨h,B⟩|⟨h,B⟩|⟨h,B⟩|⟨h,B⟩
     ·rw[h];exact B0
     ·rw[h];exact B1
     ·rw[h];exact B2
     ·rw[h];exact B3
     ·rw[h];exact On _ _ _
    ·rcases Gz 8 m j (ao,n,c) (a1,n+1,c1) (a2,n+2,c2) (a3,n+3,c3)with⟨h,B⟩|⟨h,B⟩|⟨h,B⟩|⟨h,B⟩|⟨h,B⟩<;>rw[h]at e
     ·exact M a (C0 a e)
     ·exact M a (C1 a e)
     ·exact M a (C2 a e)
     ·exact M a (C3 a e)
     ·cases e
   clear A0 B0 C0 A1 B1 C1 A2 B2 C2 A3 B3 C3 K P;have ad:Hid (w3.heap[p0]?=some (.cells ZA 122 (0,0))):=x.o.2;have b:=ad.o;rw[am.o]at b;have p10:w3.cell? ⟨p0,0,none⟩=some (.slice none 0 0):=Am7 _ _ 0 _ _ _ b;have f10:w3.frozen? ⟨p0,0,none⟩=false:=Ang _ _ 0 _ _ b;have p11:w3.cell? ⟨p0,1,none⟩=some (.slice none 0 0):=Am7 _ _ 1 _ _ _ b;have f11:w3.frozen? ⟨p0,1,none⟩=false:=Ang _ _ 1 _ _ b;have p12:w3.cell? ⟨p0,2,none⟩=some (.slice none 0 0):=Am7 _ _ 2 _ _ _ b;have f12:w3.frozen? ⟨p0,2,none⟩=false:=Ang _ _ 2 _ _ b;have p13:w3.cell? ⟨p0,3,none⟩=some (.slice none 0 0):=Am7 _ _ 3 _ _ _ b;have f13:w3.frozen? ⟨p0,3,none⟩=false:=Ang _ _ 3 _ _ b;have p14:w3.cell? ⟨p0,4,none⟩=some (.slice none 0 0):=Am7 _ _ 4 _ _ _ b;have f14:w3.frozen? ⟨p0,4,none⟩=false:=Ang _ _ 4 _ _ b;have p15:w3.cell? ⟨p0,5,none⟩=some (.slice none 0 0):=Am7 _ _ 5 _ _ _ b;have f15:w3.frozen? ⟨p0,5,none⟩=false:=Ang _ _ 5 _ _ b;have p16:w3.cell? ⟨p0,6,none⟩=some (.slice none 0 0):=Am7 _ _ 6 _ _ _ b;have f16:w3.frozen? ⟨p0,6,none⟩=false:=Ang _ _ 6 _ _ b;have p17:w3.cell? ⟨p0,7,none⟩=some (.slice none 0 0):=Am7 _ _ 7 _ _ _ b;have f17:w3.frozen? ⟨p0,7,none⟩=false:=Ang _ _ 7 _ _ b;have p18:w3.cell? ⟨p0,8,none⟩=some (.slice none 0 0):=Am7 _ _ 8 _ _ _ b;have f18:w3.frozen? ⟨p0,8,none⟩=false:=Ang _ _ 8 _ _ b;have p19:w3.cell? ⟨p0,9,none⟩=some (.slice none 0 0):=Am7 _ _ 9 _ _ _ b;have f19:w3.frozen? ⟨p0,9,none⟩=false:=Ang _ _ 9 _ _ b;have p20:w3.cell? ⟨p0,10,none⟩=some (.slice none 0 0):=Am7 _ _ 10 _ _ _ b;have f20:w3.frozen? ⟨p0,10,none⟩=false:=Ang _ _ 10 _ _ b;have p21:w3.cell? ⟨p0,11,none⟩=some (.slice none 0 0):=Am7 _ _ 11 _ _ _ b;have f21:w3.frozen? ⟨p0,11,none⟩=false:=Ang _ _ 11 _ _ b;have p22:w3.cell? ⟨p0,12,none⟩=some (.int .i64 0):=Am7 _ _ 12 _ _ _ b;have f22:w3.frozen? ⟨p0,12,none⟩=false:=Ang _ _ 12 _ _ b;obtain⟨aj,ai⟩:=Ail b (.slice none 0 0) (.slice none 0 0) (.slice none 0 0) (.slice none 0 0) (.slice none 0 0) (.slice none 0 0) (.slice none 0 0) (.slice none 0 0) (.slice ao n c) (.slice a1 (n+1) c1) (.slice a2 (n+2) c2) (.slice a3 (n+3) c3) (.int .i64 (m:Nat));have ae:Hid ((((((((((((((w3.setCell ⟨p0,0,none⟩ (.slice none 0 0)).setCell ⟨p0,1,none⟩ (.slice none 0 0)).setCell ⟨p0,2,none⟩ (.slice none 0 0)).setCell ⟨p0,3,none⟩ (.slice none 0 0)).setCell ⟨p0,4,none⟩ (.slice none 0 0)).setCell ⟨p0,5,none⟩ (.slice none 0 0)).setCell ⟨p0,6,none⟩ (.slice none 0 0)).setCell ⟨p0,7,none⟩ (.slice none 0 0)).setCell ⟨p0,8,none⟩ (.slice ao n c)).setCell ⟨p0,9,none⟩ (.slice a1 (n+1) c1)).setCell ⟨p0,10,none⟩ (.slice a2 (n+2) c2)).setCell ⟨p0,11,none⟩ (.slice a3 (n+3) c3)).setCell ⟨p0,12,none⟩ (.int .i64 (m:Nat))).heap[p0]?=some (.cells #[.slice none 0 0,.slice none 0 0,.slice none 0 0,.slice none 0 0,.slice none 0 0,.slice none 0 0,.slice none 0 0,.slice none 0 0,.slice ao n c,.slice a1 (n+1) c1,.slice a2 (n+2) c2,.slice a3 (n+3) c3,.int .i64 (m:Nat)] 122 (0,0))∧Aa (fun j=>j=p0) w3 (((((((((((((w3.setCell ⟨p0,0,none⟩ (.slice none 0 0)).setCell ⟨p0,1,none⟩ (.slice none 0 0)).setCell ⟨p0,2,none⟩ (.slice none 0 0)).setCell ⟨p0,3,none⟩ (.slice none 0 0)).setCell ⟨p0,4,none⟩ (.slice none 0 0)).setCell ⟨p0,5,none⟩ (.slice none 0 0)).setCell ⟨p0,6,none⟩ (.slice none 0 0)).setCell ⟨p0,7,none⟩ (.slice none 0 0)).setCell ⟨p0,8,none⟩ (.slice ao n c)).setCell ⟨p0,9,none⟩ (.slice a1 (n+1) c1)).setCell ⟨p0,10,none⟩ (.slice a2 (n+2) c2)).setCell ⟨p0,11,none⟩ (.slice a3 (n+3) c3)).setCell ⟨p0,12,none⟩ (.int .i64 (m:Nat)))):=⟨aj,ai⟩;clear aj ai;clear b x x1 x2;go_wp2_with fail;have av:=ae.o.1;have R:=ae.o.2;refine Aok (v:= .agg #[.slice none 0 0,.slice none 0 0,.slice none 0 0,.slice none 0 0,.slice none 0 0,.slice none 0 0,.slice none 0 0,.slice none 0 0,.slice ao n c,.slice a1 (n+1) c1,.slice a2 (n+2) c2,.slice a3 (n+3) c3,.int .i64 (m:Nat)]) (Ao0 results58 _ _ p0 122 _ (0,0) _ rfl av underlying122 rfl Mb) rfl ?_;have ar:p0<w3.heap.size:=Anu ad.o;refine⟨(Je 8 m (ao,n,c) (a1,n+1,c1) (a2,n+2,c2) (a3,n+3,c3)),rfl,H.o.1.kept R (fun j a C e h=>?_),rfl,fun j a C e=>?_,aa.o.1.trans R (fun j h1 h2=>by have:=W.o;omega)⟩
   ·exact(H.o.2 j a C e).2.2 h
   ·have h1:=H.o.2 j a C e;have:=R.size;omega
set_option maxRecDepth 20000 in
theorem Alz{w0 w:World}{pg m:Nat}{xs:Are}{v:Value}{rs:List Rec}{q:Qn}(hT:Iz w0 w pg xs v rs)(hq:q.Ok)(hm:m≤1000000000000)(hk:q.k=5):
  Calls prog 24 #[.pointer (some ⟨pg,0,none⟩),.agg q.cells.toArray,.int .i64 (m:Nat)] w fun e w'=>My w0 pg xs rs e w':=by
 obtain⟨i0,hi,an,ao,aq⟩:=Aoo Ll;obtain⟨q0,q1,q2,q3,q4,q5⟩:=q;dsimp only at hk;subst hk;have HQ:Hid (Qn.Ok ⟨5,q1,q2,q3,q4,q5⟩):=hq
 change Calls _ _ #[.pointer (some ⟨pg,0,none⟩),.agg #[.int .i64 5,.int .i64 q1,.int .i64 q2,.int .i64 q3,.int .i64 q4,.string q5],.int .i64 (m:Nat)] w _
 have z:=Anj w (.cells #[.int .i64 5,.int .i64 q1,.int .i64 q2,.int .i64 q3,.int .i64 q4,.string q5] 62);have d0:(w.alloc (.cells #[.int .i64 5,.int .i64 q1,.int .i64 q2,.int .i64 q3,.int .i64 q4,.string q5] 62)).cell? ⟨w.heap.size,0,none⟩=some (.int .i64 5):=Am7 _ _ 0 _ _ _ z;have d1:(w.alloc (.cells #[.int .i64 5,.int .i64 q1,.int .i64 q2,.int .i64 q3,.int .i64 q4,.string q5] 62)).cell? ⟨w.heap.size,1,none⟩=some (.int .i64 q1):=Am7 _ _ 1 _ _ _ z;have d2:(w.alloc (.cells #[.int .i64 5,.int .i64 q1,.int .i64 q2,.int .i64 q3,.int .i64 q4,.string q5] 62)).cell? ⟨w.heap.size,2,none⟩=some (.int .i64 q2):=Am7 _ _ 2 _ _ _ z;have d5:(w.alloc (.cells #[.int .i64 5,.int .i64 q1,.int .i64 q2,.int .i64 q3,.int .i64 q4,.string q5] 62)).cell? ⟨w.heap.size,5,none⟩=some (.string q5):=Am7 _ _ 5 _ _ _ z;have V:Ara w (w.alloc (.cells #[.int .i64 5,.int .i64 q1,.int .i64 q2,.int .i64 q3,.int .i64 q4,.string q5] 62)):=(Aa.refl _ _).alloc _;have ad:=Lw q1 (w.alloc (.cells #[.int .i64 5,.int .i64 q1,.int .i64 q2,.int .i64 q3,.int .i64 q4,.string q5] 62)) hq.on.1 hq.on.2;clear z hq
 go_enter func24,ntmps24
 go_wp2_with fail;refine ad.mono ?_;rintro e W1 ⟨⟨k,rfl,al⟩,rfl⟩;clear ad;generalize w.alloc (.cells #[.int .i64 5,.int .i64 q1,.int .i64 q2,.int .i64 q3,.int .i64 q4,.string q5] 62)=W0 at*;obtain⟨qb,af⟩: ∃b,b=w.heap.size:=⟨_,rfl⟩;rw[←af]at d0 d1 d2 d5⊢;obtain⟨x,yo,c,fs,T0⟩:=hT k al;have T:=T0.step V;have M:=T.small;have az:=T.few;have y:Hid (Mv w0 W0 pg k xs v rs (decide (k=2)) x yo c fs):=T;clear T T0 V hT af;have c0:=y.o.game.cell k x y.o.gx;have c1:=y.o.game.cell (4+k) _ y.o.gy;have a8:(k:Int)<4:=by omega
 have a0:(0:Int)≤(k:Int):=by omega
 have ak:=M.1;have HF:Hid (∀f∈fs,f.2.size≤30000):=fun f hf=>by have:=M.2 f hf;omega
 have hpb:pg<W0.heap.size:=Anu y.o.game.row;have C:qb<W0.heap.size:=Ank _ _ d0;have ae:q5.data.toList.length≤281474976710656:=Ant (Apx (by simp)) (Ant HQ.o.s (by decide));have HX:Hid (∀W,Ara W0 W→Calls prog 28 #[x,.string q5,.int .i64 q2] W fun e w'=>(∃v S E,(S,E)=(if decide (k=2)=true then([],9)else Ul fs q5.data.toList q2)∧e= .returned (.tuple #[v,.int .i64 E])∧S.length≤6001∧w'.ownsRow W.heap.size 73 2 v S.length (By S))∧Ara W w'):=fun W l=>(y.o.sub.step l).locate q5.data.toList q2 ae HQ.o.a.2;have HR:Hid (∀W,Ara W0 W→Calls prog 57 #[.slice yo fs.length c,.string q5,.int .i64 q2] W fun e w'=>(∃ap d S E,(S,E)=Ul fs q5.data.toList q2∧Jc w' ap S∧e= .returned (.tuple #[.slice ap S.length d,.int .i64 E]))∧Ara W w'):=fun W l=>Ad2 yo c fs q5.data.toList q2 W (y.o.files.kept l (fun _ _=>id)) ak HF.o ae;have I:Hid (∀X,Ara W0 X→X.cell? ⟨pg,k,none⟩=some (x)∧X.cell? ⟨qb,5,none⟩=some (.string q5)∧X.cell? ⟨qb,2,none⟩=some (.int .i64 q2)):=fun X l=>⟨(l.cell (p:=⟨pg,k,none⟩) hpb id).trans c0,(l.cell (p:=⟨qb,5,none⟩) C id).trans d5,(l.cell (p:=⟨qb,2,none⟩) C id).trans d2⟩;have J:Hid (∀X,Ara W0 X→X.cell? ⟨pg,4+k,none⟩=some (.slice yo fs.length c)∧X.cell? ⟨qb,5,none⟩=some (.string q5)∧X.cell? ⟨qb,2,none⟩=some (.int .i64 q2)):=fun X l=>⟨(l.cell (p:=⟨pg,4+k,none⟩) hpb id).trans c1,(l.cell (p:=⟨qb,5,none⟩) C id).trans d5,(l.cell (p:=⟨qb,2,none⟩) C id).trans d2⟩;clear M;clear d2 d5 c0 c1;go_wp2_with fail;have s1:W0.drew.cell? ⟨pg,k,none⟩=some (x)∧W0.drew.cell? ⟨qb,5,none⟩=some (.string q5)∧W0.drew.cell? ⟨qb,2,none⟩=some (.int .i64 q2):=I.o _ (Aa.refl _ _).drew
 go_region_held(fun X=>X.cell? ⟨pg,k,none⟩=some (x)∧X.cell? ⟨qb,5,none⟩=some (.string q5)∧X.cell? ⟨qb,2,none⟩=some (.int .i64 q2)) (first|exact t1|exact s1)
  (first|(go_at_call 28;refine(HX.o _ (Aa.refl _ _).drew).mono ?_;rintro e w1 ⟨⟨vl,S,E,R,rfl,a5,n⟩,A⟩;have t1:w1.cell? ⟨pg,k,none⟩=some (x)∧w1.cell? ⟨qb,5,none⟩=some (.string q5)∧w1.cell? ⟨qb,2,none⟩=some (.int .i64 q2):=I.o _ ((Aa.refl (fun _=>False) W0).drew.trans A (fun _ _ h=>h))))
 obtain⟨lo,lc,hl,_⟩:=Aq n;subst hl;have g:Hid (Ara W0 w1∧(S,E)=(if decide (k=2)=true then([],9)else Ul fs q5.data.toList q2)):=⟨(Aa.refl (fun _=>False) W0).drew.trans A (fun _ _ h=>h),R⟩;have Q:Hid (Jc w1 lo S):=Jc.owns n;have HM:Hid (∀W,Ara w1 W→Calls prog 58 #[.slice lo S.length lc,.int .i64 (m:Nat)] W fun e w2=> ∃(r:Rec) (u:Nat→Value),e= .returned (.agg #[u 0,u 1,u 2,u 3,u 4,u 5,u 6,u 7,u 8,u 9,u 10,u 11,u 12])∧Hid (r.cells=[u 0,u 1,u 2,u 3,u 4,u 5,u 6,u 7,u 8,u 9,u 10,u 11,u 12]∧Ix w0 pg xs v rs w2 r)):=fun W l=>by
  have ho:=l.owns n (fun _ _=>id);have hk:=A.trans l (fun _ _ h=>h);exact(Aio _ _ m _ _ W ho hk.size (by omega) hm).mono fun e w2 h=>Ix.of (y.o.game.step (Aa.refl (fun _=>False) W0).drew (fun _ _=>id)) y.o.low y.o.eight hk ho h
 clear s1 t1 A R HX I n;go_wp2_with fail;have s2:w1.drew.cell? ⟨pg,4+k,none⟩=some (.slice yo fs.length c)∧w1.drew.cell? ⟨qb,5,none⟩=some (.string q5)∧w1.drew.cell? ⟨qb,2,none⟩=some (.int .i64 q2):=J.o _ g.o.1.drew
 go_region_held(fun X=>X.cell? ⟨pg,4+k,none⟩=some (.slice yo fs.length c)∧X.cell? ⟨qb,5,none⟩=some (.string q5)∧X.cell? ⟨qb,2,none⟩=some (.int .i64 q2)) (first|exact t2|exact s2)
  (first|(go_at_call 57;refine(HR.o _ g.o.1.drew).mono ?_;rintro e w2 ⟨⟨ap0,d0',S2,E2,F,ac,rfl⟩,j⟩;have t2:w2.cell? ⟨pg,4+k,none⟩=some (.slice yo fs.length c)∧w2.cell? ⟨qb,5,none⟩=some (.string q5)∧w2.cell? ⟨qb,2,none⟩=some (.int .i64 q2):=J.o _ (g.o.1.drew.trans j (fun _ _ h=>h))))
 have t:Hid (Ara w1 w2∧(S2,E2)=Ul fs q5.data.toList q2∧Jc w2 ap0 S2):=⟨(Aa.refl (fun _=>False) w1).drew.trans j (fun _ _ h=>h),F,ac⟩;clear s2 t2 j F ac HR J;go_upto_if 175 with fail
 go_cut[21,22]from 175 to 176 (fun v21 v22 wx=>(∃ap d,v21= .slice ap S.length d∧Hid (Jc w2 ap S))∧v22= .int .i64 E∧w2=wx)
 case first=>
  by_cases j:k=2
  ·have h1:=g.o.2;rw[if_pos (Ana j)]at h1;cases h1;subst j;go_wp2_with fail;go_meet
   case rel=>exact⟨⟨_,_,rfl,fun i hi=>by simp at hi⟩,rfl,rfl⟩
  ·have h1:=g.o.2;rw[if_neg (by simp[j])]at h1;cases h1.trans t.o.2.1.symm;have a9: ¬(k:Int)=2:=by omega
   clear h1;go_wp2_with fail;go_meet
   case rel=>exact⟨⟨_,_,rfl,t.o.2.2⟩,rfl,rfl⟩
 case rest=>
  obtain⟨⟨ap,d,rfl,P⟩,rfl,rfl⟩:=hcut;have O:Hid (Ara w1 w2∧pg<w2.heap.size∧w2.cell? ⟨pg,8,none⟩=some v∧Jc w2 lo S):=by
   have Y:=g.o.1.trans t.o.1 (fun _ _ h=>h);exact⟨t.o.1,by have:=Y.size;omega,(Y.cell (p:=⟨pg,8,none⟩) hpb id).trans (y.o.game.all y.o.eight),Q.o.kept t.o.1 (fun _ _=>id)⟩
  clear g t Q;go_wp2_with fail
  go_loopw[9,23] (fun vb vi wr=> ∃i:Nat,i≤S.length∧vi= .int .i64 i∧vb= .bool true∧Hid (Ara w2 wr)) (fun _ vi _=>S.length-(intOf vi).toNat)
  case atStart=>exact⟨0,Ann _,rfl,rfl,Aa.refl _ _⟩
  case round=>
   obtain⟨i,a7,rfl,rfl,N⟩:=hrel
   by_cases aa:i<S.length
   ·have L:(i:Int)<(S.length:Int):=by omega
    have hd:decide ((i:Int)<(S.length:Int))=true:=Ana L;obtain⟨b,off,rfl,_,e1,e2⟩:=(O.o.2.2.2.kept N.o (fun _ _=>id)) i aa;obtain⟨b',off',rfl,_,f1,f2⟩:=(P.o.kept N.o (fun _ _=>id)) i aa;generalize S[i]=p at*;obtain⟨p1,p2⟩:=p;go_wp2_with fail;go_quiet(fail);go_wp2_with fail;go_roundw
    case rel=>exact⟨i+1,by omega,by go_num,by first|rfl|simp,N.o.drewN _⟩
    case measure=>simp[intOf];omega
   ·have L: ¬(i:Int)<(S.length:Int):=by omega
    have hd:decide ((i:Int)<(S.length:Int))=false:=Anc L;have HK:Hid (Ara w1 wr):=O.o.1.trans N.o (fun _ _ h=>h);have c88:=(N.o.cell (p:=⟨pg,8,none⟩) O.o.2.1 id).trans O.o.2.2.1;clear O P N;go_wp2_with fail;refine wp_region_any (by kernel_rfl) ?_
    change wpAny _ _ _ _ _ _ _ (World.drew _)
    refine tB 0 (.pointer (some ⟨pg,0,none⟩)) rfl (fun w=>by go_simp) ?_;refine tB 1 (.pointer (some ⟨pg,0,none⟩)) rfl (fun w=>by go_simp) ?_;refine tB 2 (.pointer (some ⟨pg,0,none⟩)) rfl (fun w=>by go_simp) ?_;refine tB 3 (.pointer (some ⟨pg,8,none⟩)) rfl (fun w=>by go_simp) ?_;refine tB 5 (.slice lo S.length lc) rfl (fun w=>by go_simp) ?_;refine tB 6 (.int .i64 (m:Nat)) rfl (fun w=>by go_simp) ?_;refine rC 4 7 rfl rfl (fun K hK=>?_) (fun K hK=>?_)
    focus
     go_simp;refine hK _ _ ?_;clear hK K;refine rB 7 rfl (fun K hK=>?_);go_simp;refine(HM.o _ HK.o.drew).mono ?_;rintro e w2 ⟨r,u,rfl,D⟩;refine hK _ _ ?_;clear hK K;refine rB 8 rfl (fun K hK=>?_);go_simp;refine hK _ _ ?_;clear hK K
    rotate_left
    focus
     go_simp;refine(HM.o _ HK.o.drew).mono ?_;rintro e w2 ⟨r,u,rfl,D⟩;refine hK _ _ ?_;clear hK K;have c82:=D.o.2.game.all D.o.2.eight;have c84:=(D.o.2.step ((Aa.refl _ _).alloc (.cells #[u 0,u 1,u 2,u 3,u 4,u 5,u 6,u 7,u 8,u 9,u 10,u 11,u 12] 122))).game.all D.o.2.eight;refine rC 4 8 rfl rfl (fun K hK=>?_) (fun K hK=>?_)
     focus
      go_simp;refine hK _ _ ?_;clear hK K;refine rB 8 rfl (fun K hK=>?_);go_simp;refine hK _ _ ?_;clear hK K
     rotate_left
     focus
      go_simp;refine hK _ _ ?_;clear hK K;refine rB 4 rfl (fun K hK=>?_);go_simp;refine hK _ _ ?_;clear hK K
    all_goals
     have H:=D.o.2.step ((Aa.refl _ _).alloc (.cells #[u 0,u 1,u 2,u 3,u 4,u 5,u 6,u 7,u 8,u 9,u 10,u 11,u 12] 122));refine rB 9 rfl (fun K hK=>?_);refine Mw _ rfl (.tmp 208) (.tmp 212) 55 rfl w0.heap.size 122 i0 _ 13 296 underlying55 hi an ao aq rfl (by decide) v rs.length (rs.flatMap Rec.cells) rfl H.game.owns ⟨w2.heap.size,0,none⟩ 1 1 [u 0,u 1,u 2,u 3,u 4,u 5,u 6,u 7,u 8,u 9,u 10,u 11,u 12] rfl rfl (Hq _) (by rw[←D.o.1];exact r.one) (by unfold maxLen;omega) (by omega) (by have:=H.game.kept.size;omega) ?_;intro v3 w3 B U ab;obtain⟨a3,c3,am,_⟩:=Aq B;subst am;rw[←D.o.1]at B;have HP:Hid _:=H.push B U ab;have c83:=HP.o.2.1;have f83:=HP.o.2.2;clear B U ab;refine hK _ _ ?_;clear hK K;refine tB 10 (.pointer (some ⟨pg,0,none⟩)) rfl (fun w=>by go_simp) ?_;refine tB 11 (.pointer (some ⟨pg,8,none⟩)) rfl (fun w=>by go_simp) ?_;refine rB 12 rfl (fun K hK=>?_);go_simp;refine hK _ _ ?_;clear hK K;refine wpAny_done (by kernel_rfl) ?_ _;have G:Hid _:=HP.o.1;clear HP c83 f83 c88;have ag:=(G.o).stay (by rw[Anf,List.length_singleton];omega);have aj:=(G.o).all y.o.eight;go_wp2_with fail;refine ag.mono ?_;rintro e wz ⟨rfl,Z⟩;clear ag aj;have HZ:Hid (Cv _ _ _ _ _ wz):=(G.o).step Z (fun _ _=>id);clear Z;go_wp2_with fail;go_ret;exact⟨rfl,_,_,HZ.o,by simp⟩
theorem Ad5(k:Nat)(w:World)(hk:k≤60):Calls prog 84 #[.int .i64 k] w fun e w'=>e= .returned (.int .i64 ((2^k:Nat):Int))∧w'=w:=by
 go_enter func84,ntmps84
 go_wp2
 go_loop [3,4] (fun p i=> ∃j:Nat,j≤k∧i= .int .i64 j∧p= .int .i64 ((2^j:Nat):Int)) (fun _ i=>k-(intOf i).toNat)
 case atStart=>exact⟨0,Ann _,rfl,rfl⟩
 case round=>
  obtain⟨j,h,rfl,rfl⟩:=hrel
  by_cases g:j<k
  ·have a:decide ((j:Int)<(k:Int))=true:=by simp;omega
   have hb:2^j≤1152921504606846976:=Ao9 (by omega) (show j≤60 by omega);have d:Hid (2^(j+1)=2*2^j):=by show _=_;rw[Aoz,Aqh]
   generalize b:2^j=y at*;clear b;go_wp2
   go_round
   case rel=>exact⟨j+1,by omega,by go_num,by rw[d.o];go_num⟩
   case measure=>simp[intOf];omega
  ·have a:decide ((j:Int)<(k:Int))=false:=by simp;omega
   have c:j=k:=by omega
   subst c;obtain⟨y,b⟩: ∃y:Nat,2^j=y:=⟨_,rfl⟩;have f:Hid (((2^j:Nat):Int)=(y:Int)):=by show _=_;rw[b]
   rw[b];clear b;go_wp2;go_ret;exact⟨by rw[←f.o];simp,rfl⟩
theorem Aip(m n:Nat)(w:World)(v:m≤1000)(hn:n≤6000):Calls prog 83 #[.int .i64 m,.int .i64 n] w fun e w'=>e= .returned (.int .i64 (Dw m n:Nat))∧w'=w:=by
 by_cases l:m=0
 ·subst l
  go_enter func83,ntmps83
  go_wp2;refine wp_loop_rounds 1 ?_;rw[rounds_succ];go_wp2;go_ret;exact⟨rfl,rfl⟩
 have c:Hid (Dw m n=Dy m n (14-0) 0):=by unfold Dw;rw[if_neg l];rfl
 generalize Dw m n=L at c⊢;have h1:1≤m:=by omega
 have s:decide (0<m)=true:=by simp;omega
 go_enter func83,ntmps83
 go_wp2
 go_loop [5,6] (fun i f=> ∃j:Nat,j≤12∧i= .int .i64 j∧f= .int .i64 ((m*2^(j+1):Nat):Int)∧m*2^j≤6000+m∧L=Dy m n (14-j) j) (fun i _=>14-(intOf i).toNat)
 case atStart=>exact⟨0,by omega,rfl,by simp;omega,by omega,c.o⟩
 case round=>
  clear c;obtain⟨j,u,rfl,rfl,t,q⟩:=hrel;have g:Hid (L=if m*2^(j+1)≤n then Dy m n (13-j) (j+1)else j):=by
   show _=_;rw[q,show 14-j=(13-j)+1 from by omega];rfl
  have e2:m*2^(j+1)=m*2^j*2:=by rw[Aoz,Aqn]
  have e3:m*2^(j+1+1)=m*2^(j+1)*2:=by rw[Aoz,Aqn]
  obtain⟨p,k⟩: ∃p:Nat,m*2^(j+1)=p:=⟨_,rfl⟩;rw[k]at g e2 e3⊢;have b:p≤n→j<12:=by
   intro a;rcases Aoq j 12 with h|h
   ·exact h
   ·have:j=12:=by omega
    subst this;have:1*2^13≤m*2^13:=Apa _ h1;omega
  have hpb:p≤14000:=by omega
  have d:Hid ((p≤n→j<12)∧m*2^(j+1+1)=p*2∧m*2^(j+1)=p):=⟨b,e3,k⟩;clear q t e2 e3 b k
  by_cases a:p≤n
  ·have hd:decide ((p:Int)≤(n:Int))=true:=by simp;omega
   go_wp2
   go_round
   case rel=>
    have r:=d.o.1 a;refine⟨j+1,by omega,by go_num,by rw[d.o.2.1];go_num,by rw[d.o.2.2];omega,?_⟩;rw[g.o,if_pos a];congr 1;omega
   case measure=>simp[intOf];omega
  ·have hd:decide ((p:Int)≤(n:Int))=false:=by simp;omega
   go_wp2;go_ret;refine⟨?_,rfl⟩;have:L=j:=by rw[g.o,if_neg a]
   rw[this];rfl
theorem Aj7(x j:Nat)(h1:x<2^j)(h2:j=0∨2^(j-1)≤x)(a:x<2^64)(b:j≤64):Lib.bitLen x=j:=by
 rcases h2 with rfl|h2
 ·have:x=0:=by simpa using h1
  subst this;rfl
 ·have d:=Lib.bitLen_le x j b h1;have e:=Lib.bitLen_shift (j-1) x h2 a;have c:j≠0:=by
   rintro rfl;have:x=0:=by simpa using h1
   subst this;simp at h2
  have hd:1≤x/2^(j-1):=(Nat.le_div_iff_mul_le (App _)).2 (by omega);have f:=Lib.bitLen_half (x/2^(j-1)) (by omega) (Aov (Apt _ _) a);omega
theorem Af1(n:Nat)(w:World)(hn:n≤10000):Calls prog 92 #[.int .i64 n] w fun e w'=>e= .returned (.int .i64 (Lib.bitLen (n/8):Nat))∧w'=w:=by
 obtain⟨x,k⟩: ∃x,n/8=x:=⟨_,rfl⟩;have p:x≤1250:=by omega
 have m:(n:Int)/8=(x:Int):=by omega
 rw[k];clear k
 go_enter func92,ntmps92
 go_wp2
 go_loop [3,4] (fun i f=> ∃j:Nat,j≤11∧i= .int .i64 j∧f= .int .i64 ((2^j:Nat):Int)∧(j=0∨2^(j-1)≤x)) (fun i _=>14-(intOf i).toNat)
 case atStart=>exact⟨0,by omega,rfl,rfl,.inl rfl⟩
 case round=>
  obtain⟨j,l,rfl,rfl,g⟩:=hrel;obtain⟨y,a⟩: ∃y:Nat,2^j=y:=⟨_,rfl⟩;have q:y≤2048:=by rw[←a];exact Ao9 (by omega) l
  have b:Hid (2^j=y∧(j=0∨2^(j-1)≤x)):=⟨a,g⟩;rw[a];clear a g
  by_cases c:y≤x
  ·have hd:decide ((y:Int)≤(x:Int))=true:=by simp;omega
   go_wp2
   go_round
   case rel=>
    have h1:=b.o.1;have d:j≤10:=by
     rcases Aoq j 11 with h|h
     ·omega
     ·have:2^11≤2^j:=Ao9 (by omega) h;omega
    refine⟨j+1,by omega,by go_num,?_,.inr (by rw[Ap1,h1];exact c)⟩;rw[Aoz,h1];go_num
   case measure=>simp[intOf];omega
  ·have hd:decide ((y:Int)≤(x:Int))=false:=by simp;omega
   go_wp2;go_ret;refine⟨?_,rfl⟩;rw[Aj7 x j (by rw[b.o.1];omega) b.o.2 (by omega) (by omega)];rfl
theorem Vk(a b:Nat)(c:a<4294967296)(hb:b<4294967296):bits .xor .i64 (a:Int) (b:Int)=((a^^^b:Nat):Int):=by
 have d:a^^^b<2^32:=Nat.xor_lt_two_pow (by omega) (by omega);have h1:(BitVec.ofInt 64 (a:Int)).toNat=a:=by rw[Aq2,BitVec.toNat_ofNat];exact Ao7 (by omega)
 have h2:(BitVec.ofInt 64 (b:Int)).toNat=b:=by rw[Aq2,BitVec.toNat_ofNat];exact Ao7 (by omega)
 show IntKind.i64.wrap ((BitVec.ofInt 64 (a:Int)^^^BitVec.ofInt 64 (b:Int)).toNat:Int)=_;rw[BitVec.toNat_xor,h1,h2,An9];omega
theorem Hm.Al0(r:Nat)(h:r<4294967296):r^^^4294967295=4294967295-r:=by
 apply Nat.eq_of_testBit_eq;intro i;rw[Nat.testBit_xor];have e:4294967295-r=2^32-(r+1):=by omega
 rw[e,Nat.testBit_two_pow_sub_succ (by omega),show 4294967295=2^32-1 from rfl,Nat.testBit_two_pow_sub_one]
 by_cases hi:i<32
 ·simp[hi]
 ·have:r.testBit i=false:=Nat.testBit_lt_two_pow (Aom h (show 2^32≤2^i from Ao9 (by omega) (by omega)));simp[hi,this]
theorem Aiq(s:ByteArray)(w:World)(hs:s.size≤1000000):Calls prog 48 #[.string s] w fun e w'=>e= .returned (.int .i64 (Hm.crc s.data.toList:Nat))∧w'=w:=by
 have h:s.data.toList.length=s.size:=by simp
 go_enter func48,ntmps48
 go_wp2
 go_loop [3,4] (fun c i=> ∃k:Nat,k≤s.size∧i= .int .i64 k∧c= .int .i64 (Fy (s.data.toList.take k):Nat)) (fun _ i=>s.size-(intOf i).toNat)
 case atStart=>exact⟨0,Ann _,rfl,rfl⟩
 case round=>
  obtain⟨k,hk,rfl,rfl⟩:=hrel;have d:=Tn (s.data.toList.take k)
  by_cases D:k<s.size
  ·obtain⟨y,z⟩: ∃y:Nat,s[k].toNat=y:=⟨_,rfl⟩;have B:y<256:=by rw[←z];exact UInt8.toNat_lt _
   have u:Hid (Fy (s.data.toList.take (k+1))=D8 8 (Fy (s.data.toList.take k)^^^y)):=by
    have:=U9 s.data.toList k (by omega);rw[show s.data.toList[k].toNat=y from by rw[←z];simp[ByteArray.getElem_eq_getElem_data]]at this;exact this
   generalize Fy (s.data.toList.take k)=r0 at d u⊢;have x:bits .xor .i64 (r0:Int) (y:Int)=((r0^^^y:Nat):Int):=Vk _ _ d (by omega);clear h;go_wp2
   go_loop [3,5] (fun c i=> ∃j:Nat,j≤8∧i= .int .i64 j∧c= .int .i64 (D8 j (r0^^^y):Nat)) (fun _ i=>8-(intOf i).toNat)
   case atStart=>exact⟨0,Ann _,rfl,rfl⟩
   case round=>
    obtain⟨j,E,rfl,rfl⟩:=hrel;have p:D8 j (r0^^^y)<4294967296:=P2 j (Mt d (by omega));have HS:Hid (D8 (j+1) (r0^^^y)=I8 (D8 j (r0^^^y))):=rfl
    by_cases v:j<8
    ·generalize D8 j (r0^^^y)=s0 at p HS⊢;have n:decide ((j:Int)<8)=true:=by simp;omega
     have q:bits .xor .i64 ((s0:Int)/2) 3988292384=((s0/2^^^3988292384:Nat):Int):=Vk (s0/2) 3988292384 (by omega) (by omega);have t:=Mt (a:=s0/2) (b:=3988292384) (by omega) (by omega)
     by_cases f:s0%2=1
     ·have m:(s0:Int)%2=1:=by omega
      have l:Hid (D8 (j+1) (r0^^^y)=s0/2^^^3988292384):=by show _=_;rw[HS.o,I8,if_pos f]
      go_wp2
      go_round
      case rel=>exact⟨j+1,by omega,by go_num,by rw[l.o]⟩
      case measure=>simp[intOf];omega
     ·have m:((s0:Int)%2==1)=false:=by rw[Aod];omega
      have l:Hid (D8 (j+1) (r0^^^y)=s0/2):=by show _=_;rw[HS.o,I8,if_neg f]
      clear q t;go_wp2
      go_round
      case rel=>exact⟨j+1,by omega,by go_num,by rw[l.o];go_num⟩
      case measure=>simp[intOf];omega
    ·have n:decide ((j:Int)<8)=false:=by simp;omega
     go_wp2
     go_round
     case rel=>
      obtain rfl:j=8:=by omega
      exact⟨k+1,by omega,by go_num,by rw[u.o]⟩
     case measure=>simp[intOf];omega
  ·have C:decide ((k:Int)<(s.size:Int))=false:=by simp;omega
   have g:s.data.toList.take k=s.data.toList:=An5 (by omega);rw[g]at d⊢;have A:Hid (Hm.crc s.data.toList=4294967295-Fy s.data.toList):=by
    show _=_;unfold Hm.crc;exact Al0 _ d
   generalize Fy s.data.toList=r at*;clear g h;go_wp2;go_ret;refine⟨?_,rfl⟩;rw[A.o,show((4294967295-r:Nat):Int)=4294967295-(r:Int)from by omega];rfl
namespace Hm
def Af(l:List Bool):Arc:=l.map fun b=>if b then 49 else 48
end Hm
theorem Rn(l:Arc)(b:UInt8):(⟨l.toArray⟩:ByteArray)++⟨#[b]⟩=⟨(l++[b]).toArray⟩:=by
 apply Aqg;simp[ByteArray.data_append]
theorem Sc(n k:Nat)(w:World)(hk:k≤60)(hn:n≤1000000):Calls prog 85 #[.int .i64 n,.int .i64 k] w fun e w'=>e= .returned (.string ⟨(Af (Aw n k)).toArray⟩)∧w'=w:=by
 go_enter func85,ntmps85
 go_wp2
 go_loop [0,5,6] (fun x s i=> ∃j:Nat,j≤k∧i= .int .i64 j∧x= .int .i64 ((n/2^j:Nat):Int)∧s= .string ⟨(Af (Aw n j)).toArray⟩) (fun _ _ i=>k-(intOf i).toNat)
 case atStart=>exact⟨0,Ann _,rfl,by simp,rfl⟩
 case round=>
  obtain⟨j,u,rfl,rfl,rfl⟩:=hrel;have t:n/2^j≤1000000:=Ant (Apt _ _) hn;have g:Hid (n/2^(j+1)=n/2^j/2):=by show _=_;rw[Aoz,Aqt]
  have f:(Af (Aw n j)).length=j:=by simp[Af,Do]
  have r: ¬9223372036854775807<(Af (Aw n j)).length+1:=by omega
  clear f
  by_cases q:j<k
  ·have b:decide ((j:Int)<(k:Int))=true:=by simp;omega
   generalize a:n/2^j=y at*
   by_cases hb:y%2=1
   ·have c:(y:Int)%2=1:=by omega
    have HS:Hid (Af (Aw n (j+1))=Af (Aw n j)++[49]):=by
     show _=_;rw[Ov,a,Af,Apk];simp[Af,hb]
    have p:Hid (n/2^j=y):=a;clear a;generalize Af (Aw n j)=l at*;go_wp2
    go_round
    case rel=>exact⟨j+1,by omega,by go_num,by rw[g.o];go_num,by rw[HS.o,Rn]⟩
    case measure=>simp[intOf];omega
   ·have c:((y:Int)%2==1)=false:=by rw[Aod];omega
    have HS:Hid (Af (Aw n (j+1))=Af (Aw n j)++[48]):=by
     show _=_;rw[Ov,a,Af,Apk];simp[Af,hb]
    have p:Hid (n/2^j=y):=a;clear a;generalize Af (Aw n j)=l at*;go_wp2
    go_round
    case rel=>exact⟨j+1,by omega,by go_num,by rw[g.o];go_num,by rw[HS.o,Rn]⟩
    case measure=>simp[intOf];omega
  ·have b:decide ((j:Int)<(k:Int))=false:=by simp;omega
   have d:j=k:=by omega
   subst d;generalize n/2^j=y at*;generalize h:Af (Aw n j)=l at*;have m:Hid (Af (Aw n j)=l):=h;clear h;go_wp2;go_ret;exact⟨by rw[m.o];rfl,rfl⟩
end Go.Proofs.YtegnkfdbmmndaaaGreat
