import Derived.Test.YtegnkfdbmmndaaaGreatJ21

set_option maxHeartbeats 8000000
namespace Go.Proofs.YtegnkfdbmmndaaaGreat
open Hm Go.Proofs.Tryz Go.RowKit
set_option maxRecDepth 100000 in
theorem Afh(ao:Arf)(c:Nat)(fs:Arb)(N:Nat)(w:World)(hf:Ba w ao fs)(cW: ∀a,ao=some a→a.block<w.heap.size)(hm:fs.length≤40)(cE: ∀f∈fs,f.1.size≤32)
  (hn:(Ac fs).length≤6000) (h0:0<N) (hE:Hm.Ends 32 (Hm.lnB (Hm.lens (Ac fs))) (Ae (Hm.lens (Ac fs))) N):
  Calls prog 51 #[.slice ao fs.length c] w fun e w'=> ∃ps:Ard,C5 (Ac fs) ps∧e= .returned (.string ⟨(K9 fs ps (D5 (Hm.lens (Ac fs)) N (Al (Ac fs) ps))).toArray⟩)∧Ara w w':=by
 have c1:=Aa2 ao c fs w hf hm hn;obtain⟨st,bD⟩: ∃st,st=(⟨(Ac fs).toArray⟩:ByteArray):=⟨_,rfl⟩;have dt:st.data.toList=Ac fs:=by rw[bD]
 have dN:st.size=(Ac fs).length:=by rw[bD];rfl
 rw[←bD]at c1;obtain⟨n,b7⟩: ∃n,n=(Ac fs).length:=⟨_,rfl⟩;rw[←b7]at hn dN;have hC:=I6 (Ac fs) (by omega);have cI:=O2 (Ac fs) (by omega);have cV: ∀e∈Bf fs,e≤n:=fun e he=>by rw[b7];exact Aju fs e he
 have H:Aside (Ba w ao fs∧(∀a,ao=some a→a.block<w.heap.size)∧(∀f∈fs,f.1.size≤32)∧st.data.toList=Ac fs∧n=(Ac fs).length∧Bu (Hm.lens (Ac fs))∧(∀b,b∈Ae (Hm.lens (Ac fs))↔b∈Ac fs)∧Hm.Ends 32 (Hm.lnB (Hm.lens (Ac fs))) (Ae (Hm.lens (Ac fs))) N∧ ∀e∈Bf fs,e≤n):=⟨hf,cW,cE,dt,b7,hC,cI,hE,cV⟩;clear hf cW cE dt b7 hC cI hE cV bD
 go_enter func51,ntmps51
 go_wp2_with fail;refine c1.mono ?_;rintro e w1 ⟨rfl,cS,cY⟩;clear c1;have du:=Akx st w1 (by omega);go_wp2_with fail;refine du.mono ?_;rintro e w2 ⟨ps,rfl,cm,di,c2⟩;clear du;have d:=cm.sorted;rw[H.o.2.2.2.1]at d;clear cm;have c3:=Afg st w2 (by omega);rw[H.o.2.2.2.1]at c3;have cT:=cS.kept c2 id;have cb:Ara w w2:=cY.trans c2 (fun _ _ h=>h);clear cY c2 cS;go_wp2_with fail;refine c3.mono ?_;rintro e w3 ⟨rfl,b3⟩;clear c3;have aP:=cT.kept b3 id;have bl:=di.kept b3 id;have V:=cb.trans b3 (fun _ _ h=>h);clear cb b3 cT di;obtain⟨L,bz⟩: ∃L,L=Hm.lens (Ac fs):=⟨_,rfl⟩;rw[←bz];have a3:Aside (L=Hm.lens (Ac fs)):=bz;have aH:L.length=256:=by rw[bz];exact H.o.2.2.2.2.2.1.len
 have U:(Ad L).toArray.size=256:=by rw[Bm,aH]
 have aI:=Fv L;have c8:Tryz.zeroCells139.size=(Ad L).toArray.size:=by rw[U,Kb,Bm,Ani]
 clear bz;obtain⟨arr,aJ⟩: ∃arr,arr=(Ad L).toArray:=⟨_,rfl⟩;rw[←aJ]at U aI c8⊢;have HA:Aside (arr=(Ad L).toArray∧arr.all (·.oneCell')=true∧Tryz.zeroCells139.size=arr.size):=⟨aJ,aI,c8⟩;clear aJ aI c8;have HP:Aside (IntRow w3 (w.heap.size+1) (Bf fs)∧IntRow w3 w1.heap.size ps∧Ara w w3∧C5 (Ac fs) ps):=⟨aP,bl,V,d⟩;clear aP bl V d
 go_wp2_with(first
  |(refine wpList_store_row _ rfl 139 _ _ rfl w3.heap.size 139 Tryz.zeroCells139 arr rfl rfl (Anj w3 _) (by rw[U];exact Cf) HA.o.2.2 HA.o.2.1 ?_;intro w4 a8 cZ))
 obtain⟨aP,bl,V,d⟩:=HP.o;have ar:Ara w3 w4:=((Aa.refl (fun _=>False) w3).alloc _).trans cZ (fun j h1 h2=>by omega);have cU:=aP.kept ar id;have bm:=bl.kept ar id;have Y:=V.trans ar (fun _ _ h=>h);clear aP bl V HP cZ ar;obtain⟨b6,cP⟩: ∃b,b=w3.heap.size:=⟨_,rfl⟩;rw[←cP]at a8⊢;clear cP;have aQ:=Ace Gk (some ⟨w.heap.size+1,0,none⟩) fs.length (Bf fs) n w4 cU.at (by rw[Ej];exact hm) hn H.o.2.2.2.2.2.2.2.2;rw[Ej]at aQ;obtain⟨EB,bx⟩: ∃EB,EB=B4 (Bf fs) n:=⟨_,rfl⟩;rw[←bx]at aQ;have cG:EB.length≤100000:=by
  rw[bx,L7,Ej];have h1:=Qa fs.length n hn;have h2:fs.length*Dw fs.length n≤40*12:=Aoj hm h1;have h3:n/2^Dw fs.length n≤n:=Apt _ _;omega
 obtain⟨sE,b9⟩: ∃sE,sE=(⟨(Ag EB).toArray⟩:ByteArray):=⟨_,rfl⟩;have ds:sE.size=(EB.length+7)/8:=by rw[b9];show(Ag EB).toArray.size=_;rw[Anq,Bi]
 rw[←b9]at aQ;have cs:Aside (EB=B4 (Bf fs) n∧sE=(⟨(Ag EB).toArray⟩:ByteArray)∧sE.size≤20000):=⟨bx,b9,by omega⟩;have HP:Aside (IntRow w4 w1.heap.size ps∧Ara w w4∧C5 (Ac fs) ps∧w4.heap[b6]?=some (.cells arr 139 (0,0))):=⟨bm,Y,d,a8⟩;clear bm Y d a8 cU bx cG b9 ds;generalize(Ag EB).length=lE at*;generalize Dw fs.length n=lw at*;refine aQ.mono ?_;rintro e w5 ⟨gE,dG,rfl,dK,b4⟩;clear aQ dG dK;obtain⟨bm,Y,d,a8⟩:=HP.o;have bn:=bm.kept b4 id;have Z:=Y.trans b4 (fun _ _ h=>h);have br:=b4.row a8 id;have cB:Aside (IntRow w5 w1.heap.size ps∧Ara w w5∧C5 (Ac fs) ps∧w5.heap[b6]?=some (.cells arr 139 (0,0))):=⟨bn,Z,d,br⟩;clear bm Y d a8 bn Z br HP b4;go_wp2_with fail;have D:(w5.alloc (.cells #[.string sE,.int .i64 (EB.length:Nat),.slice (some ⟨gE,0,none⟩) (lE+1) (lE+1),.int .i64 (fs.length:Nat),.int .i64 (lw:Nat)] 87)).cell? ⟨w5.heap.size,0,none⟩=some (.string sE):=Am7 _ _ 0 _ _ _ (Anj w5 _);have au:Ara w5 (w5.alloc (.cells #[.string sE,.int .i64 (EB.length:Nat),.slice (some ⟨gE,0,none⟩) (lE+1) (lE+1),.int .i64 (fs.length:Nat),.int .i64 (lw:Nat)] 87)):=(Aa.refl _ _).alloc _;generalize w5.alloc (.cells #[.string sE,.int .i64 (EB.length:Nat),.slice (some ⟨gE,0,none⟩) (lE+1) (lE+1),.int .i64 (fs.length:Nat),.int .i64 (lw:Nat)] 87)=w6 at*;obtain⟨bE,bX⟩: ∃b,b=w5.heap.size:=⟨_,rfl⟩;rw[←bX]at D⊢;clear bX;obtain⟨bn,Z,d,br⟩:=cB.o;have bo:=bn.kept au id;have aa:=Z.trans au (fun _ _ h=>h);have a9:=au.row br id;have G:=d.perm;have m:ps.length=n+1:=by have:=G.length_eq;rw[←H.o.2.2.2.2.1]at this;simpa using this
 have a6: ∀x∈ps,x≤n:=fun x hx=>by have:=G.subset hx;rw[←H.o.2.2.2.2.1]at this;have:=List.mem_range.1 this;omega
 have aM:=fun(X:World) (hX:IntRow X w1.heap.size ps)=>Ah2 w1.heap.size (n+1) st ps X hX (by omega) (by omega) (fun x hx=>by have:=a6 x hx;omega);rw[H.o.2.2.2.1,m]at aM;have b2:(Al (Ac fs) ps).length=n:=by rw[Gm G];exact H.o.2.2.2.2.1.symm
 have c0: ∀b∈Al (Ac fs) ps,b∈Ae L:=fun b hb=>by rw[a3.o];exact(H.o.2.2.2.2.2.2.1 b).2 (No G b hb)
 obtain⟨col,aN⟩: ∃col,col=Al (Ac fs) ps:=⟨_,rfl⟩;rw[←aN]at aM b2 c0;rw[b2]at aM;have bg:=fun(ca:Arf) (cc:Nat) (X:World) (hX:X.ownsRow 0 5 1 (.slice ca col.length cc) col.length (Ah col))=>Ac2 L N col ca cc X (by rw[a3.o];exact H.o.2.2.2.2.2.1) (by rw[a3.o];exact H.o.2.2.2.2.2.2.2.1) h0 hX (by omega) c0;rw[b2,←HA.o.1]at bg;obtain⟨tbits,A⟩: ∃x,x=Az (Hm.lnB L) (Bh L) (Ao (Hm.lnB L) (Ae L) (2*N)).1 col N:=⟨_,rfl⟩;have dw:tbits.length≤2000000:=by
  rw[A];have h1:=K3 (Hm.lnB L) (Bh L) (Ao (Hm.lnB L) (Ae L) (2*N)).1 col N;have h3:N≤255:=by have h4:=H.o.2.2.2.2.2.2.2.1.len;have h5:=H.o.2.2.2.2.2.2.2.1.few (2*N) (Ane _);omega
  have h2:N*col.length≤255*6000:=Aoj h3 (by omega);omega
 rw[←A]at bg;obtain⟨sT,bB⟩: ∃sT,sT=(⟨(Ag (tbits.map fun x=>decide (x=1))).toArray⟩:ByteArray):=⟨_,rfl⟩;have co:sT.size≤260000:=by rw[bB];show(Ag _).toArray.size≤_;rw[Anq,Bi,Anz];omega
 rw[←bB]at bg;have cD:Aside (sT=(⟨(Ag (D5 L N (Al (Ac fs) ps))).toArray⟩:ByteArray)∧sT.size≤260000):=⟨by rw[bB,A,aN];rfl,co⟩;have bv:Aside _:=bg;have cq:Aside _:=aM;have R:Aside (IntRow w6 w1.heap.size ps∧Ara w w6∧C5 (Ac fs) ps∧w6.cell? ⟨bE,0,none⟩=some (.string sE)∧w6.heap[b6]?=some (.cells arr 139 (0,0))∧ps.length=n+1∧ ∀x∈ps,x≤n):=⟨bo,aa,d,D,a9,m,a6⟩;clear bn Z d br bo aa D cB au G a6 m aM b2 c0 aN bg A bB dw co;generalize tbits.length=tl at*
 go_cut[8]from 11 (fun v8 wz=> ∃(tb:Nat) (TA:Array Value),v8= .pointer (some ⟨tb,0,none⟩)∧Aside (wz.heap[tb]?=some (.cells TA 96 (0,0))∧TA[0]?=some (.string sT)∧Ara w6 wz))
 case first=>
  refine Aph (S:=fun X=>X.heap[b6]?=some (.cells arr 139 (0,0))) (by kernel_rfl) ?_ (fun hHeld=>?_)
  ·exact a9
  refine tK 0 ⟨some 24,.move (.tmp 3),9,"archive.go:21",#[],none⟩ ?_ ?_ ?_
  rotate_left
  ·intro X cw;try dsimp only at cw
   go_simp
   with_reducible rfl
  simp only[Act.put,Am6,Am8,Am9]
  refine tK 1 ⟨some 25,.move (.tmp 5),64,"archive.go:21",#[],none⟩ ?_ ?_ ?_
  rotate_left
  ·intro X cw;try dsimp only at cw
   go_simp
   with_reducible rfl
  simp only[Act.put,Am6,Am8,Am9]
  refine tK 3 ⟨some 27,.load 139 (.tmp 6),139,"archive.go:21",#[],none⟩ (.agg arr) (fun X hX => E7 X 139 (.tmp 6) rfl b6 rfl 139 arr (0, 0) _ hX underlying139 rfl (by rw [U]; exact Cf)) ?_
  simp only[Act.put,Am6,Am8,Am9];refine An1 (rs:=[2,5]) (by kernel_rfl) (by simp) ?_
  refine AllReadyH.cons (o := ⟨some 26,.call ⟨.value (.func 99),#[.tmp 24,.tmp 25],#[9,64]⟩,79,"archive.go:21",#[⟨0,.data⟩,⟨1,.data⟩],none⟩) rfl (fun K hK => ?_) (AllReadyH.cons (o := ⟨some 8,.alloc 96,0,"archive.go:21",#[],none⟩) rfl (fun K hK => ?_) AllReadyH.nil)
  ·go_simp;refine(cq.o _ (R.o.1.kept (Aa.refl (fun _=>False) w6).drew id)).mono ?_;rintro e wa ⟨vc,rfl,bj,a5⟩;have I:Ara w6 wa:=(Aa.refl (fun _=>False) w6).drew.trans a5 (fun _ _ h=>h);have q:=G5 bj;obtain⟨ca,cc,c6,_⟩:=Aq q;subst c6;refine hK.o _ _ (I.row R.o.2.2.2.2.1 id) (fun hHeld=>?_);clear hK K a5 bj;refine An1 (rs:=[4,5]) (by kernel_rfl) (by simp) ?_
   refine AllReadyH.cons (o := ⟨some 28,.call ⟨.value (.func 98),#[.tmp 26,.tmp 27],#[79,139]⟩,96,"archive.go:21",#[⟨2,.data⟩,⟨3,.data⟩,⟨2,.chain⟩],none⟩) rfl (fun K hK => ?_) (AllReadyH.cons (o := ⟨some 8,.alloc 96,0,"archive.go:21",#[],none⟩) rfl (fun K hK => ?_) AllReadyH.nil)
   ·go_simp;refine(bv.o ca cc wa q).mono ?_;rintro e wb ⟨g,v,ws,rfl,bs,bq,J⟩;have b5:Ara w6 wb:=I.trans J (fun _ _ h=>h);obtain⟨TA,i⟩: ∃TA,TA=(Ay sT tl g (A6 L) v ws n).toArray:=⟨_,rfl⟩;have B:TA.size=773:=by rw[i,Anq,Cm sT tl g (A6 L) v ws n (A4 _ _ _ _) bs]
    have T:TA.all (·.oneCell')=true:=by rw[i];exact Ei sT tl g n (A6 L) v ws bq
    have t:TA[0]?=some (.string sT):=by rw[i,Anw];rfl
    rw[←i];clear i;refine hK.o _ _ (b5.row R.o.2.2.2.2.1 id) (fun hHeld=>?_);clear hK K J;refine An1 (rs:=[5]) (by kernel_rfl) (by simp) ?_
    refine AllReadyH.cons (o := ⟨some 8,.alloc 96,0,"archive.go:21",#[],none⟩) rfl (fun K hK => ?_) AllReadyH.nil
    go_simp;have E:Ara w6 (wb.alloc (.cells Tryz.zeroCells96 96)):=b5.alloc _;have a7:=Anj wb (.cells Tryz.zeroCells96 96);have dx:w6.heap.size≤wb.heap.size:=b5.size;refine hK.o _ _ (E.row R.o.2.2.2.2.1 id) (fun hHeld=>?_);clear hK K b5 I q;generalize wb.alloc (.cells Tryz.zeroCells96 96)=X at*;generalize wb.heap.size=tb at*;have y:TA.size=773:=B;refine An1 (rs:=[6]) (by kernel_rfl) (by simp) ?_
    refine AllReadyH.cons (o := ⟨none,.store 96 (.tmp 8) (.tmp 28),0,"archive.go:21",#[⟨5,.data⟩,⟨4,.data⟩,⟨4,.chain⟩,⟨0,.phase⟩,⟨1,.phase⟩,⟨2,.phase⟩,⟨3,.phase⟩,⟨4,.phase⟩,⟨5,.phase⟩],none⟩) rfl (fun K hK => ?_) AllReadyH.nil
    refine B9 X (op := ⟨none,.store 96 (.tmp 8) (.tmp 28),0,"archive.go:21",#[⟨5,.data⟩,⟨4,.data⟩,⟨4,.chain⟩,⟨0,.phase⟩,⟨1,.phase⟩,⟨2,.phase⟩,⟨3,.phase⟩,⟨4,.phase⟩,⟨5,.phase⟩],none⟩) rfl 96 (.tmp 8) (.tmp 28) rfl tb 96 Tryz.zeroCells96 TA rfl rfl a7 (by rw [y]; exact Ca) (by rw [y]; exact Ge) T ?_
    intro wz bt ad;have bV:b6<w6.heap.size:=Anu R.o.2.2.2.2.1;refine hK.o _ _ (ad.row (E.row R.o.2.2.2.2.1 id) (by omega)) (fun hHeld=>?_);clear hK K;refine Apn (by kernel_rfl) ?_ _;have H4:Aside (wz.heap[tb]?=some (.cells TA 96 (0,0))∧TA[0]?=some (.string sT)∧Ara w6 wz):=⟨bt,t,E.trans ad (fun j h1 h2=>by omega)⟩;go_wp2_with fail;go_meet
    case rel=>exact⟨tb,TA,rfl,H4⟩
   ·go_simp;have ac:Ara w6 (wa.alloc (.cells Tryz.zeroCells96 96)):=I.alloc _;have ai:=Anj wa (.cells Tryz.zeroCells96 96);have dx:w6.heap.size≤wa.heap.size:=I.size;refine hK.o _ _ (ac.row R.o.2.2.2.2.1 id) (fun hHeld=>?_);clear hK K;refine An1 (rs:=[4]) (by kernel_rfl) (by simp) ?_
    refine AllReadyH.cons (o := ⟨some 28,.call ⟨.value (.func 98),#[.tmp 26,.tmp 27],#[79,139]⟩,96,"archive.go:21",#[⟨2,.data⟩,⟨3,.data⟩,⟨2,.chain⟩],none⟩) rfl (fun K hK => ?_) AllReadyH.nil
    go_simp;refine(bv.o ca cc _ (q.alloc _)).mono ?_;rintro e X ⟨g,v,ws,rfl,bs,bq,J⟩;have E:Ara w6 X:=ac.trans J (fun _ _ h=>h);have a7:=J.row ai id;obtain⟨TA,i⟩: ∃TA,TA=(Ay sT tl g (A6 L) v ws n).toArray:=⟨_,rfl⟩;have B:TA.size=773:=by rw[i,Anq,Cm sT tl g (A6 L) v ws n (A4 _ _ _ _) bs]
    have T:TA.all (·.oneCell')=true:=by rw[i];exact Ei sT tl g n (A6 L) v ws bq
    have t:TA[0]?=some (.string sT):=by rw[i,Anw];rfl
    rw[←i];clear i;refine hK.o _ _ (E.row R.o.2.2.2.2.1 id) (fun hHeld=>?_);clear hK K J ac ai I q;generalize wa.heap.size=tb at*;have y:TA.size=773:=B;refine An1 (rs:=[6]) (by kernel_rfl) (by simp) ?_
    refine AllReadyH.cons (o := ⟨none,.store 96 (.tmp 8) (.tmp 28),0,"archive.go:21",#[⟨5,.data⟩,⟨4,.data⟩,⟨4,.chain⟩,⟨0,.phase⟩,⟨1,.phase⟩,⟨2,.phase⟩,⟨3,.phase⟩,⟨4,.phase⟩,⟨5,.phase⟩],none⟩) rfl (fun K hK => ?_) AllReadyH.nil
    refine B9 X (op := ⟨none,.store 96 (.tmp 8) (.tmp 28),0,"archive.go:21",#[⟨5,.data⟩,⟨4,.data⟩,⟨4,.chain⟩,⟨0,.phase⟩,⟨1,.phase⟩,⟨2,.phase⟩,⟨3,.phase⟩,⟨4,.phase⟩,⟨5,.phase⟩],none⟩) rfl 96 (.tmp 8) (.tmp 28) rfl tb 96 Tryz.zeroCells96 TA rfl rfl a7 (by rw [y]; exact Ca) (by rw [y]; exact Ge) T ?_
    intro wz bt ad;have bV:b6<w6.heap.size:=Anu R.o.2.2.2.2.1;refine hK.o _ _ (ad.row (E.row R.o.2.2.2.2.1 id) (by omega)) (fun hHeld=>?_);clear hK K;refine Apn (by kernel_rfl) ?_ _;have H4:Aside (wz.heap[tb]?=some (.cells TA 96 (0,0))∧TA[0]?=some (.string sT)∧Ara w6 wz):=⟨bt,t,E.trans ad (fun j h1 h2=>by omega)⟩;go_wp2_with fail;go_meet
    case rel=>exact⟨tb,TA,rfl,H4⟩
  ·go_simp;have ac:Ara w6 (w6.alloc (.cells Tryz.zeroCells96 96)).drew:=((Aa.refl (fun _=>False) w6).alloc _).drew;have ai:(w6.alloc (.cells Tryz.zeroCells96 96)).drew.heap[w6.heap.size]?=some (.cells Tryz.zeroCells96 96 (0,0)):=Anj w6 _;refine hK.o _ _ (ac.row R.o.2.2.2.2.1 id) (fun hHeld=>?_);clear hK K;refine An1 (rs:=[2]) (by kernel_rfl) (by simp) ?_
   refine AllReadyH.cons (o := ⟨some 26,.call ⟨.value (.func 99),#[.tmp 24,.tmp 25],#[9,64]⟩,79,"archive.go:21",#[⟨0,.data⟩,⟨1,.data⟩],none⟩) rfl (fun K hK => ?_) AllReadyH.nil
   go_simp;refine(cq.o _ (R.o.1.kept ac id)).mono ?_;rintro e wa ⟨vc,rfl,bj,a5⟩;have I:Ara w6 wa:=ac.trans a5 (fun _ _ h=>h);have cp:=a5.row ai id;have q:=G5 bj;obtain⟨ca,cc,c6,_⟩:=Aq q;subst c6;refine hK.o _ _ (I.row R.o.2.2.2.2.1 id) (fun hHeld=>?_);clear hK K a5 bj ai ac;refine An1 (rs:=[4]) (by kernel_rfl) (by simp) ?_
   refine AllReadyH.cons (o := ⟨some 28,.call ⟨.value (.func 98),#[.tmp 26,.tmp 27],#[79,139]⟩,96,"archive.go:21",#[⟨2,.data⟩,⟨3,.data⟩,⟨2,.chain⟩],none⟩) rfl (fun K hK => ?_) AllReadyH.nil
   go_simp;refine(bv.o ca cc wa q).mono ?_;rintro e X ⟨g,v,ws,rfl,bs,bq,J⟩;have E:Ara w6 X:=I.trans J (fun _ _ h=>h);have a7:=J.row cp id;obtain⟨TA,i⟩: ∃TA,TA=(Ay sT tl g (A6 L) v ws n).toArray:=⟨_,rfl⟩;have B:TA.size=773:=by rw[i,Anq,Cm sT tl g (A6 L) v ws n (A4 _ _ _ _) bs]
   have T:TA.all (·.oneCell')=true:=by rw[i];exact Ei sT tl g n (A6 L) v ws bq
   have t:TA[0]?=some (.string sT):=by rw[i,Anw];rfl
   rw[←i];clear i;refine hK.o _ _ (E.row R.o.2.2.2.2.1 id) (fun hHeld=>?_);clear hK K J cp I q;obtain⟨tb,dv⟩: ∃tb,tb=w6.heap.size:=⟨_,rfl⟩;rw[←dv]at a7⊢;have dx:w6.heap.size≤tb:=by omega
   have y:TA.size=773:=B;refine An1 (rs:=[6]) (by kernel_rfl) (by simp) ?_
   refine AllReadyH.cons (o := ⟨none,.store 96 (.tmp 8) (.tmp 28),0,"archive.go:21",#[⟨5,.data⟩,⟨4,.data⟩,⟨4,.chain⟩,⟨0,.phase⟩,⟨1,.phase⟩,⟨2,.phase⟩,⟨3,.phase⟩,⟨4,.phase⟩,⟨5,.phase⟩],none⟩) rfl (fun K hK => ?_) AllReadyH.nil
   refine B9 X (op := ⟨none,.store 96 (.tmp 8) (.tmp 28),0,"archive.go:21",#[⟨5,.data⟩,⟨4,.data⟩,⟨4,.chain⟩,⟨0,.phase⟩,⟨1,.phase⟩,⟨2,.phase⟩,⟨3,.phase⟩,⟨4,.phase⟩,⟨5,.phase⟩],none⟩) rfl 96 (.tmp 8) (.tmp 28) rfl tb 96 Tryz.zeroCells96 TA rfl rfl a7 (by rw [y]; exact Ca) (by rw [y]; exact Ge) T ?_
   intro wz bt ad;have bV:b6<w6.heap.size:=Anu R.o.2.2.2.2.1;refine hK.o _ _ (ad.row (E.row R.o.2.2.2.2.1 id) (by omega)) (fun hHeld=>?_);clear hK K;refine Apn (by kernel_rfl) ?_ _;have H4:Aside (wz.heap[tb]?=some (.cells TA 96 (0,0))∧TA[0]?=some (.string sT)∧Ara w6 wz):=⟨bt,t,E.trans ad (fun j h1 h2=>by omega)⟩;go_wp2_with fail;go_meet
   case rel=>exact⟨tb,TA,rfl,H4⟩
 case rest=>
  obtain⟨tb,TA,rfl,H7⟩:=hcut;clear bv cq a9;obtain⟨d5,t,ab⟩:=H7.o;obtain⟨bo,aa,d,D,a9,m,a6⟩:=R.o;have c4:=bo.kept ab id;have cd:=aa.trans ab (fun _ _ h=>h);have d0:=ab.row a9 id;have bW:=(ab.cell (p:=⟨bE,0,none⟩) (Ank _ _ D) id).trans D;have bZ:wc.cell? ⟨tb,0,none⟩=some (.string sT):=(Am7 _ _ 0 _ _ _ d5).trans t;have bC:=Xe Gk O8 (some ⟨w1.heap.size,0,none⟩) (n+1) ps wc c4.at (by omega) (by omega) (fun x hx=>by have:=a6 x hx;omega);rw[m,Ap1]at bC;obtain⟨SB,b1⟩: ∃SB,SB=A7 ps:=⟨_,rfl⟩;have cK:SB.length≤100000:=by
   rw[b1,Fk (n:=n) (by have h2:=d.perm;rw[←H.o.2.2.2.2.1]at h2;exact h2)];have dD:Lib.bitLen (n/8)≤10:=Lib.bitLen_le _ 10 (by omega) (by omega);have:(n/8+1)*Lib.bitLen (n/8)≤751*10:=Aoj (by omega) dD;omega
  obtain⟨sS,bA⟩: ∃sS,sS=(⟨(Ag SB).toArray⟩:ByteArray):=⟨_,rfl⟩;have cn:sS.size≤20000:=by rw[bA];show(Ag SB).toArray.size≤_;rw[Anq,Bi];omega
  rw[←b1,←bA]at bC;have cu:Aside (SB=A7 ps∧sS=(⟨(Ag SB).toArray⟩:ByteArray)∧sS.size≤20000):=⟨b1,bA,cn⟩;have H8:Aside (IntRow wc w1.heap.size ps∧Ara w wc∧wc.cell? ⟨bE,0,none⟩=some (.string sE)∧wc.cell? ⟨tb,0,none⟩=some (.string sT)∧wc.heap[b6]?=some (.cells arr 139 (0,0))∧C5 (Ac fs) ps∧ps.length=n+1):=⟨c4,cd,bW,bZ,d0,d,m⟩;clear d5 t ab bo aa d D a9 m a6 c4 cd d0 bW bZ H7 R b1 cK bA cn;generalize(Ag SB).length=lS at*;generalize SB.length=lSB at*;go_wp2_with fail;refine bC.mono ?_;rintro e w12 ⟨gS,dH,rfl,dL,cf⟩;clear bC dH dL;have a4:Ara wc (w12.alloc (.cells #[.string sS,.int .i64 (lSB:Nat),.slice (some ⟨gS,0,none⟩) (lS+1) (lS+1),.int .i64 (n:Nat)] 100)):=cf.alloc _;have cy:(w12.alloc (.cells #[.string sS,.int .i64 (lSB:Nat),.slice (some ⟨gS,0,none⟩) (lS+1) (lS+1),.int .i64 (n:Nat)] 100)).cell? ⟨w12.heap.size,0,none⟩=some (.string sS):=Am7 _ _ 0 _ _ _ (Anj w12 _);go_upto_region 7 with fail
  generalize w12.alloc (.cells #[.string sS,.int .i64 (lSB:Nat),.slice (some ⟨gS,0,none⟩) (lS+1) (lS+1),.int .i64 (n:Nat)] 100)=W at*;obtain⟨bS,bY⟩: ∃b,b=w12.heap.size:=⟨_,rfl⟩;rw[←bY]at cy⊢;clear bY cf;obtain⟨dj,ce,aK,aL,d4,d,m⟩:=H8.o;have HB:Aside (IntRow W w1.heap.size ps∧Ara w W∧W.cell? ⟨bE,0,none⟩=some (.string sE)∧W.cell? ⟨tb,0,none⟩=some (.string sT)∧W.cell? ⟨bS,0,none⟩=some (.string sS)∧W.heap[b6]?=some (.cells arr 139 (0,0))∧C5 (Ac fs) ps∧ps.length=n+1):=
   ⟨dj.kept a4 id,ce.trans a4 (fun _ _ h=>h),(a4.cell (p:=⟨bE,0,none⟩) (Ank _ _ aK) id).trans aK,(a4.cell (p:=⟨tb,0,none⟩) (Ank _ _ aL) id).trans aL,cy,a4.row d4 id,d,m⟩
  clear dj ce aK aL d4 d m H8 a4 cy;obtain⟨i0,hi,bF,bG,bH⟩:=Aoo Fh;have kc:=fun(C:Array Value) (n c:Nat)=>Lib.run_convert_bytes_const (P:=prog) W 79 5 C n c underlying79 underlying5
  go_wp2_with(at_builtin;refine wpList_append_grows _ rfl (.tmp 33) (.tmp 37) 79 rfl 5 i0 (.int .u8 0) 1 1 underlying79 hi bF bG bH rfl (by decide) (some ⟨W.heap.size,0,none⟩) 6 6 [.int .u8 72,.int .u8 79,.int .u8 65,.int .u8 82,.int .u8 68,.int .u8 49] rfl (fun h=>by cases h) rfl ?d1 ⟨W.heap.size+1,0,none⟩ 1 1 [.int .u8 (fs.length:Int)] rfl rfl ?d2 ?d3 (by decide) (by unfold maxLen;decide) (by decide) ?_)
  case d1=>
   intro b hb j u M;cases hb;have hz:=Apb W (.cells #[.int .u8 72,.int .u8 79,.int .u8 65,.int .u8 82,.int .u8 68,.int .u8 49] 5 (6,7)) (.cells #[.int .u8 (fs.length:Int)] 5);rw[Addr.add_lit,An3,Am7 _ _ j _ _ _ hz];simpa using M
  case d2=>
   intro j u M;have hz:=Anj (W.alloc (.cells #[.int .u8 72,.int .u8 79,.int .u8 65,.int .u8 82,.int .u8 68,.int .u8 49] 5 (6,7))) (.cells #[.int .u8 (fs.length:Int)] 5);rw[show(W.alloc (.cells #[.int .u8 72,.int .u8 79,.int .u8 65,.int .u8 82,.int .u8 68,.int .u8 49] 5 (6,7))).heap.size=W.heap.size+1 from by simp]at hz;rw[Addr.add_lit,An3,Am7 _ _ j _ _ _ hz];simpa using M
  case d3=>intro u hu;simp at hu;subst hu;rfl
  intro v14 w14 bh aR;clear kc;have aZ:Ara W w14:=(((Aa.refl (fun _=>False) W).alloc _).alloc _).grown aR (fun k hk=>by cases hk);obtain⟨BB,aj⟩: ∃BB,BB=W.heap.size:=⟨_,rfl⟩;have cF:BB+1+1≤w14.heap.size:=by have:=aR.size;simp at this;omega
  obtain⟨bk,ak,am,ap,an,O,d,m⟩:=HB.o;have ej:w1.heap.size<BB:=by rw[aj];exact bk.lt
  have dV:b6<BB:=by rw[aj];exact Anu O
  have dW:bE<BB:=by rw[aj];exact Ank _ _ am
  have dY:tb<BB:=by rw[aj];exact Ank _ _ ap
  have dX:bS<BB:=by rw[aj];exact Ank _ _ an
  have ek:w.heap.size≤BB:=by rw[aj];exact ak.size
  have bP:Aa (fun j=>BB≤j) W w14:=aZ.wider (fun _ _ h=>h.elim);have Q:w14.ownsRow BB 5 1 v14 7 (Ah [72,79,65,82,68,49,UInt8.ofNat fs.length]):=by
   have e:Ah [72,79,65,82,68,49,UInt8.ofNat fs.length]=[.int .u8 72,.int .u8 79,.int .u8 65,.int .u8 82,.int .u8 68,.int .u8 49,.int .u8 (fs.length:Int)]:=by
    unfold Ah;simp only[Aos,Aqy];rw[Ss (by omega)];rfl
   rw[e];exact Gj bh (fun k hk=>by have:=bh.lt k hk;omega)
  have HK:Aside (∀X,Aa (fun j=>BB≤j) W X→IntRow X w1.heap.size ps∧Ara w X∧X.cell? ⟨bE,0,none⟩=some (.string sE)∧X.cell? ⟨tb,0,none⟩=some (.string sT)∧X.cell? ⟨bS,0,none⟩=some (.string sS)∧X.heap[b6]?=some (.cells arr 139 (0,0))):=fun X hX=>
   ⟨bk.kept hX (by omega),ak.trans hX (fun j h1 h2=>by omega),(hX.cell (p:=⟨bE,0,none⟩) (Ank _ _ am) (by show¬BB≤bE;omega)).trans am,(hX.cell (p:=⟨tb,0,none⟩) (Ank _ _ ap) (by show¬BB≤tb;omega)).trans ap,(hX.cell (p:=⟨bS,0,none⟩) (Ank _ _ an) (by show¬BB≤bS;omega)).trans an,hX.row O (by omega)⟩
  have bw:Aside (C5 (Ac fs) ps∧ps.length=n+1):=⟨d,m⟩;clear bk ak am ap an O d m HB bh aR aZ aj;generalize ba:[72,79,65,82,68,49,UInt8.ofNat fs.length]=l14 at Q;have bb:l14.length=7:=by rw[←ba];rfl
  have bI:Aside ([72,79,65,82,68,49,UInt8.ofNat fs.length]=l14):=ba;clear ba;have cL:=Lc BB v14 7 n 2 l14 w14 Q (by omega) (by omega) (by omega) (by omega);go_wp2_with fail;refine cL.mono ?_;rintro e w15 ⟨v15,rfl,bi,aV,da⟩;clear cL;have aB:Aa (fun j=>BB≤j) W w15:=bP.trans aV (fun j _ M=>(Q.lt j M).1);have dl:BB+1+1≤w15.heap.size:=by have:=aV.size;omega
  clear Q aV da bP cF;obtain⟨dk,dM⟩:=Kw (n:=n) (ps:=ps) (by have h2:=bw.o.1.perm;rw[←H.o.2.2.2.2.1]at h2;exact h2);have b8:=Ala w1.heap.size (n+1) ps w15 (HK.o w15 aB).1 (by have:=bw.o.2;omega);rw[dk,bw.o.2]at b8;obtain⟨r,hr⟩: ∃r,r=A8 ps:=⟨_,rfl⟩;rw[←hr]at b8 dM;have HR:Aside (r=A8 ps):=hr;have cM:=Lc BB v15 9 r 2 (l14++Hm.leBytes n 2) w15 bi (by omega) (by omega) (by omega) (by omega);clear dk hr;go_wp2_with fail;refine b8.mono ?_;rintro e w16 ⟨rfl,rfl⟩;clear b8;go_wp2_with fail;refine cM.mono ?_;rintro e w17 ⟨v17,rfl,ae,aW,db⟩;clear cM;have aC:Aa (fun j=>BB≤j) W w17:=aB.trans aW (fun j _ M=>(bi.lt j M).1);have dm:BB+1+1≤w17.heap.size:=by have:=aW.size;omega
  clear bi aW db aB dl;obtain⟨l17,av⟩: ∃l,l=l14++Hm.leBytes n 2++Hm.leBytes r 2:=⟨_,rfl⟩;rw[←av]at ae;have bc:l17.length=11:=by rw[av,Anf,Anf,bb,Dn,Dn]
  have bJ:Aside (l17=l14++Hm.leBytes n 2++Hm.leBytes r 2):=av;clear av bb;have cN:=Ab7 BB v17 11 c ao fs l17 w17 ae (by omega) (H.o.1.kept (HK.o w17 aC).2.1 (fun _ _=>id)) (fun a ha h=>by have h2:=(ae.lt _ h).1;have:=H.o.2.1 a ha;omega) hm H.o.2.2.1 (by omega);have dI:=Ka fs H.o.2.2.1;go_wp2_with fail;refine cN.mono ?_;rintro e w18 ⟨v18,rfl,a1,aX,dc⟩;clear cN;have aD:Aa (fun j=>BB≤j) W w18:=aC.trans aX (fun j _ M=>(ae.lt j M).1);have dn:BB+1+1≤w18.heap.size:=by have:=aX.size;omega
  clear ae aX dc aC dm;obtain⟨NB,b0⟩: ∃NB,NB=(Hm.nameBytes fs).length:=⟨_,rfl⟩;obtain⟨l18,aw⟩: ∃l,l=l17++Hm.nameBytes fs:=⟨_,rfl⟩;rw[←aw,←b0]at a1;rw[←b0]at dI;have bd:l18.length=11+NB:=by rw[aw,Anf,bc,b0]
  have bK:Aside (l18=l17++Hm.nameBytes fs):=aw;clear aw bc b0;have ci:=Kr bE 0 sE w18 (HK.o w18 aD).2.2.1;have ea:=cs.o.2.2;go_upto_region 13 with(first
   |(go_at_call 104;refine ci.mono ?_;rintro e w19 ⟨rfl,rfl⟩)
   |(at_builtin;refine Er _ rfl (.tmp 50) (.tmp 53) 79 9 rfl BB 5 i0 underlying79 underlying9 hi bF bG bH _ _ _ rfl a1 sE rfl (by unfold maxLen;omega) (by omega) (by omega) ?_;intro v20 w20 af aS dd _))
  have aE:Aa (fun j=>BB≤j) W w20:=aD.trans ((Aa.refl (fun j=>v18.ownBlock=some j) _).grown aS (fun k hk=> .inr hk)) (fun j _ M=>(a1.lt j M).1);have eb20:Ah l18++Lib.strCells sE=Ah (l18++sE.data.toList):=by simp[Ah,Lib.strCells]
  rw[eb20]at af;obtain⟨l20,ax⟩: ∃l,l=l18++sE.data.toList:=⟨_,rfl⟩;rw[←ax]at af;have be:l20.length=11+NB+sE.size:=by rw[ax,Anf,bd];simp
  have bL:Aside (l20=l18++sE.data.toList):=ax;have dp:BB+1+1≤w20.heap.size:=by have:=aS.size;omega
  clear a1 ax bd aS dd aD ci eb20 dn;have a2:=(HK.o w20 aE).2.2.2.2.2;have bu: ∀x∈L,x≤255:=fun x hx=>by
   obtain⟨k,hk,e⟩:=Aog hx;have h1:Bu L:=by rw[a3.o];exact H.o.2.2.2.2.2.1
   have:=h1.short (UInt8.ofNat k);have e1:(UInt8.ofNat k).toNat=k:=by rw[Aoa,Ao7 (by omega)]
   rw[Hm.lnB,e1,Am4,Am5 hk]at this;have e2:L[k]≤32:=this;omega
  have cx:=Yf BB v20 (11+NB+sE.size) l20 L w20 af (by omega) aH bu (by omega);rw[←HA.o.1]at cx;have cQ:(Ai L).length≤256:=Fw L 256
  go_wp2_with(first
   |(refine Aoh rfl 139 _ rfl b6 rfl 139 arr (0,0) _ a2 underlying139 rfl (by rw[U];exact Cf) ?_))
  refine cx.mono ?_;rintro e w21 ⟨v21,rfl,ag,aY,de⟩;clear cx a2 bu;have aF:Aa (fun j=>BB≤j) W w21:=aE.trans aY (fun j _ M=>(af.lt j M).1);have dq:BB+1+1≤w21.heap.size:=by have:=aY.size;omega
  obtain⟨cl,aq⟩: ∃cl,cl=(Ai L).length:=⟨_,rfl⟩;obtain⟨l21,ay⟩: ∃l,l=l20++Hm.leBytes (Ai L).length 2++Cc L (Ai L):=⟨_,rfl⟩;rw[←ay,←aq]at ag;rw[←aq]at cQ;have al:l21.length=11+NB+sE.size+2+2*cl:=by
   rw[ay,Anf,Anf,be,Dn,J3,aq]
  have bM:Aside (l21=l20++Hm.leBytes (Ai L).length 2++Cc L (Ai L)):=ay;clear af ay be aY de aE dp aq;obtain⟨N21,bT⟩: ∃x,x=11+NB+sE.size+2+2*cl:=⟨_,rfl⟩;rw[←bT]at ag al;have dB:N21≤30000:=by omega
  clear bT;have cj:=Kr tb 0 sT w21 (HK.o w21 aF).2.2.2.1;have ec:=cD.o.2;go_upto_region 15 with(first
   |(go_at_call 104;refine cj.mono ?_;rintro e w22 ⟨rfl,rfl⟩)
   |(at_builtin;refine Er _ rfl (.tmp 58) (.tmp 61) 79 9 rfl BB 5 i0 underlying79 underlying9 hi bF bG bH _ _ _ rfl ag sT rfl (by unfold maxLen;omega) (by omega) (by omega) ?_;intro v23 w23 ah aT df _))
  have aG:Aa (fun j=>BB≤j) W w23:=aF.trans ((Aa.refl (fun j=>v21.ownBlock=some j) _).grown aT (fun k hk=> .inr hk)) (fun j _ M=>(ag.lt j M).1);have eb23:Ah l21++Lib.strCells sT=Ah (l21++sT.data.toList):=by simp[Ah,Lib.strCells]
  rw[eb23]at ah;obtain⟨l23,az⟩: ∃l,l=l21++sT.data.toList:=⟨_,rfl⟩;rw[←az]at ah;have bf:l23.length=N21+sT.size:=by rw[az,Anf,al];simp
  have bN:Aside (l23=l21++sT.data.toList):=az;have dr:BB+1+1≤w23.heap.size:=by have:=aT.size;omega
  clear ag az al aT df aF cj eb23 dq;have ck:=Kr bS 0 sS w23 (HK.o w23 aG).2.2.2.2.1;have eb:=cu.o.2.2;go_upto_region 16 with(first
   |(go_at_call 104;refine ck.mono ?_;rintro e w24 ⟨rfl,rfl⟩)
   |(at_builtin;refine Er _ rfl (.tmp 63) (.tmp 66) 79 9 rfl BB 5 i0 underlying79 underlying9 hi bF bG bH _ _ _ rfl ah sS rfl (by unfold maxLen;omega) (by omega) (by omega) ?_;intro v25 w25 z aU dg _))
  have bQ:Aa (fun j=>BB≤j) W w25:=aG.trans ((Aa.refl (fun j=>v23.ownBlock=some j) _).grown aU (fun k hk=> .inr hk)) (fun j _ M=>(ah.lt j M).1);have eb25:Ah l23++Lib.strCells sS=Ah (l23++sS.data.toList):=by simp[Ah,Lib.strCells]
  rw[eb25]at z;obtain⟨l25,a0⟩: ∃l,l=l23++sS.data.toList:=⟨_,rfl⟩;rw[←a0]at z;have F:l25.length=N21+sT.size+sS.size:=by rw[a0,Anf,bf];simp
  have bO:Aside (l25=l23++sS.data.toList):=a0;have dZ:BB+1+1≤w25.heap.size:=by have:=aU.size;omega
  clear ah a0 bf aU dg aG ck eb25 dr;obtain⟨N25,bU⟩: ∃x,x=N21+sT.size+sS.size:=⟨_,rfl⟩;rw[←bU]at z F;have dC:N25≤400000:=by omega
  have cv:0<N25:=by
   have h1:=bO.o;have h2:=bN.o;have h3:=bM.o;have h4:=bL.o;have h5:=bK.o;have h6:=bJ.o;have h7:=bI.o;rw[←F,h1,h2,h3,h4,h5,h6,←h7];simp
  clear bU;obtain⟨g25,c25,dy,_,_⟩:=Ck z cv;subst dy;have c5:=Ago g25 0 N25 c25 l25 w25 F.symm (by omega) (fun j M=>by
   have cX:j<l25.length:=by omega
   rw[An3,z.cellAt j (by omega),Ah,An2,Am5 cX,Am4,Am5 cX];rfl)
  have cR:=To l25;obtain⟨cr,aO⟩: ∃cr,cr=Hm.crc l25:=⟨_,rfl⟩;rw[←aO]at c5 cR;have dA:Aside (cr=Hm.crc l25):=aO;have cO:=Lc BB _ N25 cr 4 l25 w25 z (by omega) cR (by omega) (by omega);have em:Aside (l25.length=N25):=F;clear aO F;go_wp2_with fail;refine c5.mono ?_;rintro e w26 ⟨rfl,dz⟩;subst dz;clear c5;go_wp2_with fail;refine cO.mono ?_;rintro e w27 ⟨v27,rfl,ch,cg,dh⟩;clear cO;have bR:Aa (fun j=>BB≤j) W w27:=bQ.trans cg (fun j _ M=>(z.lt j M).1);have dE:=Ii ch;have cH:Aside (Ara w w27):=(HK.o w27 bR).2.1;have cJ:Aside (l25++Hm.leBytes cr 4=K9 fs ps (D5 L N (Al (Ac fs) ps))):=by
   have cz:l25=Cz fs ps (D5 L N (Al (Ac fs) ps)):=by
    rw[bO.o,bN.o,bM.o,bL.o,bK.o,bJ.o,←bI.o,HR.o,cs.o.2.1,cs.o.1,cD.o.1,cu.o.2.1,cu.o.1,H.o.2.2.2.2.1];unfold Cz;rw[←a3.o]
   show _=_;unfold K9;rw[←cz,dA.o]
  obtain⟨s27,bp⟩: ∃s,s=(⟨(l25++Hm.leBytes cr 4).toArray⟩:ByteArray):=⟨_,rfl⟩;rw[←bp]at dE;have cC:Aside (s27=(⟨(l25++Hm.leBytes cr 4).toArray⟩:ByteArray)):=bp;clear z ch bQ bR cg dh bp;go_wp2;go_ret;refine⟨ps,bw.o.1,?_,cH.o⟩;rw[←a3.o,←cJ.o,←cC.o];rfl
namespace Hm
theorem Zx: ∀(fs:Arb) (ah:ByteArray) (tot:Nat),Gc ah tot fs=0→(∀f∈fs,f.1.size≤32∧f.2.size≤3000)∧tot+(Ac fs).length≤6000
 |[],ah,tot,h=>by
  unfold Gc at h;split at h
  ·omega
  ·exact⟨fun f b=>(by simp at b),by simp[Ac];omega⟩
 |f::r,ah,tot,h=>by
  rw[Gc]at h;split at h
  ·rename_i h1;have h2:=Tp h1;obtain⟨a,d⟩:=Zx r f.1 (tot+f.2.size) h;refine⟨fun g c=>?_,?_⟩
   ·rcases List.mem_cons.1 c with e|e
    ·subst e;exact⟨h2.2.1,h2.1⟩
    ·exact a g e
   ·have e:(Ac (f::r)).length=f.2.size+(Ac r).length:=by
     unfold Ac;rw[Aoe,Anf];simp
    omega
  ·omega
theorem Li{fs:Arb}(h:Cq fs=0):fs.length≤40∧(∀f∈fs,f.1.size≤32∧f.2.size≤3000)∧(Ac fs).length≤6000:=by
 unfold Cq at h;split at h
 ·omega
 ·have:=Zx fs _ 0 h;exact⟨by omega,this.1,by omega⟩
structure Ia(fs:Arb)(s:Arc):Prop where
 is: ∃ps N,C5 (Ac fs) ps∧0<N∧Ends 32 (lnB (lens (Ac fs))) (Ae (lens (Ac fs))) N∧s=K9 fs ps (D5 (lens (Ac fs)) N (Al (Ac fs) ps))
def Ade(fs:Arb)(e:Ending):Prop:=
 (Cq fs≠0∧e= .returned (.tuple #[.string ⟨#[]⟩,.int .i64 (Cq fs)]))∨(Cq fs=0∧ ∃s:Arc,Ia fs s∧e= .returned (.tuple #[.string ⟨s.toArray⟩,.int .i64 0]))
end Hm
theorem Alc(ao:Arf)(c:Nat)(fs:Arb)(w:World)(k:Ba w ao fs)(i: ∀a,ao=some a→a.block<w.heap.size)(y:fs.length≤140737488355328)(j: ∀f∈fs,f.1.size≤140737488355328∧f.2.size≤140737488355328):
  Calls prog 20 #[.slice ao fs.length c] w fun e w'=>Ade fs e∧Ara w w':=by
 have b:=Ajw ao c fs w k y j
 by_cases d:Cq fs=0
 ·obtain⟨B,n,hn⟩:=Li d;obtain⟨N,z,x⟩:=(I6 (Ac fs) hn).ends;have p:=fun W (hk:Ara w W)=>Afh ao c fs N W (k.kept hk (fun _ _=>id)) (fun a A=>by have:=i a A;have:=hk.size;omega) B (fun f k=>(n f k).1) hn z x;have l:Aside _:=p;have m:Aside (Cq fs=0∧0<N∧Hm.Ends 32 (Hm.lnB (Hm.lens (Ac fs))) (Ae (Hm.lens (Ac fs))) N):=⟨d,z,x⟩;rw[d]at b;clear k i j n hn x p d y
  go_enter func20,ntmps20
  go_wp2_with fail;refine b.mono ?_;rintro e w2 ⟨rfl,hk⟩;clear b;go_wp2_with fail;refine(l.o w2 hk).mono ?_;rintro e w3 ⟨ps,t,rfl,r⟩;have q:=hk.trans r (fun _ _ h=>h);obtain⟨s,hs⟩: ∃s,s=(⟨(K9 fs ps (D5 (Hm.lens (Ac fs)) N (Al (Ac fs) ps))).toArray⟩:ByteArray):=⟨_,rfl⟩;rw[←hs];have HS:Aside _:=hs;have v:Aside _:=t;clear hs r l t;go_wp2;go_ret2;exact⟨.inr ⟨m.o.1,_,⟨ps,N,v.o,m.o.2.1,m.o.2.2,rfl⟩,by rw[←HS.o];rfl⟩,q⟩
 ·have hb:(Cq fs !=0)=true:=by rw[bne_iff_ne];exact d
  have m:Aside (Cq fs≠0):=d;clear k i j d y;obtain⟨e0,g⟩: ∃e0,e0=Cq fs:=⟨_,rfl⟩;rw[←g]at b hb;have u:Aside (e0=Cq fs):=g;clear g
  go_enter func20,ntmps20
  go_wp2_with(go_at_call 50;refine b.mono ?_;rintro e w2 ⟨rfl,hk⟩)
  go_ret2;exact⟨.inl ⟨m.o,by rw[←u.o];rfl⟩,hk⟩
end Go.Proofs.YtegnkfdbmmndaaaGreat
namespace Go.Proofs.YtegnkfdbmmndaaaGreat
open Hm Go.Proofs.Tryz
namespace Hm
theorem N7(x:Nat): ∀k,Fe (leBytes x k)=x%256^k
 |0=>by simp[leBytes,Fe,Nat.mod_one]
 |k+1=>by
  rw[leBytes,Su,N7 x k,Dn,Nat.mod_pow_succ];have:Fe [UInt8.ofNat (x/256^k)]=x/256^k%256:=by simp[Fe]
  rw[this]
theorem Aa3(x k:Nat)(h:x<256^k):Fe (leBytes x k)=x:=by rw[N7,Ao7 h]
theorem Ps(a b:Arc)(k:Nat)(h:a.length=k):Bb (some (a++b)) k=(a,some b):=by
 subst h;rw[Gf (by rw[Anf];omega),Aqq,List.drop_left]
theorem Lj(x k:Nat)(b:Arc)(h:x<256^k):B5 (some (leBytes x k++b)) k=(x,some b):=by
 unfold B5;rw[Ps _ _ _ (Dn x k),Aa3 x k h]
theorem Vd(x:Nat):leBytes x 1=[UInt8.ofNat x]:=by simp[leBytes]
theorem Ve(fs:Arb)(b:Arc)(hs: ∀f∈fs,f.1.size≤32): ∀k,k≤fs.length→Au k (some (nameBytes fs++b))=((fs.take k).map (·.1),some (nameBytes (fs.drop k)++b))
 |0,_=>by simp[Au]
 |k+1,hk=>by
  have ih:=Ve fs b hs k (by omega);have a:k<fs.length:=by omega
  have c:=hs fs[k] (Anm a);have e:nameBytes (fs.drop k)=leBytes fs[k].1.size 1++(fs[k].1.data.toList++nameBytes (fs.drop (k+1))):=by
   rw[An7 a,Vd];unfold nameBytes;rw[Aoe];simp
  rw[Au,ih,e,An4,Lj _ _ _ (by omega),An4,Ps _ _ _ (by simp)];rw[Anh a,Apk];rfl
def Kg(L:Ard)(l:Arc):Ard:=(List.range 256).map fun j=>if UInt8.ofNat j∈l then L.getD j 0 else 0
theorem Jq(L:Ard)(l:Arc):(Kg L l).length=256:=by unfold Kg;rw[Anz,Apq]
theorem Afi(L:Ard)(l:Arc)(b:UInt8):(Kg L l).set b.toNat (L.getD b.toNat 0)=Kg L (l++[b]):=by
 apply Aon (by rw[Aou,Jq,Jq]);intro j h1 h2;rw[Jq]at h2;rw[Aql];unfold Kg;simp only[Aqb,List.getElem_range,Aq3,List.mem_singleton]
 by_cases e:b.toNat=j
 ·subst e;simp
 ·have: ¬UInt8.ofNat j=b:=fun x=>e (by rw[←x];simp;omega);rw[if_neg e];simp[this]
theorem Xn(L:Ard)(l b:Arc)(c: ∀x∈L,x≤255): ∀k,k≤l.length→Bt (some (Cc L l++b)) k=(Kg L (l.take k),some (Cc L (l.drop k)++b))
 |0,_=>by
  have:Kg L []=List.replicate 256 0:=by
   apply Aon (by rw[Jq,Ani]);intro j h1 h2;unfold Kg;simp only[Aqb,List.getElem_replicate,List.not_mem_nil,if_false]
  rw[Bt,List.take_zero,List.drop_zero,this]
 |k+1,hk=>by
  have ih:=Xn L l b c k (by omega);have a:k<l.length:=by omega
  have d:L.getD l[k].toNat 0≤255:=by
   rw[Am4];cases h:L[l[k].toNat]? with
   |none=>simp
   |some y=>exact c y (List.mem_of_getElem? h)
  have e:Cc L (l.drop k)=[l[k],UInt8.ofNat (L.getD l[k].toNat 0)]++Cc L (l.drop (k+1)):=by
   rw[An7 a];rfl
  rw[Bt,ih,Ha];simp only;rw[e,An4,Ps _ _ 2 rfl];simp only[List.getD_cons_zero,Aq8];rw[Anh a,←Afi];simp only[Prod.mk.injEq,and_true];congr 1;rw[Aoa];omega
end Hm
namespace Hm
theorem Adf(L:Ard)(j:Nat)(b:j<256):UInt8.ofNat j∈Ai L↔0<L.getD j 0:=by
 unfold Ai Bs;rw[List.mem_map];constructor
 ·rintro⟨i,hi,e⟩;obtain⟨h1,h2⟩:=List.mem_filter.1 hi;have a:=List.mem_range.1 h1;have e2:=congrArg UInt8.toNat e;rw[Aoa,Aoa,Ao7 (by omega),Ao7 (by omega)]at e2;subst e2;exact Aoc h2
 ·intro h;exact⟨j,List.mem_filter.2 ⟨List.mem_range.2 b,Ana h⟩,rfl⟩
theorem Ah4(L:Ard)(l:Arc)(j:Nat)(a:j<256):(Kg L l)[j]?=some (if UInt8.ofNat j∈l then L.getD j 0 else 0):=by
 unfold Kg;rw[An2,Ao2 a];rfl
theorem Adg(L:Ard)(c:L.length=256):Kg L (Ai L)=L:=by
 apply List.ext_getElem?;intro j
 by_cases a:j<256
 ·have b:=Adf L j a;have e:L.getD j 0=L[j]:=by rw[Am4,Am5 (by omega)];rfl
  rw[Ah4 L _ j a,Am5 (by omega),←e];split
  ·rfl
  ·rename_i hn;rw[b]at hn;rw[show L.getD j 0=0 by omega]
 ·rw[Anx (by rw[Jq];omega),Anx (by omega)]
theorem Agp(L:Ard)(b:Arc)(a:L.length=256)(e: ∀x∈L,x≤255):rdL (some (leBytes (Ai L).length 2++(Cc L (Ai L)++b)))=(L,some b):=by
 have c:=Fw L 256;have d:(Ai L).length≤256:=c;unfold rdL;rw[Lj _ _ _ (by omega)];show Bt (some (Cc L (Ai L)++b)) (Ai L).length=_;rw[Xn L (Ai L) b e _ (Ane _),Aof,Apy,Adg L a];rfl
theorem Adh(fs:Arb)(n r:Nat)(X:Arc)(b:fs.length≤255)(hn:n<65536)(a:r≤n)(hs: ∀f∈fs,f.1.size≤32):
  let s:=[72,79,65,82,68,49,UInt8.ofNat fs.length]++(leBytes n 2++(leBytes r 2++(nameBytes fs++X)))
  (rdF s).1=fs.length∧(rdN s).1=n∧(rdR s).1=r∧rdM s=(fs.map (·.1),some X):=by
 intro s;have e0:s=[72,79,65,82,68,49]++(leBytes fs.length 1++(leBytes n 2++(leBytes r 2++(nameBytes fs++X)))):=by rw[Vd];rfl
 have e1:rdA s=some (leBytes fs.length 1++(leBytes n 2++(leBytes r 2++(nameBytes fs++X)))):=by
  unfold rdA;rw[e0,Ps _ _ 6 rfl,Aor];rfl
 have e2:rdF s=(fs.length,some (leBytes n 2++(leBytes r 2++(nameBytes fs++X)))):=by
  unfold rdF;rw[e1,Lj _ _ _ (by omega)]
 have e3:rdN s=(n,some (leBytes r 2++(nameBytes fs++X))):=by
  unfold rdN;rw[e2];exact Lj _ _ _ (by omega)
 have e4:rdR s=(r,some (nameBytes fs++X)):=by
  unfold rdR;rw[e3];exact Lj _ _ _ (by omega)
 have e5:rdB s=some (nameBytes fs++X):=by
  unfold rdB;rw[e4,e3];exact if_pos (Ana a)
 refine⟨by rw[e2],by rw[e3],by rw[e4],?_⟩;unfold rdM;rw[e2,e5];show Au fs.length _=_;rw[Ve fs X hs _ (Ane _),Aof,Apy];rfl
end Hm
namespace Hm
theorem Yz(f:Nat→Bool)(bs:List Bool)(h: ∀p,p<bs.length→f p=bs.getD p false): ∀q,q≤bs.length→rk f q=(bs.take q).countP id
 |0,_=>by simp[rk]
 |q+1,a=>by
  have ih:=Yz f bs h q (by omega);have e:rk f (q+1)=rk f q+(f q).toNat:=rfl;have h1:=h q (by omega);have e2:bs.take (q+1)=bs.take q++[bs.getD q false]:=by
   rw[List.take_add_one,Am4,Am5 (show q<bs.length by omega)];rfl
  rw[e,e2,Apd,←ih,h1];cases bs.getD q false<;>rfl
theorem Tq(n:Nat):(List.range (n+1)).countP (fun p=>decide (p%8=0))=n/8+1:=by
 induction n with
 |zero=>rfl
 |succ n ih=>
  rw[Apu,Apd,ih,Aox,Aq5]
  by_cases h:(n+1)%8=0
  ·rw[Ana h];simp;omega
  ·rw[Anc h];simp;omega
theorem Lk(bits:List Bool):(Ag bits).length=szB bits.length:=Bi bits
theorem Xo{n:Nat}{ps:Ard}(h:ps.Perm (List.range (n+1)))(X:Arc):G1 (Ag (A7 ps)++X) n∧(Ag (A7 ps)++X).drop (szB (An n))=X:=by
 have c:ps.length=n+1:=by have:=h.length_eq;simpa using this
 have b:ps.countP (fun p=>decide (p%8=0))=n/8+1:=by rw[h.countP_eq,Tq]
 have hs:(A7 ps).length=An n:=Fk h;have a:(Ag (A7 ps)).length=szB (An n):=by rw[Lk,hs]
 have ht:(Ag (A7 ps)++X).take (szB (An n))=Ag (A7 ps):=by rw[←a,Aqq]
 refine⟨⟨by rw[Anf];omega,?_⟩,by rw[←a,List.drop_left]⟩;rw[ht,Yz _ (A7 ps) (fun p _=>Nb _ p) (n+1) (by rw[hs];unfold An;omega)];unfold A7;rw[List.take_left' (by rw[Anz,c]),List.countP_map,←b];rfl
end Hm
namespace Hm
theorem Ia.unique{fs:Arb}(hn:(Ac fs).length≤6000){s s':Arc}(h:Ia fs s)(n:Ia fs s'):s=s':=by
 obtain⟨ps,N,c,_,f,rfl⟩:=h.is;obtain⟨ps',N',d,_,g,rfl⟩:=n.is;obtain rfl:=c.unique d;have a:=I6 (Ac fs) hn;have i: ∀b∈Al (Ac fs) ps,b∈Ae (lens (Ac fs)):=fun b hb=>(O2 _ hn b).2 (No c.perm b hb)
 by_cases k:Ae (lens (Ac fs))=[]
 ·have o:Al (Ac fs) ps=[]:=by
   cases e:Al (Ac fs) ps with
   |nil=>rfl
   |cons b r=>have:=i b (by rw[e];exact Anl ..);rw[k]at this;simp at this
  rw[o];unfold D5;rw[Iv,Iv]
 ·have l:=f.nodes.heads a.numk (fun j m=>f.side0 k j (by rw[f.len]at m;exact m)) a.num_lt (fun b hb=>(a.mem b).2 hb);rw[Pd a f i l,Pd a g i l]
theorem Q9{n:Nat}{ps:Ard}(h:ps.Perm (List.range (n+1)))(i:Nat)(hi:i<ps.length):ps[i]=0↔i=A8 ps:=by
 have b:ps.Nodup:=h.symm.nodup List.nodup_range;have a:0∈ps:=h.symm.subset (by simp);have d:A8 ps<ps.length:=List.findIdx_lt_length_of_exists ⟨0,a,by simp⟩;have f:ps[A8 ps]=0:=by
  have:=List.findIdx_getElem (p:=fun x:Nat=>x==0) (xs:=ps) (w:=d);exact eq_of_beq this
 constructor
 ·intro e;have g:=List.pairwise_iff_getElem.1 (List.nodup_iff_pairwise_ne.1 b);rcases Aop i (A8 ps)with c|c|c
  ·exact absurd (e.trans f.symm) (g i _ hi d c)
  ·exact c
  ·exact absurd (f.trans e.symm) (g _ i d hi c)
 ·rintro rfl;exact f
end Hm
namespace Hm
theorem Ajx{L:Ard}{N N':Nat}{col:Arc}(a:Bu L)(c:Ends 32 (lnB L) (Ae L) N)(d:Ends 32 (lnB L) (Ae L) N')(f: ∀b∈col,b∈Ae L):D5 L N col=D5 L N' col:=by
 by_cases g:Ae L=[]
 ·have k:col=[]:=by
   cases e:col with
   |nil=>rfl
   |cons b r=>have:=f b (by rw[e];exact Anl ..);rw[g]at this;simp at this
  rw[k];unfold D5;rw[Iv,Iv]
 ·have h:=c.nodes.heads a.numk (fun j i=>c.side0 g j (by rw[c.len]at i;exact i)) a.num_lt (fun b hb=>(a.mem b).2 hb);rw[Pd a c f h,Pd a d f h]
section
variable {M:Nat} {ln num:UInt8→Nat} {o:Arc} {nds:List Nd}
theorem Tr(h:Bo M ln o nds)(b:UInt8): ∀k,k≤nds.length→ ∀d,(∀j,j<k→D9 ln num (Ab nds j) b=true→(Ab nds j).depth<d)→(List.range k).countP (fun j=>D9 ln num (Ab nds j) b)≤d
 |0,_,d,_=>Ann _
 |k+1,hk,d,hd=>by
  rw[Apu,Apd,Aox,Aq5]
  by_cases e:D9 ln num (Ab nds k) b=true
  ·have h1:=hd k (by omega) e;have h2:=Tr h b k (by omega) (Ab nds k).depth (fun j f a=>by
    have hs:=h.sorted j k f (by omega);have e1:=(Aoc a).2;have e2:=(Aoc e).2;rcases hs with c|⟨c1,c2⟩
    ·exact c
    ·rw[c1]at e1;omega)
   rw[if_pos e];omega
  ·have h2:=Tr h b k (by omega) d (fun j f a=>hd j (by omega) a);rw[if_neg e];omega
theorem Ts(ln num:UInt8→Nat)(nds:List Nd)(N B:Nat)(c: ∀b:UInt8,(List.range N).countP (fun j=>D9 ln num (Ab nds j) b)≤B): ∀col:Arc,(Az ln num nds col N).length≤col.length*B
 |[]=>by rw[Iv];simp
 |b::r=>by
  have ih:=Ts ln num nds N B c r;have hb:=c b;have key: ∀n,(Az ln num nds (b::r) n).length=(List.range n).countP (fun j=>D9 ln num (Ab nds j) b)+(Az ln num nds r n).length:=by
   intro n;induction n with
   |zero=>simp[Az]
   |succ n ih2=>
    rw[Fc,Fc,Anf,Anf,ih2,Apu,Apd,Aox,Aq5];unfold Hd Ap;rw[Anz,Anz,Ao3]
    by_cases a:D9 ln num (Ab nds n) b=true
    ·rw[if_pos a,if_pos a,An8];omega
    ·rw[if_neg a,if_neg a];omega
  rw[key,An8,Ape];omega
end
theorem Ald{L:Ard}(a:L.length=256)(b:UInt8):lnB L b≤Gx L:=by
 have hb:=b.toNat_lt;have e:lnB L b=L[b.toNat]:=by
  show L.getD b.toNat 0=_;rw[Am4,Am5 (by omega)];rfl
 rw[e];exact Uf L _ (Anm _)
theorem Ale{l:Arc}{n:Nat}{L:Ard}{st:Bl}{col:Arc}(h:E9 l n L st)(c3:Rep (lnB L) (Bh L) (Am (l.take (szB (E8 l n L)))) st.nds col)(c2: ∀b∈col,b∈Ae L):J2 (l.take (szB st.len)) st.nds col:=by
 obtain⟨d,i⟩:=h;obtain⟨u,o⟩:=O9 d;have g:=o.nodes;have e:=Kp i;have a:=Ng g d.nodup rfl (Ane _) i;have r:=J7 i;have m:=g.like e.1;have f:(Dr L).length=st.nds.length:=e.1.1.symm
 replace a:K5 (Am (l.take (szB (E8 l n L)))) n (Dr L).length st:=a
 rw[f]at a;have v:E8 l n L≤8*l.length:=Nat.min_le_left _ _;have t:st.len≤8*szB st.len:=by unfold szB;omega
 have k:(l.take (szB st.len)).length=szB st.len:=by rw[Anp];unfold szB;omega
 have fits: ∀j,j<st.nds.length→(Ab st.nds j).frm+(Ab st.nds j).siz≤st.len:=fun j c=>by
  rw[c3.frm j c,a.len];exact Pc st.nds (show j+1≤st.nds.length by omega)
 refine⟨32,lnB L,Bh L,Ae L,⟨c3.siz,c3.frm,fun j p c s=>?_⟩,m,d.numk,c2,d.pos,d.num_lt,fun j c=>?_⟩
 ·have q:=fits j c;rw[←c3.bit j p c s,Ke l _ _ (by omega),Ke l _ _ (by unfold szB;omega)]
 ·rw[k];have q:=fits j c;omega
theorem Adi{M M':Nat}{ln num ln' num':UInt8→Nat}{o o' l col col':Arc}{nds:List Nd}(h:Lr M ln num o l nds col)(b:Lr M' ln' num' o' l nds col'){a:Nat}: ∀d n q,nds.length-n≤d→Way ln num nds col a n q→Way ln' num' nds col' a n q→col.getD a 0=col'.getD a 0
 |0,n,q,hd,w,_=>by have:=w.lt;omega
 |d+1,n,q,hd,w,w'=>by
  obtain⟨u,r,i,g⟩:=w.step h.rep h.shp h.numk h.mem;obtain⟨u',p,f,c⟩:=w'.step b.rep b.shp b.numk b.mem;have e:u=u':=by
   rw[i]at f;have:=decide_eq_decide.1 f;omega
  subst e;rcases g with⟨b1,_⟩|⟨m,j,k,b1,w2⟩
  ·rcases c with⟨b2,_⟩|⟨m',_,_,b2,_⟩
   ·rw[b1]at b2;injection b2
   ·rw[b1]at b2;cases b2
  ·rcases c with⟨b2,_⟩|⟨m',_,_,b2,w2'⟩
   ·rw[b1]at b2;cases b2
   ·rw[b1]at b2;have em:m=m':=by injection b2
    subst em;exact Adi h b d m _ (by omega) w2 w2'
theorem J2.unique{l col col':Arc}{nds:List Nd}(h:J2 l nds col)(b:J2 l nds col')(c:col.length=col'.length):col=col':=by
 obtain⟨M,ln,num,o,h⟩:=h;obtain⟨M',ln',num',o',b⟩:=b;apply Aon c;intro a h1 h2;have e:=Adi h b _ 0 a (Ane _) (Way.start h.shp h.mem h.pos h.num h1) (Way.start b.shp b.mem b.pos b.num h2);rw[Am4,Am5 h1,Am4,Am5 h2]at e;exact e
theorem Xp{L:Ard}{N:Nat}{col:Arc}(d:Bu L)(o:Ends 32 (lnB L) (Ae L) N)(n: ∀b∈col,b∈Ae L)(X:Arc):
  ∃st,E9 (Ag (D5 L N col)++X) col.length L st∧szB st.len=(Ag (D5 L N col)).length∧J2 ((Ag (D5 L N col)++X).take (szB st.len)) st.nds col:=by
 obtain⟨r,a⟩:=O9 d;rw[Ajx d o a n];have e:(Dr L).length=G4 L:=a.len;have h:(D5 L (G4 L) col).length=(Az (lnB L) (Bh L) (Dr L) col (Dr L).length).length:=by
  unfold D5;rw[Anz,e];rfl
 have i:=Ts (lnB L) (Bh L) (Dr L) (Dr L).length (Gx L) (fun b=>by
  refine Ant (Tr a.nodes b _ (Ane _) (lnB L b) (fun j _ p=>(Aoc p).1)) (Ald d.len b)) col
 have c:(Az (lnB L) (Bh L) (Dr L) col (Dr L).length).length≤E8 (Ag (D5 L (G4 L) col)++X) col.length L:=by
  unfold E8;refine Nat.le_min.2 ⟨?_,i⟩;rw[Anf,Bi,h];omega
 obtain⟨st,q1,q2,q3,q4,-⟩:=Amc (f:=Am ((Ag (D5 L (G4 L) col)++X).take (szB (E8 (Ag (D5 L (G4 L) col)++X) col.length L)))) a.nodes d.nodup d.numk n d.pos d.num_lt (fun k hk=>by
  have q:k<(D5 L (G4 L) col).length:=by rw[h];exact hk
  rw[Ke _ _ _ (by unfold szB;have:=c;have g:k<(Az (lnB L) (Bh L) (Dr L) col (Dr L).length).length:=hk;omega)];have e1:Am (Ag (D5 L (G4 L) col)++X) k=Am (Ag (D5 L (G4 L) col)) k:=by
   rw[←Ke (Ag (D5 L (G4 L) col)++X) (Ag (D5 L (G4 L) col)).length k (by rw[Bi];omega),Aqq]
  rw[e1,Nb];unfold D5;rw[Am4,An2,a.len];have m:k<(Az (lnB L) (Bh L) (Ao (lnB L) (Ae L) (2*G4 L)).1 col (G4 L)).length:=by
   have g:k<(Az (lnB L) (Bh L) (Dr L) col (Dr L).length).length:=hk;rw[e]at g;exact g
  rw[Am4,Am5 m];rfl) c
 have q2':st.len=(Az (lnB L) (Bh L) (Dr L) col (Dr L).length).length:=q2;have l:E9 (Ag (D5 L (G4 L) col)++X) col.length L st:=⟨d,q1⟩;refine⟨st,l,by rw[Lk,h,q2'],Ale l q4 n⟩
end Hm
namespace Hm
theorem Agq(f:Nat→Bool)(a:Nat): ∀d,(∀p,a≤p→p<a+d→f p=false)→rk f (a+d)=rk f a
 |0,_=>rfl
 |d+1,h=>by
  have ih:=Agq f a d (fun p h1 h2=>h p h1 (by omega));have e:rk f (a+(d+1))=rk f (a+d)+(f (a+d)).toNat:=rfl;rw[e,ih,h (a+d) (by omega) (by omega)];rfl
theorem Ra(f:Nat→Bool)(a b:Nat)(c:a≤b)(h: ∀p,a≤p→p<b→f p=false):rk f b=rk f a:=by
 have:=Agq f a (b-a) (fun p h1 h2=>h p h1 (by omega));rwa[show a+(b-a)=b from by omega]at this
theorem Alf(f:Nat→Bool)(h len m:Nat)(pos:Nat→Nat)(b: ∀i j,i<j→j<m→pos i<pos j)(a: ∀i,i<m→h≤pos i∧pos i<len)(k:h≤len)(n: ∀p,h≤p→p<len→(f p=true↔ ∃i,i<m∧p=pos i)):
  (∀i,i<m→f (pos i)=true∧rk f (pos i)=rk f h+i)∧rk f len=rk f h+m:=by
 have d: ∀i,i<m→f (pos i)=true:=fun i hi=>(n _ (a i hi).1 (a i hi).2).2 ⟨i,hi,rfl⟩;have no: ∀p,h≤p→p<len→(∀i,i<m→p≠pos i)→f p=false:=fun p h1 h2 o=>by
  cases e:f p with
  |false=>rfl
  |true=>
   obtain⟨i,hi,e2⟩:=(n p h1 h2).1 e;exact absurd e2 (o i hi)
 have ranks: ∀i,i<m→rk f (pos i)=rk f h+i:=by
  intro i;induction i with
  |zero=>
   intro hi;have:=Ra f h (pos 0) (a 0 hi).1 (fun p h1 h2=>no p h1 (by have:=(a 0 hi).2;omega) (fun j g e=>by
    rcases Aqi j with c|c
    ·subst c;omega
    ·have:=b 0 j c g;omega))
   omega
  |succ i ih=>
   intro hi;have ih':=ih (by omega);have e:rk f (pos i+1)=rk f (pos i)+(f (pos i)).toNat:=rfl;rw[d i (by omega)]at e;have l:=b i (i+1) (by omega) hi;have:=Ra f (pos i+1) (pos (i+1)) l (fun p h1 h2=>no p (by have:=(a i (by omega)).1;omega) (by have:=(a (i+1) hi).2;omega) (fun j g e=>by
    rcases Aop j i with c|c|c
    ·have:=b j i c (by omega);omega
    ·subst c;omega
    ·by_cases c2:j=i+1
     ·subst c2;omega
     ·have:=b (i+1) j (by omega) g;omega))
   simp at e;omega
 refine⟨fun i hi=>⟨d i hi,ranks i hi⟩,?_⟩;rcases Aqi m with c|c
 ·subst c;have:=Ra f h len k (fun p h1 h2=>no p h1 h2 (fun i hi=>by omega));omega
 ·have q:=ranks (m-1) (by omega);have e:rk f (pos (m-1)+1)=rk f (pos (m-1))+(f (pos (m-1))).toNat:=rfl;rw[d (m-1) (by omega)]at e;have:=Ra f (pos (m-1)+1) len (a (m-1) (by omega)).2 (fun p h1 h2=>no p (by have:=(a (m-1) (by omega)).1;omega) h2 (fun j g e=>by
   by_cases c2:j=m-1
   ·subst c2;omega
   ·have:=b j (m-1) (by omega) (by omega);omega))
  simp at e;omega
theorem Aa4(l:List Bool)(q p:Nat)(a:q<l.length):(l.set q true).getD p false=(decide (p=q)||l.getD p false):=by
 rw[Am4,Am4,List.getElem?_set]
 by_cases e:q=p
 ·subst e;simp[a]
 ·rw[if_neg e,Anc (fun x=>e x.symm)];rfl
theorem Vf(es:Ard)(l h:Nat)(R:List Bool)(p:Nat): ∀k,(∀i,i<k→h+es.getD i 0/2^l+i<R.length)→(F5 es l h R k).getD p false=((List.range k).any (fun i=>decide (p=h+es.getD i 0/2^l+i))||R.getD p false)
 |0,_=>by simp[F5]
 |k+1,hk=>by
  rw[F5,Aa4 _ _ _ (by rw[Ks];exact hk k (by omega)),Vf es l h R p k (fun i hi=>hk i (by omega)),Apu,List.any_append];simp only[List.any_cons,List.any_nil,Bool.or_false];cases decide (p=h+es.getD k 0/2^l+k)<;>simp
theorem Rb(l:Nat): ∀(es:Ard) (i j:Nat),i<es.length→j<l→(Co es l).getD (i*l+j) false=decide (es.getD i 0/2^j%2=1)
 |[],i,j,hi,_=>by simp at hi
 |e::r,0,j,_,a=>by
  unfold Co;rw[Aoe,Nat.zero_mul,An3,Am4,An6 (by rw[Do];exact a)];unfold Aw;rw[An2,Ao2 a];rfl
 |e::r,i+1,j,hi,a=>by
  have ih:=Rb l r i j (by simpa using hi) a;unfold Co at ih⊢;rw[Aoe,Am4,Ans (by rw[Do,Ape];omega),Do,show(i+1)*l+j-l=i*l+j from by rw[Ape];omega,←Am4,ih];rfl
theorem Tt(f:Nat→Bool)(a x:Nat): ∀k,(∀j,j<k→f (a+j)=decide (x/2^j%2=1))→Gg f a k=x%2^k
 |0,_=>by simp[Gg,Nat.mod_one]
 |k+1,h=>by
  rw[Gg,Tt f a x k (fun j b=>h j (by omega)),h k (by omega),Nat.mod_pow_succ];have:=Nat.mod_lt (x/2^k) (show 0<2 by omega);rcases(show x/2^k%2=0∨x/2^k%2=1 by omega)with e|e
  ·rw[e];simp
  ·rw[e];simp
end Hm
end Go.Proofs.YtegnkfdbmmndaaaGreat
