import Derived.Test.YtegnkfdbmmndaaaGreatJ17

set_option maxHeartbeats 8000000
namespace Go.Proofs.YtegnkfdbmmndaaaGreat
open Hm Go.Proofs.Tryz Go.RowKit
namespace Hm
noncomputable def G4(L:Ard):Nat:=Classical.epsilon fun N=>0<N∧Ends 32 (lnB L) (Ae L) N
theorem O9{L:Ard}(h:Bu L):0<G4 L∧Ends 32 (lnB L) (Ae L) (G4 L):=Classical.epsilon_spec (p:=fun N=>0<N∧Ends 32 (lnB L) (Ae L) N) h.ends
noncomputable def Dr(L:Ard):List Nd:=(Ao (lnB L) (Ae L) (2*G4 L)).1
def E8(l:Arc)(n:Nat)(L:Ard):Nat:=min (8*l.length) (n*Gx L)
def E9(l:Arc)(n:Nat)(L:Ard)(st:Bl):Prop:=Bu L∧Oq (Am (l.take (szB (E8 l n L)))) (E8 l n L) (Dr L) n (List.replicate 256 0)=some st
end Hm
theorem Ahn(x:Nat)(h:x<9223372036854775808):wrap64 (x:Int)=(x:Int):=by unfold wrap64;omega
theorem Ae1(x:Nat)(h:x<9223372036854775808):IntKind.i64.wrap (x:Int)=(x:Int):=by rw[An9];omega
theorem Pr{P:Program}{w:World}{ops:Array Oper}{rest:List Oper}{o:Oper}{a:Act}{Q:Exit→Act→World→Prop}(b:o.guard=none)(t:TypeId)(c:o.op= .build t #[])(cells:Array Value)(hb:P.built t []=some cells)
  (h:wpList P ops Q rest (a.put o.dst (.agg cells)) w):wpList P ops Q (o::rest) a w:=by
 refine wpList_plain b fun K hK=>?_;unfold Oper.wp;rw[O6 w t #[] c cells (by simpa using hb)];exact hK _ _ h
set_option maxRecDepth 100000 in
theorem Ac3(hones:Bd)(l:Arc)(n:Nat)(L:Ard)(w:World)(hn:n≤65535)(hL:L.length=256)(hx: ∀x∈L,x≤255)(ce:l.length≤281474976710656):
  Calls prog 118 #[.string ⟨l.toArray⟩,.int .i64 n,.agg (Ad L).toArray] w fun e w'=>Ara w w'∧
   ((∃st g ng nc,E9 l n L st∧w.heap.size≤g∧w.heap.size≤ng∧g≠ng∧e= .returned (.tuple #[.agg (Ay ⟨(l.take (Hm.szB st.len)).toArray⟩ st.len g (A6 L) (.slice (some ⟨ng,0,none⟩) st.nds.length nc) st.ws n).toArray,.bool true])∧st.ws.length=256∧
     IntRow w' g (B6 (l.take (Hm.szB st.len)))∧w'.ownsRow 0 195 9 (.slice (some ⟨ng,0,none⟩) st.nds.length nc) st.nds.length (Be st.nds))∨
    ((∀st,¬E9 l n L st)∧e= .returned (.tuple #[.agg Tryz.zeroCells96,.bool false]))):=by
 have aX:=fun W=>Aas L W hL hx;have ao:=fun W=>U5 L W hL;obtain⟨arr,H⟩: ∃a,a=(Ad L).toArray:=⟨_,rfl⟩;have I:arr.size=256:=by rw[H,Bm,hL]
 obtain⟨S,hS⟩: ∃S,S=(⟨l.toArray⟩:ByteArray):=⟨_,rfl⟩;have hz:S.size=l.length:=by rw[hS];show l.toArray.size=_;simp
 obtain⟨W0,aj⟩: ∃W0,W0=(w.alloc (.cells arr 139)).alloc (.cells Tryz.zeroCells96 96):=⟨_,rfl⟩;have bo:Ara w W0:=by rw[aj];exact((Aa.refl _ _).alloc _).alloc _
 have aR:W0.heap[w.heap.size]?=some (.cells arr 139 (0,0)):=by rw[aj];exact Apb w _ _
 have bl:W0.heap[w.heap.size+1]?=some (.cells Tryz.zeroCells96 96 (0,0)):=by rw[aj];exact Apc w _ _
 have HW:Hid ((w.alloc (.cells arr 139)).alloc (.cells Tryz.zeroCells96 96)=W0):=aj.symm;rw[←H]at aX ao⊢;rw[←hS];have HA:Hid (arr=(Ad L).toArray∧S=(⟨l.toArray⟩:ByteArray)∧L.length=256∧(∀x∈L,x≤255)):=⟨H,hS,hL,hx⟩;have u:Tryz.zeroCells96.size=773:=Hp;have aY:Tryz.zeroCells96.all (·.oneCell')=true:=Tj;clear aj H hS hL hx
 go_enter func118,ntmps118
 go_upto_region 1 with fail
 rw[HW.o];clear HW
 go_wp2_with(first
  |(refine Aoh rfl 139 _ rfl w.heap.size rfl 139 arr (0,0) _ aR underlying139 rfl (by rw[I];exact Cf) ?_))
 refine(aX _).mono ?_;rintro e w1 ⟨b,rfl,hb,a5⟩;clear aX;have J:=a5.row aR id;have M:=a5.row bl id;have H1:Hid (Ara w w1∧w1.heap[w.heap.size]?=some (.cells arr 139 (0,0))∧w1.heap[w.heap.size+1]?=some (.cells Tryz.zeroCells96 96 (0,0))):=⟨bo.trans a5 (fun _ _ h=>h),J,M⟩;clear bo aR bl a5;cases b with
 |false=>
  have aO:Hid (∀st,¬E9 l n L st):=fun st h=>by have:=hb.2 h.1;cases this
  clear hb ao
  go_wp2_with(first
   |(refine Pr rfl 96 rfl Tryz.zeroCells96 Xd ?_)
   |(refine wpList_store_row _ rfl 96 _ _ rfl (w.heap.size+1) 96 _ Tryz.zeroCells96 rfl rfl M (by rw[u];exact Ca) rfl aY ?_;intro w9 az F))
  refine Aok (v:= .tuple #[.agg Tryz.zeroCells96,.bool false]) (Df results118 _ _ (w.heap.size+1) 96 _ (0,0) _ rfl az underlying96 rfl (by rw[u];exact Ca)) rfl ⟨H1.o.1.trans F (fun j h1 h2=>by omega),.inr ⟨aO.o,rfl⟩⟩
 |true=>
  have hC:Bu L:=hb.1 rfl;obtain⟨bg,hE⟩:=O9 hC;have aV:Gx L≤32:=by
   by_cases h:0<Gx L
   ·obtain⟨i,hi,he⟩:=Aog (Ug L h);have h1:=hC.short (UInt8.ofNat i);have h2:(UInt8.ofNat i).toNat=i:=by rw[Aoa];have:=HA.o.2.2.1;omega
    unfold Hm.lnB at h1;rwa[h2,Am4,Am5 hi,he]at h1
   ·omega
  have b8:E8 l n L≤2097120:=Ant (Nat.min_le_right _ _) (Aoj hn aV);have aU:Hm.szB (E8 l n L)≤l.length:=by
   have:=Nat.min_le_left (8*l.length) (n*Gx L);unfold Hm.szB E8;omega
  have a8:=fun W=>L3 l (E8 l n L) W aU (by omega) (by omega);rw[←HA.o.2.1]at a8;have a2:Hid (E8 l n L=min (8*l.length) (n*Gx L)):=rfl;obtain⟨mx,aH⟩: ∃x,x=Gx L:=⟨_,rfl⟩;rw[←aH]at ao a2 aV;obtain⟨nm,aq⟩: ∃x,x=n*mx:=⟨_,rfl⟩;have b1:Hid (nm=n*mx):=aq;have aJ:nm≤2097120:=by rw[aq];exact Aoj hn aV
  have cq:IntKind.i64.wrap ((n:Int)*(mx:Int))=(nm:Int):=by rw[←Aq6,←aq];exact Ae1 nm (Aov aJ (by decide))
  rw[←aq]at a2;clear aq;obtain⟨mo,ap⟩: ∃x,x=E8 l n L:=⟨_,rfl⟩;rw[←ap]at a8 aU b8 a2;have bE:min (8*(l.length:Int)) (nm:Int)=(mo:Int):=by rw[a2.o];omega
  have ba:Hid (mo=E8 l n L):=ap;have cp:wrap64 ((n:Int)*(mx:Int))=(nm:Int):=by rw[←Aq6,←b1.o];exact Ahn nm (Aov aJ (by decide))
  clear aH ap hb
  go_wp2_with(first
   |(refine Aoh rfl 139 _ rfl w.heap.size rfl 139 arr (0,0) _ J underlying139 rfl (by rw[I];exact Cf) ?_))
  refine(ao _).mono ?_;rintro e w2 ⟨rfl,a6⟩;clear ao;have c:=a6.row J id;have H2:Hid (Ara w w2∧w2.heap[w.heap.size]?=some (.cells arr 139 (0,0))∧w2.heap[w.heap.size+1]?=some (.cells Tryz.zeroCells96 96 (0,0))):=⟨H1.o.1.trans a6 (fun _ _ h=>h),c,a6.row M id⟩;clear a6 J M H1;go_wp2_with fail;have b5:=HA.o;obtain⟨T,hT⟩: ∃T,T=(⟨(l.take (Hm.szB mo)).toArray⟩:ByteArray):=⟨_,rfl⟩;have bj:T.data.toList=l.take (Hm.szB mo):=by rw[hT]
  have bk:T.size=Hm.szB mo:=by rw[hT];show(l.take _).toArray.size=_;simp;omega
  have aL:Hm.szB mo≤300000:=by unfold Hm.szB;omega
  have aP:Hid (∀W,Calls prog 167 #[.string S,.int .i64 mo] W fun e w'=>e= .returned (.agg #[.string T,.int .i64 (mo:Nat)])∧Ara W w'):=fun W=>by rw[hT];exact a8 W
  have a1:Hid (∀W,Calls prog 147 #[.agg #[.string T,.int .i64 (mo:Nat)]] W fun e w'=> ∃g,W.heap.size≤g∧e= .returned (.agg #[.string T,.int .i64 (mo:Nat),.slice (some ⟨g,0,none⟩) (T.size+1) (T.size+1)])∧IntRow w' g (B6 T.data.toList)∧Ara W w'):=fun W=>J9 hones T mo W (by omega);obtain⟨TT,aQ⟩: ∃TT,TT=(Cu (A6 L)).toArray:=⟨_,rfl⟩;have af:Hid (∀W,Calls prog 149 #[.agg arr] W fun e w'=>e= .returned (.agg TT)∧Ara W w'):=fun W=>by rw[aQ,HA.o.1];exact Xa L W HA.o.2.2.1 HA.o.2.2.2 hC.fits
  obtain⟨N,ab⟩: ∃N,N=G4 L:=⟨_,rfl⟩;obtain⟨nds,O⟩: ∃nds,nds=Dr L:=⟨_,rfl⟩;have bs:nds.length=N:=by rw[O,ab];exact hE.len
  rw[←ab]at bg;have Z:Hid (∀W,Calls prog 150 #[.agg arr] W fun e w'=> ∃v,e= .returned v∧w'.ownsRow W.heap.size 195 9 v N (Be nds)∧Ara W w'):=fun W=>by
   rw[O,ab,HA.o.1];exact Zt 32 L (G4 L) W HA.o.2.2.1 HA.o.2.2.2 hE (fun W=>Th L W HA.o.2.2.1 HA.o.2.2.2)
  obtain⟨TA,a3⟩: ∃TA:Nat→Nat→Nat→Array Value,∀g ng nc,TA g ng nc=(Ay T mo g (A6 L) (.slice (some ⟨ng,0,none⟩) N nc) (List.replicate 256 0) n).toArray:=⟨_,fun _ _ _=>rfl⟩;have Y:Hid (∀g ng nc,prog.built 96 [(0,.agg #[.string T,.int .i64 (mo:Nat),.slice (some ⟨g,0,none⟩) (T.size+1) (T.size+1)]),(1,.agg TT),(2,.slice (some ⟨ng,0,none⟩) N nc),(4,.int .i64 (n:Nat))]=some (TA g ng nc)):=fun g ng nc=>by rw[a3,aQ];exact Xc T mo g n (A6 L) (some ⟨ng,0,none⟩) N nc (A4 _ _ _ _)
  have aa:Hid (∀g ng nc,TA g ng nc=(Ay T mo g (A6 L) (.slice (some ⟨ng,0,none⟩) N nc) (List.replicate 256 0) n).toArray):=a3;have q:Hid (∀g ng nc,(TA g ng nc).size=773∧(TA g ng nc).all (·.oneCell')=true):=fun g ng nc=>by
   rw[a3];exact⟨by rw[Anq,Cm T mo g (A6 L) (.slice (some ⟨ng,0,none⟩) N nc) (List.replicate 256 0) n (A4 _ _ _ _) Ani],Ei _ _ _ _ _ _ _ rfl⟩
  have y:Hid (Bu L∧0<N∧N=G4 L∧nds=Dr L∧nds.length=N∧Hm.Ends 32 (Hm.lnB L) (Ae L) N∧T=(⟨(l.take (Hm.szB mo)).toArray⟩:ByteArray)∧T.data.toList=l.take (Hm.szB mo)∧T.size=Hm.szB mo∧Hm.szB mo≤300000):=⟨hC,bg,ab,O,bs,by rw[ab];exact hE,hT,bj,bk,aL⟩;have co:=Anu c;have bR:w.heap.size+1<w2.heap.size:=Anu H2.o.2.2;clear b5 a8 hT bj bk aL aQ ab O bs a3 hC hE
  go_cut[9]from 10 (fun v9 wz=> ∃tb g ng nc:Nat,v9= .pointer (some ⟨tb,0,none⟩)∧Aside (A9 wz tb T mo g (A6 L) (.slice (some ⟨ng,0,none⟩) N nc) nds (List.replicate 256 0) n∧Ara w2 wz∧w2.heap.size≤tb∧w2.heap.size≤g∧w2.heap.size≤ng))
  case first=>
   refine Aph (S:=fun X=>X.heap[w.heap.size]?=some (.cells arr 139 (0,0))) (by kernel_rfl) ?_ (fun hHeld=>?_)
   ·exact c
   refine tK 0 ⟨some 24,.move (.tmp 0),9,"tree.go:87",#[],none⟩ ?_ ?_ ?_
   rotate_left
   ·intro X ag;try dsimp only at ag
    go_simp
    with_reducible rfl
   simp only[Act.put,Am6,Am8,Am9]
   refine tK 1 ⟨some 25,.move (.tmp 8),3,"tree.go:87",#[],none⟩ ?_ ?_ ?_
   rotate_left
   ·intro X ag;try dsimp only at ag
    go_simp
    with_reducible rfl
   simp only[Act.put,Am6,Am8,Am9]
   refine tK 4 ⟨some 28,.load 139 (.tmp 5),139,"tree.go:87",#[],none⟩ (.agg arr) (fun X hX => E7 X 139 (.tmp 5) rfl w.heap.size rfl 139 arr (0, 0) _ hX underlying139 rfl (by rw [I]; exact Cf)) ?_
   simp only[Act.put,Am6,Am8,Am9]
   refine tK 6 ⟨some 30,.load 139 (.tmp 5),139,"tree.go:87",#[],none⟩ (.agg arr) (fun X hX => E7 X 139 (.tmp 5) rfl w.heap.size rfl 139 arr (0, 0) _ hX underlying139 rfl (by rw [I]; exact Cf)) ?_
   simp only[Act.put,Am6,Am8,Am9]
   refine tK 8 ⟨some 32,.move (.tmp 1),3,"tree.go:87",#[],none⟩ ?_ ?_ ?_
   rotate_left
   ·intro X ag;try dsimp only at ag
    go_simp
    with_reducible rfl
   simp only[Act.put,Am6,Am8,Am9];refine An1 (rs:=[2,10]) (by kernel_rfl) (by simp) ?_;refine Ano rfl (fun K hK=>?_) (Ano rfl (fun K hK=>?_) Anv)
   ·go_simp;refine(aP.o _).mono ?_;rintro e x1 ⟨rfl,hk⟩;have k1:Ara w2 x1:=(Aa.refl (fun _=>False) w2).drew.trans hk (fun _ _ h=>h);have cg:=hk.size;have aY:=k1.size;refine hK.o _ _ (k1.row c id) (fun hHeld=>?_);clear hK K hk;refine An1 (rs:=[3,10]) (by kernel_rfl) (by simp) ?_;refine Ano rfl (fun K hK=>?_) (Ano rfl (fun K hK=>?_) Anv)
    ·go_simp;refine(a1.o _).mono ?_;rintro e x2 ⟨g,hg,rfl,s,hk⟩;have k2:Ara w2 x2:=k1.trans hk (fun _ _ h=>h);have ch:=hk.size;have cu:=k2.size;have m:=s;have bn:=m.lt;clear s;refine hK.o _ _ (k2.row c id) (fun hHeld=>?_);clear hK K hk;refine An1 (rs:=[5,10]) (by kernel_rfl) (by simp) ?_;refine Ano rfl (fun K hK=>?_) (Ano rfl (fun K hK=>?_) Anv)
     ·go_simp;refine(af.o _).mono ?_;rintro e x3 ⟨rfl,hk⟩;have k3:Ara w2 x3:=k2.trans hk (fun _ _ h=>h);have ci:=hk.size;have cv:=k3.size;have m:=m.kept hk id;refine hK.o _ _ (k3.row c id) (fun hHeld=>?_);clear hK K hk;refine An1 (rs:=[7,10]) (by kernel_rfl) (by simp) ?_;refine Ano rfl (fun K hK=>?_) (Ano rfl (fun K hK=>?_) Anv)
      ·go_simp;refine(Z.o _).mono ?_;rintro e x4 ⟨v,rfl,f,hk⟩;have k4:Ara w2 x4:=k3.trans hk (fun _ _ h=>h);have b9:=hk.size;have cw:=k4.size;have m:=m.kept hk id;obtain⟨ng,nc,hv,_,D⟩:=Ck f (by omega);subst hv;have a7:=(f.lt ng rfl).1;have hno:=f;clear f;refine hK.o _ _ (k4.row c id) (fun hHeld=>?_);clear hK K hk
       refine tK 9 ⟨some 33,.build 96 #[(0, .tmp 27), (1, .tmp 29), (2, .tmp 31), (4, .tmp 32)],96,"tree.go:87",#[⟨3,.data⟩,⟨5,.data⟩,⟨7,.data⟩,⟨8,.data⟩],none⟩ (.agg (TA g ng nc)) (fun X _ => Hx X 96 0 1 2 4 (.tmp 27) (.tmp 29) (.tmp 31) (.tmp 32) rfl _ _ _ _ rfl rfl rfl rfl _ (Y.o g ng nc)) ?_
       simp only[Act.put,Am6,Am8,Am9];refine An1 (rs:=[10]) (by kernel_rfl) (by simp) ?_;refine Ano rfl (fun K hK=>?_) Anv;go_simp;obtain⟨x5,aB⟩: ∃X,X=(x4.alloc (.cells Tryz.zeroCells96 96)):=⟨_,rfl⟩;have hk:Ara x4 x5:=by rw[aB];exact((Aa.refl _ _).alloc _)
       have d:x5.heap[x4.heap.size]?=some (.cells Tryz.zeroCells96 96 (0,0)):=by rw[aB];exact Anj x4 _
       obtain⟨tb,k⟩: ∃t,t=x4.heap.size:=⟨_,rfl⟩;rw[←k]at d⊢;have a9:=Apx k;have Q:=Apx k.symm;clear k;rw[←aB];have E:=Anu d;have k5:Ara w2 x5:=k4.trans hk (fun _ _ h=>h);have cj:=hk.size;have cx:=k5.size;have m:=m.kept hk id;have hno:=hk.owns hno (fun _ _ h=>h);refine hK.o _ _ (k5.row c id) (fun hHeld=>?_);clear hK K hk aB;refine An1 (rs:=[11]) (by kernel_rfl) (by simp) ?_;refine Ano rfl (fun K hK=>?_) Anv;refine B9 x5 rfl 96 (.tmp 9) (.tmp 33) rfl tb 96 Tryz.zeroCells96 (TA g ng nc) rfl rfl d (by rw[(q.o g ng nc).1];exact Ca) (by rw[(q.o g ng nc).1];exact u) (q.o g ng nc).2 ?_;intro wz B p;refine hK.o _ _ (p.row (k5.row c id) (by omega)) (fun hHeld=>?_);clear hK K;refine Apn (by kernel_rfl) ?_ _;have H4:Aside (A9 wz tb T mo g (A6 L) (.slice (some ⟨ng,0,none⟩) N nc) nds (List.replicate 256 0) n∧Ara w2 wz∧w2.heap.size≤tb∧w2.heap.size≤g∧w2.heap.size≤ng):=by
        refine⟨⟨by rw[←aa.o];exact B,m.kept p (by omega),?_,A4 _ _ _ _,Ani,?_,by omega,?_⟩,k5.trans p (fun j h1 h2=>by omega),by omega,by omega,by omega⟩
        ·rw[y.o.2.2.2.2.1];exact G5 (p.owns hno (fun j hj e=>by have e1:ng=j:=An0 hj;omega))
        ·intro e;have e1:ng=tb:=An0 e;omega
        ·intro e;have e1:ng=g:=An0 e;omega
       go_wp2_with fail;go_meet
       case rel=>exact⟨tb,g,ng,nc,rfl,H4⟩
      ·go_simp;obtain⟨x6,aC⟩: ∃X,X=(x3.alloc (.cells Tryz.zeroCells96 96)):=⟨_,rfl⟩;have hk:Ara x3 x6:=by rw[aC];exact((Aa.refl _ _).alloc _)
       have d:x6.heap[x3.heap.size]?=some (.cells Tryz.zeroCells96 96 (0,0)):=by rw[aC];exact Anj x3 _
       obtain⟨tb,k⟩: ∃t,t=x3.heap.size:=⟨_,rfl⟩;rw[←k]at d⊢;have a9:=Apx k;have Q:=Apx k.symm;clear k;rw[←aC];have E:=Anu d;have k6:Ara w2 x6:=k3.trans hk (fun _ _ h=>h);have ck:=hk.size;have cy:=k6.size;have m:=m.kept hk id;refine hK.o _ _ (k6.row c id) (fun hHeld=>?_);clear hK K hk aC;refine An1 (rs:=[7]) (by kernel_rfl) (by simp) ?_;refine Ano rfl (fun K hK=>?_) Anv;go_simp;refine(Z.o _).mono ?_;rintro e x7 ⟨v,rfl,f,hk⟩;have k7:Ara w2 x7:=k6.trans hk (fun _ _ h=>h);have cl:=hk.size;have cz:=k7.size;have m:=m.kept hk id;have d:=hk.row d id;obtain⟨ng,nc,hv,_,D⟩:=Ck f (by omega);subst hv;have a7:=(f.lt ng rfl).1;have hno:=f;clear f;refine hK.o _ _ (k7.row c id) (fun hHeld=>?_);clear hK K hk
       refine tK 9 ⟨some 33,.build 96 #[(0, .tmp 27), (1, .tmp 29), (2, .tmp 31), (4, .tmp 32)],96,"tree.go:87",#[⟨3,.data⟩,⟨5,.data⟩,⟨7,.data⟩,⟨8,.data⟩],none⟩ (.agg (TA g ng nc)) (fun X _ => Hx X 96 0 1 2 4 (.tmp 27) (.tmp 29) (.tmp 31) (.tmp 32) rfl _ _ _ _ rfl rfl rfl rfl _ (Y.o g ng nc)) ?_
       simp only[Act.put,Am6,Am8,Am9];refine An1 (rs:=[11]) (by kernel_rfl) (by simp) ?_;refine Ano rfl (fun K hK=>?_) Anv;refine B9 x7 rfl 96 (.tmp 9) (.tmp 33) rfl tb 96 Tryz.zeroCells96 (TA g ng nc) rfl rfl d (by rw[(q.o g ng nc).1];exact Ca) (by rw[(q.o g ng nc).1];exact u) (q.o g ng nc).2 ?_;intro wz B p;refine hK.o _ _ (p.row (k7.row c id) (by omega)) (fun hHeld=>?_);clear hK K;refine Apn (by kernel_rfl) ?_ _;have H4:Aside (A9 wz tb T mo g (A6 L) (.slice (some ⟨ng,0,none⟩) N nc) nds (List.replicate 256 0) n∧Ara w2 wz∧w2.heap.size≤tb∧w2.heap.size≤g∧w2.heap.size≤ng):=by
        refine⟨⟨by rw[←aa.o];exact B,m.kept p (by omega),?_,A4 _ _ _ _,Ani,?_,by omega,?_⟩,k7.trans p (fun j h1 h2=>by omega),by omega,by omega,by omega⟩
        ·rw[y.o.2.2.2.2.1];exact G5 (p.owns hno (fun j hj e=>by have e1:ng=j:=An0 hj;omega))
        ·intro e;have e1:ng=tb:=An0 e;omega
        ·intro e;have e1:ng=g:=An0 e;omega
       go_wp2_with fail;go_meet
       case rel=>exact⟨tb,g,ng,nc,rfl,H4⟩
     ·go_simp;obtain⟨x8,aD⟩: ∃X,X=(x2.alloc (.cells Tryz.zeroCells96 96)):=⟨_,rfl⟩;have hk:Ara x2 x8:=by rw[aD];exact((Aa.refl _ _).alloc _)
      have d:x8.heap[x2.heap.size]?=some (.cells Tryz.zeroCells96 96 (0,0)):=by rw[aD];exact Anj x2 _
      obtain⟨tb,k⟩: ∃t,t=x2.heap.size:=⟨_,rfl⟩;rw[←k]at d⊢;have a9:=Apx k;have Q:=Apx k.symm;clear k;rw[←aD];have E:=Anu d;have k8:Ara w2 x8:=k2.trans hk (fun _ _ h=>h);have cm:=hk.size;have c3:=k8.size;have m:=m.kept hk id;refine hK.o _ _ (k8.row c id) (fun hHeld=>?_);clear hK K hk aD;refine An1 (rs:=[5]) (by kernel_rfl) (by simp) ?_;refine Ano rfl (fun K hK=>?_) Anv;go_simp;refine(af.o _).mono ?_;rintro e x9 ⟨rfl,hk⟩;have k9:Ara w2 x9:=k8.trans hk (fun _ _ h=>h);have cn:=hk.size;have c4:=k9.size;have m:=m.kept hk id;have d:=hk.row d id;refine hK.o _ _ (k9.row c id) (fun hHeld=>?_);clear hK K hk;refine An1 (rs:=[7]) (by kernel_rfl) (by simp) ?_;refine Ano rfl (fun K hK=>?_) Anv;go_simp;refine(Z.o _).mono ?_;rintro e x10 ⟨v,rfl,f,hk⟩;have k10:Ara w2 x10:=k9.trans hk (fun _ _ h=>h);have bG:=hk.size;have bS:=k10.size;have m:=m.kept hk id;have d:=hk.row d id;obtain⟨ng,nc,hv,_,D⟩:=Ck f (by omega);subst hv;have a7:=(f.lt ng rfl).1;have hno:=f;clear f;refine hK.o _ _ (k10.row c id) (fun hHeld=>?_);clear hK K hk
      refine tK 9 ⟨some 33,.build 96 #[(0, .tmp 27), (1, .tmp 29), (2, .tmp 31), (4, .tmp 32)],96,"tree.go:87",#[⟨3,.data⟩,⟨5,.data⟩,⟨7,.data⟩,⟨8,.data⟩],none⟩ (.agg (TA g ng nc)) (fun X _ => Hx X 96 0 1 2 4 (.tmp 27) (.tmp 29) (.tmp 31) (.tmp 32) rfl _ _ _ _ rfl rfl rfl rfl _ (Y.o g ng nc)) ?_
      simp only[Act.put,Am6,Am8,Am9];refine An1 (rs:=[11]) (by kernel_rfl) (by simp) ?_;refine Ano rfl (fun K hK=>?_) Anv;refine B9 x10 rfl 96 (.tmp 9) (.tmp 33) rfl tb 96 Tryz.zeroCells96 (TA g ng nc) rfl rfl d (by rw[(q.o g ng nc).1];exact Ca) (by rw[(q.o g ng nc).1];exact u) (q.o g ng nc).2 ?_;intro wz B p;refine hK.o _ _ (p.row (k10.row c id) (by omega)) (fun hHeld=>?_);clear hK K;refine Apn (by kernel_rfl) ?_ _;have H4:Aside (A9 wz tb T mo g (A6 L) (.slice (some ⟨ng,0,none⟩) N nc) nds (List.replicate 256 0) n∧Ara w2 wz∧w2.heap.size≤tb∧w2.heap.size≤g∧w2.heap.size≤ng):=by
       refine⟨⟨by rw[←aa.o];exact B,m.kept p (by omega),?_,A4 _ _ _ _,Ani,?_,by omega,?_⟩,k10.trans p (fun j h1 h2=>by omega),by omega,by omega,by omega⟩
       ·rw[y.o.2.2.2.2.1];exact G5 (p.owns hno (fun j hj e=>by have e1:ng=j:=An0 hj;omega))
       ·intro e;have e1:ng=tb:=An0 e;omega
       ·intro e;have e1:ng=g:=An0 e;omega
      go_wp2_with fail;go_meet
      case rel=>exact⟨tb,g,ng,nc,rfl,H4⟩
    ·go_simp;obtain⟨x11,U⟩: ∃X,X=(x1.alloc (.cells Tryz.zeroCells96 96)):=⟨_,rfl⟩;have hk:Ara x1 x11:=by rw[U];exact((Aa.refl _ _).alloc _)
     have d:x11.heap[x1.heap.size]?=some (.cells Tryz.zeroCells96 96 (0,0)):=by rw[U];exact Anj x1 _
     obtain⟨tb,k⟩: ∃t,t=x1.heap.size:=⟨_,rfl⟩;rw[←k]at d⊢;have a9:=Apx k;have Q:=Apx k.symm;clear k;rw[←U];have E:=Anu d;have k11:Ara w2 x11:=k1.trans hk (fun _ _ h=>h);have bH:=hk.size;have bT:=k11.size;refine hK.o _ _ (k11.row c id) (fun hHeld=>?_);clear hK K hk U;refine An1 (rs:=[3]) (by kernel_rfl) (by simp) ?_;refine Ano rfl (fun K hK=>?_) Anv;go_simp;refine(a1.o _).mono ?_;rintro e x12 ⟨g,hg,rfl,s,hk⟩;have k12:Ara w2 x12:=k11.trans hk (fun _ _ h=>h);have bI:=hk.size;have bU:=k12.size;have d:=hk.row d id;have m:=s;have bn:=m.lt;clear s;refine hK.o _ _ (k12.row c id) (fun hHeld=>?_);clear hK K hk;refine An1 (rs:=[5]) (by kernel_rfl) (by simp) ?_;refine Ano rfl (fun K hK=>?_) Anv;go_simp;refine(af.o _).mono ?_;rintro e x13 ⟨rfl,hk⟩;have k13:Ara w2 x13:=k12.trans hk (fun _ _ h=>h);have bJ:=hk.size;have bV:=k13.size;have m:=m.kept hk id;have d:=hk.row d id;refine hK.o _ _ (k13.row c id) (fun hHeld=>?_);clear hK K hk;refine An1 (rs:=[7]) (by kernel_rfl) (by simp) ?_;refine Ano rfl (fun K hK=>?_) Anv;go_simp;refine(Z.o _).mono ?_;rintro e x14 ⟨v,rfl,f,hk⟩;have k14:Ara w2 x14:=k13.trans hk (fun _ _ h=>h);have bK:=hk.size;have bW:=k14.size;have m:=m.kept hk id;have d:=hk.row d id;obtain⟨ng,nc,hv,_,D⟩:=Ck f (by omega);subst hv;have a7:=(f.lt ng rfl).1;have hno:=f;clear f;refine hK.o _ _ (k14.row c id) (fun hHeld=>?_);clear hK K hk
     refine tK 9 ⟨some 33,.build 96 #[(0, .tmp 27), (1, .tmp 29), (2, .tmp 31), (4, .tmp 32)],96,"tree.go:87",#[⟨3,.data⟩,⟨5,.data⟩,⟨7,.data⟩,⟨8,.data⟩],none⟩ (.agg (TA g ng nc)) (fun X _ => Hx X 96 0 1 2 4 (.tmp 27) (.tmp 29) (.tmp 31) (.tmp 32) rfl _ _ _ _ rfl rfl rfl rfl _ (Y.o g ng nc)) ?_
     simp only[Act.put,Am6,Am8,Am9];refine An1 (rs:=[11]) (by kernel_rfl) (by simp) ?_;refine Ano rfl (fun K hK=>?_) Anv;refine B9 x14 rfl 96 (.tmp 9) (.tmp 33) rfl tb 96 Tryz.zeroCells96 (TA g ng nc) rfl rfl d (by rw[(q.o g ng nc).1];exact Ca) (by rw[(q.o g ng nc).1];exact u) (q.o g ng nc).2 ?_;intro wz B p;refine hK.o _ _ (p.row (k14.row c id) (by omega)) (fun hHeld=>?_);clear hK K;refine Apn (by kernel_rfl) ?_ _;have H4:Aside (A9 wz tb T mo g (A6 L) (.slice (some ⟨ng,0,none⟩) N nc) nds (List.replicate 256 0) n∧Ara w2 wz∧w2.heap.size≤tb∧w2.heap.size≤g∧w2.heap.size≤ng):=by
      refine⟨⟨by rw[←aa.o];exact B,m.kept p (by omega),?_,A4 _ _ _ _,Ani,?_,by omega,?_⟩,k14.trans p (fun j h1 h2=>by omega),by omega,by omega,by omega⟩
      ·rw[y.o.2.2.2.2.1];exact G5 (p.owns hno (fun j hj e=>by have e1:ng=j:=An0 hj;omega))
      ·intro e;have e1:ng=tb:=An0 e;omega
      ·intro e;have e1:ng=g:=An0 e;omega
     go_wp2_with fail;go_meet
     case rel=>exact⟨tb,g,ng,nc,rfl,H4⟩
   ·go_simp;obtain⟨x15,V⟩: ∃X,X=(w2.alloc (.cells Tryz.zeroCells96 96)).drew:=⟨_,rfl⟩;have hk:Ara w2 x15:=by rw[V];exact((Aa.refl _ _).alloc _).drew
    have d:x15.heap[w2.heap.size]?=some (.cells Tryz.zeroCells96 96 (0,0)):=by rw[V];exact Anj w2 _
    obtain⟨tb,k⟩: ∃t,t=w2.heap.size:=⟨_,rfl⟩;rw[←k]at d⊢;have a9:=Apx k;have Q:=Apx k.symm;clear k;rw[←V];have E:=Anu d;have k15:Ara w2 x15:=hk;have bL:=hk.size;have bX:=k15.size;refine hK.o _ _ (k15.row c id) (fun hHeld=>?_);clear hK K hk V;refine An1 (rs:=[2]) (by kernel_rfl) (by simp) ?_;refine Ano rfl (fun K hK=>?_) Anv;go_simp;refine(aP.o _).mono ?_;rintro e x16 ⟨rfl,hk⟩;have k16:Ara w2 x16:=k15.trans hk (fun _ _ h=>h);have bM:=hk.size;have bY:=k16.size;have d:=hk.row d id;refine hK.o _ _ (k16.row c id) (fun hHeld=>?_);clear hK K hk;refine An1 (rs:=[3]) (by kernel_rfl) (by simp) ?_;refine Ano rfl (fun K hK=>?_) Anv;go_simp;refine(a1.o _).mono ?_;rintro e x17 ⟨g,hg,rfl,s,hk⟩;have k17:Ara w2 x17:=k16.trans hk (fun _ _ h=>h);have bN:=hk.size;have bZ:=k17.size;have d:=hk.row d id;have m:=s;have bn:=m.lt;clear s;refine hK.o _ _ (k17.row c id) (fun hHeld=>?_);clear hK K hk;refine An1 (rs:=[5]) (by kernel_rfl) (by simp) ?_;refine Ano rfl (fun K hK=>?_) Anv;go_simp;refine(af.o _).mono ?_;rintro e x18 ⟨rfl,hk⟩;have k18:Ara w2 x18:=k17.trans hk (fun _ _ h=>h);have bO:=hk.size;have ca:=k18.size;have m:=m.kept hk id;have d:=hk.row d id;refine hK.o _ _ (k18.row c id) (fun hHeld=>?_);clear hK K hk;refine An1 (rs:=[7]) (by kernel_rfl) (by simp) ?_;refine Ano rfl (fun K hK=>?_) Anv;go_simp;refine(Z.o _).mono ?_;rintro e x19 ⟨v,rfl,f,hk⟩;have k19:Ara w2 x19:=k18.trans hk (fun _ _ h=>h);have bP:=hk.size;have cb:=k19.size;have m:=m.kept hk id;have d:=hk.row d id;obtain⟨ng,nc,hv,_,D⟩:=Ck f (by omega);subst hv;have a7:=(f.lt ng rfl).1;have hno:=f;clear f;refine hK.o _ _ (k19.row c id) (fun hHeld=>?_);clear hK K hk
    refine tK 9 ⟨some 33,.build 96 #[(0, .tmp 27), (1, .tmp 29), (2, .tmp 31), (4, .tmp 32)],96,"tree.go:87",#[⟨3,.data⟩,⟨5,.data⟩,⟨7,.data⟩,⟨8,.data⟩],none⟩ (.agg (TA g ng nc)) (fun X _ => Hx X 96 0 1 2 4 (.tmp 27) (.tmp 29) (.tmp 31) (.tmp 32) rfl _ _ _ _ rfl rfl rfl rfl _ (Y.o g ng nc)) ?_
    simp only[Act.put,Am6,Am8,Am9];refine An1 (rs:=[11]) (by kernel_rfl) (by simp) ?_;refine Ano rfl (fun K hK=>?_) Anv;refine B9 x19 rfl 96 (.tmp 9) (.tmp 33) rfl tb 96 Tryz.zeroCells96 (TA g ng nc) rfl rfl d (by rw[(q.o g ng nc).1];exact Ca) (by rw[(q.o g ng nc).1];exact u) (q.o g ng nc).2 ?_;intro wz B p;refine hK.o _ _ (p.row (k19.row c id) (by omega)) (fun hHeld=>?_);clear hK K;refine Apn (by kernel_rfl) ?_ _;have H4:Aside (A9 wz tb T mo g (A6 L) (.slice (some ⟨ng,0,none⟩) N nc) nds (List.replicate 256 0) n∧Ara w2 wz∧w2.heap.size≤tb∧w2.heap.size≤g∧w2.heap.size≤ng):=by
     refine⟨⟨by rw[←aa.o];exact B,m.kept p (by omega),?_,A4 _ _ _ _,Ani,?_,by omega,?_⟩,k19.trans p (fun j h1 h2=>by omega),by omega,by omega,by omega⟩
     ·rw[y.o.2.2.2.2.1];exact G5 (p.owns hno (fun j hj e=>by have e1:ng=j:=An0 hj;omega))
     ·intro e;have e1:ng=tb:=An0 e;omega
     ·intro e;have e1:ng=g:=An0 e;omega
    go_wp2_with fail;go_meet
    case rel=>exact⟨tb,g,ng,nc,rfl,H4⟩
  case rest=>
   obtain⟨tb,g,ng,nc,rfl,H3⟩:=hcut;clear aP a1 af Z Y aa q;have bq:N≤255:=by have h4:=y.o.2.2.2.2.2.1.len;have h5:=y.o.2.2.2.2.2.1.few (2*N) (Ane _);omega
   have aF:Qg nds:=by
    have h:=y.o.2.2.2.2.2.1.nodes.inside;rw[y.o.2.2.1]at h;rw[y.o.2.2.2.1];exact h
   have aK: ∀j,(Ab nds j).siz≤n:=fun j=>by rw[y.o.2.2.2.1];unfold Dr;rw[Pz];exact Ann _
   have an:=Agn hones tb g mo n N nc ng T (A6 L) nds (List.replicate 256 0) wc H3.o.1 y.o.2.2.2.2.1.symm y.o.2.1 bq aF aK hn (by rw[y.o.2.2.2.2.2.2.2.2.1];unfold Hm.szB;omega) (by have h1:=y.o.2.2.2.2.2.2.2.2.1;have h2:=y.o.2.2.2.2.2.2.2.2.2;omega);rw[y.o.2.2.2.2.2.2.2.1]at an;have bb:Hid (∀st,E9 l n L st↔Oq (Am (l.take (Hm.szB mo))) mo nds n (List.replicate 256 0)=some st):=fun st=>by
    unfold E9;rw[ba.o,y.o.2.2.2.1];exact⟨fun h=>h.2,fun h=>⟨y.o.1,h⟩⟩
   have av:=H3.o.2.1.row H2.o.2.2 id;have H5:Hid (Ara w wc∧wc.heap[w.heap.size+1]?=some (.cells Tryz.zeroCells96 96 (0,0))):=⟨H2.o.1.trans H3.o.2.1 (fun _ _ h=>h),av⟩;have ct:w.heap.size+1<tb:=by have:=H3.o.2.2.1;omega
   have cr:w.heap.size+1<g:=by have:=H3.o.2.2.2.1;omega
   have cs:w.heap.size+1<ng:=by have:=H3.o.2.2.2.2;omega
   clear aF aK av c;go_wp2_with fail;refine an.mono ?_;rintro e w3 ⟨nds',ws',P,aI,aM,bu,aS⟩;clear an;have z:=aS.row H5.o.2 (fun h=>h.elim (fun h=>by omega) (fun h=>by have e1:ng=w.heap.size+1:=An0 h;omega));have aG:Ara w w3:=H5.o.1.trans aS (fun j h1 h2=>h2.elim (fun h=>by omega) (fun h=>by have e1:ng=j:=An0 h;omega));have H6:Hid (A9 w3 tb T mo g (A6 L) (.slice (some ⟨ng,0,none⟩) N nc) nds' ws' n∧nds'.length=N∧ws'.length=256∧w3.heap[w.heap.size+1]?=some (.cells Tryz.zeroCells96 96 (0,0))∧Ara w w3):=⟨bu,aI,aM,z,aG⟩;clear bu aI aM aG aS H5;cases G:Oq (Am (l.take (Hm.szB mo))) mo nds n (List.replicate 256 0)with
   |none=>
    rw[G]at P;have aO:Hid (∀st,¬E9 l n L st):=fun st h=>by have:=(bb.o st).1 h;rw[G]at this;cases this
    obtain rfl:=P;clear G
    go_wp2_with(first
     |(refine Pr rfl 96 rfl Tryz.zeroCells96 Xd ?_)
     |(refine wpList_store_row _ rfl 96 _ _ rfl (w.heap.size+1) 96 _ Tryz.zeroCells96 rfl rfl z (by rw[u];exact Ca) rfl aY ?_;intro w9 az F))
    refine Aok (v:= .tuple #[.agg Tryz.zeroCells96,.bool false]) (Df results118 _ _ (w.heap.size+1) 96 _ (0,0) _ rfl az underlying96 rfl (by rw[u];exact Ca)) rfl ⟨H6.o.2.2.2.2.trans F (fun j h1 h2=>by omega),.inr ⟨aO.o,rfl⟩⟩
   |some st=>
    rw[G]at P;obtain⟨rfl,rfl,rfl⟩:=P;have b3:Hid (E9 l n L st):=(bb.o st).2 G;have cd:st.len≤mo:=J7 G;have bm:Hm.szB st.len≤l.length:=Ant (by unfold Hm.szB;omega) aU;have c5:Hm.szB st.len≤300000:=Ant (by unfold Hm.szB;omega) y.o.2.2.2.2.2.2.2.2.2;have ar:=fun W=>L3 l st.len W bm (by omega) (by omega);rw[←HA.o.2.1]at ar;obtain⟨T2,ah⟩: ∃T,T=(⟨(l.take (Hm.szB st.len)).toArray⟩:ByteArray):=⟨_,rfl⟩;have aE:T2.data.toList=l.take (Hm.szB st.len):=by rw[ah]
    have bi:T2.size=Hm.szB st.len:=by rw[ah];show(l.take _).toArray.size=_;simp;omega
    have au: ∀W,Calls prog 167 #[.string S,.int .i64 (st.len:Nat)] W fun e w'=>e= .returned (.agg #[.string T2,.int .i64 (st.len:Nat)])∧Ara W w':=fun W=>by rw[ah];exact ar W
    have ak:=fun W=>J9 hones T2 st.len W (by omega);have bc:Hid (T2=(⟨(l.take (Hm.szB st.len)).toArray⟩:ByteArray)∧T2.data.toList=l.take (Hm.szB st.len)):=⟨ah,aE⟩;obtain⟨sl,aW⟩: ∃x,x=st.len:=⟨_,rfl⟩;have b2:Hid (sl=st.len):=aW;rw[←aW]at au ak⊢;clear G ar ah aE bi aW;go_wp2_with fail;refine(au _).mono ?_;rintro e w4 ⟨rfl,aT⟩;clear au;go_wp2_with fail;refine(ak _).mono ?_;rintro e w5 ⟨g2,b7,rfl,al,bp⟩;clear ak;have C:=aT.trans bp (fun _ _ h=>h);have r:=H6.o.1.kept C id id (fun _ _ h=>h);have bQ:=C.size;have b9:=aT.size;have c0:w5.cell? ⟨tb,0,none⟩=some (.string T):=r.cellAt 0;have c1:w5.cell? ⟨tb,1,none⟩=some (.int .i64 (mo:Nat)):=r.cellAt 1;have c2:w5.cell? ⟨tb,2,none⟩=some (.slice (some ⟨g,0,none⟩) (T.size+1) (T.size+1)):=r.cellAt 2;have f0:=r.free 0;have f1:=r.free 1;have f2:=r.free 2;have E:=H6.o.1.lt;have D:=(H6.o.1.nod.lt ng rfl).2;have cf:=(r.nod.lt ng rfl).2;have bD:=al.lt;obtain⟨W6,a4⟩: ∃W6,W6=((w5.setCell ⟨tb,0,none⟩ (.string T2)).setCell ⟨tb,1,none⟩ (.int .i64 (sl:Nat))).setCell ⟨tb,2,none⟩ (.slice (some ⟨g2,0,none⟩) (T2.size+1) (T2.size+1)):=⟨_,rfl⟩;obtain⟨TB,ai⟩: ∃A,A=(Ay T2 sl g2 (A6 L) (.slice (some ⟨ng,0,none⟩) N nc) st.ws n).toArray:=⟨_,rfl⟩;have ay:W6.heap[tb]?=some (.cells TB 96 (0,0)):=by
     rw[a4,ai,Anb _ _ 2 _ _ _ (Anb _ _ 1 _ _ _ (Anb _ _ 0 _ _ _ r.blk))];rfl
    have am:Aa (fun j=>j=tb) w5 W6:=by rw[a4];exact L0 w5 tb _ _ _
    have aw:=C.row z id;have ax:=am.row aw (by omega);have R:TB.size=773:=by rw[ai,Anq,Cm T2 sl g2 (A6 L) (.slice (some ⟨ng,0,none⟩) N nc) st.ws n (A4 _ _ _ _) H6.o.2.2.1]
    have bt:TB.all (·.oneCell')=true:=by rw[ai];exact Ei _ _ _ _ _ _ _ rfl
    have br:ng≠g2:=by omega
    have H7:Hid (W6.heap[tb]?=some (.cells TB 96 (0,0))∧IntRow W6 g2 (B6 T2.data.toList)∧W6.ownsRow 0 195 9 (.slice (some ⟨ng,0,none⟩) N nc) N (Be st.nds)∧W6.heap[w.heap.size+1]?=some (.cells Tryz.zeroCells96 96 (0,0))∧Ara w W6∧w.heap.size+1<g2):=by
     refine⟨ay,al.kept am (by omega),?_,ax,(H6.o.2.2.2.2.trans C (fun _ _ h=>h)).trans am (fun j h1 h2=>by omega),by omega⟩;have ho:=am.owns r.nod (fun j hj e=>by have e1:ng=j:=An0 hj;have e2:=H6.o.1.n1;subst e1;exact e2 (by rw[e];rfl));rwa[H6.o.2.1]at ho
    have bd:Hid (((w5.setCell ⟨tb,0,none⟩ (.string T2)).setCell ⟨tb,1,none⟩ (.int .i64 (sl:Nat))).setCell ⟨tb,2,none⟩ (.slice (some ⟨g2,0,none⟩) (T2.size+1) (T2.size+1))=W6):=a4.symm;have b4:Hid (TB=(Ay T2 sl g2 (A6 L) (.slice (some ⟨ng,0,none⟩) N nc) st.ws n).toArray):=ai;clear aT bp C r al a4 ai ay am aw ax z b7;go_upto_region 9 with fail
    rw[bd.o];clear bd
    go_wp2_with(first
     |(refine Aoh rfl 96 _ rfl tb rfl 96 TB (0,0) _ H7.o.1 underlying96 rfl (by rw[R];exact Ca) ?_)
     |(refine wpList_store_row _ rfl 96 _ _ rfl (w.heap.size+1) 96 _ TB rfl rfl H7.o.2.2.2.1 (by rw[R];exact Ca) (by rw[R];exact u) bt ?_;intro w9 az F))
    refine Aok (v:= .tuple #[.agg TB,.bool true]) (Df results118 _ _ (w.heap.size+1) 96 _ (0,0) _ rfl az underlying96 rfl (by rw[R];exact Ca)) rfl ⟨H7.o.2.2.2.2.1.trans F (fun j h1 h2=>by omega),.inl ⟨st,g2,ng,nc,b3.o,by have:=H7.o.2.2.2.2.2;omega,by omega,fun e=>br e.symm,?_,H6.o.2.2.1,?_,?_⟩⟩
    ·rw[b4.o,bc.o.1,b2.o,H6.o.2.1]
    ·rw[←bc.o.2];exact H7.o.2.1.kept F (by have:=H7.o.2.2.2.2.2;omega)
    ·have ho:=F.owns H7.o.2.2.1 (fun j hj e=>by have e1:ng=j:=An0 hj;omega);rwa[H6.o.2.1]
structure De(B:Nat)(w':World)(l:Arc)(n:Nat)(L:Ard)(VA:Array Value)(T:ByteArray)(ok:Bool):Prop where
 size:VA.size=773
 one:VA.all (·.oneCell')=true
 str:VA[0]?=some (.string T)
 few:T.size≤l.length
 said:(ok=true∧ ∃st g ng nc,E9 l n L st∧B≤g∧B≤ng∧g≠ng∧T.size=Hm.szB st.len∧VA=(Ay ⟨(l.take (Hm.szB st.len)).toArray⟩ st.len g (A6 L) (.slice (some ⟨ng,0,none⟩) st.nds.length nc) st.ws n).toArray∧st.ws.length=256∧
   IntRow w' g (B6 (l.take (Hm.szB st.len)))∧w'.ownsRow 0 195 9 (.slice (some ⟨ng,0,none⟩) st.nds.length nc) st.nds.length (Be st.nds))∨
  (ok=false∧(∀st,¬E9 l n L st)∧VA=Tryz.zeroCells96)
theorem De.kept{B:Nat}{w' w2:World}{l:Arc}{n:Nat}{L:Ard}{VA:Array Value}{T:ByteArray}{ok:Bool}(h:De B w' l n L VA T ok){S:Nat→Prop}(hk:Aa S w' w2)(hn: ∀j,B≤j→j<w'.heap.size→ ¬S j):De B w2 l n L VA T ok:=by
 refine⟨h.size,h.one,h.str,h.few,?_⟩;rcases h.said with⟨h1,st,g,ng,nc,a1,a2,a3,a4,a5,a6,a7,a8,a9⟩|h1
 ·exact .inl ⟨h1,st,g,ng,nc,a1,a2,a3,a4,a5,a6,a7,a8.kept hk (hn g a2 a8.lt),hk.owns a9 (fun j a=>by have e1:ng=j:=An0 a;rw[←e1];exact hn ng a3 (a9.lt ng rfl).2)⟩
 ·exact .inr h1
theorem De.le{B B':Nat}{w':World}{l:Arc}{n:Nat}{L:Ard}{VA:Array Value}{T:ByteArray}{ok:Bool}(h:De B w' l n L VA T ok)(hb:B'≤B):De B' w' l n L VA T ok:=by
 refine⟨h.size,h.one,h.str,h.few,?_⟩;rcases h.said with⟨h1,st,g,ng,nc,a1,a2,a3,a4⟩|h1
 ·exact .inl ⟨h1,st,g,ng,nc,a1,Ant hb a2,Ant hb a3,a4⟩
 ·exact .inr h1
theorem Ac4:Tryz.zeroCells96[0]?=some (.string ⟨#[]⟩):=by kernel_rfl
theorem Ac5(hones:Bd)(l:Arc)(n:Nat)(L:Ard)(w:World)(hn:n≤65535)(b:L.length=256)(c: ∀x∈L,x≤255)(a:l.length≤281474976710656):
  Calls prog 118 #[.string ⟨l.toArray⟩,.int .i64 n,.agg (Ad L).toArray] w fun e w'=>Ara w w'∧ ∃VA T ok,e= .returned (.tuple #[.agg VA,.bool ok])∧De w.heap.size w' l n L VA T ok:=by
 refine(Ac3 hones l n L w hn b c a).mono ?_;rintro e w' ⟨hk,⟨st,g,ng,nc,a1,a2,a3,a4,rfl,a6,a7,a8⟩|⟨h1,rfl⟩⟩
 ·refine⟨hk,_,⟨(l.take (Hm.szB st.len)).toArray⟩,_,rfl,?_,Ei _ _ _ _ _ _ _ rfl,rfl,?_,.inl ⟨rfl,st,g,ng,nc,a1,a2,a3,a4,?_,rfl,a6,a7,a8⟩⟩
  ·rw[Anq,Cm _ _ g (A6 L) _ st.ws n (A4 _ _ _ _) a6]
  ·show(l.take _).toArray.size≤_;simp;omega
  ·have h2:=J7 a1.2;have d:=Nat.min_le_left (8*l.length) (n*Gx L);show(l.take _).toArray.size=_;unfold E8 at h2;unfold Hm.szB;simp;omega
 ·exact⟨hk,_,⟨#[]⟩,_,rfl,Hp,Tj,Ac4,Ann _,.inr ⟨rfl,h1,rfl⟩⟩
set_option maxRecDepth 100000 in
theorem Aho(hones:Bd)(p:Nat)(st:Hm.Rd)(n:Nat)(L:Ard)(w:World)(hr:Ax w p st)(hn:n≤65535)(hL:L.length=256)(hx: ∀x∈L,x≤255)(P:Bj st≤281474976710656):
  Calls prog 69 #[.pointer (some ⟨p,0,none⟩),.int .i64 n,.agg (Ad L).toArray] w fun e w'=>Aa (fun j=>j=p) w w'∧ ∃VA T ok,e= .returned (.agg VA)∧De w.heap.size w' (st.getD []) n L VA T ok∧Ax w' p (Bb (Da st ok) T.size).2:=by
 obtain⟨l,hl⟩: ∃l,l=st.getD []:=⟨_,rfl⟩;have C:Hid (∀W,Calls prog 118 #[.string ⟨l.toArray⟩,.int .i64 n,.agg (Ad L).toArray] W fun e w'=>Ara W w'∧ ∃VA T ok,e= .returned (.tuple #[.agg VA,.bool ok])∧De W.heap.size w' l n L VA T ok):=fun W=>Ac5 hones l n L W hn hL hx (by rw[hl];exact P);obtain⟨arr,q⟩: ∃a,a=(Ad L).toArray:=⟨_,rfl⟩;have aa:arr.size=256:=by rw[q,Bm,hL]
 obtain⟨S,hS⟩: ∃S,S=(⟨l.toArray⟩:ByteArray):=⟨_,rfl⟩;rw[←q,←hS]at C;rw[←q,←hl];have hp:=hr.lt;have m:=hr.rest;rw[←hl,←hS]at m;obtain⟨W0,s⟩: ∃W0,W0=(w.alloc (.cells arr 139)).alloc (.cells Tryz.zeroCells96 96):=⟨_,rfl⟩;have M:Ara w W0:=by rw[s];exact((Aa.refl _ _).alloc _).alloc _
 have H:W0.heap[w.heap.size]?=some (.cells arr 139 (0,0)):=by rw[s];exact Apb w _ _
 have ab:W0.heap[w.heap.size+1]?=some (.cells Tryz.zeroCells96 96 (0,0)):=by rw[s];exact Apc w _ _
 have I:W0.cell? ⟨p,0,none⟩=some (.string S):=(M.cell (p:=⟨p,0,none⟩) hp id).trans m;have HW:Hid ((w.alloc (.cells arr 139)).alloc (.cells Tryz.zeroCells96 96)=W0):=s.symm;have F:Hid (Ax w p st∧l=st.getD []∧Bj st≤281474976710656∧Ara w W0):=⟨hr,hl,P,M⟩;have R:Tryz.zeroCells96.size=773:=Hp;clear s q hS hL hx hl hr P m M
 go_enter func69,ntmps69
 go_upto_region 1 with fail
 rw[HW.o];clear HW;have ag:=fun W (h:Ax W p st) ok=>Ik p st ok W h;have Y:Hid _:=ag;clear ag;have a8:=Anu H;have a9:w.heap.size+1<W0.heap.size:=Anu ab
 go_cut[7,8]from 9 (fun v7 v8 wz=> ∃tb VA T ok,v7= .pointer (some ⟨tb,0,none⟩)∧v8= .bool ok∧Aside (wz.heap[tb]?=some (.cells VA 96 (0,0))∧De W0.heap.size wz l n L VA T ok∧Ara W0 wz∧W0.heap.size≤tb∧Ax wz p st))
 case first=>
  refine Aph (S:=fun X=>X.cell? ⟨p,0,none⟩=some (.string S)∧X.heap[w.heap.size]?=some (.cells arr 139 (0,0))) (by kernel_rfl) ?_ (fun hHeld=>?_)
  ·exact⟨I,H⟩
  refine tK 0 ⟨some 10,.move (.tmp 0),183,"read.go:89",#[],none⟩ ?_ ?_ ?_
  rotate_left
  ·intro X b;try dsimp only at b
   go_simp
   with_reducible rfl
  simp only[Act.put,Am6,Am8,Am9]
  refine tK 1 ⟨some 11,.nilCheck (.tmp 10),0,"read.go:89",#[⟨0,.data⟩],none⟩ ?_ ?_ ?_
  rotate_left
  ·intro X b;try dsimp only at b
   go_simp
   with_reducible rfl
  simp only[Act.put,Am6,Am8,Am9]
  refine tK 2 ⟨some 12,.fieldAddr 132 (.tmp 11) 0,0,"read.go:89",#[⟨1,.data⟩],none⟩ ?_ ?_ ?_
  rotate_left
  ·intro X b;try dsimp only at b
   go_simp
   with_reducible rfl
  simp only[Act.put,Am6,Am8,Am9]
  refine tK 3 ⟨some 13,.load 9 (.tmp 12),9,"read.go:89",#[⟨2,.data⟩],none⟩ ?_ ?_ ?_
  rotate_left
  ·intro X b;try dsimp only at b
   go_simp
   with_reducible rfl
  simp only[Act.put,Am6,Am8,Am9]
  refine tK 4 ⟨some 14,.move (.tmp 1),3,"read.go:89",#[],none⟩ ?_ ?_ ?_
  rotate_left
  ·intro X b;try dsimp only at b
   go_simp
   with_reducible rfl
  simp only[Act.put,Am6,Am8,Am9]
  refine tK 5 ⟨some 15,.load 139 (.tmp 5),139,"read.go:89",#[],none⟩ (.agg arr) (fun X hX => E7 X 139 (.tmp 5) rfl w.heap.size rfl 139 arr (0, 0) _ hX.2 underlying139 rfl (by rw [aa]; exact Cf)) ?_
  simp only[Act.put,Am6,Am8,Am9];have HS:Hid (∀X,Ara W0 X→X.cell? ⟨p,0,none⟩=some (.string S)∧X.heap[w.heap.size]?=some (.cells arr 139 (0,0))):=fun X hk=>⟨(hk.cell (p:=⟨p,0,none⟩) (Ank _ _ I) id).trans I,hk.row H id⟩;refine An1 (rs:=[6,10]) (by kernel_rfl) (by simp) ?_;refine Ano rfl (fun K hK=>?_) (Ano rfl (fun K hK=>?_) Anv)
  ·go_simp;refine(C.o _).mono ?_;rintro e xa ⟨D,VA,T,ok,rfl,c⟩;have kA:Ara W0 xa:=(Aa.refl (fun _=>False) W0).drew.trans D (fun _ _ h=>h);refine hK.o _ _ (HS.o _ kA) (fun hHeld=>?_);clear hK K
   refine tK 7 ⟨some 9,.move (.tmp 16),186,"read.go:89",#[⟨6,.data⟩],none⟩ ?_ ?_ ?_
   rotate_left
   ·intro X b;try dsimp only at b
    go_simp
    with_reducible rfl
   simp only[Act.put,Am6,Am8,Am9]
   refine tK 8 ⟨some 17,.extract (.tmp 9) 0,96,"read.go:89",#[⟨7,.data⟩],none⟩ ?_ ?_ ?_
   rotate_left
   ·intro X b;try dsimp only at b
    go_simp
    with_reducible rfl
   simp only[Act.put,Am6,Am8,Am9]
   refine tK 9 ⟨some 18,.extract (.tmp 9) 1,4,"read.go:89",#[⟨7,.data⟩,⟨11,.gcOnly .lateStores⟩],none⟩ ?_ ?_ ?_
   rotate_left
   ·intro X b;try dsimp only at b
    go_simp
    with_reducible rfl
   simp only[Act.put,Am6,Am8,Am9];refine An1 (rs:=[10]) (by kernel_rfl) (by simp) ?_;refine Ano rfl (fun K hK=>?_) Anv;go_simp;obtain⟨xb,g⟩: ∃X,X=xa.alloc (.cells Tryz.zeroCells96 96):=⟨_,rfl⟩;have r:Ara xa xb:=by rw[g];exact(Aa.refl _ _).alloc _
   have k:xb.heap[xa.heap.size]?=some (.cells Tryz.zeroCells96 96 (0,0)):=by rw[g];exact Anj xa _
   obtain⟨tb,d⟩: ∃t,t=xa.heap.size:=⟨_,rfl⟩;rw[←d]at k⊢;rw[←g];have av:=Apx d;have an:=Apx d.symm;have a5:=kA.size;have kB:=kA.trans r (fun _ _ h=>h);refine hK.o _ _ (HS.o _ kB) (fun hHeld=>?_);clear hK K g d;refine An1 (rs:=[11]) (by kernel_rfl) (by simp) ?_;refine Ano rfl (fun K hK=>?_) Anv;refine B9 xb rfl 96 (.tmp 7) (.tmp 17) rfl tb 96 Tryz.zeroCells96 VA rfl rfl k (by rw[c.size];exact Ca) (by rw[c.size];exact R) c.one ?_;intro wz Q u;have kZ:Ara W0 wz:=kB.trans u (fun j h1 h2=>by omega);have J:De W0.heap.size wz l n L VA T ok:=(c.kept ((r.wider (T:=fun j=>j=tb) (fun _ _ h=>h.elim)).trans u (fun _ _ h=>h)) (fun j h1 h2 h3=>by omega)).le (Ane _);refine hK.o _ _ (HS.o _ kZ) (fun hHeld=>?_);clear hK K;refine An1 (rs:=[12]) (by kernel_rfl) (by simp) ?_;refine Ano rfl (fun K hK=>?_) Anv;go_simp;refine hK.o _ _ (HS.o _ kZ) (fun hHeld=>?_);clear hK K;refine Apn (by kernel_rfl) ?_ _;have H4:Aside (wz.heap[tb]?=some (.cells VA 96 (0,0))∧De W0.heap.size wz l n L VA T ok∧Ara W0 wz∧W0.heap.size≤tb∧Ax wz p st):=⟨Q,J,kZ,by omega,(F.o.1.kept F.o.2.2.2 id).kept kZ id⟩;go_wp2_with fail;go_meet
   case rel=>exact⟨tb,VA,T,ok,rfl,rfl,H4⟩
  ·go_simp;obtain⟨xb,g⟩: ∃X,X=(W0.alloc (.cells Tryz.zeroCells96 96)).drew:=⟨_,rfl⟩;have r:Ara W0 xb:=by rw[g];exact((Aa.refl _ _).alloc _).drew
   have k:xb.heap[W0.heap.size]?=some (.cells Tryz.zeroCells96 96 (0,0)):=by rw[g];exact Anj W0 _
   obtain⟨tb,d⟩: ∃t,t=W0.heap.size:=⟨_,rfl⟩;rw[←d]at k⊢;rw[←g];have av:=Apx d;have an:=Apx d.symm;have a7:=Anu k;refine hK.o _ _ (HS.o _ r) (fun hHeld=>?_);clear hK K g d;refine An1 (rs:=[6]) (by kernel_rfl) (by simp) ?_;refine Ano rfl (fun K hK=>?_) Anv;go_simp;refine(C.o _).mono ?_;rintro e xa ⟨D,VA,T,ok,rfl,c⟩;have kA:Ara W0 xa:=r.trans D (fun _ _ h=>h);have k:=D.row k id;have a4:=r.size;refine hK.o _ _ (HS.o _ kA) (fun hHeld=>?_);clear hK K
   refine tK 7 ⟨some 9,.move (.tmp 16),186,"read.go:89",#[⟨6,.data⟩],none⟩ ?_ ?_ ?_
   rotate_left
   ·intro X b;try dsimp only at b
    go_simp
    with_reducible rfl
   simp only[Act.put,Am6,Am8,Am9]
   refine tK 8 ⟨some 17,.extract (.tmp 9) 0,96,"read.go:89",#[⟨7,.data⟩],none⟩ ?_ ?_ ?_
   rotate_left
   ·intro X b;try dsimp only at b
    go_simp
    with_reducible rfl
   simp only[Act.put,Am6,Am8,Am9]
   refine tK 9 ⟨some 18,.extract (.tmp 9) 1,4,"read.go:89",#[⟨7,.data⟩,⟨11,.gcOnly .lateStores⟩],none⟩ ?_ ?_ ?_
   rotate_left
   ·intro X b;try dsimp only at b
    go_simp
    with_reducible rfl
   simp only[Act.put,Am6,Am8,Am9];refine An1 (rs:=[11]) (by kernel_rfl) (by simp) ?_;refine Ano rfl (fun K hK=>?_) Anv;refine B9 xa rfl 96 (.tmp 7) (.tmp 17) rfl tb 96 Tryz.zeroCells96 VA rfl rfl k (by rw[c.size];exact Ca) (by rw[c.size];exact R) c.one ?_;intro wz Q u;have kZ:Ara W0 wz:=kA.trans u (fun j h1 h2=>by omega);have J:De W0.heap.size wz l n L VA T ok:=(c.kept u (fun j h1 h2 h3=>by omega)).le (by omega);refine hK.o _ _ (HS.o _ kZ) (fun hHeld=>?_);clear hK K;refine An1 (rs:=[12]) (by kernel_rfl) (by simp) ?_;refine Ano rfl (fun K hK=>?_) Anv;go_simp;refine hK.o _ _ (HS.o _ kZ) (fun hHeld=>?_);clear hK K;refine Apn (by kernel_rfl) ?_ _;have H4:Aside (wz.heap[tb]?=some (.cells VA 96 (0,0))∧De W0.heap.size wz l n L VA T ok∧Ara W0 wz∧W0.heap.size≤tb∧Ax wz p st):=⟨Q,J,kZ,by omega,(F.o.1.kept F.o.2.2.2 id).kept kZ id⟩;go_wp2_with fail;go_meet
   case rel=>exact⟨tb,VA,T,ok,rfl,rfl,H4⟩
 case rest=>
  obtain⟨tb,VA,T,ok,rfl,rfl,B⟩:=hcut;have af:=Y.o wc B.o.2.2.2.2 ok;have G:=B.o.2.2.1.row ab id;have ad:Ara w wc:=F.o.2.2.2.trans B.o.2.2.1 (fun _ _ h=>h);have a6:T.size≤281474976710656:=by
   have h1:=B.o.2.1.few;have h2:=F.o.2.2.1;rw[F.o.2.1]at h1;exact Ant h1 h2
  have Z:Hid (∀W,Ax W p (Da st ok)→Calls prog 64 #[.pointer (some ⟨p,0,none⟩),.int .i64 (T.size:Nat)] W fun e w'=>e= .returned (.string ⟨(Bb (Da st ok) T.size).1.toArray⟩)∧Ax w' p (Bb (Da st ok) T.size).2∧Aa (fun j=>j=p) W w'):=
   fun W h=>Lg p (Da st ok) T.size W h (by have h1:=Iq st ok;have h2:=F.o.2.2.1;omega) (by omega)
  have aj:p≠tb:=by have:=B.o.2.2.2.1;omega
  have ah:p≠w.heap.size+1:=by omega
  have hpb:p<w.heap.size:=hp;have U:Hid (wc.heap[tb]?=some (.cells VA 96 (0,0))∧De W0.heap.size wc l n L VA T ok∧wc.heap[w.heap.size+1]?=some (.cells Tryz.zeroCells96 96 (0,0))∧Ara w wc∧w.heap.size+1<tb):=⟨B.o.1,B.o.2.1,G,ad,by have:=B.o.2.2.2.1;omega⟩;clear Y C G ad B;go_wp2_with fail;refine af.mono ?_;rintro e w2 ⟨rfl,ak,N⟩;have z:=N.row U.o.1 (fun h=>aj h.symm);have c0:w2.cell? ⟨tb,0,none⟩=some (.string T):=(Am7 _ _ 0 _ _ _ z).trans U.o.2.1.str;have ai:=Kr tb 0 T w2 c0;have am:=Z.o w2 ak;have H6:Hid (Aa (fun j=>j=p) wc w2):=N;clear af ak N Z z;go_wp2_with fail;refine ai.mono ?_;rintro e w3 ⟨rfl,ax⟩;subst ax;clear ai;go_wp2_with fail;refine am.mono ?_;rintro e w4 ⟨rfl,al,ac⟩;have i:Aa (fun j=>j=p) wc w4:=H6.o.trans ac (fun _ _ h=>h);have A:=i.row U.o.1 (fun h=>aj h.symm);have y:=i.row U.o.2.2.1 (fun h=>ah h.symm);have f:=U.o.2.1.kept i (fun j h1 h2 h3=>by omega);have V:Hid (w4.heap[tb]?=some (.cells VA 96 (0,0))∧De W0.heap.size w4 l n L VA T ok∧w4.heap[w.heap.size+1]?=some (.cells Tryz.zeroCells96 96 (0,0))∧Aa (fun j=>j=p) w w4∧Ax w4 p (Bb (Da st ok) T.size).2):=
   ⟨A,f,y,(U.o.2.2.2.1.wider (fun _ _ h=>h.elim)).trans i (fun _ _ h=>h),al⟩
  have E:=f.size;have aw:=f.one;clear i A y f am al ac H6 c0
  go_wp2_with(first
   |(refine Aoh rfl 96 _ rfl tb rfl 96 VA (0,0) _ V.o.1 underlying96 rfl (by rw[E];exact Ca) ?_)
   |(refine wpList_store_row _ rfl 96 _ _ rfl (w.heap.size+1) 96 _ VA rfl rfl V.o.2.2.1 (by rw[E];exact Ca) (by rw[E];exact R) aw ?_;intro w9 ay O))
  refine Aok (v:= .agg VA) (Ao0 results69 _ w9 (w.heap.size+1) 96 VA (0,0) _ rfl ay underlying96 rfl (by rw[E];exact Ca)) rfl ⟨V.o.2.2.2.1.trans O (fun j h1 h2=>by omega),VA,T,ok,rfl,?_,V.o.2.2.2.2.kept O (fun h=>ah h)⟩;exact(V.o.2.1.kept O (fun j h1 h2 h3=>by omega)).le (by omega)
namespace Hm
def Ci(ws:Ard)(b:Nat):Nat:=1+(ws.take b).sum
def firsts(ws:Ard):Ard:=(List.range 256).map (Ci ws)
def Cx(ws:Ard)(k:Nat):Ard:=(List.range 256).map fun b=>if b<k then Ci ws b else 0
theorem Gq(ws:Ard)(k:Nat):(Cx ws k).length=256:=by unfold Cx;rw[Anz,Apq]
theorem Pa(ws:Ard)(k b:Nat)(hb:b<256):(Cx ws k)[b]?=some (if b<k then Ci ws b else 0):=by
 unfold Cx;rw[An2,Ao2 hb];rfl
theorem Aaw(ws:Ard):Cx ws 0=List.replicate 256 0:=by
 apply List.ext_getElem?;intro i
 by_cases hi:i<256
 ·rw[Pa ws 0 i hi,if_neg (by omega),List.getElem?_replicate,if_pos hi]
 ·rw[Anx (by rw[Gq];omega),Anx (by rw[Ani];omega)]
theorem Ac6(ws:Ard):Cx ws 256=firsts ws:=by
 unfold Cx firsts;refine Aqe fun b hb=>?_;rw[if_pos (List.mem_range.1 hb)]
theorem Aax(ws:Ard)(k:Nat)(hk:k<256):(Cx ws k).set k (Ci ws k)=Cx ws (k+1):=by
 apply List.ext_getElem?;intro i
 by_cases hi:i<256
 ·rw[Pa ws (k+1) i hi,List.getElem?_set]
  by_cases e:k=i
  ·subst e;rw[if_pos rfl,if_pos (by rw[Gq];exact hk),if_pos (by omega)]
  ·rw[if_neg e,Pa ws k i hi]
   by_cases h2:i<k
   ·rw[if_pos h2,if_pos (by omega)]
   ·rw[if_neg h2,if_neg (by omega)]
 ·rw[Anx (by rw[Aou,Gq];omega),Anx (by rw[Gq];omega)]
theorem Tl(ws:Ard)(k:Nat)(h:k<ws.length):Ci ws (k+1)=Ci ws k+ws[k]:=by
 unfold Ci;rw[Anh h,List.sum_append];simp;omega
theorem Amy(l:Ard)(B:Nat)(h: ∀x∈l,x≤B):l.sum≤l.length*B:=by
 induction l with
 |nil=>simp
 |cons a r ih=>
  have h1:=h a (Anl ..);have h2:=ih fun x b=>h x (Anr _ b);rw[Aqo,An8,Ape];omega
end Hm
def Cd(VA:Array Value)(root:Nat)(fs:Ard):Are:=VA.toList++(.int .i64 (root:Nat)::Ad fs)
theorem Gl(VA:Array Value)(root:Nat)(fs:Ard)(b:VA.size=773)(a:fs.length=256):(Cd VA root fs).length=1030:=by
 unfold Cd;rw[Anf,An8,Ao6,b];simp[Ad,a]
theorem Ajk(VA:Array Value)(root:Nat)(fs:Ard)(a:VA.size=773)(b x:Nat):(Cd VA root fs).set (774+b) (.int .i64 (x:Nat))=Cd VA root (fs.set b x):=by
 unfold Cd;rw[Aot _ _ (by rw[Ao6,a];omega),Ao6,a,show 774+b-773=b+1 from by omega,Am9];simp[Ad,List.map_set]
theorem Ajl(VA:Array Value)(root:Nat)(fs:Ard)(a:VA.size=773)(b:Nat)(hb:b<fs.length):(Cd VA root fs)[774+b]?=some (.int .i64 (fs.getD b 0:Nat)):=by
 unfold Cd;rw[Ans (by rw[Ao6,a];omega),Ao6,a,show 774+b-773=b+1 from by omega,Apz];simp[Ad,hb]
theorem Tm(VA:Array Value)(root:Nat)(fs:Ard)(b:VA.all (·.oneCell')=true):(Cd VA root fs).toArray.all (·.oneCell')=true:=by
 have h2:=Fv fs;rw[Apw]at*;intro x c;have a:x∈Cd VA root fs:=by simpa using c
 unfold Cd at a;rcases Aq3.1 a with h|h
 ·exact b x (by simpa using h)
 rcases List.mem_cons.1 h with rfl|h
 ·rfl
 ·exact h2 x (by simpa using h)
theorem Nk:(prog.info? 98).map (·.size)=some 1030:=by kernel_rfl
theorem Ae2:(prog.underlying 98).bind (fun d=>match d with| .struct fields=>fields.toList.mapM (fun f=>(prog.info? f.type).map fun i=>(f.offset,i.size))|_=>none)=some [(0,773),(773,1),(774,256)]:=by kernel_rfl
theorem Ajm:((prog.info? 98).bind (·.zero))=some (.agg (Cd Tryz.zeroCells96 0 (List.replicate 256 0)).toArray):=by kernel_rfl
theorem Ae3:Tryz.zeroCells98=(Cd Tryz.zeroCells96 0 (List.replicate 256 0)).toArray:=by kernel_rfl
theorem Ahp(VA:Array Value)(root:Nat)(h:VA.size=773):
  prog.built 98 [(0,.agg VA),(1,.int .i64 (root:Nat))]=some (Cd VA root (List.replicate 256 0)).toArray:=by
 unfold Program.built;have b:=Ajm;have a:=Ae2;cases h1:prog.info? 98 with
 |none=>rw[h1]at b;cases b
 |some it=>
  cases h2:prog.underlying 98 with
  |none=>rw[h2]at a;cases a
  |some d=>
   rw[h1]at b;rw[h2]at a;have e:it.zero=some (.agg (Cd Tryz.zeroCells96 0 (List.replicate 256 0)).toArray):=b;cases d<;>try(cases a;done)
   rename_i fields;have c:fields.toList.mapM (fun f=>(prog.info? f.type).map fun i=>(f.offset,i.size))=some [(0,773),(773,1),(774,256)]:=a;simp only[e,c];have e0:(Value.agg (Cd Tryz.zeroCells96 0 (List.replicate 256 0)).toArray).cells=(Cd Tryz.zeroCells96 0 (List.replicate 256 0)).toArray:=rfl;rw[e0];have g:Tryz.zeroCells96.toList.length=773:=by rw[Ao6];exact Hp
   unfold Cd;generalize Tryz.zeroCells96.toList=Z at*;generalize Ad (List.replicate 256 0)=R at*;have s1:=Ls ([(0,773),(773,1),(774,256)].toArray[·]?) 0 0 773 (.agg VA) [(1,.int .i64 (root:Nat))] [] Z (.int .i64 ((0:Nat):Int)::R) VA.toList rfl (by simp[Value.cells]) (by rw[Ao6];exact h) rfl g;have s2:=Ls ([(0,773),(773,1),(774,256)].toArray[·]?) 1 773 1 (.int .i64 (root:Nat)) [] VA.toList [.int .i64 ((0:Nat):Int)] R [.int .i64 (root:Nat)] rfl rfl rfl (by rw[Ao6];exact h) rfl;rw[Aqs,Aqs]at s1;rw[s1];rw[show VA.toList++(.int .i64 ((0:Nat):Int)::R)=VA.toList++([.int .i64 ((0:Nat):Int)]++R)from rfl,s2,Instr.fill];rfl
theorem V5{P:Program}{w:World}{ops:Array Oper}{rest:List Oper}{o:Oper}{a:Act}{Q:Exit→Act→World→Prop}(b:o.guard=none)(t:TypeId)(i0 i1:Nat)(x0 x1:Operand)(d:o.op= .build t #[(i0,x0),(i1,x1)])(v0 v1:Value)(c:a.eval x0=v0)(h1:a.eval x1=v1)(cells:Array Value)(hb:P.built t [(i0,v0),(i1,v1)]=some cells)
  (h:wpList P ops Q rest (a.put o.dst (.agg cells)) w):wpList P ops Q (o::rest) a w:=by
 refine wpList_plain b fun K hK=>?_;unfold Oper.wp;rw[O6 w t _ d cells (by simp only[List.map_toArray,Aos,Aqy,c,h1];exact hb)];exact hK _ _ h
end Go.Proofs.YtegnkfdbmmndaaaGreat
