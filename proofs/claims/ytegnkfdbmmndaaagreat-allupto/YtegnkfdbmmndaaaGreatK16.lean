import Derived.Test.YtegnkfdbmmndaaaGreatK15

set_option maxHeartbeats 8000000
set_option maxRecDepth 100000
namespace Go.Proofs.YtegnkfdbmmndaaaGreat
open Hm Go.Proofs.Tryz
variable{fs:Aef}{B N n pa:Nat}{L ps ws:Aeh}{a b col l l6 l8 s t:Aeg}
section
open Go.RowKit
theorem nG(ao:Aej)(c:Nat)(fs:Aef)(N:Nat)(w:World)(hf:Az w ao fs)(dJ: ∀a,ao=some a->a.block<w.heap.size)(hm:fs.length<=40)(dy: ∀f∈fs,f.1.size<=32)
  (hn:(Ac fs).length<=6000) (h0:0<N) (hE:Hm.Ends 32 (lnB (lens (Ac fs))) (Af (lens (Ac fs))) N):
  Calls prog 51 #[.slice ao fs.length c] w fun e w'=> ∃ps:Aeh,D4 (Ac fs) ps/\e= .returned (.string ⟨(Kl fs ps (D2 (lens (Ac fs)) N (Am (Ac fs) ps))).toArray⟩)/\Aee w w':=by
 have dc:=gM ao c fs w hf hm hn;obtain⟨st,cd⟩:=gx (⟨(Ac fs).toArray⟩:ByteArray);have ef:st.data.toList=Ac fs:=by rw[cd]
 have eJ:st.size=(Ac fs).length:=by rw[cd];rfl
 rw[<-cd]at dc;obtain⟨n,bU⟩:=gx ((Ac fs).length);rw[<-bU]at hn eJ;have hC:=Hj (Ac fs) (by omega);have d5:=N4 (Ac fs) (by omega);have dI: ∀e∈Aw fs,e<=n:=fun e he=>by rw[bU];exact uD fs e he
 have Q:=aZ (aI hf (aI dJ (aI dy (aI ef (aI bU (aI hC (aI d5 (aI hE dI))))))));clear hf dJ dy ef bU hC d5 hE dI cd
 go_enter func51,ntmps51
 go_wp2_with fail;refine dc.mono ?_;rintro e w1 ⟨rfl,dF,dL⟩;clear dc;have eg:=wC st w1 (by omega);go_wp2_with fail;refine eg.mono ?_;rintro e w2 ⟨ps,rfl,cM,dV,dd⟩;clear eg;have d:=cM.sorted;rw[Q.o.2.2.2.1]at d;clear cM;have de:=nE st w2 (by omega);rw[Q.o.2.2.2.1]at de;have dG:=dF.kept dd id;have cD:=dL.tr dd;clear dL dd dF;go_wp2_with fail;refine de.mono ?_;rintro e w3 ⟨rfl,bQ⟩;clear de;have bd:=dG.kept bQ id;have b0:=dV.kept bQ id;have ae:=cD.tr bQ;clear cD bQ dG dV;obtain⟨L,bM⟩:=gx (lens (Ac fs));rw[<-bM];have aE:=aZ bM;have aU:L.length=256:=by rw[bM];exact Q.o.2.2.2.2.2.1.len
 have ad:(Ad L).toArray.size=256:=by rw[Ba,aU]
 have aV:=Ew L;have dj:Tryz.zeroCells139.size=(Ad L).toArray.size:=by rw[ad,Le,Ba,zV]
 clear bM;obtain⟨ar,aW⟩:=gx ((Ad L).toArray);rw[<-aW]at ad aV dj|-;have HA:=aZ (aI aW (aI aV dj));clear aW aV dj;have HP:=aZ (aI bd (aI b0 (aI ae d)));clear bd b0 ae d
 go_wp2_with(first
  |(refine wpList_store_row _ rfl 139 _ _ rfl w3.heap.size 139 Tryz.zeroCells139 ar rfl rfl (zY w3 _) (by rw[ad];exact Ci) HA.o.2.2 HA.o.2.1 ?_;intro w4 aK dM))
 obtain⟨bd,b0,ae,d⟩:=HP.o;have a2:Aee w3 w4:=((Aa.refl (fun _=>False) w3).alloc _).trans dM (fun j h1 h2=>by omega);have dH:=bd.kept a2 id;have b1:=b0.kept a2 id;have af:=ae.tr a2;clear bd b0 ae HP dM a2;obtain⟨b6,dC⟩: ∃b,b=w3.heap.size:=⟨_,rfl⟩;rw[<-dC]at aK|-;clear dC;have be:=jA Fa (some (J (w.heap.size+1) 0)) fs.length (Aw fs) n w4 dH.at (by rw[Dp];exact hm) hn Q.o.2.2.2.2.2.2.2.2;rw[Dp]at be;obtain⟨EB,bL⟩:=gx (Bo (Aw fs) n);rw[<-bL]at be;have d0:EB.length<=100000:=by
  rw[bL,K7,Dp];have h1:=Nw fs.length n hn;have h2:=Aa4 hm h1;have h3:n/2^Ca fs.length n<=n:=Acd _ _;omega
 obtain⟨sE,bW⟩:=gx (⟨(Ah EB).toArray⟩:ByteArray);have ee:sE.size=(EB.length+7)/8:=by rw[bW];show(Ah EB).toArray.size=_;rw[Aaa,A8]
 rw[<-bW]at be;have cS:Aside (EB=Bo (Aw fs) n/\sE=(⟨(Ah EB).toArray⟩:ByteArray)/\sE.size<=20000):=⟨bL,bW,by omega⟩;have HP:=aZ (aI b1 (aI af (aI d aK)));clear b1 af d aK dH bL d0 bW ee;generalize(Ah EB).length=lE at*;generalize Ca fs.length n=lw at*;refine be.mono ?_;rintro e w5 ⟨gE,eC,rfl,eG,bR⟩;clear be eC eG;obtain⟨b1,af,d,aK⟩:=HP.o;have b2:=b1.kept bR id;have ag:=af.tr bR;have b7:=bR.row aK id;have ds:=aZ (aI b2 (aI ag (aI d b7)));clear b1 af d aK b2 ag b7 HP bR;go_wp2_with fail;have G:(w5.alloc (.cells #[.string sE,I EB.length,S0 gE (lE+1) (lE+1),I fs.length,I lw] 87)).cell? (J w5.heap.size 0)=some (.string sE):=zP _ _ 0 _ _ _ (zY w5 _);have a3:Aee w5 (w5.alloc (.cells #[.string sE,I EB.length,S0 gE (lE+1) (lE+1),I fs.length,I lw] 87)):=(Aa.refl _ _).alloc _;generalize w5.alloc (.cells #[.string sE,I EB.length,S0 gE (lE+1) (lE+1),I fs.length,I lw] 87)=w6 at*;obtain⟨bE,cA⟩: ∃b,b=w5.heap.size:=⟨_,rfl⟩;rw[<-cA]at G|-;clear cA;obtain⟨b2,ag,d,b7⟩:=ds.o;have b3:=b2.kept a3 id;have ah:=ag.tr a3;have aL:=a3.row b7 id;have O:=d.perm;have m:ps.length=n+1:=by have:=O.length_eq;rw[<-Q.o.2.2.2.2.1]at this;simpa using this
 have aH: ∀x∈ps,x<=n:=fun x hx=>by have:=O.subset hx;rw[<-Q.o.2.2.2.2.1]at this;have:=List.mem_range.1 this;omega
 have ba:=fun(X:World) (hX:IntRow X w1.heap.size ps)=>qY w1.heap.size (n+1) st ps X hX (by omega) (by omega) (fun x hx=>by have:=aH x hx;omega);rw[Q.o.2.2.2.1,m]at ba;have bP:(Am (Ac fs) ps).length=n:=by rw[D8 O];exact Q.o.2.2.2.2.1.symm
 have db: ∀b∈Am (Ac fs) ps,b∈Af L:=fun b hb=>by rw[aE.o];exact(Q.o.2.2.2.2.2.2.1 b).2 (M5 O b hb)
 obtain⟨col,bb⟩:=gx (Am (Ac fs) ps);rw[<-bb]at ba bP db;rw[bP]at ba;have bu:=fun(ca:Aej) (cc:Nat) (X:World) (hX:X.ownsRow 0 5 1 (.slice ca col.length cc) col.length (Ag col))=>jY L N col ca cc X (by rw[aE.o];exact Q.o.2.2.2.2.2.1) (by rw[aE.o];exact Q.o.2.2.2.2.2.2.2.1) h0 hX (by omega) db;rw[bP,<-HA.o.1]at bu;obtain⟨ax,E⟩: ∃x,x=Ax (lnB L) (Bq L) (Ao (lnB L) (Af L) (2*N)).1 col N:=⟨_,rfl⟩;have ei:ax.length<=2000000:=by
  rw[E];have h1:=Mb (lnB L) (Bq L) (Ao (lnB L) (Af L) (2*N)).1 col N;have h3:N<=255:=by have h4:=Q.o.2.2.2.2.2.2.2.1.len;have h5:=Q.o.2.2.2.2.2.2.2.1.few (2*N) (zK _);omega
  have h2:N*col.length<=255*6000:=Aa4 h3 (by omega);omega
 rw[<-E]at bu;obtain⟨y,bZ⟩:=gx (⟨(Ah (ax.map fun x=>decide (x=1))).toArray⟩:ByteArray);have cO:y.size<=260000:=by rw[bZ];show(Ah _).toArray.size<=_;rw[Aaa,A8,Aai];omega
 rw[<-bZ]at bu;have du:Aside (y=(⟨(Ah (D2 L N (Am (Ac fs) ps))).toArray⟩:ByteArray)/\y.size<=260000):=⟨by rw[bZ,E,bb];rfl,cO⟩;have bG:Aside _:=bu;have cR:Aside _:=ba;have H6:=aZ (aI b3 (aI ah (aI d (aI G (aI aL (aI m aH))))));clear b2 ag d b7 b3 ah G ds a3 O aH m ba bP db bb bu E bZ ei cO;generalize ax.length=tl at*
 go_cut[8]from 11 (fun v8 wz=> ∃(tb:Nat) (t:Array Value),v8= .pointer (some (J tb 0))/\Aside (wz.heap[tb]?=some (.cells t 96 (0,0))/\t[0]?=some (.string y)/\Aee w6 wz))
 case first=>
  refine Aca (S:=fun X=>X.heap[b6]?=some (.cells ar 139 (0,0))) (by kernel_rfl) ?_ (fun hHeld=>?_)
  ·exact aL
  refine tW 0 ⟨some 24,.move (.tmp 3),9,"archive.go:21",#[],none⟩ _ ?_
  refine tW 1 ⟨some 25,.move (.tmp 5),64,"archive.go:21",#[],none⟩ _ ?_
  refine tK 3 ⟨some 27,.load 139 (.tmp 6),139,"archive.go:21",#[],none⟩ (.agg ar) (fun X hX => Fi X 139 (.tmp 6) rfl b6 rfl 139 ar (0, 0) _ hX underlying139 rfl (by rw [ad]; exact Ci)) ?_
  simp only[Act.put,zO,zW,z5];refine Aaq (rs:=[2,5]) (by kernel_rfl) (by simp) ?_;refine Aad rfl (fun K hK=>?_) (Aad rfl (fun K hK=>?_) Aal)
  ·go_simp;refine(cR.o _ (H6.o.1.kept (Aa.refl (fun _=>False) w6).drew id)).mono ?_;rintro e wa ⟨vc,rfl,bx,aG⟩;have R:Aee w6 wa:=(Aa.refl (fun _=>False) w6).drew.tr aG;have z:=Hn bx;obtain⟨ca,cc,dh,_⟩:=An z;subst dh;refine hK.o _ _ (R.row H6.o.2.2.2.2.1 id) (fun hHeld=>?_);clear hK K aG bx;refine Aaq (rs:=[4,5]) (by kernel_rfl) (by simp) ?_;refine Aad rfl (fun K hK=>?_) (Aad rfl (fun K hK=>?_) Aal)
   ·go_simp;refine(bG.o ca cc wa z).mono ?_;rintro e wb ⟨g,v,ws,rfl,b8,b5,T⟩;have bT:=R.tr T;obtain⟨t,i⟩:=gx ((A6 y tl g (Bf L) v ws n).toArray);have F:t.size=773:=by rw[i,Aaa,Cq y tl g (Bf L) v ws n (A5 _ _ _ _) b8]
    have ac:t.all (·.oneCell')=true:=by rw[i];exact Eu y tl g n (Bf L) v ws b5
    have A:t[0]?=some (.string y):=by rw[i,Aag];rfl
    rw[<-i];clear i;refine hK.o _ _ (bT.row H6.o.2.2.2.2.1 id) (fun hHeld=>?_);clear hK K T;refine Aaq (rs:=[5]) (by kernel_rfl) (by simp) ?_;refine Aad rfl (fun K hK=>?_) Aal;go_simp;have H:Aee w6 (wb.alloc (.cells Tryz.zeroCells96 96)):=bT.alloc _;have aJ:=zY wb (.cells Tryz.zeroCells96 96);have ej:=bT.size;refine hK.o _ _ (H.row H6.o.2.2.2.2.1 id) (fun hHeld=>?_);clear hK K bT R z;generalize wb.alloc (.cells Tryz.zeroCells96 96)=X at*;generalize wb.heap.size=tb at*;have B:t.size=773:=F;refine Aaq (rs:=[6]) (by kernel_rfl) (by simp) ?_;refine Aad rfl (fun K hK=>?_) Aal
    refine Cd X (op := ⟨none,.store 96 (.tmp 8) (.tmp 28),0,"archive.go:21",#[⟨5,.data⟩,⟨4,.data⟩,⟨4,.chain⟩,⟨0,.phase⟩,⟨1,.phase⟩,⟨2,.phase⟩,⟨3,.phase⟩,⟨4,.phase⟩,⟨5,.phase⟩],none⟩) rfl 96 (.tmp 8) (.tmp 28) rfl tb 96 Tryz.zeroCells96 t rfl rfl aJ (by rw [B]; exact Ce) (by rw [B]; exact Gv) ac ?_
    intro wz b9 ak;have c8:b6<w6.heap.size:=Aac H6.o.2.2.2.2.1;refine hK.o _ _ (ak.row (H.row H6.o.2.2.2.2.1 id) (by omega)) (fun hHeld=>?_);clear hK K;refine Ach (by kernel_rfl) ?_ _;have H4:Aside (wz.heap[tb]?=some (.cells t 96 (0,0))/\t[0]?=some (.string y)/\Aee w6 wz):=⟨b9,A,H.trans ak (fun j h1 h2=>by omega)⟩;go_wp2_with fail;go_meet
    case rel=>exact⟨tb,t,rfl,H4⟩
   ·go_simp;have aj:Aee w6 (wa.alloc (.cells Tryz.zeroCells96 96)):=R.alloc _;have aq:=zY wa (.cells Tryz.zeroCells96 96);have ej:=R.size;refine hK.o _ _ (aj.row H6.o.2.2.2.2.1 id) (fun hHeld=>?_);clear hK K;refine Aaq (rs:=[4]) (by kernel_rfl) (by simp) ?_;refine Aad rfl (fun K hK=>?_) Aal;go_simp;refine(bG.o ca cc _ (z.alloc _)).mono ?_;rintro e X ⟨g,v,ws,rfl,b8,b5,T⟩;have H:=aj.tr T;have aJ:=T.row aq id;obtain⟨t,i⟩:=gx ((A6 y tl g (Bf L) v ws n).toArray);have F:t.size=773:=by rw[i,Aaa,Cq y tl g (Bf L) v ws n (A5 _ _ _ _) b8]
    have ac:t.all (·.oneCell')=true:=by rw[i];exact Eu y tl g n (Bf L) v ws b5
    have A:t[0]?=some (.string y):=by rw[i,Aag];rfl
    rw[<-i];clear i;refine hK.o _ _ (H.row H6.o.2.2.2.2.1 id) (fun hHeld=>?_);clear hK K T aj aq R z;generalize wa.heap.size=tb at*;have B:t.size=773:=F;refine Aaq (rs:=[6]) (by kernel_rfl) (by simp) ?_;refine Aad rfl (fun K hK=>?_) Aal
    refine Cd X (op := ⟨none,.store 96 (.tmp 8) (.tmp 28),0,"archive.go:21",#[⟨5,.data⟩,⟨4,.data⟩,⟨4,.chain⟩,⟨0,.phase⟩,⟨1,.phase⟩,⟨2,.phase⟩,⟨3,.phase⟩,⟨4,.phase⟩,⟨5,.phase⟩],none⟩) rfl 96 (.tmp 8) (.tmp 28) rfl tb 96 Tryz.zeroCells96 t rfl rfl aJ (by rw [B]; exact Ce) (by rw [B]; exact Gv) ac ?_
    intro wz b9 ak;have c8:b6<w6.heap.size:=Aac H6.o.2.2.2.2.1;refine hK.o _ _ (ak.row (H.row H6.o.2.2.2.2.1 id) (by omega)) (fun hHeld=>?_);clear hK K;refine Ach (by kernel_rfl) ?_ _;have H4:Aside (wz.heap[tb]?=some (.cells t 96 (0,0))/\t[0]?=some (.string y)/\Aee w6 wz):=⟨b9,A,H.trans ak (fun j h1 h2=>by omega)⟩;go_wp2_with fail;go_meet
    case rel=>exact⟨tb,t,rfl,H4⟩
  ·go_simp;have aj:Aee w6 (w6.alloc (.cells Tryz.zeroCells96 96)).drew:=((Aa.refl (fun _=>False) w6).alloc _).drew;have aq:(w6.alloc (.cells Tryz.zeroCells96 96)).drew.heap[w6.heap.size]?=some (.cells Tryz.zeroCells96 96 (0,0)):=zY w6 _;refine hK.o _ _ (aj.row H6.o.2.2.2.2.1 id) (fun hHeld=>?_);clear hK K;refine Aaq (rs:=[2]) (by kernel_rfl) (by simp) ?_;refine Aad rfl (fun K hK=>?_) Aal;go_simp;refine(cR.o _ (H6.o.1.kept aj id)).mono ?_;rintro e wa ⟨vc,rfl,bx,aG⟩;have R:=aj.tr aG;have cP:=aG.row aq id;have z:=Hn bx;obtain⟨ca,cc,dh,_⟩:=An z;subst dh;refine hK.o _ _ (R.row H6.o.2.2.2.2.1 id) (fun hHeld=>?_);clear hK K aG bx aq aj;refine Aaq (rs:=[4]) (by kernel_rfl) (by simp) ?_;refine Aad rfl (fun K hK=>?_) Aal;go_simp;refine(bG.o ca cc wa z).mono ?_;rintro e X ⟨g,v,ws,rfl,b8,b5,T⟩;have H:=R.tr T;have aJ:=T.row cP id;obtain⟨t,i⟩:=gx ((A6 y tl g (Bf L) v ws n).toArray);have F:t.size=773:=by rw[i,Aaa,Cq y tl g (Bf L) v ws n (A5 _ _ _ _) b8]
   have ac:t.all (·.oneCell')=true:=by rw[i];exact Eu y tl g n (Bf L) v ws b5
   have A:t[0]?=some (.string y):=by rw[i,Aag];rfl
   rw[<-i];clear i;refine hK.o _ _ (H.row H6.o.2.2.2.2.1 id) (fun hHeld=>?_);clear hK K T cP R z;obtain⟨tb,eh⟩:=gx w6.heap.size;rw[<-eh]at aJ|-;have ej:w6.heap.size<=tb:=by omega
   have B:t.size=773:=F;refine Aaq (rs:=[6]) (by kernel_rfl) (by simp) ?_;refine Aad rfl (fun K hK=>?_) Aal
   refine Cd X (op := ⟨none,.store 96 (.tmp 8) (.tmp 28),0,"archive.go:21",#[⟨5,.data⟩,⟨4,.data⟩,⟨4,.chain⟩,⟨0,.phase⟩,⟨1,.phase⟩,⟨2,.phase⟩,⟨3,.phase⟩,⟨4,.phase⟩,⟨5,.phase⟩],none⟩) rfl 96 (.tmp 8) (.tmp 28) rfl tb 96 Tryz.zeroCells96 t rfl rfl aJ (by rw [B]; exact Ce) (by rw [B]; exact Gv) ac ?_
   intro wz b9 ak;have c8:b6<w6.heap.size:=Aac H6.o.2.2.2.2.1;refine hK.o _ _ (ak.row (H.row H6.o.2.2.2.2.1 id) (by omega)) (fun hHeld=>?_);clear hK K;refine Ach (by kernel_rfl) ?_ _;have H4:Aside (wz.heap[tb]?=some (.cells t 96 (0,0))/\t[0]?=some (.string y)/\Aee w6 wz):=⟨b9,A,H.trans ak (fun j h1 h2=>by omega)⟩;go_wp2_with fail;go_meet
   case rel=>exact⟨tb,t,rfl,H4⟩
 case rest=>
  obtain⟨tb,t,rfl,H7⟩:=hcut;clear bG cR aL;obtain⟨eo,A,ai⟩:=H7.o;obtain⟨b3,ah,d,G,aL,m,aH⟩:=H6.o;have df:=b3.kept ai id;have cE:=ah.tr ai;have em:=ai.row aL id;have c9:=(ai.cell (p:=(J bE 0)) (z9 _ _ G) id).trans G;have cC:wc.cell? (J tb 0)=some (.string y):=(zP _ _ 0 _ _ _ eo).trans A;have cb:=aD Fa N7 (some (J w1.heap.size 0)) (n+1) ps wc df.at (by omega) (by omega) (fun x hx=>by have:=aH x hx;omega);rw[m,Acn]at cb;obtain⟨SB,bO⟩:=gx (Bb ps);have d7:SB.length<=100000:=by
   rw[bO,E0 (n:=n) (by have h2:=d.perm;rw[<-Q.o.2.2.2.2.1]at h2;exact h2)];have e9:Lib.bitLen (n/8)<=10:=Lib.bitLen_le _ 10 (by omega) (by omega);have:(n/8+1)*Lib.bitLen (n/8)<=751*10:=Aa4 (by omega) e9;omega
  obtain⟨sS,bY⟩:=gx (⟨(Ah SB).toArray⟩:ByteArray);have cN:sS.size<=20000:=by rw[bY];show(Ah SB).toArray.size<=_;rw[Aaa,A8];omega
  rw[<-bO,<-bY]at cb;have cU:=aZ (aI bO (aI bY cN));have H8:=aZ (aI df (aI cE (aI c9 (aI cC (aI em (aI d m))))));clear eo A ai b3 ah d G aL m aH df cE em c9 cC H7 H6 bO d7 bY cN;generalize(Ah SB).length=lS at*;generalize SB.length=lSB at*;go_wp2_with fail;refine cb.mono ?_;rintro e aM ⟨gS,eD,rfl,eH,cG⟩;clear cb eD eH;have aF:Aee wc (aM.alloc (.cells #[.string sS,I lSB,S0 gS (lS+1) (lS+1),I n] 100)):=cG.alloc _;have cZ:(aM.alloc (.cells #[.string sS,I lSB,S0 gS (lS+1) (lS+1),I n] 100)).cell? (J aM.heap.size 0)=some (.string sS):=zP _ _ 0 _ _ _ (zY aM _);go_upto_region 7 with fail
  generalize aM.alloc (.cells #[.string sS,I lSB,S0 gS (lS+1) (lS+1),I n] 100)=W at*;obtain⟨bS,cB⟩: ∃b,b=aM.heap.size:=⟨_,rfl⟩;rw[<-cB]at cZ|-;clear cB cG;obtain⟨dW,cF,aX,aY,en,d,m⟩:=H8.o;have HB:Aside (IntRow W w1.heap.size ps/\Aee w W/\W.cell? (J bE 0)=some (.string sE)/\W.cell? (J tb 0)=some (.string y)/\W.cell? (J bS 0)=some (.string sS)/\W.heap[b6]?=some (.cells ar 139 (0,0))/\D4 (Ac fs) ps/\ps.length=n+1):=
   ⟨dW.kept aF id,cF.tr aF,(aF.cell (p:=(J bE 0)) (z9 _ _ aX) id).trans aX,(aF.cell (p:=(J tb 0)) (z9 _ _ aY) id).trans aY,cZ,aF.row en id,d,m⟩
  clear dW cF aX aY en d m H8 aF cZ;obtain⟨i0,hi,ce,cf,cg⟩:=Aa6 Ft;have kc:=fun(C:Array Value) (n c:Nat)=>Lib.run_convert_bytes_const (P:=prog) W 79 5 C n c underlying79 underlying5
  go_wp2_with(at_builtin;refine wpList_append_grows _ rfl (.tmp 33) (.tmp 37) 79 rfl 5 i0 (.int .u8 0) 1 1 underlying79 hi ce cf cg rfl (by decide) (some (J W.heap.size 0)) 6 6 [.int .u8 72,.int .u8 79,.int .u8 65,.int .u8 82,.int .u8 68,.int .u8 49] rfl (fun h=>by cases h) rfl ?d1 (J (W.heap.size+1) 0) 1 1 [.int .u8 (fs.length:Int)] rfl rfl ?d2 ?d3 (by decide) (by unfold maxLen;decide) (by decide) ?_)
  case d1=>
   intro b hb j u U;cases hb;have hz:=Ab2 W (.cells #[.int .u8 72,.int .u8 79,.int .u8 65,.int .u8 82,.int .u8 68,.int .u8 49] 5 (6,7)) (.cells #[.int .u8 (fs.length:Int)] 5);rw[Addr.add_lit,Aao,zP _ _ j _ _ _ hz];simpa using U
  case d2=>
   intro j u U;have hz:=zY (W.alloc (.cells #[.int .u8 72,.int .u8 79,.int .u8 65,.int .u8 82,.int .u8 68,.int .u8 49] 5 (6,7))) (.cells #[.int .u8 (fs.length:Int)] 5);rw[show(W.alloc (.cells #[.int .u8 72,.int .u8 79,.int .u8 65,.int .u8 82,.int .u8 68,.int .u8 49] 5 (6,7))).heap.size=W.heap.size+1 from by simp]at hz;rw[Addr.add_lit,Aao,zP _ _ j _ _ _ hz];simpa using U
  case d3=>intro u hu;simp at hu;subst hu;rfl
  intro ep bB bv bf;clear kc;have bn:Aee W bB:=(((Aa.refl (fun _=>False) W).alloc _).alloc _).grown bf (fun k hk=>by cases hk);obtain⟨q,au⟩:=gx W.heap.size;have dz:q+1+1<=bB.heap.size:=by have:=bf.size;simp at this;omega
  obtain⟨bz,av,ay,a0,az,V,d,m⟩:=HB.o;have fo:w1.heap.size<q:=by rw[au];exact bz.lt
  have eX:b6<q:=by rw[au];exact Aac V
  have eY:bE<q:=by rw[au];exact z9 _ _ ay
  have fa:tb<q:=by rw[au];exact z9 _ _ a0
  have eZ:bS<q:=by rw[au];exact z9 _ _ az
  have fp:w.heap.size<=q:=by rw[au];exact av.size
  have c3:Aa (fun j=>q<=j) W bB:=bn.wider (fun _ _ h=>h.elim);have Y:bB.ownsRow q 5 1 ep 7 (Ag [72,79,65,82,68,49,UInt8.ofNat fs.length]):=by
   have e:Ag [72,79,65,82,68,49,UInt8.ofNat fs.length]=[.int .u8 72,.int .u8 79,.int .u8 65,.int .u8 82,.int .u8 68,.int .u8 49,.int .u8 (fs.length:Int)]:=by
    unfold Ag;simp only[Abg,Adv];rw[U2 (by omega)];rfl
   rw[e];exact Fs bv (fun k hk=>by have:=bv.lt k hk;omega)
  have HK:Aside (∀X,Aa (fun j=>q<=j) W X->IntRow X w1.heap.size ps/\Aee w X/\X.cell? (J bE 0)=some (.string sE)/\X.cell? (J tb 0)=some (.string y)/\X.cell? (J bS 0)=some (.string sS)/\X.heap[b6]?=some (.cells ar 139 (0,0))):=fun X hX=>
   ⟨bz.kept hX (by omega),av.trans hX (fun j h1 h2=>by omega),(hX.cell (p:=(J bE 0)) (z9 _ _ ay) (by show¬q<=bE;omega)).trans ay,(hX.cell (p:=(J tb 0)) (z9 _ _ a0) (by show¬q<=tb;omega)).trans a0,(hX.cell (p:=(J bS 0)) (z9 _ _ az) (by show¬q<=bS;omega)).trans az,hX.row V (by omega)⟩
  have bH:=aZ (aI d m);clear bz av ay a0 az V d m HB bv bf bn au;generalize bo:[72,79,65,82,68,49,UInt8.ofNat fs.length]=l14 at Y;have bp:l14.length=7:=by rw[<-bo];rfl
  have cs:=aZ bo;clear bo;have d8:=Mn q ep 7 n 2 l14 bB Y (by omega) (by omega) (by omega) (by omega);go_wp2_with fail;refine d8.mono ?_;rintro e bC ⟨eK,rfl,bw,bj,dN⟩;clear d8;have aO:Aa (fun j=>q<=j) W bC:=c3.trans bj (fun j _ U=>(Y.lt j U).1);have dY:q+1+1<=bC.heap.size:=by have:=bj.size;omega
  clear Y bj dN c3 dz;obtain⟨dX,eI⟩:=I2 (n:=n) (ps:=ps) (by have h2:=bH.o.1.perm;rw[<-Q.o.2.2.2.2.1]at h2;exact h2);have bV:=wP w1.heap.size (n+1) ps bC (HK.o bC aO).1 (by have:=bH.o.2;omega);rw[dX,bH.o.2]at bV;obtain⟨r,hr⟩:=gx (Av ps);rw[<-hr]at bV eI;have HR:=aZ hr;have d9:=Mn q eK 9 r 2 (l14++Hm.leBytes n 2) bC bw (by omega) (by omega) (by omega) (by omega);clear dX hr;go_wp2_with fail;refine bV.mono ?_;rintro e fy ⟨rfl,rfl⟩;clear bV;go_wp2_with fail;refine d9.mono ?_;rintro e ck ⟨eL,rfl,al,bk,dO⟩;clear d9;have aP:Aa (fun j=>q<=j) W ck:=aO.trans bk (fun j _ U=>(bw.lt j U).1);have dZ:q+1+1<=ck.heap.size:=by have:=bk.size;omega
  clear bw bk dO aO dY;obtain⟨dk,a4⟩: ∃l,l=l14++Hm.leBytes n 2++Hm.leBytes r 2:=⟨_,rfl⟩;rw[<-a4]at al;have bq:dk.length=11:=by rw[a4,zL,zL,bp,Cp,Cp]
  have ct:=aZ a4;clear a4 bp;have dA:=i4 q eL 11 c ao fs dk ck al (by omega) (Q.o.1.kept (HK.o ck aP).2.1 (fun _ _=>id)) (fun a ha h=>by have h2:=(al.lt _ h).1;have:=Q.o.2.1 a ha;omega) hm Q.o.2.2.1 (by omega);have eE:=Jk fs Q.o.2.2.1;go_wp2_with fail;refine dA.mono ?_;rintro e cm ⟨eM,rfl,aA,bl,dP⟩;clear dA;have aQ:Aa (fun j=>q<=j) W cm:=aP.trans bl (fun j _ U=>(al.lt j U).1);have ea:q+1+1<=cm.heap.size:=by have:=bl.size;omega
  clear al bl dP aP dZ;obtain⟨NB,bN⟩:=gx ((Hm.nameBytes fs).length);obtain⟨ch,a5⟩: ∃l,l=dk++Hm.nameBytes fs:=⟨_,rfl⟩;rw[<-a5,<-bN]at aA;rw[<-bN]at eE;have br:ch.length=11+NB:=by rw[a5,zL,bq,bN]
  have cu:=aZ a5;clear a5 bq bN;have cJ:=Ls bE 0 sE cm (HK.o cm aQ).2.2.1;have fc:=cS.o.2.2;go_upto_region 13 with(first
   |(go_at_call 104;refine cJ.mono ?_;rintro e fz ⟨rfl,rfl⟩)
   |(at_builtin;refine E3 _ rfl (.tmp 50) (.tmp 53) 79 9 rfl q 5 i0 underlying79 underlying9 hi ce cf cg _ _ _ rfl aA sE rfl (by unfold maxLen;omega) (by omega) (by omega) ?_;intro eN cn am bg dQ _))
  have aR:Aa (fun j=>q<=j) W cn:=aQ.trans ((Aa.refl (fun j=>eM.ownBlock=some j) _).grown bg (fun k hk=> .inr hk)) (fun j _ U=>(aA.lt j U).1);have c0:Ag ch++Lib.strCells sE=Ag (ch++sE.data.toList):=by simp[Ag,Lib.strCells]
  rw[c0]at am;obtain⟨dl,a6⟩: ∃l,l=ch++sE.data.toList:=⟨_,rfl⟩;rw[<-a6]at am;have bs:dl.length=11+NB+sE.size:=by rw[a6,zL,br];simp
  have cv:=aZ a6;have eb:q+1+1<=cn.heap.size:=by have:=bg.size;omega
  clear aA a6 br bg dQ aQ cJ c0 ea;have aB:=(HK.o cn aR).2.2.2.2.2;have bA: ∀x∈L,x<=255:=fun x hx=>by
   obtain⟨k,hk,e⟩:=Aa5 hx;have h1:Bz L:=by rw[aE.o];exact Q.o.2.2.2.2.2.1
   have:=h1.short (UInt8.ofNat k);have e1:(UInt8.ofNat k).toNat=k:=by rw[Aax,Aby (by omega)]
   rw[lnB,e1,zG,zH hk]at this;have e2:L[k]<=32:=this;omega
  have cY:=bX q eN (11+NB+sE.size) dl L cn am (by omega) aU bA (by omega);rw[<-HA.o.1]at cY;have dD:(Aj L).length<=256:=Ex L 256
  go_wp2_with(first
   |(refine Aa0 rfl 139 _ rfl b6 rfl 139 ar (0,0) _ aB underlying139 rfl (by rw[ad];exact Ci) ?_))
  refine cY.mono ?_;rintro e co ⟨eO,rfl,an,bm,dR⟩;clear cY aB bA;have aS:Aa (fun j=>q<=j) W co:=aR.trans bm (fun j _ U=>(am.lt j U).1);have ec:q+1+1<=co.heap.size:=by have:=bm.size;omega
  obtain⟨cl,a1⟩:=gx ((Aj L).length);obtain⟨ci,a7⟩: ∃l,l=dl++Hm.leBytes (Aj L).length 2++B4 L (Aj L):=⟨_,rfl⟩;rw[<-a7,<-a1]at an;rw[<-a1]at dD;have aw:ci.length=11+NB+sE.size+2+2*cl:=by
   rw[a7,zL,zL,bs,Cp,Iv,a1]
  have cw:=aZ a7;clear am a7 bs bm dR aR eb a1;obtain⟨bI,c6⟩: ∃x,x=11+NB+sE.size+2+2*cl:=⟨_,rfl⟩;rw[<-c6]at an aw;have e7:bI<=30000:=by omega
  clear c6;have cK:=Ls tb 0 y co (HK.o co aS).2.2.2.1;have fe:=du.o.2;go_upto_region 15 with(first
   |(go_at_call 104;refine cK.mono ?_;rintro e f0 ⟨rfl,rfl⟩)
   |(at_builtin;refine E3 _ rfl (.tmp 58) (.tmp 61) 79 9 rfl q 5 i0 underlying79 underlying9 hi ce cf cg _ _ _ rfl an y rfl (by unfold maxLen;omega) (by omega) (by omega) ?_;intro eP cp ap bh dS _))
  have aT:Aa (fun j=>q<=j) W cp:=aS.trans ((Aa.refl (fun j=>eO.ownBlock=some j) _).grown bh (fun k hk=> .inr hk)) (fun j _ U=>(an.lt j U).1);have c1:Ag ci++Lib.strCells y=Ag (ci++y.data.toList):=by simp[Ag,Lib.strCells]
  rw[c1]at ap;obtain⟨cj,a8⟩: ∃l,l=ci++y.data.toList:=⟨_,rfl⟩;rw[<-a8]at ap;have bt:cj.length=bI+y.size:=by rw[a8,zL,aw];simp
  have cx:=aZ a8;have ed:q+1+1<=cp.heap.size:=by have:=bh.size;omega
  clear an a8 aw bh dS aS cK c1 ec;have cL:=Ls bS 0 sS cp (HK.o cp aT).2.2.2.2.1;have fd:=cU.o.2.2;go_upto_region 16 with(first
   |(go_at_call 104;refine cL.mono ?_;rintro e f1 ⟨rfl,rfl⟩)
   |(at_builtin;refine E3 _ rfl (.tmp 63) (.tmp 66) 79 9 rfl q 5 i0 underlying79 underlying9 hi ce cf cg _ _ _ rfl ap sS rfl (by unfold maxLen;omega) (by omega) (by omega) ?_;intro fv cq D bi dT _))
  have c4:Aa (fun j=>q<=j) W cq:=aT.trans ((Aa.refl (fun j=>eP.ownBlock=some j) _).grown bi (fun k hk=> .inr hk)) (fun j _ U=>(ap.lt j U).1);have c2:Ag cj++Lib.strCells sS=Ag (cj++sS.data.toList):=by simp[Ag,Lib.strCells]
  rw[c2]at D;obtain⟨Z,a9⟩: ∃l,l=cj++sS.data.toList:=⟨_,rfl⟩;rw[<-a9]at D;have M:Z.length=bI+y.size+sS.size:=by rw[a9,zL,bt];simp
  have cy:=aZ a9;have fb:q+1+1<=cq.heap.size:=by have:=bi.size;omega
  clear ap a9 bt bi dT aT cL c2 ed;obtain⟨bJ,c7⟩: ∃x,x=bI+y.size+sS.size:=⟨_,rfl⟩;rw[<-c7]at D M;have e8:bJ<=400000:=by omega
  have cX:0<bJ:=by
   have h1:=cy.o;have h2:=cx.o;have h3:=cw.o;have h4:=cv.o;have h5:=cu.o;have h6:=ct.o;have h7:=cs.o;rw[<-M,h1,h2,h3,h4,h5,h6,<-h7];simp
  clear c7;obtain⟨e4,e0,ek,_,_⟩:=Co D cX;subst ek;have dg:=pB e4 0 bJ e0 Z cq M.symm (by omega) (fun j U=>by
   have dK:j<Z.length:=by omega
   rw[Aao,D.cellAt j (by omega),Ag,Aah,zH dK,zG,zH dK];rfl)
  have dE:=Vt Z;obtain⟨cr,bc⟩:=gx (crc Z);rw[<-bc]at dg dE;have ez:=aZ bc;have dB:=Mn q _ bJ cr 4 Z cq D (by omega) dE (by omega) (by omega);have fr:=aZ M;clear bc M;go_wp2_with fail;refine dg.mono ?_;rintro e f2 ⟨rfl,el⟩;subst el;clear dg;go_wp2_with fail;refine dB.mono ?_;rintro e er ⟨fw,rfl,cI,cH,dU⟩;clear dB;have c5:Aa (fun j=>q<=j) W er:=c4.trans cH (fun j _ U=>(D.lt j U).1);have eA:=Ho cI;have d4:=aZ ((HK.o er c5).2.1);have d6:Aside (Z++Hm.leBytes cr 4=Kl fs ps (D2 L N (Am (Ac fs) ps))):=by
   have da:Z=Cr fs ps (D2 L N (Am (Ac fs) ps)):=by
    rw[cy.o,cx.o,cw.o,cv.o,cu.o,ct.o,<-cs.o,HR.o,cS.o.2.1,cS.o.1,du.o.1,cU.o.2.1,cU.o.1,Q.o.2.2.2.2.1];unfold Cr;rw[<-aE.o]
   show _=_;unfold Kl;rw[<-da,ez.o]
  obtain⟨fu,b4⟩: ∃s,s=(⟨(Z++Hm.leBytes cr 4).toArray⟩:ByteArray):=⟨_,rfl⟩;rw[<-b4]at eA;have dt:=aZ b4;clear D cI c4 c5 cH dU b4;go_wp2;go_ret;refine⟨ps,bH.o.1,?_,d4.o⟩;rw[<-aE.o,<-d6.o,<-dt.o];rfl
namespace Hm
theorem eS: ∀(fs:Aef) (ah:ByteArray) (a:Nat),I3 ah a fs=0->(∀f∈fs,f.1.size<=32/\f.2.size<=3000)/\a+(Ac fs).length<=6000
 |[],ah,a,h=>by
  unfold I3 at h;split at h
  ·omega
  ·exact⟨fun f c=>(by simp at c),by simp[Ac];omega⟩
 |f::r,ah,a,h=>by
  rw[I3]at h;split at h
  ·rename_i h1;have h2:=Vu h1;obtain⟨b,i⟩:=eS r f.1 (a+f.2.size) h;refine⟨fun g d=>?_,?_⟩
   ·rcases List.mem_cons.1 d with e|e
    ·subst e;exact⟨h2.2.1,h2.1⟩
    ·exact b g e
   ·have e:(Ac (f::r)).length=f.2.size+(Ac r).length:=by
     unfold Ac;rw[Aa3,zL];simp
    omega
  ·omega
theorem Ia(h:Bu fs=0):fs.length<=40/\(∀f∈fs,f.1.size<=32/\f.2.size<=3000)/\(Ac fs).length<=6000:=by
 unfold Bu at h;split at h
 ·omega
 ·have:=eS fs _ 0 h;exact⟨by omega,this.1,by omega⟩
structure Cy(fs:Aef)(s:Aeg):Prop where
 is: ∃ps N,D4 (Ac fs) ps/\0<N/\Ends 32 (lnB (lens (Ac fs))) (Af (lens (Ac fs))) N/\s=Kl fs ps (D2 (lens (Ac fs)) N (Am (Ac fs) ps))
def J3(fs:Aef)(e:Ending):Prop:=
 (Bu fs≠0/\e= .returned (.tuple #[.string ⟨#[]⟩,I (Bu fs)]))\/(Bu fs=0/\ ∃s:Aeg,Cy fs s/\e= .returned (.tuple #[.string ⟨s.toArray⟩,I 0]))
end Hm
theorem Zd(m:Aej)(c:Nat)(fs:Aef)(w:World)(j:Az w m fs)(h: ∀a,m=some a->a.block<w.heap.size)(y:fs.length<=140737488355328)(i: ∀f∈fs,f.1.size<=140737488355328/\f.2.size<=140737488355328):
  Calls prog 20 #[.slice m fs.length c] w fun e w'=>J3 fs e/\Aee w w':=by
 have b:=uF m c fs w j y i
 by_cases d:Bu fs=0
 ·obtain⟨B,n,hn⟩:=Ia d;obtain⟨N,z,x⟩:=(Hj (Ac fs) hn).ends;have p:=fun W (hk:Aee w W)=>nG m c fs N W (j.kept hk (fun _ _=>id)) (fun a A=>by have:=h a A;have:=hk.size;omega) B (fun f j=>(n f j).1) hn z x;have k:Aside _:=p;have l:=aZ (aI d (aI z x));rw[d]at b;clear j h i n hn x p d y
  go_enter func20,ntmps20
  go_wp2_with fail;refine b.mono ?_;rintro e w2 ⟨rfl,hk⟩;clear b;go_wp2_with fail;refine(k.o w2 hk).mono ?_;rintro e D ⟨ps,t,rfl,r⟩;have q:=hk.tr r;obtain⟨s,hs⟩:=gx (⟨(Kl fs ps (D2 (lens (Ac fs)) N (Am (Ac fs) ps))).toArray⟩:ByteArray);rw[<-hs];have HS:Aside _:=hs;have v:Aside _:=t;clear hs r k t;go_wp2;go_ret2;exact⟨.inr ⟨l.o.1,_,⟨ps,N,v.o,l.o.2.1,l.o.2.2,rfl⟩,by rw[<-HS.o];rfl⟩,q⟩
 ·have hb:(Bu fs !=0)=true:=by rw[bne_iff_ne];exact d
  have l:=aZ d;clear j h i d y;obtain⟨C,g⟩:=gx (Bu fs);rw[<-g]at b hb;have u:=aZ g;clear g
  go_enter func20,ntmps20
  go_wp2_with(go_at_call 50;refine b.mono ?_;rintro e w2 ⟨rfl,hk⟩)
  go_ret2;exact⟨.inl ⟨l.o,by rw[<-u.o];rfl⟩,hk⟩
end
namespace Hm
theorem Pu(x:Nat): ∀k,Dq (leBytes x k)=x%256^k
 |0=>by simp[leBytes,Dq,Nat.mod_one]
 |k+1=>by
  rw[leBytes,U4,Pu x k,Cp,Nat.mod_pow_succ];have:Dq [UInt8.ofNat (x/256^k)]=x/256^k%256:=by simp[Dq]
  rw[this]
theorem Uh(x k:Nat)(h:x<256^k):Dq (leBytes x k)=x:=by rw[Pu,Aby h]
theorem Ro(a b:Aeg)(k:Nat)(h:a.length=k):Be (some (a++b)) k=(a,some b):=by
 subst h;rw[Gx (by rw[zL];omega),Adi,Ad4]
theorem Mu(x k:Nat)(b:Aeg)(h:x<256^k):B7 (some (leBytes x k++b)) k=(x,some b):=by
 unfold B7;rw[Ro _ _ _ (Cp x k),Uh x k h]
theorem Kr(x:Nat):leBytes x 1=[UInt8.ofNat x]:=by simp[leBytes]
theorem Yg(fs:Aef)(b:Aeg)(hs: ∀f∈fs,f.1.size<=32): ∀k,k<=fs.length->At k (some (nameBytes fs++b))=((fs.take k).map (·.1),some (nameBytes (fs.drop k)++b))
 |0,_=>by simp[At]
 |k+1,hk=>by
  have d:=Yg fs b hs k (by omega);have a:k<fs.length:=by omega
  have c:=hs fs[k] (z6 a);have e:nameBytes (fs.drop k)=leBytes fs[k].1.size 1++(fs[k].1.data.toList++nameBytes (fs.drop (k+1))):=by
   rw[Aan a,Kr];unfold nameBytes;rw[Aa3];simp
  rw[At,d,e,Aaj,Mu _ _ _ (by omega),Aaj,Ro _ _ _ (by simp)];rw[zQ a,Abt];rfl
def I4(L:Aeh)(l:Aeg):Aeh:=(List.range 256).map fun j=>if UInt8.ofNat j∈l then L.getD j 0 else 0
theorem Io(L:Aeh)(l:Aeg):(I4 L l).length=256:=by unfold I4;rw[Aai,Acb]
theorem Yh(L:Aeh)(l:Aeg)(b:UInt8):(I4 L l).set b.toNat (L.getD b.toNat 0)=I4 L (l++[b]):=by
 apply Aa1 (by rw[Abb,Io,Io]);intro j h1 h2;rw[Io]at h2;rw[Ac5];unfold I4;simp only[Abu,Adp,Ad7,List.mem_singleton]
 by_cases e:b.toNat=j
 ·subst e;simp
 ·have: ¬UInt8.ofNat j=b:=fun x=>e (by rw[<-x];simp;omega);rw[if_neg e];simp[this]
theorem aN(L:Aeh)(l b:Aeg)(c: ∀x∈L,x<=255): ∀k,k<=l.length->B6 (some (B4 L l++b)) k=(I4 L (l.take k),some (B4 L (l.drop k)++b))
 |0,_=>by
  have:I4 L []=List.replicate 256 0:=by
   apply Aa1 (by rw[Io,zV]);intro j h1 h2;unfold I4;simp only[Abu,List.getElem_replicate,List.not_mem_nil,if_false]
  rw[B6,Aed,Ad3,this]
 |k+1,hk=>by
  have d:=aN L l b c k (by omega);have a:k<l.length:=by omega
  have f:L.getD l[k].toNat 0<=255:=by
   rw[zG];cases h:L[l[k].toNat]? with
   |none=>simp
   |some y=>exact c y (List.mem_of_getElem? h)
  have e:B4 L (l.drop k)=[l[k],UInt8.ofNat (L.getD l[k].toNat 0)]++B4 L (l.drop (k+1)):=by
   rw[Aan a];rfl
  rw[B6,d,Hu];simp only;rw[e,Aaj,Ro _ _ 2 rfl];simp only[List.getD_cons_zero,Aea];rw[zQ a,<-Yh];simp only[Prod.mk.injEq,and_true];congr 1;rw[Aax];omega
end Hm
namespace Hm
theorem kC(L:Aeh)(j:Nat)(c:j<256):UInt8.ofNat j∈Aj L↔0<L.getD j 0:=by
 unfold Aj Bx;rw[List.mem_map];constructor
 ·rintro⟨i,hi,e⟩;obtain⟨h1,h2⟩:=List.mem_filter.1 hi;have b:=List.mem_range.1 h1;have a:=congrArg UInt8.toNat e;rw[Aax,Aax,Aby (by omega),Aby (by omega)]at a;subst a;exact Aay h2
 ·intro h;exact⟨j,List.mem_filter.2 ⟨List.mem_range.2 c,zJ h⟩,rfl⟩
theorem rA(L:Aeh)(l:Aeg)(j:Nat)(a:j<256):(I4 L l)[j]?=some (if UInt8.ofNat j∈l then L.getD j 0 else 0):=by
 unfold I4;rw[Aah,Abn a];rfl
theorem Vv(L:Aeh)(c:L.length=256):I4 L (Aj L)=L:=by
 apply List.ext_getElem?;intro j
 by_cases a:j<256
 ·have b:=kC L j a;have e:L.getD j 0=L[j]:=by rw[zG,zH (by omega)];rfl
  rw[rA L _ j a,zH (by omega),<-e];split
  ·rfl
  ·rename_i hn;rw[b]at hn;rw[show L.getD j 0=0 by omega]
 ·rw[Aam (by rw[Io];omega),Aam (by omega)]
theorem pC(L:Aeh)(b:Aeg)(a:L.length=256)(e: ∀x∈L,x<=255):rdL (some (leBytes (Aj L).length 2++(B4 L (Aj L)++b)))=(L,some b):=by
 have c:=Ex L 256;have d:(Aj L).length<=256:=c;unfold rdL;rw[Mu _ _ _ (by omega)];show B6 (some (B4 L (Aj L)++b)) (Aj L).length=_;rw[aN L (Aj L) b e _ (zK _),Aaw,Ab7,Vv L a];rfl
theorem kD(fs:Aef)(n r:Nat)(X:Aeg)(i:fs.length<=255)(hn:n<65536)(h:r<=n)(hs: ∀f∈fs,f.1.size<=32):
  let s:=[72,79,65,82,68,49,UInt8.ofNat fs.length]++(leBytes n 2++(leBytes r 2++(nameBytes fs++X)))
  (rdF s).1=fs.length/\(rdN s).1=n/\(rdR s).1=r/\rdM s=(fs.map (·.1),some X):=by
 intro s;have d:s=[72,79,65,82,68,49]++(leBytes fs.length 1++(leBytes n 2++(leBytes r 2++(nameBytes fs++X)))):=by rw[Kr];rfl
 have e:rdA s=some (leBytes fs.length 1++(leBytes n 2++(leBytes r 2++(nameBytes fs++X)))):=by
  unfold rdA;rw[d,Ro _ _ 6 rfl,Aa2];rfl
 have a:rdF s=(fs.length,some (leBytes n 2++(leBytes r 2++(nameBytes fs++X)))):=by
  unfold rdF;rw[e,Mu _ _ _ (by omega)]
 have b:rdN s=(n,some (leBytes r 2++(nameBytes fs++X))):=by
  unfold rdN;rw[a];exact Mu _ _ _ (by omega)
 have c:rdR s=(r,some (nameBytes fs++X)):=by
  unfold rdR;rw[b];exact Mu _ _ _ (by omega)
 have g:rdB s=some (nameBytes fs++X):=by
  unfold rdB;rw[c,b];exact if_pos (zJ h)
 refine⟨by rw[a],by rw[b],by rw[c],?_⟩;unfold rdM;rw[a,g];show At fs.length _=_;rw[Yg fs X hs _ (zK _),Aaw,Ab7];rfl
end Hm
namespace Hm
theorem cW(f:Nat->Bool)(bs:List Bool)(h: ∀p,p<bs.length->f p=bs.getD p false): ∀q,q<=bs.length->rk f q=(bs.take q).countP id
 |0,_=>by simp[rk]
 |q+1,c=>by
  have b:=cW f bs h q (by omega);have e:rk f (q+1)=rk f q+(f q).toNat:=rfl;have h1:=h q (by omega);have a:bs.take (q+1)=bs.take q++[bs.getD q false]:=by
   rw[List.take_add_one,zG,zH (show q<bs.length by omega)];rfl
  rw[e,a,Ab0,<-b,h1];cases bs.getD q false<;>rfl
theorem Vw(n:Nat):(List.range (n+1)).countP (fun p=>decide (p%8=0))=n/8+1:=by
 induction n with
 |zero=>rfl
 |succ n ih=>
  rw[Acm,Ab0,ih,Abi,Adm]
  by_cases h:(n+1)%8=0
  ·rw[zJ h];simp;omega
  ·rw[zM h];simp;omega
theorem Mv(bits:List Bool):(Ah bits).length=szB bits.length:=A8 bits
theorem aO(h:ps.Perm (List.range (n+1)))(X:Aeg):Hz (Ah (Bb ps)++X) n/\(Ah (Bb ps)++X).drop (szB (Ap n))=X:=by
 have c:ps.length=n+1:=by have:=h.length_eq;simpa using this
 have b:ps.countP (fun p=>decide (p%8=0))=n/8+1:=by rw[h.countP_eq,Vw]
 have hs:(Bb ps).length=Ap n:=E0 h;have a:(Ah (Bb ps)).length=szB (Ap n):=by rw[Mv,hs]
 have ht:(Ah (Bb ps)++X).take (szB (Ap n))=Ah (Bb ps):=by rw[<-a,Adi]
 refine⟨⟨by rw[zL];omega,?_⟩,by rw[<-a,Ad4]⟩;rw[ht,cW _ (Bb ps) (fun p _=>Mz _ p) (n+1) (by rw[hs];unfold Ap;omega)];unfold Bb;rw[List.take_left' (by rw[Aai,c]),List.countP_map,<-b];rfl
end Hm
namespace Hm
theorem Cy.unique(hn:(Ac fs).length<=6000){s n:Aeg}(h:Cy fs s)(o:Cy fs n):s=n:=by
 obtain⟨ps,N,c,_,f,rfl⟩:=h.is;obtain⟨q,t,d,_,g,rfl⟩:=o.is;obtain rfl:=c.unique d;have a:=Hj (Ac fs) hn;have i: ∀b∈Am (Ac fs) ps,b∈Af (lens (Ac fs)):=fun b hb=>(N4 _ hn b).2 (M5 c.perm b hb)
 by_cases k:Af (lens (Ac fs))=[]
 ·have p:Am (Ac fs) ps=[]:=by
   cases e:Am (Ac fs) ps with
   |nil=>rfl
   |cons b r=>have:=i b (by rw[e];exact Aab ..);rw[k]at this;simp at this
  rw[p];unfold D2;rw[Jp,Jp]
 ·have l:=f.nodes.heads a.numk (fun j m=>f.side0 k j (by rw[f.len]at m;exact m)) a.num_lt (fun b hb=>(a.mem b).2 hb);rw[Oa a f i l,Oa a g i l]
theorem Ob(h:ps.Perm (List.range (n+1)))(i:Nat)(hi:i<ps.length):ps[i]=0↔i=Av ps:=by
 have b:=h.symm.nodup List.nodup_range;have a:0∈ps:=h.symm.subset (by simp);have d:Av ps<ps.length:=List.findIdx_lt_length_of_exists ⟨0,a,by simp⟩;have f:ps[Av ps]=0:=by
  have:=List.findIdx_getElem (p:=fun x:Nat=>x==0) (xs:=ps) (w:=d);exact eq_of_beq this
 constructor
 ·intro e;have g:=List.pairwise_iff_getElem.1 (List.nodup_iff_pairwise_ne.1 b);rcases Aa7 i (Av ps)with c|c|c
  ·exact absurd (e.trans f.symm) (g i _ hi d c)
  ·exact c
  ·exact absurd (f.trans e.symm) (g _ i d hi c)
 ·rintro rfl;exact f
end Hm
namespace Hm
theorem uG{g:Nat}(a:Bz L)(c:Ends 32 (lnB L) (Af L) N)(d:Ends 32 (lnB L) (Af L) g)(f: ∀b∈col,b∈Af L):D2 L N col=D2 L g col:=by
 by_cases h:Af L=[]
 ·have l:col=[]:=by
   cases e:col with
   |nil=>rfl
   |cons b r=>have:=f b (by rw[e];exact Aab ..);rw[h]at this;simp at this
  rw[l];unfold D2;rw[Jp,Jp]
 ·have i:=c.nodes.heads a.numk (fun j k=>c.side0 h j (by rw[c.len]at k;exact k)) a.num_lt (fun b hb=>(a.mem b).2 hb);rw[Oa a c f i,Oa a d f i]
section
variable {M:Nat} {ln num:UInt8->Nat} {o:Aeg} {nds:List Nd}
theorem Rp(h:Bn M ln o nds)(b:UInt8): ∀k,k<=nds.length-> ∀d,(∀j,j<k->Ee ln num (Ab nds j) b=true->(Ab nds j).depth<d)->(List.range k).countP (fun j=>Ee ln num (Ab nds j) b)<=d
 |0,_,d,_=>zZ _
 |k+1,hk,d,hd=>by
  rw[Acm,Ab0,Abi,Adm]
  by_cases e:Ee ln num (Ab nds k) b=true
  ·have h1:=hd k (by omega) e;have h2:=Rp h b k (by omega) (Ab nds k).depth (fun j f a=>by
    have hs:=h.sorted j k f (by omega);have g:=(Aay a).2;have i:=(Aay e).2;rcases hs with c|⟨c1,c2⟩
    ·exact c
    ·rw[c1]at g;omega)
   rw[if_pos e];omega
  ·have h2:=Rp h b k (by omega) d (fun j f a=>hd j (by omega) a);rw[if_neg e];omega
theorem Q4(ln num:UInt8->Nat)(nds:List Nd)(N B:Nat)(c: ∀b:UInt8,(List.range N).countP (fun j=>Ee ln num (Ab nds j) b)<=B): ∀col:Aeg,(Ax ln num nds col N).length<=col.length*B
 |[]=>by rw[Jp];simp
 |b::r=>by
  have d:=Q4 ln num nds N B c r;have hb:=c b;have key: ∀n,(Ax ln num nds (b::r) n).length=(List.range n).countP (fun j=>Ee ln num (Ab nds j) b)+(Ax ln num nds r n).length:=by
   intro n;induction n with
   |zero=>simp[Ax]
   |succ n ih2=>
    rw[Fm,Fm,zL,zL,ih2,Acm,Ab0,Abi,Adm];unfold Hx Aq;rw[Aai,Aai,Abq]
    by_cases a:Ee ln num (Ab nds n) b=true
    ·rw[if_pos a,if_pos a,Aau];omega
    ·rw[if_neg a,if_neg a];omega
  rw[key,Aau,Ab4];omega
end
theorem wR(a:L.length=256)(b:UInt8):lnB L b<=Hk L:=by
 have hb:=b.toNat_lt;have e:lnB L b=L[b.toNat]:=by
  show L.getD b.toNat 0=_;rw[zG,zH (by omega)];rfl
 rw[e];exact Wx L _ (z6 _)
theorem wS{st:Bl}(h:Fj l n L st)(c3:Rep (lnB L) (Bq L) (Al (l.take (szB (Fv l n L)))) st.nds col)(c2: ∀b∈col,b∈Af L):K0 (l.take (szB st.len)) st.nds col:=by
 obtain⟨d,i⟩:=h;obtain⟨u,o⟩:=Qv d;have g:=o.nodes;have e:=Lq i;have a:=Ov g d.nodup rfl (zK _) i;have r:=Lc i;have m:=g.like e.1;have f:=e.1.1.symm
 replace a:Mc (Al (l.take (szB (Fv l n L)))) n (Ek L).length st:=a
 rw[f]at a;have v:Fv l n L<=8*l.length:=Nat.min_le_left _ _;have t:st.len<=8*szB st.len:=by unfold szB;omega
 have k:(l.take (szB st.len)).length=szB st.len:=by rw[zS];unfold szB;omega
 have fits: ∀j,j<st.nds.length->(Ab st.nds j).frm+(Ab st.nds j).siz<=st.len:=fun j c=>by
  rw[c3.frm j c,a.len];exact Qy st.nds (show j+1<=st.nds.length by omega)
 refine⟨32,lnB L,Bq L,Af L,⟨c3.siz,c3.frm,fun j p c s=>?_⟩,m,d.numk,c2,d.pos,d.num_lt,fun j c=>?_⟩
 ·have q:=fits j c;rw[<-c3.bit j p c s,J0 l _ _ (by omega),J0 l _ _ (by unfold szB;omega)]
 ·rw[k];have q:=fits j c;omega
theorem kE{M k:Nat}{ln num j c:UInt8->Nat}{o y l col b:Aeg}{nds:List Nd}(h:Qa M ln num o l nds col)(f:Qa k j c y l nds b){a:Nat}: ∀d n q,nds.length-n<=d->Way ln num nds col a n q->Way j c nds b a n q->col.getD a 0=b.getD a 0
 |0,n,q,hd,w,_=>by have:=w.lt;omega
 |d+1,n,q,hd,w,w'=>by
  obtain⟨u,A,s,r⟩:=w.step h.rep h.shp h.numk h.mem;obtain⟨z,x,i,g⟩:=w'.step f.rep f.shp f.numk f.mem;have e:u=z:=by
   rw[s]at i;have:=decide_eq_decide.1 i;omega
  subst e;rcases r with⟨b1,_⟩|⟨m,t,v,b1,w2⟩
  ·rcases g with⟨b2,_⟩|⟨m',_,_,b2,_⟩
   ·rw[b1]at b2;injection b2
   ·rw[b1]at b2;cases b2
  ·rcases g with⟨b2,_⟩|⟨m',_,_,b2,w2'⟩
   ·rw[b1]at b2;cases b2
   ·rw[b1]at b2;have p:m=m':=by injection b2
    subst p;exact kE h f d m _ (by omega) w2 w2'
theorem K0.unique{nds:List Nd}(h:K0 l nds col)(c:K0 l nds b)(f:col.length=b.length):col=b:=by
 obtain⟨M,ln,num,o,h⟩:=h;obtain⟨i,g,d,j,c⟩:=c;apply Aa1 f;intro a h1 h2;have e:=kE h c _ 0 a (zK _) (Way.start h.shp h.mem h.pos h.num h1) (Way.start c.shp c.mem c.pos c.num h2);rw[zG,zH h1,zG,zH h2]at e;exact e
theorem aP(d:Bz L)(q:Ends 32 (lnB L) (Af L) N)(n: ∀b∈col,b∈Af L)(X:Aeg):
  ∃st,Fj (Ah (D2 L N col)++X) col.length L st/\szB st.len=(Ah (D2 L N col)).length/\K0 ((Ah (D2 L N col)++X).take (szB st.len)) st.nds col:=by
 obtain⟨w,a⟩:=Qv d;rw[uG d q a n];have e:(Ek L).length=Hl L:=a.len;have h:(D2 L (Hl L) col).length=(Ax (lnB L) (Bq L) (Ek L) col (Ek L).length).length:=by
  unfold D2;rw[Aai,e];rfl
 have i:=Q4 (lnB L) (Bq L) (Ek L) (Ek L).length (Hk L) (fun b=>by
  refine Aaf (Rp a.nodes b _ (zK _) (lnB L b) (fun j _ r=>(Aay r).1)) (wR d.len b)) col
 have c:(Ax (lnB L) (Bq L) (Ek L) col (Ek L).length).length<=Fv (Ah (D2 L (Hl L) col)++X) col.length L:=by
  unfold Fv;refine Nat.le_min.2 ⟨?_,i⟩;rw[zL,A8,h];omega
 obtain⟨st,t,u,x,v,-⟩:=yE (f:=Al ((Ah (D2 L (Hl L) col)++X).take (szB (Fv (Ah (D2 L (Hl L) col)++X) col.length L)))) a.nodes d.nodup d.numk n d.pos d.num_lt (fun k hk=>by
  have s:k<(D2 L (Hl L) col).length:=by rw[h];exact hk
  rw[J0 _ _ _ (by unfold szB;have:=c;have g:k<(Ax (lnB L) (Bq L) (Ek L) col (Ek L).length).length:=hk;omega)];have p:Al (Ah (D2 L (Hl L) col)++X) k=Al (Ah (D2 L (Hl L) col)) k:=by
   rw[<-J0 (Ah (D2 L (Hl L) col)++X) (Ah (D2 L (Hl L) col)).length k (by rw[A8];omega),Adi]
  rw[p,Mz];unfold D2;rw[zG,Aah,a.len];have m:k<(Ax (lnB L) (Bq L) (Ao (lnB L) (Af L) (2*Hl L)).1 col (Hl L)).length:=by
   have g:k<(Ax (lnB L) (Bq L) (Ek L) col (Ek L).length).length:=hk;rw[e]at g;exact g
  rw[zG,zH m];rfl) c
 have o:st.len=(Ax (lnB L) (Bq L) (Ek L) col (Ek L).length).length:=u;have l:Fj (Ah (D2 L (Hl L) col)++X) col.length L st:=⟨d,t⟩;refine⟨st,l,by rw[Mv,h,o],wS l v n⟩
end Hm
namespace Hm
theorem pD(f:Nat->Bool)(a:Nat): ∀d,(∀p,a<=p->p<a+d->f p=false)->rk f (a+d)=rk f a
 |0,_=>rfl
 |d+1,h=>by
  have b:=pD f a d (fun p h1 h2=>h p h1 (by omega));have e:rk f (a+(d+1))=rk f (a+d)+(f (a+d)).toNat:=rfl;rw[e,b,h (a+d) (by omega) (by omega)];rfl
theorem Th(f:Nat->Bool)(a b:Nat)(c:a<=b)(h: ∀p,a<=p->p<b->f p=false):rk f b=rk f a:=by
 have:=pD f a (b-a) (fun p h1 h2=>h p h1 (by omega));rwa[show a+(b-a)=b from by omega]at this
theorem wT(f:Nat->Bool)(h len m:Nat)(pos:Nat->Nat)(b: ∀i j,i<j->j<m->pos i<pos j)(a: ∀i,i<m->h<=pos i/\pos i<len)(n:h<=len)(q: ∀p,h<=p->p<len->(f p=true↔ ∃i,i<m/\p=pos i)):
  (∀i,i<m->f (pos i)=true/\rk f (pos i)=rk f h+i)/\rk f len=rk f h+m:=by
 have d: ∀i,i<m->f (pos i)=true:=fun i hi=>(q _ (a i hi).1 (a i hi).2).2 ⟨i,hi,rfl⟩;have l: ∀p,h<=p->p<len->(∀i,i<m->p≠pos i)->f p=false:=fun p h1 h2 s=>by
  cases e:f p with
  |false=>rfl
  |true=>
   obtain⟨i,hi,r⟩:=(q p h1 h2).1 e;exact absurd r (s i hi)
 have g: ∀i,i<m->rk f (pos i)=rk f h+i:=by
  intro i;induction i with
  |zero=>
   intro hi;have:=Th f h (pos 0) (a 0 hi).1 (fun p h1 h2=>l p h1 (by have:=(a 0 hi).2;omega) (fun j k e=>by
    rcases Adn j with c|c
    ·subst c;omega
    ·have:=b 0 j c k;omega))
   omega
  |succ i ih=>
   intro hi;have t:=ih (by omega);have e:rk f (pos i+1)=rk f (pos i)+(f (pos i)).toNat:=rfl;rw[d i (by omega)]at e;have o:=b i (i+1) (by omega) hi;have:=Th f (pos i+1) (pos (i+1)) o (fun p h1 h2=>l p (by have:=(a i (by omega)).1;omega) (by have:=(a (i+1) hi).2;omega) (fun j k e=>by
    rcases Aa7 j i with c|c|c
    ·have:=b j i c (by omega);omega
    ·subst c;omega
    ·by_cases c2:j=i+1
     ·subst c2;omega
     ·have:=b (i+1) j (by omega) k;omega))
   simp at e;omega
 refine⟨fun i hi=>⟨d i hi,g i hi⟩,?_⟩;rcases Adn m with c|c
 ·subst c;have:=Th f h len n (fun p h1 h2=>l p h1 h2 (fun i hi=>by omega));omega
 ·have u:=g (m-1) (by omega);have e:rk f (pos (m-1)+1)=rk f (pos (m-1))+(f (pos (m-1))).toNat:=rfl;rw[d (m-1) (by omega)]at e;have:=Th f (pos (m-1)+1) len (a (m-1) (by omega)).2 (fun p h1 h2=>l p (by have:=(a (m-1) (by omega)).1;omega) h2 (fun j k e=>by
   by_cases c2:j=m-1
   ·subst c2;omega
   ·have:=b j (m-1) (by omega) (by omega);omega))
  simp at e;omega
theorem gN(l:List Bool)(q p:Nat)(a:q<l.length):(l.set q true).getD p false=(decide (p=q)||l.getD p false):=by
 rw[zG,zG,List.getElem?_set]
 by_cases e:q=p
 ·subst e;simp[a]
 ·rw[if_neg e,zM (fun x=>e x.symm)];rfl
theorem Yi(es:Aeh)(l h:Nat)(R:List Bool)(p:Nat): ∀k,(∀i,i<k->h+es.getD i 0/2^l+i<R.length)->(Gg es l h R k).getD p false=((List.range k).any (fun i=>decide (p=h+es.getD i 0/2^l+i))||R.getD p false)
 |0,_=>by simp[Gg]
 |k+1,hk=>by
  rw[Gg,gN _ _ _ (by rw[Lt];exact hk k (by omega)),Yi es l h R p k (fun i hi=>hk i (by omega)),Acm,List.any_append];simp only[List.any_cons,List.any_nil,Bool.or_false];cases decide (p=h+es.getD k 0/2^l+k)<;>simp
theorem Ti(l:Nat): ∀(es:Aeh) (i j:Nat),i<es.length->j<l->(C7 es l).getD (i*l+j) false=decide (es.getD i 0/2^j%2=1)
 |[],i,j,hi,_=>by simp at hi
 |e::r,0,j,_,a=>by
  unfold C7;rw[Aa3,Nat.zero_mul,Aao,zG,Aav (by rw[Dx];exact a)];unfold A7;rw[Aah,Abn a];rfl
 |e::r,i+1,j,hi,a=>by
  have b:=Ti l r i j (by simpa using hi) a;unfold C7 at b|-;rw[Aa3,zG,z7 (by rw[Dx,Ab4];omega),Dx,show(i+1)*l+j-l=i*l+j from by rw[Ab4];omega,<-zG,b];rfl
theorem Vx(f:Nat->Bool)(a x:Nat): ∀k,(∀j,j<k->f (a+j)=decide (x/2^j%2=1))->F0 f a k=x%2^k
 |0,_=>by simp[F0,Nat.mod_one]
 |k+1,h=>by
  rw[F0,Vx f a x k (fun j b=>h j (by omega)),h k (by omega),Nat.mod_pow_succ];have:=Nat.mod_lt (x/2^k) (show 0<2 by omega);rcases(show x/2^k%2=0\/x/2^k%2=1 by omega)with e|e
  ·rw[e];simp
  ·rw[e];simp
end Hm
namespace Hm
theorem Vy(es:Aeh)(n:Nat)(hn:n<=6000):(Bo es n).length=Ak es.length n:=by
 unfold Bo Ak;rw[Lt,zL,Il,zV,U8 _ _ hn]
structure Vz(es:Aeh)(n:Nat):Prop where
 asc: ∀i j,i<j->j<es.length->es.getD i 0<=es.getD j 0
 le: ∀i,i<es.length->es.getD i 0<=n
 last:(if es.length=0 then 0 else es.getD (es.length-1) 0)=n
theorem pE(es:Aeh)(n:Nat)(hn:n<=6000)(h:Vz es n):let f:=fun p=>(Bo es n).getD p false
  rk f (Ak es.length n)=rk f (es.length*Cz es.length n)+es.length/\ ∀i,i<es.length->Fo f es.length (Cz es.length n) i=es.getD i 0:=by
 intro f;obtain⟨m,z⟩:=gx es.length;obtain⟨lo,o⟩:=gx (Cz m n);rw[<-z,<-o];have y:Ca m n=lo:=by rw[o,U8 _ _ hn]
 have w:(C7 es lo).length=m*lo:=by rw[Il,z]
 obtain⟨a,b⟩: ∃a:Nat->Nat,∀i,es.getD i 0/2^lo=a i:=⟨_,fun _=>rfl⟩;obtain⟨q,g⟩: ∃q,n/2^lo=q:=⟨_,rfl⟩;have c: ∀i,i<m->a i<=q:=fun i hi=>by rw[<-b,<-g];exact Nat.div_le_div_right (h.le i (by omega))
 have r: ∀i j,i<j->j<m->a i<=a j:=fun i j l v=>by rw[<-b,<-b];exact Nat.div_le_div_right (h.asc i j l (by omega))
 have s: ∀p,f p=((List.range m).any (fun i=>decide (p=m*lo+a i+i))||(C7 es lo++List.replicate (m+q+1) false).getD p false):=by
  intro p;show(Bo es n).getD p false=_;unfold Bo;rw[<-z,y,g,Yi es lo _ _ p m (fun i hi=>by rw[w,zL,w,zV,b];have:=c i hi;omega),w];simp only[b]
 have d:Ak m n=m*lo+(m+q+1):=by unfold Ak;rw[<-o,g]
 have x: ∀p,m*lo<=p->(C7 es lo++List.replicate (m+q+1) false).getD p false=false:=fun p B=>by
  rw[zG,z7 (by omega),Ada];split<;>rfl
 have key:=wT f (m*lo) (Ak m n) m (fun i=>m*lo+a i+i)
  (fun i j l v=>by
   have:=r i j l v;show m*lo+a i+i<m*lo+a j+j;omega)
  (fun i hi=>by have:=c i hi;rw[d];exact⟨by show _<=m*lo+a i+i;omega,by show m*lo+a i+i<_;omega⟩)
  (by rw[d];omega)
  (fun p h1 h2=>by
   rw[s p,x p h1,Bool.or_false,List.any_eq_true];constructor
   ·rintro⟨i,hi,e⟩;exact⟨i,List.mem_range.1 hi,Aay e⟩
   ·rintro⟨i,hi,e⟩;exact⟨i,List.mem_range.2 hi,zJ e⟩)
 refine⟨key.2,fun i hi=>?_⟩;have t:=key.1 i hi;unfold Fo;rw[Y5 (p:=m*lo+a i+i) ⟨t.1,t.2⟩];unfold i5;have u:F0 f (i*lo) lo=es.getD i 0%2^lo:=Vx f (i*lo) (es.getD i 0) lo (fun j v=>by
  have A:i*lo+j<m*lo:=by
   have h1:(i+1)*lo<=m*lo:=Abs _ (by omega);rw[Ab4]at h1;omega
  rw[s,show(List.range m).any (fun k=>decide (i*lo+j=m*lo+a k+k))=false from by
   rw[List.any_eq_false];intro k _ hk;have:=Aay hk;omega,Bool.false_or,zG,Aav (by omega),<-zG]
  exact Ti lo es i j (by omega) v)
 rw[u,show m*lo+a i+i-m*lo-i=a i from by omega,<-b,Ade];exact Nat.div_add_mod _ _
theorem aQ(es:Aeh)(n:Nat)(hn:n<=6000)(h:Vz es n)(X:Aeg):Gp (Ah (Bo es n)++X) es.length n/\(Ah (Bo es n)++X).drop (szB (Ak es.length n))=X/\
  ∀i,i<es.length->Fo (Al ((Ah (Bo es n)++X).take (szB (Ak es.length n)))) es.length (Cz es.length n) i=es.getD i 0:=by
 have d:=Vy es n hn;have b:(Ah (Bo es n)).length=szB (Ak es.length n):=by rw[Mv,d]
 have ht:(Ah (Bo es n)++X).take (szB (Ak es.length n))=Ah (Bo es n):=by rw[<-b,Adi]
 have c:Al (Ah (Bo es n))=fun p=>(Bo es n).getD p false:=by funext p;exact Mz _ p
 have key:=pE es n hn h;simp only at key;rw[<-c]at key;have a: ∀i,i<=es.length->Fg (Al (Ah (Bo es n))) es.length (Cz es.length n) i=if i=0 then 0 else es.getD (i-1) 0:=fun i hi=>by
  unfold Fg;split
  ·rfl
  ·exact key.2 (i-1) (by omega)
 refine⟨⟨by rw[zL];omega,?_⟩,by rw[<-b,Ad4],fun i hi=>by rw[ht];exact key.2 i hi⟩;rw[ht];refine⟨key.1,fun i hi=>?_,?_⟩
 ·rw[a i (by omega),key.2 i hi];split
  ·exact zZ _
  ·exact h.asc (i-1) i (by omega) hi
 ·rw[a _ (zK _)];exact h.last
end Hm
namespace Hm
noncomputable def ltB(a b:Aeg):Bool:= @decide (Ds a b) (Classical.propDecidable _)
theorem Tj(h:Ds a b):ltB a b=true:=by unfold ltB;exact @zJ _ (Classical.propDecidable _) h
theorem O5(h: ¬Ds a b):ltB a b=false:=by unfold ltB;exact @zM _ (Classical.propDecidable _) h
theorem wU(a b:UInt8)(l m:Aeg):ltB (a::l) (b::m)=(decide (a.toNat<b.toNat)||((a==b)&&ltB l m)):=by
 by_cases h:Ds (a::l) (b::m)
 ·rw[Tj h];rcases h with h|⟨h1,h2⟩
  ·rw[zJ h];rfl
  ·rw[h1,Tj h2];simp
 ·rw[O5 h];have h1: ¬a.toNat<b.toNat:=fun x=>h (.inl x);rw[zM h1,Bool.false_or]
  by_cases e:a=b
  ·have h2: ¬Ds l m:=fun x=>h (.inr ⟨e,x⟩);rw[O5 h2,Bool.and_false]
  ·rw[show(a==b)=false from by rw[Aat];exact e];rfl
theorem V4(h:D4 t ps)(g:Nat->Bool)(i:Nat)(hi:i<ps.length):ps.countP (fun p=>g p&&ltB (t.drop p) (t.drop ps[i]))=(ps.take i).countP g:=by
 have e:ps=ps.take i++ps[i]::ps.drop (i+1):=by rw[<-Aan hi,Abh]
 have b:=h.ord;rw[e]at b;obtain⟨_,h2,d⟩:=List.pairwise_append.1 b;have f:=(Ad0.1 h2).1;have key:(ps.take i++ps[i]::ps.drop (i+1)).countP (fun p=>g p&&ltB (t.drop p) (t.drop ps[i]))=(ps.take i).countP g:=by
  rw[Ab0,Abi];have k:(ps.drop (i+1)).countP (fun p=>g p&&ltB (t.drop p) (t.drop ps[i]))=0:=by
   rw[List.countP_eq_zero];intro p a c;have j:=f p a;rw[O5 (fun x=>Lf _ (Oh j x)),Bool.and_false]at c;cases c
  have l:(g ps[i]&&ltB (t.drop ps[i]) (t.drop ps[i]))=false:=by rw[O5 (Lf _),Bool.and_false]
  have m:(ps.take i).countP (fun p=>g p&&ltB (t.drop p) (t.drop ps[i]))=(ps.take i).countP g:=by
   refine List.countP_congr fun p a=>?_;rw[Tj (d p a _ (Aab ..)),Bool.and_true]
  rw[k,l,m];simp
 rw[<-e]at key;exact key
theorem V5(h:D4 t ps)(i:Nat)(hi:i<ps.length):ps.countP (fun p=>ltB (t.drop p) (t.drop ps[i]))=i:=by
 have:=V4 h (fun _=>true) i hi;simp only[Bool.true_and]at this;rw[this,List.countP_true,zS];omega
theorem Sn(t:Aeg):(List.range t.length).map (fun p=>t.getD p 0)=t:=by
 apply Aa1 (by simp);intro i h1 h2;rw[Abu,Adp,zG,zH h2];rfl
theorem rD(h:ps.Perm (List.range (t.length+1))):(Am t ps).Perm t:=by
 have h1:(Am t ps).Perm (Am t (List.range (t.length+1))):=(h.filter _).map _;have h2:Am t (List.range (t.length+1))=t:=by
  unfold Am;rw[List.range_succ_eq_map,Abq,if_neg (by simp),List.filter_map,List.map_map]
  conv=>rhs;rw[<-Sn t]
  rw[List.filter_eq_self.2 (fun p _=>by simp)];rfl
 rw[h2]at h1;exact h1
theorem So{α:Type}(p q:α->Bool): ∀l:List α,(∀x∈l,¬(p x=true/\q x=true))->l.countP (fun x=>p x||q x)=l.countP p+l.countP q
 |[],_=>rfl
 |x::r,h=>by
  have b:=So p q r (fun y a=>h y (Aae _ a));have c:=h x (Aab ..);rw[Abi,Abi,Abi,b];cases e1:p x<;>cases e2:q x<;>simp_all<;>omega
end Hm
namespace Hm
theorem Yj(t:Aeg)(b:UInt8): ∀ps:Aeh,(Am t ps).count b=ps.countP (fun p=>decide (0<p)&&(t.getD (p-1) 0==b))
 |[]=>rfl
 |p::r=>by
  have a:=Yj t b r;unfold Am at a|-;rw[Abq,Abi]
  by_cases h:0<p
  ·rw[zJ h,if_pos rfl,Abg,List.count_cons,a,Bool.true_and]
  ·rw[zM h,if_neg (by simp),a];simp
theorem Pi(h:ps.Perm (List.range (t.length+1)))(i:Nat)(hi:i<ps.length):(Am t ps).take (B5 (Av ps) i)=Am t (ps.take i):=by
 have e:Am t ps=Am t (ps.take i)++Am t (ps.drop i):=by
  unfold Am;rw[<-Abt,<-Abz,Abh]
 have f:(Am t (ps.take i)).length=B5 (Av ps) i:=by
  unfold Am;rw[Aai,<-Acf];have g:=h.symm.nodup List.nodup_range;have key: ∀k,k<=ps.length->(ps.take k).countP (fun p=>decide (0<p))=B5 (Av ps) k:=by
   intro k;induction k with
   |zero=>intro _;simp[B5]
   |succ k ih=>
    intro hk;have a:=Ob h k (by omega);rw[zQ (by omega),Ab0,ih (by omega),Abi,Adm]
    by_cases c:ps[k]=0
    ·have d:=a.1 c;have a1:B5 (Av ps) k=k:=iN;have a2:B5 (Av ps) (k+1)=k+1-1:=iP;rw[zM (by omega),a1,a2];rfl
    ·have b:k≠Av ps:=fun x=>c (a.2 x);rw[zJ (by omega)];rcases Nat.lt_or_gt_of_ne b with c3|c3
     ·have a1:B5 (Av ps) k=k:=iN;have a2:B5 (Av ps) (k+1)=k+1:=iN;rw[a1,a2];rfl
     ·have a1:B5 (Av ps) k=k-1:=iP;have a2:B5 (Av ps) (k+1)=k+1-1:=iP;rw[a1,a2,if_pos rfl];omega
  exact key i (by omega)
 rw[e,<-f,Adi]
theorem Rq(h:D4 t ps)(C:Er ws (Am t ps))(i j q:Nat)(hi:i<ps.length)(y:j<ps.length)(n:ps[i]=q+1)(s:ps[j]=q):Bw (Am t ps) ws (Av ps) i=(t.getD q 0,j):=by
 have B:ps.length=t.length+1:=by have:=h.perm.length_eq;simpa using this
 have f:i≠Av ps:=fun x=>by have:=(Ob h.perm i hi).2 x;omega
 have r:q<t.length:=by
  have:=List.mem_range.1 (h.perm.subset (z6 hi));omega
 have a:(Am t ps).getD (B5 (Av ps) i) 0=t.getD q 0:=by
  have ht:=Pi h.perm i hi;have e:Am t ps=Am t (ps.take i)++t.getD q 0::Am t (ps.drop (i+1)):=by
   conv=>lhs;rw[<-Abh i ps,Aan hi]
   unfold Am;rw[Abz,Abt,Abq,n,zJ (by omega:0<q+1),if_pos rfl,Abg,show q+1-1=q from by omega]
  have z:=congrArg List.length ht;rw[zS]at z;have o:=D8 h.perm;have d:=(I2 h.perm).2;have w:=N8 d (show i<=t.length by omega) f;have m:(Am t (ps.take i)).length=B5 (Av ps) i:=by omega
  rw[e,<-m,zG,z7 (zK _),Abd];rfl
 unfold Bw;rw[if_neg f,a];obtain⟨b,hb⟩:=gx (t.getD q 0);rw[<-hb];congr 1;have l:t.drop q=b::t.drop (q+1):=by
  rw[Aan r,hb,zG,zH r];rfl
 rw[Pi h.perm i hi,Yj,C.first _ (by have:=b.toNat_lt;omega),(rD h.perm).countP_eq];have c:=V5 h j y;rw[s]at c;rw[h.perm.countP_eq,Acm,Ab0,Abi,Adm,Ab7,l,Tj (show Ds [] (b::t.drop (q+1))from Ad2)]at c;have hA:(List.range t.length).countP (fun p=>ltB (t.drop p) (b::t.drop (q+1)))=(List.range t.length).countP (fun p=>decide ((t.getD p 0).toNat<b.toNat))+(List.range t.length).countP (fun p=>(t.getD p 0==b)&&ltB (t.drop (p+1)) (t.drop (q+1))):=by
  rw[<-So _ _ _ (fun p _ D=>by
   obtain⟨E,F⟩:=D;have G:=Aay E;have H:=(Bool.and_eq_true _ _▸F:_/\_).1;rw[eq_of_beq H]at G;omega)]
  refine List.countP_congr fun p A=>?_;have g:=List.mem_range.1 A;have k:t.drop p=t.getD p 0::t.drop (p+1):=by
   rw[Aan g,zG,zH g];rfl
  rw[k,wU]
 have u:(List.range t.length).countP (fun p=>decide ((t.getD p 0).toNat<b.toNat))=t.countP (fun x=>decide (x.toNat<b.toNat)):=by
  conv=>rhs;rw[<-Sn t]
  rw[List.countP_map];rfl
 have v:(List.range t.length).countP (fun p=>(t.getD p 0==b)&&ltB (t.drop (p+1)) (t.drop (q+1)))=(ps.take i).countP (fun p=>decide (0<p)&&(t.getD (p-1) 0==b)):=by
  have hs:=V4 h (fun p=>decide (0<p)&&(t.getD (p-1) 0==b)) i hi;rw[n,h.perm.countP_eq,List.range_succ_eq_map,Abi,List.countP_map]at hs;rw[<-hs];simp;rfl
 rw[hA,u,v,if_pos rfl]at c;omega
end Hm
namespace Hm
theorem O6(h:D4 t ps)(q:Nat)(c:q<=t.length): ∃j,∃b:j<ps.length,ps[j]=q:=by
 have a:q∈ps:=h.perm.symm.subset (List.mem_range.2 (by omega));exact Aa5 a
theorem V6(h:D4 t ps)(f:0<ps.length):ps[0]=t.length:=by
 obtain⟨j,a,e⟩:=O6 h t.length (zK _);have b:=V5 h j a;rw[e,Ab7]at b;have d:ps.countP (fun p=>ltB (t.drop p) [])=0:=by
  rw[List.countP_eq_zero];intro p _ c;rw[O5 (Vb _)]at c;cases c
 rw[d]at b;subst b;exact e
theorem Yk{t:Aeg}{ps ws:Aeh}(h:D4 t ps)(c:Er ws (Am t ps)): ∀k,k<=t.length->(Bh (Bw (Am t ps) ws (Av ps)) 0 k).1=t.drop (t.length-k)/\ ∃b:(Bh (Bw (Am t ps) ws (Av ps)) 0 k).2<ps.length,ps[(Bh (Bw (Am t ps) ws (Av ps)) 0 k).2]=t.length-k
 |0,_=>by
  have g:ps.length=t.length+1:=by have:=h.perm.length_eq;simpa using this
  refine⟨by rw[Adj,Ab7];rfl,by show 0<_;omega,?_⟩;exact V6 h (by omega)
 |k+1,hk=>by
  obtain⟨h1,b,h2⟩:=Yk h c k (by omega);obtain⟨j,a,e⟩:=O6 h (t.length-(k+1)) (by omega);have f:=Rq h c _ j (t.length-(k+1)) b a (by rw[h2];omega) e;have d:Bh (Bw (Am t ps) ws (Av ps)) 0 (k+1)=(t.getD (t.length-(k+1)) 0::(Bh (Bw (Am t ps) ws (Av ps)) 0 k).1,j):=by
   rw[Bh,f]
  rw[d];refine⟨?_,a,e⟩;show _::_=_;rw[h1,Aan (show t.length-(k+1)<t.length by omega),zG,zH (show t.length-(k+1)<t.length by omega),show t.length-(k+1)+1=t.length-k from by omega];rfl
theorem rE(h:D4 t ps)(a:Er ws (Am t ps)):(Bh (Bw (Am t ps) ws (Av ps)) 0 t.length).1=t:=by
 rw[(Yk h a t.length (zK _)).1,Abd];rfl
end Hm
section
open Go.RowKit
theorem wV(hones:Bc)(hLn:Ez)(s:Aeg)(w:World)(hs:s.length<=281474976710656):
  Calls prog 31 #[.string ⟨s.toArray⟩] w fun e w'=>Aee w w'/\ ∃pa ok,w.heap.size<=pa/\e= .returned (.tuple #[.pointer (some ⟨pa,0,none⟩),.bool ok])/\M4 w.heap.size w' s pa ok:=by
 obtain⟨S,hS⟩:=gx (⟨s.toArray⟩:ByteArray);rw[<-hS];have HS:=hZ hS;clear hS
 go_enter func31,ntmps31
 go_wp2_with fail;have bz:A9 (w.alloc (.cells #[.string S,.bool false] 132)) w.heap.size (some s):=by rw[HS.o];exact zY w _
 refine(Mr w.heap.size (some s) 6 _ bz (by show s.length<=_;omega) (by omega)).mono ?_;rintro e w1 ⟨rfl,b0,bl⟩;have H1:Hid (A9 w1 w.heap.size (Be (some s) 6).2/\Aee w w1):=⟨b0,((Aa.refl (fun _=>False) w).alloc _).trans bl (fun j h1 h2=>by omega)⟩;clear bz b0 bl;have u:Hid (rdA s=Dk (Be (some s) 6).2 ((⟨(Be (some s) 6).1.toArray⟩:ByteArray).toList==[72,79,65,82,68,49])):=rfl;generalize(⟨(Be (some s) 6).1.toArray⟩:ByteArray)=T1 at*;have br:Bt (rdA s)<=s.length:=by rw[u.o];exact Aaf (Jl _ _) (Eo _ _)
 go_wp2_with fail;refine(Jd w.heap.size _ _ w1 H1.o.1).mono ?_;rintro e w2 ⟨rfl,aV,bm⟩;rw[<-u.o]at aV;have H2:Hid (A9 w2 w.heap.size (rdA s)/\Aee w w2):=⟨aV,H1.o.2.trans bm (fun j h1 h2=>by omega)⟩;clear aV bm H1 u;go_wp2_with fail;refine(Lu w.heap.size (rdA s) 1 w2 H2.o.1 (by omega) (by omega)).mono ?_;rintro e w3 ⟨rfl,b1,bn⟩;have ax:=Im (rdA s) 1;have bs:Bt (rdF s).2<=s.length:=Aaf (Eo _ _) br;have H3:Hid (A9 w3 w.heap.size (rdF s).2/\Aee w w3):=⟨b1,H2.o.2.trans bn (fun j h1 h2=>by omega)⟩;rw[show B7 (rdA s) 1=rdF s from rfl]at ax|-;clear b1 bn H2;go_wp2_with fail;refine(Lu w.heap.size (rdF s).2 2 w3 H3.o.1 (by omega) (by omega)).mono ?_;rintro e w4 ⟨rfl,b2,bo⟩;have a1:=Im (rdF s).2 2;have bt:Bt (rdN s).2<=s.length:=Aaf (Eo _ _) bs;have H4:Hid (A9 w4 w.heap.size (rdN s).2/\Aee w w4):=⟨b2,H3.o.2.trans bo (fun j h1 h2=>by omega)⟩;rw[show B7 (rdF s).2 2=rdN s from rfl]at a1|-;clear b2 bo H3;go_wp2_with fail;refine(Lu w.heap.size (rdN s).2 2 w4 H4.o.1 (by omega) (by omega)).mono ?_;rintro e w5 ⟨rfl,b3,bp⟩;have a2:=Im (rdN s).2 2;have bu:Bt (rdR s).2<=s.length:=Aaf (Eo _ _) bt;have H5:Hid (A9 w5 w.heap.size (rdR s).2/\Aee w w5):=⟨b3,H4.o.2.trans bp (fun j h1 h2=>by omega)⟩;rw[show B7 (rdN s).2 2=rdR s from rfl]at a2|-;have av:Hid (rdB s=Dk (rdR s).2 (decide ((rdR s).1<=(rdN s).1))):=rfl;have bv:Bt (rdB s)<=s.length:=by rw[av.o];exact Aaf (Jl _ _) bu
 have aL:Hid (rdM s=At (rdF s).1 (rdB s)):=rfl;clear b3 bp H4 br bs bt bu;obtain⟨m,hm⟩:=gx ((rdF s).1);obtain⟨n,hn⟩:=gx ((rdN s).1);obtain⟨root,O⟩: ∃r,r=(rdR s).1:=⟨_,rfl⟩;rw[<-hm]at ax aL|-;rw[<-hn]at a1 av|-;rw[<-O]at a2 av|-;have bx:m<=255:=by simp at ax;omega
 have a0:n<=65535:=by simp at a1;omega
 have bY:root<=65535:=by simp at a2;omega
 have HV:=hZ (aI hm (aI hn O));clear ax a1 a2 hm hn O;go_wp2_with fail;refine(Jd w.heap.size (rdR s).2 (decide (root<=n)) w5 H5.o.1).mono ?_;rintro e w6 ⟨rfl,aW,bq⟩;rw[<-av.o]at aW;have H6:Hid (A9 w6 w.heap.size (rdB s)/\Aee w w6):=⟨aW,H5.o.2.trans bq (fun j h1 h2=>by omega)⟩;clear aW bq H5;go_wp2_with fail;have bL:=Aac H6.o.1;generalize aU:w6.heap.size=pa at bL|-;have H7:Hid (A9 (w6.alloc (.cells Tryz.zeroCells102 102)) w.heap.size (rdB s)/\Aee w (w6.alloc (.cells Tryz.zeroCells102 102))/\(w6.alloc (.cells Tryz.zeroCells102 102)).heap[pa]?=some (.cells (J1 (.slice none 0 0) Hb (Cl Tryz.zeroCells96 0 (List.replicate 256 0)) Dz).toArray 102 (0,0))/\pa<(w6.alloc (.cells Tryz.zeroCells102 102)).heap.size):=by
  refine⟨H6.o.1.kept ((Aa.refl (fun _=>False) w6).alloc _) id,H6.o.2.alloc _,?_,?_⟩
  ·rw[<-mY,<-aU];exact zY w6 _
  ·rw[<-aU];simp
 generalize w6.alloc (.cells Tryz.zeroCells102 102)=W7 at H7|-;obtain⟨R0,aO⟩:=gx (Cl Tryz.zeroCells96 0 (List.replicate 256 0));have bi:R0.length=1030:=by rw[aO];exact Gz _ 0 _ In zV
 rw[<-aO]at H7;clear aU H6 aO;refine(tX w.heap.size (rdB s) m W7 H7.o.1 bx (by omega)).mono ?_;rintro e w8 ⟨rfl,ay,aX,aS⟩;rw[<-aL.o]at ay aX;have bJ:=H7.o.2.2.2;generalize W7.heap.size=gn at ay bJ|-;have v:=aS.row H7.o.2.2.1 (fun h=>by omega);have c0:w8.cell? ⟨pa,0,none⟩=some (.slice none 0 0):=zP _ _ 0 _ _ _ v;have f0:=zR _ _ 0 _ _ v;have bw:Bt (rdM s).2<=s.length:=by rw[aL.o];exact Aaf (Qx _ _) bv
 have H8:Hid (A9 w8 w.heap.size (rdM s).2/\Aee w w8/\w8.heap[pa]?=some (.cells (J1 (.slice none 0 0) Hb R0 Dz).toArray 102 (0,0))/\w8.heap[gn]?=some (.cells (F8 (rdM s).1).toArray 9 (0,0))):=⟨aX,H7.o.2.1.trans aS (fun j h1 h2=>by omega),v,ay⟩;clear aX aS ay v H7 bv;go_wp2_with fail;have az:Aa (fun j=>j=pa) w8 (w8.setCell ⟨pa,0,none⟩ (.slice (some ⟨gn,0,none⟩) m m)):=(Aa.refl (fun j=>j=pa) w8).setCell (p:=⟨pa,0,none⟩) (.inr rfl) _;have P:=zI _ _ 0 _ _ (.slice (some ⟨gn,0,none⟩) m m) H8.o.2.2.1;rw[qW]at P;have H9:Hid (A9 (w8.setCell ⟨pa,0,none⟩ (.slice (some ⟨gn,0,none⟩) m m)) w.heap.size (rdM s).2/\Aee w (w8.setCell ⟨pa,0,none⟩ (.slice (some ⟨gn,0,none⟩) m m))/\(w8.setCell ⟨pa,0,none⟩ (.slice (some ⟨gn,0,none⟩) m m)).heap[pa]?=some (.cells (J1 (.slice (some ⟨gn,0,none⟩) m m) Hb R0 Dz).toArray 102 (0,0))/\(w8.setCell ⟨pa,0,none⟩ (.slice (some ⟨gn,0,none⟩) m m)).heap[gn]?=some (.cells (F8 (rdM s).1).toArray 9 (0,0))):=
  ⟨H8.o.1.kept az (fun h=>by omega),H8.o.2.1.trans az (fun j h1 h2=>by omega),P,az.row H8.o.2.2.2 (fun h=>by omega)⟩
 generalize w8.setCell ⟨pa,0,none⟩ (.slice (some ⟨gn,0,none⟩) m m)=W9 at H9|-;obtain⟨R,aN⟩: ∃x,x=(Value.slice (some ⟨gn,0,none⟩) m m):=⟨_,rfl⟩;rw[<-aN]at H9|-;have bD:=hZ aN;clear aN;clear az P H8 c0 f0;refine(qU hones w.heap.size (rdM s).2 m n W9 H9.o.1 bx a0 (by omega)).mono ?_;rintro e aq ⟨U,EV,a,rfl,hE,aA⟩;have bG:gn<W9.heap.size:=Aac H9.o.2.2.2;have V:=U.row H9.o.2.2.1 (fun h=>by omega);have a7:=Aaf hE.rest bw;have ai:Hid (A9 aq w.heap.size a/\Aee w aq/\aq.heap[gn]?=some (.cells (F8 (rdM s).1).toArray 9 (0,0))/\Fy (gn+1) aq (rdM s).2 m n EV a):=⟨aA,H9.o.2.1.trans U (fun j h1 h2=>by omega),U.row H9.o.2.2.2 (fun h=>by omega),hE.le bG⟩;have ak:EV.toArray.size=5:=hE.len;have be:=hE.one;have D:aq.heap[pa]?=some (.cells ([R]++(Hb++(R0++Dz))).toArray 102 (0,0)):=V;obtain⟨EA,aM⟩:=gx EV.toArray;rw[<-aM]at ak be|-;have bC:=hZ aM;clear aA U hE V H9 bw aM
 go_wp2_with(first
  |(refine Mt _ rfl 87 _ _ rfl pa 1 102 [R] Hb (R0++Dz) EA rfl rfl D rfl ak.symm (by rw[ak];exact qN) be ?_;intro ac aE z))
 have Z:Hid (A9 ac w.heap.size a/\Aee w ac/\ac.heap[gn]?=some (.cells (F8 (rdM s).1).toArray 9 (0,0))/\Fy (gn+1) ac (rdM s).2 m n EV a/\ac.heap[pa]?=some (.cells ([R]++(EA.toList++(R0++Dz))).toArray 102 (0,0))):=
  ⟨ai.o.1.kept z (fun h=>by omega),ai.o.2.1.trans z (fun j h1 h2=>by omega),z.row ai.o.2.2.1 (fun h=>by omega),ai.o.2.2.2.kept z (fun j h1 h2 h3=>by omega),aE⟩
 clear aE z ai D;obtain⟨L,hL⟩:=gx ((rdL a).1);obtain⟨l,X⟩: ∃x,x=(rdL a).2:=⟨_,rfl⟩;have bH:L.length=256:=by rw[hL];exact Kj _ _
 have bh: ∀x∈L,x<=255:=by rw[hL];exact eQ _ _
 have a8:Bt l<=s.length:=by rw[X];exact Aaf (R7 _ _) (Aaf (Eo _ _) a7)
 refine(m9 w.heap.size a ac Z.o.1 (by omega)).mono ?_;rintro e F ⟨rfl,C,A⟩
 replace C:A9 F w.heap.size (rdL a).2:=C
 rw[show B6 (B7 a 2).2 (B7 a 2).1=rdL a from rfl];rw[<-X]at C;rw[<-hL];have HL:=hZ (aI hL X);have K:Hid (A9 F w.heap.size l/\Aee w F/\F.heap[gn]?=some (.cells (F8 (rdM s).1).toArray 9 (0,0))/\Fy (gn+1) F (rdM s).2 m n EV a/\F.heap[pa]?=some (.cells ([R]++(EA.toList++(R0++Dz))).toArray 102 (0,0))):=
  ⟨C,Z.o.2.1.trans A (fun j h1 h2=>by omega),A.row Z.o.2.2.1 (fun h=>by omega),Z.o.2.2.2.1.kept A (fun j h1 h2 h3=>by omega),A.row Z.o.2.2.2.2 (fun h=>by omega)⟩
 clear C A Z hL X a7;have aY:=qK hones w.heap.size l n L F K.o.1 a0 bH bh (by omega);obtain⟨LA,bg⟩: ∃x,x=(Ad L).toArray:=⟨_,rfl⟩;rw[<-bg]at aY|-;clear bg bh;go_wp2_with fail;refine aY.mono ?_;rintro e ad ⟨B,VA,T,ok,rfl,hT,am⟩;obtain⟨E,Y⟩: ∃x,x=(Be (Dk l ok) T.size).2:=⟨_,rfl⟩;rw[<-Y]at am;have a9:Bt E<=s.length:=by rw[Y];exact Aaf (Eo _ _) (Aaf (Jl _ _) a8)
 obtain⟨ws,ao,ap,aH⟩:=hT.weights a0;have a4:gn<F.heap.size:=Aac K.o.2.2.1;have aT:=fun W=>j6 VA root ws W hT.size hT.one ao ap aH;have aw:(Cl VA root (firsts ws)).toArray.size=1030:=by rw[Aaa];exact Gz VA root _ hT.size (by unfold firsts;rw[Aai,Acb])
 have bj:=Vr VA root (firsts ws) hT.one;obtain⟨RA,aP⟩: ∃x,x=(Cl VA root (firsts ws)).toArray:=⟨_,rfl⟩;rw[<-aP]at aT aw bj;have u:Hid (RA=(Cl VA root (firsts ws)).toArray/\ws.length=256/\(∀b,b<256->VA[516+b]?=some (.int .i64 (ws.getD b 0:Nat)))/\E=(Be (Dk l ok) T.size).2):=⟨aP,ao,ap,Y⟩;have M:Hid (A9 ad w.heap.size E/\Aee w ad/\ad.heap[gn]?=some (.cells (F8 (rdM s).1).toArray 9 (0,0))/\Fy (gn+1) ad (rdM s).2 m n EV a/\ad.heap[pa]?=some (.cells ([R]++(EA.toList++(R0++Dz))).toArray 102 (0,0))/\Do (gn+1) ad (l.getD []) n L VA T ok):=
  ⟨am,K.o.2.1.trans B (fun j h1 h2=>by omega),B.row K.o.2.2.1 (fun h=>by omega),K.o.2.2.2.1.kept B (fun j h1 h2 h3=>by omega),B.row K.o.2.2.2.2 (fun h=>by omega),hT.le a4⟩
 clear am B K aY hT Y aP ao ap aH a8 a4;go_wp2_with fail;refine(aT _).mono ?_;rintro e ae ⟨rfl,g⟩;have D:ae.heap[pa]?=some (.cells (([R]++EA.toList)++(R0++Dz)).toArray 102 (0,0)):=by rw[Aaj];exact g.row M.o.2.2.2.2.1 id
 have aa:Hid (A9 ae w.heap.size E/\Aee w ae/\ae.heap[gn]?=some (.cells (F8 (rdM s).1).toArray 9 (0,0))/\Fy (gn+1) ae (rdM s).2 m n EV a/\Do (gn+1) ae (l.getD []) n L VA T ok):=
  ⟨M.o.1.kept g id,M.o.2.1.tr g,g.row M.o.2.2.1 id,M.o.2.2.2.1.kept g (fun _ _ _=>id),M.o.2.2.2.2.2.kept g (fun _ _ _=>id)⟩
 have bF:([R]++EA.toList).length=6:=by simp[ak]
 clear g M aT
 go_wp2_with(first
  |(refine Mt _ rfl 98 _ _ rfl pa 6 102 ([R]++EA.toList) R0 Dz RA rfl rfl D bF (by rw[aw];exact bi) (by rw[aw];exact O1) bj ?_;intro G aF q))
 have y:Hid (A9 G w.heap.size E/\Aee w G/\G.heap[gn]?=some (.cells (F8 (rdM s).1).toArray 9 (0,0))/\Fy (gn+1) G (rdM s).2 m n EV a/\Do (gn+1) G (l.getD []) n L VA T ok/\G.heap[pa]?=some (.cells (([R]++EA.toList)++(RA.toList++Dz)).toArray 102 (0,0))):=
  ⟨aa.o.1.kept q (fun h=>by omega),aa.o.2.1.trans q (fun j h1 h2=>by omega),q.row aa.o.2.2.1 (fun h=>by omega),aa.o.2.2.2.1.kept q (fun j h1 h2 h3=>by omega),aa.o.2.2.2.2.kept q (fun j h1 h2 h3=>by omega),aF⟩
 clear aF q aa D;refine(qV hones hLn w.heap.size E n G y.o.1 a0 (by omega)).mono ?_;rintro e Q ⟨t,SV,c,rfl,f,aB⟩;have a5:gn<G.heap.size:=Aac y.o.2.2.1;have bS:=Aaf f.rest a9;have aR:SV.toArray.size=4:=f.len;have bk:=f.one;have D:Q.heap[pa]?=some (.cells ((([R]++EA.toList)++RA.toList)++(Dz++[])).toArray 102 (0,0)):=by rw[Abe,Aaj ([R]++EA.toList)];exact t.row y.o.2.2.2.2.2 (fun h=>by omega)
 have N:Hid (A9 Q w.heap.size c/\Aee w Q/\Q.heap[gn]?=some (.cells (F8 (rdM s).1).toArray 9 (0,0))/\Fy (gn+1) Q (rdM s).2 m n EV a/\Do (gn+1) Q (l.getD []) n L VA T ok/\Jo (gn+1) Q E n SV c):=
  ⟨aB,y.o.2.1.trans t (fun j h1 h2=>by omega),t.row y.o.2.2.1 (fun h=>by omega),y.o.2.2.2.1.kept t (fun j h1 h2 h3=>by omega),y.o.2.2.2.2.1.kept t (fun j h1 h2 h3=>by omega),f.le a5⟩
 obtain⟨SA,aQ⟩: ∃x,x=SV.toArray:=⟨_,rfl⟩;rw[<-aQ]at aR bk|-;have bE:=hZ aQ;have bd:(([R]++EA.toList)++RA.toList).length=1036:=by simp[ak,aw]
 clear aB t y f a9 aQ a5
 go_wp2_with(first
  |(refine Mt _ rfl 100 _ _ rfl pa 1036 102 (([R]++EA.toList)++RA.toList) Dz [] SA rfl rfl D bd aR.symm (by rw[aR];exact uB) bk ?_;intro H aG i))
 have al:w.heap.size<=gn+1:=by omega
 have d:Hid (A9 H w.heap.size c/\Aee w H/\H.heap[gn]?=some (.cells (F8 (rdM s).1).toArray 9 (0,0))/\Fy (gn+1) H (rdM s).2 m n EV a/\Do (gn+1) H (l.getD []) n L VA T ok/\Jo (gn+1) H E n SV c/\H.heap[pa]?=some (.cells (J1 R EV (Cl VA root (firsts ws)) SV).toArray 102 (0,0))):=
  ⟨N.o.1.kept i (fun h=>by omega),N.o.2.1.trans i (fun j h1 h2=>by omega),i.row N.o.2.2.1 (fun h=>by omega),N.o.2.2.2.1.kept i (fun j h1 h2 h3=>by omega),N.o.2.2.2.2.1.kept i (fun j h1 h2 h3=>by omega),N.o.2.2.2.2.2.kept i (fun j h1 h2 h3=>by omega),by
   rw[aG,bC.o,u.o.1,bE.o];unfold J1;simp only[Abe,Aaj,Adf,Adk]⟩
 clear aG i N D;have a6:(B7 c 4).2=some []->4<=s.length/\s.length<=1000000:=fun hx=>by
  obtain⟨v1,v2,v3⟩:=HV.o;have hE:=d.o.2.2.2.1;have hT:=d.o.2.2.2.2.1;have f:=d.o.2.2.2.2.2.1;rw[v1,v2]at hE;rw[v2]at hT f;exact(Yd hE HL.o hT u.o.2.2.2 f hx).1
 have an:=uC w.heap.size c s H d.o.1 (by omega) a6 (by omega);rw[<-HS.o]at an;clear a6;refine an.mono ?_;rintro e aZ ⟨rfl,aC,k⟩;have cb:=aC.bad;have aJ:Hid (Aee w aZ/\M4 w.heap.size aZ s pa (!(Ph s c).isNone)):=by
  obtain⟨v1,v2,v3⟩:=HV.o;refine⟨d.o.2.1.trans k (fun j h1 h2=>by omega),?_⟩;have hE:=(d.o.2.2.2.1.kept k (fun j h1 h2 h3=>by omega)).le (show w.heap.size<=_ from al);have hT:=(d.o.2.2.2.2.1.kept k (fun j h1 h2 h3=>by omega)).le (show w.heap.size<=_ from al);have f:=(d.o.2.2.2.2.2.1.kept k (fun j h1 h2 h3=>by omega)).le (show w.heap.size<=_ from al);have aD:=k.row d.o.2.2.2.2.2.2 (fun h=>by omega);rw[bD.o,v1,v3]at aD;rw[v1,v2]at hE;rw[v2]at hT f;exact qX hE HL.o hT u.o.2.2.2 f ⟨u.o.2.1,u.o.2.2.1⟩ aD (k.row d.o.2.2.1 (fun h=>by omega)) (by omega)
 generalize(Ph s c).isNone=bad at cb aJ;clear aC k an d;go_wp2_with fail;go_quiet(fail);go_wp2_with fail;go_ret2;exact⟨aJ.o.1.drewN _,pa,_,by omega,rfl,aJ.o.2.kept ((Aa.refl (fun _=>False) aZ).drewN _) (fun _ _ _=>id) id⟩
def Dw(B:Nat)(w:World)(pa:Nat)(s l6:Aeg)(L:Aeh)(l8:Aeg)(st:Bl):Prop:=
 ∃gn ge g ng nc gs,B<=gn/\B<=ge/\B<=g/\B<=ng/\B<=gs/\
   w.heap[pa]?=some (.cells (J1 (S0 gn (rdF s).1 (rdF s).1) (Gj l6 (rdF s).1 (rdN s).1 ge)
    (Cl (A6 ⟨(l8.take (szB st.len)).toArray⟩ st.len g (Bf L) (S0 ng st.nds.length nc) st.ws (rdN s).1).toArray (rdR s).1 (firsts st.ws))
    (Hp (l8.drop (szB st.len)) (rdN s).1 gs)).toArray 102 (0,0))/\
   w.heap[gn]?=some (.cells (F8 (rdM s).1).toArray 9 (0,0))/\
   IntRow w ge (B8 (l6.take (szB (Ak (rdF s).1 (rdN s).1))))/\IntRow w g (B8 (l8.take (szB st.len)))/\
   w.ownsRow 0 195 9 (S0 ng st.nds.length nc) st.nds.length (Bj st.nds)/\
   IntRow w gs (B8 ((l8.drop (szB st.len)).take (szB (Ap (rdN s).1))))
theorem M4.arch{w':World}{ok:Bool}(h:M4 B w' s pa ok):(ok=true/\ ∃l6 L l8 st,C5 s l6 L l8 st/\Dw B w' pa s l6 L l8 st)\/(ok=false/\ ∀l6 L l8 st,¬C5 s l6 L l8 st):=by
 rcases h with⟨h1,l6,L,l8,st,gn,ge,g,ng,nc,gs,a1,b⟩|h1
 ·exact .inl ⟨h1,l6,L,l8,st,a1,gn,ge,g,ng,nc,gs,b⟩
 ·exact .inr h1
theorem Dw.kept{w' w2:World}{st:Bl}(h:Dw B w' pa s l6 L l8 st){S:Nat->Prop}(hk:Aa S w' w2)(hn: ∀j,B<=j->j<w'.heap.size-> ¬S j)(l: ¬S pa):Dw B w2 pa s l6 L l8 st:=by
 obtain⟨gn,ge,g,ng,nc,gs,b1,b2,b3,e,f,a2,a3,a,b,c,d⟩:=h;exact⟨gn,ge,g,ng,nc,gs,b1,b2,b3,e,f,hk.row a2 l,hk.row a3 (hn gn b1 (Aac a3)),a.kept hk (hn ge b2 a.lt),b.kept hk (hn g b3 b.lt),hk.owns c (fun j k=>by have i:ng=j:=Aak k;rw[<-i];exact hn ng e (c.lt ng rfl).2),d.kept hk (hn gs f d.lt)⟩
theorem P4(c:Value)(E R S:Aei)(a:E.length=5)(j:Nat)(b:j<R.length):(J1 c E R S)[6+j]?=R[j]?:=by
 unfold J1;rw[show 6+j=(5+j)+1 from by omega,Acz,z7 (by omega),a,show 5+j-5=j from by omega,Aav b]
theorem rF(c:Value)(E R S:Aei)(a:E.length=5)(b:R.length=1030)(j:Nat):(J1 c E R S)[1036+j]?=S[j]?:=by
 unfold J1;rw[show 1036+j=(1035+j)+1 from by omega,Acz,z7 (by omega),a,z7 (by omega),b,show 1035+j-5-1030=j from by omega]
theorem aR(VA:Array Value)(root:Nat)(fs:Aeh)(b:VA.size=773)(j:Nat)(a:j<773):(Cl VA root fs)[j]?=VA[j]?:=by
 unfold Cl;rw[Aav (by rw[Ab1];omega),Array.getElem?_toList]
theorem rG(VA:Array Value)(root:Nat)(fs:Aeh)(a:VA.size=773):(Cl VA root fs)[773]?=some (.int .i64 root):=by
 unfold Cl;rw[z7 (by rw[Ab1];omega),Ab1,a,Abd];rfl
theorem kF(VA:Array Value)(root:Nat)(ws:Aeh)(a:VA.size=773)(b:Nat)(hb:b<256):(Cl VA root (firsts ws))[774+b]?=some (.int .i64 (Cu ws b:Nat)):=by
 unfold Cl;rw[z7 (by rw[Ab1];omega),Ab1,a,show 774+b-773=b+1 from by omega,Acz];unfold Ad firsts;rw[Aah,Aah,Abn hb];rfl
structure uH(w:World)(pa:Nat)(s l6:Aeg)(L:Aeh)(l8:Aeg)(st:Bl)(gn ge g ng nc gs:Nat):Prop where
 names:w.cell? ⟨pa,0,none⟩=some (.slice (some ⟨gn,0,none⟩) (rdF s).1 (rdF s).1)
 nblock:w.heap[gn]?=some (.cells (F8 (rdM s).1).toArray 9 (0,0))
 ends:Ep w pa 1 ⟨(l6.take (szB (Ak (rdF s).1 (rdN s).1))).toArray⟩ (Ak (rdF s).1 (rdN s).1) ge (rdF s).1 (Cz (rdF s).1 (rdN s).1)
 rows:Ec w pa 6 ⟨(l8.take (szB st.len)).toArray⟩ st.len g ng nc st.nds (rdR s).1 st.ws
 total:w.cell? ⟨pa,778,none⟩=some (.int .i64 ((rdN s).1:Nat))
theorem Dw.parts{w:World}{st:Bl}(h:Dw B w pa s l6 L l8 st)(e:C5 s l6 L l8 st): ∃gn ge g ng nc gs,uH w pa s l6 L l8 st gn ge g ng nc gs:=by
 obtain⟨gn,ge,g,ng,nc,gs,b1,b2,b3,t,u,a2,a3,k,l,m,r⟩:=h;refine⟨gn,ge,g,ng,nc,gs,?_⟩;have n:=e.ends.fits;have f:(⟨(l6.take (szB (Ak (rdF s).1 (rdN s).1))).toArray⟩:ByteArray).size=szB (Ak (rdF s).1 (rdN s).1):=by
  show(l6.take _).toArray.size=_;rw[Aaa,zS];omega
 have q:=I1 e.tree (Kk s);obtain⟨col,v,x,i⟩:=Li e.tree;have c:(A6 ⟨(l8.take (szB st.len)).toArray⟩ st.len g (Bf L) (S0 ng st.nds.length nc) st.ws (rdN s).1).toArray.size=773:=by
  rw[Aaa];exact Cq _ _ _ _ _ _ _ (A5 _ _ _ _) i.1
 have a:(Gj l6 (rdF s).1 (rdN s).1 ge).length=5:=rfl;have p:=Gz (A6 ⟨(l8.take (szB st.len)).toArray⟩ st.len g (Bf L) (S0 ng st.nds.length nc) st.ws (rdN s).1).toArray (rdR s).1 (firsts st.ws) c (by unfold firsts;rw[Aai,Acb]);have d: ∀j,j<773->w.cell? (J pa (6+j))=(A6 ⟨(l8.take (szB st.len)).toArray⟩ st.len g (Bf L) (S0 ng st.nds.length nc) st.ws (rdN s).1)[j]?:=fun j o=>by
  rw[zP _ _ (6+j) _ _ _ a2,Aag,P4 _ _ _ _ a j (by omega),aR _ _ _ c j o,Aag]
 refine⟨zP _ _ 0 _ _ _ a2,a3,⟨⟨zP _ _ 1 _ _ _ a2,zP _ _ 2 _ _ _ a2,?_,?_⟩,zP _ _ 4 _ _ _ a2,zP _ _ 5 _ _ _ a2⟩,⟨⟨⟨d 0 (by omega),d 1 (by omega),d 2 (by omega),?_⟩,?_,m⟩,?_,fun b hb=>?_⟩,?_⟩
 ·rw[f];exact zP _ _ 3 _ _ _ a2
 ·exact k
 ·exact l
 ·rw[show 6+515=6+515 from rfl,d 515 (by omega)];exact Rj _ _ _ _ _ _ _ (A5 _ _ _ _)
 ·rw[zP _ _ (6+773) _ _ _ a2,Aag,P4 _ _ _ _ a 773 (by omega),rG _ _ _ c]
 ·rw[zP _ _ (6+774+b) _ _ _ a2,Aag,show 6+774+b=6+(774+b)from by omega,P4 _ _ _ _ a (774+b) (by omega),kF _ _ _ c b hb]
 ·rw[show(778:Nat)=6+772 from rfl,d 772 (by omega)];exact Rk _ _ _ _ _ _ _ (A5 _ _ _ _) i.1
end
end Go.Proofs.YtegnkfdbmmndaaaGreat
