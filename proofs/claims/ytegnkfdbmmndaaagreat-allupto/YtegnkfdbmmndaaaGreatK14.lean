import Derived.Test.YtegnkfdbmmndaaaGreatK13

set_option maxHeartbeats 8000000
set_option maxRecDepth 100000
namespace Go.Proofs.YtegnkfdbmmndaaaGreat
open Hm Go.Proofs.Tryz
variable{B a b n root s:Nat}{w w':World}{col l:Aeg}{L ws:Aeh}{VA:Array Value}{T:ByteArray}{ok:Bool}{P:Program}
section
open Go.RowKit
structure Do(B:Nat)(w':World)(l:Aeg)(n:Nat)(L:Aeh)(VA:Array Value)(T:ByteArray)(ok:Bool):Prop where
 size:VA.size=773
 one:VA.all (·.oneCell')=true
 str:VA[0]?=some (.string T)
 few:T.size<=l.length
 said:(ok=true/\ ∃st g ng nc,Fj l n L st/\B<=g/\B<=ng/\g≠ng/\T.size=szB st.len/\VA=(A6 ⟨(l.take (szB st.len)).toArray⟩ st.len g (Bf L) (.slice (some ⟨ng,0,none⟩) st.nds.length nc) st.ws n).toArray/\st.ws.length=256/\
   IntRow w' g (B8 (l.take (szB st.len)))/\w'.ownsRow 0 195 9 (.slice (some ⟨ng,0,none⟩) st.nds.length nc) st.nds.length (Bj st.nds))\/
  (ok=false/\(∀st,¬Fj l n L st)/\VA=Tryz.zeroCells96)
theorem Do.kept{w2:World}(h:Do B w' l n L VA T ok){S:Nat->Prop}(hk:Aa S w' w2)(hn: ∀j,B<=j->j<w'.heap.size-> ¬S j):Do B w2 l n L VA T ok:=by
 refine⟨h.size,h.one,h.str,h.few,?_⟩;rcases h.said with⟨h1,st,g,ng,nc,a1,a2,a3,a4,a5,a6,a7,a8,a9⟩|h1
 ·exact .inl ⟨h1,st,g,ng,nc,a1,a2,a3,a4,a5,a6,a7,a8.kept hk (hn g a2 a8.lt),hk.owns a9 (fun j b=>by have a:ng=j:=Aak b;rw[<-a];exact hn ng a3 (a9.lt ng rfl).2)⟩
 ·exact .inr h1
theorem Do.le(h:Do B w' l n L VA T ok)(hb:a<=B):Do a w' l n L VA T ok:=by
 refine⟨h.size,h.one,h.str,h.few,?_⟩;rcases h.said with⟨h1,st,g,ng,nc,a1,a2,a3,a4⟩|h1
 ·exact .inl ⟨h1,st,g,ng,nc,a1,Aaf hb a2,Aaf hb a3,a4⟩
 ·exact .inr h1
theorem j1:Tryz.zeroCells96[0]?=some (.string ⟨#[]⟩):=by kernel_rfl
theorem j2(hones:Bc)(l:Aeg)(n:Nat)(L:Aeh)(w:World)(hn:n<=65535)(h:L.length=256)(i: ∀x∈L,x<=255)(a:l.length<=281474976710656):
  Calls prog 118 #[.string ⟨l.toArray⟩,.int .i64 n,.agg (Ad L).toArray] w fun e w'=>Aee w w'/\ ∃VA T ok,e= .returned (.tuple #[.agg VA,.bool ok])/\Do w.heap.size w' l n L VA T ok:=by
 refine(jZ hones l n L w hn h i a).mono ?_;rintro e w' ⟨hk,⟨st,g,ng,nc,a1,a2,a3,c,rfl,b,d,f⟩|⟨h1,rfl⟩⟩
 ·refine⟨hk,_,⟨(l.take (szB st.len)).toArray⟩,_,rfl,?_,Eu _ _ _ _ _ _ _ rfl,rfl,?_,.inl ⟨rfl,st,g,ng,nc,a1,a2,a3,c,?_,rfl,b,d,f⟩⟩
  ·rw[Aaa,Cq _ _ g (Bf L) _ st.ws n (A5 _ _ _ _) b]
  ·show(l.take _).toArray.size<=_;simp;omega
  ·have h2:=Lc a1.2;have j:=Nat.min_le_left (8*l.length) (n*Hk L);show(l.take _).toArray.size=_;unfold Fv at h2;unfold szB;simp;omega
 ·exact⟨hk,_,⟨#[]⟩,_,rfl,In,Vp,j1,zZ _,.inr ⟨rfl,h1,rfl⟩⟩
theorem qK(hones:Bc)(p:Nat)(st:Rd)(n:Nat)(L:Aeh)(w:World)(hr:A9 w p st)(hn:n<=65535)(hL:L.length=256)(hx: ∀x∈L,x<=255)(Y:Bt st<=281474976710656):
  Calls prog 69 #[.pointer (some ⟨p,0,none⟩),.int .i64 n,.agg (Ad L).toArray] w fun e w'=>Aa (fun j=>j=p) w w'/\ ∃VA T ok,e= .returned (.agg VA)/\Do w.heap.size w' (st.getD []) n L VA T ok/\A9 w' p (Be (Dk st ok) T.size).2:=by
 obtain⟨l,hl⟩:=gx (st.getD []);have D:Hid (∀W,Calls prog 118 #[.string ⟨l.toArray⟩,I n,.agg (Ad L).toArray] W fun e w'=>Aee W w'/\ ∃VA T ok,e= .returned (.tuple #[.agg VA,.bool ok])/\Do W.heap.size w' l n L VA T ok):=fun W=>j2 hones l n L W hn hL hx (by rw[hl];exact Y);obtain⟨m,r⟩: ∃a,a=(Ad L).toArray:=⟨_,rfl⟩;have ah:m.size=256:=by rw[r,Ba,hL]
 obtain⟨S,hS⟩:=gx (⟨l.toArray⟩:ByteArray);rw[<-r,<-hS]at D;rw[<-r,<-hl];have hp:=hr.lt;have q:=hr.rest;rw[<-hl,<-hS]at q;obtain⟨W0,u⟩:=gx ((w.alloc (.cells m 139)).alloc (.cells Tryz.zeroCells96 96));have R:Aee w W0:=by rw[u];exact((Aa.refl _ _).alloc _).alloc _
 have O:W0.heap[w.heap.size]?=some (.cells m 139 (0,0)):=by rw[u];exact Ab2 w _ _
 have ai:W0.heap[w.heap.size+1]?=some (.cells Tryz.zeroCells96 96 (0,0)):=by rw[u];exact Ab3 w _ _
 have P:W0.cell? (J p 0)=some (.string S):=(R.cell (p:=(J p 0)) hp id).trans q;have HW:=hZ u.symm;have H:=hZ (aI hr (aI hl (aI Y R)));have aa:Tryz.zeroCells96.size=773:=In;clear u r hS hL hx hl hr Y q R
 go_enter func69,ntmps69
 go_upto_region 1 with fail
 rw[HW.o];clear HW;have an:=fun W (h:A9 W p st) ok=>Jd p st ok W h;have af:Hid _:=an;clear an;have aJ:=Aac O;have aK:w.heap.size+1<W0.heap.size:=Aac ai
 go_cut[7,8]from 9 (fun v7 v8 g=> ∃tb VA T ok,v7= .pointer (some (J tb 0))/\v8= .bool ok/\Aside (g.heap[tb]?=some (.cells VA 96 (0,0))/\Do W0.heap.size g l n L VA T ok/\Aee W0 g/\W0.heap.size<=tb/\A9 g p st))
 case first=>
  refine Aca (S:=fun X=>X.cell? (J p 0)=some (.string S)/\X.heap[w.heap.size]?=some (.cells m 139 (0,0))) (by kernel_rfl) ?_ (fun hHeld=>?_)
  ·exact⟨P,O⟩
  refine tW 0 ⟨some 10,.move (.tmp 0),183,"read.go:89",#[],none⟩ _ ?_
  refine tW 1 ⟨some 11,.nilCheck (.tmp 10),0,"read.go:89",#[⟨0,.data⟩],none⟩ _ ?_
  refine tW 2 ⟨some 12,.fieldAddr 132 (.tmp 11) 0,0,"read.go:89",#[⟨1,.data⟩],none⟩ _ ?_
  refine tW 3 ⟨some 13,.load 9 (.tmp 12),9,"read.go:89",#[⟨2,.data⟩],none⟩ _ ?_
  refine tW 4 ⟨some 14,.move (.tmp 1),3,"read.go:89",#[],none⟩ _ ?_
  refine tK 5 ⟨some 15,.load 139 (.tmp 5),139,"read.go:89",#[],none⟩ (.agg m) (fun X hX => Fi X 139 (.tmp 5) rfl w.heap.size rfl 139 m (0, 0) _ hX.2 underlying139 rfl (by rw [ah]; exact Ci)) ?_
  simp only[Act.put,zO,zW,z5];have HS:Hid (∀X,Aee W0 X->X.cell? (J p 0)=some (.string S)/\X.heap[w.heap.size]?=some (.cells m 139 (0,0))):=fun X hk=>⟨(hk.cell (p:=(J p 0)) (z9 _ _ P) id).trans P,hk.row O id⟩;refine Aaq (rs:=[6,10]) (by kernel_rfl) (by simp) ?_;refine Aad rfl (fun K hK=>?_) (Aad rfl (fun K hK=>?_) Aal)
  ·go_simp;refine(D.o _).mono ?_;rintro e N ⟨E,VA,T,ok,rfl,b⟩;have kA:Aee W0 N:=(Aa.refl (fun _=>False) W0).drew.tr E;refine hK.o _ _ (HS.o _ kA) (fun hHeld=>?_);clear hK K
   refine tW 7 ⟨some 9,.move (.tmp 16),186,"read.go:89",#[⟨6,.data⟩],none⟩ _ ?_
   refine tW 8 ⟨some 17,.extract (.tmp 9) 0,96,"read.go:89",#[⟨7,.data⟩],none⟩ _ ?_
   refine tW 9 ⟨some 18,.extract (.tmp 9) 1,4,"read.go:89",#[⟨7,.data⟩,⟨11,.gcOnly .lateStores⟩],none⟩ _ ?_
   refine Aaq (rs:=[10]) (by kernel_rfl) (by simp) ?_;refine Aad rfl (fun K hK=>?_) Aal;go_simp;obtain⟨xb,f⟩: ∃X,X=N.alloc (.cells Tryz.zeroCells96 96):=⟨_,rfl⟩;have s:Aee N xb:=by rw[f];exact(Aa.refl _ _).alloc _
   have k:xb.heap[N.heap.size]?=some (.cells Tryz.zeroCells96 96 (0,0)):=by rw[f];exact zY N _
   obtain⟨tb,c⟩: ∃t,t=N.heap.size:=⟨_,rfl⟩;rw[<-c]at k|-;rw[<-f];have a3:=Acx c;have aw:=Acx c.symm;have aF:=kA.size;have kB:=kA.tr s;refine hK.o _ _ (HS.o _ kB) (fun hHeld=>?_);clear hK K f c;refine Aaq (rs:=[11]) (by kernel_rfl) (by simp) ?_;refine Aad rfl (fun K hK=>?_) Aal;refine Cd xb rfl 96 (.tmp 7) (.tmp 17) rfl tb 96 Tryz.zeroCells96 VA rfl rfl k (by rw[b.size];exact Ce) (by rw[b.size];exact aa) b.one ?_;intro g Z y;have G:Aee W0 g:=kB.trans y (fun j h1 h2=>by omega);have Q:Do W0.heap.size g l n L VA T ok:=(b.kept ((s.wider (T:=fun j=>j=tb) (fun _ _ h=>h.elim)).tr y) (fun j h1 h2 h3=>by omega)).le (zK _);refine hK.o _ _ (HS.o _ G) (fun hHeld=>?_);clear hK K;refine Aaq (rs:=[12]) (by kernel_rfl) (by simp) ?_;refine Aad rfl (fun K hK=>?_) Aal;go_simp;refine hK.o _ _ (HS.o _ G) (fun hHeld=>?_);clear hK K;refine Ach (by kernel_rfl) ?_ _;have H4:Aside (g.heap[tb]?=some (.cells VA 96 (0,0))/\Do W0.heap.size g l n L VA T ok/\Aee W0 g/\W0.heap.size<=tb/\A9 g p st):=⟨Z,Q,G,by omega,(H.o.1.kept H.o.2.2.2 id).kept G id⟩;go_wp2_with fail;go_meet
   case rel=>exact⟨tb,VA,T,ok,rfl,rfl,H4⟩
  ·go_simp;obtain⟨xb,f⟩: ∃X,X=(W0.alloc (.cells Tryz.zeroCells96 96)).drew:=⟨_,rfl⟩;have s:Aee W0 xb:=by rw[f];exact((Aa.refl _ _).alloc _).drew
   have k:xb.heap[W0.heap.size]?=some (.cells Tryz.zeroCells96 96 (0,0)):=by rw[f];exact zY W0 _
   obtain⟨tb,c⟩: ∃t,t=W0.heap.size:=⟨_,rfl⟩;rw[<-c]at k|-;rw[<-f];have a3:=Acx c;have aw:=Acx c.symm;have aH:=Aac k;refine hK.o _ _ (HS.o _ s) (fun hHeld=>?_);clear hK K f c;refine Aaq (rs:=[6]) (by kernel_rfl) (by simp) ?_;refine Aad rfl (fun K hK=>?_) Aal;go_simp;refine(D.o _).mono ?_;rintro e N ⟨E,VA,T,ok,rfl,b⟩;have kA:=s.tr E;have k:=E.row k id;have aE:=s.size;refine hK.o _ _ (HS.o _ kA) (fun hHeld=>?_);clear hK K
   refine tW 7 ⟨some 9,.move (.tmp 16),186,"read.go:89",#[⟨6,.data⟩],none⟩ _ ?_
   refine tW 8 ⟨some 17,.extract (.tmp 9) 0,96,"read.go:89",#[⟨7,.data⟩],none⟩ _ ?_
   refine tW 9 ⟨some 18,.extract (.tmp 9) 1,4,"read.go:89",#[⟨7,.data⟩,⟨11,.gcOnly .lateStores⟩],none⟩ _ ?_
   refine Aaq (rs:=[11]) (by kernel_rfl) (by simp) ?_;refine Aad rfl (fun K hK=>?_) Aal;refine Cd N rfl 96 (.tmp 7) (.tmp 17) rfl tb 96 Tryz.zeroCells96 VA rfl rfl k (by rw[b.size];exact Ce) (by rw[b.size];exact aa) b.one ?_;intro g Z y;have G:Aee W0 g:=kA.trans y (fun j h1 h2=>by omega);have Q:Do W0.heap.size g l n L VA T ok:=(b.kept y (fun j h1 h2 h3=>by omega)).le (by omega);refine hK.o _ _ (HS.o _ G) (fun hHeld=>?_);clear hK K;refine Aaq (rs:=[12]) (by kernel_rfl) (by simp) ?_;refine Aad rfl (fun K hK=>?_) Aal;go_simp;refine hK.o _ _ (HS.o _ G) (fun hHeld=>?_);clear hK K;refine Ach (by kernel_rfl) ?_ _;have H4:Aside (g.heap[tb]?=some (.cells VA 96 (0,0))/\Do W0.heap.size g l n L VA T ok/\Aee W0 g/\W0.heap.size<=tb/\A9 g p st):=⟨Z,Q,G,by omega,(H.o.1.kept H.o.2.2.2 id).kept G id⟩;go_wp2_with fail;go_meet
   case rel=>exact⟨tb,VA,T,ok,rfl,rfl,H4⟩
 case rest=>
  obtain⟨tb,VA,T,ok,rfl,rfl,C⟩:=hcut;have am:=af.o wc C.o.2.2.2.2 ok;have M:=C.o.2.2.1.row ai id;have ak:=H.o.2.2.2.tr C.o.2.2.1;have aG:T.size<=281474976710656:=by
   have h1:=C.o.2.1.few;have h2:=H.o.2.2.1;rw[H.o.2.1]at h1;exact Aaf h1 h2
  have ag:Hid (∀W,A9 W p (Dk st ok)->Calls prog 64 #[.pointer (some (J p 0)),I T.size] W fun e w'=>e= .returned (.string ⟨(Be (Dk st ok) T.size).1.toArray⟩)/\A9 w' p (Be (Dk st ok) T.size).2/\Aa (fun j=>j=p) W w'):=
   fun W h=>Mr p (Dk st ok) T.size W h (by have h1:=Jl st ok;have h2:=H.o.2.2.1;omega) (by omega)
  have aq:p≠tb:=by have:=C.o.2.2.2.1;omega
  have ao:p≠w.heap.size+1:=by omega
  have hpb:p<w.heap.size:=hp;have H5:Hid (wc.heap[tb]?=some (.cells VA 96 (0,0))/\Do W0.heap.size wc l n L VA T ok/\wc.heap[w.heap.size+1]?=some (.cells Tryz.zeroCells96 96 (0,0))/\Aee w wc/\w.heap.size+1<tb):=⟨C.o.1,C.o.2.1,M,ak,by have:=C.o.2.2.2.1;omega⟩;clear af D M ak C;go_wp2_with fail;refine am.mono ?_;rintro e w2 ⟨rfl,ar,U⟩;have A:=U.row H5.o.1 (fun h=>aq h.symm);have c0:w2.cell? (J tb 0)=some (.string T):=(zP _ _ 0 _ _ _ A).trans H5.o.2.1.str;have ap:=Ls tb 0 T w2 c0;have av:=ag.o w2 ar;have H6:=hZ U;clear am ar U ag A;go_wp2_with fail;refine ap.mono ?_;rintro e w3 ⟨rfl,a5⟩;subst a5;clear ap;go_wp2_with fail;refine av.mono ?_;rintro e w4 ⟨rfl,au,aj⟩;have i:=H6.o.tr aj;have B:=i.row H5.o.1 (fun h=>aq h.symm);have z:=i.row H5.o.2.2.1 (fun h=>ao h.symm);have d:=H5.o.2.1.kept i (fun j h1 h2 h3=>by omega);have H7:Hid (w4.heap[tb]?=some (.cells VA 96 (0,0))/\Do W0.heap.size w4 l n L VA T ok/\w4.heap[w.heap.size+1]?=some (.cells Tryz.zeroCells96 96 (0,0))/\Aa (fun j=>j=p) w w4/\A9 w4 p (Be (Dk st ok) T.size).2):=
   ⟨B,d,z,(H5.o.2.2.2.1.wider (fun _ _ h=>h.elim)).tr i,au⟩
  have F:=d.size;have a4:=d.one;clear i B z d av au aj H6 c0
  go_wp2_with(first
   |(refine Aa0 rfl 96 _ rfl tb rfl 96 VA (0,0) _ H7.o.1 underlying96 rfl (by rw[F];exact Ce) ?_)
   |(refine wpList_store_row _ rfl 96 _ _ rfl (w.heap.size+1) 96 _ VA rfl rfl H7.o.2.2.1 (by rw[F];exact Ce) (by rw[F];exact aa) a4 ?_;intro w9 a6 V))
  refine Aa8 (v:= .agg VA) (Abj results69 _ w9 (w.heap.size+1) 96 VA (0,0) _ rfl a6 underlying96 rfl (by rw[F];exact Ce)) rfl ⟨H7.o.2.2.2.1.trans V (fun j h1 h2=>by omega),VA,T,ok,rfl,?_,H7.o.2.2.2.2.kept V (fun h=>ao h)⟩;exact(H7.o.2.1.kept V (fun j h1 h2 h3=>by omega)).le (by omega)
namespace Hm
def Cu(ws:Aeh)(b:Nat):Nat:=1+(ws.take b).sum
def firsts(ws:Aeh):Aeh:=(List.range 256).map (Cu ws)
def Dn(ws:Aeh)(k:Nat):Aeh:=(List.range 256).map fun b=>if b<k then Cu ws b else 0
theorem G5(ws:Aeh)(k:Nat):(Dn ws k).length=256:=by unfold Dn;rw[Aai,Acb]
theorem Qw(ws:Aeh)(k b:Nat)(hb:b<256):(Dn ws k)[b]?=some (if b<k then Cu ws b else 0):=by
 unfold Dn;rw[Aah,Abn hb];rfl
theorem gG(ws:Aeh):Dn ws 0=List.replicate 256 0:=by
 apply List.ext_getElem?;intro i
 by_cases hi:i<256
 ·rw[Qw ws 0 i hi,iN,Ada,if_pos hi]
 ·rw[Aam (by rw[G5];omega),Aam (by rw[zV];omega)]
theorem j3(ws:Aeh):Dn ws 256=firsts ws:=by
 unfold Dn firsts;refine Acy fun b hb=>?_;rw[if_pos (List.mem_range.1 hb)]
theorem gH(ws:Aeh)(k:Nat)(hk:k<256):(Dn ws k).set k (Cu ws k)=Dn ws (k+1):=by
 apply List.ext_getElem?;intro i
 by_cases hi:i<256
 ·rw[Qw ws (k+1) i hi,List.getElem?_set]
  by_cases e:k=i
  ·subst e;rw[if_pos rfl,if_pos (by rw[G5];exact hk),iP]
  ·rw[if_neg e,Qw ws k i hi]
   by_cases h2:i<k
   ·rw[if_pos h2,iP]
   ·rw[if_neg h2,iN]
 ·rw[Aam (by rw[Abb,G5];omega),Aam (by rw[G5];omega)]
theorem Vq(ws:Aeh)(k:Nat)(h:k<ws.length):Cu ws (k+1)=Cu ws k+ws[k]:=by
 unfold Cu;rw[zQ h,List.sum_append];simp;omega
theorem y7(l:Aeh)(B:Nat)(h: ∀x∈l,x<=B):l.sum<=l.length*B:=by
 induction l with
 |nil=>simp
 |cons a r ih=>
  have h1:=h a (Aab ..);have h2:=ih fun x b=>h x (Aae _ b);rw[Adu,Aau,Ab4];omega
end Hm
def Cl(VA:Array Value)(root:Nat)(fs:Aeh):Aei:=VA.toList++(.int .i64 root::Ad fs)
theorem Gz(VA:Array Value)(root:Nat)(fs:Aeh)(b:VA.size=773)(a:fs.length=256):(Cl VA root fs).length=1030:=by
 unfold Cl;rw[zL,Aau,Ab1,b];simp[Ad,a]
theorem tR(VA:Array Value)(root:Nat)(fs:Aeh)(a:VA.size=773)(b x:Nat):(Cl VA root fs).set (774+b) (.int .i64 x)=Cl VA root (fs.set b x):=by
 unfold Cl;rw[Aba _ _ (by rw[Ab1,a];omega),Ab1,a,show 774+b-773=b+1 from by omega,z5];simp[Ad,List.map_set]
theorem tS(VA:Array Value)(root:Nat)(fs:Aeh)(a:VA.size=773)(b:Nat)(hb:b<fs.length):(Cl VA root fs)[774+b]?=some (.int .i64 (fs.getD b 0:Nat)):=by
 unfold Cl;rw[z7 (by rw[Ab1,a];omega),Ab1,a,show 774+b-773=b+1 from by omega,Acz];simp[Ad,hb]
theorem Vr(VA:Array Value)(root:Nat)(fs:Aeh)(b:VA.all (·.oneCell')=true):(Cl VA root fs).toArray.all (·.oneCell')=true:=by
 have h2:=Ew fs;rw[Acv]at*;intro x c;have a:x∈Cl VA root fs:=by simpa using c
 unfold Cl at a;rcases Ad7.1 a with h|h
 ·exact b x (by simpa using h)
 rcases List.mem_cons.1 h with rfl|h
 ·rfl
 ·exact h2 x (by simpa using h)
theorem O1:(prog.info? 98).map (·.size)=some 1030:=by kernel_rfl
theorem mV:(prog.underlying 98).bind (fun d=>match d with| .struct fields=>fields.toList.mapM (fun f=>(prog.info? f.type).map fun i=>(f.offset,i.size))|_=>none)=some [(0,773),(773,1),(774,256)]:=by kernel_rfl
theorem tT:((prog.info? 98).bind (·.zero))=some (.agg (Cl Tryz.zeroCells96 0 (List.replicate 256 0)).toArray):=by kernel_rfl
theorem mW:Tryz.zeroCells98=(Cl Tryz.zeroCells96 0 (List.replicate 256 0)).toArray:=by kernel_rfl
theorem qL(VA:Array Value)(root:Nat)(h:VA.size=773):
  prog.built 98 [(0,.agg VA),(1,.int .i64 root)]=some (Cl VA root (List.replicate 256 0)).toArray:=by
 unfold Program.built;have b:=tT;have a:=mV;cases h1:prog.info? 98 with
 |none=>rw[h1]at b;cases b
 |some it=>
  cases h2:prog.underlying 98 with
  |none=>rw[h2]at a;cases a
  |some d=>
   rw[h1]at b;rw[h2]at a;have e:it.zero=some (.agg (Cl Tryz.zeroCells96 0 (List.replicate 256 0)).toArray):=b;cases d<;>try(cases a;done)
   rename_i fields;have c:fields.toList.mapM (fun f=>(prog.info? f.type).map fun i=>(f.offset,i.size))=some [(0,773),(773,1),(774,256)]:=a;simp only[e,c];have j:(Value.agg (Cl Tryz.zeroCells96 0 (List.replicate 256 0)).toArray).cells=(Cl Tryz.zeroCells96 0 (List.replicate 256 0)).toArray:=rfl;rw[j];have g:Tryz.zeroCells96.toList.length=773:=by rw[Ab1];exact In
   unfold Cl;generalize Tryz.zeroCells96.toList=Z at*;generalize Ad (List.replicate 256 0)=R at*;have s1:=M2 ([(0,773),(773,1),(774,256)].toArray[·]?) 0 0 773 (.agg VA) [(1,I root)] [] Z (I ((0:Nat):Int)::R) VA.toList rfl (by simp[Value.cells]) (by rw[Ab1];exact h) rfl g;have s2:=M2 ([(0,773),(773,1),(774,256)].toArray[·]?) 1 773 1 (I root) [] VA.toList [I ((0:Nat):Int)] R [I root] rfl rfl rfl (by rw[Ab1];exact h) rfl;rw[Adk,Adk]at s1;rw[s1];rw[show VA.toList++(I ((0:Nat):Int)::R)=VA.toList++([I ((0:Nat):Int)]++R)from rfl,s2,Instr.fill];rfl
theorem Zb{ops:Array Oper}{rest:List Oper}{o:Oper}{a:Act}{Q:Exit->Act->World->Prop}(b:o.guard=none)(t:TypeId)(c d:Nat)(g i:Operand)(k:o.op= .build t #[(c,g),(d,i)])(e f:Value)(j:a.eval g=e)(h1:a.eval i=f)(cells:Array Value)(hb:P.built t [(c,e),(d,f)]=some cells)
  (h:wpList P ops Q rest (a.put o.dst (.agg cells)) w):wpList P ops Q (o::rest) a w:=by
 refine wpList_plain b fun K hK=>?_;unfold Oper.wp;rw[Qt w t _ k cells (by simp only[List.map_toArray,Abg,Adv,j,h1];exact hb)];exact hK _ _ h
namespace Hm
def B5(root row:Nat):Nat:=if root<row then row-1 else row
def Bw(col:Aeg)(ws:Aeh)(root row:Nat):UInt8×Nat:=
 if row=root then(0,0)else(col.getD (B5 root row) 0,Cu ws (col.getD (B5 root row) 0).toNat+(col.take (B5 root row)).count (col.getD (B5 root row) 0))
theorem N8{row:Nat}(h1:root<=n)(h2:row<=n)(a:row≠root):B5 root row<n:=by
 unfold B5;split<;>omega
end Hm
structure Ec(w:World)(pb o:Nat)(s:ByteArray)(len g ng nc:Nat)(nds:List Nd)(root:Nat)(ws:Aeh):Prop where
 tree:Hc w pb o s len g ng nc nds
 root:w.cell? ⟨pb,o+773,none⟩=some (.int .i64 root)
 firsts: ∀b,b<256->w.cell? ⟨pb,o+774+b,none⟩=some (.int .i64 (Cu ws b:Nat))
theorem Ec.kept{S:Nat->Prop}{pb o len g ng nc:Nat}{s:ByteArray}{nds:List Nd}(h:Ec w pb o s len g ng nc nds root ws)(hk:Aa S w w')(h1: ¬S pb)(h2: ¬S g)(c: ¬S ng):Ec w' pb o s len g ng nc nds root ws:=
 have a:pb<w.heap.size:=z9 _ _ h.root
 ⟨h.tree.kept hk h1 h2 c,(hk.cell (p:=(J pb (o+773))) a h1).trans h.root,fun b hb=>(hk.cell (p:=(J pb (o+774+b))) a h1).trans (h.firsts b hb)⟩
theorem Sm(pb o root row:Nat)(w:World)(h:w.cell? ⟨pb,o+773,none⟩=some (.int .i64 root))(c:row<=1000000):
  Calls prog 80 #[.pointer (some ⟨pb,o,none⟩),.int .i64 row] w fun e w'=>e= .returned (.int .i64 (B5 root row:Nat))/\w'=w:=by
 by_cases a:root<row
 ·have hd:=zJ a;have b:=(dT root row).2;have e:B5 root row=row-1:=if_pos a;rw[e]
  go_enter func80,ntmps80
  go_wp2;go_ret;exact⟨by go_num,rfl⟩
 ·have hd:=zM a;have b:=(dF root row).2;have e:B5 root row=row:=if_neg a;rw[e]
  go_enter func80,ntmps80
  go_wp2;go_ret;exact⟨rfl,rfl⟩
theorem Tf(hones:Bc)(pb o len g ng nc root row:Nat)(s:ByteArray)(nds:List Nd)(ws:Aeh)(col:Aeg)(w:World)(h:Ec w pb o s len g ng nc nds root ws)(ht:K0 s.data.toList nds col)(y:root<=col.length)(z:row<=col.length)(hs:s.size<=1000000)(r:col.length<=1000000)(k: ∀b,b<256->Cu ws b<=1000000000):
  Calls prog 34 #[.pointer (some ⟨pb,o,none⟩),.int .i64 row] w fun e w'=>e= .returned (.tuple #[.int .u8 ((Bw col ws root row).1.toNat:Nat),.int .i64 ((Bw col ws root row).2:Nat)])/\Aee w w':=by
 have v:=h.root
 by_cases u:row=root
 ·have e:Bw col ws root row=(0,0):=if_pos u;rw[e];have hd:((row:Int)==(root:Int))=true:=by simp;omega
  clear h
  go_enter func34,ntmps34
  go_wp2_with fail;go_ret2;exact⟨rfl,Aa.refl _ _⟩
 ·have hd:((row:Int)==(root:Int))=false:=by simp;omega
  have F:=N8 y z u;have e:Bw col ws root row=(col.getD (B5 root row) 0,Cu ws (col.getD (B5 root row) 0).toNat+(col.take (B5 root row)).count (col.getD (B5 root row) 0)):=if_neg u;rw[e];have a:=fun W (i:Ec W pb o s len g ng nc nds root ws)=>Sm pb o root row W i.root (by omega);have j:=fun W (i:Ec W pb o s len g ng nc nds root ws)=>vX hones pb o len g ng nc (B5 root row) s nds col W i.tree ht F hs r;generalize B5 root row=ix at*;have G:(col.take ix).count (col.getD ix 0)<=1000000:=Aaf List.count_le_length (by rw[zS];omega);generalize t:(col.take ix).count (col.getD ix 0)=ct at*;generalize A:col.getD ix 0=x at*;have n:=x.toNat_lt;have H:=k _ n;have f:Hid (∀W,Ec W pb o s len g ng nc nds root ws->W.cell? (J pb (o+774+x.toNat))=some (I (Cu ws x.toNat:Nat))):=fun W i=>i.firsts _ n;generalize Cu ws x.toNat=fb at*;generalize x.toNat=xn at*;have E:Hid _:=a;have D:Hid _:=j
  have p:=hZ h;clear h a j F e t A k ht
  go_enter func34,ntmps34
  go_wp2_with fail
  go_region_held(fun X=>Ec X pb o s len g ng nc nds root ws) (first|exact C|exact B|exact p.o.kept (Aa.refl (fun _=>False) w).drew id id id)
   (first
    |(go_at_call 80;(refine(E.o _ (p.o.kept (Aa.refl (fun _=>False) w).drew id id id)).mono ?_;rintro e L ⟨rfl,l⟩;have c:Aee w L:=(by rw[l];exact(Aa.refl (fun _=>False) w).drew);have B:=p.o.kept c id id id;clear l))
    |(go_at_call 79;(refine(D.o _ B).mono ?_;rintro e w2 ⟨rfl,m⟩;have d:Aee w w2:=c.tr m;have C:=p.o.kept d id id id;clear m)))
  have K:=f.o _ C;have q:=hZ d;clear B C c d E D f;go_wp2_with fail;go_quiet(fail);go_wp2_with fail;go_ret2;exact⟨by go_num,q.o.drewN _⟩
theorem wK:(prog.info? 9).map (fun i=>(i.zero,i.size,i.bytes))=some (some (.string ⟨#[]⟩),1,16):=by kernel_rfl
namespace Hm
def F8(l:List ByteArray):Aei:=l.map Value.string
def At:Nat->Rd->List ByteArray×Rd
 |0,st=>([],st)
 |k+1,st=>((At k st).1++[⟨(Be (B7 (At k st).2 1).2 (B7 (At k st).2 1).1).1.toArray⟩],(Be (B7 (At k st).2 1).2 (B7 (At k st).2 1).1).2)
theorem Fw(st:Rd): ∀k,(At k st).1.length=k
 |0=>rfl
 |k+1=>by rw[At];simp[Fw st k]
theorem Qx(st:Rd): ∀k,Bt (At k st).2<=Bt st
 |0=>zK _
 |k+1=>by
  have h1:=Qx st k;have h2:=Eo (At k st).2 1;have a:Bt (Be (Be (At k st).2 1).2 (Dq (Be (At k st).2 1).1)).2<=Bt (Be (At k st).2 1).2:=Eo _ _;show Bt (Be (Be (At k st).2 1).2 (Dq (Be (At k st).2 1).1)).2<=_;omega
def Fx(st:Rd)(m k:Nat):Aei:=F8 ((At k st).1++List.replicate (m-k) ⟨#[]⟩)
theorem cN(st:Rd)(m k:Nat)(h:k<=m):(Fx st m k).length=m:=by
 unfold Fx F8;rw[Aai,zL,Fw,zV];omega
theorem j4(st:Rd)(m k:Nat)(h:k<m):Fx st m (k+1)=(Fx st m k).set k (.string ⟨(Be (B7 (At k st).2 1).2 (B7 (At k st).2 1).1).1.toArray⟩):=by
 have e:List.replicate (m-k) (⟨#[]⟩:ByteArray)=⟨#[]⟩::List.replicate (m-(k+1)) ⟨#[]⟩:=by rw[show m-k=(m-(k+1))+1 from by omega,Abx]
 unfold Fx F8;rw[At,e,<-Ace,Aba _ _ (by rw[Fw];omega),Fw,Abd,zW,Aaj];rfl
theorem mX(st:Rd)(m k:Nat)(h:k<m):(Fx st m k)[k]?=some (.string ⟨#[]⟩):=by
 unfold Fx F8;rw[Aah,z7 (by rw[Fw];omega),Fw,Abd];rw[show m-k=(m-(k+1))+1 from by omega,Abx];rfl
end Hm
theorem tX(p:Nat)(st:Rd)(m:Nat)(w:World)(U:A9 w p st)(hm:m<=255)(T:Bt st<=281474976710656):
  Calls prog 66 #[.pointer (some ⟨p,0,none⟩),.int .i64 m] w fun e w'=>e= .returned (.slice (some ⟨w.heap.size,0,none⟩) m m)/\
   w'.heap[w.heap.size]?=some (.cells (F8 (At m st).1).toArray 9 (0,0))/\A9 w' p (At m st).2/\Aa (fun j=>j=p) w w':=by
 obtain⟨i0,hi,Z,aa,ab⟩:=Aa6 wK;have hp:=U.lt;have M:=hZ (aI U T);clear U
 go_enter func66,ntmps66
 go_wp2_with(at_make;refine Abv _ rfl (.tmp 7) (.tmp 7) 26 rfl w.heap.size 9 i0 (.string ⟨#[]⟩) 1 underlying26 hi Z aa .i64 .i64 _ _ m rfl rfl rfl rfl (by rw[ab];omega) (by unfold maxLen;omega) (zK _) ?_;intro w1 q t)
 have u:Aee w w1:=(Aa.refl _ _).grown t (fun k hk=>by cases hk);have C:w1.heap[w.heap.size]?=some (.cells (Fx st m 0).toArray 9 (0,0)):=by
  rw[Acw,show(Value.string ⟨#[]⟩).cells= #[Value.string ⟨#[]⟩]from rfl,Ac4]at q;rcases q.2 with⟨h1,_⟩|⟨g2,cap,cur,h1,_,hg,_,_,hs,ht⟩
  ·cases h1
  ·cases h1;have e:cur.toList.take (m*1)=cur.toList:=Aap (by simp;omega);have e2:cur=(Fx st m 0).toArray:=by
    apply Abr;rw[<-e,ht];simp[Fx,At,F8]
   rw[hg,e2]
 clear q t;have O:=hZ (aI C u);clear C u;go_wp2
 go_loopw[11] (fun vi wr=> ∃k:Nat,k<=m/\vi=I k/\wr.heap[w.heap.size]?=some (.cells (Fx st m k).toArray 9 (0,0))/\A9 wr p (At k st).2/\Aa (fun j=>j=p) w wr) (fun vi _=>m-(intOf vi).toNat)
 case atStart=>exact⟨0,by omega,rfl,O.o.1,M.o.1.kept O.o.2 id,O.o.2.wider (fun _ _ h=>h.elim)⟩
 case round=>
  obtain⟨k,hk,rfl,b,f,d⟩:=hrel
  by_cases z:k<m
  ·have X:=Qx st k;have B:=Lu p (At k st).2 1 wr f (by have:=M.o.2;omega) (by omega);have Y:=Im (At k st).2 1;have F:=Eo (At k st).2 1;have l:Hid (∀W,A9 W p (B7 (At k st).2 1).2->Calls prog 64 #[.pointer (some (J p 0)),I ((B7 (At k st).2 1).1:Nat)] W fun e w'=>e= .returned (.string ⟨(Be (B7 (At k st).2 1).2 (B7 (At k st).2 1).1).1.toArray⟩)/\A9 w' p (Be (B7 (At k st).2 1).2 (B7 (At k st).2 1).1).2/\Aa (fun j=>j=p) W w'):=
    fun W h=>Mr p _ _ W h (by have:=M.o.2;show Bt (Be (At k st).2 1).2<=_;omega) (by simp at Y;omega)
   have i:Hid (Fx st m (k+1)=(Fx st m k).set k (.string ⟨(Be (B7 (At k st).2 1).2 (B7 (At k st).2 1).1).1.toArray⟩)/\(At (k+1) st).2=(Be (B7 (At k st).2 1).2 (B7 (At k st).2 1).1).2):=⟨j4 st m k z,rfl⟩;have Q:=Nf (B7 (At k st).2 1).2 (B7 (At k st).2 1).1;have ai:=cN st m k hk;have V:=mX st m k z;generalize(B7 (At k st).2 1).1=x at*;generalize Be (B7 (At k st).2 1).2 x=tk at*;obtain⟨S,P⟩:=gx (⟨tk.1.toArray⟩:ByteArray);have r:S.size<=281474976710656:=by rw[P];show tk.1.toArray.size<=_;simp at Y|-;omega
   rw[<-P]at l i;have s:=fun W=>Rf S W r;have H:=hZ (aI b d);have ah:(k:Int)<(m:Int):=by omega
   clear P b d f X F r Q Y;go_wp2_with fail;refine B.mono ?_;rintro e w2 ⟨rfl,D,v⟩;have G:=l.o w2 D;have H2:=hZ v;clear B D v l;go_wp2_with fail;refine G.mono ?_;rintro e w3 ⟨rfl,E,y⟩;have K:=hZ (aI (H2.o.tr y) E);clear G E y H2;go_wp2_with fail;refine(s _).mono ?_;rintro e g ⟨rfl,n⟩;have c:Aa (fun j=>j=p) wr g:=K.o.1.trans n (fun _ _ h=>h.elim);have A:p≠w.heap.size:=by omega
   have a:=c.row H.o.1 (fun h=>A h.symm);have c1:g.cell? (J w.heap.size k)=some (.string ⟨#[]⟩):=by rw[zP _ _ k _ _ _ a];simpa using V
   have f1:=zR _ _ k _ _ a;have L:Hid (g.heap[w.heap.size]?=some (.cells (Fx st m k).toArray 9 (0,0))/\Aa (fun j=>j=p) w g/\A9 g p tk.2):=⟨a,H.o.2.tr c,K.o.2.kept n id⟩;clear s n c a K H;go_wp2_with fail;go_roundw
   case rel=>
    refine⟨k+1,by omega,by go_num,?_,?_,L.o.2.1.setCell (.inl (zK _)) _⟩
    ·have e3:(Fx st m k).toArray.setIfInBounds k (.string S)=((Fx st m k).set k (.string S)).toArray:=by apply Abr;simp
     rw[zI _ _ k _ _ (.string S) L.o.1,i.o.1,e3]
    ·rw[i.o.2];have R:Aa (fun j=>j=w.heap.size) g (g.setCell (J w.heap.size k) (.string S)):=(Aa.refl (fun j=>j=w.heap.size) g).setCell (p:=(J w.heap.size k)) (.inr rfl) _;exact L.o.2.2.kept R A
   case measure=>simp[intOf];omega
  ·obtain rfl:k=m:=by omega
   have N:Hid (wr.heap[w.heap.size]?=some (.cells (F8 (At k st).1).toArray 9 (0,0))/\A9 wr p (At k st).2/\Aa (fun j=>j=p) w wr):=by
    refine⟨?_,f,d⟩;rw[b];simp[Fx]
   clear b f d;go_wp2_with fail;go_ret;exact⟨rfl,N.o⟩
namespace Hm
def Er(ws:Aeh)(col:Aeg):Prop:=ws.length=256/\ ∀v:UInt8,ws.getD v.toNat 0=col.count v
theorem cP(col:Aeg)(b:Nat)(hb:b<256):col.countP (fun x=>decide (x.toNat<b+1))=col.countP (fun x=>decide (x.toNat<b))+col.count (UInt8.ofNat b):=by
 induction col with
 |nil=>rfl
 |cons y r ih=>
  rw[Abi,Abi,List.count_cons,ih];have e:(UInt8.ofNat b).toNat=b:=by simp;omega
  rcases Aa7 y.toNat b with h|h|h
  ·rw[zJ (show y.toNat<b+1 by omega),zJ h,show(y==UInt8.ofNat b)=false from by
    rw[Aat];intro x;rw[x,e]at h;omega]
   simp;omega
  ·rw[zJ (show y.toNat<b+1 by omega),zM (show¬y.toNat<b by omega),show(y==UInt8.ofNat b)=true from by
    rw[beq_iff_eq];exact UInt8.toNat_inj.1 (by rw[e];exact h)]
   simp;omega
  ·rw[zM (show¬y.toNat<b+1 by omega),zM (show¬y.toNat<b by omega),show(y==UInt8.ofNat b)=false from by
    rw[Aat];intro x;rw[x,e]at h;omega]
   simp
theorem Er.first(h:Er ws col): ∀b,b<=256->Cu ws b=1+col.countP fun x=>decide (x.toNat<b)
 |0,_=>by unfold Cu;simp
 |b+1,hb=>by
  have a:=h.first b (by omega);have h1:=h.1;have e:(UInt8.ofNat b).toNat=b:=by simp;omega
  have h2:=h.2 (UInt8.ofNat b);rw[e,zG,zH (by omega),Ack]at h2;rw[Vq ws b (by omega),a,cP col b (by omega),h2];omega
theorem Er.first_le(h:Er ws col)(b:Nat)(hb:b<=256):Cu ws b<=col.length+1:=by
 rw[h.first b hb];have:=List.countP_le_length (p:=fun x:UInt8=>decide (x.toNat<b)) (l:=col);omega
theorem wL(col:Aeg)(x:UInt8):col.countP (fun y=>decide (y.toNat<x.toNat))+col.count x<=col.length:=by
 induction col with
 |nil=>simp
 |cons y r ih=>
  rw[Abi,List.count_cons,Aau]
  by_cases e:y=x
  ·subst e;simp;omega
  ·rw[show(y==x)=false from by rw[Aat];exact e];simp only[Bool.false_eq_true,if_false];split<;>omega
theorem gI(col:Aeg)(p:Nat)(a:p<col.length):(col.take p).count (col.getD p 0)<col.count (col.getD p 0):=by
 obtain⟨x,b⟩:=gx (col.getD p 0);have e:col=col.take p++x::col.drop (p+1):=by
  rw[b,zG,zH a,Ack,<-Aan a,Abh]
 rw[<-b];have c:col.count x=(col.take p).count x+(x::col.drop (p+1)).count x:=by rw[<-List.count_append,<-e]
 rw[c,List.count_cons_self];omega
theorem tY(h:Er ws col){root row:Nat}(h1:root<=col.length)(h2:row<=col.length):(Bw col ws root row).2<=col.length:=by
 unfold Bw;split
 ·exact zZ _
 ·rename_i d;have e:=N8 h1 h2 d;have a:=gI col (B5 root row) e;have b:=wL col (col.getD (B5 root row) 0);have c:=(col.getD (B5 root row) 0).toNat_lt;show Cu _ _+_<=_;rw[h.first _ (by omega)];omega
def Bh(a:Nat->UInt8×Nat)(row:Nat):Nat->Aeg×Nat
 |0=>([],row)
 |k+1=>((a (Bh a row k).2).1::(Bh a row k).1,(a (Bh a row k).2).2)
theorem Uf(a:Nat->UInt8×Nat)(row:Nat): ∀k,(Bh a row k).1.length=k
 |0=>rfl
 |k+1=>by show((_::_:Aeg)).length=_;rw[Aau,Uf a row k]
theorem O2{col:Aeg}{ws:Aeh}(h:Er ws col){root row:Nat}(h1:root<=col.length)(h2:row<=col.length): ∀k,(Bh (Bw col ws root) row k).2<=col.length
 |0=>h2
 |k+1=>tY h h1 (O2 h h1 h2 k)
def Gi(l:Aeg)(j:Nat):Aei:=Ag (List.replicate j 0++l)
theorem Ya(l:Aeg)(j:Nat)(x:UInt8):(Gi l (j+1)).set j (.int .u8 (x.toNat:Int))=Gi (x::l) j:=by
 unfold Gi Ag;rw[show(Value.int .u8 (x.toNat:Int))=(fun b:UInt8=>Value.int .u8 (b.toNat:Int)) x from rfl,<-Ace,Adr,Aaj,Aba _ _ (by rw[zV];omega),zV,Abd];rfl
theorem Yb(l:Aeg)(j:Nat):(Gi l (j+1))[j]?=some (.int .u8 0):=by
 unfold Gi Ag;rw[Aah,Adr,Aaj,z7 (by rw[zV];omega),zV,Abd];rfl
end Hm
theorem Rn:(prog.info? 5).map (fun i=>(i.zero,i.size,i.bytes))=some (some (.int .u8 0),1,1):=by kernel_rfl
theorem j5(hones:Bc)(pb o len g ng nc root row n:Nat)(s:ByteArray)(nds:List Nd)(ws:Aeh)(col:Aeg)(w:World)(h:Ec w pb o s len g ng nc nds root ws)(ht:K0 s.data.toList nds col)(f:Er ws col)(m:root<=col.length)(A:row<=col.length)(hs:s.size<=1000000)(t:col.length<=1000000)(hn:n<=1000000):
  Calls prog 33 #[.func (.func 34) #[.pointer (some ⟨pb,o,none⟩)] #[],.int .i64 row,.int .i64 n] w fun e w'=>e= .returned (.slice (some ⟨w.heap.size,0,none⟩) n n)/\
   w'.heap[w.heap.size]?=some (.cells (Ag (Bh (Bw col ws root) row n).1).toArray 5 (0,0))/\Aee w w':=by
 obtain⟨i0,hi,E,F,G⟩:=Aa6 Rn;have aa:pb<w.heap.size:=z9 _ _ h.root;have C:Hid (∀k W,Ec W pb o s len g ng nc nds root ws->Calls prog 34 #[.pointer (some (J pb o)),I ((Bh (Bw col ws root) row k).2:Nat)] W fun e w'=>e= .returned (.tuple #[.int .u8 ((Bw col ws root (Bh (Bw col ws root) row k).2).1.toNat:Nat),I ((Bw col ws root (Bh (Bw col ws root) row k).2).2:Nat)])/\Aee W w'):=
  fun k W S=>Tf hones pb o len g ng nc root _ s nds ws col W S ht m (O2 f m A k) hs t (fun b hb=>by have:=f.first_le b (by omega);omega)
 have B:Hid (∀k,(Bh (Bw col ws root) row k).2<=1000000):=fun k=>Aaf (O2 f m A k) t;have P:=hZ h;clear h ht f;generalize Bw col ws root=stp at*
 go_enter func33,ntmps33
 go_wp2_with(at_make;refine Abv _ rfl (.tmp 9) (.tmp 9) 79 rfl w.heap.size 5 i0 (.int .u8 0) 1 underlying79 hi E F .i64 .i64 _ _ n rfl rfl rfl rfl (by rw[G];omega) (by unfold maxLen;omega) (zK _) ?_;intro N l u)
 have x:Aee w N:=(Aa.refl _ _).grown u (fun k hk=>by cases hk);have z:N.heap[w.heap.size]?=some (.cells (Gi [] n).toArray 5 (0,0)):=by
  rw[Acw,show(Value.int .u8 0).cells= #[Value.int .u8 0]from rfl,Ac4]at l;rcases l.2 with⟨h1,_⟩|⟨g2,cap,cur,h1,_,U,_,_,hs,ht⟩
  ·cases h1
  ·cases h1;have e:cur.toList.take (n*1)=cur.toList:=Aap (by simp;omega);have Q:cur=(Gi [] n).toArray:=by
    apply Abr;rw[<-e,ht];simp[Gi,Ag]
   rw[U,Q]
 clear l u;have M:=hZ (aI z x);clear z x;have ac:IntKind.i64.wrap ((n:Int)-1)=(n:Int)-1:=by rw[Aar];omega
 go_wp2
 go_loopw[1,8] (fun vr vi wr=> ∃j k:Nat,j+k=n/\vi=I ((j:Int)-1)/\vr=I ((Bh stp row k).2:Nat)/\wr.heap[w.heap.size]?=some (.cells (Gi (Bh stp row k).1 j).toArray 5 (0,0))/\Aee w wr) (fun _ vi _=>(intOf vi+1).toNat)
 case atStart=>exact⟨n,0,rfl,rfl,rfl,M.o.1,M.o.2⟩
 case round=>
  obtain⟨j,k,X,rfl,rfl,c,d⟩:=hrel;cases j with
  |zero=>
   have hk:k=n:=by omega
   subst hk;have D:((0:Nat):Int)-1= -1:=rfl;rw[D];have O:=hZ (aI c d);clear c d;go_wp2_with fail;go_ret;exact⟨rfl,O.o⟩
  |succ j=>
   have D:((j+1:Nat):Int)-1=(j:Int):=by omega
   rw[D];have Z:pb≠w.heap.size:=by omega
   have y:=C.o k wr (P.o.kept d id id id);have T:=B.o (k+1);have L:Hid (Bh stp row (k+1)=((stp (Bh stp row k).2).1::(Bh stp row k).1,(stp (Bh stp row k).2).2)):=rfl;have p:=Ya (Bh stp row k).1 j (stp (Bh stp row k).2).1;have v:=Yb (Bh stp row k).1 j;have H:=hZ (aI c d);have hd:decide ((0:Int)<=(j:Int))=true:=zJ (by omega);have Y:j<n:=by omega
   have V:(j:Int)<(n:Int):=by omega
   have ab:IntKind.i64.wrap ((j:Int)-1)=(j:Int)-1:=by rw[Aar];omega
   generalize stp (Bh stp row k).2=nx at*;generalize(Bh stp row k).2=r at*;generalize Gi (Bh stp row k).1 (j+1)=R at*;have q:=hZ p;clear c d p;go_wp2_with fail;refine y.mono ?_;rintro e w2 ⟨rfl,i⟩;have a:=i.row H.o.1 id;have c1:w2.cell? (J w.heap.size j)=some (.int .u8 0):=by rw[zP _ _ j _ _ _ a];simpa using v
   have f1:=zR _ _ j _ _ a;have K:=hZ (aI a (H.o.2.tr i));clear y i a v;go_wp2_with fail;go_roundw
   case rel=>
    refine⟨j,k+1,by omega,rfl,by rw[L.o],?_,K.o.2.setCell (.inl (zK _)) _⟩;rw[L.o];show _=some (Obj.cells (Gi (nx.1::(Bh stp row k).1) j).toArray _ _);rw[<-q.o];rw[<-zO];exact zI _ _ j _ _ _ K.o.1
   case measure=>simp[intOf]
end
namespace Hm
theorem Qy(nds:List Nd){i j:Nat}(h:i<=j):Dg nds i<=Dg nds j:=by
 induction j with
 |zero=>rw[show i=0 by omega];exact zK _
 |succ j ih=>
  by_cases e:i=j+1
  ·subst e;exact zK _
  ·have:=ih (by omega);show _<=Dg nds j+_;omega
theorem J0(l:Aeg)(a k:Nat)(h:k<8*a):Al (l.take a) k=Al l k:=by
 unfold Al;rw[zG,Ab9 (by omega),zG]
theorem Li{st:Bl}(h:Fj l n L st):
  ∃col:Aeg,col.length=n/\K0 (l.take (szB st.len)) st.nds col/\Er st.ws col:=by
 obtain⟨b,k⟩:=h;obtain⟨x,s⟩:=Qv b;have g:=s.nodes;have d:=Lq k;have a:=Ov g b.nodup rfl (zK _) k;have u:=Lc k;have f:=g.like d.1;have e:=d.1.1.symm
 replace a:Mc (Al (l.take (szB (Fv l n L)))) n (Ek L).length st:=a
 rw[e]at a;obtain⟨col,o,q,i,r⟩:=Y1 a rfl f b.numk b.num_lt b.pos;have y:Fv l n L<=8*l.length:=Nat.min_le_left _ _;have w:st.len<=8*szB st.len:=by unfold szB;omega
 have m:(l.take (szB st.len)).length=szB st.len:=by rw[zS];unfold szB;omega
 have fits: ∀j,j<st.nds.length->(Ab st.nds j).frm+(Ab st.nds j).siz<=st.len:=fun j c=>by
  rw[i.frm j c,a.len];exact Qy st.nds (show j+1<=st.nds.length by omega)
 refine⟨col,o,⟨32,lnB L,Bq L,Af L,⟨i.siz,i.frm,fun j p c v=>?_⟩,f,b.numk,q,b.pos,b.num_lt,fun j c=>?_⟩,a.wl,r⟩
 ·have t:=fits j c;rw[<-i.bit j p c v,J0 l _ _ (by omega),J0 l _ _ (by unfold szB;omega)]
 ·rw[m];have t:=fits j c;omega
theorem tZ{st:Bl}(h:Fj l n L st)(x:Nat)(c:x∈st.ws):x<=n:=by
 obtain⟨col,a,_,d,b⟩:=Li h;obtain⟨i,hi,e⟩:=Aa5 c;have h1:=b (UInt8.ofNat i);rw[show(UInt8.ofNat i).toNat=i from by simp;omega,zG,zH hi,Ack,e]at h1;rw[h1,<-a];exact List.count_le_length
end Hm
section
open Go.RowKit
theorem uA:(prog.info? 94).map (·.size)=some 256:=by kernel_rfl
theorem j6(VA:Array Value)(root:Nat)(ws:Aeh)(w:World)(s:VA.size=773)(G:VA.all (·.oneCell')=true)(f:ws.length=256)(hw: ∀b,b<256->VA[516+b]?=some (.int .i64 (ws.getD b 0:Nat)))(S: ∀x∈ws,x<=1000000):
  Calls prog 68 #[.agg VA,.int .i64 root] w fun e w'=>e= .returned (.agg (Cl VA root (firsts ws)).toArray)/\Aee w w':=by
 have E:=qL VA root s;obtain⟨L,l⟩: ∃R,R=(Cl VA root (List.replicate 256 0)).toArray:=⟨_,rfl⟩;have u:L.size=1030:=by rw[l,Aaa];exact Gz VA root _ s zV
 have t:L.all (·.oneCell')=true:=by rw[l];exact Vr VA root _ G
 have T:Tryz.zeroCells98.size=1030:=by rw[mW,Aaa];exact Gz _ 0 _ In zV
 rw[<-l]at E;have H:Hid (L=(Cl VA root (Dn ws 0)).toArray):=by show _=_;rw[l,gG]
 obtain⟨W0,m⟩:=gx ((w.alloc (.cells VA 96)).alloc (.cells Tryz.zeroCells98 98));have N:Aee w W0:=by rw[m];exact((Aa.refl _ _).alloc _).alloc _
 have q:W0.heap[w.heap.size]?=some (.cells VA 96 (0,0)):=by rw[m];exact Ab2 w _ _
 have D:W0.heap[w.heap.size+1]?=some (.cells Tryz.zeroCells98 98 (0,0)):=by rw[m];exact Ab3 w _ _
 have HW:=hZ m.symm;have V:=hZ (aI s (aI G (aI f (aI hw S))));clear m l hw S G;have K:Hid (∀X,Aa (fun j=>j=W0.heap.size) (W0.alloc (.cells Tryz.zeroCells98 98)) X->X.rangeAt w.heap.size 516 (Ad ws)):=fun X hk=>by
  have ap:=Aac q;have M:=hk.row (((Aa.refl (fun _=>False) W0).alloc (.cells Tryz.zeroCells98 98)).row q id) (by omega);have h:=World.rangeAt_of_block M 516 256;have e:(VA.extract 516 (516+256)).toList=Ad ws:=by
   apply List.ext_getElem?;intro i
   by_cases hi:i<256
   ·have h2:=V.o.2.2.2.1 i hi;rw[Array.getElem?_toList,Array.getElem?_extract];simp only[Ad,Aah];rw[if_pos (by rw[s];omega),h2,zH (by rw[f];exact hi),zG,zH (by rw[f];exact hi)];rfl
   ·rw[Aam (by simp[s];omega),Aam (by simp[Ad,f];omega)]
  rwa[e]at h
 have ac:(Ad ws).length=256:=by simp[Ad,f]
 go_enter func68,ntmps68
 go_upto_region 1 with fail
 rw[HW.o];clear HW
 go_wp2_with(first
  |(refine Aa0 rfl 96 _ rfl w.heap.size rfl 96 VA (0,0) _ q underlying96 rfl (by rw[s];exact Ce) ?_)
  |(refine Zb rfl 98 0 1 (.tmp 9) (.tmp 10) rfl _ _ rfl rfl L E ?_)
  |(refine wpList_store_row _ rfl 98 _ _ rfl W0.heap.size 98 Tryz.zeroCells98 L rfl rfl (zY W0 _) (by rw[u];exact O1) (by rw[u];exact T) t ?_;intro Z Q F)
  |(refine wpList_load_mid rfl 94 _ rfl w.heap.size 516 rfl (Ad ws) _ (K.o _ F) underlying94 rfl (by rw[ac];exact uA) ?_))
 have n:Aee W0 Z:=((Aa.refl (fun _=>False) W0).alloc _).trans F (fun j h1 h2=>by omega);have z:=n.row D id;have P:w.heap.size+1<W0.heap.size:=Aac D;have U:Hid (Aee w Z/\Z.heap[w.heap.size+1]?=some (.cells Tryz.zeroCells98 98 (0,0))/\Z.heap[W0.heap.size]?=some (.cells (Cl VA root (Dn ws 0)).toArray 98 (0,0))/\w.heap.size+1<W0.heap.size):=⟨N.tr n,z,by rw[Q,H.o],P⟩;clear N n q D z F Q E t H P K;generalize W0.heap.size=g at*
 go_loopw[6,14] (fun vf vi wr=> ∃k:Nat,k<=256/\vi=I k/\vf=I (Cu ws k:Nat)/\wr.heap[g]?=some (.cells (Cl VA root (Dn ws k)).toArray 98 (0,0))/\Aee w wr/\wr.heap[w.heap.size+1]?=some (.cells Tryz.zeroCells98 98 (0,0))) (fun _ vi _=>256-(intOf vi).toNat)
 case atStart=>exact⟨0,by omega,rfl,rfl,U.o.2.2.1,U.o.1,U.o.2.1⟩
 case round=>
  obtain⟨k,hk,rfl,rfl,a,r,d⟩:=hrel;have am:Cu ws k<=1+256*1000000:=by
   have h1:=y7 (ws.take k) 1000000 (fun x hx=>V.o.2.2.2.2 x (Ads hx));have h2:(ws.take k).length*1000000<=256*1000000:=Aa4 (by rw[zS];omega) (zK _);unfold Cu;omega
  by_cases O:k<256
  ·have ao:=fun W=>Pd 94 256 underlying94 ws k (by omega) f W;have af:k<ws.length:=by omega
   have ar:=V.o.2.2.2.2 ws[k] (z6 _);have HF:=hZ (Vq ws k af);have HR:Hid ((Cl VA root (Dn ws k)).set (774+k) (I (Cu ws k:Nat))=Cl VA root (Dn ws (k+1))):=by show _=_;rw[tR VA root _ s,gH ws k O]
   have c1:wr.cell? (J g (774+k))=some (I ((Dn ws k).getD k 0:Nat)):=by
    rw[zP _ _ _ _ _ _ a,Aag,tS VA root _ s k (by rw[G5];exact O)]
   have f1:wr.frozen? (J g (774+k))=false:=zR _ _ _ _ _ a;have B:=hZ (aI a (aI r d));generalize(Dn ws k).getD k 0=old at*;generalize Cu ws k=fa at*;generalize ws[k]=x at*;have ad:(k:Int)<256:=by omega
   clear a r d;go_wp2_with fail;have e3:(Cl VA root (Dn ws k)).toArray.setIfInBounds (774+k) (I fa)=(Cl VA root (Dn ws (k+1))).toArray:=by rw[<-HR.o];apply Abr;simp
   have an:=U.o.2.2.2;exact⟨⟨k+1,by omega,by go_num,by rw[HF.o];go_num,by rw[zI _ _ (774+k) _ _ (I fa) B.o.1,e3],B.o.2.1.setCell (p:=(J g (774+k))) (.inl (by show w.heap.size<=g;omega)) _,((Aa.refl (fun j=>j=g) wr).setCell (p:=(J g (774+k))) (.inr rfl) _).row B.o.2.2 (by omega)⟩,by simp[intOf];omega⟩
  ·obtain rfl:k=256:=by omega
   have y:=Vr VA root (Dn ws 256) V.o.2.1;have c:(Cl VA root (Dn ws 256)).toArray.size=1030:=by rw[Aaa];exact Gz VA root _ s (G5 _ _)
   have aa:Hid (Cl VA root (Dn ws 256)=Cl VA root (firsts ws)):=by show _=_;rw[j3]
   obtain⟨Y,C⟩: ∃A,A=(Cl VA root (Dn ws 256)).toArray:=⟨_,rfl⟩;rw[<-C]at a y c;have ab:=hZ C;have B:=hZ (aI a (aI r d));generalize Cu ws 256=fa at*;clear a r d C
   go_wp2_with(first
    |(refine Aa0 rfl 98 _ rfl g rfl 98 Y (0,0) _ B.o.1 underlying98 rfl (by rw[c];exact O1) ?_)
    |(refine wpList_store_row _ rfl 98 _ _ rfl (w.heap.size+1) 98 _ Y rfl rfl B.o.2.2 (by rw[c];exact O1) (by rw[c];exact T) y ?_;intro w9 ag ae))
   refine Aa8 (v:= .agg Y) (Abj results68 _ w9 (w.heap.size+1) 98 Y (0,0) _ rfl ag underlying98 rfl (by rw[c];exact O1)) rfl ⟨by rw[ab.o,aa.o],B.o.2.1.trans ae (fun j h1 h2=>by omega)⟩
namespace Hm
def Ap(n:Nat):Nat:=n+1+(n/8+1)*Lib.bitLen (n/8)
structure Hz(l:Aeg)(n:Nat):Prop where
 fits:szB (Ap n)<=l.length
 told:rk (Al (l.take (szB (Ap n)))) (n+1)=n/8+1
end Hm
def Hp(l:Aeg)(n g:Nat):Aei:=[.string ⟨(l.take (szB (Ap n))).toArray⟩,.int .i64 (Ap n:Nat),.slice (some ⟨g,0,none⟩) (szB (Ap n)+1) (szB (Ap n)+1),.int .i64 n]
def Dz:Aei:=[.string ⟨#[]⟩,.int .i64 0,.slice none 0 0,.int .i64 0]
theorem qM: ¬Hz [] n:=fun h=>by
 have h1:=h.fits;have h2:1<=Ap n:=Aaf (Nat.le_add_left 1 n) (Adz _ _);unfold szB at h1;simp at h1;omega
theorem eP(n:Nat)(hn:n<=65535): ∃d c tb,d=n/8+1/\c=Lib.bitLen (n/8)/\tb=d*c/\tb<=106496/\d<=8192/\c<=13/\Ap n=n+1+tb:=by
 have a:Lib.bitLen (n/8)<=13:=Lib.bitLen_le _ 13 (by omega) (by omega);have b:n/8+1<=8192:=by omega
 exact⟨_,_,_,rfl,rfl,rfl,Aa4 b a,b,a,rfl⟩
theorem aE(hones:Bc)(hLn:Ez)(l:Aeg)(n:Nat)(w:World)(hn:n<=65535)(av:l.length<=4611686018427387904):
  Calls prog 119 #[.string ⟨l.toArray⟩,.int .i64 n] w fun e w'=>Aee w w'/\
   ((Hz l n/\ ∃g,w.heap.size<=g/\e= .returned (.tuple #[.agg (Hp l n g).toArray,.bool true])/\IntRow w' g (B8 (l.take (szB (Ap n)))))\/
    (¬Hz l n/\e= .returned (.tuple #[.agg Dz.toArray,.bool false]))):=by
 obtain⟨td,bl,tb,Z,t,p,a3,a4,a6,K⟩:=eP n hn;have af:=hZ K;have z:=fun W=>N6 hLn n W (by omega);have ai:Ap n<=200000:=by omega
 have d:=fun W=>S7 (Ap n) W (by omega);obtain⟨S,hS⟩:=gx (⟨l.toArray⟩:ByteArray);have hz:S.size=l.length:=by rw[hS];show l.toArray.size=_;simp
 have HZ:Hid (szB (Ap n)=(Ap n+7)/8):=rfl;rw[<-HZ.o]at d;have an:szB (Ap n)<=100000:=by rw[HZ.o];omega
 have Y:n+1<=8*szB (Ap n):=by rw[HZ.o];omega
 have zt:(n:Int)/8+1=(td:Int):=by omega
 rw[<-t]at z;have a9:IntKind.i64.wrap ((td:Int)*(bl:Int))=(tb:Int):=by rw[Aar,<-Adb,<-p];clear p;omega
 have aA:wrap64 ((td:Int)*(bl:Int))=(tb:Int):=by rw[<-Adb,<-p];unfold wrap64;clear p;omega
 have L:(n:Int)+1+(tb:Int)=(Ap n:Int):=by clear p;omega
 have ag:=hZ Z;clear p K
 by_cases a:szB (Ap n)<=l.length
 ·have A:=fun W=>Ng l (Ap n) W a (by omega) av;rw[<-HZ.o,<-hS]at A;obtain⟨T,s⟩:=gx (⟨(l.take (szB (Ap n))).toArray⟩:ByteArray);have D:T.data.toList=l.take (szB (Ap n)):=by rw[s]
  have E:T.size=szB (Ap n):=by rw[s];show(l.take _).toArray.size=_;simp;omega
  rw[<-s]at A;have m:=fun W=>Ld hones T (Ap n) W (by omega);rw[E,D]at m;have C:Hid (∀W pb g,Dh W pb 0 T (Ap n) g->Calls prog 126 #[.pointer (some (J pb 0)),I ((n:Int)+1)] W fun e w'=>e= .returned (I (rk (Al (l.take (szB (Ap n)))) (n+1):Nat))/\w'=W):=fun W pb g h=>by
   have hh:=Jc hones pb 0 g (Ap n) (n+1) T W h (by rw[E];exact Y) (by omega);rwa[D,show((n+1:Nat):Int)=(n:Int)+1 from by omega]at hh
  have r:Hid (Hz l n↔rk (Al (l.take (szB (Ap n)))) (n+1)=td):=⟨fun h=>by rw[h.told,ag.o],fun h=>⟨a,by rw[h,ag.o]⟩⟩;have O:Hid (∀g,Hp l n g=[.string T,I (Ap n:Nat),S0 g (szB (Ap n)+1) (szB (Ap n)+1),I n]):=fun g=>by rw[s];rfl
  have P:Hid (∀g W,IntRow W g (B8 (l.take (szB (Ap n))))->IntRow W g (B8 T.data.toList)):=fun g W h=>by rw[D];exact h
  rw[<-hS];have ah:=hZ E;obtain⟨R,hR⟩:=gx (rk (Al (l.take (szB (Ap n)))) (n+1));rw[<-hR]at C r;obtain⟨cn,M⟩: ∃c,c=B8 (l.take (szB (Ap n))):=⟨_,rfl⟩;rw[<-M]at m P|-;obtain⟨q,hq⟩: ∃x,x=szB (Ap n):=⟨_,rfl⟩;rw[<-hq]at d a an m O ah;obtain⟨el,k⟩: ∃x,x=Ap n:=⟨_,rfl⟩;rw[<-k]at d L ai m A O C;have au:decide (l.length<q)=false:=zM (by omega);clear hS af HZ Z t hq k s D E M hR Y
  go_enter func119,ntmps119
  go_wp2_with fail;refine(z _).mono ?_;rintro e w1 ⟨rfl,hw⟩;subst hw;clear z;go_wp2_with fail;refine(d _).mono ?_;rintro e w1 ⟨rfl,rfl⟩;clear d;go_wp2_with fail;refine(A _).mono ?_;rintro e w2 ⟨rfl,X⟩;clear A;go_wp2_with fail;refine(m _).mono ?_;rintro e w3 ⟨g,hg,rfl,V,aj⟩;clear m;have y:=X.tr aj;have G:=y.row (zY w (.cells #[.string ⟨#[]⟩,I 0,.slice none 0 0,I 0] 100)) id;have ak:Aee w w3:=((Aa.refl (fun _=>False) w).alloc _).tr y;have N:w.heap.size<w3.heap.size:=Aac G;have am:w.heap.size<g:=by have:=X.size;simp at this;omega
  obtain⟨B,hB⟩:=gx w3.heap.size;obtain⟨U,F⟩:=gx (w3.alloc (.cells #[.string T,I el,S0 g (q+1) (q+1),I n] 100));have i:U.heap[B]?=some (.cells #[.string T,I el,S0 g (q+1) (q+1),I n] 100 (0,0)):=by rw[F,hB];exact zY w3 _
  have b:Aee w3 U:=by rw[F];exact(Aa.refl _ _).alloc _
  have hE:Dh U B 0 T el g:=⟨zP _ _ 0 _ _ _ i,zP _ _ 1 _ _ _ i,by rw[ah.o];exact zP _ _ 2 _ _ _ i,P.o _ _ (V.kept b id)⟩;have u:=C.o U B g hE;have H:Hid (Aee w U/\IntRow U g cn/\w.heap.size<B/\w.heap.size<g/\U.heap[w.heap.size]?=some (.cells #[.string ⟨#[]⟩,I 0,.slice none 0 0,I 0] 100 (0,0))):=
   ⟨ak.tr b,V.kept b id,by rw[hB];exact N,am,b.row G id⟩
  have Q:=hZ (aI F.symm hB.symm);have f:=b.row G id;clear X aj y G ak N am V b hE F hB C P hg;go_upto_region 6 with fail
  rw[Q.o.1,Q.o.2];clear Q;have p0:=cO 0 i;have p1:=cO 1 i;have p2:=cO 2 i;have p3:=cO 3 i;have q0:=cO 0 f;have q1:=cO 1 f;have q2:=cO 2 f;have q3:=cO 3 f;have f0:=zR _ _ 0 _ _ f;have f1:=zR _ _ 1 _ _ f;have f2:=zR _ _ 2 _ _ f;have f3:=zR _ _ 3 _ _ f;have az:w.heap.size≠B:=by have:=H.o.2.2.1;omega
  clear f i
  by_cases s:R=td
  ·have HB:=hZ (r.o.2 s);rw[s]at u;clear s r;go_wp2_with fail;refine u.mono ?_;rintro e w4 ⟨rfl,rfl⟩;clear u;go_wp2_with fail;have h2:=zI _ _ 3 _ _ (I n) (zI _ _ 2 _ _ (S0 g (q+1) (q+1)) (zI _ _ 1 _ _ (I el) (zI _ _ 0 _ _ (.string T) H.o.2.2.2.2)));refine Aa8 (v:= .tuple #[.agg #[.string T,I el,S0 g (q+1) (q+1),I n],.bool true]) (Dr results119 _ _ w.heap.size 100 _ (0,0) _ rfl h2 underlying100 rfl (by kernel_rfl)) rfl ⟨?_,.inl ⟨HB.o,g,by have:=H.o.2.2.2.1;omega,by rw[O.o],?_⟩⟩
   ·exact H.o.1.trans (M3 w4 w.heap.size _ _ _ _) (fun j h1 h2=>by omega)
   ·exact H.o.2.1.kept (M3 w4 w.heap.size _ _ _ _) (fun e=>by have:=H.o.2.2.2.1;omega)
  ·have HB:Hid (¬Hz l n):=fun h=>s (r.o.1 h);have a2:((R:Int) !=(td:Int))=true:=by simp;omega
   clear s r;go_wp2_with fail;refine u.mono ?_;rintro e w4 ⟨rfl,rfl⟩;clear u;go_wp2_with fail;have h2:=zI _ _ 3 _ _ (I 0) (zI _ _ 2 _ _ (.slice none 0 0) (zI _ _ 1 _ _ (I 0) (zI _ _ 0 _ _ (.string ⟨#[]⟩) H.o.2.2.2.2)));refine Aa8 (v:= .tuple #[.agg Dz.toArray,.bool false]) (Dr results119 _ _ w.heap.size 100 _ (0,0) _ rfl h2 underlying100 rfl (by kernel_rfl)) rfl ⟨?_,.inr ⟨HB.o,rfl⟩⟩;exact H.o.1.trans (M3 w4 w.heap.size _ _ _ _) (fun j h1 h2=>by omega)
 ·have ar:Hid (¬Hz l n):=fun h=>a h.fits;rw[<-hS];obtain⟨q,hq⟩: ∃x,x=szB (Ap n):=⟨_,rfl⟩;rw[<-hq]at d a an;obtain⟨el,k⟩: ∃x,x=Ap n:=⟨_,rfl⟩;rw[<-k]at d L ai;have au:decide (l.length<q)=true:=zJ (by omega);clear hS af HZ Z t hq k a Y
  go_enter func119,ntmps119
  go_wp2_with fail;refine(z _).mono ?_;rintro e w1 ⟨rfl,hw⟩;subst hw;clear z;go_wp2_with fail;refine(d _).mono ?_;rintro e w1 ⟨rfl,rfl⟩;clear d;go_wp2_with fail;refine Aa8 (v:= .tuple #[.agg Dz.toArray,.bool false]) (Dr results119 _ _ w.heap.size 100 _ (0,0) _ rfl (zY w _) underlying100 rfl (by kernel_rfl)) rfl ⟨(Aa.refl _ _).alloc _,.inr ⟨ar.o,rfl⟩⟩
theorem gJ(hones:Bc)(hLn:Ez)(p:Nat)(st:Rd)(n:Nat)(w:World)(hr:A9 w p st)(hn:n<=65535)(N:Bt st<=4611686018427387904):
  Calls prog 71 #[.pointer (some ⟨p,0,none⟩),.int .i64 n] w fun e w'=>Aa (fun j=>j=p) w w'/\
   ((∃l,st=some l/\Hz l n/\A9 w' p (some (l.drop (szB (Ap n))))/\ ∃g,w.heap.size<=g/\e= .returned (.agg (Hp l n g).toArray)/\IntRow w' g (B8 (l.take (szB (Ap n)))))\/
    ((∀l,st=some l-> ¬Hz l n)/\A9 w' p none/\e= .returned (.agg Dz.toArray))):=by
 obtain⟨l,hl⟩:=gx (st.getD []);have P:=fun W=>aE hones hLn l n W hn (by rw[hl];exact N);obtain⟨S,hS⟩:=gx (⟨l.toArray⟩:ByteArray);rw[<-hS]at P;have f:=hr.rest;rw[<-hl,<-hS]at f;have hp:=hr.lt;have C:=hZ (aI hr (aI hl N));have ar:(w.alloc (.cells #[.string ⟨#[]⟩,I 0,.slice none 0 0,I 0] 100)).cell? (J p 0)=some (.string S):=(((Aa.refl (fun _=>False) w).alloc _).cell (p:=(J p 0)) hp id).trans f;clear hS hl hr N f
 go_enter func71,ntmps71
 go_wp2_with fail;refine(P _).mono ?_;rintro e i ⟨K,h1⟩;clear P ar;have z:=K.row (zY w (.cells #[.string ⟨#[]⟩,I 0,.slice none 0 0,I 0] 100)) id;have m:Aee w i:=((Aa.refl (fun _=>False) w).alloc _).tr K;have R:w.heap.size<i.heap.size:=Aac z;have Y: ∃(T:ByteArray) (u:Nat) (t:Aej) (b A:Nat) (ok:Bool),e= .returned (.tuple #[.agg #[.string T,I u,.slice t b b,I A],.bool ok])/\T.size<=4611686018427387904/\
   ((ok=true/\ ∃l,st=some l/\Hz l n/\T.size=szB (Ap n)/\ ∃g,w.heap.size<g/\Hp l n g=[.string T,I u,.slice t b b,I A]/\IntRow i g (B8 (l.take (szB (Ap n)))))\/
    (ok=false/\(∀l,st=some l-> ¬Hz l n)/\Dz=[.string T,I u,.slice t b b,I A])):=by
  rcases h1 with⟨d,g,hg,rfl,H⟩|⟨hno,rfl⟩
  ·obtain⟨U,Q⟩: ∃U,st=some U:=by
    cases st with
    |none=>rw[C.o.2.1]at d;exact absurd d qM
    |some U=>exact⟨U,rfl⟩
   have q:l=U:=by rw[C.o.2.1,Q];rfl
   subst q;have x:(⟨(l.take (szB (Ap n))).toArray⟩:ByteArray).size=szB (Ap n):=by have:=d.fits;show(l.take _).toArray.size=_;simp;omega
   have au:l.length<=4611686018427387904:=by have:=C.o.2.2;rw[Q]at this;exact this
   exact⟨_,_,_,_,_,_,rfl,by rw[x];exact Aaf d.fits au,.inl ⟨rfl,l,Q,d,x,g,by simp at hg;omega,rfl,H⟩⟩
  ·refine⟨_,0,_,_,0,_,rfl,by show(0:Nat)<=_;omega,.inr ⟨rfl,fun U h=>?_,rfl⟩⟩;have q:l=U:=by rw[C.o.2.1,h];rfl
   rw[<-q];exact hno
 obtain⟨T,u,t,b,A,ok,rfl,x,HP⟩:=Y;have ap:Hid _:=HP;have ab:=fun W (h:A9 W p st)=>Jd p st ok W h;have ai:=fun W (h:A9 W p (Dk st ok))=>Mr p (Dk st ok) T.size W h (Aaf (Jl st ok) C.o.2.2) x;have H1:Hid (i.heap[w.heap.size]?=some (.cells #[.string ⟨#[]⟩,I 0,.slice none 0 0,I 0] 100 (0,0))/\Aee w i/\A9 i p st/\w.heap.size<i.heap.size):=
  ⟨z,m,C.o.1.kept m id,R⟩
 have V:Hid _:=ab;have X:Hid _:=ai;obtain⟨B,hB⟩:=gx i.heap.size;obtain⟨F,y⟩:=gx (i.alloc (.cells #[.string T,I u,.slice t b b,I A] 100));have k:Aee i F:=by rw[y];exact(Aa.refl _ _).alloc _
 have s:Hid (F.heap[B]?=some (.cells #[.string T,I u,.slice t b b,I A] 100 (0,0))/\F.heap[w.heap.size]?=some (.cells #[.string ⟨#[]⟩,I 0,.slice none 0 0,I 0] 100 (0,0))/\Aee w F/\A9 F p st/\w.heap.size<B/\Aee i F):=
  ⟨by rw[y,hB];exact zY i _,k.row z id,m.tr k,(C.o.1.kept m id).kept k id,by rw[hB];exact R,k⟩
 have E:=hZ (aI y.symm hB.symm);clear HP ab ai z m R K C y hB k h1 H1;go_upto_region 2 with fail
 rw[E.o.1,E.o.2];clear E;have aa:=V.o F s.o.2.2.2.1;go_wp2_with fail;refine aa.mono ?_;rintro e w2 ⟨rfl,af,L⟩;have ac:p≠B:=by have:=s.o.2.2.2.2.1;omega
 have ad:p≠w.heap.size:=by omega
 have c0:w2.cell? (J B 0)=some (.string T):=(L.cell (p:=(J B 0)) (Aac s.o.1) (fun h=>ac h.symm)).trans (zP _ _ 0 _ _ _ s.o.1);have ah:=X.o w2 af;have ae:=fun W (h:W.cell? (J B 0)=some (.string T))=>Ls B 0 T W h;have D:=ae w2 c0;have H3:=hZ L;clear aa af L V ae;go_wp2_with fail;refine D.mono ?_;rintro e w3 ⟨rfl,av⟩;subst av;clear D;go_wp2_with fail;refine ah.mono ?_;rintro e w4 ⟨rfl,ag,Z⟩;have c:=H3.o.tr Z;have r:=c.row s.o.1 (fun h=>ac h.symm);have a:=c.row s.o.2.1 (fun h=>ad h.symm);have p0:=cO 0 r;have p1:=cO 1 r;have p2:=cO 2 r;have p3:=cO 3 r;have q0:=cO 0 a;have q1:=cO 1 a;have q2:=cO 2 a;have q3:=cO 3 a;have f0:=zR _ _ 0 _ _ a;have f1:=zR _ _ 1 _ _ a;have f2:=zR _ _ 2 _ _ a;have f3:=zR _ _ 3 _ _ a;have az:w.heap.size≠B:=by have:=s.o.2.2.2.2.1;omega
 have H4:Hid (w4.heap[w.heap.size]?=some (.cells #[.string ⟨#[]⟩,I 0,.slice none 0 0,I 0] 100 (0,0))/\Aa (fun j=>j=p) w w4/\A9 w4 p (Be (Dk st ok) T.size).2/\Aa (fun j=>j=p) i w4):=
  ⟨a,(s.o.2.2.1.wider (fun _ _ h=>h.elim)).tr c,ag,(s.o.2.2.2.2.2.wider (fun _ _ h=>h.elim)).tr c⟩
 clear a r c Z ag ah H3 s c0 X;go_wp2_with fail;have h2:=zI _ _ 3 _ _ (I A) (zI _ _ 2 _ _ (.slice t b b) (zI _ _ 1 _ _ (I u) (zI _ _ 0 _ _ (.string T) H4.o.1)));have M:=M3 w4 w.heap.size (.string T) (I u) (.slice t b b) (I A);refine Aa8 (v:= .agg #[.string T,I u,.slice t b b,I A]) (Abj results71 _ _ w.heap.size 100 _ (0,0) _ rfl h2 underlying100 rfl (by kernel_rfl)) rfl ⟨?_,?_⟩
 ·exact H4.o.2.1.trans M (fun j h1 h2=>by omega)
 ·have O:=H4.o.2.2.1.kept M (fun h=>ad h);rcases ap.o with⟨rfl,l,rfl,d,hz,g,hg,G,H⟩|⟨rfl,hno,G⟩
  ·have e1:(Be (Dk (some l) true) T.size).2=some (l.drop (szB (Ap n))):=by
    show(Be (some l) T.size).2=_;rw[hz,Gx d.fits]
   rw[e1]at O;exact .inl ⟨l,rfl,d,O,g,by omega,by rw[G],(H.kept H4.o.2.2.2 (fun h=>by omega)).kept M (fun h=>by omega)⟩
  ·exact .inr ⟨hno,O,by rw[G]⟩
theorem Zc(w:World)(g o:Nat)(b t:TypeId)(A B C:Aei)(cells:Array Value)(e:w.heap[g]?=some (.cells (A++(B++C)).toArray t (0,0)))(hA:A.length=o)(j:B.length=cells.size)
  (hi:(P.info? b).map (·.size)=some cells.size) (h1:cells.all (·.oneCell')=true):
  (storeVar b ⟨g,o,none⟩ (.agg cells)).run P w= .ok () (w.setRow g (A++(cells.toList++C)).toArray):=by
 have hs:=run_storeCells_at P g o t cells.toList 0 _ w e (by simp;omega) (fun v f=>(Acv.1 h1) v (by simpa using f));have c:(A++(B++C)).take (o+0)=A:=by rw[Ac2,<-hA];simp
 have d:(A++(B++C)).drop (o+0+cells.toList.length)=C:=by
  rw[show o+0+cells.toList.length=(A++B).length from by rw[zL,Ab1];omega,<-Aaj,Ad4]
 rw[c,d,Aaj]at hs;cases a:P.info? b with
 |none=>simp[a]at hi
 |some i=>
  have h:cells.size=i.size:=by simp[a]at hi;omega
  simp[storeVar,sizeOf,typeInfo,a,Value.cells,h,hs]
theorem Mt(w:World){ops:Array Oper}{rest:List Oper}{op:Oper}{a:Act}{Q:Exit->Act->World->Prop}(b:op.guard=none)(c:TypeId)(x y:Operand)(f:op.op= .store c x y)
  (g o:Nat) (t:TypeId) (A B C:Aei) (cells:Array Value) (i:a.eval x= .pointer (some ⟨g,o,none⟩)) (k:a.eval y= .agg cells) (d:w.heap[g]?=some (.cells (A++(B++C)).toArray t (0,0))) (hA:A.length=o) (e:B.length=cells.size)
  (hi:(P.info? c).map (·.size)=some cells.size) (h1:cells.all (·.oneCell')=true)
  (h: ∀w',w'.heap[g]?=some (.cells (A++(cells.toList++C)).toArray t (0,0))->Aa (fun j=>j=g) w w'->wpList P ops Q rest (a.put op.dst undef) w'):wpList P ops Q (op::rest) a w:=by
 refine wpList_plain b fun K hK=>?_;unfold Oper.wp execOp;simp only[f,i,k,Instr.storeAt,Instr.sureAddr,Sem.run_bind,Sem.run_pure,Ac9,Zc w g o c t A B C cells d hA e hi h1];exact hK _ _ (h _ (setRow_heap w g _ _ t _ d) ((Aa.refl (fun j=>j=g) w).setRow (g:=g) (.inr rfl) _))
def J1(a:Value)(E R S:Aei):Aei:=a::(E++(R++S))
theorem mY:Tryz.zeroCells102=(J1 (.slice none 0 0) Hb (Cl Tryz.zeroCells96 0 (List.replicate 256 0)) Dz).toArray:=by kernel_rfl
theorem uB:(prog.info? 100).map (·.size)=some 4:=by kernel_rfl
theorem qN:(prog.info? 87).map (·.size)=some 5:=by kernel_rfl
end
namespace Hm
def J2(s:Nat):Nat:=if s%2=1 then(s/2)^^^3988292384 else s/2
def Ed:Nat->Nat->Nat
 |0,s=>s
 |k+1,s=>J2 (Ed k s)
def Xa(s b:Nat):Nat:=Ed 8 (s^^^b)
def F9(l:Aeg):Nat:=l.foldl (fun s b=>Xa s b.toNat) 4294967295
def crc(l:Aeg):Nat:=F9 l^^^4294967295
theorem N9(c:a<4294967296)(hb:b<4294967296):a^^^b<4294967296:=by
 have:=Nat.xor_lt_two_pow (n:=32) (x:=a) (y:=b) (by omega) (by omega);omega
theorem mZ(h:s<4294967296):J2 s<4294967296:=by
 unfold J2;split
 ·exact N9 (by omega) (by omega)
 ·omega
theorem R6(k:Nat){s:Nat}(h:s<4294967296):Ed k s<4294967296:=by
 induction k with
 |zero=>exact h
 |succ k ih=>exact mZ ih
theorem qO(h:s<4294967296)(hb:b<4294967296):Xa s b<4294967296:=R6 8 (N9 h hb)
theorem qP(l:Aeg): ∀s,s<4294967296->l.foldl (fun s b=>Xa s b.toNat) s<4294967296:=by
 induction l with
 |nil=>intro s h;exact h
 |cons b l ih=>
  intro s h;exact ih _ (qO h (by have:=b.toNat_lt;omega))
theorem Vs(l:Aeg):F9 l<4294967296:=qP l _ (by omega)
theorem Vt(l:Aeg):crc l<4294967296:=N9 (Vs l) (by omega)
theorem m7(l:Aeg)(b:UInt8):F9 (l++[b])=Xa (F9 l) b.toNat:=by
 simp[F9,List.foldl_append]
theorem Yc(l:Aeg)(k:Nat)(h:k<l.length):F9 (l.take (k+1))=Ed 8 (F9 (l.take k)^^^l[k].toNat):=by
 rw[zQ h,m7];rfl
end Hm
section
open Go.RowKit
theorem wM(s:Nat)(h:s<4294967296):bits .and .u32 (s:Int) 1=((s%2:Nat):Int):=by
 have:=u32_and_nat s 1 h (by omega);rw[Nat.and_one_is_mod]at this;exact this
theorem pB(b g n c:Nat)(bs:Aeg)(w:World)(hn:n=bs.length)(hb:n<=1000000)(m: ∀j,j<n->w.cell? ⟨b,g+j,none⟩=some (.int .u8 (bs.getD j 0).toNat)):
  Calls prog 106 #[.slice (some ⟨b,g,none⟩) n c] w fun e w'=>e= .returned (.int .u32 (crc bs:Nat))/\w'=w:=by
 have x:=hZ hn;have A:n<=bs.length:=by omega
 clear hn
 go_enter func106,ntmps106
 go_wp2
 go_loop [3,9] (fun s i=> ∃k:Nat,k<=n/\i=I k/\s= .int .u32 (F9 (bs.take k):Nat)) (fun _ i=>n-(intOf i).toNat)
 case atStart=>exact⟨0,zZ _,rfl,rfl⟩
 case round=>
  obtain⟨k,hk,rfl,rfl⟩:=hrel;have a:=Vs (bs.take k)
  by_cases r:k<n
  ·obtain⟨y,p,z,t⟩: ∃y:Nat,w.cell? (J b (g+k))=some (.int .u8 (y:Int))/\y<256/\Hid (F9 (bs.take (k+1))=Ed 8 (F9 (bs.take k)^^^y)):=by
    have h:k<bs.length:=by omega
    refine⟨bs[k].toNat,?_,bs[k].toNat_lt,Yc bs k h⟩;rw[m k r];simp[h]
   clear m;generalize F9 (bs.take k)=r0 at a t|-;have v:bits .xor .u32 (r0:Int) (y:Int)=((r0^^^y:Nat):Int):=u32_xor_nat _ _ a (by omega);go_wp2
   go_loop [3,17] (fun s i=> ∃j:Nat,j<=8/\i=I j/\s= .int .u32 (Ed j (r0^^^y):Nat)) (fun _ i=>8-(intOf i).toNat)
   case atStart=>exact⟨0,zZ _,rfl,rfl⟩
   case round=>
    obtain⟨j,E,rfl,rfl⟩:=hrel;have l:Ed j (r0^^^y)<4294967296:=R6 j (N9 a (by omega));have HS:Hid (Ed (j+1) (r0^^^y)=J2 (Ed j (r0^^^y))):=rfl
    by_cases u:j<8
    ·generalize Ed j (r0^^^y)=s0 at l HS|-;have D:=wM s0 l;have B:bits .xor .u32 ((s0:Int)/2) 3988292384=((s0/2^^^3988292384:Nat):Int):=u32_xor_nat (s0/2) 3988292384 (by omega) (by omega);go_wp2
     ·go_round
      case rel=>
       have d:((s0:Int)%2==1)=true:=by assumption
       have f:s0%2=1:=by simp at d;omega
       refine⟨j+1,by omega,by go_num,?_⟩;rw[HS.o,J2,if_pos f]
      case measure=>simp[intOf];omega
     ·go_round
      case rel=>
       have d:((s0:Int)%2==1)=false:=by assumption
       have f: ¬s0%2=1:=by simp at d;omega
       refine⟨j+1,by omega,by go_num,?_⟩;rw[HS.o,J2,if_neg f];go_num
      case measure=>simp[intOf];omega
    ·go_wp2
     go_round
     case rel=>
      obtain rfl:j=8:=by omega
      exact⟨k+1,by omega,by go_num,by rw[t.o]⟩
     case measure=>simp[intOf];omega
  ·have C:bits .xor .u32 (F9 (bs.take k):Int) 4294967295=((F9 (bs.take k)^^^4294967295:Nat):Int):=u32_xor_nat _ 4294967295 a (by omega);clear m;go_wp2;go_ret;refine⟨?_,rfl⟩;have q:bs.take k=bs:=Aap (by have:=x.o;omega);rw[q];rfl
namespace Hm
def Ph(s:Aeg)(st:Rd):Rd:=if(B7 st 4).2=some []/\(B7 st 4).1=crc (s.take (s.length-4))then some []else none
end Hm
theorem uC(p:Nat)(st:Rd)(s:Aeg)(w:World)(hr:A9 w p st)(T:Bt st<=4611686018427387904)(hs:(B7 st 4).2=some []->4<=s.length/\s.length<=1000000)(ay:s.length<=4611686018427387904):
  Calls prog 72 #[.pointer (some ⟨p,0,none⟩),.string ⟨s.toArray⟩] w fun e w'=>e= .returned (.tuple #[])/\A9 w' p (Ph s st)/\Aa (fun j=>j=p) w w':=by
 have t:=Lu p st 4 w hr T (by omega);have E:=Im st 4;have f:Hid (Ph s st=if(B7 st 4).2=some []/\(B7 st 4).1=crc (s.take (s.length-4))then some []else none):=rfl;obtain⟨x,hx⟩:=gx ((B7 st 4).1);obtain⟨s1,G⟩: ∃x,x=(B7 st 4).2:=⟨_,rfl⟩;rw[<-hx,<-G]at t f;rw[<-hx]at E;rw[<-G]at hs;have an:x<4294967296:=by simpa using E
 obtain⟨S,O⟩:=gx (⟨s.toArray⟩:ByteArray);have hz:S.size=s.length:=by rw[O];show s.toArray.size=_;simp
 rw[<-O];have hp:=hr.lt;clear hx G E hr T
 by_cases h1:s1=some []
 ·subst h1;obtain⟨h4,hm⟩:=hs rfl;obtain⟨q,hq⟩:=gx (s.length-4);have zq:(s.length:Int)-4=(q:Int):=by omega
  have ax:q<=s.length:=by omega
  obtain⟨B,hB⟩:=gx (S.extract 0 q);have A:B.data.toList=s.take q:=by rw[hB,O,extract_toArray];simp
  have N:B.size=q:=by
   have h:B.data.toList.length=B.size:=by simp
   rw[<-h,A];simp;omega
  have C:=fun W=>Lib.run_convert_string_bytes (P:=prog) W 9 79 5 B underlying9 underlying79 underlying5;rw[N]at C;have L:Hid (∀W Y,Calls prog 106 #[S0 W.heap.size q Y] (Lib.bytesWorld W 5 B) fun e w'=>e= .returned (.int .u32 (crc (s.take q):Nat))/\w'=Lib.bytesWorld W 5 B):=fun W Y=>
   pB W.heap.size 0 q Y (s.take q) (Lib.bytesWorld W 5 B) (by simp;omega) (by omega) (fun j hj=>by rw[Aao,Lib.bytesWorld_cell W 5 B j (by omega),A])
  have K:Hid (∀W,Aee W (Lib.bytesWorld W 5 B)):=fun W=>⟨rfl,rfl,rfl,by rw[Lib.bytesWorld_size];omega,fun k hk _=>Lib.bytesWorld_at_old W _ B k hk⟩;have aw:=Vt (s.take q);rw[<-hq]at f;have au:=hB.symm;have az:IntKind.u32.wrap (x:Int)=(x:Int):=by simp[IntKind.wrap,IntKind.signed,IntKind.bits];omega
  have n:=fun W b (h:A9 W p (some []))=>Jd p (some []) b W h;have c:Hid _:=n;clear hB A N hq hs h4 n O;generalize crc (s.take q)=M at*
  go_enter func72,ntmps72
  go_wp2_with fail;refine t.mono ?_;rintro e Z ⟨rfl,a,g⟩;have c0:=a.rest;have e0:(⟨((some []:Rd).getD []).toArray⟩:ByteArray)=⟨#[]⟩:=rfl;rw[e0]at c0;have m:=c.o Z true a;have H1:=hZ g;clear t a g;go_wp2_with fail;refine m.mono ?_;rintro e w2 ⟨rfl,d,i⟩;have u:A9 w2 p (some []):=d;have c1:=u.bad;have b1:(some []:Rd).isNone=false:=rfl;rw[b1]at c1;have H:=hZ (aI (H1.o.tr i) u);have Q:=C w2;have X:=L.o w2 (grownCap w2 q 0 5);have D:=K.o w2;generalize grownCap w2 q 0 5=Y at*;generalize Lib.bytesWorld w2 5 B=W2 at*;clear m d u i C L K;go_wp2_with fail;try rw[Q]
  go_wp2_with fail;refine X.mono ?_;rintro e w3 ⟨rfl,rfl⟩;clear X;have V:=H.o.2.kept D id;have H3:Hid (Aa (fun j=>j=p) w w3):=H.o.1.trans D (fun _ _ h=>h.elim);have U:=c.o w3 (decide (x=M)) V;have z:Hid (Dk (some []) (decide (x=M))=Ph s st):=by
   show _=_;rw[f.o]
   by_cases y:x=M
   ·rw[if_pos (by simp[y]),zJ y];rfl
   ·rw[if_neg (by simp[y]),zM y];rfl
  have av:((x:Int)==(M:Int))=decide (x=M):=by rw[Bool.eq_iff_iff];simp;omega
  rw[z.o]at U;clear V H D Q c;go_wp2_with fail;refine U.mono ?_;rintro e w4 ⟨rfl,ai,af⟩;go_wp2_with fail
  go_end0
  exact⟨rfl,ai,H3.o.tr af⟩
 ·have z:Hid (Ph s st=none):=by show _=_;rw[f.o,if_neg (fun h=>h1 h.1)]
  rw[z.o];obtain⟨r,F⟩:=gx (s1.getD []);obtain⟨R,hR⟩:=gx (⟨r.toArray⟩:ByteArray);have c:Hid (∀W,A9 W p s1->Calls prog 63 #[.pointer (some (J p 0)),.bool (R.toList.isEmpty)] W fun e w'=>e= .returned (.tuple #[])/\A9 w' p none/\Aa (fun j=>j=p) W w'):=fun W h=>by
   have h2:=Jd p s1 R.toList.isEmpty W h;have e:Dk s1 R.toList.isEmpty=none:=by
    cases s1 with
    |none=>unfold Dk;split<;>rfl
    |some l=>
     have hl:l≠[]:=fun hl=>h1 (by rw[hl]);have ae:R.toList=l:=by rw[hR,F];simp[ByteArray.toList_eq]
     unfold Dk;rw[if_neg (by rw[ae];simpa using hl)]
   rwa[e]at h2
  have HC:Hid (∀W,A9 W p s1->W.cell? (J p 0)=some (.string R)):=fun W h=>by rw[hR,F];exact h.rest
  clear hs O hR F h1 f
  go_enter func72,ntmps72
  go_wp2_with fail;refine t.mono ?_;rintro e Z ⟨rfl,a,g⟩;have c0:=HC.o Z a;have m:=c.o Z a;have H1:=hZ g;clear t a g c HC;go_wp2_with fail;refine m.mono ?_;rintro e w2 ⟨rfl,d,i⟩;have c1:=d.bad;have b1:(none:Rd).isNone=true:=rfl;rw[b1]at c1;have H:=hZ (aI (H1.o.tr i) d);clear m d i;go_wp2_with fail;exact Aa8 (v:= .tuple #[]) (results_none results72 _ _ _) rfl ⟨rfl,H.o.2,H.o.1⟩
namespace Hm
def Hu(s:Aeh×Rd):Aeh×Rd:=match (Be s.2 2).2 with
 |some l=>(s.1.set ((Be s.2 2).1.getD 0 0).toNat ((Be s.2 2).1.getD 1 0).toNat,some l)
 |none=>(s.1,none)
def B6(st:Rd):Nat->Aeh×Rd
 |0=>(List.replicate 256 0,st)
 |k+1=>Hu (B6 st k)
theorem cS(s:Aeh×Rd):(Hu s).1.length=s.1.length:=by
 unfold Hu;split<;>simp
theorem Kj(st:Rd): ∀k,(B6 st k).1.length=256
 |0=>zV
 |k+1=>by rw[B6,cS,Kj st k]
theorem m8(s:Aeh×Rd)(h:s.2=none):Hu s=(s.1,none):=by unfold Hu;rw[h];rfl
theorem aF(st:Rd)(k:Nat)(h:(B6 st k).2=none): ∀d,B6 st (k+d)=((B6 st k).1,none)
 |0=>by rw[Ac2,<-h]
 |d+1=>by rw[<-Abw,B6,aF st k h d,m8 _ rfl]
theorem qQ(s:Aeh×Rd)(h: ∀x∈s.1,x<=255): ∀x∈(Hu s).1,x<=255:=by
 unfold Hu;split
 ·intro x a;rcases Ac3 a with h1|h1
  ·exact h x h1
  ·rw[h1];have:=((Be s.2 2).1.getD 1 0).toNat_lt;omega
 ·exact h
theorem eQ(st:Rd): ∀k,∀x∈(B6 st k).1,x<=255
 |0=>fun x a=>by rw[Ac8 (show x∈List.replicate 256 0 from a)];omega
 |k+1=>qQ _ (eQ st k)
theorem R7(st:Rd): ∀k,Bt (B6 st k).2<=Bt st
 |0=>zK _
 |k+1=>by
  have h1:=R7 st k;have h2:=Eo (B6 st k).2 2;rw[B6];unfold Hu;cases a:(Be (B6 st k).2 2).2 with
  |none=>simp[Bt]
  |some l=>rw[a]at h2;show Bt (some l)<=_;omega
end Hm
theorem m9(p:Nat)(st:Rd)(w:World)(hr:A9 w p st)(V:Bt st<=4611686018427387904):
  Calls prog 70 #[.pointer (some ⟨p,0,none⟩)] w fun e w'=>e= .returned (.agg (Ad (B6 (B7 st 2).2 (B7 st 2).1).1).toArray)/\A9 w' p (B6 (B7 st 2).2 (B7 st 2).1).2/\Aa (fun j=>j=p) w w':=by
 have hp:=hr.lt;have T:=Im st 2;have C:Bt (B7 st 2).2<=4611686018427387904:=Aaf (Eo st 2) V;have Q:Hid (∀W,A9 W p st->Calls prog 65 #[.pointer (some (J p 0)),I ((2:Nat):Int)] W fun e w'=>e= .returned (I ((B7 st 2).1:Nat))/\A9 w' p (B7 st 2).2/\Aa (fun j=>j=p) W w'):=fun W h=>Lu p st 2 W h V (by omega);obtain⟨K,hK⟩:=gx ((B7 st 2).1);obtain⟨s1,X⟩: ∃s,s=(B7 st 2).2:=⟨_,rfl⟩;rw[<-hK,<-X]at Q|-;rw[<-hK]at T;rw[<-X]at C;have HR:=hZ (aI hr C);have aw:K<65536:=by simpa using T
 obtain⟨W0,D⟩:=gx ((w.alloc (.cells Tryz.zeroCells139 139)).alloc (.cells Tryz.zeroCells139 139));have R:Aee w W0:=by rw[D];exact((Aa.refl _ _).alloc _).alloc _
 have f:W0.heap[w.heap.size]?=some (.cells Tryz.zeroCells139 139 (0,0)):=by rw[D];exact Ab2 w _ _
 have b:W0.heap[w.heap.size+1]?=some (.cells (Ad (B6 s1 0).1).toArray 139 (0,0)):=by rw[D];have:=Ab3 w (.cells Tryz.zeroCells139 139) (.cells Tryz.zeroCells139 139);rw[this,Le];rfl
 have ad:=Q.o W0 (hr.kept R id);have H0:=hZ (aI R (aI f b));have HW:=hZ D.symm;clear R f b D hr V hK X Q C T
 go_enter func70,ntmps70
 go_upto_region 2 with fail
 rw[HW.o];clear HW;go_wp2_with fail;refine ad.mono ?_;rintro e w1 ⟨rfl,ae,O⟩;have m:p≠w.heap.size:=by omega
 have z:p≠w.heap.size+1:=by omega
 have H1:Hid (A9 w1 p s1/\Aa (fun j=>j=p) w w1/\w1.heap[w.heap.size]?=some (.cells Tryz.zeroCells139 139 (0,0))/\w1.heap[w.heap.size+1]?=some (.cells (Ad (B6 s1 0).1).toArray 139 (0,0))):=
  ⟨ae,(H0.o.1.wider (fun _ _ h=>h.elim)).tr O,O.row H0.o.2.1 (fun h=>m h.symm),O.row H0.o.2.2 (fun h=>z h.symm)⟩
 clear ad ae O H0;go_wp2_with fail
 go_loopw[7] (fun vi wr=> ∃k:Nat,k<=K/\vi=I k/\A9 wr p (B6 s1 k).2/\Aa (fun j=>j=p) w wr/\wr.heap[w.heap.size]?=some (.cells Tryz.zeroCells139 139 (0,0))/\wr.heap[w.heap.size+1]?=some (.cells (Ad (B6 s1 k).1).toArray 139 (0,0))) (fun vi _=>K-(intOf vi).toNat)
 case atStart=>exact⟨0,by omega,rfl,H1.o.1,H1.o.2.1,H1.o.2.2.1,H1.o.2.2.2⟩
 case round=>
  obtain⟨k,hk,rfl,H,B,f,b⟩:=hrel
  by_cases a0:k<K
  ·have C:=R7 s1 k;have n:=Mr p (B6 s1 k).2 2 wr H (by have:=HR.o.2;omega) (by omega);have i:B6 s1 (k+1)=Hu (B6 s1 k):=rfl;unfold Hu at i;cases N:(Be (B6 s1 k).2 2).2 with
   |none=>
    rw[N]at n i;have F:B6 s1 K=((B6 s1 k).1,none):=by
     have h1:=aF s1 (k+1) (by rw[i]) (K-(k+1));rw[show k+1+(K-(k+1))=K from by omega]at h1;rw[h1,i]
    obtain⟨a,d⟩: ∃A,A=(Ad (B6 s1 k).1).toArray:=⟨_,rfl⟩;have q:Hid (a=(Ad (B6 s1 K).1).toArray):=by show _=_;rw[d,F]
    have HB:Hid ((B6 s1 K).2=none):=by show _=_;rw[F]
    rw[<-d]at b;have M:=hZ (aI f (aI b B));clear N i F d f b B H C;generalize(Be (B6 s1 k).2 2).1=tk at*;go_wp2_with fail;refine n.mono ?_;rintro e w2 ⟨rfl,r,g⟩;have c1:=r.bad;have b1:(none:Rd).isNone=true:=rfl;rw[b1]at c1;have u:Hid (A9 w2 p (B6 s1 K).2/\Aa (fun j=>j=p) w w2/\w2.heap[w.heap.size]?=some (.cells Tryz.zeroCells139 139 (0,0))/\w2.heap[w.heap.size+1]?=some (.cells a 139 (0,0))):=by
     refine⟨?_,M.o.2.2.tr g,g.row M.o.1 (fun h=>m h.symm),g.row M.o.2.1 (fun h=>z h.symm)⟩;rw[HB.o];exact r
    clear n r g M b1;have c:a.size=256:=by rw[q.o,Ba,Kj]
    have E:a.all (·.oneCell')=true:=by rw[q.o];exact Ew _
    have Z:Tryz.zeroCells139.size=a.size:=by rw[c,Le,Ba,zV]
    go_wp2_with(first
     |(refine Aa0 rfl 139 _ rfl (w.heap.size+1) rfl 139 a (0,0) _ u.o.2.2.2 underlying139 rfl (by rw[c];exact Ci) ?_)
     |(refine wpList_store_row _ rfl 139 _ _ rfl w.heap.size 139 _ a rfl rfl u.o.2.2.1 (by rw[c];exact Ci) Z E ?_;intro w9 Y G))
    refine Aa8 (v:= .agg a) (Abj results70 _ w9 w.heap.size 139 a (0,0) _ rfl Y underlying139 rfl (by rw[c];exact Ci)) rfl ⟨by rw[q.o],u.o.1.kept G (fun h=>m h),u.o.2.1.trans G (fun j h1 h2=>by omega)⟩
   |some l=>
    rw[N]at n i;have U:(Be (B6 s1 k).2 2).1.length=2:=by
     cases h2:(B6 s1 k).2 with
     |none=>rw[h2]at N;cases N
     |some l0=>
      rw[h2]at N
      by_cases h3:2<=l0.length
      ·rw[Gx h3];simp;omega
      ·rw[Md h3]at N;cases N
    obtain⟨tk,P⟩: ∃t,t=(Be (B6 s1 k).2 2).1:=⟨_,rfl⟩;rw[<-P]at n i U;obtain⟨x,y,am⟩: ∃x y,tk=[x,y]:=by
     match tk,U with
     |[x,y],_=>exact⟨x,y,rfl⟩
    subst am;obtain⟨S,hS⟩:=gx (⟨[x,y].toArray⟩:ByteArray);have az:S.size=2:=by rw[hS];rfl
    have ax:S[0]'(by omega)=x:=by subst hS;rfl
    have ay:S[1]'(by omega)=y:=by subst hS;rfl
    rw[<-hS]at n;have aa:Hid (B6 s1 (k+1)=((B6 s1 k).1.set x.toNat y.toNat,some l)):=i;have hL:=Kj s1 k;have a1:=x.toNat_lt;have M:=hZ (aI f (aI b B));clear N i P f b B H C U hS;generalize(B6 s1 k).1=L at*;go_wp2_with fail;refine n.mono ?_;rintro e w2 ⟨rfl,r,g⟩;have c1:=r.bad;have b1:(some l:Rd).isNone=false:=rfl;rw[b1]at c1;have b:=g.row M.o.2.1 (fun h=>z h.symm);have c2:w2.cell? (J (w.heap.size+1) x.toNat)=some (I ((L.getD x.toNat 0:Nat):Int)):=by
     rw[zP _ _ _ _ _ _ b];simp[Ad,List.getD_eq_getElem?_getD,List.getElem?_eq_getElem (show x.toNat<L.length from by omega)]
    have f2:w2.frozen? (J (w.heap.size+1) x.toNat)=false:=zR _ _ _ _ _ b;have u:Hid (A9 w2 p (some l)/\Aa (fun j=>j=p) w w2/\w2.heap[w.heap.size]?=some (.cells Tryz.zeroCells139 139 (0,0))/\w2.heap[w.heap.size+1]?=some (.cells (Ad L).toArray 139 (0,0))):=
     ⟨r,M.o.2.2.tr g,g.row M.o.1 (fun h=>m h.symm),b⟩
    have al:((x.toNat:Nat):Int)<256:=by omega
    clear n r g M b1 b;go_wp2_with fail
    go_region
    go_wp2_with fail;go_roundw
    case rel=>
     have ak:wrap64 ((y.toNat:Nat):Int)=((y.toNat:Nat):Int):=by have:=y.toNat_lt;unfold wrap64;omega
     rw[ak];have e3:(Ad L).toArray.setIfInBounds x.toNat (I y.toNat)=(Ad (L.set x.toNat y.toNat)).toArray:=by apply Abr;simp[Ad,List.map_set]
     have ac:Aa (fun j=>j=w.heap.size+1) w2 (w2.setCell (J (w.heap.size+1) x.toNat) (I y.toNat)):=(Aa.refl (fun j=>j=w.heap.size+1) w2).setCell (p:=(J (w.heap.size+1) x.toNat)) (.inr rfl) _;refine⟨k+1,by omega,by go_num,?_,?_,?_,?_⟩
     ·rw[aa.o];exact u.o.1.kept ac.drew (fun h=>z h)
     ·exact(u.o.2.1.setCell (p:=(J (w.heap.size+1) x.toNat)) (.inl (by show w.heap.size<=w.heap.size+1;omega)) _).drew
     ·exact ac.drew.row u.o.2.2.1 (fun h=>by omega)
     ·rw[aa.o];show(w2.setCell _ _).heap[w.heap.size+1]?=_;rw[zI _ _ x.toNat _ _ (I y.toNat) u.o.2.2.2,e3]
    case measure=>simp[intOf];omega
  ·obtain rfl:k=K:=by omega
   obtain⟨a,d⟩: ∃A,A=(Ad (B6 s1 k).1).toArray:=⟨_,rfl⟩;have q:=hZ d;rw[<-d]at b;have u:=hZ (aI H (aI B (aI f b)));clear d f b B H;have c:a.size=256:=by rw[q.o,Ba,Kj]
   have E:a.all (·.oneCell')=true:=by rw[q.o];exact Ew _
   have Z:Tryz.zeroCells139.size=a.size:=by rw[c,Le,Ba,zV]
   go_wp2_with(first
    |(refine Aa0 rfl 139 _ rfl (w.heap.size+1) rfl 139 a (0,0) _ u.o.2.2.2 underlying139 rfl (by rw[c];exact Ci) ?_)
    |(refine wpList_store_row _ rfl 139 _ _ rfl w.heap.size 139 _ a rfl rfl u.o.2.2.1 (by rw[c];exact Ci) Z E ?_;intro w9 Y G))
   refine Aa8 (v:= .agg a) (Abj results70 _ w9 w.heap.size 139 a (0,0) _ rfl Y underlying139 rfl (by rw[c];exact Ci)) rfl ⟨by rw[q.o],u.o.1.kept G (fun h=>m h),u.o.2.1.trans G (fun j h1 h2=>by omega)⟩
end
end Go.Proofs.YtegnkfdbmmndaaaGreat
