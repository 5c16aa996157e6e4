import Derived.Test.YtegnkfdbmmndaaaGreatK21

set_option maxHeartbeats 8000000
set_option maxRecDepth 100000
namespace Go.Proofs.YtegnkfdbmmndaaaGreat
open Hm Go.Proofs.Tryz
variable{S:Nat->Prop}{w w' w0:World}{base m pg:Nat}{v:Value}{xs:Aei}
section
open Go.ChangeShapes Go.WideShapes Go.ChangeAt Go.RowKit Go.Deep
structure Qn where
 k:Int
 on:Int
 a:Int
 b:Int
 c:Int
 s:ByteArray
instance:Inhabited Qn:=⟨⟨0,0,0,0,0,⟨#[]⟩⟩⟩
def Qn.cells(q:Qn):Aei:=[.int .i64 q.k,.int .i64 q.on,.int .i64 q.a,.int .i64 q.b,.int .i64 q.c,.string q.s]
def inI(z:Int):Prop:= -9223372036854775808<=z/\z<=9223372036854775807
structure Qn.Ok(q:Qn):Prop where
 k:inI q.k
 on:inI q.on
 a:inI q.a
 b:inI q.b
 c:inI q.c
 s:q.s.size<=1048576
def Xe(w:World)(c:Aej)(a:List Qn):Prop:= ∀i,(h:i<a.length)-> ∃b o,c=some ⟨b,o,none⟩/\b<w.heap.size/\w.rangeAt b (o+i*6) a[i].cells
theorem Xe.kept{c:Aej}{d:List Qn}(h:Xe w c d)(hk:Aa S w w')(hn: ∀a,c=some a-> ¬S a.block):Xe w' c d:=fun i hi=>by
 obtain⟨b,o,e,hb,h1⟩:=h i hi;refine⟨b,o,e,by have:=hk.size;omega,fun j v f=>?_⟩;rw[hk.cell (p:=⟨b,o+i*6+j,none⟩) hb (hn ⟨b,o,none⟩ e)];exact h1 j v f
theorem Wf{a:Int}(h:(Lit.int .i64 a).wf=true):inI a:=by
 simpa[inI,Lit.wf,IntKind.min,IntKind.max,IntKind.signed,IntKind.bits]using h
def Qn.data{H:Type}(q:Qn):DataW H:= .agg [.lit (.int .i64 q.k),.lit (.int .i64 q.on),.lit (.int .i64 q.a),.lit (.int .i64 q.b),.lit (.int .i64 q.c),.lit (.string q.s.data.toList)]
theorem xF{H:Type}{d:DataW H}{l:List (DataW H)}(h:d∈l):Rows.uptoBulk d<=Rows.uptoBulkAll l:=by
 induction l with
 |nil=>cases h
 |cons x r ih=>
  simp only[Rows.uptoBulkAll];cases List.mem_cons.1 h with
  |inl e=>subst e;omega
  |inr e=>have:=ih e;omega
theorem yQ{H:Type}(f:Nat->Qn)(l:Aeh):l.length<=Rows.uptoBulkAll (l.map fun i=>(f i).data (H:=H)):=by
 induction l with
 |nil=>simp[Rows.uptoBulkAll]
 |cons x r ih=>simp only[Qn.data,Abg,Rows.uptoBulkAll,Rows.uptoBulk,Aau]at ih|-;omega
theorem oB{H:Type}{enc:TypeId×Value->H}{W:World}{d:DataW H}{ps:List MemPlace}(hv:Value.okWide prog W .any base 51 v)
  (h:DataW.Trod enc prog W 0 (fun _=>true) true 51 v d ps) (hb:Rows.uptoBulk d<=1048576):
  ∃(S:Aej) (c:Nat) (o:List Qn),v= .slice S o.length c/\Xe W S o/\o.length<=1048576/\ ∀q∈o,q.Ok:=by
 obtain⟨a0,l0,c0,rfl⟩:=okWide_slice underlying51 hv;obtain⟨aa,hf⟩:=h;have ce:prog.cellsOf 62=6:=by kernel_rfl
 have ci:prog.cellsOf 3=1:=by kernel_rfl
 have cs:prog.cellsOf 9=1:=by kernel_rfl
 rcases open_slice underlying51 hf with⟨t,_⟩|⟨a,len,cap,m,n,D,Pl,t,_,hl,hm,K,N,hc⟩
 ·exact⟨none,0,[],by simpa[Value.cells]using t,fun i hi=>by simp at hi,zZ _,fun x N=>by cases N⟩
 ·have au:len<=m:=by rw[K];simp;exact hl
  have y: ∀i,i<m-> ∃q:Qn,(∀j,j<6->W.cell? (a.add (i*6+j))=q.cells[j]?)/\(inI q.k/\inI q.on/\inI q.a/\inI q.b/\inI q.c)/\D i=q.data:=fun i hi=>by
   obtain⟨E,h1,h2⟩:=hc i hi;rw[ce]at h1;obtain⟨_,f,r⟩:=World.cells?_some h1;obtain⟨xs,k,hk,A,_,O,e⟩:=DataW.trod_struct underlying62 h2
   match xs,O,E,f with
   |[y0,y1,y2,y3,y4,y5],_,[v0,v1,v2,v3,v4,v5],_=>
    have g0:=e 0 _ rfl;have g1:=e 1 _ rfl;have g2:=e 2 _ rfl;have g3:=e 3 _ rfl;have g4:=e 4 _ rfl;have g5:=e 5 _ rfl;simp[ci,cs]at g0 g1 g2 g3 g4 g5;obtain⟨R,T,f0,w0⟩:=DataW.trod_int underlying3 g0;obtain⟨z1,U,f1,w1⟩:=DataW.trod_int underlying3 g1;obtain⟨z2,V,f2,w2⟩:=DataW.trod_int underlying3 g2;obtain⟨z3,X,f3,w3⟩:=DataW.trod_int underlying3 g3;obtain⟨z4,Y,f4,w4⟩:=DataW.trod_int underlying3 g4;obtain⟨s,Z,f5,_⟩:=DataW.trod_string underlying9 g5;refine⟨⟨R,z1,z2,z3,z4,s⟩,fun j G=>?_,⟨Wf w0,Wf w1,Wf w2,Wf w3,Wf w4⟩,?_⟩
    ·have:=r j G;rw[add_add]at this;rw[this];simp only[List.cons.injEq,and_true]at T U V X Y Z;subst T U V X Y Z;rfl
    ·simp only[Prod.mk.injEq]at A;rw[A.1,f0,f1,f2,f3,f4,f5];rfl
  obtain⟨q,C⟩:=choose_lt y;obtain⟨o,z⟩:=gx ((List.range len).map q:List Qn);have f:o.length=len:=by rw[z];simp
  have p: ∀i,(hi:i<o.length)->o[i]=q i:=fun i hi=>by simp[z]
  obtain⟨hd,_⟩:=Prod.mk.inj N;have F:Rows.uptoBulkAll ((List.range len).map fun i=>(q i).data (H:=H))<=1048576:=by
   rw[hd]at hb;simp only[Rows.uptoBulk]at hb;rw[Acy (g:=D) (fun i hi=>((C i (by have:=List.mem_range.1 hi;omega)).2.2).symm)];omega
  have L:=yQ (H:=H) q (List.range len);rw[Acb]at L;refine⟨some a,cap,o,by rw[f];simpa[Value.cells]using t,fun i hi=>?_,by omega,fun x P=>?_⟩
  ·obtain⟨b,Q,B⟩:=a;have w:B=none:=by
    have R:=(C 0 (by omega)).1 0 (by omega);simpa[Addr.add]using World.cell?_spot R
   subst w;have h1:=(C i (by omega)).1;refine⟨b,Q,rfl,by have h0:=z9 _ _ ((h1 0 (by omega)).trans rfl);rwa[add_plain]at h0,fun j u M=>?_⟩;rw[p i hi]at M;have G:j<6:=(List.getElem?_eq_some_iff.1 M).1;have h2:=h1 j G;rw[add_plain]at h2;rw[Abw,h2];exact M
  ·obtain⟨i,hi,rfl⟩:=Aa5 P;rw[p i hi];obtain⟨_,⟨r0,r1,r2,r3,r4⟩,_⟩:=C i (by omega);refine⟨r0,r1,r2,r3,r4,?_⟩;have:=xF (H:=H) (l:=(List.range len).map fun i=>(q i).data) (List.mem_map.2 ⟨i,List.mem_range.2 (by omega),rfl⟩);simp only[Qn.data,Rows.uptoBulk,Rows.uptoBulkAll]at this;have av:(q i).s.data.toList.length=(q i).s.size:=by simp
   simp only[Qn.data]at F;omega
end
section
open Go.RowKit
theorem Uj(l m:Aej)(c d:Nat)(fs:List Fl)(w:World)(n:Az w l fs)(hb:Az w m fs)(u:fs.length<=1000000):
  Calls prog 15 #[.slice l fs.length c,.slice m fs.length d] w fun e w'=>e= .returned (.bool true)/\Aee w w':=by
 have j:=hZ (aI n hb);clear n hb
 go_enter func15,ntmps15
 go_wp2_with fail
 go_loopw[5] (fun vi wr=> ∃k:Nat,k<=fs.length/\vi=I k/\Hid (Aee w wr)) (fun vi _=>fs.length-(intOf vi).toNat)
 case atStart=>exact⟨0,by omega,rfl,Aa.refl _ _⟩
 case round=>
  obtain⟨k,hk,rfl,g⟩:=hrel
  by_cases f:k<fs.length
  ·obtain⟨i,a⟩:=dT k fs.length;obtain⟨b,o,hb,_,q,r⟩:=(j.o.1.kept g.o (fun _ _=>id)) k f;obtain⟨b',v,h,_,s,t⟩:=(j.o.2.kept g.o (fun _ _=>id)) k f;cases hb;cases h;generalize fs[k]=p at*;obtain⟨p1,x⟩:=p;go_wp2_with fail;go_quiet(fail);go_wp2_with fail;go_roundw
   case rel=>exact⟨k+1,by omega,by go_num,g.o.drewN _⟩
   case measure=>simp[intOf];omega
  ·obtain⟨i,a⟩:=dF k fs.length;go_wp2_with fail;go_ret;exact⟨rfl,g.o⟩
def Mi(w:World)(c:Aej)(a:List ByteArray):Prop:=
 ∀i,(h:i<a.length)-> ∃b o,c=some (J b o)/\b<w.heap.size/\w.cell? (J b (o+i))=some (.string a[i])
theorem Mi.kept{d:Aej}{c:List ByteArray}(h:Mi w d c)(hk:Aa S w w')(hn: ∀a,d=some a-> ¬S a.block):Mi w' d c:=by
 intro i hi;obtain⟨b,o,e,hb,h1⟩:=h i hi;have hs:=hn _ e;exact⟨b,o,e,by have:=hk.size;omega,(hk.cell (p:=(J b (o+i))) hb hs).trans h1⟩
namespace Hm
end Hm
namespace Hm
theorem oC{fs:List Fl}{s:Aeg}(d:Bu fs=0)(hA:Cy fs s):s.length<=10000000/\0<s.length:=by
 obtain⟨u,b,hn⟩:=Ia d;obtain⟨ps,N,a,_,h,es⟩:=hA.is;have k:N<=255:=by have h1:=h.len;have h2:=h.few (2*N) (zK _);omega
 have e:=D8 a.perm;have t:(D2 (lens (Ac fs)) N (Am (Ac fs) ps)).length<=255*6000:=by
  unfold D2;rw[Aai];refine Aaf (Mb _ _ _ _ _) (Aa4 k ?_);rw[e];exact hn
 have r:=E0 a.perm;have c:Lib.bitLen ((Ac fs).length/8)<=10:=Lib.bitLen_le _ 10 (by omega) (by omega);have j:((Ac fs).length/8+1)*Lib.bitLen ((Ac fs).length/8)<=751*10:=Aa4 (by omega) c;have m:=K7 (Aw fs) (Ac fs).length;have g:=Nw (Aw fs).length (Ac fs).length hn;have v:(Ac fs).length/2^Ca (Aw fs).length (Ac fs).length<=(Ac fs).length:=Acd _ _;have i:=Dp fs;have p:(Aw fs).length*Ca (Aw fs).length (Ac fs).length<=40*12:=Aa4 (by omega) g;have q:=Jk fs (fun f n=>(b f n).1);have l:(Aj (lens (Ac fs))).length<=256:=Ex _ 256;have o:=Iv (lens (Ac fs)) (Aj (lens (Ac fs)));rw[es];unfold Kl Cr;simp only[zL,Aau,List.length_nil,Cp,A8];omega
end Hm
theorem Po{fs:List Fl}(h:w.ownsRow base 38 2 v fs.length (Cb fs)): ∃d c,v= .slice d fs.length c/\Az w d fs/\ ∀a,d=some a->a.block<w.heap.size:=by
 rcases h.2 with⟨rfl,e⟩|⟨g,cap,cur,rfl,_,hb,_⟩
 ·exact⟨none,0,by rw[e],fun i hi=>by omega,by simp⟩
 ·have b:g<w.heap.size:=(h.lt g rfl).2;refine⟨_,cap,rfl,fun i hi=>⟨g,0,rfl,b,?_,?_⟩,fun a f=>by cases f;exact b⟩
  ·rw[Aao,h.cellAt _ (by omega)];exact P5 fs i hi
  ·rw[Aao,h.cellAt _ (by omega)];exact Nj fs i hi
def Js(w0 w:World)(pg:Nat)(xs:Aei)(v:Value)(rs:List Rec):Prop:= ∀k,k<4-> ∃x yo c fs,dI w0 w pg k xs v rs (decide (k=2)) x yo c fs
theorem dI.step{k:Nat}{rs:List Rec}{o:Bool}{x:Value}{yo:Aej}{c:Nat}{fs:List Fl}(T:dI w0 w pg k xs v rs o x yo c fs)(hk:Aee w w'):dI w0 w' pg k xs v rs o x yo c fs:=
 ⟨T.game.step hk (fun _ _=>id),T.low,T.eight,T.few,T.lt,T.gx,T.gy,T.sub.step hk,T.files.kept hk (fun _ _=>id),T.small⟩
def Of(w0:World)(pg:Nat)(xs:Aei)(rs:List Rec)(e:Ending)(w':World):Prop:=e= .returned (.bool true)/\ ∃v' a,Dj w0 pg xs v' a w'/\a.length<=rs.length+1
theorem xG{rs:List Rec}{q:Qn}(F:Js w0 w pg xs v rs)(z:q.Ok)(K:m<=1000000000000)(hk:q.k=1):
  Calls prog 24 #[.pointer (some ⟨pg,0,none⟩),.agg q.cells.toArray,.int .i64 m] w fun e w'=>Of w0 pg xs rs e w':=by
 obtain⟨R,hi,L,M,N⟩:=Aa6 Mx;obtain⟨S,f,s,t,u,y⟩:=q;dsimp only at hk;subst hk;have P:=hZ z
 change Calls _ _ #[.pointer (some (J pg 0)),.agg #[I 1,I f,I s,I t,I u,.string y],I m] w _
 have d:=zY w (.cells #[I 1,I f,I s,I t,I u,.string y] 62);have d0:=cO 0 d;have d1:=cO 1 d;have h:Aee w (w.alloc (.cells #[I 1,I f,I s,I t,I u,.string y] 62)):=(Aa.refl _ _).alloc _;have l:=M7 f (w.alloc (.cells #[I 1,I f,I s,I t,I u,.string y] 62)) z.on.1 z.on.2;clear d z
 go_enter func24,ntmps24
 go_wp2_with fail;refine l.mono ?_;rintro e Q ⟨⟨k,rfl,B⟩,rfl⟩;clear l;generalize w.alloc (.cells #[I 1,I f,I s,I t,I u,.string y] 62)=W0 at*;obtain⟨U,n⟩: ∃b,b=w.heap.size:=⟨_,rfl⟩;rw[<-n]at d0 d1|-;obtain⟨x,yo,c,fs,E⟩:=F k B;have T:=E.step h;have C:=T.small;have G:=T.few;have D:=hZ T;clear T E h F n;have j:=lC (m:=m) D.o K;clear C;go_wp2_with fail;refine j.mono ?_;rintro e W ⟨rfl,V,r,g⟩;have a:=hZ g;clear j g d0 d1;have p:=(a.o).stay (by rw[zL,Adl];omega);have A:=(a.o).all D.o.eight;go_wp2_with fail;refine p.mono ?_;rintro e O ⟨rfl,i⟩;clear p A;have H:Hid (Dj _ _ _ _ _ O):=(a.o).step i (fun _ _=>id);clear i;go_wp2_with fail;go_ret;exact⟨rfl,_,_,H.o,by simp⟩
theorem xH{rs:List Rec}{q:Qn}(hT:Js w0 w pg xs v rs)(U:q.Ok)(hm:m<=1000000000000)(hk:q.k=2):
  Calls prog 24 #[.pointer (some ⟨pg,0,none⟩),.agg q.cells.toArray,.int .i64 m] w fun e w'=>Of w0 pg xs rs e w':=by
 obtain⟨i0,hi,ae,af,ag⟩:=Aa6 Mx;obtain⟨q0,y,N,O,P,Q⟩:=q;dsimp only at hk;subst hk;have HQ:=hZ U
 change Calls _ _ #[.pointer (some (J pg 0)),.agg #[I 2,I y,I N,I O,I P,.string Q],I m] w _
 have t:=zY w (.cells #[I 2,I y,I N,I O,I P,.string Q] 62);have d0:=cO 0 t;have d1:=cO 1 t;have B:Aee w (w.alloc (.cells #[I 2,I y,I N,I O,I P,.string Q] 62)):=(Aa.refl _ _).alloc _;have E:=M7 y (w.alloc (.cells #[I 2,I y,I N,I O,I P,.string Q] 62)) U.on.1 U.on.2;clear t U
 go_enter func24,ntmps24
 go_wp2_with fail;refine E.mono ?_;rintro e W1 ⟨⟨k,rfl,ac⟩,rfl⟩;clear E;generalize w.alloc (.cells #[I 2,I y,I N,I O,I P,.string Q] 62)=W0 at*;obtain⟨qb,F⟩: ∃b,b=w.heap.size:=⟨_,rfl⟩;rw[<-F]at d0 d1|-;obtain⟨x,yo,c,fs,T0⟩:=hT k ac;have T:=T0.step B;have H:=T.small;have ao:=T.few;have a:=hZ T;clear T T0 B hT F;have M:=a.o.sub.unpack;have c0:=a.o.game.cell k x a.o.gx;have c1:=a.o.game.cell (4+k) _ a.o.gy;have ay:(k:Int)<4:=by omega
 have ap:(0:Int)<=(k:Int):=by omega
 have ax:=H.1;clear H;go_wp2_with fail;refine M.mono ?_;rintro e R ⟨l,rfl,f,d⟩;have hpb:pg<W0.heap.size:=Aac a.o.game.row;have X:R.cell? (J pg (4+k))=some (.slice yo fs.length c):=(d.cell (p:=(J pg (4+k))) hpb id).trans c1;obtain⟨lo,lc,hl,z,_⟩:=Po f;subst hl;have G:=Uj lo yo lc c fs R z (a.o.files.kept d (fun _ _=>id)) (by omega);have HM:Hid (∀W,Aee R W->Calls prog 54 #[.slice lo fs.length lc,I m] W fun e w2=> ∃(r:Rec) (u:Nat->Value),e= .returned (.agg #[u 0,u 1,u 2,u 3,u 4,u 5,u 6,u 7,u 8,u 9,u 10,u 11,u 12])/\Hid (r.cells=[u 0,u 1,u 2,u 3,u 4,u 5,u 6,u 7,u 8,u 9,u 10,u 11,u 12]/\Jq w0 pg xs v rs w2 r)):=fun W hW=>by
  have ho:=hW.owns f (fun _ _=>id);have hk:=d.tr hW;exact(lD _ _ m _ _ W ho hk.size (by omega) hm).mono fun e w2 h=>Jq.of a.o.game a.o.low a.o.eight hk ho h
 have H1:Hid (pg<R.heap.size/\R.cell? (J pg 8)=some v):=⟨by have:=d.size;omega,(d.cell (p:=(J pg 8)) hpb id).trans (a.o.game.all a.o.eight)⟩;clear M c0 c1 f d z d0 d1;go_wp2_with fail;refine G.mono ?_;rintro e w4 ⟨rfl,j⟩;have V:=hZ j;have Z:=(V.o.cell (p:=(J pg 8)) H1.o.1 id).trans H1.o.2;clear G X j;go_wp2_with fail;refine wp_region_any (by kernel_rfl) ?_
 change wpAny _ _ _ _ _ _ _ (World.drew _)
 refine tB 0 (.pointer (some (J pg 0))) rfl (fun w=>by go_simp) ?_;refine tB 1 (.pointer (some (J pg 0))) rfl (fun w=>by go_simp) ?_;refine tB 2 (.pointer (some (J pg 0))) rfl (fun w=>by go_simp) ?_;refine tB 3 (.pointer (some (J pg 8))) rfl (fun w=>by go_simp) ?_;refine tB 5 (.slice lo fs.length lc) rfl (fun w=>by go_simp) ?_;refine tB 6 (I m) rfl (fun w=>by go_simp) ?_;refine rC 4 7 rfl rfl (fun K hK=>?_) (fun K hK=>?_)
 focus
  go_simp;refine hK _ _ ?_;clear hK K;refine rB 7 rfl (fun K hK=>?_);go_simp;refine(HM.o _ V.o.drew).mono ?_;rintro e w2 ⟨r,u,rfl,i⟩;refine hK _ _ ?_;clear hK K;refine rB 8 rfl (fun K hK=>?_);go_simp;refine hK _ _ ?_;clear hK K
 rotate_left
 focus
  go_simp;refine(HM.o _ V.o.drew).mono ?_;rintro e w2 ⟨r,u,rfl,i⟩;refine hK _ _ ?_;clear hK K;have av:=i.o.2.game.all i.o.2.eight;have aw:=(i.o.2.step ((Aa.refl _ _).alloc (.cells #[u 0,u 1,u 2,u 3,u 4,u 5,u 6,u 7,u 8,u 9,u 10,u 11,u 12] 122))).game.all i.o.2.eight;refine rC 4 8 rfl rfl (fun K hK=>?_) (fun K hK=>?_)
  focus
   go_simp;refine hK _ _ ?_;clear hK K;refine rB 8 rfl (fun K hK=>?_);go_simp;refine hK _ _ ?_;clear hK K
  rotate_left
  focus
   go_simp;refine hK _ _ ?_;clear hK K;refine rB 4 rfl (fun K hK=>?_);go_simp;refine hK _ _ ?_;clear hK K
 all_goals
  have s:=i.o.2.step ((Aa.refl _ _).alloc (.cells #[u 0,u 1,u 2,u 3,u 4,u 5,u 6,u 7,u 8,u 9,u 10,u 11,u 12] 122));refine rB 9 rfl (fun K hK=>?_);refine Oe _ rfl (.tmp 59) (.tmp 63) 55 rfl w0.heap.size 122 i0 _ 13 296 underlying55 hi ae af ag rfl (by decide) v rs.length (rs.flatMap Rec.cells) rfl s.game.owns (J w2.heap.size 0) 1 1 [u 0,u 1,u 2,u 3,u 4,u 5,u 6,u 7,u 8,u 9,u 10,u 11,u 12] rfl rfl (Iq _) (by rw[<-i.o.1];exact r.one) (by unfold maxLen;omega) (by omega) (by have:=s.game.kept.size;omega) ?_;intro v3 w3 g A D;obtain⟨a3,c3,ad,_⟩:=An g;subst ad;rw[<-i.o.1]at g;have S:Hid _:=s.push g A D;have Y:=S.o.2.1;have aa:=S.o.2.2;clear g A D;refine hK _ _ ?_;clear hK K;refine tB 10 (.pointer (some (J pg 0))) rfl (fun w=>by go_simp) ?_;refine tB 11 (.pointer (some (J pg 8))) rfl (fun w=>by go_simp) ?_;refine rB 12 rfl (fun K hK=>?_);go_simp;refine hK _ _ ?_;clear hK K;refine wpAny_done (by kernel_rfl) ?_ _;have n:Hid _:=S.o.1;clear S Y aa Z;have L:=(n.o).stay (by rw[zL,Adl];omega);have ab:=(n.o).all a.o.eight;go_wp2_with fail;refine L.mono ?_;rintro e wz ⟨rfl,C⟩;clear L ab;have HZ:Hid (Dj _ _ _ _ _ wz):=(n.o).step C (fun _ _=>id);clear C;go_wp2_with fail;go_ret;exact⟨rfl,_,_,HZ.o,by simp⟩
theorem xI{rs:List Rec}{q:Qn}(K:Js w0 w pg xs v rs)(u:q.Ok)(_hm:m<=1000000000000)(A: ¬q.k=1)(B: ¬q.k=2)(C: ¬q.k=3)(D: ¬q.k=4)(E: ¬q.k=5):
  Calls prog 24 #[.pointer (some ⟨pg,0,none⟩),.agg q.cells.toArray,.int .i64 m] w fun e w'=>Of w0 pg xs rs e w':=by
 obtain⟨U,hi,N,O,P⟩:=Aa6 Mx;obtain⟨n,f,p,r,s,t⟩:=q;dsimp only at A B C D E;have R:=hZ u
 change Calls _ _ #[.pointer (some (J pg 0)),.agg #[I n,I f,I p,I r,I s,.string t],I m] w _
 have d:=zY w (.cells #[I n,I f,I p,I r,I s,.string t] 62);have d0:=cO 0 d;have d1:=cO 1 d;have g:Aee w (w.alloc (.cells #[I n,I f,I p,I r,I s,.string t] 62)):=(Aa.refl _ _).alloc _;have i:=M7 f (w.alloc (.cells #[I n,I f,I p,I r,I s,.string t] 62)) u.on.1 u.on.2;clear d u
 go_enter func24,ntmps24
 go_wp2_with fail;refine i.mono ?_;rintro e S ⟨⟨k,rfl,z⟩,rfl⟩;clear i;generalize w.alloc (.cells #[I n,I f,I p,I r,I s,.string t] 62)=W0 at*;obtain⟨V,j⟩: ∃b,b=w.heap.size:=⟨_,rfl⟩;rw[<-j]at d0 d1|-;obtain⟨x,yo,c,fs,H⟩:=K k z;have T:=H.step g;have F:=T.small;have L:=T.few;have G:=hZ T;clear T H g K j;have a:=hZ G.o.game;clear F;have l:=(a.o).stay (by omega);have y:=(a.o).all G.o.eight;go_wp2_with fail;refine l.mono ?_;rintro e Q ⟨rfl,h⟩;clear l y;have M:Hid (Dj _ _ _ _ _ Q):=(a.o).step h (fun _ _=>id);clear h;go_wp2_with fail;go_ret;exact⟨rfl,_,_,M.o,by simp⟩
theorem xJ{rs:List Rec}{q:Qn}(hT:Js w0 w pg xs v rs)(V:q.Ok)(_hm:m<=1000000000000)(hk:q.k=3):
  Calls prog 24 #[.pointer (some ⟨pg,0,none⟩),.agg q.cells.toArray,.int .i64 m] w fun e w'=>Of w0 pg xs rs e w':=by
 obtain⟨i0,hi,au,av,aw⟩:=Aa6 Mx;obtain⟨q0,D,d,g,h,N⟩:=q;dsimp only at hk;subst hk;have P:=hZ V
 change Calls _ _ #[.pointer (some (J pg 0)),.agg #[I 3,I D,I d,I g,I h,.string N],I m] w _
 have r:=zY w (.cells #[I 3,I D,I d,I g,I h,.string N] 62);have d0:=cO 0 r;have d1:=cO 1 r;have Q:=cO 2 r;have R:=cO 3 r;have U:=cO 4 r;have G:Aee w (w.alloc (.cells #[I 3,I D,I d,I g,I h,.string N] 62)):=(Aa.refl _ _).alloc _;have K:=M7 D (w.alloc (.cells #[I 3,I D,I d,I g,I h,.string N] 62)) V.on.1 V.on.2;clear r V
 go_enter func24,ntmps24
 go_wp2_with fail;refine K.mono ?_;rintro e W1 ⟨⟨k,rfl,aa⟩,rfl⟩;clear K;generalize w.alloc (.cells #[I 3,I D,I d,I g,I h,.string N] 62)=W0 at*;obtain⟨a,L⟩: ∃b,b=w.heap.size:=⟨_,rfl⟩;rw[<-L]at d0 d1 Q R U|-;obtain⟨x,yo,c,fs,T0⟩:=hT k aa;have T:=T0.step G;have C:=T.small;have aj:=T.few;have s:=hZ T;clear T T0 G hT L;have c0:=s.o.game.cell k x s.o.gx;have c1:=s.o.game.cell (4+k) _ s.o.gy;have aq:(k:Int)<4:=by omega
 have ak:(0:Int)<=(k:Int):=by omega
 have Z:=C.1;have HF:Hid (∀f∈fs,f.2.size<=30000):=fun f hf=>by have:=C.2 f hf;omega
 have hpb:pg<W0.heap.size:=Aac s.o.game.row;have n:a<W0.heap.size:=z9 _ _ d0;have HX:Hid (∀W,Aee W0 W->Calls prog 26 #[x,I d,I g,I h] W fun e w'=>(∃S E,(S,E)=(if decide (k=2)=true then(⟨#[]⟩,9)else P9 fs d g h)/\e= .returned (.tuple #[.string S,I E]))/\Aee W w'):=fun W l=>(s.o.sub.step l).extract d g h P.o.b.1 P.o.b.2;have HR:Hid (∀W,Aee W0 W->Calls prog 55 #[.slice yo fs.length c,I d,I g,I h] W fun e w'=>(∃S E,(S,E)=P9 fs d g h/\e= .returned (.tuple #[.string S,I E]))/\Aee W w'):=fun W l=>(gY yo c fs d g h W (s.o.files.kept l (fun _ _=>id)) Z HF.o P.o.b.2 P.o.c.2).mono fun e w' ⟨h1,h2⟩=>⟨h1,by rw[h2];exact Aa.refl _ _⟩;have z:Hid (∀X,Aee W0 X->X.cell? (J pg k)=some (x)/\X.cell? (J a 2)=some (I d)/\X.cell? (J a 3)=some (I g)/\X.cell? (J a 4)=some (I h)):=fun X l=>⟨(l.cell (p:=(J pg k)) hpb id).trans c0,(l.cell (p:=(J a 2)) n id).trans Q,(l.cell (p:=(J a 3)) n id).trans R,(l.cell (p:=(J a 4)) n id).trans U⟩;have A:Hid (∀X,Aee W0 X->X.cell? (J pg (4+k))=some (.slice yo fs.length c)/\X.cell? (J a 2)=some (I d)/\X.cell? (J a 3)=some (I g)/\X.cell? (J a 4)=some (I h)):=fun X l=>⟨(l.cell (p:=(J pg (4+k))) hpb id).trans c1,(l.cell (p:=(J a 2)) n id).trans Q,(l.cell (p:=(J a 3)) n id).trans R,(l.cell (p:=(J a 4)) n id).trans U⟩;clear C;clear Q R U c0 c1;go_wp2_with fail;have s1:W0.drew.cell? (J pg k)=some (x)/\W0.drew.cell? (J a 2)=some (I d)/\W0.drew.cell? (J a 3)=some (I g)/\W0.drew.cell? (J a 4)=some (I h):=z.o _ (Aa.refl _ _).drew
 go_region_held(fun X=>X.cell? (J pg k)=some (x)/\X.cell? (J a 2)=some (I d)/\X.cell? (J a 3)=some (I g)/\X.cell? (J a 4)=some (I h)) (first|exact t1|exact s1)
  (first|(go_at_call 26;refine(HX.o _ (Aa.refl _ _).drew).mono ?_;rintro e O ⟨⟨S,E,F,rfl⟩,B⟩;have t1:O.cell? (J pg k)=some (x)/\O.cell? (J a 2)=some (I d)/\O.cell? (J a 3)=some (I g)/\O.cell? (J a 4)=some (I h):=z.o _ ((Aa.refl (fun _=>False) W0).drew.tr B)))
 have i:Hid (Aee W0 O/\(S,E)=(if decide (k=2)=true then(⟨#[]⟩,9)else P9 fs d g h)):=⟨(Aa.refl (fun _=>False) W0).drew.tr B,F⟩;clear s1 t1 B F HX z;go_wp2_with fail;have s2:=A.o _ i.o.1.drew
 go_region_held(fun X=>X.cell? (J pg (4+k))=some (.slice yo fs.length c)/\X.cell? (J a 2)=some (I d)/\X.cell? (J a 3)=some (I g)/\X.cell? (J a 4)=some (I h)) (first|exact t2|exact s2)
  (first|(go_at_call 55;refine(HR.o _ i.o.1.drew).mono ?_;rintro e w2 ⟨⟨S2,E2,t,rfl⟩,j⟩;have t2:w2.cell? (J pg (4+k))=some (.slice yo fs.length c)/\w2.cell? (J a 2)=some (I d)/\w2.cell? (J a 3)=some (I g)/\w2.cell? (J a 4)=some (I h):=A.o _ (i.o.1.drew.tr j)))
 have y:=hZ (aI (i.o.1.drew.tr j) t);clear s2 t2 j t HR A;go_upto_if 101 with fail
 go_cut[13,14]from 101 to 102 (fun ab ac wx=>ab= .string S/\ac=I E/\w2=wx)
 case first=>
  by_cases j:k=2
  ·have h1:=i.o.2;rw[if_pos (zJ j)]at h1;cases h1;subst j;go_wp2_with fail;go_meet
   case rel=>exact⟨rfl,rfl,rfl⟩
  ·have h1:=i.o.2;rw[if_neg (by simp[j])]at h1;cases h1.trans y.o.2.symm;have ar: ¬(k:Int)=2:=by omega
   clear h1;go_wp2_with fail;go_meet
   case rel=>exact⟨rfl,rfl,rfl⟩
 case rest=>
  obtain⟨rfl,rfl,rfl⟩:=hcut;have u:Hid (Dj w0 pg xs v rs w2):=s.o.game.step y.o.1 (fun _ _=>id);clear i y;have M:=(u.o).stay (by omega);have Y:=(u.o).all s.o.eight;go_wp2_with fail;refine M.mono ?_;rintro e wz ⟨rfl,H⟩;clear M Y;have HZ:Hid (Dj _ _ _ _ _ wz):=(u.o).step H (fun _ _=>id);clear H;go_wp2_with fail;go_ret;exact⟨rfl,_,_,HZ.o,by simp⟩
theorem xK{rs:List Rec}{q:Qn}(hT:Js w0 w pg xs v rs)(R:q.Ok)(_hm:m<=1000000000000)(hk:q.k=4):
  Calls prog 24 #[.pointer (some ⟨pg,0,none⟩),.agg q.cells.toArray,.int .i64 m] w fun e w'=>Of w0 pg xs rs e w':=by
 obtain⟨i0,hi,au,av,aw⟩:=Aa6 Mx;obtain⟨q0,B,N,O,P,a⟩:=q;dsimp only at hk;subst hk;have HQ:=hZ R
 change Calls _ _ #[.pointer (some (J pg 0)),.agg #[I 4,I B,I N,I O,I P,.string a],I m] w _
 have l:=zY w (.cells #[I 4,I B,I N,I O,I P,.string a] 62);have d0:=cO 0 l;have d1:=cO 1 l;have Q:=cO 5 l;have D:Aee w (w.alloc (.cells #[I 4,I B,I N,I O,I P,.string a] 62)):=(Aa.refl _ _).alloc _;have G:=M7 B (w.alloc (.cells #[I 4,I B,I N,I O,I P,.string a] 62)) R.on.1 R.on.2;clear l R
 go_enter func24,ntmps24
 go_wp2_with fail;refine G.mono ?_;rintro e W1 ⟨⟨k,rfl,Y⟩,rfl⟩;clear G;generalize w.alloc (.cells #[I 4,I B,I N,I O,I P,.string a] 62)=W0 at*;obtain⟨h,K⟩: ∃b,b=w.heap.size:=⟨_,rfl⟩;rw[<-K]at d0 d1 Q|-;obtain⟨x,yo,c,fs,T0⟩:=hT k Y;have T:=T0.step D;have A:=T.small;have ai:=T.few;have i:=hZ T;clear T T0 D hT K;have c0:=i.o.game.cell k x i.o.gx;have c1:=i.o.game.cell (4+k) _ i.o.gy;have aq:(k:Int)<4:=by omega
 have aj:(0:Int)<=(k:Int):=by omega
 have V:=A.1;have HF:Hid (∀f∈fs,f.2.size<=30000):=fun f hf=>by have:=A.2 f hf;omega
 have hpb:pg<W0.heap.size:=Aac i.o.game.row;have L:h<W0.heap.size:=z9 _ _ d0;have H:a.data.toList.length<=281474976710656:=Aaf (Acx (by simp)) (Aaf HQ.o.s (by decide));have HX:Hid (∀W,Aee W0 W->Calls prog 27 #[x,.string a] W fun e w'=>(∃S E,(S,E)=(if decide (k=2)=true then(0,9)else aX fs a.data.toList)/\e= .returned (.tuple #[I S,I E]))/\Aee W w'):=fun W j=>(i.o.sub.step j).count a.data.toList H;have HR:Hid (∀W,Aee W0 W->Calls prog 56 #[.slice yo fs.length c,.string a] W fun e w'=>(∃S E,(S,E)=aX fs a.data.toList/\e= .returned (.tuple #[I S,I E]))/\Aee W w'):=fun W j=>(nX yo c fs a.data.toList W (i.o.files.kept j (fun _ _=>id)) V HF.o H);have u:Hid (∀X,Aee W0 X->X.cell? (J pg k)=some (x)/\X.cell? (J h 5)=some (.string a)):=fun X j=>⟨(j.cell (p:=(J pg k)) hpb id).trans c0,(j.cell (p:=(J h 5)) L id).trans Q⟩;have y:Hid (∀X,Aee W0 X->X.cell? (J pg (4+k))=some (.slice yo fs.length c)/\X.cell? (J h 5)=some (.string a)):=fun X j=>⟨(j.cell (p:=(J pg (4+k))) hpb id).trans c1,(j.cell (p:=(J h 5)) L id).trans Q⟩;clear A;clear Q c0 c1;go_wp2_with fail;have s1:W0.drew.cell? (J pg k)=some (x)/\W0.drew.cell? (J h 5)=some (.string a):=u.o _ (Aa.refl _ _).drew
 go_region_held(fun X=>X.cell? (J pg k)=some (x)/\X.cell? (J h 5)=some (.string a)) (first|exact t1|exact s1)
  (first|(go_at_call 27;refine(HX.o _ (Aa.refl _ _).drew).mono ?_;rintro e w1 ⟨⟨S,E,C,rfl⟩,z⟩;have t1:w1.cell? (J pg k)=some (x)/\w1.cell? (J h 5)=some (.string a):=u.o _ ((Aa.refl (fun _=>False) W0).drew.tr z)))
 have d:Hid (Aee W0 w1/\(S,E)=(if decide (k=2)=true then(0,9)else aX fs a.data.toList)):=⟨(Aa.refl (fun _=>False) W0).drew.tr z,C⟩;clear s1 t1 z C HX u;go_wp2_with fail;have s2:=y.o _ d.o.1.drew
 go_region_held(fun X=>X.cell? (J pg (4+k))=some (.slice yo fs.length c)/\X.cell? (J h 5)=some (.string a)) (first|exact t2|exact s2)
  (first|(go_at_call 56;refine(HR.o _ d.o.1.drew).mono ?_;rintro e w2 ⟨⟨S2,E2,n,rfl⟩,g⟩;have t2:w2.cell? (J pg (4+k))=some (.slice yo fs.length c)/\w2.cell? (J h 5)=some (.string a):=y.o _ (d.o.1.drew.tr g)))
 have t:=hZ (aI (d.o.1.drew.tr g) n);clear s2 t2 g n HR y;go_upto_if 136 with fail
 go_cut[17,18]from 136 to 137 (fun Z aa wx=>Z=I S/\aa=I E/\w2=wx)
 case first=>
  by_cases g:k=2
  ·have h1:=d.o.2;rw[if_pos (zJ g)]at h1;cases h1;subst g;go_wp2_with fail;go_meet
   case rel=>exact⟨rfl,rfl,rfl⟩
  ·have h1:=d.o.2;rw[if_neg (by simp[g])]at h1;cases h1.trans t.o.2.symm;have ar: ¬(k:Int)=2:=by omega
   clear h1;go_wp2_with fail;go_meet
   case rel=>exact⟨rfl,rfl,rfl⟩
 case rest=>
  obtain⟨rfl,rfl,rfl⟩:=hcut;have r:Hid (Dj w0 pg xs v rs w2):=i.o.game.step t.o.1 (fun _ _=>id);clear d t;have M:=(r.o).stay (by omega);have U:=(r.o).all i.o.eight;go_wp2_with fail;refine M.mono ?_;rintro e wz ⟨rfl,F⟩;clear M U;have HZ:Hid (Dj _ _ _ _ _ wz):=(r.o).step F (fun _ _=>id);clear F;go_wp2_with fail;go_ret;exact⟨rfl,_,_,HZ.o,by simp⟩
theorem rY(v:Value)(n m base:Nat)(xs:Aei)(w:World)(ho:w.ownsRow base 73 2 v n xs)(hb:base<=w.heap.size)(hn:n<=100000)(hm:m<=1000000000000):
  Calls prog 58 #[v,.int .i64 m] w fun e w'=>Ts base m v w w' e:=by
 obtain⟨i0,hi,U,V,W⟩:=Aa6 P7;obtain⟨b,c,hv,aT⟩:=An ho;subst hv;have H0:Hid ((b=none/\n=0/\c=0)\/ ∃g,b=some ⟨g,0,none⟩/\base<=g/\g<w.heap.size/\Fk w 73 (.int .i64 0) (.int .i64 m) g c 0):=by
  rcases ho.2 with⟨e,h0⟩|⟨g,cap,y,e,h1,h2,s,h4,h5,h6⟩
  ·cases e;exact .inl ⟨rfl,rfl,rfl⟩
  ·cases e;exact .inr ⟨g,rfl,h1,Aac h2,y,h2,h5,h4,zZ _,fun i hi=>by omega⟩
 clear ho
 go_enter func58,ntmps58
 go_wp2_with fail;obtain⟨Q,F⟩: ∃Z:Array Value,Z= #[.slice none 0 0,.slice none 0 0,.slice none 0 0,.slice none 0 0,.slice none 0 0,.slice none 0 0,.slice none 0 0,.slice none 0 0,.slice none 0 0,.slice none 0 0,.slice none 0 0,.slice none 0 0,.int .i64 0]:=⟨_,rfl⟩;have aQ:Q.size=13:=by rw[F];rfl
 rw[<-F];have r0:((w.alloc (.cells Q 122)).alloc (.cells #[.int .i64 0,.int .i64 m] 73)).heap[w.heap.size]?=some (.cells Q 122 (0,0)):=Ab2 _ _ _;have r1:((w.alloc (.cells Q 122)).alloc (.cells #[.int .i64 0,.int .i64 m] 73)).heap[w.heap.size+1]?=some (.cells #[.int .i64 0,.int .i64 m] 73 (0,0)):=Ab3 _ _ _;have am:Aee w ((w.alloc (.cells Q 122)).alloc (.cells #[.int .i64 0,.int .i64 m] 73)):=((Aa.refl _ _).alloc _).alloc _;generalize(w.alloc (.cells Q 122)).alloc (.cells #[.int .i64 0,.int .i64 m] 73)=W1 at*;obtain⟨p0,H⟩: ∃p,p=w.heap.size:=⟨_,rfl⟩;obtain⟨p1,K⟩: ∃p,p=w.heap.size+1:=⟨_,rfl⟩;have HP:=hZ (aI H K);rw[<-H]at r0;rw[<-K]at r1;rw[<-K,<-H];have H1:=hZ (aI r0 (aI r1 am));have ar:=hZ F;clear H K r0 r1 am F;have t:Hid (∀j,(Value.slice b n c).ownBlock=some j->j<p0):=fun j q=>by
  rcases H0.o with⟨rfl,_⟩|⟨g,rfl,_,hg,_⟩
  ·cases q
  ·have:j=g:=by injection q with q;exact q.symm
   have:=HP.o;omega
 go_loopw[6] (fun vi wr=> ∃i:Nat,i<=n/\vi= .int .i64 i/\Hid ((b=none/\n=0/\c=0)\/ ∃g,b=some ⟨g,0,none⟩/\base<=g/\g<w.heap.size/\Fk wr 73 (.int .i64 0) (.int .i64 m) g c i)/\Hid (Aa (fun j=>(Value.slice b n c).ownBlock=some j) W1 wr)) (fun vi _=>n-(intOf vi).toNat)
 case atStart=>
  refine⟨0,zZ _,rfl,?_,Aa.refl _ _⟩;rcases H0.o with h|⟨g,h1,h2,s,h4⟩
  ·exact .inl h
  ·exact .inr ⟨g,h1,h2,s,h4.kept H1.o.2.2 id⟩
 case round=>
  obtain⟨i,aR,rfl,HL,HK⟩:=hrel;have z:wr.heap[p1]?=some (.cells #[.int .i64 0,.int .i64 m] 73 (0,0)):=HK.o.row H1.o.2.1 (fun e=>by have:=t.o _ e;have:=HP.o;omega);have X:wr.heap[p0]?=some (.cells Q 122 (0,0)):=HK.o.row H1.o.1 (fun e=>by have:=t.o _ e;omega);have Y:wr.cell? ⟨p1,0,none⟩=some (.int .i64 0):=zP _ _ 0 _ _ _ z;have x2:wr.cell? ⟨p1,1,none⟩=some (.int .i64 m):=zP _ _ 1 _ _ _ z
  by_cases ax:i<n
  ·obtain⟨an,aw⟩:=dT i n;obtain⟨g,rfl,au,av,ak⟩: ∃g,b=some ⟨g,0,none⟩/\base<=g/\g<w.heap.size/\Fk wr 73 (.int .i64 0) (.int .i64 m) g c i:=by
    rcases HL.o with⟨_,h,_⟩|h
    ·omega
    ·exact h
   have aq:=hZ ak;obtain⟨y,s1,s2,s3,s4,s5⟩:=ak;obtain⟨u1,q1⟩: ∃u,wr.cell? ⟨g,i*2,none⟩=some u:=⟨_,by rw[zP _ _ _ _ _ _ s1,Ab6 (by omega)]⟩;obtain⟨u2,q2⟩: ∃u,wr.cell? ⟨g,i*2+1,none⟩=some u:=⟨_,by rw[zP _ _ _ _ _ _ s1,Ab6 (by omega)]⟩;have f1:wr.frozen? ⟨g,i*2,none⟩=false:=zR _ _ _ _ _ s1;have f2:wr.frozen? ⟨g,i*2+1,none⟩=false:=zR _ _ _ _ _ s1;have HN:Hid (Fk ((wr.setCell ⟨g,i*2,none⟩ (.int .i64 0)).setCell ⟨g,i*2+1,none⟩ (.int .i64 m)) 73 (.int .i64 0) (.int .i64 m) g c (i+1)/\Aa (fun j=>(Value.slice (some ⟨g,0,none⟩) n c).ownBlock=some j) W1 ((wr.setCell ⟨g,i*2,none⟩ (.int .i64 0)).setCell ⟨g,i*2+1,none⟩ (.int .i64 m))):=⟨aq.o.put i (by omega) (i+1) (by omega) (fun j q=>by omega),(HK.o.setCell (p:=⟨g,i*2,none⟩) (.inr rfl) _).setCell (p:=⟨g,i*2+1,none⟩) (.inr rfl) _⟩;clear s1 s2 s3 s4 s5 z X HL HK H0;go_wp2_with fail;go_roundw
   case rel=>exact⟨i+1,by omega,by go_num,.inr ⟨g,rfl,au,av,HN.o.1⟩,HN.o.2⟩
   case measure=>simp[intOf];omega
  ·obtain⟨an,aw⟩:=dF i n;have al:i=n:=by omega
   have M:Hid (LX wr base 73 (.int .i64 0) (.int .i64 m) (.slice b n c) n):=by
    rw[al]at HL;rcases HL.o with⟨h1,h2,s⟩|⟨g,h1,h2,s,h4⟩
    ·subst h1 h2 s;exact .inl ⟨rfl,rfl⟩
    ·subst h1;exact .inr ⟨g,c,rfl,h2,h4⟩
   have L:Hid (Aa (fun j=>(Value.slice b n c).ownBlock=some j) w wr/\base<=wr.heap.size):=by
    have h1:Aa (fun j=>(Value.slice b n c).ownBlock=some j) w wr:=(H1.o.2.2.wider (fun _ _ h=>h.elim)).tr HK.o;exact⟨h1,Aaf hb h1.size⟩
   have N:=hZ (aI z X);have Q0:Hid (Xd w wr base 73 (.int .i64 0) (.int .i64 m) (.slice b n c) n p0 p1 Q):=⟨M.o,L.o,N.o⟩;clear z X HL HK H0 al H1 M L N
   go_wp2_with(at_builtin;refine Df _ rfl (.tmp 22) (.tmp 24) 69 rfl 73 i0 (.agg #[.int .i64 0,.int .i64 0]) 16 underlying69 hi U V W rfl base (.int .i64 0) (.int .i64 m) _ n 1 (by omega) rfl (Q0.o.lx.alloc _) ?b0 ⟨wr.heap.size,0,none⟩ 1 rfl (Iq (E7 (.int .i64 0) (.int .i64 m) 1)) rfl rfl ?b1 ?b2 ?_)
   case b0=>first|exact Aaf Q0.o.kw.2 ((Aa.refl (fun _=>False) _).alloc _).size|(have:=Q0.o.kw.2;omega)
   case b1=>unfold maxLen;omega
   case b2=>omega
   intro v1 w1 f k d;have S:Hid _:=Q0.o.next t.o (by have:=HP.o;omega) k d;have ag:=hZ f;clear Q0 f k d Y x2;have Y:w1.cell? ⟨p1,0,none⟩=some (.int .i64 0):=zP _ _ 0 _ _ _ S.o.1.rw.1;have x2:w1.cell? ⟨p1,1,none⟩=some (.int .i64 m):=zP _ _ 1 _ _ _ S.o.1.rw.1
   go_wp2_with(at_builtin;refine Df _ rfl (.tmp 26) (.tmp 29) 69 rfl 73 i0 (.agg #[.int .i64 0,.int .i64 0]) 16 underlying69 hi U V W rfl base (.int .i64 0) (.int .i64 m) _ n 2 (by omega) rfl (S.o.1.lx.alloc _) ?b0 ⟨w1.heap.size,0,none⟩ 2 rfl (Iq (E7 (.int .i64 0) (.int .i64 m) 2)) rfl rfl ?b1 ?b2 ?_)
   case b0=>first|exact Aaf S.o.1.kw.2 ((Aa.refl (fun _=>False) _).alloc _).size|(have:=S.o.1.kw.2;omega)
   case b1=>unfold maxLen;omega
   case b2=>omega
   intro v2 w2 f k d;have O:Hid _:=S.o.1.next t.o (by have:=HP.o;omega) k d;have R:=hZ (aI (O.o.2.lx ag.o) f);clear S f k d Y x2 ag;have Y:w2.cell? ⟨p1,0,none⟩=some (.int .i64 0):=zP _ _ 0 _ _ _ O.o.1.rw.1;have x2:w2.cell? ⟨p1,1,none⟩=some (.int .i64 m):=zP _ _ 1 _ _ _ O.o.1.rw.1
   go_wp2_with(at_builtin;refine Df _ rfl (.tmp 31) (.tmp 35) 69 rfl 73 i0 (.agg #[.int .i64 0,.int .i64 0]) 16 underlying69 hi U V W rfl base (.int .i64 0) (.int .i64 m) _ n 3 (by omega) rfl (O.o.1.lx.alloc _) ?b0 ⟨w2.heap.size,0,none⟩ 3 rfl (Iq (E7 (.int .i64 0) (.int .i64 m) 3)) rfl rfl ?b1 ?b2 ?_)
   case b0=>first|exact Aaf O.o.1.kw.2 ((Aa.refl (fun _=>False) _).alloc _).size|(have:=O.o.1.kw.2;omega)
   case b1=>unfold maxLen;omega
   case b2=>omega
   intro v3 A f k d;have P:Hid _:=O.o.1.next t.o (by have:=HP.o;omega) k d;have B:=hZ (aI (P.o.2.lx R.o.1) (aI (P.o.2.lx R.o.2) f));clear O f k d Y x2 R;have Y:A.cell? ⟨p1,0,none⟩=some (.int .i64 0):=zP _ _ 0 _ _ _ P.o.1.rw.1;have x2:A.cell? ⟨p1,1,none⟩=some (.int .i64 m):=zP _ _ 1 _ _ _ P.o.1.rw.1;obtain⟨a1,C,e1,A1,B1,C1⟩:=B.o.1.mark;obtain⟨a2,D,e2,A2,B2,C2⟩:=B.o.2.1.mark;obtain⟨a3,E,e3,A3,B3,C3⟩:=B.o.2.2.mark;obtain⟨a0,c0,e0,J,B0,C0⟩:=P.o.1.lx.mark;cases e0;subst e1 e2 e3;have x:Hid (K8 A (J7 8 m (b,n,c) (a1,n+1,C) (a2,n+2,D) (a3,n+3,E))/\ ∀j a,j<12->((J7 8 m (b,n,c) (a1,n+1,C) (a2,n+2,D) (a3,n+3,E)).sl j).1=some a->base<=a.block/\a.block<A.heap.size/\a.block≠p0):=by
    have G: ∀a:Addr,(base<=a.block/\a.block<A.heap.size/\ ∃y,A.heap[a.block]?=some (.cells y 73 (0,0)))->base<=a.block/\a.block<A.heap.size/\a.block≠p0:=fun a ⟨h1,h2,y,s⟩=>⟨h1,h2,fun e=>by
     rw[e,P.o.1.rw.2]at s;injection s with s;injection s with _ s;exact absurd s (by decide)⟩
    refine⟨⟨hm,fun j q=>?_,fun j q=>?_,fun j h4 q=>?_⟩,fun j a q e=>?_⟩
    ·rcases He 8 m j (b,n,c) (a1,n+1,C) (a2,n+2,D) (a3,n+3,E)with⟨h,_⟩|⟨h,_⟩|⟨h,_⟩|⟨h,_⟩|⟨h,_⟩<;>rw[h]<;>dsimp only<;>omega
    ·rcases He 8 m j (b,n,c) (a1,n+1,C) (a2,n+2,D) (a3,n+3,E)with⟨h,l⟩|⟨h,l⟩|⟨h,l⟩|⟨h,l⟩|⟨h,l⟩
     ·omega
     ·omega
     ·omega
     ·omega
     ·rw[h];exact Qd _ _ _
    ·rcases He 8 m j (b,n,c) (a1,n+1,C) (a2,n+2,D) (a3,n+3,E)with⟨h,l⟩|⟨h,l⟩|⟨h,l⟩|⟨h,l⟩|⟨h,l⟩
     ·rw[h];exact B0
     ·rw[h];exact B1
     ·rw[h];exact B2
     ·rw[h];exact B3
     ·rw[h];exact Qd _ _ _
    ·rcases He 8 m j (b,n,c) (a1,n+1,C) (a2,n+2,D) (a3,n+3,E)with⟨h,l⟩|⟨h,l⟩|⟨h,l⟩|⟨h,l⟩|⟨h,l⟩<;>rw[h]at e
     ·exact G a (C0 a e)
     ·exact G a (C1 a e)
     ·exact G a (C2 a e)
     ·exact G a (C3 a e)
     ·cases e
   clear J B0 C0 A1 B1 C1 A2 B2 C2 A3 B3 C3 B;have ah:=hZ P.o.1.rw.2;have r:=ah.o;rw[ar.o]at r;have hz:=lB r;have fz: ∀i,A.frozen? ⟨p0,i,none⟩=false:=fun i=>zR _ _ i _ _ r;have aV:A.cell? ⟨p0,12,none⟩=some (.int .i64 0):=zP _ _ 12 _ _ _ r;have ai:Hid _:=rV r (.slice none 0 0) (.slice none 0 0) (.slice none 0 0) (.slice none 0 0) (.slice none 0 0) (.slice none 0 0) (.slice none 0 0) (.slice none 0 0) (.slice b n c) (.slice a1 (n+1) C) (.slice a2 (n+2) D) (.slice a3 (n+3) E) (.int .i64 m);clear r Y x2;go_wp2_with fail;have az:=ai.o.1;have T:=ai.o.2;refine Aa8 (v:= .agg #[.slice none 0 0,.slice none 0 0,.slice none 0 0,.slice none 0 0,.slice none 0 0,.slice none 0 0,.slice none 0 0,.slice none 0 0,.slice b n c,.slice a1 (n+1) C,.slice a2 (n+2) D,.slice a3 (n+3) E,.int .i64 m]) (Abj results58 _ _ p0 122 _ (0,0) _ rfl az underlying122 rfl Nn) rfl ?_;have ax:p0<A.heap.size:=Aac ah.o;refine⟨(J7 8 m (b,n,c) (a1,n+1,C) (a2,n+2,D) (a3,n+3,E)),rfl,x.o.1.kept T (fun j a q e h=>?_),rfl,fun j a q e=>?_,P.o.1.kw.1.trans T (fun j h1 h2=>by have:=HP.o;omega)⟩
   ·exact(x.o.2 j a q e).2.2 h
   ·have h1:=x.o.2 j a q e;have:=T.size;omega
theorem xL{rs:List Rec}{q:Qn}(hT:Js w0 w pg xs v rs)(hq:q.Ok)(hm:m<=1000000000000)(hk:q.k=5):
  Calls prog 24 #[.pointer (some ⟨pg,0,none⟩),.agg q.cells.toArray,.int .i64 m] w fun e w'=>Of w0 pg xs rs e w':=by
 obtain⟨i0,hi,a7,a8,a9⟩:=Aa6 Mx;obtain⟨q0,Y,j,q3,q4,g⟩:=q;dsimp only at hk;subst hk;have HQ:=hZ hq
 change Calls _ _ #[.pointer (some (J pg 0)),.agg #[I 5,I Y,I j,I q3,I q4,.string g],I m] w _
 have C:=zY w (.cells #[I 5,I Y,I j,I q3,I q4,.string g] 62);have d0:=cO 0 C;have d1:=cO 1 C;have d2:=cO 2 C;have d5:=cO 5 C;have ae:Aee w (w.alloc (.cells #[I 5,I Y,I j,I q3,I q4,.string g] 62)):=(Aa.refl _ _).alloc _;have ak:=M7 Y (w.alloc (.cells #[I 5,I Y,I j,I q3,I q4,.string g] 62)) hq.on.1 hq.on.2;clear C hq
 go_enter func24,ntmps24
 go_wp2_with fail;refine ak.mono ?_;rintro e W1 ⟨⟨k,rfl,a5⟩,rfl⟩;clear ak;generalize w.alloc (.cells #[I 5,I Y,I j,I q3,I q4,.string g] 62)=W0 at*;obtain⟨l,am⟩: ∃b,b=w.heap.size:=⟨_,rfl⟩;rw[<-am]at d0 d1 d2 d5|-;obtain⟨x,yo,c,fs,T0⟩:=hT k a5;have T:=T0.step ae;have R:=T.small;have aN:=T.few;have B:=hZ T;clear T T0 ae hT am;have c0:=B.o.game.cell k x B.o.gx;have c1:=B.o.game.cell (4+k) _ B.o.gy;have bd:(k:Int)<4:=by omega
 have aO:(0:Int)<=(k:Int):=by omega
 have a2:=R.1;have HF:Hid (∀f∈fs,f.2.size<=30000):=fun f hf=>by have:=R.2 f hf;omega
 have hpb:pg<W0.heap.size:=Aac B.o.game.row;have G:l<W0.heap.size:=z9 _ _ d0;have al:g.data.toList.length<=281474976710656:=Aaf (Acx (by simp)) (Aaf HQ.o.s (by decide));have HX:Hid (∀W,Aee W0 W->Calls prog 28 #[x,.string g,I j] W fun e w'=>(∃v S E,(S,E)=(if decide (k=2)=true then([],9)else Xc fs g.data.toList j)/\e= .returned (.tuple #[v,I E])/\S.length<=6001/\w'.ownsRow W.heap.size 73 2 v S.length (Cg S))/\Aee W w'):=fun W y=>(B.o.sub.step y).locate g.data.toList j al HQ.o.a.2;have HR:Hid (∀W,Aee W0 W->Calls prog 57 #[.slice yo fs.length c,.string g,I j] W fun e w'=>(∃V d S E,(S,E)=Xc fs g.data.toList j/\L7 w' V S/\e= .returned (.tuple #[.slice V S.length d,I E]))/\Aee W w'):=fun W y=>lA yo c fs g.data.toList j W (B.o.files.kept y (fun _ _=>id)) a2 HF.o al;have P:Hid (∀X,Aee W0 X->X.cell? (J pg k)=some (x)/\X.cell? (J l 5)=some (.string g)/\X.cell? (J l 2)=some (I j)):=fun X y=>⟨(y.cell (p:=(J pg k)) hpb id).trans c0,(y.cell (p:=(J l 5)) G id).trans d5,(y.cell (p:=(J l 2)) G id).trans d2⟩;have Q:Hid (∀X,Aee W0 X->X.cell? (J pg (4+k))=some (.slice yo fs.length c)/\X.cell? (J l 5)=some (.string g)/\X.cell? (J l 2)=some (I j)):=fun X y=>⟨(y.cell (p:=(J pg (4+k))) hpb id).trans c1,(y.cell (p:=(J l 5)) G id).trans d5,(y.cell (p:=(J l 2)) G id).trans d2⟩;clear R;clear d2 d5 c0 c1;go_wp2_with fail;have s1:W0.drew.cell? (J pg k)=some (x)/\W0.drew.cell? (J l 5)=some (.string g)/\W0.drew.cell? (J l 2)=some (I j):=P.o _ (Aa.refl _ _).drew
 go_region_held(fun X=>X.cell? (J pg k)=some (x)/\X.cell? (J l 5)=some (.string g)/\X.cell? (J l 2)=some (I j)) (first|exact t1|exact s1)
  (first|(go_at_call 28;refine(HX.o _ (Aa.refl _ _).drew).mono ?_;rintro e M ⟨⟨vl,S,E,ac,rfl,ba,z⟩,D⟩;have t1:M.cell? (J pg k)=some (x)/\M.cell? (J l 5)=some (.string g)/\M.cell? (J l 2)=some (I j):=P.o _ ((Aa.refl (fun _=>False) W0).drew.tr D)))
 obtain⟨lo,lc,hl,_⟩:=An z;subst hl;have n:Hid (Aee W0 M/\(S,E)=(if decide (k=2)=true then([],9)else Xc fs g.data.toList j)):=⟨(Aa.refl (fun _=>False) W0).drew.tr D,ac⟩;have ab:=hZ (L7.owns z);have HM:Hid (∀W,Aee M W->Calls prog 58 #[.slice lo S.length lc,I m] W fun e w2=> ∃(r:Rec) (u:Nat->Value),e= .returned (.agg #[u 0,u 1,u 2,u 3,u 4,u 5,u 6,u 7,u 8,u 9,u 10,u 11,u 12])/\Hid (r.cells=[u 0,u 1,u 2,u 3,u 4,u 5,u 6,u 7,u 8,u 9,u 10,u 11,u 12]/\Jq w0 pg xs v rs w2 r)):=fun W y=>by
  have ho:=y.owns z (fun _ _=>id);have hk:=D.tr y;exact(rY _ _ m _ _ W ho hk.size (by omega) hm).mono fun e w2 h=>Jq.of (B.o.game.step (Aa.refl (fun _=>False) W0).drew (fun _ _=>id)) B.o.low B.o.eight hk ho h
 clear s1 t1 D ac HX P z;go_wp2_with fail;have s2:=Q.o _ n.o.1.drew
 go_region_held(fun X=>X.cell? (J pg (4+k))=some (.slice yo fs.length c)/\X.cell? (J l 5)=some (.string g)/\X.cell? (J l 2)=some (I j)) (first|exact t2|exact s2)
  (first|(go_at_call 57;refine(HR.o _ n.o.1.drew).mono ?_;rintro e w2 ⟨⟨ax,aZ,S2,E2,L,aj,rfl⟩,t⟩;have t2:w2.cell? (J pg (4+k))=some (.slice yo fs.length c)/\w2.cell? (J l 5)=some (.string g)/\w2.cell? (J l 2)=some (I j):=Q.o _ (n.o.1.drew.tr t)))
 have A:Hid (Aee M w2/\(S2,E2)=Xc fs g.data.toList j/\L7 w2 ax S2):=⟨(Aa.refl (fun _=>False) M).drew.tr t,L,aj⟩;clear s2 t2 t L aj HR Q;go_upto_if 175 with fail
 go_cut[21,22]from 175 to 176 (fun aA aB wx=>(∃V d,aA= .slice V S.length d/\Hid (L7 w2 V S))/\aB=I E/\w2=wx)
 case first=>
  by_cases t:k=2
  ·have h1:=n.o.2;rw[if_pos (zJ t)]at h1;cases h1;subst t;go_wp2_with fail;go_meet
   case rel=>exact⟨⟨_,_,rfl,fun i hi=>by simp at hi⟩,rfl,rfl⟩
  ·have h1:=n.o.2;rw[if_neg (by simp[t])]at h1;cases h1.trans A.o.2.1.symm;have be: ¬(k:Int)=2:=by omega
   clear h1;go_wp2_with fail;go_meet
   case rel=>exact⟨⟨_,_,rfl,A.o.2.2⟩,rfl,rfl⟩
 case rest=>
  obtain⟨⟨V,d,rfl,aa⟩,rfl,rfl⟩:=hcut;have Z:Hid (Aee M w2/\pg<w2.heap.size/\w2.cell? (J pg 8)=some v/\L7 w2 lo S):=by
   have af:=n.o.1.tr A.o.1;exact⟨A.o.1,by have:=af.size;omega,(af.cell (p:=(J pg 8)) hpb id).trans (B.o.game.all B.o.eight),ab.o.kept A.o.1 (fun _ _=>id)⟩
  clear n A ab;go_wp2_with fail
  go_loopw[9,23] (fun vb vi wr=> ∃i:Nat,i<=S.length/\vi=I i/\vb= .bool true/\Hid (Aee w2 wr)) (fun _ vi _=>S.length-(intOf vi).toNat)
  case atStart=>exact⟨0,zZ _,rfl,rfl,Aa.refl _ _⟩
  case round=>
   obtain⟨i,bc,rfl,rfl,U⟩:=hrel
   by_cases ah:i<S.length
   ·obtain⟨a4,hd⟩:=dT i S.length;obtain⟨b,bi,rfl,_,e1,e2⟩:=(Z.o.2.2.2.kept U.o (fun _ _=>id)) i ah;obtain⟨b',aR,rfl,_,f1,f2⟩:=(aa.o.kept U.o (fun _ _=>id)) i ah;generalize S[i]=p at*;obtain⟨p1,p2⟩:=p;go_wp2_with fail;go_quiet(fail);go_wp2_with fail;go_roundw
    case rel=>exact⟨i+1,by omega,by go_num,by first|rfl|simp,U.o.drewN _⟩
    case measure=>simp[intOf];omega
   ·obtain⟨a4,hd⟩:=dF i S.length;have HK:=hZ (Z.o.1.tr U.o);have az:=(U.o.cell (p:=(J pg 8)) Z.o.2.1 id).trans Z.o.2.2.1;clear Z aa U;go_wp2_with fail;refine wp_region_any (by kernel_rfl) ?_
    change wpAny _ _ _ _ _ _ _ (World.drew _)
    refine tB 0 (.pointer (some (J pg 0))) rfl (fun w=>by go_simp) ?_;refine tB 1 (.pointer (some (J pg 0))) rfl (fun w=>by go_simp) ?_;refine tB 2 (.pointer (some (J pg 0))) rfl (fun w=>by go_simp) ?_;refine tB 3 (.pointer (some (J pg 8))) rfl (fun w=>by go_simp) ?_;refine tB 5 (.slice lo S.length lc) rfl (fun w=>by go_simp) ?_;refine tB 6 (I m) rfl (fun w=>by go_simp) ?_;refine rC 4 7 rfl rfl (fun K hK=>?_) (fun K hK=>?_)
    focus
     go_simp;refine hK _ _ ?_;clear hK K;refine rB 7 rfl (fun K hK=>?_);go_simp;refine(HM.o _ HK.o.drew).mono ?_;rintro e w2 ⟨r,u,rfl,H⟩;refine hK _ _ ?_;clear hK K;refine rB 8 rfl (fun K hK=>?_);go_simp;refine hK _ _ ?_;clear hK K
    rotate_left
    focus
     go_simp;refine(HM.o _ HK.o.drew).mono ?_;rintro e w2 ⟨r,u,rfl,H⟩;refine hK _ _ ?_;clear hK K;have aX:=H.o.2.game.all H.o.2.eight;have aY:=(H.o.2.step ((Aa.refl _ _).alloc (.cells #[u 0,u 1,u 2,u 3,u 4,u 5,u 6,u 7,u 8,u 9,u 10,u 11,u 12] 122))).game.all H.o.2.eight;refine rC 4 8 rfl rfl (fun K hK=>?_) (fun K hK=>?_)
     focus
      go_simp;refine hK _ _ ?_;clear hK K;refine rB 8 rfl (fun K hK=>?_);go_simp;refine hK _ _ ?_;clear hK K
     rotate_left
     focus
      go_simp;refine hK _ _ ?_;clear hK K;refine rB 4 rfl (fun K hK=>?_);go_simp;refine hK _ _ ?_;clear hK K
    all_goals
     have O:=H.o.2.step ((Aa.refl _ _).alloc (.cells #[u 0,u 1,u 2,u 3,u 4,u 5,u 6,u 7,u 8,u 9,u 10,u 11,u 12] 122));refine rB 9 rfl (fun K hK=>?_);refine Oe _ rfl (.tmp 208) (.tmp 212) 55 rfl w0.heap.size 122 i0 _ 13 296 underlying55 hi a7 a8 a9 rfl (by decide) v rs.length (rs.flatMap Rec.cells) rfl O.game.owns (J w2.heap.size 0) 1 1 [u 0,u 1,u 2,u 3,u 4,u 5,u 6,u 7,u 8,u 9,u 10,u 11,u 12] rfl rfl (Iq _) (by rw[<-H.o.1];exact r.one) (by unfold maxLen;omega) (by omega) (by have:=O.game.kept.size;omega) ?_;intro v3 w3 F ad ai;obtain⟨a3,c3,a6,_⟩:=An F;subst a6;rw[<-H.o.1]at F;have HP:Hid _:=O.push F ad ai;have ay:=HP.o.2.1;have a0:=HP.o.2.2;clear F ad ai;refine hK _ _ ?_;clear hK K;refine tB 10 (.pointer (some (J pg 0))) rfl (fun w=>by go_simp) ?_;refine tB 11 (.pointer (some (J pg 8))) rfl (fun w=>by go_simp) ?_;refine rB 12 rfl (fun K hK=>?_);go_simp;refine hK _ _ ?_;clear hK K;refine wpAny_done (by kernel_rfl) ?_ _;have N:Hid _:=HP.o.1;clear HP ay a0 az;have an:=(N.o).stay (by rw[zL,Adl];omega);have a1:=(N.o).all B.o.eight;go_wp2_with fail;refine an.mono ?_;rintro e wz ⟨rfl,ag⟩;clear an a1;have HZ:Hid (Dj _ _ _ _ _ wz):=(N.o).step ag (fun _ _=>id);clear ag;go_wp2_with fail;go_ret;exact⟨rfl,_,_,HZ.o,by simp⟩
theorem Wg(k:Nat)(w:World)(hk:k<=60):Calls prog 84 #[.int .i64 k] w fun e w'=>e= .returned (.int .i64 ((2^k:Nat):Int))/\w'=w:=by
 go_enter func84,ntmps84
 go_wp2
 go_loop [3,4] (fun p i=> ∃j:Nat,j<=k/\i=I j/\p=I ((2^j:Nat):Int)) (fun _ i=>k-(intOf i).toNat)
 case atStart=>exact⟨0,zZ _,rfl,rfl⟩
 case round=>
  obtain⟨j,h,rfl,rfl⟩:=hrel
  by_cases g:j<k
  ·have a:decide ((j:Int)<(k:Int))=true:=by simp;omega
   have hb:2^j<=1152921504606846976:=Abk (by omega) (show j<=60 by omega);have d:Hid (2^(j+1)=2*2^j):=by show _=_;rw[Abl,Ade]
   generalize b:2^j=y at*;clear b;go_wp2
   go_round
   case rel=>exact⟨j+1,by omega,by go_num,by rw[d.o];go_num⟩
   case measure=>simp[intOf];omega
  ·have a:decide ((j:Int)<(k:Int))=false:=by simp;omega
   have c:j=k:=by omega
   subst c;obtain⟨y,b⟩: ∃y:Nat,2^j=y:=⟨_,rfl⟩;have f:Hid (((2^j:Nat):Int)=(y:Int)):=by show _=_;rw[b]
   rw[b];clear b;go_wp2;go_ret;exact⟨by rw[<-f.o];simp,rfl⟩
theorem bA(m n:Nat)(w:World)(y:m<=1000)(hn:n<=6000):Calls prog 83 #[.int .i64 m,.int .i64 n] w fun e w'=>e= .returned (.int .i64 (Ca m n:Nat))/\w'=w:=by
 by_cases r:m=0
 ·subst r
  go_enter func83,ntmps83
  go_wp2;refine wp_loop_rounds 1 ?_;rw[rounds_succ];go_wp2;go_ret;exact⟨rfl,rfl⟩
 have c:Hid (Ca m n=D5 m n (14-0) 0):=by unfold Ca;rw[if_neg r];rfl
 generalize Ca m n=L at c|-;have h1:1<=m:=by omega
 have u:decide (0<m)=true:=by simp;omega
 go_enter func83,ntmps83
 go_wp2
 go_loop [5,6] (fun i f=> ∃j:Nat,j<=12/\i=I j/\f=I ((m*2^(j+1):Nat):Int)/\m*2^j<=6000+m/\L=D5 m n (14-j) j) (fun i _=>14-(intOf i).toNat)
 case atStart=>exact⟨0,by omega,rfl,by simp;omega,by omega,c.o⟩
 case round=>
  clear c;obtain⟨j,x,rfl,rfl,v,s⟩:=hrel;have g:Hid (L=if m*2^(j+1)<=n then D5 m n (13-j) (j+1)else j):=by
   show _=_;rw[s,show 14-j=(13-j)+1 from by omega];rfl
  have q:m*2^(j+1)=m*2^j*2:=by rw[Abl,Adt]
  have l:m*2^(j+1+1)=m*2^(j+1)*2:=by rw[Abl,Adt]
  obtain⟨p,k⟩: ∃p:Nat,m*2^(j+1)=p:=⟨_,rfl⟩;rw[k]at g q l|-;have b:p<=n->j<12:=by
   intro a;rcases Abf j 12 with h|h
   ·exact h
   ·have:j=12:=by omega
    subst this;have:1*2^13<=m*2^13:=Abs _ h1;omega
  have hpb:p<=14000:=by omega
  have d:=hZ (aI b (aI l k));clear s v q l b k
  by_cases a:p<=n
  ·have hd:decide ((p:Int)<=(n:Int))=true:=by simp;omega
   go_wp2
   go_round
   case rel=>
    have t:=d.o.1 a;refine⟨j+1,by omega,by go_num,by rw[d.o.2.1];go_num,by rw[d.o.2.2];omega,?_⟩;rw[g.o,if_pos a];congr 1;omega
   case measure=>simp[intOf];omega
  ·have hd:decide ((p:Int)<=(n:Int))=false:=by simp;omega
   go_wp2;go_ret;refine⟨?_,rfl⟩;have:L=j:=by rw[g.o,if_neg a]
   rw[this];rfl
theorem uT(x j:Nat)(h1:x<2^j)(h2:j=0\/2^(j-1)<=x)(a:x<2^64)(b:j<=64):Lib.bitLen x=j:=by
 rcases h2 with rfl|h2
 ·have:x=0:=by simpa using h1
  subst this;rfl
 ·have d:=Lib.bitLen_le x j b h1;have e:=Lib.bitLen_shift (j-1) x h2 a;have c:j≠0:=by
   rintro rfl;have:x=0:=by simpa using h1
   subst this;simp at h2
  have hd:1<=x/2^(j-1):=(Nat.le_div_iff_mul_le (Acl _)).2 (by omega);have f:=Lib.bitLen_half (x/2^(j-1)) (by omega) (Abm (Acd _ _) a);omega
theorem oD(n:Nat)(w:World)(hn:n<=10000):Calls prog 92 #[.int .i64 n] w fun e w'=>e= .returned (.int .i64 (Lib.bitLen (n/8):Nat))/\w'=w:=by
 obtain⟨x,k⟩: ∃x,n/8=x:=⟨_,rfl⟩;have p:x<=1250:=by omega
 have m:(n:Int)/8=(x:Int):=by omega
 rw[k];clear k
 go_enter func92,ntmps92
 go_wp2
 go_loop [3,4] (fun i f=> ∃j:Nat,j<=11/\i=I j/\f=I ((2^j:Nat):Int)/\(j=0\/2^(j-1)<=x)) (fun i _=>14-(intOf i).toNat)
 case atStart=>exact⟨0,by omega,rfl,rfl,.inl rfl⟩
 case round=>
  obtain⟨j,l,rfl,rfl,g⟩:=hrel;obtain⟨y,a⟩: ∃y:Nat,2^j=y:=⟨_,rfl⟩;have q:y<=2048:=by rw[<-a];exact Abk (by omega) l
  have b:=hZ (aI a g);rw[a];clear a g
  by_cases c:y<=x
  ·have hd:decide ((y:Int)<=(x:Int))=true:=by simp;omega
   go_wp2
   go_round
   case rel=>
    have h1:=b.o.1;have d:j<=10:=by
     rcases Abf j 11 with h|h
     ·omega
     ·have:2^11<=2^j:=Abk (by omega) h;omega
    refine⟨j+1,by omega,by go_num,?_,.inr (by rw[Acn,h1];exact c)⟩;rw[Abl,h1];go_num
   case measure=>simp[intOf];omega
  ·have hd:decide ((y:Int)<=(x:Int))=false:=by simp;omega
   go_wp2;go_ret;refine⟨?_,rfl⟩;rw[uT x j (by rw[b.o.1];omega) b.o.2 (by omega) (by omega)];rfl
theorem Yo(a b:Nat)(c:a<4294967296)(hb:b<4294967296):bits .xor .i64 (a:Int) (b:Int)=((a^^^b:Nat):Int):=by
 have d:a^^^b<2^32:=Nat.xor_lt_two_pow (by omega) (by omega);have h1:(BitVec.ofInt 64 (a:Int)).toNat=a:=by rw[Ad6,BitVec.toNat_ofNat];exact Aby (by omega)
 have h2:(BitVec.ofInt 64 (b:Int)).toNat=b:=by rw[Ad6,BitVec.toNat_ofNat];exact Aby (by omega)
 show IntKind.i64.wrap ((BitVec.ofInt 64 (a:Int)^^^BitVec.ofInt 64 (b:Int)).toNat:Int)=_;rw[BitVec.toNat_xor,h1,h2,Aar];omega
theorem Hm.xM(r:Nat)(h:r<4294967296):r^^^4294967295=4294967295-r:=by
 apply Nat.eq_of_testBit_eq;intro i;rw[Nat.testBit_xor];have e:4294967295-r=2^32-(r+1):=by omega
 rw[e,Nat.testBit_two_pow_sub_succ (by omega),show 4294967295=2^32-1 from rfl,Nat.testBit_two_pow_sub_one]
 by_cases hi:i<32
 ·simp[hi]
 ·have:r.testBit i=false:=Nat.testBit_lt_two_pow (Aa9 h (show 2^32<=2^i from Abk (by omega) (by omega)));simp[hi,this]
theorem rZ(s:ByteArray)(w:World)(hs:s.size<=1000000):Calls prog 48 #[.string s] w fun e w'=>e= .returned (.int .i64 (crc s.data.toList:Nat))/\w'=w:=by
 have h:s.data.toList.length=s.size:=by simp
 go_enter func48,ntmps48
 go_wp2
 go_loop [3,4] (fun c i=> ∃k:Nat,k<=s.size/\i=I k/\c=I (F9 (s.data.toList.take k):Nat)) (fun _ i=>s.size-(intOf i).toNat)
 case atStart=>exact⟨0,zZ _,rfl,rfl⟩
 case round=>
  obtain⟨k,hk,rfl,rfl⟩:=hrel;have d:=Vs (s.data.toList.take k)
  by_cases D:k<s.size
  ·obtain⟨y,z⟩: ∃y:Nat,s[k].toNat=y:=⟨_,rfl⟩;have B:y<256:=by rw[<-z];exact UInt8.toNat_lt _
   have u:Hid (F9 (s.data.toList.take (k+1))=Ed 8 (F9 (s.data.toList.take k)^^^y)):=by
    have:=Yc s.data.toList k (by omega);rw[show s.data.toList[k].toNat=y from by rw[<-z];simp[ByteArray.getElem_eq_getElem_data]]at this;exact this
   generalize F9 (s.data.toList.take k)=r0 at d u|-;have x:bits .xor .i64 (r0:Int) (y:Int)=((r0^^^y:Nat):Int):=Yo _ _ d (by omega);clear h;go_wp2
   go_loop [3,5] (fun c i=> ∃j:Nat,j<=8/\i=I j/\c=I (Ed j (r0^^^y):Nat)) (fun _ i=>8-(intOf i).toNat)
   case atStart=>exact⟨0,zZ _,rfl,rfl⟩
   case round=>
    obtain⟨j,E,rfl,rfl⟩:=hrel;have p:Ed j (r0^^^y)<4294967296:=R6 j (N9 d (by omega));have HS:Hid (Ed (j+1) (r0^^^y)=J2 (Ed j (r0^^^y))):=rfl
    by_cases v:j<8
    ·generalize Ed j (r0^^^y)=s0 at p HS|-;have n:decide ((j:Int)<8)=true:=by simp;omega
     have q:bits .xor .i64 ((s0:Int)/2) 3988292384=((s0/2^^^3988292384:Nat):Int):=Yo (s0/2) 3988292384 (by omega) (by omega);have t:=N9 (a:=s0/2) (b:=3988292384) (by omega) (by omega)
     by_cases f:s0%2=1
     ·have m:(s0:Int)%2=1:=by omega
      have l:Hid (Ed (j+1) (r0^^^y)=s0/2^^^3988292384):=by show _=_;rw[HS.o,J2,if_pos f]
      go_wp2
      go_round
      case rel=>exact⟨j+1,by omega,by go_num,by rw[l.o]⟩
      case measure=>simp[intOf];omega
     ·have m:((s0:Int)%2==1)=false:=by rw[Aat];omega
      have l:Hid (Ed (j+1) (r0^^^y)=s0/2):=by show _=_;rw[HS.o,J2,if_neg f]
      clear q t;go_wp2
      go_round
      case rel=>exact⟨j+1,by omega,by go_num,by rw[l.o];go_num⟩
      case measure=>simp[intOf];omega
    ·have n:decide ((j:Int)<8)=false:=by simp;omega
     go_wp2
     go_round
     case rel=>
      obtain rfl:j=8:=by omega
      exact⟨k+1,by omega,by go_num,by rw[u.o]⟩
     case measure=>simp[intOf];omega
  ·have C:decide ((k:Int)<(s.size:Int))=false:=by simp;omega
   have g:s.data.toList.take k=s.data.toList:=Aap (by omega);rw[g]at d|-;have A:Hid (crc s.data.toList=4294967295-F9 s.data.toList):=by
    show _=_;unfold crc;exact xM _ d
   generalize F9 s.data.toList=r at*;clear g h;go_wp2;go_ret;refine⟨?_,rfl⟩;rw[A.o,show((4294967295-r:Nat):Int)=4294967295-(r:Int)from by omega];rfl
namespace Hm
def Ae(l:List Bool):Aeg:=l.map fun b=>if b then 49 else 48
end Hm
theorem Tt(l:Aeg)(b:UInt8):(⟨l.toArray⟩:ByteArray)++⟨#[b]⟩=⟨(l++[b]).toArray⟩:=by
 apply Acj;simp[ByteArray.data_append]
theorem Uk(n k:Nat)(w:World)(hk:k<=60)(hn:n<=1000000):Calls prog 85 #[.int .i64 n,.int .i64 k] w fun e w'=>e= .returned (.string ⟨(Ae (A7 n k)).toArray⟩)/\w'=w:=by
 go_enter func85,ntmps85
 go_wp2
 go_loop [0,5,6] (fun x s i=> ∃j:Nat,j<=k/\i=I j/\x=I ((n/2^j:Nat):Int)/\s= .string ⟨(Ae (A7 n j)).toArray⟩) (fun _ _ i=>k-(intOf i).toNat)
 case atStart=>exact⟨0,zZ _,rfl,by simp,rfl⟩
 case round=>
  obtain⟨j,u,rfl,rfl,rfl⟩:=hrel;have t:n/2^j<=1000000:=Aaf (Acd _ _) hn;have g:Hid (n/2^(j+1)=n/2^j/2):=by show _=_;rw[Abl,Ady]
  have f:(Ae (A7 n j)).length=j:=by simp[Ae,Dx]
  have r: ¬9223372036854775807<(Ae (A7 n j)).length+1:=by omega
  clear f
  by_cases q:j<k
  ·have b:decide ((j:Int)<(k:Int))=true:=by simp;omega
   generalize a:n/2^j=y at*
   by_cases hb:y%2=1
   ·have c:(y:Int)%2=1:=by omega
    have HS:Hid (Ae (A7 n (j+1))=Ae (A7 n j)++[49]):=by
     show _=_;rw[Qi,a,Ae,Abt];simp[Ae,hb]
    have p:=hZ a;clear a;generalize Ae (A7 n j)=l at*;go_wp2
    go_round
    case rel=>exact⟨j+1,by omega,by go_num,by rw[g.o];go_num,by rw[HS.o,Tt]⟩
    case measure=>simp[intOf];omega
   ·have c:((y:Int)%2==1)=false:=by rw[Aat];omega
    have HS:Hid (Ae (A7 n (j+1))=Ae (A7 n j)++[48]):=by
     show _=_;rw[Qi,a,Ae,Abt];simp[Ae,hb]
    have p:=hZ a;clear a;generalize Ae (A7 n j)=l at*;go_wp2
    go_round
    case rel=>exact⟨j+1,by omega,by go_num,by rw[g.o];go_num,by rw[HS.o,Tt]⟩
    case measure=>simp[intOf];omega
  ·have b:decide ((j:Int)<(k:Int))=false:=by simp;omega
   have d:j=k:=by omega
   subst d;generalize n/2^j=y at*;generalize h:Ae (A7 n j)=l at*;have m:=hZ h;clear h;go_wp2;go_ret;exact⟨by rw[m.o];rfl,rfl⟩
namespace Hm
def Lj(n k j:Nat):Aeg:=leBytes n j++List.replicate (k-j) 0
theorem uU(n k j:Nat)(h:j<k):Lj n k (j+1)=(Lj n k j).set j (UInt8.ofNat (n/256^j)):=by
 unfold Lj;rw[Aba _ _ (by rw[Cp];omega),Cp,Abd,show k-j=(k-(j+1))+1 from by omega,Abx (n:=k-(j+1)),leBytes,Aaj];rfl
end Hm
theorem Sa(m:Nat):(madeCells (Value.int .u8 0).cells (m*1)).toList=Ag (List.replicate m 0):=by
 rw[Acw,show(Value.int .u8 0).cells= #[Value.int .u8 0]from rfl,Ac4];simp[Ag]
theorem G3(n k:Nat)(w:World)(hk:k<=8)(E:1<=k)(hn:n<=4294967296):Calls prog 41 #[.int .i64 n,.int .i64 k] w fun e w'=>e= .returned (.string ⟨(Hm.leBytes n k).toArray⟩)/\Aee w w':=by
 obtain⟨G,hi,s,t,u⟩:=Aa6 Ft
 go_enter func41,ntmps41
 go_wp2_with(at_make;refine Abv _ rfl (.tmp 7) (.tmp 7) 79 rfl w.heap.size 5 G (.int .u8 0) 1 underlying79 hi s t .i64 .i64 _ _ k rfl rfl (by omega) (by omega) (by rw[u];omega) (by unfold maxLen;omega) (zK _) ?_;intro w2 h d)
 have m:w2.ownsRow w.heap.size 5 1 (S0 w.heap.size k k) k (Ag (Lj n k 0)):=by
  have e:Lj n k 0=List.replicate k 0:=by simp[Lj,Hm.leBytes]
  rw[e,<-Sa];exact h
 have a:Aee w w2:=(Aa.refl _ _).grown d (fun k hk=>by cases hk);clear h d
 go_loopw[0,6] (fun x i wr=> ∃j:Nat,j<=k/\i=I j/\x=I ((n/256^j:Nat):Int)/\wr.ownsRow w.heap.size 5 1 (S0 w.heap.size k k) k (Ag (Lj n k j))/\Aee w wr) (fun _ i _=>k-(intOf i).toNat)
 case atStart=>exact⟨0,zZ _,rfl,by simp,m,a⟩
 case round=>
  clear m a;obtain⟨j,K,rfl,rfl,b,f⟩:=hrel;have F:n/256^j<=4294967296:=Aaf (Acd _ _) hn;have v:Hid (n/256^(j+1)=n/256^j/256):=by show _=_;rw[Abl,Ady]
  have g:(Lj n k j).length=k:=by simp[Lj,Cp];omega
  by_cases r:j<k
  ·have c:decide ((j:Int)<(k:Int))=true:=by simp;omega
   have D:wr.cell? (J w.heap.size j)=some (.int .u8 ((Lj n k j)[j]'(by omega)).toNat):=by
    rw[b.cellAt j (by omega)];simp only[Ag,Aah,zH (show j<(Lj n k j).length by omega)];rfl
   have H:wr.frozen? (J w.heap.size j)=false:=b.frozenAt _;have HS:=(b.stored j (.int .u8 ((n/256^j%256:Nat):Nat))).1;have A:Hid ((wr.setCell (J w.heap.size j) (.int .u8 ((n/256^j%256:Nat):Nat))).ownsRow w.heap.size 5 1 (S0 w.heap.size k k) k (Ag (Lj n k (j+1)))):=by
    show World.ownsRow _ _ _ _ _ _ _;rw[uU _ _ _ r];have C:Ag ((Lj n k j).set j (UInt8.ofNat (n/256^j)))=(Ag (Lj n k j)).set j (.int .u8 ((n/256^j%256:Nat):Nat)):=by
     rw[Ag,Ace,Aax];rfl
    rw[C];exact HS
   generalize((Lj n k j)[j]'(by omega)).toNat=old at D;clear HS b g;generalize n/256^j=y at*;go_wp2;go_roundw
   case rel=>exact⟨j+1,by omega,by go_num,by rw[v.o];go_num,by simpa using A.o,f.setCell (.inl (zK _)) _⟩
   case measure=>simp[intOf];omega
  ·have c:decide ((j:Int)<(k:Int))=false:=by simp;omega
   have q:j=k:=by omega
   subst q;have p:=Ho b;have e:Lj n j j=Hm.leBytes n j:=by simp[Lj]
   rw[e]at p;clear b g v e;generalize n/256^j=y at*;generalize z:Hm.leBytes n j=l at*;have B:=hZ z;clear z;go_wp2;go_ret;exact⟨by rw[B.o];rfl,f⟩
theorem Zf: ∀(a b:Aeg),Op.bytesLess a b=!(Op.bytesLess b a||b==a)
 |[],[]=>rfl
 |[],b::y=>rfl
 |a::x,[]=>rfl
 |a::x,b::y=>by
  have d:=Zf x y;simp only[Op.bytesLess,List.cons_beq_cons];rcases Aa7 a.toNat b.toNat with h|h|h
  ·have h1:=UInt8.lt_iff_toNat_lt.2 h;have h2: ¬b<a:=fun e=>by have:=UInt8.lt_iff_toNat_lt.1 e;omega
   have c:(b==a)=false:=by rw[Aat];rintro rfl;omega
   simp[h1,h2,c]
  ·have h1:=UInt8.toNat_inj.1 h;subst h1;have h2: ¬a<a:=fun e=>by have:=UInt8.lt_iff_toNat_lt.1 e;omega
   simp[h2,d]
  ·have h1:=UInt8.lt_iff_toNat_lt.2 h;have h2: ¬a<b:=fun e=>by have:=UInt8.lt_iff_toNat_lt.1 e;omega
   have c:(a==b)=false:=by rw[Aat];rintro rfl;omega
   simp[h1,h2,c]
theorem uV(a:ByteArray)(h:a.size≠0):leB a ⟨#[]⟩=false:=by
 have b:a.data.toList.length=a.size:=by simp
 unfold leB;rw[Aa2,Aa2];cases e:a.data.toList with
 |nil=>rw[e]at b;simp at b;omega
 |cons x l=>rfl
theorem lF(S:Aej)(c:Nat)(fs:Aef)(w:World)(L:Az w S fs)(hl:fs.length<=140737488355328)(N: ∀f∈fs,f.1.size<=140737488355328/\f.2.size<=140737488355328):
  Calls prog 38 #[.slice S fs.length c] w fun e w'=>e= .returned (.int .i64 (Bu fs))/\Aee w w':=by
 by_cases F:40<fs.length
 ·clear L
  go_enter func38,ntmps38
  go_wp2;go_ret;exact⟨Fe (by rw[Bu,if_pos F]),Aa.refl _ _⟩
 have y:Hid (Bu fs=I3 ⟨#[]⟩ 0 (fs.drop 0)):=by rw[Bu,if_neg F];rfl
 generalize Bu fs=E at y|-
 go_enter func38,ntmps38
 go_wp2
 go_loopw[3,4] (fun t i wr=> ∃(k:Nat) (j:Nat) (ah:ByteArray),k<=fs.length/\i=I k/\t=I j/\j<=3000*k/\E=I3 ah j (fs.drop k)/\(ah=if k=0 then⟨#[]⟩else(fs.getD (k-1) (⟨#[]⟩,⟨#[]⟩)).1)/\Aee w wr) (fun _ i _=>fs.length-(intOf i).toNat)
 case atStart=>exact⟨0,0,_,zZ _,rfl,rfl,by omega,y.o,rfl,Aa.refl _ _⟩
 case round=>
  clear y;obtain⟨k,j,ah,hk,rfl,rfl,ht,U,u,g⟩:=hrel;have y:=hZ U;clear U
  by_cases x:k<fs.length
  ·obtain⟨b,o,z,aa,P,Q⟩:=(L.kept g (fun a Z=>id)) k x;obtain⟨ae,af⟩:=N fs[k] (z6 _);have B:=hZ (y.o.trans (Yf fs k x ah j));have M:(fs.getD (k+1-1) (⟨#[]⟩,⟨#[]⟩)).1=fs[k].1:=by rw[Acn,zG,zH x];rfl
   have C:Hid (fs[k].1=if k+1=0 then⟨#[]⟩else(fs.getD (k+1-1) (⟨#[]⟩,⟨#[]⟩)).1):=by show _=_;rw[iN,M]
   have K:decide ((k:Int)<(fs.length:Int))=true:=by simp;omega
   have m: ∀r,k=r+1->wr.cell? (J b (o+r*2))=some (.string ah):=by
    intro r ab;obtain⟨b',o',G,_,v,_⟩:=(L.kept g (fun a Z=>id)) r (by omega);rw[G]at z;cases z;rw[v,u,iN,show k-1=r from by omega,zG,zH (by omega)];rfl
   have s:k=0->ah=⟨#[]⟩:=fun e=>by rw[u,if_pos e]
   generalize fs[k].1=nm at*;generalize fs[k].2=ct at*;subst z;clear L y N u M
   by_cases b1:nm.size=0\/32<nm.size
   ·have q:Hid (E=2):=by show _=_;rw[B.o,cV b1];rfl
    clear m s;rcases b1 with b1|b1
    ·have v:decide (nm.size<1)=true:=zJ (by omega);have H:decide ((nm.size:Int)<1)=true:=zJ (by omega);go_wp2;go_ret;exact⟨Fe q.o.symm,g⟩
    ·have v:decide (nm.size<1)=false:=zM (by omega);have H:decide ((nm.size:Int)<1)=false:=zM (by omega);have R:decide (32<(nm.size:Int))=true:=zJ (by omega);go_wp2;go_ret;exact⟨Fe q.o.symm,g⟩
   ·have v:decide (nm.size<1)=false:=zM (by omega);have H:decide ((nm.size:Int)<1)=false:=zM (by omega);have R:decide (32<(nm.size:Int))=false:=zM (by omega);cases k with
    |zero=>
     simp only[Nat.zero_mul,Ac2]at P Q;have X:(0:Int)<(fs.length:Int):=by omega
     have Y:=zJ x;have d:leB nm ah=false:=by rw[s rfl];exact uV nm (by omega)
     clear m s
     by_cases n:3000<ct.size
     ·have q:Hid (E=4):=by
       show _=_;have l:Dd nm ct ah=4:=by rw[Dd,if_neg b1,d,if_neg (show¬(false=true) by decide),if_pos n]
       rw[B.o,l];rfl
      have A:decide (3000<(ct.size:Int))=true:=zJ (by omega);go_wp2
      go_region
      go_wp2;go_ret;exact⟨Fe q.o.symm,g.drew⟩
     ·have q:Hid (E=I3 nm (j+ct.size) (fs.drop (0+1))):=by
       show _=_;have l:Dd nm ct ah=0:=by rw[Dd,if_neg b1,d,if_neg (show¬(false=true) by decide),if_neg n]
       rw[B.o,if_pos l]
      have A:decide (3000<(ct.size:Int))=false:=zM (by omega);go_wp2
      go_region
      go_wp2;go_roundw
      case rel=>exact⟨1,j+ct.size,nm,by omega,by go_num,by go_num,by omega,q.o,C.o,g.drew⟩
      case measure=>simp[intOf];omega
    |succ r=>
     have ad:=m r rfl;clear m s;have V:r<=140737488355328:=by omega
     have ac:(r:Int)+1<(fs.length:Int):=by omega
     have W:(r:Int)<(fs.length:Int):=by omega
     by_cases p:leB nm ah=true
     ·have q:Hid (E=3):=by
       show _=_;have l:Dd nm ct ah=3:=by rw[Dd,if_neg b1,p,if_pos rfl]
       rw[B.o,l];rfl
      have O:Op.bytesLess ah.toList nm.toList=false:=by
       rw[Zf];unfold leB at p;rw[p];rfl
      clear p;go_wp2
      go_region
      go_wp2;go_ret;exact⟨Fe q.o.symm,g.drew⟩
     ·have d:leB nm ah=false:=by simpa using p
      have O:Op.bytesLess ah.toList nm.toList=true:=by
       rw[Zf];unfold leB at d;rw[d];rfl
      clear p
      by_cases n:3000<ct.size
      ·have q:Hid (E=4):=by
        show _=_;have l:Dd nm ct ah=4:=by rw[Dd,if_neg b1,d,if_neg (show¬(false=true) by decide),if_pos n]
        rw[B.o,l];rfl
       have A:decide (3000<(ct.size:Int))=true:=zJ (by omega);clear d;go_wp2
       go_region
       go_wp2;go_ret;exact⟨Fe q.o.symm,g.drew⟩
      ·have q:Hid (E=I3 nm (j+ct.size) (fs.drop (r+1+1))):=by
        show _=_;have l:Dd nm ct ah=0:=by rw[Dd,if_neg b1,d,if_neg (show¬(false=true) by decide),if_neg n]
        rw[B.o,if_pos l]
       have A:decide (3000<(ct.size:Int))=false:=zM (by omega);clear d;go_wp2
       go_region
       go_wp2;go_roundw
       case rel=>exact⟨r+1+1,j+ct.size,nm,by omega,by go_num,by go_num,by omega,q.o,C.o,g.drew⟩
       case measure=>simp[intOf];omega
  ·obtain rfl:k=fs.length:=by omega
   have D:Hid (E=if 6000<j then 5 else 0):=by have h:=y.o;rw[Ab7]at h;exact h
   have K:decide ((fs.length:Int)<(fs.length:Int))=false:=by simp
   clear y L u
   by_cases T:6000<j
   ·go_wp2;go_ret;exact⟨Fe (by rw[D.o,if_pos T]),g⟩
   ·go_wp2;go_ret;exact⟨Fe (by rw[D.o,if_neg T]),g⟩
namespace Hm
def G6(fs:Aef):Aeg:=fs.flatMap fun f=>f.2.data.toList
theorem Wh(fs:Aef)(k:Nat)(h:k<fs.length):G6 (fs.take (k+1))=G6 (fs.take k)++fs[k].2.data.toList:=by
 rw[zQ h];unfold G6;rw[Abo];congr 1;simp
theorem bC(fs:Aef)(M:Nat)(h: ∀f∈fs,f.2.size<=M): ∀k,k<=fs.length->(G6 (fs.take k)).length<=M*k
 |0,_=>by simp[G6]
 |k+1,hk=>by
  have b:=bC fs M h k (by omega);have h2:=h fs[k] (z6 _);have a:fs[k].2.data.toList.length=fs[k].2.size:=by simp
  rw[Wh fs k (by omega),zL,Nat.mul_succ];omega
end Hm
theorem yR(l:Aeg)(s:ByteArray):(⟨l.toArray⟩:ByteArray)++s=⟨(l++s.data.toList).toArray⟩:=by
 apply Acj;simp[ByteArray.data_append]
theorem oE(q:Aej)(c:Nat)(fs:Aef)(w:World)(m:Az w q fs)(A:fs.length<=40)(a: ∀f∈fs,f.2.size<=3000):
  Calls prog 39 #[.slice q fs.length c] w fun e w'=>e= .returned (.string ⟨(G6 fs).toArray⟩)/\w'=w:=by
 go_enter func39,ntmps39
 go_wp2
 go_loop [3,4] (fun t i=> ∃k:Nat,k<=fs.length/\i=I k/\t= .string ⟨(G6 (fs.take k)).toArray⟩) (fun _ i=>fs.length-(intOf i).toNat)
 case atStart=>exact⟨0,zZ _,rfl,rfl⟩
 case round=>
  obtain⟨k,hk,rfl,rfl⟩:=hrel;have p:=bC fs 3000 a k hk
  by_cases h:k<fs.length
  ·obtain⟨b,o,j,u,v,x⟩:=m k h;have y:=a fs[k] (z6 _);have s:=hZ (Wh fs k h);have d:=(dT k fs.length).2;generalize fs[k].2=ct at*;subst j;clear m a;have z: ¬9223372036854775807<(G6 (fs.take k)).length+ct.size:=by omega
   generalize G6 (fs.take k)=l at*;go_wp2
   go_round
   case rel=>exact⟨k+1,by omega,by go_num,by rw[s.o,yR]⟩
   case measure=>simp[intOf];omega
  ·have n:k=fs.length:=by omega
   subst n;have d:decide ((fs.length:Int)<(fs.length:Int))=false:=by simp
   rw[Aaw];generalize g:G6 fs=l at*;have r:=hZ g;clear g m a p;go_wp2;go_ret;exact⟨by rw[r.o];rfl,rfl⟩
namespace Hm
theorem fD(f:Nat->Bool)(j:Nat)(a:j<8)(h:f j=false):Ky f+2^j=Ky (fun k=>if k=j then true else f k):=by
 unfold Ky
 match j,a with
 |0,_=>simp[h];omega
 |1,_=>simp[h];omega
 |2,_=>simp[h];omega
 |3,_=>simp[h];omega
 |4,_=>simp[h];omega
 |5,_=>simp[h];omega
 |6,_=>simp[h];omega
 |7,_=>simp[h]
theorem lG(bits:List Bool)(k:Nat)(h:k<bits.length)(a:bits.getD k false=false):Ah (bits.set k true)=(Ah bits).set (k/8) (UInt8.ofNat (Gm bits (k/8)+2^(k%8))):=by
 rw[Us bits k h];congr 2;rw[Gm,iG _ _ (by omega),fD _ _ (by omega) (by rw[show 8*(k/8)+k%8=k from by omega];exact a)]
theorem lH(bits:List Bool)(k:Nat)(a:bits.getD k false=false):Gm bits (k/8)+2^(k%8)<256:=by
 rw[Gm,fD _ _ (by omega) (by rw[show 8*(k/8)+k%8=k from by omega];exact a)];exact iF _
def D6(bits:List Bool)(k:Nat):List Bool:=bits.take k++List.replicate (bits.length-k) false
theorem lI(bits:List Bool)(k:Nat)(h:k<=bits.length):(D6 bits k).length=bits.length:=by simp[D6];omega
theorem fE(bits:List Bool)(k:Nat)(h:k<=bits.length):(D6 bits k).getD k false=false:=by
 unfold D6;rw[zG,z7 (by simp;omega),Ada];split<;>rfl
theorem bD(bits:List Bool)(k:Nat)(h:k<bits.length):D6 bits (k+1)=(D6 bits k).set k bits[k]:=by
 unfold D6;have a:(bits.take k).length=k:=by simp;omega
 rw[Aba _ _ (by omega),a,Abd,show bits.length-k=(bits.length-(k+1))+1 from by omega,Abx,zQ h,Aaj];rfl
theorem sB(bits:List Bool)(k:Nat)(h:k<bits.length)(a:bits[k]=false):D6 bits (k+1)=D6 bits k:=by
 rw[bD bits k h,a];apply Aa1
 ·simp
 ·intro i h1 h2;rw[Ac5];split
  ·rename_i e;have:=fE bits k (by omega);subst e;rw[zG,zH h2]at this;simpa using this.symm
  ·rfl
theorem sC(bits:List Bool):Ah (D6 bits 0)=List.replicate ((bits.length+7)/8) 0:=by
 have e:D6 bits 0=[]++List.replicate bits.length false:=by simp[D6]
 rw[e,T3];simp[Ah]
theorem uW(bits:List Bool):D6 bits bits.length=bits:=by simp[D6]
end Hm
theorem Pp(bits:List Bool)(w:World)(hl:bits.length<=100000000):Calls prog 42 #[.string ⟨(Ae bits).toArray⟩] w fun e w'=>e= .returned (.string ⟨(Ah bits).toArray⟩)/\Aee w w':=by
 obtain⟨Z,hi,K,L,A⟩:=Aa6 Ft;obtain⟨s,hs⟩:=gx (⟨(Ae bits).toArray⟩:ByteArray);have x:s.size=bits.length:=by rw[hs];show(Ae bits).toArray.size=_;simp[Ae]
 have c: ∀k,(h:k<s.size)->(h2:k<bits.length)->s[k]=if bits[k]then 49 else 48:=fun k h h2=>by
  subst hs;show(Ae bits).toArray[k]'_=_;simp[Ae]
 rw[<-hs];have HS:=aZ x;have B:Aside _:=c;have X:s.size<=100000000:=by omega
 clear c hs x
 go_enter func42,ntmps42
 go_wp2_with(at_make;refine Abv _ rfl (.tmp 8) (.tmp 8) 79 rfl w.heap.size 5 Z (.int .u8 0) 1 underlying79 hi K L .i64 .i64 _ _ ((s.size+7)/8) rfl rfl (by omega) (by omega) (by rw[A];omega) (by unfold maxLen;omega) (zK _) ?_;intro w2 r n)
 have u:w2.ownsRow w.heap.size 5 1 (S0 w.heap.size ((s.size+7)/8) ((s.size+7)/8)) ((s.size+7)/8) (Ag (Ah (D6 bits 0))):=by
  rw[sC,<-HS.o,<-Sa];exact r
 have p:Aee w w2:=(Aa.refl _ _).grown n (fun k hk=>by cases hk);clear r n
 go_loopw[4] (fun i wr=> ∃k:Nat,k<=s.size/\i=I k/\wr.ownsRow w.heap.size 5 1 (S0 w.heap.size ((s.size+7)/8) ((s.size+7)/8)) ((s.size+7)/8) (Ag (Ah (D6 bits k)))/\Aee w wr) (fun i _=>s.size-(intOf i).toNat)
 case atStart=>exact⟨0,zZ _,rfl,u,p⟩
 case round=>
  clear u p;obtain⟨k,hk,rfl,b,g⟩:=hrel
  by_cases F:k<s.size
  ·have m:=(dT k s.size).2;have f:k<bits.length:=by have:=HS.o;omega
   have v:=B.o k F f
   by_cases hb:bits[k]=true
   ·rw[if_pos hb]at v;have t:=lI bits k (by omega);have D:=fE bits k (by omega);have d:=lH (D6 bits k) k D;have S:=Sw (D6 bits k) (k/8);have T:wr.cell? (J w.heap.size (k/8))=some (.int .u8 (Gm (D6 bits k) (k/8):Nat)):=by
     rw[b.cellAt (k/8) (by omega)];simp only[Ag,Aah];rw[zH (by rw[A8,t];omega),Hv];simp;omega
    have U:wr.frozen? (J w.heap.size (k/8))=false:=b.frozenAt _;have j:=(b.stored (k/8) (.int .u8 ((Gm (D6 bits k) (k/8)+2^(k%8):Nat):Int))).1;have M:Ah (D6 bits (k+1))=(Ah (D6 bits k)).set (k/8) (UInt8.ofNat (Gm (D6 bits k) (k/8)+2^(k%8))):=by
     rw[bD _ _ f,hb];exact lG _ _ (by omega) D
    have N:Ag ((Ah (D6 bits k)).set (k/8) (UInt8.ofNat (Gm (D6 bits k) (k/8)+2^(k%8))))=(Ag (Ah (D6 bits k))).set (k/8) (.int .u8 ((Gm (D6 bits k) (k/8)+2^(k%8):Nat):Int)):=by
     rw[Ag,Ace,U2 d];rfl
    have C:Hid ((wr.setCell (J w.heap.size (k/8)) (.int .u8 ((Gm (D6 bits k) (k/8)+2^(k%8):Nat):Int))).ownsRow w.heap.size 5 1 (S0 w.heap.size ((s.size+7)/8) ((s.size+7)/8)) ((s.size+7)/8) (Ag (Ah (D6 bits (k+1))))):=by
     show World.ownsRow _ _ _ _ _ _ _;rw[M,N];exact j
    have W:2^(k%8)<256:=Nat.pow_lt_pow_right (a:=2) (by omega) (by omega:k%8<8);generalize Gm (D6 bits k) (k/8)=y at*;have G:((2:Int)^(k%8))=((2^(k%8):Nat):Int):=by simp
    obtain⟨z,O⟩:=gx (2^(k%8));rw[<-O]at C G d W;have A:IntKind.u8.wrap ((y:Int)+(z:Int))=(y:Int)+(z:Int):=by rw[IntKind.wrap_u8];omega
    have P:Hid ((wr.setCell (J w.heap.size (k/8)) (.int .u8 ((y:Int)+(z:Int)))).ownsRow w.heap.size 5 1 (S0 w.heap.size ((s.size+7)/8) ((s.size+7)/8)) ((s.size+7)/8) (Ag (Ah (D6 bits (k+1))))):=by
     have:=C.o;rw[show((y+z:Nat):Int)=(y:Int)+(z:Int)from by omega]at this;exact this
    have V:(k:Int)/8<((s.size:Int)+7)/8:=by omega
    have Y:(z:Int)%256=(z:Int):=by omega
    clear j b t D M N hb C B O;go_wp2_with fail
    go_region
    go_wp2;go_roundw
    case rel=>exact⟨k+1,by omega,by go_num,P.o,(g.setCell (.inl (zK _)) _).drew⟩
    case measure=>simp[intOf];omega
   ·have l:bits[k]=false:=by simpa using hb
    rw[if_neg hb]at v;rw[<-sB bits k f l]at b;have R:=hZ b;clear b hb l B;go_wp2;go_roundw
    case rel=>exact⟨k+1,by omega,by go_num,R.o,g⟩
    case measure=>simp[intOf];omega
  ·obtain rfl:k=s.size:=by omega
   have m:=(dF s.size s.size).2;rw[HS.o,uW,<-HS.o]at b;have E:=Ho b;obtain⟨q,H⟩:=gx (⟨(Ah bits).toArray⟩:ByteArray);rw[<-H]at E;have Q:=aZ H;clear b B H;go_wp2;go_ret;exact⟨by rw[Q.o];rfl,g⟩
end
end Go.Proofs.YtegnkfdbmmndaaaGreat
