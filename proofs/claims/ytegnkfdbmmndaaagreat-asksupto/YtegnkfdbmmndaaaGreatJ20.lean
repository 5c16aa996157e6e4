import Derived.Test.YtegnkfdbmmndaaaGreatJ19

set_option maxHeartbeats 8000000
namespace Go.Proofs.YtegnkfdbmmndaaaGreat
open Hm Go.Proofs.Tryz Go.RowKit
namespace Hm
def N0(s:Arc)(st:Rd):Rd:=if(B5 st 4).2=some []∧(B5 st 4).1=crc (s.take (s.length-4))then some []else none
end Hm
set_option maxRecDepth 20000 in
theorem Ajt(p:Nat)(st:Hm.Rd)(s:Arc)(w:World)(hr:Ax w p st)(N:Bj st≤4611686018427387904)(hs:(B5 st 4).2=some []→4≤s.length∧s.length≤1000000)(an:s.length≤4611686018427387904):
  Calls prog 72 #[.pointer (some ⟨p,0,none⟩),.string ⟨s.toArray⟩] w fun e w'=>e= .returned (.tuple #[])∧Ax w' p (N0 s st)∧Aa (fun j=>j=p) w w':=by
 have t:=Kt p st 4 w hr N (by omega);have E:=Ho st 4;have f:Hid (N0 s st=if(B5 st 4).2=some []∧(B5 st 4).1=Hm.crc (s.take (s.length-4))then some []else none):=rfl;obtain⟨x,hx⟩: ∃x,x=(B5 st 4).1:=⟨_,rfl⟩;obtain⟨s1,G⟩: ∃x,x=(B5 st 4).2:=⟨_,rfl⟩;rw[←hx,←G]at t f;rw[←hx]at E;rw[←G]at hs;have ag:x<4294967296:=by simpa using E
 obtain⟨S,L⟩: ∃S,S=(⟨s.toArray⟩:ByteArray):=⟨_,rfl⟩;have hz:S.size=s.length:=by rw[L];show s.toArray.size=_;simp
 rw[←L];have hp:=hr.lt;clear hx G E hr N
 by_cases h1:s1=some []
 ·subst h1;obtain⟨h4,hm⟩:=hs rfl;obtain⟨q,hq⟩: ∃q,q=s.length-4:=⟨_,rfl⟩;have zq:(s.length:Int)-4=(q:Int):=by omega
  have am:q≤s.length:=by omega
  obtain⟨B,V⟩: ∃B,B=S.extract 0 q:=⟨_,rfl⟩;have A:B.data.toList=s.take q:=by rw[V,L,extract_toArray];simp
  have K:B.size=q:=by
   have h:B.data.toList.length=B.size:=by simp
   rw[←h,A];simp;omega
  have C:=fun W=>Lib.run_convert_string_bytes (P:=prog) W 9 79 5 B underlying9 underlying79 underlying5;rw[K]at C;have J:Hid (∀W cp,Calls prog 106 #[.slice (some ⟨W.heap.size,0,none⟩) q cp] (Lib.bytesWorld W 5 B) fun e w'=>e= .returned (.int .u32 (Hm.crc (s.take q):Nat))∧w'=Lib.bytesWorld W 5 B):=fun W cp=>
   Ago W.heap.size 0 q cp (s.take q) (Lib.bytesWorld W 5 B) (by simp;omega) (by omega) (fun j hj=>by rw[An3,Lib.bytesWorld_cell W 5 B j (by omega),A])
  have I:Hid (∀W,Ara W (Lib.bytesWorld W 5 B)):=fun W=>⟨rfl,rfl,rfl,by rw[Lib.bytesWorld_size];omega,fun k hk _=>Lib.bytesWorld_at_old W _ B k hk⟩;have al:=To (s.take q);rw[←hq]at f;have aj:S.extract 0 q=B:=V.symm;have ao:IntKind.u32.wrap (x:Int)=(x:Int):=by simp[IntKind.wrap,IntKind.signed,IntKind.bits];omega
  have n:=fun W b (h:Ax W p (some []))=>Ik p (some []) b W h;have c:Hid _:=n;clear V A K hq hs h4 n L;generalize Hm.crc (s.take q)=cr at*
  go_enter func72,ntmps72
  go_wp2_with fail;refine t.mono ?_;rintro e w1 ⟨rfl,a,g⟩;have c0:=a.rest;have e0:(⟨((some []:Hm.Rd).getD []).toArray⟩:ByteArray)=⟨#[]⟩:=rfl;rw[e0]at c0;have m:=c.o w1 true a;have U:Hid (Aa (fun j=>j=p) w w1):=g;clear t a g;go_wp2_with fail;refine m.mono ?_;rintro e w2 ⟨rfl,d,i⟩;have u:Ax w2 p (some []):=d;have c1:=u.bad;have b1:(some []:Hm.Rd).isNone=false:=rfl;rw[b1]at c1;have H:Hid (Aa (fun j=>j=p) w w2∧Ax w2 p (some [])):=⟨U.o.trans i (fun _ _ h=>h),u⟩;have M:=C w2;have T:=J.o w2 (grownCap w2 q 0 5);have D:=I.o w2;generalize grownCap w2 q 0 5=cp at*;generalize Lib.bytesWorld w2 5 B=W2 at*;clear m d u i C J I;go_wp2_with fail;try rw[M]
  go_wp2_with fail;refine T.mono ?_;rintro e w3 ⟨rfl,rfl⟩;clear T;have Q:=H.o.2.kept D id;have H3:Hid (Aa (fun j=>j=p) w w3):=H.o.1.trans D (fun _ _ h=>h.elim);have O:=c.o w3 (decide (x=cr)) Q;have z:Hid (Da (some []) (decide (x=cr))=N0 s st):=by
   show _=_;rw[f.o]
   by_cases y:x=cr
   ·rw[if_pos (by simp[y]),Ana y];rfl
   ·rw[if_neg (by simp[y]),Anc y];rfl
  have ak:((x:Int)==(cr:Int))=decide (x=cr):=by rw[Bool.eq_iff_iff];simp;omega
  rw[z.o]at O;clear Q H D M c;go_wp2_with fail;refine O.mono ?_;rintro e w4 ⟨rfl,ac,Z⟩;go_wp2_with fail
  go_end0
  exact⟨rfl,ac,H3.o.trans Z (fun _ _ h=>h)⟩
 ·have z:Hid (N0 s st=none):=by show _=_;rw[f.o,if_neg (fun h=>h1 h.1)]
  rw[z.o];obtain⟨r,F⟩: ∃r,r=s1.getD []:=⟨_,rfl⟩;obtain⟨R,X⟩: ∃R,R=(⟨r.toArray⟩:ByteArray):=⟨_,rfl⟩;have c:Hid (∀W,Ax W p s1→Calls prog 63 #[.pointer (some ⟨p,0,none⟩),.bool (R.toList.isEmpty)] W fun e w'=>e= .returned (.tuple #[])∧Ax w' p none∧Aa (fun j=>j=p) W w'):=fun W h=>by
   have h2:=Ik p s1 R.toList.isEmpty W h;have e:Da s1 R.toList.isEmpty=none:=by
    cases s1 with
    |none=>unfold Da;split<;>rfl
    |some l=>
     have hl:l≠[]:=fun hl=>h1 (by rw[hl]);have Y:R.toList=l:=by rw[X,F];simp[ByteArray.toList_eq]
     unfold Da;rw[if_neg (by rw[Y];simpa using hl)]
   rwa[e]at h2
  have HC:Hid (∀W,Ax W p s1→W.cell? ⟨p,0,none⟩=some (.string R)):=fun W h=>by rw[X,F];exact h.rest
  clear hs L X F h1 f
  go_enter func72,ntmps72
  go_wp2_with fail;refine t.mono ?_;rintro e w1 ⟨rfl,a,g⟩;have c0:=HC.o w1 a;have m:=c.o w1 a;have U:Hid (Aa (fun j=>j=p) w w1):=g;clear t a g c HC;go_wp2_with fail;refine m.mono ?_;rintro e w2 ⟨rfl,d,i⟩;have c1:=d.bad;have b1:(none:Hm.Rd).isNone=true:=rfl;rw[b1]at c1;have H:Hid (Aa (fun j=>j=p) w w2∧Ax w2 p none):=⟨U.o.trans i (fun _ _ h=>h),d⟩;clear m d i;go_wp2_with fail;exact Aok (v:= .tuple #[]) (results_none results72 _ _ _) rfl ⟨rfl,H.o.2,H.o.1⟩
namespace Hm
def Ha(s:Ard×Rd):Ard×Rd:=match (Bb s.2 2).2 with
 |some l=>(s.1.set ((Bb s.2 2).1.getD 0 0).toNat ((Bb s.2 2).1.getD 1 0).toNat,some l)
 |none=>(s.1,none)
def Bt(st:Rd):Nat→Ard×Rd
 |0=>(List.replicate 256 0,st)
 |k+1=>Ha (Bt st k)
theorem Yv(s:Ard×Rd):(Ha s).1.length=s.1.length:=by
 unfold Ha;split<;>simp
theorem Jo(st:Rd): ∀k,(Bt st k).1.length=256
 |0=>Ani
 |k+1=>by rw[Bt,Yv,Jo st k]
theorem Afa(s:Ard×Rd)(h:s.2=none):Ha s=(s.1,none):=by unfold Ha;rw[h];rfl
theorem Xg(st:Rd)(k:Nat)(h:(Bt st k).2=none): ∀d,Bt st (k+d)=((Bt st k).1,none)
 |0=>by rw[Ap3,←h]
 |d+1=>by rw[←Apj,Bt,Xg st k h d,Afa _ rfl]
theorem Ahu(s:Ard×Rd)(h: ∀x∈s.1,x≤255): ∀x∈(Ha s).1,x≤255:=by
 unfold Ha;split
 ·intro x a;rcases List.mem_or_eq_of_mem_set a with h1|h1
  ·exact h x h1
  ·rw[h1];have:=((Bb s.2 2).1.getD 1 0).toNat_lt;omega
 ·exact h
theorem Zw(st:Rd): ∀k,∀x∈(Bt st k).1,x≤255
 |0=>fun x a=>by rw[List.eq_of_mem_replicate (show x∈List.replicate 256 0 from a)];omega
 |k+1=>Ahu _ (Zw st k)
theorem P3(st:Rd): ∀k,Bj (Bt st k).2≤Bj st
 |0=>Ane _
 |k+1=>by
  have h1:=P3 st k;have h2:=Ed (Bt st k).2 2;rw[Bt];unfold Ha;cases a:(Bb (Bt st k).2 2).2 with
  |none=>simp[Bj]
  |some l=>rw[a]at h2;show Bj (some l)≤_;omega
end Hm
theorem Afb(p:Nat)(st:Hm.Rd)(w:World)(hr:Ax w p st)(R:Bj st≤4611686018427387904):
  Calls prog 70 #[.pointer (some ⟨p,0,none⟩)] w fun e w'=>e= .returned (.agg (Ad (Bt (B5 st 2).2 (B5 st 2).1).1).toArray)∧Ax w' p (Bt (B5 st 2).2 (B5 st 2).1).2∧Aa (fun j=>j=p) w w':=by
 have hp:=hr.lt;have P:=Ho st 2;have B:Bj (B5 st 2).2≤4611686018427387904:=Ant (Ed st 2) R;have N:Hid (∀W,Ax W p st→Calls prog 65 #[.pointer (some ⟨p,0,none⟩),.int .i64 ((2:Nat):Int)] W fun e w'=>e= .returned (.int .i64 ((B5 st 2).1:Nat))∧Ax w' p (B5 st 2).2∧Aa (fun j=>j=p) W w'):=fun W h=>Kt p st 2 W h R (by omega);obtain⟨K,hK⟩: ∃K,K=(B5 st 2).1:=⟨_,rfl⟩;obtain⟨s1,T⟩: ∃s,s=(B5 st 2).2:=⟨_,rfl⟩;rw[←hK,←T]at N⊢;rw[←hK]at P;rw[←T]at B;have HR:Hid (Ax w p st∧Bj s1≤4611686018427387904):=⟨hr,B⟩;have am:K<65536:=by simpa using P
 obtain⟨W0,C⟩: ∃W0,W0=(w.alloc (.cells Tryz.zeroCells139 139)).alloc (.cells Tryz.zeroCells139 139):=⟨_,rfl⟩;have O:Ara w W0:=by rw[C];exact((Aa.refl _ _).alloc _).alloc _
 have d:W0.heap[w.heap.size]?=some (.cells Tryz.zeroCells139 139 (0,0)):=by rw[C];exact Apb w _ _
 have a:W0.heap[w.heap.size+1]?=some (.cells (Ad (Bt s1 0).1).toArray 139 (0,0)):=by rw[C];have:=Apc w (.cells Tryz.zeroCells139 139) (.cells Tryz.zeroCells139 139);rw[this,Kb];rfl
 have aa:=N.o W0 (hr.kept O id);have H0:Hid (Ara w W0∧W0.heap[w.heap.size]?=some (.cells Tryz.zeroCells139 139 (0,0))∧W0.heap[w.heap.size+1]?=some (.cells (Ad (Bt s1 0).1).toArray 139 (0,0))):=⟨O,d,a⟩;have HW:Hid ((w.alloc (.cells Tryz.zeroCells139 139)).alloc (.cells Tryz.zeroCells139 139)=W0):=C.symm;clear O d a C hr R hK T N B P
 go_enter func70,ntmps70
 go_upto_region 2 with fail
 rw[HW.o];clear HW;go_wp2_with fail;refine aa.mono ?_;rintro e w1 ⟨rfl,ab,J⟩;have i:p≠w.heap.size:=by omega
 have u:p≠w.heap.size+1:=by omega
 have H1:Hid (Ax w1 p s1∧Aa (fun j=>j=p) w w1∧w1.heap[w.heap.size]?=some (.cells Tryz.zeroCells139 139 (0,0))∧w1.heap[w.heap.size+1]?=some (.cells (Ad (Bt s1 0).1).toArray 139 (0,0))):=
  ⟨ab,(H0.o.1.wider (fun _ _ h=>h.elim)).trans J (fun _ _ h=>h),J.row H0.o.2.1 (fun h=>i h.symm),J.row H0.o.2.2 (fun h=>u h.symm)⟩
 clear aa ab J H0;go_wp2_with fail
 go_loopw[7] (fun vi wr=> ∃k:Nat,k≤K∧vi= .int .i64 k∧Ax wr p (Bt s1 k).2∧Aa (fun j=>j=p) w wr∧wr.heap[w.heap.size]?=some (.cells Tryz.zeroCells139 139 (0,0))∧wr.heap[w.heap.size+1]?=some (.cells (Ad (Bt s1 k).1).toArray 139 (0,0))) (fun vi _=>K-(intOf vi).toNat)
 case atStart=>exact⟨0,by omega,rfl,H1.o.1,H1.o.2.1,H1.o.2.2.1,H1.o.2.2.2⟩
 case round=>
  obtain⟨k,hk,rfl,G,z,d,a⟩:=hrel
  by_cases aq:k<K
  ·have B:=P3 s1 k;have m:=Lg p (Bt s1 k).2 2 wr G (by have:=HR.o.2;omega) (by omega);have g:Bt s1 (k+1)=Ha (Bt s1 k):=rfl;unfold Ha at g;cases I:(Bb (Bt s1 k).2 2).2 with
   |none=>
    rw[I]at m g;have E:Bt s1 K=((Bt s1 k).1,none):=by
     have h1:=Xg s1 (k+1) (by rw[g]) (K-(k+1));rw[show k+1+(K-(k+1))=K from by omega]at h1;rw[h1,g]
    obtain⟨ARR,c⟩: ∃A,A=(Ad (Bt s1 k).1).toArray:=⟨_,rfl⟩;have n:Hid (ARR=(Ad (Bt s1 K).1).toArray):=by show _=_;rw[c,E]
    have HB:Hid ((Bt s1 K).2=none):=by show _=_;rw[E]
    rw[←c]at a;have H:Hid (wr.heap[w.heap.size]?=some (.cells Tryz.zeroCells139 139 (0,0))∧wr.heap[w.heap.size+1]?=some (.cells ARR 139 (0,0))∧Aa (fun j=>j=p) w wr):=⟨d,a,z⟩;clear I g E c d a z G B;generalize(Bb (Bt s1 k).2 2).1=tk at*;go_wp2_with fail;refine m.mono ?_;rintro e w2 ⟨rfl,q,f⟩;have c1:=q.bad;have b1:(none:Hm.Rd).isNone=true:=rfl;rw[b1]at c1;have r:Hid (Ax w2 p (Bt s1 K).2∧Aa (fun j=>j=p) w w2∧w2.heap[w.heap.size]?=some (.cells Tryz.zeroCells139 139 (0,0))∧w2.heap[w.heap.size+1]?=some (.cells ARR 139 (0,0))):=by
     refine⟨?_,H.o.2.2.trans f (fun _ _ h=>h),f.row H.o.1 (fun h=>i h.symm),f.row H.o.2.1 (fun h=>u h.symm)⟩;rw[HB.o];exact q
    clear m q f H b1;have b:ARR.size=256:=by rw[n.o,Bm,Jo]
    have D:ARR.all (·.oneCell')=true:=by rw[n.o];exact Fv _
    have V:Tryz.zeroCells139.size=ARR.size:=by rw[b,Kb,Bm,Ani]
    go_wp2_with(first
     |(refine Aoh rfl 139 _ rfl (w.heap.size+1) rfl 139 ARR (0,0) _ r.o.2.2.2 underlying139 rfl (by rw[b];exact Cf) ?_)
     |(refine wpList_store_row _ rfl 139 _ _ rfl w.heap.size 139 _ ARR rfl rfl r.o.2.2.1 (by rw[b];exact Cf) V D ?_;intro w9 U F))
    refine Aok (v:= .agg ARR) (Ao0 results70 _ w9 w.heap.size 139 ARR (0,0) _ rfl U underlying139 rfl (by rw[b];exact Cf)) rfl ⟨by rw[n.o],r.o.1.kept F (fun h=>i h),r.o.2.1.trans F (fun j h1 h2=>by omega)⟩
   |some l=>
    rw[I]at m g;have Q:(Bb (Bt s1 k).2 2).1.length=2:=by
     cases h2:(Bt s1 k).2 with
     |none=>rw[h2]at I;cases I
     |some l0=>
      rw[h2]at I
      by_cases h3:2≤l0.length
      ·rw[Gf h3];simp;omega
      ·rw[K6 h3]at I;cases I
    obtain⟨tk,M⟩: ∃t,t=(Bb (Bt s1 k).2 2).1:=⟨_,rfl⟩;rw[←M]at m g Q;obtain⟨x,y,ah⟩: ∃x y,tk=[x,y]:=by
     match tk,Q with
     |[x,y],_=>exact⟨x,y,rfl⟩
    subst ah;obtain⟨S,Y⟩: ∃S,S=(⟨[x,y].toArray⟩:ByteArray):=⟨_,rfl⟩;have ap:S.size=2:=by rw[Y];rfl
    have an:S[0]'(by omega)=x:=by subst Y;rfl
    have ao:S[1]'(by omega)=y:=by subst Y;rfl
    rw[←Y]at m;have X:Hid (Bt s1 (k+1)=((Bt s1 k).1.set x.toNat y.toNat,some l)):=g;have hL:=Jo s1 k;have ar:=x.toNat_lt;have H:Hid (wr.heap[w.heap.size]?=some (.cells Tryz.zeroCells139 139 (0,0))∧wr.heap[w.heap.size+1]?=some (.cells (Ad (Bt s1 k).1).toArray 139 (0,0))∧Aa (fun j=>j=p) w wr):=⟨d,a,z⟩;clear I g M d a z G B Q Y;generalize(Bt s1 k).1=L at*;go_wp2_with fail;refine m.mono ?_;rintro e w2 ⟨rfl,q,f⟩;have c1:=q.bad;have b1:(some l:Hm.Rd).isNone=false:=rfl;rw[b1]at c1;have a:=f.row H.o.2.1 (fun h=>u h.symm);have c2:w2.cell? ⟨w.heap.size+1,x.toNat,none⟩=some (.int .i64 ((L.getD x.toNat 0:Nat):Int)):=by
     rw[Am7 _ _ _ _ _ _ a];simp[Ad,List.getD_eq_getElem?_getD,List.getElem?_eq_getElem (show x.toNat<L.length from by omega)]
    have f2:w2.frozen? ⟨w.heap.size+1,x.toNat,none⟩=false:=Ang _ _ _ _ _ a;have r:Hid (Ax w2 p (some l)∧Aa (fun j=>j=p) w w2∧w2.heap[w.heap.size]?=some (.cells Tryz.zeroCells139 139 (0,0))∧w2.heap[w.heap.size+1]?=some (.cells (Ad L).toArray 139 (0,0))):=
     ⟨q,H.o.2.2.trans f (fun _ _ h=>h),f.row H.o.1 (fun h=>i h.symm),a⟩
    have ag:((x.toNat:Nat):Int)<256:=by omega
    clear m q f H b1 a;go_wp2_with fail
    go_region
    go_wp2_with fail;go_roundw
    case rel=>
     have af:wrap64 ((y.toNat:Nat):Int)=((y.toNat:Nat):Int):=by have:=y.toNat_lt;unfold wrap64;omega
     rw[af];have e3:(Ad L).toArray.setIfInBounds x.toNat (.int .i64 (y.toNat:Nat))=(Ad (L.set x.toNat y.toNat)).toArray:=by apply Api;simp[Ad,List.map_set]
     have Z:Aa (fun j=>j=w.heap.size+1) w2 (w2.setCell ⟨w.heap.size+1,x.toNat,none⟩ (.int .i64 (y.toNat:Nat))):=(Aa.refl (fun j=>j=w.heap.size+1) w2).setCell (p:=⟨w.heap.size+1,x.toNat,none⟩) (.inr rfl) _;refine⟨k+1,by omega,by go_num,?_,?_,?_,?_⟩
     ·rw[X.o];exact r.o.1.kept Z.drew (fun h=>u h)
     ·exact(r.o.2.1.setCell (p:=⟨w.heap.size+1,x.toNat,none⟩) (.inl (by show w.heap.size≤w.heap.size+1;omega)) _).drew
     ·exact Z.drew.row r.o.2.2.1 (fun h=>by omega)
     ·rw[X.o];show(w2.setCell _ _).heap[w.heap.size+1]?=_;rw[Anb _ _ x.toNat _ _ (.int .i64 (y.toNat:Nat)) r.o.2.2.2,e3]
    case measure=>simp[intOf];omega
  ·obtain rfl:k=K:=by omega
   obtain⟨ARR,c⟩: ∃A,A=(Ad (Bt s1 k).1).toArray:=⟨_,rfl⟩;have n:Hid (ARR=(Ad (Bt s1 k).1).toArray):=c;rw[←c]at a;have r:Hid (Ax wr p (Bt s1 k).2∧Aa (fun j=>j=p) w wr∧wr.heap[w.heap.size]?=some (.cells Tryz.zeroCells139 139 (0,0))∧wr.heap[w.heap.size+1]?=some (.cells ARR 139 (0,0))):=⟨G,z,d,a⟩;clear c d a z G;have b:ARR.size=256:=by rw[n.o,Bm,Jo]
   have D:ARR.all (·.oneCell')=true:=by rw[n.o];exact Fv _
   have V:Tryz.zeroCells139.size=ARR.size:=by rw[b,Kb,Bm,Ani]
   go_wp2_with(first
    |(refine Aoh rfl 139 _ rfl (w.heap.size+1) rfl 139 ARR (0,0) _ r.o.2.2.2 underlying139 rfl (by rw[b];exact Cf) ?_)
    |(refine wpList_store_row _ rfl 139 _ _ rfl w.heap.size 139 _ ARR rfl rfl r.o.2.2.1 (by rw[b];exact Cf) V D ?_;intro w9 U F))
   refine Aok (v:= .agg ARR) (Ao0 results70 _ w9 w.heap.size 139 ARR (0,0) _ rfl U underlying139 rfl (by rw[b];exact Cf)) rfl ⟨by rw[n.o],r.o.1.kept F (fun h=>i h),r.o.2.1.trans F (fun j h1 h2=>by omega)⟩
theorem Ahv{m n:Nat}: ¬Ga [] m n:=fun h=>by
 have h1:=h.fits;have h2:1≤Ak m n:=Ant (Nat.le_add_left 1 _) (Nat.le_add_left _ _);unfold Hm.szB at h1;simp at h1;omega
theorem Ahw(hones:Bd)(p:Nat)(st:Hm.Rd)(m n:Nat)(w:World)(hr:Ax w p st)(hm:m≤255)(hn:n≤65535)(G:Bj st≤4611686018427387904):
  Calls prog 67 #[.pointer (some ⟨p,0,none⟩),.int .i64 m,.int .i64 n] w fun e w'=>Aa (fun j=>j=p) w w'∧
   ((∃l,st=some l∧Ga l m n∧Ax w' p (some (l.drop (Hm.szB (Ak m n))))∧ ∃g,w.heap.size≤g∧e= .returned (.agg (F8 l m n g).toArray)∧IntRow w' g (B6 (l.take (Hm.szB (Ak m n)))))∨
    ((∀l,st=some l→ ¬Ga l m n)∧Ax w' p none∧e= .returned (.agg Gv.toArray))):=by
 obtain⟨l,hl⟩: ∃l,l=st.getD []:=⟨_,rfl⟩;have I:=fun W=>Acf hones l m n W hm hn (by rw[hl];exact G);obtain⟨S,hS⟩: ∃S,S=(⟨l.toArray⟩:ByteArray):=⟨_,rfl⟩;rw[←hS]at I;have d:=hr.rest;rw[←hl,←hS]at d;have hp:=hr.lt;have x:Hid (Ax w p st∧l=st.getD []∧Bj st≤4611686018427387904):=⟨hr,hl,G⟩;have ah:(w.alloc (.cells #[.string ⟨#[]⟩,.int .i64 0,.slice none 0 0,.int .i64 0,.int .i64 0] 87)).cell? ⟨p,0,none⟩=some (.string S):=(((Aa.refl (fun _=>False) w).alloc _).cell (p:=⟨p,0,none⟩) hp id).trans d;clear hS hl hr G d
 go_enter func67,ntmps67
 go_wp2_with fail;refine(I _).mono ?_;rintro e w1 ⟨D,h1⟩;clear I ah;have u:=D.row (Anj w (.cells #[.string ⟨#[]⟩,.int .i64 0,.slice none 0 0,.int .i64 0,.int .i64 0] 87)) id;have k:Ara w w1:=((Aa.refl (fun _=>False) w).alloc _).trans D (fun _ _ h=>h);have K:w.heap.size<w1.heap.size:=Anu u;have N: ∃(T:ByteArray) (el:Nat) (ao:Arf) (c1 mm lw:Nat) (ok:Bool),e= .returned (.tuple #[.agg #[.string T,.int .i64 (el:Nat),.slice ao c1 c1,.int .i64 (mm:Nat),.int .i64 (lw:Nat)],.bool ok])∧T.size≤4611686018427387904∧
   ((ok=true∧ ∃l,st=some l∧Ga l m n∧T.size=Hm.szB (Ak m n)∧ ∃g,w.heap.size<g∧F8 l m n g=[.string T,.int .i64 (el:Nat),.slice ao c1 c1,.int .i64 (mm:Nat),.int .i64 (lw:Nat)]∧IntRow w1 g (B6 (l.take (Hm.szB (Ak m n)))))∨
    (ok=false∧(∀l,st=some l→ ¬Ga l m n)∧Gv=[.string T,.int .i64 (el:Nat),.slice ao c1 c1,.int .i64 (mm:Nat),.int .i64 (lw:Nat)])):=by
  rcases h1 with⟨c,g,hg,rfl,C⟩|⟨hno,rfl⟩
  ·obtain⟨l',J⟩: ∃l',st=some l':=by
    cases st with
    |none=>rw[x.o.2.1]at c;exact absurd c Ahv
    |some l'=>exact⟨l',rfl⟩
   have q:l=l':=by rw[x.o.2.1,J];rfl
   subst q;have s:(⟨(l.take (Hm.szB (Ak m n))).toArray⟩:ByteArray).size=Hm.szB (Ak m n):=by have:=c.fits;show(l.take _).toArray.size=_;simp;omega
   have ai:l.length≤4611686018427387904:=by have:=x.o.2.2;rw[J]at this;exact this
   exact⟨_,_,_,_,_,_,_,rfl,by rw[s];exact Ant c.fits ai,.inl ⟨rfl,l,J,c,s,g,by simp at hg;omega,rfl,C⟩⟩
  ·refine⟨_,0,_,_,0,0,_,rfl,by show(0:Nat)≤_;omega,.inr ⟨rfl,fun l' h=>?_,rfl⟩⟩;have q:l=l':=by rw[x.o.2.1,h];rfl
   rw[←q];exact hno
 obtain⟨T,el,ao,c1,mm,lw,ok,rfl,s,HP⟩:=N;have af:Hid _:=HP;have Q:=fun W (h:Ax W p st)=>Ik p st ok W h;have aa:=fun W (h:Ax W p (Da st ok))=>Lg p (Da st ok) T.size W h (Ant (Iq st ok) x.o.2.2) s;have H1:Hid (w1.heap[w.heap.size]?=some (.cells #[.string ⟨#[]⟩,.int .i64 0,.slice none 0 0,.int .i64 0,.int .i64 0] 87 (0,0))∧Ara w w1∧Ax w1 p st∧w.heap.size<w1.heap.size):=
  ⟨u,k,x.o.1.kept k id,K⟩
 have L:Hid _:=Q;have M:Hid _:=aa;obtain⟨B,hB⟩: ∃B,B=w1.heap.size:=⟨_,rfl⟩;obtain⟨W1,t⟩: ∃W1,W1=w1.alloc (.cells #[.string T,.int .i64 (el:Nat),.slice ao c1 c1,.int .i64 (mm:Nat),.int .i64 (lw:Nat)] 87):=⟨_,rfl⟩;have i:Ara w1 W1:=by rw[t];exact(Aa.refl _ _).alloc _
 have r:Hid (W1.heap[B]?=some (.cells #[.string T,.int .i64 (el:Nat),.slice ao c1 c1,.int .i64 (mm:Nat),.int .i64 (lw:Nat)] 87 (0,0))∧W1.heap[w.heap.size]?=some (.cells #[.string ⟨#[]⟩,.int .i64 0,.slice none 0 0,.int .i64 0,.int .i64 0] 87 (0,0))∧Ara w W1∧Ax W1 p st∧w.heap.size<B∧Ara w1 W1):=
  ⟨by rw[t,hB];exact Anj w1 _,i.row u id,k.trans i (fun _ _ h=>h),(x.o.1.kept k id).kept i id,by rw[hB];exact K,i⟩
 have z:Hid (w1.alloc (.cells #[.string T,.int .i64 (el:Nat),.slice ao c1 c1,.int .i64 (mm:Nat),.int .i64 (lw:Nat)] 87)=W1∧w1.heap.size=B):=⟨t.symm,hB.symm⟩;clear HP Q aa u k K D x t hB i h1 H1;go_upto_region 2 with fail
 rw[z.o.1,z.o.2];clear z;have P:=L.o W1 r.o.2.2.2.1;go_wp2_with fail;refine P.mono ?_;rintro e w2 ⟨rfl,X,E⟩;have R:p≠B:=by have:=r.o.2.2.2.2.1;omega
 have U:p≠w.heap.size:=by omega
 have c0:w2.cell? ⟨B,0,none⟩=some (.string T):=(E.cell (p:=⟨B,0,none⟩) (Anu r.o.1) (fun h=>R h.symm)).trans (Am7 _ _ 0 _ _ _ r.o.1);have Z:=M.o w2 X;have V:=fun W (h:W.cell? ⟨B,0,none⟩=some (.string T))=>Kr B 0 T W h;have y:=V w2 c0;have H3:Hid (Aa (fun j=>j=p) W1 w2):=E;clear P X E L V;go_wp2_with fail;refine y.mono ?_;rintro e w3 ⟨rfl,aj⟩;subst aj;clear y;go_wp2_with fail;refine Z.mono ?_;rintro e w4 ⟨rfl,Y,O⟩;have b:Aa (fun j=>j=p) W1 w4:=H3.o.trans O (fun _ _ h=>h);have f:=b.row r.o.1 (fun h=>R h.symm);have a:=b.row r.o.2.1 (fun h=>U h.symm);have p0:w4.cell? ⟨B,0,none⟩=some (.string T):=Am7 _ _ 0 _ _ _ f;have p1:w4.cell? ⟨B,1,none⟩=some (.int .i64 (el:Nat)):=Am7 _ _ 1 _ _ _ f;have p2:w4.cell? ⟨B,2,none⟩=some (.slice ao c1 c1):=Am7 _ _ 2 _ _ _ f;have p3:w4.cell? ⟨B,3,none⟩=some (.int .i64 (mm:Nat)):=Am7 _ _ 3 _ _ _ f;have p4:w4.cell? ⟨B,4,none⟩=some (.int .i64 (lw:Nat)):=Am7 _ _ 4 _ _ _ f;have q0:w4.cell? ⟨w.heap.size,0,none⟩=some (.string ⟨#[]⟩):=Am7 _ _ 0 _ _ _ a;have q1:w4.cell? ⟨w.heap.size,1,none⟩=some (.int .i64 0):=Am7 _ _ 1 _ _ _ a;have q2:w4.cell? ⟨w.heap.size,2,none⟩=some (.slice none 0 0):=Am7 _ _ 2 _ _ _ a;have q3:w4.cell? ⟨w.heap.size,3,none⟩=some (.int .i64 0):=Am7 _ _ 3 _ _ _ a;have q4:w4.cell? ⟨w.heap.size,4,none⟩=some (.int .i64 0):=Am7 _ _ 4 _ _ _ a;have f0:w4.frozen? ⟨w.heap.size,0,none⟩=false:=Ang _ _ 0 _ _ a;have f1:w4.frozen? ⟨w.heap.size,1,none⟩=false:=Ang _ _ 1 _ _ a;have f2:w4.frozen? ⟨w.heap.size,2,none⟩=false:=Ang _ _ 2 _ _ a;have f3:w4.frozen? ⟨w.heap.size,3,none⟩=false:=Ang _ _ 3 _ _ a;have f4:w4.frozen? ⟨w.heap.size,4,none⟩=false:=Ang _ _ 4 _ _ a;have am:w.heap.size≠B:=by have:=r.o.2.2.2.2.1;omega
 have H4:Hid (w4.heap[w.heap.size]?=some (.cells #[.string ⟨#[]⟩,.int .i64 0,.slice none 0 0,.int .i64 0,.int .i64 0] 87 (0,0))∧Aa (fun j=>j=p) w w4∧Ax w4 p (Bb (Da st ok) T.size).2∧Aa (fun j=>j=p) w1 w4):=
  ⟨a,(r.o.2.2.1.wider (fun _ _ h=>h.elim)).trans b (fun _ _ h=>h),Y,(r.o.2.2.2.2.2.wider (fun _ _ h=>h.elim)).trans b (fun _ _ h=>h)⟩
 clear a f b O Y Z H3 r c0 M;go_wp2_with fail;have h2:=Anb _ _ 4 _ _ (.int .i64 (lw:Nat)) (Anb _ _ 3 _ _ (.int .i64 (mm:Nat)) (Anb _ _ 2 _ _ (.slice ao c1 c1) (Anb _ _ 1 _ _ (.int .i64 (el:Nat)) (Anb _ _ 0 _ _ (.string T) H4.o.1))));have F:=Lq w4 w.heap.size (.string T) (.int .i64 (el:Nat)) (.slice ao c1 c1) (.int .i64 (mm:Nat)) (.int .i64 (lw:Nat));refine Aok (v:= .agg #[.string T,.int .i64 (el:Nat),.slice ao c1 c1,.int .i64 (mm:Nat),.int .i64 (lw:Nat)]) (Ao0 results67 _ _ w.heap.size 87 _ (0,0) _ rfl h2 underlying87 rfl (by kernel_rfl)) rfl ⟨?_,?_⟩
 ·exact H4.o.2.1.trans F (fun j h1 h2=>by omega)
 ·have H:=H4.o.2.2.1.kept F (fun h=>U h);rcases af.o with⟨rfl,l,rfl,c,hz,g,hg,A,C⟩|⟨rfl,hno,A⟩
  ·have e1:(Bb (Da (some l) true) T.size).2=some (l.drop (Hm.szB (Ak m n))):=by
    show(Bb (some l) T.size).2=_;rw[hz,Gf c.fits]
   rw[e1]at H;exact .inl ⟨l,rfl,c,H,g,by omega,by rw[A],(C.kept H4.o.2.2.2 (fun h=>by omega)).kept F (fun h=>by omega)⟩
  ·exact .inr ⟨hno,H,by rw[A]⟩
namespace Hm
def rdA(s:Arc):Rd:=Da (Bb (some s) 6).2 ((⟨(Bb (some s) 6).1.toArray⟩:ByteArray).toList==[72,79,65,82,68,49])
def rdF(s:Arc):Nat×Rd:=B5 (rdA s) 1
def rdN(s:Arc):Nat×Rd:=B5 (rdF s).2 2
def rdR(s:Arc):Nat×Rd:=B5 (rdN s).2 2
def rdB(s:Arc):Rd:=Da (rdR s).2 (decide ((rdR s).1≤(rdN s).1))
def rdM(s:Arc):List ByteArray×Rd:=Au (rdF s).1 (rdB s)
def rdL(st:Rd):Ard×Rd:=Bt (B5 st 2).2 (B5 st 2).1
structure Cy(s l6:Arc)(L:Ard)(l8:Arc)(st:Bl):Prop where
 names:(rdM s).2=some l6
 ends:Ga l6 (rdF s).1 (rdN s).1
 lens:rdL (some (l6.drop (szB (Ak (rdF s).1 (rdN s).1))))=(L,some l8)
 tree:E9 l8 (rdN s).1 L st
 samp:G1 (l8.drop (szB st.len)) (rdN s).1
 sum:N0 s (some ((l8.drop (szB st.len)).drop (szB (An (rdN s).1))))=some []
theorem E0{st:Rd}{k:Nat}{l:Arc}(h:(Bb st k).2=some l): ∃l0,st=some l0∧k≤l0.length∧l=l0.drop k∧(Bb st k).1=l0.take k:=by
 cases st with
 |none=>cases h
 |some l0=>
  by_cases hk:k≤l0.length
  ·rw[Gf hk]at h;injection h with h;exact⟨l0,rfl,hk,h.symm,by rw[Gf hk]⟩
  ·rw[K6 hk]at h;cases h
theorem Nm{st:Rd}{b:Bool}{l:Arc}(h:Da st b=some l):b=true∧st=some l:=by
 unfold Da at h;split at h
 ·rename_i hb;exact⟨hb,h⟩
 ·cases h
theorem P4{st:Rd}: ∀{k:Nat} {l:Arc},(Au k st).2=some l→ ∃l0,st=some l0∧l0.length≤l.length+256*k
 |0,l,h=>⟨l,h,Ane _⟩
 |k+1,l,h=>by
  have b:(Bb (B5 (Au k st).2 1).2 (B5 (Au k st).2 1).1).2=some l:=h;obtain⟨l1,h1,h2,c,-⟩:=E0 b;have a:(Bb (Au k st).2 1).2=some l1:=h1;obtain⟨l2,d,g,e,i⟩:=E0 a;obtain⟨l0,f,j⟩:=P4 d;refine⟨l0,f,?_⟩;have m:(B5 (Au k st).2 1).1<256:=by have:=Ho (Au k st).2 1;simpa using this
  rw[c,Aoi];rw[e,Aoi]at h2⊢;omega
theorem Xh{st:Rd}: ∀{k:Nat} {l:Arc},(Bt st k).2=some l→ ∃l0,st=some l0∧l0.length=l.length+2*k
 |0,l,h=>⟨l,h,rfl⟩
 |k+1,l,h=>by
  have a:(Ha (Bt st k)).2=some l:=h;unfold Ha at a;split at a
  ·rename_i l1 h1;injection a with a;subst a;obtain⟨l2,b,e,c,-⟩:=E0 h1;obtain⟨l0,d,f⟩:=Xh b;refine⟨l0,d,?_⟩;rw[c,Aoi];omega
  ·cases a
theorem Amk{st:Rd}{l:Arc}(h:(rdL st).2=some l): ∃l0,st=some l0∧l0.length≤l.length+131072:=by
 obtain⟨l1,h1,h2⟩:=Xh h;have a:(Bb st 2).2=some l1:=h1;obtain⟨l0,b,d,c,-⟩:=E0 a;have e:(B5 st 2).1<65536:=by have:=Ho st 2;simpa using this
 refine⟨l0,b,?_⟩;rw[c,Aoi]at h2;omega
theorem Om{s l:Arc}(h:(rdM s).2=some l):s.length≤l.length+65536∧(rdR s).1≤(rdN s).1:=by
 obtain⟨l0,h1,h2⟩:=P4 h;obtain⟨j,k⟩:=Nm h1;obtain⟨l1,m,n,o,-⟩:=E0 (show(Bb (rdN s).2 2).2=some l0 from k);obtain⟨l2,p,q,d,-⟩:=E0 (show(Bb (rdF s).2 2).2=some l1 from m);obtain⟨l3,e,f,b,-⟩:=E0 (show(Bb (rdA s) 1).2=some l2 from p);obtain⟨_,g⟩:=Nm e;obtain⟨l4,c,i,a,-⟩:=E0 g;injection c with c;subst c;have r:(rdF s).1<256:=by have:=Ho (rdA s) 1;simpa[rdF]using this
 refine⟨?_,Aoc j⟩;rw[o,d,b,a]at h2;rw[b,a]at q;rw[d,b,a]at n;rw[a]at f;simp only[Aoi]at*;omega
theorem Jp(s:Arc):(rdN s).1≤65535:=by have:=Ho (rdF s).2 2;simp at this;unfold rdN;omega
theorem Qi(s:Arc):(rdF s).1≤255:=by have:=Ho (rdA s) 1;simp at this;unfold rdF;omega
theorem Q8(m n:Nat)(a:m≤255)(hn:n≤65535):szB (Ak m n)≤10000:=by
 have h1:=Ud m n hn;have h2:m*Cr m n≤255*16:=Aoj a h1;have b:n/2^Cr m n≤n:=Apt _ _;unfold szB Ak;omega
theorem Ahx(n:Nat)(hn:n≤65535):szB (An n)≤22000:=by
 obtain⟨td,bl,tb,_,_,_,a,_,_,b⟩:=Zv n hn;unfold szB;omega
theorem Xi{L:Ard}(h:Bu L):Gx L≤32:=by
 rcases Aqi (Gx L)with e|e
 ·omega
 ·obtain⟨i,hi,a⟩:=Aog (Ug L e);have h1:=h.short (UInt8.ofNat i);have b:=h.len;rw[show lnB L (UInt8.ofNat i)=L.getD (UInt8.ofNat i).toNat 0 from rfl,show(UInt8.ofNat i).toNat=i from by simp;omega,Am4,Am5 hi,Aps,a]at h1;exact h1
theorem Hz{l:Arc}{n:Nat}{L:Ard}{st:Bl}(h:E9 l n L st)(hn:n≤65535):szB st.len≤262141∧szB st.len≤l.length:=by
 have h1:=J7 h.2;have h2:=Xi h.1;have a:n*Gx L≤65535*32:=Aoj hn h2;unfold E8 at h1;unfold szB;omega
theorem Ak8{st:Rd}(h:(B5 st 4).2=some []): ∃l,st=some l∧l.length=4:=by
 obtain⟨l,h1,h2,a,-⟩:=E0 (show(Bb st 4).2=some []from h);refine⟨l,h1,?_⟩;have:=congrArg List.length a;rw[Aoi]at this;simp at this;omega
end Hm
structure Fj(B:Nat)(w':World)(st:Hm.Rd)(m n:Nat)(EV:Are)(st':Hm.Rd):Prop where
 len:EV.length=5
 one:EV.toArray.all (·.oneCell')=true
 rest:Bj st'≤Bj st
 said:(∃l,st=some l∧Ga l m n∧st'=some (l.drop (Hm.szB (Ak m n)))∧ ∃g,B≤g∧EV=F8 l m n g∧IntRow w' g (B6 (l.take (Hm.szB (Ak m n)))))∨((∀l,st=some l→ ¬Ga l m n)∧st'=none)
theorem Fj.kept{B:Nat}{w' w2:World}{st:Hm.Rd}{m n:Nat}{EV:Are}{st':Hm.Rd}(h:Fj B w' st m n EV st'){S:Nat→Prop}(hk:Aa S w' w2)(hn: ∀j,B≤j→j<w'.heap.size→ ¬S j):Fj B w2 st m n EV st':=by
 refine⟨h.len,h.one,h.rest,?_⟩;rcases h.said with⟨l,a1,a2,a3,g,a4,a5,a6⟩|h1
 ·exact .inl ⟨l,a1,a2,a3,g,a4,a5,a6.kept hk (hn g a4 a6.lt)⟩
 ·exact .inr h1
theorem Fj.le{B B':Nat}{w':World}{st:Hm.Rd}{m n:Nat}{EV:Are}{st':Hm.Rd}(h:Fj B w' st m n EV st')(hb:B'≤B):Fj B' w' st m n EV st':=by
 refine⟨h.len,h.one,h.rest,?_⟩;rcases h.said with⟨l,a1,a2,a3,g,a4,a5⟩|h1
 ·exact .inl ⟨l,a1,a2,a3,g,Ant hb a4,a5⟩
 ·exact .inr h1
theorem Ahy(hones:Bd)(p:Nat)(st:Hm.Rd)(m n:Nat)(w:World)(c:Ax w p st)(b:m≤255)(hn:n≤65535)(a:Bj st≤4611686018427387904):
  Calls prog 67 #[.pointer (some ⟨p,0,none⟩),.int .i64 m,.int .i64 n] w fun e w'=>Aa (fun j=>j=p) w w'∧ ∃EV st',e= .returned (.agg EV.toArray)∧Fj w.heap.size w' st m n EV st'∧Ax w' p st':=by
 refine(Ahw hones p st m n w c b hn a).mono ?_;rintro e w' ⟨hk,⟨l,rfl,a2,a3,g,a4,rfl,a6⟩|⟨h1,h2,rfl⟩⟩
 ·exact⟨hk,_,_,rfl,⟨rfl,by simp[F8,Value.oneCell'],by show(l.drop _).length≤l.length;rw[Aoi];omega,.inl ⟨l,rfl,a2,rfl,g,a4,rfl,a6⟩⟩,a3⟩
 ·exact⟨hk,_,_,rfl,⟨rfl,by simp[Gv,Value.oneCell'],Ann _,.inr ⟨h1,rfl⟩⟩,h2⟩
structure Iu(B:Nat)(w':World)(st:Hm.Rd)(n:Nat)(EV:Are)(st':Hm.Rd):Prop where
 len:EV.length=4
 one:EV.toArray.all (·.oneCell')=true
 rest:Bj st'≤Bj st
 said:(∃l,st=some l∧G1 l n∧st'=some (l.drop (Hm.szB (An n)))∧ ∃g,B≤g∧EV=G6 l n g∧IntRow w' g (B6 (l.take (Hm.szB (An n)))))∨((∀l,st=some l→ ¬G1 l n)∧st'=none)
theorem Iu.kept{B:Nat}{w' w2:World}{st:Hm.Rd}{n:Nat}{EV:Are}{st':Hm.Rd}(h:Iu B w' st n EV st'){S:Nat→Prop}(hk:Aa S w' w2)(hn: ∀j,B≤j→j<w'.heap.size→ ¬S j):Iu B w2 st n EV st':=by
 refine⟨h.len,h.one,h.rest,?_⟩;rcases h.said with⟨l,a1,a2,a3,g,a4,a5,a6⟩|h1
 ·exact .inl ⟨l,a1,a2,a3,g,a4,a5,a6.kept hk (hn g a4 a6.lt)⟩
 ·exact .inr h1
theorem Iu.le{B B':Nat}{w':World}{st:Hm.Rd}{n:Nat}{EV:Are}{st':Hm.Rd}(h:Iu B w' st n EV st')(hb:B'≤B):Iu B' w' st n EV st':=by
 refine⟨h.len,h.one,h.rest,?_⟩;rcases h.said with⟨l,a1,a2,a3,g,a4,a5⟩|h1
 ·exact .inl ⟨l,a1,a2,a3,g,Ant hb a4,a5⟩
 ·exact .inr h1
theorem Ahz(hones:Bd)(hLn:El)(p:Nat)(st:Hm.Rd)(n:Nat)(w:World)(b:Ax w p st)(hn:n≤65535)(a:Bj st≤4611686018427387904):
  Calls prog 71 #[.pointer (some ⟨p,0,none⟩),.int .i64 n] w fun e w'=>Aa (fun j=>j=p) w w'∧ ∃EV st',e= .returned (.agg EV.toArray)∧Iu w.heap.size w' st n EV st'∧Ax w' p st':=by
 refine(Aaz hones hLn p st n w b hn a).mono ?_;rintro e w' ⟨hk,⟨l,rfl,a2,a3,g,a4,rfl,a6⟩|⟨h1,h2,rfl⟩⟩
 ·exact⟨hk,_,_,rfl,⟨rfl,by simp[G6,Value.oneCell'],by show(l.drop _).length≤l.length;rw[Aoi];omega,.inl ⟨l,rfl,a2,rfl,g,a4,rfl,a6⟩⟩,a3⟩
 ·exact⟨hk,_,_,rfl,⟨rfl,by simp[Ds,Value.oneCell'],Ann _,.inr ⟨h1,rfl⟩⟩,h2⟩
theorem Afc:(Tryz.zeroCells96.toList.drop 516).take 256=Ad (List.replicate 256 0):=by kernel_rfl
theorem De.weights{B:Nat}{w':World}{l:Arc}{n:Nat}{L:Ard}{VA:Array Value}{T:ByteArray}{ok:Bool}(h:De B w' l n L VA T ok)(hn:n≤65535):
  ∃ws:Ard,ws.length=256∧(∀b,b<256→VA[516+b]?=some (.int .i64 (ws.getD b 0:Nat)))∧ ∀x∈ws,x≤1000000:=by
 rcases h.said with⟨_,st,g,ng,nc,a1,_,_,_,_,rfl,a6,_⟩|⟨_,_,rfl⟩
 ·refine⟨st.ws,a6,fun b hb=>?_,fun x a=>?_⟩
  ·rw[Anw];exact O5 _ _ _ _ _ _ _ b (A4 _ _ _ _) (by omega)
  ·have:=Ajq a1 x a;omega
 ·refine⟨List.replicate 256 0,Ani,fun b hb=>?_,fun x a=>?_⟩
  ·have e:=congrArg (fun l=>l[b]?) Afc;rw[Apg hb,Aqz,Array.getElem?_toList]at e;rw[e];unfold Ad;rw[An2,List.getElem?_replicate,if_pos hb,Am4,List.getElem?_replicate,if_pos hb];rfl
  ·rw[List.eq_of_mem_replicate a];omega
theorem Ah0(v v':Value)(E R S:Are):(I7 v E R S).toArray.setIfInBounds 0 v'=(I7 v' E R S).toArray:=by
 rw[Am6];rfl
def Lu(B:Nat)(w':World)(s:Arc)(pa:Nat)(ok:Bool):Prop:=
 (ok=true∧ ∃l6 L l8 st gn ge g ng nc gs,Cy s l6 L l8 st∧B≤gn∧B≤ge∧B≤g∧B≤ng∧B≤gs∧
   w'.heap[pa]?=some (.cells (I7 (.slice (some ⟨gn,0,none⟩) (Hm.rdF s).1 (Hm.rdF s).1) (F8 l6 (Hm.rdF s).1 (Hm.rdN s).1 ge)
    (Cd (Ay ⟨(l8.take (Hm.szB st.len)).toArray⟩ st.len g (A6 L) (.slice (some ⟨ng,0,none⟩) st.nds.length nc) st.ws (Hm.rdN s).1).toArray (Hm.rdR s).1 (Hm.firsts st.ws))
    (G6 (l8.drop (Hm.szB st.len)) (Hm.rdN s).1 gs)).toArray 102 (0,0))∧
   w'.heap[gn]?=some (.cells (Fx (Hm.rdM s).1).toArray 9 (0,0))∧
   IntRow w' ge (B6 (l6.take (Hm.szB (Ak (Hm.rdF s).1 (Hm.rdN s).1))))∧IntRow w' g (B6 (l8.take (Hm.szB st.len)))∧
   w'.ownsRow 0 195 9 (.slice (some ⟨ng,0,none⟩) st.nds.length nc) st.nds.length (Be st.nds)∧
   IntRow w' gs (B6 ((l8.drop (Hm.szB st.len)).take (Hm.szB (An (Hm.rdN s).1)))))∨
 (ok=false∧ ∀l6 L l8 st,¬Cy s l6 L l8 st)
theorem Lu.kept{B:Nat}{w' w2:World}{s:Arc}{pa:Nat}{ok:Bool}(h:Lu B w' s pa ok){S:Nat→Prop}(hk:Aa S w' w2)(hn: ∀j,B≤j→j<w'.heap.size→ ¬S j)(b: ¬S pa):Lu B w2 s pa ok:=by
 rcases h with⟨h1,l6,L,l8,st,gn,ge,g,ng,nc,gs,a1,b1,b2,b3,b4,b5,a2,a3,a4,a5,a6,a7⟩|h1
 ·exact .inl ⟨h1,l6,L,l8,st,gn,ge,g,ng,nc,gs,a1,b1,b2,b3,b4,b5,hk.row a2 b,hk.row a3 (hn gn b1 (Anu a3)),a4.kept hk (hn ge b2 a4.lt),a5.kept hk (hn g b3 a5.lt),hk.owns a6 (fun j a=>by have e1:ng=j:=An0 a;rw[←e1];exact hn ng b4 (a6.lt ng rfl).2),a7.kept hk (hn gs b5 a7.lt)⟩
 ·exact .inr h1
theorem Afd{VA:Array Value}{ws ws':Ard}(h1:ws.length=256)(h2:ws'.length=256)(a: ∀b,b<256→VA[516+b]?=some (.int .i64 (ws.getD b 0:Nat)))(b: ∀b,b<256→VA[516+b]?=some (.int .i64 (ws'.getD b 0:Nat))):ws=ws':=by
 apply Aon (by omega);intro i c d;have e:=(a i (by omega)).symm.trans (b i (by omega));injection e with e;injection e with _ e;rw[Am4,Am5 c,Am4,Am5 d]at e;exact Int.ofNat.inj e
theorem Va{B:Nat}{w':World}{s:Arc}{EV SV:Are}{st7 st8 st9 st10:Hm.Rd}{L:Ard}{VA:Array Value}{T:ByteArray}{ok:Bool}
  (k:Fj B w' (Hm.rdM s).2 (Hm.rdF s).1 (Hm.rdN s).1 EV st7) (l:L=(Hm.rdL st7).1∧st8=(Hm.rdL st7).2) (i:De B w' (st8.getD []) (Hm.rdN s).1 L VA T ok) (h:st9=(Bb (Da st8 ok) T.size).2)
  (m:Iu B w' st9 (Hm.rdN s).1 SV st10) (p:(B5 st10 4).2=some []):
  (4≤s.length∧s.length≤1000000)∧ ∃l6 l8 st gE g ng nc gS,(Hm.rdM s).2=some l6∧Ga l6 (Hm.rdF s).1 (Hm.rdN s).1∧Hm.rdL (some (l6.drop (Hm.szB (Ak (Hm.rdF s).1 (Hm.rdN s).1))))=(L,some l8)∧E9 l8 (Hm.rdN s).1 L st∧G1 (l8.drop (Hm.szB st.len)) (Hm.rdN s).1∧
   st10=some ((l8.drop (Hm.szB st.len)).drop (Hm.szB (An (Hm.rdN s).1)))∧B≤gE∧B≤g∧B≤ng∧B≤gS∧EV=F8 l6 (Hm.rdF s).1 (Hm.rdN s).1 gE∧VA=(Ay ⟨(l8.take (Hm.szB st.len)).toArray⟩ st.len g (A6 L) (.slice (some ⟨ng,0,none⟩) st.nds.length nc) st.ws (Hm.rdN s).1).toArray∧st.ws.length=256∧SV=G6 (l8.drop (Hm.szB st.len)) (Hm.rdN s).1 gS∧
   IntRow w' gE (B6 (l6.take (Hm.szB (Ak (Hm.rdF s).1 (Hm.rdN s).1))))∧IntRow w' g (B6 (l8.take (Hm.szB st.len)))∧w'.ownsRow 0 195 9 (.slice (some ⟨ng,0,none⟩) st.nds.length nc) st.nds.length (Be st.nds)∧IntRow w' gS (B6 ((l8.drop (Hm.szB st.len)).take (Hm.szB (An (Hm.rdN s).1)))):=by
 obtain⟨l10,e10,n10⟩:=Ak8 p;have hF:=Qi s;have e:=Jp s;rcases m.said with⟨l9,e9,s1,s2,gS,s3,s4,s5⟩|⟨_,s2⟩;rotate_left
 ·rw[s2]at e10;cases e10
 rw[e9]at h;obtain⟨l8',f1,f2,f3,-⟩:=E0 h.symm;obtain⟨c,e8⟩:=Nm f1;obtain⟨d,a⟩:=l;rw[e8]at a i;obtain⟨l7,e7,n7⟩:=Amk a.symm;rcases k.said with⟨l6,e6,a1,a2,gE,a3,a4,a5⟩|⟨_,a2⟩;rotate_left
 ·rw[a2]at e7;cases e7
 rcases i.said with⟨_,st,g,ng,nc,t1,t2,t3,t4,t5,t6,t7,t8,t9⟩|⟨t1,_⟩;rotate_left
 ·rw[t1]at c;cases c
 replace t1:E9 l8' (Hm.rdN s).1 L st:=t1
 replace t6:VA=(Ay ⟨(l8'.take (Hm.szB st.len)).toArray⟩ st.len g (A6 L) (.slice (some ⟨ng,0,none⟩) st.nds.length nc) st.ws (Hm.rdN s).1).toArray:=t6
 have j:=Hz t1 e;have n:=Q8 _ _ hF e;have o:=Ahx _ e;have hM:=(Om e6).1;rw[t5]at f3 f2;subst f3;have b:=s1.fits;have f:=a1.fits;refine⟨?_,l6,l8',st,gE,g,ng,nc,gS,e6,a1,?_,t1,s1,s2,a3,t2,t3,s3,a4,t6,t7,s4,a5,t8,t9,s5⟩
 ·rw[s2]at e10;injection e10 with e10;rw[a2]at e7;injection e7 with e7;have n10':=congrArg List.length e10;have n7':=congrArg List.length e7;rw[Aoi,Aoi]at n10';rw[Aoi]at n7' b;refine⟨?_,by omega⟩;obtain⟨l0,q1,q2⟩:=P4 e6;obtain⟨q3,q4⟩:=Nm q1;obtain⟨l1,q5,q6,q7,-⟩:=E0 (show(Bb (Hm.rdN s).2 2).2=some l0 from q4);obtain⟨l2,q8,q9,q10,-⟩:=E0 (show(Bb (Hm.rdF s).2 2).2=some l1 from q5);obtain⟨l3,q11,q12,q13,-⟩:=E0 (show(Bb (Hm.rdA s) 1).2=some l2 from q8);obtain⟨_,q14⟩:=Nm q11;obtain⟨l4,q15,q16,q17,-⟩:=E0 q14;injection q15 with q15;have:=congrArg List.length q15;omega
 ·rw[←a2,d,a]
theorem Ah1{B:Nat}{w':World}{s:Arc}{pa gn:Nat}{EV SV:Are}{st7 st8 st9 st10:Hm.Rd}{L ws:Ard}{VA:Array Value}{T:ByteArray}{ok:Bool}
  (k:Fj B w' (Hm.rdM s).2 (Hm.rdF s).1 (Hm.rdN s).1 EV st7) (f:L=(Hm.rdL st7).1∧st8=(Hm.rdL st7).2) (h:De B w' (st8.getD []) (Hm.rdN s).1 L VA T ok) (c:st9=(Bb (Da st8 ok) T.size).2)
  (l:Iu B w' st9 (Hm.rdN s).1 SV st10) (m:ws.length=256∧ ∀b,b<256→VA[516+b]?=some (.int .i64 (ws.getD b 0:Nat)))
  (p:w'.heap[pa]?=some (.cells (I7 (.slice (some ⟨gn,0,none⟩) (Hm.rdF s).1 (Hm.rdF s).1) EV (Cd VA (Hm.rdR s).1 (Hm.firsts ws)) SV).toArray 102 (0,0)))
  (o:w'.heap[gn]?=some (.cells (Fx (Hm.rdM s).1).toArray 9 (0,0))) (n:B≤gn):Lu B w' s pa (!(N0 s st10).isNone):=by
 by_cases j:(B5 st10 4).2=some []∧(B5 st10 4).1=Hm.crc (s.take (s.length-4))
 ·have e:N0 s st10=some []:=if_pos j;obtain⟨_,l6,l8,st,gE,g,ng,nc,gS,x1,x2,x3,x4,x5,x6,x7,x8,x9,x10,x11,x12,x13,x14,x15⟩:=Va k f h c l j.1;rw[e];have ew:ws=st.ws:=Afd m.1 x13 m.2 (fun b hb=>by rw[x12,Anw];exact O5 _ _ _ _ _ _ _ b (A4 _ _ _ _) (by omega));refine .inl ⟨rfl,l6,L,l8,st,gn,gE,g,ng,nc,gS,⟨x1,x2,x3,x4,x5,by rw[←x6];exact e⟩,n,x7,x8,x9,x10,?_,o,x15⟩;rw[p,x11,x12,x14,ew]
 ·have e:N0 s st10=none:=if_neg j;rw[e];refine .inr ⟨rfl,fun l6 L' l8 st a=>?_⟩;rcases k.said with⟨l6',e6,a1,a2,_⟩|⟨a1,_⟩;rotate_left
  ·exact a1 _ a.names a.ends
  have e66:l6'=l6:=An0 (e6.symm.trans a.names);subst e66;have d:=a.lens;rw[←a2]at d;have e8:st8=some l8:=by rw[f.2,d]
  have eL:L=L':=by rw[f.1,d]
  subst eL;rw[e8]at h c;rcases h.said with⟨i,st',g,ng,nc,t1,t2,t3,t4,t5,_⟩|⟨_,t1,_⟩;rotate_left
  ·exact t1 st a.tree
  have est:st'=st:=An0 (t1.2.symm.trans a.tree.2);subst est;rw[i,t5,show Da (some l8) true=some l8 from rfl,Gf (Hz a.tree (Jp s)).2]at c;rcases l.said with⟨l9,e9,s1,s2,_⟩|⟨s1,_⟩;rotate_left
  ·exact s1 _ c a.samp
  rw[c]at e9;injection e9 with e9;rw[s2,←e9]at e;have:=a.sum;rw[e]at this;cases this
namespace Hm
def Al(s:Arc)(ps:Ard):Arc:=(ps.filter fun p=>decide (0<p)).map fun p=>s.getD (p-1) 0
theorem Xj(s:Arc)(ps:Ard)(k:Nat)(h:k<ps.length):Al s (ps.take (k+1))=Al s (ps.take k)++if 0<ps[k]then [s.getD (ps[k]-1) 0]else []:=by
 rw[Anh h];unfold Al;rw[Ao8,Apk];congr 1
 by_cases e:0<ps[k]<;>simp[e]
theorem Ak9(s:Arc)(ps:Ard):(Al s ps).length≤ps.length:=by
 unfold Al;rw[Anz];exact Ap4 _ _
end Hm
theorem Ah2(gp cp:Nat)(s:ByteArray)(ps:Ard)(w:World)(y:IntRow w gp ps)(hs:s.size≤6000)(O:ps.length≤6001)(E: ∀x∈ps,x≤s.size):
  Calls prog 99 #[.string s,.slice (some ⟨gp,0,none⟩) ps.length cp] w fun e w'=> ∃v',e= .returned v'∧w'.ownsRow w.heap.size 5 1 v' (Al s.data.toList ps).length (Ah (Al s.data.toList ps))∧Ara w w':=by
 obtain⟨i0,hi,n,r,t⟩:=Aoo Fh;have J:=y.lt
 go_enter func99,ntmps99
 go_wp2_with(at_make;refine wpList_make_own _ rfl _ _ 79 rfl w.heap.size 5 i0 (.int .u8 0) 1 underlying79 hi n r .i64 .i64 _ s.size rfl rfl rfl (by rw[t];omega) (by unfold maxLen;omega) (Ane _) ?_;intro w1 m f)
 have h:Ara w w1:=(Aa.refl _ _).grown f (fun k hk=>by cases hk);clear f
 go_loopw[5,13] (fun u i wr=> ∃k:Nat,k≤ps.length∧i= .int .i64 k∧wr.ownsRow w.heap.size 5 1 u (Al s.data.toList (ps.take k)).length (Ah (Al s.data.toList (ps.take k)))∧Ara w wr) (fun _ i _=>ps.length-(intOf i).toNat)
 case atStart=>exact⟨0,Ann _,rfl,by simpa[Al,Ah]using m,h⟩
 case round=>
  clear m h;obtain⟨k,hk,rfl,b,a⟩:=hrel;have I:=Ak9 s.data.toList (ps.take k);have G:(ps.take k).length≤6001:=by simp;omega
  by_cases l:k<ps.length
  ·have N:=(y.kept a id).cell l;have L:=E ps[k] (Anm _);have v:Hid (Al s.data.toList (ps.take (k+1))=Al s.data.toList (ps.take k)++if 0<ps[k]then [s.data.toList.getD (ps[k]-1) 0]else []):=Xj _ ps k l;generalize ps[k]=p at*;generalize F:Al s.data.toList (ps.take k)=C at*
   by_cases c:0<p
   ·obtain⟨q,M⟩: ∃q,p=q+1:=⟨p-1,by omega⟩;subst M;have D:q<s.size:=by omega
    have d:Hid (Al s.data.toList (ps.take (k+1))=C++[s[q]]):=by
     show _=_;have e:s.data.toList.getD (q+1-1) 0=s[q]:=by
      rw[Ap1,Am4,Am5 (by simpa using D)];rfl
     rw[v.o,if_pos c,e]
    clear v y E F
    go_wp2_with(at_builtin;refine Bg _ rfl (.tmp 19) (.tmp 24) 79 rfl w.heap.size 5 i0 (.int .u8 0) 1 1 underlying79 hi n r t rfl (by decide) _ _ _ rfl (b.alloc _) ⟨wr.heap.size,0,none⟩ 1 1 [.int .u8 (s[q].toNat:Int)] rfl rfl ?c1 ?c2 ?c3 ?c4 ?c5 ?_)
    case c1=>exact cell_one_new _ _ _
    case c2=>intro u H;simp at H;subst H;rfl
    case c3=>unfold maxLen;omega
    case c4=>omega
    case c5=>have:=a.size;simp;omega
    intro v' w2 B g A;have z:Ara w w2:=(a.alloc _).grown g (fun j K=> .inl (b.lt j K).1);clear g A b a;go_wp2;go_roundw
    case rel=>
     refine⟨k+1,by omega,by go_num,?_,z⟩;rw[d.o];simpa[Ah]using B
    case measure=>simp[intOf];omega
   ·obtain rfl:p=0:=by omega
    have d:Hid (Al s.data.toList (ps.take (k+1))=C):=by
     show _=_;rw[v.o,if_neg c,Aow]
    clear v y E F;go_wp2;go_roundw
    case rel=>exact⟨k+1,by omega,by go_num,by rw[d.o];exact b,a⟩
    case measure=>simp[intOf];omega
  ·go_wp2;go_ret;obtain rfl:k=ps.length:=by omega
   rw[Aof]at b;exact⟨_,rfl,b,a⟩
theorem Ala(gp c:Nat)(ps:Ard)(w:World)(d:IntRow w gp ps)(g:ps.length≤6001):
  Calls prog 102 #[.slice (some ⟨gp,0,none⟩) ps.length c] w fun e w'=>e= .returned (.int .i64 (Lib.idxOf (ps.map fun x:Nat=>(x:Int)) 0))∧w=w':=by
 have b:=Tryz.slices_Index_int gp 0 ps.length c (ps.map fun x:Nat=>(x:Int)) 0 w (by simp) (by omega) (fun j f=>by
  have a:j<ps.length:=by simpa using f
  rw[An3,d.cell a];simp[List.getD_eq_getElem?_getD,a])
 rw[show(ps.map fun x:Nat=>(x:Int)).take ps.length=ps.map fun x:Nat=>(x:Int)from An5 (by simp)]at b;generalize Lib.idxOf (ps.map fun x:Nat=>(x:Int)) 0=r at*;clear d
 go_enter func102,ntmps102
 go_wp2_with(go_at_call 156;refine b.mono ?_;rintro e w2 ⟨rfl,rfl⟩)
 go_ret;exact⟨rfl,rfl⟩
structure E1(w:World)(b:Nat)(p v:Value)(l:Arc):Prop where
 blk:w.heap[b]?=some (.cells #[p,v] 201 (0,0))
 own:w.ownsRow 0 5 1 v l.length (Ah l)
 ne:v.ownBlock≠some b
 adr:p= .pointer none∨p= .pointer (some ⟨b,0,none⟩)
 nil:l=[]→v= .slice none 0 0
set_option maxRecDepth 100000 in
theorem Aa0(b:Nat)(p v:Value)(l:Arc)(w:World)(h:E1 w b p v l):
  Calls prog 173 #[.pointer (some ⟨b,0,none⟩)] w fun e w'=>e= .returned (.tuple #[])∧E1 w' b (.pointer (some ⟨b,0,none⟩)) v l∧Aa (fun j=>j=b) w w':=by
 have c: ∃j,prog.info? 201=some j∧j.size=2:=by
  have h1:(prog.info? 201).map (·.size)=some 2:=by kernel_rfl
  obtain⟨j,c,hs⟩:=Option.map_eq_some_iff.1 h1;exact⟨j,c,hs⟩
 obtain⟨j,c,f⟩:=c;have i:w.cell? ⟨b,0,none⟩=some p:=Am7 _ _ 0 _ _ _ h.blk;have k:w.frozen? ⟨b,0,none⟩=false:=Ang _ _ 0 _ _ h.blk;have d:w.shape? b=some (201,2):=by simp[World.shape?,h.blk]
 rcases h.adr with g|g
 ·subst g;have a:E1 (w.setCell ⟨b,0,none⟩ (.pointer (some ⟨b,0,none⟩))) b (.pointer (some ⟨b,0,none⟩)) v l:=
   ⟨by have:=Anb w b 0 _ _ (.pointer (some ⟨b,0,none⟩)) h.blk;simpa using this,ownsRow_setCell_other h.own h.ne _,h.ne,.inr rfl,h.nil⟩
  have HS:Hid (E1 (w.setCell ⟨b,0,none⟩ (.pointer (some ⟨b,0,none⟩))) b (.pointer (some ⟨b,0,none⟩)) v l):=a;clear h a
  go_enter func173,ntmps173
  go_wp2;rw[Lib.run_to_unsafe w ⟨b,0,none⟩ underlying199 underlying262 c (by rw[f];decide) d (Nat.zero_lt_succ 1)];simp only[Result.andThen];rw[Oper.upon_value];go_wp2;rw[run_callFunc_extern func187 (by kernel_rfl) (by kernel_rfl) (by kernel_rfl) (e:=Extern.AbiNoEscape.same) (by kernel_rfl)];rw[Lib.run_noEscape];simp only[Result.andThen];rw[Oper.upon_value];go_wp2;rw[Lib.run_from_unsafe w ⟨b,0,none⟩ underlying262 underlying199 c d (by kernel_rfl)];simp only[Result.andThen];rw[Oper.upon_value];go_wp2
  go_end0
  exact⟨rfl,HS.o,(Aa.refl (fun j=>j=b) w).setCell (p:=⟨b,0,none⟩) (.inr rfl) _⟩
 ·subst g;have HS:Hid (E1 w b (.pointer (some ⟨b,0,none⟩)) v l):=h;clear h
  go_enter func173,ntmps173
  go_wp2;rw[Lib.run_neq_ptr_same w _ underlying199 c];go_wp2
  go_end0
  exact⟨rfl,HS.o,Aa.refl _ _⟩
theorem Xk(b:Nat)(p v:Value)(l:Arc)(s:ByteArray)(w:World)(h:E1 w b p v l)(I:l.length+s.size≤1000000):
  Calls prog 129 #[.pointer (some ⟨b,0,none⟩),.string s] w fun e w'=> ∃v',e= .returned (.tuple #[.int .i64 s.size,.nilIface])∧E1 w' b (.pointer (some ⟨b,0,none⟩)) v' (l++s.data.toList)∧Aa (Bk b v) w w'∧Cb w v v':=by
 obtain⟨i0,hi,B,C,D⟩:=Aoo Fh;have q:=Aa0 b p v l w h;clear h
 go_enter func129,ntmps129
 go_wp2_with fail;refine q.mono ?_;rintro e w1 ⟨rfl,h1,g⟩;clear q;obtain⟨a1,c1,z,_⟩:=Aq h1.own;subst z;have u:w1.cell? ⟨b,1,none⟩=some (.slice a1 l.length c1):=Am7 _ _ 1 _ _ _ h1.blk;have t:=h1.own
 go_wp2_with(at_builtin;refine Er _ rfl (.tmp 12) (.tmp 13) 79 9 rfl 0 5 i0 underlying79 underlying9 hi B C D _ _ _ rfl t s rfl ?c6 ?c7 ?c8 ?_)
 case c6=>unfold maxLen;omega
 case c7=>omega
 case c8=>exact Ann _
 intro v2 w2 m f i d;have a:w2.heap[b]?=some (.cells #[.pointer (some ⟨b,0,none⟩),.slice a1 l.length c1] 201 (0,0)):=by
  rw[f.block b (Anu h1.blk) (fun e=>h1.ne e.symm)];exact h1.blk
 have c:v2.ownBlock≠some b:=fun e=>by
  rcases i b e with h|h
  ·exact h1.ne h
  ·have:=Anu h1.blk;omega
 have x:Aa (Bk b (.slice a1 l.length c1)) w w2:=(g.wider (fun j _ h=> .inl h)).grown f (fun k hk=> .inr (.inr hk));have r:Cb w (.slice a1 l.length c1) v2:=(Cb.refl w _).trans i g.size;obtain⟨a2,c2,A,_⟩:=Aq m;have E:Hid (l++s.data.toList=[]→v2= .slice none 0 0):=fun e=>by
  have e1:=List.append_eq_nil_iff.1 e;have y:s=ByteArray.empty:=by
   apply Aqg;apply Api;rw[e1.2];rfl
  have n:=h1.nil e1.1;simp only[Value.slice.injEq]at n;exact d.2 ⟨by simpa using⟨n.1,e1.1,n.2.2⟩,y⟩
 subst A;have H:w2.frozen? ⟨b,1,none⟩=false:=Ang _ _ 1 _ _ a;have G:w2.cell? ⟨b,1,none⟩=some (.slice a1 l.length c1):=Am7 _ _ 1 _ _ _ a;have F:Hid (E1 (w2.setCell ⟨b,1,none⟩ (.slice a2 (l.length+s.size) c2)) b (.pointer (some ⟨b,0,none⟩)) (.slice a2 (l.length+s.size) c2) (l++s.data.toList)):=by
  refine⟨?_,?_,c,.inr rfl,E.o⟩
  ·have:=Anb w2 b 1 _ _ (.slice a2 (l.length+s.size) c2) a;simpa using this
  ·have e1:(l++s.data.toList).length=l.length+s.size:=by simp
   have e2:Ah (l++s.data.toList)=Ah l++Lib.strCells s:=by simp[Ah,Lib.strCells]
   rw[e1,e2];exact ownsRow_setCell_other m c _
 clear m f i d a h1 g t u c;go_wp2;go_ret2;exact⟨_,rfl,F.o,x.setCell (.inr (.inl rfl)) _,r⟩
theorem Yw(b:Nat)(p v:Value)(l:Arc)(w:World)(h:E1 w b p v l):
  Calls prog 130 #[.pointer (some ⟨b,0,none⟩)] w fun e w'=>e= .returned (.int .i64 (l.length:Nat))∧w=w':=by
 obtain⟨a1,c1,a,_⟩:=Aq h.own;subst a;have c:w.cell? ⟨b,1,none⟩=some (.slice a1 l.length c1):=Am7 _ _ 1 _ _ _ h.blk;clear h
 go_enter func130,ntmps130
 go_wp2;go_ret;exact⟨rfl,rfl⟩
theorem Aa.freeze{S:Nat→Prop}{a b:World}(h:Aa S a b){p:Addr}(d:a.heap.size≤p.block∨S p.block)(n:Nat):Aa S a (b.freeze p n):=by
 have c:=Lib.below_freeze (Below.refl 0 b) (p:=p) (Ann _) n;refine⟨c.os.trans h.os,c.tape.trans h.tape,c.output.trans h.output,Ant h.size c.size,fun j f hn=>?_⟩;have e:p.block≠j:=by
  rintro rfl;rcases d with d|d
  ·omega
  ·exact hn d
 refine Eq.trans ?_ (h.block j f hn);unfold World.freeze;split
 ·rfl
 ·simp only[Array.getElem?_modify];rw[if_neg e]
set_option maxRecDepth 100000 in
theorem Up(b:Nat)(p v:Value)(l:Arc)(w:World)(h:E1 w b p v l)(y:l.length≤1000000):
  Calls prog 131 #[.pointer (some ⟨b,0,none⟩)] w fun e w'=>e= .returned (.string ⟨l.toArray⟩)∧Aa (Bk b v) w w':=by
 by_cases d:l=[]
 ·have o:=h.nil d;subst o;subst d;have k:w.drew.cell? ⟨b,1,none⟩=some (.slice none 0 0):=Am7 _ _ 1 _ _ _ h.blk;have f:(Builtin.unsafeSliceData_ #[79] 198 #[.slice none 0 0]).run prog w.drew= .ok (.pointer none) w.drew:=rfl;have i: ∀W,(Builtin.unsafeString_ #[198,3] 9 #[.pointer none,.int .i64 0]).run prog W= .ok (.string .empty) W:=fun W=>Lib.run_unsafeString_none W _ _ _ none;clear h
  go_enter func131,ntmps131
  go_wp2
  go_region
  all_goals(go_wp2;go_ret;exact⟨rfl,(Aa.refl _ _).drew⟩)
 ·have n:0<l.length:=List.length_pos_iff.2 d;obtain⟨g,cap,o,u,t⟩:=Ck h.own n;subst o;have a:=h.own;have k:w.drew.cell? ⟨b,1,none⟩=some (.slice (some ⟨g,0,none⟩) l.length cap):=Am7 _ _ 1 _ _ _ h.blk;have f:(Builtin.unsafeSliceData_ #[79] 198 #[.slice (some ⟨g,0,none⟩) l.length cap]).run prog w.drew= .ok (.pointer (some ⟨g,0,none⟩)) w.drew:=Lib.run_unsafeSliceData_row _ _ _ _ _ _ (by omega);have i:(Builtin.unsafeString_ #[198,3] 9 #[.pointer (some ⟨g,0,none⟩),.int .i64 l.length]).run prog w.drew= .ok (.string ⟨l.toArray⟩) (w.drew.freeze ⟨g,0,none⟩ l.length):=by
   rcases a.2 with⟨c,_⟩|⟨g2,cap2,cur,c,_,s,_,q,r,ht⟩
   ·cases c
   ·cases c;refine Lib.run_unsafeString_row w.drew 198 3 9 5 underlying198 (by kernel_rfl) g cur.size (by have m:w.drew.heap[g]?=some (.cells cur 5 (0,0)):=s;simp[World.shape?,m]) l d (by omega) (by omega) ?_;intro j x c;exact a.cells (g:=g) rfl j (.int .u8 x.toNat) (by simp[Ah,c])
  clear h a
  go_enter func131,ntmps131
  go_wp2
  go_region
  all_goals(go_wp2;go_ret;exact⟨rfl,(Aa.refl _ _).drew.freeze (p:=⟨g,0,none⟩) (.inr (.inr rfl)) _⟩)
end Go.Proofs.YtegnkfdbmmndaaaGreat
