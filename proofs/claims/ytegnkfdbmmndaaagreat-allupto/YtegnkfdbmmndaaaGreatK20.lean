import Derived.Test.YtegnkfdbmmndaaaGreatShelfThree
import Derived.Test.YtegnkfdbmmndaaaGreatK18

set_option maxHeartbeats 8000000
set_option maxRecDepth 100000
namespace Go.Proofs.YtegnkfdbmmndaaaGreat
open Hm Go.Proofs.Tryz
variable{base g n:Nat}{w w':World}{P t:Aeg}{l:Aeh}{fs:Aef}{pl:List (Nat×Nat)}{c:Aej}
section
open Go.RowKit Go.Sort Go.Shelf
theorem kO(g c:Nat)(l:Aeh)(w:World)(h:IntRow w g l)(r:l.length<=1000000):
  Calls prog 163 #[.slice (some ⟨g,0,none⟩) l.length c] w fun e w'=>e= .returned (.tuple #[])/\ ∃f:Aeh,f.Perm l/\f.Pairwise (· <= ·)/\IntRow w' g f/\Aa (fun j=>j=g) w w':=by
 have i:=Any.slices_Sort_int Tryz.lays189 g 0 c (l.map fun x:Nat=>(x:Int)) w
  (fun j k=>by
   have d:j<l.length:=by simpa using k
   refine⟨?_,by simpa using h.free j⟩;rw[Aao,h.cell d,getElem!_pos _ j k];simp)
  h.lt (by rw[Aai];omega)
 rw[Aai]at i;refine i.mono fun e w' ⟨q,m,os,n⟩=>⟨q,l.mergeSort (fun x y=>decide (x<=y)),List.mergeSort_perm _ _,?_,?_,?_⟩
 ·have:=List.pairwise_mergeSort (le:=fun x y:Nat=>decide (x<=y)) (fun a b c h1 h2=>by simp at*;omega) (fun a b=>by simp;omega) l;exact this.imp fun h=>by simpa using h
 ·have o:(l.map fun x:Nat=>(x:Int)).mergeSort (fun x y=>decide (x<=y))=(l.mergeSort fun x y=>decide (x<=y)).map fun x:Nat=>(x:Int):=by
   rw[List.map_mergeSort];intro a _ b _;simp
  rw[n,o];unfold IntRow;have p:=T7 (Value.int .i64) w g m ((l.mergeSort fun x y=>decide (x<=y)).map fun x:Nat=>(x:Int)).toArray os _ _ h (by simp[Ad]);refine Eq.trans p ?_;congr 2;apply Abr;simp[Ad]
 ·rw[n];exact Ny _ w g 0 m _ os
end
section
open Go.RowKit
theorem Dw.tab{B:Nat}{pa:Nat}{s l6:Aeg}{L:Aeh}{l8:Aeg}{st:Bl}(h:Dw B w pa s l6 L l8 st)(o:C5 s l6 L l8 st)(b:UInt8):
  w.cell? ⟨pa,6+3+b.toNat*2,none⟩=some (.int .u64 ((Kh L b).1:Nat))/\w.cell? ⟨pa,6+3+b.toNat*2+1,none⟩=some (.int .i64 ((Kh L b).2:Nat)):=by
 obtain⟨gn,ge,g,ng,nc,gs,b1,b2,b3,v,x,a2,a3,q,r,t,u⟩:=h;obtain⟨col,y,z,k⟩:=Li o.tree;have l:=b.toNat_lt;have e:(Bf L).length=256:=A5 _ _ _ _;have d:(A6 ⟨(l8.take (szB st.len)).toArray⟩ st.len g (Bf L) (S0 ng st.nds.length nc) st.ws (rdN s).1).toArray.size=773:=by
  rw[Aaa];exact Cq _ _ _ _ _ _ _ e k.1
 have a:(Gj l6 (rdF s).1 (rdN s).1 ge).length=5:=rfl;have p:=Gz (A6 ⟨(l8.take (szB st.len)).toArray⟩ st.len g (Bf L) (S0 ng st.nds.length nc) st.ws (rdN s).1).toArray (rdR s).1 (firsts st.ws) d (by unfold firsts;rw[Aai,Acb]);have f: ∀j,j<773->w.cell? (J pa (6+j))=(A6 ⟨(l8.take (szB st.len)).toArray⟩ st.len g (Bf L) (S0 ng st.nds.length nc) st.ws (rdN s).1)[j]?:=fun j n=>by
  rw[zP _ _ (6+j) _ _ _ a2,Aag,P4 _ _ _ _ a j (by omega),aR _ _ _ d j n,Aag]
 have c:b.toNat<(Bf L).length:=by omega
 have i:=Td (Bf L) b.toNat c;have m:Kh L b=(Bf L)[b.toNat]:=by unfold Kh;rw[zG,zH c];rfl
 rw[m];constructor
 ·rw[show 6+3+b.toNat*2=6+(3+b.toNat*2)from by omega,f _ (by omega),Uc _ _ _ _ _ _ _ _ (by omega)];exact i.1
 ·rw[show 6+3+b.toNat*2+1=6+(3+(b.toNat*2+1))from by omega,f _ (by omega),Uc _ _ _ _ _ _ _ _ (by omega)];exact i.2
section
variable (hones:Bc) (hLn:Ez) (B pa:Nat) (s l6:Aeg) (L:Aeh) (l8:Aeg) (st:Bl) (fs:Aef) (ps:Aeh) (w:World) (hP:C5 s l6 L l8 st) (hA:Dw B w pa s l6 L l8 st) (hI:I5 fs s l6 l8 st ps)
include hones hP hA hI
theorem rO(P:Aeg)(hPl:P.length<=281474976710656):
  Calls prog 159 #[.func (.func 160) #[.pointer (some ⟨pa,6,none⟩)] #[],.int .i64 ps.length,.string ⟨P.toArray⟩] w fun e w'=>(∃lo hi:Nat,e= .returned (.tuple #[.int .i64 lo,.int .i64 hi])/\G2 (Ac fs) ps P lo hi)/\Aee w w':=by
 obtain⟨gn,ge,g,ng,nc,gs,N⟩:=hA.parts hP;obtain⟨l,r,c⟩:=J4 hP.tree;have k:=wW hP.tree;have C:=Kk s;have d:=(Qc hP.names).2;have F:=I1 hP.tree C;have u:(⟨(l8.take (szB st.len)).toArray⟩:ByteArray).size<=1000000:=by show(l8.take _).toArray.size<=_;rw[Aaa,zS];omega
 have n:=hI.nN;have t:=hI.small;have o:=hI.sorted;have E:ps.length=(Ac fs).length+1:=by have:=o.perm.length_eq;simpa using this
 rw[n]at d l;rw[n,hI.col]at r c k
 rw[hI.col]at l;refine wX pa 6 P (Ac fs) ps st.ws w o c t hPl (fun W b G H hk h1 h2=>?_);have i:=hA.kept hk (fun _ _ _=>id) id;obtain⟨A,z,v,q,p,B,f⟩:=i.parts hP;have h:=rL pa 6 st.len v q p (rdR s).1 G H b ⟨(l8.take (szB st.len)).toArray⟩ st.nds st.ws (Am (Ac fs) ps) W f.rows (by omega) (by omega) (by omega) (by omega) (fun x O=>by have:=c.first_le x (by omega);omega)
  (fun y a m D=>by
   have j:=i.kept m (fun _ _ _=>id) id;obtain⟨K,M⟩:=j.tab hP b;exact uN hones pa 6 st.len v q p a _ _ b _ st.nds (Am (Ac fs) ps) L y (f.rows.tree.kept m id id id) hP.tree.1 k D u (by omega) K M rfl rfl)
 rw[hI.nR]at h;exact h
include hLn in
theorem nM(row q:Nat)(j:ps[row]?=some q):
  Calls prog 161 #[.func (.func 34) #[.pointer (some ⟨pa,6,none⟩)] #[],.func (.func 162) #[.pointer (some ⟨pa,1036,none⟩)] #[],.int .i64 row] w fun e w'=>e= .returned (.int .i64 q)/\Aee w w':=by
 obtain⟨gn,ge,g,ng,nc,gs,G⟩:=hA.parts hP;obtain⟨x,v⟩:=hA.samp hP;obtain⟨m,n,d⟩:=J4 hP.tree;have H:=Kk s;have i:=(Qc hP.names).2;have P:=I1 hP.tree H;have C:(⟨(l8.take (szB st.len)).toArray⟩:ByteArray).size<=1000000:=by show(l8.take _).toArray.size<=_;rw[Aaa,zS];omega
 have hn:=hI.small;have f:=hI.nN;have a:=hI.sorted.perm;have E:ps.length=(Ac fs).length+1:=by have:=a.length_eq;simpa using this
 have u:(Bb ps).length=Ap (Ac fs).length:=E0 a;obtain⟨X,M⟩:=hI.samp;have K:(l8.drop (szB st.len)).take (szB (Ap (rdN s).1))=Ah (Bb ps):=by
  rw[M,f,<-u,<-Mv,Adi]
 have b:=hP.samp.told;rw[K]at v b;obtain⟨T,c⟩:=gx (⟨(Ah (Bb ps)).toArray⟩:ByteArray);have l:T.data.toList=Ah (Bb ps):=by rw[c]
 have L:T.size=szB (Ap (Ac fs).length):=by rw[c];show(Ah (Bb ps)).toArray.size=_;rw[Aaa,Mv,u]
 rw[<-c]at v;rw[<-l]at b;have y:Lib.bitLen ((Ac fs).length/8)<=10:=Lib.bitLen_le _ 10 (by omega) (by omega);have D:((Ac fs).length/8+1)*Lib.bitLen ((Ac fs).length/8)<=751*10:=Aa4 (by omega) y;have O:Ap (Ac fs).length<=100000:=by unfold Ap;omega
 have F:szB (Ap (Ac fs).length)=(Ap (Ac fs).length+7)/8:=rfl;rw[f]at v b i m;rw[f,hI.col]at n d;rw[hI.col]at m;have B:=hI.sorted;refine kN hones pa 6 1036 st.len g ng nc (rdR s).1 row q _ st.nds st.ws (Am (Ac fs) ps) ps w G.rows n d (by omega) C (by omega) (fun W r p hk t=>?_) (fun row q k j z=>?_) j
 ·exact gP hones hLn pa 1036 _ x (Ac fs).length r p T ps W (v.kept hk id id) hn (by omega) a (fun p _=>by rw[l];exact Mz _ p) (by omega) b t
 ·have t:row<ps.length:=by
   rcases Abf row ps.length with h|h
   ·exact h
   ·rw[Aam h]at j;cases j
  rw[zH t]at j;have o:=Aak j;have A:q<=(Ac fs).length:=by
   have:=a.subset (z6 t);rw[o]at this;have:=List.mem_range.1 this;omega
  obtain⟨_,N,e⟩:=On B d row q t o A k z;refine⟨by omega,by omega,?_⟩;rw[hI.nR,zH N];exact congrArg some e
end
namespace Hm
structure Wa(t P:Aeg)(l:Aeh):Prop where
 asc:l.Pairwise (· < ·)
 iff: ∀q,q∈l↔(q<=t.length/\P<+:t.drop q)
theorem Wa.of{ps:Aeh}{lo hi:Nat}(h:D4 t ps)(k:G2 t ps P lo hi)(g:l.Perm ((ps.drop lo).take (hi-lo)))(m:l.Pairwise (· <= ·)):Wa t P l:=by
 have c:=h.perm.symm.nodup List.nodup_range;have d:=g.symm.nodup ((c.sublist (List.drop_sublist lo ps)).sublist (List.take_sublist _ _));refine⟨?_,fun q=>?_⟩
 ·have:=m.and d;exact this.imp fun⟨h1,h2⟩=>by omega
 ·rw[g.mem_iff];constructor
  ·intro o;obtain⟨i,a,rfl⟩:=Aa5 o;have b:=a;rw[zS,Aas]at b;rw[List.getElem_take,List.getElem_drop];refine⟨?_,(k.iff (lo+i) (by omega)).1 ⟨by omega,by omega⟩⟩;have:=h.perm.subset (z6 (show lo+i<ps.length by omega));have:=List.mem_range.1 this;omega
  ·rintro⟨h1,h2⟩;obtain⟨j,f,e⟩:=O6 h q h1;have n:=(k.iff j f).2 (by rw[e];exact h2);have:((ps.drop lo).take (hi-lo))[j-lo]?=some q:=by
    rw[Ad1,iP,Adq,show lo+(j-lo)=j from by omega,zH f,e]
   exact List.mem_of_getElem? this
def Mf(a:Aeh)(m k:Nat):Aeh:=a.take k++List.replicate (m-k) 0
theorem gQ(a:Aeh)(m k:Nat)(b:a.length=m)(hk:k<=m):(Mf a m k).length=m:=by
 unfold Mf;rw[zL,zS,zV];omega
theorem rP(a:Aeh)(m k:Nat)(d:a.length=m)(hk:k<m)(q:Nat)(c:a[k]?=some q):(Mf a m k).set k q=Mf a m (k+1):=by
 unfold Mf;have b:(a.take k).length=k:=by rw[zS];omega
 rw[Aba _ _ (by omega),b,Abd,show m-k=(m-(k+1))+1 from by omega,Abx,zW,List.take_add_one,c];simp
end Hm
theorem rQ(hones:Bc)(hLn:Ez)(B pa:Nat)(s l6:Aeg)(L:Aeh)(l8:Aeg)(st:Bl)(fs:Aef)(ps:Aeh)(w:World)(hP:C5 s l6 L l8 st)(hA:Dw B w pa s l6 L l8 st)(hI:I5 fs s l6 l8 st ps)(P:Aeg)(hPl:P.length<=281474976710656):
  Calls prog 115 #[.pointer (some ⟨pa,0,none⟩),.string ⟨P.toArray⟩] w fun e w'=> ∃(g:Nat) (l:Aeh),e= .returned (.slice (some ⟨g,0,none⟩) l.length l.length)/\w.heap.size<=g/\IntRow w' g l/\l.length<=6001/\Wa (Ac fs) P l/\Aee w w':=by
 obtain⟨i0,hi,ap,aq,ar⟩:=Aa6 Jy;have G:=hI.sorted;have ao:=hI.small;have ab:ps.length=(Ac fs).length+1:=by have:=G.perm.length_eq;simpa using this
 obtain⟨gn,ge,g,ng,nc,gs,Pt⟩:=hA.parts hP;have t:=Pt.total;rw[hI.nN]at t;have am:pa<w.heap.size:=z9 _ _ t;obtain⟨S,hS⟩:=gx (⟨P.toArray⟩:ByteArray);have u:=fun W (hk:Aee w W)=>rO hones B pa s l6 L l8 st fs ps W hP (hA.kept hk (fun _ _ _=>id) id) hI P hPl;rw[<-hS]at u|-;have ai:Hid (∀W (row q:Nat),Aee w W->ps[row]?=some q->Calls prog 161 #[.func (.func 34) #[.pointer (some (J pa 6))] #[],.func (.func 162) #[.pointer (some (J pa 1036))] #[],I row] W fun e w'=>e= .returned (I q)/\Aee W w'):=
  fun W row q hk hq=>nM hones hLn B pa s l6 L l8 st fs ps W hP (hA.kept hk (fun _ _ _=>id) id) hI row q hq
 obtain⟨N,hN⟩:=gx ((Ac fs).length);rw[ab,<-hN]at u;rw[<-hN]at t ab ao;have M:Hid (∀W,Aee w W->Calls prog 159 #[.func (.func 160) #[.pointer (some (J pa 6))] #[],I ((N:Int)+1),.string S] W fun e w'=>(∃lo hi:Nat,e= .returned (.tuple #[I lo,I hi])/\G2 (Ac fs) ps P lo hi)/\Aee W w'):=fun W hk=>by
  have:=u W hk;rwa[show((N+1:Nat):Int)=(N:Int)+1 from by omega]at this
 have Q:Hid (∀W,Aee w W->Calls prog 35 #[.pointer (some (J pa 6))] W fun e w'=>e= .returned (I N)/\w'=W):=fun W hk=>eU pa 6 N W ((hk.cell (p:=(J pa 778)) am id).trans t);have ak:=hZ G;have a8:IntKind.i64.wrap ((N:Int)+1)=(N:Int)+1:=by rw[Aar];omega
 clear u t Pt hP hA hI G hN hS
 go_enter func115,ntmps115
 go_wp2_with fail
 go_cut[5,6]from 9 (fun v5 v6 wz=> ∃lo hi:Nat,v5=I lo/\v6=I hi/\Hid (G2 (Ac fs) ps P lo hi/\Aee w wz))
 case first=>
  go_region_held(fun X=>Hid (Aee w X)) (first|exact k2|exact k1|exact(Aa.refl (fun _=>False) w).drew)
   (first
    |(go_at_call 35;(refine(Q.o _ (Aa.refl (fun _=>False) w).drew).mono ?_;rintro e w1 ⟨rfl,h⟩;have k1:Hid (Aee w w1):=(by rw[h];exact(Aa.refl (fun _=>False) w).drew);clear h))
    |(go_at_call 159;(refine(M.o _ k1.o).mono ?_;rintro e w2 ⟨⟨lo,hi,rfl,an⟩,n⟩;have k2:Hid (Aee w w2):=k1.o.tr n;clear n)))
  all_goals(go_wp2_with fail;go_meet;case rel=>exact⟨_,_,rfl,rfl,an,k2.o⟩)
 case rest=>
  obtain⟨lo,C,rfl,rfl,H⟩:=hcut;obtain⟨m,hm⟩:=gx (C-lo);have a4:=H.o.1.le;have a3:=H.o.1.in';have zm:(C:Int)-(lo:Int)=(m:Int):=by omega
  obtain⟨d,x⟩:=gx ((ps.drop lo).take (C-lo));have ad:d.length=m:=by rw[x,zS,Aas];omega
  have HQ:Hid (∀k,k<m-> ∃q,d[k]?=some q/\ps[lo+k]?=some q):=fun k hk=>by
   refine⟨d[k]'(by omega),zH (by omega),?_⟩;have e:d[k]?=ps[lo+k]?:=by rw[x,Ad1,iP,Adq]
   rw[<-e,zH (by omega)]
  have b:=hZ (aI x ad);have a6:m<=6001:=by omega
  have ay:lo<=6001:=by omega
  have ae:=H.o.2.size;clear hm x ad M Q
  go_wp2_with(at_make;refine Abv _ rfl (.tmp 26) (.tmp 26) 64 rfl wc.heap.size 3 i0 (I 0) 1 underlying64 hi ap aq .i64 .i64 _ _ m rfl rfl rfl rfl (by rw[ar];omega) (by unfold maxLen;omega) (zK _) ?_;intro w1 aa R)
  have z:Hid (Aee w w1/\IntRow w1 wc.heap.size (List.replicate m 0)):=⟨H.o.2.tr ((Aa.refl _ _).grown R (fun k hk=>by cases hk)),IntRow.made aa⟩;clear aa R;obtain⟨A,T⟩: ∃g,g=wc.heap.size:=⟨_,rfl⟩;rw[<-T]at z ae|-;clear T;go_wp2_with fail
  go_loopw[8,30] (fun _ vi wr=> ∃k:Nat,k<=m/\vi=I k/\IntRow wr A (Mf d m k)/\Aee w wr) (fun _ vi _=>m-(intOf vi).toNat)
  case atStart=>exact⟨0,zZ _,rfl,z.o.2,z.o.1⟩
  case round=>
   obtain⟨k,hk,rfl,a,v⟩:=hrel
   by_cases E:k<m
   ·obtain⟨q,h,n⟩:=HQ.o k E;have ac:=fun W (hk:Aee w W)=>ai.o W (lo+k) q hk n;have Z:(k:Int)<(m:Int):=by omega
    have O:=hZ (aI a (aI v (aI (gQ d m k b.o.2 hk) (rP d m k b.o.2 E q h))));have aj:Hid (∀W,Aee w W->Calls prog 161 #[.func (.func 34) #[.pointer (some (J pa 6))] #[],.func (.func 162) #[.pointer (some (J pa 1036))] #[],I ((lo:Int)+(k:Int))] W fun e w'=>e= .returned (I q)/\Aee W w'):=fun W hk=>by
     have:=ac W hk;rwa[show((lo+k:Nat):Int)=(lo:Int)+(k:Int)from by omega]at this
    have a9:IntKind.i64.wrap ((lo:Int)+(k:Int))=(lo:Int)+(k:Int):=by rw[Aar];omega
    clear a v ac h n;go_wp2_with fail
    go_region_with (first
     |(go_at_call 161;(refine(aj.o _ O.o.2.1.drew).mono ?_;rintro e w5 ⟨rfl,D⟩;have k5:Hid (Aee w w5):=O.o.2.1.drew.tr D;have r5:IntRow w5 A (Mf d m k):=D.row O.o.1 id;have c5:=r5.cell (i:=k) (by rw[O.o.2.2.1];exact E);have f5:=r5.free k;have R5:Hid (IntRow w5 A (Mf d m k)):=r5;clear r5 D)))
    all_goals(
     go_wp2_with fail;go_roundw
     case rel=>
      refine⟨k+1,by omega,by go_num,?_,k5.o.setCell (p:=(J A k)) (.inl ae) _⟩;rw[<-O.o.2.2.2];exact R5.o.set k q
     case measure=>simp[intOf];omega)
   ·have Z: ¬(k:Int)<(m:Int):=by omega
    have V:k=m:=by omega
    have f:Mf d m k=d:=by
     unfold Mf;rw[V,Abd,Adx,Abe,Aap (by rw[b.o.2];exact zK _)]
    rw[f]at a;have F:=kO A m d wr a (by rw[b.o.2];omega);rw[b.o.2]at F;have ah:=hZ v;clear a v f V;go_wp2_with fail;refine F.mono ?_;rintro e w6 ⟨rfl,l,c,y,r,U⟩;have Y:l.length=m:=by rw[c.length_eq,b.o.2]
    have K:Hid (IntRow w6 A l/\l.length=m/\Wa (Ac fs) P l/\Aee w w6):=⟨r,Y,Wa.of ak.o H.o.1 (by rw[<-b.o.1];exact c) y,ah.o.trans U (fun j hj e=>by omega)⟩;clear F c y r U Y;go_wp2_with fail;go_ret;exact⟨A,l,by rw[K.o.2.1];rfl,by have:=H.o.2.size;omega,K.o.1,by rw[K.o.2.1];omega,K.o.2.2.1,K.o.2.2.2⟩
namespace Hm
theorem J6(fs:Aef)(i:Nat)(hi:i<fs.length):(Ac (fs.take (i+1))).length=(Ac (fs.take i)).length+fs[i].2.size:=by
 rw[zQ hi];unfold Ac;rw[Abo,zL];simp
theorem pF(fs:Aef)(i:Nat)(hi:i<fs.length)(a n:Nat)(h:a+n<=fs[i].2.size):part (Ac fs) ((Ac (fs.take i)).length+a) ((Ac (fs.take i)).length+a+n)=(fs[i].2.data.toList.drop a).take n:=by
 have h1:=V7 fs i hi;rw[J6 fs i hi]at h1;rw[<-h1];unfold part;rw[List.drop_take,List.drop_drop,List.take_take];congr 1;omega
theorem Xb(fs:Aef)(i:Nat)(hi:i<fs.length):(Ac (fs.take i)).length+fs[i].2.size<=(Ac fs).length:=by
 have h1:=Oc fs (i:=i+1) (j:=fs.length) (by omega);rw[J6 fs i hi,Aaw]at h1;exact h1
end Hm
theorem Tp(hones:Bc)(B pa:Nat)(s l6:Aeg)(L:Aeh)(l8:Aeg)(st:Bl)(fs:Aef)(ps:Aeh)(w:World)(hP:C5 s l6 L l8 st)(hA:Dw B w pa s l6 L l8 st)(hI:I5 fs s l6 l8 st ps)(i:Nat)(hi:i<fs.length):
  Calls prog 36 #[.pointer (some ⟨pa,1,none⟩),.int .i64 i] w fun e w'=>e= .returned (.tuple #[.int .i64 ((Ac (fs.take i)).length:Nat),.int .i64 ((Ac (fs.take i)).length+fs[i].2.size:Nat)])/\Aee w w':=by
 obtain⟨gn,ge,g,ng,nc,gs,P⟩:=hA.parts hP;have h:=Tm hones pa ge i s l6 w P.ends hP.ends (by rw[hI.nF];exact hi);rw[hI.froms i hi,hI.ends i hi,J6 fs i hi]at h;exact h
theorem rR(hones:Bc)(hLn:Ez)(B pa:Nat)(s l6:Aeg)(L:Aeh)(l8:Aeg)(st:Bl)(fs:Aef)(ps:Aeh)(w:World)(hP:C5 s l6 L l8 st)(hA:Dw B w pa s l6 L l8 st)(hI:I5 fs s l6 l8 st ps)(i a n:Nat)(hi:i<fs.length)(h:a+n<=fs[i].2.size):
  Calls prog 26 #[.pointer (some ⟨pa,0,none⟩),.int .i64 i,.int .i64 a,.int .i64 n] w fun e w'=>e= .returned (.tuple #[.string ⟨((fs[i].2.data.toList.drop a).take n).toArray⟩,.int .i64 0])/\Aee w w':=by
 have c:=Tp hones B pa s l6 L l8 st fs ps w hP hA hI i hi;have p:=Xb fs i hi;have C:=hI.small;have l:=hI.few;have b:Hid (∀W,Aee w W->Calls prog 60 #[.pointer (some (J pa 0)),I (((Ac (fs.take i)).length:Int)+(a:Int)+(n:Int)),I n] W fun e w'=>e= .returned (.string ⟨((fs[i].2.data.toList.drop a).take n).toArray⟩)/\Aee W w'):=fun W hk=>by
  have t:=wZ hones hLn B pa s l6 L l8 st fs ps W hP (hA.kept hk (fun _ _ _=>id) id) hI ((Ac (fs.take i)).length+a+n) n (by omega) (by omega);rw[show(Ac (fs.take i)).length+a+n-n=(Ac (fs.take i)).length+a from by omega,pF fs i hi a n h]at t;rwa[show(((Ac (fs.take i)).length+a+n:Nat):Int)=((Ac (fs.take i)).length:Int)+(a:Int)+(n:Int)from by omega]at t
 obtain⟨gn,x⟩: ∃gn,w.cell? (J pa 0)=some (S0 gn fs.length fs.length):=by
  obtain⟨gn,ge,g,ng,nc,gs,P⟩:=hA.parts hP;exact⟨gn,by rw[<-hI.nF];exact P.names⟩
 obtain⟨F,hF⟩:=gx ((Ac (fs.take i)).length);obtain⟨z,q⟩:=gx (fs[i].2.size);obtain⟨m,u⟩:=gx fs.length;rw[<-hF,<-q]at c p;rw[<-hF]at b;rw[<-q]at h;rw[<-u]at hi x l;obtain⟨R,r⟩:=gx (⟨((fs[i].2.data.toList.drop a).take n).toArray⟩:ByteArray);rw[<-r]at b|-;clear hP hA hI hF q u r;have y: ¬(m:Int)<=(i:Int):=by omega
 have D:((F+z:Nat):Int)-(F:Int)=(z:Int):=by omega
 have A: ¬((z:Int)-(a:Int)<(n:Int)):=by omega
 go_enter func26,ntmps26
 go_wp2_with fail;refine c.mono ?_;rintro e E ⟨rfl,d⟩;have j:=b.o E d;have v:=hZ d;clear c b d;go_wp2_with fail;refine j.mono ?_;rintro e w2 ⟨rfl,f⟩;have k:=hZ (v.o.tr f);clear j f;go_wp2_with fail;go_ret2;exact⟨rfl,k.o⟩
theorem rS(hones:Bc)(B pa:Nat)(s l6:Aeg)(L:Aeh)(l8:Aeg)(st:Bl)(fs:Aef)(ps:Aeh)(w:World)(hP:C5 s l6 L l8 st)(hA:Dw B w pa s l6 L l8 st)(hI:I5 fs s l6 l8 st ps)(f a n:Int)(y: -9223372036854775808<=a)(A:a<=9223372036854775807)
  (h: ∀i:Nat,f=(i:Int)->(hi:i<fs.length)->a<0\/n<0\/(fs[i].2.size:Int)-a<n):
  Calls prog 26 #[.pointer (some ⟨pa,0,none⟩),.int .i64 f,.int .i64 a,.int .i64 n] w fun e w'=>e= .returned (.tuple #[.string ⟨#[]⟩,.int .i64 7])/\Aee w w':=by
 obtain⟨gn,x⟩: ∃gn,w.cell? (J pa 0)=some (S0 gn fs.length fs.length):=by
  obtain⟨gn,ge,g,ng,nc,gs,P⟩:=hA.parts hP;exact⟨gn,by rw[<-hI.nF];exact P.names⟩
 have p:=hI.few
 by_cases C:f<0
 ·clear hP hA hI h
  go_enter func26,ntmps26
  go_wp2_with fail;go_ret2;exact⟨rfl,Aa.refl _ _⟩
 by_cases l:(fs.length:Int)<=f
 ·clear hP hA hI h
  go_enter func26,ntmps26
  go_wp2_with fail;go_ret2;exact⟨rfl,Aa.refl _ _⟩
 obtain⟨i,rfl⟩: ∃i:Nat,f=(i:Int):=⟨f.toNat,by omega⟩;have hi:i<fs.length:=by omega
 have j:=h i rfl hi;have c:=Tp hones B pa s l6 L l8 st fs ps w hP hA hI i hi;have q:=Xb fs i hi;have D:=hI.small;obtain⟨F,hF⟩:=gx ((Ac (fs.take i)).length);obtain⟨z,r⟩:=gx (fs[i].2.size);obtain⟨m,t⟩:=gx fs.length;rw[<-hF,<-r]at c q;rw[<-r]at j;rw[<-t]at hi x p l;clear hP hA hI hF r t h;have G:((F+z:Nat):Int)-(F:Int)=(z:Int):=by omega
 by_cases d:a<0\/n<0
 ·clear j;rcases d with d|d
  ·go_enter func26,ntmps26
   go_wp2_with fail;refine c.mono ?_;rintro e v ⟨rfl,b⟩;have k:=hZ b;clear c b;go_wp2_with fail;go_ret2;exact⟨rfl,k.o⟩
  ·go_enter func26,ntmps26
   go_wp2_with fail;refine c.mono ?_;rintro e v ⟨rfl,b⟩;have k:=hZ b;clear c b;go_wp2_with fail
   all_goals(
    go_ret2;exact⟨rfl,k.o⟩)
 ·have h1: ¬a<0:=fun h=>d (.inl h);have h2: ¬n<0:=fun h=>d (.inr h);have H:(z:Int)-a<n:=by omega
  have E:IntKind.i64.wrap ((z:Int)-a)=(z:Int)-a:=by rw[Aar];omega
  have u:wrap64 ((z:Int)-a)=(z:Int)-a:=by unfold wrap64;omega
  clear j d
  go_enter func26,ntmps26
  go_wp2_with fail;refine c.mono ?_;rintro e v ⟨rfl,b⟩;have k:=hZ b;clear c b;go_wp2_with fail;go_ret2;exact⟨rfl,k.o⟩
end
namespace Hm
def Mg:Aef->Nat->Nat×Nat
 |[],q=>(0,q)
 |f::r,q=>if q<f.2.size then(0,q)else((Mg r (q-f.2.size)).1+1,(Mg r (q-f.2.size)).2)
def Du(fs:Aef)(k:Nat):Nat:=(Ac (fs.take k)).length
theorem Wb(f:ByteArray×ByteArray)(r:Aef)(k:Nat):Du (f::r) (k+1)=f.2.size+Du r k:=by
 unfold Du;rw[Adw];unfold Ac;rw[Aa3,zL];simp
theorem eY(fs:Aef)(k:Nat)(hk:k<fs.length):Du fs (k+1)=Du fs k+fs[k].2.size:=J6 fs k hk
theorem eZ(fs:Aef){i j:Nat}(h:i<=j):Du fs i<=Du fs j:=Oc fs h
theorem M6: ∀(fs:Aef) (k q:Nat) (hk:k<fs.length),Du fs k<=q->q<Du fs k+fs[k].2.size->Mg fs q=(k,q-Du fs k)
 |[],k,q,hk,_,_=>by simp at hk
 |f::r,0,q,_,h1,h2=>by
  have e:Du (f::r) 0=0:=rfl;rw[e]at h2|-;have h2:q<0+f.2.size:=h2;rw[Mg,iP];rfl
 |f::r,k+1,q,hk,h1,h2=>by
  rw[Wb]at h1 h2|-;have h2:q<f.2.size+Du r k+(r[k]'(by simpa using hk)).2.size:=h2;have a:=M6 r k (q-f.2.size) (by simpa using hk) (by omega) (by omega);rw[Mg,iN,a];congr 1;show q-f.2.size-Du r k=_;omega
theorem P6: ∀(fs:Aef) (q:Nat),q<(Ac fs).length-> ∃k,∃hk:k<fs.length,Du fs k<=q/\q<Du fs k+fs[k].2.size
 |[],q,h=>by simp[Ac]at h
 |f::r,q,h=>by
  by_cases c:q<f.2.size
  ·exact⟨0,by simp,zZ _,by show q<0+f.2.size;omega⟩
  ·have e:(Ac (f::r)).length=f.2.size+(Ac r).length:=by unfold Ac;rw[Aa3,zL];simp
   obtain⟨k,hk,h1,h2⟩:=P6 r (q-f.2.size) (by omega);exact⟨k+1,by simpa using hk,by rw[Wb];omega,by rw[Wb];show q<f.2.size+Du r k+r[k].2.size;omega⟩
def aS(fs:Aef)(n:Nat)(x:Nat×Nat):Bool:=decide (x.2+n<=(fs.getD x.1 (⟨#[]⟩,⟨#[]⟩)).2.size)
def Ic(fs:Aef)(n:Nat)(l:Aeh):List (Nat×Nat):=(l.map (Mg fs)).filter (aS fs n)
theorem uQ(fs:Aef)(n:Nat)(l:Aeh)(j:Nat)(a:j<l.length):Ic fs n (l.take (j+1))=Ic fs n (l.take j)++if aS fs n (Mg fs l[j])=true then [Mg fs l[j]]else []:=by
 unfold Ic;rw[zQ a,Abt,Abz];congr 1;show([Mg fs l[j]]:List (Nat×Nat)).filter _=_
 by_cases c:aS fs n (Mg fs l[j])=true
 ·rw[Aeb c,if_pos c];rfl
 ·rw[List.filter_cons_of_neg c,if_neg c];rfl
theorem Ym(fs:Aef)(n:Nat)(l:Aeh):(Ic fs n l).length<=l.length:=by
 unfold Ic;exact Aaf (Ac7 _ _) (by rw[Aai];exact zK _)
def Wc(x y:Nat×Nat):Prop:=x.1<y.1\/(x.1=y.1/\x.2<y.2)
structure Wd(fs:Aef)(P:Aeg)(pl:List (Nat×Nat)):Prop where
 asc:pl.Pairwise Wc
 iff: ∀k a,(k,a)∈pl↔ ∃hk:k<fs.length,P<+:fs[k].2.data.toList.drop a
theorem pG(fs:Aef)(k:Nat)(hk:k<fs.length)(a:Nat)(c:a<=fs[k].2.size): ∃z,(Ac fs).drop (Du fs k+a)=fs[k].2.data.toList.drop a++z:=by
 have h1:=pF fs k hk a (fs[k].2.size-a) (by omega);have d:(fs[k].2.data.toList.drop a).length=fs[k].2.size-a:=by rw[Aas];simp
 have b:(fs[k].2.data.toList.drop a).take (fs[k].2.size-a)=fs[k].2.data.toList.drop a:=Aap (by omega);rw[b]at h1;refine⟨((Ac fs).drop (Du fs k+a)).drop (fs[k].2.size-a),?_⟩;rw[<-h1];unfold part;rw[show(Ac (fs.take k)).length+a+(fs[k].2.size-a)-((Ac (fs.take k)).length+a)=fs[k].2.size-a from by omega];exact(Abh _ _).symm
theorem dC(fs:Aef)(k:Nat)(hk:k<fs.length):fs.getD k (⟨#[]⟩,⟨#[]⟩)=fs[k]:=by rw[zG,zH hk];rfl
theorem Wa.lt(h:Wa t P l)(hP:P≠[]){q:Nat}(a:q∈l):q<t.length:=by
 obtain⟨h1,h2⟩:=(h.iff q).1 a;rcases Abf q t.length with c|c
 ·exact c
 ·rw[Adh c]at h2;exact absurd (List.prefix_nil.1 h2) hP
theorem yN(hP:P≠[])(h:Wa (Ac fs) P l):Wd fs P (Ic fs P.length l):=by
 refine⟨?_,fun k a=>?_⟩
 ·unfold Ic;refine List.Pairwise.filter _ ?_;rw[List.pairwise_map];refine h.asc.imp_of_mem fun{x y} t u r=>?_;obtain⟨k,hk,a1,a2⟩:=P6 fs x (h.lt hP t);obtain⟨d,b,b1,b2⟩:=P6 fs y (h.lt hP u);rw[M6 fs k x hk a1 a2,M6 fs d y b b1 b2];unfold Wc;rcases Aa7 k d with c|c|c
  ·exact .inl c
  ·subst c;exact .inr ⟨rfl,by show x-_<y-_;omega⟩
  ·have:=eZ fs (show d+1<=k from c);rw[eY fs d b]at this;omega
 ·unfold Ic;rw[List.mem_filter,List.mem_map];constructor
  ·rintro⟨⟨q,m,e⟩,o⟩;obtain⟨d,b,b1,b2⟩:=P6 fs q (h.lt hP m);rw[M6 fs d q b b1 b2]at e;obtain⟨rfl,rfl⟩:=Prod.mk.inj e;refine⟨b,?_⟩;have f:=Aay o;rw[dC fs d b]at f;have p:q-Du fs d+P.length<=fs[d].2.size:=f;obtain⟨z,i⟩:=pG fs d b (q-Du fs d) (by omega);have g:=((h.iff q).1 m).2;rw[show Du fs d+(q-Du fs d)=q from by omega]at i;rw[i]at g;refine List.prefix_of_prefix_length_le g (List.prefix_append _ _) ?_;rw[Aas];simp;omega
  ·rintro⟨hk,g⟩;have j:=g.length_le;have v:=List.length_pos_iff.2 hP;rw[Aas]at j;have s:fs[k].2.data.toList.length=fs[k].2.size:=by simp
   obtain⟨z,i⟩:=pG fs k hk a (by omega);have n:=Xb fs k hk;have ht:Du fs k=(Ac (fs.take k)).length:=rfl;refine⟨⟨Du fs k+a,(h.iff _).2 ⟨by omega,by rw[i];exact g.trans (List.prefix_append _ _)⟩,?_⟩,?_⟩
   ·rw[M6 fs k _ hk (by omega) (by omega)];congr 1;omega
   ·refine zJ ?_;show a+P.length<=(fs.getD k _).2.size;rw[dC fs k hk];omega
end Hm
section
open Go.RowKit
theorem uR(hones:Bc)(pa ge k:Nat)(s l6:Aeg)(W:World)(h:Ep W pa 1 ⟨(l6.take (szB (Ak (rdF s).1 (rdN s).1))).toArray⟩ (Ak (rdF s).1 (rdN s).1) ge (rdF s).1 (Cz (rdF s).1 (rdN s).1))(c:Gp l6 (rdF s).1 (rdN s).1)(hk:k<(rdF s).1):
  Calls prog 81 #[.pointer (some ⟨pa,1,none⟩),.int .i64 k] W fun e w'=>e= .returned (.int .i64 (Gy s l6 k:Nat))/\Aee W w':=by
 have hF:=Qz s;have b:=Kk s;have j:=c.fits;have a:=c.cover.ones;have l:(⟨(l6.take (szB (Ak (rdF s).1 (rdN s).1))).toArray⟩:ByteArray).size=szB (Ak (rdF s).1 (rdN s).1):=by
  show(l6.take _).toArray.size=_;rw[Aaa,zS];omega
 have o:=Tg _ _ hF b;have p:=Wv (rdF s).1 (rdN s).1 b;have q:(rdF s).1*Cz (rdF s).1 (rdN s).1<=Ak (rdF s).1 (rdN s).1:=Adz _ _;have r:Ak (rdF s).1 (rdN s).1<=8*szB (Ak (rdF s).1 (rdN s).1):=by unfold szB;omega
 have d:szB (Ak (rdF s).1 (rdN s).1)=(Ak (rdF s).1 (rdN s).1+7)/8:=rfl;have g:Gy s l6 k=Fo (Al (l6.take (szB (Ak (rdF s).1 (rdN s).1)))) (rdF s).1 (Cz (rdF s).1 (rdN s).1) k:=rfl;have i:l6.take (szB (Ak (rdF s).1 (rdN s).1))=(⟨(l6.take (szB (Ak (rdF s).1 (rdN s).1))).toArray⟩:ByteArray).data.toList:=rfl;rw[g];generalize(⟨(l6.take (szB (Ak (rdF s).1 (rdN s).1))).toArray⟩:ByteArray)=T at*;rw[i]at a|-;generalize Cz (rdF s).1 (rdN s).1=low at*;generalize szB (Ak (rdF s).1 (rdN s).1)=z at*;generalize Ak (rdF s).1 (rdN s).1=len at*;generalize(rdF s).1=m at*;obtain⟨h1,h2⟩:=i7 (f:=Al T.data.toList) (k:=rk (Al T.data.toList) (m*low)+k) (n:=len) (by omega);exact o5 hones pa 1 len ge m low k _ T W h (by omega) (by omega) hk (by omega) (by omega) h2 (by omega)
theorem kP(pa b2 b3 i pl v:Nat)(w:World)(h2:w.cell? ⟨b2,0,none⟩=some (.pointer (some ⟨pa,1,none⟩)))(d:w.cell? ⟨b3,0,none⟩=some (.int .i64 pl))
  (a: ∀W,Aee w W->Calls prog 81 #[.pointer (some ⟨pa,1,none⟩),.int .i64 i] W fun e w'=>e= .returned (.int .i64 v)/\Aee W w'):
  Calls prog 165 #[.int .i64 i,.pointer (some ⟨b2,0,none⟩),.pointer (some ⟨b3,0,none⟩)] w fun e w'=>e= .returned (.bool (decide (pl<v)))/\Aee w w':=by
 have j:Hid (decide ((pl:Int)<(v:Int))=decide (pl<v)):=by
  show _=_
  by_cases h:pl<v
  ·rw[zJ h,zJ (by omega)]
  ·rw[zM h,zM (by omega)]
 have k:Hid _:=a;have f:b2<w.heap.size:=z9 _ _ h2;have g:b3<w.heap.size:=z9 _ _ d;clear a
 go_enter func165,ntmps165
 go_wp2_with fail
 go_region_held(fun X=>X.cell? (J b2 0)=some (.pointer (some (J pa 1)))/\X.cell? (J b3 0)=some (I pl)) (first|exact⟨l,m⟩|exact⟨h2,d⟩)
  (first
   |(go_at_call 81;(refine(k.o _ (Aa.refl (fun _=>False) w).drew).mono ?_;rintro e n ⟨rfl,c⟩;have b:Hid (Aee w n):=(Aa.refl (fun _=>False) w).drew.tr c;have l:=(b.o.cell (p:=(J b2 0)) f id).trans h2;have m:=(b.o.cell (p:=(J b3 0)) g id).trans d;clear c)))
 all_goals(
  go_wp2_with fail;go_ret;exact⟨by first|rfl|(rw[<-j.o];rfl),b.o⟩)
theorem nO(b2 b3 n:Nat)(p:Nat->Bool)(w:World)(hn:n<=1000)
  (C: ∀W i,Aee w W->i<n->Calls prog 165 #[.int .i64 i,.pointer (some ⟨b2,0,none⟩),.pointer (some ⟨b3,0,none⟩)] W fun e w'=>e= .returned (.bool (p i))/\Aee W w')
  (d: ∀a b,a<=b->b<n->p a=true->p b=true):
  Calls prog 164 #[.int .i64 n,.func (.func 165) #[] #[.pointer (some ⟨b2,0,none⟩),.pointer (some ⟨b3,0,none⟩)]] w fun e w'=>(∃k:Nat,e= .returned (.int .i64 k)/\k<=n/\(∀a,a<k->p a=false)/\ ∀a,k<=a->a<n->p a=true)/\Aee w w':=by
 have D:Hid _:=C;have A:Hid _:=d;clear C d
 go_enter func164,ntmps164
 go_wp2_with fail
 go_loopw[5,6] (fun y z wr=> ∃lo hi:Nat,y=I lo/\z=I hi/\lo<=hi/\hi<=n/\Hid ((∀a,a<lo->p a=false)/\ ∀a,hi<=a->a<n->p a=true)/\Aee w wr) (fun y z _=>(intOf z-intOf y).toNat)
 case atStart=>exact⟨0,n,rfl,rfl,zZ _,zK _,⟨fun a h=>by omega,fun a h1 h2=>by omega⟩,Aa.refl _ _⟩
 case round=>
  obtain⟨lo,hi,rfl,rfl,E,s,u,j⟩:=hrel;have m:=hZ j
  by_cases F:lo<hi
  ·have t:(lo:Int)<(hi:Int):=by omega
   obtain⟨f,x⟩:=gx ((lo+hi)/2);have K:((lo:Int)+(hi:Int))/2=(f:Int):=by omega
   have q:=D.o wr f j (by omega);have g:Hid (lo<=f/\f<hi):=⟨by omega,by omega⟩;have G:f<1000:=by omega
   clear j x;cases r:p f with
   |false=>
    rw[r]at q;have v:=hZ r;clear r;go_wp2_with fail;refine q.mono ?_;rintro e H ⟨rfl,c⟩;have l:=hZ (m.o.tr c);clear q c;go_wp2_with fail;go_roundw
    case rel=>
     have:=g.o;refine⟨f+1,hi,by go_num,rfl,by omega,s,⟨fun a L=>?_,u.o.2⟩,l.o⟩;cases h:p a with
     |false=>rfl
     |true=>have B:=A.o a f (by omega) (by omega) h;rw[v.o]at B;cases B
    case measure=>have:=g.o;simp[intOf];omega
   |true=>
    rw[r]at q;have v:=hZ r;clear r;go_wp2_with fail;refine q.mono ?_;rintro e H ⟨rfl,c⟩;have l:=hZ (m.o.tr c);clear q c;go_wp2_with fail;go_roundw
    case rel=>
     have:=g.o;exact⟨lo,f,rfl,rfl,by omega,by omega,⟨u.o.1,fun a h1 h2=>A.o f a h1 h2 v.o⟩,l.o⟩
    case measure=>have:=g.o;simp[intOf];omega
  ·have t: ¬(lo:Int)<(hi:Int):=by omega
   obtain rfl:lo=hi:=by omega
   clear j;go_wp2_with fail;go_ret;exact⟨⟨lo,rfl,s,u.o.1,u.o.2⟩,m.o⟩
section
variable (hones:Bc) (hLn:Ez) (B pa:Nat) (s l6:Aeg) (L:Aeh) (l8:Aeg) (st:Bl) (fs:Aef) (ps:Aeh) (w:World) (hP:C5 s l6 L l8 st) (hA:Dw B w pa s l6 L l8 st) (hI:I5 fs s l6 l8 st ps)
include hones hP hA hI
theorem rT(q:Nat)(B:q<(Ac fs).length):
  Calls prog 116 #[.pointer (some ⟨pa,1,none⟩),.int .i64 q] w fun e w'=>(∃k:Nat,e= .returned (.int .i64 k)/\ ∃hk:k<fs.length,Du fs k<=q/\q<Du fs k+fs[k].2.size)/\Aee w w':=by
 obtain⟨gn,ge,g,ng,nc,gs,u⟩:=hA.parts hP;have f:=u.ends.files;rw[hI.nF]at f;have y:pa<w.heap.size:=z9 _ _ f;have M:=hI.few;obtain⟨W0,d⟩:=gx ((w.alloc (.cells #[.pointer (some (J pa 1))] 154)).alloc (.cells #[I q] 3));have l:W0.heap.size=w.heap.size+1+1:=by rw[d];simp
 have j:W0.heap[w.heap.size]?=some (.cells #[.pointer (some (J pa 1))] 154 (0,0)):=by rw[d];exact Ab2 w _ _
 have n:W0.heap[w.heap.size+1]?=some (.cells #[I q] 3 (0,0)):=by rw[d];exact Ab3 w _ _
 have h:Aee w W0:=by rw[d];exact((Aa.refl _ _).alloc _).alloc _
 have D:=cO 0 j;have cf:W0.cell? (J pa (1+3))=some (I fs.length):=(h.cell (p:=(J pa (1+3))) y id).trans f;have G:=nO w.heap.size (w.heap.size+1) fs.length (fun i=>decide (q<Du fs (i+1))) W0 (by omega) (fun W i hk hi=>by
  refine kP pa w.heap.size (w.heap.size+1) i q (Du fs (i+1)) W ((hk.cell (p:=(J w.heap.size 0)) (Aac j) id).trans D) (zP _ _ 0 _ _ _ (hk.row n id)) (fun X H=>?_);have x:=(h.tr hk).tr H;have A:=uR hones pa ge i s l6 X (u.ends.kept x id id) hP.ends (by rw[hI.nF];exact hi);rw[hI.ends i hi]at A;exact A) (fun a b L hb K=>zJ (by have h1:=Aay K;have:=eZ fs (show a+1<=b+1 by omega);omega))
 have m:Hid (∀k:Nat,k<=fs.length->(∀a,a<k->decide (q<Du fs (a+1))=false)->(∀a,k<=a->a<fs.length->decide (q<Du fs (a+1))=true)-> ∃hk:k<fs.length,Du fs k<=q/\q<Du fs k+fs[k].2.size):=fun k h1 h2 F=>by
  have r:Du fs fs.length=(Ac fs).length:=by unfold Du;rw[Aaw]
  have hk:k<fs.length:=by
   rcases Abf k fs.length with c|c
   ·exact c
   ·have N:0<fs.length:=by
     rcases Adn fs.length with z|z
     ·rw[Aaz z]at B;simp[Ac]at B
     ·exact z
    have:=of_decide_eq_false (h2 (fs.length-1) (by omega));rw[show fs.length-1+1=fs.length from by omega,r]at this;omega
  refine⟨hk,?_,?_⟩
  ·rcases Adn k with z|z
   ·rw[z];exact zZ _
   ·have:=of_decide_eq_false (h2 (k-1) (by omega));rw[show k-1+1=k from by omega]at this;omega
  ·have:=Aay (F k (zK _) hk);rwa[eY fs k hk]at this
 have C:=hZ d;have t:=hZ h;clear u f d l j n h hP hA hI
 go_enter func116,ntmps116
 go_upto_region 1 with fail
 rw[<-C.o]
 go_wp2_with(go_at_call 164;refine G.mono ?_;rintro e O ⟨⟨k,rfl,f1,f2,E⟩,v⟩)
 go_ret;exact⟨⟨k,rfl,m.o k f1 f2 E⟩,t.o.tr v⟩
end
def Cg:List (Nat×Nat)->Aei
 |[]=>[]
 |p::r=> .int .i64 p.1:: .int .i64 p.2::Cg r
theorem Sq(l:List (Nat×Nat)):(Cg l).length=l.length*2:=by
 induction l with
 |nil=>rfl
 |cons p r ih=>simp only[Cg,Aau,ih];omega
theorem Sr(l r:List (Nat×Nat)):Cg (l++r)=Cg l++Cg r:=by
 induction l with
 |nil=>rfl
 |cons p l ih=>simp[Cg,ih]
theorem nP(l:List (Nat×Nat)): ∀v∈Cg l,v.oneCell'=true:=by
 induction l with
 |nil=>intro v h;simp[Cg]at h
 |cons p r ih=>
  intro v h;simp only[Cg,List.mem_cons]at h;rcases h with rfl|rfl|h
  ·rfl
  ·rfl
  ·exact ih v h
theorem kQ(l:List (Nat×Nat))(k:Nat):(Cg l).take (k*2)=Cg (l.take k):=by
 induction l generalizing k with
 |nil=>simp[Cg]
 |cons p r ih=>
  cases k with
  |zero=>rfl
  |succ k=>rw[show(k+1)*2=k*2+1+1 from by omega,Cg,Adw,Adw,ih,Adw];rfl
theorem Yn{base' size:Nat}{e:TypeId}{v:Value}{xs:Aei}(h:w.ownsRow base e size v n xs)(hb:base'<=base):w.ownsRow base' e size v n xs:=by
 refine⟨h.1,?_⟩;rcases h.2 with a|⟨g,cap,cur,h1,h2,b⟩
 ·exact .inl a
 ·exact .inr ⟨g,cap,cur,h1,Aaf hb h2,b⟩
theorem P7:(prog.info? 73).map (fun i=>(i.zero,i.size,i.bytes))=some (some (.agg #[.int .i64 0,.int .i64 0]),2,16):=by kernel_rfl
theorem aT(hones:Bc)(hLn:Ez)(B pa:Nat)(s l6:Aeg)(L:Aeh)(l8:Aeg)(st:Bl)(fs:Aef)(ps:Aeh)(w:World)(hP:C5 s l6 L l8 st)(hA:Dw B w pa s l6 L l8 st)(hI:I5 fs s l6 l8 st ps)(P:Aeg)(hPl:P.length<=281474976710656)(hP0:P≠[]):
  Calls prog 61 #[.pointer (some ⟨pa,0,none⟩),.string ⟨P.toArray⟩] w fun e w'=> ∃(v:Value) (pl:List (Nat×Nat)),e= .returned v/\w'.ownsRow w.heap.size 73 2 v pl.length (Cg pl)/\pl.length<=6001/\Wd fs P pl/\Aee w w':=by
 obtain⟨i0,hi,au,av,aw⟩:=Aa6 P7;have G:=rQ hones hLn B pa s l6 L l8 st fs ps w hP hA hI P hPl;have ak:Hid (∀W (q:Nat),Aee w W->q<(Ac fs).length->Calls prog 116 #[.pointer (some (J pa 1)),I q] W fun e w'=>(∃k:Nat,e= .returned (I k)/\ ∃hk:k<fs.length,Du fs k<=q/\q<Du fs k+fs[k].2.size)/\Aee W w'):=
  fun W q hk hq=>rT hones B pa s l6 L l8 st fs ps W hP (hA.kept hk (fun _ _ _=>id) id) hI q hq
 have aj:Hid (∀W (k:Nat),Aee w W->(hk:k<fs.length)->Calls prog 36 #[.pointer (some (J pa 1)),I k] W fun e w'=>e= .returned (.tuple #[I (Du fs k:Nat),I (Du fs k+fs[k].2.size:Nat)])/\Aee W w'):=
  fun W k hk ap=>Tp hones B pa s l6 L l8 st fs ps W hP (hA.kept hk (fun _ _ _=>id) id) hI k ap
 have aA:=hI.small;have a6:=hI.few;obtain⟨S,hS⟩:=gx (⟨P.toArray⟩:ByteArray);have a5:S.size=P.length:=by rw[hS];show P.toArray.size=_;simp
 rw[<-hS]at G|-;clear hP hA hI hS
 go_enter func61,ntmps61
 go_wp2_with fail;refine G.mono ?_;rintro e C ⟨g,l,rfl,ao,t,aq,p,Z⟩;have R:=hZ (aI t (aI p Z));clear G t p Z ao;go_wp2_with fail
 go_loopw[5,15] (fun v5 vi wr=> ∃j:Nat,j<=l.length/\vi=I j/\wr.ownsRow C.heap.size 73 2 v5 (Ic fs P.length (l.take j)).length (Cg (Ic fs P.length (l.take j)))/\Aee C wr) (fun _ vi _=>l.length-(intOf vi).toNat)
 case atStart=>exact⟨0,zZ _,rfl,Aco _ _ _ _,Aa.refl _ _⟩
 case round=>
  obtain⟨j,hj,rfl,b,f⟩:=hrel
  by_cases M:j<l.length
  ·have ac:(j:Int)<(l.length:Int):=by omega
   have ae:IntRow wr g l:=R.o.1.kept f id;have cq:=ae.cell M;have Q:=R.o.2.1.lt hP0 (z6 M);have af:=uQ fs P.length l j M;have K:=R.o.2.2.tr f;have X:=ak.o wr l[j] K Q;have c:Hid _:=af;have HQ:=hZ Q;have n:=hZ (aI b (aI f K));have az:(Ic fs P.length (l.take j)).length<=6001:=Aaf (Ym _ _ _) (by rw[zS];omega);have a9:l[j]<=6000:=by omega
   clear b f K ae af Q;generalize l[j]=q at*;go_wp2_with fail;refine X.mono ?_;rintro e w2 ⟨⟨k,rfl,hk,b1,b2⟩,H⟩;have V:=M6 fs k q hk b1 b2;have E:=aj.o w2 k (n.o.2.2.tr H) hk;have al:=hZ H;have d:aS fs P.length (k,q-Du fs k)=decide (P.length<=Du fs k+fs[k].2.size-q):=by
    unfold aS;rw[dC fs k hk];apply decide_eq_decide.2;show q-Du fs k+P.length<=_↔_;omega
   have A:=Xb fs k hk;have ag:Du fs k=(Ac (fs.take k)).length:=rfl;rw[V,d]at c;clear X H V d;rw[<-ag]at A;obtain⟨F,hF⟩:=gx (Du fs k);obtain⟨z,hz⟩:=gx (fs[k].2.size);rw[<-hF,<-hz]at c E b2 A;rw[<-hF]at b1;obtain⟨a,ha⟩:=gx (q-F);obtain⟨r,hr⟩:=gx (F+z-q);rw[<-ha,<-hr]at c;have za:(q:Int)-(F:Int)=(a:Int):=by omega
   have zr:((F+z:Nat):Int)-(q:Int)=(r:Int):=by omega
   have a7:(k:Int)<=40:=by omega
   clear hF hz ha hr ag;go_wp2_with fail;refine E.mono ?_;rintro e w3 ⟨rfl,aa⟩;have i:=hZ (al.o.tr aa);clear E aa
   by_cases d:P.length<=r
   ·have D:(S.size:Int)<=(r:Int):=by omega
    have hd:=zJ D;rw[zJ d,if_pos rfl]at c;have N:w3.ownsRow C.heap.size 73 2 u5 (Ic fs P.length (l.take j)).length (Cg (Ic fs P.length (l.take j))):=i.o.owns n.o.1 (fun _ _ h=>h);have aB:=(n.o.2.1.tr i.o).size;have am:=hZ (n.o.2.1.tr i.o);generalize Ic fs P.length (l.take j)=pj at*
    go_wp2_with(at_builtin;refine Ay _ rfl (.tmp 38) (.tmp 44) 69 rfl C.heap.size 73 i0 (.agg #[I 0,I 0]) 2 16 underlying69 hi au av aw rfl (by decide) _ _ _ rfl (N.alloc _) (J w3.heap.size 0) 1 1 [I k,I a] rfl rfl ?c1 ?c2 ?c3 ?c4 ?c5 ?_)
    case c1=>
     intro y u hy;rw[Addr.add_lit,Aao];exact(zP _ _ y _ _ _ (zY w3 _)).trans (by rw[Aag];exact hy)
    case c2=>intro u hu;simp at hu;rcases hu with rfl|rfl<;>rfl
    case c3=>unfold maxLen;omega
    case c4=>omega
    case c5=>simp only[World.alloc,Array.size_push];omega
    intro v4 w4 ad U ar;have ab:Aee C w4:=(am.o.alloc _).grown U (fun x hx=> .inl (N.lt x hx).1);have O:w4.ownsRow C.heap.size 73 2 v4 (Ic fs P.length (l.take (j+1))).length (Cg (Ic fs P.length (l.take (j+1)))):=by
     rw[c.o,zL,Sr];exact ad
    obtain⟨a4,c4,m,_⟩:=An O;subst m;have T:Hid _:=aI O ab;clear ad U ar O ab N c;go_wp2_with fail;go_roundw
    case rel=>exact⟨j+1,by omega,by go_num,T.o.1,T.o.2⟩
    case measure=>simp[intOf];omega
   ·have D: ¬(S.size:Int)<=(r:Int):=by omega
    have hd:=zM D;rw[zM d,if_neg (by simp),Abe]at c;obtain⟨a4,c4,m,_⟩:=An n.o.1;subst m;have T:Hid (w3.ownsRow C.heap.size 73 2 (.slice a4 (Ic fs P.length (l.take j)).length c4) (Ic fs P.length (l.take (j+1))).length (Cg (Ic fs P.length (l.take (j+1))))/\Aee C w3):=by
     rw[c.o];exact⟨i.o.owns n.o.1 (fun _ _ h=>h),n.o.2.1.tr i.o⟩
    clear c n;go_wp2_with fail;go_roundw
    case rel=>exact⟨j+1,by omega,by go_num,T.o.1,T.o.2⟩
    case measure=>simp[intOf];omega
  ·have ac: ¬(j:Int)<(l.length:Int):=by omega
   have Y:j=l.length:=by omega
   obtain⟨a4,c4,m,_⟩:=An b;subst m;have HF:Hid (wr.ownsRow w.heap.size 73 2 (.slice a4 (Ic fs P.length (l.take j)).length c4) (Ic fs P.length l).length (Cg (Ic fs P.length l))/\Aee w wr):=by
    have e:l.take j=l:=by rw[Y,Aaw]
    rw[e]at b|-;exact⟨Yn b R.o.2.2.size,R.o.2.2.tr f⟩
   clear b f Y;go_wp2_with fail;go_ret;exact⟨_,rfl,Ic fs P.length l,HF.o.1,Aaf (Ym _ _ _) aq,yN hP0 R.o.2.1,HF.o.2⟩
namespace Hm
theorem Tq{x y:Nat×Nat}(h:Wc x y)(a:Wc y x):False:=by unfold Wc at h a;omega
theorem aU: ∀(a b:List (Nat×Nat)),a.Pairwise Wc->b.Pairwise Wc->(∀x,x∈a↔x∈b)->a=b
 |[],[],_,_,_=>rfl
 |[],y::s,_,_,h=>by have:=(h y).2 (Aab ..);cases this
 |x::r,[],_,_,h=>by have:=(h x).1 (Aab ..);cases this
 |x::r,y::s,d,hb,h=>by
  obtain⟨a1,a2⟩:=Ad0.1 d;obtain⟨b1,b2⟩:=Ad0.1 hb;have e:x=y:=by
   rcases List.mem_cons.1 ((h x).1 (Aab ..))with e|e
   ·exact e
   ·rcases List.mem_cons.1 ((h y).2 (Aab ..))with f|f
    ·exact f.symm
    ·exact(Tq (a1 y f) (b1 x e)).elim
  subst e;rw[aU r s a2 b2 fun z=>?_];constructor
  ·intro c;rcases List.mem_cons.1 ((h z).1 (Aae _ c))with f|f
   ·subst f;exact(Tq (a1 z c) (a1 z c)).elim
   ·exact f
  ·intro c;rcases List.mem_cons.1 ((h z).2 (Aae _ c))with f|f
   ·subst f;exact(Tq (b1 z c) (b1 z c)).elim
   ·exact f
theorem Wd.unique{a b:List (Nat×Nat)}(c:Wd fs P a)(hb:Wd fs P b):a=b:=
 aU a b c.asc hb.asc fun⟨k,q⟩=>(c.iff k q).trans (hb.iff k q).symm
end Hm
theorem nQ(g k c:Nat)(a:Aei)(w:World)(x:a.length=k*2)(hk:k<=1000000)(p: ∀j u,a[j]?=some u->w.cell? ⟨g,j,none⟩=some u)(h1: ∀u∈a,u.oneCell'=true):
  Calls prog 62 #[.slice (some ⟨g,0,none⟩) k c] w fun e w'=> ∃v',e= .returned v'/\w'.ownsRow w.heap.size 73 2 v' k a/\Aee w w':=by
 obtain⟨y,hi,l,m,n⟩:=Aa6 P7;have f:=fun W=>Lib.run_eql_slice_nil (P:=prog) W 69 73 (some (J g 0)) k c 0 0 underlying69;have r:=hZ p;clear p
 go_enter func62,ntmps62
 go_wp2_with(at_builtin;refine wpList_append_own _ rfl (.tmp 5) (.tmp 6) 69 rfl w.heap.size 73 y (.agg #[I 0,I 0]) 2 16 underlying69 hi l m n rfl (by decide) _ _ _ rfl (World.ownsRow_made w #[] 0 (zK _) (zZ _) (by simp)) (J g 0) k c a rfl ?qc1 ?qc2 ?qc3 ?qc4 ?qc5 ?qc6 ?_)
 case qc1=>exact x
 case qc2=>
  intro j u h;rw[Addr.add_lit,Aao];exact Lib.cell?_alloc_some _ (r.o j u h)
 case qc3=>exact h1
 case qc4=>unfold maxLen;omega
 case qc5=>omega
 case qc6=>simp
 intro v' q d b f;obtain⟨t,v,i,_⟩:=An d;subst i;have s:Hid (q.ownsRow w.heap.size 73 2 (.slice t k v) k a/\Aee w q):=⟨by simpa using d,((Aa.refl _ _).alloc _).grown b (fun j h=> .inl (by simp[Value.ownBlock]at h;omega))⟩;clear d b f;go_wp2_with fail;go_ret;exact⟨_,rfl,s.o⟩
theorem nS(w:World):
  Calls prog 62 #[.slice none 0 0] w fun e w'=>e= .returned (.slice none 0 0)/\w'=w:=by
 have a:=fun W=>Lib.run_eql_slice_nil (P:=prog) W 69 73 none 0 0 0 0 underlying69
 go_enter func62,ntmps62
 go_wp2;go_ret;exact⟨rfl,rfl⟩
section
variable (hones:Bc) (hLn:Ez) (B pa:Nat) (s l6:Aeg) (L:Aeh) (l8:Aeg) (st:Bl) (fs:Aef) (ps:Aeh) (w:World) (hP:C5 s l6 L l8 st) (hA:Dw B w pa s l6 L l8 st) (hI:I5 fs s l6 l8 st ps) (P:Aeg) (hPl:P.length<=281474976710656) (hP0:P≠[])
include hones hLn hP hA hI hPl hP0
theorem xA:Calls prog 27 #[.pointer (some ⟨pa,0,none⟩),.string ⟨P.toArray⟩] w fun e w'=> ∃pl:List (Nat×Nat),e= .returned (.tuple #[.int .i64 pl.length,.int .i64 0])/\pl.length<=6001/\Wd fs P pl/\Aee w w':=by
 have b:=aT hones hLn B pa s l6 L l8 st fs ps w hP hA hI P hPl hP0;obtain⟨S,f⟩:=gx (⟨P.toArray⟩:ByteArray);have k:S.toList.isEmpty=false:=by
  rw[Lx];refine zM fun h=>hP0 (Aaz ?_);rw[<-h,f];show _=P.toArray.size;simp
 rw[<-f]at b|-;clear hP hA hI f
 go_enter func27,ntmps27
 go_wp2_with fail;refine b.mono ?_;rintro e n ⟨v,pl,rfl,a,g,d,c⟩;obtain⟨l,m,i,_⟩:=An a;subst i;have j:=hZ (aI g (aI d c));clear b a d c;go_wp2_with fail;go_ret2;exact⟨pl,rfl,j.o⟩
theorem uS(M:Nat)(hM:M<=9223372036854775807):Calls prog 28 #[.pointer (some ⟨pa,0,none⟩),.string ⟨P.toArray⟩,.int .i64 M] w fun e w'=> ∃(pl:List (Nat×Nat)) (v:Value),e= .returned (.tuple #[v,.int .i64 0])/\w'.ownsRow w.heap.size 73 2 v (pl.take M).length (Cg (pl.take M))/\pl.length<=6001/\Wd fs P pl/\Aee w w':=by
 have m:=aT hones hLn B pa s l6 L l8 st fs ps w hP hA hI P hPl hP0;obtain⟨S,z⟩:=gx (⟨P.toArray⟩:ByteArray);have V:S.toList.isEmpty=false:=by
  rw[Lx];refine zM fun h=>hP0 (Aaz ?_);rw[<-h,z];show _=P.toArray.size;simp
 rw[<-z]at m|-;clear hP hA hI z
 go_enter func28,ntmps28
 go_wp2_with fail;refine m.mono ?_;rintro e R ⟨v,pl,rfl,b,N,p,n⟩;obtain⟨k,hk⟩:=gx (min M pl.length);have K:k<=pl.length:=by omega
 have r:(pl.take M).length=k:=by rw[zS,hk]
 have q:pl.take M=pl.take k:=by
  apply List.ext_getElem?;intro i;rw[Ad1,Ad1]
  by_cases c:i<pl.length
  ·by_cases d:i<M
   ·rw[if_pos d,iP]
   ·rw[if_neg d,iN]
  ·rw[Aam (by omega)];split<;>split<;>rfl
 have y:min (M:Int) (pl.length:Int)=(k:Int):=by omega
 have l:=hZ (aI N (aI p (aI n (aI r q))));rcases b.2 with⟨rfl,Y⟩|⟨g,cap,cur,rfl,A,C,D,E,F,G⟩
 ·have H:k=0:=by omega
  subst H;have f:=nS R;have X:min (M:Int) 0=0:=by omega
  clear m b p n r q hk K y;go_wp2_with fail;refine f.mono ?_;rintro e w2 ⟨rfl,rfl⟩;clear f;go_wp2_with fail;go_ret2;refine⟨pl,_,rfl,?_,l.o.1,l.o.2.1,l.o.2.2.1⟩;rw[l.o.2.2.2.2];exact Aco _ _ _ _
 ·have f:=nQ g k cap (Cg (pl.take k)) R (by rw[Sq,zS];omega) (by omega) (fun j u t=>by
   rw[b.cellAt j (by
    have h2:=(List.getElem?_eq_some_iff.1 t).1;rw[Sq,zS]at h2;omega)]
   rw[<-kQ,Ad1]at t;split at t
   ·exact t
   ·cases t) (nP _)
  have W:k<=cap:=by omega
  clear m b p n r q A C D E F G hk;go_wp2_with fail;refine f.mono ?_;rintro e w2 ⟨v',rfl,a,x⟩;obtain⟨T,U,O,_⟩:=An a;subst O;have Q:Hid (w2.ownsRow w.heap.size 73 2 (.slice T k U) (pl.take M).length (Cg (pl.take M))/\Aee w w2):=by
   refine⟨?_,l.o.2.2.1.tr x⟩;rw[l.o.2.2.2.1,l.o.2.2.2.2];exact Yn a l.o.2.2.1.size
  clear f a x;go_wp2_with fail;go_ret2;exact⟨pl,_,rfl,Q.o.1,l.o.1,l.o.2.1,Q.o.2⟩
end
namespace Hm
def Fz(c P:Aeg)(k:Nat):Aeh:=(List.range k).filter fun a=>decide ((c.drop a).take P.length=P)
theorem nT(c P:Aeg)(k:Nat):Fz c P (k+1)=Fz c P k++if(c.drop k).take P.length=P then [k]else []:=by
 unfold Fz;rw[Acm,Abz];congr 1
 by_cases h:(c.drop k).take P.length=P
 ·rw[if_pos h];simp[h]
 ·rw[if_neg h];simp[h]
theorem fA(c P:Aeg)(k:Nat):(Fz c P k).length<=k:=by
 unfold Fz;exact Aaf (Ac7 _ _) (by simp)
def Mh(c P:Aeg):Nat:=c.length+1-P.length
def Fc(fs:Aef)(P:Aeg)(i:Nat):List (Nat×Nat):=(List.range i).flatMap fun j=>(Fz (fs.getD j (⟨#[]⟩,⟨#[]⟩)).2.data.toList P (Mh (fs.getD j (⟨#[]⟩,⟨#[]⟩)).2.data.toList P)).map fun a=>(j,a)
theorem Tr(fs:Aef)(P:Aeg)(i:Nat):Fc fs P (i+1)=Fc fs P i++(Fz (fs.getD i (⟨#[]⟩,⟨#[]⟩)).2.data.toList P (Mh (fs.getD i (⟨#[]⟩,⟨#[]⟩)).2.data.toList P)).map fun a=>(i,a):=by
 unfold Fc;rw[Acm,Abo];simp
theorem fB(fs:Aef)(P:Aeg)(i k a:Nat):(k,a)∈Fc fs P i↔k<i/\a<Mh (fs.getD k (⟨#[]⟩,⟨#[]⟩)).2.data.toList P/\((fs.getD k (⟨#[]⟩,⟨#[]⟩)).2.data.toList.drop a).take P.length=P:=by
 unfold Fc Fz;simp only[List.mem_flatMap,List.mem_range,List.mem_map,List.mem_filter,decide_eq_true_eq,Prod.mk.injEq];constructor
 ·rintro⟨j,d,b,⟨h1,h2⟩,rfl,rfl⟩;exact⟨d,h1,h2⟩
 ·rintro⟨h1,h2,c⟩;exact⟨k,h1,a,⟨h2,c⟩,rfl,rfl⟩
theorem fC(fs:Aef)(P:Aeg): ∀i,(Fc fs P i).Pairwise Wc
 |0=>List.Pairwise.nil
 |i+1=>by
  rw[Tr,List.pairwise_append];refine⟨fC fs P i,?_,?_⟩
  ·rw[List.pairwise_map];unfold Fz;refine(List.Pairwise.filter _ (List.pairwise_lt_range)).imp fun{a b} h=>?_;exact .inr ⟨rfl,h⟩
  ·intro x c y d;obtain⟨k,a⟩:=x;have h1:=((fB fs P i k a).1 c).1;obtain⟨b,_,rfl⟩:=List.mem_map.1 d;exact .inl h1
theorem kR(fs:Aef)(P:Aeg)(hP:P≠[]):Wd fs P (Fc fs P fs.length):=by
 refine⟨fC fs P fs.length,fun k a=>?_⟩;rw[fB];have d:=List.length_pos_iff.2 hP;have key: ∀c:Aeg,(a<Mh c P/\(c.drop a).take P.length=P)↔P<+:c.drop a:=by
  intro c;rw[List.prefix_iff_eq_take];constructor
  ·rintro⟨_,h⟩;exact h.symm
  ·intro h;refine⟨?_,h.symm⟩;have b:=congrArg List.length h;rw[zS,Aas]at b;unfold Mh;omega
 constructor
 ·rintro⟨h1,h2⟩;refine⟨h1,?_⟩;have:=(key _).1 h2;rwa[zG,zH h1]at this
 ·rintro⟨hk,h⟩;refine⟨hk,(key _).2 ?_⟩;rw[zG,zH hk];exact h
theorem kS(fs:Aef)(P:Aeg)(b:Nat)(hb: ∀j,(fs.getD j (⟨#[]⟩,⟨#[]⟩)).2.data.toList.length<=b): ∀i,(Fc fs P i).length<=i*(b+1)
 |0=>by simp[Fc]
 |i+1=>by
  have a:=kS fs P b hb i;rw[Tr,zL,Aai,Ab4];have h1:=fA (fs.getD i (⟨#[]⟩,⟨#[]⟩)).2.data.toList P (Mh (fs.getD i (⟨#[]⟩,⟨#[]⟩)).2.data.toList P);have h2:=hb i;unfold Mh at h1|-;omega
end Hm
theorem aV(ao:Aej)(c:Nat)(fs:Aef)(P:Aeg)(w:World)(hf:Az w ao fs)(hl:fs.length<=40)(n: ∀f∈fs,f.2.size<=30000)(hP:P.length<=281474976710656):
  Calls prog 109 #[.slice ao fs.length c,.string ⟨P.toArray⟩] w fun e w'=> ∃v,e= .returned v/\w'.ownsRow w.heap.size 73 2 v (Fc fs P fs.length).length (Cg (Fc fs P fs.length))/\Aee w w':=by
 obtain⟨i0,hi,af,ag,ah⟩:=Aa6 P7;have HB:Hid (∀i,i<=40->(Fc fs P i).length<=1300000):=fun i hi=>by
  have:=kS fs P 30000 (fun j=>by
   by_cases h:j<fs.length
   ·rw[zG,zH h];have:=n _ (z6 h);show(fs[j].2.data.toList).length<=30000;rw[Ab1];exact this
   ·rw[zG,Aam (by omega)];exact zZ _) i
  have h2:i*(30000+1)<=40*30001:=Abs _ hi;omega
 obtain⟨S,O⟩:=gx (⟨P.toArray⟩:ByteArray);have ax:S.size=P.length:=by rw[O];show P.toArray.size=_;simp
 have HS:Hid (S.toList=P):=by show _=_;rw[O,Aa2]
 have HF:=hZ (aI hf n);rw[<-O];clear O hf n
 go_enter func109,ntmps109
 go_wp2_with fail
 go_loopw[5,6] (fun vl vi wr=> ∃i:Nat,i<=fs.length/\vi= .int .i64 i/\wr.ownsRow w.heap.size 73 2 vl (Fc fs P i).length (Cg (Fc fs P i))/\Hid (Aee w wr)) (fun _ vi _=>fs.length-(intOf vi).toNat)
 case atStart=>exact⟨0,zZ _,rfl,Aco _ _ _ _,Aa.refl _ _⟩
 case round=>
  obtain⟨i,a2,rfl,d,Q⟩:=hrel
  by_cases s:i<fs.length
  ·obtain⟨M,hd⟩:=dT i fs.length;obtain⟨b,o,rfl,_,_,c2⟩:=(HF.o.1.kept Q.o (fun _ _=>id)) i s;have az:=HF.o.2 _ (z6 s);have p:Hid (Fc fs P (i+1)=Fc fs P i++(Fz fs[i].2.data.toList P (Mh fs[i].2.data.toList P)).map fun a=>(i,a)):=by
    show _=_;rw[Tr,zG,zH s];rfl
   have G:=HB.o (i+1) (by omega);rw[p.o,zL,Aai]at G;generalize fs[i].2=C at*;have W:C.data.toList.length=C.size:=by rw[Ab1];rfl
   obtain⟨a0,b0,D,_⟩:=An d;subst D;have U:=hZ d;generalize Fc fs P i=J at*;clear d;have B:Mh C.data.toList P=C.size+1-P.length:=by unfold Mh;rw[W]
   rw[B]at G p;go_wp2_with fail;have R:=hZ Q;generalize wr=WR at*
   go_loopw[5,8] (fun vl vk wq=> ∃k:Nat,k<=C.size+1-P.length/\vk= .int .i64 k/\wq.ownsRow w.heap.size 73 2 vl (J++(Fz C.data.toList P k).map fun a=>(i,a)).length (Cg (J++(Fz C.data.toList P k).map fun a=>(i,a)))/\Hid (Aee w wq)) (fun _ vk _=>C.size+1-P.length-(intOf vk).toNat)
   case atStart=>exact⟨0,zZ _,rfl,by simpa[Fz]using U.o,R⟩
   case round=>
    obtain⟨k,hk,rfl,d,m⟩:=hrel;obtain⟨a1,b1,ad,_⟩:=An d;subst ad;have K:=fA C.data.toList P k;have zk:(k:Int)+(P.length:Int)=((k+P.length:Nat):Int):=by omega
    obtain⟨q,hq⟩:=gx (k+P.length);rw[<-hq]at zk;have V:=hZ hq;have A:k<C.size+1-P.length↔q<=C.size:=by omega
    clear hq
    by_cases aa:q<=C.size
    ·have r:(q:Int)<=(C.size:Int):=by omega
     have Y:=zJ r;have a5:(k:Int)<=(q:Int):=by have:=V.o;omega
     have a3:=A.2 aa;clear A;have E:Hid (((C.extract k q).toList==S.toList)=decide ((C.data.toList.drop k).take P.length=P)):=by
      show _=_;have e:(C.extract k q).toList=(C.data.toList.drop k).take P.length:=by
       rw[Aa2,Acu,Ac1,Ab5,V.o,Acq]
      rw[e,HS.o]
      by_cases h:(C.data.toList.drop k).take P.length=P
      ·rw[h,zJ rfl];simp
      ·rw[zM h,Aat];exact h
     have l:Hid (Fz C.data.toList P (k+1)=Fz C.data.toList P k++if(C.data.toList.drop k).take P.length=P then [k]else []):=nT _ _ _;have g:=hZ d;have ay:(J++(Fz C.data.toList P k).map fun a=>(i,a)).length<=1400000:=by
      rw[zL,Aai];omega
     clear d
     by_cases F:(C.data.toList.drop k).take P.length=P
     ·rw[zJ F]at E;rw[if_pos F]at l;have hE:=E.o;have T:Hid (J++(Fz C.data.toList P (k+1)).map (fun a=>(i,a))=(J++(Fz C.data.toList P k).map fun a=>(i,a))++[(i,k)]):=by
       show _=_;rw[l.o,Abt,Aaj];rfl
      clear F E l K;generalize(J++(Fz C.data.toList P k).map fun a=>(i,a))=A1 at*;have t:=g.o;have n:=m.o.size
      go_wp2_with(at_builtin;refine Ay _ rfl (.tmp 38) (.tmp 42) 69 rfl w.heap.size 73 i0 (.agg #[.int .i64 0,.int .i64 0]) 2 16 underlying69 hi af ag ah rfl (by decide) _ _ _ rfl (t.alloc _) ⟨wr.heap.size,0,none⟩ 1 1 [.int .i64 i,.int .i64 k] rfl rfl ?c1 ?c2 ?c3 ?c4 ?c5 ?_)
      case c1=>
       intro y u hy;rw[Addr.add_lit,Aao];exact(zP _ _ y _ _ _ (zY wr _)).trans (by rw[Aag];exact hy)
      case c2=>intro u hu;simp at hu;rcases hu with rfl|rfl<;>rfl
      case c3=>unfold maxLen;omega
      case c4=>omega
      case c5=>simp only[World.alloc,Array.size_push];omega
      intro v4 w4 N H ab;have L:Aee w w4:=(m.o.alloc _).grown H (fun x hx=> .inl (t.lt x hx).1);have z:w4.ownsRow w.heap.size 73 2 v4 (A1++[(i,k)]).length (Cg (A1++[(i,k)])):=by
       rw[zL,Sr];exact N
      obtain⟨a4,c4,ae,_⟩:=An z;subst ae;have H4:Hid _:=aI z L;clear N H ab z L t g;go_wp2_with fail;go_roundw
      case rel=>exact⟨k+1,by omega,by go_num,by rw[T.o];exact H4.o.1,H4.o.2⟩
      case measure=>simp[intOf];omega
     ·rw[zM F]at E;rw[if_neg F,Abe]at l;have hE:=E.o;clear F E K;go_wp2_with fail;go_roundw
      case rel=>exact⟨k+1,by omega,by go_num,by rw[l.o];exact g.o,m⟩
      case measure=>simp[intOf];omega
    ·have r: ¬(q:Int)<=(C.size:Int):=by omega
     have Y:=zM r;have Z:C.size+1-P.length=k:=by have:=V.o;omega
     clear A;have g:Hid (wr.ownsRow w.heap.size 73 2 (.slice a1 (J++(Fz C.data.toList P k).map fun a=>(i,a)).length b1) (Fc fs P (i+1)).length (Cg (Fc fs P (i+1)))):=by
      rw[p.o,Z];exact d
     clear d;go_wp2_with fail;go_roundw
     case rel=>exact⟨i+1,by omega,by go_num,g.o,m⟩
     case measure=>simp[intOf];omega
  ·obtain⟨M,hd⟩:=dF i fs.length;have X:i=fs.length:=by omega
   subst X;obtain⟨a0,b0,D,_⟩:=An d;subst D;have U:=hZ d;clear d;go_wp2_with fail;go_ret;exact⟨_,rfl,U.o,Q.o⟩
def L7(w:World)(a:Aej)(pl:List (Nat×Nat)):Prop:=
 ∀i,(h:i<pl.length)-> ∃b o,a=some (J b o)/\b<w.heap.size/\w.cell? (J b (o+i*2))=some (I (pl[i].1:Nat))/\w.cell? (J b (o+i*2+1))=some (I (pl[i].2:Nat))
theorem nU(l:List (Nat×Nat)): ∀i,(h:i<l.length)->(Cg l)[i*2]?=some (.int .i64 (l[i].1:Nat))/\(Cg l)[i*2+1]?=some (.int .i64 (l[i].2:Nat)):=by
 induction l with
 |nil=>intro i h;simp at h
 |cons p r ih=>
  intro i h;cases i with
  |zero=>exact⟨rfl,rfl⟩
  |succ i=>
   have:=ih i (by simpa using h);rw[show(i+1)*2=i*2+1+1 from by omega];simpa[Cg]using this
theorem L7.owns{b c:Nat}{a:Aej}(h:w.ownsRow b 73 2 (.slice a n c) pl.length (Cg pl)):L7 w a pl:=fun i hi=>by
 rcases h.2 with⟨e,j⟩|⟨g,cap,cur,e,h1,h2,k⟩
 ·omega
 ·cases e;obtain⟨d,f⟩:=nU pl i hi;exact⟨g,0,rfl,Aac h2,by rw[Aao,h.cellAt _ (by omega)];exact d,by rw[Aao,h.cellAt _ (by omega)];exact f⟩
theorem L7.take(h:L7 w c pl)(k:Nat):L7 w c (pl.take k):=fun i hi=>by
 have a:i<pl.length:=by rw[zS]at hi;omega
 obtain⟨b,o,e,h1,h2,d⟩:=h i a;exact⟨b,o,e,h1,by rw[List.getElem_take];exact h2,by rw[List.getElem_take];exact d⟩
theorem L7.kept{S:Nat->Prop}(h:L7 w c pl)(hk:Aa S w w')(hn: ∀a,c=some a-> ¬S a.block):L7 w' c pl:=fun i hi=>by
 obtain⟨b,o,e,hb,h1,h2⟩:=h i hi;have hs:=hn _ e;exact⟨b,o,e,by have:=hk.size;omega,(hk.cell (p:=⟨b,o+i*2,none⟩) hb hs).trans h1,(hk.cell (p:=⟨b,o+i*2+1,none⟩) hb hs).trans h2⟩
theorem kT(j:Aej)(c:Nat)(fs:Aef)(P:Aeg)(w:World)(l:Az w j fs)(n:fs.length<=40)(h: ∀f∈fs,f.2.size<=30000)(hP:P.length<=281474976710656):
  Calls prog 56 #[.slice j fs.length c,.string ⟨P.toArray⟩] w fun e w'=>e= .returned (.tuple #[.int .i64 (if P=[]then 0 else((Fc fs P fs.length).length:Nat):Int),.int .i64 (if P=[]then 8 else 0)])/\Aee w w':=by
 have d:=aV j c fs P w l n h hP;obtain⟨S,i⟩:=gx (⟨P.toArray⟩:ByteArray);have k:Hid (S.toList.isEmpty=decide (P=[])):=by
  show _=_;rw[i,Aa2];cases P<;>simp
 have g:Hid ((S.toList==[])=decide (P=[])):=by
  show _=_;rw[i,Aa2];cases P<;>simp
 rw[<-i]at d|-;clear i l h
 go_enter func56,ntmps56
 by_cases a:P=[]
 ·have h1:=k.o;have h2:=g.o;rw[zJ a]at h1 h2;rw[if_pos a,if_pos a];clear a;go_wp2_with fail;go_ret2;exact⟨rfl,Aa.refl _ _⟩
 ·have h1:=k.o;have h2:=g.o;rw[zM a]at h1 h2;rw[if_neg a,if_neg a];clear a;go_wp2_with fail;refine d.mono ?_;rintro e r ⟨v,rfl,b,hk⟩;obtain⟨a1,q,p,_⟩:=An b;subst p;have m:=hZ hk;clear d b hk;go_wp2_with fail;go_ret2;exact⟨rfl,m.o⟩
theorem gR(r:Aej)(c:Nat)(fs:Aef)(P:Aeg)(M:Int)(w:World)(F:Az w r fs)(G:fs.length<=40)(n: ∀f∈fs,f.2.size<=30000)(hP:P.length<=281474976710656):
  Calls prog 57 #[.slice r fs.length c,.string ⟨P.toArray⟩,.int .i64 M] w fun e w'=>Aee w w'/\((P=[]\/M<0)/\e= .returned (.tuple #[.slice none 0 0,.int .i64 8])\/ ∃(m:Nat) (E:Aej) (d:Nat),P≠[]/\M=m/\L7 w' E ((Fc fs P fs.length).take m)/\e= .returned (.tuple #[.slice E ((Fc fs P fs.length).take m).length d,.int .i64 0])):=by
 have l:=aV r c fs P w F G n hP;obtain⟨S,t⟩:=gx (⟨P.toArray⟩:ByteArray);have z:Hid (S.toList.isEmpty=decide (P=[])):=by
  show _=_;rw[t,Aa2];cases P<;>simp
 rw[<-t]at l|-;clear t F n
 go_enter func57,ntmps57
 by_cases j:P=[]
 ·have h1:=z.o;rw[zJ j]at h1;have q:=hZ j;clear j;go_wp2_with fail;go_ret2;exact⟨Aa.refl _ _,.inl ⟨.inl q.o,rfl⟩⟩
 ·have h1:=z.o;rw[zM j]at h1;have q:=hZ j;clear j
  by_cases hM:M<0
  ·have hd:=zJ hM;go_wp2_with fail;go_ret2;exact⟨Aa.refl _ _,.inl ⟨.inr hM,rfl⟩⟩
  ·have hd:=zM hM;obtain⟨m,rfl⟩: ∃m:Nat,M=m:=⟨M.toNat,by omega⟩;go_wp2_with fail;refine l.mono ?_;rintro e O ⟨v,rfl,a,hk⟩;obtain⟨a1,s,N,u⟩:=An a;subst N;have B:=hZ hk;have k:=hZ (L7.owns a);have i:Hid ((Fc fs P fs.length).length=0\/ ∃g,a1=some (J g 0)):=by
    rcases a.2 with⟨e,j⟩|⟨g,cap,cur,e,_⟩
    ·exact .inl j
    ·exact .inr ⟨g,(Value.slice.inj e).1⟩
   obtain⟨A,hA⟩:=gx (Fc fs P fs.length);have b:=hZ hA.symm;rw[<-hA]at k i u|-;clear l a hk hA
   by_cases H:m<A.length
   ·obtain⟨x,y⟩:=dT m A.length;obtain⟨g,rfl⟩: ∃g,a1=some (J g 0):=by
     rcases i.o with h|h
     ·omega
     ·exact h
    have L:(m:Int)<=(s:Int):=by omega
    have K:(0:Int)<=(m:Int):=by omega
    have p:(A.take m).length=m:=by rw[zS];omega
    have C:=hZ (aI (k.o.take m) p);clear p i;go_wp2_with fail;go_ret2;exact⟨B.o,.inr ⟨m,some (J g 0),s,q.o,rfl,by rw[b.o];exact C.o.1,by rw[b.o,C.o.2];rfl⟩⟩
   ·obtain⟨x,y⟩:=dF m A.length;have D:Hid (A.take m=A):=Aap (by omega);clear i;go_wp2_with fail;go_ret2;exact⟨B.o,.inr ⟨m,a1,s,q.o,rfl,by rw[b.o,D.o];exact k.o,by rw[b.o,D.o];rfl⟩⟩
def yO(fs:Aef)(f a n:Int)(w w':World)(e:Ending):Prop:=w'=w/\((∃(i x y:Nat) (hi:i<fs.length),f=i/\a=x/\n=y/\x+y<=fs[i].2.size/\e= .returned (.tuple #[.string ⟨((fs[i].2.data.toList.drop x).take y).toArray⟩,.int .i64 0]))\/(∀i:Nat,f=(i:Int)->(hi:i<fs.length)->a<0\/n<0\/(fs[i].2.size:Int)-a<n)/\e= .returned (.tuple #[.string ⟨#[]⟩,.int .i64 7]))
theorem dD(s:Aej)(c:Nat)(fs:Aef)(f a n:Int)(w:World)(t:Az w s fs)(_hl:fs.length<=40)(d: ∀x∈fs,x.2.size<=30000)(Q:a<=9223372036854775807)(hn:n<=9223372036854775807):
  Calls prog 55 #[.slice s fs.length c,.int .i64 f,.int .i64 a,.int .i64 n] w fun e w'=>yO fs f a n w w' e:=by
 have r:=hZ (aI t d);clear t d
 go_enter func55,ntmps55
 by_cases h1:f<0
 ·have d1:=zJ h1;go_wp2_with fail;go_ret2;exact⟨rfl,.inr ⟨fun i e hi=>by omega,rfl⟩⟩
 ·have d1:=zM h1;obtain⟨i,rfl⟩: ∃i:Nat,f=i:=⟨f.toNat,by omega⟩
  by_cases h2:i<fs.length
  ·have D:decide ((fs.length:Int)<=(i:Int))=false:=zM (by omega)
   by_cases h:a<0
   ·have E:=zJ h;go_wp2_with fail;go_ret2;exact⟨rfl,.inr ⟨fun _ _ _=> .inl h,rfl⟩⟩
   ·have E:=zM h;obtain⟨x,rfl⟩: ∃x:Nat,a=x:=⟨a.toNat,by omega⟩
    by_cases k:n<0
    ·have F:=zJ k;go_wp2_with fail;go_ret2;exact⟨rfl,.inr ⟨fun _ _ _=> .inr (.inl k),rfl⟩⟩
    ·have F:=zM k;obtain⟨y,rfl⟩: ∃y:Nat,n=y:=⟨n.toNat,by omega⟩;obtain⟨b,o,rfl,_,_,B⟩:=r.o.1 i h2;have m:=r.o.2 _ (z6 h2);have N:Hid (∃C,C=fs[i].2):=⟨_,rfl⟩;have K:(i:Int)<(fs.length:Int):=by omega
     obtain⟨C,l⟩:=gx (fs[i].2);have g:=hZ l;rw[<-l]at B m;clear l
     by_cases O:C.size<x
     ·have G:=(dT C.size x).2;go_wp2_with fail;go_ret2;refine⟨rfl,.inr ⟨fun j e u=>?_,rfl⟩⟩;have:j=i:=by omega
      subst this;rw[<-g.o];right;right;omega
     ·have G:=(dF C.size x).2;obtain⟨z,A⟩:=gx (C.size-x);have S:(C.size:Int)-(x:Int)=(z:Int):=by omega
      by_cases P:z<y
      ·have H:=(dT z y).2;clear A;go_wp2_with fail;go_ret2;refine⟨rfl,.inr ⟨fun j e u=>?_,rfl⟩⟩;have:j=i:=by omega
       subst this;rw[<-g.o];right;right;omega
      ·have H:=(dF z y).2;obtain⟨q,v⟩:=gx (x+y);have R:(x:Int)+(y:Int)=(q:Int):=by omega
       have M:(x:Int)<=(q:Int):=by omega
       have L:(q:Int)<=(C.size:Int):=by omega
       have p:Hid (C.extract x q=(⟨((C.data.toList.drop x).take y).toArray⟩:ByteArray)/\x+y<=C.size):=by
        refine⟨?_,by omega⟩;rw[v];apply Acj;rw[Acu];apply Abr;rw[Ac1,Ab5,Acq]
       clear A v;go_wp2_with fail;go_ret2;refine⟨rfl,.inl ⟨i,x,y,h2,rfl,rfl,rfl,by rw[<-g.o];exact p.o.2,?_⟩⟩;rw[<-g.o,<-p.o.1];rfl
  ·have D:decide ((fs.length:Int)<=(i:Int))=true:=zJ (by omega);go_wp2_with fail;go_ret2;exact⟨rfl,.inr ⟨fun j e u=>by omega,rfl⟩⟩
theorem nV(w:World):Calls prog 17 #[.pointer none] w fun e w'=>e= .returned (.slice none 0 0)/\w'=w:=by
 go_enter func17,ntmps17
 go_wp2_with fail;go_ret;exact⟨rfl,rfl⟩
theorem gT(w:World):Calls prog 14 #[.pointer none] w fun e w'=>e= .returned (.slice none 0 0)/\w'=w:=by
 go_enter func14,ntmps14
 go_wp2_with fail;go_ret;exact⟨rfl,rfl⟩
theorem dG(f a n:Int)(w:World):Calls prog 26 #[.pointer none,.int .i64 f,.int .i64 a,.int .i64 n] w fun e w'=>e= .returned (.tuple #[.string ⟨#[]⟩,.int .i64 9])/\w'=w:=by
 go_enter func26,ntmps26
 go_wp2_with fail;go_ret2;exact⟨rfl,rfl⟩
theorem kU(P:ByteArray)(w:World):Calls prog 27 #[.pointer none,.string P] w fun e w'=>e= .returned (.tuple #[.int .i64 0,.int .i64 9])/\w'=w:=by
 go_enter func27,ntmps27
 go_wp2_with fail;go_ret2;exact⟨rfl,rfl⟩
theorem gU(P:ByteArray)(M:Int)(w:World):Calls prog 28 #[.pointer none,.string P,.int .i64 M] w fun e w'=>e= .returned (.tuple #[.slice none 0 0,.int .i64 9])/\w'=w:=by
 go_enter func28,ntmps28
 go_wp2_with fail;go_ret2;exact⟨rfl,rfl⟩
theorem gV(a:Addr)(w:World):Calls prog 27 #[.pointer (some a),.string ⟨#[]⟩] w fun e w'=>e= .returned (.tuple #[.int .i64 0,.int .i64 8])/\w'=w:=by
 go_enter func27,ntmps27
 go_wp2_with fail;go_ret2;exact⟨rfl,rfl⟩
theorem dH(a:Addr)(P:Aeg)(M:Int)(w:World)(h:P=[]\/M<0):Calls prog 28 #[.pointer (some a),.string ⟨P.toArray⟩,.int .i64 M] w fun e w'=>e= .returned (.tuple #[.slice none 0 0,.int .i64 8])/\w'=w:=by
 obtain⟨S,c⟩:=gx (⟨P.toArray⟩:ByteArray);have d:Hid (S.toList.isEmpty=decide (P=[])):=by
  show _=_;rw[c,Aa2];cases P<;>simp
 rw[<-c];clear c
 go_enter func28,ntmps28
 by_cases b:P=[]
 ·have h1:=d.o;rw[zJ b]at h1;clear b h;go_wp2_with fail;go_ret2;exact⟨rfl,rfl⟩
 ·have h1:=d.o;rw[zM b]at h1;have hM:M<0:=by
   rcases h with h|h
   ·exact absurd h b
   ·exact h
  have hd:=zJ hM;clear b h;go_wp2_with fail;go_ret2;exact⟨rfl,rfl⟩
namespace Hm
abbrev En:=ByteArray×Nat
def Km:List En->Aei
 |[]=>[]
 |p::r=> .string p.1:: .int .i64 p.2::Km r
theorem Pn(l:List En):(Km l).length=l.length*2:=by
 induction l with
 |nil=>rfl
 |cons p r ih=>simp[Km,ih];omega
theorem P8(l:List En): ∀i,(h:i<l.length)->(Km l)[i*2]?=some (.string l[i].1)/\(Km l)[i*2+1]?=some (.int .i64 (l[i].2:Nat)):=by
 induction l with
 |nil=>intro i h;simp at h
 |cons p r ih=>
  intro i h;cases i with
  |zero=>exact⟨rfl,rfl⟩
  |succ i=>
   have:=ih i (by simpa using h);rw[show(i+1)*2=i*2+1+1 from by omega];simpa[Km]using this
theorem rU(l:List En)(x:ByteArray)(y:Nat): ∀i,i<l.length->((Km l).set (i*2) (.string x)).set (i*2+1) (.int .i64 y)=Km (l.set i (x,y)):=by
 induction l with
 |nil=>intro i h;simp at h
 |cons p r ih=>
  intro i h;cases i with
  |zero=>rfl
  |succ i=>
   have:=ih i (by simpa using h);rw[show(i+1)*2=i*2+1+1 from by omega];simp[Km,this]
def D9(fs:List Fl):List En:=fs.map fun f=>(f.1,f.2.size)
def Gs(es:List En)(m k:Nat):List En:=es.take k++List.replicate (m-k) (⟨#[]⟩,0)
theorem gX(es:List En)(m k:Nat)(a:es.length=m)(hk:k<=m):(Gs es m k).length=m:=by
 unfold Gs;rw[zL,zS,zV];omega
theorem nW(es:List En)(m k:Nat)(b:es.length=m)(hk:k<m)(x:En)(a:es[k]?=some x):(Gs es m k).set k x=Gs es m (k+1):=by
 have e:List.replicate (m-k) ((⟨#[]⟩,0):En)=(⟨#[]⟩,0)::List.replicate (m-(k+1)) (⟨#[]⟩,0):=by rw[show m-k=(m-(k+1))+1 from by omega,Abx]
 unfold Gs;rw[e,Aba _ _ (by rw[zS];omega),zS,Ab8 (by omega),Abd,zW,List.take_add_one,a,Aaj];rfl
end Hm
def Mw(w:World)(g:Nat)(l:List En):Prop:=w.heap[g]?=some (.cells (Km l).toArray 42 (0,0))
theorem aW:(prog.info? 42).map (fun i=>(i.zero,i.size,i.bytes))=some (some (.agg #[.string ⟨#[]⟩,.int .i64 0]),2,24):=by kernel_rfl
theorem Mw.put{l:List En}(h:Mw w g l)(i:Nat)(x:ByteArray)(y:Nat)(hi:i<l.length):Mw ((w.setCell ⟨g,i*2,none⟩ (.string x)).setCell ⟨g,i*2+1,none⟩ (.int .i64 y)) g (l.set i (x,y)):=by
 have h2:=zI w g (i*2) _ _ (.string x) h;have a:=zI _ g (i*2+1) _ _ (I y) h2;unfold Mw;rw[a,<-rU l x y i hi];congr 2;apply Abr;simp
theorem Mw.made(h:w'.ownsRow base 42 2 (.slice (some ⟨g,0,none⟩) n n) n (madeCells (Value.agg #[.string ⟨#[]⟩,.int .i64 0]).cells (n*2)).toList):Mw w' g (List.replicate n (⟨#[]⟩,0)):=by
 rcases h.2 with⟨h1,_⟩|⟨g2,cap,cur,h1,_,j,_,_,hs,ht⟩
 ·cases h1
 ·cases h1;unfold Mw;rw[j];congr 2;apply Abr;have e:cur.toList.take (n*2)=cur.toList:=Aap (by simp;omega);rw[<-e,ht];apply Aa1
  ·rw[Pn];simp[madeCells]
  ·intro i h1 h2;have f:i<n*2:=by rw[Pn]at h2;simpa using h2
   obtain⟨a,b⟩:=P8 (List.replicate n (⟨#[]⟩,0)) (i/2) (by simp;omega);have d:(Value.agg #[.string ⟨#[]⟩,I 0]).cells= #[.string ⟨#[]⟩,I 0]:=rfl;rcases Ac0 i with c|c
   ·rw[show i/2*2=i from by omega,zH h2]at a;simp at a;rw[a];simp[madeCells,d,c]
   ·rw[show i/2*2+1=i from by omega,zH h2]at b;simp at b;rw[b];simp[madeCells,d,c]
theorem kV(hones:Bc)(B pa:Nat)(s l6:Aeg)(L:Aeh)(l8:Aeg)(st:Bl)(w:World)(R:C5 s l6 L l8 st)(h:Dw B w pa s l6 L l8 st):
  Calls prog 17 #[.pointer (some ⟨pa,0,none⟩)] w fun e w'=> ∃a,e= .returned (.slice (some ⟨a,0,none⟩) (rdF s).1 (rdF s).1)/\w.heap.size<=a/\Mw w' a (D9 (Bs s l6 l8 st))/\Aee w w':=by
 obtain⟨gn,ge,g,ng,nc,gs,P⟩:=h.parts R;have hN:=Kk s;have hF:=Qz s;have HP:=hZ P;have aa:pa<w.heap.size:=z9 _ _ P.total;have Y:gn<w.heap.size:=Aac P.nblock;have D:Hid (∀k W,k<(rdF s).1->Aee w W->Calls prog 36 #[.pointer (some (J pa 1)),I k] W fun e w'=>e= .returned (.tuple #[I (Ib s l6 k:Nat),I (Gy s l6 k:Nat)])/\Aee W w'):=fun k W hk hW=>Tm hones pa ge k s l6 W (P.ends.kept hW id id) R.ends hk;have E:Hid (∀k,k<(rdF s).1->Ib s l6 k<=Gy s l6 k/\Gy s l6 k<=(rdN s).1):=fun k hk=>⟨R.ends.cover.asc k hk,kI R.ends.cover k hk⟩;have F:Hid (∀k j,j=(rdM s).1.getD k ⟨#[]⟩->k<(rdF s).1->j.size<=281474976710656):=fun k j h1 h2=>by
  rw[h1];have:=Nl (rdB s) (rdF s).1 k;exact Aaf this (by omega)
 have V:=P.names;obtain⟨i0,hi,ab,ac,ad⟩:=Aa6 aW;obtain⟨m,O⟩:=gx ((rdF s).1);rw[<-O]at V hF;have U:=hZ O;rw[<-O]at D E F;have H:(D9 (Bs s l6 l8 st)).length=m:=by unfold D9;rw[Aai,Gw,O]
 clear O P h
 go_enter func17,ntmps17
 go_wp2_with(at_make;refine Abv _ rfl (.tmp 14) (.tmp 14) 39 rfl w.heap.size 42 i0 (.agg #[.string ⟨#[]⟩,I 0]) 2 underlying39 hi ab ac .i64 .i64 _ _ m rfl rfl rfl rfl (by rw[ad];omega) (by unfold maxLen;omega) (zK _) ?_;intro S Q M;have r:Aee w S:=(Aa.refl _ _).grown M (fun k hk=>by cases hk);have ak:S.cell? (J pa 0)=some (S0 gn m m):=(r.cell (p:=(J pa 0)) aa id).trans V)
 have v:=Mw.made Q;obtain⟨a,N⟩: ∃x,x=w.heap.size:=⟨_,rfl⟩;rw[<-N]at v|-;have C:Hid (Mw S a (List.replicate m (⟨#[]⟩,0))/\Aee w S/\w.heap.size<=a):=⟨v,r,by omega⟩;clear Q M r v V N
 go_loopw[21] (fun vi wr=> ∃k:Nat,k<=m/\vi=I k/\Mw wr a (Gs (D9 (Bs s l6 l8 st)) m k)/\Aee w wr) (fun vi _=>m-(intOf vi).toNat)
 case atStart=>exact⟨0,zZ _,rfl,by simpa[Gs]using C.o.1,C.o.2.1⟩
 case round=>
  obtain⟨k,hk,rfl,b,f⟩:=hrel
  by_cases i:k<m
  ·obtain⟨j,q⟩: ∃x,x=(rdM s).1.getD k ⟨#[]⟩:=⟨_,rfl⟩;have Z:(rdM s).1.length=m:=by rw[U.o];exact Fw _ _
   have X:wr.cell? (J gn k)=some (.string j):=by
    rw[f.cell (p:=(J gn k)) Y id,zP _ _ k _ _ _ HP.o.nblock,Aag,q];unfold F8;rw[Aah,zG,zH (show k<(rdM s).1.length by omega)];rfl
   have n:=D.o k wr i f;have K:=E.o k i;have G:=fun W=>Rf j W (F.o k j q i);have l:Hid ((D9 (Bs s l6 l8 st))[k]?=some (j,Gy s l6 k-Ib s l6 k)):=by
    show _=_;unfold D9 Bs;rw[Aah,Aah,Abn (by rw[<-U.o];exact i),q];show some (_,(Hm.part (G1 s l8 st) (Ib s l6 k) (Gy s l6 k)).toArray.size)=_;rw[Aaa];unfold Hm.part;rw[zS,Aas,Pk,Ab8 (by omega)];rfl
   generalize Ib s l6 k=fr at n K l;generalize Gy s l6 k=tz at n K l;obtain⟨z,hz⟩:=gx (tz-fr);rw[<-hz]at l;have zz:(tz:Int)-(fr:Int)=(z:Int):=by omega
   have c:Hid ((Gs (D9 (Bs s l6 l8 st)) m k).set k (j,z)=Gs (D9 (Bs s l6 l8 st)) m (k+1)/\k<(Gs (D9 (Bs s l6 l8 st)) m k).length):=⟨nW _ _ _ H i _ l.o,by rw[gX _ _ _ H hk];exact i⟩;have A:=hZ (aI b f);have ao:(k:Int)<(m:Int):=by omega
   clear b f q Z l hz;go_wp2_with fail;refine n.mono ?_;rintro e w4 ⟨rfl,t⟩;have T:Hid (Mw w4 a (Gs (D9 (Bs s l6 l8 st)) m k)/\Aee w w4):=⟨t.row A.o.1 id,A.o.2.tr t⟩;clear n t A X;go_wp2_with fail;refine(G _).mono ?_;rintro e y ⟨rfl,u⟩;have d:Mw y a (Gs (D9 (Bs s l6 l8 st)) m k):=u.row T.o.1 id;have q1:y.cell? (J a (k*2))=some (.string ((Gs (D9 (Bs s l6 l8 st)) m k)[k]'c.o.2).1):=by
    rw[zP _ _ _ _ _ _ d,Aag];exact(P8 _ k c.o.2).1
   have q2:y.cell? (J a (k*2+1))=some (I (((Gs (D9 (Bs s l6 l8 st)) m k)[k]'c.o.2).2:Nat)):=by
    rw[zP _ _ _ _ _ _ d,Aag];exact(P8 _ k c.o.2).2
   have al:y.frozen? (J a (k*2))=false:=zR _ _ _ _ _ d;have am:y.frozen? (J a (k*2+1))=false:=zR _ _ _ _ _ d;have H6:=hZ (aI d (T.o.2.tr u));generalize((Gs (D9 (Bs s l6 l8 st)) m k)[k]'c.o.2).1=o1 at q1;generalize((Gs (D9 (Bs s l6 l8 st)) m k)[k]'c.o.2).2=o2 at q2;clear G u T d;have H7:Hid (Mw ((y.setCell (J a (k*2)) (.string j)).setCell (J a (k*2+1)) (I z)) a (Gs (D9 (Bs s l6 l8 st)) m (k+1))/\Aee w ((y.setCell (J a (k*2)) (.string j)).setCell (J a (k*2+1)) (I z))):=
    ⟨by rw[<-c.o.1];exact H6.o.1.put k j z c.o.2,(H6.o.2.setCell (p:=(J a (k*2))) (.inl C.o.2.2) _).setCell (p:=(J a (k*2+1))) (.inl C.o.2.2) _⟩
   go_wp2_with fail;go_roundw
   case rel=>exact⟨k+1,by omega,by go_num,H7.o.1,H7.o.2⟩
   case measure=>simp[intOf];omega
  ·obtain rfl:k=m:=by omega
   have A:Hid (Mw wr a (D9 (Bs s l6 l8 st))/\Aee w wr):=⟨by unfold Gs at b;rw[Abd,Aap (by omega),Adx,Abe]at b;exact b,f⟩;clear b f;go_wp2_with fail;go_ret;exact⟨a,by rw[<-U.o];rfl,C.o.2.2,A.o.1,A.o.2⟩
end
end Go.Proofs.YtegnkfdbmmndaaaGreat
