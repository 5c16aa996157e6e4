import Derived.Test.YtegnkfdbmmndaaaGreatShelfThree
import Derived.Test.YtegnkfdbmmndaaaGreatJ25

set_option maxHeartbeats 8000000
namespace Go.Proofs.YtegnkfdbmmndaaaGreat
open Hm Go.Proofs.Tryz Go.RowKit Go.Sort Go.Shelf
theorem Ads(g c:Nat)(l:Ard)(w:World)(h:IntRow w g l)(o:l.length≤1000000):
  Calls prog 163 #[.slice (some ⟨g,0,none⟩) l.length c] w fun e w'=>e= .returned (.tuple #[])∧ ∃l':Ard,l'.Perm l∧l'.Pairwise (· ≤ ·)∧IntRow w' g l'∧Aa (fun j=>j=g) w w':=by
 have f:=Any.slices_Sort_int Tryz.lays189 g 0 c (l.map fun x:Nat=>(x:Int)) w
  (fun j i=>by
   have d:j<l.length:=by simpa using i
   refine⟨?_,by simpa using h.free j⟩;rw[An3,h.cell d,getElem!_pos _ j i];simp)
  h.lt (by rw[Anz];omega)
 rw[Anz]at f;refine f.mono fun e w' ⟨n,m,os,k⟩=>⟨n,l.mergeSort (fun x y=>decide (x≤y)),List.mergeSort_perm _ _,?_,?_,?_⟩
 ·have:=List.pairwise_mergeSort (le:=fun x y:Nat=>decide (x≤y)) (fun a b c h1 h2=>by simp at*;omega) (fun a b=>by simp;omega) l;exact this.imp fun h=>by simpa using h
 ·have e1:(l.map fun x:Nat=>(x:Int)).mergeSort (fun x y=>decide (x≤y))=(l.mergeSort fun x y=>decide (x≤y)).map fun x:Nat=>(x:Int):=by
   rw[List.map_mergeSort];intro a _ b _;simp
  rw[k,e1];unfold IntRow;have e2:=Rx (Value.int .i64) w g m ((l.mergeSort fun x y=>decide (x≤y)).map fun x:Nat=>(x:Int)).toArray os _ _ h (by simp[Ad]);refine Eq.trans e2 ?_;congr 2;apply Api;simp[Ad]
 ·rw[k];exact Mk _ w g 0 m _ os
end Go.Proofs.YtegnkfdbmmndaaaGreat
namespace Go.Proofs.YtegnkfdbmmndaaaGreat
open Hm Go.Proofs.Tryz Go.RowKit
theorem Dl.tab{B:Nat}{w:World}{pa:Nat}{s l6:Arc}{L:Ard}{l8:Arc}{st:Bl}(h:Dl B w pa s l6 L l8 st)(n:Cy s l6 L l8 st)(b:UInt8):
  w.cell? ⟨pa,6+3+b.toNat*2,none⟩=some (.int .u64 ((Jm L b).1:Nat))∧w.cell? ⟨pa,6+3+b.toNat*2+1,none⟩=some (.int .i64 ((Jm L b).2:Nat)):=by
 obtain⟨gn,ge,g,ng,nc,gs,b1,b2,b3,b4,b5,a2,a3,a4,a5,a6,a7⟩:=h;obtain⟨col,c1,c2,cw⟩:=Kf n.tree;have k:=b.toNat_lt;have e:(A6 L).length=256:=A4 _ _ _ _;have d:(Ay ⟨(l8.take (Hm.szB st.len)).toArray⟩ st.len g (A6 L) (.slice (some ⟨ng,0,none⟩) st.nds.length nc) st.ws (Hm.rdN s).1).toArray.size=773:=by
  rw[Anq];exact Cm _ _ _ _ _ _ _ e cw.1
 have a:(F8 l6 (Hm.rdF s).1 (Hm.rdN s).1 ge).length=5:=rfl;have o:=Gl (Ay ⟨(l8.take (Hm.szB st.len)).toArray⟩ st.len g (A6 L) (.slice (some ⟨ng,0,none⟩) st.nds.length nc) st.ws (Hm.rdN s).1).toArray (Hm.rdR s).1 (Hm.firsts st.ws) d (by unfold Hm.firsts;rw[Anz,Apq]);have f: ∀j,j<773→w.cell? ⟨pa,6+j,none⟩=(Ay ⟨(l8.take (Hm.szB st.len)).toArray⟩ st.len g (A6 L) (.slice (some ⟨ng,0,none⟩) st.nds.length nc) st.ws (Hm.rdN s).1)[j]?:=fun j m=>by
  rw[Am7 _ _ (6+j) _ _ _ a2,Anw,Of _ _ _ _ a j (by omega),Xr _ _ _ d j m,Anw]
 have c:b.toNat<(A6 L).length:=by omega
 have i:=Q5 (A6 L) b.toNat c;have l:Jm L b=(A6 L)[b.toNat]:=by unfold Jm;rw[Am4,Am5 c];rfl
 rw[l];constructor
 ·rw[show 6+3+b.toNat*2=6+(3+b.toNat*2)from by omega,f _ (by omega),R6 _ _ _ _ _ _ _ _ (by omega)];exact i.1
 ·rw[show 6+3+b.toNat*2+1=6+(3+(b.toNat*2+1))from by omega,f _ (by omega),R6 _ _ _ _ _ _ _ _ (by omega)];exact i.2
section
variable (hones:Bd) (hLn:El) (B pa:Nat) (s l6:Arc) (L:Ard) (l8:Arc) (st:Bl) (fs:Arb) (ps:Ard) (w:World) (hP:Cy s l6 L l8 st) (hA:Dl B w pa s l6 L l8 st) (hI:Ib fs s l6 l8 st ps)
include hones hP hA hI
theorem Aie(P:Arc)(hPl:P.length≤281474976710656):
  Calls prog 159 #[.func (.func 160) #[.pointer (some ⟨pa,6,none⟩)] #[],.int .i64 (ps.length:Nat),.string ⟨P.toArray⟩] w fun e w'=>(∃lo hi:Nat,e= .returned (.tuple #[.int .i64 (lo:Nat),.int .i64 (hi:Nat)])∧Gn (Ac fs) ps P lo hi)∧Ara w w':=by
 obtain⟨gn,ge,g,ng,nc,gs,Pt⟩:=hA.parts hP;obtain⟨k,o,c⟩:=I9 hP.tree;have j:=Alj hP.tree;have r:=Jp s;have d:=(Om hP.names).2;have v:=Hz hP.tree r;have q:(⟨(l8.take (Hm.szB st.len)).toArray⟩:ByteArray).size≤1000000:=by show(l8.take _).toArray.size≤_;rw[Anq,Anp];omega
 have m:=hI.nN;have p:=hI.small;have n:=hI.sorted;have u:ps.length=(Ac fs).length+1:=by have:=n.perm.length_eq;simpa using this
 rw[m]at d k;rw[m,hI.col]at o c j
 rw[hI.col]at k;refine Alk pa 6 P (Ac fs) ps st.ws w n c p hPl (fun W b r1 r2 hk h1 h2=>?_);have f:=hA.kept hk (fun _ _ _=>id) id;obtain⟨gn',ge',g',ng',nc',gs',Pt'⟩:=f.parts hP;have h:=Aib pa 6 st.len g' ng' nc' (Hm.rdR s).1 r1 r2 b ⟨(l8.take (Hm.szB st.len)).toArray⟩ st.nds st.ws (Al (Ac fs) ps) W Pt'.rows (by omega) (by omega) (by omega) (by omega) (fun x y=>by have:=c.first_le x (by omega);omega)
  (fun W2 a l t=>by
   have i:=f.kept l (fun _ _ _=>id) id;obtain⟨t0,t1⟩:=i.tab hP b;exact Aj1 hones pa 6 st.len g' ng' nc' a _ _ b _ st.nds (Al (Ac fs) ps) L W2 (Pt'.rows.tree.kept l id id id) hP.tree.1 j t q (by omega) t0 t1 rfl rfl)
 rw[hI.nR]at h;exact h
include hLn in
theorem Afo(row q:Nat)(j:ps[row]?=some q):
  Calls prog 161 #[.func (.func 34) #[.pointer (some ⟨pa,6,none⟩)] #[],.func (.func 162) #[.pointer (some ⟨pa,1036,none⟩)] #[],.int .i64 row] w fun e w'=>e= .returned (.int .i64 (q:Nat))∧Ara w w':=by
 obtain⟨gn,ge,g,ng,nc,gs,Pt⟩:=hA.parts hP;obtain⟨gs2,v⟩:=hA.samp hP;obtain⟨m,n,d⟩:=I9 hP.tree;have F:=Jp s;have i:=(Om hP.names).2;have L:=Hz hP.tree F;have B:(⟨(l8.take (Hm.szB st.len)).toArray⟩:ByteArray).size≤1000000:=by show(l8.take _).toArray.size≤_;rw[Anq,Anp];omega
 have hn:=hI.small;have f:=hI.nN;have a:=hI.sorted.perm;have D:ps.length=(Ac fs).length+1:=by have:=a.length_eq;simpa using this
 have u:(A7 ps).length=An (Ac fs).length:=Fk a;obtain⟨X,I⟩:=hI.samp;have G:(l8.drop (Hm.szB st.len)).take (Hm.szB (An (Hm.rdN s).1))=Ag (A7 ps):=by
  rw[I,f,←u,←Lk,Aqq]
 have b:=hP.samp.told;rw[G]at v b;obtain⟨T,c⟩: ∃T,T=(⟨(Ag (A7 ps)).toArray⟩:ByteArray):=⟨_,rfl⟩;have l:T.data.toList=Ag (A7 ps):=by rw[c]
 have H:T.size=Hm.szB (An (Ac fs).length):=by rw[c];show(Ag (A7 ps)).toArray.size=_;rw[Anq,Lk,u]
 rw[←c]at v;rw[←l]at b;have x:Lib.bitLen ((Ac fs).length/8)≤10:=Lib.bitLen_le _ 10 (by omega) (by omega);have C:((Ac fs).length/8+1)*Lib.bitLen ((Ac fs).length/8)≤751*10:=Aoj (by omega) x;have K:An (Ac fs).length≤100000:=by unfold An;omega
 have E:Hm.szB (An (Ac fs).length)=(An (Ac fs).length+7)/8:=rfl;rw[f]at v b i m;rw[f,hI.col]at n d;rw[hI.col]at m;have A:=hI.sorted;refine Adr hones pa 6 1036 st.len g ng nc (Hm.rdR s).1 row q _ st.nds st.ws (Al (Ac fs) ps) ps w Pt.rows n d (by omega) B (by omega) (fun W r p hk t=>?_) (fun row q k j y=>?_) j
 ·exact Aa6 hones hLn pa 1036 _ gs2 (Ac fs).length r p T ps W (v.kept hk id id) hn (by omega) a (fun p _=>by rw[l];exact Nb _ p) (by omega) b t
 ·have t:row<ps.length:=by
   rcases Aoq row ps.length with h|h
   ·exact h
   ·rw[Anx h]at j;cases j
  rw[Am5 t]at j;have o:=An0 j;have z:q≤(Ac fs).length:=by
   have:=a.subset (Anm t);rw[o]at this;have:=List.mem_range.1 this;omega
  obtain⟨_,J,e⟩:=M4 A d row q t o z k y;refine⟨by omega,by omega,?_⟩;rw[hI.nR,Am5 J];exact congrArg some e
end
namespace Hm
structure Rh(t P:Arc)(l:Ard):Prop where
 asc:l.Pairwise (· < ·)
 iff: ∀q,q∈l↔(q≤t.length∧P<+:t.drop q)
theorem Rh.of{t P:Arc}{ps l:Ard}{lo hi:Nat}(h:C5 t ps)(k:Gn t ps P lo hi)(g:l.Perm ((ps.drop lo).take (hi-lo)))(m:l.Pairwise (· ≤ ·)):Rh t P l:=by
 have c:ps.Nodup:=h.perm.symm.nodup List.nodup_range;have d:l.Nodup:=g.symm.nodup ((c.sublist (List.drop_sublist lo ps)).sublist (List.take_sublist _ _));refine⟨?_,fun q=>?_⟩
 ·have:=m.and d;exact this.imp fun⟨h1,h2⟩=>by omega
 ·rw[g.mem_iff];constructor
  ·intro o;obtain⟨i,a,rfl⟩:=Aog o;have b:=a;rw[Anp,Aoi]at b;rw[List.getElem_take,List.getElem_drop];refine⟨?_,(k.iff (lo+i) (by omega)).1 ⟨by omega,by omega⟩⟩;have:=h.perm.subset (Anm (show lo+i<ps.length by omega));have:=List.mem_range.1 this;omega
  ·rintro⟨h1,h2⟩;obtain⟨j,f,e⟩:=Pe h q h1;have n:=(k.iff j f).2 (by rw[e];exact h2);have:((ps.drop lo).take (hi-lo))[j-lo]?=some q:=by
    rw[List.getElem?_take,if_pos (by omega),Aqz,show lo+(j-lo)=j from by omega,Am5 f,e]
   exact List.mem_of_getElem? this
def Ic(qs:Ard)(m k:Nat):Ard:=qs.take k++List.replicate (m-k) 0
theorem Aa7(qs:Ard)(m k:Nat)(a:qs.length=m)(hk:k≤m):(Ic qs m k).length=m:=by
 unfold Ic;rw[Anf,Anp,Ani];omega
theorem Aif(qs:Ard)(m k:Nat)(c:qs.length=m)(hk:k<m)(q:Nat)(b:qs[k]?=some q):(Ic qs m k).set k q=Ic qs m (k+1):=by
 unfold Ic;have a:(qs.take k).length=k:=by rw[Anp];omega
 rw[Aot _ _ (by omega),a,Aoy,show m-k=(m-(k+1))+1 from by omega,Apf,Am8,List.take_add_one,b];simp
end Hm
set_option maxRecDepth 20000 in
theorem Aig(hones:Bd)(hLn:El)(B pa:Nat)(s l6:Arc)(L:Ard)(l8:Arc)(st:Bl)(fs:Arb)(ps:Ard)(w:World)(hP:Cy s l6 L l8 st)(hA:Dl B w pa s l6 L l8 st)(hI:Ib fs s l6 l8 st ps)(P:Arc)(hPl:P.length≤281474976710656):
  Calls prog 115 #[.pointer (some ⟨pa,0,none⟩),.string ⟨P.toArray⟩] w fun e w'=> ∃(g:Nat) (l:Ard),e= .returned (.slice (some ⟨g,0,none⟩) l.length l.length)∧w.heap.size≤g∧IntRow w' g l∧l.length≤6001∧Rh (Ac fs) P l∧Ara w w':=by
 obtain⟨i0,hi,ak,al,am⟩:=Aoo Lf;have F:=hI.sorted;have aj:=hI.small;have Y:ps.length=(Ac fs).length+1:=by have:=F.perm.length_eq;simpa using this
 obtain⟨gn,ge,g,ng,nc,gs,Pt⟩:=hA.parts hP;have t:=Pt.total;rw[hI.nN]at t;have ah:pa<w.heap.size:=Ank _ _ t;obtain⟨S,hS⟩: ∃S,S=(⟨P.toArray⟩:ByteArray):=⟨_,rfl⟩;have u:=fun W (hk:Ara w W)=>Aie hones B pa s l6 L l8 st fs ps W hP (hA.kept hk (fun _ _ _=>id) id) hI P hPl;rw[←hS]at u⊢;have ad:Hid (∀W (row q:Nat),Ara w W→ps[row]?=some q→Calls prog 161 #[.func (.func 34) #[.pointer (some ⟨pa,6,none⟩)] #[],.func (.func 162) #[.pointer (some ⟨pa,1036,none⟩)] #[],.int .i64 (row:Nat)] W fun e w'=>e= .returned (.int .i64 (q:Nat))∧Ara W w'):=
  fun W row q hk hq=>Afo hones hLn B pa s l6 L l8 st fs ps W hP (hA.kept hk (fun _ _ _=>id) id) hI row q hq
 obtain⟨N,hN⟩: ∃N,N=(Ac fs).length:=⟨_,rfl⟩;rw[Y,←hN]at u;rw[←hN]at t Y aj;have I:Hid (∀W,Ara w W→Calls prog 159 #[.func (.func 160) #[.pointer (some ⟨pa,6,none⟩)] #[],.int .i64 ((N:Int)+1),.string S] W fun e w'=>(∃lo hi:Nat,e= .returned (.tuple #[.int .i64 (lo:Nat),.int .i64 (hi:Nat)])∧Gn (Ac fs) ps P lo hi)∧Ara W w'):=fun W hk=>by
  have:=u W hk;rwa[show((N+1:Nat):Int)=(N:Int)+1 from by omega]at this
 have K:Hid (∀W,Ara w W→Calls prog 35 #[.pointer (some ⟨pa,6,none⟩)] W fun e w'=>e= .returned (.int .i64 (N:Nat))∧w'=W):=fun W hk=>Z0 pa 6 N W ((hk.cell (p:=⟨pa,778,none⟩) ah id).trans t);have af:Hid (C5 (Ac fs) ps):=F;have ax:IntKind.i64.wrap ((N:Int)+1)=(N:Int)+1:=by rw[An9];omega
 clear u t Pt hP hA hI F hN hS
 go_enter func115,ntmps115
 go_wp2_with fail
 go_cut[5,6]from 9 (fun v5 v6 wz=> ∃lo hi:Nat,v5= .int .i64 lo∧v6= .int .i64 hi∧Hid (Gn (Ac fs) ps P lo hi∧Ara w wz))
 case first=>
  go_region_held(fun X=>Hid (Ara w X)) (first|exact k2|exact k1|exact(Aa.refl (fun _=>False) w).drew)
   (first
    |(go_at_call 35;(refine(K.o _ (Aa.refl (fun _=>False) w).drew).mono ?_;rintro e w1 ⟨rfl,f⟩;have k1:Hid (Ara w w1):=(by rw[f];exact(Aa.refl (fun _=>False) w).drew);clear f))
    |(go_at_call 159;(refine(I.o _ k1.o).mono ?_;rintro e w2 ⟨⟨lo,hi,rfl,ai⟩,n⟩;have k2:Hid (Ara w w2):=k1.o.trans n (fun _ _ h=>h);clear n)))
  all_goals(go_wp2_with fail;go_meet;case rel=>exact⟨_,_,rfl,rfl,ai,k2.o⟩)
 case rest=>
  obtain⟨lo,v,rfl,rfl,G⟩:=hcut;obtain⟨m,hm⟩: ∃m,m=v-lo:=⟨_,rfl⟩;have ar:=G.o.1.le;have aq:=G.o.1.in';have zm:(v:Int)-(lo:Int)=(m:Int):=by omega
  obtain⟨qs,y⟩: ∃qs,qs=(ps.drop lo).take (v-lo):=⟨_,rfl⟩;have aa:qs.length=m:=by rw[y,Anp,Aoi];omega
  have HQ:Hid (∀k,k<m→ ∃q,qs[k]?=some q∧ps[lo+k]?=some q):=fun k hk=>by
   refine⟨qs[k]'(by omega),Am5 (by omega),?_⟩;have e:qs[k]?=ps[lo+k]?:=by rw[y,List.getElem?_take,if_pos (by omega),Aqz]
   rw[←e,Am5 (by omega)]
  have b:Hid (qs=(ps.drop lo).take (v-lo)∧qs.length=m):=⟨y,aa⟩;have av:m≤6001:=by omega
  have ao:lo≤6001:=by omega
  have ab:=G.o.2.size;clear hm y aa I K
  go_wp2_with(at_make;refine Apr _ rfl (.tmp 26) (.tmp 26) 64 rfl wc.heap.size 3 i0 (.int .i64 0) 1 underlying64 hi ak al .i64 .i64 _ _ m rfl rfl rfl rfl (by rw[am];omega) (by unfold maxLen;omega) (Ane _) ?_;intro w1 V M)
  have A:Hid (Ara w w1∧IntRow w1 wc.heap.size (List.replicate m 0)):=⟨G.o.2.trans ((Aa.refl _ _).grown M (fun k hk=>by cases hk)) (fun _ _ h=>h),IntRow.made V⟩;clear V M;obtain⟨gW,O⟩: ∃g,g=wc.heap.size:=⟨_,rfl⟩;rw[←O]at A ab⊢;clear O;go_wp2_with fail
  go_loopw[8,30] (fun _ vi wr=> ∃k:Nat,k≤m∧vi= .int .i64 k∧IntRow wr gW (Ic qs m k)∧Ara w wr) (fun _ vi _=>m-(intOf vi).toNat)
  case atStart=>exact⟨0,Ann _,rfl,A.o.2,A.o.1⟩
  case round=>
   obtain⟨k,hk,rfl,a,x⟩:=hrel
   by_cases D:k<m
   ·obtain⟨q,f,n⟩:=HQ.o k D;have Z:=fun W (hk:Ara w W)=>ad.o W (lo+k) q hk n;have U:(k:Int)<(m:Int):=by omega
    have J:Hid (IntRow wr gW (Ic qs m k)∧Ara w wr∧(Ic qs m k).length=m∧(Ic qs m k).set k q=Ic qs m (k+1)):=⟨a,x,Aa7 qs m k b.o.2 hk,Aif qs m k b.o.2 D q f⟩;have ae:Hid (∀W,Ara w W→Calls prog 161 #[.func (.func 34) #[.pointer (some ⟨pa,6,none⟩)] #[],.func (.func 162) #[.pointer (some ⟨pa,1036,none⟩)] #[],.int .i64 ((lo:Int)+(k:Int))] W fun e w'=>e= .returned (.int .i64 (q:Nat))∧Ara W w'):=fun W hk=>by
     have:=Z W hk;rwa[show((lo+k:Nat):Int)=(lo:Int)+(k:Int)from by omega]at this
    have ay:IntKind.i64.wrap ((lo:Int)+(k:Int))=(lo:Int)+(k:Int):=by rw[An9];omega
    clear a x Z f n;go_wp2_with fail
    go_region_with (first
     |(go_at_call 161;(refine(ae.o _ J.o.2.1.drew).mono ?_;rintro e w5 ⟨rfl,C⟩;have k5:Hid (Ara w w5):=J.o.2.1.drew.trans C (fun _ _ h=>h);have r5:IntRow w5 gW (Ic qs m k):=C.row J.o.1 id;have c5:=r5.cell (i:=k) (by rw[J.o.2.2.1];exact D);have f5:=r5.free k;have R5:Hid (IntRow w5 gW (Ic qs m k)):=r5;clear r5 C)))
    all_goals(
     go_wp2_with fail;go_roundw
     case rel=>
      refine⟨k+1,by omega,by go_num,?_,k5.o.setCell (p:=⟨gW,k,none⟩) (.inl ab) _⟩;rw[←J.o.2.2.2];exact R5.o.set k q
     case measure=>simp[intOf];omega)
   ·have U: ¬(k:Int)<(m:Int):=by omega
    have R:k=m:=by omega
    have d:Ic qs m k=qs:=by
     unfold Ic;rw[R,Aoy,List.replicate_zero,Aow,An5 (by rw[b.o.2];exact Ane _)]
    rw[d]at a;have E:=Ads gW m qs wr a (by rw[b.o.2];omega);rw[b.o.2]at E;have ac:Hid (Ara w wr):=x;clear a x d R;go_wp2_with fail;refine E.mono ?_;rintro e w6 ⟨rfl,l,c,z,r,Q⟩;have T:l.length=m:=by rw[c.length_eq,b.o.2]
    have H:Hid (IntRow w6 gW l∧l.length=m∧Rh (Ac fs) P l∧Ara w w6):=⟨r,T,Rh.of af.o G.o.1 (by rw[←b.o.1];exact c) z,ac.o.trans Q (fun j hj e=>by omega)⟩;clear E c z r Q T;go_wp2_with fail;go_ret;exact⟨gW,l,by rw[H.o.2.1];rfl,by have:=G.o.2.size;omega,H.o.1,by rw[H.o.2.1];omega,H.o.2.2.1,H.o.2.2.2⟩
namespace Hm
theorem Jb(fs:Arb)(i:Nat)(hi:i<fs.length):(Ac (fs.take (i+1))).length=(Ac (fs.take i)).length+fs[i].2.size:=by
 rw[Anh hi];unfold Ac;rw[Ao4,Anf];simp
theorem Agr(fs:Arb)(i:Nat)(hi:i<fs.length)(a n:Nat)(h:a+n≤fs[i].2.size):part (Ac fs) ((Ac (fs.take i)).length+a) ((Ac (fs.take i)).length+a+n)=(fs[i].2.data.toList.drop a).take n:=by
 have h1:=Z2 fs i hi;rw[Jb fs i hi]at h1;rw[←h1];unfold part;rw[List.drop_take,List.drop_drop,List.take_take];congr 1;omega
theorem Uj(fs:Arb)(i:Nat)(hi:i<fs.length):(Ac (fs.take i)).length+fs[i].2.size≤(Ac fs).length:=by
 have h1:=Mu fs (i:=i+1) (j:=fs.length) (by omega);rw[Jb fs i hi,Aof]at h1;exact h1
end Hm
theorem Ri(hones:Bd)(B pa:Nat)(s l6:Arc)(L:Ard)(l8:Arc)(st:Bl)(fs:Arb)(ps:Ard)(w:World)(hP:Cy s l6 L l8 st)(hA:Dl B w pa s l6 L l8 st)(hI:Ib fs s l6 l8 st ps)(i:Nat)(hi:i<fs.length):
  Calls prog 36 #[.pointer (some ⟨pa,1,none⟩),.int .i64 (i:Nat)] w fun e w'=>e= .returned (.tuple #[.int .i64 ((Ac (fs.take i)).length:Nat),.int .i64 ((Ac (fs.take i)).length+fs[i].2.size:Nat)])∧Ara w w':=by
 obtain⟨gn,ge,g,ng,nc,gs,P⟩:=hA.parts hP;have h:=Rg hones pa ge i s l6 w P.ends hP.ends (by rw[hI.nF];exact hi);rw[hI.froms i hi,hI.ends i hi,Jb fs i hi]at h;exact h
theorem Aih(hones:Bd)(hLn:El)(B pa:Nat)(s l6:Arc)(L:Ard)(l8:Arc)(st:Bl)(fs:Arb)(ps:Ard)(w:World)(hP:Cy s l6 L l8 st)(hA:Dl B w pa s l6 L l8 st)(hI:Ib fs s l6 l8 st ps)(i a n:Nat)(hi:i<fs.length)(h:a+n≤fs[i].2.size):
  Calls prog 26 #[.pointer (some ⟨pa,0,none⟩),.int .i64 i,.int .i64 a,.int .i64 n] w fun e w'=>e= .returned (.tuple #[.string ⟨((fs[i].2.data.toList.drop a).take n).toArray⟩,.int .i64 0])∧Ara w w':=by
 have c:=Ri hones B pa s l6 L l8 st fs ps w hP hA hI i hi;have p:=Uj fs i hi;have A:=hI.small;have l:=hI.few;have b:Hid (∀W,Ara w W→Calls prog 60 #[.pointer (some ⟨pa,0,none⟩),.int .i64 (((Ac (fs.take i)).length:Int)+(a:Int)+(n:Int)),.int .i64 n] W fun e w'=>e= .returned (.string ⟨((fs[i].2.data.toList.drop a).take n).toArray⟩)∧Ara W w'):=fun W hk=>by
  have t:=Alm hones hLn B pa s l6 L l8 st fs ps W hP (hA.kept hk (fun _ _ _=>id) id) hI ((Ac (fs.take i)).length+a+n) n (by omega) (by omega);rw[show(Ac (fs.take i)).length+a+n-n=(Ac (fs.take i)).length+a from by omega,Agr fs i hi a n h]at t;rwa[show(((Ac (fs.take i)).length+a+n:Nat):Int)=((Ac (fs.take i)).length:Int)+(a:Int)+(n:Int)from by omega]at t
 obtain⟨gn,c0⟩: ∃gn,w.cell? ⟨pa,0,none⟩=some (.slice (some ⟨gn,0,none⟩) fs.length fs.length):=by
  obtain⟨gn,ge,g,ng,nc,gs,P⟩:=hA.parts hP;exact⟨gn,by rw[←hI.nF];exact P.names⟩
 obtain⟨F,hF⟩: ∃F,F=(Ac (fs.take i)).length:=⟨_,rfl⟩;obtain⟨z,q⟩: ∃z,z=fs[i].2.size:=⟨_,rfl⟩;obtain⟨m,u⟩: ∃m,m=fs.length:=⟨_,rfl⟩;rw[←hF,←q]at c p;rw[←hF]at b;rw[←q]at h;rw[←u]at hi c0 l;obtain⟨R,r⟩: ∃R,R=(⟨((fs[i].2.data.toList.drop a).take n).toArray⟩:ByteArray):=⟨_,rfl⟩;rw[←r]at b⊢;clear hP hA hI hF q u r;have x: ¬(m:Int)≤(i:Int):=by omega
 have C:((F+z:Nat):Int)-(F:Int)=(z:Int):=by omega
 have y: ¬((z:Int)-(a:Int)<(n:Int)):=by omega
 go_enter func26,ntmps26
 go_wp2_with fail;refine c.mono ?_;rintro e w1 ⟨rfl,d⟩;have j:=b.o w1 d;have v:Hid (Ara w w1):=d;clear c b d;go_wp2_with fail;refine j.mono ?_;rintro e w2 ⟨rfl,f⟩;have k:Hid (Ara w w2):=v.o.trans f (fun _ _ h=>h);clear j f;go_wp2_with fail;go_ret2;exact⟨rfl,k.o⟩
theorem Aii(hones:Bd)(B pa:Nat)(s l6:Arc)(L:Ard)(l8:Arc)(st:Bl)(fs:Arb)(ps:Ard)(w:World)(hP:Cy s l6 L l8 st)(hA:Dl B w pa s l6 L l8 st)(hI:Ib fs s l6 l8 st ps)(f a n:Int)(v: -9223372036854775808≤a)(x:a≤9223372036854775807)
  (h: ∀i:Nat,f=(i:Int)→(hi:i<fs.length)→a<0∨n<0∨(fs[i].2.size:Int)-a<n):
  Calls prog 26 #[.pointer (some ⟨pa,0,none⟩),.int .i64 f,.int .i64 a,.int .i64 n] w fun e w'=>e= .returned (.tuple #[.string ⟨#[]⟩,.int .i64 7])∧Ara w w':=by
 obtain⟨gn,c0⟩: ∃gn,w.cell? ⟨pa,0,none⟩=some (.slice (some ⟨gn,0,none⟩) fs.length fs.length):=by
  obtain⟨gn,ge,g,ng,nc,gs,P⟩:=hA.parts hP;exact⟨gn,by rw[←hI.nF];exact P.names⟩
 have p:=hI.few
 by_cases y:f<0
 ·clear hP hA hI h
  go_enter func26,ntmps26
  go_wp2_with fail;go_ret2;exact⟨rfl,Aa.refl _ _⟩
 by_cases l:(fs.length:Int)≤f
 ·clear hP hA hI h
  go_enter func26,ntmps26
  go_wp2_with fail;go_ret2;exact⟨rfl,Aa.refl _ _⟩
 obtain⟨i,rfl⟩: ∃i:Nat,f=(i:Int):=⟨f.toNat,by omega⟩;have hi:i<fs.length:=by omega
 have j:=h i rfl hi;have c:=Ri hones B pa s l6 L l8 st fs ps w hP hA hI i hi;have q:=Uj fs i hi;have A:=hI.small;obtain⟨F,hF⟩: ∃F,F=(Ac (fs.take i)).length:=⟨_,rfl⟩;obtain⟨z,r⟩: ∃z,z=fs[i].2.size:=⟨_,rfl⟩;obtain⟨m,t⟩: ∃m,m=fs.length:=⟨_,rfl⟩;rw[←hF,←r]at c q;rw[←r]at j;rw[←t]at hi c0 p l;clear hP hA hI hF r t h;have D:((F+z:Nat):Int)-(F:Int)=(z:Int):=by omega
 by_cases d:a<0∨n<0
 ·clear j;rcases d with d|d
  ·go_enter func26,ntmps26
   go_wp2_with fail;refine c.mono ?_;rintro e w1 ⟨rfl,b⟩;have k:Hid (Ara w w1):=b;clear c b;go_wp2_with fail;go_ret2;exact⟨rfl,k.o⟩
  ·go_enter func26,ntmps26
   go_wp2_with fail;refine c.mono ?_;rintro e w1 ⟨rfl,b⟩;have k:Hid (Ara w w1):=b;clear c b;go_wp2_with fail
   all_goals(
    go_ret2;exact⟨rfl,k.o⟩)
 ·have h1: ¬a<0:=fun h=>d (.inl h);have h2: ¬n<0:=fun h=>d (.inr h);have E:(z:Int)-a<n:=by omega
  have C:IntKind.i64.wrap ((z:Int)-a)=(z:Int)-a:=by rw[An9];omega
  have u:wrap64 ((z:Int)-a)=(z:Int)-a:=by unfold wrap64;omega
  clear j d
  go_enter func26,ntmps26
  go_wp2_with fail;refine c.mono ?_;rintro e w1 ⟨rfl,b⟩;have k:Hid (Ara w w1):=b;clear c b;go_wp2_with fail;go_ret2;exact⟨rfl,k.o⟩
end Go.Proofs.YtegnkfdbmmndaaaGreat
namespace Go.Proofs.YtegnkfdbmmndaaaGreat
open Hm Go.Proofs.Tryz
namespace Hm
def La:Arb→Nat→Nat×Nat
 |[],q=>(0,q)
 |f::r,q=>if q<f.2.size then(0,q)else((La r (q-f.2.size)).1+1,(La r (q-f.2.size)).2)
def Di(fs:Arb)(k:Nat):Nat:=(Ac (fs.take k)).length
theorem Tz(f:ByteArray×ByteArray)(r:Arb)(k:Nat):Di (f::r) (k+1)=f.2.size+Di r k:=by
 unfold Di;rw[Aqr];unfold Ac;rw[Aoe,Anf];simp
theorem Z6(fs:Arb)(k:Nat)(hk:k<fs.length):Di fs (k+1)=Di fs k+fs[k].2.size:=Jb fs k hk
theorem Z7(fs:Arb){i j:Nat}(h:i≤j):Di fs i≤Di fs j:=Mu fs h
theorem Lv: ∀(fs:Arb) (k q:Nat) (hk:k<fs.length),Di fs k≤q→q<Di fs k+fs[k].2.size→La fs q=(k,q-Di fs k)
 |[],k,q,hk,_,_=>by simp at hk
 |f::r,0,q,_,h1,h2=>by
  have e:Di (f::r) 0=0:=rfl;rw[e]at h2⊢;have h2:q<0+f.2.size:=h2;rw[La,if_pos (by omega)];rfl
 |f::r,k+1,q,hk,h1,h2=>by
  rw[Tz]at h1 h2⊢;have h2:q<f.2.size+Di r k+(r[k]'(by simpa using hk)).2.size:=h2;have ih:=Lv r k (q-f.2.size) (by simpa using hk) (by omega) (by omega);rw[La,if_neg (by omega),ih];congr 1;show q-f.2.size-Di r k=_;omega
theorem Og: ∀(fs:Arb) (q:Nat),q<(Ac fs).length→ ∃k,∃hk:k<fs.length,Di fs k≤q∧q<Di fs k+fs[k].2.size
 |[],q,h=>by simp[Ac]at h
 |f::r,q,h=>by
  by_cases c:q<f.2.size
  ·exact⟨0,by simp,Ann _,by show q<0+f.2.size;omega⟩
  ·have e:(Ac (f::r)).length=f.2.size+(Ac r).length:=by unfold Ac;rw[Aoe,Anf];simp
   obtain⟨k,hk,h1,h2⟩:=Og r (q-f.2.size) (by omega);exact⟨k+1,by simpa using hk,by rw[Tz];omega,by rw[Tz];show q<f.2.size+Di r k+r[k].2.size;omega⟩
def Xu(fs:Arb)(n:Nat)(x:Nat×Nat):Bool:=decide (x.2+n≤(fs.getD x.1 (⟨#[]⟩,⟨#[]⟩)).2.size)
def Gy(fs:Arb)(n:Nat)(l:Ard):List (Nat×Nat):=(l.map (La fs)).filter (Xu fs n)
theorem Aj4(fs:Arb)(n:Nat)(l:Ard)(j:Nat)(a:j<l.length):Gy fs n (l.take (j+1))=Gy fs n (l.take j)++if Xu fs n (La fs l[j])=true then [La fs l[j]]else []:=by
 unfold Gy;rw[Anh a,Apk,Ao8];congr 1;show([La fs l[j]]:List (Nat×Nat)).filter _=_
 by_cases c:Xu fs n (La fs l[j])=true
 ·rw[Aq9 c,if_pos c];rfl
 ·rw[List.filter_cons_of_neg c,if_neg c];rfl
theorem Vi(fs:Arb)(n:Nat)(l:Ard):(Gy fs n l).length≤l.length:=by
 unfold Gy;exact Ant (Ap4 _ _) (by rw[Anz];exact Ane _)
def T3(x y:Nat×Nat):Prop:=x.1<y.1∨(x.1=y.1∧x.2<y.2)
structure P6(fs:Arb)(P:Arc)(pl:List (Nat×Nat)):Prop where
 asc:pl.Pairwise T3
 iff: ∀k a,(k,a)∈pl↔ ∃hk:k<fs.length,P<+:fs[k].2.data.toList.drop a
theorem Ags(fs:Arb)(k:Nat)(hk:k<fs.length)(a:Nat)(b:a≤fs[k].2.size): ∃z,(Ac fs).drop (Di fs k+a)=fs[k].2.data.toList.drop a++z:=by
 have h1:=Agr fs k hk a (fs[k].2.size-a) (by omega);have c:(fs[k].2.data.toList.drop a).length=fs[k].2.size-a:=by rw[Aoi];simp
 have e0:(fs[k].2.data.toList.drop a).take (fs[k].2.size-a)=fs[k].2.data.toList.drop a:=An5 (by omega);rw[e0]at h1;refine⟨((Ac fs).drop (Di fs k+a)).drop (fs[k].2.size-a),?_⟩;rw[←h1];unfold part;rw[show(Ac (fs.take k)).length+a+(fs[k].2.size-a)-((Ac (fs.take k)).length+a)=fs[k].2.size-a from by omega];exact(Ao5 _ _).symm
theorem Y2(fs:Arb)(k:Nat)(hk:k<fs.length):fs.getD k (⟨#[]⟩,⟨#[]⟩)=fs[k]:=by rw[Am4,Am5 hk];rfl
theorem Rh.lt{t P:Arc}{l:Ard}(h:Rh t P l)(hP:P≠[]){q:Nat}(a:q∈l):q<t.length:=by
 obtain⟨h1,h2⟩:=(h.iff q).1 a;rcases Aoq q t.length with c|c
 ·exact c
 ·rw[Aqd c]at h2;exact absurd (List.prefix_nil.1 h2) hP
theorem Amm{fs:Arb}{P:Arc}{l:Ard}(hP:P≠[])(h:Rh (Ac fs) P l):P6 fs P (Gy fs P.length l):=by
 refine⟨?_,fun k a=>?_⟩
 ·unfold Gy;refine List.Pairwise.filter _ ?_;rw[List.pairwise_map];refine h.asc.imp_of_mem fun{x y} s t p=>?_;obtain⟨k,hk,a1,a2⟩:=Og fs x (h.lt hP s);obtain⟨k',b,b1,b2⟩:=Og fs y (h.lt hP t);rw[Lv fs k x hk a1 a2,Lv fs k' y b b1 b2];unfold T3;rcases Aop k k' with c|c|c
  ·exact .inl c
  ·subst c;exact .inr ⟨rfl,by show x-_<y-_;omega⟩
  ·have:=Z7 fs (show k'+1≤k from c);rw[Z6 fs k' b]at this;omega
 ·unfold Gy;rw[List.mem_filter,List.mem_map];constructor
  ·rintro⟨⟨q,j,e⟩,n⟩;obtain⟨k',b,b1,b2⟩:=Og fs q (h.lt hP j);rw[Lv fs k' q b b1 b2]at e;obtain⟨rfl,rfl⟩:=Prod.mk.inj e;refine⟨b,?_⟩;have d:=Aoc n;rw[Y2 fs k' b]at d;have o:q-Di fs k'+P.length≤fs[k'].2.size:=d;obtain⟨z,g⟩:=Ags fs k' b (q-Di fs k') (by omega);have f:=((h.iff q).1 j).2;rw[show Di fs k'+(q-Di fs k')=q from by omega]at g;rw[g]at f;refine List.prefix_of_prefix_length_le f (List.prefix_append _ _) ?_;rw[Aoi];simp;omega
  ·rintro⟨hk,f⟩;have i:=f.length_le;have u:0<P.length:=List.length_pos_iff.2 hP;rw[Aoi]at i;have r:fs[k].2.data.toList.length=fs[k].2.size:=by simp
   obtain⟨z,g⟩:=Ags fs k hk a (by omega);have m:=Uj fs k hk;have ht:Di fs k=(Ac (fs.take k)).length:=rfl;refine⟨⟨Di fs k+a,(h.iff _).2 ⟨by omega,by rw[g];exact f.trans (List.prefix_append _ _)⟩,?_⟩,?_⟩
   ·rw[Lv fs k _ hk (by omega) (by omega)];congr 1;omega
   ·refine Ana ?_;show a+P.length≤(fs.getD k _).2.size;rw[Y2 fs k hk];omega
end Hm
end Go.Proofs.YtegnkfdbmmndaaaGreat
namespace Go.Proofs.YtegnkfdbmmndaaaGreat
open Hm Go.Proofs.Tryz Go.RowKit
theorem Aj5(hones:Bd)(pa ge k:Nat)(s l6:Arc)(W:World)(h:D4 W pa 1 ⟨(l6.take (Hm.szB (Ak (Hm.rdF s).1 (Hm.rdN s).1))).toArray⟩ (Ak (Hm.rdF s).1 (Hm.rdN s).1) ge (Hm.rdF s).1 (Cr (Hm.rdF s).1 (Hm.rdN s).1))(c:Ga l6 (Hm.rdF s).1 (Hm.rdN s).1)(hk:k<(Hm.rdF s).1):
  Calls prog 81 #[.pointer (some ⟨pa,1,none⟩),.int .i64 (k:Nat)] W fun e w'=>e= .returned (.int .i64 (Gi s l6 k:Nat))∧Ara W w':=by
 have hF:=Qi s;have b:=Jp s;have g:=c.fits;have a:=c.cover.ones;have i:(⟨(l6.take (Hm.szB (Ak (Hm.rdF s).1 (Hm.rdN s).1))).toArray⟩:ByteArray).size=Hm.szB (Ak (Hm.rdF s).1 (Hm.rdN s).1):=by
  show(l6.take _).toArray.size=_;rw[Anq,Anp];omega
 have j:=Q8 _ _ hF b;have l:=Ud (Hm.rdF s).1 (Hm.rdN s).1 b;have o:(Hm.rdF s).1*Cr (Hm.rdF s).1 (Hm.rdN s).1≤Ak (Hm.rdF s).1 (Hm.rdN s).1:=Aqv _ _;have p:Ak (Hm.rdF s).1 (Hm.rdN s).1≤8*Hm.szB (Ak (Hm.rdF s).1 (Hm.rdN s).1):=by unfold Hm.szB;omega
 have d:Hm.szB (Ak (Hm.rdF s).1 (Hm.rdN s).1)=(Ak (Hm.rdF s).1 (Hm.rdN s).1+7)/8:=rfl;have e2:Gi s l6 k=Fu (Am (l6.take (Hm.szB (Ak (Hm.rdF s).1 (Hm.rdN s).1)))) (Hm.rdF s).1 (Cr (Hm.rdF s).1 (Hm.rdN s).1) k:=rfl;have e3:l6.take (Hm.szB (Ak (Hm.rdF s).1 (Hm.rdN s).1))=(⟨(l6.take (Hm.szB (Ak (Hm.rdF s).1 (Hm.rdN s).1))).toArray⟩:ByteArray).data.toList:=rfl;rw[e2];generalize(⟨(l6.take (Hm.szB (Ak (Hm.rdF s).1 (Hm.rdN s).1))).toArray⟩:ByteArray)=T at*;rw[e3]at a⊢;generalize Cr (Hm.rdF s).1 (Hm.rdN s).1=low at*;generalize Hm.szB (Ak (Hm.rdF s).1 (Hm.rdN s).1)=z at*;generalize Ak (Hm.rdF s).1 (Hm.rdN s).1=len at*;generalize(Hm.rdF s).1=m at*;obtain⟨h1,h2⟩:=Acb (f:=Am T.data.toList) (k:=Hm.rk (Am T.data.toList) (m*low)+k) (n:=len) (by omega);exact Agi hones pa 1 len ge m low k _ T W h (by omega) (by omega) hk (by omega) (by omega) h2 (by omega)
theorem Adt(pa b2 b3 i pl v:Nat)(w:World)(h2:w.cell? ⟨b2,0,none⟩=some (.pointer (some ⟨pa,1,none⟩)))(d:w.cell? ⟨b3,0,none⟩=some (.int .i64 (pl:Nat)))
  (a: ∀W,Ara w W→Calls prog 81 #[.pointer (some ⟨pa,1,none⟩),.int .i64 (i:Nat)] W fun e w'=>e= .returned (.int .i64 (v:Nat))∧Ara W w'):
  Calls prog 165 #[.int .i64 (i:Nat),.pointer (some ⟨b2,0,none⟩),.pointer (some ⟨b3,0,none⟩)] w fun e w'=>e= .returned (.bool (decide (pl<v)))∧Ara w w':=by
 have k:Hid (decide ((pl:Int)<(v:Int))=decide (pl<v)):=by
  show _=_
  by_cases j:pl<v
  ·rw[Ana j,Ana (by omega)]
  ·rw[Anc j,Anc (by omega)]
 have l:Hid _:=a;have f:b2<w.heap.size:=Ank _ _ h2;have g:b3<w.heap.size:=Ank _ _ d;clear a
 go_enter func165,ntmps165
 go_wp2_with fail
 go_region_held(fun X=>X.cell? ⟨b2,0,none⟩=some (.pointer (some ⟨pa,1,none⟩))∧X.cell? ⟨b3,0,none⟩=some (.int .i64 (pl:Nat))) (first|exact⟨m2,m3⟩|exact⟨h2,d⟩)
  (first
   |(go_at_call 81;(refine(l.o _ (Aa.refl (fun _=>False) w).drew).mono ?_;rintro e w1 ⟨rfl,c⟩;have b:Hid (Ara w w1):=(Aa.refl (fun _=>False) w).drew.trans c (fun _ _ h=>h);have m2:=(b.o.cell (p:=⟨b2,0,none⟩) f id).trans h2;have m3:=(b.o.cell (p:=⟨b3,0,none⟩) g id).trans d;clear c)))
 all_goals(
  go_wp2_with fail;go_ret;exact⟨by first|rfl|(rw[←k.o];rfl),b.o⟩)
theorem Afp(b2 b3 n:Nat)(p:Nat→Bool)(w:World)(hn:n≤1000)
  (z: ∀W i,Ara w W→i<n→Calls prog 165 #[.int .i64 (i:Nat),.pointer (some ⟨b2,0,none⟩),.pointer (some ⟨b3,0,none⟩)] W fun e w'=>e= .returned (.bool (p i))∧Ara W w')
  (d: ∀a b,a≤b→b<n→p a=true→p b=true):
  Calls prog 164 #[.int .i64 (n:Nat),.func (.func 165) #[] #[.pointer (some ⟨b2,0,none⟩),.pointer (some ⟨b3,0,none⟩)]] w fun e w'=>(∃k:Nat,e= .returned (.int .i64 (k:Nat))∧k≤n∧(∀a,a<k→p a=false)∧ ∀a,k≤a→a<n→p a=true)∧Ara w w':=by
 have A:Hid _:=z;have x:Hid _:=d;clear z d
 go_enter func164,ntmps164
 go_wp2_with fail
 go_loopw[5,6] (fun v5 v6 wr=> ∃lo hi:Nat,v5= .int .i64 lo∧v6= .int .i64 hi∧lo≤hi∧hi≤n∧Hid ((∀a,a<lo→p a=false)∧ ∀a,hi≤a→a<n→p a=true)∧Ara w wr) (fun v5 v6 _=>(intOf v6-intOf v5).toNat)
 case atStart=>exact⟨0,n,rfl,rfl,Ann _,Ane _,⟨fun a h=>by omega,fun a h1 h2=>by omega⟩,Aa.refl _ _⟩
 case round=>
  obtain⟨lo,hi,rfl,rfl,B,r,t,g⟩:=hrel;have l:Hid (Ara w wr):=g
  by_cases C:lo<hi
  ·have s:(lo:Int)<(hi:Int):=by omega
   obtain⟨md,v⟩: ∃md,md=(lo+hi)/2:=⟨_,rfl⟩;have zmd:((lo:Int)+(hi:Int))/2=(md:Int):=by omega
   have m:=A.o wr md g (by omega);have f:Hid (lo≤md∧md<hi):=⟨by omega,by omega⟩;have D:md<1000:=by omega
   clear g v;cases q:p md with
   |false=>
    rw[q]at m;have u:Hid (p md=false):=q;clear q;go_wp2_with fail;refine m.mono ?_;rintro e w1 ⟨rfl,c⟩;have j:Hid (Ara w w1):=l.o.trans c (fun _ _ h=>h);clear m c;go_wp2_with fail;go_roundw
    case rel=>
     have:=f.o;refine⟨md+1,hi,by go_num,rfl,by omega,r,⟨fun a E=>?_,t.o.2⟩,j.o⟩;cases h:p a with
     |false=>rfl
     |true=>have y:=x.o a md (by omega) (by omega) h;rw[u.o]at y;cases y
    case measure=>have:=f.o;simp[intOf];omega
   |true=>
    rw[q]at m;have u:Hid (p md=true):=q;clear q;go_wp2_with fail;refine m.mono ?_;rintro e w1 ⟨rfl,c⟩;have j:Hid (Ara w w1):=l.o.trans c (fun _ _ h=>h);clear m c;go_wp2_with fail;go_roundw
    case rel=>
     have:=f.o;exact⟨lo,md,rfl,rfl,by omega,by omega,⟨t.o.1,fun a h1 h2=>x.o md a h1 h2 u.o⟩,j.o⟩
    case measure=>have:=f.o;simp[intOf];omega
  ·have s: ¬(lo:Int)<(hi:Int):=by omega
   obtain rfl:lo=hi:=by omega
   clear g;go_wp2_with fail;go_ret;exact⟨⟨lo,rfl,r,t.o.1,t.o.2⟩,l.o⟩
section
variable (hones:Bd) (hLn:El) (B pa:Nat) (s l6:Arc) (L:Ard) (l8:Arc) (st:Bl) (fs:Arb) (ps:Ard) (w:World) (hP:Cy s l6 L l8 st) (hA:Dl B w pa s l6 L l8 st) (hI:Ib fs s l6 l8 st ps)
include hones hP hA hI
theorem Aij(q:Nat)(B:q<(Ac fs).length):
  Calls prog 116 #[.pointer (some ⟨pa,1,none⟩),.int .i64 (q:Nat)] w fun e w'=>(∃k:Nat,e= .returned (.int .i64 (k:Nat))∧ ∃hk:k<fs.length,Di fs k≤q∧q<Di fs k+fs[k].2.size)∧Ara w w':=by
 obtain⟨gn,ge,g,ng,nc,gs,Pt⟩:=hA.parts hP;have f:=Pt.ends.files;rw[hI.nF]at f;have y:pa<w.heap.size:=Ank _ _ f;have I:=hI.few;obtain⟨W0,d⟩: ∃W0,W0=(w.alloc (.cells #[.pointer (some ⟨pa,1,none⟩)] 154)).alloc (.cells #[.int .i64 (q:Nat)] 3):=⟨_,rfl⟩;have m:W0.heap.size=w.heap.size+1+1:=by rw[d];simp
 have l:W0.heap[w.heap.size]?=some (.cells #[.pointer (some ⟨pa,1,none⟩)] 154 (0,0)):=by rw[d];exact Apb w _ _
 have r:W0.heap[w.heap.size+1]?=some (.cells #[.int .i64 (q:Nat)] 3 (0,0)):=by rw[d];exact Apc w _ _
 have j:Ara w W0:=by rw[d];exact((Aa.refl _ _).alloc _).alloc _
 have ca:W0.cell? ⟨w.heap.size,0,none⟩=some (.pointer (some ⟨pa,1,none⟩)):=Am7 _ _ 0 _ _ _ l;have cf:W0.cell? ⟨pa,1+3,none⟩=some (.int .i64 (fs.length:Nat)):=(j.cell (p:=⟨pa,1+3,none⟩) y id).trans f;have E:=Afp w.heap.size (w.heap.size+1) fs.length (fun i=>decide (q<Di fs (i+1))) W0 (by omega) (fun W i hk hi=>by
  refine Adt pa w.heap.size (w.heap.size+1) i q (Di fs (i+1)) W ((hk.cell (p:=⟨w.heap.size,0,none⟩) (Anu l) id).trans ca) (Am7 _ _ 0 _ _ _ (hk.row r id)) (fun X F=>?_);have x:Ara w X:=(j.trans hk (fun _ _ h=>h)).trans F (fun _ _ h=>h);have A:=Aj5 hones pa ge i s l6 X (Pt.ends.kept x id id) hP.ends (by rw[hI.nF];exact hi);rw[hI.ends i hi]at A;exact A) (fun a b H hb G=>Ana (by have h1:=Aoc G;have:=Z7 fs (show a+1≤b+1 by omega);omega))
 have n:Hid (∀k:Nat,k≤fs.length→(∀a,a<k→decide (q<Di fs (a+1))=false)→(∀a,k≤a→a<fs.length→decide (q<Di fs (a+1))=true)→ ∃hk:k<fs.length,Di fs k≤q∧q<Di fs k+fs[k].2.size):=fun k h1 h2 D=>by
  have t:Di fs fs.length=(Ac fs).length:=by unfold Di;rw[Aof]
  have hk:k<fs.length:=by
   rcases Aoq k fs.length with c|c
   ·exact c
   ·have J:0<fs.length:=by
     rcases Aqi fs.length with z|z
     ·rw[Aob z]at B;simp[Ac]at B
     ·exact z
    have:=of_decide_eq_false (h2 (fs.length-1) (by omega));rw[show fs.length-1+1=fs.length from by omega,t]at this;omega
  refine⟨hk,?_,?_⟩
  ·rcases Aqi k with z|z
   ·rw[z];exact Ann _
   ·have:=of_decide_eq_false (h2 (k-1) (by omega));rw[show k-1+1=k from by omega]at this;omega
  ·have:=Aoc (D k (Ane _) hk);rwa[Z6 fs k hk]at this
 have C:Hid (W0=(w.alloc (.cells #[.pointer (some ⟨pa,1,none⟩)] 154)).alloc (.cells #[.int .i64 (q:Nat)] 3)):=d;have u:Hid (Ara w W0):=j;clear Pt f d m l r j hP hA hI
 go_enter func116,ntmps116
 go_upto_region 1 with fail
 rw[←C.o]
 go_wp2_with(go_at_call 164;refine E.mono ?_;rintro e w1 ⟨⟨k,rfl,f1,f2,f3⟩,v⟩)
 go_ret;exact⟨⟨k,rfl,n.o k f1 f2 f3⟩,u.o.trans v (fun _ _ h=>h)⟩
end
def By:List (Nat×Nat)→Are
 |[]=>[]
 |p::r=> .int .i64 (p.1:Nat):: .int .i64 (p.2:Nat)::By r
theorem Qm(l:List (Nat×Nat)):(By l).length=l.length*2:=by
 induction l with
 |nil=>rfl
 |cons p r ih=>simp only[By,An8,ih];omega
theorem Qo(l r:List (Nat×Nat)):By (l++r)=By l++By r:=by
 induction l with
 |nil=>rfl
 |cons p l ih=>simp[By,ih]
theorem Afq(l:List (Nat×Nat)): ∀v∈By l,v.oneCell'=true:=by
 induction l with
 |nil=>intro v h;simp[By]at h
 |cons p r ih=>
  intro v h;simp only[By,List.mem_cons]at h;rcases h with rfl|rfl|h
  ·rfl
  ·rfl
  ·exact ih v h
theorem Adu(l:List (Nat×Nat))(k:Nat):(By l).take (k*2)=By (l.take k):=by
 induction l generalizing k with
 |nil=>simp[By]
 |cons p r ih=>
  cases k with
  |zero=>rfl
  |succ k=>rw[show(k+1)*2=k*2+1+1 from by omega,By,Aqr,Aqr,ih,Aqr];rfl
theorem Vj{w:World}{base base' size n:Nat}{e:TypeId}{v:Value}{xs:Are}(h:w.ownsRow base e size v n xs)(hb:base'≤base):w.ownsRow base' e size v n xs:=by
 refine⟨h.1,?_⟩;rcases h.2 with a|⟨g,cap,cur,h1,h2,b⟩
 ·exact .inl a
 ·exact .inr ⟨g,cap,cur,h1,Ant hb h2,b⟩
theorem Oh:(prog.info? 73).map (fun i=>(i.zero,i.size,i.bytes))=some (some (.agg #[.int .i64 0,.int .i64 0]),2,16):=by kernel_rfl
set_option maxRecDepth 20000 in
theorem Xv(hones:Bd)(hLn:El)(B pa:Nat)(s l6:Arc)(L:Ard)(l8:Arc)(st:Bl)(fs:Arb)(ps:Ard)(w:World)(hP:Cy s l6 L l8 st)(hA:Dl B w pa s l6 L l8 st)(hI:Ib fs s l6 l8 st ps)(P:Arc)(hPl:P.length≤281474976710656)(hP0:P≠[]):
  Calls prog 61 #[.pointer (some ⟨pa,0,none⟩),.string ⟨P.toArray⟩] w fun e w'=> ∃(v:Value) (pl:List (Nat×Nat)),e= .returned v∧w'.ownsRow w.heap.size 73 2 v pl.length (By pl)∧pl.length≤6001∧P6 fs P pl∧Ara w w':=by
 obtain⟨i0,hi,an,ao,ap⟩:=Aoo Oh;have E:=Aig hones hLn B pa s l6 L l8 st fs ps w hP hA hI P hPl;have af:Hid (∀W (q:Nat),Ara w W→q<(Ac fs).length→Calls prog 116 #[.pointer (some ⟨pa,1,none⟩),.int .i64 (q:Nat)] W fun e w'=>(∃k:Nat,e= .returned (.int .i64 (k:Nat))∧ ∃hk:k<fs.length,Di fs k≤q∧q<Di fs k+fs[k].2.size)∧Ara W w'):=
  fun W q hk hq=>Aij hones B pa s l6 L l8 st fs ps W hP (hA.kept hk (fun _ _ _=>id) id) hI q hq
 have ae:Hid (∀W (k:Nat),Ara w W→(hk:k<fs.length)→Calls prog 36 #[.pointer (some ⟨pa,1,none⟩),.int .i64 (k:Nat)] W fun e w'=>e= .returned (.tuple #[.int .i64 (Di fs k:Nat),.int .i64 (Di fs k+fs[k].2.size:Nat)])∧Ara W w'):=
  fun W k hk ak=>Ri hones B pa s l6 L l8 st fs ps W hP (hA.kept hk (fun _ _ _=>id) id) hI k ak
 have a3:=hI.small;have az:=hI.few;obtain⟨S,hS⟩: ∃S,S=(⟨P.toArray⟩:ByteArray):=⟨_,rfl⟩;have ay:S.size=P.length:=by rw[hS];show P.toArray.size=_;simp
 rw[←hS]at E⊢;clear hP hA hI hS
 go_enter func61,ntmps61
 go_wp2_with fail;refine E.mono ?_;rintro e w1 ⟨g,l,rfl,aj,t,al,p,V⟩;have N:Hid (IntRow w1 g l∧Rh (Ac fs) P l∧Ara w w1):=⟨t,p,V⟩;clear E t p V aj;go_wp2_with fail
 go_loopw[5,15] (fun v5 vi wr=> ∃j:Nat,j≤l.length∧vi= .int .i64 j∧wr.ownsRow w1.heap.size 73 2 v5 (Gy fs P.length (l.take j)).length (By (Gy fs P.length (l.take j)))∧Ara w1 wr) (fun _ vi _=>l.length-(intOf vi).toNat)
 case atStart=>exact⟨0,Ann _,rfl,World.ownsRow_nil _ _ _ _,Aa.refl _ _⟩
 case round=>
  obtain⟨j,hj,rfl,b,f⟩:=hrel
  by_cases I:j<l.length
  ·have Z:(j:Int)<(l.length:Int):=by omega
   have ab:IntRow wr g l:=N.o.1.kept f id;have cq:=ab.cell I;have M:=N.o.2.1.lt hP0 (Anm I);have ac:=Aj4 fs P.length l j I;have H:Ara w wr:=N.o.2.2.trans f (fun _ _ h=>h);have T:=af.o wr l[j] H M;have c:Hid _:=ac;have HQ:Hid (l[j]<(Ac fs).length):=M;have n:Hid (wr.ownsRow w1.heap.size 73 2 u5 (Gy fs P.length (l.take j)).length (By (Gy fs P.length (l.take j)))∧Ara w1 wr∧Ara w wr):=⟨b,f,H⟩;have au:(Gy fs P.length (l.take j)).length≤6001:=Ant (Vi _ _ _) (by rw[Anp];omega);have a2:l[j]≤6000:=by omega
   clear b f H ab ac M;generalize l[j]=q at*;go_wp2_with fail;refine T.mono ?_;rintro e w2 ⟨⟨k,rfl,hk,b1,b2⟩,G⟩;have R:=Lv fs k q hk b1 b2;have D:=ae.o w2 k (n.o.2.2.trans G (fun _ _ h=>h)) hk;have ag:Hid (Ara wr w2):=G;have d:Xu fs P.length (k,q-Di fs k)=decide (P.length≤Di fs k+fs[k].2.size-q):=by
    unfold Xu;rw[Y2 fs k hk];apply decide_eq_decide.2;show q-Di fs k+P.length≤_↔_;omega
   have A:=Uj fs k hk;have ad:Di fs k=(Ac (fs.take k)).length:=rfl;rw[R,d]at c;clear T G R d;rw[←ad]at A;obtain⟨F,hF⟩: ∃F,F=Di fs k:=⟨_,rfl⟩;obtain⟨z,hz⟩: ∃z,z=fs[k].2.size:=⟨_,rfl⟩;rw[←hF,←hz]at c D b2 A;rw[←hF]at b1;obtain⟨a,ha⟩: ∃a,a=q-F:=⟨_,rfl⟩;obtain⟨r,hr⟩: ∃r,r=F+z-q:=⟨_,rfl⟩;rw[←ha,←hr]at c;have za:(q:Int)-(F:Int)=(a:Int):=by omega
   have zr:((F+z:Nat):Int)-(q:Int)=(r:Int):=by omega
   have a0:(k:Int)≤40:=by omega
   clear hF hz ha hr ad;go_wp2_with fail;refine D.mono ?_;rintro e w3 ⟨rfl,X⟩;have i:Hid (Ara wr w3):=ag.o.trans X (fun _ _ h=>h);clear D X
   by_cases d:P.length≤r
   ·have C:(S.size:Int)≤(r:Int):=by omega
    have hd:decide ((S.size:Int)≤(r:Int))=true:=Ana C;rw[Ana d,if_pos rfl]at c;have J:w3.ownsRow w1.heap.size 73 2 u5 (Gy fs P.length (l.take j)).length (By (Gy fs P.length (l.take j))):=i.o.owns n.o.1 (fun _ _ h=>h);have a5:=(n.o.2.1.trans i.o (fun _ _ h=>h)).size;have ah:Hid (Ara w1 w3):=n.o.2.1.trans i.o (fun _ _ h=>h);generalize Gy fs P.length (l.take j)=pj at*
    go_wp2_with(at_builtin;refine Bg _ rfl (.tmp 38) (.tmp 44) 69 rfl w1.heap.size 73 i0 (.agg #[.int .i64 0,.int .i64 0]) 2 16 underlying69 hi an ao ap rfl (by decide) _ _ _ rfl (J.alloc _) ⟨w3.heap.size,0,none⟩ 1 1 [.int .i64 (k:Nat),.int .i64 (a:Nat)] rfl rfl ?c1 ?c2 ?c3 ?c4 ?c5 ?_)
    case c1=>
     intro y u hy;rw[Addr.add_lit,An3];exact(Am7 _ _ y _ _ _ (Anj w3 _)).trans (by rw[Anw];exact hy)
    case c2=>intro u hu;simp at hu;rcases hu with rfl|rfl<;>rfl
    case c3=>unfold maxLen;omega
    case c4=>omega
    case c5=>simp only[World.alloc,Array.size_push];omega
    intro v4 w4 aa Q am;have Y:Ara w1 w4:=(ah.o.alloc _).grown Q (fun x hx=> .inl (J.lt x hx).1);have K:w4.ownsRow w1.heap.size 73 2 v4 (Gy fs P.length (l.take (j+1))).length (By (Gy fs P.length (l.take (j+1)))):=by
     rw[c.o,Anf,Qo];exact aa
    obtain⟨a4,c4,m,_⟩:=Aq K;subst m;have O:Hid _:=And.intro K Y;clear aa Q am K Y J c;go_wp2_with fail;go_roundw
    case rel=>exact⟨j+1,by omega,by go_num,O.o.1,O.o.2⟩
    case measure=>simp[intOf];omega
   ·have C: ¬(S.size:Int)≤(r:Int):=by omega
    have hd:decide ((S.size:Int)≤(r:Int))=false:=Anc C;rw[Anc d,if_neg (by simp),Aow]at c;obtain⟨a4,c4,m,_⟩:=Aq n.o.1;subst m;have O:Hid (w3.ownsRow w1.heap.size 73 2 (.slice a4 (Gy fs P.length (l.take j)).length c4) (Gy fs P.length (l.take (j+1))).length (By (Gy fs P.length (l.take (j+1))))∧Ara w1 w3):=by
     rw[c.o];exact⟨i.o.owns n.o.1 (fun _ _ h=>h),n.o.2.1.trans i.o (fun _ _ h=>h)⟩
    clear c n;go_wp2_with fail;go_roundw
    case rel=>exact⟨j+1,by omega,by go_num,O.o.1,O.o.2⟩
    case measure=>simp[intOf];omega
  ·have Z: ¬(j:Int)<(l.length:Int):=by omega
   have U:j=l.length:=by omega
   obtain⟨a4,c4,m,_⟩:=Aq b;subst m;have HF:Hid (wr.ownsRow w.heap.size 73 2 (.slice a4 (Gy fs P.length (l.take j)).length c4) (Gy fs P.length l).length (By (Gy fs P.length l))∧Ara w wr):=by
    have e:l.take j=l:=by rw[U,Aof]
    rw[e]at b⊢;exact⟨Vj b N.o.2.2.size,N.o.2.2.trans f (fun _ _ h=>h)⟩
   clear b f U;go_wp2_with fail;go_ret;exact⟨_,rfl,Gy fs P.length l,HF.o.1,Ant (Vi _ _ _) al,Amm hP0 N.o.2.1,HF.o.2⟩
namespace Hm
theorem Rj{x y:Nat×Nat}(h:T3 x y)(a:T3 y x):False:=by unfold T3 at h a;omega
theorem Xw: ∀(a b:List (Nat×Nat)),a.Pairwise T3→b.Pairwise T3→(∀x,x∈a↔x∈b)→a=b
 |[],[],_,_,_=>rfl
 |[],y::s,_,_,h=>by have:=(h y).2 (Anl ..);cases this
 |x::r,[],_,_,h=>by have:=(h x).1 (Anl ..);cases this
 |x::r,y::s,d,hb,h=>by
  obtain⟨a1,a2⟩:=Aqx.1 d;obtain⟨b1,b2⟩:=Aqx.1 hb;have e:x=y:=by
   rcases List.mem_cons.1 ((h x).1 (Anl ..))with e|e
   ·exact e
   ·rcases List.mem_cons.1 ((h y).2 (Anl ..))with f|f
    ·exact f.symm
    ·exact(Rj (a1 y f) (b1 x e)).elim
  subst e;rw[Xw r s a2 b2 fun z=>?_];constructor
  ·intro c;rcases List.mem_cons.1 ((h z).1 (Anr _ c))with f|f
   ·subst f;exact(Rj (a1 z c) (a1 z c)).elim
   ·exact f
  ·intro c;rcases List.mem_cons.1 ((h z).2 (Anr _ c))with f|f
   ·subst f;exact(Rj (b1 z c) (b1 z c)).elim
   ·exact f
theorem P6.unique{fs:Arb}{P:Arc}{a b:List (Nat×Nat)}(c:P6 fs P a)(hb:P6 fs P b):a=b:=
 Xw a b c.asc hb.asc fun⟨k,q⟩=>(c.iff k q).trans (hb.iff k q).symm
end Hm
theorem Afr(g k c:Nat)(news:Are)(w:World)(r:news.length=k*2)(hk:k≤1000000)(n: ∀j u,news[j]?=some u→w.cell? ⟨g,j,none⟩=some u)(h1: ∀u∈news,u.oneCell'=true):
  Calls prog 62 #[.slice (some ⟨g,0,none⟩) k c] w fun e w'=> ∃v',e= .returned v'∧w'.ownsRow w.heap.size 73 2 v' k news∧Ara w w':=by
 obtain⟨i0,hi,i,l,m⟩:=Aoo Oh;have d:=fun W=>Lib.run_eql_slice_nil (P:=prog) W 69 73 (some ⟨g,0,none⟩) k c 0 0 underlying69;have p:Hid (∀j u,news[j]?=some u→w.cell? ⟨g,j,none⟩=some u):=n;clear n
 go_enter func62,ntmps62
 go_wp2_with(at_builtin;refine wpList_append_own _ rfl (.tmp 5) (.tmp 6) 69 rfl w.heap.size 73 i0 (.agg #[.int .i64 0,.int .i64 0]) 2 16 underlying69 hi i l m rfl (by decide) _ _ _ rfl (World.ownsRow_made w #[] 0 (Ane _) (Ann _) (by simp)) ⟨g,0,none⟩ k c news rfl ?qc1 ?qc2 ?qc3 ?qc4 ?qc5 ?qc6 ?_)
 case qc1=>exact r
 case qc2=>
  intro j u f;rw[Addr.add_lit,An3];exact Lib.cell?_alloc_some _ (p.o j u f)
 case qc3=>exact h1
 case qc4=>unfold maxLen;omega
 case qc5=>omega
 case qc6=>simp
 intro v' w1 b a d;obtain⟨a4,c4,h,_⟩:=Aq b;subst h;have q:Hid (w1.ownsRow w.heap.size 73 2 (.slice a4 k c4) k news∧Ara w w1):=⟨by simpa using b,((Aa.refl _ _).alloc _).grown a (fun j f=> .inl (by simp[Value.ownBlock]at f;omega))⟩;clear b a d;go_wp2_with fail;go_ret;exact⟨_,rfl,q.o⟩
theorem Afs(w:World):
  Calls prog 62 #[.slice none 0 0] w fun e w'=>e= .returned (.slice none 0 0)∧w'=w:=by
 have a:=fun W=>Lib.run_eql_slice_nil (P:=prog) W 69 73 none 0 0 0 0 underlying69
 go_enter func62,ntmps62
 go_wp2;go_ret;exact⟨rfl,rfl⟩
section
variable (hones:Bd) (hLn:El) (B pa:Nat) (s l6:Arc) (L:Ard) (l8:Arc) (st:Bl) (fs:Arb) (ps:Ard) (w:World) (hP:Cy s l6 L l8 st) (hA:Dl B w pa s l6 L l8 st) (hI:Ib fs s l6 l8 st ps) (P:Arc) (hPl:P.length≤281474976710656) (hP0:P≠[])
include hones hLn hP hA hI hPl hP0
theorem Aln:Calls prog 27 #[.pointer (some ⟨pa,0,none⟩),.string ⟨P.toArray⟩] w fun e w'=> ∃pl:List (Nat×Nat),e= .returned (.tuple #[.int .i64 (pl.length:Nat),.int .i64 0])∧pl.length≤6001∧P6 fs P pl∧Ara w w':=by
 have b:=Xv hones hLn B pa s l6 L l8 st fs ps w hP hA hI P hPl hP0;obtain⟨S,f⟩: ∃S,S=(⟨P.toArray⟩:ByteArray):=⟨_,rfl⟩;have k:S.toList.isEmpty=false:=by
  rw[Kx];refine Anc fun h=>hP0 (Aob ?_);rw[←h,f];show _=P.toArray.size;simp
 rw[←f]at b⊢;clear hP hA hI f
 go_enter func27,ntmps27
 go_wp2_with fail;refine b.mono ?_;rintro e w1 ⟨v,pl,rfl,a,g,d,c⟩;obtain⟨a4,c4,i,_⟩:=Aq a;subst i;have j:Hid (pl.length≤6001∧P6 fs P pl∧Ara w w1):=⟨g,d,c⟩;clear b a d c;go_wp2_with fail;go_ret2;exact⟨pl,rfl,j.o⟩
theorem Aj6(M:Nat)(hM:M≤9223372036854775807):Calls prog 28 #[.pointer (some ⟨pa,0,none⟩),.string ⟨P.toArray⟩,.int .i64 (M:Nat)] w fun e w'=> ∃(pl:List (Nat×Nat)) (v:Value),e= .returned (.tuple #[v,.int .i64 0])∧w'.ownsRow w.heap.size 73 2 v (pl.take M).length (By (pl.take M))∧pl.length≤6001∧P6 fs P pl∧Ara w w':=by
 have m:=Xv hones hLn B pa s l6 L l8 st fs ps w hP hA hI P hPl hP0;obtain⟨S,y⟩: ∃S,S=(⟨P.toArray⟩:ByteArray):=⟨_,rfl⟩;have N:S.toList.isEmpty=false:=by
  rw[Kx];refine Anc fun h=>hP0 (Aob ?_);rw[←h,y];show _=P.toArray.size;simp
 rw[←y]at m⊢;clear hP hA hI y
 go_enter func28,ntmps28
 go_wp2_with fail;refine m.mono ?_;rintro e w1 ⟨v,pl,rfl,b,I,p,n⟩;obtain⟨k,hk⟩: ∃k,k=min M pl.length:=⟨_,rfl⟩;have H:k≤pl.length:=by omega
 have r:(pl.take M).length=k:=by rw[Anp,hk]
 have q:pl.take M=pl.take k:=by
  apply List.ext_getElem?;intro i;rw[List.getElem?_take,List.getElem?_take]
  by_cases c:i<pl.length
  ·by_cases d:i<M
   ·rw[if_pos d,if_pos (by omega)]
   ·rw[if_neg d,if_neg (by omega)]
  ·rw[Anx (by omega)];split<;>split<;>rfl
 have zmin:min (M:Int) (pl.length:Int)=(k:Int):=by omega
 have l:Hid (pl.length≤6001∧P6 fs P pl∧Ara w w1∧(pl.take M).length=k∧pl.take M=pl.take k):=⟨I,p,n,r,q⟩;rcases b.2 with⟨rfl,Q⟩|⟨g,cap,cur,rfl,z,A,C,D,E,F⟩
 ·have G:k=0:=by omega
  subst G;have f:=Afs w1;have zm0:min (M:Int) 0=0:=by omega
  clear m b p n r q hk H zmin;go_wp2_with fail;refine f.mono ?_;rintro e w2 ⟨rfl,rfl⟩;clear f;go_wp2_with fail;go_ret2;refine⟨pl,_,rfl,?_,l.o.1,l.o.2.1,l.o.2.2.1⟩;rw[l.o.2.2.2.2];exact World.ownsRow_nil _ _ _ _
 ·have f:=Afr g k cap (By (pl.take k)) w1 (by rw[Qm,Anp];omega) (by omega) (fun j u t=>by
   rw[b.cellAt j (by
    have h2:=(List.getElem?_eq_some_iff.1 t).1;rw[Qm,Anp]at h2;omega)]
   rw[←Adu,List.getElem?_take]at t;split at t
   ·exact t
   ·cases t) (Afq _)
  have O:k≤cap:=by omega
  clear m b p n r q z A C D E F hk;go_wp2_with fail;refine f.mono ?_;rintro e w2 ⟨v',rfl,a,x⟩;obtain⟨a4,c4,J,_⟩:=Aq a;subst J;have K:Hid (w2.ownsRow w.heap.size 73 2 (.slice a4 k c4) (pl.take M).length (By (pl.take M))∧Ara w w2):=by
   refine⟨?_,l.o.2.2.1.trans x (fun _ _ h=>h)⟩;rw[l.o.2.2.2.1,l.o.2.2.2.2];exact Vj a l.o.2.2.1.size
  clear f a x;go_wp2_with fail;go_ret2;exact⟨pl,_,rfl,K.o.1,l.o.1,l.o.2.1,K.o.2⟩
end
end Go.Proofs.YtegnkfdbmmndaaaGreat
