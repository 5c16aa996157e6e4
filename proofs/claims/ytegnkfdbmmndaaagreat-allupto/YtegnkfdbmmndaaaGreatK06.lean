import Derived.Test.YtegnkfdbmmndaaaGreatK04
import Derived.Test.YtegnkfdbmmndaaaGreatShelfTwo

set_option maxHeartbeats 8000000
set_option maxRecDepth 100000
namespace Go.Proofs.YtegnkfdbmmndaaaGreat
open Hm Go.Proofs.Tryz
variable{f:Nat->Bool}{g k len o p pb q t:Nat}{S:Nat->Prop}{w w':World}{s:ByteArray}{P:Program}{l:Aeh}
section
open Go.RowKit Go.Lib Go.Sort Go.Shelf
theorem d7(w:World)(q:Nat)(os:Array Obj):Aee w (grow (w.drewN q) os):=
 Aa.ofBelow (below_grown_sl w.heap.size w q os (zK _)) (fun j h1 h2=>by omega)
theorem tF(pb o g len i k b2 b3:Nat)(s:ByteArray)(w:World)(h:Dh w pb o s len g)(h2:w.cell? ⟨b2,0,none⟩=some (.pointer (some ⟨pb,o,none⟩)))(t:w.cell? ⟨b3,0,none⟩=some (.int .i64 k))(hi:i<s.size)(hs:s.size<=100000000):
  Calls prog 171 #[.int .i64 i,.pointer (some ⟨b2,0,none⟩),.pointer (some ⟨b3,0,none⟩)] w fun e w'=>e= .returned (.bool (decide (k<Eg s.data.toList (i+1))))/\ ∃q,w'=w.drewN q:=by
 have a:=T6 s.data.toList;have b:s.data.toList.length=s.size:=by simp
 have c:=h.cnt;have l:w.cell? (J g (i+1))=some (I (Eg s.data.toList (i+1):Nat)):=by
  rw[h.row.cell (i:=i+1) (by omega)];simp[B8]
 obtain⟨u,f⟩:=gx (Eg s.data.toList (i+1));rw[<-f]at l|-;have m:(i:Int)+1<(s.size:Int)+1:=by omega
 have n:IntKind.i64.wrap ((i:Int)+1)=(i:Int)+1:=by rw[Aar];omega
 have p:((i:Int)+1).toNat=i+1:=by omega
 have r:(0:Int)<=(i:Int)+1:=by omega
 have j:Hid (decide ((k:Int)<(u:Int))=decide (k<u)):=by
  show _=_
  by_cases d:k<u
  ·rw[zJ d,zJ (by omega)]
  ·rw[zM d,zM (by omega)]
 clear a b h f
 go_enter func171,ntmps171
 go_wp2;go_quiet(fail);go_wp2;go_ret;refine⟨?_,_,rfl⟩
 first|rfl|(rw[<-j.o];rfl)
namespace Hm
structure Iu(f:Nat->Bool)(k p:Nat):Prop where
 is:f p=true
 nr:rk f p=k
theorem Iu.past(h:Iu f k p)(a:p<q):k<rk f q:=by
 have h1:=Kn f (show p+1<=q from a);rw[rk,h.is,h.nr]at h1;exact h1
theorem Iu.unique(h:Iu f k p)(b:Iu f k q):p=q:=by
 rcases Aa7 p q with a|a|a
 ·have:=h.past a;rw[b.nr]at this;omega
 ·exact a
 ·have:=b.past a;rw[h.nr]at this;omega
theorem U6(f:Nat->Bool)(k:Nat): ∀n,k<rk f n-> ∃p,p<n/\Iu f k p
 |0,h=>by simp[rk]at h
 |n+1,h=>by
  by_cases b:k<rk f n
  ·obtain⟨p,c,h1⟩:=U6 f k n b;exact⟨p,by omega,h1⟩
  ·rw[rk]at h;cases a:f n with
   |false=>rw[a]at h;simp at h;omega
   |true=>rw[a]at h;simp at h;exact⟨n,by omega,a,by omega⟩
theorem vW(P:Nat->Bool)(n:Nat)(h: ∀a b,a<=b->b<n->P a=true->P b=true):(List.range n).countP (fun i=>!P i)<=n/\(0<(List.range n).countP (fun i=>!P i)->P ((List.range n).countP (fun i=>!P i)-1)=false):=by
 have e:(List.range n).countP (fun i=>!P i)<=n:=by have:=List.countP_le_length (p:=fun i=>!P i) (l:=List.range n);simpa using this
 refine⟨e,fun f=>?_⟩;cases hP:P ((List.range n).countP (fun i=>!P i)-1)with
 |false=>rfl
 |true=>
  obtain⟨c,g⟩:=gx ((List.range n).countP (fun i=>!P i));rw[<-g]at hP e f;obtain⟨d,hd⟩: ∃d,n=(c-1)+d:=⟨n-(c-1),by omega⟩;have h1:(List.range n).countP (fun i=>!P i)<=c-1:=by
   rw[hd,List.range_add,Ab0];have h2:(List.range (c-1)).countP (fun i=>!P i)<=c-1:=by have:=List.countP_le_length (p:=fun i=>!P i) (l:=List.range (c-1));simpa using this
   have o:(List.map (fun x=>c-1+x) (List.range d)).countP (fun i=>!P i)=0:=by
    rw[List.countP_eq_zero];intro x j;obtain⟨y,k,rfl⟩:=List.mem_map.1 j;have m:=List.mem_range.1 k;have:=h (c-1) (c-1+y) (by omega) (by omega) hP;simp[this]
   omega
  omega
end Hm
theorem o4(hones:Bc)(pb o g len k p:Nat)(s:ByteArray)(w:World)(h:Dh w pb o s len g)(hp:p<8*s.size)(hI:Iu (Al s.data.toList) k p)(hs:s.size<=100000000):
  Calls prog 125 #[.pointer (some ⟨pb,o,none⟩),.int .i64 k] w fun e w'=>e= .returned (.int .i64 p)/\Aee w w':=by
 obtain⟨W0,l⟩:=gx ((w.alloc (.cells #[.pointer (some (J pb o))] 246)).alloc (.cells #[I k] 3));have d:W0.heap.size=w.heap.size+1+1:=by rw[l];simp
 have O:W0.cell? (J w.heap.size 0)=some (.pointer (some (J pb o))):=by rw[l];exact cell_alloc_sl _ (cell_new_sl w _ _)
 have P:W0.cell? (J (w.heap.size+1) 0)=some (I k):=by rw[l];have:=cell_new_sl (w.alloc (.cells #[.pointer (some (J pb o))] 246)) (I k) 3;rwa[World.size_alloc]at this
 have C:Aee w W0:=by rw[l];exact((Aa.refl _ _).alloc _).alloc _
 have M:=h.kept C id id;have Z: ∀A w,(callFunc 171 A).run prog w= .ok (.enter 171 A) w:=enters_of func171 (by kernel_rfl) rfl;have j: ∀a b,a<=b->b<s.size->decide (k<Eg s.data.toList (a+1))=true->decide (k<Eg s.data.toList (b+1))=true:=fun a b ad _ hh=>by
  have h1:=Aay hh;have h2:=Kn (Al s.data.toList) (show 8*(a+1)<=8*(b+1)from by omega);rw[<-Ow,<-Ow]at h2;exact zJ (by omega)
 have N:=Any.sort_Search Tryz.search 171 #[.pointer (some (J w.heap.size 0)),.pointer (some (J (w.heap.size+1) 0))] s.size (fun i=>decide (k<Eg s.data.toList (i+1))) W0 Z (by omega)
  (fun m os i hi=>(tF pb o g len i k w.heap.size (w.heap.size+1) s _ (M.kept (d7 W0 m os) id id) (cell_grown (by simp[d];omega) O m os) (cell_grown (by simp[d]) P m os) hi hs).mono
   fun _ _ ⟨he,q,hq⟩=>⟨he,q,#[],by rw[hq,grow_empty]⟩) j
 obtain⟨S,B⟩:=vW _ s.size j;obtain⟨c,hc⟩:=gx ((List.range s.size).countP (fun i=>!decide (k<Eg s.data.toList (i+1))));rw[<-hc]at N S B;have T:8*c<=p:=by
  by_cases h8:8*c<=p
  ·exact h8
  ·have h2:=of_decide_eq_false (B (by omega));have h3:=hI.past (show p<8*c from by omega);rw[show c-1+1=c from by omega,Ow]at h2;omega
 change Calls prog 164 _ _ _ at N
 have v:=hZ (aI C (aI M (aI O (aI P (aI hI d)))));have L:=M.str;have Y:=hZ l;clear C M P hI d j hc B Z h l
 go_enter func125,ntmps125
 go_upto_region 1 with fail
 rw[<-Y.o]
 go_wp2_with(go_at_call 164;refine N.mono ?_;rintro e E ⟨rfl,G⟩)
 have u:Aee W0 E:=by obtain⟨q,os,rfl⟩:=G;exact d7 W0 q os
 have D:Hid (Aee w E/\Dh E pb o s len g/\E.cell? (J w.heap.size 0)=some (.pointer (some (J pb o)))/\E.cell? (J (w.heap.size+1) 0)=some (I k)):=
  ⟨v.o.1.tr u,v.o.2.1.kept u id id,(u.cell (p:=(J w.heap.size 0)) (z9 _ _ v.o.2.2.1) id).trans v.o.2.2.1,(u.cell (p:=(J (w.heap.size+1) 0)) (z9 _ _ v.o.2.2.2.1) id).trans v.o.2.2.2.1⟩
 clear G u N Y L O
 go_loopw[6] (fun X wr=> ∃a:Nat,a<=p/\X=I a/\Aee E wr) (fun X _=>p-(intOf X).toNat)
 case atStart=>exact⟨8*c,T,by first|rfl|(congr 1;omega),Aa.refl _ _⟩
 case round=>
  obtain⟨a,ha,rfl,n⟩:=hrel;have hC:Dh wr pb o s len g:=D.o.2.1.kept n id id;have c1:wr.cell? (J w.heap.size 0)=some (.pointer (some (J pb o))):=(n.cell (p:=(J w.heap.size 0)) (z9 _ _ D.o.2.2.1) id).trans D.o.2.2.1;have c2:wr.cell? (J (w.heap.size+1) 0)=some (I k):=(n.cell (p:=(J (w.heap.size+1) 0)) (z9 _ _ D.o.2.2.2) id).trans D.o.2.2.2;have f:=fun W (Q:Dh W pb o s len g)=>Wu pb o a s W Q.str (by omega) hs;have x:=fun W (Q:Dh W pb o s len g)=>Jc hones pb o g len a s W Q (by omega) hs;have K:=Sx (Al s.data.toList) a;have y:=hZ (aI hC (aI n (D.o.1.tr n)));clear hC n
  by_cases R:a=p
  ·subst R;have F:(Al s.data.toList a).toNat=1:=by rw[v.o.2.2.2.2.1.is];rfl
   have H:=v.o.2.2.2.2.1.nr;rw[F]at f;rw[H]at x;clear F H K;go_wp2;go_quiet(first|(go_at_call 123;refine Abc (f _ ?_);exact y.o.1.kept ((Aa.refl (fun _=>False) wr).drewN _) id id)|(go_at_call 126;refine Abc (x _ ?_);exact y.o.1.kept ((Aa.refl (fun _=>False) wr).drewN _) id id));go_wp2;go_ret;exact⟨rfl,y.o.2.2.drewN _⟩
  ·have U:a<p:=by omega
   cases t:Al s.data.toList a with
   |false=>
    rw[t]at f;have r:(false).toNat=0:=rfl;rw[r]at f;clear K x t r;go_wp2;go_quiet(first|(go_at_call 123;refine Abc (f _ ?_);exact y.o.1.kept ((Aa.refl (fun _=>False) wr).drewN _) id id));go_wp2;go_roundw
    case rel=>exact⟨a+1,by omega,by go_num,y.o.2.1.drewN _⟩
    case measure=>simp[intOf];omega
   |true=>
    have V:rk (Al s.data.toList) a<k:=by
     have h1:Iu (Al s.data.toList) (rk (Al s.data.toList) a) a:=⟨t,rfl⟩;have h2:=h1.past U;rwa[v.o.2.2.2.2.1.nr]at h2
    rw[t]at f;have r:(true).toNat=1:=rfl;rw[r]at f;generalize rk (Al s.data.toList) a=z at*;have ae:=zJ V;clear t r;go_wp2;go_quiet(first|(go_at_call 123;refine Abc (f _ ?_);exact y.o.1.kept ((Aa.refl (fun _=>False) wr).drewN _) id id)|(go_at_call 126;refine Abc (x _ ?_);exact y.o.1.kept ((Aa.refl (fun _=>False) wr).drewN _) id id));go_wp2;go_roundw
    case rel=>exact⟨a+1,by omega,by go_num,y.o.2.1.drewN _⟩
    case measure=>simp[intOf];omega
end
section
open Go.RowKit
structure Ep(w:World)(pb o:Nat)(s:ByteArray)(len g m low:Nat):Prop where
 bits:Dh w pb o s len g
 files:w.cell? ⟨pb,o+3,none⟩=some (.int .i64 m)
 low:w.cell? ⟨pb,o+4,none⟩=some (.int .i64 low)
theorem Ep.kept{m low:Nat}(h:Ep w pb o s len g m low)(hk:Aa S w w')(h1: ¬S pb)(h2: ¬S g):Ep w' pb o s len g m low:=
 have a:pb<w.heap.size:=z9 _ _ h.files
 ⟨h.bits.kept hk h1 h2,(hk.cell (p:=(J pb (o+3))) a h1).trans h.files,(hk.cell (p:=(J pb (o+4))) a h1).trans h.low⟩
namespace Hm
theorem Iu.from{f:Nat->Bool}{a i p:Nat}(h:Iu f (rk f a+i) p):a+i<=p:=by
 by_cases b:p<a
 ·have:=h.past b;omega
 ·have h1:=bT f (show a<=p from by omega);rw[h.nr]at h1;omega
def i5(f:Nat->Bool)(m low i p:Nat):Nat:=(p-m*low-i)*2^low+F0 f (i*low) low
end Hm
theorem i6(pb o len g m low:Nat)(s:ByteArray)(w:World)(h:Ep w pb o s len g m low)(d:m<=1000)(c:low<=20):
  Calls prog 127 #[.pointer (some ⟨pb,o,none⟩)] w fun e w'=>e= .returned (.int .i64 ((m*low:Nat):Int))/\ ∃q,w'=w.drewN q:=by
 have f:=h.files;have i:=h.low;have a:=Aa4 d c;have b:Hid (wrap64 ((m:Int)*(low:Int))=((m*low:Nat):Int)):=by
  show _=_;rw[<-Adb];unfold wrap64;omega
 clear h a
 go_enter func127,ntmps127
 go_wp2;go_quiet(fail);go_wp2;go_ret;refine⟨?_,_,rfl⟩;rw[<-b.o];rfl
theorem o5(hones:Bc)(pb o len g m low i p:Nat)(s:ByteArray)(w:World)(h:Ep w pb o s len g m low)(hm:m<=1000)(U:low<=20)(hi:i<m)(hb:m*low<=8*s.size)(hp:p<8*s.size)
  (hI:Iu (Al s.data.toList) (rk (Al s.data.toList) (m*low)+i) p) (hs:s.size<=1000000):
  Calls prog 81 #[.pointer (some ⟨pb,o,none⟩),.int .i64 i] w fun e w'=>e= .returned (.int .i64 (i5 (Al s.data.toList) m low i p:Nat))/\Aee w w':=by
 have T:=hI.from;have V:=Aa4 hm U;have v:(i+1)*low<=m*low:=Aa4 (by omega) (zK _);have u:=fun W (t:Ep W pb o s len g m low)=>i6 pb o len g m low s W t hm U;have k:=fun W (t:Ep W pb o s len g m low)=>Jc hones pb o g len (m*low) s W t.bits (by omega) (by omega);have c:=fun W (t:Ep W pb o s len g m low)=>o4 hones pb o g len _ p s W t.bits hp hI (by omega);have B:=fun W (t:Ep W pb o s len g m low)=>U5 pb o (i*low) low s W t.bits.str (by rw[Ab4]at v;omega) (by omega) (by omega);have D:=Sx (Al s.data.toList) (m*low);have d:=Ta (Al s.data.toList) (i*low) low;have C:(2:Nat)^low<=1048576:=Abk (n:=2) (i:=low) (j:=20) (by omega) U;have HV:Hid (i5 (Al s.data.toList) m low i p=(p-m*low-i)*2^low+F0 (Al s.data.toList) (i*low) low):=rfl;obtain⟨rh,N⟩: ∃r,r=rk (Al s.data.toList) (m*low):=⟨_,rfl⟩;obtain⟨nm,f⟩: ∃r,r=F0 (Al s.data.toList) (i*low) low:=⟨_,rfl⟩;obtain⟨hg,F⟩: ∃r,r=m*low:=⟨_,rfl⟩;obtain⟨il,b⟩: ∃r,r=i*low:=⟨_,rfl⟩;obtain⟨q,E⟩: ∃r,r=p-m*low-i:=⟨_,rfl⟩;have az:(p:Int)-(hg:Int)-(i:Int)=(q:Int):=by omega
 have ak:IntKind.i64.wrap ((i:Int)*(low:Int))=(il:Int):=by
  rw[Aar,<-Adb,<-b];have:il<=20000:=by rw[Ab4]at v;omega
  omega
 have a:q*2^low<=8000000*1048576:=Aa4 (by omega) C;rw[<-N]at k c D;rw[<-f,<-b]at B;rw[<-F]at u k D;rw[<-f,<-E]at HV;rw[<-f]at d;have R:Hid (wrap64 ((q:Int)*2^low)=((q*2^low:Nat):Int)):=S9 q low (Abm a (by decide));have Q:Hid (Go.bits .or .i64 ((q*2^low:Nat):Int) (nm:Int)=((q*2^low+nm:Nat):Int)):=by
  show _=_;rw[S8 _ _ (Abm a (by decide)) (Aa9 d (Aaf C (by decide))),Nat.or_comm,Y4 _ _ _ d,Nat.add_comm]
 have l:=hZ h;obtain⟨kk,G⟩: ∃r,r=rh+i:=⟨_,rfl⟩;rw[<-G]at c;have ar:IntKind.i64.wrap ((rh:Int)+(i:Int))=(kk:Int):=by rw[Aar];omega
 have P:Hid _:=u;have HO:Hid _:=k;have HN:Hid _:=c;have HU:Hid _:=B;have aj:rh<=20000:=by omega
 have ap:i<=1000:=by omega
 have aq:p<=8000000:=by omega
 have ao:hg<=20000:=by omega
 clear h u k c B G N f F b E hI hb hp T V v D d C a
 go_enter func81,ntmps81
 go_wp2
 go_region_held(fun X=>Ep X pb o s len g m low) (first|exact k3|exact Z|exact Y|exact l.o.kept (Aa.refl (fun _=>False) w).drew id id)
  (first
   |(go_at_call 127;(refine(P.o _ (l.o.kept (Aa.refl (fun _=>False) w).drew id id)).mono ?_;rintro e w1 ⟨rfl,q1,H⟩;have x:Aee w w1:=(by rw[H];exact(Aa.refl (fun _=>False) w).drew.drewN q1);have Y:=l.o.kept x id id;clear H))
   |(go_at_call 126;(refine(HO.o _ Y).mono ?_;rintro e w2 ⟨rfl,K⟩;have y:Aee w w2:=(by rw[K];exact x);have Z:=l.o.kept y id id;clear K))
   |(go_at_call 125;(refine(HN.o _ Z).mono ?_;rintro e w3 ⟨rfl,L⟩;have z:Aee w w3:=y.tr L;have k3:=l.o.kept z id id;clear L)))
 clear Y Z x y HO HN;go_wp2_with fail;refine(P.o _ k3).mono ?_;rintro e O ⟨rfl,q4,M⟩;have A:Aee w O:=by rw[M];exact z.drewN q4
 have S:Hid (Ep O pb o s len g m low/\Aee w O):=⟨l.o.kept A id id,A⟩;have c4:=S.o.1.low;clear M A z k3 P l;go_wp2_with fail;go_quiet(first|(go_at_call 128;refine Abc (HU.o _ ?_);exact S.o.1.kept ((Aa.refl (fun _=>False) O).drewN _) id id));go_wp2;go_ret;refine⟨?_,S.o.2.drewN _⟩;rw[HV.o,<-Q.o,<-R.o];rfl
namespace Hm
noncomputable def Zu(f:Nat->Bool)(k:Nat):Nat:=Classical.epsilon (Iu f k)
theorem Y5(h:Iu f k p):Zu f k=p:=Iu.unique (Classical.epsilon_spec (p:=Iu f k) ⟨p,h⟩) h
theorem i7{n:Nat}(h:k<rk f n):Zu f k<n/\Iu f k (Zu f k):=by
 obtain⟨p,a,h1⟩:=U6 f k n h;rw[Y5 h1];exact⟨a,h1⟩
noncomputable def Fo(f:Nat->Bool)(m low i:Nat):Nat:=i5 f m low i (Zu f (rk f (m*low)+i))
noncomputable def Fg(f:Nat->Bool)(m low i:Nat):Nat:=if i=0 then 0 else Fo f m low (i-1)
structure Pw(f:Nat->Bool)(len m low n:Nat):Prop where
 ones:rk f len=rk f (m*low)+m
 asc: ∀i,i<m->Fg f m low i<=Fo f m low i
 all:Fg f m low m=n
end Hm
theorem i9(hones:Bc)(pb o len g m low i:Nat)(s:ByteArray)(w:World)(h:Ep w pb o s len g m low)(B:m<=1000)(A:low<=20)(hi:i<m)(hb:m*low<=len)(r:len<=8*s.size)
  (hI:rk (Al s.data.toList) len=rk (Al s.data.toList) (m*low)+m) (hs:s.size<=1000000):
  Calls prog 36 #[.pointer (some ⟨pb,o,none⟩),.int .i64 i] w fun e w'=>e= .returned (.tuple #[.int .i64 (Fg (Al s.data.toList) m low i:Nat),.int .i64 (Fo (Al s.data.toList) m low i:Nat)])/\Aee w w':=by
 have a:Hid (∀j W,j<m->Aee w W->Calls prog 81 #[.pointer (some (J pb o)),I j] W fun e w'=>e= .returned (I (Fo (Al s.data.toList) m low j:Nat))/\Aee W w'):=fun j W v hk=>by
  obtain⟨h1,h2⟩:=i7 (f:=Al s.data.toList) (k:=rk (Al s.data.toList) (m*low)+j) (n:=len) (by omega);exact o5 hones pb o len g m low j _ s W (h.kept hk id id) B A v (by omega) (by omega) h2 hs
 clear h hI
 by_cases u:i=0
 ·subst u;have p:=a.o 0 w hi (Aa.refl _ _);have l:Hid (Fg (Al s.data.toList) m low 0=0):=rfl;rw[l.o];generalize Fo (Al s.data.toList) m low 0=x at*;clear a
  go_enter func36,ntmps36
  go_wp2_with fail;refine p.mono ?_;rintro e t ⟨rfl,b⟩;go_wp2_with fail;go_ret2;exact⟨rfl,b⟩
 ·obtain⟨j,rfl⟩: ∃j,i=j+1:=⟨i-1,by omega⟩;have p:=a.o j w (by omega) (Aa.refl _ _);have c:Hid (∀W,Aee w W->_):=fun W hk=>a.o (j+1) W hi hk;have l:Hid (Fg (Al s.data.toList) m low (j+1)=Fo (Al s.data.toList) m low j):=rfl;rw[l.o];generalize Fo (Al s.data.toList) m low (j+1)=x at*;generalize Fo (Al s.data.toList) m low j=y at*;have z:j<=1000:=by omega
  clear a l
  go_enter func36,ntmps36
  go_wp2_with fail;refine p.mono ?_;rintro e t ⟨rfl,b⟩;have d:=c.o t b;rw[show((j+1:Nat):Int)=(j:Int)+1 from by omega]at d;clear p c;go_wp2_with fail;refine d.mono ?_;rintro e w2 ⟨rfl,q⟩;go_wp2_with fail;go_ret2;exact⟨rfl,b.tr q⟩
theorem tG(hones:Bc)(pb o len g m low n:Nat)(s:ByteArray)(w:World)(h:Ep w pb o s len g m low)(V:m<=1000)(U:low<=20)(hb:m*low<=len)(A:len<=8*s.size)(hs:s.size<=1000000):
  Calls prog 168 #[.pointer (some ⟨pb,o,none⟩),.int .i64 n] w fun e w'=> ∃b,e= .returned (.bool b)/\(b=true↔Pw (Al s.data.toList) len m low n)/\Aee w w':=by
 have S:=Aa4 V U;have E:=fun W (p:Ep W pb o s len g m low)=>Xo pb o len W p.bits.len;have v:=fun W (p:Ep W pb o s len g m low)=>Jc hones pb o g len len s W p.bits A (by omega);have j:=fun W (p:Ep W pb o s len g m low)=>Jc hones pb o g len (m*low) s W p.bits (by omega) (by omega);have u:=fun W (p:Ep W pb o s len g m low)=>i6 pb o len g m low s W p V U;have F:=Sx (Al s.data.toList) len;have z:=Kn (Al s.data.toList) hb;have H:Hid (rk (Al s.data.toList) len=rk (Al s.data.toList) (m*low)+m-> ∀i W,i<m->Ep W pb o s len g m low->Calls prog 36 #[.pointer (some (J pb o)),I i] W fun e w'=>e= .returned (.tuple #[I (Fg (Al s.data.toList) m low i:Nat),I (Fo (Al s.data.toList) m low i:Nat)])/\Aee W w'):=
  fun hI i W hi p=>i9 hones pb o len g m low i s W p V U hi hb A hI hs
 have HC:Hid (Pw (Al s.data.toList) len m low n->rk (Al s.data.toList) len=rk (Al s.data.toList) (m*low)+m):=fun h=>h.ones;have c3:=h.files;have l:=hZ h;obtain⟨G,a⟩: ∃r,r=rk (Al s.data.toList) len:=⟨_,rfl⟩;obtain⟨P,c⟩: ∃r,r=rk (Al s.data.toList) (m*low):=⟨_,rfl⟩;obtain⟨hg,t⟩: ∃r,r=m*low:=⟨_,rfl⟩;rw[<-a]at v F z;rw[<-c]at j z;rw[<-t]at u;rw[<-t]at j;have Z:G<=8000000:=by omega
 have ae:IntKind.i64.wrap ((G:Int)-(P:Int))=(G:Int)-(P:Int):=by rw[Aar];omega
 have M:Hid _:=E;have N:Hid _:=v;have O:Hid _:=j;have K:Hid _:=u
 by_cases hA:G=P+m
 ·have X:Hid (rk (Al s.data.toList) len=rk (Al s.data.toList) (m*low)+m):=by show _=_;rw[<-a,<-c];exact hA
  have T:((G:Int)-(P:Int) !=(m:Int))=false:=by simp;omega
  clear h E v j u a c t F z S hA
  go_enter func168,ntmps168
  go_wp2;go_quiet(first
   |(go_at_call 182;refine Abc (M.o _ ?_);exact l.o.kept ((Aa.refl (fun _=>False) w).drewN _) id id)
   |(go_at_call 127;refine Calls.quiet_of (K.o _ ?_);exact l.o.kept ((Aa.refl (fun _=>False) w).drewN _) id id)
   |(go_at_call_of 126 (Value.int .i64 (len:Int));refine Abc (N.o _ ?_);exact l.o.kept ((Aa.refl (fun _=>False) w).drewN _) id id)
   |(go_at_call_of 126 (Value.int .i64 (hg:Int));refine Abc (O.o _ ?_);exact l.o.kept ((Aa.refl (fun _=>False) w).drewN _) id id))
  go_wp2
  go_loopw[5,34] (fun va vi wr=> ∃k:Nat,k<=m/\vi=I k/\va=I (Fg (Al s.data.toList) m low k:Nat)/\Hid (∀i,i<k->Fg (Al s.data.toList) m low i<=Fo (Al s.data.toList) m low i)/\Aee w wr) (fun _ vi _=>m-(intOf vi).toNat)
  case atStart=>exact⟨0,by omega,rfl,rfl,fun i hi=>by omega,(Aa.refl _ _).drewN _⟩
  case round=>
   obtain⟨k,hk,rfl,rfl,L,f⟩:=hrel;have C:=hZ f
   by_cases R:k<m
   ·have q:=H.o X.o k wr R (l.o.kept f id id);have Y:Hid (Fg (Al s.data.toList) m low (k+1)=Fo (Al s.data.toList) m low k):=rfl
    by_cases Q:Fg (Al s.data.toList) m low k<=Fo (Al s.data.toList) m low k
    ·have HL:Hid (∀i,i<k+1->Fg (Al s.data.toList) m low i<=Fo (Al s.data.toList) m low i):=fun i hi=>by
      rcases Nat.lt_or_eq_of_le (show i<=k from by omega)with h|h
      ·exact L.o i h
      ·rw[h];exact Q
     generalize Fg (Al s.data.toList) m low k=x at*;generalize Fo (Al s.data.toList) m low k=y at*;have hd:decide (y<x)=false:=zM (by omega);clear f L;go_wp2_with fail;refine q.mono ?_;rintro e w1 ⟨rfl,d⟩;have B:=hZ (C.o.tr d);clear d q;go_wp2_with fail;go_roundw
     case rel=>exact⟨k+1,by omega,by go_num,by rw[Y.o],HL,B.o⟩
     case measure=>simp[intOf];omega
    ·have D:Hid (¬Pw (Al s.data.toList) len m low n):=fun h=>Q (h.asc k R);generalize Fg (Al s.data.toList) m low k=x at*;generalize Fo (Al s.data.toList) m low k=y at*;have hd:decide (y<x)=true:=zJ (by omega);clear f L Y;go_wp2_with fail;refine q.mono ?_;rintro e w1 ⟨rfl,d⟩;have B:=hZ (C.o.tr d);clear d q;go_wp2_with fail;go_ret;exact⟨false,rfl,⟨fun h=>(by cases h),fun h=>absurd h D.o⟩,B.o⟩
   ·obtain rfl:k=m:=by omega
    have HB:Hid (decide (Fg (Al s.data.toList) k low k=n)=true↔Pw (Al s.data.toList) len k low n):=
     ⟨fun h=>⟨X.o,L.o,Aay h⟩,fun h=>zJ h.all⟩
    generalize Fg (Al s.data.toList) k low k=x at*;clear f L;go_wp2_with fail;go_ret;refine⟨decide (x=n),?_,HB.o,C.o⟩;have e:(((x:Nat):Int)==((n:Nat):Int))=decide (x=n):=by rw[Bool.eq_iff_iff];simp;omega
    rw[<-e];rfl
 ·have D:Hid (¬Pw (Al s.data.toList) len m low n):=fun h=>hA (by rw[a,c];exact h.ones);have T:((G:Int)-(P:Int) !=(m:Int))=true:=by simp;omega
  clear h E v j u a c t F z S hA H HC
  go_enter func168,ntmps168
  go_wp2;go_quiet(first
   |(go_at_call 182;refine Abc (M.o _ ?_);exact l.o.kept ((Aa.refl (fun _=>False) w).drewN _) id id)
   |(go_at_call 127;refine Calls.quiet_of (K.o _ ?_);exact l.o.kept ((Aa.refl (fun _=>False) w).drewN _) id id)
   |(go_at_call_of 126 (Value.int .i64 (len:Int));refine Abc (N.o _ ?_);exact l.o.kept ((Aa.refl (fun _=>False) w).drewN _) id id)
   |(go_at_call_of 126 (Value.int .i64 (hg:Int));refine Abc (O.o _ ?_);exact l.o.kept ((Aa.refl (fun _=>False) w).drewN _) id id))
  go_wp2;go_ret;exact⟨false,rfl,⟨fun h=>(by cases h),fun h=>absurd h D.o⟩,(Aa.refl _ _).drewN _⟩
namespace Hm
def Cz(m n:Nat):Nat:=if m=0 then 0 else D5 m n 18 0
theorem U7(m n:Nat)(a:1<=m)(d:Nat): ∀f j,n<2^(j+f)->D5 m n (f+d) j=D5 m n f j
 |0,j,h=>by
  rw[Ac2]at h;cases d with
  |zero=>rfl
  |succ d=>
   rw[Aao,D5,D5,if_neg];have h1:1*2^(j+1)<=m*2^(j+1):=Abs _ a;rw[Abl]at h1|-;omega
 |f+1,j,h=>by
  rw[show f+1+d=(f+d)+1 from by omega,D5,D5,U7 m n a d f (j+1) (by rw[show j+1+f=j+(f+1)from by omega];exact h)]
theorem U8(m n:Nat)(hn:n<=6000):Cz m n=Ca m n:=by
 unfold Cz Ca;split
 ·rfl
 ·exact U7 m n (by omega) 4 14 0 (by omega)
theorem mG(m n:Nat)(b:1<=m)(hn:n<=65535): ∀f j,j<=16->D5 m n f j<=16:=by
 intro f;induction f with
 |zero=>intro j a;exact a
 |succ f ih=>
  intro j a;unfold D5;split
  ·rename_i h;refine ih (j+1) ?_;rcases Abf j 16 with h1|h1
   ·omega
   ·have:j=16:=by omega
    subst this;have:1*2^17<=m*2^17:=Abs _ b;omega
  ·exact a
theorem Wv(m n:Nat)(hn:n<=65535):Cz m n<=16:=by
 unfold Cz;split
 ·omega
 ·exact mG m n (by omega) hn 18 0 (by omega)
end Hm
theorem mH(m n:Nat)(w:World)(x:m<=1000)(hn:n<=65535):
  Calls prog 141 #[.int .i64 m,.int .i64 n] w fun e w'=>e= .returned (.int .i64 (Cz m n:Nat))/\w=w':=by
 by_cases k:m=0
 ·subst k
  go_enter func141,ntmps141
  go_wp2;go_ret;exact⟨rfl,rfl⟩
 have d:Hid (Cz m n=D5 m n (18-0) 0):=by unfold Cz;rw[if_neg k];rfl
 generalize Cz m n=L at d|-;have h1:1<=m:=by omega
 have t:((m:Int)==0)=false:=by simp;omega
 go_enter func141,ntmps141
 go_wp2
 go_loop [5] (fun i=> ∃j:Nat,j<=16/\i=I j/\m*2^j<=65535+m/\L=D5 m n (18-j) j) (fun i=>18-(intOf i).toNat)
 case atStart=>exact⟨0,by omega,rfl,by omega,d.o⟩
 case round=>
  clear d;obtain⟨j,v,rfl,q,l⟩:=hrel;have g:Hid (L=if m*2^(j+1)<=n then D5 m n (17-j) (j+1)else j):=by
   show _=_;rw[l,show 18-j=(17-j)+1 from by omega];rfl
  have s:m*2^(j+1)=m*2^j*2:=by rw[Abl,Adt]
  obtain⟨p,u,c⟩: ∃p:Nat,(m:Int)*2^(j+1)=(p:Int)/\Hid (p=m*2^(j+1)):=⟨m*2^(j+1),by simp,rfl⟩;have hpb:p<=133100:=by have:=c.o;omega
  have a:p<=n->j<16:=by
   intro b;rcases Abf j 16 with h|h
   ·exact h
   ·have:j=16:=by omega
    subst this;have f:=c.o;have:1*2^17<=m*2^17:=Abs _ h1;omega
  have r:=hZ (aI a q);clear l q s a
  by_cases b:p<=n
  ·go_wp2
   go_round
   case rel=>
    have f:=c.o;refine⟨j+1,by have:=r.o.1 b;omega,by go_num,by rw[<-f];omega,?_⟩;rw[g.o,iP];congr 1;omega
   case measure=>simp[intOf];omega
  ·go_wp2;go_ret;have f:=c.o;refine⟨?_,rfl⟩;have:L=j:=by rw[g.o,iN]
   rw[this];rfl
theorem Rf(s:ByteArray)(w:World)(hs:s.size<=281474976710656):Calls prog 37 #[.string s] w fun e w'=>e= .returned (.string s)/\Aee w w':=by
 have h:=Tryz.stringslite_Clone s w hs
 go_enter func37,ntmps37
 go_wp2_with fail;refine h.mono ?_;rintro e a ⟨rfl,hb⟩;go_wp2_with fail;go_ret;exact⟨rfl,Aa.ofBelow hb (fun j h1 h2=>by omega)⟩
theorem Ng(l:Aeg)(len:Nat)(w:World)(n:(len+7)/8<=l.length)(hn:len<=10000000)(r:l.length<=4611686018427387904):
  Calls prog 167 #[.string ⟨l.toArray⟩,.int .i64 len] w fun e w'=>e= .returned (.agg #[.string ⟨(l.take ((len+7)/8)).toArray⟩,.int .i64 len])/\Aee w w':=by
 have c:=fun W=>S7 len W (by omega);obtain⟨q,k⟩:=gx ((len+7)/8);rw[<-k]at c n|-;have s:q<=10000000:=by omega
 obtain⟨S,g⟩:=gx (⟨l.toArray⟩:ByteArray);have y:S.size=l.length:=by rw[g];show l.toArray.size=_;simp
 obtain⟨T,i⟩:=gx (S.extract 0 q);have h:Hid (T=⟨(l.take q).toArray⟩):=by show _=_;rw[i,g,extract_toArray];simp
 have d:T.size<=281474976710656:=by rw[h.o];show(l.take q).toArray.size<=_;simp;omega
 have f:=fun W=>Rf T W d;rw[<-h.o,<-g];have m:=i.symm;clear g i h d k
 go_enter func167,ntmps167
 go_wp2_with fail;refine(c _).mono ?_;rintro e z ⟨rfl,rfl⟩;clear c;go_wp2_with fail;refine(f _).mono ?_;rintro e w2 ⟨rfl,b⟩;have a:=b.row (zY w (.cells #[.string ⟨#[]⟩,I 0] 83)) id;have t:=cO 0 a;have u:=cO 1 a;have x:=zR _ _ 0 _ _ a;have f1:=zR _ _ 1 _ _ a;have j:Hid (Aee w w2/\w2.heap[w.heap.size]?=some (.cells #[.string ⟨#[]⟩,I 0] 83 (0,0))):=⟨((Aa.refl (fun _=>False) w).alloc _).tr b,a⟩;clear f b a;go_wp2_with fail;have h2:=zI _ _ 1 _ _ (I len) (zI _ _ 0 _ _ (.string T) j.o.2);refine Aa8 (v:= .agg #[.string T,I len]) (Abj results167 _ _ w.heap.size 83 _ (0,0) _ rfl h2 underlying83 rfl (by kernel_rfl)) rfl ⟨rfl,?_⟩;exact(j.o.1.setCell (p:=(J w.heap.size 0)) (.inl (zK _)) _).setCell (p:=(J w.heap.size 1)) (.inl (zK _)) _
theorem Sh(m n l:Nat)(w:World)(d:m<=100000)(hn:n<=100000)(c:l<=20):Calls prog 145 #[.int .i64 m,.int .i64 n,.int .i64 l] w fun e w'=>e= .returned (.int .i64 (m+n/2^l+1:Nat))/\w'=w:=by
 obtain⟨q,f,a⟩: ∃q:Nat,(n:Int)/2^l=(q:Int)/\Hid (q=n/2^l):=⟨n/2^l,by simp,rfl⟩;have b:q<=n:=by rw[a.o];exact Acd _ _
 rw[<-a.o]
 go_enter func145,ntmps145
 go_wp2;go_ret;exact⟨by first|rfl|go_num|(congr 2;omega),rfl⟩
theorem M1(w:World)(b:Nat)(x y z u v:Value):Aa (fun j=>j=b) w (((((w.setCell ⟨b,0,none⟩ x).setCell ⟨b,1,none⟩ y).setCell ⟨b,2,none⟩ z).setCell ⟨b,3,none⟩ u).setCell ⟨b,4,none⟩ v):=
 ((Nc w b x y z).setCell (p:=(J b 3)) (.inr rfl) u).setCell (p:=(J b 4)) (.inr rfl) v
theorem jA(hones:Bc)(ao:Aej)(c:Nat)(es:Aeh)(n:Nat)(w:World)(hi:Na w ao es)(hm:es.length<=40)(hn:n<=6000)(he: ∀e∈es,e<=n):
  Calls prog 97 #[.slice ao es.length c,.int .i64 n] w fun e w'=> ∃g,w.heap.size<=g/\e= .returned (.agg #[.string ⟨(Ah (Bo es n)).toArray⟩,.int .i64 ((Bo es n).length:Nat),.slice (some ⟨g,0,none⟩) ((Ah (Bo es n)).length+1) ((Ah (Bo es n)).length+1),.int .i64 es.length,.int .i64 (Ca es.length n:Nat)])/\
   IntRow w' g (B8 (Ah (Bo es n)))/\Aee w w':=by
 have ar:Aside _:=hones;clear hones;have hL:=Nw es.length n hn;have HR:Hid (Bo es n=Gg es (Ca es.length n) (C7 es (Ca es.length n)).length (C7 es (Ca es.length n)++List.replicate (es.length+n/2^Ca es.length n+1) false) es.length):=rfl;generalize Bo es n=R at HR|-;have U:=fun W=>iU es.length n W (by omega) hn;generalize Ca es.length n=L at hL U HR;have S:=Il es L;have aj:es.length*L<=480:=by have:=Aa4 hm hL;omega
 generalize hB:C7 es L=B at HR S;have a9:n/2^L<=n:=Acd _ _
 go_enter func97,ntmps97
 go_wp2_with fail;refine(U _).mono ?_;rintro e w1 ⟨rfl,rfl⟩;clear U;go_wp2
 go_loopw[18] (fun i wr=> ∃(k:Nat) (v':Value),k<=es.length/\i=I k/\Em wr 221 (w.heap.size+1) v' (C7 (es.take k) L)/\Aa (fun j=>w.heap.size+1<=j) ((w.alloc (.cells #[.string ⟨#[]⟩,I 0,.slice none 0 0,I 0,I 0] 87)).alloc (.cells #[.slice none 0 0,I 0] 221)) wr/\(∀j,v'.ownBlock=some j->w.heap.size+2<=j)) (fun i _=>es.length-(intOf i).toNat)
 case atStart=>exact⟨0,.slice none 0 0,zZ _,rfl,by simpa[C7]using iV w _ _,Aa.refl _ _,fun j h=>by cases h⟩
 case round=>
  obtain⟨k,v',hk,rfl,hb,f,E⟩:=hrel;have m:Aee w wr:=(((Aa.refl (fun _=>False) w).alloc _).alloc _).trans f (fun j h1 h2=>by omega)
  by_cases r:k<es.length
  ·obtain⟨b,o,u,az,a0⟩:=(hi.kept m (fun a ha=>id)) k r;have Q:=he es[k] (z6 _);have HT:=hZ (Xp es L k r);have aJ:(C7 (es.take k) L).length<=480:=by
    rw[Il];have:(es.take k).length*L<=es.length*L:=Abs _ (by simp;omega);omega
   generalize es[k]=x at*;have p:=Zq 221 (w.heap.size+1) v' (C7 (es.take k) L) x L wr hb (by omega) (by omega) (by omega);rw[u];clear u hi hb he
   go_wp2_with(go_at_call 142;refine p.mono ?_;rintro e w2 ⟨v2,rfl,ax,a1,a2⟩)
   go_roundw
   case rel=>
    refine⟨k+1,v2,by omega,by go_num,by rw[HT.o];exact ax,f.trans a1 (fun j h1 h2=>?_),fun j h=>?_⟩
    ·rcases h2 with h2|h2
     ·omega
     ·have:=E j h2;omega
    ·rcases a2 j h with h2|h2
     ·exact E j h2
     ·have:=f.size;simp at this;omega
   case measure=>simp[intOf];omega
  ·obtain rfl:k=es.length:=by omega
   rw[Aaw,hB]at hb;obtain⟨q,hq,HQ⟩: ∃q:Nat,(n:Int)/2^L=(q:Int)/\Hid (q=n/2^L):=⟨n/2^L,by simp,rfl⟩;have aL:q<=n:=by have:=HQ.o;omega
   have aE:B.length<=480:=by omega
   have G:=yF 221 (w.heap.size+1) v' B wr hb;have ae:=iS 221 (w.heap.size+1) v' B (es.length+q+1) wr hb (by omega) (by omega);have T:=fun W=>Sh es.length n L W (by omega) (by omega) (by omega);rw[<-HQ.o]at T;have HH:=hZ (aI hi hb);have aB:=hZ S;clear hi hb S hB r hk aj;go_wp2_with fail;refine G.mono ?_;rintro e w2 ⟨rfl,rfl⟩;go_wp2_with fail;refine(T _).mono ?_;rintro e aP ⟨rfl,rfl⟩;clear T;go_wp2_with fail;refine ae.mono ?_;rintro e w3 ⟨v3,rfl,O,af,ah⟩;clear G ae;have F:Aa (fun j=>w.heap.size+1<=j) ((w.alloc (.cells #[.string ⟨#[]⟩,I 0,.slice none 0 0,I 0,I 0] 87)).alloc (.cells #[.slice none 0 0,I 0] 221)) w3:=f.trans af (fun j h1 h2=>by
    rcases h2 with h2|h2
    ·omega
    ·have:=E j h2;omega)
   have ai: ∀j,v3.ownBlock=some j->w.heap.size+2<=j:=fun j h=>by
    rcases ah j h with h2|h2
    ·exact E j h2
    ·have:=f.size;simp at this;omega
   generalize N:B++List.replicate (es.length+q+1) false=R0 at O;have t:R0.length=B.length+(es.length+q+1):=by rw[<-N];simp
   have ab:=hZ N;clear N af ah f m;go_wp2
   go_loopw[35] (fun i wr=> ∃(k:Nat),k<=es.length/\i=I k/\Em wr 221 (w.heap.size+1) v3 (Gg es L B.length R0 k)/\Aa (fun j=>w.heap.size+1<=j) ((w.alloc (.cells #[.string ⟨#[]⟩,I 0,.slice none 0 0,I 0,I 0] 87)).alloc (.cells #[.slice none 0 0,I 0] 221)) wr) (fun i _=>es.length-(intOf i).toNat)
   case atStart=>exact⟨0,zZ _,rfl,O,F⟩
   case round=>
    clear O F;obtain⟨k,hk,rfl,hb,f⟩:=hrel;obtain⟨hi,_⟩:=HH.o;have Y:=Lt es L B.length R0 k;have m:Aee w wr:=(((Aa.refl (fun _=>False) w).alloc _).alloc _).trans f (fun j h1 h2=>by omega)
    by_cases r:k<es.length
    ·obtain⟨b,o,u,az,a0⟩:=(hi.kept m (fun a ha=>id)) k r;have Q:=he es[k] (z6 _);have HT:Hid (Gg es L B.length R0 (k+1)=(Gg es L B.length R0 k).set (B.length+es[k]/2^L+k) true):=by
      show _=_;simp[Gg,r]
     have ac:es[k]/2^L<=q:=by rw[HQ.o];exact Nat.div_le_div_right Q
     generalize es[k]=x at*;obtain⟨y,hy,HY⟩: ∃y:Nat,(x:Int)/2^L=(y:Int)/\Hid (y=x/2^L):=⟨x/2^L,by simp,rfl⟩;have aN:y<=q:=by rw[HY.o];exact ac
     rw[<-HY.o]at HT;have p:=oY 221 (w.heap.size+1) v3 (Gg es L B.length R0 k) (B.length+y+k) wr hb (by omega) (by omega);have av:((B.length+y+k:Nat):Int)=(B.length:Int)+(y:Int)+(k:Int):=by omega
     rw[av]at p;rw[u];clear u hi hb he ac Y t Q
     go_wp2_with(go_at_call 146;refine p.mono ?_;rintro e w5 ⟨rfl,ay,z⟩)
     go_roundw
     case rel=>
      refine⟨k+1,by omega,by go_num,by rw[HT.o];exact ay,f.trans z (fun j h1 h2=>?_)⟩;rcases h2 with h2|h2
      ·omega
      ·have:=ai j h2;omega
     case measure=>simp[intOf];omega
    ·obtain rfl:k=es.length:=by omega
     have HF:Hid (R=Gg es L B.length R0 es.length):=by
      show _=_;rw[HR.o,<-ab.o,HQ.o]
     rw[<-HF.o]at hb;have C:=bU 221 (w.heap.size+1) v3 R wr hb;have V:(⟨(Ah R).toArray⟩:ByteArray).size=(Ah R).length:=by show(Ah R).toArray.size=_;simp
     have aw:R.length<=100000:=by rw[HF.o,Y,t];omega
     have H:=A8 R;have l:=fun W=>Ld ar.o ⟨(Ah R).toArray⟩ R.length W (by rw[V,H];omega);have e3:(⟨(Ah R).toArray⟩:ByteArray).data.toList=Ah R:=rfl;rw[e3,V]at l;have X:wr.heap[w.heap.size]?=some (.cells #[.string ⟨#[]⟩,I 0,.slice none 0 0,I 0,I 0] 87 (0,0)):=f.row (Ab2 w _ _) (by omega);have HX:=aZ (aI X m);have aM:w.heap.size<wr.heap.size:=Aac X;have HC:Aside _:=l;obtain⟨s,hS⟩:=gx (⟨(Ah R).toArray⟩:ByteArray);obtain⟨P,hP⟩:=gx (Ah R);have M:=aZ (aI hS hP);have K:=HC.o;rw[<-hS,<-hP]at K;rw[<-hS]at C;have Z:Aside _:=K;clear K HC hS hP V;clear hb hi he Y t HR ab HF X m f H e3 l aw;go_wp2_with fail;refine C.mono ?_;rintro e w5 ⟨rfl,z⟩;have l:=Z.o w5;clear C Z;go_wp2_with fail;refine l.mono ?_;rintro e w6 ⟨g,hg,rfl,D,ag⟩;have A:=z.tr ag;have d:=A.row HX.o.1 id;have p0:=cO 0 d;have p1:=cO 1 d;have p2:=cO 2 d;have p3:=cO 3 d;have p4:=cO 4 d;have f0:=zR _ _ 0 _ _ d;have f1:=zR _ _ 1 _ _ d;have f2:=zR _ _ 2 _ _ d;have f3:=zR _ _ 3 _ _ d;have f4:=zR _ _ 4 _ _ d;have HZ:Aside (w6.heap[w.heap.size]?=some (.cells #[.string ⟨#[]⟩,I 0,.slice none 0 0,I 0,I 0] 87 (0,0))/\Aee w w6/\IntRow w6 g (B8 P)/\w.heap.size<g):=⟨d,HX.o.2.tr A,D,by have:=z.size;omega⟩;clear l z ag A d D hg HX;go_wp2;obtain⟨d,m,D,aH⟩:=HZ.o;have h2:=zI _ _ 4 _ _ (I L) (zI _ _ 3 _ _ (I es.length) (zI _ _ 2 _ _ (S0 g (P.length+1) (P.length+1)) (zI _ _ 1 _ _ (I R.length) (zI _ _ 0 _ _ (.string s) d))));refine Aa8 (v:= .agg #[.string s,I R.length,S0 g (P.length+1) (P.length+1),I es.length,I L]) (Abj results97 _ _ w.heap.size 87 _ (0,0) _ rfl h2 underlying87 rfl (by kernel_rfl)) rfl ⟨g,by omega,by rw[M.o.1,M.o.2],?_,?_⟩
     ·rw[<-M.o.2];exact D.kept (M1 w6 w.heap.size _ _ _ _ _) (fun e=>by omega)
     ·exact m.trans (M1 w6 w.heap.size _ _ _ _ _) (fun j h1 h2=>by omega)
theorem Dr{e:Func}{p u:Tmp}{b:TypeId}(h:e.results= #[.cell p b,.tmp u])(a:Array Value)(w:World)(g:Nat)(t:TypeId)(cs:Array Value)(fr:Nat×Nat)(d:TypeDesc)
  (i:a.getD p undef= .pointer (some ⟨g,0,none⟩)) (f:w.heap[g]?=some (.cells cs t fr))
  (j:P.underlying b=some d) (hd:(match d with| .struct _| .array _ _=>true|_=>false)=true) (hi:(P.info? b).map (·.size)=some cs.size):
  (results e a).run P w= .ok (.tuple #[.agg cs,a.getD u undef]) w:=by
 have c:a[p]?.getD undef= .pointer (some (J g 0)):=by simpa using i
 simp[results,h,c,asAddr,run_loadVar_row w g t b cs fr d f j hd hi]
namespace Hm
def Ak(m n:Nat):Nat:=m*Cz m n+(m+n/2^Cz m n+1)
def szB(k:Nat):Nat:=(k+7)/8
structure Gp(l:Aeg)(m n:Nat):Prop where
 fits:szB (Ak m n)<=l.length
 cover:Pw (Al (l.take (szB (Ak m n)))) (Ak m n) m (Cz m n) n
end Hm
def Gj(l:Aeg)(m n g:Nat):Aei:=[.string ⟨(l.take (szB (Ak m n))).toArray⟩,.int .i64 (Ak m n:Nat),.slice (some ⟨g,0,none⟩) (szB (Ak m n)+1) (szB (Ak m n)+1),.int .i64 m,.int .i64 (Cz m n:Nat)]
def Hb:Aei:=[.string ⟨#[]⟩,.int .i64 0,.slice none 0 0,.int .i64 0,.int .i64 0]
theorem jB(hones:Bc)(l:Aeg)(m n:Nat)(w:World)(hm:m<=255)(hn:n<=65535)(a4:l.length<=4611686018427387904):
  Calls prog 117 #[.string ⟨l.toArray⟩,.int .i64 m,.int .i64 n] w fun e w'=>Aee w w'/\
   ((Gp l m n/\ ∃g,w.heap.size<=g/\e= .returned (.tuple #[.agg (Gj l m n g).toArray,.bool true])/\IntRow w' g (B8 (l.take (szB (Ak m n)))))\/
    (¬Gp l m n/\e= .returned (.tuple #[.agg Hb.toArray,.bool false]))):=by
 have ae:=Wv m n hn;have C:=fun W=>mH m n W (by omega) hn;have s:=fun W=>Sh m n (Cz m n) W (by omega) (by omega) (by omega);have a5:=Aa4 hm ae;have ao:=Acd n (2^Cz m n);have y:Hid (Ak m n=m*Cz m n+(m+n/2^Cz m n+1)):=rfl;have ap:Ak m n<=70000:=by rw[y.o];omega
 have U:1<=Ak m n:=by rw[y.o];exact Aaf (Nat.le_add_left 1 _) (Nat.le_add_left _ _)
 have f:=fun W=>S7 (Ak m n) W (by omega);obtain⟨S,hS⟩:=gx (⟨l.toArray⟩:ByteArray);have hz:S.size=l.length:=by rw[hS];show l.toArray.size=_;simp
 have HZ:Hid (szB (Ak m n)=(Ak m n+7)/8):=rfl;rw[<-HZ.o]at f;have aw:szB (Ak m n)<=10000:=by rw[HZ.o];omega
 have af:IntKind.i64.wrap ((m:Int)*(Cz m n:Int))=((m*Cz m n:Nat):Int):=by rw[Aar,<-Adb];omega
 have ag:wrap64 ((m:Int)*(Cz m n:Int))=((m*Cz m n:Nat):Int):=by rw[<-Adb];unfold wrap64;omega
 have u:((m*Cz m n:Nat):Int)+((m+n/2^Cz m n+1:Nat):Int)=(Ak m n:Int):=by rw[y.o];omega
 obtain⟨ml,G⟩: ∃x,x=m*Cz m n:=⟨_,rfl⟩;obtain⟨hh,ac⟩: ∃x,x=m+n/2^Cz m n+1:=⟨_,rfl⟩;rw[<-G]at af ag u a5;rw[<-ac]at s u;have aB:hh<=70000:=by omega
 by_cases d:szB (Ak m n)<=l.length
 ·have H:=fun W=>Ng l (Ak m n) W d (by omega) a4;rw[<-HZ.o,<-hS]at H;obtain⟨T,hT⟩:=gx (⟨(l.take (szB (Ak m n))).toArray⟩:ByteArray);have L:T.data.toList=l.take (szB (Ak m n)):=by rw[hT]
  have M:T.size=szB (Ak m n):=by rw[hT];show(l.take _).toArray.size=_;simp;omega
  rw[<-hT]at H;have z:=fun W=>Ld hones T (Ak m n) W (by omega);rw[M,L]at z;have D:Hid (∀W pb g,Ep W pb 0 T (Ak m n) g m (Cz m n)->Calls prog 168 #[.pointer (some (J pb 0)),I n] W fun e w'=> ∃b,e= .returned (.bool b)/\(b=true↔Pw (Al (l.take (szB (Ak m n)))) (Ak m n) m (Cz m n) n)/\Aee W w'):=fun W pb g h=>by
   have hh:=tG hones pb 0 (Ak m n) g m (Cz m n) n T W h (by omega) (by omega) (by rw[y.o];omega) (by rw[M,HZ.o];omega) (by omega);rwa[L]at hh
  have E:Hid (Gp l m n↔Pw (Al (l.take (szB (Ak m n)))) (Ak m n) m (Cz m n) n):=⟨fun h=>h.cover,fun h=>⟨d,h⟩⟩;have K:Hid (∀g,Gj l m n g=[.string T,I (Ak m n:Nat),S0 g (szB (Ak m n)+1) (szB (Ak m n)+1),I m,I (Cz m n:Nat)]):=fun g=>by rw[hT];rfl
  have Y:Hid (∀g W,IntRow W g (B8 (l.take (szB (Ak m n))))->IntRow W g (B8 T.data.toList)):=fun g W h=>by rw[L];exact h
  rw[<-hS];have al:=hZ M;obtain⟨cn,R⟩: ∃c,c=B8 (l.take (szB (Ak m n))):=⟨_,rfl⟩;rw[<-R]at z Y|-;obtain⟨q,hq⟩: ∃x,x=szB (Ak m n):=⟨_,rfl⟩;rw[<-hq]at f d aw z K al D E;obtain⟨el,i⟩: ∃x,x=Ak m n:=⟨_,rfl⟩;rw[<-i]at f u ap z H K D E;obtain⟨lw,p⟩: ∃x,x=Cz m n:=⟨_,rfl⟩;rw[<-p]at C s af ag K D E;have a2:decide (l.length<q)=false:=zM (by omega);clear hS y U HZ G ac hq i p ao ae hT L M R
  go_enter func117,ntmps117
  go_wp2_with fail;refine(C _).mono ?_;rintro e w1 ⟨rfl,hw⟩;subst hw;clear C;go_wp2_with fail;refine(s _).mono ?_;rintro e w1 ⟨rfl,rfl⟩;clear s;go_wp2_with fail;refine(f _).mono ?_;rintro e w1 ⟨rfl,rfl⟩;clear f;go_wp2_with fail;refine(H _).mono ?_;rintro e w2 ⟨rfl,ad⟩;clear H;go_wp2_with fail;refine(z _).mono ?_;rintro e w3 ⟨g,hg,rfl,O,aq⟩;clear z;have F:=ad.tr aq;have ab:=F.row (zY w (.cells #[.string ⟨#[]⟩,I 0,.slice none 0 0,I 0,I 0] 87)) id;have ar:Aee w w3:=((Aa.refl (fun _=>False) w).alloc _).tr F;have a1:=O.lt;have V:w.heap.size<w3.heap.size:=Aac ab;have av:w.heap.size<g:=by have:=ad.size;simp at this;omega
  obtain⟨B,hB⟩:=gx w3.heap.size;obtain⟨Q,N⟩:=gx (w3.alloc (.cells #[.string T,I el,S0 g (q+1) (q+1),I m,I lw] 87));have r:Q.heap[B]?=some (.cells #[.string T,I el,S0 g (q+1) (q+1),I m,I lw] 87 (0,0)):=by rw[N,hB];exact zY w3 _
  have k:Aee w3 Q:=by rw[N];exact(Aa.refl _ _).alloc _
  have hE:Ep Q B 0 T el g m lw:=⟨⟨zP _ _ 0 _ _ _ r,zP _ _ 1 _ _ _ r,by rw[al.o];exact zP _ _ 2 _ _ _ r,Y.o _ _ (O.kept k id)⟩,zP _ _ 3 _ _ _ r,zP _ _ 4 _ _ _ r⟩;have an:=D.o Q B g hE;have P:Hid (Q.heap[w.heap.size]?=some (.cells #[.string ⟨#[]⟩,I 0,.slice none 0 0,I 0,I 0] 87 (0,0))/\Q.heap[B]?=some (.cells #[.string T,I el,S0 g (q+1) (q+1),I m,I lw] 87 (0,0))/\Aee w Q/\IntRow Q g cn/\w.heap.size<B/\w.heap.size<g):=
   ⟨k.row ab id,r,ar.tr k,O.kept k id,by rw[hB];exact V,av⟩
  have Z:=hZ (aI N.symm hB.symm);clear ad aq F ab ar a1 V av O r k hE N hB D Y hg;go_upto_region 6 with fail
  rw[Z.o.1,Z.o.2];clear Z;go_wp2_with fail;refine an.mono ?_;rintro e w4 ⟨b,rfl,hb,A⟩;clear an;have a:=A.row P.o.1 id;have t:=A.row P.o.2.1 id;have p0:=cO 0 t;have p1:=cO 1 t;have p2:=cO 2 t;have p3:=cO 3 t;have p4:=cO 4 t;have q0:=cO 0 a;have q1:=cO 1 a;have q2:=cO 2 a;have q3:=cO 3 a;have q4:=cO 4 a;have f0:=zR _ _ 0 _ _ a;have f1:=zR _ _ 1 _ _ a;have f2:=zR _ _ 2 _ _ a;have f3:=zR _ _ 3 _ _ a;have f4:=zR _ _ 4 _ _ a;have X:Hid (w4.heap[w.heap.size]?=some (.cells #[.string ⟨#[]⟩,I 0,.slice none 0 0,I 0,I 0] 87 (0,0))/\Aee w w4/\IntRow w4 g cn/\w.heap.size<g):=
   ⟨a,P.o.2.2.1.tr A,P.o.2.2.2.1.kept A id,P.o.2.2.2.2.2⟩
  have a8:w.heap.size≠B:=by have:=P.o.2.2.2.2.1;omega
  cases b with
  |true=>
   have HB:Hid (Gp l m n):=E.o.2 (hb.1 rfl);clear hb a t A P;go_wp2_with fail;have h2:=zI _ _ 4 _ _ (I lw) (zI _ _ 3 _ _ (I m) (zI _ _ 2 _ _ (S0 g (q+1) (q+1)) (zI _ _ 1 _ _ (I el) (zI _ _ 0 _ _ (.string T) X.o.1))));refine Aa8 (v:= .tuple #[.agg #[.string T,I el,S0 g (q+1) (q+1),I m,I lw],.bool true]) (Dr results117 _ _ w.heap.size 87 _ (0,0) _ rfl h2 underlying87 rfl (by kernel_rfl)) rfl ⟨?_,.inl ⟨HB.o,g,by have:=X.o.2.2.2;omega,by rw[K.o],?_⟩⟩
   ·exact X.o.2.1.trans (M1 w4 w.heap.size _ _ _ _ _) (fun j h1 h2=>by omega)
   ·exact X.o.2.2.1.kept (M1 w4 w.heap.size _ _ _ _ _) (fun e=>by have:=X.o.2.2.2;omega)
  |false=>
   have HB:Hid (¬Gp l m n):=fun h=>by have:=hb.2 (E.o.1 h);cases this
   clear hb a t A P;go_wp2_with fail;have h2:=zI _ _ 4 _ _ (I 0) (zI _ _ 3 _ _ (I 0) (zI _ _ 2 _ _ (.slice none 0 0) (zI _ _ 1 _ _ (I 0) (zI _ _ 0 _ _ (.string ⟨#[]⟩) X.o.1))));refine Aa8 (v:= .tuple #[.agg Hb.toArray,.bool false]) (Dr results117 _ _ w.heap.size 87 _ (0,0) _ rfl h2 underlying87 rfl (by kernel_rfl)) rfl ⟨?_,.inr ⟨HB.o,rfl⟩⟩;exact X.o.2.1.trans (M1 w4 w.heap.size _ _ _ _ _) (fun j h1 h2=>by omega)
 ·have a0:Hid (¬Gp l m n):=fun h=>d h.fits;rw[<-hS];obtain⟨q,hq⟩: ∃x,x=szB (Ak m n):=⟨_,rfl⟩;rw[<-hq]at f d aw;obtain⟨el,i⟩: ∃x,x=Ak m n:=⟨_,rfl⟩;rw[<-i]at f u ap;obtain⟨lw,p⟩: ∃x,x=Cz m n:=⟨_,rfl⟩;rw[<-p]at C s af ag;have a2:decide (l.length<q)=true:=zJ (by omega);clear hS y U HZ G ac hq i p ao d ae
  go_enter func117,ntmps117
  go_wp2_with fail;refine(C _).mono ?_;rintro e w1 ⟨rfl,hw⟩;subst hw;clear C;go_wp2_with fail;refine(s _).mono ?_;rintro e w1 ⟨rfl,rfl⟩;clear s;go_wp2_with fail;refine(f _).mono ?_;rintro e w1 ⟨rfl,rfl⟩;clear f;go_wp2_with fail;refine Aa8 (v:= .tuple #[.agg Hb.toArray,.bool false]) (Dr results117 _ _ w.heap.size 87 _ (0,0) _ rfl (zY w _) underlying87 rfl (by kernel_rfl)) rfl ⟨(Aa.refl _ _).alloc _,.inr ⟨a0.o,rfl⟩⟩
structure Hc(w:World)(pb o:Nat)(s:ByteArray)(len g ng nc:Nat)(nds:List Nd):Prop where
 bits:Dh w pb o s len g
 nodes:w.cell? ⟨pb,o+515,none⟩=some (.slice (some ⟨ng,0,none⟩) nds.length nc)
 nod:w.ownsRow 0 195 9 (.slice (some ⟨ng,0,none⟩) nds.length nc) nds.length (Bj nds)
theorem Hc.kept{ng nc:Nat}{nds:List Nd}(h:Hc w pb o s len g ng nc nds)(hk:Aa S w w')(h1: ¬S pb)(h2: ¬S g)(b: ¬S ng):Hc w' pb o s len g ng nc nds:=
 have d:pb<w.heap.size:=z9 _ _ h.nodes
 ⟨h.bits.kept hk h1 h2,(hk.cell (p:=(J pb (o+515))) d h1).trans h.nodes,hk.owns h.nod (fun j c=>by have a:ng=j:=Aak c;rw[<-a];exact b)⟩
namespace Hm
def Gh(f:Nat->Bool)(nds:List Nd)(j a at':Nat):Nat:=
 if a=0 then at'-(rk f ((Ab nds j).frm+at')-rk f (Ab nds j).frm)else rk f ((Ab nds j).frm+at')-rk f (Ab nds j).frm
end Hm
theorem Zv(hones:Bc)(pb o len g ng nc:Nat)(s:ByteArray)(nds:List Nd)(b:Br)(D at':Nat)(w:World)(h:Hc w pb o s len g ng nc nds)(hb:b.node<nds.length)(ar:D<2)(r:(Ab nds b.node).frm+at'<=8*s.size)(hs:s.size<=1000000)(_hnl:nds.length<=255):
  Calls prog 124 #[.pointer (some ⟨pb,o,none⟩),.agg (Fu b).toArray,.int .i64 D,.int .i64 at'] w fun e w'=>e= .returned (.tuple #[.agg (Fu ((Ab nds b.node).br D)).toArray,.int .i64 (Gh (Al s.data.toList) nds b.node D at':Nat)])/\Aee w w':=by
 obtain⟨j,hj⟩:=gx b.node;rw[<-hj]at hb r|-;obtain⟨W0,m⟩:=gx ((w.alloc (.cells (Fu b).toArray 192)).alloc (.cells #[.bool false,.int .u8 0,I 0] 192));have K:Aee w W0:=by rw[m];exact((Aa.refl _ _).alloc _).alloc _
 have R:W0.heap[w.heap.size]?=some (.cells (Fu b).toArray 192 (0,0)):=by rw[m];exact Ab2 w _ _
 have f:W0.heap[w.heap.size+1]?=some (.cells #[.bool false,.int .u8 0,I 0] 192 (0,0)):=by rw[m];exact Ab3 w _ _
 have O:=h.kept K id id id;have HW:=hZ m.symm;have ab:=Y2 O.nod rfl hb;have U:=fun i hi=>It O.nod rfl hb i hi;have u:=Sx (Al s.data.toList) ((Ab nds j).frm+at');have z:=bT (Al s.data.toList) (show(Ab nds j).frm<=(Ab nds j).frm+at' from by omega);have y:=Kn (Al s.data.toList) (show(Ab nds j).frm<=(Ab nds j).frm+at' from by omega);have n:=fun W (hW:Dh W pb o s len g)=>Jc hones pb o g len ((Ab nds j).frm+at') s W hW r (by omega);have t:=fun W (hW:Dh W pb o s len g)=>Jc hones pb o g len (Ab nds j).frm s W hW (by omega) (by omega);have A:=O.nodes;have cn:W0.cell? (J w.heap.size 2)=some (I j):=by rw[hj];exact zP _ _ 2 _ _ _ R
 have r0:=cO 0 f;have r1:=cO 1 f;have r2:=cO 2 f;have f0:=zR _ _ 0 _ _ f;have f1:=zR _ _ 1 _ _ f;have f2:=zR _ _ 2 _ _ f;have k:Hid (Gh (Al s.data.toList) nds j D at'=if D=0 then at'-(rk (Al s.data.toList) ((Ab nds j).frm+at')-rk (Al s.data.toList) (Ab nds j).frm)else rk (Al s.data.toList) ((Ab nds j).frm+at')-rk (Al s.data.toList) (Ab nds j).frm):=rfl;obtain⟨fr,C⟩: ∃x,x=(Ab nds j).frm:=⟨_,rfl⟩;rw[<-C]at ab r u z y n t k;obtain⟨R1,P⟩: ∃x,x=rk (Al s.data.toList) (fr+at'):=⟨_,rfl⟩;obtain⟨R2,Q⟩: ∃x,x=rk (Al s.data.toList) fr:=⟨_,rfl⟩;rw[<-P]at u z y n k;rw[<-Q]at z y t k;obtain⟨Z,T⟩: ∃x,x=fr+at':=⟨_,rfl⟩;obtain⟨B,S⟩: ∃x,x=R1-R2:=⟨_,rfl⟩;rw[<-T]at n u r;rw[<-S]at k;have ay:(fr:Int)+(at':Int)=(Z:Int):=by omega
 have ax:(R1:Int)-(R2:Int)=(B:Int):=by omega
 have au:IntKind.i64.wrap (Z:Int)=(Z:Int):=by rw[Aar];omega
 have aw:IntKind.i64.wrap (B:Int)=(B:Int):=by rw[Aar];omega
 have ao:B<=at':=by omega
 have E:=hZ (aI O (aI K f));have G:Hid _:=n;have H:Hid _:=t;have d:=hZ U;have ap:(j:Int)<(nds.length:Int):=by omega
 have aq:pb<w.heap.size:=z9 _ _ h.nodes;have ak:ng<w.heap.size:=(h.nod.lt ng rfl).2;clear h O K R f U n t P Q C m hj T S u z y
 go_enter func124,ntmps124
 go_upto_region 1 with fail
 rw[HW.o];clear HW;go_quiet(fail);have q:Hid (Aee W0 (W0.drewN nq)):=(Aa.refl _ _).drewN _;generalize W0.drewN nq=W1 at q|-;go_wp2_with fail;go_quiet(first
  |(go_at_call_of 126 (Value.int .i64 (Z:Int));refine Abc (G.o _ ?_);exact(E.o.1.kept (q.o.drewN _) id id id).bits)
  |(go_at_call_of 126 (Value.int .i64 (fr:Int));refine Abc (H.o _ ?_);exact(E.o.1.kept (q.o.drewN _) id id id).bits))
 have l:Hid (Aee W0 (W1.drewN nq)):=q.o.drewN _;generalize W1.drewN nq=W2 at l|-;have a:=l.o;have X:w.heap.size+2<=W0.heap.size:=by have:=Aac E.o.2.2;omega
 have c:ng<W0.heap.size:=by omega
 have A:=(a.cell (p:=(J pb (o+515))) (show pb<_ from by omega) id).trans A;have cn:=(a.cell (p:=(J w.heap.size 2)) (show w.heap.size<_ from by omega) id).trans cn;have r0:=(a.cell (p:=(J (w.heap.size+1) 0)) (show w.heap.size+1<_ from by omega) id).trans r0;have r1:=(a.cell (p:=(J (w.heap.size+1) 1)) (show w.heap.size+1<_ from by omega) id).trans r1;have r2:=(a.cell (p:=(J (w.heap.size+1) 2)) (show w.heap.size+1<_ from by omega) id).trans r2;have f0:=(a.frozen (p:=(J (w.heap.size+1) 0)) (show w.heap.size+1<_ from by omega) id).trans f0;have f1:=(a.frozen (p:=(J (w.heap.size+1) 1)) (show w.heap.size+1<_ from by omega) id).trans f1;have f2:=(a.frozen (p:=(J (w.heap.size+1) 2)) (show w.heap.size+1<_ from by omega) id).trans f2;clear X;rcases(show D=0\/D=1 from by omega)with rfl|rfl
 ·have n3:=(a.cell (p:=(J ng (j*9+3))) c id).trans (d.o 3 (by omega));have n4:=(a.cell (p:=(J ng (j*9+4))) c id).trans (d.o 4 (by omega));have n5:=(a.cell (p:=(J ng (j*9+5))) c id).trans (d.o 5 (by omega));have L:(Cw (Ab nds j))[3]?=some (.bool (Ab nds j).b0.whole):=rfl;have M:(Cw (Ab nds j))[4]?=some (.int .u8 ((Ab nds j).b0.val.toNat:Nat)):=rfl;have N:(Cw (Ab nds j))[5]?=some (I ((Ab nds j).b0.node:Nat)):=rfl;rw[L]at n3;rw[M]at n4;rw[N]at n5;have F:Hid ((Fu ((Ab nds j).br 0)).toArray= #[.bool (Ab nds j).b0.whole,.int .u8 ((Ab nds j).b0.val.toNat:Nat),I ((Ab nds j).b0.node:Nat)]):=rfl;generalize(Ab nds j).b0.whole=x0 at*;generalize(Ab nds j).b0.val.toNat=x1 at*;generalize(Ab nds j).b0.node=x2 at*;clear d G H L M N a;obtain⟨Y,V⟩: ∃x,x=at'-B:=⟨_,rfl⟩;have az:(at':Int)-(B:Int)=(Y:Int):=by omega
  have av:IntKind.i64.wrap (Y:Int)=(Y:Int):=by rw[Aar];omega
  have HQ:=hZ V;clear V;go_wp2_with fail
  go_region
  go_wp2_with fail;have h2:=zI _ _ 2 _ _ (I x2) (zI _ _ 1 _ _ (.int .u8 x1) (zI _ _ 0 _ _ (.bool x0) (l.o.row E.o.2.2 id)));refine Aa8 (v:= .tuple #[.agg #[.bool x0,.int .u8 x1,I x2],I Y]) (Dr results124 _ _ (w.heap.size+1) 192 _ (0,0) _ rfl h2 underlying192 rfl (by kernel_rfl)) rfl ⟨?_,?_⟩
  ·rw[F.o,show Gh (Al s.data.toList) nds j 0 at'=Y from k.o.trans HQ.o.symm]
  ·exact((((E.o.2.1.tr l.o).setCell (.inl (Nat.le_succ _)) _).setCell (.inl (Nat.le_succ _)) _).setCell (.inl (Nat.le_succ _)) _).drew
 ·have n3:=(a.cell (p:=(J ng (j*9+6))) c id).trans (d.o 6 (by omega));have n4:=(a.cell (p:=(J ng (j*9+7))) c id).trans (d.o 7 (by omega));have n5:=(a.cell (p:=(J ng (j*9+8))) c id).trans (d.o 8 (by omega));have L:(Cw (Ab nds j))[6]?=some (.bool (Ab nds j).b1.whole):=rfl;have M:(Cw (Ab nds j))[7]?=some (.int .u8 ((Ab nds j).b1.val.toNat:Nat)):=rfl;have N:(Cw (Ab nds j))[8]?=some (I ((Ab nds j).b1.node:Nat)):=rfl;rw[L]at n3;rw[M]at n4;rw[N]at n5;have F:Hid ((Fu ((Ab nds j).br 1)).toArray= #[.bool (Ab nds j).b1.whole,.int .u8 ((Ab nds j).b1.val.toNat:Nat),I ((Ab nds j).b1.node:Nat)]):=rfl;generalize(Ab nds j).b1.whole=x0 at*;generalize(Ab nds j).b1.val.toNat=x1 at*;generalize(Ab nds j).b1.node=x2 at*;clear d G H L M N a;go_wp2_with fail
  go_region
  go_wp2_with fail;have h2:=zI _ _ 2 _ _ (I x2) (zI _ _ 1 _ _ (.int .u8 x1) (zI _ _ 0 _ _ (.bool x0) (l.o.row E.o.2.2 id)));refine Aa8 (v:= .tuple #[.agg #[.bool x0,.int .u8 x1,I x2],I B]) (Dr results124 _ _ (w.heap.size+1) 192 _ (0,0) _ rfl h2 underlying192 rfl (by kernel_rfl)) rfl ⟨?_,?_⟩
  ·rw[F.o,show Gh (Al s.data.toList) nds j 1 at'=B from k.o]
  ·exact((((E.o.2.1.tr l.o).setCell (.inl (Nat.le_succ _)) _).setCell (.inl (Nat.le_succ _)) _).setCell (.inl (Nat.le_succ _)) _).drew
end
namespace Hm
theorem Ps{α:Type}(p:α->Bool)(l:List α)(q:Nat):(l.filter p).take ((l.take q).countP p)=(l.take q).filter p:=by
 have e:l.filter p=(l.take q).filter p++(l.drop q).filter p:=by rw[<-Abz,Abh]
 rw[e,Acf,Adi]
theorem Zw(p:UInt8->Bool)(l:Aeg)(q:Nat)(a:q<l.length)(b:p (l.getD q 0)=true):(l.filter p).getD ((l.take q).countP p) 0=l.getD q 0/\(l.take q).countP p<(l.filter p).length:=by
 have e:l.filter p=(l.take q).filter p++l.getD q 0::(l.drop (q+1)).filter p:=by
  conv=>lhs;rw[<-Abh q l]
  rw[Abz,Aan a,zG,zH a,Ack];rw[zG,zH a,Ack]at b;rw[Aeb b]
 rw[e,Acf];constructor
 ·rw[zG,z7 (zK _),Abd];rfl
 ·rw[zL,Aau];omega
theorem jC(f:Nat->Bool)(s:Nat)(l:Aeg)(g:UInt8->Nat)(hb: ∀p,p<l.length->f (s+p)=decide (g (l.getD p 0)=1)): ∀q,q<=l.length->rk f (s+q)-rk f s=(l.take q).countP (fun b=>g b==1)
 |0,_=>by simp
 |q+1,j=>by
  have h:=jC f s l g hb q (by omega);have i:=Kn f (Adz s q);have e:rk f (s+(q+1))=rk f (s+q)+(f (s+q)).toNat:=rfl;have h1:=hb q (by omega);have c:l.take (q+1)=l.take q++[l.getD q 0]:=by
   rw[List.take_add_one,zG,zH (show q<l.length by omega)];rfl
  rw[e,c,Ab0,<-h,h1];have d:List.countP (fun b=>g b==1) [l.getD q 0]=(decide (g (l.getD q 0)=1)).toNat:=by
   rw[Abi,Adm]
   by_cases a:g (l.getD q 0)=1
   ·rw[a];rfl
   ·rw[zM a,show(g (l.getD q 0)==1)=false from by simpa using a];rfl
  rw[d];omega
theorem pZ(l:Aeg)(g:UInt8->Nat)(a: ∀b,g b<2):l.countP (fun b=>g b==0)+l.countP (fun b=>g b==1)=l.length:=by
 induction l with
 |nil=>rfl
 |cons b r ih=>
  have:=a b;rw[Abi,Abi,Aau];rcases(show g b=0\/g b=1 by omega)with e|e<;>rw[e]<;>simp<;>omega
section
variable {M:Nat} {ln num:UInt8->Nat} {o:Aeg} {nds:List Nd} {f:Nat->Bool} {col:Aeg}
theorem Rep.ahead(h:Rep ln num f nds col){n q u:Nat}(hn:n<nds.length)(c:q<=(Ab nds n).siz)(d:u<2):
  Gh f nds n u q=((Aq ln num nds col n).take q).countP fun b=>As ln num (Ab nds n).depth b==u:=by
 have hs:=h.siz n hn;have key:=jC f (Ab nds n).frm (Aq ln num nds col n) (As ln num (Ab nds n).depth) (fun p a=>h.bit n p hn (by omega)) q (by omega);have L6:=pZ ((Aq ln num nds col n).take q) (As ln num (Ab nds n).depth) (Fq ln num _);rw[zS,Ab8 (by omega)]at L6;unfold Gh;rcases(show u=0\/u=1 by omega)with rfl|rfl
 ·rw[if_pos rfl,key];omega
 ·rw[iN,key]
structure Way(ln num:UInt8->Nat)(nds:List Nd)(col:Aeg)(a n q:Nat):Prop where
 lt:n<nds.length
 at':q<(Aq ln num nds col n).length
 byte:(Aq ln num nds col n).getD q 0=col.getD a 0
 cnt:((Aq ln num nds col n).take q).count (col.getD a 0)=(col.take a).count (col.getD a 0)
theorem Way.start(h:Bn M ln o nds)(f: ∀b∈col,b∈o)(d: ∀b∈o,0<ln b)(c: ∀b∈o,num b<2^ln b){a:Nat}(g:a<col.length):Way ln num nds col a 0 a:=by
 have e:Aq ln num nds col 0=col:=by
  unfold Aq;refine List.filter_eq_self.2 fun b hb=>zJ ⟨by rw[h.root.1];exact d b (f b hb),?_⟩;rw[h.root.1,h.root.2,Adj];exact Nat.div_eq_of_lt (c b (f b hb))
 exact⟨h.more,by rw[e];exact g,by rw[e],by rw[e]⟩
theorem Way.step(v:Rep ln num f nds col)(h:Bn M ln o nds)(hk:Hw M ln num o)(r: ∀b∈col,b∈o){a n q:Nat}(w:Way ln num nds col a n q):
  ∃u,u<2/\f ((Ab nds n).frm+q)=decide (u=1)/\
   (((Ab nds n).br u={whole:=true,val:=col.getD a 0}/\Gh f nds n u q=(col.take a).count (col.getD a 0))\/
    ∃m,0<m/\n<m/\(Ab nds n).br u={node:=m}/\Way ln num nds col a m (Gh f nds n u q)):=by
 have hs:=v.siz n w.lt;have l:=Fq ln num (Ab nds n).depth (col.getD a 0);refine⟨As ln num (Ab nds n).depth (col.getD a 0),l,?_,?_⟩
 ·rw[v.bit n q w.lt (by have:=w.at';omega),w.byte]
 ·have e:=v.ahead w.lt (show q<=_ by have:=w.at';omega) l;have k:col.getD a 0∈Aq ln num nds col n:=by
   rw[<-w.byte,zG,zH w.at'];exact z6 _
  obtain⟨i,j⟩:=List.mem_filter.1 k;obtain⟨u,c⟩:=gx (As ln num (Ab nds n).depth (col.getD a 0));rw[<-c]at l e|-;have B:(fun b=>As ln num (Ab nds n).depth b==u) ((Aq ln num nds col n).getD q 0)=true:=by
   show(_==u)=true;rw[w.byte,c];exact Acr _
  have A:=Zw (fun b=>As ln num (Ab nds n).depth b==u) (Aq ln num nds col n) q w.at' B;cases h.good n u w.lt l with
  |leaf kk g e1 e2 e3=>
   have z:col.getD a 0=o.getD kk 0:=Ju hk (r _ i) j g e2 (by rw[<-c];exact e3);refine .inl ⟨by rw[z];exact e1,?_⟩;rw[e,<-w.cnt,List.count];refine List.countP_congr fun b hb=>?_;have t:=Ads hb;obtain⟨p,y⟩:=List.mem_filter.1 t;constructor
   ·intro x;have d:As ln num (Ab nds n).depth b=u:=by simpa using x
    have:=Ju hk (r _ p) y g e2 (by rw[d];exact e3);rw[this,z];exact Acr _
   ·intro x;have d:b=col.getD a 0:=by simpa using x
    rw[d,c];exact Acr _
  |node m e1 p y=>
   refine .inr ⟨m,by omega,p,e1,?_⟩;have s:=h.col_child hk r w.lt l (by omega) e1;refine⟨y,?_,?_,?_⟩
   ·rw[s,e];exact A.2
   ·rw[s,e,A.1];exact w.byte
   ·rw[s,e,Ps,List.count_filter,w.cnt];rw[c];exact Acr _
  |none e1 p=>
   exact(Jv hk (r _ i) j (by rw[<-c];exact p)).elim
end
end Hm
section
open Go.RowKit
namespace Hm
structure Qa(M:Nat)(ln num:UInt8->Nat)(o:Aeg)(l:Aeg)(nds:List Nd)(col:Aeg):Prop where
 rep:Rep ln num (Al l) nds col
 shp:Bn M ln o nds
 numk:Hw M ln num o
 mem: ∀b∈col,b∈o
 pos: ∀b∈o,0<ln b
 num: ∀b∈o,num b<2^ln b
 fits: ∀n,n<nds.length->(Ab nds n).frm+(Ab nds n).siz<=8*l.length
def K0(l:Aeg)(nds:List Nd)(col:Aeg):Prop:= ∃M ln num o,Qa M ln num o l nds col
end Hm
theorem vX(hones:Bc)(pb o len g ng nc a:Nat)(s:ByteArray)(nds:List Nd)(col:Aeg)(w:World)(h:Hc w pb o s len g ng nc nds)(ht:K0 s.data.toList nds col)(ha:a<col.length)(hs:s.size<=1000000)(az:col.length<=1000000):
  Calls prog 79 #[.pointer (some ⟨pb,o,none⟩),.int .i64 a] w fun e w'=>e= .returned (.tuple #[.int .u8 ((col.getD a 0).toNat:Nat),.int .i64 (((col.take a).count (col.getD a 0):Nat):Nat)])/\Aee w w':=by
 obtain⟨M,ln,num,od,ht⟩:=ht;have al:s.data.toList.length=s.size:=by simp
 have am:=Hm.Way.start ht.shp ht.mem ht.pos ht.num ha;have a2:=ht.shp.more;have ak:=ht.shp.few;have a3:pb<w.heap.size:=z9 _ _ h.nodes;have ar:ng<w.heap.size:=(h.nod.lt ng rfl).2;obtain⟨x,hx⟩:=gx (col.getD a 0);obtain⟨c,hc⟩:=gx ((col.take a).count (col.getD a 0));have L:=fun n q (w:Hm.Way ln num nds col a n q)=>Hm.Way.step ht.rep ht.shp ht.numk ht.mem w;rw[<-hc,<-hx]at L|-;have ac:Hid _:=L;have HT:=hZ ht;have HH:=hZ h;clear h ht L hx hc
 go_enter func79,ntmps79
 go_wp2
 go_loopg [1] (nds.length+1) (fun k v1 wr=> ∃(b:Br) (q:Nat),v1= .int .i64 q/\wr.heap[w.heap.size]?=some (.cells (Fu b).toArray 192 (0,0))/\Aee w wr/\((b.whole=false/\Hm.Way ln num nds col a b.node q/\nds.length+1<=k+b.node)\/(b={whole:=true,val:=x}/\q=c)))
 case atStart=>exact⟨{},a,rfl,zY w _,(Aa.refl _ _).alloc _,.inl ⟨rfl,am,by show _<=_+0;omega⟩⟩
 case round=>
  obtain⟨b,q,rfl,f,D,K⟩:=hrel;have HR:=hZ (aI f D);have f0:wr.frozen? ⟨w.heap.size,0,none⟩=false:=zR _ _ 0 _ _ f;have f1:wr.frozen? ⟨w.heap.size,1,none⟩=false:=zR _ _ 1 _ _ f;have f2:wr.frozen? ⟨w.heap.size,2,none⟩=false:=zR _ _ 2 _ _ f;rcases K with⟨ai,way,Y⟩|⟨rfl,rfl⟩
  ·obtain⟨bw,t,i⟩:=b;obtain rfl:bw=false:=ai;have N:wr.cell? ⟨w.heap.size,0,none⟩=some (.bool false):=zP _ _ 0 _ _ _ f;have O:wr.cell? ⟨w.heap.size,1,none⟩=some (.int .u8 t.toNat):=zP _ _ 1 _ _ _ f;have Q:wr.cell? ⟨w.heap.size,2,none⟩=some (.int .i64 i):=zP _ _ 2 _ _ _ f;obtain⟨u,hu,V,A⟩:=ac.o _ _ way
   replace Y:nds.length+1<=gk+i:=Y
   have C:i<nds.length:=way.lt;have h1:=HH.o.kept D id id id;have z:=HT.o.fits i C;have hq:q<(Ab nds i).siz:=by rw[HT.o.rep.siz i C];exact way.at'
   have a5:q<1000000:=by have h3:q<(Aq ln num nds col i).length:=way.at';have h4:=Nt ln num nds col i;omega
   rw[al]at z;have j:=fun W (hW:Hc W pb o s len g ng nc nds)=>Wu pb o ((Ab nds i).frm+q) s W hW.bits.str (by omega) (by omega);have r:=Zv hones pb o len g ng nc s nds ⟨false,t,i⟩ u q
   replace r: ∀W,Hc W pb o s len g ng nc nds->_:=fun W hW=>r W hW C hu (by show(Ab nds i).frm+q<=_;omega) hs ak
   have Z:((Al s.data.toList ((Ab nds i).frm+q)).toNat:Nat)=u:=by
    have X:Al s.data.toList ((Ab nds i).frm+q)=decide (u=1):=V;rw[X];rcases(show u=0\/u=1 by omega)with rfl|rfl<;>rfl
   rw[Z]at j;have R:=h1.nodes;have U:=Y2 h1.nod rfl C;have aj:(Ab nds i).frm<=8*s.size:=by omega
   have aa:Hid ((Fu ⟨false,t,i⟩).toArray= #[.bool false,.int .u8 t.toNat,.int .i64 i]):=rfl;have F:Hid (((Ab nds i).br u={whole:=true,val:=x}/\Gh (Al s.data.toList) nds i u q=c)\/
    ∃m,0<m/\i<m/\(Ab nds i).br u={node:=m}/\Hm.Way ln num nds col a m (Gh (Al s.data.toList) nds i u q)):=A
   have S:(Ab nds i).frm<=8000000:=by omega
   clear z hq V Z aj f way A;generalize(Ab nds i).frm=fr at j U S;obtain⟨fq,T⟩: ∃y,y=fr+q:=⟨_,rfl⟩;have a9:(fr:Int)+(q:Int)=(fq:Int):=by omega
   have a7:IntKind.i64.wrap (fq:Int)=(fq:Int):=by rw[Aar];omega
   rw[<-T]at j;have HB:Hid _:=j;have HF:Hid _:=r;have P:=hZ h1;have ay:(i:Int)<(nds.length:Int):=by omega
   clear j r h1 T D;go_wp2_with fail;go_quiet(first
    |(go_at_call 123;refine Abc (HB.o _ ?_);exact P.o.kept ((Aa.refl (fun _=>False) wr).drewN _) id id id))
   have E:Hid (Aee wr (wr.drewN nq)):=(Aa.refl _ _).drewN _;have G:Hid ((wr.drewN nq).heap[w.heap.size]?=some (.cells (Fu ⟨false,t,i⟩).toArray 192 (0,0))):=HR.o.1
   replace N:(wr.drewN nq).cell? ⟨w.heap.size,0,none⟩=some (.bool false):=N
   replace O:(wr.drewN nq).cell? ⟨w.heap.size,1,none⟩=some (.int .u8 t.toNat):=O
   replace Q:(wr.drewN nq).cell? ⟨w.heap.size,2,none⟩=some (.int .i64 i):=Q
   generalize wr.drewN nq=W1 at E G N O Q|-;have l:=HF.o W1 (P.o.kept E.o id id id);rw[aa.o]at l;clear HB HF R U f0 f1 f2;go_wp2_with fail;have B:Hid (Aee w W1):=HR.o.2.tr E.o;rcases F.o with⟨e1,e2⟩|⟨m,a0,a1,e1,way2⟩
   ·rw[e1,show Gh (Al s.data.toList) nds (Br.mk false t i).node u q=c from e2,show(Fu {whole:=true,val:=x}).toArray= #[.bool true,.int .u8 x.toNat,.int .i64 0]from rfl]at l;refine l.mono ?_;rintro e w2 ⟨rfl,p⟩;have d:=p.row G.o id;have v:Hid (w2.heap[w.heap.size]?=some (.cells (Fu ⟨false,t,i⟩).toArray 192 (0,0))/\Aee w w2):=⟨d,B.o.tr p⟩;have N:w2.cell? ⟨w.heap.size,0,none⟩=some (.bool false):=zP _ _ 0 _ _ _ d;have O:w2.cell? ⟨w.heap.size,1,none⟩=some (.int .u8 t.toNat):=zP _ _ 1 _ _ _ d;have Q:w2.cell? ⟨w.heap.size,2,none⟩=some (.int .i64 i):=zP _ _ 2 _ _ _ d;have f0:w2.frozen? ⟨w.heap.size,0,none⟩=false:=zR _ _ 0 _ _ d;have f1:w2.frozen? ⟨w.heap.size,1,none⟩=false:=zR _ _ 1 _ _ d;have f2:w2.frozen? ⟨w.heap.size,2,none⟩=false:=zR _ _ 2 _ _ d;clear l p d e1 e2 B F;go_wp2_with fail
    go_roundg (gk-1)
    case rel=>exact⟨{whole:=true,val:=x},c,rfl,zI _ _ 2 _ _ (.int .i64 0) (zI _ _ 1 _ _ (.int .u8 x.toNat) (zI _ _ 0 _ _ (.bool true) v.o.1)),((v.o.2.setCell (.inl (zK _)) _).setCell (.inl (zK _)) _).setCell (.inl (zK _)) _,.inr ⟨rfl,rfl⟩⟩
    case measure=>omega
   ·obtain⟨ah,H⟩: ∃y,y=Gh (Al s.data.toList) nds i u q:=⟨_,rfl⟩;rw[<-H]at way2;rw[e1,show Gh (Al s.data.toList) nds (Br.mk false t i).node u q=ah from H.symm,show(Fu {node:=m}).toArray= #[.bool false,.int .u8 0,.int .i64 m]from rfl]at l;refine l.mono ?_;rintro e w2 ⟨rfl,p⟩;have d:=p.row G.o id;have v:Hid (w2.heap[w.heap.size]?=some (.cells (Fu ⟨false,t,i⟩).toArray 192 (0,0))/\Aee w w2):=⟨d,B.o.tr p⟩;have N:w2.cell? ⟨w.heap.size,0,none⟩=some (.bool false):=zP _ _ 0 _ _ _ d;have O:w2.cell? ⟨w.heap.size,1,none⟩=some (.int .u8 t.toNat):=zP _ _ 1 _ _ _ d;have Q:w2.cell? ⟨w.heap.size,2,none⟩=some (.int .i64 i):=zP _ _ 2 _ _ _ d;have f0:w2.frozen? ⟨w.heap.size,0,none⟩=false:=zR _ _ 0 _ _ d;have f1:w2.frozen? ⟨w.heap.size,1,none⟩=false:=zR _ _ 1 _ _ d;have f2:w2.frozen? ⟨w.heap.size,2,none⟩=false:=zR _ _ 2 _ _ d;have ad:=hZ way2;clear l p d e1 H B F way2;go_wp2_with fail
    go_roundg (gk-1)
    case rel=>exact⟨{node:=m},ah,rfl,zI _ _ 2 _ _ (.int .i64 m) (zI _ _ 1 _ _ (.int .u8 0) (zI _ _ 0 _ _ (.bool false) v.o.1)),((v.o.2.setCell (.inl (zK _)) _).setCell (.inl (zK _)) _).setCell (.inl (zK _)) _,.inl ⟨rfl,ad.o,by show _<=gk-1+m;omega⟩⟩
    case measure=>omega
  ·have N:wr.cell? ⟨w.heap.size,0,none⟩=some (.bool true):=zP _ _ 0 _ _ _ f;have O:wr.cell? ⟨w.heap.size,1,none⟩=some (.int .u8 x.toNat):=zP _ _ 1 _ _ _ f;clear f D;go_wp2_with fail;go_ret2;exact⟨rfl,HR.o.2⟩
def E4(w:World)(t g:Nat)(l:Aeh):Prop:=w.heap[g]?=some (.cells (Ad l).toArray t (0,0))
theorem E4.cell(h:E4 w t g l){i:Nat}(hi:i<l.length):w.cell? ⟨g,i,none⟩=some (.int .i64 (l[i]:Nat)):=by
 rw[zP _ _ i _ _ _ h];simp[Ad,hi]
theorem E4.free(h:E4 w t g l)(i:Nat):w.frozen? ⟨g,i,none⟩=false:=zR _ _ i _ _ h
theorem E4.set(h:E4 w t g l)(i x:Nat):E4 (w.setCell ⟨g,i,none⟩ (.int .i64 x)) t g (l.set i x):=by
 have h2:=zI w g i _ _ (I x) h;unfold E4;rw[h2];congr 2;apply Abr;simp[Ad,List.map_set]
theorem E4.lt(h:E4 w t g l):g<w.heap.size:=Aac h
theorem E4.kept(h:E4 w t g l)(hk:Aa S w w')(hn: ¬S g):E4 w' t g l:=hk.row h hn
theorem vY:Tryz.zeroCells94=(Ad (List.replicate 256 0)).toArray:=by kernel_rfl
theorem Le:Tryz.zeroCells139=(Ad (List.replicate 256 0)).toArray:=by kernel_rfl
theorem Pd(T:TypeId)(n:Nat)(b:prog.underlying T=some (.array n 3))(l:Aeh)(i:Nat)(hi:i<l.length)(hn:l.length=n)(w:World):
  (Instr.index T (.agg (Ad l).toArray) (.int .i64 i)).run prog w= .ok (.int .i64 (l[i]:Nat)) w:=by
 have c:=Tryz.sizeOf3;have a3:=Tryz.isAgg3;have a:(i:Int)<(n:Int):=by omega
 unfold Instr.index;simp only[Sem.run_bind,run_underlying b,Ac9,asIntOf,Sem.run_pure,Int.natCast_nonneg,a,and_self,if_true,c,Int.toNat_natCast,Acw,part,a3];simp[Ad,hi]
namespace Hm
def G4(N c k:Nat):Aeh:=(List.replicate N 0).set c k
theorem jD(N c k:Nat):(G4 N c k).length=N:=by simp[G4]
end Hm
theorem Px:(prog.info? 216).map (fun i=>(i.zero,i.size,i.bytes))=some (some (.agg #[.int .i64 0,.int .u8 0,.slice none 0 0]),3,40):=by kernel_rfl
theorem Aa.setRow{a b:World}(h:Aa S a b){g:Nat}(c:a.heap.size<=g\/S g)(cs:Array Value):Aa S a (b.setRow g cs):=by
 refine⟨h.os,h.tape,h.output,by have:=h.size;simp;omega,fun j e hn=>?_⟩;have d:j≠g:=by
  rintro rfl;rcases c with c|c
  ·omega
  ·exact hn c
 exact(setRow_other b g j cs d).trans (h.block j e hn)
theorem wpList_store_row(w:World){ops:Array Oper}{rest:List Oper}{op:Oper}{a:Act}{Q:Exit->Act->World->Prop}(c:op.guard=none)(d:TypeId)(x y:Operand)(f:op.op= .store d x y)
  (g:Nat) (t:TypeId) (b cells:Array Value) (i:a.eval x= .pointer (some ⟨g,0,none⟩)) (k:a.eval y= .agg cells) (e:w.heap[g]?=some (.cells b t (0,0)))
  (hi:(P.info? d).map (·.size)=some cells.size) (hs:b.size=cells.size) (h1:cells.all (·.oneCell')=true)
  (h: ∀w',w'.heap[g]?=some (.cells cells t (0,0))->Aa (fun j=>j=g) w w'->wpList P ops Q rest (a.put op.dst undef) w'):wpList P ops Q (op::rest) a w:=by
 refine wpList_plain c fun K hK=>?_;unfold Oper.wp execOp;simp only[f,i,k,Instr.storeAt,Instr.sureAddr,Sem.run_bind,Sem.run_pure,Ac9,run_storeVar_row w g t d b cells e hi hs h1];exact hK _ _ (h _ (setRow_heap w g b cells t _ e) ((Aa.refl (fun j=>j=g) w).setRow (g:=g) (.inr rfl) _))
theorem Ew(l:Aeh):(Ad l).toArray.all (·.oneCell')=true:=by
 rw[Acv];intro v a;have:v∈Ad l:=by simpa using a
 unfold Ad at this;obtain⟨x,_,rfl⟩:=List.mem_map.1 this;rfl
theorem Ba(l:Aeh):(Ad l).toArray.size=l.length:=by simp[Ad]
theorem Ci:(prog.info? 139).map (·.size)=some 256:=by kernel_rfl
theorem vZ(a:Nat):Tryz.zeroCells139.setIfInBounds a (.int .i64 1)=(Ad (G4 256 a 1)).toArray:=by
 rw[Le];unfold G4;apply Abr;rw[Array.toList_setIfInBounds];simp only[Ad,Ace];rfl
namespace Hm
def Bx(L:Aeh)(k:Nat):Aeg:=((List.range k).filter fun b=>decide (0<L.getD b 0)).map UInt8.ofNat
def Aj(L:Aeh):Aeg:=Bx L 256
theorem Qj(L:Aeh)(k:Nat):Bx L (k+1)=Bx L k++if 0<L.getD k 0 then [UInt8.ofNat k]else []:=by
 unfold Bx;rw[Acm,Abz,Abt];congr 1;rw[Abq,List.filter_nil]
 by_cases e:0<L.getD k 0
 ·rw[if_pos (by simpa using e),if_pos e];rfl
 ·rw[if_neg (by simpa using e),if_neg e];rfl
theorem Ex(L:Aeh)(k:Nat):(Bx L k).length<=k:=by
 unfold Bx;rw[Aai];have:=Ac7 (fun b=>decide (0<L.getD b 0)) (List.range k);simpa using this
def B4(L:Aeh)(l:Aeg):Aeg:=l.flatMap fun b=>[b,UInt8.ofNat (L.getD b.toNat 0)]
theorem fY(L:Aeh)(l:Aeg)(k:Nat)(h:k<l.length):B4 L (l.take (k+1))=B4 L (l.take k)++[l[k],UInt8.ofNat (L.getD l[k].toNat 0)]:=by
 rw[zQ h];unfold B4;rw[Abo];congr 1
theorem Iv(L:Aeh)(l:Aeg):(B4 L l).length=2*l.length:=by
 unfold B4;induction l with
 |nil=>rfl
 |cons b r ih=>rw[Aa3,zL,ih];simp;try omega
end Hm
theorem U9(L:Aeh)(w:World)(s:L.length=256)(B: ∀x∈L,x<=100000):
  Calls prog 157 #[.agg (Ad L).toArray] w fun e w'=> ∃v,e= .returned v/\w'.ownsRow w.heap.size 5 1 v (Aj L).length (Ag (Aj L))/\Aee w w':=by
 obtain⟨N,hi,D,E,F⟩:=Aa6 Ft;have g:(Ad L).toArray.size=256:=by rw[Ba,s]
 have l: ∀b,(h:b<256)-> ∃x:Nat,x<=100000/\L.getD b 0=x/\ ∀W,(Instr.index 139 (.agg (Ad L).toArray) (I b)).run prog W= .ok (I x) W:=by
  intro b hb;refine⟨L[b],B _ (z6 _),by rw[zG,zH (by omega)];rfl,fun W=>?_⟩;exact Pd 139 256 underlying139 L b (by omega) s W
 have k:(w.alloc (.cells (Ad L).toArray 139)).heap[w.heap.size]?=some (.cells (Ad L).toArray 139 (0,0)):=zY w _;generalize(Ad L).toArray=arr at*;clear s B
 go_enter func157,ntmps157
 go_wp2_with(refine Aa0 rfl 139 _ rfl w.heap.size rfl 139 arr (0,0) _ k underlying139 rfl (by rw[g];exact Ci) ?_)
 clear k g
 go_loopw[3,7] (fun u i wr=> ∃b:Nat,b<=256/\i=I b/\wr.ownsRow w.heap.size 5 1 u (Bx L b).length (Ag (Bx L b))/\Aee w wr) (fun _ i _=>256-(intOf i).toNat)
 case atStart=>exact⟨0,by omega,rfl,by simpa[Bx,Ag]using Aco _ w.heap.size 5 1,(Aa.refl _ _).alloc _⟩
 case round=>
  obtain⟨b,hb,rfl,c,a⟩:=hrel;have K:=Ex L b
  by_cases r:b<256
  ·obtain⟨x,B,n,G⟩:=l b r;have m:Hid (Bx L (b+1)=Bx L b++if 0<x then [UInt8.ofNat b]else []):=by rw[<-n];exact Qj L b
   have p:decide ((b:Int)<256)=true:=by simp;omega
   clear l n
   by_cases d:0<x
   ·have t:decide (0<x)=true:=by simp;omega
    have f:Hid (Ag (Bx L (b+1))=Ag (Bx L b)++[.int .u8 b]/\(Bx L (b+1)).length=(Bx L b).length+1):=by
     constructor
     ·rw[m.o,if_pos d];unfold Ag;rw[Abt,Abg,Adv,U2 r]
     ·rw[m.o,if_pos d];simp
    clear m
    go_wp2_with(at_builtin;refine Ay _ rfl (.tmp 13) (.tmp 16) 79 rfl w.heap.size 5 N (.int .u8 0) 1 1 underlying79 hi D E F rfl (by decide) _ _ _ rfl (c.alloc _) (J wr.heap.size 0) 1 1 [.int .u8 b] rfl rfl ?c1 ?c2 ?c3 ?c4 ?c5 ?_)
    case c1=>exact Ac6 _ _ _
    case c2=>intro u H;simp at H;subst H;rfl
    case c3=>unfold maxLen;omega
    case c4=>omega
    case c5=>have:=a.size;simp;omega
    intro v' w2 A q z;have y:Aee w w2:=(a.alloc _).grown q (fun j M=> .inl (c.lt j M).1);clear q z c a;go_wp2;go_roundw
    case rel=>exact⟨b+1,by omega,by go_num,by rw[f.o.1,f.o.2];exact A,y⟩
    case measure=>simp[intOf];omega
   ·have C:x=0:=by omega
    subst C;have f:Hid (Bx L (b+1)=Bx L b):=by
     show _=_;rw[m.o,if_neg d,Abe]
    clear m;go_wp2;go_roundw
    case rel=>exact⟨b+1,by omega,by go_num,by rw[f.o];exact c,a⟩
    case measure=>simp[intOf];omega
  ·have p:decide ((b:Int)<256)=false:=by simp;omega
   obtain rfl:b=256:=by omega
   clear l;go_wp2;go_ret;exact⟨_,rfl,c,a⟩
theorem bX(base:Nat)(v:Value)(n:Nat)(l:Aeg)(L:Aeh)(w:World)(ho:w.ownsRow base 5 1 v n (Ag l))(hb:base<=w.heap.size)(hL:L.length=256)(hx: ∀x∈L,x<=255)(hn:n<=100000):
  Calls prog 105 #[v,.agg (Ad L).toArray] w fun e w'=> ∃v',e= .returned v'/\w'.ownsRow base 5 1 v' (n+2+2*(Aj L).length) (Ag (l++Hm.leBytes (Aj L).length 2++B4 L (Aj L)))/\Aa (fun j=>v.ownBlock=some j) w w'/\Ck w v v':=by
 obtain⟨i0,hi,al,am,an⟩:=Aa6 Ft;have G:(Ad L).toArray.size=256:=by rw[Ba,hL]
 have af:=Ex L 256;have B: ∀j,v.ownBlock=some j->j<w.heap.size:=fun j q=>(ho.lt j q).2;have H:=U9 L (w.alloc (.cells (Ad L).toArray 139)) hL (fun x ak=>by have:=hx x ak;omega);have m:(w.alloc (.cells (Ad L).toArray 139)).heap[w.heap.size]?=some (.cells (Ad L).toArray 139 (0,0)):=zY w _;have c: ∀W:World,W.heap[w.heap.size]?=some (.cells (Ad L).toArray 139 (0,0))-> ∀b:Nat,b<256->W.cell? (J w.heap.size b)=some (I (L.getD b 0:Nat)):=by
  intro W hW b hb;rw[zP _ _ b _ _ _ hW];simp[Ad,List.getD_eq_getElem?_getD,List.getElem?_eq_getElem (show b<L.length from by omega)]
 have E: ∀b:Nat,b<256->L.getD b 0<=255:=fun b hb=>by
  rw[zG,zH (show b<L.length from by omega)];exact hx _ (z6 _)
 change (Aj L).length<=256 at af
 generalize hC:Aj L=C at*;generalize(Ad L).toArray=arr at*;clear hx hL hC
 go_enter func105,ntmps105
 go_wp2_with(first
  |(refine Aa0 rfl 139 _ rfl w.heap.size rfl 139 arr (0,0) _ m underlying139 rfl (by rw[G];exact Ci) ?_)
  |(go_at_call 157;fail))
 refine H.mono ?_;rintro e w2 ⟨vc,rfl,s,r⟩;clear H
 have a2:w.heap.size+1<=w2.heap.size:=by have:=r.size;simpa using this
 have a:=r.row m id;have Y: ∀j,vc.ownBlock=some j->w.heap.size<j/\j<w2.heap.size:=fun j q=>by have:=s.lt j q;simp at this;omega
 have U:w2.ownsRow base 5 1 v n (Ag l):=(((Aa.refl (fun _=>False) w).alloc _).tr r).owns ho (fun _ _ h=>h);have P:Aa (fun j=>v.ownBlock=some j) w w2:=(((Aa.refl (fun _=>False) w).alloc _).tr r).wider (fun _ _ h=>h.elim);obtain⟨ac,cc,Z,ay⟩:=An s;subst Z;have F:=Mn base v n C.length 2 l w2 U (by omega) (by omega) (by omega) (by omega);clear m r ho
 go_wp2_with(first|(go_at_call 101;fail))
 refine F.mono ?_;rintro e w3 ⟨v3,rfl,V,y,R⟩;clear F;have D:=y.row a (fun e=>by have:=B _ e;omega);have X:=y.owns s (fun j q e=>by have:=B _ e;have:=Y j q;omega);go_wp2
 go_loopw[0,16] (fun u i wr=> ∃k:Nat,k<=C.length/\i=I k/\wr.ownsRow base 5 1 u (n+2+2*k) (Ag (l++Hm.leBytes C.length 2++B4 L (C.take k)))/\Aa (fun j=>v.ownBlock=some j) w2 wr/\Ck w2 v u) (fun _ i _=>C.length-(intOf i).toNat)
 case atStart=>exact⟨0,zZ _,rfl,by simpa[B4]using V,y,R⟩
 case round=>
  clear V y R D X U;obtain⟨k,hk,rfl,A,d,z⟩:=hrel;have t:=d.owns s (fun j q e=>by have:=B _ e;have:=Y j q;omega);have p:=d.row a (fun e=>by have:=B _ e;omega)
  by_cases Q:k<C.length
  ·obtain⟨g,au,hv,_,a1⟩:=Co t (by omega);simp only[Value.slice.injEq]at hv;obtain⟨ae,_,K⟩:=hv;subst ae;subst K;have az:wr.cell? (J g k)=some (.int .u8 (C[k].toNat:Nat)):=by
    rw[t.cellAt k (by omega)];simp[Ag,Q]
   have HT:=hZ (fY L C k Q);have f:=C[k].toNat_lt;have ax:=c wr p C[k].toNat f;have a0:=E C[k].toNat f;generalize aa:C[k]=ck at*;generalize ad:L.getD ck.toNat 0=x at*;generalize M:ck.toNat=cn at*;have HC:=hZ M;have N:decide ((k:Int)<(C.length:Int))=true:=by simp;omega
   clear t p c E s a M ad aa
   go_wp2_with(at_builtin;refine Ay _ rfl (.tmp 20) (.tmp 26) 79 rfl base 5 i0 (.int .u8 0) 1 1 underlying79 hi al am an rfl (by decide) _ _ _ rfl (A.alloc _) (J wr.heap.size 0) 2 2 [.int .u8 cn,.int .u8 x] rfl rfl ?c1 ?c2 ?c3 ?c4 ?c5 ?_)
   case c1=>exact cell_two_new _ _ _ _
   case c2=>first|exact⟨rfl,rfl⟩|(intro u hu;simp at hu;rcases hu with rfl|rfl<;>rfl)
   case c3=>unfold maxLen;omega
   case c4=>omega
   case c5=>have:=d.size;simp;omega
   intro v' w5 ai O S;have ag:Aa (fun j=>v.ownBlock=some j) w2 w5:=(d.alloc _).grown O (fun j q=>(z j q).elim (fun h=> .inr h) .inl);have T:Ck w2 v v':=z.trans S (by have:=d.size;simp;omega);clear O S A d z;go_wp2;go_roundw
   case rel=>
    refine⟨k+1,by omega,by go_num,?_,ag,T⟩;have e:Ag (l++Hm.leBytes C.length 2++B4 L (C.take (k+1)))=Ag (l++Hm.leBytes C.length 2++B4 L (C.take k))++[.int .u8 cn,.int .u8 x]:=by
     rw[HT.o,<-Aaj];unfold Ag;rw[Abt (l₂:=[ck,UInt8.ofNat x]),Abg,Abg,Adv,U2 (by omega),HC.o]
    rw[e,show n+2+2*(k+1)=n+2+2*k+2 from by omega];simpa[List.append_assoc]using ai
   case measure=>simp[intOf];omega
  ·obtain rfl:k=C.length:=by omega
   rw[Aaw]at A;have N:decide ((C.length:Int)<(C.length:Int))=false:=by simp
   clear c E;go_wp2;go_ret;refine⟨_,rfl,A,P.tr d,fun j q=>?_⟩;rcases z j q with h|h
   ·exact .inl h
   ·exact .inr (by omega)
end
end Go.Proofs.YtegnkfdbmmndaaaGreat
