import Derived.Test.YtegnkfdbmmndaaaGreatK17

set_option maxHeartbeats 8000000
set_option maxRecDepth 100000
namespace Go.Proofs.YtegnkfdbmmndaaaGreat
open Hm Go.Proofs.Tryz
section
open Go.RowKit
theorem uP(hones:Bc)(hLn:Ez)(B pa:Nat)(s l6:Aeg)(L:Aeh)(l8:Aeg)(st:Bl)(fs:Aef)(ps:Aeh)(w:World)(hP:C5 s l6 L l8 st)(hA:Dw B w pa s l6 L l8 st)(hI:I5 fs s l6 l8 st ps)(pl:Nat)(z:pl<=(Ac fs).length):
  Calls prog 113 #[.func (.func 34) #[.pointer (some ⟨pa,6,none⟩)] #[],.func (.func 114) #[.pointer (some ⟨pa,1036,none⟩)] #[],.int .i64 pl] w fun e w'=>(∃row:Nat,e= .returned (.int .i64 row)/\ps[row]?=some pl)/\Aee w w':=by
 obtain⟨gn,ge,g,ng,nc,gs,P⟩:=hA.parts hP;obtain⟨v,t⟩:=hA.samp hP;obtain⟨l,m,d⟩:=J4 hP.tree;have H:=Kk s;have i:=(Qc hP.names).2;have R:=I1 hP.tree H;have D:(⟨(l8.take (szB st.len)).toArray⟩:ByteArray).size<=1000000:=by show(l8.take _).toArray.size<=_;rw[Aaa,zS];omega
 have hn:=hI.small;have f:=hI.nN;have a:=hI.sorted.perm;have F:ps.length=(Ac fs).length+1:=by have:=a.length_eq;simpa using this
 have o:(Bb ps).length=Ap (Ac fs).length:=E0 a;obtain⟨X,N⟩:=hI.samp;have K:(l8.drop (szB st.len)).take (szB (Ap (rdN s).1))=Ah (Bb ps):=by
  rw[N,f,<-o,<-Mv,Adi]
 have b:=hP.samp.told;rw[K]at t b;obtain⟨T,c⟩:=gx (⟨(Ah (Bb ps)).toArray⟩:ByteArray);have j:T.data.toList=Ah (Bb ps):=by rw[c]
 have M:T.size=szB (Ap (Ac fs).length):=by rw[c];show(Ah (Bb ps)).toArray.size=_;rw[Aaa,Mv,o]
 rw[<-c]at t;rw[<-j]at b;have x:Lib.bitLen ((Ac fs).length/8)<=10:=Lib.bitLen_le _ 10 (by omega) (by omega);have E:((Ac fs).length/8+1)*Lib.bitLen ((Ac fs).length/8)<=751*10:=Aa4 (by omega) x;have Q:Ap (Ac fs).length<=100000:=by unfold Ap;omega
 have G:szB (Ap (Ac fs).length)=(Ap (Ac fs).length+7)/8:=rfl;rw[f]at t b i l;rw[f,hI.col]at m d;rw[hI.col]at l;have r:=hI.sorted;have S:=d;refine kM hones pa 6 1036 st.len g ng nc (rdR s).1 pl _ st.nds st.ws (Am (Ac fs) ps) ps w P.rows m d (by omega) D (by omega) (fun W hk=>?_) (fun row q k u y=>?_)
 ·refine wY hones hLn pa 1036 _ v (Ac fs).length pl T ps W (t.kept hk id id) hn (by omega) a ?_ (fun p _=>by rw[j];exact Mz _ p) (by omega) b z;rw[zH (by omega),V6 r (by omega)]
 ·have C:row<ps.length:=by
   rcases Abf row ps.length with h|h
   ·exact h
   ·rw[Aam h]at u;cases u
  rw[zH C]at u;have n:=Aak u;have A:q<=(Ac fs).length:=by
   have:=a.subset (z6 C);rw[n]at this;have:=List.mem_range.1 this;omega
  obtain⟨_,O,e⟩:=On r S row q C n A k y;refine⟨by omega,by omega,?_⟩;rw[hI.nR,zH O];exact congrArg some e
theorem rN(hones:Bc)(B pa:Nat)(s l6:Aeg)(L:Aeh)(l8:Aeg)(st:Bl)(fs:Aef)(ps:Aeh)(w:World)(hP:C5 s l6 L l8 st)(hA:Dw B w pa s l6 L l8 st)(hI:I5 fs s l6 l8 st ps)(row q n:Nat)(k:ps[row]?=some q)(hn:n<=q):
  Calls prog 33 #[.func (.func 34) #[.pointer (some ⟨pa,6,none⟩)] #[],.int .i64 row,.int .i64 n] w fun e w'=>e= .returned (.slice (some ⟨w.heap.size,0,none⟩) n n)/\
   w'.heap[w.heap.size]?=some (.cells (Ag (Hm.part (Ac fs) (q-n) q)).toArray 5 (0,0))/\Aee w w':=by
 obtain⟨gn,ge,g,ng,nc,gs,P⟩:=hA.parts hP;obtain⟨f,i,a⟩:=J4 hP.tree;have p:=Kk s;have c:=(Qc hP.names).2;have u:=I1 hP.tree p;have m:(⟨(l8.take (szB st.len)).toArray⟩:ByteArray).size<=1000000:=by show(l8.take _).toArray.size<=_;rw[Aaa,zS];omega
 have j:=hI.nN;have t:=hI.small;have d:=hI.sorted;have r:ps.length=(Ac fs).length+1:=by have:=d.perm.length_eq;simpa using this
 rw[j]at c f;rw[j,hI.col]at i a;rw[hI.col]at f;have b:row<ps.length:=by
  rcases Abf row ps.length with h|h
  ·exact h
  ·rw[Aam h]at k;cases k
 rw[zH b]at k;have o:=Aak k;have l:q<=(Ac fs).length:=by
  have:=d.perm.subset (z6 b);rw[o]at this;have:=List.mem_range.1 this;omega
 have h:=j5 hones pa 6 st.len g ng nc (rdR s).1 row n _ st.nds st.ws (Am (Ac fs) ps) w P.rows i a (by omega) (by omega) m (by omega) (by omega);have hb:=(On d a row q b o l n hn).1;rw[<-hI.nR]at hb;rwa[hb]at h
theorem wZ(hones:Bc)(hLn:Ez)(B pa:Nat)(s l6:Aeg)(L:Aeh)(l8:Aeg)(st:Bl)(fs:Aef)(ps:Aeh)(w:World)(hP:C5 s l6 L l8 st)(hA:Dw B w pa s l6 L l8 st)(hI:I5 fs s l6 l8 st ps)(q n:Nat)(t:q<=(Ac fs).length)(hn:n<=q):
  Calls prog 60 #[.pointer (some ⟨pa,0,none⟩),.int .i64 q,.int .i64 n] w fun e w'=>e= .returned (.string ⟨(Hm.part (Ac fs) (q-n) q).toArray⟩)/\Aee w w':=by
 have a:Hid (∀W,Aee w W->Calls prog 113 #[.func (.func 34) #[.pointer (some (J pa 6))] #[],.func (.func 114) #[.pointer (some (J pa 1036))] #[],I q] W fun e w'=>(∃row:Nat,e= .returned (I row)/\ps[row]?=some q)/\Aee W w'):=
  fun W hk=>uP hones hLn B pa s l6 L l8 st fs ps W hP (hA.kept hk (fun _ _ _=>id) id) hI q t
 have c:Hid (∀(row:Nat) W,ps[row]?=some q->Aee w W->Calls prog 33 #[.func (.func 34) #[.pointer (some (J pa 6))] #[],I row,I n] W fun e w'=>e= .returned (S0 W.heap.size n n)/\
   w'.heap[W.heap.size]?=some (.cells (Ag (Hm.part (Ac fs) (q-n) q)).toArray 5 (0,0))/\Aee W w'):=
  fun row W u hk=>rN hones B pa s l6 L l8 st fs ps W hP (hA.kept hk (fun _ _ _=>id) id) hI row q n u hn
 have p:(Hm.part (Ac fs) (q-n) q).length=n:=by unfold Hm.part;rw[zS,Aas];omega
 generalize Hm.part (Ac fs) (q-n) q=R at*;have r:pa<w.heap.size:=by
  obtain⟨gn,ge,g,ng,nc,gs,P⟩:=hA.parts hP;exact z9 _ _ P.total
 clear hP hA hI
 go_enter func60,ntmps60
 go_wp2_with fail
 go_cut[7]from 8 (fun v y=> ∃row:Nat,v=I row/\Hid (ps[row]?=some q/\Aee w y))
 case first=>
  go_region_held(fun X=>Hid (Aee w X)) (first|exact l|exact(Aa.refl (fun _=>False) w).drew)
   (first|(go_at_call 113;(refine(a.o _ (Aa.refl (fun _=>False) w).drew).mono ?_;rintro e x ⟨⟨row,rfl,k⟩,h⟩;have l:Hid (Aee w x):=(Aa.refl (fun _=>False) w).drew.tr h;clear h)))
  all_goals(go_wp2_with fail;go_meet;case rel=>exact⟨_,rfl,k,l.o⟩)
 case rest=>
  obtain⟨row,rfl,i⟩:=hcut;have d:=c.o row wc i.o.1 i.o.2;clear a c;go_wp2_with fail;refine d.mono ?_;rintro e w2 ⟨rfl,b,f⟩;have j:=Nk b 0 n n (by omega);rw[Ad3,Aap (by omega)]at j;have m:=hZ (i.o.2.tr f);clear d b f;go_wp2_with fail;go_ret;exact⟨rfl,m.o⟩
theorem gP(hones:Bc)(hLn:Ez)(pb o len g n row q:Nat)(T:ByteArray)(ps:Aeh)(w:World)(h:Nm w pb o T len g n)(hn:n<=6000)(A:T.size<=100000)(c:ps.Perm (List.range (n+1)))
  (u: ∀p,p<(Bb ps).length->Al T.data.toList p=(Bb ps).getD p false) (d:Ap n<=8*T.size) (k:rk (Al T.data.toList) (n+1)=n/8+1) (f:ps[row]?=some q):
  Calls prog 162 #[.pointer (some ⟨pb,o,none⟩),.int .i64 row] w fun e w'=>e= .returned (if q%8=0 then .tuple #[.int .i64 q,.bool true]else .tuple #[.int .i64 0,.bool false])/\Aee w w':=by
 have C:ps.length=n+1:=by have:=c.length_eq;simpa using this
 have v:row<ps.length:=by
  rcases Abf row ps.length with h|h
  ·exact h
  ·rw[Aam h]at f;cases f
 rw[zH v]at f;have f:=Aak f;have r:=E0 c;have s:n+1<=Ap n:=by unfold Ap;omega
 have a:Al T.data.toList row=decide (q%8=0):=by
  rw[u row (by omega)];unfold Bb;rw[zG,Aav (by rw[Aai];exact v),Aah,zH v,f];rfl
 have b:=Wu pb o row T w h.bits.str (by omega) (by omega);have D:q<=n:=by have:=c.subset (z6 v);rw[f]at this;have:=List.mem_range.1 this;omega
 by_cases t:q%8=0
 ·rw[zJ t]at a;rw[a]at b;rw[if_pos t];have i:=Jc hones pb o g len row T w h.bits (by omega) (by omega);obtain⟨j,x⟩:=gx (rk (Al T.data.toList) row);obtain⟨_,y⟩:=eX hn c _ u j row (by omega) ⟨a,x.symm⟩;have B:j<=n/8:=by
   have h1:=Kn (Al T.data.toList) (show row+1<=n+1 by omega);rw[rk,a,k]at h1;have:(true:Bool).toNat=1:=rfl;omega
  have l:=kL hLn pb o len g n j T w h hn A (by omega) (by
   have h1:(j+1)*Lib.bitLen (n/8)<=(n/8+1)*Lib.bitLen (n/8):=Abs _ (by omega);unfold Ap at d;rw[Ab4,Nat.one_mul]at h1;omega)
  rw[y,f]at l;rw[<-x]at i;clear x y a u h c k d r s f
  go_enter func162,ntmps162
  go_wp2_with fail;refine b.mono ?_;rintro e E ⟨rfl,rfl⟩;clear b;go_wp2_with fail;refine i.mono ?_;rintro e w2 ⟨rfl,rfl⟩;clear i;go_wp2_with fail;refine l.mono ?_;rintro e F ⟨rfl,m⟩;have z:=hZ m;clear l m;go_wp2_with fail;go_ret2;exact⟨rfl,z.o⟩
 ·rw[zM t]at a;rw[a]at b;rw[if_neg t];clear a u h c k d r s f
  go_enter func162,ntmps162
  go_wp2_with fail;refine b.mono ?_;rintro e E ⟨rfl,rfl⟩;clear b;go_wp2_with fail;go_ret2;exact⟨rfl,Aa.refl _ _⟩
theorem kN(hones:Bc)(pb o F len g ng nc root row q:Nat)(s:ByteArray)(nds:List Nd)(ws:Aeh)(col:Aeg)(ps:Aeh)(w:World)(h:Ec w pb o s len g ng nc nds root ws)(ht:K0 s.data.toList nds col)(n:Er ws col)(u:root<=col.length)(hs:s.size<=1000000)(N:col.length<=6000)
  (told: ∀W (r p:Nat),Aee w W->ps[r]?=some p->Calls prog 162 #[.pointer (some ⟨pb,F,none⟩),.int .i64 r] W fun e w'=>e= .returned (if p%8=0 then .tuple #[.int .i64 p,.bool true]else .tuple #[.int .i64 0,.bool false])/\Aee W w')
  (a: ∀row q k,ps[row]?=some q->k<=q->row<=col.length/\q<=6000/\ps[(Bh (Bw col ws root) row k).2]?=some (q-k)) (E:ps[row]?=some q):
  Calls prog 161 #[.func (.func 34) #[.pointer (some ⟨pb,o,none⟩)] #[],.func (.func 162) #[.pointer (some ⟨pb,F,none⟩)] #[],.int .i64 row] w fun e w'=>e= .returned (.int .i64 q)/\Aee w w':=by
 obtain⟨D,Q,_⟩:=a row q 0 E (zZ _);have A:Hid (∀k W,Ec W pb o s len g ng nc nds root ws->Calls prog 34 #[.pointer (some (J pb o)),I ((Bh (Bw col ws root) row k).2:Nat)] W fun e w'=>e= .returned (.tuple #[.int .u8 ((Bw col ws root (Bh (Bw col ws root) row k).2).1.toNat:Nat),I ((Bw col ws root (Bh (Bw col ws root) row k).2).2:Nat)])/\Aee W w'):=
  fun k W M=>Tf hones pb o len g ng nc root _ s nds ws col W M ht u (O2 n u D k) hs (by omega) (fun b hb=>by have:=n.first_le b (by omega);omega)
 have L:=hZ h;have x:Hid (∀k,k<=q->ps[(Bh (Bw col ws root) row k).2]?=some (q-k)):=fun k hk=>(a row q k E hk).2.2;have B:Hid _:=told;clear h ht n a told;generalize Bw col ws root=stp at*
 go_enter func161,ntmps161
 go_wp2_with fail
 go_loopw[2,7] (fun R vi wr=> ∃k:Nat,k<=q/\vi=I k/\R=I ((Bh stp row k).2:Nat)/\Aee w wr) (fun _ vi _=>q-(intOf vi).toNat)
 case atStart=>exact⟨0,zZ _,rfl,rfl,Aa.refl _ _⟩
 case round=>
  obtain⟨k,hk,rfl,rfl,l⟩:=hrel;have d:=B.o wr _ (q-k) l (x.o k hk);have t:=hZ l
  by_cases v:(q-k)%8=0
  ·rw[if_pos v]at d;obtain⟨p,C⟩:=gx (q-k);rw[<-C]at d;have K:=hZ C;have P:p<=6000:=by omega
   clear l C;generalize(Bh stp row k).2=r at*;go_wp2_with fail;refine d.mono ?_;rintro e G ⟨rfl,f⟩;have j:=hZ (t.o.tr f);clear d f;go_wp2_with fail;go_ret;exact⟨Fe (by have:=K.o;omega),j.o⟩
  ·rw[if_neg v]at d;have O:k<q:=by
    rcases Abf k q with c|c
    ·exact c
    ·exact absurd (by rw[show q-k=0 from by omega]) v
   have i:=A.o k;have H:Hid ((Bh stp row (k+1)).2=(stp (Bh stp row k).2).2):=rfl;clear l v;generalize stp (Bh stp row k).2=nx at*;generalize(Bh stp row k).2=r at*;have z:Hid _:=i;clear i;go_wp2_with fail;refine d.mono ?_;rintro e G ⟨rfl,f⟩;have j:=hZ (t.o.tr f);have i:=z.o G (L.o.kept j.o id id id);clear d f;go_wp2_with fail;refine i.mono ?_;rintro e w2 ⟨rfl,m⟩;have y:=hZ (j.o.tr m);clear i m;go_wp2_with fail;go_roundw
   case rel=>exact⟨k+1,by omega,by go_num,by rw[H.o],y.o⟩
   case measure=>simp[intOf];omega
end
end Go.Proofs.YtegnkfdbmmndaaaGreat
