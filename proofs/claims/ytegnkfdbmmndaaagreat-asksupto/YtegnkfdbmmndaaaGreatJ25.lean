import Derived.Test.YtegnkfdbmmndaaaGreatJ24

set_option maxHeartbeats 8000000
namespace Go.Proofs.YtegnkfdbmmndaaaGreat
open Hm Go.Proofs.Tryz Go.RowKit
structure Kh(w:World)(pb o:Nat)(T:ByteArray)(len g n:Nat):Prop where
 bits:Cs w pb o T len g
 total:w.cell? ⟨pb,o+3,none⟩=some (.int .i64 (n:Nat))
theorem Kh.kept{S:Nat→Prop}{w w':World}{pb o len g n:Nat}{T:ByteArray}(h:Kh w pb o T len g n)(hk:Aa S w w')(h1: ¬S pb)(h2: ¬S g):Kh w' pb o T len g n:=
 have a:pb<w.heap.size:=Ank _ _ h.total
 ⟨h.bits.kept hk h1 h2,(hk.cell (p:=⟨pb,o+3,none⟩) a h1).trans h.total⟩
theorem Adp(hLn:El)(pb o len g n j:Nat)(T:ByteArray)(w:World)(h:Kh w pb o T len g n)(hn:n≤6000)(u:T.size≤100000)(s:j≤6000)(b:n+1+j*Lib.bitLen (n/8)+Lib.bitLen (n/8)≤8*T.size):
  Calls prog 158 #[.pointer (some ⟨pb,o,none⟩),.int .i64 j] w fun e w'=>e= .returned (.int .i64 (Gg (Am T.data.toList) (n+1+j*Lib.bitLen (n/8)) (Lib.bitLen (n/8))*8:Nat))∧Ara w w':=by
 have q:=Ms hLn n w (by omega);have c:Lib.bitLen (n/8)≤10:=Lib.bitLen_le _ 10 (by omega) (by omega);have a:=fun W h=>Sv pb o (n+1+j*Lib.bitLen (n/8)) (Lib.bitLen (n/8)) T W h b (by omega) (by omega);have k:=Q0 (Am T.data.toList) (n+1+j*Lib.bitLen (n/8)) (Lib.bitLen (n/8));have m:2^Lib.bitLen (n/8)≤2^10:=Ao9 (by omega) c;have d:j*Lib.bitLen (n/8)≤6000*10:=Aoj s c;have l:Gg (Am T.data.toList) (n+1+j*Lib.bitLen (n/8)) (Lib.bitLen (n/8))≤1024:=by omega
 generalize Lib.bitLen (n/8)=wd at*;obtain⟨v,r⟩: ∃v,v=Gg (Am T.data.toList) (n+1+j*wd) wd:=⟨_,rfl⟩;rw[←r]at a l⊢;clear r k m;obtain⟨z,f⟩: ∃z,z=j*wd:=⟨_,rfl⟩;rw[←f]at a d b;have t:IntKind.i64.wrap ((j:Int)*(wd:Int))=(z:Int):=by rw[An9,←Aq6,←f];clear f;omega
 have i:Hid (∀W,W.cell? ⟨pb,o,none⟩=some (.string T)→Calls prog 128 #[.pointer (some ⟨pb,o,none⟩),.int .i64 ((n:Int)+1+(z:Int)),.int .i64 (wd:Nat)] W fun e w'=>e= .returned (.int .i64 (v:Nat))∧w'=W):=fun W h=>by
  have:=a W h;rwa[show((n+1+z:Nat):Int)=(n:Int)+1+(z:Int)from by omega]at this
 have c3:=h.total;have c0:=h.bits.str;have hpb:pb<w.heap.size:=Ank _ _ c0;have C0:Hid (w.cell? ⟨pb,o,none⟩=some (.string T)):=c0;clear a f h b c0
 go_enter func158,ntmps158
 go_wp2_with fail;refine q.mono ?_;rintro e w1 ⟨rfl,rfl⟩;go_wp2_with fail;go_quiet(first|(go_at_call 128;refine Aol (i.o _ ?_);exact(((Aa.refl (fun _=>False) w).drewN _).cell (p:=⟨pb,o,none⟩) hpb id).trans C0.o));go_wp2_with fail;go_ret;exact⟨by first|rfl|go_num,(Aa.refl _ _).drewN _⟩
theorem All(hones:Bd)(hLn:El)(pb o len g n pl:Nat)(T:ByteArray)(ps:Ard)(w:World)(h:Kh w pb o T len g n)(hn:n≤6000)(S:T.size≤100000)(m:ps.Perm (List.range (n+1)))(I:ps[0]?=some n)
  (K: ∀p,p<(A7 ps).length→Am T.data.toList p=(A7 ps).getD p false) (i:An n≤8*T.size) (x:Hm.rk (Am T.data.toList) (n+1)=n/8+1) (F:pl≤n):
  Calls prog 114 #[.pointer (some ⟨pb,o,none⟩),.int .i64 pl] w fun e w'=>(∃row q:Nat,e= .returned (.tuple #[.int .i64 (row:Nat),.int .i64 (q:Nat)])∧ps[row]?=some q∧pl≤q)∧Ara w w':=by
 have U:Lib.bitLen (n/8)≤10:=Lib.bitLen_le _ 10 (by omega) (by omega);have X:n+1≤An n:=by unfold An;omega
 have l:=fun W s=>Ij hones pb o g len (n+1) T W s (by omega) (by omega);rw[x]at l;obtain⟨R,J⟩: ∃R,R=n/8+1:=⟨_,rfl⟩;have z:Hid (∀W,Cs W pb o T len g→Calls prog 126 #[.pointer (some ⟨pb,o,none⟩),.int .i64 ((n:Int)+1)] W fun e w'=>e= .returned (.int .i64 (R:Nat))∧w'=W):=fun W s=>by
  have:=l W s;rwa[←J,show((n+1:Nat):Int)=(n:Int)+1 from by omega]at this
 have A:Hid (∀k W,k<R→Kh W pb o T len g n→ ∃p v:Nat,p≤n∧ps[p]?=some v∧Calls prog 158 #[.pointer (some ⟨pb,o,none⟩),.int .i64 k] W (fun e w'=>e= .returned (.int .i64 (v:Nat))∧Ara W w')∧
   ∀W',Kh W' pb o T len g n→Calls prog 125 #[.pointer (some ⟨pb,o,none⟩),.int .i64 k] W' fun e w'=>e= .returned (.int .i64 (p:Nat))∧Ara W' w'):=fun k W hk s=>by
  obtain⟨p,D,a⟩:=Sw (Am T.data.toList) k (n+1) (by omega);obtain⟨E,Y⟩:=Z5 hn m _ K k p D a;have d:=Adp hLn pb o len g n k T W s hn S (by omega) (by
   have h1:(k+1)*Lib.bitLen (n/8)≤(n/8+1)*Lib.bitLen (n/8):=Apa _ (by omega);unfold An at i;rw[Ape,Nat.one_mul]at h1;omega)
  rw[Y]at d;exact⟨p,ps[p],by omega,Am5 E,d,fun W' B=>Agh hones pb o g len k p T W' B.bits (by omega) a (by omega)⟩
 have O:Hid (∀p v:Nat,ps[p]?=some v→v≤n):=fun p v D=>by
  have:=m.subset (List.mem_of_getElem? D);have:=List.mem_range.1 this;omega
 have c3:=h.total;have hpb:pb<w.heap.size:=Ank _ _ c3;have HS:Hid (Kh w pb o T len g n):=h;have M:Hid (ps[0]?=some n):=I;have Q:R≤6000:=by omega
 clear l K i x m h I J
 go_enter func114,ntmps114
 go_wp2_with fail;go_quiet(first|(go_at_call 126;refine Aol (z.o _ ?_);exact(HS.o.kept ((Aa.refl (fun _=>False) w).drewN _) id id).bits));go_wp2_with fail
 go_loopw[6,7,17] (fun _ _ vi wr=> ∃k:Nat,k≤R∧vi= .int .i64 k∧Ara w wr) (fun _ _ vi _=>R-(intOf vi).toNat)
 case atStart=>exact⟨0,Ann _,rfl,(Aa.refl _ _).drewN _⟩
 case round=>
  obtain⟨k,hk,rfl,c⟩:=hrel;have f:=HS.o.kept c id id
  by_cases C:k<R
  ·obtain⟨p,v,V,r,d,a⟩:=A.o k wr C f;have Z:=O.o p v r;have H:Hid (ps[p]?=some v∧Ara w wr):=⟨r,c⟩;have G:Hid (∀W',Kh W' pb o T len g n→Calls prog 125 #[.pointer (some ⟨pb,o,none⟩),.int .i64 k] W' fun e w'=>e= .returned (.int .i64 (p:Nat))∧Ara W' w'):=a;have L:(k:Int)<(R:Int):=by omega
   clear r c a f;go_wp2_with fail;refine d.mono ?_;rintro e w1 ⟨rfl,t⟩;have j:Hid (Ara w w1):=H.o.2.trans t (fun _ _ h=>h);have a:=G.o w1 (HS.o.kept j.o id id);clear d t G
   by_cases b:pl≤v∧v<pl+8
   ·have aa:decide ((pl:Int)≤(v:Int))=true:=Ana (by omega);have ab:decide ((v:Int)<(pl:Int)+8)=true:=Ana (by omega);have ac:(pl:Int)≤(v:Int):=by omega
    have ad:(v:Int)<(pl:Int)+8:=by omega
    have P:Hid (pl≤v):=b.1;clear b;go_wp2_with fail;refine a.mono ?_;rintro e w2 ⟨rfl,u⟩;have y:Hid (Ara w w2):=j.o.trans u (fun _ _ h=>h);clear u a;go_wp2_with fail;go_ret2;exact⟨⟨p,v,rfl,H.o.1,P.o⟩,y.o⟩
   ·have HN:Hid (¬(pl≤v∧v<pl+8)):=b;clear a;have hd: ¬((pl:Int)≤(v:Int)∧(v:Int)<(pl:Int)+8):=by omega
    clear b;go_wp2_with fail
    all_goals(
     go_roundw
     case rel=>exact⟨k+1,by omega,by go_num,j.o⟩
     case measure=>simp[intOf];omega)
  ·obtain rfl:k=R:=by omega
   have c3':=f.total;have N:Hid (Ara w wr):=c;clear c f;go_wp2_with fail;go_quiet(fail);go_wp2_with fail;go_ret2;exact⟨⟨0,n,rfl,M.o,F⟩,N.o.drewN _⟩
theorem Dl.samp{B:Nat}{w:World}{pa:Nat}{s l6:Arc}{L:Ard}{l8:Arc}{st:Bl}(h:Dl B w pa s l6 L l8 st)(f:Cy s l6 L l8 st): ∃gs,Kh w pa 1036 ⟨((l8.drop (Hm.szB st.len)).take (Hm.szB (An (Hm.rdN s).1))).toArray⟩ (An (Hm.rdN s).1) gs (Hm.rdN s).1:=by
 obtain⟨gn,ge,g,ng,nc,gs,b1,b2,b3,b4,b5,a2,a3,a4,a5,a6,a7⟩:=h;refine⟨gs,?_⟩;obtain⟨col,c1,c2,cw⟩:=Kf f.tree;have e:(Ay ⟨(l8.take (Hm.szB st.len)).toArray⟩ st.len g (A6 L) (.slice (some ⟨ng,0,none⟩) st.nds.length nc) st.ws (Hm.rdN s).1).toArray.size=773:=by
  rw[Anq];exact Cm _ _ _ _ _ _ _ (A4 _ _ _ _) cw.1
 have a:(F8 l6 (Hm.rdF s).1 (Hm.rdN s).1 ge).length=5:=rfl;have c:=Gl (Ay ⟨(l8.take (Hm.szB st.len)).toArray⟩ st.len g (A6 L) (.slice (some ⟨ng,0,none⟩) st.nds.length nc) st.ws (Hm.rdN s).1).toArray (Hm.rdR s).1 (Hm.firsts st.ws) e (by unfold Hm.firsts;rw[Anz,Apq]);have b: ∀j,w.cell? ⟨pa,1036+j,none⟩=(G6 (l8.drop (Hm.szB st.len)) (Hm.rdN s).1 gs)[j]?:=fun j=>by
  rw[Am7 _ _ (1036+j) _ _ _ a2,Anw,Ah7 _ _ _ _ a c j]
 have d:(⟨((l8.drop (Hm.szB st.len)).take (Hm.szB (An (Hm.rdN s).1))).toArray⟩:ByteArray).size=Hm.szB (An (Hm.rdN s).1):=by
  show(List.take _ _).toArray.size=_;have:=f.samp.fits;rw[Anq,Anp];omega
 refine⟨⟨b 0,b 1,?_,a7⟩,b 3⟩;rw[d];exact b 2
theorem Adq(hones:Bd)(pb o o2 len g ng nc root pl:Nat)(s:ByteArray)(nds:List Hm.Nd)(ws:Ard)(col:Arc)(ps:Ard)(w:World)(h:Dd w pb o s len g ng nc nds root ws)(ht:J2 s.data.toList nds col)(j:Et ws col)(x:root≤col.length)(hs:s.size≤1000000)(I:col.length≤6000)
  (near: ∀W,Ara w W→Calls prog 114 #[.pointer (some ⟨pb,o2,none⟩),.int .i64 pl] W fun e w'=>(∃row q:Nat,e= .returned (.tuple #[.int .i64 (row:Nat),.int .i64 (q:Nat)])∧ps[row]?=some q∧pl≤q)∧Ara W w')
  (c: ∀row q k,ps[row]?=some q→k≤q→row≤col.length∧q≤6000∧ps[(A5 (Bw col ws root) row k).2]?=some (q-k)):
  Calls prog 113 #[.func (.func 34) #[.pointer (some ⟨pb,o,none⟩)] #[],.func (.func 114) #[.pointer (some ⟨pb,o2,none⟩)] #[],.int .i64 pl] w fun e w'=>(∃row:Nat,e= .returned (.int .i64 (row:Nat))∧ps[row]?=some pl)∧Ara w w':=by
 have v:=near w (Aa.refl _ _);have A:Hid (∀row,row≤col.length→ ∀k W,Dd W pb o s len g ng nc nds root ws→Calls prog 34 #[.pointer (some ⟨pb,o,none⟩),.int .i64 ((A5 (Bw col ws root) row k).2:Nat)] W fun e w'=>e= .returned (.tuple #[.int .u8 ((Bw col ws root (A5 (Bw col ws root) row k).2).1.toNat:Nat),.int .i64 ((Bw col ws root (A5 (Bw col ws root) row k).2).2:Nat)])∧Ara W w'):=
  fun row i k W H=>Q7 hones pb o len g ng nc root _ s nds ws col W H ht x (Nl j x i k) hs (by omega) (fun b hb=>by have:=j.first_le b (by omega);omega)
 have G:Hid (Dd w pb o s len g ng nc nds root ws):=h;have l:Hid (∀row q k,ps[row]?=some q→k≤q→row≤col.length∧q≤6000∧ps[(A5 (Bw col ws root) row k).2]?=some (q-k)):=c;clear h ht j near c;generalize Bw col ws root=stp at*
 go_enter func113,ntmps113
 go_wp2_with fail;refine v.mono ?_;rintro e w1 ⟨⟨row,q,rfl,f,K⟩,p⟩;obtain⟨i,L,_⟩:=l.o row q 0 f (Ann _);have m:Hid (Ara w w1∧ps[row]?=some q):=⟨p,f⟩;clear v p f;go_wp2_with fail
 go_loopw[7,8] (fun vr va wr=> ∃k:Nat,pl+k≤q∧va= .int .i64 ((q-k:Nat):Int)∧vr= .int .i64 ((A5 stp row k).2:Nat)∧Ara w wr) (fun _ va _=>(intOf va).toNat)
 case atStart=>exact⟨0,by omega,rfl,rfl,m.o.1⟩
 case round=>
  obtain⟨k,hk,rfl,rfl,d⟩:=hrel;obtain⟨a,n⟩: ∃a,a=q-k:=⟨_,rfl⟩;rw[←n]
  by_cases J:pl<a
  ·have u:=A.o row i k wr (G.o.kept d id id id);have F:Hid ((A5 stp row (k+1)).2=(stp (A5 stp row k).2).2):=rfl;have E:Hid (a=q-k):=n;have hd:decide ((pl:Int)<(a:Int))=true:=Ana (by omega);have C:(pl:Int)<(a:Int):=by omega
   have z:Hid (Ara w wr):=d;have M:IntKind.i64.wrap ((a:Int)-1)=(a:Int)-1:=by rw[An9];omega
   clear d n;generalize stp (A5 stp row k).2=nx at*;generalize(A5 stp row k).2=r at*;go_wp2_with fail;refine u.mono ?_;rintro e w2 ⟨rfl,t⟩;have y:Hid (Ara w w2):=z.o.trans t (fun _ _ h=>h);clear u t;go_wp2_with fail;go_roundw
   case rel=>
    have:=E.o;exact⟨k+1,by omega,by congr 1;omega,by rw[F.o],y.o⟩
   case measure=>simp[intOf];omega
  ·have B:a=pl:=by omega
   have D:Hid (ps[(A5 stp row k).2]?=some pl∧Ara w wr):=by
    refine⟨?_,d⟩;rw[(l.o row q k m.o.2 (by omega)).2.2,←n,B]
   have C: ¬(pl:Int)<(a:Int):=by omega
   clear d n;generalize(A5 stp row k).2=r at*;go_wp2_with fail;go_ret;exact⟨⟨r,rfl,D.o.1⟩,D.o.2⟩
theorem Aj3(hones:Bd)(hLn:El)(B pa:Nat)(s l6:Arc)(L:Ard)(l8:Arc)(st:Bl)(fs:Arb)(ps:Ard)(w:World)(hP:Cy s l6 L l8 st)(hA:Dl B w pa s l6 L l8 st)(hI:Ib fs s l6 l8 st ps)(pl:Nat)(y:pl≤(Ac fs).length):
  Calls prog 113 #[.func (.func 34) #[.pointer (some ⟨pa,6,none⟩)] #[],.func (.func 114) #[.pointer (some ⟨pa,1036,none⟩)] #[],.int .i64 pl] w fun e w'=>(∃row:Nat,e= .returned (.int .i64 (row:Nat))∧ps[row]?=some pl)∧Ara w w':=by
 obtain⟨gn,ge,g,ng,nc,gs,P⟩:=hA.parts hP;obtain⟨gs2,t⟩:=hA.samp hP;obtain⟨l,m,d⟩:=I9 hP.tree;have G:=Jp s;have i:=(Om hP.names).2;have N:=Hz hP.tree G;have C:(⟨(l8.take (Hm.szB st.len)).toArray⟩:ByteArray).size≤1000000:=by show(l8.take _).toArray.size≤_;rw[Anq,Anp];omega
 have hn:=hI.small;have f:=hI.nN;have a:=hI.sorted.perm;have E:ps.length=(Ac fs).length+1:=by have:=a.length_eq;simpa using this
 have o:(A7 ps).length=An (Ac fs).length:=Fk a;obtain⟨X,J⟩:=hI.samp;have H:(l8.drop (Hm.szB st.len)).take (Hm.szB (An (Hm.rdN s).1))=Ag (A7 ps):=by
  rw[J,f,←o,←Lk,Aqq]
 have b:=hP.samp.told;rw[H]at t b;obtain⟨T,c⟩: ∃T,T=(⟨(Ag (A7 ps)).toArray⟩:ByteArray):=⟨_,rfl⟩;have j:T.data.toList=Ag (A7 ps):=by rw[c]
 have I:T.size=Hm.szB (An (Ac fs).length):=by rw[c];show(Ag (A7 ps)).toArray.size=_;rw[Anq,Lk,o]
 rw[←c]at t;rw[←j]at b;have v:Lib.bitLen ((Ac fs).length/8)≤10:=Lib.bitLen_le _ 10 (by omega) (by omega);have D:((Ac fs).length/8+1)*Lib.bitLen ((Ac fs).length/8)≤751*10:=Aoj (by omega) v;have M:An (Ac fs).length≤100000:=by unfold An;omega
 have F:Hm.szB (An (Ac fs).length)=(An (Ac fs).length+7)/8:=rfl;rw[f]at t b i l;rw[f,hI.col]at m d;rw[hI.col]at l;have r:=hI.sorted;have O:=d;refine Adq hones pa 6 1036 st.len g ng nc (Hm.rdR s).1 pl _ st.nds st.ws (Al (Ac fs) ps) ps w P.rows m d (by omega) C (by omega) (fun W hk=>?_) (fun row q k u x=>?_)
 ·refine All hones hLn pa 1036 _ gs2 (Ac fs).length pl T ps W (t.kept hk id id) hn (by omega) a ?_ (fun p _=>by rw[j];exact Nb _ p) (by omega) b y;rw[Am5 (by omega),Zy r (by omega)]
 ·have A:row<ps.length:=by
   rcases Aoq row ps.length with h|h
   ·exact h
   ·rw[Anx h]at u;cases u
  rw[Am5 A]at u;have n:=An0 u;have z:q≤(Ac fs).length:=by
   have:=a.subset (Anm A);rw[n]at this;have:=List.mem_range.1 this;omega
  obtain⟨_,K,e⟩:=M4 r O row q A n z k x;refine⟨by omega,by omega,?_⟩;rw[hI.nR,Am5 K];exact congrArg some e
theorem Aid(hones:Bd)(B pa:Nat)(s l6:Arc)(L:Ard)(l8:Arc)(st:Bl)(fs:Arb)(ps:Ard)(w:World)(hP:Cy s l6 L l8 st)(hA:Dl B w pa s l6 L l8 st)(hI:Ib fs s l6 l8 st ps)(row q n:Nat)(k:ps[row]?=some q)(hn:n≤q):
  Calls prog 33 #[.func (.func 34) #[.pointer (some ⟨pa,6,none⟩)] #[],.int .i64 row,.int .i64 n] w fun e w'=>e= .returned (.slice (some ⟨w.heap.size,0,none⟩) n n)∧
   w'.heap[w.heap.size]?=some (.cells (Ah (Hm.part (Ac fs) (q-n) q)).toArray 5 (0,0))∧Ara w w':=by
 obtain⟨gn,ge,g,ng,nc,gs,P⟩:=hA.parts hP;obtain⟨f,i,a⟩:=I9 hP.tree;have p:=Jp s;have c:=(Om hP.names).2;have u:=Hz hP.tree p;have m:(⟨(l8.take (Hm.szB st.len)).toArray⟩:ByteArray).size≤1000000:=by show(l8.take _).toArray.size≤_;rw[Anq,Anp];omega
 have j:=hI.nN;have t:=hI.small;have d:=hI.sorted;have r:ps.length=(Ac fs).length+1:=by have:=d.perm.length_eq;simpa using this
 rw[j]at c f;rw[j,hI.col]at i a;rw[hI.col]at f;have b:row<ps.length:=by
  rcases Aoq row ps.length with h|h
  ·exact h
  ·rw[Anx h]at k;cases k
 rw[Am5 b]at k;have o:=An0 k;have l:q≤(Ac fs).length:=by
  have:=d.perm.subset (Anm b);rw[o]at this;have:=List.mem_range.1 this;omega
 have h:=Ac8 hones pa 6 st.len g ng nc (Hm.rdR s).1 row n _ st.nds st.ws (Al (Ac fs) ps) w P.rows i a (by omega) (by omega) m (by omega) (by omega);have hb:=(M4 d a row q b o l n hn).1;rw[←hI.nR]at hb;rwa[hb]at h
theorem Alm(hones:Bd)(hLn:El)(B pa:Nat)(s l6:Arc)(L:Ard)(l8:Arc)(st:Bl)(fs:Arb)(ps:Ard)(w:World)(hP:Cy s l6 L l8 st)(hA:Dl B w pa s l6 L l8 st)(hI:Ib fs s l6 l8 st ps)(q n:Nat)(t:q≤(Ac fs).length)(hn:n≤q):
  Calls prog 60 #[.pointer (some ⟨pa,0,none⟩),.int .i64 q,.int .i64 n] w fun e w'=>e= .returned (.string ⟨(Hm.part (Ac fs) (q-n) q).toArray⟩)∧Ara w w':=by
 have a:Hid (∀W,Ara w W→Calls prog 113 #[.func (.func 34) #[.pointer (some ⟨pa,6,none⟩)] #[],.func (.func 114) #[.pointer (some ⟨pa,1036,none⟩)] #[],.int .i64 q] W fun e w'=>(∃row:Nat,e= .returned (.int .i64 (row:Nat))∧ps[row]?=some q)∧Ara W w'):=
  fun W hk=>Aj3 hones hLn B pa s l6 L l8 st fs ps W hP (hA.kept hk (fun _ _ _=>id) id) hI q t
 have c:Hid (∀(row:Nat) W,ps[row]?=some q→Ara w W→Calls prog 33 #[.func (.func 34) #[.pointer (some ⟨pa,6,none⟩)] #[],.int .i64 row,.int .i64 n] W fun e w'=>e= .returned (.slice (some ⟨W.heap.size,0,none⟩) n n)∧
   w'.heap[W.heap.size]?=some (.cells (Ah (Hm.part (Ac fs) (q-n) q)).toArray 5 (0,0))∧Ara W w'):=
  fun row W u hk=>Aid hones B pa s l6 L l8 st fs ps W hP (hA.kept hk (fun _ _ _=>id) id) hI row q n u hn
 have p:(Hm.part (Ac fs) (q-n) q).length=n:=by unfold Hm.part;rw[Anp,Aoi];omega
 generalize Hm.part (Ac fs) (q-n) q=R at*;have r:pa<w.heap.size:=by
  obtain⟨gn,ge,g,ng,nc,gs,P⟩:=hA.parts hP;exact Ank _ _ P.total
 clear hP hA hI
 go_enter func60,ntmps60
 go_wp2_with fail
 go_cut[7]from 8 (fun v7 wz=> ∃row:Nat,v7= .int .i64 row∧Hid (ps[row]?=some q∧Ara w wz))
 case first=>
  go_region_held(fun X=>Hid (Ara w X)) (first|exact k1|exact(Aa.refl (fun _=>False) w).drew)
   (first|(go_at_call 113;(refine(a.o _ (Aa.refl (fun _=>False) w).drew).mono ?_;rintro e w1 ⟨⟨row,rfl,l⟩,i⟩;have k1:Hid (Ara w w1):=(Aa.refl (fun _=>False) w).drew.trans i (fun _ _ h=>h);clear i)))
  all_goals(go_wp2_with fail;go_meet;case rel=>exact⟨_,rfl,l,k1.o⟩)
 case rest=>
  obtain⟨row,rfl,j⟩:=hcut;have d:=c.o row wc j.o.1 j.o.2;clear a c;go_wp2_with fail;refine d.mono ?_;rintro e w2 ⟨rfl,b,f⟩;have k:=L8 b 0 n n (by omega);rw[List.drop_zero,An5 (by omega)]at k;have m:Hid (Ara w w2):=j.o.2.trans f (fun _ _ h=>h);clear d b f;go_wp2_with fail;go_ret;exact⟨rfl,m.o⟩
theorem Aa6(hones:Bd)(hLn:El)(pb o len g n row q:Nat)(T:ByteArray)(ps:Ard)(w:World)(h:Kh w pb o T len g n)(hn:n≤6000)(A:T.size≤100000)(c:ps.Perm (List.range (n+1)))
  (u: ∀p,p<(A7 ps).length→Am T.data.toList p=(A7 ps).getD p false) (d:An n≤8*T.size) (k:Hm.rk (Am T.data.toList) (n+1)=n/8+1) (f:ps[row]?=some q):
  Calls prog 162 #[.pointer (some ⟨pb,o,none⟩),.int .i64 row] w fun e w'=>e= .returned (if q%8=0 then .tuple #[.int .i64 (q:Nat),.bool true]else .tuple #[.int .i64 0,.bool false])∧Ara w w':=by
 have C:ps.length=n+1:=by have:=c.length_eq;simpa using this
 have v:row<ps.length:=by
  rcases Aoq row ps.length with h|h
  ·exact h
  ·rw[Anx h]at f;cases f
 rw[Am5 v]at f;have f:=An0 f;have r:(A7 ps).length=An n:=Fk c;have s:n+1≤An n:=by unfold An;omega
 have a:Am T.data.toList row=decide (q%8=0):=by
  rw[u row (by omega)];unfold A7;rw[Am4,An6 (by rw[Anz];exact v),An2,Am5 v,f];rfl
 have b:=Uc pb o row T w h.bits.str (by omega) (by omega);have D:q≤n:=by have:=c.subset (Anm v);rw[f]at this;have:=List.mem_range.1 this;omega
 by_cases t:q%8=0
 ·rw[Ana t]at a;rw[a]at b;rw[if_pos t];have i:=Ij hones pb o g len row T w h.bits (by omega) (by omega);obtain⟨j,x⟩: ∃j,j=Hm.rk (Am T.data.toList) row:=⟨_,rfl⟩;obtain⟨_,y⟩:=Z5 hn c _ u j row (by omega) ⟨a,x.symm⟩;have B:j≤n/8:=by
   have h1:=Ln (Am T.data.toList) (show row+1≤n+1 by omega);rw[Hm.rk,a,k]at h1;have:(true:Bool).toNat=1:=rfl;omega
  have l:=Adp hLn pb o len g n j T w h hn A (by omega) (by
   have h1:(j+1)*Lib.bitLen (n/8)≤(n/8+1)*Lib.bitLen (n/8):=Apa _ (by omega);unfold An at d;rw[Ape,Nat.one_mul]at h1;omega)
  rw[y,f]at l;rw[←x]at i;clear x y a u h c k d r s f
  go_enter func162,ntmps162
  go_wp2_with fail;refine b.mono ?_;rintro e w1 ⟨rfl,rfl⟩;clear b;go_wp2_with fail;refine i.mono ?_;rintro e w2 ⟨rfl,rfl⟩;clear i;go_wp2_with fail;refine l.mono ?_;rintro e w3 ⟨rfl,m⟩;have z:Hid (Ara w2 w3):=m;clear l m;go_wp2_with fail;go_ret2;exact⟨rfl,z.o⟩
 ·rw[Anc t]at a;rw[a]at b;rw[if_neg t];clear a u h c k d r s f
  go_enter func162,ntmps162
  go_wp2_with fail;refine b.mono ?_;rintro e w1 ⟨rfl,rfl⟩;clear b;go_wp2_with fail;go_ret2;exact⟨rfl,Aa.refl _ _⟩
theorem Adr(hones:Bd)(pb o o2 len g ng nc root row q:Nat)(s:ByteArray)(nds:List Hm.Nd)(ws:Ard)(col:Arc)(ps:Ard)(w:World)(h:Dd w pb o s len g ng nc nds root ws)(ht:J2 s.data.toList nds col)(n:Et ws col)(u:root≤col.length)(hs:s.size≤1000000)(J:col.length≤6000)
  (told: ∀W (r p:Nat),Ara w W→ps[r]?=some p→Calls prog 162 #[.pointer (some ⟨pb,o2,none⟩),.int .i64 (r:Nat)] W fun e w'=>e= .returned (if p%8=0 then .tuple #[.int .i64 (p:Nat),.bool true]else .tuple #[.int .i64 0,.bool false])∧Ara W w')
  (a: ∀row q k,ps[row]?=some q→k≤q→row≤col.length∧q≤6000∧ps[(A5 (Bw col ws root) row k).2]?=some (q-k)) (E:ps[row]?=some q):
  Calls prog 161 #[.func (.func 34) #[.pointer (some ⟨pb,o,none⟩)] #[],.func (.func 162) #[.pointer (some ⟨pb,o2,none⟩)] #[],.int .i64 row] w fun e w'=>e= .returned (.int .i64 (q:Nat))∧Ara w w':=by
 obtain⟨D,M,_⟩:=a row q 0 E (Ann _);have A:Hid (∀k W,Dd W pb o s len g ng nc nds root ws→Calls prog 34 #[.pointer (some ⟨pb,o,none⟩),.int .i64 ((A5 (Bw col ws root) row k).2:Nat)] W fun e w'=>e= .returned (.tuple #[.int .u8 ((Bw col ws root (A5 (Bw col ws root) row k).2).1.toNat:Nat),.int .i64 ((Bw col ws root (A5 (Bw col ws root) row k).2).2:Nat)])∧Ara W w'):=
  fun k W I=>Q7 hones pb o len g ng nc root _ s nds ws col W I ht u (Nl n u D k) hs (by omega) (fun b hb=>by have:=n.first_le b (by omega);omega)
 have H:Hid (Dd w pb o s len g ng nc nds root ws):=h;have x:Hid (∀k,k≤q→ps[(A5 (Bw col ws root) row k).2]?=some (q-k)):=fun k hk=>(a row q k E hk).2.2;have B:Hid _:=told;clear h ht n a told;generalize Bw col ws root=stp at*
 go_enter func161,ntmps161
 go_wp2_with fail
 go_loopw[2,7] (fun vr vi wr=> ∃k:Nat,k≤q∧vi= .int .i64 (k:Nat)∧vr= .int .i64 ((A5 stp row k).2:Nat)∧Ara w wr) (fun _ vi _=>q-(intOf vi).toNat)
 case atStart=>exact⟨0,Ann _,rfl,rfl,Aa.refl _ _⟩
 case round=>
  obtain⟨k,hk,rfl,rfl,l⟩:=hrel;have d:=B.o wr _ (q-k) l (x.o k hk);have t:Hid (Ara w wr):=l
  by_cases v:(q-k)%8=0
  ·rw[if_pos v]at d;obtain⟨p,C⟩: ∃p,p=q-k:=⟨_,rfl⟩;rw[←C]at d;have G:Hid (p=q-k):=C;have L:p≤6000:=by omega
   clear l C;generalize(A5 stp row k).2=r at*;go_wp2_with fail;refine d.mono ?_;rintro e w1 ⟨rfl,f⟩;have j:Hid (Ara w w1):=t.o.trans f (fun _ _ h=>h);clear d f;go_wp2_with fail;go_ret;exact⟨E3 (by have:=G.o;omega),j.o⟩
  ·rw[if_neg v]at d;have K:k<q:=by
    rcases Aoq k q with c|c
    ·exact c
    ·exact absurd (by rw[show q-k=0 from by omega]) v
   have i:=A.o k;have F:Hid ((A5 stp row (k+1)).2=(stp (A5 stp row k).2).2):=rfl;clear l v;generalize stp (A5 stp row k).2=nx at*;generalize(A5 stp row k).2=r at*;have z:Hid _:=i;clear i;go_wp2_with fail;refine d.mono ?_;rintro e w1 ⟨rfl,f⟩;have j:Hid (Ara w w1):=t.o.trans f (fun _ _ h=>h);have i:=z.o w1 (H.o.kept j.o id id id);clear d f;go_wp2_with fail;refine i.mono ?_;rintro e w2 ⟨rfl,m⟩;have y:Hid (Ara w w2):=j.o.trans m (fun _ _ h=>h);clear i m;go_wp2_with fail;go_roundw
   case rel=>exact⟨k+1,by omega,by go_num,by rw[F.o],y.o⟩
   case measure=>simp[intOf];omega
end Go.Proofs.YtegnkfdbmmndaaaGreat
