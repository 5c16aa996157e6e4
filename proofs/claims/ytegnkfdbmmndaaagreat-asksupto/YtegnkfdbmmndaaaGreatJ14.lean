import Derived.Test.YtegnkfdbmmndaaaGreatJ13

set_option maxHeartbeats 8000000
namespace Go.Proofs.YtegnkfdbmmndaaaGreat
open Hm Go.Proofs.Tryz Go.RowKit Go.Sort Go.Shelf Go.Lib
theorem Po:prog.follows .mixedOrders=true:=by kernel_rfl
set_option maxRecDepth 100000 in
theorem Aau{cf:UInt8→UInt8→Int}{key:UInt8→Nat}{Rl:UInt8→UInt8→Prop}(O:Hm.Ord cf key Rl)(g:Nat)(cb:Array Value)(eg: ∀args w,(callFunc g args).run prog w= .ok (.enter g args) w)
  (w0:World) (blk cap a b:Nat) (d0 d:Array UInt8) (w:World) (t:CmpLays1 prog g cb As cf blk 0 d0.size w0) (R:Row1 As w0 blk 0 d0) (hs:d0.size=d.size) (S:SW As w0 blk 0 d w) (X:a≤b) (hb:b≤d.size) (ae:d.size≤256)
  (U: ∀p q,a≤p→p<q→q<b→Rl d[p]! d[q]!):
  Calls prog 223 #[.slice (some ⟨blk,0,none⟩) d.size cap,.int .i64 a,.int .i64 b,.func (.func g) #[] cb] w fun e w'=>e= .returned (.tuple #[])∧ ∃d',Dh d d' a b∧Hm.Srt key d' a b∧SW As w0 blk 0 d' w':=by
 have mixed:=Po;have Q:Aside _:=t;have W:Aside _:=U;have S0:Aside (SW As w0 blk 0 d w):=S;clear S t U
 go_enter func223,ntmps223
 go_wp2
 go_loopg [8] (b-a) (fun g1 vi wr=> ∃(i:Nat) (dk:Array UInt8),vi= .int .i64 i∧a<i∧i≤b+1∧b+1-i≤g1+1∧dk.size=d.size∧Aside (SW As w0 blk 0 dk wr)∧Hid (Dh d dk a i∧Hm.Srt key dk a i∧(i≤b∨(b=a∧dk=d))))
 case atStart=>exact⟨a+1,d,by go_num,by omega,by omega,by omega,rfl,S0,Dh.refl _ _ _,Hm.Srt.one _ _ _ _ (by omega),(Aoq a b).elim (fun h=> .inl h) (fun h=> .inr ⟨by omega,rfl⟩)⟩
 case round=>
  clear S0;obtain⟨i,dk,rfl,Y,ac,aa,N,S1,s⟩:=hrel
  by_cases M:i<b
  ·have I:(i:Int)<(b:Int):=by omega
   go_wp2
   go_loopg [9] i (fun g2 vj wr2=> ∃(j:Nat) (dj:Array UInt8),vj= .int .i64 j∧a≤j∧j≤i∧j≤g2∧dj.size=d.size∧Aside (SW As w0 blk 0 dj wr2)∧Hid (Hm.Ins key dk dj a i j))
   case atStart=>exact⟨i,dk,rfl,by omega,Ane _,Ane _,N,S1,Hm.Ins.start key dk a i (by omega)⟩
   case round=>
    clear S1;obtain⟨j,dj,rfl,Z,ad,ab,A,SJ,E⟩:=hrel;have out:(j=a∨(a<j∧key dj[j-1]!<key dj[j]!))→Hid (Dh d dj a (i+1)∧Hm.Srt key dj a (i+1)∧(i+1≤b∨(b=a∧dj=d))):=fun hk=>by
     obtain⟨e1,e2⟩:=E.o.done s.o.2.1 hk;exact⟨(s.o.1.wider (Ane _) (by omega)).trans e1,e2,by omega⟩
    have OUT:Aside _:=out;clear out
    by_cases K:a<j
    ·have H:(a:Int)<(j:Int):=by omega
     obtain⟨jp,L⟩: ∃q,q+1=j:=⟨j-1,by omega⟩;have zjp:(j:Int)=(jp:Int)+1:=by omega
     have T:decide ((jp:Int)+1>(a:Int))=true:=Ana (by omega);have z:(a:Int)<(jp:Int)+1:=by omega
     have rel:Rl dj[j-1]! dj[j]!:=by
      have e1:dj[j]! =d[i]!:=by
       rw[E.o.rot.lo j (Ane _) (by omega),show j+(i-j)=i from by omega];exact s.o.1.o i (by omega)
      have e2:dj[j-1]! =dk[j-1]!:=E.o.rot.o _ (by omega);obtain⟨q,q1,q2,q3⟩:=(s.o.1.mem _).1 ⟨j-1,by omega,by omega,rfl⟩;rw[e1,e2,←q3];exact W.o q i q1 q2 M
     have l:=O.lt _ _ rel;have n:=O.ne _ _ rel
     by_cases k:cf dj[j]! dj[j-1]!<0
     ·have J:Aside (key dj[j]!<key dj[j-1]!):=l.1 k;obtain⟨x,r⟩: ∃x,x=dj[j]!:=⟨_,rfl⟩;obtain⟨y,m⟩: ∃x,x=dj[j-1]!:=⟨_,rfl⟩;have l1:=SJ.o.cl R (by omega) j (by omega);have l2:=SJ.o.cl R (by omega) (j-1) (by omega);rw[An3,←r]at l1;rw[An3,←m]at l2;rw[←r,←m]at k;have v:=SJ.o.cmp Q.o (by omega) x y;have hd:decide (cf x y<0)=true:=Ana k;obtain⟨iN,c⟩: ∃q,q=j:=⟨_,rfl⟩;obtain⟨jN,f⟩: ∃q,q=j-1:=⟨_,rfl⟩;rw[←c]at l1;rw[←f]at l2;have ea:((jp:Int)+1).toNat=iN:=by omega
      have pa:(0:Int)≤(jp:Int)+1:=by omega
      have ba:(jp:Int)+1<(d.size:Int):=by omega
      have ra:IntKind.i64.wrap ((jp:Int)+1)=(jp:Int)+1:=by rw[An9];omega
      have ec:((jp:Int)).toNat=jN:=by omega
      have pc:(0:Int)≤(jp:Int):=by omega
      have bc:(jp:Int)<(d.size:Int):=by omega
      have rc:IntKind.i64.wrap ((jp:Int))=(jp:Int):=by rw[An9];omega
      clear l n rel r m c f;unfold As at l1 l2 v;go_wp2_with fail
      go_quiet_grown (first|(go_at_fn g;refine Calls.grown_of (v _ _)))
      have S2:Aside (SW As w0 blk 0 dj (grow (wr.drewN nq) osq)):=SJ.o.grown nq osq;clear l1 l2 v SJ;generalize grow (wr.drewN nq) osq=w2 at S2⊢;clear nq osq ea ec hd k;go_wp2_with fail;have B:=S2.o.c1 R (by omega) j (by omega);have C:=S2.o.c1 R (by omega) (j-1) (by omega);have F:=S2.o.f1 R (by omega) j (by omega);have G:=S2.o.f1 R (by omega) (j-1) (by omega);obtain⟨u,D⟩:=S2.o.c2 R (by omega) j (j-1) (by omega) (by omega) (As dj[j-1]!);have S3:Aside (SW As w0 blk 0 (swp dj j (j-1)) ((w2.setCell ⟨blk,j,none⟩ (As dj[j-1]!)).setCell ⟨blk,j-1,none⟩ (As dj[j]!)).drew):=by
       have:=S2.o.swapped R j (j-1) (by omega) (by omega);rw[An3,An3]at this;exact this
      have V:Hid (Hm.Ins key dk (swp dj j (j-1)) a i (j-1)):=by
       have hI:=E.o;have hK:=J.o;subst L;rw[Ap1]at hK⊢;exact hI.step (by omega) (by omega) hK
      have P:(swp dj j (j-1)).size=d.size:=by rw[size_swp];exact A
      rw[An3]at B C F G;rw[An3,An3]at D;generalize swp dj j (j-1)=dn at*;obtain⟨iN2,c⟩: ∃q,q=j:=⟨_,rfl⟩;obtain⟨jN2,f⟩: ∃q,q=j-1:=⟨_,rfl⟩;obtain⟨x2,r⟩: ∃x,x=dj[j]!:=⟨_,rfl⟩;obtain⟨y2,m⟩: ∃x,x=dj[j-1]!:=⟨_,rfl⟩;rw[←r,←m,←f,←c]at S3;rw[←r,←c]at B;rw[←m,←f]at C;rw[←m,←f,←c]at D;rw[←c]at F;rw[←f]at G;have ea:((jp:Int)+1).toNat=iN2:=by omega
      have ec:((jp:Int)).toNat=jN2:=by omega
      unfold As at B C D;clear S2 E J OUT r m c f;have S4:Aside (SW As w0 blk 0 dn ((w2.setCell ⟨blk,iN2,none⟩ (.int .u8 (y2.toNat:Nat))).setCell ⟨blk,jN2,none⟩ (.int .u8 (x2.toNat:Nat))).drew):=S3;clear S3
      go_region
      go_wp2
      go_roundg (j-1)
      case measure=>omega
      case rel=>exact⟨j-1,dn,by first|rfl|go_num|(congr 1;omega),by omega,by omega,Ane _,P,S4,V⟩
     ·have J:Aside (key dj[j-1]!<key dj[j]!):=Nat.lt_of_le_of_ne (Nat.le_of_not_lt (mt l.2 k)) n;obtain⟨x,r⟩: ∃x,x=dj[j]!:=⟨_,rfl⟩;obtain⟨y,m⟩: ∃x,x=dj[j-1]!:=⟨_,rfl⟩;have l1:=SJ.o.cl R (by omega) j (by omega);have l2:=SJ.o.cl R (by omega) (j-1) (by omega);rw[An3,←r]at l1;rw[An3,←m]at l2;rw[←r,←m]at k;have v:=SJ.o.cmp Q.o (by omega) x y;have hd:decide (cf x y<0)=false:=Anc k;obtain⟨iN,c⟩: ∃q,q=j:=⟨_,rfl⟩;obtain⟨jN,f⟩: ∃q,q=j-1:=⟨_,rfl⟩;rw[←c]at l1;rw[←f]at l2;have ea:((jp:Int)+1).toNat=iN:=by omega
      have pa:(0:Int)≤(jp:Int)+1:=by omega
      have ba:(jp:Int)+1<(d.size:Int):=by omega
      have ra:IntKind.i64.wrap ((jp:Int)+1)=(jp:Int)+1:=by rw[An9];omega
      have ec:((jp:Int)).toNat=jN:=by omega
      have pc:(0:Int)≤(jp:Int):=by omega
      have bc:(jp:Int)<(d.size:Int):=by omega
      have rc:IntKind.i64.wrap ((jp:Int))=(jp:Int):=by rw[An9];omega
      clear l n rel r m c f;unfold As at l1 l2 v;go_wp2_with fail
      go_quiet_grown (first|(go_at_fn g;refine Calls.grown_of (v _ _)))
      have S2:Aside (SW As w0 blk 0 dj (grow (wr.drewN nq) osq)):=SJ.o.grown nq osq;clear l1 l2 v SJ;generalize grow (wr.drewN nq) osq=w2 at S2⊢;clear nq osq ea ec;go_wp2
      go_roundg (b-(i+1))
      case measure=>omega
      case rel=>exact⟨i+1,dj,by go_num,by omega,by omega,by omega,A,S2,OUT.o (.inr ⟨K,J.o⟩)⟩
    ·have H:decide ((j:Int)>(a:Int))=false:=Anc (by omega);have z: ¬(a:Int)<(j:Int):=by omega
     go_wp2_with fail
     go_region
     have S2:Aside (SW As w0 blk 0 dj wr.drew):=SJ.o.drew;clear SJ;go_wp2
     go_roundg (b-(i+1))
     case measure=>omega
     case rel=>exact⟨i+1,dj,by go_num,by omega,by omega,by omega,A,S2,OUT.o (.inl (by omega))⟩
  ·have I: ¬(i:Int)<(b:Int):=by omega
   go_wp2
   go_end0
   refine⟨rfl,dk,?_,?_,S1.o⟩
   ·rcases s.o.2.2 with h|⟨h1,h2⟩
    ·obtain rfl:i=b:=by omega
     exact s.o.1
    ·rw[h2];exact Dh.refl _ _ _
   ·rcases s.o.2.2 with h|⟨h1,h2⟩
    ·obtain rfl:i=b:=by omega
     exact s.o.2.1
    ·exact Hm.Srt.one _ _ _ _ (by omega)
set_option maxRecDepth 100000 in
theorem Aav{cf:UInt8→UInt8→Int}{key:UInt8→Nat}{Rl:UInt8→UInt8→Prop}(O:Hm.Ord cf key Rl)(g:Nat)(cb:Array Value)(eg: ∀args w,(callFunc g args).run prog w= .ok (.enter g args) w)
  (w0:World) (blk cap a m b:Nat) (d0 d:Array UInt8) (w:World) (q:CmpLays1 prog g cb As cf blk 0 d0.size w0) (R:Row1 As w0 blk 0 d0) (hs:d0.size=d.size) (S:SW As w0 blk 0 d w) (h:m=a+1) (V:m<b) (hb:b≤d.size) (W:d.size≤256)
  (C:Hm.Srt key d m b) (A:Hm.LR Rl d a m b):
  Calls prog 224 #[.slice (some ⟨blk,0,none⟩) d.size cap,.int .i64 a,.int .i64 m,.int .i64 b,.func (.func g) #[] cb] w fun e w'=>e= .returned (.tuple #[])∧ ∃d',Dh d d' a b∧Hm.Srt key d' a b∧SW As w0 blk 0 d' w':=by
 have mixed:=Po;have N:Aside _:=q;have HS:Aside _:=C;have K:Aside _:=A;have S0:Aside (SW As w0 blk 0 d w):=S;clear S q C A;have Z:(m:Int)-(a:Int)=1:=by omega
 have r:Hid (m=a+1):=h;clear h
 go_enter func224,ntmps224
 go_wp2
 go_loopg [10,11] (b-m) (fun g1 vi vj wr=> ∃i j:Nat,vi= .int .i64 i∧vj= .int .i64 j∧i+g1=j∧j≤b∧m≤i∧Aside (SW As w0 blk 0 d wr)∧Hid (Hi key d m b (key d[a]!) i j))
 case atStart=>exact⟨m,b,rfl,rfl,by omega,Ane _,Ane _,S0,Hi.start (by omega)⟩
 case round=>
  clear S0;obtain⟨i,j,rfl,rfl,T,G,H,S1,s⟩:=hrel
  by_cases U:i<j
  ·have B:decide ((i:Int)<(j:Int))=true:=Ana (by omega);obtain⟨c,F⟩: ∃c,c=(i+j)/2:=⟨_,rfl⟩;have v:i≤c:=by omega
   have z:c<j:=by omega
   have zc:((i:Int)+(j:Int))/2=(c:Int):=by omega
   have rel:=K.o a c (Ane _) (by have:=r.o;omega) (by omega) (by omega);have f:=O.lt _ _ rel;have n:=O.ne _ _ rel;have l1:=S1.o.cl R hs.symm c (by omega);have l2:=S1.o.cl R hs.symm a (by have:=r.o;omega);rw[An3]at l1 l2;have l:=S1.o.cmp N.o hs.symm d[c]! d[a]!;have b1:(c:Int)<(d.size:Int):=by omega
   have b2:(a:Int)<(d.size:Int):=by have:=r.o;omega
   clear F
   by_cases p:cf d[c]! d[a]!<0
   ·have t:Hid (Hi key d m b (key d[a]!) (c+1) j):=s.o.up HS.o v z (f.1 p);have hd:decide (cf d[c]! d[a]!<0)=true:=Ana p;clear f n rel s;generalize d[c]! =x at*;generalize d[a]! =y at*;unfold As at l1 l2 l;go_wp2_with fail
    go_quiet_grown (first|(go_at_fn g;refine Calls.grown_of (l _ _)))
    have S2:Aside (SW As w0 blk 0 d (grow (wr.drewN nq) osq)):=S1.o.grown nq osq;clear l1 l2 l S1;generalize grow (wr.drewN nq) osq=w2 at S2⊢;clear nq osq;go_wp2
    go_roundg (j-(c+1))
    case measure=>omega
    case rel=>exact⟨c+1,j,by go_num,rfl,by omega,G,by omega,S2,t⟩
   ·have t:Hid (Hi key d m b (key d[a]!) i c):=s.o.down HS.o v z (Nat.lt_of_le_of_ne (Nat.le_of_not_lt (mt f.2 p)) n);have hd:decide (cf d[c]! d[a]!<0)=false:=Anc p;clear f n rel s;generalize d[c]! =x at*;generalize d[a]! =y at*;unfold As at l1 l2 l;go_wp2_with fail
    go_quiet_grown (first|(go_at_fn g;refine Calls.grown_of (l _ _)))
    have S2:Aside (SW As w0 blk 0 d (grow (wr.drewN nq) osq)):=S1.o.grown nq osq;clear l1 l2 l S1;generalize grow (wr.drewN nq) osq=w2 at S2⊢;clear nq osq;go_wp2
    go_roundg (c-i)
    case measure=>omega
    case rel=>exact⟨i,c,rfl,rfl,by omega,by omega,H,S2,t⟩
  ·have B:decide ((i:Int)<(j:Int))=false:=Anc (by omega);obtain rfl:i=j:=by omega
   go_wp2
   go_loopg [13] (i-1-a) (fun g2 vk wr2=> ∃(k:Nat) (dk:Array UInt8),vk= .int .i64 k∧k+g2=i-1∧a≤k∧dk.size=d.size∧Aside (SW As w0 blk 0 dk wr2)∧Hid (Hm.Rot d dk a (a+1) (k+1)))
   case atStart=>exact⟨a,d,rfl,by have:=r.o;omega,Ane _,rfl,S1,Hm.Rot.id_right d a (a+1)⟩
   case round=>
    clear S1;obtain⟨k,dk,rfl,hk,E,I,S1,D⟩:=hrel;have h:=r.o
    by_cases f:k<i-1
    ·have hd:decide ((k:Int)<(i:Int)-1)=true:=Ana (by omega);have S3:Aside (SW As w0 blk 0 (swp dk k (k+1)) ((wr.setCell ⟨blk,k,none⟩ (.int .u8 (dk[k+1]!.toNat:Nat))).setCell ⟨blk,k+1,none⟩ (.int .u8 (dk[k]!.toNat:Nat))).drew):=by
      have:=S1.o.swapped R k (k+1) (by omega) (by omega);rw[An3,An3]at this;exact this
     have c1:=S1.o.c1 R (by omega) k (by omega);have c2:=S1.o.c1 R (by omega) (k+1) (by omega);have f1:=S1.o.f1 R (by omega) k (by omega);have f2:=S1.o.f1 R (by omega) (k+1) (by omega);obtain⟨u,c3⟩:=S1.o.c2 R (by omega) k (k+1) (by omega) (by omega) (As dk[k+1]!);rw[An3]at c1 c2 f1 f2;rw[An3,An3]at c3;have t:Hid (Hm.Rot d (swp dk k (k+1)) a (a+1) (k+1+1)):=D.o.right_step (by omega) E;have J:(swp dk k (k+1)).size=d.size:=by rw[size_swp];exact I
     clear S1 D r h;unfold As at c1 c2 c3;generalize X:dk[k]!.toNat=x at*;generalize Y:dk[k+1]!.toNat=y at*;generalize swp dk k (k+1)=e at*;have P:(k:Int)<(d.size:Int):=by omega
     have Q:(k:Int)+1<(d.size:Int):=by omega
     clear X Y;go_wp2
     go_region
     go_wp2
     go_roundg (gk-1)
     case measure=>omega
     case rel=>exact⟨k+1,e,by go_num,by omega,by omega,J,S3,t⟩
    ·have hd:decide ((k:Int)<(i:Int)-1)=false:=Anc (by omega);obtain rfl:i=k+1:=by omega
     have M:=Ahb (by have:=s.o;rw[h]at this;exact this) (by have:=HS.o;rw[h]at this;exact this) D.o;have L:Hid (Dh d dk a b∧Hm.Srt key dk a b):=M;clear M h D s HS K;go_wp2
     (try simp only[Exit.inBlock,Exit.then]);refine Aok (results_none rfl _ _ _) rfl ?_
     exact⟨rfl,dk,L.o.1,L.o.2,S1.o⟩
set_option maxRecDepth 100000 in
theorem Yo{cf:UInt8→UInt8→Int}{key:UInt8→Nat}{Rl:UInt8→UInt8→Prop}(O:Hm.Ord cf key Rl)(g:Nat)(cb:Array Value)(eg: ∀args w,(callFunc g args).run prog w= .ok (.enter g args) w)
  (w0:World) (blk cap a m b:Nat) (d0 d:Array UInt8) (w:World) (p:CmpLays1 prog g cb As cf blk 0 d0.size w0) (R:Row1 As w0 blk 0 d0) (hs:d0.size=d.size) (S:SW As w0 blk 0 d w) (B:a+1<m) (C:b=m+1) (hb:b≤d.size) (Z:d.size≤256)
  (E:Hm.Srt key d a m) (z:Hm.LR Rl d a m b):
  Calls prog 224 #[.slice (some ⟨blk,0,none⟩) d.size cap,.int .i64 a,.int .i64 m,.int .i64 b,.func (.func g) #[] cb] w fun e w'=>e= .returned (.tuple #[])∧ ∃d',Dh d d' a b∧Hm.Srt key d' a b∧SW As w0 blk 0 d' w':=by
 have mixed:=Po;have Q:Aside _:=p;have HS:Aside _:=E;have M:Aside _:=z;have S0:Aside (SW As w0 blk 0 d w):=S;clear S p E z;have ac:(((m:Int)-(a:Int))==1)=false:=by simp;omega
 have hz:(b:Int)-(m:Int)=1:=by omega
 have F:Hid (b=m+1):=C;clear C;have D:m<d.size:=by have:=F.o;omega
 go_enter func224,ntmps224
 go_wp2
 go_loopg [14,15] (m-a) (fun g1 vi vj wr=> ∃i j:Nat,vi= .int .i64 i∧vj= .int .i64 j∧i+g1=j∧j≤m∧a≤i∧Aside (SW As w0 blk 0 d wr)∧Hid (Hi key d a m (key d[m]!) i j))
 case atStart=>exact⟨a,m,rfl,rfl,by omega,Ane _,Ane _,S0,Hi.start (by omega)⟩
 case round=>
  clear S0;obtain⟨i,j,rfl,rfl,X,I,J,S1,r⟩:=hrel
  by_cases Y:i<j
  ·have A:decide ((i:Int)<(j:Int))=true:=Ana (by omega);obtain⟨c,H⟩: ∃c,c=(i+j)/2:=⟨_,rfl⟩;have t:i≤c:=by omega
   have v:c<j:=by omega
   have zc:((i:Int)+(j:Int))/2=(c:Int):=by omega
   have rel:=M.o c m (by omega) (by omega) (Ane _) (by have:=F.o;omega);have f:=O.lt _ _ rel;have l:=O.ne _ _ rel;have l1:=S1.o.cl R hs.symm m D;have l2:=S1.o.cl R hs.symm c (by omega);rw[An3]at l1 l2;have h:=S1.o.cmp Q.o hs.symm d[m]! d[c]!;have b1:(c:Int)<(d.size:Int):=by omega
   have b2:(m:Int)<(d.size:Int):=by omega
   clear H
   by_cases n:cf d[m]! d[c]!<0
   ·have s:Hid (Hi key d a m (key d[m]!) i c):=r.o.down HS.o t v (f.1 n);have hd:decide (cf d[m]! d[c]!<0)=true:=Ana n;clear f l rel r;generalize d[c]! =x at*;generalize d[m]! =y at*;unfold As at l1 l2 h;go_wp2_with fail
    go_quiet_grown (first|(go_at_fn g;refine Calls.grown_of (h _ _)))
    have S2:Aside (SW As w0 blk 0 d (grow (wr.drewN nq) osq)):=S1.o.grown nq osq;clear l1 l2 h S1;generalize grow (wr.drewN nq) osq=w2 at S2⊢;clear nq osq;go_wp2
    go_roundg (c-i)
    case measure=>omega
    case rel=>exact⟨i,c,rfl,rfl,by omega,by omega,J,S2,s⟩
   ·have s:Hid (Hi key d a m (key d[m]!) (c+1) j):=r.o.up HS.o t v (Nat.lt_of_le_of_ne (Nat.le_of_not_lt (mt f.2 n)) l);have hd:decide (cf d[m]! d[c]!<0)=false:=Anc n;clear f l rel r;generalize d[c]! =x at*;generalize d[m]! =y at*;unfold As at l1 l2 h;go_wp2_with fail
    go_quiet_grown (first|(go_at_fn g;refine Calls.grown_of (h _ _)))
    have S2:Aside (SW As w0 blk 0 d (grow (wr.drewN nq) osq)):=S1.o.grown nq osq;clear l1 l2 h S1;generalize grow (wr.drewN nq) osq=w2 at S2⊢;clear nq osq;go_wp2
    go_roundg (j-(c+1))
    case measure=>omega
    case rel=>exact⟨c+1,j,by go_num,rfl,by omega,I,by omega,S2,s⟩
  ·have A:decide ((i:Int)<(j:Int))=false:=Anc (by omega);obtain rfl:i=j:=by omega
   go_wp2
   go_loopg [17] (m-i) (fun g2 vk wr2=> ∃(k:Nat) (dk:Array UInt8),vk= .int .i64 k∧i+g2=k∧k≤m∧dk.size=d.size∧Aside (SW As w0 blk 0 dk wr2)∧Hid (Hm.Rot d dk k m (m+1)))
   case atStart=>exact⟨m,d,rfl,by omega,Ane _,rfl,S1,Hm.Rot.id_left d m (m+1) (by omega)⟩
   case round=>
    clear S1;obtain⟨k,dk,rfl,hk,U,K,S1,G⟩:=hrel
    by_cases f:i<k
    ·obtain⟨q,rfl⟩: ∃q,k=q+1:=⟨k-1,by omega⟩;have hd:decide (((q+1:Nat):Int)>(i:Int))=true:=Ana (by omega);have S3:Aside (SW As w0 blk 0 (swp dk (q+1) q) ((wr.setCell ⟨blk,q+1,none⟩ (.int .u8 (dk[q]!.toNat:Nat))).setCell ⟨blk,q,none⟩ (.int .u8 (dk[q+1]!.toNat:Nat))).drew):=by
      have:=S1.o.swapped R (q+1) q (by omega) (by omega);rw[An3,An3]at this;exact this
     have c1:=S1.o.c1 R (by omega) (q+1) (by omega);have c2:=S1.o.c1 R (by omega) q (by omega);have f1:=S1.o.f1 R (by omega) (q+1) (by omega);have f2:=S1.o.f1 R (by omega) q (by omega);obtain⟨u,c3⟩:=S1.o.c2 R (by omega) (q+1) q (by omega) (by omega) (As dk[q]!);rw[An3]at c1 c2 f1 f2;rw[An3,An3]at c3;have s:Hid (Hm.Rot d (swp dk (q+1) q) q m (m+1)):=G.o.left_step D (by omega);have L:(swp dk (q+1) q).size=d.size:=by rw[size_swp];exact K
     clear S1 G F;unfold As at c1 c2 c3;generalize hx:dk[q+1]!.toNat=x at*;generalize hy:dk[q]!.toNat=y at*;generalize swp dk (q+1) q=e at*;have T:(q:Int)<(d.size:Int):=by omega
     have V:(q:Int)+1<(d.size:Int):=by omega
     have W:(i:Int)<(q:Int)+1:=by omega
     clear hx hy;go_wp2
     go_region
     go_wp2
     go_roundg (gk-1)
     case measure=>omega
     case rel=>exact⟨q,e,by go_num,by omega,by omega,L,S3,s⟩
    ·have hd:decide ((k:Int)>(i:Int))=false:=Anc (by omega);obtain rfl:k=i:=by omega
     have P:=Uu r.o HS.o G.o;have N:Hid (Dh d dk a b∧Hm.Srt key dk a b):=by
      have B:=F.o;show _∧_;rw[B];exact P
     clear P G r HS M;go_wp2
     (try simp only[Exit.inBlock,Exit.then]);refine Aok (results_none rfl _ _ _) rfl ?_
     exact⟨rfl,dk,N.o.1,N.o.2,S1.o⟩
set_option maxRecDepth 100000 in
theorem Acz{cf:UInt8→UInt8→Int}{key:UInt8→Nat}{Rl:UInt8→UInt8→Prop}(O:Hm.Ord cf key Rl)(g:Nat)(cb:Array Value)(eg: ∀args w,(callFunc g args).run prog w= .ok (.enter g args) w)
  (w0:World) (blk cap a m b:Nat) (d0 d:Array UInt8) (w:World) (B:CmpLays1 prog g cb As cf blk 0 d0.size w0) (R:Row1 As w0 blk 0 d0) (hs:d0.size=d.size) (S:SW As w0 blk 0 d w) (au:a+1<m) (av:m+1<b) (hb:b≤d.size) (aj:d.size≤256)
  (V:Hm.Srt key d a m) (W:Hm.Srt key d m b) (P:Hm.LR Rl d a m b)
  (IH: ∀(a' m' b':Nat) (d':Array UInt8) (w':World),b'-a'<b-a→d'.size=d.size→Aside (SW As w0 blk 0 d' w')→a'<m'→m'<b'→b'≤d.size→Hm.Srt key d' a' m'→Hm.Srt key d' m' b'→Hm.LR Rl d' a' m' b'→
   Calls prog 224 #[.slice (some ⟨blk,0,none⟩) d.size cap,.int .i64 a',.int .i64 m',.int .i64 b',.func (.func g) #[] cb] w' fun e w''=>e= .returned (.tuple #[])∧ ∃e',Dh d' e' a' b'∧Hm.Srt key e' a' b'∧SW As w0 blk 0 e' w''):
  Calls prog 224 #[.slice (some ⟨blk,0,none⟩) d.size cap,.int .i64 a,.int .i64 m,.int .i64 b,.func (.func g) #[] cb] w fun e w'=>e= .returned (.tuple #[])∧ ∃d',Dh d d' a b∧Hm.Srt key d' a b∧SW As w0 blk 0 d' w':=by
 have mixed:=Po;have HC:Aside _:=B;have J:Aside _:=V;have K:Aside _:=W;have Z:Aside _:=P;have H:Aside _:=IH;have S0:Aside (SW As w0 blk 0 d w):=S;clear S B V W P IH;have aw:(((m:Int)-(a:Int))==1)=false:=by simp;omega
 have ax:(((b:Int)-(m:Int))==1)=false:=by simp;omega
 obtain⟨mid,T⟩: ∃c,c=(a+b)/2:=⟨_,rfl⟩;have zmid:((a:Int)+(b:Int))/2=(mid:Int):=by omega
 have al:a<mid:=by omega
 have am:mid<b:=by omega
 have an:2*mid≤a+b:=by omega
 have ao:a+b≤2*mid+1:=by omega
 clear T;obtain⟨p,hp⟩: ∃p,p+1=mid+m:=⟨mid+m-1,by omega⟩;have zp:(mid:Int)+(m:Int)-1=(p:Int):=by omega
 go_enter func224,ntmps224
 go_upto_if 140 with fail
 go_cut[20,21]from 25 (fun vs vr wx=> ∃s0 r0:Nat,vs= .int .i64 s0∧vr= .int .i64 r0∧w=wx∧a≤s0∧s0≤r0∧r0≤m∧r0≤mid∧mid+m≤b+s0∧Hid ((s0=a∨s0+b=mid+m)∧(r0=m∨r0=mid)))
 case first=>as_aux_lemma=>
  by_cases c:mid<m
  ·have hd:decide ((m:Int)>(mid:Int))=true:=Ana (by omega);have ac:(mid:Int)<(m:Int):=by omega
   go_wp2_with fail;go_meet
   case rel=>exact⟨mid+m-b,mid,by first|go_num|(congr 1;omega),rfl,rfl,by omega,by omega,by omega,by omega,by omega,.inr (by omega),.inr rfl⟩
  ·have hd:decide ((m:Int)>(mid:Int))=false:=Anc (by omega);have ac: ¬(mid:Int)<(m:Int):=by omega
   go_wp2_with fail;go_meet
   case rel=>exact⟨a,m,rfl,rfl,rfl,by omega,by omega,by omega,by omega,by omega,.inl rfl,.inl rfl⟩
 case rest=>as_aux_lemma=>
  obtain⟨s0,r0,rfl,rfl,rfl,E,h,F,af,ah,HZ⟩:=hcut;go_wp2_with fail
  go_loopg [20,21] (r0-s0) (fun g1 vi vj wr=> ∃s r:Nat,vi= .int .i64 s∧vj= .int .i64 r∧s+g1=r∧r≤r0∧s0≤s∧Aside (SW As w0 blk 0 d wr)∧Hid (L5 key d p s0 r0 s r))
  case atStart=>exact⟨s0,r0,rfl,rfl,by omega,Ane _,Ane _,S0,L5.start h⟩
  case round=>as_aux_lemma=>
   clear S0;obtain⟨s,r,rfl,rfl,aq,ag,ai,S1,I⟩:=hrel
   by_cases ar:s<r
   ·have Q:decide ((s:Int)<(r:Int))=true:=Ana (by omega);obtain⟨c,ab⟩: ∃c,c=(s+r)/2:=⟨_,rfl⟩;have M:s≤c:=by omega
    have N:c<r:=by omega
    have zc:((s:Int)+(r:Int))/2=(c:Int):=by omega
    obtain⟨q,Y⟩: ∃q,q=p-c:=⟨_,rfl⟩;have zq:IntKind.i64.wrap ((p:Int)-(c:Int))=(q:Int):=by rw[An9];omega
    have rel:=Z.o c q (by omega) (by omega) (by omega) (by omega);have i:=O.lt _ _ rel;have n:=O.ne _ _ rel;have l1:=S1.o.cl R hs.symm q (by omega);have l2:=S1.o.cl R hs.symm c (by omega);rw[An3]at l1 l2;have j:=S1.o.cmp HC.o hs.symm d[q]! d[c]!;have b1:(c:Int)<(d.size:Int):=by omega
    have b2:(q:Int)<(d.size:Int):=by omega
    clear ab
    by_cases A:cf d[q]! d[c]!<0
    ·have f:Hid (L5 key d p s0 r0 s c):=I.o.down J.o K.o E F (by omega) (by omega) M N (by rw[←Y];exact i.1 A);have hd:decide (cf d[q]! d[c]!<0)=true:=Ana A;clear i n rel I Y;generalize d[c]! =x at*;generalize d[q]! =y at*;unfold As at l1 l2 j;go_wp2_with fail
     go_quiet_grown (first|(go_at_fn g;refine Calls.grown_of (j _ _)))
     have S2:Aside (SW As w0 blk 0 d (grow (wr.drewN nq) osq)):=S1.o.grown nq osq;clear l1 l2 j S1;generalize grow (wr.drewN nq) osq=w2 at S2⊢;clear nq osq;go_wp2
     go_roundg (c-s)
     case measure=>omega
     case rel=>exact⟨s,c,rfl,rfl,by omega,by omega,ai,S2,f⟩
    ·have f:Hid (L5 key d p s0 r0 (c+1) r):=I.o.up J.o K.o E F (by omega) (by omega) M N (by rw[←Y];exact Nat.lt_of_le_of_ne (Nat.le_of_not_lt (mt i.2 A)) n);have hd:decide (cf d[q]! d[c]!<0)=false:=Anc A;clear i n rel I Y;generalize d[c]! =x at*;generalize d[q]! =y at*;unfold As at l1 l2 j;go_wp2_with fail
     go_quiet_grown (first|(go_at_fn g;refine Calls.grown_of (j _ _)))
     have S2:Aside (SW As w0 blk 0 d (grow (wr.drewN nq) osq)):=S1.o.grown nq osq;clear l1 l2 j S1;generalize grow (wr.drewN nq) osq=w2 at S2⊢;clear nq osq;go_wp2
     go_roundg (r-(c+1))
     case measure=>omega
     case rel=>exact⟨c+1,r,by go_num,rfl,by omega,ag,by omega,S2,f⟩
   ·have Q:decide ((s:Int)<(r:Int))=false:=Anc (by omega);obtain rfl:s=r:=by omega
    obtain⟨e,he⟩: ∃e,e+s=mid+m:=⟨mid+m-s,by omega⟩;have ze:(mid:Int)+(m:Int)-(s:Int)=(e:Int):=by omega
    have ae:m≤e:=by omega
    have ad:e≤b:=by omega
    have U:p=mid+m-1:=by omega
    have D:=I.o;rw[U]at D;obtain⟨F1,F2⟩:=D.found J.o K.o E F (by omega) af HZ.o.1 HZ.o.2 ah;rw[show mid+m-s=e from by omega]at F1 F2;have L:Aside (∀d1,Hm.Rot d d1 s m e→L4 key Rl d d1 a s mid e b):=fun d1 r=>L4.of J.o K.o Z.o (by omega) (by omega) (by omega) he ad F1 F2 r;clear F1 F2 I D U HZ Z J K HC;go_upto_region 39 with fail
    go_cut[185]from 25 (fun v wx=>v= .bool (decide (s<m∧m<e))∧wr=wx)
    case first=>as_aux_lemma=>
     by_cases c1:s<m
     ·have e1:decide ((s:Int)<(m:Int))=true:=Ana (by omega);have e1':(s:Int)<(m:Int):=by omega
      by_cases c2:m<e
      ·have e2:decide ((m:Int)<(e:Int))=true:=Ana (by omega);have e2':(m:Int)<(e:Int):=by omega
       go_wp2_with fail;go_meet
       case rel=>exact⟨by simp[c1,c2],rfl⟩
      ·have e2:decide ((m:Int)<(e:Int))=false:=Anc (by omega);have e2': ¬(m:Int)<(e:Int):=by omega
       go_wp2_with fail;go_meet
       case rel=>exact⟨by simp[c2],rfl⟩
     ·have e1:decide ((s:Int)<(m:Int))=false:=Anc (by omega);have e1': ¬(s:Int)<(m:Int):=by omega
      go_wp2_with fail;go_meet
      case rel=>exact⟨by simp[c1],rfl⟩
    case rest=>as_aux_lemma=>
     obtain⟨rfl,rfl⟩:=hcut;go_upto_if 185 with fail
     go_cut[]from 25 (fun wx=> ∃d1,d1.size=d.size∧Aside (SW As w0 blk 0 d1 wx)∧Hid (L4 key Rl d d1 a s mid e b))
     case first=>as_aux_lemma=>
      by_cases c1:s<m∧m<e
      ·have hd:decide (s<m∧m<e)=true:=Ana c1;have C:=Ahi w0 blk cap s m e d0 d (.func (.func g) #[] cb) wr R hs S1.o c1.1 c1.2 (by omega) aj;go_wp2_with fail;refine C.mono ?_;rintro e2 w2 ⟨rfl,d1,t,S2⟩;have f:Hid (L4 key Rl d d1 a s mid e b):=L.o d1 t;have G:d1.size=d.size:=t.size;have SS:Aside (SW As w0 blk 0 d1 w2):=S2;clear C t S2 L;go_wp2_with fail;go_meet
       case rel=>exact⟨d1,G,SS,f⟩
      ·have hd:decide (s<m∧m<e)=false:=Anc c1;have f:Hid (L4 key Rl d d a s mid e b):=L.o d (by
        by_cases c2:s<m
        ·obtain rfl:e=m:=by omega
         exact Hm.Rot.id_right d s e
        ·obtain rfl:s=m:=by omega
         exact Hm.Rot.id_left d s e ae)
       clear L;go_wp2_with fail;go_meet
       case rel=>exact⟨d,rfl,S1,f⟩
     case rest=>as_aux_lemma=>
      clear S1 L;obtain⟨d1,u,S1,l⟩:=hcut;go_upto_region 41 with fail
      go_cut[199]from 25 (fun v wx=>v= .bool (decide (a<s∧s<mid))∧wc=wx)
      case first=>as_aux_lemma=>
       by_cases c1:a<s
       ·have e1:decide ((a:Int)<(s:Int))=true:=Ana (by omega);have e1':(a:Int)<(s:Int):=by omega
        by_cases c2:s<mid
        ·have e2:decide ((s:Int)<(mid:Int))=true:=Ana (by omega);have e2':(s:Int)<(mid:Int):=by omega
         go_wp2_with fail;go_meet
         case rel=>exact⟨by simp[c1,c2],rfl⟩
        ·have e2:decide ((s:Int)<(mid:Int))=false:=Anc (by omega);have e2': ¬(s:Int)<(mid:Int):=by omega
         go_wp2_with fail;go_meet
         case rel=>exact⟨by simp[c2],rfl⟩
       ·have e1:decide ((a:Int)<(s:Int))=false:=Anc (by omega);have e1': ¬(a:Int)<(s:Int):=by omega
        go_wp2_with fail;go_meet
        case rel=>exact⟨by simp[c1],rfl⟩
      case rest=>as_aux_lemma=>
       obtain⟨rfl,rfl⟩:=hcut;go_upto_if 199 with fail
       go_cut[]from 25 (fun wx=> ∃d2,d2.size=d.size∧Aside (SW As w0 blk 0 d2 wx)∧Hid (Dh d1 d2 a mid∧Hm.Srt key d2 a mid))
       case first=>as_aux_lemma=>
        by_cases c1:a<s∧s<mid
        ·have hd:decide (a<s∧s<mid)=true:=Ana c1;have C:=H.o a s mid d1 wc (by omega) u S1 c1.1 c1.2 (by omega) l.o.s1 l.o.s2 l.o.lr1;clear H;go_wp2_with fail;refine C.mono ?_;rintro e2 w2 ⟨rfl,d2,k,h,S2⟩;have f:Hid (Dh d1 d2 a mid∧Hm.Srt key d2 a mid):=⟨k,h⟩;have G:d2.size=d.size:=k.size.trans u;have SS:Aside (SW As w0 blk 0 d2 w2):=S2;clear C k h S2;go_wp2_with fail;go_meet
         case rel=>exact⟨d2,G,SS,f⟩
        ·have hd:decide (a<s∧s<mid)=false:=Anc c1;have f:Hid (Dh d1 d1 a mid∧Hm.Srt key d1 a mid):=⟨Dh.refl _ _ _,l.o.s1.whole l.o.s2 (by omega)⟩;clear H;go_wp2_with fail;go_meet
         case rel=>exact⟨d1,u,S1,f⟩
       case rest=>as_aux_lemma=>
        clear S1;obtain⟨d2,X,S1,z⟩:=hcut;go_upto_region 43 with fail
        go_cut[213]from 25 (fun v wx=>v= .bool (decide (mid<e∧e<b))∧wc=wx)
        case first=>as_aux_lemma=>
         by_cases c1:mid<e
         ·have e1:decide ((mid:Int)<(e:Int))=true:=Ana (by omega);have e1':(mid:Int)<(e:Int):=by omega
          by_cases c2:e<b
          ·have e2:decide ((e:Int)<(b:Int))=true:=Ana (by omega);have e2':(e:Int)<(b:Int):=by omega
           go_wp2_with fail;go_meet
           case rel=>exact⟨by simp[c1,c2],rfl⟩
          ·have e2:decide ((e:Int)<(b:Int))=false:=Anc (by omega);have e2': ¬(e:Int)<(b:Int):=by omega
           go_wp2_with fail;go_meet
           case rel=>exact⟨by simp[c2],rfl⟩
         ·have e1:decide ((mid:Int)<(e:Int))=false:=Anc (by omega);have e1': ¬(mid:Int)<(e:Int):=by omega
          go_wp2_with fail;go_meet
          case rel=>exact⟨by simp[c1],rfl⟩
        case rest=>as_aux_lemma=>
         obtain⟨rfl,rfl⟩:=hcut
         by_cases c1:mid<e∧e<b
         ·have hd:decide (mid<e∧e<b)=true:=Ana c1;have C:=H.o mid e b d2 wc (by omega) X S1 c1.1 c1.2 hb (l.o.s3.o z.o.1 (.inr (Ane _))) (l.o.s4.o z.o.1 (.inr (by omega))) (l.o.lr2.o z.o.1 (.inr (Ane _)));clear H;go_wp2_with fail;refine C.mono ?_;rintro e2 w2 ⟨rfl,d3,k,h,S2⟩;have f:Hid (Dh d d3 a b∧Hm.Srt key d3 a b):=l.o.done (by omega) (by omega) z.o.1 z.o.2 k h;have SS:Aside (SW As w0 blk 0 d3 w2):=S2;clear C k h S2;go_wp2
          go_end0
          exact⟨rfl,d3,f.o.1,f.o.2,SS.o⟩
         ·have hd:decide (mid<e∧e<b)=false:=Anc c1;have f:Hid (Dh d d2 a b∧Hm.Srt key d2 a b):=l.o.done (by omega) (by omega) z.o.1 z.o.2 (Dh.refl _ _ _) ((l.o.s3.o z.o.1 (.inr (Ane _))).whole (l.o.s4.o z.o.1 (.inr (by omega))) (by omega));clear H;go_wp2
          go_end0
          exact⟨rfl,d2,f.o.1,f.o.2,S1.o⟩
theorem Tg{cf:UInt8→UInt8→Int}{key:UInt8→Nat}{Rl:UInt8→UInt8→Prop}(O:Hm.Ord cf key Rl)(g:Nat)(cb:Array Value)(eg: ∀args w,(callFunc g args).run prog w= .ok (.enter g args) w)
  (w0:World) (blk cap:Nat) (d0:Array UInt8) (c:CmpLays1 prog g cb As cf blk 0 d0.size w0) (R:Row1 As w0 blk 0 d0) (i:d0.size≤256):
  ∀(N a m b:Nat) (d:Array UInt8) (w:World),b-a<N→d.size=d0.size→Aside (SW As w0 blk 0 d w)→a<m→m<b→b≤d0.size→Hm.Srt key d a m→Hm.Srt key d m b→Hm.LR Rl d a m b→
   Calls prog 224 #[.slice (some ⟨blk,0,none⟩) d0.size cap,.int .i64 a,.int .i64 m,.int .i64 b,.func (.func g) #[] cb] w fun e w'=>e= .returned (.tuple #[])∧ ∃d',Dh d d' a b∧Hm.Srt key d' a b∧SW As w0 blk 0 d' w'
 |0,a,m,b,d,w,h,_,_,_,_,_,_,_,_=>absurd h (Nat.not_lt_zero _)
 |N+1,a,m,b,d,w,h,hs,S,r,f,hb,s1,s2,lr=>by
  have ih:=Tg O g cb eg w0 blk cap d0 c R i N;rw[←hs]
  by_cases c1:m=a+1
  ·exact Aav O g cb eg w0 blk cap a m b d0 d w c R hs.symm S.o c1 f (by omega) (by omega) s2 lr
  by_cases c2:b=m+1
  ·exact Yo O g cb eg w0 blk cap a m b d0 d w c R hs.symm S.o (by omega) c2 (by omega) (by omega) s1 lr
  refine Acz O g cb eg w0 blk cap a m b d0 d w c R hs.symm S.o (by omega) (by omega) (by omega) (by omega) s1 s2 lr ?_;intro a' m' b' d' w' h1 h2 j k l s n p q;rw[hs];exact ih a' m' b' d' w' (by omega) (by omega) j k l (by omega) n p q
theorem Hm.Good.of_agree{key:UInt8→Nat}{d0 d e:Array UInt8}{a b:Nat}(hs:Dh d e a b)(hk:Hm.Srt key e a b)(h: ∀k,a≤k→k<b→d[k]! =d0[k]!):Hm.Good key d0 e a b:=
 ⟨fun x=>by
  rw[hs.mem];exact⟨fun⟨k,h1,h2,c⟩=>⟨k,h1,h2,by rw[←h k h1 h2];exact c⟩,fun⟨k,h1,h2,c⟩=>⟨k,h1,h2,by rw[h k h1 h2];exact c⟩⟩,hk⟩
set_option maxRecDepth 100000 in
theorem Ahj{cf:UInt8→UInt8→Int}{key:UInt8→Nat}{Rl:UInt8→UInt8→Prop}(O:Hm.Ord cf key Rl)(g:Nat)(cb:Array Value)(eg: ∀args w,(callFunc g args).run prog w= .ok (.enter g args) w)
  (w0:World) (blk cap:Nat) (d0:Array UInt8) (w:World) (u:CmpLays1 prog g cb As cf blk 0 d0.size w0) (R:Row1 As w0 blk 0 d0) (M:d0.size≤256) (S:SW As w0 blk 0 d0 w) (L: ∀i j,i<j→j<d0.size→Rl d0[i]! d0[j]!):
  Calls prog 218 #[.slice (some ⟨blk,0,none⟩) d0.size cap,.int .i64 d0.size,.func (.func g) #[] cb] w fun e w'=>e= .returned (.tuple #[])∧ ∃d',d'.size=d0.size∧Hm.Good key d0 d' 0 d0.size∧SW As w0 blk 0 d' w':=by
 have A: ∀(a b:Nat) (d:Array UInt8) (W:World),d.size=d0.size→Aside (SW As w0 blk 0 d W)→a≤b→b≤d0.size→(∀k,a≤k→d[k]! =d0[k]!)→
   Calls prog 223 #[.slice (some ⟨blk,0,none⟩) d0.size cap,.int .i64 a,.int .i64 b,.func (.func g) #[] cb] W fun e w'=>e= .returned (.tuple #[])∧ ∃d',Dh d d' a b∧Hm.Srt key d' a b∧SW As w0 blk 0 d' w':=fun a b d W h1 h2 H N D=>by
  rw[←h1];exact Aau O g cb eg w0 blk cap a b d0 d W u R h1.symm h2.o H (by omega) (by omega) (fun p q P Q X=>by rw[D p P,D q (by omega)];exact L p q Q (by omega))
 have B: ∀(a m b:Nat) (d:Array UInt8) (W:World),d.size=d0.size→Aside (SW As w0 blk 0 d W)→a<m→m<b→b≤d0.size→Hm.Good key d0 d a m→Hm.Good key d0 d m b→
   Calls prog 224 #[.slice (some ⟨blk,0,none⟩) d0.size cap,.int .i64 a,.int .i64 m,.int .i64 b,.func (.func g) #[] cb] W fun e w'=>e= .returned (.tuple #[])∧ ∃d',Dh d d' a b∧Hm.Srt key d' a b∧SW As w0 blk 0 d' w':=fun a m b d W h1 h2 H N D g1 g2=>
  Tg O g cb eg w0 blk cap d0 u R M (b-a+1) a m b d W (by omega) h1 h2 H N D g1.srt g2.srt (g1.lr g2 L D)
 have s:Aside _:=A;have h:Aside _:=B;have S0:Aside (SW As w0 blk 0 d0 w):=S;clear S u A B L
 go_enter func218,ntmps218
 go_wp2_with fail
 go_loopg [7,8] d0.size (fun g1 va vb wr=> ∃(a:Nat) (dk:Array UInt8),va= .int .i64 a∧vb= .int .i64 ((a+20:Nat):Int)∧a+g1=d0.size∧dk.size=d0.size∧Aside (SW As w0 blk 0 dk wr)∧Hid (Ku key d0 dk d0.size 20 a∧ ∀k,a≤k→dk[k]! =d0[k]!))
 case atStart=>exact⟨0,d0,rfl,rfl,by omega,rfl,S0,Ku.none _ _ _ _ _,fun _ _=>rfl⟩
 case round=>
  clear S0;obtain⟨a,dk,rfl,rfl,G,f,S1,l⟩:=hrel
  by_cases y:a+20≤d0.size
  ·have hd:decide (((a+20:Nat):Int)≤(d0.size:Int))=true:=Ana (by omega);have x:(a:Int)+20≤(d0.size:Int):=by omega
   have t:=s.o a (a+20) dk wr f S1 (by omega) y l.o.2;clear s h;go_wp2_with fail;refine t.mono ?_;rintro e2 w2 ⟨rfl,d2,c,n,S2⟩;have v:Hid (Ku key d0 d2 d0.size 20 (a+20)∧ ∀k,a+20≤k→d2[k]! =d0[k]!):=
    ⟨l.o.1.step c y (Hm.Good.of_agree c n (fun k h1 _=>l.o.2 k h1)),fun k hk=>by rw[c.o k (.inr hk)];exact l.o.2 k (by omega)⟩
   have r:d2.size=d0.size:=c.size.trans f;have SS:Aside (SW As w0 blk 0 d2 w2):=S2;clear t c n S2 l S1;go_wp2_with fail
   go_roundg (d0.size-(a+20))
   case measure=>omega
   case rel=>exact⟨a+20,d2,by go_num,by first|go_num|(congr 1;omega),by omega,r,SS,v⟩
  ·have hd:decide (((a+20:Nat):Int)≤(d0.size:Int))=false:=Anc (by omega);have x: ¬(a:Int)+20≤(d0.size:Int):=by omega
   have t:=s.o a d0.size dk wr f S1 (by omega) (Ane _) l.o.2;clear s;go_wp2_with fail;refine t.mono ?_;rintro e2 w2 ⟨rfl,d2,c,n,S2⟩;have v:Hid (Dp key d0 d2 d0.size 20 0):=
    l.o.1 d2 (fun k hk=>c.o k (.inl hk)) (.last a (by omega) (by omega) (Hm.Good.of_agree c n (fun k h1 _=>l.o.2 k h1)))
   have r:d2.size=d0.size:=c.size.trans f;have SS:Aside (SW As w0 blk 0 d2 w2):=S2;clear t c n S2 l S1 G f y hd x;go_wp2_with fail
   go_loopg [6] d0.size (fun g1 vs wr=> ∃(bs:Nat) (dk:Array UInt8),vs= .int .i64 bs∧0<bs∧bs≤1024∧d0.size-bs≤g1∧dk.size=d0.size∧Aside (SW As w0 blk 0 dk wr)∧Hid (Dp key d0 dk d0.size bs 0))
   case atStart=>exact⟨20,d2,rfl,by omega,by omega,by omega,r,SS,v⟩
   case round=>
    clear SS v r d2;obtain⟨bs,dk,rfl,I,T,G,f,S1,l⟩:=hrel
    by_cases y:bs<d0.size
    ·have hd:decide ((bs:Int)<(d0.size:Int))=true:=Ana (by omega);have x:(bs:Int)<(d0.size:Int):=by omega
     go_wp2_with fail
     go_loopg [7,8] d0.size (fun g2 va vb wr2=> ∃(a:Nat) (de:Array UInt8),va= .int .i64 a∧vb= .int .i64 ((a+2*bs:Nat):Int)∧a+g2=d0.size∧de.size=d0.size∧Aside (SW As w0 blk 0 de wr2)∧Hid (Ku key d0 de d0.size (2*bs) a∧Dp key d0 de d0.size bs a))
     case atStart=>exact⟨0,dk,rfl,by first|rfl|go_num|(congr 1;omega),by omega,f,S1,Ku.none _ _ _ _ _,l.o⟩
     case round=>
      clear S1 l f dk;obtain⟨a,dk,rfl,rfl,U,f,S1,l⟩:=hrel
      by_cases C:a+2*bs≤d0.size
      ·have J:decide (((a+2*bs:Nat):Int)≤(d0.size:Int))=true:=Ana (by omega);have E:(a:Int)+2*(bs:Int)≤(d0.size:Int):=by omega
       obtain⟨g1,g3,g4⟩:=l.o.2.two I C;have t:=h.o a (a+bs) (a+2*bs) dk wr f S1 (by omega) (by omega) C g1 g3;rw[show((a+bs:Nat):Int)=(a:Int)+(bs:Int)from by omega,show((a+2*bs:Nat):Int)=(a:Int)+2*(bs:Int)from by omega]at t;have z:Aside (Hm.Good key d0 dk a (a+bs)∧Hm.Good key d0 dk (a+bs) (a+2*bs)∧Dp key d0 dk d0.size bs (a+2*bs)):=⟨g1,g3,g4⟩;clear h g1 g3 g4;go_wp2_with fail;refine t.mono ?_;rintro e2 w2 ⟨rfl,d2,c,n,S2⟩;have v:Hid (Ku key d0 d2 d0.size (2*bs) (a+2*bs)∧Dp key d0 d2 d0.size bs (a+2*bs)):=
        ⟨l.o.1.step c C (z.o.1.merged z.o.2.1 (by omega) (by omega) c n),z.o.2.2.agree fun k h1 _=>c.o k (.inr h1)⟩
       have r:d2.size=d0.size:=c.size.trans f;have SS:Aside (SW As w0 blk 0 d2 w2):=S2;clear t c n S2 l S1 z;go_wp2_with fail
       go_roundg (d0.size-(a+2*bs))
       case measure=>omega
       case rel=>exact⟨a+2*bs,d2,by first|rfl|go_num|(congr 1;omega),by first|rfl|go_num|(congr 1;omega),by omega,r,SS,v⟩
      ·have J:decide (((a+2*bs:Nat):Int)≤(d0.size:Int))=false:=Anc (by omega);have E: ¬(a:Int)+2*(bs:Int)≤(d0.size:Int):=by omega
       by_cases V:a+bs<d0.size
       ·have K:decide ((a:Int)+(bs:Int)<(d0.size:Int))=true:=Ana (by omega);have F:(a:Int)+(bs:Int)<(d0.size:Int):=by omega
        obtain⟨g1,g3⟩:=l.o.2.rest V (by omega);have t:=h.o a (a+bs) d0.size dk wr f S1 (by omega) (by omega) (Ane _) g1 g3;rw[show((a+bs:Nat):Int)=(a:Int)+(bs:Int)from by omega]at t;have z:Aside (Hm.Good key d0 dk a (a+bs)∧Hm.Good key d0 dk (a+bs) d0.size):=⟨g1,g3⟩;clear h g1 g3;go_wp2_with fail;refine t.mono ?_;rintro e2 w2 ⟨rfl,d2,c,n,S2⟩;have v:Hid (Dp key d0 d2 d0.size (2*bs) 0):=
         l.o.1 d2 (fun k hk=>c.o k (.inl hk)) (.last a (by omega) (by omega) (z.o.1.merged z.o.2 (by omega) (by omega) c n))
        have r:d2.size=d0.size:=c.size.trans f;have SS:Aside (SW As w0 blk 0 d2 w2):=S2;clear t c n S2 l S1 z;go_wp2_with fail
        go_roundg (d0.size-2*bs)
        case measure=>omega
        case rel=>exact⟨2*bs,d2,by first|rfl|go_num|(congr 1;omega),by omega,by omega,by omega,r,SS,v⟩
       ·have K:decide ((a:Int)+(bs:Int)<(d0.size:Int))=false:=Anc (by omega);have F: ¬(a:Int)+(bs:Int)<(d0.size:Int):=by omega
        have v:Hid (Dp key d0 dk d0.size (2*bs) 0):=l.o.1.all (l.o.2.one (by omega) (by omega));clear h l;go_wp2_with fail
        go_roundg (d0.size-2*bs)
        case measure=>omega
        case rel=>exact⟨2*bs,dk,by first|rfl|go_num|(congr 1;omega),by omega,by omega,by omega,f,S1,v⟩
    ·have hd:decide ((bs:Int)<(d0.size:Int))=false:=Anc (by omega);have x: ¬(bs:Int)<(d0.size:Int):=by omega
     clear h;go_wp2
     go_end0
     exact⟨rfl,dk,f,l.o.whole (by omega),S1.o⟩
theorem Yp{cf:UInt8→UInt8→Int}{key:UInt8→Nat}{Rl:UInt8→UInt8→Prop}(O:Hm.Ord cf key Rl)(g:Nat)(cb:Array Value)(eg: ∀args w,(callFunc g args).run prog w= .ok (.enter g args) w)
  (blk cap:Nat) (d0:Array UInt8) (w:World) (a:CmpLays1 prog g cb As cf blk 0 d0.size w) (R:Row1 As w blk 0 d0) (c:d0.size≤256) (f: ∀i j,i<j→j<d0.size→Rl d0[i]! d0[j]!):
  Calls prog 201 #[.slice (some ⟨blk,0,none⟩) d0.size cap,.func (.func g) #[] cb] w fun e w'=>e= .returned (.tuple #[])∧ ∃d',d'.size=d0.size∧Hm.Good key d0 d' 0 d0.size∧SW As w blk 0 d' w':=by
 have b:=Ahj O g cb eg w blk cap d0 w a R c (SW.start R.hH) f;clear a R f
 go_enter func201,ntmps201
 go_wp2_with fail;refine b.mono ?_;rintro e w2 ⟨rfl,d',h1,h2,d⟩;have h:Aside (d'.size=d0.size∧Hm.Good key d0 d' 0 d0.size∧SW As w blk 0 d' w2):=⟨h1,h2,d⟩;clear h1 h2 d b;go_wp2
 go_end0
 exact⟨rfl,d',h.o⟩
end Go.Proofs.YtegnkfdbmmndaaaGreat
namespace Go.Proofs.YtegnkfdbmmndaaaGreat
open Hm Go.Proofs.Tryz Go.RowKit Go.Sort Go.Shelf
theorem Ahk(lb:Nat)(L:Ard)(x y:UInt8)(w:World)(f:L.length=256)(h:w.heap[lb]?=some (.cells (Ad L).toArray 139 (0,0))):
  Calls prog 202 #[.int .u8 (x.toNat:Nat),.int .u8 (y.toNat:Nat),.pointer (some ⟨lb,0,none⟩)] w fun e w'=>e= .returned (.int .i64 (Acl L x y))∧ ∃q,w'=w.drewN q:=by
 have a: ∀b:UInt8,w.cell? ⟨lb,b.toNat,none⟩=some (.int .i64 (Hm.lnB L b:Nat)):=fun b=>by
  rw[Am7 _ _ _ _ _ _ h];have hb:=b.toNat_lt;simp[Ad,Hm.lnB,List.getD_eq_getElem?_getD,List.getElem?_eq_getElem (show b.toNat<L.length from by omega)]
 have c1:=a x;have c2:=a y;have c:=fun W=>Tryz.cmp_Compare_int (Hm.lnB L x:Nat) (Hm.lnB L y:Nat) W;have d:Hid (Acl L x y=Lib.compareInt (Hm.lnB L x:Nat) (Hm.lnB L y:Nat)):=rfl;rw[d.o];generalize Lib.compareInt (Hm.lnB L x:Nat) (Hm.lnB L y:Nat)=r at*;generalize Hm.lnB L x=lx at*;generalize Hm.lnB L y=ly at*;have h1:=x.toNat_lt;have h2:=y.toNat_lt;generalize x.toNat=xn at*;generalize y.toNat=yn at*;have g:(xn:Int)<256:=by omega
 have i:(yn:Int)<256:=by omega
 clear a h f d
 go_enter func202,ntmps202
 go_wp2_with fail;go_quiet(first|(refine Aol (c _)));go_wp2;go_ret;exact⟨rfl,_,rfl⟩
theorem Yq(v f:Value)(w:World):Calls prog 223 #[v,.int .i64 0,.int .i64 0,f] w fun e w'=>e= .returned (.tuple #[])∧w=w':=by
 go_enter func223,ntmps223
 go_wp2;refine wp_loop_rounds 1 ?_;rw[rounds_succ];go_wp2
 go_end0
 exact⟨rfl,rfl⟩
theorem Aex(v f:Value)(w:World):Calls prog 218 #[v,.int .i64 0,f] w fun e w'=>e= .returned (.tuple #[])∧w=w':=by
 have a:=Yq v f w
 go_enter func218,ntmps218
 go_wp2;refine wp_loop_rounds 1 ?_;rw[rounds_succ]
 go_wp2_with(go_at_call 223;refine a.mono ?_;rintro e w2 ⟨rfl,rfl⟩)
 refine wp_loop_rounds 1 ?_;rw[rounds_succ];go_wp2
 go_end0
 exact⟨rfl,rfl⟩
theorem Wz(a:Arf)(c:Nat)(f:Value)(w:World):Calls prog 201 #[.slice a 0 c,f] w fun e w'=>e= .returned (.tuple #[])∧w=w':=by
 have b:=Aex (.slice a 0 c) f w
 go_enter func201,ntmps201
 go_wp2_with(go_at_call 218;refine b.mono ?_;rintro e w2 ⟨rfl,rfl⟩)
 go_end0
 exact⟨rfl,rfl⟩
theorem Aey{w:World}{base g n cap:Nat}{e:TypeId}{xs:Are}(h:w.ownsRow base e 1 (.slice (some ⟨g,0,none⟩) n cap) n xs)(m:Nat)(d:Array UInt8)(os:Array Obj)(hd:d.size=n):
  (sortWorld As w g 0 m d os).ownsRow base e 1 (.slice (some ⟨g,0,none⟩) n cap) n (Ah d.toList):=by
 rcases h.2 with⟨h1,_⟩|⟨g2,cap2,cur,h1,h2,a,c,f,b,k⟩
 ·cases h1
 ·cases h1;refine⟨by simp[Ah,hd],.inr ⟨g,cap,putCells As 0 d cur,rfl,h2,?_,c,f,by rw[←b];simp[putCells],?_⟩⟩
  ·show((putRow As (Sort.ahead w m) g 0 d).heap++os)[g]?=_;rw[Array.getElem?_append_left (by rw[size_putRow];exact Anu a)];show(w.heap.modify g _)[g]?=_;rw[Array.getElem?_modify,if_pos rfl,a];rfl
  ·apply Aon
   ·simp[Ah,putCells,hd,b];omega
   ·intro i l j;have hi:i<d.size:=by simpa[Ah]using j
    simp[putCells,Ah,hi,As]
theorem Ak2(L:Ard)(b:L.length=256)(lb g n:Nat)(w:World)(h:w.heap[lb]?=some (.cells (Ad L).toArray 139 (0,0)))(a:lb≠g):
  CmpLays1 prog 202 #[.pointer (some ⟨lb,0,none⟩)] As (Acl L) g 0 n w:=fun m os dk _ x y=>by
 have hb:(sortWorld As w g 0 m dk os).heap[lb]?=some (.cells (Ad L).toArray 139 (0,0)):=by
  rw[J4 As w g 0 m dk os lb (Anu h) a];exact h
 refine(Ahk lb L x y _ b hb).mono ?_;rintro e w' ⟨c,q,rfl⟩;exact⟨c,q,#[],by rw[grow_empty]⟩
theorem Th(L:Ard)(w:World)(K:L.length=256)(R: ∀x∈L,x≤255):
  Calls prog 181 #[.agg (Ad L).toArray] w fun e w'=> ∃v,e= .returned v∧w'.ownsRow w.heap.size 5 1 v (Ae L).length (Ah (Ae L))∧Ara w w':=by
 have C:(Ad L).toArray.size=256:=by rw[Bm,K]
 have z: ∀b:UInt8,Hm.lnB L b≤255:=fun b=>by
  have hb:=b.toNat_lt;rw[Hm.lnB,Am4,Am5 (show b.toNat<L.length from by omega)];exact R _ (Anm _)
 have s:=Sy L (w.alloc (.cells (Ad L).toArray 139)) K (fun x h=>by have:=R x h;omega);have c:(w.alloc (.cells (Ad L).toArray 139)).heap[w.heap.size]?=some (.cells (Ad L).toArray 139 (0,0)):=Anj w _;have p:=fun g n W h N=>Ak2 L K w.heap.size g n W h N;have q:Aside _:=p;have I:=Is L z;have D:=Fw L 256
 change (Ai L).length≤256 at D
 have B:Aside _:=z;clear p z;generalize hA:(Ad L).toArray=arr at*
 go_enter func181,ntmps181
 go_wp2_with(first
  |(refine Aoh rfl 139 _ rfl w.heap.size rfl 139 arr (0,0) _ c underlying139 rfl (by rw[C];exact Cf) ?_))
 refine s.mono ?_;rintro e w2 ⟨v,rfl,H,hk⟩;have r:=hk.row c id;have l:Ara w w2:=((Aa.refl (fun _=>False) w).alloc _).trans hk (fun _ _ h=>h);have a:=Gj (base':=w.heap.size) H (fun k hk=>by have:=H.lt k hk;simp at this;omega);have u: ∀k,v.ownBlock=some k→w.heap.size<k:=fun k hk=>by have:=H.lt k hk;simp at this;omega
 by_cases P:(Ai L).length=0
 ·obtain⟨ao,cp,J,_⟩:=Aq a;rw[P]at J;subst J;have O:=fun f W=>Wz ao cp f W;have A:Aside (w2.ownsRow w.heap.size 5 1 (.slice ao 0 cp) (Ae L).length (Ah (Ae L))∧Ara w w2):=by
   have e1:Ai L=[]:=Aob P;have e2:Ae L=[]:=Aob (by omega);rw[e1]at a;rw[e2];exact⟨a,l⟩
  clear s c H hk r l a u q B I D;go_wp2_with fail;refine(O _ _).mono ?_;rintro e w3 ⟨rfl,rfl⟩;go_wp2;go_ret;exact⟨_,rfl,A.o⟩
 ·obtain⟨g,cap,J,V,M⟩:=Ck a (by omega);subst J;have T:=u g rfl;have E:(Ai L).toArray.size=(Ai L).length:=by simp
  have Q:Row1 As w2 g 0 (Ai L).toArray:=⟨Ak1,fun j U=>by
   have d:j<(Ai L).length:=by simpa using U
   refine⟨?_,by rw[An3];exact a.frozenAt _⟩;rw[An3,a.cellAt j (by omega)];simp[Ah,As,d],M⟩
  have y:=Yp (Am3 L) 202 #[.pointer (some ⟨w.heap.size,0,none⟩)] (fun args W=>by kernel_rfl) g cap (Ai L).toArray w2 (q.o g _ w2 r (by omega)) Q (by omega) (fun i j h1 h2=>by
   have d:j<(Ai L).length:=by simpa using h2
   have G:i<(Ai L).length:=by omega
   have:=List.pairwise_iff_getElem.1 (M1 L) i j G d h1;intro _;simpa[G,d]using this)
  rw[E]at y;have A:Aside (w2.ownsRow w.heap.size 5 1 (.slice (some ⟨g,0,none⟩) (Ai L).length cap) (Ai L).length (Ah (Ai L))∧Ara w w2):=⟨a,l⟩;clear s c H hk r l a u q Q E;go_wp2_with fail;refine y.mono ?_;rintro e w3 ⟨rfl,d',t,F,m,os,rfl⟩;have S:Aside ((sortWorld As w2 g 0 m d' os).ownsRow w.heap.size 5 1 (.slice (some ⟨g,0,none⟩) (Ai L).length cap) (Ae L).length (Ah (Ae L))∧Ara w (sortWorld As w2 g 0 m d' os)):=by
   have e1:=F.order B.o t;have h1:=Aey A.o.1 m d' os t;rw[e1]at h1;rw[I];exact⟨h1,A.o.2.trans (Mk As w2 g 0 m d' os) (fun j h1 h2=>by omega)⟩
  clear y F t A;generalize sortWorld As w2 g 0 m d' os=w4 at*;go_wp2;go_ret;exact⟨_,rfl,S.o⟩
end Go.Proofs.YtegnkfdbmmndaaaGreat
namespace Go.Proofs.YtegnkfdbmmndaaaGreat
open Hm Go.Proofs.Tryz Go.RowKit
theorem R4:Tryz.zeroCells92.size=512:=by kernel_rfl
def O3(n:Nat):Are:=(List.replicate n ()).flatMap fun _=>[.int .u64 0,.int .i64 0]
theorem Ak3:Tryz.zeroCells92=(O3 256).toArray:=by kernel_rfl
theorem O4:(prog.info? 92).map (·.size)=some 512:=by kernel_rfl
end Go.Proofs.YtegnkfdbmmndaaaGreat
