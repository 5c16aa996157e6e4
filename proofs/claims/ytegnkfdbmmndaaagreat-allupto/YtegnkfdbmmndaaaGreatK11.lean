import Derived.Test.YtegnkfdbmmndaaaGreatK10

set_option maxHeartbeats 8000000
set_option maxRecDepth 100000
namespace Go.Proofs.YtegnkfdbmmndaaaGreat
open Hm Go.Proofs.Tryz
variable{cf:UInt8->UInt8->Int}{key:UInt8->Nat}{Rl:UInt8->UInt8->Prop}{w:World}{T:List (Nat×Nat)}
section
open Go.RowKit Go.Sort Go.Shelf
def Bd(x:UInt8):Value:= .int .u8 x.toNat
theorem wG:OneCell Bd:=fun _=>rfl
theorem gC(w0:World)(blk j a b n:Nat)(d0 d:Array UInt8)(f:Value)(w:World)(R:Row1 Bd w0 blk 0 d0)(hs:d0.size=d.size)(S:SW Bd w0 blk 0 d w)(B:a+n<=b)(hb:b+n<=d.size)(E:d.size<=256):
  Calls prog 227 #[.slice (some ⟨blk,0,none⟩) d.size j,.int .i64 a,.int .i64 b,.int .i64 n,f] w fun e w'=>e= .returned (.tuple #[])/\ ∃d',Swr d d' a b n/\SW Bd w0 blk 0 d' w':=by
 have p:=aZ S;clear S
 go_enter func227,ntmps227
 go_wp2
 go_loopg [10] n (fun z vi wr=> ∃(k:Nat) (c:Array UInt8),vi= .int .i64 k/\k+z=n/\c.size=d.size/\Aside (SW Bd w0 blk 0 c wr)/\Hid (Swr d c a b k))
 case atStart=>exact⟨0,d,rfl,by omega,rfl,p,Swr.zero d a b⟩
 case round=>
  clear p;obtain⟨k,c,rfl,hk,l,g,i⟩:=hrel
  by_cases D:k<n
  ·have h:(k:Int)<(n:Int):=by omega
   have v:Aside (SW Bd w0 blk 0 (swp c (a+k) (b+k)) ((wr.setCell ⟨blk,a+k,none⟩ (.int .u8 (c[b+k]!.toNat:Nat))).setCell ⟨blk,b+k,none⟩ (.int .u8 (c[a+k]!.toNat:Nat))).drew):=by
    have:=g.o.swapped R (a+k) (b+k) (by omega) (by omega);rw[Aao,Aao]at this;exact this
   have q:=g.o.c1 R (by omega) (a+k) (by omega);have r:=g.o.c1 R (by omega) (b+k) (by omega);have f1:=g.o.f1 R (by omega) (a+k) (by omega);have f2:=g.o.f1 R (by omega) (b+k) (by omega);obtain⟨u,s⟩:=g.o.c2 R (by omega) (a+k) (b+k) (by omega) (by omega) (Bd c[b+k]!);rw[Aao]at q r f1 f2;rw[Aao,Aao]at s;have t:Hid (Swr d (swp c (a+k) (b+k)) a b (k+1)):=i.o.step (by omega) (by omega);have m:(swp c (a+k) (b+k)).size=d.size:=by rw[size_swp];exact l
   clear g i;unfold Bd at q r s;generalize F:c[a+k]!.toNat=x at*;generalize G:c[b+k]!.toNat=y at*;generalize swp c (a+k) (b+k)=e at*;have A:(a:Int)+(k:Int)<(d.size:Int):=by omega
   have C:(b:Int)+(k:Int)<(d.size:Int):=by omega
   clear F G;go_wp2
   go_region
   go_wp2
   go_roundg (gk-1)
   case measure=>omega
   case rel=>exact⟨k+1,e,by go_num,by omega,m,v,t⟩
  ·have h: ¬(k:Int)<(n:Int):=by omega
   obtain rfl:k=n:=by omega
   go_wp2
   go_end0
   exact⟨rfl,c,i.o,g.o⟩
theorem qE(w0:World)(blk s a m b:Nat)(d0 d:Array UInt8)(f:Value)(w:World)(R:Row1 Bd w0 blk 0 d0)(hs:d0.size=d.size)(S:SW Bd w0 blk 0 d w)(N:a<m)(P:m<b)(hb:b<=d.size)(Q:d.size<=256):
  Calls prog 226 #[.slice (some ⟨blk,0,none⟩) d.size s,.int .i64 a,.int .i64 m,.int .i64 b,f] w fun e w'=>e= .returned (.tuple #[])/\ ∃d',Rot d d' a m b/\SW Bd w0 blk 0 d' w':=by
 have K:=aZ S;clear S;have g: ∀(c:Array UInt8) (p q n:Nat) (W:World),c.size=d.size->Aside (SW Bd w0 blk 0 c W)->p+n<=q->q+n<=d.size->Calls prog 227 #[.slice (some ⟨blk,0,none⟩) d.size s,.int .i64 p,.int .i64 q,.int .i64 n,f] W fun e w'=>e= .returned (.tuple #[])/\ ∃d',Swr c d' p q n/\SW Bd w0 blk 0 d' w':=fun c p q n W h1 h2 M U=>by
  rw[<-h1];exact gC w0 blk s p q n d0 c f W R (by omega) h2.o M (by omega) (by omega)
 go_enter func226,ntmps226
 go_wp2
 go_loopg [10,11] (b-a) (fun L vi T wr=> ∃(i j:Nat) (c:Array UInt8),vi= .int .i64 i/\T= .int .i64 j/\0<i/\0<j/\i+j=L/\i<=m-a/\j<=b-m/\c.size=d.size/\Aside (SW Bd w0 blk 0 c wr)/\Hid (∀e,Rot c e (m-i) m (m+j)->Rot d e a m b))
 case atStart=>
  refine⟨m-a,b-m,d,by go_num,by go_num,by omega,by omega,by omega,zK _,zK _,rfl,K,?_⟩;intro e x;rw[show m-(m-a)=a from by omega,show m+(b-m)=b from by omega]at x;exact x
 case round=>
  clear K;obtain⟨i,j,c,rfl,rfl,C,E,O,D,F,k,v,u⟩:=hrel;have H:((m-i:Nat):Int)=(m:Int)-(i:Int):=by omega
  by_cases G:i=j
  ·subst G;have h:=g c (m-i) m i wr k v (by omega) (by omega);rw[H]at h;have A:((i:Int) !=(i:Int))=false:=by simp
   clear g;go_wp2_with fail;refine h.mono ?_;rintro e w' ⟨rfl,d',l,r⟩;have y:Hid (Rot d d' a m b):=u.o d' (Rot.of_swr l (by omega));have z:=aZ r;clear r l h v u;go_wp2
   go_end0
   exact⟨rfl,d',y.o,z.o⟩
  ·have A:((i:Int) !=(j:Int))=true:=by simp;omega
   by_cases B:j<i
   ·have hd:decide ((i:Int)>(j:Int))=true:=by simp;omega
    have h:=g c (m-i) m j wr k v (by omega) (by omega);rw[H]at h;clear g;go_wp2_with fail;refine h.mono ?_;rintro e w' ⟨rfl,d',l,r⟩;have y:Hid (∀e,Rot d' e (m-(i-j)) m (m+j)->Rot d e a m b):=fun e x=>u.o e (Rot.by_left l B (by omega) x);have t:=l.size.trans k;have z:=aZ r;clear r l h v u;go_wp2
    go_roundg (i-j+j)
    case measure=>omega
    case rel=>exact⟨i-j,j,d',by go_num,rfl,by omega,E,rfl,by omega,F,t,z,y⟩
   ·have hd:decide ((i:Int)>(j:Int))=false:=by simp;omega
    have h:=g c (m-i) (m+j-i) i wr k v (by omega) (by omega);rw[H,show((m+j-i:Nat):Int)=(m:Int)+(j:Int)-(i:Int)from by omega]at h;clear g;go_wp2_with fail;refine h.mono ?_;rintro e w' ⟨rfl,d',l,r⟩;have y:Hid (∀e,Rot d' e (m-i) m (m+(j-i))->Rot d e a m b):=fun e x=>u.o e (Rot.by_right l (by omega) (by omega) x);have t:=l.size.trans k;have z:=aZ r;clear r l h v u;go_wp2
    go_roundg (i+(j-i))
    case measure=>omega
    case rel=>exact⟨i,j-i,d',rfl,by go_num,C,by omega,rfl,D,by omega,t,z,y⟩
end
section
open Go.RowKit Go.Sort Go.Shelf Go.Lib
theorem Ri:prog.follows .mixedOrders=true:=by kernel_rfl
theorem gD(O:Hm.Ord cf key Rl)(g:Nat)(cb:Array Value)(eg: ∀D w,(callFunc g D).run prog w= .ok (.enter g D) w)
  (w0:World) (blk ab a b:Nat) (d0 d:Array UInt8) (w:World) (E:CmpLays1 prog g cb Bd cf blk 0 d0.size w0) (R:Row1 Bd w0 blk 0 d0) (hs:d0.size=d.size) (S:SW Bd w0 blk 0 d w) (a3:a<=b) (hb:b<=d.size) (aA:d.size<=256)
  (hp: ∀p q,a<=p->p<q->q<b->Rl d[p]! d[q]!):
  Calls prog 223 #[.slice (some ⟨blk,0,none⟩) d.size ab,.int .i64 a,.int .i64 b,.func (.func g) #[] cb] w fun e w'=>e= .returned (.tuple #[])/\ ∃d',Dy d d' a b/\Srt key d' a b/\SW Bd w0 blk 0 d' w':=by
 have an:=Ri;have HC:Aside _:=E;have HP:Aside _:=hp;have S0:=aZ S;clear S E hp
 go_enter func223,ntmps223
 go_wp2
 go_loopg [8] (b-a) (fun g1 vi wr=> ∃(i:Nat) (s:Array UInt8),vi=I i/\a<i/\i<=b+1/\b+1-i<=g1+1/\s.size=d.size/\Aside (SW Bd w0 blk 0 s wr)/\Hid (Dy d s a i/\Srt key s a i/\(i<=b\/(b=a/\s=d))))
 case atStart=>exact⟨a+1,d,by go_num,by omega,by omega,by omega,rfl,S0,Dy.refl _ _ _,Srt.one _ _ _ _ (by omega),(Abf a b).elim (fun h=> .inl h) (fun h=> .inr ⟨by omega,rfl⟩)⟩
 case round=>
  clear S0;obtain⟨i,s,rfl,a4,a8,a6,ah,Z,C⟩:=hrel
  by_cases ag:i<b
  ·have V:(i:Int)<(b:Int):=by omega
   go_wp2
   go_loopg [9] i (fun g2 vj ao=> ∃(j:Nat) (c:Array UInt8),vj=I j/\a<=j/\j<=i/\j<=g2/\c.size=d.size/\Aside (SW Bd w0 blk 0 c ao)/\Hid (Ins key s c a i j))
   case atStart=>exact⟨i,s,rfl,by omega,zK _,zK _,ah,Z,Ins.start key s a i (by omega)⟩
   case round=>
    clear Z;obtain⟨j,c,rfl,a5,a9,a7,K,r,P⟩:=hrel;have out:(j=a\/(a<j/\key c[j-1]!<key c[j]!))->Hid (Dy d c a (i+1)/\Srt key c a (i+1)/\(i+1<=b\/(b=a/\c=d))):=fun hk=>by
     obtain⟨e1,e2⟩:=P.o.done C.o.2.1 hk;exact⟨(C.o.1.wider (zK _) (by omega)).trans e1,e2,by omega⟩
    have F:Aside _:=out;clear out
    by_cases ae:a<j
    ·have U:(a:Int)<(j:Int):=by omega
     obtain⟨jp,af⟩: ∃q,q+1=j:=⟨j-1,by omega⟩;have aJ:(j:Int)=(jp:Int)+1:=by omega
     have au:decide ((jp:Int)+1>(a:Int))=true:=zJ (by omega);have H:(a:Int)<(jp:Int)+1:=by omega
     have rel:Rl c[j-1]! c[j]!:=by
      have e1:c[j]! =d[i]!:=by
       rw[P.o.rot.lo j (zK _) (by omega),show j+(i-j)=i from by omega];exact C.o.1.o i (by omega)
      have e2:c[j-1]! =s[j-1]!:=P.o.rot.o _ (by omega);obtain⟨q,q1,q2,q3⟩:=(C.o.1.mem _).1 ⟨j-1,by omega,by omega,rfl⟩;rw[e1,e2,<-q3];exact HP.o q i q1 q2 ag
     have m:=O.lt _ _ rel;have v:=O.ne _ _ rel
     by_cases l:cf c[j]! c[j-1]!<0
     ·have W:=aZ (m.1 l);obtain⟨x,z⟩:=gx (c[j]!);obtain⟨y,t⟩: ∃x,x=c[j-1]!:=⟨_,rfl⟩;have A:=r.o.cl R (by omega) j (by omega);have B:=r.o.cl R (by omega) (j-1) (by omega);rw[Aao,<-z]at A;rw[Aao,<-t]at B;rw[<-z,<-t]at l;have G:=r.o.cmp HC.o (by omega) x y;have hd:=zJ l;obtain⟨iN,f⟩: ∃q,q=j:=⟨_,rfl⟩;obtain⟨jN,k⟩: ∃q,q=j-1:=⟨_,rfl⟩;rw[<-f]at A;rw[<-k]at B;have X:((jp:Int)+1).toNat=iN:=by omega
      have pa:(0:Int)<=(jp:Int)+1:=by omega
      have ba:(jp:Int)+1<(d.size:Int):=by omega
      have ra:IntKind.i64.wrap ((jp:Int)+1)=(jp:Int)+1:=by rw[Aar];omega
      have Y:((jp:Int)).toNat=jN:=by omega
      have pc:(0:Int)<=(jp:Int):=by omega
      have bc:(jp:Int)<(d.size:Int):=by omega
      have rc:IntKind.i64.wrap ((jp:Int))=(jp:Int):=by rw[Aar];omega
      clear m v rel z t f k;unfold Bd at A B G;go_wp2_with fail
      go_quiet_grown (first|(go_at_fn g;refine Calls.grown_of (G _ _)))
      have n:=aZ (r.o.grown nq osq);clear A B G r;generalize grow (wr.drewN nq) osq=w2 at n|-;clear nq osq X Y hd l;go_wp2_with fail;have L:=n.o.c1 R (by omega) j (by omega);have M:=n.o.c1 R (by omega) (j-1) (by omega);have Q:=n.o.f1 R (by omega) j (by omega);have T:=n.o.f1 R (by omega) (j-1) (by omega);obtain⟨u,N⟩:=n.o.c2 R (by omega) j (j-1) (by omega) (by omega) (Bd c[j-1]!);have S3:Aside (SW Bd w0 blk 0 (swp c j (j-1)) ((w2.setCell (J blk j) (Bd c[j-1]!)).setCell (J blk (j-1)) (Bd c[j]!)).drew):=by
       have:=n.o.swapped R j (j-1) (by omega) (by omega);rw[Aao,Aao]at this;exact this
      have HN:Hid (Ins key s (swp c j (j-1)) a i (j-1)):=by
       have hI:=P.o;have hK:=W.o;subst af;rw[Acn]at hK|-;exact hI.step (by omega) (by omega) hK
      have ai:(swp c j (j-1)).size=d.size:=by rw[size_swp];exact K
      rw[Aao]at L M Q T;rw[Aao,Aao]at N;generalize swp c j (j-1)=dn at*;obtain⟨ak,f⟩: ∃q,q=j:=⟨_,rfl⟩;obtain⟨am,k⟩: ∃q,q=j-1:=⟨_,rfl⟩;obtain⟨x2,z⟩: ∃x,x=c[j]!:=⟨_,rfl⟩;obtain⟨y2,t⟩: ∃x,x=c[j-1]!:=⟨_,rfl⟩;rw[<-z,<-t,<-k,<-f]at S3;rw[<-z,<-f]at L;rw[<-t,<-k]at M;rw[<-t,<-k,<-f]at N;rw[<-f]at Q;rw[<-k]at T;have X:((jp:Int)+1).toNat=ak:=by omega
      have Y:((jp:Int)).toNat=am:=by omega
      unfold Bd at L M N;clear n P W F z t f k;have S4:=aZ S3;clear S3
      go_region
      go_wp2
      go_roundg (j-1)
      case measure=>omega
      case rel=>exact⟨j-1,dn,by first|rfl|go_num|(congr 1;omega),by omega,by omega,zK _,ai,S4,HN⟩
     ·have W:=aZ (Nat.lt_of_le_of_ne (Aec (mt m.2 l)) v);obtain⟨x,z⟩:=gx (c[j]!);obtain⟨y,t⟩: ∃x,x=c[j-1]!:=⟨_,rfl⟩;have A:=r.o.cl R (by omega) j (by omega);have B:=r.o.cl R (by omega) (j-1) (by omega);rw[Aao,<-z]at A;rw[Aao,<-t]at B;rw[<-z,<-t]at l;have G:=r.o.cmp HC.o (by omega) x y;have hd:=zM l;obtain⟨iN,f⟩: ∃q,q=j:=⟨_,rfl⟩;obtain⟨jN,k⟩: ∃q,q=j-1:=⟨_,rfl⟩;rw[<-f]at A;rw[<-k]at B;have X:((jp:Int)+1).toNat=iN:=by omega
      have pa:(0:Int)<=(jp:Int)+1:=by omega
      have ba:(jp:Int)+1<(d.size:Int):=by omega
      have ra:IntKind.i64.wrap ((jp:Int)+1)=(jp:Int)+1:=by rw[Aar];omega
      have Y:((jp:Int)).toNat=jN:=by omega
      have pc:(0:Int)<=(jp:Int):=by omega
      have bc:(jp:Int)<(d.size:Int):=by omega
      have rc:IntKind.i64.wrap ((jp:Int))=(jp:Int):=by rw[Aar];omega
      clear m v rel z t f k;unfold Bd at A B G;go_wp2_with fail
      go_quiet_grown (first|(go_at_fn g;refine Calls.grown_of (G _ _)))
      have n:=aZ (r.o.grown nq osq);clear A B G r;generalize grow (wr.drewN nq) osq=w2 at n|-;clear nq osq X Y;go_wp2
      go_roundg (b-(i+1))
      case measure=>omega
      case rel=>exact⟨i+1,c,by go_num,by omega,by omega,by omega,K,n,F.o (.inr ⟨ae,W.o⟩)⟩
    ·have U:decide ((j:Int)>(a:Int))=false:=zM (by omega);have H: ¬(a:Int)<(j:Int):=by omega
     go_wp2_with fail
     go_region
     have n:=aZ r.o.drew;clear r;go_wp2
     go_roundg (b-(i+1))
     case measure=>omega
     case rel=>exact⟨i+1,c,by go_num,by omega,by omega,by omega,K,n,F.o (.inl (by omega))⟩
  ·have V: ¬(i:Int)<(b:Int):=by omega
   go_wp2
   go_end0
   refine⟨rfl,s,?_,?_,Z.o⟩
   ·rcases C.o.2.2 with h|⟨h1,h2⟩
    ·obtain rfl:i=b:=by omega
     exact C.o.1
    ·rw[h2];exact Dy.refl _ _ _
   ·rcases C.o.2.2 with h|⟨h1,h2⟩
    ·obtain rfl:i=b:=by omega
     exact C.o.2.1
    ·exact Srt.one _ _ _ _ (by omega)
theorem gF(O:Hm.Ord cf key Rl)(g:Nat)(cb:Array Value)(eg: ∀s w,(callFunc g s).run prog w= .ok (.enter g s) w)
  (w0:World) (blk M a m b:Nat) (d0 d:Array UInt8) (w:World) (t:CmpLays1 prog g cb Bd cf blk 0 d0.size w0) (R:Row1 Bd w0 blk 0 d0) (hs:d0.size=d.size) (S:SW Bd w0 blk 0 d w) (l:m=a+1) (ao:m<b) (hb:b<=d.size) (ap:d.size<=256)
  (G:Srt key d m b) (E:LR Rl d a m b):
  Calls prog 224 #[.slice (some ⟨blk,0,none⟩) d.size M,.int .i64 a,.int .i64 m,.int .i64 b,.func (.func g) #[] cb] w fun e w'=>e= .returned (.tuple #[])/\ ∃d',Dy d d' a b/\Srt key d' a b/\SW Bd w0 blk 0 d' w':=by
 have W:=Ri;have HC:Aside _:=t;have HS:Aside _:=G;have Y:Aside _:=E;have S0:=aZ S;clear S t G E;have hz:(m:Int)-(a:Int)=1:=by omega
 have v:=hZ l;clear l
 go_enter func224,ntmps224
 go_wp2
 go_loopg [10,11] (b-m) (fun g1 vi vj wr=> ∃i j:Nat,vi=I i/\vj=I j/\i+g1=j/\j<=b/\m<=i/\Aside (SW Bd w0 blk 0 d wr)/\Hid (K5 key d m b (key d[a]!) i j))
 case atStart=>exact⟨m,b,rfl,rfl,by omega,zK _,zK _,S0,K5.start (by omega)⟩
 case round=>
  clear S0;obtain⟨i,j,rfl,rfl,am,Q,T,f,z⟩:=hrel
  by_cases an:i<j
  ·have F:=(dT i j).2;obtain⟨c,P⟩:=gx ((i+j)/2);have C:i<=c:=by omega
   have D:c<j:=by omega
   have zc:((i:Int)+(j:Int))/2=(c:Int):=by omega
   have rel:=Y.o a c (zK _) (by have:=v.o;omega) (by omega) (by omega);have h:=O.lt _ _ rel;have q:=O.ne _ _ rel;have H:=f.o.cl R hs.symm c (by omega);have K:=f.o.cl R hs.symm a (by have:=v.o;omega);rw[Aao]at H K;have p:=f.o.cmp HC.o hs.symm d[c]! d[a]!;have b1:(c:Int)<(d.size:Int):=by omega
   have b2:(a:Int)<(d.size:Int):=by have:=v.o;omega
   clear P
   by_cases r:cf d[c]! d[a]!<0
   ·have A:=hZ (z.o.up HS.o C D (h.1 r));have hd:=zJ r;clear h q rel z;generalize d[c]! =x at*;generalize d[a]! =y at*;unfold Bd at H K p;go_wp2_with fail
    go_quiet_grown (first|(go_at_fn g;refine Calls.grown_of (p _ _)))
    have B:=aZ (f.o.grown nq osq);clear H K p f;generalize grow (wr.drewN nq) osq=w2 at B|-;clear nq osq;go_wp2
    go_roundg (j-(c+1))
    case measure=>omega
    case rel=>exact⟨c+1,j,by go_num,rfl,by omega,Q,by omega,B,A⟩
   ·have A:=hZ (z.o.down HS.o C D (Nat.lt_of_le_of_ne (Aec (mt h.2 r)) q));have hd:=zM r;clear h q rel z;generalize d[c]! =x at*;generalize d[a]! =y at*;unfold Bd at H K p;go_wp2_with fail
    go_quiet_grown (first|(go_at_fn g;refine Calls.grown_of (p _ _)))
    have B:=aZ (f.o.grown nq osq);clear H K p f;generalize grow (wr.drewN nq) osq=w2 at B|-;clear nq osq;go_wp2
    go_roundg (c-i)
    case measure=>omega
    case rel=>exact⟨i,c,rfl,rfl,by omega,by omega,T,B,A⟩
  ·have F:=(dF i j).2;obtain rfl:i=j:=by omega
   go_wp2
   go_loopg [13] (i-1-a) (fun g2 vk X=> ∃(k:Nat) (n:Array UInt8),vk=I k/\k+g2=i-1/\a<=k/\n.size=d.size/\Aside (SW Bd w0 blk 0 n X)/\Hid (Rot d n a (a+1) (k+1)))
   case atStart=>exact⟨a,d,rfl,by have:=v.o;omega,zK _,rfl,f,Rot.id_right d a (a+1)⟩
   case round=>
    clear f;obtain⟨k,n,rfl,hk,N,U,f,L⟩:=hrel;have l:=v.o
    by_cases h:k<i-1
    ·have hd:decide ((k:Int)<(i:Int)-1)=true:=zJ (by omega);have S3:Aside (SW Bd w0 blk 0 (swp n k (k+1)) ((wr.setCell (J blk k) (.int .u8 (n[k+1]!.toNat:Nat))).setCell (J blk (k+1)) (.int .u8 (n[k]!.toNat:Nat))).drew):=by
      have:=f.o.swapped R k (k+1) (by omega) (by omega);rw[Aao,Aao]at this;exact this
     have c1:=f.o.c1 R (by omega) k (by omega);have c2:=f.o.c1 R (by omega) (k+1) (by omega);have f1:=f.o.f1 R (by omega) k (by omega);have f2:=f.o.f1 R (by omega) (k+1) (by omega);obtain⟨u,c3⟩:=f.o.c2 R (by omega) k (k+1) (by omega) (by omega) (Bd n[k+1]!);rw[Aao]at c1 c2 f1 f2;rw[Aao,Aao]at c3;have A:Hid (Rot d (swp n k (k+1)) a (a+1) (k+1+1)):=L.o.right_step (by omega) N;have V:(swp n k (k+1)).size=d.size:=by rw[size_swp];exact U
     clear f L v l;unfold Bd at c1 c2 c3;generalize hx:n[k]!.toNat=x at*;generalize hy:n[k+1]!.toNat=y at*;generalize swp n k (k+1)=e at*;have ak:(k:Int)<(d.size:Int):=by omega
     have al:(k:Int)+1<(d.size:Int):=by omega
     clear hx hy;go_wp2
     go_region
     go_wp2
     go_roundg (gk-1)
     case measure=>omega
     case rel=>exact⟨k+1,e,by go_num,by omega,by omega,V,S3,A⟩
    ·have hd:decide ((k:Int)<(i:Int)-1)=false:=zM (by omega);obtain rfl:i=k+1:=by omega
     have hm:=p7 (by have:=z.o;rw[l]at this;exact this) (by have:=HS.o;rw[l]at this;exact this) L.o;have Z:=hZ hm;clear hm l L z HS Y;go_wp2
     (try simp only[Exit.inBlock,Exit.then]);refine Aa8 (results_none rfl _ _ _) rfl ?_
     exact⟨rfl,n,Z.o.1,Z.o.2,f.o⟩
theorem cI(O:Hm.Ord cf key Rl)(g:Nat)(cb:Array Value)(eg: ∀s w,(callFunc g s).run prog w= .ok (.enter g s) w)
  (w0:World) (blk Q a m b:Nat) (d0 d:Array UInt8) (w:World) (t:CmpLays1 prog g cb Bd cf blk 0 d0.size w0) (R:Row1 Bd w0 blk 0 d0) (hs:d0.size=d.size) (S:SW Bd w0 blk 0 d w) (F:a+1<m) (G:b=m+1) (hb:b<=d.size) (au:d.size<=256)
  (K:Srt key d a m) (D:LR Rl d a m b):
  Calls prog 224 #[.slice (some ⟨blk,0,none⟩) d.size Q,.int .i64 a,.int .i64 m,.int .i64 b,.func (.func g) #[] cb] w fun e w'=>e= .returned (.tuple #[])/\ ∃d',Dy d d' a b/\Srt key d' a b/\SW Bd w0 blk 0 d' w':=by
 have Y:=Ri;have HC:Aside _:=t;have HS:Aside _:=K;have HL:Aside _:=D;have S0:=aZ S;clear S t K D;have ax:(((m:Int)-(a:Int))==1)=false:=by simp;omega
 have hz:(b:Int)-(m:Int)=1:=by omega
 have N:=hZ G;clear G;have H:m<d.size:=by have:=N.o;omega
 go_enter func224,ntmps224
 go_wp2
 go_loopg [14,15] (m-a) (fun g1 vi vj wr=> ∃i j:Nat,vi=I i/\vj=I j/\i+g1=j/\j<=m/\a<=i/\Aside (SW Bd w0 blk 0 d wr)/\Hid (K5 key d a m (key d[m]!) i j))
 case atStart=>exact⟨a,m,rfl,rfl,by omega,zK _,zK _,S0,K5.start (by omega)⟩
 case round=>
  clear S0;obtain⟨i,j,rfl,rfl,aq,U,V,f,v⟩:=hrel
  by_cases ar:i<j
  ·have E:=(dT i j).2;obtain⟨c,T⟩:=gx ((i+j)/2);have B:i<=c:=by omega
   have C:c<j:=by omega
   have zc:((i:Int)+(j:Int))/2=(c:Int):=by omega
   have rel:=HL.o c m (by omega) (by omega) (zK _) (by have:=N.o;omega);have h:=O.lt _ _ rel;have p:=O.ne _ _ rel;have L:=f.o.cl R hs.symm m H;have M:=f.o.cl R hs.symm c (by omega);rw[Aao]at L M;have n:=f.o.cmp HC.o hs.symm d[m]! d[c]!;have b1:(c:Int)<(d.size:Int):=by omega
   have b2:(m:Int)<(d.size:Int):=by omega
   clear T
   by_cases r:cf d[m]! d[c]!<0
   ·have z:=hZ (v.o.down HS.o B C (h.1 r));have hd:=zJ r;clear h p rel v;generalize d[c]! =x at*;generalize d[m]! =y at*;unfold Bd at L M n;go_wp2_with fail
    go_quiet_grown (first|(go_at_fn g;refine Calls.grown_of (n _ _)))
    have A:=aZ (f.o.grown nq osq);clear L M n f;generalize grow (wr.drewN nq) osq=w2 at A|-;clear nq osq;go_wp2
    go_roundg (c-i)
    case measure=>omega
    case rel=>exact⟨i,c,rfl,rfl,by omega,by omega,V,A,z⟩
   ·have z:=hZ (v.o.up HS.o B C (Nat.lt_of_le_of_ne (Aec (mt h.2 r)) p));have hd:=zM r;clear h p rel v;generalize d[c]! =x at*;generalize d[m]! =y at*;unfold Bd at L M n;go_wp2_with fail
    go_quiet_grown (first|(go_at_fn g;refine Calls.grown_of (n _ _)))
    have A:=aZ (f.o.grown nq osq);clear L M n f;generalize grow (wr.drewN nq) osq=w2 at A|-;clear nq osq;go_wp2
    go_roundg (j-(c+1))
    case measure=>omega
    case rel=>exact⟨c+1,j,by go_num,rfl,by omega,U,by omega,A,z⟩
  ·have E:=(dF i j).2;obtain rfl:i=j:=by omega
   go_wp2
   go_loopg [17] (m-i) (fun g2 vk Z=> ∃(k:Nat) (l:Array UInt8),vk=I k/\i+g2=k/\k<=m/\l.size=d.size/\Aside (SW Bd w0 blk 0 l Z)/\Hid (Rot d l k m (m+1)))
   case atStart=>exact⟨m,d,rfl,by omega,zK _,rfl,f,Rot.id_left d m (m+1) (by omega)⟩
   case round=>
    clear f;obtain⟨k,l,rfl,hk,an,W,f,P⟩:=hrel
    by_cases h:i<k
    ·obtain⟨q,rfl⟩: ∃q,k=q+1:=⟨k-1,by omega⟩;have hd:decide (((q+1:Nat):Int)>(i:Int))=true:=zJ (by omega);have S3:Aside (SW Bd w0 blk 0 (swp l (q+1) q) ((wr.setCell (J blk (q+1)) (.int .u8 (l[q]!.toNat:Nat))).setCell (J blk q) (.int .u8 (l[q+1]!.toNat:Nat))).drew):=by
      have:=f.o.swapped R (q+1) q (by omega) (by omega);rw[Aao,Aao]at this;exact this
     have c1:=f.o.c1 R (by omega) (q+1) (by omega);have c2:=f.o.c1 R (by omega) q (by omega);have f1:=f.o.f1 R (by omega) (q+1) (by omega);have f2:=f.o.f1 R (by omega) q (by omega);obtain⟨u,c3⟩:=f.o.c2 R (by omega) (q+1) q (by omega) (by omega) (Bd l[q]!);rw[Aao]at c1 c2 f1 f2;rw[Aao,Aao]at c3;have z:Hid (Rot d (swp l (q+1) q) q m (m+1)):=P.o.left_step H (by omega);have X:(swp l (q+1) q).size=d.size:=by rw[size_swp];exact W
     clear f P N;unfold Bd at c1 c2 c3;generalize hx:l[q+1]!.toNat=x at*;generalize hy:l[q]!.toNat=y at*;generalize swp l (q+1) q=e at*;have am:(q:Int)<(d.size:Int):=by omega
     have ao:(q:Int)+1<(d.size:Int):=by omega
     have ap:(i:Int)<(q:Int)+1:=by omega
     clear hx hy;go_wp2
     go_region
     go_wp2
     go_roundg (gk-1)
     case measure=>omega
     case rel=>exact⟨q,e,by go_num,by omega,by omega,X,S3,z⟩
    ·have hd:decide ((k:Int)>(i:Int))=false:=zM (by omega);obtain rfl:k=i:=by omega
     have hm:=Xr v.o HS.o P.o;have HX:Hid (Dy d l a b/\Srt key l a b):=by
      have F:=N.o;show _/\_;rw[F];exact hm
     clear hm P v HS HL;go_wp2
     (try simp only[Exit.inBlock,Exit.then]);refine Aa8 (results_none rfl _ _ _) rfl ?_
     exact⟨rfl,l,HX.o.1,HX.o.2,f.o⟩
theorem jV(O:Hm.Ord cf key Rl)(g:Nat)(cb:Array Value)(eg: ∀G w,(callFunc g G).run prog w= .ok (.enter g G) w)
  (w0:World) (blk P a m b:Nat) (d0 d:Array UInt8) (w:World) (K:CmpLays1 prog g cb Bd cf blk 0 d0.size w0) (R:Row1 Bd w0 blk 0 d0) (hs:d0.size=d.size) (S:SW Bd w0 blk 0 d w) (aM:a+1<m) (aN:m+1<b) (hb:b<=d.size) (a6:d.size<=256)
  (aj:Srt key d a m) (ak:Srt key d m b) (af:LR Rl d a m b)
  (IH: ∀(N X b':Nat) (d':Array UInt8) (w':World),b'-N<b-a->d'.size=d.size->Aside (SW Bd w0 blk 0 d' w')->N<X->X<b'->b'<=d.size->Srt key d' N X->Srt key d' X b'->LR Rl d' N X b'->
   Calls prog 224 #[.slice (some ⟨blk,0,none⟩) d.size P,.int .i64 N,.int .i64 X,.int .i64 b',.func (.func g) #[] cb] w' fun e a8=>e= .returned (.tuple #[])/\ ∃e',Dy d' e' N b'/\Srt key e' N b'/\SW Bd w0 blk 0 e' a8):
  Calls prog 224 #[.slice (some ⟨blk,0,none⟩) d.size P,.int .i64 a,.int .i64 m,.int .i64 b,.func (.func g) #[] cb] w fun e w'=>e= .returned (.tuple #[])/\ ∃d',Dy d d' a b/\Srt key d' a b/\SW Bd w0 blk 0 d' w':=by
 have a7:=Ri;have HC:Aside _:=K;have Y:Aside _:=aj;have Z:Aside _:=ak;have HL:Aside _:=af;have V:Aside _:=IH;have S0:=aZ S;clear S K aj ak af IH;have aO:(((m:Int)-(a:Int))==1)=false:=by simp;omega
 have aP:(((b:Int)-(m:Int))==1)=false:=by simp;omega
 obtain⟨mid,ah⟩: ∃c,c=(a+b)/2:=⟨_,rfl⟩;have aG:((a:Int)+(b:Int))/2=(mid:Int):=by omega
 have aC:a<mid:=by omega
 have aD:mid<b:=by omega
 have aE:2*mid<=a+b:=by omega
 have aF:a+b<=2*mid+1:=by omega
 clear ah;obtain⟨p,hp⟩: ∃p,p+1=mid+m:=⟨mid+m-1,by omega⟩;have zp:(mid:Int)+(m:Int)-1=(p:Int):=by omega
 go_enter func224,ntmps224
 go_upto_if 140 with fail
 go_cut[20,21]from 25 (fun vs vr wx=> ∃s0 r0:Nat,vs=I s0/\vr=I r0/\w=wx/\a<=s0/\s0<=r0/\r0<=m/\r0<=mid/\mid+m<=b+s0/\Hid ((s0=a\/s0+b=mid+m)/\(r0=m\/r0=mid)))
 case first=>as_aux_lemma=>
  by_cases c:mid<m
  ·have hd:decide ((m:Int)>(mid:Int))=true:=zJ (by omega);have az:(mid:Int)<(m:Int):=by omega
   go_wp2_with fail;go_meet
   case rel=>exact⟨mid+m-b,mid,by first|go_num|(congr 1;omega),rfl,rfl,by omega,by omega,by omega,by omega,by omega,.inr (by omega),.inr rfl⟩
  ·have hd:decide ((m:Int)>(mid:Int))=false:=zM (by omega);have az: ¬(mid:Int)<(m:Int):=by omega
   go_wp2_with fail;go_meet
   case rel=>exact⟨a,m,rfl,rfl,rfl,by omega,by omega,by omega,by omega,by omega,.inl rfl,.inl rfl⟩
 case rest=>as_aux_lemma=>
  obtain⟨s0,r0,rfl,rfl,rfl,Q,i,T,a2,a4,HZ⟩:=hcut;go_wp2_with fail
  go_loopg [20,21] (r0-s0) (fun g1 vi vj wr=> ∃s r:Nat,vi=I s/\vj=I r/\s+g1=r/\r<=r0/\s0<=s/\Aside (SW Bd w0 blk 0 d wr)/\Hid (Nh key d p s0 r0 s r))
  case atStart=>exact⟨s0,r0,rfl,rfl,by omega,zK _,zK _,S0,Nh.start i⟩
  case round=>as_aux_lemma=>
   clear S0;obtain⟨s,r,rfl,rfl,aK,a3,a5,h,W⟩:=hrel
   by_cases aL:s<r
   ·have ag:=(dT s r).2;obtain⟨c,ay⟩:=gx ((s+r)/2);have ad:s<=c:=by omega
    have ae:c<r:=by omega
    have zc:((s:Int)+(r:Int))/2=(c:Int):=by omega
    obtain⟨q,hq⟩:=gx (p-c);have zq:IntKind.i64.wrap ((p:Int)-(c:Int))=(q:Int):=by rw[Aar];omega
    have rel:=HL.o c q (by omega) (by omega) (by omega) (by omega);have k:=O.lt _ _ rel;have B:=O.ne _ _ rel;have l1:=h.o.cl R hs.symm q (by omega);have l2:=h.o.cl R hs.symm c (by omega);rw[Aao]at l1 l2;have l:=h.o.cmp HC.o hs.symm d[q]! d[c]!;have b1:(c:Int)<(d.size:Int):=by omega
    have b2:(q:Int)<(d.size:Int):=by omega
    clear ay
    by_cases F:cf d[q]! d[c]!<0
    ·have f:Hid (Nh key d p s0 r0 s c):=W.o.down Y.o Z.o Q T (by omega) (by omega) ad ae (by rw[<-hq];exact k.1 F);have hd:=zJ F;clear k B rel W hq;generalize d[c]! =x at*;generalize d[q]! =y at*;unfold Bd at l1 l2 l;go_wp2_with fail
     go_quiet_grown (first|(go_at_fn g;refine Calls.grown_of (l _ _)))
     have j:=aZ (h.o.grown nq osq);clear l1 l2 l h;generalize grow (wr.drewN nq) osq=w2 at j|-;clear nq osq;go_wp2
     go_roundg (c-s)
     case measure=>omega
     case rel=>exact⟨s,c,rfl,rfl,by omega,by omega,a5,j,f⟩
    ·have f:Hid (Nh key d p s0 r0 (c+1) r):=W.o.up Y.o Z.o Q T (by omega) (by omega) ad ae (by rw[<-hq];exact Nat.lt_of_le_of_ne (Aec (mt k.2 F)) B);have hd:=zM F;clear k B rel W hq;generalize d[c]! =x at*;generalize d[q]! =y at*;unfold Bd at l1 l2 l;go_wp2_with fail
     go_quiet_grown (first|(go_at_fn g;refine Calls.grown_of (l _ _)))
     have j:=aZ (h.o.grown nq osq);clear l1 l2 l h;generalize grow (wr.drewN nq) osq=w2 at j|-;clear nq osq;go_wp2
     go_roundg (r-(c+1))
     case measure=>omega
     case rel=>exact⟨c+1,r,by go_num,rfl,by omega,a3,by omega,j,f⟩
   ·have ag:=(dF s r).2;obtain rfl:s=r:=by omega
    obtain⟨e,he⟩: ∃e,e+s=mid+m:=⟨mid+m-s,by omega⟩;have ze:(mid:Int)+(m:Int)-(s:Int)=(e:Int):=by omega
    have a1:m<=e:=by omega
    have a0:e<=b:=by omega
    have ai:p=mid+m-1:=by omega
    have M:=W.o;rw[ai]at M;obtain⟨F1,F2⟩:=M.found Y.o Z.o Q T (by omega) a2 HZ.o.1 HZ.o.2 a4;rw[show mid+m-s=e from by omega]at F1 F2;have HH:Aside (∀d1,Rot d d1 s m e->Ox key Rl d d1 a s mid e b):=fun d1 r=>Ox.of Y.o Z.o HL.o (by omega) (by omega) (by omega) he a0 F1 F2 r;clear F1 F2 W M ai HZ HL Y Z HC;go_upto_region 39 with fail
    go_cut[185]from 25 (fun v wx=>v= .bool (decide (s<m/\m<e))/\wr=wx)
    case first=>as_aux_lemma=>
     by_cases c1:s<m
     ·have e1:=(dT s m).2;have z:(s:Int)<(m:Int):=by omega
      by_cases c2:m<e
      ·have H:=(dT m e).2;have A:(m:Int)<(e:Int):=by omega
       go_wp2_with fail;go_meet
       case rel=>exact⟨by simp[c1,c2],rfl⟩
      ·have H:=(dF m e).2;have A: ¬(m:Int)<(e:Int):=by omega
       go_wp2_with fail;go_meet
       case rel=>exact⟨by simp[c2],rfl⟩
     ·have e1:=(dF s m).2;have z: ¬(s:Int)<(m:Int):=by omega
      go_wp2_with fail;go_meet
      case rel=>exact⟨by simp[c1],rfl⟩
    case rest=>as_aux_lemma=>
     obtain⟨rfl,rfl⟩:=hcut;go_upto_if 185 with fail
     go_cut[]from 25 (fun wx=> ∃d1,d1.size=d.size/\Aside (SW Bd w0 blk 0 d1 wx)/\Hid (Ox key Rl d d1 a s mid e b))
     case first=>as_aux_lemma=>
      by_cases c1:s<m/\m<e
      ·have hd:=zJ c1;have L:=qE w0 blk P s m e d0 d (.func (.func g) #[] cb) wr R hs h.o c1.1 c1.2 (by omega) a6;go_wp2_with fail;refine L.mono ?_;rintro H w2 ⟨rfl,d1,C,j⟩;have f:=hZ (HH.o d1 C);have U:=C.size;have SS:=aZ j;clear L C j HH;go_wp2_with fail;go_meet
       case rel=>exact⟨d1,U,SS,f⟩
      ·have hd:=zM c1;have f:Hid (Ox key Rl d d a s mid e b):=HH.o d (by
        by_cases c2:s<m
        ·obtain rfl:e=m:=by omega
         exact Rot.id_right d s e
        ·obtain rfl:s=m:=by omega
         exact Rot.id_left d s e a1)
       clear HH;go_wp2_with fail;go_meet
       case rel=>exact⟨d,rfl,h,f⟩
     case rest=>as_aux_lemma=>
      clear h HH;obtain⟨d1,D,h,t⟩:=hcut;go_upto_region 41 with fail
      go_cut[199]from 25 (fun v wx=>v= .bool (decide (a<s/\s<mid))/\wc=wx)
      case first=>as_aux_lemma=>
       by_cases c1:a<s
       ·have e1:=(dT a s).2;have z:(a:Int)<(s:Int):=by omega
        by_cases c2:s<mid
        ·have H:=(dT s mid).2;have A:(s:Int)<(mid:Int):=by omega
         go_wp2_with fail;go_meet
         case rel=>exact⟨by simp[c1,c2],rfl⟩
        ·have H:=(dF s mid).2;have A: ¬(s:Int)<(mid:Int):=by omega
         go_wp2_with fail;go_meet
         case rel=>exact⟨by simp[c2],rfl⟩
       ·have e1:=(dF a s).2;have z: ¬(a:Int)<(s:Int):=by omega
        go_wp2_with fail;go_meet
        case rel=>exact⟨by simp[c1],rfl⟩
      case rest=>as_aux_lemma=>
       obtain⟨rfl,rfl⟩:=hcut;go_upto_if 199 with fail
       go_cut[]from 25 (fun wx=> ∃u,u.size=d.size/\Aside (SW Bd w0 blk 0 u wx)/\Hid (Dy d1 u a mid/\Srt key u a mid))
       case first=>as_aux_lemma=>
        by_cases c1:a<s/\s<mid
        ·have hd:=zJ c1;have L:=V.o a s mid d1 wc (by omega) D h c1.1 c1.2 (by omega) t.o.s1 t.o.s2 t.o.lr1;clear V;go_wp2_with fail;refine L.mono ?_;rintro H w2 ⟨rfl,u,n,i,j⟩;have f:=hZ (aI n i);have U:=n.size.trans D;have SS:=aZ j;clear L n i j;go_wp2_with fail;go_meet
         case rel=>exact⟨u,U,SS,f⟩
        ·have hd:=zM c1;have f:Hid (Dy d1 d1 a mid/\Srt key d1 a mid):=⟨Dy.refl _ _ _,t.o.s1.whole t.o.s2 (by omega)⟩;clear V;go_wp2_with fail;go_meet
         case rel=>exact⟨d1,D,h,f⟩
       case rest=>as_aux_lemma=>
        clear h;obtain⟨u,al,h,E⟩:=hcut;go_upto_region 43 with fail
        go_cut[213]from 25 (fun v wx=>v= .bool (decide (mid<e/\e<b))/\wc=wx)
        case first=>as_aux_lemma=>
         by_cases c1:mid<e
         ·have e1:=(dT mid e).2;have z:(mid:Int)<(e:Int):=by omega
          by_cases c2:e<b
          ·have H:=(dT e b).2;have A:(e:Int)<(b:Int):=by omega
           go_wp2_with fail;go_meet
           case rel=>exact⟨by simp[c1,c2],rfl⟩
          ·have H:=(dF e b).2;have A: ¬(e:Int)<(b:Int):=by omega
           go_wp2_with fail;go_meet
           case rel=>exact⟨by simp[c2],rfl⟩
         ·have e1:=(dF mid e).2;have z: ¬(mid:Int)<(e:Int):=by omega
          go_wp2_with fail;go_meet
          case rel=>exact⟨by simp[c1],rfl⟩
        case rest=>as_aux_lemma=>
         obtain⟨rfl,rfl⟩:=hcut
         by_cases c1:mid<e/\e<b
         ·have hd:=zJ c1;have L:=V.o mid e b u wc (by omega) al h c1.1 c1.2 hb (t.o.s3.o E.o.1 (.inr (zK _))) (t.o.s4.o E.o.1 (.inr (by omega))) (t.o.lr2.o E.o.1 (.inr (zK _)));clear V;go_wp2_with fail;refine L.mono ?_;rintro H w2 ⟨rfl,d3,n,i,j⟩;have f:Hid (Dy d d3 a b/\Srt key d3 a b):=t.o.done (by omega) (by omega) E.o.1 E.o.2 n i;have SS:=aZ j;clear L n i j;go_wp2
          go_end0
          exact⟨rfl,d3,f.o.1,f.o.2,SS.o⟩
         ·have hd:=zM c1;have f:Hid (Dy d u a b/\Srt key u a b):=t.o.done (by omega) (by omega) E.o.1 E.o.2 (Dy.refl _ _ _) ((t.o.s3.o E.o.1 (.inr (zK _))).whole (t.o.s4.o E.o.1 (.inr (by omega))) (by omega));clear V;go_wp2
          go_end0
          exact⟨rfl,u,f.o.1,f.o.2,h.o⟩
theorem Vm{cf:UInt8->UInt8->Int}{key:UInt8->Nat}{Rl:UInt8->UInt8->Prop}(O:Hm.Ord cf key Rl)(g:Nat)(j:Array Value)(k: ∀i w,(callFunc g i).run prog w= .ok (.enter g i) w)
  (w0:World) (blk f:Nat) (d0:Array UInt8) (c:CmpLays1 prog g j Bd cf blk 0 d0.size w0) (R:Row1 Bd w0 blk 0 d0) (n:d0.size<=256):
  ∀(N a m b:Nat) (d:Array UInt8) (w:World),b-a<N->d.size=d0.size->Aside (SW Bd w0 blk 0 d w)->a<m->m<b->b<=d0.size->Srt key d a m->Srt key d m b->LR Rl d a m b->
   Calls prog 224 #[.slice (some ⟨blk,0,none⟩) d0.size f,.int .i64 a,.int .i64 m,.int .i64 b,.func (.func g) #[] j] w fun e w'=>e= .returned (.tuple #[])/\ ∃d',Dy d d' a b/\Srt key d' a b/\SW Bd w0 blk 0 d' w'
 |0,a,m,b,d,w,h,_,_,_,_,_,_,_,_=>absurd h (Nat.not_lt_zero _)
 |N+1,a,m,b,d,w,h,hs,S,x,l,hb,s1,s2,lr=>by
  have y:=Vm O g j k w0 blk f d0 c R n N;rw[<-hs]
  by_cases c1:m=a+1
  ·exact gF O g j k w0 blk f a m b d0 d w c R hs.symm S.o c1 l (by omega) (by omega) s2 lr
  by_cases c2:b=m+1
  ·exact cI O g j k w0 blk f a m b d0 d w c R hs.symm S.o (by omega) c2 (by omega) (by omega) s1 lr
  refine jV O g j k w0 blk f a m b d0 d w c R hs.symm S.o (by omega) (by omega) (by omega) (by omega) s1 s2 lr ?_;intro p z b' d' w' h1 h2 q r s A t u v;rw[hs];exact y p z b' d' w' (by omega) (by omega) q r s (by omega) t u v
theorem Hm.Good.of_agree{d0 d e:Array UInt8}{a b:Nat}(hs:Dy d e a b)(hk:Srt key e a b)(h: ∀k,a<=k->k<b->d[k]! =d0[k]!):Hm.Good key d0 e a b:=
 ⟨fun x=>by
  rw[hs.mem];exact⟨fun⟨k,h1,h2,c⟩=>⟨k,h1,h2,by rw[<-h k h1 h2];exact c⟩,fun⟨k,h1,h2,c⟩=>⟨k,h1,h2,by rw[h k h1 h2];exact c⟩⟩,hk⟩
theorem qF(O:Hm.Ord cf key Rl)(g:Nat)(P:Array Value)(eg: ∀H w,(callFunc g H).run prog w= .ok (.enter g H) w)
  (w0:World) (blk A:Nat) (d0:Array UInt8) (w:World) (B:CmpLays1 prog g P Bd cf blk 0 d0.size w0) (R:Row1 Bd w0 blk 0 d0) (af:d0.size<=256) (S:SW Bd w0 blk 0 d0 w) (hp: ∀i j,i<j->j<d0.size->Rl d0[i]! d0[j]!):
  Calls prog 218 #[.slice (some ⟨blk,0,none⟩) d0.size A,.int .i64 d0.size,.func (.func g) #[] P] w fun e w'=>e= .returned (.tuple #[])/\ ∃d',d'.size=d0.size/\Hm.Good key d0 d' 0 d0.size/\SW Bd w0 blk 0 d' w':=by
 have K: ∀(a b:Nat) (d:Array UInt8) (W:World),d.size=d0.size->Aside (SW Bd w0 blk 0 d W)->a<=b->b<=d0.size->(∀k,a<=k->d[k]! =d0[k]!)->
   Calls prog 223 #[S0 blk d0.size A,I a,I b,.func (.func g) #[] P] W fun e w'=>e= .returned (.tuple #[])/\ ∃d',Dy d d' a b/\Srt key d' a b/\SW Bd w0 blk 0 d' w':=fun a b d W h1 h2 h3 h4 Q=>by
  rw[<-h1];exact gD O g P eg w0 blk A a b d0 d W B R h1.symm h2.o h3 (by omega) (by omega) (fun p q h6 h7 h8=>by rw[Q p h6,Q q (by omega)];exact hp p q h7 (by omega))
 have L: ∀(a m b:Nat) (d:Array UInt8) (W:World),d.size=d0.size->Aside (SW Bd w0 blk 0 d W)->a<m->m<b->b<=d0.size->Hm.Good key d0 d a m->Hm.Good key d0 d m b->
   Calls prog 224 #[S0 blk d0.size A,I a,I m,I b,.func (.func g) #[] P] W fun e w'=>e= .returned (.tuple #[])/\ ∃d',Dy d d' a b/\Srt key d' a b/\SW Bd w0 blk 0 d' w':=fun a m b d W h1 h2 h3 h4 Q x Y=>
  Vm O g P eg w0 blk A d0 B R af (b-a+1) a m b d W (by omega) h1 h2 h3 h4 Q x.srt Y.srt (x.lr Y hp Q)
 have u:Aside _:=K;have h:Aside _:=L;have Sq:=aZ S;clear S B K L hp
 go_enter func218,ntmps218
 go_wp2_with fail
 go_loopg [7,8] d0.size (fun x va vb wr=> ∃(a:Nat) (r:Array UInt8),va=I a/\vb=I ((a+20:Nat):Int)/\a+x=d0.size/\r.size=d0.size/\Aside (SW Bd w0 blk 0 r wr)/\Hid (Lv key d0 r d0.size 20 a/\ ∀k,a<=k->r[k]! =d0[k]!))
 case atStart=>exact⟨0,d0,rfl,rfl,by omega,rfl,Sq,Lv.none _ _ _ _ _,fun _ _=>rfl⟩
 case round=>
  clear Sq;obtain⟨a,r,rfl,rfl,V,f,v,l⟩:=hrel
  by_cases E:a+20<=d0.size
  ·have hd:decide (((a+20:Nat):Int)<=(d0.size:Int))=true:=zJ (by omega);have D:(a:Int)+20<=(d0.size:Int):=by omega
   have y:=u.o a (a+20) r wr f v (by omega) E l.o.2;clear u h;go_wp2_with fail;refine y.mono ?_;rintro Z w2 ⟨rfl,t,c,n,z⟩;have C:Hid (Lv key d0 t d0.size 20 (a+20)/\ ∀k,a+20<=k->t[k]! =d0[k]!):=
    ⟨l.o.1.step c E (Hm.Good.of_agree c n (fun k h1 _=>l.o.2 k h1)),fun k hk=>by rw[c.o k (.inr hk)];exact l.o.2 k (by omega)⟩
   have s:=c.size.trans f;have G:=aZ z;clear y c n z l v;go_wp2_with fail
   go_roundg (d0.size-(a+20))
   case measure=>omega
   case rel=>exact⟨a+20,t,by go_num,by first|go_num|(congr 1;omega),by omega,s,G,C⟩
  ·have hd:decide (((a+20:Nat):Int)<=(d0.size:Int))=false:=zM (by omega);have D: ¬(a:Int)+20<=(d0.size:Int):=by omega
   have y:=u.o a d0.size r wr f v (by omega) (zK _) l.o.2;clear u;go_wp2_with fail;refine y.mono ?_;rintro Z w2 ⟨rfl,t,c,n,z⟩;have C:Hid (D3 key d0 t d0.size 20 0):=
    l.o.1 t (fun k hk=>c.o k (.inl hk)) (.last a (by omega) (by omega) (Hm.Good.of_agree c n (fun k h1 _=>l.o.2 k h1)))
   have s:=c.size.trans f;have G:=aZ z;clear y c n z l v V f E hd D;go_wp2_with fail
   go_loopg [6] d0.size (fun x vs wr=> ∃(bs:Nat) (r:Array UInt8),vs=I bs/\0<bs/\bs<=1024/\d0.size-bs<=x/\r.size=d0.size/\Aside (SW Bd w0 blk 0 r wr)/\Hid (D3 key d0 r d0.size bs 0))
   case atStart=>exact⟨20,t,rfl,by omega,by omega,by omega,s,G,C⟩
   case round=>
    clear G C s t;obtain⟨bs,r,rfl,ab,an,V,f,v,l⟩:=hrel
    by_cases E:bs<d0.size
    ·have hd:=(dT bs d0.size).2;have D:(bs:Int)<(d0.size:Int):=by omega
     go_wp2_with fail
     go_loopg [7,8] d0.size (fun Y va vb ah=> ∃(a:Nat) (X:Array UInt8),va=I a/\vb=I ((a+2*bs:Nat):Int)/\a+Y=d0.size/\X.size=d0.size/\Aside (SW Bd w0 blk 0 X ah)/\Hid (Lv key d0 X d0.size (2*bs) a/\D3 key d0 X d0.size bs a))
     case atStart=>exact⟨0,r,rfl,by first|rfl|go_num|(congr 1;omega),by omega,f,v,Lv.none _ _ _ _ _,l.o⟩
     case round=>
      clear v l f r;obtain⟨a,r,rfl,rfl,ao,f,v,l⟩:=hrel
      by_cases N:a+2*bs<=d0.size
      ·have ac:decide (((a+2*bs:Nat):Int)<=(d0.size:Int))=true:=zJ (by omega);have T:(a:Int)+2*(bs:Int)<=(d0.size:Int):=by omega
       obtain⟨x,M,g4⟩:=l.o.2.two ab N;have y:=h.o a (a+bs) (a+2*bs) r wr f v (by omega) (by omega) N x M;rw[show((a+bs:Nat):Int)=(a:Int)+(bs:Int)from by omega,show((a+2*bs:Nat):Int)=(a:Int)+2*(bs:Int)from by omega]at y;have F:=aZ (aI x (aI M g4));clear h x M g4;go_wp2_with fail;refine y.mono ?_;rintro Z w2 ⟨rfl,t,c,n,z⟩;have C:Hid (Lv key d0 t d0.size (2*bs) (a+2*bs)/\D3 key d0 t d0.size bs (a+2*bs)):=
        ⟨l.o.1.step c N (F.o.1.merged F.o.2.1 (by omega) (by omega) c n),F.o.2.2.agree fun k h1 _=>c.o k (.inr h1)⟩
       have s:=c.size.trans f;have G:=aZ z;clear y c n z l v F;go_wp2_with fail
       go_roundg (d0.size-(a+2*bs))
       case measure=>omega
       case rel=>exact⟨a+2*bs,t,by first|rfl|go_num|(congr 1;omega),by first|rfl|go_num|(congr 1;omega),by omega,s,G,C⟩
      ·have ac:decide (((a+2*bs:Nat):Int)<=(d0.size:Int))=false:=zM (by omega);have T: ¬(a:Int)+2*(bs:Int)<=(d0.size:Int):=by omega
       by_cases hm:a+bs<d0.size
       ·have ad:decide ((a:Int)+(bs:Int)<(d0.size:Int))=true:=zJ (by omega);have U:(a:Int)+(bs:Int)<(d0.size:Int):=by omega
        obtain⟨x,M⟩:=l.o.2.rest hm (by omega);have y:=h.o a (a+bs) d0.size r wr f v (by omega) (by omega) (zK _) x M;rw[show((a+bs:Nat):Int)=(a:Int)+(bs:Int)from by omega]at y;have F:=aZ (aI x M);clear h x M;go_wp2_with fail;refine y.mono ?_;rintro Z w2 ⟨rfl,t,c,n,z⟩;have C:Hid (D3 key d0 t d0.size (2*bs) 0):=
         l.o.1 t (fun k hk=>c.o k (.inl hk)) (.last a (by omega) (by omega) (F.o.1.merged F.o.2 (by omega) (by omega) c n))
        have s:=c.size.trans f;have G:=aZ z;clear y c n z l v F;go_wp2_with fail
        go_roundg (d0.size-2*bs)
        case measure=>omega
        case rel=>exact⟨2*bs,t,by first|rfl|go_num|(congr 1;omega),by omega,by omega,by omega,s,G,C⟩
       ·have ad:decide ((a:Int)+(bs:Int)<(d0.size:Int))=false:=zM (by omega);have U: ¬(a:Int)+(bs:Int)<(d0.size:Int):=by omega
        have C:Hid (D3 key d0 r d0.size (2*bs) 0):=l.o.1.all (l.o.2.one (by omega) (by omega));clear h l;go_wp2_with fail
        go_roundg (d0.size-2*bs)
        case measure=>omega
        case rel=>exact⟨2*bs,r,by first|rfl|go_num|(congr 1;omega),by omega,by omega,by omega,f,v,C⟩
    ·have hd:=(dF bs d0.size).2;have D: ¬(bs:Int)<(d0.size:Int):=by omega
     clear h;go_wp2
     go_end0
     exact⟨rfl,r,f,l.o.whole (by omega),v.o⟩
theorem cJ(O:Hm.Ord cf key Rl)(g:Nat)(f:Array Value)(n: ∀a w,(callFunc g a).run prog w= .ok (.enter g a) w)
  (blk c:Nat) (d0:Array UInt8) (w:World) (b:CmpLays1 prog g f Bd cf blk 0 d0.size w) (R:Row1 Bd w blk 0 d0) (h:d0.size<=256) (l: ∀i j,i<j->j<d0.size->Rl d0[i]! d0[j]!):
  Calls prog 201 #[.slice (some ⟨blk,0,none⟩) d0.size c,.func (.func g) #[] f] w fun e w'=>e= .returned (.tuple #[])/\ ∃d',d'.size=d0.size/\Hm.Good key d0 d' 0 d0.size/\SW Bd w blk 0 d' w':=by
 have d:=qF O g f n w blk c d0 w b R h (SW.start R.hH) l;clear b R l
 go_enter func201,ntmps201
 go_wp2_with fail;refine d.mono ?_;rintro e w2 ⟨rfl,d',h1,h2,k⟩;have m:=aZ (aI h1 (aI h2 k));clear h1 h2 k d;go_wp2
 go_end0
 exact⟨rfl,d',m.o⟩
end
section
open Go.RowKit Go.Sort Go.Shelf
theorem qG(lb:Nat)(L:Aeh)(x y:UInt8)(w:World)(f:L.length=256)(h:w.heap[lb]?=some (.cells (Ad L).toArray 139 (0,0))):
  Calls prog 202 #[.int .u8 x.toNat,.int .u8 y.toNat,.pointer (some ⟨lb,0,none⟩)] w fun e w'=>e= .returned (.int .i64 (jH L x y))/\ ∃q,w'=w.drewN q:=by
 have a: ∀b:UInt8,w.cell? (J lb b.toNat)=some (I (lnB L b:Nat)):=fun b=>by
  rw[zP _ _ _ _ _ _ h];have hb:=b.toNat_lt;simp[Ad,lnB,List.getD_eq_getElem?_getD,List.getElem?_eq_getElem (show b.toNat<L.length from by omega)]
 have j:=a x;have k:=a y;have c:=fun W=>Tryz.cmp_Compare_int (lnB L x:Nat) (lnB L y:Nat) W;have d:Hid (jH L x y=Lib.compareInt (lnB L x:Nat) (lnB L y:Nat)):=rfl;rw[d.o];generalize Lib.compareInt (lnB L x:Nat) (lnB L y:Nat)=r at*;generalize lnB L x=lx at*;generalize lnB L y=ly at*;have h1:=x.toNat_lt;have h2:=y.toNat_lt;generalize x.toNat=g at*;generalize y.toNat=i at*;have l:(g:Int)<256:=by omega
 have m:(i:Int)<256:=by omega
 clear a h f d
 go_enter func202,ntmps202
 go_wp2_with fail;go_quiet(first|(refine Abc (c _)));go_wp2;go_ret;exact⟨rfl,_,rfl⟩
theorem cK(v f:Value)(w:World):Calls prog 223 #[v,.int .i64 0,.int .i64 0,f] w fun e w'=>e= .returned (.tuple #[])/\w=w':=by
 go_enter func223,ntmps223
 go_wp2;refine wp_loop_rounds 1 ?_;rw[rounds_succ];go_wp2
 go_end0
 exact⟨rfl,rfl⟩
theorem mQ(v f:Value)(w:World):Calls prog 218 #[v,.int .i64 0,f] w fun e w'=>e= .returned (.tuple #[])/\w=w':=by
 have a:=cK v f w
 go_enter func218,ntmps218
 go_wp2;refine wp_loop_rounds 1 ?_;rw[rounds_succ]
 go_wp2_with(go_at_call 223;refine a.mono ?_;rintro e w2 ⟨rfl,rfl⟩)
 refine wp_loop_rounds 1 ?_;rw[rounds_succ];go_wp2
 go_end0
 exact⟨rfl,rfl⟩
theorem Z8(a:Aej)(c:Nat)(f:Value)(w:World):Calls prog 201 #[.slice a 0 c,f] w fun e w'=>e= .returned (.tuple #[])/\w=w':=by
 have b:=mQ (.slice a 0 c) f w
 go_enter func201,ntmps201
 go_wp2_with(go_at_call 218;refine b.mono ?_;rintro e w2 ⟨rfl,rfl⟩)
 go_end0
 exact⟨rfl,rfl⟩
theorem mR{base g n a:Nat}{e:TypeId}{xs:Aei}(h:w.ownsRow base e 1 (.slice (some ⟨g,0,none⟩) n a) n xs)(m:Nat)(d:Array UInt8)(os:Array Obj)(hd:d.size=n):
  (sortWorld Bd w g 0 m d os).ownsRow base e 1 (.slice (some ⟨g,0,none⟩) n a) n (Ag d.toList):=by
 rcases h.2 with⟨h1,_⟩|⟨g2,cap2,cur,h1,h2,b,f,j,c,l⟩
 ·cases h1
 ·cases h1;refine⟨by simp[Ag,hd],.inr ⟨g,a,putCells Bd 0 d cur,rfl,h2,?_,f,j,by rw[<-c];simp[putCells],?_⟩⟩
  ·show((putRow Bd (Sort.ahead w m) g 0 d).heap++os)[g]?=_;rw[Array.getElem?_append_left (by rw[size_putRow];exact Aac b)];show(w.heap.modify g _)[g]?=_;rw[Array.getElem?_modify,if_pos rfl,b];rfl
  ·apply Aa1
   ·simp[Ag,putCells,hd,c];omega
   ·intro i o k;have hi:i<d.size:=by simpa[Ag]using k
    simp[putCells,Ag,hi,Bd]
theorem wH(L:Aeh)(c:L.length=256)(lb g n:Nat)(w:World)(h:w.heap[lb]?=some (.cells (Ad L).toArray 139 (0,0)))(a:lb≠g):
  CmpLays1 prog 202 #[.pointer (some ⟨lb,0,none⟩)] Bd (jH L) g 0 n w:=fun m os b _ x y=>by
 have hb:(sortWorld Bd w g 0 m b os).heap[lb]?=some (.cells (Ad L).toArray 139 (0,0)):=by
  rw[K6 Bd w g 0 m b os lb (Aac h) a];exact h
 refine(qG lb L x y _ c hb).mono ?_;rintro e w' ⟨d,q,rfl⟩;exact⟨d,q,#[],by rw[grow_empty]⟩
theorem Vn(L:Aeh)(w:World)(P:L.length=256)(Z: ∀x∈L,x<=255):
  Calls prog 181 #[.agg (Ad L).toArray] w fun e w'=> ∃v,e= .returned v/\w'.ownsRow w.heap.size 5 1 v (Af L).length (Ag (Af L))/\Aee w w':=by
 have D:(Ad L).toArray.size=256:=by rw[Ba,P]
 have z: ∀b:UInt8,lnB L b<=255:=fun b=>by
  have hb:=b.toNat_lt;rw[lnB,zG,zH (show b.toNat<L.length from by omega)];exact Z _ (z6 _)
 have s:=U9 L (w.alloc (.cells (Ad L).toArray 139)) P (fun x h=>by have:=Z x h;omega);have c:(w.alloc (.cells (Ad L).toArray 139)).heap[w.heap.size]?=some (.cells (Ad L).toArray 139 (0,0)):=zY w _;have p:=fun g n W h R=>wH L P w.heap.size g n W h R;have q:Aside _:=p;have M:=Jn L z;have E:=Ex L 256
 change (Aj L).length<=256 at E
 have B:Aside _:=z;clear p z;generalize hA:(Ad L).toArray=arr at*
 go_enter func181,ntmps181
 go_wp2_with(first
  |(refine Aa0 rfl 139 _ rfl w.heap.size rfl 139 arr (0,0) _ c underlying139 rfl (by rw[D];exact Ci) ?_))
 refine s.mono ?_;rintro e w2 ⟨v,rfl,K,hk⟩;have r:=hk.row c id;have l:Aee w w2:=((Aa.refl (fun _=>False) w).alloc _).tr hk;have a:=Fs (base':=w.heap.size) K (fun k hk=>by have:=K.lt k hk;simp at this;omega);have u: ∀k,v.ownBlock=some k->w.heap.size<k:=fun k hk=>by have:=K.lt k hk;simp at this;omega
 by_cases X:(Aj L).length=0
 ·obtain⟨T,V,N,_⟩:=An a;rw[X]at N;subst N;have S:=fun f W=>Z8 T V f W;have A:Aside (w2.ownsRow w.heap.size 5 1 (.slice T 0 V) (Af L).length (Ag (Af L))/\Aee w w2):=by
   have O:=Aaz X;have e2:Af L=[]:=Aaz (by omega);rw[O]at a;rw[e2];exact⟨a,l⟩
  clear s c K hk r l a u q B M E;go_wp2_with fail;refine(S _ _).mono ?_;rintro e w3 ⟨rfl,rfl⟩;go_wp2;go_ret;exact⟨_,rfl,A.o⟩
 ·obtain⟨g,C,N,ae,Q⟩:=Co a (by omega);subst N;have ac:=u g rfl;have F:(Aj L).toArray.size=(Aj L).length:=by simp
  have Y:Row1 Bd w2 g 0 (Aj L).toArray:=⟨wG,fun j hj=>by
   have d:j<(Aj L).length:=by simpa using hj
   refine⟨?_,by rw[Aao];exact a.frozenAt _⟩;rw[Aao,a.cellAt j (by omega)];simp[Ag,Bd,d],Q⟩
  have y:=cJ (zF L) 202 #[.pointer (some (J w.heap.size 0))] (fun U W=>by kernel_rfl) g C (Aj L).toArray w2 (q.o g _ w2 r (by omega)) Y (by omega) (fun i j h1 h2=>by
   have d:j<(Aj L).length:=by simpa using h2
   have H:i<(Aj L).length:=by omega
   have:=List.pairwise_iff_getElem.1 (Oj L) i j H d h1;intro _;simpa[H,d]using this)
  rw[F]at y;have A:=aZ (aI a l);clear s c K hk r l a u q Y F;go_wp2_with fail;refine y.mono ?_;rintro e w3 ⟨rfl,d',t,G,m,os,rfl⟩;have HY:Aside ((sortWorld Bd w2 g 0 m d' os).ownsRow w.heap.size 5 1 (S0 g (Aj L).length C) (Af L).length (Ag (Af L))/\Aee w (sortWorld Bd w2 g 0 m d' os)):=by
   have O:=G.order B.o t;have h1:=mR A.o.1 m d' os t;rw[O]at h1;rw[M];exact⟨h1,A.o.2.trans (Ny Bd w2 g 0 m d' os) (fun j h1 h2=>by omega)⟩
  clear y G t A;generalize sortWorld Bd w2 g 0 m d' os=w4 at*;go_wp2;go_ret;exact⟨_,rfl,HY.o⟩
end
section
open Go.RowKit
theorem Ub:Tryz.zeroCells92.size=512:=by kernel_rfl
def Qq(n:Nat):Aei:=(List.replicate n ()).flatMap fun _=>[.int .u64 0,.int .i64 0]
theorem wI:Tryz.zeroCells92=(Qq 256).toArray:=by kernel_rfl
theorem Qr:(prog.info? 92).map (·.size)=some 512:=by kernel_rfl
def C8:List (Nat×Nat)->Aei
 |[]=>[]
 |p::r=> .int .u64 p.1:: .int .i64 p.2::C8 r
theorem Db(l:List (Nat×Nat)):(C8 l).length=l.length*2:=by
 induction l with
 |nil=>rfl
 |cons p r ih=>simp[C8,ih];omega
theorem Td(l:List (Nat×Nat)): ∀i,(h:i<l.length)->(C8 l)[i*2]?=some (.int .u64 (l[i].1:Nat))/\(C8 l)[i*2+1]?=some (.int .i64 (l[i].2:Nat)):=by
 induction l with
 |nil=>intro i h;simp at h
 |cons p r ih=>
  intro i h;cases i with
  |zero=>exact⟨rfl,rfl⟩
  |succ i=>
   have:=ih i (by simpa using h);rw[show(i+1)*2=i*2+1+1 from by omega];simpa[C8]using this
theorem qH(l:List (Nat×Nat))(p:Nat×Nat): ∀i,(h:i<l.length)->((C8 l).set (i*2) (.int .u64 p.1)).set (i*2+1) (.int .i64 p.2)=C8 (l.set i p):=by
 induction l with
 |nil=>intro i h;simp at h
 |cons q r ih=>
  intro i h;cases i with
  |zero=>rfl
  |succ i=>
   have:=ih i (by simpa using h);rw[show(i+1)*2=i*2+1+1 from by omega];simp[C8,this]
theorem X3(n:Nat):C8 (List.replicate n (0,0))=Qq n:=by
 induction n with
 |zero=>rfl
 |succ n ih=>rw[Abx,C8,ih];simp[Qq,List.replicate_succ]
theorem Te(l:List (Nat×Nat)):(C8 l).toArray.all (·.oneCell')=true:=by
 rw[Acv];intro v b;have a:v∈C8 l:=by simpa using b
 clear b;induction l with
 |nil=>simp[C8]at a
 |cons p r ih=>
  simp only[C8,List.mem_cons]at a;rcases a with rfl|rfl|h
  ·rfl
  ·rfl
  ·exact ih h
def Lh(w:World)(g:Nat)(T:List (Nat×Nat)):Prop:=w.heap[g]?=some (.cells (C8 T).toArray 92 (0,0))
theorem Lh.set{g:Nat}(h:Lh w g T)(i:Nat)(hi:i<T.length)(p:Nat×Nat):Lh ((w.setCell ⟨g,i*2,none⟩ (.int .u64 p.1)).setCell ⟨g,i*2+1,none⟩ (.int .i64 p.2)) g (T.set i p):=by
 have h2:=zI _ g (i*2+1) _ _ (I p.2) (zI w g (i*2) _ _ (.int .u64 p.1) h);unfold Lh;rw[h2,<-qH T p i hi];congr 2;simp
theorem Vo{wr:World}{b2 b3 bn:Nat}{x y:Value}(ht:Lh wr b2 T)(hn:wr.heap[b3]?=some (.cells #[x,y] 90 (0,0)))(a:b2≠b3)(hb:bn<T.length)(p:Nat×Nat):
  Lh ((((wr.setCell ⟨b3,0,none⟩ (.int .u64 p.1)).setCell ⟨b3,1,none⟩ (.int .i64 p.2)).setCell ⟨b2,bn*2,none⟩ (.int .u64 p.1)).setCell ⟨b2,bn*2+1,none⟩ (.int .i64 p.2)) b2 (T.set bn p)/\
  ((((wr.setCell ⟨b3,0,none⟩ (.int .u64 p.1)).setCell ⟨b3,1,none⟩ (.int .i64 p.2)).setCell ⟨b2,bn*2,none⟩ (.int .u64 p.1)).setCell ⟨b2,bn*2+1,none⟩ (.int .i64 p.2)).heap[b3]?=some (.cells #[.int .u64 p.1,.int .i64 p.2] 90 (0,0))/\
  Aa (fun j=>j=b2\/j=b3) wr ((((wr.setCell ⟨b3,0,none⟩ (.int .u64 p.1)).setCell ⟨b3,1,none⟩ (.int .i64 p.2)).setCell ⟨b2,bn*2,none⟩ (.int .u64 p.1)).setCell ⟨b2,bn*2+1,none⟩ (.int .i64 p.2)):=by
 have h1:=zI _ b3 1 _ _ (I p.2) (zI wr b3 0 _ _ (.int .u64 p.1) hn);have h2:Lh ((wr.setCell (J b3 0) (.int .u64 p.1)).setCell (J b3 1) (I p.2)) b2 T:=by
  unfold Lh;rw[Acg _ _ _ _ a,Acg _ _ _ _ a];exact ht
 refine⟨h2.set bn hb p,?_,?_⟩
 ·rw[Acg _ _ _ _ (fun e=>a e.symm),Acg _ _ _ _ (fun e=>a e.symm)];exact h1
 ·exact((((Aa.refl (fun j=>j=b2\/j=b3) wr).setCell (p:=(J b3 0)) (.inr (.inr rfl)) _).setCell (p:=(J b3 1)) (.inr (.inr rfl)) _).setCell (p:=(J b2 (bn*2))) (.inr (.inl rfl)) _).setCell (p:=(J b2 (bn*2+1))) (.inr (.inl rfl)) _
theorem Z9(L:Aeh)(w:World)(hL:L.length=256)(hx: ∀x∈L,x<=255)(hF:N3 L (Af L)):
  Calls prog 149 #[.agg (Ad L).toArray] w fun e w'=>e= .returned (.agg (C8 (Bf L)).toArray)/\Aee w w':=by
 have am:(Ad L).toArray.size=256:=by rw[Ba,hL]
 have al:Aside (Tryz.zeroCells92=(C8 (Eh L (Af L) 256 0)).toArray):=by show _=_;rw[wI,Eh,X3]
 have C:=fun W=>Vn L W hL hx;have F: ∀W:World,W.heap[w.heap.size]?=some (.cells (Ad L).toArray 139 (0,0))-> ∀b:UInt8,W.cell? (J w.heap.size b.toNat)=some (I (lnB L b:Nat)):=by
  intro W hW b;have hb:=b.toNat_lt;rw[zP _ _ _ _ _ _ hW];simp[Ad,lnB,List.getD_eq_getElem?_getD,List.getElem?_eq_getElem (show b.toNat<L.length from by omega)]
 have bb:(Af L).length<=256:=by
  have aB: ∀b:UInt8,lnB L b<=255:=fun b=>by
   have hb:=b.toNat_lt;rw[lnB,zG,zH (show b.toNat<L.length from by omega)];exact hx _ (z6 _)
  rw[Jn L aB];exact Ex L 256
 have D:Aside _:=F;have HF:Aside _:=hF;have HR:Hid (Bf L=Eh L (Af L) 256 (Af L).length):=rfl;rw[HR.o];have q:(((((w.alloc (.cells (Ad L).toArray 139)).alloc (.cells Tryz.zeroCells92 92)).alloc (.cells Tryz.zeroCells92 92))).alloc (.cells #[.int .u64 0,I 0] 90)).heap[w.heap.size]?=some (.cells (Ad L).toArray 139 (0,0)):=
  ((((Aa.refl (fun _=>False) (w.alloc (.cells (Ad L).toArray 139))).alloc _).alloc _).alloc _).row (zY w _) id
 have s:(((((w.alloc (.cells (Ad L).toArray 139)).alloc (.cells Tryz.zeroCells92 92)).alloc (.cells Tryz.zeroCells92 92))).alloc (.cells #[.int .u64 0,I 0] 90)).heap[w.heap.size+1]?=some (.cells Tryz.zeroCells92 92 (0,0)):=
  (((Aa.refl (fun _=>False) ((w.alloc (.cells (Ad L).toArray 139)).alloc (.cells Tryz.zeroCells92 92))).alloc _).alloc _).row (Ab3 w _ _) id
 have t:(((((w.alloc (.cells (Ad L).toArray 139)).alloc (.cells Tryz.zeroCells92 92)).alloc (.cells Tryz.zeroCells92 92))).alloc (.cells #[.int .u64 0,I 0] 90)).heap[w.heap.size+1+1]?=some (.cells Tryz.zeroCells92 92 (0,0)):=by
  have:=((Aa.refl (fun _=>False) (((w.alloc (.cells (Ad L).toArray 139)).alloc (.cells Tryz.zeroCells92 92)).alloc (.cells Tryz.zeroCells92 92))).alloc (.cells #[.int .u64 0,I 0] 90)).row (zY _ _) id;simpa using this
 have y:(((((w.alloc (.cells (Ad L).toArray 139)).alloc (.cells Tryz.zeroCells92 92)).alloc (.cells Tryz.zeroCells92 92))).alloc (.cells #[.int .u64 0,I 0] 90)).heap[w.heap.size+1+1+1]?=some (.cells #[.int .u64 0,I 0] 90 (0,0)):=by
  have:=zY (((w.alloc (.cells (Ad L).toArray 139)).alloc (.cells Tryz.zeroCells92 92)).alloc (.cells Tryz.zeroCells92 92)) (.cells #[.int .u64 0,I 0] 90);simpa using this
 have A:Aee w (((((w.alloc (.cells (Ad L).toArray 139)).alloc (.cells Tryz.zeroCells92 92)).alloc (.cells Tryz.zeroCells92 92))).alloc (.cells #[.int .u64 0,I 0] 90)):=((((Aa.refl _ _).alloc _).alloc _).alloc _).alloc _;clear F hF;generalize(Ad L).toArray=arr at*
 go_enter func149,ntmps149
 go_upto_region 3 with fail
 generalize((((w.alloc (.cells arr 139)).alloc (.cells Tryz.zeroCells92 92)).alloc (.cells Tryz.zeroCells92 92))).alloc (.cells #[.int .u64 0,I 0] 90)=W at*;obtain⟨b3,ad⟩: ∃b,b=w.heap.size+1+1+1:=⟨_,rfl⟩;rw[<-ad]at y|-;obtain⟨b2,ac⟩: ∃b,b=w.heap.size+1+1:=⟨_,rfl⟩;rw[<-ac]at t|-;obtain⟨b1,ab⟩: ∃b,b=w.heap.size+1:=⟨_,rfl⟩;rw[<-ab]at s|-;have n1:w.heap.size≠b3:=by omega
 have n2:w.heap.size≠b2:=by omega
 have n3:b1≠b2:=by omega
 have n4:b1≠b3:=by omega
 have n5:b2≠b3:=by omega
 have HB:=aZ (aI ab (aI ac ad));have aU:b3<W.heap.size:=Aac y;have V:=C W;clear ab ac ad
 go_wp2_with(first
  |(refine Aa0 rfl 139 _ rfl w.heap.size rfl 139 arr (0,0) _ q underlying139 rfl (by rw[am];exact Ci) ?_))
 refine V.mono ?_;rintro e w2 ⟨v,rfl,ho,B⟩;have S:=B.row q id;have m:=B.row s id;have G:=B.row t id;have d:=B.row y id;have T:=A.tr B;rw[al.o]at G;have aw: ∀k,v.ownBlock=some k->b3<k:=fun k hk=>by have:=ho.lt k hk;omega
 obtain⟨ao,cp,hv,_⟩:=An ho;subst hv;have M:=aZ (aI ho (aI S (aI m (aI G (aI d (aI T aw))))));have bc:b3<w2.heap.size:=Aac d;clear C V ho S m G d T aw q s t y A B al;generalize hO:Af L=o at*;go_wp2_with fail
 go_loopw[11] (fun i wr=> ∃k:Nat,k<=o.length/\i=I k/\Lh wr b2 (Eh L o 256 k)/\wr.heap[b3]?=some (.cells #[.int .u64 ((B9 L o k).1:Nat),I ((B9 L o k).2:Nat)] 90 (0,0))/\Aa (fun j=>j=b2\/j=b3) w2 wr) (fun i _=>o.length-(intOf i).toNat)
 case atStart=>exact⟨0,zZ _,rfl,M.o.2.2.2.1,M.o.2.2.2.2.1,Aa.refl _ _⟩
 case round=>
  obtain⟨k,hk,rfl,n,d,r⟩:=hrel
  by_cases R:k<o.length
  ·obtain⟨b,z⟩:=gx (o.getD k 0);have C:=r.owns M.o.1 (fun j hj e=>by have:=M.o.2.2.2.2.2.2 j hj;have:=HB.o;rcases e with e|e<;>omega);have an:=r.row M.o.2.1 (fun e=>by rcases e with e|e<;>omega);obtain⟨g,aP,hv,_,aX⟩:=Co C (by omega);simp only[Value.slice.injEq]at hv;obtain⟨a3,_,a6⟩:=hv;subst a3;subst a6;have a5:wr.cell? (J g k)=some (.int .u8 b.toNat):=by
    rw[C.cellAt k (by omega),z];simp[Ag,R]
   have ap:=D.o wr an b;have ar:=HF.o.short b (by rw[z];exact Lg R);have f:=HF.o.step_le k R;have u:=HF.o.num_le k hk;have a:=HF.o.num_le (k+1) R;have e1:B9 L o (k+1)=(((B9 L o k).1+if k=0 then 0 else 1)*2^(lnB L b-(B9 L o k).2),lnB L b):=by rw[z];rfl
   have e2:Eh L o 256 (k+1)=(Eh L o 256 k).set b.toNat (B9 L o (k+1)):=by rw[z];rfl
   rw[<-z]at f;have O:=b.toNat_lt;have hT:=A5 L o 256 k;have ag:=Td (Eh L o 256 k) b.toNat (by omega);have c0:=cO 0 d;have c1:=cO 1 d;have f0:=zR _ _ 0 _ _ d;have f1:=zR _ _ 1 _ _ d;obtain⟨x0,t0⟩: ∃x,wr.cell? (J b2 (b.toNat*2))=some x:=⟨_,(zP _ _ _ _ _ _ n).trans (by rw[Aag];exact ag.1)⟩;obtain⟨x1,t1⟩: ∃x,wr.cell? (J b2 (b.toNat*2+1))=some x:=⟨_,(zP _ _ _ _ _ _ n).trans (by rw[Aag];exact ag.2)⟩;have g0:wr.frozen? (J b2 (b.toNat*2))=false:=zR _ _ _ _ _ n;have g1:wr.frozen? (J b2 (b.toNat*2+1))=false:=zR _ _ _ _ _ n;obtain⟨K,Q⟩: ∃K,lnB L b=(B9 L o k).2+K:=⟨lnB L b-(B9 L o k).2,by omega⟩;rw[show lnB L b-(B9 L o k).2=K from by omega]at e1;have H:=aZ (aI n (aI d (aI e1 (aI e2 (aI hT O)))));rw[e1]at a;clear C an n d e1 e2 hT ag z;obtain⟨c,hc⟩:=gx ((B9 L o k).1);obtain⟨l0,P⟩: ∃c,c=(B9 L o k).2:=⟨_,rfl⟩;obtain⟨l,hl⟩: ∃c,c=lnB L b:=⟨_,rfl⟩;obtain⟨Z,ae⟩: ∃c,c=b.toNat:=⟨_,rfl⟩;have HE:=aZ (aI hc (aI P (aI hl ae)));rw[<-hc,<-P]at u;rw[<-hc]at c0 a;rw[<-P]at c1 f Q;rw[<-hl]at ap ar f Q;rw[<-ae]at a5 ap t0 t1 g0 g1 O;clear hc P hl ae;have zl:(l:Int)-(l0:Int)=(K:Int):=by omega
   have aV:(Z:Int)<256:=by omega
   have a8:=(dT k o.length).2;have aW:K<=64:=by omega
   have m1:g≠b3:=by have:=M.o.2.2.2.2.2.2 g rfl;omega
   have m2:g≠b2:=by have:=M.o.2.2.2.2.2.2 g rfl;have:=HB.o;omega
   by_cases A:k=0
   ·subst A;rw[if_pos rfl,Ac2]at a;obtain⟨E,h⟩:=gx (c*2^K);rw[<-h]at a;have zs:IntKind.u64.wrap ((c:Int)*2^K)=(E:Int):=by
     have e:(c:Int)*2^K=(E:Int):=by rw[h];simp
     rw[e,IntKind.wrap_u64];have:=a.1;omega
    have HN:Aside (B9 L o (0+1)=(E,l)):=by
     obtain⟨q1,q2,q3,q4⟩:=HE.o;show _=_;rw[H.o.2.2.1,if_pos rfl,Ac2,<-q1,<-q3,h]
    have HS:=Vo H.o.1 H.o.2.1 n5 (bn:=Z) (by rw[H.o.2.2.2.2.1];exact O) (E,l);have Y:Aside _:=HS;have af:Aside (Eh L o 256 (0+1)=(Eh L o 256 0).set Z (E,l)):=by
     show _=_;rw[H.o.2.2.2.1,HN.o,HE.o.2.2.2]
    clear Q h HS H HE u a f;go_wp2_with fail
    go_region
    go_wp2_with fail
    go_region
    go_wp2;go_roundw
    case rel=>
     obtain⟨s1,s2,s3⟩:=Y.o;refine⟨0+1,by omega,by go_num,?_,?_,?_⟩
     ·rw[af.o];exact s1
     ·rw[HN.o];exact s2
     ·exact(r.tr s3).drew.drew
    case measure=>simp[intOf];omega
   ·have ba:decide ((k:Int)>0)=true:=zJ (by omega);have aK:decide (0<k)=true:=zJ (by omega);rw[if_neg A]at a;obtain⟨E,h⟩:=gx ((c+1)*2^K);rw[<-h]at a;have zs:IntKind.u64.wrap (((c:Int)+1)*2^K)=(E:Int):=by
     have e:((c:Int)+1)*2^K=(E:Int):=by rw[h];simp
     rw[e,IntKind.wrap_u64];have:=a.1;omega
    have HN:Aside (B9 L o (k+1)=(E,l)):=by
     obtain⟨q1,q2,q3,q4⟩:=HE.o;show _=_;rw[H.o.2.2.1,if_neg A,<-q1,<-q3,h]
    have X:Lh (wr.setCell (J b3 0) (.int .u64 ((c:Int)+1))) b2 (Eh L o 256 k):=by
     unfold Lh;rw[Acg _ _ _ _ n5];exact H.o.1
    have U:=zI wr b3 0 _ _ (.int .u64 ((c:Int)+1)) H.o.2.1;have HS:=Vo X U n5 (bn:=Z) (by rw[H.o.2.2.2.2.1];exact O) (E,l);have Y:Aside _:=HS;have af:Aside (Eh L o 256 (k+1)=(Eh L o 256 k).set Z (E,l)):=by
     show _=_;rw[H.o.2.2.2.1,HN.o,HE.o.2.2.2]
    have a4:(c:Int)<4294967296:=by have:=u.1;omega
    clear Q h HS H HE u a f X U;go_wp2_with fail
    go_region
    go_wp2_with fail
    go_region
    go_wp2;go_roundw
    case rel=>
     obtain⟨s1,s2,s3⟩:=Y.o;refine⟨k+1,by omega,by go_num,?_,?_,?_⟩
     ·rw[af.o];exact s1
     ·rw[HN.o];exact s2
     ·exact((r.setCell (p:=(J b3 0)) (.inr (.inr rfl)) _).tr s3).drew.drew
    case measure=>simp[intOf];omega
  ·obtain rfl:k=o.length:=by omega
   have a8:=(dF o.length o.length).2;have av:(C8 (Eh L o 256 o.length)).toArray.size=512:=by rw[Aaa,Db,A5]
   have m:=r.row M.o.2.2.1 (fun e=>by have:=HB.o;rcases e with e|e<;>omega);have aq:=M.o.2.2.2.2.2.1.trans r (fun j h1 h2=>by have:=HB.o;rcases h2 with h2|h2<;>omega);have au:=Te (Eh L o 256 o.length);have N:Aside (wr.heap[b1]?=some (.cells Tryz.zeroCells92 92 (0,0))/\Aee w wr/\wr.heap[b2]?=some (.cells (C8 (Eh L o 256 o.length)).toArray 92 (0,0))/\(C8 (Eh L o 256 o.length)).toArray.size=512/\(C8 (Eh L o 256 o.length)).toArray.all (·.oneCell')=true):=⟨m,aq,n,av,au⟩;clear m aq n av au d r M HF D;have aJ:w.heap.size<=b1:=by have:=HB.o;omega
   obtain⟨TT,aa⟩:=gx ((C8 (Eh L o 256 o.length)).toArray);rw[<-aa]at N;have a2:Aside (TT=(C8 (Eh L o 256 o.length)).toArray):=aa;clear aa
   go_wp2_with(first
    |(refine Aa0 rfl 92 _ rfl b2 rfl 92 TT (0,0) _ N.o.2.2.1 underlying92 rfl (by rw[N.o.2.2.2.1];exact Qr) ?_)
    |(refine wpList_store_row _ rfl 92 _ _ rfl b1 92 Tryz.zeroCells92 TT rfl rfl N.o.1 (by rw[N.o.2.2.2.1];exact Qr) (by rw[N.o.2.2.2.1];exact Ub) N.o.2.2.2.2 ?_;intro w5 aA a7))
   refine Aa8 (v:= .agg TT) (Abj results149 _ w5 b1 92 _ (0,0) _ rfl aA underlying92 rfl (by rw[N.o.2.2.2.1];exact Qr)) rfl ⟨by rw[a2.o,hO],?_⟩;exact N.o.2.1.trans a7 (fun j h1 h2=>by omega)
def A6(s:ByteArray)(len g:Nat)(T:List (Nat×Nat))(v:Value)(ws:Aeh)(total:Nat):Aei:=
 [.string s,I len,S0 g (s.size+1) (s.size+1)]++(C8 T++(v::(Ad ws++[I total])))
theorem Uc(s:ByteArray)(len g:Nat)(T:List (Nat×Nat))(v:Value)(ws:Aeh)(total i:Nat)(h:i<T.length*2):(A6 s len g T v ws total)[3+i]?=(C8 T)[i]?:=by
 unfold A6;rw[z7 (by simp),show 3+i-[Value.string s,I len,S0 g (s.size+1) (s.size+1)].length=i from by simp,Aav (by rw[Db];exact h)]
theorem Rj(s:ByteArray)(len g:Nat)(T:List (Nat×Nat))(v:Value)(ws:Aeh)(total:Nat)(h:T.length=256):(A6 s len g T v ws total)[515]?=some v:=by
 unfold A6;rw[z7 (by simp),z7 (by rw[Db,h];simp),Db,h];rw[show 515-[Value.string s,I len,S0 g (s.size+1) (s.size+1)].length-256*2=0 from by simp,List.getElem?_cons_zero]
theorem Qs(s:ByteArray)(len g:Nat)(T:List (Nat×Nat))(v:Value)(ws:Aeh)(total i:Nat)(h:T.length=256)(hi:i<ws.length):(A6 s len g T v ws total)[516+i]?=some (.int .i64 (ws.getD i 0:Nat)):=by
 unfold A6;rw[z7 (by simp;omega),z7 (by rw[Db,h];simp;omega),Db,h];rw[show 516+i-[Value.string s,I len,S0 g (s.size+1) (s.size+1)].length-256*2=i+1 from by simp;omega,Acz,Aav (by simp[Ad];exact hi)];simp[Ad,List.getElem?_map,List.getD_eq_getElem?_getD,List.getElem?_eq_getElem hi]
theorem Rk(s:ByteArray)(len g:Nat)(T:List (Nat×Nat))(v:Value)(ws:Aeh)(total:Nat)(h:T.length=256)(a:ws.length=256):(A6 s len g T v ws total)[772]?=some (.int .i64 total):=by
 unfold A6;rw[z7 (by simp),z7 (by rw[Db,h];simp),Db,h];rw[show 772-[Value.string s,I len,S0 g (s.size+1) (s.size+1)].length-256*2=256+1 from by simp,Acz,z7 (by simp[Ad,a])];simp[Ad,a]
theorem aA(s:ByteArray)(len g:Nat)(T:List (Nat×Nat))(v:Value)(ws:Aeh)(total i x:Nat)(h:T.length=256)(hi:i<ws.length):(A6 s len g T v ws total).set (516+i) (.int .i64 x)=A6 s len g T v (ws.set i x) total:=by
 unfold A6;rw[Aba _ _ (by simp;omega),Aba _ _ (by rw[Db,h];simp;omega),Db,h];rw[show 516+i-[Value.string s,I len,S0 g (s.size+1) (s.size+1)].length-256*2=i+1 from by simp;omega,z5,List.set_append_left _ _ (by simp[Ad];exact hi)];congr 4;simp[Ad,List.map_set]
theorem Cq(s:ByteArray)(len g:Nat)(T:List (Nat×Nat))(v:Value)(ws:Aeh)(total:Nat)(h:T.length=256)(a:ws.length=256):(A6 s len g T v ws total).length=773:=by
 unfold A6;simp[Db,h,Ad,a]
structure Bg(w:World)(tb:Nat)(s:ByteArray)(len g:Nat)(T:List (Nat×Nat))(v:Value)(nds:List Nd)(ws:Aeh)(total:Nat):Prop where
 blk:w.heap[tb]?=some (.cells (A6 s len g T v ws total).toArray 96 (0,0))
 row:IntRow w g (B8 s.data.toList)
 nod:w.ownsRow 0 195 9 v nds.length (Bj nds)
 tl:T.length=256
 wl:ws.length=256
 n1:v.ownBlock≠some tb
 n2:g≠tb
 n3:v.ownBlock≠some g
section
variable {w w':World} {tb len g total:Nat} {s:ByteArray} {T:List (Nat×Nat)} {v:Value} {nds:List Hm.Nd} {ws:Aeh} {S:Nat->Prop}
theorem Bg.kept(h:Bg w tb s len g T v nds ws total)(hk:Aa S w w')(h1: ¬S tb)(h2: ¬S g)(a: ∀j,v.ownBlock=some j-> ¬S j):Bg w' tb s len g T v nds ws total:=
 ⟨hk.row h.blk h1,h.row.kept hk h2,hk.owns h.nod a,h.tl,h.wl,h.n1,h.n2,h.n3⟩
theorem Bg.drew(h:Bg w tb s len g T v nds ws total):Bg w.drew tb s len g T v nds ws total:=⟨h.blk,h.row,h.nod,h.tl,h.wl,h.n1,h.n2,h.n3⟩
theorem Bg.drewN(h:Bg w tb s len g T v nds ws total)(k:Nat):Bg (w.drewN k) tb s len g T v nds ws total:=⟨h.blk,h.row,h.nod,h.tl,h.wl,h.n1,h.n2,h.n3⟩
theorem Bg.cellAt(h:Bg w tb s len g T v nds ws total)(i:Nat):w.cell? ⟨tb,i,none⟩=(A6 s len g T v ws total)[i]?:=by
 rw[zP _ _ i _ _ _ h.blk,Aag]
theorem Bg.counted(h:Bg w tb s len g T v nds ws total):Dh w tb 0 s len g:=⟨h.cellAt 0,h.cellAt 1,h.cellAt 2,h.row⟩
theorem Bg.nodes(h:Bg w tb s len g T v nds ws total):w.cell? ⟨tb,515,none⟩=some v:=(h.cellAt 515).trans (Rj s len g T v ws total h.tl)
theorem Bg.tot(h:Bg w tb s len g T v nds ws total):w.cell? ⟨tb,772,none⟩=some (.int .i64 total):=(h.cellAt 772).trans (Rk s len g T v ws total h.tl h.wl)
theorem Bg.weight(h:Bg w tb s len g T v nds ws total)(i:Nat)(hi:i<256):w.cell? ⟨tb,516+i,none⟩=some (.int .i64 (ws.getD i 0:Nat)):=(h.cellAt (516+i)).trans (Qs s len g T v ws total i h.tl (by rw[h.wl];exact hi))
theorem Bg.free(h:Bg w tb s len g T v nds ws total)(i:Nat):w.frozen? ⟨tb,i,none⟩=false:=zR _ _ i _ _ h.blk
theorem Bg.lt(h:Bg w tb s len g T v nds ws total):tb<w.heap.size:=Aac h.blk
theorem Bg.setW(h:Bg w tb s len g T v nds ws total)(i x:Nat)(hi:i<256):Bg (w.setCell ⟨tb,516+i,none⟩ (.int .i64 x)) tb s len g T v nds (ws.set i x) total:=by
 have hk:Aa (fun j=>j=tb) w (w.setCell (J tb (516+i)) (I x)):=(Aa.refl (fun j=>j=tb) w).setCell (p:=(J tb (516+i))) (.inr rfl) _;refine⟨?_,h.row.kept hk h.n2,hk.owns h.nod (fun j a e=>h.n1 (by rw[a,e])),h.tl,by rw[Abb];exact h.wl,h.n1,h.n2,h.n3⟩;have:=zI w tb (516+i) _ _ (I x) h.blk;rw[this,<-aA s len g T v ws total i x h.tl (by rw[h.wl];exact hi)];simp
theorem Bg.setN(h:Bg w tb s len g T v nds ws total){ng d n:Nat}(o:v= .slice (some ⟨ng,0,none⟩) n d)(i:Nat)(x:Value){b:List Nd}(m:b.length=nds.length)(l:(Bj nds).set i x=Bj b):Bg (w.setCell ⟨ng,i,none⟩ x) tb s len g T v b ws total:=by
 subst o;have hk:Aa (fun j=>j=ng) w (w.setCell (J ng i) x):=(Aa.refl (fun j=>j=ng) w).setCell (p:=(J ng i)) (.inr rfl) _;have hno:=h.nod;obtain⟨a,c,e,_⟩:=An hno;simp only[Value.slice.injEq]at e;obtain⟨-,e,-⟩:=e;subst e;have f:tb≠ng:=fun e=>h.n1 (by rw[e];rfl);have k:g≠ng:=fun e=>h.n3 (by rw[e];rfl);refine⟨hk.row h.blk f,h.row.kept hk k,?_,h.tl,h.wl,h.n1,h.n2,h.n3⟩;rw[m,<-l];exact(hno.stored i x).1
end
abbrev Tk(tb:Nat)(v:Value):Nat->Prop:=fun j=>j=tb\/v.ownBlock=some j
theorem eJ(tb g len total size l n d ng:Nat)(s:ByteArray)(T:List (Nat×Nat))(nds:List Nd)(ws:Aeh)(b:Br)(w:World)(h:Bg w tb s len g T (.slice (some ⟨ng,0,none⟩) n d) nds ws total)(hn:n=nds.length)(_hnl:n<=255)(hb:b.node<n)(N:size<=100000):
  Calls prog 183 #[.pointer (some ⟨tb,0,none⟩),.agg (Fu b).toArray,.int .i64 size] w fun e w'=>
   e= .returned (.bool (Ef b size ⟨l,nds,ws⟩).isSome)/\Bg w' tb s len g T (.slice (some ⟨ng,0,none⟩) n d) ((Ef b size ⟨l,nds,ws⟩).getD ⟨l,nds,ws⟩).nds ((Ef b size ⟨l,nds,ws⟩).getD ⟨l,nds,ws⟩).ws total/\Aa (Tk tb (.slice (some ⟨ng,0,none⟩) n d)) w w':=by
 have m:Aee w (w.alloc (.cells (Fu b).toArray 192)):=(Aa.refl _ _).alloc _;have h1:=h.kept m id id (fun _ _=>id);have j:=zY w (.cells (Fu b).toArray 192);have z:=cO 0 j;have A:=cO 1 j;have B:=cO 2 j;have L:=h.lt;obtain⟨k,c,a⟩:=b;have C:(w.alloc (.cells #[.bool k,.int .u8 c.toNat,I a] 192)).cell? (J w.heap.size 0)=some (.bool k):=z;have D:(w.alloc (.cells #[.bool k,.int .u8 c.toNat,I a] 192)).cell? (J w.heap.size 1)=some (.int .u8 c.toNat):=A;have E:(w.alloc (.cells #[.bool k,.int .u8 c.toNat,I a] 192)).cell? (J w.heap.size 2)=some (I a):=B;have i:Bg (w.alloc (.cells #[.bool k,.int .u8 c.toNat,I a] 192)) tb s len g T (S0 ng n d) nds ws total:=h1;have hK:Aa (Tk tb (S0 ng n d)) w (w.alloc (.cells #[.bool k,.int .u8 c.toNat,I a] 192)):=m.wider (fun _ _ h=>h.elim);have t:=c.toNat_lt;clear m h1 j z A B h;show Calls prog 183 #[.pointer (some (J tb 0)),.agg #[.bool k,.int .u8 c.toNat,I a],I size] w _;cases k with
 |true=>
  have e:Ef {whole:=true,val:=c,node:=a} size ⟨l,nds,ws⟩=some ⟨l,nds,ws.set c.toNat size⟩:=rfl;rw[e];clear e
  go_enter func183,ntmps183
  go_wp2_with fail;generalize w.alloc (.cells #[.bool true,.int .u8 c.toNat,I a] 192)=W at*;have r:Aside (Bg (W.setCell (J tb (516+c.toNat)) (I size)) tb s len g T (S0 ng n d) nds (ws.set c.toNat size) total/\Aa (Tk tb (S0 ng n d)) w (W.setCell (J tb (516+c.toNat)) (I size))):=⟨i.setW c.toNat size (by omega),hK.setCell (.inr (.inl rfl)) _⟩;obtain⟨f,v⟩: ∃f,W.cell? (J tb (516+c.toNat))=some f:=⟨_,i.weight c.toNat (by omega)⟩;have G:=i.free (516+c.toNat);have y:(c.toNat:Int)<256:=by omega
  clear i hK t
  go_region
  go_wp2;go_ret;exact⟨rfl,r.o.1.drew,r.o.2.drew⟩
 |false=>
  by_cases u:0<a
  ·have e:Ef {whole:=false,val:=c,node:=a} size ⟨l,nds,ws⟩=some ⟨l,Ff nds a size,ws⟩:=by
    unfold Ef;rw[if_neg (by simp),if_pos u]
   rw[e];clear e;have H:=zJ u;have F:a<n:=hb;have x:=aZ hn;have y:(a:Int)<(n:Int):=by omega
   clear hn hb
   go_enter func183,ntmps183
   go_wp2_with fail;generalize w.alloc (.cells #[.bool false,.int .u8 c.toNat,I a] 192)=W at*;have r:Aside (Bg (W.setCell (J ng (a*9+2)) (I size)) tb s len g T (S0 ng n d) (Ff nds a size) ws total/\Aa (Tk tb (S0 ng n d)) w (W.setCell (J ng (a*9+2)) (I size))):=
    ⟨i.setN rfl (a*9+2) _ (Pb _ _ _) (Zt nds a size (by have:=x.o;omega)),hK.setCell (p:=(J ng (a*9+2))) (.inr (.inr rfl)) _⟩
   have hno:=i.nod;rw[<-x.o]at hno;obtain⟨f,v⟩: ∃f,W.cell? (J ng (a*9+2))=some f:=⟨_,Y3 hno x.o (by have:=x.o;omega)⟩;have G:=hno.frozenAt (a*9+2);have K:=i.nodes;clear i hK t hno
   go_region
   go_wp2;go_ret;exact⟨rfl,r.o.1.drew,r.o.2.drew⟩
  ·obtain rfl:a=0:=by omega
   clear hn
   by_cases q:size=0
   ·subst q;have e:Ef {whole:=false,val:=c,node:=0} 0 ⟨l,nds,ws⟩=some ⟨l,nds,ws⟩:=rfl;rw[e];clear e
    go_enter func183,ntmps183
    go_wp2;go_ret;exact⟨rfl,i,hK⟩
   ·have e:Ef {whole:=false,val:=c,node:=0} size ⟨l,nds,ws⟩=none:=by
     unfold Ef;rw[if_neg (by simp),if_neg (by simp),if_neg q]
    rw[e];clear e;have M:((size:Int)==0)=false:=by rw[Aat];omega
    clear q
    go_enter func183,ntmps183
    go_wp2;go_ret;exact⟨rfl,i,hK⟩
end
end Go.Proofs.YtegnkfdbmmndaaaGreat
