import Derived.Test.YtegnkfdbmmndaaaGreatJ00
import Derived.Test.YtegnkfdbmmndaaaGreatJ14
import Derived.Test.YtegnkfdbmmndaaaGreatJ11
import Derived.Test.YtegnkfdbmmndaaaGreatShelf
import Derived.Test.YtegnkfdbmmndaaaGreatJ08
import Derived.Test.YtegnkfdbmmndaaaGreatJ13
import Derived.Test.YtegnkfdbmmndaaaGreatJ05
import Derived.Test.YtegnkfdbmmndaaaGreatJ03

namespace Go.Proofs.YtegnkfdbmmndaaaGreat
open Hm
open Go.RowKit Go.Sort Go.Shelf Go.Lib
theorem Hm.Good.of_agree{key:UInt8→Nat}{d0 d e:Array UInt8}{a b:Nat}(hs:De d e a b)(hk:Hm.Srt key e a b)(h: ∀k,a≤k→k<b→d[k]! =d0[k]!):Hm.Good key d0 e a b:=
 ⟨fun x=>by
  rw[hs.mem];exact⟨fun⟨k,h1,h2,h3⟩=>⟨k,h1,h2,by rw[←h k h1 h2];exact h3⟩,fun⟨k,h1,h2,h3⟩=>⟨k,h1,h2,by rw[h k h1 h2];exact h3⟩⟩,hk⟩
set_option maxHeartbeats 8000000 in
set_option maxRecDepth 100000 in
theorem Afv{cf:UInt8→UInt8→Int}{key:UInt8→Nat}{Rl:UInt8→UInt8→Prop}(O:Hm.Ord cf key Rl)(g:Nat)(cb:Array Value)(eg: ∀args w,(callFunc g args).run Tryz.prog w= .ok (.enter g args) w)
  (w0:World) (blk cap:Nat) (d0:Array UInt8) (w:World) (hcmp:CmpLays1 Tryz.prog g cb Ar cf blk 0 d0.size w0) (R:Row1 Ar w0 blk 0 d0) (hsz:d0.size≤256) (S:SW Ar w0 blk 0 d0 w) (hp: ∀i j,i<j→j<d0.size→Rl d0[i]! d0[j]!):
  Calls Tryz.prog 218 #[.slice (some ⟨blk,0,none⟩) d0.size cap,.int .i64 d0.size,.func (.func g) #[] cb] w fun e w'=>e= .returned (.tuple #[])∧ ∃d',d'.size=d0.size∧Hm.Good key d0 d' 0 d0.size∧SW Ar w0 blk 0 d' w':=by
 have hins: ∀(a b:Nat) (d:Array UInt8) (W:World),d.size=d0.size→Aside (SW Ar w0 blk 0 d W)→a≤b→b≤d0.size→(∀k,a≤k→d[k]! =d0[k]!)→
   Calls Tryz.prog 223 #[.slice (some ⟨blk,0,none⟩) d0.size cap,.int .i64 a,.int .i64 b,.func (.func g) #[] cb] W fun e w'=>e= .returned (.tuple #[])∧ ∃d',De d d' a b∧Hm.Srt key d' a b∧SW Ar w0 blk 0 d' w':=fun a b d W h1 h2 h3 h4 h5=>by
  rw[←h1];exact Zx O g cb eg w0 blk cap a b d0 d W hcmp R h1.symm h2.out h3 (by omega) (by omega) (fun p q h6 h7 h8=>by rw[h5 p h6,h5 q (by omega)];exact hp p q h7 (by omega))
 have hmrg: ∀(a m b:Nat) (d:Array UInt8) (W:World),d.size=d0.size→Aside (SW Ar w0 blk 0 d W)→a<m→m<b→b≤d0.size→Hm.Good key d0 d a m→Hm.Good key d0 d m b→
   Calls Tryz.prog 224 #[.slice (some ⟨blk,0,none⟩) d0.size cap,.int .i64 a,.int .i64 m,.int .i64 b,.func (.func g) #[] cb] W fun e w'=>e= .returned (.tuple #[])∧ ∃d',De d d' a b∧Hm.Srt key d' a b∧SW Ar w0 blk 0 d' w':=fun a m b d W h1 h2 h3 h4 h5 g1 g2=>
  R6 O g cb eg w0 blk cap d0 hcmp R hsz (b-a+1) a m b d W (by omega) h1 h2 h3 h4 h5 g1.srt g2.srt (g1.lr g2 hp h5)
 have HIns:Aside _:=hins;have HMrg:Aside _:=hmrg;have S0:Aside (SW Ar w0 blk 0 d0 w):=S;clear S hcmp hins hmrg hp
 go_enter Tryz.func218,Tryz.ntmps218
 go_wp2_with fail
 go_loopg [7,8] d0.size (fun g1 va vb wr=> ∃(a:Nat) (dk:Array UInt8),va= .int .i64 a∧vb= .int .i64 ((a+20:Nat):Int)∧a+g1=d0.size∧dk.size=d0.size∧Aside (SW Ar w0 blk 0 dk wr)∧Hid (Kc key d0 dk d0.size 20 a∧ ∀k,a≤k→dk[k]! =d0[k]!))
 case atStart=>exact⟨0,d0,rfl,rfl,by omega,rfl,S0,Kc.none _ _ _ _ _,fun _ _=>rfl⟩
 case round=>
  clear S0;obtain⟨a,dk,rfl,rfl,hgk,hsk,S1,HO⟩:=hrel
  by_cases hlt:a+20≤d0.size
  ·have hd:decide (((a+20:Nat):Int)≤(d0.size:Int))=true:=Alb (by omega);have hd':(a:Int)+20≤(d0.size:Int):=by omega
   have hr:=HIns.out a (a+20) dk wr hsk S1 (by omega) hlt HO.out.2;clear HIns HMrg;go_wp2_with fail;refine hr.mono ?_;rintro e2 w2 ⟨rfl,d2,hsm,hsr,S2⟩;have HN:Hid (Kc key d0 d2 d0.size 20 (a+20)∧ ∀k,a+20≤k→d2[k]! =d0[k]!):=
    ⟨HO.out.1.step hsm hlt (Hm.Good.of_agree hsm hsr (fun k h1 _=>HO.out.2 k h1)),fun k hk=>by rw[hsm.out k (.inr hk)];exact HO.out.2 k (by omega)⟩
   have hsn:d2.size=d0.size:=hsm.size.trans hsk;have SS:Aside (SW Ar w0 blk 0 d2 w2):=S2;clear hr hsm hsr S2 HO S1;go_wp2_with fail
   go_roundg (d0.size-(a+20))
   case measure=>omega
   case rel=>exact⟨a+20,d2,by go_num,by first|go_num|(congr 1;omega),by omega,hsn,SS,HN⟩
  ·have hd:decide (((a+20:Nat):Int)≤(d0.size:Int))=false:=Ald (by omega);have hd': ¬(a:Int)+20≤(d0.size:Int):=by omega
   have hr:=HIns.out a d0.size dk wr hsk S1 (by omega) (Ale _) HO.out.2;clear HIns;go_wp2_with fail;refine hr.mono ?_;rintro e2 w2 ⟨rfl,d2,hsm,hsr,S2⟩;have HN:Hid (Dh key d0 d2 d0.size 20 0):=
    HO.out.1 d2 (fun k hk=>hsm.out k (.inl hk)) (.last a (by omega) (by omega) (Hm.Good.of_agree hsm hsr (fun k h1 _=>HO.out.2 k h1)))
   have hsn:d2.size=d0.size:=hsm.size.trans hsk;have SS:Aside (SW Ar w0 blk 0 d2 w2):=S2;clear hr hsm hsr S2 HO S1 hgk hsk hlt hd hd';go_wp2_with fail
   go_loopg [6] d0.size (fun g1 vs wr=> ∃(bs:Nat) (dk:Array UInt8),vs= .int .i64 bs∧0<bs∧bs≤1024∧d0.size-bs≤g1∧dk.size=d0.size∧Aside (SW Ar w0 blk 0 dk wr)∧Hid (Dh key d0 dk d0.size bs 0))
   case atStart=>exact⟨20,d2,rfl,by omega,by omega,by omega,hsn,SS,HN⟩
   case round=>
    clear SS HN hsn d2;obtain⟨bs,dk,rfl,hb0,hb1,hgk,hsk,S1,HO⟩:=hrel
    by_cases hlt:bs<d0.size
    ·have hd:decide ((bs:Int)<(d0.size:Int))=true:=Alb (by omega);have hd':(bs:Int)<(d0.size:Int):=by omega
     go_wp2_with fail
     go_loopg [7,8] d0.size (fun g2 va vb wr2=> ∃(a:Nat) (de:Array UInt8),va= .int .i64 a∧vb= .int .i64 ((a+2*bs:Nat):Int)∧a+g2=d0.size∧de.size=d0.size∧Aside (SW Ar w0 blk 0 de wr2)∧Hid (Kc key d0 de d0.size (2*bs) a∧Dh key d0 de d0.size bs a))
     case atStart=>exact⟨0,dk,rfl,by first|rfl|go_num|(congr 1;omega),by omega,hsk,S1,Kc.none _ _ _ _ _,HO.out⟩
     case round=>
      clear S1 HO hsk dk;obtain⟨a,dk,rfl,rfl,hg2,hsk,S1,HO⟩:=hrel
      by_cases hle:a+2*bs≤d0.size
      ·have hd2:decide (((a+2*bs:Nat):Int)≤(d0.size:Int))=true:=Alb (by omega);have hd2':(a:Int)+2*(bs:Int)≤(d0.size:Int):=by omega
       obtain⟨g1,g3,g4⟩:=HO.out.2.two hb0 hle;have hr:=HMrg.out a (a+bs) (a+2*bs) dk wr hsk S1 (by omega) (by omega) hle g1 g3;rw[show((a+bs:Nat):Int)=(a:Int)+(bs:Int)from by omega,show((a+2*bs:Nat):Int)=(a:Int)+2*(bs:Int)from by omega]at hr;have HG:Aside (Hm.Good key d0 dk a (a+bs)∧Hm.Good key d0 dk (a+bs) (a+2*bs)∧Dh key d0 dk d0.size bs (a+2*bs)):=⟨g1,g3,g4⟩;clear HMrg g1 g3 g4;go_wp2_with fail;refine hr.mono ?_;rintro e2 w2 ⟨rfl,d2,hsm,hsr,S2⟩;have HN:Hid (Kc key d0 d2 d0.size (2*bs) (a+2*bs)∧Dh key d0 d2 d0.size bs (a+2*bs)):=
        ⟨HO.out.1.step hsm hle (HG.out.1.merged HG.out.2.1 (by omega) (by omega) hsm hsr),HG.out.2.2.agree fun k h1 _=>hsm.out k (.inr h1)⟩
       have hsn:d2.size=d0.size:=hsm.size.trans hsk;have SS:Aside (SW Ar w0 blk 0 d2 w2):=S2;clear hr hsm hsr S2 HO S1 HG;go_wp2_with fail
       go_roundg (d0.size-(a+2*bs))
       case measure=>omega
       case rel=>exact⟨a+2*bs,d2,by first|rfl|go_num|(congr 1;omega),by first|rfl|go_num|(congr 1;omega),by omega,hsn,SS,HN⟩
      ·have hd2:decide (((a+2*bs:Nat):Int)≤(d0.size:Int))=false:=Ald (by omega);have hd2': ¬(a:Int)+2*(bs:Int)≤(d0.size:Int):=by omega
       by_cases hm:a+bs<d0.size
       ·have hd3:decide ((a:Int)+(bs:Int)<(d0.size:Int))=true:=Alb (by omega);have hd3':(a:Int)+(bs:Int)<(d0.size:Int):=by omega
        obtain⟨g1,g3⟩:=HO.out.2.rest hm (by omega);have hr:=HMrg.out a (a+bs) d0.size dk wr hsk S1 (by omega) (by omega) (Ale _) g1 g3;rw[show((a+bs:Nat):Int)=(a:Int)+(bs:Int)from by omega]at hr;have HG:Aside (Hm.Good key d0 dk a (a+bs)∧Hm.Good key d0 dk (a+bs) d0.size):=⟨g1,g3⟩;clear HMrg g1 g3;go_wp2_with fail;refine hr.mono ?_;rintro e2 w2 ⟨rfl,d2,hsm,hsr,S2⟩;have HN:Hid (Dh key d0 d2 d0.size (2*bs) 0):=
         HO.out.1 d2 (fun k hk=>hsm.out k (.inl hk)) (.last a (by omega) (by omega) (HG.out.1.merged HG.out.2 (by omega) (by omega) hsm hsr))
        have hsn:d2.size=d0.size:=hsm.size.trans hsk;have SS:Aside (SW Ar w0 blk 0 d2 w2):=S2;clear hr hsm hsr S2 HO S1 HG;go_wp2_with fail
        go_roundg (d0.size-2*bs)
        case measure=>omega
        case rel=>exact⟨2*bs,d2,by first|rfl|go_num|(congr 1;omega),by omega,by omega,by omega,hsn,SS,HN⟩
       ·have hd3:decide ((a:Int)+(bs:Int)<(d0.size:Int))=false:=Ald (by omega);have hd3': ¬(a:Int)+(bs:Int)<(d0.size:Int):=by omega
        have HN:Hid (Dh key d0 dk d0.size (2*bs) 0):=HO.out.1.all (HO.out.2.one (by omega) (by omega));clear HMrg HO;go_wp2_with fail
        go_roundg (d0.size-2*bs)
        case measure=>omega
        case rel=>exact⟨2*bs,dk,by first|rfl|go_num|(congr 1;omega),by omega,by omega,by omega,hsk,S1,HN⟩
    ·have hd:decide ((bs:Int)<(d0.size:Int))=false:=Ald (by omega);have hd': ¬(bs:Int)<(d0.size:Int):=by omega
     clear HMrg;go_wp2
     go_end0
     exact⟨rfl,dk,hsk,HO.out.whole (by omega),S1.out⟩
set_option maxHeartbeats 400000 in
theorem Xs{cf:UInt8→UInt8→Int}{key:UInt8→Nat}{Rl:UInt8→UInt8→Prop}(O:Hm.Ord cf key Rl)(g:Nat)(cb:Array Value)(eg: ∀args w,(callFunc g args).run Tryz.prog w= .ok (.enter g args) w)
  (blk cap:Nat) (d0:Array UInt8) (w:World) (hcmp:CmpLays1 Tryz.prog g cb Ar cf blk 0 d0.size w) (R:Row1 Ar w blk 0 d0) (hsz:d0.size≤256) (hp: ∀i j,i<j→j<d0.size→Rl d0[i]! d0[j]!):
  Calls Tryz.prog 201 #[.slice (some ⟨blk,0,none⟩) d0.size cap,.func (.func g) #[] cb] w fun e w'=>e= .returned (.tuple #[])∧ ∃d',d'.size=d0.size∧Hm.Good key d0 d' 0 d0.size∧SW Ar w blk 0 d' w':=by
 have hin:=Afv O g cb eg w blk cap d0 w hcmp R hsz (SW.start R.hH) hp;clear hcmp R hp
 go_enter Tryz.func201,Tryz.ntmps201
 go_wp2_with fail;refine hin.mono ?_;rintro e w2 ⟨rfl,d',h1,h2,h3⟩;have HX:Aside (d'.size=d0.size∧Hm.Good key d0 d' 0 d0.size∧SW Ar w blk 0 d' w2):=⟨h1,h2,h3⟩;clear h1 h2 h3 hin;go_wp2
 go_end0
 exact⟨rfl,d',HX.out⟩
end Go.Proofs.YtegnkfdbmmndaaaGreat
namespace Go.Proofs.YtegnkfdbmmndaaaGreat
open Hm
open Go.RowKit Go.Sort Go.Shelf
set_option maxHeartbeats 400000 in
theorem Afw(lb:Nat)(L:List Nat)(x y:UInt8)(w:World)(hL:L.length=256)(h:w.heap[lb]?=some (.cells (Ac L).toArray 139 (0,0))):
  Calls Tryz.prog 202 #[.int .u8 (x.toNat:Nat),.int .u8 (y.toNat:Nat),.pointer (some ⟨lb,0,none⟩)] w fun e w'=>e= .returned (.int .i64 (Abf L x y))∧ ∃q,w'=w.drewN q:=by
 have hc: ∀b:UInt8,w.cell? ⟨lb,b.toNat,none⟩=some (.int .i64 (Hm.lnB L b:Nat)):=fun b=>by
  rw[Alc _ _ _ _ _ _ h];have hb:=b.toNat_lt;simp[Ac,Hm.lnB,List.getD_eq_getElem?_getD,List.getElem?_eq_getElem (show b.toNat<L.length from by omega)]
 have c1:=hc x;have c2:=hc y;have hcm:=fun W=>Tryz.cmp_Compare_int (Hm.lnB L x:Nat) (Hm.lnB L y:Nat) W;have HR:Hid (Abf L x y=Lib.compareInt (Hm.lnB L x:Nat) (Hm.lnB L y:Nat)):=rfl;rw[HR.out];generalize Lib.compareInt (Hm.lnB L x:Nat) (Hm.lnB L y:Nat)=r at*;generalize Hm.lnB L x=lx at*;generalize Hm.lnB L y=ly at*;have h1:=x.toNat_lt;have h2:=y.toNat_lt;generalize x.toNat=xn at*;generalize y.toNat=yn at*;have h3:(xn:Int)<256:=by omega
 have h4:(yn:Int)<256:=by omega
 clear hc h hL HR
 go_enter Tryz.func202,Tryz.ntmps202
 go_wp2_with fail;go_quiet(first|(refine Ams (hcm _)));go_wp2;go_ret;exact⟨rfl,_,rfl⟩
set_option maxHeartbeats 400000 in
theorem Xt(v f:Value)(w:World):Calls Tryz.prog 223 #[v,.int .i64 0,.int .i64 0,f] w fun e w'=>e= .returned (.tuple #[])∧w=w':=by
 go_enter Tryz.func223,Tryz.ntmps223
 go_wp2;refine wp_loop_rounds 1 ?_;rw[rounds_succ];go_wp2
 go_end0
 exact⟨rfl,rfl⟩
set_option maxHeartbeats 400000 in
theorem Adh(v f:Value)(w:World):Calls Tryz.prog 218 #[v,.int .i64 0,f] w fun e w'=>e= .returned (.tuple #[])∧w=w':=by
 have hin:=Xt v f w
 go_enter Tryz.func218,Tryz.ntmps218
 go_wp2;refine wp_loop_rounds 1 ?_;rw[rounds_succ]
 go_wp2_with(go_at_call 223;refine hin.mono ?_;rintro e w2 ⟨rfl,rfl⟩)
 refine wp_loop_rounds 1 ?_;rw[rounds_succ];go_wp2
 go_end0
 exact⟨rfl,rfl⟩
set_option maxHeartbeats 400000 in
theorem V5(a:Option Addr)(c:Nat)(f:Value)(w:World):Calls Tryz.prog 201 #[.slice a 0 c,f] w fun e w'=>e= .returned (.tuple #[])∧w=w':=by
 have hin:=Adh (.slice a 0 c) f w
 go_enter Tryz.func201,Tryz.ntmps201
 go_wp2_with(go_at_call 218;refine hin.mono ?_;rintro e w2 ⟨rfl,rfl⟩)
 go_end0
 exact⟨rfl,rfl⟩
theorem Adi{w:World}{base g n cap:Nat}{e:TypeId}{xs:List Value}(h:w.ownsRow base e 1 (.slice (some ⟨g,0,none⟩) n cap) n xs)(m:Nat)(d:Array UInt8)(os:Array Obj)(hd:d.size=n):
  (sortWorld Ar w g 0 m d os).ownsRow base e 1 (.slice (some ⟨g,0,none⟩) n cap) n (Ag d.toList):=by
 rcases h.2 with⟨h1,_⟩|⟨g2,cap2,cur,h1,h2,h3,h4,h5,h6,h7⟩
 ·cases h1
 ·cases h1;refine⟨by simp[Ag,hd],.inr ⟨g,cap,putCells Ar 0 d cur,rfl,h2,?_,h4,h5,by rw[←h6];simp[putCells],?_⟩⟩
  ·show((putRow Ar (Sort.ahead w m) g 0 d).heap++os)[g]?=_;rw[Array.getElem?_append_left (by rw[size_putRow];exact Alw h3)];show(w.heap.modify g _)[g]?=_;rw[Array.getElem?_modify,if_pos rfl,h3];rfl
  ·apply Amf
   ·simp[Ag,putCells,hd,h6];omega
   ·intro i h8 h9;have hi:i<d.size:=by simpa[Ag]using h9
    simp[putCells,Ag,hi,Ar]
theorem Aje(L:List Nat)(hL:L.length=256)(lb g n:Nat)(w:World)(h:w.heap[lb]?=some (.cells (Ac L).toArray 139 (0,0)))(hne:lb≠g):
  CmpLays1 Tryz.prog 202 #[.pointer (some ⟨lb,0,none⟩)] Ar (Abf L) g 0 n w:=fun m os dk _ x y=>by
 have hb:(sortWorld Ar w g 0 m dk os).heap[lb]?=some (.cells (Ac L).toArray 139 (0,0)):=by
  rw[Jm Ar w g 0 m dk os lb (Alw h) hne];exact h
 refine(Afw lb L x y _ hL hb).mono ?_;rintro e w' ⟨he,q,rfl⟩;exact⟨he,q,#[],by rw[grow_empty]⟩
set_option maxHeartbeats 2000000 in
theorem R7(L:List Nat)(w:World)(hL:L.length=256)(hx: ∀x∈L,x≤255):
  Calls Tryz.prog 181 #[.agg (Ac L).toArray] w fun e w'=> ∃v,e= .returned v∧w'.ownsRow w.heap.size 5 1 v (Af L).length (Ag (Af L))∧Apd w w':=by
 have hasz:(Ac L).toArray.size=256:=by rw[A2,hL]
 have hxb: ∀b:UInt8,Hm.lnB L b≤255:=fun b=>by
  have hb:=b.toNat_lt;rw[Hm.lnB,Ak6,Ak7 (show b.toNat<L.length from by omega)];exact hx _ (Alo _)
 have hby:=Rq L (w.alloc (.cells (Ac L).toArray 139)) hL (fun x h=>by have:=hx x h;omega);have hbox:(w.alloc (.cells (Ac L).toArray 139)).heap[w.heap.size]?=some (.cells (Ac L).toArray 139 (0,0)):=All w _;have hlay:=fun g n W h hne=>Aje L hL w.heap.size g n W h hne;have HLY:Aside _:=hlay;have hol:=Im L hxb;have hcl:=E0 L 256
 change (Ai L).length≤256 at hcl
 have HXB:Aside _:=hxb;clear hlay hxb;generalize hA:(Ac L).toArray=arr at*
 go_enter Tryz.func181,Tryz.ntmps181
 go_wp2_with(first
  |(refine Amd rfl 139 _ rfl w.heap.size rfl 139 arr (0,0) _ hbox Tryz.underlying139 rfl (by rw[hasz];exact B9) ?_))
 refine hby.mono ?_;rintro e w2 ⟨v,rfl,ho,hk⟩;have hb2:=hk.row hbox id;have hkw:Apd w w2:=((Aa.refl (fun _=>False) w).alloc _).trans hk (fun _ _ h=>h);have hob:=E4 (base':=w.heap.size) ho (fun k hk=>by have:=ho.lt k hk;simp at this;omega);have hgt: ∀k,v.ownBlock=some k→w.heap.size<k:=fun k hk=>by have:=ho.lt k hk;simp at this;omega
 by_cases h0:(Ai L).length=0
 ·obtain⟨ao,cp,hv,_⟩:=Ay hob;rw[h0]at hv;subst hv;have hst:=fun f W=>V5 ao cp f W;have HX:Aside (w2.ownsRow w.heap.size 5 1 (.slice ao 0 cp) (Af L).length (Ag (Af L))∧Apd w w2):=by
   have e1:Ai L=[]:=Amj h0;have e2:Af L=[]:=Amj (by omega);rw[e1]at hob;rw[e2];exact⟨hob,hkw⟩
  clear hby hbox ho hk hb2 hkw hob hgt HLY HXB hol hcl;go_wp2_with fail;refine(hst _ _).mono ?_;rintro e w3 ⟨rfl,rfl⟩;go_wp2;go_ret;exact⟨_,rfl,HX.out⟩
 ·obtain⟨g,cap,hv,hnc,hgw⟩:=Cf hob (by omega);subst hv;have hgg:=hgt g rfl;have hd0:(Ai L).toArray.size=(Ai L).length:=by simp
  have hR:Row1 Ar w2 g 0 (Ai L).toArray:=⟨Ajd,fun j hj=>by
   have hj':j<(Ai L).length:=by simpa using hj
   refine⟨?_,by rw[Al7];exact hob.frozenAt _⟩;rw[Al7,hob.cellAt j (by omega)];simp[Ag,Ar,hj'],hgw⟩
  have hss:=Xs (Ak5 L) 202 #[.pointer (some ⟨w.heap.size,0,none⟩)] (fun args W=>by kernel_rfl) g cap (Ai L).toArray w2 (HLY.out g _ w2 hb2 (by omega)) hR (by omega) (fun i j h1 h2=>by
   have hj':j<(Ai L).length:=by simpa using h2
   have hi':i<(Ai L).length:=by omega
   have:=List.pairwise_iff_getElem.1 (Mf L) i j hi' hj' h1;intro _;simpa[hi',hj']using this)
  rw[hd0]at hss;have HX:Aside (w2.ownsRow w.heap.size 5 1 (.slice (some ⟨g,0,none⟩) (Ai L).length cap) (Ai L).length (Ag (Ai L))∧Apd w w2):=⟨hob,hkw⟩;clear hby hbox ho hk hb2 hkw hob hgt HLY hR hd0;go_wp2_with fail;refine hss.mono ?_;rintro e w3 ⟨rfl,d',hds,hgd,m,os,rfl⟩;have HY:Aside ((sortWorld Ar w2 g 0 m d' os).ownsRow w.heap.size 5 1 (.slice (some ⟨g,0,none⟩) (Ai L).length cap) (Af L).length (Ag (Af L))∧Apd w (sortWorld Ar w2 g 0 m d' os)):=by
   have e1:=hgd.order HXB.out hds;have h1:=Adi HX.out.1 m d' os hds;rw[e1]at h1;rw[hol];exact⟨h1,HX.out.2.trans (Pf Ar w2 g 0 m d' os) (fun j h1 h2=>by omega)⟩
  clear hss hgd hds HX;generalize sortWorld Ar w2 g 0 m d' os=w4 at*;go_wp2;go_ret;exact⟨_,rfl,HY.out⟩
end Go.Proofs.YtegnkfdbmmndaaaGreat
namespace Go.Proofs.YtegnkfdbmmndaaaGreat
open Hm
open Go.RowKit
theorem Qp:Tryz.zeroCells92.size=512:=by kernel_rfl
def Ny(n:Nat):List Value:=(List.replicate n ()).flatMap fun _=>[.int .u64 0,.int .i64 0]
theorem Ajf:Tryz.zeroCells92=(Ny 256).toArray:=by kernel_rfl
theorem Nz:(Tryz.prog.info? 92).map (·.size)=some 512:=by kernel_rfl
def Cu:List (Nat×Nat)→List Value
 |[]=>[]
 |p::r=> .int .u64 (p.1:Nat):: .int .i64 (p.2:Nat)::Cu r
theorem C9(l:List (Nat×Nat)):(Cu l).length=l.length*2:=by
 induction l with
 |nil=>rfl
 |cons p r ih=>simp[Cu,ih];omega
theorem V6(l:List (Nat×Nat)): ∀i,(h:i<l.length)→(Cu l)[i*2]?=some (.int .u64 (l[i].1:Nat))∧(Cu l)[i*2+1]?=some (.int .i64 (l[i].2:Nat)):=by
 induction l with
 |nil=>intro i h;simp at h
 |cons p r ih=>
  intro i h;cases i with
  |zero=>exact⟨rfl,rfl⟩
  |succ i=>
   have:=ih i (by simpa using h);rw[show(i+1)*2=i*2+1+1 from by omega];simpa[Cu]using this
theorem Afx(l:List (Nat×Nat))(p:Nat×Nat): ∀i,(h:i<l.length)→((Cu l).set (i*2) (.int .u64 (p.1:Nat))).set (i*2+1) (.int .i64 (p.2:Nat))=Cu (l.set i p):=by
 induction l with
 |nil=>intro i h;simp at h
 |cons q r ih=>
  intro i h;cases i with
  |zero=>rfl
  |succ i=>
   have:=ih i (by simpa using h);rw[show(i+1)*2=i*2+1+1 from by omega];simp[Cu,this]
theorem T6(n:Nat):Cu (List.replicate n (0,0))=Ny n:=by
 induction n with
 |zero=>rfl
 |succ n ih=>rw[Anf,Cu,ih];simp[Ny,List.replicate_succ]
theorem P5(l:List (Nat×Nat)):(Cu l).toArray.all (·.oneCell')=true:=by
 rw[An2];intro v hv;have hv':v∈Cu l:=by simpa using hv
 clear hv;induction l with
 |nil=>simp[Cu]at hv'
 |cons p r ih=>
  simp only[Cu,List.mem_cons]at hv';rcases hv' with rfl|rfl|h
  ·rfl
  ·rfl
  ·exact ih h
def In(w:World)(g:Nat)(T:List (Nat×Nat)):Prop:=w.heap[g]?=some (.cells (Cu T).toArray 92 (0,0))
theorem In.set{w:World}{g:Nat}{T:List (Nat×Nat)}(h:In w g T)(i:Nat)(hi:i<T.length)(p:Nat×Nat):In ((w.setCell ⟨g,i*2,none⟩ (.int .u64 (p.1:Nat))).setCell ⟨g,i*2+1,none⟩ (.int .i64 (p.2:Nat))) g (T.set i p):=by
 have h2:=Alf _ g (i*2+1) _ _ (.int .i64 (p.2:Nat)) (Alf w g (i*2) _ _ (.int .u64 (p.1:Nat)) h);unfold In;rw[h2,←Afx T p i hi];congr 2;simp
theorem R8{wr:World}{b2 b3 bn:Nat}{T:List (Nat×Nat)}{x y:Value}(ht:In wr b2 T)(hn:wr.heap[b3]?=some (.cells #[x,y] 90 (0,0)))(hne:b2≠b3)(hb:bn<T.length)(p:Nat×Nat):
  In ((((wr.setCell ⟨b3,0,none⟩ (.int .u64 (p.1:Nat))).setCell ⟨b3,1,none⟩ (.int .i64 (p.2:Nat))).setCell ⟨b2,bn*2,none⟩ (.int .u64 (p.1:Nat))).setCell ⟨b2,bn*2+1,none⟩ (.int .i64 (p.2:Nat))) b2 (T.set bn p)∧
  ((((wr.setCell ⟨b3,0,none⟩ (.int .u64 (p.1:Nat))).setCell ⟨b3,1,none⟩ (.int .i64 (p.2:Nat))).setCell ⟨b2,bn*2,none⟩ (.int .u64 (p.1:Nat))).setCell ⟨b2,bn*2+1,none⟩ (.int .i64 (p.2:Nat))).heap[b3]?=some (.cells #[.int .u64 (p.1:Nat),.int .i64 (p.2:Nat)] 90 (0,0))∧
  Aa (fun j=>j=b2∨j=b3) wr ((((wr.setCell ⟨b3,0,none⟩ (.int .u64 (p.1:Nat))).setCell ⟨b3,1,none⟩ (.int .i64 (p.2:Nat))).setCell ⟨b2,bn*2,none⟩ (.int .u64 (p.1:Nat))).setCell ⟨b2,bn*2+1,none⟩ (.int .i64 (p.2:Nat))):=by
 have h1:=Alf _ b3 1 _ _ (.int .i64 (p.2:Nat)) (Alf wr b3 0 _ _ (.int .u64 (p.1:Nat)) hn);have h2:In ((wr.setCell ⟨b3,0,none⟩ (.int .u64 (p.1:Nat))).setCell ⟨b3,1,none⟩ (.int .i64 (p.2:Nat))) b2 T:=by
  unfold In;rw[Ano _ _ _ _ hne,Ano _ _ _ _ hne];exact ht
 refine⟨h2.set bn hb p,?_,?_⟩
 ·rw[Ano _ _ _ _ (fun e=>hne e.symm),Ano _ _ _ _ (fun e=>hne e.symm)];exact h1
 ·exact((((Aa.refl (fun j=>j=b2∨j=b3) wr).setCell (p:=⟨b3,0,none⟩) (.inr (.inr rfl)) _).setCell (p:=⟨b3,1,none⟩) (.inr (.inr rfl)) _).setCell (p:=⟨b2,bn*2,none⟩) (.inr (.inl rfl)) _).setCell (p:=⟨b2,bn*2+1,none⟩) (.inr (.inl rfl)) _
set_option maxHeartbeats 4000000 in
set_option maxRecDepth 100000 in
theorem V7(L:List Nat)(w:World)(hL:L.length=256)(hx: ∀x∈L,x≤255)(hF:L7 L (Af L)):
  Calls Tryz.prog 149 #[.agg (Ac L).toArray] w fun e w'=>e= .returned (.agg (Cu (Bc L)).toArray)∧Apd w w':=by
 have hasz:(Ac L).toArray.size=256:=by rw[A2,hL]
 have HT0:Aside (Tryz.zeroCells92=(Cu (Df L (Af L) 256 0)).toArray):=by show _=_;rw[Ajf,Df,T6]
 have hor:=fun W=>R7 L W hL hx;have hcell: ∀W:World,W.heap[w.heap.size]?=some (.cells (Ac L).toArray 139 (0,0))→ ∀b:UInt8,W.cell? ⟨w.heap.size,b.toNat,none⟩=some (.int .i64 (Hm.lnB L b:Nat)):=by
  intro W hW b;have hb:=b.toNat_lt;rw[Alc _ _ _ _ _ _ hW];simp[Ac,Hm.lnB,List.getD_eq_getElem?_getD,List.getElem?_eq_getElem (show b.toNat<L.length from by omega)]
 have hol:(Af L).length≤256:=by
  have hxb: ∀b:UInt8,Hm.lnB L b≤255:=fun b=>by
   have hb:=b.toNat_lt;rw[Hm.lnB,Ak6,Ak7 (show b.toNat<L.length from by omega)];exact hx _ (Alo _)
  rw[Im L hxb];exact E0 L 256
 have HCELL:Aside _:=hcell;have HF:Aside _:=hF;have HR:Hid (Bc L=Df L (Af L) 256 (Af L).length):=rfl;rw[HR.out];have hbox0:(((((w.alloc (.cells (Ac L).toArray 139)).alloc (.cells Tryz.zeroCells92 92)).alloc (.cells Tryz.zeroCells92 92))).alloc (.cells #[.int .u64 0,.int .i64 0] 90)).heap[w.heap.size]?=some (.cells (Ac L).toArray 139 (0,0)):=
  ((((Aa.refl (fun _=>False) (w.alloc (.cells (Ac L).toArray 139))).alloc _).alloc _).alloc _).row (All w _) id
 have hres0:(((((w.alloc (.cells (Ac L).toArray 139)).alloc (.cells Tryz.zeroCells92 92)).alloc (.cells Tryz.zeroCells92 92))).alloc (.cells #[.int .u64 0,.int .i64 0] 90)).heap[w.heap.size+1]?=some (.cells Tryz.zeroCells92 92 (0,0)):=
  (((Aa.refl (fun _=>False) ((w.alloc (.cells (Ac L).toArray 139)).alloc (.cells Tryz.zeroCells92 92))).alloc _).alloc _).row (Anx w _ _) id
 have htab0:(((((w.alloc (.cells (Ac L).toArray 139)).alloc (.cells Tryz.zeroCells92 92)).alloc (.cells Tryz.zeroCells92 92))).alloc (.cells #[.int .u64 0,.int .i64 0] 90)).heap[w.heap.size+1+1]?=some (.cells Tryz.zeroCells92 92 (0,0)):=by
  have:=((Aa.refl (fun _=>False) (((w.alloc (.cells (Ac L).toArray 139)).alloc (.cells Tryz.zeroCells92 92)).alloc (.cells Tryz.zeroCells92 92))).alloc (.cells #[.int .u64 0,.int .i64 0] 90)).row (All _ _) id;simpa using this
 have hnx0:(((((w.alloc (.cells (Ac L).toArray 139)).alloc (.cells Tryz.zeroCells92 92)).alloc (.cells Tryz.zeroCells92 92))).alloc (.cells #[.int .u64 0,.int .i64 0] 90)).heap[w.heap.size+1+1+1]?=some (.cells #[.int .u64 0,.int .i64 0] 90 (0,0)):=by
  have:=All (((w.alloc (.cells (Ac L).toArray 139)).alloc (.cells Tryz.zeroCells92 92)).alloc (.cells Tryz.zeroCells92 92)) (.cells #[.int .u64 0,.int .i64 0] 90);simpa using this
 have hk0:Apd w (((((w.alloc (.cells (Ac L).toArray 139)).alloc (.cells Tryz.zeroCells92 92)).alloc (.cells Tryz.zeroCells92 92))).alloc (.cells #[.int .u64 0,.int .i64 0] 90)):=((((Aa.refl _ _).alloc _).alloc _).alloc _).alloc _;clear hcell hF;generalize(Ac L).toArray=arr at*
 go_enter Tryz.func149,Tryz.ntmps149
 go_upto_region 3 with fail
 generalize((((w.alloc (.cells arr 139)).alloc (.cells Tryz.zeroCells92 92)).alloc (.cells Tryz.zeroCells92 92))).alloc (.cells #[.int .u64 0,.int .i64 0] 90)=W at*;obtain⟨b3,hb3⟩: ∃b,b=w.heap.size+1+1+1:=⟨_,rfl⟩;rw[←hb3]at hnx0⊢;obtain⟨b2,hb2⟩: ∃b,b=w.heap.size+1+1:=⟨_,rfl⟩;rw[←hb2]at htab0⊢;obtain⟨b1,hb1⟩: ∃b,b=w.heap.size+1:=⟨_,rfl⟩;rw[←hb1]at hres0⊢;have n1:w.heap.size≠b3:=by omega
 have n2:w.heap.size≠b2:=by omega
 have n3:b1≠b2:=by omega
 have n4:b1≠b3:=by omega
 have n5:b2≠b3:=by omega
 have HB:Aside (b1=w.heap.size+1∧b2=w.heap.size+1+1∧b3=w.heap.size+1+1+1):=⟨hb1,hb2,hb3⟩;have hWs:b3<W.heap.size:=Alw hnx0;have hor1:=hor W;clear hb1 hb2 hb3
 go_wp2_with(first
  |(refine Amd rfl 139 _ rfl w.heap.size rfl 139 arr (0,0) _ hbox0 Tryz.underlying139 rfl (by rw[hasz];exact B9) ?_))
 refine hor1.mono ?_;rintro e w2 ⟨v,rfl,ho,hk2⟩;have hbox:=hk2.row hbox0 id;have hres:=hk2.row hres0 id;have htab:=hk2.row htab0 id;have hnx:=hk2.row hnx0 id;have hkw2:=hk0.trans hk2 (fun _ _ h=>h);rw[HT0.out]at htab;have hvg: ∀k,v.ownBlock=some k→b3<k:=fun k hk=>by have:=ho.lt k hk;omega
 obtain⟨ao,cp,hv,_⟩:=Ay ho;subst hv;have HX:Aside (w2.ownsRow W.heap.size 5 1 (.slice ao (Af L).length cp) (Af L).length (Ag (Af L))∧w2.heap[w.heap.size]?=some (.cells arr 139 (0,0))∧w2.heap[b1]?=some (.cells Tryz.zeroCells92 92 (0,0))∧In w2 b2 (Df L (Af L) 256 0)∧w2.heap[b3]?=some (.cells #[.int .u64 0,.int .i64 0] 90 (0,0))∧Apd w w2∧ ∀k,(Value.slice ao (Af L).length cp).ownBlock=some k→b3<k):=⟨ho,hbox,hres,htab,hnx,hkw2,hvg⟩;have hs2:b3<w2.heap.size:=Alw hnx;clear hor hor1 ho hbox hres htab hnx hkw2 hvg hbox0 hres0 htab0 hnx0 hk0 hk2 HT0;generalize hO:Af L=o at*;go_wp2_with fail
 go_loopw[11] (fun i wr=> ∃k:Nat,k≤o.length∧i= .int .i64 k∧In wr b2 (Df L o 256 k)∧wr.heap[b3]?=some (.cells #[.int .u64 ((Be L o k).1:Nat),.int .i64 ((Be L o k).2:Nat)] 90 (0,0))∧Aa (fun j=>j=b2∨j=b3) w2 wr) (fun i _=>o.length-(intOf i).toNat)
 case atStart=>exact⟨0,Alr _,rfl,HX.out.2.2.2.1,HX.out.2.2.2.2.1,Aa.refl _ _⟩
 case round=>
  obtain⟨k,hk,rfl,htb,hnx,hkr⟩:=hrel
  by_cases hlt:k<o.length
  ·obtain⟨b,hbd⟩: ∃b,b=o.getD k 0:=⟨_,rfl⟩;have hor:=hkr.owns HX.out.1 (fun j hj e=>by have:=HX.out.2.2.2.2.2.2 j hj;have:=HB.out;rcases e with e|e<;>omega);have hbx:=hkr.row HX.out.2.1 (fun e=>by rcases e with e|e<;>omega);obtain⟨g,cap,hv,_,hgw⟩:=Cf hor (by omega);simp only[Value.slice.injEq]at hv;obtain⟨hao,_,hcp⟩:=hv;subst hao;subst hcp;have hcb:wr.cell? ⟨g,k,none⟩=some (.int .u8 (b.toNat:Nat)):=by
    rw[hor.cellAt k (by omega),hbd];simp[Ag,hlt]
   have hcl:=HCELL.out wr hbx b;have hl17:=HF.out.short b (by rw[hbd];exact Jw hlt);have hstep:=HF.out.step_le k hlt;have hnum:=HF.out.num_le k hk;have hnum2:=HF.out.num_le (k+1) hlt;have e1:Be L o (k+1)=(((Be L o k).1+if k=0 then 0 else 1)*2^(Hm.lnB L b-(Be L o k).2),Hm.lnB L b):=by rw[hbd];rfl
   have e2:Df L o 256 (k+1)=(Df L o 256 k).set b.toNat (Be L o (k+1)):=by rw[hbd];rfl
   rw[←hbd]at hstep;have hbn:=b.toNat_lt;have hT:=A3 L o 256 k;have htg:=V6 (Df L o 256 k) b.toNat (by omega);have c0:wr.cell? ⟨b3,0,none⟩=some (.int .u64 ((Be L o k).1:Nat)):=Alc _ _ 0 _ _ _ hnx;have c1:wr.cell? ⟨b3,1,none⟩=some (.int .i64 ((Be L o k).2:Nat)):=Alc _ _ 1 _ _ _ hnx;have f0:wr.frozen? ⟨b3,0,none⟩=false:=Alk _ _ 0 _ _ hnx;have f1:wr.frozen? ⟨b3,1,none⟩=false:=Alk _ _ 1 _ _ hnx;obtain⟨x0,t0⟩: ∃x,wr.cell? ⟨b2,b.toNat*2,none⟩=some x:=⟨_,(Alc _ _ _ _ _ _ htb).trans (by rw[Alz];exact htg.1)⟩;obtain⟨x1,t1⟩: ∃x,wr.cell? ⟨b2,b.toNat*2+1,none⟩=some x:=⟨_,(Alc _ _ _ _ _ _ htb).trans (by rw[Alz];exact htg.2)⟩;have g0:wr.frozen? ⟨b2,b.toNat*2,none⟩=false:=Alk _ _ _ _ _ htb;have g1:wr.frozen? ⟨b2,b.toNat*2+1,none⟩=false:=Alk _ _ _ _ _ htb;obtain⟨lg,hlg⟩: ∃lg,Hm.lnB L b=(Be L o k).2+lg:=⟨Hm.lnB L b-(Be L o k).2,by omega⟩;rw[show Hm.lnB L b-(Be L o k).2=lg from by omega]at e1;have H:Aside (In wr b2 (Df L o 256 k)∧wr.heap[b3]?=some (.cells #[.int .u64 ((Be L o k).1:Nat),.int .i64 ((Be L o k).2:Nat)] 90 (0,0))∧Be L o (k+1)=(((Be L o k).1+if k=0 then 0 else 1)*2^lg,Hm.lnB L b)∧Df L o 256 (k+1)=(Df L o 256 k).set b.toNat (Be L o (k+1))∧(Df L o 256 k).length=256∧b.toNat<256):=⟨htb,hnx,e1,e2,hT,hbn⟩;rw[e1]at hnum2;clear hor hbx htb hnx e1 e2 hT htg hbd;obtain⟨c,hc⟩: ∃c,c=(Be L o k).1:=⟨_,rfl⟩;obtain⟨l0,hl0⟩: ∃c,c=(Be L o k).2:=⟨_,rfl⟩;obtain⟨l,hl⟩: ∃c,c=Hm.lnB L b:=⟨_,rfl⟩;obtain⟨bn,hbe⟩: ∃c,c=b.toNat:=⟨_,rfl⟩;have HE:Aside (c=(Be L o k).1∧l0=(Be L o k).2∧l=Hm.lnB L b∧bn=b.toNat):=⟨hc,hl0,hl,hbe⟩;rw[←hc,←hl0]at hnum;rw[←hc]at c0 hnum2;rw[←hl0]at c1 hstep hlg;rw[←hl]at hcl hl17 hstep hlg;rw[←hbe]at hcb hcl t0 t1 g0 g1 hbn;clear hc hl0 hl hbe;have zl:(l:Int)-(l0:Int)=(lg:Int):=by omega
   have hbI:(bn:Int)<256:=by omega
   have hkI:decide ((k:Int)<(o.length:Int))=true:=Alb (by omega);have hgl:lg≤64:=by omega
   have m1:g≠b3:=by have:=HX.out.2.2.2.2.2.2 g rfl;omega
   have m2:g≠b2:=by have:=HX.out.2.2.2.2.2.2 g rfl;have:=HB.out;omega
   by_cases hk0:k=0
   ·subst hk0;rw[if_pos rfl,Aon]at hnum2;obtain⟨c2,hc2⟩: ∃c2,c2=c*2^lg:=⟨_,rfl⟩;rw[←hc2]at hnum2;have zs:IntKind.u64.wrap ((c:Int)*2^lg)=(c2:Int):=by
     have e:(c:Int)*2^lg=(c2:Int):=by rw[hc2];simp
     rw[e,IntKind.wrap_u64];have:=hnum2.1;omega
    have HN:Aside (Be L o (0+1)=(c2,l)):=by
     obtain⟨q1,q2,q3,q4⟩:=HE.out;show _=_;rw[H.out.2.2.1,if_pos rfl,Aon,←q1,←q3,hc2]
    have HS:=R8 H.out.1 H.out.2.1 n5 (bn:=bn) (by rw[H.out.2.2.2.2.1];exact hbn) (c2,l);have HS2:Aside _:=HS;have hst:Aside (Df L o 256 (0+1)=(Df L o 256 0).set bn (c2,l)):=by
     show _=_;rw[H.out.2.2.2.1,HN.out,HE.out.2.2.2]
    clear hlg hc2 HS H HE hnum hnum2 hstep;go_wp2_with fail
    go_region
    go_wp2_with fail
    go_region
    go_wp2;go_roundw
    case rel=>
     obtain⟨s1,s2,s3⟩:=HS2.out;refine⟨0+1,by omega,by go_num,?_,?_,?_⟩
     ·rw[hst.out];exact s1
     ·rw[HN.out];exact s2
     ·exact(hkr.trans s3 (fun _ _ h=>h)).drew.drew
    case measure=>simp[intOf];omega
   ·have hkd:decide ((k:Int)>0)=true:=Alb (by omega);have hkd2:decide (0<k)=true:=Alb (by omega);rw[if_neg hk0]at hnum2;obtain⟨c2,hc2⟩: ∃c2,c2=(c+1)*2^lg:=⟨_,rfl⟩;rw[←hc2]at hnum2;have zs:IntKind.u64.wrap (((c:Int)+1)*2^lg)=(c2:Int):=by
     have e:((c:Int)+1)*2^lg=(c2:Int):=by rw[hc2];simp
     rw[e,IntKind.wrap_u64];have:=hnum2.1;omega
    have HN:Aside (Be L o (k+1)=(c2,l)):=by
     obtain⟨q1,q2,q3,q4⟩:=HE.out;show _=_;rw[H.out.2.2.1,if_neg hk0,←q1,←q3,hc2]
    have htb2:In (wr.setCell ⟨b3,0,none⟩ (.int .u64 ((c:Int)+1))) b2 (Df L o 256 k):=by
     unfold In;rw[Ano _ _ _ _ n5];exact H.out.1
    have hnx2:=Alf wr b3 0 _ _ (.int .u64 ((c:Int)+1)) H.out.2.1;have HS:=R8 htb2 hnx2 n5 (bn:=bn) (by rw[H.out.2.2.2.2.1];exact hbn) (c2,l);have HS2:Aside _:=HS;have hst:Aside (Df L o 256 (k+1)=(Df L o 256 k).set bn (c2,l)):=by
     show _=_;rw[H.out.2.2.2.1,HN.out,HE.out.2.2.2]
    have hc131:(c:Int)<4294967296:=by have:=hnum.1;omega
    clear hlg hc2 HS H HE hnum hnum2 hstep htb2 hnx2;go_wp2_with fail
    go_region
    go_wp2_with fail
    go_region
    go_wp2;go_roundw
    case rel=>
     obtain⟨s1,s2,s3⟩:=HS2.out;refine⟨k+1,by omega,by go_num,?_,?_,?_⟩
     ·rw[hst.out];exact s1
     ·rw[HN.out];exact s2
     ·exact((hkr.setCell (p:=⟨b3,0,none⟩) (.inr (.inr rfl)) _).trans s3 (fun _ _ h=>h)).drew.drew
    case measure=>simp[intOf];omega
  ·obtain rfl:k=o.length:=by omega
   have hkI:decide ((o.length:Int)<(o.length:Int))=false:=Ald (by omega);have hts:(Cu (Df L o 256 o.length)).toArray.size=512:=by rw[Alq,C9,A3]
   have hres:=hkr.row HX.out.2.2.1 (fun e=>by have:=HB.out;rcases e with e|e<;>omega);have hkw:=HX.out.2.2.2.2.2.1.trans hkr (fun j h1 h2=>by have:=HB.out;rcases h2 with h2|h2<;>omega);have hta:=P5 (Df L o 256 o.length);have HZ:Aside (wr.heap[b1]?=some (.cells Tryz.zeroCells92 92 (0,0))∧Apd w wr∧wr.heap[b2]?=some (.cells (Cu (Df L o 256 o.length)).toArray 92 (0,0))∧(Cu (Df L o 256 o.length)).toArray.size=512∧(Cu (Df L o 256 o.length)).toArray.all (·.oneCell')=true):=⟨hres,hkw,htb,hts,hta⟩;clear hres hkw htb hts hta hnx hkr HX HF HCELL;have hb1w:w.heap.size≤b1:=by have:=HB.out;omega
   obtain⟨TT,hTT⟩: ∃TT,TT=(Cu (Df L o 256 o.length)).toArray:=⟨_,rfl⟩;rw[←hTT]at HZ;have HTT:Aside (TT=(Cu (Df L o 256 o.length)).toArray):=hTT;clear hTT
   go_wp2_with(first
    |(refine Amd rfl 92 _ rfl b2 rfl 92 TT (0,0) _ HZ.out.2.2.1 Tryz.underlying92 rfl (by rw[HZ.out.2.2.2.1];exact Nz) ?_)
    |(refine wpList_store_row _ rfl 92 _ _ rfl b1 92 Tryz.zeroCells92 TT rfl rfl HZ.out.1 (by rw[HZ.out.2.2.2.1];exact Nz) (by rw[HZ.out.2.2.2.1];exact Qp) HZ.out.2.2.2.2 ?_;intro w5 hw5 hk5))
   refine Amo (v:= .agg TT) (Am3 Tryz.results149 _ w5 b1 92 _ (0,0) _ rfl hw5 Tryz.underlying92 rfl (by rw[HZ.out.2.2.2.1];exact Nz)) rfl ⟨by rw[HTT.out,hO],?_⟩;exact HZ.out.2.1.trans hk5 (fun j h1 h2=>by omega)
def Ba(s:ByteArray)(len g:Nat)(T:List (Nat×Nat))(v:Value)(ws:List Nat)(total:Nat):List Value:=
 [.string s,.int .i64 (len:Nat),.slice (some ⟨g,0,none⟩) (s.size+1) (s.size+1)]++(Cu T++(v::(Ac ws++[.int .i64 (total:Nat)])))
theorem On(s:ByteArray)(len g:Nat)(T:List (Nat×Nat))(v:Value)(ws:List Nat)(total:Nat)(h:T.length=256):(Ba s len g T v ws total)[515]?=some v:=by
 unfold Ba;rw[Alt (by simp),Alt (by rw[C9,h];simp),C9,h];rw[show 515-[Value.string s,.int .i64 (len:Nat),.slice (some ⟨g,0,none⟩) (s.size+1) (s.size+1)].length-256*2=0 from by simp,List.getElem?_cons_zero]
theorem N0(s:ByteArray)(len g:Nat)(T:List (Nat×Nat))(v:Value)(ws:List Nat)(total i:Nat)(h:T.length=256)(hi:i<ws.length):(Ba s len g T v ws total)[516+i]?=some (.int .i64 (ws.getD i 0:Nat)):=by
 unfold Ba;rw[Alt (by simp;omega),Alt (by rw[C9,h];simp;omega),C9,h];rw[show 516+i-[Value.string s,.int .i64 (len:Nat),.slice (some ⟨g,0,none⟩) (s.size+1) (s.size+1)].length-256*2=i+1 from by simp;omega,Aog,Amh (by simp[Ac];exact hi)];simp[Ac,List.getElem?_map,List.getD_eq_getElem?_getD,List.getElem?_eq_getElem hi]
theorem Oo(s:ByteArray)(len g:Nat)(T:List (Nat×Nat))(v:Value)(ws:List Nat)(total:Nat)(h:T.length=256)(hw:ws.length=256):(Ba s len g T v ws total)[772]?=some (.int .i64 (total:Nat)):=by
 unfold Ba;rw[Alt (by simp),Alt (by rw[C9,h];simp),C9,h];rw[show 772-[Value.string s,.int .i64 (len:Nat),.slice (some ⟨g,0,none⟩) (s.size+1) (s.size+1)].length-256*2=256+1 from by simp,Aog,Alt (by simp[Ac,hw])];simp[Ac,hw]
theorem V8(s:ByteArray)(len g:Nat)(T:List (Nat×Nat))(v:Value)(ws:List Nat)(total i x:Nat)(h:T.length=256)(hi:i<ws.length):(Ba s len g T v ws total).set (516+i) (.int .i64 (x:Nat))=Ba s len g T v (ws.set i x) total:=by
 unfold Ba;rw[Amt _ _ (by simp;omega),Amt _ _ (by rw[C9,h];simp;omega),C9,h];rw[show 516+i-[Value.string s,.int .i64 (len:Nat),.slice (some ⟨g,0,none⟩) (s.size+1) (s.size+1)].length-256*2=i+1 from by simp;omega,Ala,List.set_append_left _ _ (by simp[Ac];exact hi)];congr 4;simp[Ac,List.map_set]
theorem Cz(s:ByteArray)(len g:Nat)(T:List (Nat×Nat))(v:Value)(ws:List Nat)(total:Nat)(h:T.length=256)(hw:ws.length=256):(Ba s len g T v ws total).length=773:=by
 unfold Ba;simp[C9,h,Ac,hw]
structure A4(w:World)(tb:Nat)(s:ByteArray)(len g:Nat)(T:List (Nat×Nat))(v:Value)(nds:List Hm.Nd)(ws:List Nat)(total:Nat):Prop where
 blk:w.heap[tb]?=some (.cells (Ba s len g T v ws total).toArray 96 (0,0))
 row:IntRow w g (Bt s.data.toList)
 nod:w.ownsRow 0 195 9 v nds.length (A9 nds)
 tl:T.length=256
 wl:ws.length=256
 n1:v.ownBlock≠some tb
 n2:g≠tb
 n3:v.ownBlock≠some g
section
variable {w w':World} {tb len g total:Nat} {s:ByteArray} {T:List (Nat×Nat)} {v:Value} {nds:List Hm.Nd} {ws:List Nat} {S:Nat→Prop}
theorem A4.kept(h:A4 w tb s len g T v nds ws total)(hk:Aa S w w')(h1: ¬S tb)(h2: ¬S g)(h3: ∀j,v.ownBlock=some j→ ¬S j):A4 w' tb s len g T v nds ws total:=
 ⟨hk.row h.blk h1,h.row.kept hk h2,hk.owns h.nod h3,h.tl,h.wl,h.n1,h.n2,h.n3⟩
theorem A4.drew(h:A4 w tb s len g T v nds ws total):A4 w.drew tb s len g T v nds ws total:=⟨h.blk,h.row,h.nod,h.tl,h.wl,h.n1,h.n2,h.n3⟩
theorem A4.drewN(h:A4 w tb s len g T v nds ws total)(k:Nat):A4 (w.drewN k) tb s len g T v nds ws total:=⟨h.blk,h.row,h.nod,h.tl,h.wl,h.n1,h.n2,h.n3⟩
theorem A4.cellAt(h:A4 w tb s len g T v nds ws total)(i:Nat):w.cell? ⟨tb,i,none⟩=(Ba s len g T v ws total)[i]?:=by
 rw[Alc _ _ i _ _ _ h.blk,Alz]
theorem A4.counted(h:A4 w tb s len g T v nds ws total):C2 w tb 0 s len g:=⟨h.cellAt 0,h.cellAt 1,h.cellAt 2,h.row⟩
theorem A4.nodes(h:A4 w tb s len g T v nds ws total):w.cell? ⟨tb,515,none⟩=some v:=(h.cellAt 515).trans (On s len g T v ws total h.tl)
theorem A4.tot(h:A4 w tb s len g T v nds ws total):w.cell? ⟨tb,772,none⟩=some (.int .i64 (total:Nat)):=(h.cellAt 772).trans (Oo s len g T v ws total h.tl h.wl)
theorem A4.weight(h:A4 w tb s len g T v nds ws total)(i:Nat)(hi:i<256):w.cell? ⟨tb,516+i,none⟩=some (.int .i64 (ws.getD i 0:Nat)):=(h.cellAt (516+i)).trans (N0 s len g T v ws total i h.tl (by rw[h.wl];exact hi))
theorem A4.free(h:A4 w tb s len g T v nds ws total)(i:Nat):w.frozen? ⟨tb,i,none⟩=false:=Alk _ _ i _ _ h.blk
theorem A4.lt(h:A4 w tb s len g T v nds ws total):tb<w.heap.size:=Alw h.blk
theorem A4.setW(h:A4 w tb s len g T v nds ws total)(i x:Nat)(hi:i<256):A4 (w.setCell ⟨tb,516+i,none⟩ (.int .i64 (x:Nat))) tb s len g T v nds (ws.set i x) total:=by
 have hk:Aa (fun j=>j=tb) w (w.setCell ⟨tb,516+i,none⟩ (.int .i64 (x:Nat))):=(Aa.refl (fun j=>j=tb) w).setCell (p:=⟨tb,516+i,none⟩) (.inr rfl) _;refine⟨?_,h.row.kept hk h.n2,hk.owns h.nod (fun j hj e=>h.n1 (by rw[hj,e])),h.tl,by rw[Amn];exact h.wl,h.n1,h.n2,h.n3⟩;have:=Alf w tb (516+i) _ _ (.int .i64 (x:Nat)) h.blk;rw[this,←V8 s len g T v ws total i x h.tl (by rw[h.wl];exact hi)];simp
theorem A4.setN(h:A4 w tb s len g T v nds ws total){ng cap n:Nat}(hv:v= .slice (some ⟨ng,0,none⟩) n cap)(i:Nat)(x:Value){nds':List Hm.Nd}(hl:nds'.length=nds.length)(he:(A9 nds).set i x=A9 nds'):A4 (w.setCell ⟨ng,i,none⟩ x) tb s len g T v nds' ws total:=by
 subst hv;have hk:Aa (fun j=>j=ng) w (w.setCell ⟨ng,i,none⟩ x):=(Aa.refl (fun j=>j=ng) w).setCell (p:=⟨ng,i,none⟩) (.inr rfl) _;have hno:=h.nod;obtain⟨a,c,e,_⟩:=Ay hno;simp only[Value.slice.injEq]at e;obtain⟨-,e,-⟩:=e;subst e;have e1:tb≠ng:=fun e=>h.n1 (by rw[e];rfl);have e2:g≠ng:=fun e=>h.n3 (by rw[e];rfl);refine⟨hk.row h.blk e1,h.row.kept hk e2,?_,h.tl,h.wl,h.n1,h.n2,h.n3⟩;rw[hl,←he];exact(hno.stored i x).1
end
abbrev Tk(tb:Nat)(v:Value):Nat→Prop:=fun j=>j=tb∨v.ownBlock=some j
set_option maxHeartbeats 400000 in
theorem Yx(tb g len total size l n cap ng:Nat)(s:ByteArray)(T:List (Nat×Nat))(nds:List Hm.Nd)(ws:List Nat)(b:Hm.Br)(w:World)(h:A4 w tb s len g T (.slice (some ⟨ng,0,none⟩) n cap) nds ws total)(hn:n=nds.length)(_hnl:n≤255)(hb:b.node<n)(hz:size≤100000):
  Calls Tryz.prog 183 #[.pointer (some ⟨tb,0,none⟩),.agg (Du b).toArray,.int .i64 size] w fun e w'=>
   e= .returned (.bool (Dm b size ⟨l,nds,ws⟩).isSome)∧A4 w' tb s len g T (.slice (some ⟨ng,0,none⟩) n cap) ((Dm b size ⟨l,nds,ws⟩).getD ⟨l,nds,ws⟩).nds ((Dm b size ⟨l,nds,ws⟩).getD ⟨l,nds,ws⟩).ws total∧Aa (Tk tb (.slice (some ⟨ng,0,none⟩) n cap)) w w':=by
 have hk0:Apd w (w.alloc (.cells (Du b).toArray 192)):=(Aa.refl _ _).alloc _;have h1:=h.kept hk0 id id (fun _ _=>id);have hbx:=All w (.cells (Du b).toArray 192);have c0:(w.alloc (.cells (Du b).toArray 192)).cell? ⟨w.heap.size,0,none⟩=some (.bool b.whole):=Alc _ _ 0 _ _ _ hbx;have c1:(w.alloc (.cells (Du b).toArray 192)).cell? ⟨w.heap.size,1,none⟩=some (.int .u8 (b.val.toNat:Nat)):=Alc _ _ 1 _ _ _ hbx;have c2:(w.alloc (.cells (Du b).toArray 192)).cell? ⟨w.heap.size,2,none⟩=some (.int .i64 (b.node:Nat)):=Alc _ _ 2 _ _ _ hbx;have htw:tb<w.heap.size:=h.lt;obtain⟨bw,bv,bn⟩:=b;have c0':(w.alloc (.cells #[.bool bw,.int .u8 (bv.toNat:Nat),.int .i64 (bn:Nat)] 192)).cell? ⟨w.heap.size,0,none⟩=some (.bool bw):=c0;have c1':(w.alloc (.cells #[.bool bw,.int .u8 (bv.toNat:Nat),.int .i64 (bn:Nat)] 192)).cell? ⟨w.heap.size,1,none⟩=some (.int .u8 (bv.toNat:Nat)):=c1;have c2':(w.alloc (.cells #[.bool bw,.int .u8 (bv.toNat:Nat),.int .i64 (bn:Nat)] 192)).cell? ⟨w.heap.size,2,none⟩=some (.int .i64 (bn:Nat)):=c2;have hT:A4 (w.alloc (.cells #[.bool bw,.int .u8 (bv.toNat:Nat),.int .i64 (bn:Nat)] 192)) tb s len g T (.slice (some ⟨ng,0,none⟩) n cap) nds ws total:=h1;have hK:Aa (Tk tb (.slice (some ⟨ng,0,none⟩) n cap)) w (w.alloc (.cells #[.bool bw,.int .u8 (bv.toNat:Nat),.int .i64 (bn:Nat)] 192)):=hk0.wider (fun _ _ h=>h.elim);have hbv:=bv.toNat_lt;clear hk0 h1 hbx c0 c1 c2 h;show Calls Tryz.prog 183 #[.pointer (some ⟨tb,0,none⟩),.agg #[.bool bw,.int .u8 (bv.toNat:Nat),.int .i64 (bn:Nat)],.int .i64 size] w _;cases bw with
 |true=>
  have e:Dm {whole:=true,val:=bv,node:=bn} size ⟨l,nds,ws⟩=some ⟨l,nds,ws.set bv.toNat size⟩:=rfl;rw[e];clear e
  go_enter Tryz.func183,Tryz.ntmps183
  go_wp2_with fail;generalize w.alloc (.cells #[.bool true,.int .u8 (bv.toNat:Nat),.int .i64 (bn:Nat)] 192)=W at*;have HF:Aside (A4 (W.setCell ⟨tb,516+bv.toNat,none⟩ (.int .i64 (size:Nat))) tb s len g T (.slice (some ⟨ng,0,none⟩) n cap) nds (ws.set bv.toNat size) total∧Aa (Tk tb (.slice (some ⟨ng,0,none⟩) n cap)) w (W.setCell ⟨tb,516+bv.toNat,none⟩ (.int .i64 (size:Nat)))):=⟨hT.setW bv.toNat size (by omega),hK.setCell (.inr (.inl rfl)) _⟩;obtain⟨old,hold⟩: ∃old,W.cell? ⟨tb,516+bv.toNat,none⟩=some old:=⟨_,hT.weight bv.toNat (by omega)⟩;have hf:=hT.free (516+bv.toNat);have hbI:(bv.toNat:Int)<256:=by omega
  clear hT hK hbv
  go_region
  go_wp2;go_ret;exact⟨rfl,HF.out.1.drew,HF.out.2.drew⟩
 |false=>
  by_cases hn0:0<bn
  ·have e:Dm {whole:=false,val:=bv,node:=bn} size ⟨l,nds,ws⟩=some ⟨l,Es nds bn size,ws⟩:=by
    unfold Dm;rw[if_neg (by simp),if_pos hn0]
   rw[e];clear e;have hnd:decide (0<bn)=true:=Alb hn0;have hbl:bn<n:=hb;have HN:Aside (n=nds.length):=hn;have hbI:(bn:Int)<(n:Int):=by omega
   clear hn hb
   go_enter Tryz.func183,Tryz.ntmps183
   go_wp2_with fail;generalize w.alloc (.cells #[.bool false,.int .u8 (bv.toNat:Nat),.int .i64 (bn:Nat)] 192)=W at*;have HF:Aside (A4 (W.setCell ⟨ng,bn*9+2,none⟩ (.int .i64 (size:Nat))) tb s len g T (.slice (some ⟨ng,0,none⟩) n cap) (Es nds bn size) ws total∧Aa (Tk tb (.slice (some ⟨ng,0,none⟩) n cap)) w (W.setCell ⟨ng,bn*9+2,none⟩ (.int .i64 (size:Nat)))):=
    ⟨hT.setN rfl (bn*9+2) _ (Mx _ _ _) (Vq nds bn size (by have:=HN.out;omega)),hK.setCell (p:=⟨ng,bn*9+2,none⟩) (.inr (.inr rfl)) _⟩
   have hno:=hT.nod;rw[←HN.out]at hno;obtain⟨old,hold⟩: ∃old,W.cell? ⟨ng,bn*9+2,none⟩=some old:=⟨_,U0 hno HN.out (by have:=HN.out;omega)⟩;have hf:=hno.frozenAt (bn*9+2);have hnv:=hT.nodes;clear hT hK hbv hno
   go_region
   go_wp2;go_ret;exact⟨rfl,HF.out.1.drew,HF.out.2.drew⟩
  ·obtain rfl:bn=0:=by omega
   clear hn
   by_cases hz0:size=0
   ·subst hz0;have e:Dm {whole:=false,val:=bv,node:=0} 0 ⟨l,nds,ws⟩=some ⟨l,nds,ws⟩:=rfl;rw[e];clear e
    go_enter Tryz.func183,Tryz.ntmps183
    go_wp2;go_ret;exact⟨rfl,hT,hK⟩
   ·have e:Dm {whole:=false,val:=bv,node:=0} size ⟨l,nds,ws⟩=none:=by
     unfold Dm;rw[if_neg (by simp),if_neg (by simp),if_neg hz0]
    rw[e];clear e;have hzd:((size:Int)==0)=false:=by rw[Al5];omega
    clear hz0
    go_enter Tryz.func183,Tryz.ntmps183
    go_wp2;go_ret;exact⟨rfl,hT,hK⟩
end Go.Proofs.YtegnkfdbmmndaaaGreat
