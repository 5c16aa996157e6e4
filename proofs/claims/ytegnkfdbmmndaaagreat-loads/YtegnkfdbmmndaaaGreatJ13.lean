import Derived.Test.YtegnkfdbmmndaaaGreatJ00
import Derived.Test.YtegnkfdbmmndaaaGreatJ12
import Derived.Test.YtegnkfdbmmndaaaGreatJ11
import Derived.Test.YtegnkfdbmmndaaaGreatJ05

namespace Go.Proofs.YtegnkfdbmmndaaaGreat
open Hm
open Go.RowKit
namespace Hm
def Em(g h:Grp):Grp:=(g.1+h.1,UInt8.ofNat (min g.2.1.toNat h.2.1.toNat),g.2.2++h.2.2)
end Hm
theorem Zu(w:World)(b:Nat)(x y z:Value)(p:Addr)(hp:p.block≠b):(((w.setCell ⟨b,0,none⟩ x).setCell ⟨b,1,none⟩ y).setCell ⟨b,2,none⟩ z).cell? p=w.cell? p:=by
 rw[Anq _ _ _ _ (fun e=>hp (by rw[←e])),Anq _ _ _ _ (fun e=>hp (by rw[←e])),Anq _ _ _ _ (fun e=>hp (by rw[←e]))]
set_option maxHeartbeats 2000000 in
theorem Ahm(g h:Hm.Grp)(mv nv:Value)(w:World)(hg:Fc w mv g.2.2)(hh:Fc w nv h.2.2)(hl0:0<g.2.2.length)(hl:g.2.2.length+h.2.2.length≤600)(hw:g.1+h.1≤1000000):
  Calls Tryz.prog 140 #[.agg #[.int .i64 (g.1:Nat),.int .u8 (g.2.1.toNat:Nat),mv],.agg #[.int .i64 (h.1:Nat),.int .u8 (h.2.1.toNat:Nat),nv]] w fun e w'=> ∃v,e= .returned (.agg #[.int .i64 ((Em g h).1:Nat),.int .u8 ((Em g h).2.1.toNat:Nat),v])∧Fc w' v (Em g h).2.2∧(∀k,v.ownBlock=some k→w.heap.size≤k)∧Apd w w':=by
 obtain⟨ga,ca,ea,-⟩:=id hg;obtain⟨gb,cb,eb,-⟩:=id hh;subst ea;subst eb;have hE:Hid (Em g h=(g.1+h.1,UInt8.ofNat (min g.2.1.toNat h.2.1.toNat),g.2.2++h.2.2)):=rfl;have hga:g.2.1.toNat<256:=UInt8.toNat_lt _;have hgb:h.2.1.toNat<256:=UInt8.toNat_lt _;have hS:(((w.alloc (.cells #[.int .i64 (g.1:Nat),.int .u8 (g.2.1.toNat:Nat),.slice (some ⟨ga,0,none⟩) g.2.2.length ca] 216)).alloc (.cells #[.int .i64 (h.1:Nat),.int .u8 (h.2.1.toNat:Nat),.slice (some ⟨gb,0,none⟩) h.2.2.length cb] 216)).alloc (.cells #[.int .i64 0,.int .u8 0,.slice none 0 0] 216)).heap.size=w.heap.size+1+1+1:=by simp
 have hk0:Apd w (((w.alloc (.cells #[.int .i64 (g.1:Nat),.int .u8 (g.2.1.toNat:Nat),.slice (some ⟨ga,0,none⟩) g.2.2.length ca] 216)).alloc (.cells #[.int .i64 (h.1:Nat),.int .u8 (h.2.1.toNat:Nat),.slice (some ⟨gb,0,none⟩) h.2.2.length cb] 216)).alloc (.cells #[.int .i64 0,.int .u8 0,.slice none 0 0] 216)):=(((Aa.refl _ w).alloc _).alloc _).alloc _;have r0:(((w.alloc (.cells #[.int .i64 (g.1:Nat),.int .u8 (g.2.1.toNat:Nat),.slice (some ⟨ga,0,none⟩) g.2.2.length ca] 216)).alloc (.cells #[.int .i64 (h.1:Nat),.int .u8 (h.2.1.toNat:Nat),.slice (some ⟨gb,0,none⟩) h.2.2.length cb] 216)).alloc (.cells #[.int .i64 0,.int .u8 0,.slice none 0 0] 216)).heap[w.heap.size]?=some (.cells #[.int .i64 (g.1:Nat),.int .u8 (g.2.1.toNat:Nat),.slice (some ⟨ga,0,none⟩) g.2.2.length ca] 216 (0,0)):=by
  rw[Below.heap_alloc _ _ _ (by simp;omega)];exact Anw w _ _
 have r1:(((w.alloc (.cells #[.int .i64 (g.1:Nat),.int .u8 (g.2.1.toNat:Nat),.slice (some ⟨ga,0,none⟩) g.2.2.length ca] 216)).alloc (.cells #[.int .i64 (h.1:Nat),.int .u8 (h.2.1.toNat:Nat),.slice (some ⟨gb,0,none⟩) h.2.2.length cb] 216)).alloc (.cells #[.int .i64 0,.int .u8 0,.slice none 0 0] 216)).heap[w.heap.size+1]?=some (.cells #[.int .i64 (h.1:Nat),.int .u8 (h.2.1.toNat:Nat),.slice (some ⟨gb,0,none⟩) h.2.2.length cb] 216 (0,0)):=by
  rw[Below.heap_alloc _ _ _ (by simp)];exact Anx w _ _
 have r2:(((w.alloc (.cells #[.int .i64 (g.1:Nat),.int .u8 (g.2.1.toNat:Nat),.slice (some ⟨ga,0,none⟩) g.2.2.length ca] 216)).alloc (.cells #[.int .i64 (h.1:Nat),.int .u8 (h.2.1.toNat:Nat),.slice (some ⟨gb,0,none⟩) h.2.2.length cb] 216)).alloc (.cells #[.int .i64 0,.int .u8 0,.slice none 0 0] 216)).heap[w.heap.size+1+1]?=some (.cells #[.int .i64 0,.int .u8 0,.slice none 0 0] 216 (0,0)):=by
  have e:=All ((w.alloc (.cells #[.int .i64 (g.1:Nat),.int .u8 (g.2.1.toNat:Nat),.slice (some ⟨ga,0,none⟩) g.2.2.length ca] 216)).alloc (.cells #[.int .i64 (h.1:Nat),.int .u8 (h.2.1.toNat:Nat),.slice (some ⟨gb,0,none⟩) h.2.2.length cb] 216)) (.cells #[.int .i64 0,.int .u8 0,.slice none 0 0] 216);simpa using e
 go_enter Tryz.func140,Tryz.ntmps140
 go_wp2_with fail;generalize((w.alloc (.cells #[.int .i64 (g.1:Nat),.int .u8 (g.2.1.toNat:Nat),.slice (some ⟨ga,0,none⟩) g.2.2.length ca] 216)).alloc (.cells #[.int .i64 (h.1:Nat),.int .u8 (h.2.1.toNat:Nat),.slice (some ⟨gb,0,none⟩) h.2.2.length cb] 216)).alloc (.cells #[.int .i64 0,.int .u8 0,.slice none 0 0] 216)=W3 at*;have hM1:=hg.kept hk0 (fun _ _=>id);have hM2:=hh.kept hk0 (fun _ _=>id);have hk4:Apd W3 (W3.alloc (.cells #[.slice (some ⟨ga,0,none⟩) g.2.2.length ca,.slice (some ⟨gb,0,none⟩) h.2.2.length cb] 79)).drew:=((Aa.refl _ _).alloc _).drew;have hN:(W3.alloc (.cells #[.slice (some ⟨ga,0,none⟩) g.2.2.length ca,.slice (some ⟨gb,0,none⟩) h.2.2.length cb] 79)).drew.heap[W3.heap.size]?=some (.cells #[.slice (some ⟨ga,0,none⟩) g.2.2.length ca,.slice (some ⟨gb,0,none⟩) h.2.2.length cb] 79 (0,0)):=All W3 _;have hcc:=Afs W3.heap.size _ _ _ _ _ (Alc _ _ 0 _ _ _ hN) (Alc _ _ 1 _ _ _ hN) (Alw hN) (hM1.kept hk4 (fun _ _=>id)) (hM2.kept hk4 (fun _ _=>id)) hl0 hl;rw[hS]at hcc;have p0:W3.cell? ⟨w.heap.size,0,none⟩=some (.int .i64 (g.1:Nat)):=Alc _ _ 0 _ _ _ r0;have p1:W3.cell? ⟨w.heap.size,1,none⟩=some (.int .u8 (g.2.1.toNat:Nat)):=Alc _ _ 1 _ _ _ r0;have p2:W3.cell? ⟨w.heap.size,2,none⟩=some (.slice (some ⟨ga,0,none⟩) g.2.2.length ca):=Alc _ _ 2 _ _ _ r0;have p3:W3.cell? ⟨w.heap.size+1,0,none⟩=some (.int .i64 (h.1:Nat)):=Alc _ _ 0 _ _ _ r1;have p4:W3.cell? ⟨w.heap.size+1,1,none⟩=some (.int .u8 (h.2.1.toNat:Nat)):=Alc _ _ 1 _ _ _ r1;have p5:W3.cell? ⟨w.heap.size+1,2,none⟩=some (.slice (some ⟨gb,0,none⟩) h.2.2.length cb):=Alc _ _ 2 _ _ _ r1;have HX:Hid (Apd w W3∧W3.heap[w.heap.size+1+1]?=some (.cells #[.int .i64 0,.int .u8 0,.slice none 0 0] 216 (0,0))∧Apd W3 (W3.alloc (.cells #[.slice (some ⟨ga,0,none⟩) g.2.2.length ca,.slice (some ⟨gb,0,none⟩) h.2.2.length cb] 79)).drew):=⟨hk0,r2,hk4⟩;have c6:W3.cell? ⟨w.heap.size+1+1,0,none⟩=some (.int .i64 0):=Alc _ _ 0 _ _ _ r2;have c7:W3.cell? ⟨w.heap.size+1+1,1,none⟩=some (.int .u8 0):=Alc _ _ 1 _ _ _ r2;have c8:W3.cell? ⟨w.heap.size+1+1,2,none⟩=some (.slice none 0 0):=Alc _ _ 2 _ _ _ r2;have f6:W3.frozen? ⟨w.heap.size+1+1,0,none⟩=false:=Alk _ _ 0 _ _ r2;have f7:W3.frozen? ⟨w.heap.size+1+1,1,none⟩=false:=Alk _ _ 1 _ _ r2;have f8:W3.frozen? ⟨w.heap.size+1+1,2,none⟩=false:=Alk _ _ 2 _ _ r2;have hS4:(W3.alloc (.cells #[.slice (some ⟨ga,0,none⟩) g.2.2.length ca,.slice (some ⟨gb,0,none⟩) h.2.2.length cb] 79)).drew.heap.size=w.heap.size+1+1+1+1:=by simp[hS]
 have QQ:(W3.alloc (.cells #[.slice (some ⟨ga,0,none⟩) g.2.2.length ca,.slice (some ⟨gb,0,none⟩) h.2.2.length cb] 79)).drew.cell? ⟨w.heap.size,0,none⟩=some (.int .i64 (g.1:Nat))∧(W3.alloc (.cells #[.slice (some ⟨ga,0,none⟩) g.2.2.length ca,.slice (some ⟨gb,0,none⟩) h.2.2.length cb] 79)).drew.cell? ⟨w.heap.size,1,none⟩=some (.int .u8 (g.2.1.toNat:Nat))∧(W3.alloc (.cells #[.slice (some ⟨ga,0,none⟩) g.2.2.length ca,.slice (some ⟨gb,0,none⟩) h.2.2.length cb] 79)).drew.cell? ⟨w.heap.size,2,none⟩=some (.slice (some ⟨ga,0,none⟩) g.2.2.length ca)∧(W3.alloc (.cells #[.slice (some ⟨ga,0,none⟩) g.2.2.length ca,.slice (some ⟨gb,0,none⟩) h.2.2.length cb] 79)).drew.cell? ⟨w.heap.size+1,0,none⟩=some (.int .i64 (h.1:Nat))∧(W3.alloc (.cells #[.slice (some ⟨ga,0,none⟩) g.2.2.length ca,.slice (some ⟨gb,0,none⟩) h.2.2.length cb] 79)).drew.cell? ⟨w.heap.size+1,1,none⟩=some (.int .u8 (h.2.1.toNat:Nat))∧(W3.alloc (.cells #[.slice (some ⟨ga,0,none⟩) g.2.2.length ca,.slice (some ⟨gb,0,none⟩) h.2.2.length cb] 79)).drew.cell? ⟨w.heap.size+1,2,none⟩=some (.slice (some ⟨gb,0,none⟩) h.2.2.length cb):=⟨(hk4.cell (p:=⟨w.heap.size,0,none⟩) (show w.heap.size<_ by omega) id).trans p0,(hk4.cell (p:=⟨w.heap.size,1,none⟩) (show w.heap.size<_ by omega) id).trans p1,(hk4.cell (p:=⟨w.heap.size,2,none⟩) (show w.heap.size<_ by omega) id).trans p2,(hk4.cell (p:=⟨w.heap.size+1,0,none⟩) (show w.heap.size+1<_ by omega) id).trans p3,(hk4.cell (p:=⟨w.heap.size+1,1,none⟩) (show w.heap.size+1<_ by omega) id).trans p4,(hk4.cell (p:=⟨w.heap.size+1,2,none⟩) (show w.heap.size+1<_ by omega) id).trans p5⟩;have dc6:(W3.alloc (.cells #[.slice (some ⟨ga,0,none⟩) g.2.2.length ca,.slice (some ⟨gb,0,none⟩) h.2.2.length cb] 79)).drew.cell? ⟨w.heap.size+1+1,0,none⟩=some (.int .i64 0):=(hk4.cell (p:=⟨w.heap.size+1+1,0,none⟩) (show w.heap.size+1+1<_ by omega) id).trans c6;have ec6:(W3.alloc (.cells #[.slice (some ⟨ga,0,none⟩) g.2.2.length ca,.slice (some ⟨gb,0,none⟩) h.2.2.length cb] 79)).drew.frozen? ⟨w.heap.size+1+1,0,none⟩=false:=(hk4.frozen (p:=⟨w.heap.size+1+1,0,none⟩) (show w.heap.size+1+1<_ by omega) id).trans f6;have dc7:(W3.alloc (.cells #[.slice (some ⟨ga,0,none⟩) g.2.2.length ca,.slice (some ⟨gb,0,none⟩) h.2.2.length cb] 79)).drew.cell? ⟨w.heap.size+1+1,1,none⟩=some (.int .u8 0):=(hk4.cell (p:=⟨w.heap.size+1+1,1,none⟩) (show w.heap.size+1+1<_ by omega) id).trans c7;have ec7:(W3.alloc (.cells #[.slice (some ⟨ga,0,none⟩) g.2.2.length ca,.slice (some ⟨gb,0,none⟩) h.2.2.length cb] 79)).drew.frozen? ⟨w.heap.size+1+1,1,none⟩=false:=(hk4.frozen (p:=⟨w.heap.size+1+1,1,none⟩) (show w.heap.size+1+1<_ by omega) id).trans f7;have dc8:(W3.alloc (.cells #[.slice (some ⟨ga,0,none⟩) g.2.2.length ca,.slice (some ⟨gb,0,none⟩) h.2.2.length cb] 79)).drew.cell? ⟨w.heap.size+1+1,2,none⟩=some (.slice none 0 0):=(hk4.cell (p:=⟨w.heap.size+1+1,2,none⟩) (show w.heap.size+1+1<_ by omega) id).trans c8;have ec8:(W3.alloc (.cells #[.slice (some ⟨ga,0,none⟩) g.2.2.length ca,.slice (some ⟨gb,0,none⟩) h.2.2.length cb] 79)).drew.frozen? ⟨w.heap.size+1+1,2,none⟩=false:=(hk4.frozen (p:=⟨w.heap.size+1+1,2,none⟩) (show w.heap.size+1+1<_ by omega) id).trans f8;clear hM1 hM2 hN hg hh hk0 r0 r1 r2
 go_region_held(fun W=>W.cell? ⟨w.heap.size,0,none⟩=some (.int .i64 (g.1:Nat))∧W.cell? ⟨w.heap.size,1,none⟩=some (.int .u8 (g.2.1.toNat:Nat))∧W.cell? ⟨w.heap.size,2,none⟩=some (.slice (some ⟨ga,0,none⟩) g.2.2.length ca)∧W.cell? ⟨w.heap.size+1,0,none⟩=some (.int .i64 (h.1:Nat))∧W.cell? ⟨w.heap.size+1,1,none⟩=some (.int .u8 (h.2.1.toNat:Nat))∧W.cell? ⟨w.heap.size+1,2,none⟩=some (.slice (some ⟨gb,0,none⟩) h.2.2.length cb)) (first|exact QQ|assumption|(go_keep;done)|(refine⟨?_,?_,?_,?_,?_,?_⟩<;>(rw[Zu _ _ _ _ _ _ (by intro e;simp at e;try omega)];first|assumption|exact KK.1|exact KK.2.1|exact KK.2.2.1|exact KK.2.2.2.1|exact KK.2.2.2.2.1|exact KK.2.2.2.2.2)))
  (first
  |(go_at_call 180;refine hcc.mono ?_;rintro e w5 ⟨v,rfl,hM5,hb5,hk5⟩;have HM5:Hid (Fc w5 v (g.2.2++h.2.2)):=hM5;obtain⟨g5,c5,ev,-⟩:=hM5;subst ev;have KK:w5.cell? ⟨w.heap.size,0,none⟩=some (.int .i64 (g.1:Nat))∧w5.cell? ⟨w.heap.size,1,none⟩=some (.int .u8 (g.2.1.toNat:Nat))∧w5.cell? ⟨w.heap.size,2,none⟩=some (.slice (some ⟨ga,0,none⟩) g.2.2.length ca)∧w5.cell? ⟨w.heap.size+1,0,none⟩=some (.int .i64 (h.1:Nat))∧w5.cell? ⟨w.heap.size+1,1,none⟩=some (.int .u8 (h.2.1.toNat:Nat))∧w5.cell? ⟨w.heap.size+1,2,none⟩=some (.slice (some ⟨gb,0,none⟩) h.2.2.length cb):=⟨(hk5.cell (p:=⟨w.heap.size,0,none⟩) (show w.heap.size<_ by omega) id).trans QQ.1,(hk5.cell (p:=⟨w.heap.size,1,none⟩) (show w.heap.size<_ by omega) id).trans QQ.2.1,(hk5.cell (p:=⟨w.heap.size,2,none⟩) (show w.heap.size<_ by omega) id).trans QQ.2.2.1,(hk5.cell (p:=⟨w.heap.size+1,0,none⟩) (show w.heap.size+1<_ by omega) id).trans QQ.2.2.2.1,(hk5.cell (p:=⟨w.heap.size+1,1,none⟩) (show w.heap.size+1<_ by omega) id).trans QQ.2.2.2.2.1,(hk5.cell (p:=⟨w.heap.size+1,2,none⟩) (show w.heap.size+1<_ by omega) id).trans QQ.2.2.2.2.2⟩;have kc6:w5.cell? ⟨w.heap.size+1+1,0,none⟩=some (.int .i64 0):=(hk5.cell (p:=⟨w.heap.size+1+1,0,none⟩) (show w.heap.size+1+1<_ by omega) id).trans dc6;have lc6:w5.frozen? ⟨w.heap.size+1+1,0,none⟩=false:=(hk5.frozen (p:=⟨w.heap.size+1+1,0,none⟩) (show w.heap.size+1+1<_ by omega) id).trans ec6;have kc7:w5.cell? ⟨w.heap.size+1+1,1,none⟩=some (.int .u8 0):=(hk5.cell (p:=⟨w.heap.size+1+1,1,none⟩) (show w.heap.size+1+1<_ by omega) id).trans dc7;have lc7:w5.frozen? ⟨w.heap.size+1+1,1,none⟩=false:=(hk5.frozen (p:=⟨w.heap.size+1+1,1,none⟩) (show w.heap.size+1+1<_ by omega) id).trans ec7;have kc8:w5.cell? ⟨w.heap.size+1+1,2,none⟩=some (.slice none 0 0):=(hk5.cell (p:=⟨w.heap.size+1+1,2,none⟩) (show w.heap.size+1+1<_ by omega) id).trans dc8;have lc8:w5.frozen? ⟨w.heap.size+1+1,2,none⟩=false:=(hk5.frozen (p:=⟨w.heap.size+1+1,2,none⟩) (show w.heap.size+1+1<_ by omega) id).trans ec8))
 all_goals clear KK
 all_goals go_wp2
 all_goals(
  have hwr:IntKind.i64.wrap ((g.1:Int)+(h.1:Int))=((g.1+h.1:Nat):Int):=by rw[Al9];omega
  have hmn:(min (g.2.1.toNat:Int) (h.2.1.toNat:Int))=((UInt8.ofNat (min g.2.1.toNat h.2.1.toNat)).toNat:Int):=by rw[Ame];omega
  try rw[hwr]
  rw[hmn];obtain⟨hk0,r2,hk4'⟩:=HX.out;have hb6:w.heap.size+1+1+1+1≤g5:=by have:=hb5 g5 rfl;omega
  have hr5:=Alf _ _ 2 _ _ (.slice (some ⟨g5,0,none⟩) (g.2.2.length+h.2.2.length) c5) (Alf _ _ 1 _ _ (.int .u8 ((UInt8.ofNat (min g.2.1.toNat h.2.1.toNat)).toNat:Nat)) (Alf _ _ 0 _ _ (.int .i64 ((g.1+h.1:Nat):Nat)) (hk5.row (hk4'.row r2 id) id)));have hk6:=(hk0.trans hk4' (fun _ _ h=>h)).trans hk5 (fun _ _ h=>h);refine Amo (v:= .agg #[.int .i64 ((g.1+h.1:Nat):Nat),.int .u8 ((UInt8.ofNat (min g.2.1.toNat h.2.1.toNat)).toNat:Nat),.slice (some ⟨g5,0,none⟩) (g.2.2.length+h.2.2.length) c5]) (Am3 Tryz.results140 _ _ (w.heap.size+1+1) 216 _ (0,0) _ rfl hr5 Tryz.underlying216 rfl (by kernel_rfl)) rfl ⟨.slice (some ⟨g5,0,none⟩) (g.2.2.length+h.2.2.length) c5,?_,?_,?_,?_⟩
  ·rw[hE.out]
  ·rw[hE.out];have hM:=HM5.out;rw[Alg]at hM;have hkk:Aa (fun k=>k=w.heap.size+1+1) w5 _:=(((Aa.refl (fun k=>k=w.heap.size+1+1) w5).setCell (p:=⟨w.heap.size+1+1,0,none⟩) (.inr rfl) (.int .i64 ((g.1+h.1:Nat):Nat))).setCell (p:=⟨w.heap.size+1+1,1,none⟩) (.inr rfl) (.int .u8 ((UInt8.ofNat (min g.2.1.toNat h.2.1.toNat)).toNat:Nat))).setCell (p:=⟨w.heap.size+1+1,2,none⟩) (.inr rfl) (.slice (some ⟨g5,0,none⟩) (g.2.2.length+h.2.2.length) c5);exact hM.kept hkk (fun k hk e=>by cases hk;exact absurd (show g5=w.heap.size+1+1 from e) (by omega))
  ·intro k hk;cases hk;show w.heap.size≤g5;omega
  ·exact((hk6.setCell (.inl (show w.heap.size≤w.heap.size+1+1 by omega)) _).setCell (.inl (show w.heap.size≤w.heap.size+1+1 by omega)) _).setCell (.inl (show w.heap.size≤w.heap.size+1+1 by omega)) _)
namespace Hm
def Kl(gs:List Grp):Nat:=(gs.map (·.1)).sum
def Jg(gs:List Grp):Nat:=(gs.map (·.2.2.length)).sum
theorem Tz(a b:List Grp):Kl (a++b)=Kl a+Kl b:=by simp[Kl]
theorem Adg(a b:List Grp):Jg (a++b)=Jg a+Jg b:=by simp[Jg]
theorem U5(g:Grp):Kl [g]=g.1:=by simp[Kl]
theorem Aja(g:Grp):Jg [g]=g.2.2.length:=by simp[Jg]
theorem Kd: ∀(gs:List Grp) (i:Nat),i<gs.length→Kl (gs.eraseIdx i)+(gs.getD i (0,0,[])).1=Kl gs
 |g::gs,0,_=>by simp[Kl];omega
 |g::gs,i+1,h=>by
  have:=Kd gs i (by simpa using h);simp only[Kl,List.eraseIdx_cons_succ,Amu,Aou,List.getD_cons_succ]at*;omega
theorem Nc: ∀(gs:List Grp) (i:Nat),i<gs.length→Jg (gs.eraseIdx i)+(gs.getD i (0,0,[])).2.2.length=Jg gs
 |g::gs,0,_=>by simp[Jg];omega
 |g::gs,i+1,h=>by
  have:=Nc gs i (by simpa using h);simp only[Jg,List.eraseIdx_cons_succ,Amu,Aou,List.getD_cons_succ]at*;omega
theorem Abi(gs:List Grp)(i:Nat)(h:i<gs.length):gs.getD i (0,0,[])∈gs:=by
 rw[Ak6,Ak7 h];exact Alo _
structure Km(gs:List Grp):Prop where
 w:Kl gs≤6000
 m:Jg gs≤256
 ne: ∀g∈gs,0<g.2.2.length
theorem Km.len{gs:List Grp}(h:Km gs):gs.length≤256:=by
 have h1:=h.m;have key: ∀l:List Grp,(∀g∈l,0<g.2.2.length)→l.length≤Jg l:=by
  intro l;induction l with
  |nil=>intro _;simp
  |cons g l ih=>
   intro hl;have h2:=ih (fun x hx=>hl x (Als _ hx));have h3:=hl g Alp;simp only[Jg,Amu,Aou,Amc]at*;omega
 have:=key gs h.ne;omega
def Aq(gs:List Grp):Grp:=gs.getD (first gs) (0,0,[])
def left(gs:List Grp):List Grp:=gs.eraseIdx (first gs)
theorem D8(gs:List Grp)(h:0<gs.length):(left gs).length+1=gs.length:=by
 rw[left,List.length_eraseIdx_of_lt (Gg gs h)];omega
theorem Km.left{gs:List Grp}(h:Km gs)(h0:0<gs.length):Km (left gs):=by
 have h1:=Kd gs (first gs) (Gg gs h0);have h2:=Nc gs (first gs) (Gg gs h0);have:=h.w;have:=h.m;exact⟨by rw[Hm.left];omega,by rw[Hm.left];omega,fun g hg=>h.ne g (List.mem_of_mem_eraseIdx hg)⟩
def Kn(gs:List Grp):Grp:=Em (Aq gs) (Aq (left gs))
def step(gs:List Grp):List Grp:=left (left gs)++[Kn gs]
theorem T0(gs:List Grp)(h:1<gs.length):(step gs).length+1=gs.length:=by
 have h1:=D8 gs (by omega);have h2:=D8 (left gs) (by omega);rw[step,Alg,List.length_singleton];omega
theorem Abj{gs:List Grp}(h:Km gs)(h0:0<gs.length):Kl (left gs)+(Aq gs).1≤6000∧Jg (left gs)+(Aq gs).2.2.length≤256∧0<(Aq gs).2.2.length:=by
 have h1:=Kd gs (first gs) (Gg gs h0);have h2:=Nc gs (first gs) (Gg gs h0);have:=h.w;have:=h.m;exact⟨by rw[left,Aq];omega,by rw[left,Aq];omega,h.ne _ (Abi gs _ (Gg gs h0))⟩
theorem Aer{gs:List Grp}(h:Km gs)(h0:1<gs.length):Kl (left (left gs))+(Aq gs).1+(Aq (left gs)).1≤6000∧Jg (left (left gs))+(Aq gs).2.2.length+(Aq (left gs)).2.2.length≤256∧0<(Aq gs).2.2.length∧0<(Aq (left gs)).2.2.length:=by
 have hl:=D8 gs (by omega);have a:=Abj h (by omega);have h1:=Kd (left gs) (first (left gs)) (Gg _ (by omega));have h2:=Nc (left gs) (first (left gs)) (Gg _ (by omega));have b:=Abj (h.left (by omega)) (by omega);refine⟨?_,?_,a.2.2,b.2.2⟩
 ·rw[show left (left gs)=(left gs).eraseIdx (first (left gs))from rfl,show Aq (left gs)=(left gs).getD (first (left gs)) (0,0,[])from rfl];omega
 ·rw[show left (left gs)=(left gs).eraseIdx (first (left gs))from rfl,show Aq (left gs)=(left gs).getD (first (left gs)) (0,0,[])from rfl];omega
theorem Km.step{gs:List Grp}(h:Km gs)(h0:1<gs.length):Km (step gs):=by
 have hb:=Aer h h0;have hl:=D8 gs (by omega);have h2:=(h.left (by omega)).left (by omega);refine⟨?_,?_,?_⟩
 ·rw[Hm.step,Tz,U5,Kn,Em];simp only[];omega
 ·rw[Hm.step,Adg,Aja,Kn,Em];simp only[Alg];omega
 ·intro g hg;rw[Hm.step,Ao7,List.mem_singleton]at hg;rcases hg with hg|rfl
  ·exact h2.ne g hg
  ·rw[Kn,Em];simp only[Alg];omega
def bump(L:List Nat):List UInt8→List Nat
 |[]=>L
 |b::bs=>bump (L.set b.toNat (L.getD b.toNat 0+1)) bs
theorem Kp: ∀(bs:List UInt8) (L:List Nat),(bump L bs).length=L.length
 |[],_=>rfl
 |b::bs,L=>by rw[bump,Kp bs];simp
theorem Xn: ∀(bs:List UInt8) (L:List Nat) (M:Nat),(∀x∈L,x≤M)→ ∀x∈bump L bs,x≤M+bs.length
 |[],L,M,h,x,hx=>by simpa using h x hx
 |b::bs,L,M,h,x,hx=>by
  have:=Xn bs _ (M+1) (fun y hy=>by
   rcases An6 hy with hy|rfl
   ·have:=h y hy;omega
   ·have:L.getD b.toNat 0≤M:=by
     rw[Ak6]
     by_cases hb:b.toNat<L.length
     ·rw[Ak7 hb];exact h _ (Alo _)
     ·rw[Al3 (by omega)];simp
    omega) x hx
  simp only[Amc];omega
theorem Yu: ∀(bs:List UInt8) (L:List Nat) (b:UInt8),bump L (bs++[b])=(bump L bs).set b.toNat ((bump L bs).getD b.toNat 0+1)
 |[],_,_=>rfl
 |c::bs,L,b=>by rw[Aok,bump,Yu bs,←bump]
def Bq(gs:List Grp)(L:List Nat):Nat→List Grp×List Nat
 |0=>(gs,L)
 |k+1=>(step (Bq gs L k).1,bump (Bq gs L k).2 (Kn (Bq gs L k).1).2.2)
def lens(t:List UInt8):List Nat:=
 let gs:=Aj t 256
 let L:=List.replicate 256 0
 if gs.length=1 then L.set (gs.getD 0 (0,0,[])).2.1.toNat 1 else(Bq gs L (gs.length-1)).2
theorem Abk(t:List UInt8)(b:Nat):Jg (Aj t b)≤b:=by
 have:Jg (Aj t b)=(Aj t b).length:=by
  unfold Jg Aj;rw[List.map_map,Al6];generalize(List.range b).filter _=l;induction l with
  |nil=>rfl
  |cons x l ih=>simp only[Amu,Aou,Amc,Function.comp,ih];simp;omega
 rw[this];exact Ph t b
theorem Rx(t:List UInt8): ∀b,Kl (Aj t b)=t.countP fun x=>decide (x.toNat<b)
 |0=>by simp[Aj,Kl]
 |b+1=>by
  rw[Rv,Tz,Rx t b];have e:(t.countP fun x=>decide (x.toNat<b+1))=(t.countP fun x=>decide (x.toNat<b))+cnt t b:=by
   unfold cnt;induction t with
   |nil=>rfl
   |cons x t ih=>
    simp only[Am8,ih]
    by_cases h1:x.toNat<b
    ·have h2:x.toNat<b+1:=by omega
     have h3: ¬x.toNat=b:=by omega
     simp[h1,h2,h3];omega
    ·by_cases h3:x.toNat=b
     ·have h2:x.toNat<b+1:=by omega
      simp[h3];omega
     ·have h2: ¬x.toNat<b+1:=by omega
      simp[h1,h2,h3]
  rw[e]
  by_cases h:0<cnt t b
  ·rw[if_pos h,U5]
  ·rw[if_neg h];simp only[Kl,Ao1,List.sum_nil];omega
theorem Nt(t:List UInt8)(h:t.length≤6000):Km (Aj t 256):=by
 refine⟨?_,Abk t 256,?_⟩
 ·rw[Rx];exact Al2 List.countP_le_length h
 ·intro g hg;unfold Aj at hg;obtain⟨x,_,rfl⟩:=List.mem_map.1 hg;simp
end Hm
end Go.Proofs.YtegnkfdbmmndaaaGreat
namespace Go.Proofs.YtegnkfdbmmndaaaGreat
open Hm
namespace Hm
def fib:Nat→Nat
 |0=>1
 |1=>2
 |n+2=>fib (n+1)+fib n
theorem Aes: ∀n,1≤fib n
 |0=>by decide
 |1=>by decide
 |n+2=>by have:=Aes (n+1);rw[fib];omega
theorem Ajb: ∀n,fib n≤fib (n+1)
 |0=>by decide
 |n+1=>by rw[fib];omega
theorem Akx{m n:Nat}(h:m≤n):fib m≤fib n:=by
 induction h with
 |refl=>exact Ale _
 |step _ ih=>exact Al2 ih (Ajb _)
theorem Yv(n:Nat)(h:fib n≤6000):n≤17:=by
 apply Nat.le_of_not_lt;intro k;have:=Akx (show 18≤n from k);have e:fib 18=6765:=by decide
 omega
abbrev ln(L:List Nat)(b:UInt8):Nat:=L.getD b.toNat 0
theorem Ry: ∀(bs:List UInt8) (L:List Nat) (b:UInt8),b.toNat<L.length→ln (bump L bs) b=ln L b+bs.count b
 |[],L,b,_=>by simp[bump]
 |c::bs,L,b,h=>by
  rw[bump,Ry bs _ b (by simpa using h),List.count_cons]
  by_cases e:c=b
  ·subst e;have:(L.set c.toNat (L.getD c.toNat 0+1)).getD c.toNat 0=L.getD c.toNat 0+1:=by
    rw[Ak6,Aol h];rfl
   simp only[ln,this,Aoi,if_true];omega
  ·have hne:c.toNat≠b.toNat:=fun k=>e (UInt8.toNat_inj.1 k);have:(L.set c.toNat (L.getD c.toNat 0+1)).getD b.toNat 0=L.getD b.toNat 0:=by
    rw[Ak6,Aoh hne,←Ak6]
   simp only[ln,this];have e2:(c==b)=false:=by simpa using e
   simp[e2]
theorem S7{bs:List UInt8}{L:List Nat}{b:UInt8}(hL:L.length=256)(hn:bs.Nodup)(hb:b∈bs):ln (bump L bs) b=ln L b+1:=by
 rw[Ry bs L b (by rw[hL];exact b.toNat_lt),List.Nodup.count hn,if_pos hb]
theorem U6{bs:List UInt8}{L:List Nat}{b:UInt8}(hL:L.length=256)(hb:b∉bs):ln (bump L bs) b=ln L b:=by
 rw[Ry bs L b (by rw[hL];exact b.toNat_lt),List.count_eq_zero_of_not_mem hb];omega
def kr(M:Nat)(L:List Nat)(ms:List UInt8):Nat:=(ms.map fun b=>2^(M-ln L b)).sum
theorem Ok(M:Nat)(L:List Nat)(a b:List UInt8):kr M L (a++b)=kr M L a+kr M L b:=by simp[kr]
theorem Aet{M:Nat}{L:List Nat}(hL:L.length=256){bs:List UInt8}(hn:bs.Nodup): ∀ms:List UInt8,(∀b∈ms,b∈bs)→kr (M+1) (bump L bs) ms=kr M L ms
 |[],_=>rfl
 |b::ms,h=>by
  have ih:=Aet (M:=M) hL hn ms (fun x hx=>h x (Als _ hx));unfold kr at*;rw[Amu,Aou,Amu,Aou,ih,S7 hL hn (h b Alp),show M+1-(ln L b+1)=M-ln L b from by omega]
theorem Aeu{M:Nat}{L K:List Nat}: ∀ms:List UInt8,(∀b∈ms,ln K b=ln L b)→kr M K ms=kr M L ms
 |[],_=>rfl
 |b::ms,h=>by
  have ih:=Aeu (M:=M) ms (fun x hx=>h x (Als _ hx));unfold kr at*;rw[Amu,Aou,Amu,Aou,ih,h b Alp]
theorem Qo(gs:List Grp): ∀k,k≤gs.length→ ∀i,i<k→(gs.getD (Ci gs k) (0,0,[])).1≤(gs.getD i (0,0,[])).1
 |0,_,i,h=>by omega
 |k+1,hk,i,h=>by
  have ih:=Qo gs k (by omega);rw[Ci];have neg: ∀g h:Grp,L4 g h<0↔ltP (g.1,g.2.1.toNat) (h.1,h.2.1.toNat):=fun g h=>Nr (g.1,g.2.1.toNat) (h.1,h.2.1.toNat)
  by_cases c:L4 (gs.getD k (0,0,[])) (gs.getD (Ci gs k) (0,0,[]))<0
  ·rw[if_pos c];have c':=(neg _ _).1 c;unfold ltP at c';simp only at c'
   by_cases e:i=k
   ·subst e;exact Ale _
   ·have:=ih i (by omega);omega
  ·rw[if_neg c];have c':=mt (neg _ _).2 c;unfold ltP at c';simp only at c'
   by_cases e:i=k
   ·subst e;omega
   ·exact ih i (by omega)
theorem T3(gs:List Grp)(g:Grp)(hg:g∈gs):(Aq gs).1≤g.1:=by
 obtain⟨i,hi,rfl⟩:=Aml hg;have:=Qo gs gs.length (Ale _) i hi;rw[Ak6 (i:=i),Ak7 hi]at this;exact this
theorem Yw(gs:List Grp)(h:0<gs.length):Aq gs∈gs:=Abi gs _ (Gg gs h)
theorem V1{α:Type}: ∀(l:List α) (i:Nat) (h:i<l.length),l.Perm (l[i]::l.eraseIdx i)
 |a::l,0,_=>List.Perm.refl _
 |a::l,i+1,h=>by
  have ih:=V1 l i (by simpa using h);rw[List.eraseIdx_cons_succ,List.getElem_cons_succ];exact(ih.cons a).trans (List.Perm.swap _ _ _)
theorem Iy(gs:List Grp)(h:0<gs.length):gs.Perm (Aq gs::left gs):=by
 have hl:=Gg gs h;have e:Aq gs=gs[first gs]:=by rw[Aq,Ak6,Ak7 hl];rfl
 rw[e,left];exact V1 gs _ hl
theorem Nu(gs:List Grp)(h:1<gs.length):gs.Perm (Aq gs::Aq (left gs)::left (left gs)):=by
 have h1:=D8 gs (by omega);exact(Iy gs (by omega)).trans ((Iy (left gs) (by omega)).cons _)
def Bd(gs:List Grp):List UInt8:=gs.flatMap (·.2.2)
structure L5(gs:List Grp)(L:List Nat):Prop where
 len:L.length=256
 nd:(Bd gs).Nodup
 ne: ∀g∈gs,g.2.2≠[]
 kr: ∀g∈gs,∀M,(∀b∈g.2.2,ln L b≤M)→kr M L g.2.2=2^M
 f1: ∀g∈gs,∀b∈g.2.2,fib (ln L b)≤g.1
 f2:gs.Pairwise fun g h=>(∀b∈g.2.2,fib (ln L b-1)≤h.1)∧ ∀b∈h.2.2,fib (ln L b-1)≤g.1
theorem L5.perm{gs hs:List Grp}{L:List Nat}(h:L5 gs L)(p:gs.Perm hs):L5 hs L:=
 ⟨h.len,((p.flatMap_right _).nodup_iff).1 h.nd,fun g hg=>h.ne g (p.mem_iff.2 hg),fun g hg=>h.kr g (p.mem_iff.2 hg),fun g hg=>h.f1 g (p.mem_iff.2 hg),
  (p.pairwise_iff (fun{_ _} k=>⟨k.2,k.1⟩)).1 h.f2⟩
theorem L5.merge{x y:Grp}{gs:List Grp}{L:List Nat}(h:L5 (x::y::gs) L)(hx: ∀g∈gs,x.1≤g.1)(hy: ∀g∈gs,y.1≤g.1):L5 (Em x y::gs) (bump L (Em x y).2.2):=by
 have hnd:=h.nd;unfold Bd at hnd;rw[Amg,Amg,←Alx]at hnd;have hj:(Em x y).2.2=x.2.2++y.2.2:=rfl;have hn:(Em x y).2.2.Nodup:=by rw[hj];exact(List.nodup_append.1 hnd).1
 have inn: ∀b∈(Em x y).2.2,ln (bump L (Em x y).2.2) b=ln L b+1:=fun b hb=>S7 h.len hn hb;have out: ∀g∈gs,∀b∈g.2.2,ln (bump L (Em x y).2.2) b=ln L b:=fun g hg b hb=>U6 h.len fun hc=>by
  have:=(List.nodup_append.1 hnd).2.2;exact this b (by rw[←hj];exact hc) b (List.mem_flatMap.2 ⟨g,hg,hb⟩) rfl
 have hf2:=h.f2;rw[Ao0,Ao0]at hf2;obtain⟨p1,p2,p3⟩:=hf2;have pxy:=p1 y Alp;have deep: ∀b∈(Em x y).2.2,fib (ln L b+1)≤x.1+y.1:=fun b hb=>by
  rw[hj,Ao7]at hb;have grow: ∀n a b:Nat,fib n≤a→fib (n-1)≤b→fib (n+1)≤a+b:=fun n a b h1 h2=>by
   cases n with
   |zero=>rw[show fib (0+1)=2 from rfl];have:=Aes 0;have e:fib (0-1)=1:=rfl;have e2:fib 0=1:=rfl;omega
   |succ n=>rw[fib];simp only[An0]at h2;omega
  rcases hb with hb|hb
  ·exact grow _ _ _ (h.f1 x Alp b hb) (pxy.1 b hb)
  ·have:=grow _ _ _ (h.f1 y (Als _ Alp) b hb) (pxy.2 b hb);omega
 refine⟨by rw[Kp];exact h.len,?_,fun g hg=>?_,fun g hg M hM=>?_,fun g hg b hb=>?_,?_⟩
 ·unfold Bd;rw[Amg,hj];exact hnd
 ·rcases List.mem_cons.1 hg with rfl|hg
  ·rw[hj];exact fun k=>h.ne x Alp (List.append_eq_nil_iff.1 k).1
  ·exact h.ne g (Als _ (Als _ hg))
 ·rcases List.mem_cons.1 hg with rfl|hg
  ·have hne:=h.ne x Alp;obtain⟨b0,hb0⟩:=List.exists_mem_of_ne_nil _ hne;have h0:=hM b0 (by rw[hj];exact Ao5 _ hb0);rw[inn b0 (by rw[hj];exact Ao5 _ hb0)]at h0;obtain⟨M',rfl⟩: ∃M',M=M'+1:=⟨M-1,by omega⟩;rw[Aet h.len hn _ (fun _ hb=>hb),hj,Ok,h.kr x Alp M' (fun b hb=>by
     have hb':b∈(Em x y).2.2:=by rw[hj];exact Ao5 _ hb
     have:=hM b hb';rw[inn b hb']at this;omega),
    h.kr y (Als _ Alp) M' (fun b hb=>by
     have hb':b∈(Em x y).2.2:=by rw[hj];exact List.mem_append_right _ hb
     have:=hM b hb';rw[inn b hb']at this;omega),Amv]
   omega
  ·rw[Aeu _ (out g hg)];exact h.kr g (Als _ (Als _ hg)) M fun b hb=>by have:=hM b hb;rw[out g hg b hb]at this;exact this
 ·rcases List.mem_cons.1 hg with rfl|hg
  ·rw[inn b hb];exact deep b hb
  ·rw[out g hg b hb];exact h.f1 g (Als _ (Als _ hg)) b hb
 ·rw[Ao0];refine⟨fun g hg=>⟨fun b hb=>?_,fun b hb=>?_⟩,?_⟩
  ·rw[inn b hb,An0];rw[hj,Ao7]at hb;rcases hb with hb|hb
   ·exact Al2 (h.f1 x Alp b hb) (hx g hg)
   ·exact Al2 (h.f1 y (Als _ Alp) b hb) (hy g hg)
  ·rw[out g hg b hb];have:=(p2 g hg).2 b hb;show _≤x.1+y.1;omega
  ·refine p3.imp_of_mem fun{g k} hg hk r=>⟨fun b hb=>?_,fun b hb=>?_⟩
   ·rw[out g hg b hb];exact r.1 b hb
   ·rw[out k hk b hb];exact r.2 b hb
theorem L5.step{gs:List Grp}{L:List Nat}(h:L5 gs L)(h1:1<gs.length):L5 (step gs) (bump L (Kn gs).2.2):=by
 have hp:=Nu gs h1;have hl:=D8 gs (by omega);have w:=(h.perm hp).merge (fun g hg=>T3 gs g (hp.mem_iff.2 (Als _ (Als _ hg)))) (fun g hg=>T3 (left gs) g ((Iy (left gs) (by omega)).mem_iff.2 (Als _ hg)));exact w.perm (by rw[Hm.step];exact(List.perm_append_singleton _ _).symm)
theorem Rz(gs:List Grp)(h1:1<gs.length):(Bd (step gs)).Perm (Bd gs):=by
 have hp:=(Nu gs h1).flatMap_right (fun g:Grp=>g.2.2);refine List.Perm.trans ?_ hp.symm;have e:(Bd (step gs)).Perm (Bd (Kn gs::left (left gs))):=by
  unfold Bd;rw[Hm.step];exact(List.perm_append_singleton _ _).flatMap_right _
 refine e.trans ?_;unfold Bd;rw[Amg,Amg,Amg,←Alx];exact List.Perm.refl _
theorem Lp(t:List UInt8):Bd (Aj t 256)=((List.range 256).filter fun x=>decide (0<cnt t x)).map UInt8.ofNat:=by
 unfold Bd Aj;rw[List.flatMap_map];generalize(List.range 256).filter _=l;induction l with
 |nil=>rfl
 |cons x l ih=>rw[Amg,ih];rfl
theorem V2{l:List Nat}(h:l.Nodup)(hx: ∀x∈l,x<256):(l.map UInt8.ofNat).Nodup:=by
 rw[List.nodup_iff_pairwise_ne,List.pairwise_map];refine(List.nodup_iff_pairwise_ne.1 h).imp_of_mem fun{a b} ha hb hne e=>hne ?_;have:=congrArg UInt8.toNat e;rw[Ame,Ame]at this;have:=hx a ha;have:=hx b hb;omega
theorem R3(t:List UInt8):L5 (Aj t 256) (List.replicate 256 0):=by
 have hz: ∀b:UInt8,ln (List.replicate 256 0) b=0:=fun b=>by
  rw[ln,Ak6,Am0 b.toNat_lt];rfl
 have hg: ∀g∈Aj t 256,∃b,g.2.2=[b]∧0<g.1:=fun g hg=>by
  unfold Aj at hg;obtain⟨x,hx,rfl⟩:=List.mem_map.1 hg;exact⟨_,rfl,by simpa using(List.mem_filter.1 hx).2⟩
 refine⟨Alj,?_,fun g h=>?_,fun g h M _=>?_,fun g h b _=>?_,?_⟩
 ·rw[Lp];exact V2 (List.nodup_iff_pairwise_ne.2 ((List.nodup_iff_pairwise_ne.1 List.nodup_range).filter _)) fun x hx=>by simpa using(List.mem_filter.1 hx).1
 ·obtain⟨b,e,_⟩:=hg g h;rw[e];simp
 ·obtain⟨b,e,_⟩:=hg g h;rw[e];unfold Hm.kr;simp only[Amu,Ao1,Aou,List.sum_nil,hz];simp
 ·obtain⟨_,_,hw⟩:=hg g h;rw[hz];exact hw
 ·refine List.Pairwise.imp_of_mem (R:=fun _ _=>True) (fun{g k} h1 h2 _=>⟨fun b _=>?_,fun b _=>?_⟩) (List.pairwise_of_forall fun _ _=>trivial)
  ·obtain⟨_,_,hw⟩:=hg k h2;rw[hz];exact hw
  ·obtain⟨_,_,hw⟩:=hg g h1;rw[hz];exact hw
theorem Ie(t:List UInt8): ∀k,k<(Aj t 256).length→(Bq (Aj t 256) (List.replicate 256 0) k).1.length+k=(Aj t 256).length∧L5 (Bq (Aj t 256) (List.replicate 256 0) k).1 (Bq (Aj t 256) (List.replicate 256 0) k).2∧(Bd (Bq (Aj t 256) (List.replicate 256 0) k).1).Perm (Bd (Aj t 256))∧(∀b,b∉Bd (Aj t 256)→ln (Bq (Aj t 256) (List.replicate 256 0) k).2 b=0)
 |0,_=>⟨rfl,R3 t,List.Perm.refl _,fun b _=>by rw[Bq,ln,Ak6,Am0 b.toNat_lt];rfl⟩
 |k+1,h=>by
  obtain⟨h1,h2,h3,h4⟩:=Ie t k (by omega);have hs:=T0 (Bq (Aj t 256) (List.replicate 256 0) k).1 (by omega);refine⟨by rw[Bq];simp only;omega,h2.step (by omega),(Rz _ (by omega)).trans h3,fun b hb=>?_⟩;rw[Bq];simp only;rw[U6 h2.len,h4 b hb];intro hc;refine hb (h3.mem_iff.1 ((Rz _ (by omega)).mem_iff.1 ?_));unfold Bd;rw[Hm.step,Ana,Ao7];exact .inr (by rw[Amg,List.flatMap_nil,Am4];exact hc)
structure Ak1(t:List UInt8)(L:List Nat):Prop where
 len:L.length=256
 pos: ∀b:UInt8,0<ln L b↔b∈t
 short:t.length≤6000→ ∀b:UInt8,ln L b≤17
 full: ∀ms:List UInt8,ms.Nodup→(∀b,b∈ms↔0<ln L b)→1<ms.length→ ∀M,(∀b∈ms,ln L b≤M)→kr M L ms=2^M
 one: ∀ms:List UInt8,ms.Nodup→(∀b,b∈ms↔0<ln L b)→ms.length=1→ ∀b∈ms,ln L b=1
theorem T4(t:List UInt8)(b:UInt8):b∈Bd (Aj t 256)↔b∈t:=by
 rw[Lp,List.mem_map];constructor
 ·rintro⟨x,hx,rfl⟩;have h1:=List.mem_filter.1 hx;have h2:0<cnt t x:=by simpa using h1.2
  have h3:x<256:=by simpa using h1.1
  unfold cnt at h2;obtain⟨y,hy,e⟩:=List.countP_pos_iff.1 h2;have e':y.toNat=x:=by simpa using e
  rw[show UInt8.ofNat x=y from by rw[←e'];simp];exact hy
 ·intro h;refine⟨b.toNat,List.mem_filter.2 ⟨List.mem_range.2 b.toNat_lt,?_⟩,by simp⟩;have:0<cnt t b.toNat:=List.countP_pos_iff.2 ⟨b,h,by simp⟩;simpa using this
theorem Xo{M:Nat}{L:List Nat}{a b:List UInt8}(h:a.Perm b):kr M L a=kr M L b:=(h.map _).sum_nat
theorem V3(t:List UInt8):Ak1 t (lens t):=by
 have hmem:=T4 t;have hnd:=(R3 t).nd;have uniq: ∀ms:List UInt8,ms.Nodup→(∀b,b∈ms↔b∈t)→ms.Perm (Bd (Aj t 256)):=fun ms h1 h2=>
  (List.perm_ext_iff_of_nodup h1 hnd).2 fun b=>by rw[h2,hmem]
 have hml:(Bd (Aj t 256)).length=(Aj t 256).length:=by
  rw[Lp];unfold Aj;simp
 have hlens:lens t=if(Aj t 256).length=1 then(List.replicate 256 0).set ((Aj t 256).getD 0 (0,0,[])).2.1.toNat 1 else(Bq (Aj t 256) (List.replicate 256 0) ((Aj t 256).length-1)).2:=rfl;rw[hlens]
 by_cases h1:(Aj t 256).length=1
 ·rw[if_pos h1];obtain⟨g,hg⟩:=List.length_eq_one_iff.1 h1;have hgm:g∈Aj t 256:=by rw[hg];exact List.mem_singleton.2 rfl
  obtain⟨x,hx,e⟩: ∃x,x∈(List.range 256).filter (fun x=>decide (0<cnt t x))∧(cnt t x,UInt8.ofNat x,[UInt8.ofNat x])=g:=by
   unfold Aj at hgm;exact List.mem_map.1 hgm
  have hms:Bd (Aj t 256)=[UInt8.ofNat x]:=by unfold Bd;rw[hg,←e];rfl
  have e0:((Aj t 256).getD 0 (0,0,[])).2.1=UInt8.ofNat x:=by rw[hg,←e];rfl
  rw[e0];have hln: ∀b,ln ((List.replicate 256 0).set (UInt8.ofNat x).toNat 1) b=if b=UInt8.ofNat x then 1 else 0:=fun b=>by
   rw[ln,Ak6]
   by_cases c:b=UInt8.ofNat x
   ·rw[if_pos c,c,Aol (by rw[Alj];exact(UInt8.ofNat x).toNat_lt)];rfl
   ·rw[if_neg c,Aoh (fun k=>c (UInt8.toNat_inj.1 k.symm)),Am0 b.toNat_lt];rfl
  have hin: ∀b,b∈t↔b=UInt8.ofNat x:=fun b=>by rw[←hmem,hms,List.mem_singleton]
  refine⟨by rw[Amn,Alj],fun b=>?_,fun _ b=>?_,fun ms h2 h3 h4=>?_,fun ms h2 h3 h4 b hb=>?_⟩
  ·rw[hln,hin];by_cases c:b=UInt8.ofNat x<;>simp[c]
  ·rw[hln];split<;>omega
  ·have:=(uniq ms h2 (fun b=>by rw[h3,hln,hin];by_cases c:b=UInt8.ofNat x<;>simp[c])).length_eq;omega
  ·have:=(h3 b).1 hb;rw[hln]at this⊢;split
   ·rfl
   ·rw[if_neg (by assumption)]at this;omega
 ·rw[if_neg h1]
  by_cases h0:(Aj t 256).length=0
  ·have he:=Amj h0;have hno: ∀b,b∉t:=fun b hb=>by have:=(hmem b).2 hb;rw[he]at this;simp[Bd]at this
   have hz: ∀b:UInt8,ln (Bq (Aj t 256) (List.replicate 256 0) ((Aj t 256).length-1)).2 b=0:=fun b=>by
    rw[h0];show ln (List.replicate 256 0) b=0;rw[ln,Ak6,Am0 b.toNat_lt];rfl
   refine⟨by rw[h0];exact Alj,fun b=>?_,fun _ b=>?_,fun ms h2 h3 h4=>?_,fun ms h2 h3 h4=>?_⟩
   ·rw[hz];exact⟨fun h=>by omega,fun h=>absurd h (hno b)⟩
   ·rw[hz];omega
   all_goals
    obtain⟨b,hb⟩:=List.exists_mem_of_length_pos (show 0<ms.length by omega);have:=(h3 b).1 hb;rw[hz]at this;omega
  ·obtain⟨n,hn⟩: ∃n,(Aj t 256).length=n+2:=⟨(Aj t 256).length-2,by omega⟩;obtain⟨p1,p2,p3,p4⟩:=Ie t (n+1) (by omega);obtain⟨q1,q2,q3,q4⟩:=Ie t n (by omega);rw[show(Aj t 256).length-1=n+1 from by omega];obtain⟨g,hg⟩:=List.length_eq_one_iff.1 (show(Bq (Aj t 256) (List.replicate 256 0) (n+1)).1.length=1 by omega);have hgm:g∈(Bq (Aj t 256) (List.replicate 256 0) (n+1)).1:=by rw[hg];exact List.mem_singleton.2 rfl
   have hmg:Bd (Bq (Aj t 256) (List.replicate 256 0) (n+1)).1=g.2.2:=by rw[hg];simp[Bd]
   rw[hmg]at p3;have hin: ∀b,b∈g.2.2↔b∈t:=fun b=>by rw[←hmem,p3.mem_iff]
   have hgb:g.2.2=(Kn (Bq (Aj t 256) (List.replicate 256 0) n).1).2.2:=by
    have e:(Bq (Aj t 256) (List.replicate 256 0) (n+1)).1=Hm.step (Bq (Aj t 256) (List.replicate 256 0) n).1:=rfl;have hl1:=D8 (Bq (Aj t 256) (List.replicate 256 0) n).1 (by omega);have hl2:=D8 (left (Bq (Aj t 256) (List.replicate 256 0) n).1) (by omega);have e2:left (left (Bq (Aj t 256) (List.replicate 256 0) n).1)=[]:=Amj (by omega);rw[hg,Hm.step,e2,Aoo]at e;rw[List.cons.inj e|>.1]
   have hgnd:g.2.2.Nodup:=by have:=p2.nd;rw[hmg]at this;exact this
   have hpos: ∀b,0<ln (Bq (Aj t 256) (List.replicate 256 0) (n+1)).2 b↔b∈t:=fun b=>by
    constructor
    ·intro h;apply Ao3;intro hc;have:=p4 b (fun k=>hc ((hmem b).1 k));omega
    ·intro h;have hb:=(hin b).2 h;have e:(Bq (Aj t 256) (List.replicate 256 0) (n+1)).2=bump (Bq (Aj t 256) (List.replicate 256 0) n).2 (Kn (Bq (Aj t 256) (List.replicate 256 0) n).1).2.2:=rfl;rw[e,←hgb,S7 q2.len hgnd hb];omega
   refine⟨p2.len,hpos,fun hl b=>?_,fun ms h2 h3 h4 M hM=>?_,fun ms h2 h3 h4=>?_⟩
   ·by_cases hb:b∈t
    ·have h5:=p2.f1 g hgm b ((hin b).2 hb);have h6:g.1≤6000:=by
      have hf: ∀k,k<(Aj t 256).length→Km (Bq (Aj t 256) (List.replicate 256 0) k).1:=fun k=>by
       induction k with
       |zero=>intro _;exact Nt t hl
       |succ k ih=>
        intro hk;have:=(Ie t k (by omega)).1;exact(ih (by omega)).step (by omega)
      have:=(hf (n+1) (by omega)).w;rw[hg,U5]at this;exact this
     exact Yv _ (by omega)
    ·have:=mt (hpos b).1 hb;omega
   ·have hp:ms.Perm g.2.2:=(List.perm_ext_iff_of_nodup h2 hgnd).2 fun b=>by rw[h3,hpos,hin]
    rw[Xo hp];exact p2.kr g hgm M fun b hb=>hM b (hp.mem_iff.2 hb)
   ·have:=(uniq ms h2 (fun b=>by rw[h3,hpos])).length_eq;omega
end Hm
namespace Hm
def L6(L:List Nat)(p:Nat×Nat)(k:Nat)(b:UInt8):Nat×Nat:=((p.1+if k=0 then 0 else 1)*2^(lnB L b-p.2),lnB L b)
def Be(L:List Nat)(o:List UInt8):Nat→Nat×Nat
 |0=>(0,0)
 |k+1=>L6 L (Be L o k) k (o.getD k 0)
def Df(L:List Nat)(o:List UInt8)(z:Nat):Nat→List (Nat×Nat)
 |0=>List.replicate z (0,0)
 |k+1=>(Df L o z k).set (o.getD k 0).toNat (Be L o (k+1))
def Bc(L:List Nat):List (Nat×Nat):=Df L (Af L) 256 (Af L).length
theorem A3(L:List Nat)(o:List UInt8)(z k:Nat):(Df L o z k).length=z:=by
 induction k with
 |zero=>simp[Df]
 |succ k ih=>simp[Df,ih]
structure L7(L:List Nat)(o:List UInt8):Prop where
 asc:o.Pairwise fun a b=>lnB L a≤lnB L b
 short: ∀b∈o,lnB L b≤32
 sum:kr 32 L o≤2^32
theorem Jw{o:List UInt8}{k:Nat}(h:k<o.length):o.getD k 0∈o:=by
 rw[Ak6,Ak7 h];exact Alo _
theorem Nv(M:Nat)(L:List Nat)(o:List UInt8)(k:Nat)(h:k<o.length):kr M L (o.take (k+1))=kr M L (o.take k)+2^(M-lnB L (o.getD k 0)):=by
 rw[Ali h,Ok];congr 1;rw[Ak6,Ak7 h];simp[kr]
theorem Aft(M:Nat)(L:List Nat)(o:List UInt8)(k:Nat):kr M L (o.take k)≤kr M L o:=by
 conv=>rhs;rw[←Amy k o,Ok]
 omega
theorem L7.asc_get{L:List Nat}{o:List UInt8}(h:L7 L o){i j:Nat}(hij:i≤j)(hj:j<o.length):lnB L (o.getD i 0)≤lnB L (o.getD j 0):=by
 rcases Am7 i j with c|c
 ·rw[Ak6,Ak7 (by omega:i<o.length),Ak6,Ak7 hj];exact List.pairwise_iff_getElem.1 h.asc i j (by omega) hj c
 ·obtain rfl:i=j:=by omega
  exact Ale _
theorem Ho(L:List Nat)(o:List UInt8)(k:Nat):(Be L o (k+1)).2=lnB L (o.getD k 0):=rfl
theorem L7.num{L:List Nat}{o:List UInt8}(h:L7 L o): ∀k,k<o.length→(Be L o (k+1)).1*2^(32-lnB L (o.getD k 0))=kr 32 L (o.take k)
 |0,hk=>by simp[Be,L6,kr]
 |k+1,hk=>by
  have ih:=h.num k (by omega);have h1:=h.asc_get (i:=k) (j:=k+1) (by omega) hk;have h2:=h.short _ (Jw hk);rw[Nv _ _ _ _ (by omega),←ih];show((Be L o (k+1)).1+if k+1=0 then 0 else 1)*2^(lnB L (o.getD (k+1) 0)-(Be L o (k+1)).2)*2^(32-lnB L (o.getD (k+1) 0))=_;rw[Ho,if_neg (by omega),Aot,←Nat.pow_add,show lnB L (o.getD (k+1) 0)-lnB L (o.getD k 0)+(32-lnB L (o.getD (k+1) 0))=32-lnB L (o.getD k 0)from by omega,Anv,Nat.one_mul]
theorem L7.lt{L:List Nat}{o:List UInt8}(h:L7 L o)(k:Nat)(hk:k<o.length):(Be L o (k+1)).1<2^lnB L (o.getD k 0):=by
 have h1:=h.num k hk;have h2:=Nv 32 L o k hk;have h3:=Aft 32 L o (k+1);have h4:=h.sum;have h5:=h.short _ (Jw hk);have e:(2:Nat)^32=2^lnB L (o.getD k 0)*2^(32-lnB L (o.getD k 0)):=by rw[←Nat.pow_add];congr 1;omega
 have hp:0<(2:Nat)^(32-lnB L (o.getD k 0)):=Ans _;refine Nat.lt_of_mul_lt_mul_right (a:=2^(32-lnB L (o.getD k 0))) ?_;rw[h1,←e];omega
theorem Abl{l:Nat}(h:l≤32):2^l≤4294967296:=by
 have:=Am2 (show 0<2 by omega) h;have e:(2:Nat)^32=4294967296:=by decide
 omega
theorem L7.num_le{L:List Nat}{o:List UInt8}(h:L7 L o)(k:Nat)(hk:k≤o.length):(Be L o k).1<4294967296∧(Be L o k).2≤32:=by
 cases k with
 |zero=>simp[Be]
 |succ k=>
  have h1:=h.lt k hk;have h2:=h.short _ (Jw hk);have h3:=Abl h2;exact⟨by omega,by rw[Ho];exact h2⟩
theorem L7.step_le{L:List Nat}{o:List UInt8}(h:L7 L o)(k:Nat)(hk:k<o.length):(Be L o k).2≤lnB L (o.getD k 0):=by
 cases k with
 |zero=>exact Alr _
 |succ k=>rw[Ho];exact h.asc_get (by omega) hk
end Hm
namespace Hm
theorem Xp(l:List (Nat×Nat))(i:Nat)(x:Nat×Nat)(h:i<l.length):(l.set i x).getD i (0,0)=x:=by
 rw[Ak6,Aol h];rfl
theorem R4(l:List (Nat×Nat))(i j:Nat)(x:Nat×Nat)(h:i≠j):(l.set i x).getD j (0,0)=l.getD j (0,0):=by
 rw[Ak6,Aoh h,←Ak6]
theorem Ajc{o:List UInt8}(hn:o.Nodup){i j:Nat}(hi:i<o.length)(hj:j<o.length)(e:o.getD i 0=o.getD j 0):i=j:=by
 rw[Ak6,Ak7 hi,Ak6,Ak7 hj]at e;have hp:=List.pairwise_iff_getElem.1 (List.nodup_iff_pairwise_ne.1 hn);rcases Ami i j with c|c|c
 ·exact absurd e (hp i j hi hj c)
 ·exact c
 ·exact absurd e.symm (hp j i hj hi c)
theorem Abm(L:List Nat)(o:List UInt8)(hn:o.Nodup)(i:Nat): ∀k,i<k→k≤o.length→(Df L o 256 k).getD (o.getD i 0).toNat (0,0)=Be L o (i+1)
 |0,h,_=>by omega
 |k+1,h,hk=>by
  rw[Df]
  by_cases e:i=k
  ·subst e;exact Xp _ _ _ (by rw[A3];exact UInt8.toNat_lt _)
  ·rw[R4 _ _ _ _ (fun c=>e (Ajc hn (by omega) (by omega) (UInt8.toNat_inj.1 c.symm)))];exact Abm L o hn i k (by omega) (by omega)
theorem Abn(L:List Nat)(o:List UInt8)(b:UInt8)(hb:b∉o): ∀k,k≤o.length→(Df L o 256 k).getD b.toNat (0,0)=(0,0)
 |0,_=>by
  rw[Df,Ak6,Am0 b.toNat_lt];rfl
 |k+1,hk=>by
  rw[Df,R4 _ _ _ _ (fun c=>hb (by rw[←UInt8.toNat_inj.1 c];exact Jw hk))];exact Abn L o b hb k (by omega)
def Nw(L:List Nat)(b:UInt8):Nat×Nat:=(Bc L).getD b.toNat (0,0)
theorem Ol(L:List Nat)(k:Nat)(hk:k<(Af L).length):Nw L ((Af L).getD k 0)=Be L (Af L) (k+1):=
 Abm L _ (G1 (Ec L)) k _ hk (Ale _)
theorem Ahn(L:List Nat)(b:UInt8)(hb:b∉Af L):Nw L b=(0,0):=Abn L _ b hb _ (Ale _)
theorem V4(L:List Nat)(hx: ∀b:UInt8,lnB L b≤255)(b:UInt8):(Nw L b).2=lnB L b:=by
 by_cases hb:b∈Af L
 ·obtain⟨k,hk,e⟩:=Aml hb;have e2:(Af L).getD k 0=b:=by rw[Ak6,Ak7 hk];exact e
  rw[←e2,Ol L k hk,Ho]
 ·rw[Ahn L b hb];have:=mt (Jb L hx b).2 hb;show 0=_;omega
theorem Aho(L:List Nat)(hf:L7 L (Af L))(b:UInt8)(hb:b∈Af L):(Nw L b).1<2^(Nw L b).2:=by
 obtain⟨k,hk,e⟩:=Aml hb;have e2:(Af L).getD k 0=b:=by rw[Ak6,Ak7 hk];exact e
 rw[←e2,Ol L k hk,Ho];exact hf.lt k hk
end Hm
namespace Hm
structure Bj(L:List Nat):Prop where
 len:L.length=256
 short: ∀b:UInt8,lnB L b≤32
 kind:(Af L).length=0∨((Af L).length=1∧ ∀b∈Af L,lnB L b=1)∨(1<(Af L).length∧kr 32 L (Af L)=2^32)
def Bm(L:List Nat)(b:UInt8):Nat:=(Nw L b).1
section
variable {L:List Nat}
theorem Bj.le255(h:Bj L)(b:UInt8):lnB L b≤255:=by have:=h.short b;omega
theorem Bj.mem(h:Bj L)(b:UInt8):b∈Af L↔0<lnB L b:=Jb L h.le255 b
theorem Bj.asc(_h:Bj L):(Af L).Pairwise fun a b=>lnB L a≤lnB L b:=by
 refine(Ec L).imp fun{a b} h=>?_;unfold Gn at h;have:=a.toNat_lt;have:=b.toNat_lt;omega
theorem Bj.nodup(_h:Bj L):(Af L).Nodup:=G1 (Ec L)
theorem Bj.fits(h:Bj L):L7 L (Af L):=by
 refine⟨h.asc,fun b _=>h.short b,?_⟩;rcases h.kind with h0|⟨h1,h2⟩|⟨_,h2⟩
 ·have:Af L=[]:=Amj h0;rw[this];simp[kr]
 ·obtain⟨b,hb⟩:=List.length_eq_one_iff.1 h1;have h3:=h2 b (by rw[hb];exact List.mem_singleton.2 rfl);rw[hb];have h4:ln L b=1:=h3;simp only[kr,Amu,Ao1,Aou,List.sum_nil,h4];decide
 ·exact Aob h2
theorem Bj.numk(h:Bj L):G7 32 (lnB L) (Bm L) (Af L):=by
 refine⟨fun k hk=>?_,fun b _=>h.short b⟩;unfold Bm;rw[Ol L k hk];exact h.fits.num k hk
theorem Bj.num_lt(h:Bj L): ∀b∈Af L,Bm L b<2^lnB L b:=fun b hb=>by
 have:=Aho L h.fits b hb;rwa[V4 L h.le255]at this
theorem Bj.pos(h:Bj L): ∀b∈Af L,0<lnB L b:=fun b hb=>(h.mem b).1 hb
theorem Bj.few(h:Bj L):(Af L).length≤256:=by
 rw[Im L h.le255];exact E0 L 256
theorem Bj.ends(h:Bj L): ∃N,0<N∧Ends 32 (lnB L) (Af L) N:=by
 rcases h.kind with h0|⟨h1,h2⟩|⟨h1,h2⟩
 ·have:Af L=[]:=Amj h0;rw[this];exact⟨1,by omega,Afe 32 _⟩
 ·obtain⟨b,hb⟩:=List.length_eq_one_iff.1 h1;have h3:=h2 b (by rw[hb];exact List.mem_singleton.2 rfl);rw[hb];exact⟨1,by omega,Ag9 32 _ b h3⟩
 ·exact Afd ⟨h.asc,h.pos,fun b _=>h.short b,h2⟩ (by omega) h.few
end
theorem Hp(t:List UInt8)(ht:t.length≤6000):Bj (lens t):=by
 have hw:=V3 t;have hs: ∀b:UInt8,lnB (lens t) b≤17:=hw.short ht;have hx: ∀b:UInt8,lnB (lens t) b≤255:=fun b=>by have:=hs b;omega
 have hn:=G1 (Ec (lens t));have hm: ∀b,b∈Af (lens t)↔0<ln (lens t) b:=Jb (lens t) hx;refine⟨hw.len,fun b=>by have:=hs b;omega,?_⟩;rcases Ami (Af (lens t)).length 1 with h|h|h
 ·exact .inl (by omega)
 ·exact .inr (.inl ⟨h,hw.one _ hn hm h⟩)
 ·exact .inr (.inr ⟨h,hw.full _ hn hm h 32 fun b _=>Al2 (hs b) (by omega)⟩)
theorem Nx(t:List UInt8)(ht:t.length≤6000)(b:UInt8):b∈Af (lens t)↔b∈t:=by
 rw[(Hp t ht).mem];exact(V3 t).pos b
end Hm
end Go.Proofs.YtegnkfdbmmndaaaGreat
