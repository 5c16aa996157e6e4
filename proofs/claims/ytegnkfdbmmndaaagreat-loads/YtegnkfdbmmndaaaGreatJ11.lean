import Derived.Test.YtegnkfdbmmndaaaGreatJ00
import Derived.Test.YtegnkfdbmmndaaaGreatJ09
import Derived.Test.YtegnkfdbmmndaaaGreatShelf
import Derived.Test.YtegnkfdbmmndaaaGreatJ08

namespace Go.Proofs.YtegnkfdbmmndaaaGreat
open Hm
open Go.RowKit Go.Sort
namespace Hm
def orI(a b:Int):Int:=if a=0 then b else a
def U2(p q:Nat×Nat):Int:=orI (Lib.compareInt p.1 q.1) (Lib.compareInt p.2 q.2)
end Hm
def Ha(w w':World):Prop:= ∃q os,w'=grow (w.drewN q) os
theorem Ha.refl(w:World):Ha w w:=⟨0,#[],by rw[grow_empty];rfl⟩
theorem Ha.alloc{w w':World}(h:Ha w w')(o:Obj):Ha w (w'.alloc o):=by
 obtain⟨q,os,rfl⟩:=h;exact⟨q,os++ #[o],by rw[alloc_eq_grow,grow_grow]⟩
theorem Ha.drew{w w':World}(h:Ha w w'):Ha w w'.drew:=by
 obtain⟨q,os,rfl⟩:=h;exact⟨q+1,os,rfl⟩
theorem Ha.trans{w w1 w2:World}(h:Ha w w1)(k:Ha w1 w2):Ha w w2:=by
 obtain⟨q,os,rfl⟩:=h;obtain⟨q2,os2,rfl⟩:=k;refine⟨q+q2,os++os2,?_⟩;rw[←grow_grow];unfold grow World.drewN;simp[Nat.add_assoc]
set_option maxHeartbeats 400000 in
theorem Akv(g:Nat)(a b:Int)(w:World)(h0:w.cell? ⟨g,0,none⟩=some (.int .i64 a))(h1:w.cell? ⟨g,1,none⟩=some (.int .i64 b)):
  Calls Tryz.prog 176 #[.slice (some ⟨g,0,none⟩) 2 2] w fun e w'=>e= .returned (.int .i64 (Hm.orI a b))∧w=w':=by
 by_cases ha:a=0
 ·subst ha
  by_cases hb:b=0
  ·subst hb
   go_enter Tryz.func176,Tryz.ntmps176
   go_wp2;refine wp_loop_rounds 3 ?_;rw[rounds_succ];go_wp2;rw[rounds_succ];go_wp2;rw[rounds_succ];go_wp2;go_ret;exact⟨rfl,rfl⟩
  ·have hb':(b !=0)=true:=by rw[bne_iff_ne];exact hb
   go_enter Tryz.func176,Tryz.ntmps176
   go_wp2;refine wp_loop_rounds 2 ?_;rw[rounds_succ];go_wp2;rw[rounds_succ];go_wp2;go_ret;exact⟨rfl,rfl⟩
 ·have ha':(a !=0)=true:=by rw[bne_iff_ne];exact ha
  have HE:Hid (Hm.orI a b=a):=if_neg ha
  go_enter Tryz.func176,Tryz.ntmps176
  go_wp2;refine wp_loop_rounds 1 ?_;rw[rounds_succ];go_wp2;go_ret;exact⟨by rw[HE.out];rfl,rfl⟩
theorem Ahj(W:World)(x y:Int):Calls Tryz.prog 176 #[.slice (some ⟨W.heap.size,0,none⟩) 2 2] (W.alloc (.cells #[.int .i64 x,.int .i64 y] 3)).drew fun e w'=>e= .returned (.int .i64 (Hm.orI x y))∧(W.alloc (.cells #[.int .i64 x,.int .i64 y] 3)).drew=w':=by
 have hC:(W.alloc (.cells #[.int .i64 x,.int .i64 y] 3)).drew.heap[W.heap.size]?=some (.cells #[.int .i64 x,.int .i64 y] 3 (0,0)):=All W (.cells #[.int .i64 x,.int .i64 y] 3);exact Akv _ x y _ (Alc _ _ 0 _ _ _ hC) (Alc _ _ 1 _ _ _ hC)
set_option maxHeartbeats 2000000 in
theorem U3(a b c d:Nat)(w:World):
  Calls Tryz.prog 136 #[.agg #[.int .i64 (a:Nat),.int .i64 (b:Nat)],.agg #[.int .i64 (c:Nat),.int .i64 (d:Nat)]] w fun e w'=>e= .returned (.int .i64 (U2 (a,b) (c,d)))∧Ha w w':=by
 have hc1:=fun W=>Tryz.cmp_Compare_int (a:Int) (c:Int) W;have hc2:=fun W=>Tryz.cmp_Compare_int (b:Int) (d:Int) W;have HE:Hid (U2 (a,b) (c,d)=Hm.orI (Lib.compareInt a c) (Lib.compareInt b d)):=rfl;generalize Lib.compareInt (a:Int) (c:Int)=x at hc1 HE;generalize Lib.compareInt (b:Int) (d:Int)=y at hc2 HE;have ho:=Ahj ((w.alloc (.cells #[.int .i64 (a:Nat),.int .i64 (b:Nat)] 210)).alloc (.cells #[.int .i64 (c:Nat),.int .i64 (d:Nat)] 210)) x y;rw[show((w.alloc (.cells #[.int .i64 (a:Nat),.int .i64 (b:Nat)] 210)).alloc (.cells #[.int .i64 (c:Nat),.int .i64 (d:Nat)] 210)).heap.size=w.heap.size+1+1 from by simp]at ho
 go_enter Tryz.func136,Tryz.ntmps136
 go_wp2
 go_region_held(fun W=>W.cell? ⟨w.heap.size,0,none⟩=some (.int .i64 (a:Nat))∧W.cell? ⟨w.heap.size,1,none⟩=some (.int .i64 (b:Nat))∧W.cell? ⟨w.heap.size+1,0,none⟩=some (.int .i64 (c:Nat))∧W.cell? ⟨w.heap.size+1,1,none⟩=some (.int .i64 (d:Nat))) (go_keep)
  (first
  |(go_at_call_of 177 (a:Int);refine(hc1 _).mono ?_;rintro e w' ⟨rfl,rfl⟩)
  |(go_at_call_of 177 (b:Int);refine(hc2 _).mono ?_;rintro e w' ⟨rfl,rfl⟩)
  |(go_at_call 176;refine ho.mono ?_;rintro e w' ⟨rfl,rfl⟩))
 go_wp2;go_ret;exact⟨by rw[HE.out];rfl,(((((Ha.refl w).alloc _).alloc _).alloc _).drew)⟩
theorem Ha.cell{w w':World}(h:Ha w w'){p:Addr}{v:Value}(hc:w.cell? p=some v):w'.cell? p=some v:=by
 obtain⟨q,os,rfl⟩:=h;have hb:=Aly _ _ hc;rw[←hc];refine World.cell?_of_block ?_;show(w.heap++os)[p.block]?=_;rw[Array.getElem?_append_left hb]
set_option maxHeartbeats 2000000 in
theorem Adb(pb gq c:Nat)(prs:List (Nat×Nat))(i j:Nat)(w:World)(h0:w.cell? ⟨pb,0,none⟩=some (.slice (some ⟨gq,0,none⟩) prs.length c))(hq:B4 w gq prs)(hi:i<prs.length)(hj:j<prs.length)(_hl:prs.length≤6001):
  Calls Tryz.prog 135 #[.int .i64 (i:Nat),.int .i64 (j:Nat),.pointer (some ⟨pb,0,none⟩)] w fun e w'=>e= .returned (.int .i64 (U2 prs[i] prs[j]))∧Ha w w':=by
 have h1:=hq.fst hi;have h2:=hq.snd hi;have h3:=hq.fst hj;have h4:=hq.snd hj;clear hq;generalize prs[i]=pi at*;generalize prs[j]=pj at*;obtain⟨a,b⟩:=pi;obtain⟨cc,d⟩:=pj;simp only at h1 h2 h3 h4;have hcmp:=fun W=>U3 a b cc d W;generalize U2 (a,b) (cc,d)=r at hcmp⊢;have hi':(i:Int)<(prs.length:Int):=by omega
 have hj':(j:Int)<(prs.length:Int):=by omega
 go_enter Tryz.func135,Tryz.ntmps135
 go_wp2
 go_region_held(fun W=>W.cell? ⟨pb,0,none⟩=some (.slice (some ⟨gq,0,none⟩) prs.length c)∧W.cell? ⟨gq,i*2,none⟩=some (.int .i64 (a:Nat))∧W.cell? ⟨gq,i*2+1,none⟩=some (.int .i64 (b:Nat))∧W.cell? ⟨gq,j*2,none⟩=some (.int .i64 (cc:Nat))∧W.cell? ⟨gq,j*2+1,none⟩=some (.int .i64 (d:Nat))) (go_keep)
  (first
  |(go_at_call 136;refine(hcmp _).mono ?_;rintro e w' ⟨rfl,hg⟩;have k0:=hg.cell h0;have k1:=hg.cell h1;have k2:=hg.cell h2;have k3:=hg.cell h3;have k4:=hg.cell h4))
 go_wp2;go_ret;exact⟨rfl,(Ha.refl w).drew.trans hg⟩
end Go.Proofs.YtegnkfdbmmndaaaGreat
namespace Go.Proofs.YtegnkfdbmmndaaaGreat
open Hm
open Go.RowKit Go.Sort Go.Shelf
namespace Hm
def Na(prs:List (Nat×Nat))(i j:Nat):Int:=U2 (prs.getD i (0,0)) (prs.getD j (0,0))
def Xl(prs:List (Nat×Nat))(ps:List Nat):Prop:= ∀i j,i<j→j<ps.length→ ¬Na prs (ps.getD j 0) (ps.getD i 0)<0
def ltP(p q:Nat×Nat):Prop:=p.1<q.1∨(p.1=q.1∧p.2<q.2)
theorem Nr(p q:Nat×Nat):U2 p q<0↔ltP p q:=by
 obtain⟨a,b⟩:=p;obtain⟨c,d⟩:=q;unfold U2 orI ltP Lib.compareInt;simp only;rcases Ami a c with h|h|h
 ·have h1:(a:Int)<c:=by omega
  simp[h,h1]
 ·subst h;have h1: ¬(a:Int)<a:=by omega
  rcases Ami b d with k|k|k
  ·have k1:(b:Int)<d:=by omega
   simp[k,k1]
  ·subst k;simp
  ·have k1: ¬(b:Int)<d:=by omega
   have k2:(d:Int)<b:=by omega
   simp[k1,k2];omega
 ·have h1: ¬(a:Int)<c:=by omega
  have h2:(c:Int)<a:=by omega
  simp[h1,h2];omega
end Hm
theorem Ahk(n:Nat)(prs:List (Nat×Nat)):SWO (ltOf fun x y:Fin (n+1)=>Na prs x.val y.val):=by
 have key: ∀x y:Fin (n+1),ltOf (fun x y:Fin (n+1)=>Na prs x.val y.val) x y=true↔Hm.ltP (prs.getD x.val (0,0)) (prs.getD y.val (0,0)):=by
  intro x y;unfold ltOf Na;rw[decide_eq_true_iff];exact Nr (prs.getD x.val (0,0)) (prs.getD y.val (0,0))
 have keyF: ∀x y:Fin (n+1),ltOf (fun x y:Fin (n+1)=>Na prs x.val y.val) x y=false↔ ¬Hm.ltP (prs.getD x.val (0,0)) (prs.getD y.val (0,0)):=by
  intro x y;rw[←key x y];simp
 refine⟨fun x=>?_,fun x y z h1 h2=>?_,fun x y z h1 h2=>?_⟩
 ·rw[keyF];unfold Hm.ltP;omega
 ·rw[key]at*;unfold Hm.ltP at*;omega
 ·rw[keyF]at*;unfold Hm.ltP at*;omega
theorem Jm{α:Type}[Inhabited α](enc:α→Value)(w:World)(blk off m:Nat)(d:Array α)(os:Array Obj)(k:Nat)(hk:k<w.heap.size)(hne:k≠blk):(sortWorld enc w blk off m d os).heap[k]?=w.heap[k]?:=by
 show((putRow enc (Sort.ahead w m) blk off d).heap++os)[k]?=_;rw[Array.getElem?_append_left (by rw[size_putRow];exact hk)];show(w.heap.modify blk _)[k]?=_;rw[Array.getElem?_modify,if_neg (fun e=>hne e.symm)]
theorem Zt{α:Type}[Inhabited α](enc:α→Value)(w:World)(blk m:Nat)(d:Array α)(os:Array Obj)(c:Array Value)(t:TypeId)(hc:w.heap[blk]?=some (.cells c t (0,0)))(hs:c.size=d.size):
  (sortWorld enc w blk 0 m d os).heap[blk]?=some (.cells (d.map enc) t (0,0)):=by
 show((putRow enc (Sort.ahead w m) blk 0 d).heap++os)[blk]?=_;rw[Array.getElem?_append_left (by rw[size_putRow];exact Alw hc)];show(w.heap.modify blk _)[blk]?=_;rw[Array.getElem?_modify,if_pos rfl,hc];simp only[Option.map_some,onCells];congr 2;unfold putCells;apply Array.ext
 ·simp[hs]
 ·intro i h1 h2;have hi:i<d.size:=by simpa using h2
  simp[hi]
theorem Pf{α:Type}[Inhabited α](enc:α→Value)(w:World)(blk off m:Nat)(d:Array α)(os:Array Obj):Aa (fun j=>j=blk) w (sortWorld enc w blk off m d os):=by
 refine⟨rfl,rfl,rfl,?_,fun k hk hn=>Jm enc w blk off m d os k hk hn⟩;show _≤((putRow enc (Sort.ahead w m) blk off d).heap++os).size;rw[Array.size_append,size_putRow];show w.heap.size≤w.heap.size+os.size;omega
theorem Abe(n pb gp gq c cq:Nat)(ps:List Nat)(prs:List (Nat×Nat))(w:World)(hp:IntRow w gp ps)(hq:B4 w gq prs)(hb:w.cell? ⟨pb,0,none⟩=some (.slice (some ⟨gq,0,none⟩) prs.length cq))
  (hl:ps.length=n+1) (hpl:prs.length=n+1) (hn:n≤6000) (hx: ∀x∈ps,x<n+1) (h1:gp≠gq) (h2:gp≠pb):
  Calls Tryz.prog 134 #[.slice (some ⟨gp,0,none⟩) ps.length c,.func (.func 135) #[] #[.pointer (some ⟨pb,0,none⟩)]] w fun e w'=>
   e= .returned (.tuple #[])∧ ∃ps':List Nat,ps'.Perm ps∧Xl prs ps'∧IntRow w' gp ps'∧Aa (fun j=>j=gp) w w':=by
 have hd: ∀x∈ps,((Fin.ofNat (n+1) x).val)=x:=fun x hxm=>by simp[Fin.ofNat];exact hx x hxm
 have hdl:((ps.map (Fin.ofNat (n+1))).toArray).size=ps.length:=by simp
 have hmap:(ps.map (Fin.ofNat (n+1))).map Fin.val=ps:=by
  rw[List.map_map]
  conv=>rhs;rw[←List.map_id ps]
  exact Aoa fun x hxm=>hd x hxm
 have hpb:pb<w.heap.size:=Aly _ _ hb;have hS:=Any.slices_SortFunc Tryz.sortL (fun x:Fin (n+1)=>Value.int .i64 (x.val:Nat)) (fun _=>rfl) (fun x y:Fin (n+1)=>Na prs x.val y.val) (Ahk n prs) 135 #[.pointer (some ⟨pb,0,none⟩)] gp 0 c (ps.map (Fin.ofNat (n+1))).toArray w
  (enters_of Tryz.func135 (by kernel_rfl) rfl)
  (fun m os dk hs x y=>by
   have hcl:=Adb pb gq cq prs x.val y.val (sortWorld (fun x:Fin (n+1)=>Value.int .i64 (x.val:Nat)) w gp 0 m dk os)
    (by rw[World.cell?_of_block (Jm _ w gp 0 m dk os pb hpb (fun e=>h2 e.symm))];exact hb)
    (by unfold B4;rw[Jm _ w gp 0 m dk os gq hq.lt (fun e=>h1 e.symm)];exact hq) (by omega) (by omega) (by omega)
   refine hcl.mono fun e w' ⟨he,hg⟩=>⟨?_,hg⟩;rw[he];have hxl:x.val<prs.length:=by omega
   have hyl:y.val<prs.length:=by omega
   simp[Na,hxl,hyl])
  (fun j hj=>by
   have hjl:j<ps.length:=by rw[hdl]at hj;exact hj
   refine⟨?_,by simpa using hp.free j⟩;rw[Al7,hp.cell hjl,getElem!_pos _ j hj];simp only[List.getElem_toArray,Am5];rw[hd _ (Alo _)])
  hp.lt (by rw[hdl];omega)
 rw[hdl]at hS
 change Calls Tryz.prog 134 _ _ _ at hS
 refine hS.mono fun e w' ⟨he,d',m,os,hperm,hsort,hw⟩=>⟨he,d'.toList.map Fin.val,?_,?_,?_,?_⟩
 ·have h3:=hperm.2.2;have e1:(d'.extract 0 ps.length).toList=d'.toList:=by
   rw[show ps.length=d'.size from by rw[hperm.1,hdl]];simp
  have e2:((ps.map (Fin.ofNat (n+1))).toArray.extract 0 ps.length).toList=ps.map (Fin.ofNat (n+1)):=by
   have e3:ps.length=(ps.map (Fin.ofNat (n+1))).length:=by simp
   rw[e3];simp only[List.extract_toArray,Anz,List.drop_zero,Aoz,Ama]
  rw[e1,e2]at h3;have h4:=h3.map Fin.val;rw[hmap]at h4;exact h4
 ·intro i j hij hj;have hjd:j<d'.size:=by simpa using hj
  have hid:i<d'.size:=by omega
  have h3:=hsort i j (Alr _) hij (by rw[←hdl,←hperm.1];exact hjd);unfold ltOf at h3;rw[getElem!_pos _ j hjd,getElem!_pos _ i hid]at h3;have h5:=of_decide_eq_false h3;have ej:(d'.toList.map Fin.val).getD j 0=d'[j].val:=by simp[List.getD_eq_getElem?_getD,hjd]
  have ei:(d'.toList.map Fin.val).getD i 0=d'[i].val:=by simp[List.getD_eq_getElem?_getD,hid]
  rw[ej,ei];exact h5
 ·rw[hw];unfold IntRow;rw[Zt _ w gp m d' os _ _ hp (by rw[hperm.1,hdl];simp[Ac])];congr 2;apply Am6;simp[Ac]
 ·rw[hw];exact Pf _ w gp 0 m d' os
end Go.Proofs.YtegnkfdbmmndaaaGreat
namespace Go.Proofs.YtegnkfdbmmndaaaGreat
open Hm
open Go.RowKit
namespace Hm
def U4(p q:Nat×Nat):Bool:=decide (p≠q)
def Cp(ps:List Nat)(prs:List (Nat×Nat)):Nat→List Nat
 |0=>List.replicate ps.length 0
 |k+1=>(Cp ps prs k).set (ps.getD (k+1) 0) ((Cp ps prs k).getD (ps.getD k 0) 0+(U4 (prs.getD (ps.getD (k+1) 0) (0,0)) (prs.getD (ps.getD k 0) (0,0))).toNat)
def Fw(ps:List Nat)(prs:List (Nat×Nat)):List Nat:=Cp ps prs (ps.length-1)
theorem Ky(ps:List Nat)(prs:List (Nat×Nat))(k:Nat):(Cp ps prs k).length=ps.length:=by
 induction k with
 |zero=>simp[Cp]
 |succ k ih=>simp[Cp,ih]
theorem Yr(ps:List Nat)(prs:List (Nat×Nat))(k:Nat): ∀x∈Cp ps prs k,x≤k:=by
 induction k with
 |zero=>intro x hx;simp[Cp]at hx;omega
 |succ k ih=>
  intro x hx;rcases An6 hx with h|h
  ·have:=ih x h;omega
  ·subst h;have h1:(U4 (prs.getD (ps.getD (k+1) 0) (0,0)) (prs.getD (ps.getD k 0) (0,0))).toNat≤1:=Bool.toNat_le _;have h2:(Cp ps prs k).getD (ps.getD k 0) 0≤k:=by
    rw[Ak6]
    by_cases h:ps.getD k 0<(Cp ps prs k).length
    ·rw[Ak7 h];exact ih _ (Alo _)
    ·rw[Al3 (by omega)];simp
   omega
end Hm
theorem Ai8(a b c d:Nat)(w:World):(binOp .neq 210 (.agg #[.int .i64 (a:Nat),.int .i64 (b:Nat)]) (.agg #[.int .i64 (c:Nat),.int .i64 (d:Nat)])).run Tryz.prog w= .ok (.bool (U4 (a,b) (c,d))) w:=by
 have u3:=Tryz.underlying3;have hS:Tryz.prog.underlying 210=some (.struct (Tryz.prog.fieldsOf 210)):=by kernel_rfl
 have hp:Tryz.prog.stoodInHeld 210=false:=by kernel_rfl
 rw[run_neq_struct,show(10000:Nat)=9999+1 from rfl,run_equalIn_agg w 9999 210 _ _ hS hp];simp only[Program.fieldsOf,Tryz.underlying210];go_simp;unfold U4
 by_cases h1:a=c
 ·by_cases h2:b=d
  ·simp[h1,h2]
  ·have h2': ¬((b:Int)=(d:Int)):=by omega
   simp[h1,h2,h2']
 ·have h1': ¬((a:Int)=(c:Int)):=by omega
  simp[h1,h1']
set_option maxHeartbeats 1000000 in
theorem Afq(gp cp gq cq:Nat)(ps:List Nat)(prs:List (Nat×Nat))(w:World)(hp:IntRow w gp ps)(hq:B4 w gq prs)(hl:ps.length≤6001)(hpl:prs.length=ps.length)(hx: ∀x∈ps,x<ps.length)(h1:1≤ps.length):
  Calls Tryz.prog 137 #[.slice (some ⟨gp,0,none⟩) ps.length cp,.slice (some ⟨gq,0,none⟩) ps.length cq] w fun e w'=>e= .returned (.slice (some ⟨w.heap.size,0,none⟩) ps.length ps.length)∧IntRow w' w.heap.size (Fw ps prs)∧Apd w w':=by
 obtain⟨i0,hi,hz0,hz1,hz2⟩:=Amz Jo;have hgp:=hp.lt;have hgq:=hq.lt
 go_enter Tryz.func137,Tryz.ntmps137
 go_wp2_with(at_make;refine Ane _ rfl (.tmp 10) (.tmp 10) 64 rfl w.heap.size 3 i0 (.int .i64 0) 1 Tryz.underlying64 hi hz0 hz1 .i64 .i64 _ _ ps.length rfl rfl rfl rfl (by rw[hz2];omega) (by unfold maxLen;omega) (Ale _) ?_;intro w1 ho1 hg1)
 have hr1:IntRow w1 w.heap.size (Cp ps prs 0):=IntRow.made ho1;have hk1:Apd w w1:=(Aa.refl _ _).grown hg1 (fun k hk=>by cases hk);clear ho1 hg1
 go_loopw[6] (fun i wr=> ∃k:Nat,k+1≤ps.length∧i= .int .i64 (k+1:Nat)∧IntRow wr w.heap.size (Cp ps prs k)∧Apd w wr) (fun i _=>ps.length-(intOf i).toNat)
 case atStart=>exact⟨0,by omega,rfl,hr1,hk1⟩
 case round=>
  clear hr1 hk1;obtain⟨k,hk,rfl,hr,hkr⟩:=hrel;have hrl:=Ky ps prs k
  by_cases hlt:k+1<ps.length
  ·have hdec:decide ((k:Int)+1<(ps.length:Int))=true:=by simp;omega
   have hc1:=(hp.kept hkr id).cell hlt;have hc0:=(hp.kept hkr id).cell (show k<ps.length from by omega);have hh:=hx ps[k+1] (Alo _);have ha:=hx ps[k] (Alo _);have HT:Hid (Cp ps prs (k+1)=(Cp ps prs k).set ps[k+1] ((Cp ps prs k).getD ps[k] 0+(U4 (prs.getD ps[k+1] (0,0)) (prs.getD ps[k] (0,0))).toNat)):=by
    show _=_;rw[Cp];simp[hlt,show k<ps.length from by omega]
   generalize ps[k+1]=here at*;generalize ps[k]=ahead at*;have hd1:=hr.cell (show ahead<(Cp ps prs k).length from by omega);have hd2:=hr.cell (show here<(Cp ps prs k).length from by omega);have hf:=hr.free here;have hb1:=Yr ps prs k _ (Alo (show ahead<(Cp ps prs k).length from by omega));rw[Ak6,Ak7 (show ahead<(Cp ps prs k).length from by omega),Anr]at HT;have hq':=hq.kept hkr id;have he1:=hq'.fst (show here<prs.length from by omega);have he2:=hq'.snd (show here<prs.length from by omega);have he3:=hq'.fst (show ahead<prs.length from by omega);have he4:=hq'.snd (show ahead<prs.length from by omega);rw[Ak6,Ak7 (show here<prs.length from by omega),Anr,Ak6,Ak7 (show ahead<prs.length from by omega),Anr]at HT;generalize(Cp ps prs k)[ahead]'(by omega)=ra at*;generalize(Cp ps prs k)[here]'(by omega)=rh at*;generalize prs[here]'(by omega)=pr1 at*;generalize prs[ahead]'(by omega)=pr2 at*;obtain⟨a,b⟩:=pr1;obtain⟨c,d⟩:=pr2;simp only at he1 he2 he3 he4;have HS1:=hr.set here ra;have HS2:=HS1.set here (ra+1);rw[List.set_set]at HS2;have hneq:=fun W=>Ai8 a b c d W;have hnp: ¬gp=w.heap.size:=by omega
   have hnq: ¬gq=w.heap.size:=by omega
   cases hB:U4 (a,b) (c,d)with
   |true=>
    rw[hB]at HT hneq;have eT:(Cp ps prs k).set here (ra+1)=Cp ps prs (k+1):=HT.out.symm;rw[eT]at HS2;have H2:Hid (IntRow _ w.heap.size (Cp ps prs (k+1))):=HS2;clear HS1 HS2 HT hr hrl hp hq hx hq' hB eT;go_wp2
    go_region
    go_wp2
    go_region
    go_wp2;go_roundw
    case rel=>exact⟨k+1,by omega,by go_num,H2.out,((hkr.setCell (.inl (Ale _)) _).setCell (.inl (Ale _)) _).drew.drew⟩
    case measure=>simp[intOf];omega
   |false=>
    rw[hB]at HT hneq;have eT:(Cp ps prs k).set here ra=Cp ps prs (k+1):=HT.out.symm;rw[eT]at HS1;have H2:Hid (IntRow _ w.heap.size (Cp ps prs (k+1))):=HS1;clear HS1 HS2 HT hr hrl hp hq hx hq' hB eT;go_wp2
    go_region
    go_wp2
    go_region
    go_wp2;go_roundw
    case rel=>exact⟨k+1,by omega,by go_num,H2.out,(hkr.setCell (.inl (Ale _)) _).drew.drew⟩
    case measure=>simp[intOf];omega
  ·have hdec:decide ((k:Int)+1<(ps.length:Int))=false:=by simp;omega
   go_wp2;go_ret;have e:k=ps.length-1:=by omega
   exact⟨rfl,by rw[Fw,←e];exact hr,hkr⟩
namespace Hm
def G0(s:List UInt8):Nat→List Nat→List Nat→Prop
 |0,ps,rs=>ps=List.range (s.length+1)∧rs=Le s
 |k+1,ps,rs=> ∃ps0 rs0,G0 s k ps0 rs0∧ps.Perm ps0∧Xl (Dv rs0 (2^k)) ps∧rs=Fw ps (Dv rs0 (2^k))
def Pg(s:List UInt8)(ps:List Nat):Prop:= ∃k rs,s.length<2^k∧G0 s k ps rs
theorem G0.perm{s:List UInt8}{k:Nat}: ∀{ps rs:List Nat},G0 s k ps rs→ps.Perm (List.range (s.length+1)):=by
 induction k with
 |zero=>intro ps rs h;rw[h.1]
 |succ k ih=>rintro ps rs ⟨ps0,rs0,h,hp,_⟩;exact hp.trans (ih h)
theorem G0.mem{s:List UInt8}{k:Nat}{ps rs:List Nat}(h:G0 s k ps rs): ∀x∈ps,x<s.length+1:=fun x hx=>by
 have:=h.perm.subset hx;simpa using this
theorem G0.len{s:List UInt8}{k:Nat}{ps rs:List Nat}(h:G0 s k ps rs):ps.length=s.length+1:=by
 have:=h.perm.length_eq;simpa using this
theorem G0.ranks{s:List UInt8}{k:Nat}{ps rs:List Nat}(h:G0 s k ps rs):rs.length=s.length+1∧ ∀x∈rs,x≤s.length+256:=by
 cases k with
 |zero=>
  obtain⟨_,rfl⟩:=h;refine⟨by simp[Le],fun x hx=>?_⟩;unfold Le at hx;rcases Ao7.1 hx with h|h
  ·obtain⟨b,_,rfl⟩:=List.mem_map.1 h;have:=b.toNat_lt;omega
  ·simp at h;omega
 |succ k=>
  have hl:=h.len;obtain⟨ps0,rs0,_,_,_,rfl⟩:=h;refine⟨by rw[Fw,Ky,hl],fun x hx=>?_⟩;have:=Yr _ _ _ x hx;omega
theorem Pg.perm{s:List UInt8}{ps:List Nat}(h:Pg s ps):ps.Perm (List.range (s.length+1)):=by
 obtain⟨k,rs,_,h⟩:=h;exact h.perm
theorem Ys(n k:Nat)(h:k<n):(List.range k++List.replicate (n-k) 0).set k k=List.range (k+1)++List.replicate (n-(k+1)) 0:=by
 have hl:(List.range k).length=k:=by simp
 rw[Amt _ _ (by omega),hl,Amr,show n-k=(n-(k+1))+1 from by omega,Anf,An4,Alx];rfl
end Hm
set_option maxHeartbeats 2000000 in
theorem Ai9(s:ByteArray)(w:World)(hs:s.size≤6000):
  Calls Tryz.prog 95 #[.string s] w fun e w'=> ∃ps:List Nat,e= .returned (.slice (some ⟨w.heap.size,0,none⟩) (s.size+1) (s.size+1))∧Pg s.data.toList ps∧IntRow w' w.heap.size ps∧Apd w w':=by
 obtain⟨i0,hi,hz0,hz1,hz2⟩:=Amz Jo;have hsl:s.data.toList.length=s.size:=by simp
 go_enter Tryz.func95,Tryz.ntmps95
 go_wp2_with(at_make;refine Ane _ rfl (.tmp 10) (.tmp 10) 64 rfl w.heap.size 3 i0 (.int .i64 0) 1 Tryz.underlying64 hi hz0 hz1 .i64 .i64 _ _ (s.size+1) rfl rfl (by omega) (by omega) (by rw[hz2];omega) (by unfold maxLen;omega) (Ale _) ?_;intro w1 ho1 hg1)
 have hr1:IntRow w1 w.heap.size (List.range 0++List.replicate (s.size+1-0) 0):=IntRow.made ho1;have hk1:Apd w w1:=(Aa.refl _ _).grown hg1 (fun k hk=>by cases hk);clear ho1 hg1
 go_loopw[14] (fun i wr=> ∃k:Nat,k≤s.size+1∧i= .int .i64 k∧IntRow wr w.heap.size (List.range k++List.replicate (s.size+1-k) 0)∧Apd w wr) (fun i _=>s.size+1-(intOf i).toNat)
 case atStart=>exact⟨0,Alr _,rfl,hr1,hk1⟩
 case round=>
  clear hr1 hk1;obtain⟨k,hk,rfl,hr,hkr⟩:=hrel
  by_cases hlt:k<s.size+1
  ·have hdec:decide ((k:Int)<(s.size:Int)+1)=true:=by simp;omega
   have hl:(List.range k++List.replicate (s.size+1-k) 0).length=s.size+1:=by simp;omega
   have hc:=hr.cell (i:=k) (by omega);have hf:=hr.free k;have HS:=hr.set k k;rw[Ys _ _ hlt]at HS;have H2:Hid (IntRow _ w.heap.size (List.range (k+1)++List.replicate (s.size+1-(k+1)) 0)):=HS;generalize(List.range k++List.replicate (s.size+1-k) 0)[k]'(by omega)=old at hc;clear HS hr hl hsl;go_wp2;go_roundw
   case rel=>exact⟨k+1,by omega,by go_num,H2.out,hkr.setCell (.inl (Ale _)) _⟩
   case measure=>simp[intOf];omega
  ·obtain rfl:k=s.size+1:=by omega
   have hdec:decide ((s.size:Int)+1<(s.size:Int)+1)=false:=by simp
   rw[Amr,Ao9,Am4]at hr;have hfr:=Xe s wr hs;have hgw:=hr.lt;have HR:Hid (IntRow wr w.heap.size (List.range (s.size+1))):=hr;clear hr hlt hk;go_wp2_with fail;refine hfr.mono ?_;rintro e w2 ⟨rfl,hr2,hk2⟩;clear hfr;go_wp2
   go_loopw[5,6] (fun u i W=> ∃(k g:Nat) (ps rs:List Nat),2^k≤12000∧i= .int .i64 ((2^k:Nat):Int)∧u= .slice (some ⟨g,0,none⟩) (s.size+1) (s.size+1)∧G0 s.data.toList k ps rs∧IntRow W w.heap.size ps∧IntRow W g rs∧w.heap.size<g∧Apd w W) (fun _ i _=>13000-(intOf i).toNat)
   case atStart=>exact⟨0,wr.heap.size,_,_,by omega,rfl,rfl,⟨rfl,rfl⟩,by rw[hsl];exact HR.out.kept hk2 id,hr2,hgw,hkr.trans hk2 (fun _ _ h=>h)⟩
   case round=>
    clear hr2 hk2 hkr HR;obtain⟨k,g,ps,rs,hk2,rfl,rfl,hst,hp,hr,hg,hkr⟩:=hrel;have hrk:=hst.ranks;have hpl:=hst.len;rw[hsl]at hrk hpl;generalize hW:2^k=wd at hk2⊢;have hwd1:1≤wd:=by rw[←hW];exact Nat.one_le_two_pow
    by_cases hle:wd≤s.size
    ·have hdec:decide ((wd:Int)≤(s.size:Int))=true:=by simp;omega
     have hpu:=Afp g (s.size+1) rs wd wr hr (by omega) (by omega) (fun x hx=>by have:=hrk.2 x hx;omega);rw[hrk.1]at hpu;go_wp2_with fail;refine hpu.mono ?_;rintro e w3 ⟨rfl,hq3,hk3⟩;clear hpu;have hql:(Dv rs wd).length=s.size+1:=by rw[Xk,hrk.1]
     have hw3:wr.heap.size<w3.heap.size:=hq3.lt;have hwr:w.heap.size<wr.heap.size:=hp.lt;have hp4:IntRow (w3.alloc (.cells #[.slice (some ⟨wr.heap.size,0,none⟩) (s.size+1) (s.size+1)] 206)) w.heap.size ps:=by
      unfold IntRow;rw[Below.heap_alloc _ _ _ (by omega)];exact hp.kept hk3 id
     have hq4:B4 (w3.alloc (.cells #[.slice (some ⟨wr.heap.size,0,none⟩) (s.size+1) (s.size+1)] 206)) wr.heap.size (Dv rs wd):=by
      unfold B4;rw[Below.heap_alloc _ _ _ hq3.lt];exact hq3
     have hb4:(w3.alloc (.cells #[.slice (some ⟨wr.heap.size,0,none⟩) (s.size+1) (s.size+1)] 206)).heap[w3.heap.size]?=some (.cells #[.slice (some ⟨wr.heap.size,0,none⟩) (s.size+1) (s.size+1)] 206 (0,0)):=All w3 _;have hsc:=Abe s.size w3.heap.size w.heap.size wr.heap.size (s.size+1) (s.size+1) ps (Dv rs wd) _ hp4 hq4 (by rw[hql];exact Alc _ _ 0 _ _ _ hb4) hpl hql hs (fun x hx=>by have:=hst.mem x hx;rw[hsl]at this;exact this) (by omega) (by omega);rw[hpl]at hsc;have hk4:Apd w (w3.alloc (.cells #[.slice (some ⟨wr.heap.size,0,none⟩) (s.size+1) (s.size+1)] 206)):=(hkr.trans hk3 (fun _ _ h=>h)).alloc _;have HST:Hid (G0 s.data.toList k ps rs∧2^k=wd∧Apd w (w3.alloc (.cells #[.slice (some ⟨wr.heap.size,0,none⟩) (s.size+1) (s.size+1)] 206))∧B4 (w3.alloc (.cells #[.slice (some ⟨wr.heap.size,0,none⟩) (s.size+1) (s.size+1)] 206)) wr.heap.size (Dv rs wd)):=⟨hst,hW,hk4,hq4⟩;clear hst hW hp hr hq3 hk3 hp4 hq4 hk4 hkr hrk;go_wp2_with fail;refine hsc.mono ?_;rintro e w5 ⟨rfl,ps5,hperm5,hord5,hp5,hk5⟩;clear hsc;obtain⟨hst,hW,hk4,hq4⟩:=HST.out;have hq5:=hq4.kept hk5 (by omega);have hb5:=hk5.row hb4 (by omega);have hc5:w5.cell? ⟨w3.heap.size,0,none⟩=some (.slice (some ⟨wr.heap.size,0,none⟩) (s.size+1) (s.size+1)):=Alc _ _ 0 _ _ _ hb5;have hpl5:ps5.length=s.size+1:=by rw[hperm5.length_eq,hpl]
     have hrb:=Afq w.heap.size (s.size+1) wr.heap.size (s.size+1) ps5 (Dv rs wd) w5 hp5 hq5 (by omega) (by omega) (fun x hx=>by have:=hst.mem x (hperm5.subset hx);omega) (by omega);rw[hpl5]at hrb;have hw5:w.heap.size<w5.heap.size:=hp5.lt;have HN:Hid (G0 s.data.toList (k+1) ps5 (Fw ps5 (Dv rs wd))∧2^(k+1)=wd*2∧Apd w w5∧IntRow w5 w.heap.size ps5):=by
      refine⟨⟨ps,rs,hst,hperm5,by rw[hW];exact hord5,by rw[hW]⟩,by rw[Amv,hW],hk4.trans hk5 (fun j h1 h2=>by omega),hp5⟩
     clear hst hW hk4 hq4 hq5 hb5 hb4 hp5 hk5 hord5 hperm5 HST;go_wp2_with fail;refine hrb.mono ?_;rintro e w6 ⟨rfl,hr6,hk6⟩;clear hrb;go_wp2;go_roundw
     case rel=>
      obtain⟨h1,h2,h3,h4⟩:=HN.out;exact⟨k+1,w5.heap.size,ps5,_,by omega,by rw[h2];go_num,rfl,h1,h4.kept hk6 id,hr6,hw5,h3.trans hk6 (fun _ _ h=>h)⟩
     case measure=>simp[intOf];omega
    ·have hdec:decide ((wd:Int)≤(s.size:Int))=false:=by simp;omega
     have HF:Hid (Pg s.data.toList ps∧IntRow wr w.heap.size ps∧Apd w wr):=⟨⟨k,rs,by rw[hsl,hW];omega,hst⟩,hp,hkr⟩;clear hst hp hr hkr hrk hW;go_wp2;go_ret;obtain⟨h1,h2,h3⟩:=HF.out;exact⟨ps,rfl,h1,h2,h3⟩
end Go.Proofs.YtegnkfdbmmndaaaGreat
namespace Go.Proofs.YtegnkfdbmmndaaaGreat
open Hm
namespace Hm
def Dd:List UInt8→List UInt8→Prop
 |_,[]=>False
 |[],_::_=>True
 |a::l,b::m=>a.toNat<b.toNat∨(a=b∧Dd l m)
theorem Rs(l:List UInt8): ¬Dd l []:=by cases l<;>exact id
theorem Jv: ∀l:List UInt8,¬Dd l l
 |[]=>id
 |a::l=>by
  rintro(h|⟨_,h⟩)
  ·omega
  ·exact Jv l h
theorem Md: ∀{a b c:List UInt8},Dd a b→Dd b c→Dd a c
 |_,_,[],_,h=>absurd h (Rs _)
 |_,[],_::_,h,_=>absurd h (Rs _)
 |[],_::_,_::_,_,_=>trivial
 |a::l,b::m,c::n,h,k=>by
  rcases h with h|⟨h1,h2⟩<;>rcases k with k|⟨k1,k2⟩
  ·exact .inl (by omega)
  ·subst k1;exact .inl h
  ·subst h1;exact .inl k
  ·subst h1 k1;exact .inr ⟨rfl,Md h2 k2⟩
theorem Me: ∀(a b:List UInt8),Dd a b∨a=b∨Dd b a
 |[],[]=> .inr (.inl rfl)
 |[],_::_=> .inl trivial
 |_::_,[]=> .inr (.inr trivial)
 |a::l,b::m=>by
  rcases Ami a.toNat b.toNat with h|h|h
  ·exact .inl (.inl h)
  ·have e:a=b:=UInt8.toNat_inj.1 h;subst e;rcases Me l m with k|k|k
   ·exact .inl (.inr ⟨rfl,k⟩)
   ·exact .inr (.inl (by rw[k]))
   ·exact .inr (.inr (.inr ⟨rfl,k⟩))
  ·exact .inr (.inr (.inl h))
theorem Tt: ∀{N:Nat} {a b c d:List UInt8},a.length≤N→c.length≤N→(a.length<N→b=[])→(c.length<N→d=[])→(Dd (a++b) (c++d)↔Dd a c∨(a=c∧Dd b d))
 |0,a,b,c,d,h1,h2,_,_=>by
  obtain rfl:a=[]:=Amj (by omega);obtain rfl:c=[]:=Amj (by omega);simp[Dd]
 |N+1,[],b,c,d,h1,h2,h3,h4=>by
  obtain rfl:b=[]:=h3 (by simp);cases c with
  |nil=>
   obtain rfl:d=[]:=h4 (by simp);simp[Dd]
  |cons x c=>simp[Dd]
 |N+1,x::a,b,[],d,h1,h2,h3,h4=>by
  obtain rfl:d=[]:=h4 (by simp);simp[Dd]
 |N+1,x::a,b,y::c,d,h1,h2,h3,h4=>by
  have ih:=Tt (N:=N) (a:=a) (b:=b) (c:=c) (d:=d) (by simpa using h1) (by simpa using h2) (fun h=>h3 (by simpa using h)) (fun h=>h4 (by simpa using h));simp only[Aok,Dd,ih];constructor
  ·rintro(h|⟨h,h4|⟨h5,h6⟩⟩)
   ·exact .inl (.inl h)
   ·exact .inl (.inr ⟨h,h4⟩)
   ·exact .inr ⟨by rw[h,h5],h6⟩
  ·rintro((h|⟨h,h5⟩)|⟨h,h6⟩)
   ·exact .inl h
   ·exact .inr ⟨h,.inl h5⟩
   ·simp only[List.cons.injEq]at h;exact .inr ⟨h.1,.inr ⟨h.2,h6⟩⟩
theorem Yt{l:List Nat}(h:l.Nodup){i j:Nat}(hi:i<l.length)(hj:j<l.length)(e:l[i]=l[j]):i=j:=by
 have hp:=List.pairwise_iff_getElem.1 (List.nodup_iff_pairwise_ne.1 h);rcases Ami i j with c|c|c
 ·exact absurd e (hp i j hi hj c)
 ·exact c
 ·exact absurd e.symm (hp j i hj hi c)
def Ml(s:List UInt8)(m:Nat)(rs:List Nat):Prop:= ∀i j,(rs.getD i 0<rs.getD j 0↔Dd ((s.drop i).take m) ((s.drop j).take m))
theorem Ml.eq{s:List UInt8}{m:Nat}{rs:List Nat}(h:Ml s m rs)(i j:Nat):rs.getD i 0=rs.getD j 0↔(s.drop i).take m=(s.drop j).take m:=by
 have h1:=h i j;have h2:=h j i;constructor
 ·intro e;rcases Me ((s.drop i).take m) ((s.drop j).take m)with k|k|k
  ·have:=h1.2 k;omega
  ·exact k
  ·have:=h2.2 k;omega
 ·intro e;rw[e]at h1 h2;have n:=Jv ((s.drop j).take m);rcases Ami (rs.getD i 0) (rs.getD j 0)with k|k|k
  ·exact absurd (h1.1 k) n
  ·exact k
  ·exact absurd (h2.1 k) n
theorem Tu(s:List UInt8)(i:Nat):(Le s).getD i 0=if h:i<s.length then s[i].toNat+1 else 0:=by
 unfold Le;rw[Ak6]
 by_cases h:i<s.length
 ·rw[dif_pos h,Amh (by simpa using h)];simp[h]
 ·rw[dif_neg h,Alt (by simpa using h)]
  by_cases e:i=s.length
  ·subst e;simp
  ·rw[Al3 (by simp;omega)];rfl
theorem Vv(s:List UInt8)(i:Nat):(s.drop i).take 1=if h:i<s.length then [s[i]]else []:=by
 by_cases h:i<s.length
 ·rw[dif_pos h,Al4 h,List.take_succ_cons,Apb]
 ·rw[dif_neg h,List.drop_eq_nil_of_le (by omega)];rfl
theorem Ml.start(s:List UInt8):Ml s 1 (Le s):=by
 intro i j;rw[Tu,Tu,Vv,Vv]
 by_cases hi:i<s.length<;>by_cases hj:j<s.length
 ·rw[dif_pos hi,dif_pos hj,dif_pos hi,dif_pos hj];simp[Dd]
 ·rw[dif_pos hi,dif_neg hj,dif_pos hi,dif_neg hj];simp[Dd]
 ·rw[dif_neg hi,dif_pos hj,dif_neg hi,dif_pos hj];simp[Dd]
 ·rw[dif_neg hi,dif_neg hj,dif_neg hi,dif_neg hj];simp[Dd]
theorem Ns(rs:List Nat)(wd i:Nat):(Dv rs wd).getD i (0,0)=(rs.getD i 0,rs.getD (i+wd) 0):=by
 unfold Dv;rw[Ak6,Alu]
 by_cases h:i<rs.length
 ·rw[Amw h];rfl
 ·rw[Al3 (by simpa using h)];simp only[Ak6];rw[Al3 (by omega),Al3 (by omega)];rfl
theorem Ml.pairs{s:List UInt8}{m:Nat}{rs:List Nat}(h:Ml s m rs)(i j:Nat):
  ltP ((Dv rs m).getD i (0,0)) ((Dv rs m).getD j (0,0))↔Dd ((s.drop i).take (m+m)) ((s.drop j).take (m+m)):=by
 have cut: ∀i,(s.drop i).take (m+m)=(s.drop i).take m++(s.drop (i+m)).take m:=fun i=>by
  rw[List.take_add,List.drop_drop]
 rw[Ns,Ns,cut,cut,Tt (N:=m) (by simp;omega) (by simp;omega)
  (fun h=>by simp at h;rw[List.drop_eq_nil_of_le (by omega),List.take_nil]) (fun h=>by simp at h;rw[List.drop_eq_nil_of_le (by omega),List.take_nil])]
 unfold ltP;simp only;rw[h i j,h.eq i j,h (i+m) (j+m)]
theorem Rt(p q:Nat×Nat):ltP p q∨p=q∨ltP q p:=by
 obtain⟨a,b⟩:=p;obtain⟨c,d⟩:=q;unfold ltP;simp only[Prod.mk.injEq];omega
theorem Nb(p:Nat×Nat): ¬ltP p p:=by unfold ltP;omega
section
variable (ps:List Nat) (prs:List (Nat×Nat))
def Eu(t:Nat):Nat×Nat:=prs.getD (ps.getD t 0) (0,0)
def Il(t:Nat):Nat:=(Fw ps prs).getD (ps.getD t 0) 0
end
theorem I7(l:List Nat)(i x:Nat)(h:i<l.length):(l.set i x).getD i 0=x:=by
 rw[Ak6,Aol h];rfl
theorem getD_set_ne(l:List Nat)(i j x:Nat)(h:i≠j):(l.set i x).getD j 0=l.getD j 0:=by
 rw[Ak6,Aoh h,←Ak6]
theorem P4(ps:List Nat)(prs:List (Nat×Nat))(hn: ∀a b,a<ps.length→b<ps.length→ps.getD a 0=ps.getD b 0→a=b)(t k:Nat)(htk:t≤k)(hk:k<ps.length):(Cp ps prs k).getD (ps.getD t 0) 0=(Cp ps prs t).getD (ps.getD t 0) 0:=by
 induction k with
 |zero=>
  obtain rfl:t=0:=by omega
  rfl
 |succ k ih=>
  by_cases e:t=k+1
  ·rw[e]
  ·rw[Cp,getD_set_ne _ _ _ _ (fun h=>e (hn t (k+1) (by omega) hk h.symm))];exact ih (by omega) (by omega)
theorem Adc(ps:List Nat)(prs:List (Nat×Nat))(hn: ∀a b,a<ps.length→b<ps.length→ps.getD a 0=ps.getD b 0→a=b)(h0:0<ps.length):Il ps prs 0=0:=by
 unfold Il Fw;rw[P4 ps prs hn 0 _ (Alr _) (by omega),Cp,Ak6]
 by_cases h:ps.getD 0 0<ps.length
 ·rw[Am0 h];rfl
 ·rw[Al3 (by simp;simpa[List.getD_eq_getElem?_getD]using h)];rfl
theorem Ade(ps:List Nat)(prs:List (Nat×Nat))(hn: ∀a b,a<ps.length→b<ps.length→ps.getD a 0=ps.getD b 0→a=b)(hx: ∀t,t<ps.length→ps.getD t 0<ps.length)(t:Nat)(h:t+1<ps.length):
  Il ps prs (t+1)=Il ps prs t+if Eu ps prs (t+1)=Eu ps prs t then 0 else 1:=by
 unfold Il Fw;rw[P4 ps prs hn (t+1) _ (by omega) (by omega),P4 ps prs hn t _ (by omega) (by omega),Cp,I7 _ _ _ (by rw[Ky];exact hx _ h)];congr 1;unfold U4 Eu
 by_cases e:prs.getD (ps.getD (t+1) 0) (0,0)=prs.getD (ps.getD t 0) (0,0)
 ·rw[if_pos e];simp only[ne_eq,e,not_true_eq_false,decide_false];rfl
 ·rw[if_neg e];simp only[ne_eq,e,not_false_eq_true,decide_true];rfl
theorem Tv(ps:List Nat)(prs:List (Nat×Nat))(hn: ∀a b,a<ps.length→b<ps.length→ps.getD a 0=ps.getD b 0→a=b)(hx: ∀t,t<ps.length→ps.getD t 0<ps.length)
  (ho: ∀a b,a<b→b<ps.length→ ¬ltP (Eu ps prs b) (Eu ps prs a)) (a b:Nat) (hab:a≤b) (hb:b<ps.length):
  Il ps prs a≤Il ps prs b∧(Il ps prs a=Il ps prs b↔Eu ps prs a=Eu ps prs b):=by
 induction b with
 |zero=>
  obtain rfl:a=0:=by omega
  exact⟨Ale _,⟨fun _=>rfl,fun _=>rfl⟩⟩
 |succ b ih=>
  by_cases e:a=b+1
  ·subst e;exact⟨Ale _,⟨fun _=>rfl,fun _=>rfl⟩⟩
  ·obtain⟨h1,h2⟩:=ih (by omega) (by omega);rw[Ade ps prs hn hx b hb]
   by_cases e2:Eu ps prs (b+1)=Eu ps prs b
   ·rw[if_pos e2,e2];exact⟨by omega,by rw[←h2];omega⟩
   ·rw[if_neg e2];refine⟨by omega,⟨fun h=>by omega,fun h=>?_⟩⟩;exfalso;have n1:=ho b (b+1) (by omega) hb;rw[←h]at n1 e2
    by_cases e3:a=b
    ·subst e3;exact e2 rfl
    ·have n2:=ho a b (by omega) (by omega);rcases Rt (Eu ps prs a) (Eu ps prs b)with k|k|k
     ·exact n1 k
     ·exact e2 k
     ·exact n2 k
theorem Ahl(ps:List Nat)(prs:List (Nat×Nat))(n:Nat)(hp:ps.Perm (List.range (n+1)))(ho:Xl prs ps)(hl:prs.length≤n+1)(hz:prs.getD n (0,0)=(0,0))(i j:Nat):
  (Fw ps prs).getD i 0<(Fw ps prs).getD j 0↔ltP (prs.getD i (0,0)) (prs.getD j (0,0)):=by
 have hlen:ps.length=n+1:=by simpa using hp.length_eq
 have hnd:ps.Nodup:=hp.symm.nodup (List.nodup_range);have hget: ∀t,(h:t<ps.length)→ps.getD t 0=ps[t]:=fun t h=>by rw[Ak6,Ak7 h];rfl
 have hn: ∀a b,a<ps.length→b<ps.length→ps.getD a 0=ps.getD b 0→a=b:=fun a b ha hb h=>by
  rw[hget a ha,hget b hb]at h;exact Yt hnd ha hb h
 have hx: ∀t,t<ps.length→ps.getD t 0<ps.length:=fun t h=>by
  rw[hget t h,hlen];simpa using hp.subset (Alo h)
 have ho': ∀a b,a<b→b<ps.length→ ¬ltP (Eu ps prs b) (Eu ps prs a):=fun a b h1 h2=>by
  have:=ho a b h1 h2;rw[Na,Nr]at this;exact this
 have hat: ∀i,i≤n→ ∃t,t<ps.length∧ps.getD t 0=i:=fun i hi=>by
  have:i∈ps:=hp.mem_iff.2 (by simpa using(by omega:i<n+1));obtain⟨t,ht,e⟩:=Aml this;exact⟨t,ht,by rw[hget t ht];exact e⟩
 have inn: ∀i j,i≤n→j≤n→((Fw ps prs).getD i 0<(Fw ps prs).getD j 0↔ltP (prs.getD i (0,0)) (prs.getD j (0,0))):=fun i j hi hj=>by
  obtain⟨a,ha,rfl⟩:=hat i hi;obtain⟨b,hb,rfl⟩:=hat j hj;show Il ps prs a<Il ps prs b↔ltP (Eu ps prs a) (Eu ps prs b);rcases Ami a b with h|h|h
  ·obtain⟨h1,h2⟩:=Tv ps prs hn hx ho' a b (by omega) hb;have h3:=ho' a b h hb;constructor
   ·intro k;rcases Rt (Eu ps prs a) (Eu ps prs b)with c|c|c
    ·exact c
    ·have:=h2.2 c;omega
    ·exact absurd c h3
   ·intro k
    by_cases e:Il ps prs a=Il ps prs b
    ·rw[h2.1 e]at k;exact absurd k (Nb _)
    ·omega
  ·subst h;exact⟨fun k=>by omega,fun k=>absurd k (Nb _)⟩
  ·obtain⟨h1,h2⟩:=Tv ps prs hn hx ho' b a (by omega) ha;exact⟨fun k=>by omega,fun k=>absurd k (ho' b a h ha)⟩
 have hrn:(Fw ps prs).getD n 0=0:=by
  obtain⟨t,ht,e⟩:=hat n (Ale _);have h0:=Adc ps prs hn (by omega);have h1:=inn n (ps.getD 0 0) (Ale _) (by have:=hx 0 (by omega);omega);have h2:=inn (ps.getD 0 0) n (by have:=hx 0 (by omega);omega) (Ale _);have h3:(Fw ps prs).getD (ps.getD 0 0) 0=0:=h0
  by_cases e0:t=0
  ·subst e0;rw[←e];exact h3
  ·have h4:=ho' 0 t (by omega) ht;have h5:Eu ps prs t=(0,0):=by unfold Eu;rw[e];exact hz
   rw[h5]at h4;have h6:Eu ps prs 0=(0,0):=by
    rcases Rt (0,0) (Eu ps prs 0)with c|c|c
    ·exact absurd c h4
    ·exact c.symm
    ·unfold ltP at c;simp at c
   rw[hz]at h1 h2;have h7:prs.getD (ps.getD 0 0) (0,0)=(0,0):=h6;rw[h7]at h2;have:=mt h2.1 (Nb _);rw[h7]at h1;have:=mt h1.1 (Nb _);omega
 have hrl:(Fw ps prs).length=n+1:=by unfold Fw;rw[Ky,hlen]
 have red: ∀i,∃i',i'≤n∧(Fw ps prs).getD i 0=(Fw ps prs).getD i' 0∧prs.getD i (0,0)=prs.getD i' (0,0):=fun i=>by
  by_cases h:i≤n
  ·exact⟨i,h,rfl,rfl⟩
  ·refine⟨n,Ale _,?_,?_⟩
   ·rw[hrn,Ak6,Al3 (by omega)];rfl
   ·rw[hz,Ak6,Al3 (by omega)];rfl
 obtain⟨i',hi',e1,e2⟩:=red i;obtain⟨j',hj',e3,e4⟩:=red j;rw[e1,e2,e3,e4];exact inn i' j' hi' hj'
theorem G0.ranked{s:List UInt8}{k:Nat}: ∀{ps rs:List Nat},G0 s k ps rs→Ml s (2^k) rs:=by
 induction k with
 |zero=>rintro ps rs ⟨_,rfl⟩;exact Ml.start s
 |succ k ih=>
  rintro ps rs h;have hperm:=h.perm;obtain⟨ps0,rs0,h0,hp,ho,rfl⟩:=h;have hr:=ih h0;have hl:=h0.ranks.1;intro i j;have hz:(Dv rs0 (2^k)).getD s.length (0,0)=(0,0):=by
   have e1:rs0.getD s.length 0=rs0.getD (s.length+1) 0:=(hr.eq _ _).2 (by rw[Anl,List.drop_eq_nil_of_le (by omega)]);have e2:rs0.getD (s.length+1) 0=0:=by rw[Ak6,Al3 (by omega)];rfl
   have e3:rs0.getD (s.length+2^k) 0=0:=by
    have:=Ans k;rw[Ak6,Al3 (by omega)];rfl
   rw[Ns,e1,e2,e3]
  rw[Ahl ps (Dv rs0 (2^k)) s.length hperm ho (by unfold Dv;simp[hl]) hz i j,hr.pairs i j,show 2^k+2^k=2^(k+1)from by rw[Amv];omega]
structure Dr(s:List UInt8)(ps:List Nat):Prop where
 perm:ps.Perm (List.range (s.length+1))
 ord:ps.Pairwise fun i j=>Dd (s.drop i) (s.drop j)
theorem Pg.sorted{s:List UInt8}{ps:List Nat}(h:Pg s ps):Dr s ps:=by
 have hp:=h.perm;obtain⟨k,rs,hk,h⟩:=h;refine⟨hp,?_⟩;rw[List.pairwise_iff_getElem];intro i j hi hj hij;have hm: ∀t,(h:t<ps.length)→ps[t]<s.length+1:=fun t h=>by simpa using hp.subset (Alo h)
 cases k with
 |zero=>
  have hs:s.length=0:=by simpa using hk
  have:=hp.length_eq;simp[hs]at this;omega
 |succ k=>
  obtain⟨ps0,rs0,h0,hpp,ho,rfl⟩:=h;have hr:=h0.ranked.pairs;have ho':=ho i j hij hj;rw[Na,Nr,hr]at ho';have g: ∀t,(h:t<ps.length)→ps.getD t 0=ps[t]:=fun t h=>by rw[Ak6,Ak7 h];rfl
  rw[g i hi,g j hj]at ho';have hw: ∀q,(s.drop q).take (2^k+2^k)=s.drop q:=fun q=>Al8 (by rw[Amv]at hk;simp;omega);rw[hw,hw]at ho';rcases Me (s.drop ps[i]) (s.drop ps[j])with c|c|c
  ·exact c
  ·exfalso;have e:=congrArg List.length c;simp at e;have h1:=hm i hi;have h2:=hm j hj;have e2:ps[i]=ps[j]:=by omega
   have:=Yt (hp.symm.nodup List.nodup_range) hi hj e2;omega
  ·exact absurd c ho'
theorem L3{α:Type}{r:α→α→Prop}(ha: ∀a b,r a b→r b a→False): ∀{l m:List α},l.Perm m→l.Pairwise r→m.Pairwise r→l=m
 |[],m,h,_,_=>(List.nil_perm.1 h).symm
 |a::l,[],h,_,_=>absurd h.symm (by simp)
 |a::l,b::m,h,h1,h2=>by
  rw[Ao0]at h1 h2
  by_cases e:a=b
  ·subst e;rw[L3 ha (List.perm_cons a|>.1 h) h1.2 h2.2]
  ·have m1:a∈b::m:=h.subset Alp;have m2:b∈a::l:=h.symm.subset Alp;have m1':a∈m:=by
    rcases List.mem_cons.1 m1 with k|k
    ·exact absurd k e
    ·exact k
   have m2':b∈l:=by
    rcases List.mem_cons.1 m2 with k|k
    ·exact absurd k.symm e
    ·exact k
   exact(ha a b (h1.1 b m2') (h2.1 a m1')).elim
theorem Dr.unique{s:List UInt8}{ps qs:List Nat}(h:Dr s ps)(k:Dr s qs):ps=qs:=
 L3 (fun _ _ h1 h2=>Jv _ (Md h1 h2)) (h.perm.trans k.perm.symm) h.ord k.ord
end Hm
namespace Hm
abbrev lnB(L:List Nat)(b:UInt8):Nat:=L.getD b.toNat 0
def Gn(L:List Nat)(b:UInt8):Nat:=lnB L b*256+b.toNat
def Akw(L:List Nat)(x y:UInt8):Prop:=lnB L x=lnB L y→x.toNat<y.toNat
def Abf(L:List Nat)(x y:UInt8):Int:=Lib.compareInt (lnB L x:Nat) (lnB L y:Nat)
theorem Xm(a b:Nat):Lib.compareInt (a:Nat) (b:Nat)<0↔a<b:=by
 unfold Lib.compareInt;rcases Ami a b with h|h|h
 ·have:(a:Int)<b:=by omega
  simp[this,h]
 ·subst h;simp
 ·have h1: ¬(a:Int)<b:=by omega
  have h2:(b:Int)<a:=by omega
  simp[h1,h2];omega
theorem Ak5(L:List Nat):Ord (Abf L) (Gn L) (Akw L):=by
 refine⟨fun x y h=>?_,fun x y h e=>?_⟩
 ·unfold Abf Gn;rw[Xm];have hx:=x.toNat_lt;have hy:=y.toNat_lt;unfold Akw at h;constructor
  ·intro k;omega
  ·intro k;rcases Ami (lnB L y) (lnB L x)with c|c|c
   ·exact c
   ·have:=h c.symm;omega
   ·omega
 ·unfold Gn at e;have hx:=x.toNat_lt;have hy:=y.toNat_lt;have:=h (by omega);omega
theorem Mf(L:List Nat):(Ai L).Pairwise fun x y=>x.toNat<y.toNat:=by
 unfold Ai Bi;rw[List.pairwise_map];have h0:(List.range 256).Pairwise (· < ·):=List.pairwise_lt_range;refine(h0.filter _).imp_of_mem fun{a b} ha hb h=>?_;have h1:a<256:=by simpa using(List.mem_filter.1 ha).1
 have h2:b<256:=by simpa using(List.mem_filter.1 hb).1
 rw[Ame,Ame];omega
theorem Ic(L:List Nat)(b:UInt8):b∈Ai L↔0<lnB L b:=by
 unfold Ai Bi;rw[List.mem_map];constructor
 ·rintro⟨x,hx,rfl⟩;have h1:x<256:=by simpa using(List.mem_filter.1 hx).1
  have h2:0<L.getD x 0:=by simpa using(List.mem_filter.1 hx).2
  rw[lnB,Ame,Anb h1];exact h2
 ·intro h;exact⟨b.toNat,List.mem_filter.2 ⟨by simpa using b.toNat_lt,by simpa using h⟩,by simp⟩
def Af(L:List Nat):List UInt8:=(List.range 256).flatMap fun n=>(Ai L).filter fun b=>lnB L b==n
theorem Jb(L:List Nat)(hx: ∀b:UInt8,lnB L b≤255)(b:UInt8):b∈Af L↔0<lnB L b:=by
 unfold Af;rw[List.mem_flatMap];constructor
 ·rintro⟨n,_,h⟩;exact(Ic L b).1 (List.mem_filter.1 h).1
 ·intro h;exact⟨lnB L b,List.mem_range.2 (Amx (hx b) (by decide)),List.mem_filter.2 ⟨(Ic L b).2 h,by simp⟩⟩
theorem Ec(L:List Nat):(Af L).Pairwise fun x y=>Gn L x<Gn L y:=by
 unfold Af;rw[List.pairwise_flatMap];refine⟨fun n _=>?_,?_⟩
 ·refine((Mf L).filter _).imp_of_mem fun{a b} ha hb h=>?_;have h1:lnB L a=n:=by simpa using(List.mem_filter.1 ha).2
  have h2:lnB L b=n:=by simpa using(List.mem_filter.1 hb).2
  unfold Gn;rw[h1,h2];omega
 ·refine(List.pairwise_lt_range (n:=256)).imp fun{m n} h x hx y hy=>?_;have h1:lnB L x=m:=by simpa using(List.mem_filter.1 hx).2
  have h2:lnB L y=n:=by simpa using(List.mem_filter.1 hy).2
  unfold Gn;rw[h1,h2];have:=x.toNat_lt;omega
theorem G1{L:List Nat}{l:List UInt8}(h:l.Pairwise fun x y=>Gn L x<Gn L y):l.Nodup:=by
 rw[List.nodup_iff_pairwise_ne];exact h.imp fun{a b} k e=>by subst e;omega
theorem Good.order{L:List Nat}{d:Array UInt8}(hx: ∀b:UInt8,lnB L b≤255)(hs:d.size=(Ai L).length)(h:Good (Gn L) (Ai L).toArray d 0 (Ai L).length):d.toList=Af L:=by
 have g: ∀k,(h:k<d.size)→d[k]! =d.toList[k]'(by simpa using h):=fun k h=>by simp[h]
 have g0: ∀k,(h:k<(Ai L).length)→(Ai L).toArray[k]! =(Ai L)[k]:=fun k h=>by simp[h]
 have hp:d.toList.Pairwise fun x y=>Gn L x<Gn L y:=by
  rw[List.pairwise_iff_getElem];intro i j hi hj hij;have h1:=h.srt i j (Alr _) hij (by rw[←hs];simpa using hj);rw[g i (by simpa using hi),g j (by simpa using hj)]at h1;exact h1
 have hm: ∀b,b∈d.toList↔b∈Af L:=fun b=>by
  rw[Jb L hx,←Ic];have:=h.mem b;constructor
  ·intro hb;obtain⟨i,hi,rfl⟩:=Aml hb;have hi':i<d.size:=by simpa using hi
   obtain⟨k,_,h2,h3⟩:=this.1 ⟨i,Alr _,by omega,g i hi'⟩;rw[g0 k h2]at h3;rw[←h3];exact Alo _
  ·intro hb;obtain⟨i,hi,rfl⟩:=Aml hb;obtain⟨k,_,h2,h3⟩:=this.2 ⟨i,Alr _,hi,g0 i hi⟩;rw[g k (by omega)]at h3;rw[←h3];exact Alo _
 exact L3 (fun a b h1 h2=>by omega) ((List.perm_ext_iff_of_nodup (G1 hp) (G1 (Ec L))).2 hm) hp (Ec L)
theorem Im(L:List Nat)(hx: ∀b:UInt8,lnB L b≤255):(Af L).length=(Ai L).length:=by
 have hn:(Ai L).Nodup:=by
  rw[List.nodup_iff_pairwise_ne];exact(Mf L).imp fun{a b} k e=>by subst e;omega
 exact((List.perm_ext_iff_of_nodup (G1 (Ec L)) hn).2 fun b=>by rw[Jb L hx,Ic]).length_eq
end Hm
end Go.Proofs.YtegnkfdbmmndaaaGreat
