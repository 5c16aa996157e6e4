import Derived.Test.YtegnkfdbmmndaaaGreatJ09
import Derived.Test.YtegnkfdbmmndaaaGreatShelf
import Derived.Test.YtegnkfdbmmndaaaGreatJ08

set_option maxHeartbeats 8000000
namespace Go.Proofs.YtegnkfdbmmndaaaGreat
open Hm Go.Proofs.Tryz Go.RowKit Go.Sort
namespace Hm
def orI(a b:Int):Int:=if a=0 then b else a
def Vw(p q:Nat×Nat):Int:=orI (Lib.compareInt p.1 q.1) (Lib.compareInt p.2 q.2)
end Hm
def Hj(w w':World):Prop:= ∃q os,w'=grow (w.drewN q) os
theorem Hj.refl(w:World):Hj w w:=⟨0,#[],by rw[grow_empty];rfl⟩
theorem Hj.alloc{w w':World}(h:Hj w w')(o:Obj):Hj w (w'.alloc o):=by
 obtain⟨q,os,rfl⟩:=h;exact⟨q,os++ #[o],by rw[alloc_eq_grow,grow_grow]⟩
theorem Hj.drew{w w':World}(h:Hj w w'):Hj w w'.drew:=by
 obtain⟨q,os,rfl⟩:=h;exact⟨q+1,os,rfl⟩
theorem Hj.trans{w w1 w2:World}(h:Hj w w1)(k:Hj w1 w2):Hj w w2:=by
 obtain⟨q,os,rfl⟩:=h;obtain⟨q2,os2,rfl⟩:=k;refine⟨q+q2,os++os2,?_⟩;rw[←grow_grow];unfold grow World.drewN;simp[Nat.add_assoc]
theorem Amv(g:Nat)(a b:Int)(w:World)(i:w.cell? ⟨g,0,none⟩=some (.int .i64 a))(h1:w.cell? ⟨g,1,none⟩=some (.int .i64 b)):
  Calls prog 176 #[.slice (some ⟨g,0,none⟩) 2 2] w fun e w'=>e= .returned (.int .i64 (Hm.orI a b))∧w=w':=by
 by_cases c:a=0
 ·subst c
  by_cases hb:b=0
  ·subst hb
   go_enter func176,ntmps176
   go_wp2;refine wp_loop_rounds 3 ?_;rw[rounds_succ];go_wp2;rw[rounds_succ];go_wp2;rw[rounds_succ];go_wp2;go_ret;exact⟨rfl,rfl⟩
  ·have h:(b !=0)=true:=by rw[bne_iff_ne];exact hb
   go_enter func176,ntmps176
   go_wp2;refine wp_loop_rounds 2 ?_;rw[rounds_succ];go_wp2;rw[rounds_succ];go_wp2;go_ret;exact⟨rfl,rfl⟩
 ·have f:(a !=0)=true:=by rw[bne_iff_ne];exact c
  have d:Hid (Hm.orI a b=a):=if_neg c
  go_enter func176,ntmps176
  go_wp2;refine wp_loop_rounds 1 ?_;rw[rounds_succ];go_wp2;go_ret;exact⟨by rw[d.o];rfl,rfl⟩
theorem Ajc(W:World)(x y:Int):Calls prog 176 #[.slice (some ⟨W.heap.size,0,none⟩) 2 2] (W.alloc (.cells #[.int .i64 x,.int .i64 y] 3)).drew fun e w'=>e= .returned (.int .i64 (Hm.orI x y))∧(W.alloc (.cells #[.int .i64 x,.int .i64 y] 3)).drew=w':=by
 have a:(W.alloc (.cells #[.int .i64 x,.int .i64 y] 3)).drew.heap[W.heap.size]?=some (.cells #[.int .i64 x,.int .i64 y] 3 (0,0)):=Anj W (.cells #[.int .i64 x,.int .i64 y] 3);exact Amv _ x y _ (Am7 _ _ 0 _ _ _ a) (Am7 _ _ 1 _ _ _ a)
theorem Vx(a b c d:Nat)(w:World):
  Calls prog 136 #[.agg #[.int .i64 (a:Nat),.int .i64 (b:Nat)],.agg #[.int .i64 (c:Nat),.int .i64 (d:Nat)]] w fun e w'=>e= .returned (.int .i64 (Vw (a,b) (c,d)))∧Hj w w':=by
 have f:=fun W=>Tryz.cmp_Compare_int (a:Int) (c:Int) W;have g:=fun W=>Tryz.cmp_Compare_int (b:Int) (d:Int) W;have h:Hid (Vw (a,b) (c,d)=Hm.orI (Lib.compareInt a c) (Lib.compareInt b d)):=rfl;generalize Lib.compareInt (a:Int) (c:Int)=x at f h;generalize Lib.compareInt (b:Int) (d:Int)=y at g h;have i:=Ajc ((w.alloc (.cells #[.int .i64 (a:Nat),.int .i64 (b:Nat)] 210)).alloc (.cells #[.int .i64 (c:Nat),.int .i64 (d:Nat)] 210)) x y;rw[show((w.alloc (.cells #[.int .i64 (a:Nat),.int .i64 (b:Nat)] 210)).alloc (.cells #[.int .i64 (c:Nat),.int .i64 (d:Nat)] 210)).heap.size=w.heap.size+1+1 from by simp]at i
 go_enter func136,ntmps136
 go_wp2
 go_region_held(fun W=>W.cell? ⟨w.heap.size,0,none⟩=some (.int .i64 (a:Nat))∧W.cell? ⟨w.heap.size,1,none⟩=some (.int .i64 (b:Nat))∧W.cell? ⟨w.heap.size+1,0,none⟩=some (.int .i64 (c:Nat))∧W.cell? ⟨w.heap.size+1,1,none⟩=some (.int .i64 (d:Nat))) (go_keep)
  (first
  |(go_at_call_of 177 (a:Int);refine(f _).mono ?_;rintro e w' ⟨rfl,rfl⟩)
  |(go_at_call_of 177 (b:Int);refine(g _).mono ?_;rintro e w' ⟨rfl,rfl⟩)
  |(go_at_call 176;refine i.mono ?_;rintro e w' ⟨rfl,rfl⟩))
 go_wp2;go_ret;exact⟨by rw[h.o];rfl,(((((Hj.refl w).alloc _).alloc _).alloc _).drew)⟩
theorem Hj.cell{w w':World}(h:Hj w w'){p:Addr}{v:Value}(a:w.cell? p=some v):w'.cell? p=some v:=by
 obtain⟨q,os,rfl⟩:=h;have hb:=Ank _ _ a;rw[←a];refine World.cell?_of_block ?_;show(w.heap++os)[p.block]?=_;rw[Array.getElem?_append_left hb]
theorem Aes(pb gq c:Nat)(prs:List (Nat×Nat))(i j:Nat)(w:World)(n:w.cell? ⟨pb,0,none⟩=some (.slice (some ⟨gq,0,none⟩) prs.length c))(h:B8 w gq prs)(hi:i<prs.length)(m:j<prs.length)(_hl:prs.length≤6001):
  Calls prog 135 #[.int .i64 (i:Nat),.int .i64 (j:Nat),.pointer (some ⟨pb,0,none⟩)] w fun e w'=>e= .returned (.int .i64 (Vw prs[i] prs[j]))∧Hj w w':=by
 have h1:=h.fst hi;have h2:=h.snd hi;have k:=h.fst m;have l:=h.snd m;clear h;generalize prs[i]=pi at*;generalize prs[j]=pj at*;obtain⟨a,b⟩:=pi;obtain⟨cc,d⟩:=pj;simp only at h1 h2 k l;have f:=fun W=>Vx a b cc d W;generalize Vw (a,b) (cc,d)=r at f⊢;have o:(i:Int)<(prs.length:Int):=by omega
 have p:(j:Int)<(prs.length:Int):=by omega
 go_enter func135,ntmps135
 go_wp2
 go_region_held(fun W=>W.cell? ⟨pb,0,none⟩=some (.slice (some ⟨gq,0,none⟩) prs.length c)∧W.cell? ⟨gq,i*2,none⟩=some (.int .i64 (a:Nat))∧W.cell? ⟨gq,i*2+1,none⟩=some (.int .i64 (b:Nat))∧W.cell? ⟨gq,j*2,none⟩=some (.int .i64 (cc:Nat))∧W.cell? ⟨gq,j*2+1,none⟩=some (.int .i64 (d:Nat))) (go_keep)
  (first
  |(go_at_call 136;refine(f _).mono ?_;rintro e w' ⟨rfl,g⟩;have k0:=g.cell n;have k1:=g.cell h1;have k2:=g.cell h2;have k3:=g.cell k;have k4:=g.cell l))
 go_wp2;go_ret;exact⟨rfl,(Hj.refl w).drew.trans g⟩
end Go.Proofs.YtegnkfdbmmndaaaGreat
namespace Go.Proofs.YtegnkfdbmmndaaaGreat
open Hm Go.Proofs.Tryz Go.RowKit Go.Sort Go.Shelf
namespace Hm
def Ob(prs:List (Nat×Nat))(i j:Nat):Int:=Vw (prs.getD i (0,0)) (prs.getD j (0,0))
def Yi(prs:List (Nat×Nat))(ps:Ard):Prop:= ∀i j,i<j→j<ps.length→ ¬Ob prs (ps.getD j 0) (ps.getD i 0)<0
def ltP(p q:Nat×Nat):Prop:=p.1<q.1∨(p.1=q.1∧p.2<q.2)
theorem Ox(p q:Nat×Nat):Vw p q<0↔ltP p q:=by
 obtain⟨a,b⟩:=p;obtain⟨c,d⟩:=q;unfold Vw orI ltP Lib.compareInt;simp only;rcases Aop a c with h|h|h
 ·have h1:(a:Int)<c:=by omega
  simp[h,h1]
 ·subst h;have h1: ¬(a:Int)<a:=by omega
  rcases Aop b d with k|k|k
  ·have k1:(b:Int)<d:=by omega
   simp[k,k1]
  ·subst k;simp
  ·have k1: ¬(b:Int)<d:=by omega
   have k2:(d:Int)<b:=by omega
   simp[k1,k2];omega
 ·have h1: ¬(a:Int)<c:=by omega
  have h2:(c:Int)<a:=by omega
  simp[h1,h2];omega
end Hm
theorem Ajd(n:Nat)(prs:List (Nat×Nat)):SWO (ltOf fun x y:Fin (n+1)=>Ob prs x.val y.val):=by
 have key: ∀x y:Fin (n+1),ltOf (fun x y:Fin (n+1)=>Ob prs x.val y.val) x y=true↔Hm.ltP (prs.getD x.val (0,0)) (prs.getD y.val (0,0)):=by
  intro x y;unfold ltOf Ob;rw[decide_eq_true_iff];exact Ox (prs.getD x.val (0,0)) (prs.getD y.val (0,0))
 have keyF: ∀x y:Fin (n+1),ltOf (fun x y:Fin (n+1)=>Ob prs x.val y.val) x y=false↔ ¬Hm.ltP (prs.getD x.val (0,0)) (prs.getD y.val (0,0)):=by
  intro x y;rw[←key x y];simp
 refine⟨fun x=>?_,fun x y z h1 h2=>?_,fun x y z h1 h2=>?_⟩
 ·rw[keyF];unfold Hm.ltP;omega
 ·rw[key]at*;unfold Hm.ltP at*;omega
 ·rw[keyF]at*;unfold Hm.ltP at*;omega
theorem J4{α:Type}[Inhabited α](enc:α→Value)(w:World)(blk off m:Nat)(d:Array α)(os:Array Obj)(k:Nat)(hk:k<w.heap.size)(a:k≠blk):(sortWorld enc w blk off m d os).heap[k]?=w.heap[k]?:=by
 show((putRow enc (Sort.ahead w m) blk off d).heap++os)[k]?=_;rw[Array.getElem?_append_left (by rw[size_putRow];exact hk)];show(w.heap.modify blk _)[k]?=_;rw[Array.getElem?_modify,if_neg (fun e=>a e.symm)]
theorem Rx{α:Type}[Inhabited α](enc:α→Value)(w:World)(blk m:Nat)(d:Array α)(os:Array Obj)(c:Array Value)(t:TypeId)(a:w.heap[blk]?=some (.cells c t (0,0)))(hs:c.size=d.size):
  (sortWorld enc w blk 0 m d os).heap[blk]?=some (.cells (d.map enc) t (0,0)):=by
 show((putRow enc (Sort.ahead w m) blk 0 d).heap++os)[blk]?=_;rw[Array.getElem?_append_left (by rw[size_putRow];exact Anu a)];show(w.heap.modify blk _)[blk]?=_;rw[Array.getElem?_modify,if_pos rfl,a];simp only[Option.map_some,onCells];congr 2;unfold putCells;apply Array.ext
 ·simp[hs]
 ·intro i h1 h2;have hi:i<d.size:=by simpa using h2
  simp[hi]
theorem Mk{α:Type}[Inhabited α](enc:α→Value)(w:World)(blk off m:Nat)(d:Array α)(os:Array Obj):Aa (fun j=>j=blk) w (sortWorld enc w blk off m d os):=by
 refine⟨rfl,rfl,rfl,?_,fun k hk hn=>J4 enc w blk off m d os k hk hn⟩;show _≤((putRow enc (Sort.ahead w m) blk off d).heap++os).size;rw[Array.size_append,size_putRow];show w.heap.size≤w.heap.size+os.size;omega
theorem Ack(n pb gp gq c cq:Nat)(ps:Ard)(prs:List (Nat×Nat))(w:World)(p:IntRow w gp ps)(B:B8 w gq prs)(hb:w.cell? ⟨pb,0,none⟩=some (.slice (some ⟨gq,0,none⟩) prs.length cq))
  (H:ps.length=n+1) (F:prs.length=n+1) (hn:n≤6000) (G: ∀x∈ps,x<n+1) (h1:gp≠gq) (h2:gp≠pb):
  Calls prog 134 #[.slice (some ⟨gp,0,none⟩) ps.length c,.func (.func 135) #[] #[.pointer (some ⟨pb,0,none⟩)]] w fun e w'=>
   e= .returned (.tuple #[])∧ ∃ps':Ard,ps'.Perm ps∧Yi prs ps'∧IntRow w' gp ps'∧Aa (fun j=>j=gp) w w':=by
 have hd: ∀x∈ps,((Fin.ofNat (n+1) x).val)=x:=fun x g=>by simp[Fin.ofNat];exact G x g
 have b:((ps.map (Fin.ofNat (n+1))).toArray).size=ps.length:=by simp
 have o:(ps.map (Fin.ofNat (n+1))).map Fin.val=ps:=by
  rw[List.map_map]
  conv=>rhs;rw[←List.map_id ps]
  exact Aqe fun x g=>hd x g
 have hpb:pb<w.heap.size:=Ank _ _ hb;have q:=Any.slices_SortFunc Tryz.sortL (fun x:Fin (n+1)=>Value.int .i64 (x.val:Nat)) (fun _=>rfl) (fun x y:Fin (n+1)=>Ob prs x.val y.val) (Ajd n prs) 135 #[.pointer (some ⟨pb,0,none⟩)] gp 0 c (ps.map (Fin.ofNat (n+1))).toArray w
  (enters_of func135 (by kernel_rfl) rfl)
  (fun m os dk hs x y=>by
   have r:=Aes pb gq cq prs x.val y.val (sortWorld (fun x:Fin (n+1)=>Value.int .i64 (x.val:Nat)) w gp 0 m dk os)
    (by rw[World.cell?_of_block (J4 _ w gp 0 m dk os pb hpb (fun e=>h2 e.symm))];exact hb)
    (by unfold B8;rw[J4 _ w gp 0 m dk os gq B.lt (fun e=>h1 e.symm)];exact B) (by omega) (by omega) (by omega)
   refine r.mono fun e w' ⟨s,E⟩=>⟨?_,E⟩;rw[s];have v:x.val<prs.length:=by omega
   have z:y.val<prs.length:=by omega
   simp[Ob,v,z])
  (fun j l=>by
   have u:j<ps.length:=by rw[b]at l;exact l
   refine⟨?_,by simpa using p.free j⟩;rw[An3,p.cell u,getElem!_pos _ j l];simp only[List.getElem_toArray,Aqb];rw[hd _ (Anm _)])
  p.lt (by rw[b];omega)
 rw[b]at q
 change Calls prog 134 _ _ _ at q
 refine q.mono fun e w' ⟨s,d',m,os,a,f,C⟩=>⟨s,d'.toList.map Fin.val,?_,?_,?_,?_⟩
 ·have h:=a.2.2;have e1:(d'.extract 0 ps.length).toList=d'.toList:=by
   rw[show ps.length=d'.size from by rw[a.1,b]];simp
  have e2:((ps.map (Fin.ofNat (n+1))).toArray.extract 0 ps.length).toList=ps.map (Fin.ofNat (n+1)):=by
   have e3:ps.length=(ps.map (Fin.ofNat (n+1))).length:=by simp
   rw[e3];simp only[List.extract_toArray,Aqf,List.drop_zero,Aqp,Aof]
  rw[e1,e2]at h;have A:=h.map Fin.val;rw[o]at A;exact A
 ·intro i j t l;have d:j<d'.size:=by simpa using l
  have k:i<d'.size:=by omega
  have h:=f i j (Ann _) t (by rw[←b,←a.1];exact d);unfold ltOf at h;rw[getElem!_pos _ j d,getElem!_pos _ i k]at h;have D:=of_decide_eq_false h;have ej:(d'.toList.map Fin.val).getD j 0=d'[j].val:=by simp[List.getD_eq_getElem?_getD,d]
  have ei:(d'.toList.map Fin.val).getD i 0=d'[i].val:=by simp[List.getD_eq_getElem?_getD,k]
  rw[ej,ei];exact D
 ·rw[C];unfold IntRow;rw[Rx _ w gp m d' os _ _ p (by rw[a.1,b];simp[Ad])];congr 2;apply Api;simp[Ad]
 ·rw[C];exact Mk _ w gp 0 m d' os
end Go.Proofs.YtegnkfdbmmndaaaGreat
namespace Go.Proofs.YtegnkfdbmmndaaaGreat
open Hm Go.Proofs.Tryz Go.RowKit
namespace Hm
def Vy(p q:Nat×Nat):Bool:=decide (p≠q)
def Ct(ps:Ard)(prs:List (Nat×Nat)):Nat→Ard
 |0=>List.replicate ps.length 0
 |k+1=>(Ct ps prs k).set (ps.getD (k+1) 0) ((Ct ps prs k).getD (ps.getD k 0) 0+(Vy (prs.getD (ps.getD (k+1) 0) (0,0)) (prs.getD (ps.getD k 0) (0,0))).toNat)
def Gb(ps:Ard)(prs:List (Nat×Nat)):Ard:=Ct ps prs (ps.length-1)
theorem Ld(ps:Ard)(prs:List (Nat×Nat))(k:Nat):(Ct ps prs k).length=ps.length:=by
 induction k with
 |zero=>simp[Ct]
 |succ k ih=>simp[Ct,ih]
theorem Zl(ps:Ard)(prs:List (Nat×Nat))(k:Nat): ∀x∈Ct ps prs k,x≤k:=by
 induction k with
 |zero=>intro x a;simp[Ct]at a;omega
 |succ k ih=>
  intro x a;rcases List.mem_or_eq_of_mem_set a with h|h
  ·have:=ih x h;omega
  ·subst h;have h1:(Vy (prs.getD (ps.getD (k+1) 0) (0,0)) (prs.getD (ps.getD k 0) (0,0))).toNat≤1:=Bool.toNat_le _;have h2:(Ct ps prs k).getD (ps.getD k 0) 0≤k:=by
    rw[Am4]
    by_cases h:ps.getD k 0<(Ct ps prs k).length
    ·rw[Am5 h];exact ih _ (Anm _)
    ·rw[Anx (by omega)];simp
   omega
end Hm
theorem Akw(a b c d:Nat)(w:World):(binOp .neq 210 (.agg #[.int .i64 (a:Nat),.int .i64 (b:Nat)]) (.agg #[.int .i64 (c:Nat),.int .i64 (d:Nat)])).run prog w= .ok (.bool (Vy (a,b) (c,d))) w:=by
 have u3:=underlying3;have g:prog.underlying 210=some (.struct (prog.fieldsOf 210)):=by kernel_rfl
 have h:prog.stoodInHeld 210=false:=by kernel_rfl
 rw[run_neq_struct,show(10000:Nat)=9999+1 from rfl,run_equalIn_agg w 9999 210 _ _ g h];simp only[Program.fieldsOf,underlying210];go_simp;unfold Vy
 by_cases h1:a=c
 ·by_cases h2:b=d
  ·simp[h1,h2]
  ·have f: ¬((b:Int)=(d:Int)):=by omega
   simp[h1,h2,f]
 ·have e: ¬((a:Int)=(c:Int)):=by omega
  simp[h1,e]
theorem Ahe(gp cp gq cq:Nat)(ps:Ard)(prs:List (Nat×Nat))(w:World)(v:IntRow w gp ps)(B:B8 w gq prs)(Z:ps.length≤6001)(U:prs.length=ps.length)(C: ∀x∈ps,x<ps.length)(h1:1≤ps.length):
  Calls prog 137 #[.slice (some ⟨gp,0,none⟩) ps.length cp,.slice (some ⟨gq,0,none⟩) ps.length cq] w fun e w'=>e= .returned (.slice (some ⟨w.heap.size,0,none⟩) ps.length ps.length)∧IntRow w' w.heap.size (Gb ps prs)∧Ara w w':=by
 obtain⟨i0,hi,I,J,K⟩:=Aoo Lf;have Q:=v.lt;have R:=B.lt
 go_enter func137,ntmps137
 go_wp2_with(at_make;refine Apr _ rfl (.tmp 10) (.tmp 10) 64 rfl w.heap.size 3 i0 (.int .i64 0) 1 underlying64 hi I J .i64 .i64 _ _ ps.length rfl rfl rfl rfl (by rw[K];omega) (by unfold maxLen;omega) (Ane _) ?_;intro w1 u r)
 have y:IntRow w1 w.heap.size (Ct ps prs 0):=IntRow.made u;have s:Ara w w1:=(Aa.refl _ _).grown r (fun k hk=>by cases hk);clear u r
 go_loopw[6] (fun i wr=> ∃k:Nat,k+1≤ps.length∧i= .int .i64 (k+1:Nat)∧IntRow wr w.heap.size (Ct ps prs k)∧Ara w wr) (fun i _=>ps.length-(intOf i).toNat)
 case atStart=>exact⟨0,by omega,rfl,y,s⟩
 case round=>
  clear y s;obtain⟨k,hk,rfl,p,g⟩:=hrel;have z:=Ld ps prs k
  by_cases t:k+1<ps.length
  ·have q:decide ((k:Int)+1<(ps.length:Int))=true:=by simp;omega
   have N:=(v.kept g id).cell t;have M:=(v.kept g id).cell (show k<ps.length from by omega);have Y:=C ps[k+1] (Anm _);have V:=C ps[k] (Anm _);have m:Hid (Ct ps prs (k+1)=(Ct ps prs k).set ps[k+1] ((Ct ps prs k).getD ps[k] 0+(Vy (prs.getD ps[k+1] (0,0)) (prs.getD ps[k] (0,0))).toNat)):=by
    show _=_;rw[Ct];simp[t,show k<ps.length from by omega]
   generalize ps[k+1]=f at*;generalize ps[k]=ahead at*;have O:=p.cell (show ahead<(Ct ps prs k).length from by omega);have P:=p.cell (show f<(Ct ps prs k).length from by omega);have X:=p.free f;have L:=Zl ps prs k _ (Anm (show ahead<(Ct ps prs k).length from by omega));rw[Am4,Am5 (show ahead<(Ct ps prs k).length from by omega),Aps]at m;have h:=B.kept g id;have E:=h.fst (show f<prs.length from by omega);have F:=h.snd (show f<prs.length from by omega);have G:=h.fst (show ahead<prs.length from by omega);have H:=h.snd (show ahead<prs.length from by omega);rw[Am4,Am5 (show f<prs.length from by omega),Aps,Am4,Am5 (show ahead<prs.length from by omega),Aps]at m;generalize(Ct ps prs k)[ahead]'(by omega)=ra at*;generalize(Ct ps prs k)[f]'(by omega)=rh at*;generalize prs[f]'(by omega)=pr1 at*;generalize prs[ahead]'(by omega)=pr2 at*;obtain⟨a,b⟩:=pr1;obtain⟨c,d⟩:=pr2;simp only at E F G H;have j:=p.set f ra;have l:=j.set f (ra+1);rw[List.set_set]at l;have n:=fun W=>Akw a b c d W;have S: ¬gp=w.heap.size:=by omega
   have T: ¬gq=w.heap.size:=by omega
   cases A:Vy (a,b) (c,d)with
   |true=>
    rw[A]at m n;have eT:(Ct ps prs k).set f (ra+1)=Ct ps prs (k+1):=m.o.symm;rw[eT]at l;have D:Hid (IntRow _ w.heap.size (Ct ps prs (k+1))):=l;clear j l m p z v B C h A eT;go_wp2
    go_region
    go_wp2
    go_region
    go_wp2;go_roundw
    case rel=>exact⟨k+1,by omega,by go_num,D.o,((g.setCell (.inl (Ane _)) _).setCell (.inl (Ane _)) _).drew.drew⟩
    case measure=>simp[intOf];omega
   |false=>
    rw[A]at m n;have eT:(Ct ps prs k).set f ra=Ct ps prs (k+1):=m.o.symm;rw[eT]at j;have D:Hid (IntRow _ w.heap.size (Ct ps prs (k+1))):=j;clear j l m p z v B C h A eT;go_wp2
    go_region
    go_wp2
    go_region
    go_wp2;go_roundw
    case rel=>exact⟨k+1,by omega,by go_num,D.o,(g.setCell (.inl (Ane _)) _).drew.drew⟩
    case measure=>simp[intOf];omega
  ·have q:decide ((k:Int)+1<(ps.length:Int))=false:=by simp;omega
   go_wp2;go_ret;have e:k=ps.length-1:=by omega
   exact⟨rfl,by rw[Gb,←e];exact p,g⟩
namespace Hm
def He(s:Arc):Nat→Ard→Ard→Prop
 |0,ps,rs=>ps=List.range (s.length+1)∧rs=Lz s
 |k+1,ps,rs=> ∃ps0 rs0,He s k ps0 rs0∧ps.Perm ps0∧Yi (D6 rs0 (2^k)) ps∧rs=Gb ps (D6 rs0 (2^k))
def Qe(s:Arc)(ps:Ard):Prop:= ∃k rs,s.length<2^k∧He s k ps rs
theorem He.perm{s:Arc}{k:Nat}: ∀{ps rs:Ard},He s k ps rs→ps.Perm (List.range (s.length+1)):=by
 induction k with
 |zero=>intro ps rs h;rw[h.1]
 |succ k ih=>rintro ps rs ⟨ps0,rs0,h,a,_⟩;exact a.trans (ih h)
theorem He.mem{s:Arc}{k:Nat}{ps rs:Ard}(h:He s k ps rs): ∀x∈ps,x<s.length+1:=fun x a=>by
 have:=h.perm.subset a;simpa using this
theorem He.len{s:Arc}{k:Nat}{ps rs:Ard}(h:He s k ps rs):ps.length=s.length+1:=by
 have:=h.perm.length_eq;simpa using this
theorem He.ranks{s:Arc}{k:Nat}{ps rs:Ard}(h:He s k ps rs):rs.length=s.length+1∧ ∀x∈rs,x≤s.length+256:=by
 cases k with
 |zero=>
  obtain⟨_,rfl⟩:=h;refine⟨by simp[Lz],fun x a=>?_⟩;unfold Lz at a;rcases Aq3.1 a with h|h
  ·obtain⟨b,_,rfl⟩:=List.mem_map.1 h;have:=b.toNat_lt;omega
  ·simp at h;omega
 |succ k=>
  have c:=h.len;obtain⟨ps0,rs0,_,_,_,rfl⟩:=h;refine⟨by rw[Gb,Ld,c],fun x a=>?_⟩;have:=Zl _ _ _ x a;omega
theorem Qe.perm{s:Arc}{ps:Ard}(h:Qe s ps):ps.Perm (List.range (s.length+1)):=by
 obtain⟨k,rs,_,h⟩:=h;exact h.perm
theorem Zm(n k:Nat)(h:k<n):(List.range k++List.replicate (n-k) 0).set k k=List.range (k+1)++List.replicate (n-(k+1)) 0:=by
 have a:(List.range k).length=k:=by simp
 rw[Aot _ _ (by omega),a,Aoy,show n-k=(n-(k+1))+1 from by omega,Apf,Apu,An4];rfl
end Hm
theorem Akx(s:ByteArray)(w:World)(hs:s.size≤6000):
  Calls prog 95 #[.string s] w fun e w'=> ∃ps:Ard,e= .returned (.slice (some ⟨w.heap.size,0,none⟩) (s.size+1) (s.size+1))∧Qe s.data.toList ps∧IntRow w' w.heap.size ps∧Ara w w':=by
 obtain⟨i0,hi,ab,ac,ad⟩:=Aoo Lf;have r:s.data.toList.length=s.size:=by simp
 go_enter func95,ntmps95
 go_wp2_with(at_make;refine Apr _ rfl (.tmp 10) (.tmp 10) 64 rfl w.heap.size 3 i0 (.int .i64 0) 1 underlying64 hi ab ac .i64 .i64 _ _ (s.size+1) rfl rfl (by omega) (by omega) (by rw[ad];omega) (by unfold maxLen;omega) (Ane _) ?_;intro w1 N J)
 have T:IntRow w1 w.heap.size (List.range 0++List.replicate (s.size+1-0) 0):=IntRow.made N;have K:Ara w w1:=(Aa.refl _ _).grown J (fun k hk=>by cases hk);clear N J
 go_loopw[14] (fun i wr=> ∃k:Nat,k≤s.size+1∧i= .int .i64 k∧IntRow wr w.heap.size (List.range k++List.replicate (s.size+1-k) 0)∧Ara w wr) (fun i _=>s.size+1-(intOf i).toNat)
 case atStart=>exact⟨0,Ann _,rfl,T,K⟩
 case round=>
  clear T K;obtain⟨k,hk,rfl,l,c⟩:=hrel
  by_cases M:k<s.size+1
  ·have m:decide ((k:Int)<(s.size:Int)+1)=true:=by simp;omega
   have hl:(List.range k++List.replicate (s.size+1-k) 0).length=s.size+1:=by simp;omega
   have hc:=l.cell (i:=k) (by omega);have hf:=l.free k;have HS:=l.set k k;rw[Zm _ _ M]at HS;have H2:Hid (IntRow _ w.heap.size (List.range (k+1)++List.replicate (s.size+1-(k+1)) 0)):=HS;generalize(List.range k++List.replicate (s.size+1-k) 0)[k]'(by omega)=old at hc;clear HS l hl r;go_wp2;go_roundw
   case rel=>exact⟨k+1,by omega,by go_num,H2.o,c.setCell (.inl (Ane _)) _⟩
   case measure=>simp[intOf];omega
  ·obtain rfl:k=s.size+1:=by omega
   have m:decide ((s.size:Int)+1<(s.size:Int)+1)=false:=by simp
   rw[Aoy,List.replicate_zero,Aow]at l;have I:=Ye s wr hs;have Y:=l.lt;have HR:Hid (IntRow wr w.heap.size (List.range (s.size+1))):=l;clear l M hk;go_wp2_with fail;refine I.mono ?_;rintro e w2 ⟨rfl,U,n⟩;clear I;go_wp2
   go_loopw[5,6] (fun u i W=> ∃(k g:Nat) (ps rs:Ard),2^k≤12000∧i= .int .i64 ((2^k:Nat):Int)∧u= .slice (some ⟨g,0,none⟩) (s.size+1) (s.size+1)∧He s.data.toList k ps rs∧IntRow W w.heap.size ps∧IntRow W g rs∧w.heap.size<g∧Ara w W) (fun _ i _=>13000-(intOf i).toNat)
   case atStart=>exact⟨0,wr.heap.size,_,_,by omega,rfl,rfl,⟨rfl,rfl⟩,by rw[r];exact HR.o.kept n id,U,Y,c.trans n (fun _ _ h=>h)⟩
   case round=>
    clear U n c HR;obtain⟨k,g,ps,rs,n,rfl,rfl,b,O,l,hg,c⟩:=hrel;have f:=b.ranks;have z:=b.len;rw[r]at f z;generalize t:2^k=wd at n⊢;have af:1≤wd:=by rw[←t];exact Nat.one_le_two_pow
    by_cases an:wd≤s.size
    ·have m:decide ((wd:Int)≤(s.size:Int))=true:=by simp;omega
     have D:=Ahd g (s.size+1) rs wd wr l (by omega) (by omega) (fun x V=>by have:=f.2 x V;omega);rw[f.1]at D;go_wp2_with fail;refine D.mono ?_;rintro e w3 ⟨rfl,A,C⟩;clear D;have S:(D6 rs wd).length=s.size+1:=by rw[Yh,f.1]
     have ao:wr.heap.size<w3.heap.size:=A.lt;have ap:w.heap.size<wr.heap.size:=O.lt;have P:IntRow (w3.alloc (.cells #[.slice (some ⟨wr.heap.size,0,none⟩) (s.size+1) (s.size+1)] 206)) w.heap.size ps:=by
      unfold IntRow;rw[Below.heap_alloc _ _ _ (by omega)];exact O.kept C id
     have d:B8 (w3.alloc (.cells #[.slice (some ⟨wr.heap.size,0,none⟩) (s.size+1) (s.size+1)] 206)) wr.heap.size (D6 rs wd):=by
      unfold B8;rw[Below.heap_alloc _ _ _ A.lt];exact A
     have B:(w3.alloc (.cells #[.slice (some ⟨wr.heap.size,0,none⟩) (s.size+1) (s.size+1)] 206)).heap[w3.heap.size]?=some (.cells #[.slice (some ⟨wr.heap.size,0,none⟩) (s.size+1) (s.size+1)] 206 (0,0)):=Anj w3 _;have F:=Ack s.size w3.heap.size w.heap.size wr.heap.size (s.size+1) (s.size+1) ps (D6 rs wd) _ P d (by rw[S];exact Am7 _ _ 0 _ _ _ B) z S hs (fun x V=>by have:=b.mem x V;rw[r]at this;exact this) (by omega) (by omega);rw[z]at F;have p:Ara w (w3.alloc (.cells #[.slice (some ⟨wr.heap.size,0,none⟩) (s.size+1) (s.size+1)] 206)):=(c.trans C (fun _ _ h=>h)).alloc _;have G:Hid (He s.data.toList k ps rs∧2^k=wd∧Ara w (w3.alloc (.cells #[.slice (some ⟨wr.heap.size,0,none⟩) (s.size+1) (s.size+1)] 206))∧B8 (w3.alloc (.cells #[.slice (some ⟨wr.heap.size,0,none⟩) (s.size+1) (s.size+1)] 206)) wr.heap.size (D6 rs wd)):=⟨b,t,p,d⟩;clear b t O l A C P d p c f;go_wp2_with fail;refine F.mono ?_;rintro e w5 ⟨rfl,ps5,a,q,y,v⟩;clear F;obtain⟨b,t,p,d⟩:=G.o;have R:=d.kept v (by omega);have H:=v.row B (by omega);have al:w5.cell? ⟨w3.heap.size,0,none⟩=some (.slice (some ⟨wr.heap.size,0,none⟩) (s.size+1) (s.size+1)):=Am7 _ _ 0 _ _ _ H;have Q:ps5.length=s.size+1:=by rw[a.length_eq,z]
     have E:=Ahe w.heap.size (s.size+1) wr.heap.size (s.size+1) ps5 (D6 rs wd) w5 y R (by omega) (by omega) (fun x V=>by have:=b.mem x (a.subset V);omega) (by omega);rw[Q]at E;have aa:w.heap.size<w5.heap.size:=y.lt;have HN:Hid (He s.data.toList (k+1) ps5 (Gb ps5 (D6 rs wd))∧2^(k+1)=wd*2∧Ara w w5∧IntRow w5 w.heap.size ps5):=by
      refine⟨⟨ps,rs,b,a,by rw[t];exact q,by rw[t]⟩,by rw[Aoz,t],p.trans v (fun j h1 h2=>by omega),y⟩
     clear b t p d R H B y v q a G;go_wp2_with fail;refine E.mono ?_;rintro e w6 ⟨rfl,Z,L⟩;clear E;go_wp2;go_roundw
     case rel=>
      obtain⟨h1,h2,X,h4⟩:=HN.o;exact⟨k+1,w5.heap.size,ps5,_,by omega,by rw[h2];go_num,rfl,h1,h4.kept L id,Z,aa,X.trans L (fun _ _ h=>h)⟩
     case measure=>simp[intOf];omega
    ·have m:decide ((wd:Int)≤(s.size:Int))=false:=by simp;omega
     have HF:Hid (Qe s.data.toList ps∧IntRow wr w.heap.size ps∧Ara w wr):=⟨⟨k,rs,by rw[r,t];omega,b⟩,O,c⟩;clear b O l c f t;go_wp2;go_ret;obtain⟨h1,h2,X⟩:=HF.o;exact⟨ps,rfl,h1,h2,X⟩
end Go.Proofs.YtegnkfdbmmndaaaGreat
namespace Go.Proofs.YtegnkfdbmmndaaaGreat
open Hm Go.Proofs.Tryz
namespace Hm
def Dg:Arc→Arc→Prop
 |_,[]=>False
 |[],_::_=>True
 |a::l,b::m=>a.toNat<b.toNat∨(a=b∧Dg l m)
theorem S5(l:Arc): ¬Dg l []:=by cases l<;>exact id
theorem Kc: ∀l:Arc,¬Dg l l
 |[]=>id
 |a::l=>by
  rintro(h|⟨_,h⟩)
  ·omega
  ·exact Kc l h
theorem Mz: ∀{a b c:Arc},Dg a b→Dg b c→Dg a c
 |_,_,[],_,h=>absurd h (S5 _)
 |_,[],_::_,h,_=>absurd h (S5 _)
 |[],_::_,_::_,_,_=>trivial
 |a::l,b::m,c::n,h,k=>by
  rcases h with h|⟨h1,h2⟩<;>rcases k with k|⟨k1,k2⟩
  ·exact .inl (by omega)
  ·subst k1;exact .inl h
  ·subst h1;exact .inl k
  ·subst h1 k1;exact .inr ⟨rfl,Mz h2 k2⟩
theorem M0: ∀(a b:Arc),Dg a b∨a=b∨Dg b a
 |[],[]=> .inr (.inl rfl)
 |[],_::_=> .inl trivial
 |_::_,[]=> .inr (.inr trivial)
 |a::l,b::m=>by
  rcases Aop a.toNat b.toNat with h|h|h
  ·exact .inl (.inl h)
  ·have e:a=b:=UInt8.toNat_inj.1 h;subst e;rcases M0 l m with k|k|k
   ·exact .inl (.inr ⟨rfl,k⟩)
   ·exact .inr (.inl (by rw[k]))
   ·exact .inr (.inr (.inr ⟨rfl,k⟩))
  ·exact .inr (.inr (.inl h))
theorem Uv: ∀{N:Nat} {a b c d:Arc},a.length≤N→c.length≤N→(a.length<N→b=[])→(c.length<N→d=[])→(Dg (a++b) (c++d)↔Dg a c∨(a=c∧Dg b d))
 |0,a,b,c,d,h1,h2,_,_=>by
  obtain rfl:a=[]:=Aob (by omega);obtain rfl:c=[]:=Aob (by omega);simp[Dg]
 |N+1,[],b,c,d,h1,h2,f,e=>by
  obtain rfl:b=[]:=f (by simp);cases c with
  |nil=>
   obtain rfl:d=[]:=e (by simp);simp[Dg]
  |cons x c=>simp[Dg]
 |N+1,x::a,b,[],d,h1,h2,f,e=>by
  obtain rfl:d=[]:=e (by simp);simp[Dg]
 |N+1,x::a,b,y::c,d,h1,h2,f,e=>by
  have ih:=Uv (N:=N) (a:=a) (b:=b) (c:=c) (d:=d) (by simpa using h1) (by simpa using h2) (fun h=>f (by simpa using h)) (fun h=>e (by simpa using h));simp only[Aqw,Dg,ih];constructor
  ·rintro(h|⟨h,e|⟨g,i⟩⟩)
   ·exact .inl (.inl h)
   ·exact .inl (.inr ⟨h,e⟩)
   ·exact .inr ⟨by rw[h,g],i⟩
  ·rintro((h|⟨h,g⟩)|⟨h,i⟩)
   ·exact .inl h
   ·exact .inr ⟨h,.inl g⟩
   ·simp only[List.cons.injEq]at h;exact .inr ⟨h.1,.inr ⟨h.2,i⟩⟩
theorem Zn{l:Ard}(h:l.Nodup){i j:Nat}(hi:i<l.length)(a:j<l.length)(e:l[i]=l[j]):i=j:=by
 have b:=List.pairwise_iff_getElem.1 (List.nodup_iff_pairwise_ne.1 h);rcases Aop i j with c|c|c
 ·exact absurd e (b i j hi a c)
 ·exact c
 ·exact absurd e.symm (b j i a hi c)
def Ni(s:Arc)(m:Nat)(rs:Ard):Prop:= ∀i j,(rs.getD i 0<rs.getD j 0↔Dg ((s.drop i).take m) ((s.drop j).take m))
theorem Ni.eq{s:Arc}{m:Nat}{rs:Ard}(h:Ni s m rs)(i j:Nat):rs.getD i 0=rs.getD j 0↔(s.drop i).take m=(s.drop j).take m:=by
 have h1:=h i j;have h2:=h j i;constructor
 ·intro e;rcases M0 ((s.drop i).take m) ((s.drop j).take m)with k|k|k
  ·have:=h1.2 k;omega
  ·exact k
  ·have:=h2.2 k;omega
 ·intro e;rw[e]at h1 h2;have n:=Kc ((s.drop j).take m);rcases Aop (rs.getD i 0) (rs.getD j 0)with k|k|k
  ·exact absurd (h1.1 k) n
  ·exact k
  ·exact absurd (h2.1 k) n
theorem Uw(s:Arc)(i:Nat):(Lz s).getD i 0=if h:i<s.length then s[i].toNat+1 else 0:=by
 unfold Lz;rw[Am4]
 by_cases h:i<s.length
 ·rw[dif_pos h,An6 (by simpa using h)];simp[h]
 ·rw[dif_neg h,Ans (by simpa using h)]
  by_cases e:i=s.length
  ·subst e;simp
  ·rw[Anx (by simp;omega)];rfl
theorem Wq(s:Arc)(i:Nat):(s.drop i).take 1=if h:i<s.length then [s[i]]else []:=by
 by_cases h:i<s.length
 ·rw[dif_pos h,An7 h,Aqr,List.take_zero]
 ·rw[dif_neg h,Aqd (by omega)];rfl
theorem Ni.start(s:Arc):Ni s 1 (Lz s):=by
 intro i j;rw[Uw,Uw,Wq,Wq]
 by_cases hi:i<s.length<;>by_cases a:j<s.length
 ·rw[dif_pos hi,dif_pos a,dif_pos hi,dif_pos a];simp[Dg]
 ·rw[dif_pos hi,dif_neg a,dif_pos hi,dif_neg a];simp[Dg]
 ·rw[dif_neg hi,dif_pos a,dif_neg hi,dif_pos a];simp[Dg]
 ·rw[dif_neg hi,dif_neg a,dif_neg hi,dif_neg a];simp[Dg]
theorem Oy(rs:Ard)(wd i:Nat):(D6 rs wd).getD i (0,0)=(rs.getD i 0,rs.getD (i+wd) 0):=by
 unfold D6;rw[Am4,An2]
 by_cases h:i<rs.length
 ·rw[Ao2 h];rfl
 ·rw[Anx (by simpa using h)];simp only[Am4];rw[Anx (by omega),Anx (by omega)];rfl
theorem Ni.pairs{s:Arc}{m:Nat}{rs:Ard}(h:Ni s m rs)(i j:Nat):
  ltP ((D6 rs m).getD i (0,0)) ((D6 rs m).getD j (0,0))↔Dg ((s.drop i).take (m+m)) ((s.drop j).take (m+m)):=by
 have cut: ∀i,(s.drop i).take (m+m)=(s.drop i).take m++(s.drop (i+m)).take m:=fun i=>by
  rw[List.take_add,List.drop_drop]
 rw[Oy,Oy,cut,cut,Uv (N:=m) (by simp;omega) (by simp;omega)
  (fun h=>by simp at h;rw[Aqd (by omega),List.take_nil]) (fun h=>by simp at h;rw[Aqd (by omega),List.take_nil])]
 unfold ltP;simp only;rw[h i j,h.eq i j,h (i+m) (j+m)]
theorem S6(p q:Nat×Nat):ltP p q∨p=q∨ltP q p:=by
 obtain⟨a,b⟩:=p;obtain⟨c,d⟩:=q;unfold ltP;simp only[Prod.mk.injEq];omega
theorem Oc(p:Nat×Nat): ¬ltP p p:=by unfold ltP;omega
section
variable (ps:Ard) (prs:List (Nat×Nat))
def E6(t:Nat):Nat×Nat:=prs.getD (ps.getD t 0) (0,0)
def Ir(t:Nat):Nat:=(Gb ps prs).getD (ps.getD t 0) 0
end
theorem Jl(l:Ard)(i x:Nat)(h:i<l.length):(l.set i x).getD i 0=x:=by
 rw[Am4,Aqu h];rfl
theorem getD_set_ne(l:Ard)(i j x:Nat)(h:i≠j):(l.set i x).getD j 0=l.getD j 0:=by
 rw[Am4,Ap9 h,←Am4]
theorem Q3(ps:Ard)(prs:List (Nat×Nat))(hn: ∀a b,a<ps.length→b<ps.length→ps.getD a 0=ps.getD b 0→a=b)(t k:Nat)(c:t≤k)(hk:k<ps.length):(Ct ps prs k).getD (ps.getD t 0) 0=(Ct ps prs t).getD (ps.getD t 0) 0:=by
 induction k with
 |zero=>
  obtain rfl:t=0:=by omega
  rfl
 |succ k ih=>
  by_cases e:t=k+1
  ·rw[e]
  ·rw[Ct,getD_set_ne _ _ _ _ (fun h=>e (hn t (k+1) (by omega) hk h.symm))];exact ih (by omega) (by omega)
theorem Aet(ps:Ard)(prs:List (Nat×Nat))(hn: ∀a b,a<ps.length→b<ps.length→ps.getD a 0=ps.getD b 0→a=b)(c:0<ps.length):Ir ps prs 0=0:=by
 unfold Ir Gb;rw[Q3 ps prs hn 0 _ (Ann _) (by omega),Ct,Am4]
 by_cases h:ps.getD 0 0<ps.length
 ·rw[Ao1 h];rfl
 ·rw[Anx (by simp;simpa[List.getD_eq_getElem?_getD]using h)];rfl
theorem Aeu(ps:Ard)(prs:List (Nat×Nat))(hn: ∀a b,a<ps.length→b<ps.length→ps.getD a 0=ps.getD b 0→a=b)(c: ∀t,t<ps.length→ps.getD t 0<ps.length)(t:Nat)(h:t+1<ps.length):
  Ir ps prs (t+1)=Ir ps prs t+if E6 ps prs (t+1)=E6 ps prs t then 0 else 1:=by
 unfold Ir Gb;rw[Q3 ps prs hn (t+1) _ (by omega) (by omega),Q3 ps prs hn t _ (by omega) (by omega),Ct,Jl _ _ _ (by rw[Ld];exact c _ h)];congr 1;unfold Vy E6
 by_cases e:prs.getD (ps.getD (t+1) 0) (0,0)=prs.getD (ps.getD t 0) (0,0)
 ·rw[if_pos e];simp only[ne_eq,e,not_true_eq_false,decide_false];rfl
 ·rw[if_neg e];simp only[ne_eq,e,not_false_eq_true,decide_true];rfl
theorem Ux(ps:Ard)(prs:List (Nat×Nat))(hn: ∀a b,a<ps.length→b<ps.length→ps.getD a 0=ps.getD b 0→a=b)(f: ∀t,t<ps.length→ps.getD t 0<ps.length)
  (c: ∀a b,a<b→b<ps.length→ ¬ltP (E6 ps prs b) (E6 ps prs a)) (a b:Nat) (d:a≤b) (hb:b<ps.length):
  Ir ps prs a≤Ir ps prs b∧(Ir ps prs a=Ir ps prs b↔E6 ps prs a=E6 ps prs b):=by
 induction b with
 |zero=>
  obtain rfl:a=0:=by omega
  exact⟨Ane _,⟨fun _=>rfl,fun _=>rfl⟩⟩
 |succ b ih=>
  by_cases e:a=b+1
  ·subst e;exact⟨Ane _,⟨fun _=>rfl,fun _=>rfl⟩⟩
  ·obtain⟨h1,h2⟩:=ih (by omega) (by omega);rw[Aeu ps prs hn f b hb]
   by_cases e2:E6 ps prs (b+1)=E6 ps prs b
   ·rw[if_pos e2,e2];exact⟨by omega,by rw[←h2];omega⟩
   ·rw[if_neg e2];refine⟨by omega,⟨fun h=>by omega,fun h=>?_⟩⟩;exfalso;have n1:=c b (b+1) (by omega) hb;rw[←h]at n1 e2
    by_cases e3:a=b
    ·subst e3;exact e2 rfl
    ·have n2:=c a b (by omega) (by omega);rcases S6 (E6 ps prs a) (E6 ps prs b)with k|k|k
     ·exact n1 k
     ·exact e2 k
     ·exact n2 k
theorem Aje(ps:Ard)(prs:List (Nat×Nat))(n:Nat)(o:ps.Perm (List.range (n+1)))(D:Yi prs ps)(F:prs.length≤n+1)(w:prs.getD n (0,0)=(0,0))(i j:Nat):
  (Gb ps prs).getD i 0<(Gb ps prs).getD j 0↔ltP (prs.getD i (0,0)) (prs.getD j (0,0)):=by
 have g:ps.length=n+1:=by simpa using o.length_eq
 have u:ps.Nodup:=o.symm.nodup (List.nodup_range);have d: ∀t,(h:t<ps.length)→ps.getD t 0=ps[t]:=fun t h=>by rw[Am4,Am5 h];rfl
 have hn: ∀a b,a<ps.length→b<ps.length→ps.getD a 0=ps.getD b 0→a=b:=fun a b m hb h=>by
  rw[d a m,d b hb]at h;exact Zn u m hb h
 have p: ∀t,t<ps.length→ps.getD t 0<ps.length:=fun t h=>by
  rw[d t h,g];simpa using o.subset (Anm h)
 have f: ∀a b,a<b→b<ps.length→ ¬ltP (E6 ps prs b) (E6 ps prs a):=fun a b h1 h2=>by
  have:=D a b h1 h2;rw[Ob,Ox]at this;exact this
 have l: ∀i,i≤n→ ∃t,t<ps.length∧ps.getD t 0=i:=fun i hi=>by
  have:i∈ps:=o.mem_iff.2 (by simpa using(by omega:i<n+1));obtain⟨t,ht,e⟩:=Aog this;exact⟨t,ht,by rw[d t ht];exact e⟩
 have inn: ∀i j,i≤n→j≤n→((Gb ps prs).getD i 0<(Gb ps prs).getD j 0↔ltP (prs.getD i (0,0)) (prs.getD j (0,0))):=fun i j hi C=>by
  obtain⟨a,m,rfl⟩:=l i hi;obtain⟨b,hb,rfl⟩:=l j C;show Ir ps prs a<Ir ps prs b↔ltP (E6 ps prs a) (E6 ps prs b);rcases Aop a b with h|h|h
  ·obtain⟨h1,h2⟩:=Ux ps prs hn p f a b (by omega) hb;have q:=f a b h hb;constructor
   ·intro k;rcases S6 (E6 ps prs a) (E6 ps prs b)with c|c|c
    ·exact c
    ·have:=h2.2 c;omega
    ·exact absurd c q
   ·intro k
    by_cases e:Ir ps prs a=Ir ps prs b
    ·rw[h2.1 e]at k;exact absurd k (Oc _)
    ·omega
  ·subst h;exact⟨fun k=>by omega,fun k=>absurd k (Oc _)⟩
  ·obtain⟨h1,h2⟩:=Ux ps prs hn p f b a (by omega) m;exact⟨fun k=>by omega,fun k=>absurd k (f b a h m)⟩
 have v:(Gb ps prs).getD n 0=0:=by
  obtain⟨t,ht,e⟩:=l n (Ane _);have z:=Aet ps prs hn (by omega);have h1:=inn n (ps.getD 0 0) (Ane _) (by have:=p 0 (by omega);omega);have h2:=inn (ps.getD 0 0) n (by have:=p 0 (by omega);omega) (Ane _);have q:(Gb ps prs).getD (ps.getD 0 0) 0=0:=z
  by_cases e0:t=0
  ·subst e0;rw[←e];exact q
  ·have x:=f 0 t (by omega) ht;have A:E6 ps prs t=(0,0):=by unfold E6;rw[e];exact w
   rw[A]at x;have B:E6 ps prs 0=(0,0):=by
    rcases S6 (0,0) (E6 ps prs 0)with c|c|c
    ·exact absurd c x
    ·exact c.symm
    ·unfold ltP at c;simp at c
   rw[w]at h1 h2;have y:prs.getD (ps.getD 0 0) (0,0)=(0,0):=B;rw[y]at h2;have:=mt h2.1 (Oc _);rw[y]at h1;have:=mt h1.1 (Oc _);omega
 have E:(Gb ps prs).length=n+1:=by unfold Gb;rw[Ld,g]
 have red: ∀i,∃i',i'≤n∧(Gb ps prs).getD i 0=(Gb ps prs).getD i' 0∧prs.getD i (0,0)=prs.getD i' (0,0):=fun i=>by
  by_cases h:i≤n
  ·exact⟨i,h,rfl,rfl⟩
  ·refine⟨n,Ane _,?_,?_⟩
   ·rw[v,Am4,Anx (by omega)];rfl
   ·rw[w,Am4,Anx (by omega)];rfl
 obtain⟨i',r,e1,e2⟩:=red i;obtain⟨j',s,e3,e4⟩:=red j;rw[e1,e2,e3,e4];exact inn i' j' r s
theorem He.ranked{s:Arc}{k:Nat}: ∀{ps rs:Ard},He s k ps rs→Ni s (2^k) rs:=by
 induction k with
 |zero=>rintro ps rs ⟨_,rfl⟩;exact Ni.start s
 |succ k ih=>
  rintro ps rs h;have a:=h.perm;obtain⟨ps0,rs0,b,g,e,rfl⟩:=h;have c:=ih b;have d:=b.ranks.1;intro i j;have f:(D6 rs0 (2^k)).getD s.length (0,0)=(0,0):=by
   have e1:rs0.getD s.length 0=rs0.getD (s.length+1) 0:=(c.eq _ _).2 (by rw[Apy,Aqd (by omega)]);have e2:rs0.getD (s.length+1) 0=0:=by rw[Am4,Anx (by omega)];rfl
   have e3:rs0.getD (s.length+2^k) 0=0:=by
    have:=App k;rw[Am4,Anx (by omega)];rfl
   rw[Oy,e1,e2,e3]
  rw[Aje ps (D6 rs0 (2^k)) s.length a e (by unfold D6;simp[d]) f i j,c.pairs i j,show 2^k+2^k=2^(k+1)from by rw[Aoz];omega]
structure C5(s:Arc)(ps:Ard):Prop where
 perm:ps.Perm (List.range (s.length+1))
 ord:ps.Pairwise fun i j=>Dg (s.drop i) (s.drop j)
theorem Qe.sorted{s:Arc}{ps:Ard}(h:Qe s ps):C5 s ps:=by
 have d:=h.perm;obtain⟨k,rs,hk,h⟩:=h;refine⟨d,?_⟩;rw[List.pairwise_iff_getElem];intro i j hi b f;have l: ∀t,(h:t<ps.length)→ps[t]<s.length+1:=fun t h=>by simpa using d.subset (Anm h)
 cases k with
 |zero=>
  have hs:s.length=0:=by simpa using hk
  have:=d.length_eq;simp[hs]at this;omega
 |succ k=>
  obtain⟨ps0,rs0,n,p,o,rfl⟩:=h;have r:=n.ranked.pairs;have a:=o i j f b;rw[Ob,Ox,r]at a;have g: ∀t,(h:t<ps.length)→ps.getD t 0=ps[t]:=fun t h=>by rw[Am4,Am5 h];rfl
  rw[g i hi,g j b]at a;have m: ∀q,(s.drop q).take (2^k+2^k)=s.drop q:=fun q=>An5 (by rw[Aoz]at hk;simp;omega);rw[m,m]at a;rcases M0 (s.drop ps[i]) (s.drop ps[j])with c|c|c
  ·exact c
  ·exfalso;have e:=congrArg List.length c;simp at e;have h1:=l i hi;have h2:=l j b;have e2:ps[i]=ps[j]:=by omega
   have:=Zn (d.symm.nodup List.nodup_range) hi b e2;omega
  ·exact absurd c a
theorem Ml{α:Type}{r:α→α→Prop}(c: ∀a b,r a b→r b a→False): ∀{l m:List α},l.Perm m→l.Pairwise r→m.Pairwise r→l=m
 |[],m,h,_,_=>(List.nil_perm.1 h).symm
 |a::l,[],h,_,_=>absurd h.symm (by simp)
 |a::l,b::m,h,h1,h2=>by
  rw[Aqx]at h1 h2
  by_cases e:a=b
  ·subst e;rw[Ml c (List.perm_cons a|>.1 h) h1.2 h2.2]
  ·have m1:a∈b::m:=h.subset Anl;have m2:b∈a::l:=h.symm.subset Anl;have m1':a∈m:=by
    rcases List.mem_cons.1 m1 with k|k
    ·exact absurd k e
    ·exact k
   have m2':b∈l:=by
    rcases List.mem_cons.1 m2 with k|k
    ·exact absurd k.symm e
    ·exact k
   exact(c a b (h1.1 b m2') (h2.1 a m1')).elim
theorem C5.unique{s:Arc}{ps qs:Ard}(h:C5 s ps)(k:C5 s qs):ps=qs:=
 Ml (fun _ _ h1 h2=>Kc _ (Mz h1 h2)) (h.perm.trans k.perm.symm) h.ord k.ord
end Hm
namespace Hm
abbrev lnB(L:Ard)(b:UInt8):Nat:=L.getD b.toNat 0
def G3(L:Ard)(b:UInt8):Nat:=lnB L b*256+b.toNat
def Amw(L:Ard)(x y:UInt8):Prop:=lnB L x=lnB L y→x.toNat<y.toNat
def Acl(L:Ard)(x y:UInt8):Int:=Lib.compareInt (lnB L x:Nat) (lnB L y:Nat)
theorem Yj(a b:Nat):Lib.compareInt (a:Nat) (b:Nat)<0↔a<b:=by
 unfold Lib.compareInt;rcases Aop a b with h|h|h
 ·have:(a:Int)<b:=by omega
  simp[this,h]
 ·subst h;simp
 ·have h1: ¬(a:Int)<b:=by omega
  have h2:(b:Int)<a:=by omega
  simp[h1,h2];omega
theorem Am3(L:Ard):Ord (Acl L) (G3 L) (Amw L):=by
 refine⟨fun x y h=>?_,fun x y h e=>?_⟩
 ·unfold Acl G3;rw[Yj];have a:=x.toNat_lt;have b:=y.toNat_lt;unfold Amw at h;constructor
  ·intro k;omega
  ·intro k;rcases Aop (lnB L y) (lnB L x)with c|c|c
   ·exact c
   ·have:=h c.symm;omega
   ·omega
 ·unfold G3 at e;have a:=x.toNat_lt;have b:=y.toNat_lt;have:=h (by omega);omega
theorem M1(L:Ard):(Ai L).Pairwise fun x y=>x.toNat<y.toNat:=by
 unfold Ai Bs;rw[List.pairwise_map];have c:(List.range 256).Pairwise (· < ·):=List.pairwise_lt_range;refine(c.filter _).imp_of_mem fun{a b} d hb h=>?_;have h1:a<256:=by simpa using(List.mem_filter.1 d).1
 have h2:b<256:=by simpa using(List.mem_filter.1 hb).1
 rw[Aoa,Aoa];omega
theorem Il(L:Ard)(b:UInt8):b∈Ai L↔0<lnB L b:=by
 unfold Ai Bs;rw[List.mem_map];constructor
 ·rintro⟨x,a,rfl⟩;have h1:x<256:=by simpa using(List.mem_filter.1 a).1
  have h2:0<L.getD x 0:=by simpa using(List.mem_filter.1 a).2
  rw[lnB,Aoa,Ao7 h1];exact h2
 ·intro h;exact⟨b.toNat,List.mem_filter.2 ⟨by simpa using b.toNat_lt,by simpa using h⟩,by simp⟩
def Ae(L:Ard):Arc:=(List.range 256).flatMap fun n=>(Ai L).filter fun b=>lnB L b==n
theorem Jt(L:Ard)(a: ∀b:UInt8,lnB L b≤255)(b:UInt8):b∈Ae L↔0<lnB L b:=by
 unfold Ae;rw[List.mem_flatMap];constructor
 ·rintro⟨n,_,h⟩;exact(Il L b).1 (List.mem_filter.1 h).1
 ·intro h;exact⟨lnB L b,List.mem_range.2 (Aov (a b) (by decide)),List.mem_filter.2 ⟨(Il L b).2 h,by simp⟩⟩
theorem Ek(L:Ard):(Ae L).Pairwise fun x y=>G3 L x<G3 L y:=by
 unfold Ae;rw[List.pairwise_flatMap];refine⟨fun n _=>?_,?_⟩
 ·refine((M1 L).filter _).imp_of_mem fun{a b} c hb h=>?_;have h1:lnB L a=n:=by simpa using(List.mem_filter.1 c).2
  have h2:lnB L b=n:=by simpa using(List.mem_filter.1 hb).2
  unfold G3;rw[h1,h2];omega
 ·refine(List.pairwise_lt_range (n:=256)).imp fun{m n} h x d y e=>?_;have h1:lnB L x=m:=by simpa using(List.mem_filter.1 d).2
  have h2:lnB L y=n:=by simpa using(List.mem_filter.1 e).2
  unfold G3;rw[h1,h2];have:=x.toNat_lt;omega
theorem Hf{L:Ard}{l:Arc}(h:l.Pairwise fun x y=>G3 L x<G3 L y):l.Nodup:=by
 rw[List.nodup_iff_pairwise_ne];exact h.imp fun{a b} k e=>by subst e;omega
theorem Good.order{L:Ard}{d:Array UInt8}(o: ∀b:UInt8,lnB L b≤255)(hs:d.size=(Ai L).length)(h:Good (G3 L) (Ai L).toArray d 0 (Ai L).length):d.toList=Ae L:=by
 have g: ∀k,(h:k<d.size)→d[k]! =d.toList[k]'(by simpa using h):=fun k h=>by simp[h]
 have g0: ∀k,(h:k<(Ai L).length)→(Ai L).toArray[k]! =(Ai L)[k]:=fun k h=>by simp[h]
 have m:d.toList.Pairwise fun x y=>G3 L x<G3 L y:=by
  rw[List.pairwise_iff_getElem];intro i j hi l f;have h1:=h.srt i j (Ann _) f (by rw[←hs];simpa using l);rw[g i (by simpa using hi),g j (by simpa using l)]at h1;exact h1
 have n: ∀b,b∈d.toList↔b∈Ae L:=fun b=>by
  rw[Jt L o,←Il];have:=h.mem b;constructor
  ·intro hb;obtain⟨i,hi,rfl⟩:=Aog hb;have e:i<d.size:=by simpa using hi
   obtain⟨k,_,h2,c⟩:=this.1 ⟨i,Ann _,by omega,g i e⟩;rw[g0 k h2]at c;rw[←c];exact Anm _
  ·intro hb;obtain⟨i,hi,rfl⟩:=Aog hb;obtain⟨k,_,h2,c⟩:=this.2 ⟨i,Ann _,hi,g0 i hi⟩;rw[g k (by omega)]at c;rw[←c];exact Anm _
 exact Ml (fun a b h1 h2=>by omega) ((List.perm_ext_iff_of_nodup (Hf m) (Hf (Ek L))).2 n) m (Ek L)
theorem Is(L:Ard)(c: ∀b:UInt8,lnB L b≤255):(Ae L).length=(Ai L).length:=by
 have hn:(Ai L).Nodup:=by
  rw[List.nodup_iff_pairwise_ne];exact(M1 L).imp fun{a b} k e=>by subst e;omega
 exact((List.perm_ext_iff_of_nodup (Hf (Ek L)) hn).2 fun b=>by rw[Jt L c,Il]).length_eq
end Hm
end Go.Proofs.YtegnkfdbmmndaaaGreat
namespace Go.Proofs.YtegnkfdbmmndaaaGreat
open Hm Go.Proofs.Tryz Go.RowKit
def Fq(w:World)(v:Value)(ms:Arc):Prop:= ∃g c,v= .slice (some ⟨g,0,none⟩) ms.length c∧ms.length≤c∧c≤maxLen∧g<w.heap.size∧ ∀i,(h:i<ms.length)→w.cell? ⟨g,i,none⟩=some (.int .u8 (ms[i].toNat:Nat))
theorem Fq.kept{S:Nat→Prop}{w w':World}{v:Value}{ms:Arc}(h:Fq w v ms)(hk:Aa S w w')(hn: ∀k,v.ownBlock=some k→ ¬S k):Fq w' v ms:=by
 obtain⟨g,c,rfl,h1,h2,a,b⟩:=h;exact⟨g,c,rfl,h1,h2,Aom a hk.size,fun i hi=>(hk.cell (p:=⟨g,i,none⟩) a (hn g rfl)).trans (b i hi)⟩
namespace Hm
abbrev Grp:=Nat×UInt8×Arc
def C6:List Grp→Are→Are
 |g::gs,v::vs=> .int .i64 (g.1:Nat):: .int .u8 (g.2.1.toNat:Nat)::v::C6 gs vs
 |_,_=>[]
theorem Nx: ∀(gs:List Grp) (vs:Are),vs.length=gs.length→(C6 gs vs).length=gs.length*3
 |[],[],_=>rfl
 |g::gs,v::vs,h=>by
  have:=Nx gs vs (by simpa using h);simp only[C6,An8,this];omega
 |[],v::vs,h=>by simp at h
 |g::gs,[],h=>by simp at h
theorem Ry: ∀(gs:List Grp) (vs:Are) (hs:List Grp) (us:Are),vs.length=gs.length→C6 (gs++hs) (vs++us)=C6 gs vs++C6 hs us
 |[],[],hs,us,_=>rfl
 |g::gs,v::vs,hs,us,h=>by
  have:=Ry gs vs hs us (by simpa using h);simp only[C6,Aqw,this]
 |[],v::vs,_,_,h=>by simp at h
 |g::gs,[],_,_,h=>by simp at h
theorem Wr: ∀(gs:List Grp) (vs:Are) (i:Nat) (h:i<gs.length) (h2:i<vs.length),(C6 gs vs)[3*i]?=some (.int .i64 (gs[i].1:Nat))∧(C6 gs vs)[3*i+1]?=some (.int .u8 (gs[i].2.1.toNat:Nat))∧(C6 gs vs)[3*i+2]?=some vs[i]
 |g::gs,v::vs,0,_,_=>⟨rfl,rfl,rfl⟩
 |g::gs,v::vs,i+1,h,h2=>by
  have:=Wr gs vs i (by simpa using h) (by simpa using h2);simp only[show 3*(i+1)=3*i+3 from rfl,show 3*i+3+1=(3*i+1)+3 from rfl,show 3*i+3+2=(3*i+2)+3 from rfl,C6,Apz,List.getElem_cons_succ];exact this
def cnt(l:Arc)(b:Nat):Nat:=l.countP fun x=>x.toNat==b
def weights(l:Arc):Ard:=(List.range 256).map (cnt l)
theorem Gd(l:Arc):(weights l).length=256:=by simp[weights]
theorem M2(l:Arc)(b:Nat)(h:b<(weights l).length):(weights l)[b]=cnt l b:=by simp[weights]
theorem Acm(l:Arc)(b:Nat):cnt l b≤l.length:=List.countP_le_length
theorem Uy:weights []=List.replicate 256 0:=by
 unfold weights cnt;generalize 256=n;apply Aon
 ·simp
 ·intro i h1 h2;simp
theorem S7(l:Arc)(k:Nat)(h:k<l.length):weights (l.take (k+1))=(weights (l.take k)).set l[k].toNat (cnt (l.take k) l[k].toNat+1):=by
 apply Aon
 ·simp[weights]
 ·intro i h1 h2;rw[Aql,M2,M2,Anh h];unfold cnt;rw[Apd]
  by_cases e:l[k].toNat=i
  ·subst e;simp
  ·simp[e]
def Aj(l:Arc)(b:Nat):List Grp:=((List.range b).filter fun x=>decide (0<cnt l x)).map fun x=>(cnt l x,UInt8.ofNat x,[UInt8.ofNat x])
theorem S8(l:Arc)(b:Nat):Aj l (b+1)=Aj l b++if 0<cnt l b then [(cnt l b,UInt8.ofNat b,[UInt8.ofNat b])]else []:=by
 unfold Aj;rw[Apu,Ao8,Apk];congr 1
 by_cases h:0<cnt l b<;>simp[h]
theorem Qf(l:Arc)(b:Nat):(Aj l b).length≤b:=by
 unfold Aj;rw[Anz];exact Ant (Ap4 _ _) (by simp)
end Hm
structure Dc(w:World)(base:Nat)(v:Value)(gs:List Hm.Grp)(vs:Are):Prop where
 len:vs.length=gs.length
 own:w.ownsRow base 216 3 v gs.length (C6 gs vs)
 mem: ∀i,(h:i<gs.length)→(h2:i<vs.length)→Fq w vs[i] gs[i].2.2∧ ∀k,vs[i].ownBlock=some k→v.ownBlock≠some k
theorem Dc.append{w w1 w2:World}{base:Nat}{v v':Value}{gs:List Hm.Grp}{vs:Are}{g:Hm.Grp}{mv:Value}(h:Dc w base v gs vs)(hk:Ara w w1)(_hb:base≤w.heap.size)
  (t:Fq w1 mv g.2.2) (m: ∀k,mv.ownBlock=some k→v.ownBlock≠some k)
  (u:w2.ownsRow base 216 3 v' (gs.length+1) (C6 gs vs++C6 [g] [mv])) (q:w1.grownBy w2 v.ownBlock) (l:Cb w1 v v'):Dc w2 base v' (gs++[g]) (vs++[mv]):=by
 have f:Aa (fun k=>v.ownBlock=some k) w1 w2:=(Aa.refl _ _).grown q (fun j r=> .inr r);refine⟨by simp[h.len],by rw[Ry _ _ _ _ h.len,Anf];exact u,fun i hi h2=>?_⟩;have key: ∀(x:Value) (ms:Arc),Fq w1 x ms→(∀k,x.ownBlock=some k→v.ownBlock≠some k)→Fq w2 x ms∧ ∀k,x.ownBlock=some k→v'.ownBlock≠some k:=by
  intro x ms n b;refine⟨n.kept f b,fun k d e=>?_⟩;obtain⟨gb,c,rfl,_,_,a,_⟩:=n;cases d;rcases l _ e with y|y
  ·exact b _ rfl y
  ·exact Nat.lt_irrefl _ (Aom a y)
 have s:=h.len
 by_cases a:i<gs.length
 ·rw[List.getElem_append_left (by omega),List.getElem_append_left a];obtain⟨o,p⟩:=h.mem i a (by omega);exact key _ _ (o.kept hk (fun _ _=>id)) p
 ·have:i=gs.length:=by simp at hi;omega
  subst this;rw[List.getElem_append_right (by omega),List.getElem_append_right (by omega)];simp only[Aoy,s,List.getElem_cons_zero];exact key _ _ t m
theorem Uz(s:ByteArray)(w:World)(hs:s.size≤6000):
  Calls prog 138 #[.string s] w fun e w'=> ∃v vs,e= .returned v∧Dc w' w.heap.size v (Aj s.data.toList 256) vs∧Ara w w':=by
 obtain⟨i0,hi,N,O,P⟩:=Aoo Oa;have X:s.data.toList.length=s.size:=by simp
 have G:=Aku;have F:Es (w.alloc (.cells Tryz.zeroCells94 94)) 94 w.heap.size (Hm.weights (s.data.toList.take 0)):=by
  unfold Es;rw[Anj,G,List.take_zero,Uy]
 have y:Hid (Es (w.alloc (.cells Tryz.zeroCells94 94)) 94 w.heap.size (Hm.weights (s.data.toList.take 0))):=F;clear F G
 go_enter func138,ntmps138
 go_wp2_with fail
 go_loopw[10] (fun i wr=> ∃k:Nat,k≤s.size∧i= .int .i64 k∧Es wr 94 w.heap.size (Hm.weights (s.data.toList.take k))∧Ara w wr) (fun i _=>s.size-(intOf i).toNat)
 case atStart=>exact⟨0,Ann _,rfl,y.o,(Aa.refl _ _).alloc _⟩
 case round=>
  clear y;obtain⟨k,hk,rfl,t,c⟩:=hrel
  by_cases V:k<s.size
  ·have M:=Gd (s.data.toList.take k);obtain⟨cn,z⟩: ∃cn:Nat,s[k].toNat=cn:=⟨_,rfl⟩;have U:cn<256:=by rw[←z];exact UInt8.toNat_lt _
   have hd:=t.cell (i:=cn) (by omega);have Y:=t.free cn;rw[M2]at hd;have L:=Acm (s.data.toList.take k) cn;rw[Anp]at L;have HS:=t.set cn (Hm.cnt (s.data.toList.take k) cn+1);have n:s.data.toList[k].toNat=cn:=by rw[←z];simp[ByteArray.getElem_eq_getElem_data]
   have ew:=S7 s.data.toList k (by omega);rw[n]at ew;rw[←ew]at HS;have T:Hid (Es _ 94 w.heap.size (Hm.weights (s.data.toList.take (k+1)))):=HS;generalize Hm.cnt (s.data.toList.take k) cn=q at*;clear HS t M ew n;go_wp2;go_roundw
   case rel=>exact⟨k+1,by omega,by go_num,T.o,c.setCell (.inl (Ane _)) _⟩
   case measure=>simp[intOf];omega
  ·obtain rfl:k=s.size:=by omega
   rw[An5 (by omega)]at t;have g:=t;unfold Es at g;have m: ∀b,(h:b<256)→ ∀W,(Instr.index 94 (.agg (Ad (Hm.weights s.data.toList)).toArray) (.int .i64 (b:Nat))).run prog W= .ok (.int .i64 ((Hm.cnt s.data.toList b:Nat):Nat)) W:=by
    intro b hb W;rw[Nw 94 256 underlying94 _ b (by rw[Gd];exact hb) (Gd _) W,M2]
   have f:(Ad (Hm.weights s.data.toList)).toArray.size=256:=by
    rw[Anq,Ad,Anz,Gd]
   generalize(Ad (Hm.weights s.data.toList)).toArray=arr at g m f;clear t
   go_wp2_with(refine Aoh rfl 94 _ rfl w.heap.size rfl 94 arr (0,0) _ g underlying94 rfl (by rw[f];kernel_rfl) ?_)
   go_loopw[5,22] (fun u i wr=> ∃(b:Nat) (vs:Are),b≤256∧i= .int .i64 b∧Dc wr w.heap.size u (Aj s.data.toList b) vs∧Ara w wr) (fun _ i _=>256-(intOf i).toNat)
   case atStart=>exact⟨0,[],by omega,rfl,⟨rfl,World.ownsRow_nil _ _ _ _,fun i h=>by simp[Aj]at h⟩,c⟩
   case round=>
    clear c g;obtain⟨b,vs,hb,rfl,l,c⟩:=hrel
    by_cases p:b<256
    ·have C:=m b p;have B:decide ((b:Int)<256)=true:=by simp;omega
     have a:=S8 s.data.toList b;have A:=Acm s.data.toList b;have x:=Qf s.data.toList b;generalize Hm.cnt s.data.toList b=q at C a A;clear m f
     by_cases S:0<q
     ·rw[if_pos S]at a;have R:decide (0<q)=true:=by simp;omega
      have d:Hid (Aj s.data.toList (b+1)=Aj s.data.toList b++[(q,UInt8.ofNat b,[UInt8.ofNat b])]):=a;clear a;generalize Aj s.data.toList b=gs at l d x
      go_wp2_with(at_builtin;refine Bg _ rfl (.tmp 28) (.tmp 36) 213 rfl w.heap.size 216 i0 _ 3 40 underlying213 hi N O P rfl (by decide) _ gs.length (C6 gs vs) rfl ?c0 ⟨wr.heap.size+1,0,none⟩ 1 1 [.int .i64 (q:Nat),.int .u8 (b:Nat),.slice (some ⟨wr.heap.size,0,none⟩) 1 1] rfl rfl ?c1 ?c2 ?c3 ?c4 ?c5 ?_)
      case c0=>exact(((Aa.refl (fun _=>False) wr).alloc _).alloc _).owns l.own (fun _ _=>id)
      case c1=>
       intro j u I;rw[Addr.add_lit,An3,Am7 _ _ j _ _ _ (Apc wr _ _)];simpa using I
      case c2=>first|exact⟨rfl,rfl,rfl⟩|(intro u l;simp at l;rcases l with rfl|rfl|rfl<;>rfl)
      case c3=>unfold maxLen;omega
      case c5=>have:=c.size;simp;omega
      case c4=>omega
      intro v' w2 E r D;have H:w.heap.size≤wr.heap.size:=c.size;have Q:Dc w2 w.heap.size v' (gs++[(q,UInt8.ofNat b,[UInt8.ofNat b])]) (vs++[.slice (some ⟨wr.heap.size,0,none⟩) 1 1]):=by
       refine l.append (((Aa.refl (fun _=>False) wr).alloc _).alloc _) H ⟨wr.heap.size,1,rfl,Ane _,by decide,?_,fun i hi=>?_⟩ (fun k J e=>?_) ?_ r D
       ·simp;omega
       ·obtain rfl:i=0:=by simp at hi;exact hi
        rw[Am7 _ _ 0 _ _ _ (Apb wr _ _)];simp;omega
       ·cases J;exact Nat.lt_irrefl _ (l.own.lt _ e).2
       ·simp only[C6,Aoa,Ao7 p];exact E
      rw[←d.o]at Q;have K:Ara w w2:=((c.alloc _).alloc _).grown r (fun j I=> .inl (l.own.lt _ I).1);clear r D E l d;go_wp2;go_roundw
      case rel=>exact⟨b+1,_,by omega,by go_num,Q,K⟩
      case measure=>simp[intOf];omega
     ·rw[if_neg S,Aow]at a;obtain rfl:q=0:=by omega
      have d:Hid (Aj s.data.toList (b+1)=Aj s.data.toList b):=a;clear a;go_wp2;go_roundw
      case rel=>
       refine⟨b+1,vs,by omega,by go_num,?_,c⟩;rw[d.o];exact l
      case measure=>simp[intOf];omega
    ·have B:decide ((b:Int)<256)=false:=by simp;omega
     obtain rfl:b=256:=by omega
     clear m f;go_wp2;go_ret;exact⟨_,vs,rfl,l,c⟩
end Go.Proofs.YtegnkfdbmmndaaaGreat
