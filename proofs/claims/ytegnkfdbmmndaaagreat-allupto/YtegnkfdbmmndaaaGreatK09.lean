import Derived.Test.YtegnkfdbmmndaaaGreatK07
import Derived.Test.YtegnkfdbmmndaaaGreatShelf
import Derived.Test.YtegnkfdbmmndaaaGreatK06

set_option maxHeartbeats 8000000
set_option maxRecDepth 100000
namespace Go.Proofs.YtegnkfdbmmndaaaGreat
open Hm Go.Proofs.Tryz
variable{b w w' w2:World}{s:Aeg}{k m:Nat}{L ps rs:Aeh}
section
open Go.RowKit Go.Sort
namespace Hm
def orI(a b:Int):Int:=if a=0 then b else a
def Y6(p q:Nat×Nat):Int:=orI (Lib.compareInt p.1 q.1) (Lib.compareInt p.2 q.2)
end Hm
def Ii(w w':World):Prop:= ∃q os,w'=grow (w.drewN q) os
theorem Ii.refl(w:World):Ii w w:=⟨0,#[],by rw[grow_empty];rfl⟩
theorem Ii.alloc(h:Ii w w')(o:Obj):Ii w (w'.alloc o):=by
 obtain⟨q,os,rfl⟩:=h;exact⟨q,os++ #[o],by rw[alloc_eq_grow,grow_grow]⟩
theorem Ii.drew(h:Ii w w'):Ii w w'.drew:=by
 obtain⟨q,os,rfl⟩:=h;exact⟨q+1,os,rfl⟩
theorem Ii.trans(h:Ii w b)(k:Ii b w2):Ii w w2:=by
 obtain⟨q,os,rfl⟩:=h;obtain⟨c,a,rfl⟩:=k;refine⟨q+c,os++a,?_⟩;rw[<-grow_grow];unfold grow World.drewN;simp[Nat.add_assoc]
theorem yY(g:Nat)(a b:Int)(w:World)(i:w.cell? ⟨g,0,none⟩=some (.int .i64 a))(h1:w.cell? ⟨g,1,none⟩=some (.int .i64 b)):
  Calls prog 176 #[.slice (some ⟨g,0,none⟩) 2 2] w fun e w'=>e= .returned (.int .i64 (orI a b))/\w=w':=by
 by_cases c:a=0
 ·subst c
  by_cases hb:b=0
  ·subst hb
   go_enter func176,ntmps176
   go_wp2;refine wp_loop_rounds 3 ?_;rw[rounds_succ];go_wp2;rw[rounds_succ];go_wp2;rw[rounds_succ];go_wp2;go_ret;exact⟨rfl,rfl⟩
  ·have h:(b !=0)=true:=by rw[bne_iff_ne];exact hb
   go_enter func176,ntmps176
   go_wp2;refine wp_loop_rounds 2 ?_;rw[rounds_succ];go_wp2;rw[rounds_succ];go_wp2;go_ret;exact⟨rfl,rfl⟩
 ·have f:(a !=0)=true:=by rw[bne_iff_ne];exact c
  have d:Hid (orI a b=a):=if_neg c
  go_enter func176,ntmps176
  go_wp2;refine wp_loop_rounds 1 ?_;rw[rounds_succ];go_wp2;go_ret;exact⟨by rw[d.o];rfl,rfl⟩
theorem tI(W:World)(x y:Int):Calls prog 176 #[.slice (some ⟨W.heap.size,0,none⟩) 2 2] (W.alloc (.cells #[.int .i64 x,.int .i64 y] 3)).drew fun e w'=>e= .returned (.int .i64 (orI x y))/\(W.alloc (.cells #[.int .i64 x,.int .i64 y] 3)).drew=w':=by
 have a:(W.alloc (.cells #[I x,I y] 3)).drew.heap[W.heap.size]?=some (.cells #[I x,I y] 3 (0,0)):=zY W (.cells #[I x,I y] 3);exact yY _ x y _ (zP _ _ 0 _ _ _ a) (zP _ _ 1 _ _ _ a)
theorem Y7(a b c d:Nat)(w:World):
  Calls prog 136 #[.agg #[.int .i64 a,.int .i64 b],.agg #[.int .i64 c,.int .i64 d]] w fun e w'=>e= .returned (.int .i64 (Y6 (a,b) (c,d)))/\Ii w w':=by
 have f:=fun W=>Tryz.cmp_Compare_int (a:Int) (c:Int) W;have g:=fun W=>Tryz.cmp_Compare_int (b:Int) (d:Int) W;have h:Hid (Y6 (a,b) (c,d)=orI (Lib.compareInt a c) (Lib.compareInt b d)):=rfl;generalize Lib.compareInt (a:Int) (c:Int)=x at f h;generalize Lib.compareInt (b:Int) (d:Int)=y at g h;have i:=tI ((w.alloc (.cells #[I a,I b] 210)).alloc (.cells #[I c,I d] 210)) x y;rw[show((w.alloc (.cells #[I a,I b] 210)).alloc (.cells #[I c,I d] 210)).heap.size=w.heap.size+1+1 from by simp]at i
 go_enter func136,ntmps136
 go_wp2
 go_region_held(fun W=>W.cell? (J w.heap.size 0)=some (I a)/\W.cell? (J w.heap.size 1)=some (I b)/\W.cell? (J (w.heap.size+1) 0)=some (I c)/\W.cell? (J (w.heap.size+1) 1)=some (I d)) (go_keep)
  (first
  |(go_at_call_of 177 (a:Int);refine(f _).mono ?_;rintro e w' ⟨rfl,rfl⟩)
  |(go_at_call_of 177 (b:Int);refine(g _).mono ?_;rintro e w' ⟨rfl,rfl⟩)
  |(go_at_call 176;refine i.mono ?_;rintro e w' ⟨rfl,rfl⟩))
 go_wp2;go_ret;exact⟨by rw[h.o];rfl,(((((Ii.refl w).alloc _).alloc _).alloc _).drew)⟩
theorem Ii.cell(h:Ii w w'){p:Addr}{v:Value}(a:w.cell? p=some v):w'.cell? p=some v:=by
 obtain⟨q,os,rfl⟩:=h;have hb:=z9 _ _ a;rw[<-a];refine World.cell?_of_block ?_;show(w.heap++os)[p.block]?=_;rw[Array.getElem?_append_left hb]
theorem mL(pb g c:Nat)(prs:List (Nat×Nat))(i j:Nat)(w:World)(p:w.cell? ⟨pb,0,none⟩=some (.slice (some ⟨g,0,none⟩) prs.length c))(k:Cn w g prs)(hi:i<prs.length)(o:j<prs.length)(_hl:prs.length<=6001):
  Calls prog 135 #[.int .i64 i,.int .i64 j,.pointer (some ⟨pb,0,none⟩)] w fun e w'=>e= .returned (.int .i64 (Y6 prs[i] prs[j]))/\Ii w w':=by
 have h1:=k.fst hi;have h2:=k.snd hi;have m:=k.fst o;have n:=k.snd o;clear k;generalize prs[i]=pi at*;generalize prs[j]=pj at*;obtain⟨a,b⟩:=pi;obtain⟨l,d⟩:=pj;simp only at h1 h2 m n;have f:=fun W=>Y7 a b l d W;generalize Y6 (a,b) (l,d)=r at f|-;have q:(i:Int)<(prs.length:Int):=by omega
 have s:(j:Int)<(prs.length:Int):=by omega
 go_enter func135,ntmps135
 go_wp2
 go_region_held(fun W=>W.cell? (J pb 0)=some (S0 g prs.length c)/\W.cell? (J g (i*2))=some (I a)/\W.cell? (J g (i*2+1))=some (I b)/\W.cell? (J g (j*2))=some (I l)/\W.cell? (J g (j*2+1))=some (I d)) (go_keep)
  (first
  |(go_at_call 136;refine(f _).mono ?_;rintro e w' ⟨rfl,h⟩;have t:=h.cell p;have u:=h.cell h1;have v:=h.cell h2;have x:=h.cell m;have y:=h.cell n))
 go_wp2;go_ret;exact⟨rfl,(Ii.refl w).drew.trans h⟩
end
section
open Go.RowKit Go.Sort Go.Shelf
namespace Hm
def Py(prs:List (Nat×Nat))(i j:Nat):Int:=Y6 (prs.getD i (0,0)) (prs.getD j (0,0))
def b7(prs:List (Nat×Nat))(ps:Aeh):Prop:= ∀i j,i<j->j<ps.length-> ¬Py prs (ps.getD j 0) (ps.getD i 0)<0
def ltP(p q:Nat×Nat):Prop:=p.1<q.1\/(p.1=q.1/\p.2<q.2)
theorem Qk(p q:Nat×Nat):Y6 p q<0↔ltP p q:=by
 obtain⟨a,b⟩:=p;obtain⟨c,d⟩:=q;unfold Y6 orI ltP Lib.compareInt;simp only;rcases Aa7 a c with h|h|h
 ·have h1:(a:Int)<c:=by omega
  simp[h,h1]
 ·subst h;have h1: ¬(a:Int)<a:=by omega
  rcases Aa7 b d with k|k|k
  ·have e:(b:Int)<d:=by omega
   simp[k,e]
  ·subst k;simp
  ·have e: ¬(b:Int)<d:=by omega
   have f:(d:Int)<b:=by omega
   simp[e,f];omega
 ·have h1: ¬(a:Int)<c:=by omega
  have h2:(c:Int)<a:=by omega
  simp[h1,h2];omega
end Hm
theorem tJ(n:Nat)(prs:List (Nat×Nat)):SWO (ltOf fun x y:Fin (n+1)=>Py prs x.val y.val):=by
 have key: ∀x y:Fin (n+1),ltOf (fun x y:Fin (n+1)=>Py prs x.val y.val) x y=true↔ltP (prs.getD x.val (0,0)) (prs.getD y.val (0,0)):=by
  intro x y;unfold ltOf Py;rw[decide_eq_true_iff];exact Qk (prs.getD x.val (0,0)) (prs.getD y.val (0,0))
 have a: ∀x y:Fin (n+1),ltOf (fun x y:Fin (n+1)=>Py prs x.val y.val) x y=false↔ ¬ltP (prs.getD x.val (0,0)) (prs.getD y.val (0,0)):=by
  intro x y;rw[<-key x y];simp
 refine⟨fun x=>?_,fun x y z h1 h2=>?_,fun x y z h1 h2=>?_⟩
 ·rw[a];unfold ltP;omega
 ·rw[key]at*;unfold ltP at*;omega
 ·rw[a]at*;unfold ltP at*;omega
theorem K6{α:Type}[Inhabited α](enc:α->Value)(w:World)(blk a m:Nat)(d:Array α)(os:Array Obj)(k:Nat)(hk:k<w.heap.size)(b:k≠blk):(sortWorld enc w blk a m d os).heap[k]?=w.heap[k]?:=by
 show((putRow enc (Sort.ahead w m) blk a d).heap++os)[k]?=_;rw[Array.getElem?_append_left (by rw[size_putRow];exact hk)];show(w.heap.modify blk _)[k]?=_;rw[Array.getElem?_modify,if_neg (fun e=>b e.symm)]
theorem T7{α:Type}[Inhabited α](enc:α->Value)(w:World)(blk m:Nat)(d:Array α)(os:Array Obj)(c:Array Value)(t:TypeId)(a:w.heap[blk]?=some (.cells c t (0,0)))(hs:c.size=d.size):
  (sortWorld enc w blk 0 m d os).heap[blk]?=some (.cells (d.map enc) t (0,0)):=by
 show((putRow enc (Sort.ahead w m) blk 0 d).heap++os)[blk]?=_;rw[Array.getElem?_append_left (by rw[size_putRow];exact Aac a)];show(w.heap.modify blk _)[blk]?=_;rw[Array.getElem?_modify,if_pos rfl,a];simp only[Option.map_some,onCells];congr 2;unfold putCells;apply Array.ext
 ·simp[hs]
 ·intro i h1 h2;have hi:i<d.size:=by simpa using h2
  simp[hi]
theorem Ny{α:Type}[Inhabited α](enc:α->Value)(w:World)(blk a m:Nat)(d:Array α)(os:Array Obj):Aa (fun j=>j=blk) w (sortWorld enc w blk a m d os):=by
 refine⟨rfl,rfl,rfl,?_,fun k hk hn=>K6 enc w blk a m d os k hk hn⟩;show _<=((putRow enc (Sort.ahead w m) blk a d).heap++os).size;rw[Array.size_append,size_putRow];show w.heap.size<=w.heap.size+os.size;omega
theorem jG(n pb d o c E:Nat)(ps:Aeh)(prs:List (Nat×Nat))(w:World)(s:IntRow w d ps)(G:Cn w o prs)(hb:w.cell? ⟨pb,0,none⟩=some (.slice (some ⟨o,0,none⟩) prs.length E))
  (T:ps.length=n+1) (R:prs.length=n+1) (hn:n<=6000) (S: ∀x∈ps,x<n+1) (h1:d≠o) (h2:d≠pb):
  Calls prog 134 #[.slice (some ⟨d,0,none⟩) ps.length c,.func (.func 135) #[] #[.pointer (some ⟨pb,0,none⟩)]] w fun e w'=>
   e= .returned (.tuple #[])/\ ∃k:Aeh,k.Perm ps/\b7 prs k/\IntRow w' d k/\Aa (fun j=>j=d) w w':=by
 have hd: ∀x∈ps,((Fin.ofNat (n+1) x).val)=x:=fun x h=>by simp[Fin.ofNat];exact S x h
 have b:((ps.map (Fin.ofNat (n+1))).toArray).size=ps.length:=by simp
 have r:(ps.map (Fin.ofNat (n+1))).map Fin.val=ps:=by
  rw[List.map_map]
  conv=>rhs;rw[<-List.map_id ps]
  exact Acy fun x h=>hd x h
 have hpb:pb<w.heap.size:=z9 _ _ hb;have u:=Any.slices_SortFunc Tryz.sortL (fun x:Fin (n+1)=>Value.int .i64 x.val) (fun _=>rfl) (fun x y:Fin (n+1)=>Py prs x.val y.val) (tJ n prs) 135 #[.pointer (some (J pb 0))] d 0 c (ps.map (Fin.ofNat (n+1))).toArray w
  (enters_of func135 (by kernel_rfl) rfl)
  (fun m os t hs x y=>by
   have v:=mL pb o E prs x.val y.val (sortWorld (fun x:Fin (n+1)=>Value.int .i64 x.val) w d 0 m t os)
    (by rw[World.cell?_of_block (K6 _ w d 0 m t os pb hpb (fun e=>h2 e.symm))];exact hb)
    (by unfold Cn;rw[K6 _ w d 0 m t os o G.lt (fun e=>h1 e.symm)];exact G) (by omega) (by omega) (by omega)
   refine v.mono fun e w' ⟨z,Q⟩=>⟨?_,Q⟩;rw[z];have C:x.val<prs.length:=by omega
   have D:y.val<prs.length:=by omega
   simp[Py,C,D])
  (fun j q=>by
   have B:j<ps.length:=by rw[b]at q;exact q
   refine⟨?_,by simpa using s.free j⟩;rw[Aao,s.cell B,getElem!_pos _ j q];simp only[List.getElem_toArray,Abu];rw[hd _ (z6 _)])
  s.lt (by rw[b];omega)
 rw[b]at u
 change Calls prog 134 _ _ _ at u
 refine u.mono fun e w' ⟨z,d',m,os,a,g,H⟩=>⟨z,d'.toList.map Fin.val,?_,?_,?_,?_⟩
 ·have l:=a.2.2;have K:(d'.extract 0 ps.length).toList=d'.toList:=by
   rw[show ps.length=d'.size from by rw[a.1,b]];simp
  have L:((ps.map (Fin.ofNat (n+1))).toArray.extract 0 ps.length).toList=ps.map (Fin.ofNat (n+1)):=by
   have M:ps.length=(ps.map (Fin.ofNat (n+1))).length:=by simp
   rw[M];simp only[List.extract_toArray,Ab5,Ad3,Adj,Aaw]
  rw[K,L]at l;have F:=l.map Fin.val;rw[r]at F;exact F
 ·intro i j A q;have f:j<d'.size:=by simpa using q
  have p:i<d'.size:=by omega
  have l:=g i j (zZ _) A (by rw[<-b,<-a.1];exact f);unfold ltOf at l;rw[getElem!_pos _ j f,getElem!_pos _ i p]at l;have P:=of_decide_eq_false l;have O:(d'.toList.map Fin.val).getD j 0=d'[j].val:=by simp[List.getD_eq_getElem?_getD,f]
  have N:(d'.toList.map Fin.val).getD i 0=d'[i].val:=by simp[List.getD_eq_getElem?_getD,p]
  rw[O,N];exact P
 ·rw[H];unfold IntRow;rw[T7 _ w d m d' os _ _ s (by rw[a.1,b];simp[Ad])];congr 2;apply Abr;simp[Ad]
 ·rw[H];exact Ny _ w d 0 m d' os
end
section
open Go.RowKit
namespace Hm
def Y8(p q:Nat×Nat):Bool:=decide (p≠q)
def Di(ps:Aeh)(prs:List (Nat×Nat)):Nat->Aeh
 |0=>List.replicate ps.length 0
 |k+1=>(Di ps prs k).set (ps.getD (k+1) 0) ((Di ps prs k).getD (ps.getD k 0) 0+(Y8 (prs.getD (ps.getD (k+1) 0) (0,0)) (prs.getD (ps.getD k 0) (0,0))).toNat)
def Gq(ps:Aeh)(prs:List (Nat×Nat)):Aeh:=Di ps prs (ps.length-1)
theorem Mo(ps:Aeh)(prs:List (Nat×Nat))(k:Nat):(Di ps prs k).length=ps.length:=by
 induction k with
 |zero=>simp[Di]
 |succ k ih=>simp[Di,ih]
theorem d8(ps:Aeh)(prs:List (Nat×Nat))(k:Nat): ∀x∈Di ps prs k,x<=k:=by
 induction k with
 |zero=>intro x a;simp[Di]at a;omega
 |succ k ih=>
  intro x a;rcases Ac3 a with h|h
  ·have:=ih x h;omega
  ·subst h;have h1:(Y8 (prs.getD (ps.getD (k+1) 0) (0,0)) (prs.getD (ps.getD k 0) (0,0))).toNat<=1:=Bool.toNat_le _;have h2:(Di ps prs k).getD (ps.getD k 0) 0<=k:=by
    rw[zG]
    by_cases h:ps.getD k 0<(Di ps prs k).length
    ·rw[zH h];exact ih _ (z6 _)
    ·rw[Aam (by omega)];simp
   omega
end Hm
theorem wB(a b c d:Nat)(w:World):(binOp .neq 210 (.agg #[.int .i64 a,.int .i64 b]) (.agg #[.int .i64 c,.int .i64 d])).run prog w= .ok (.bool (Y8 (a,b) (c,d))) w:=by
 have i:=underlying3;have g:prog.underlying 210=some (.struct (prog.fieldsOf 210)):=by kernel_rfl
 have h:prog.stoodInHeld 210=false:=by kernel_rfl
 rw[run_neq_struct,show(10000:Nat)=9999+1 from rfl,run_equalIn_agg w 9999 210 _ _ g h];simp only[Program.fieldsOf,underlying210];go_simp;unfold Y8
 by_cases h1:a=c
 ·by_cases h2:b=d
  ·simp[h1,h2]
  ·have f: ¬((b:Int)=(d:Int)):=by omega
   simp[h1,h2,f]
 ·have e: ¬((a:Int)=(c:Int)):=by omega
  simp[h1,e]
theorem qA(F Q G R:Nat)(ps:Aeh)(prs:List (Nat×Nat))(w:World)(y:IntRow w F ps)(C:Cn w G prs)(hl:ps.length<=6001)(ac:prs.length=ps.length)(D: ∀x∈ps,x<ps.length)(h1:1<=ps.length):
  Calls prog 137 #[.slice (some ⟨F,0,none⟩) ps.length Q,.slice (some ⟨G,0,none⟩) ps.length R] w fun e w'=>e= .returned (.slice (some ⟨w.heap.size,0,none⟩) ps.length ps.length)/\IntRow w' w.heap.size (Gq ps prs)/\Aee w w':=by
 obtain⟨i0,hi,N,O,P⟩:=Aa6 Jy;have Y:=y.lt;have Z:=C.lt
 go_enter func137,ntmps137
 go_wp2_with(at_make;refine Abv _ rfl (.tmp 10) (.tmp 10) 64 rfl w.heap.size 3 i0 (I 0) 1 underlying64 hi N O .i64 .i64 _ _ ps.length rfl rfl rfl rfl (by rw[P];omega) (by unfold maxLen;omega) (zK _) ?_;intro w1 v s)
 have z:=IntRow.made v;have t:Aee w w1:=(Aa.refl _ _).grown s (fun k hk=>by cases hk);clear v s
 go_loopw[6] (fun i wr=> ∃k:Nat,k+1<=ps.length/\i=I (k+1:Nat)/\IntRow wr w.heap.size (Di ps prs k)/\Aee w wr) (fun i _=>ps.length-(intOf i).toNat)
 case atStart=>exact⟨0,by omega,rfl,z,t⟩
 case round=>
  clear z t;obtain⟨k,hk,rfl,p,g⟩:=hrel;have A:=Mo ps prs k
  by_cases u:k+1<ps.length
  ·have r:decide ((k:Int)+1<(ps.length:Int))=true:=by simp;omega
   have U:=(y.kept g id).cell u;have T:=(y.kept g id).cell (show k<ps.length from by omega);have hh:=D ps[k+1] (z6 _);have ha:=D ps[k] (z6 _);have m:Hid (Di ps prs (k+1)=(Di ps prs k).set ps[k+1] ((Di ps prs k).getD ps[k] 0+(Y8 (prs.getD ps[k+1] (0,0)) (prs.getD ps[k] (0,0))).toNat)):=by
    show _=_;rw[Di];simp[u,show k<ps.length from by omega]
   generalize ps[k+1]=f at*;generalize ps[k]=ahead at*;have V:=p.cell (show ahead<(Di ps prs k).length from by omega);have X:=p.cell (show f<(Di ps prs k).length from by omega);have hf:=p.free f;have S:=d8 ps prs k _ (z6 (show ahead<(Di ps prs k).length from by omega));rw[zG,zH (show ahead<(Di ps prs k).length from by omega),Ack]at m;have h:=C.kept g id;have H:=h.fst (show f<prs.length from by omega);have K:=h.snd (show f<prs.length from by omega);have L:=h.fst (show ahead<prs.length from by omega);have M:=h.snd (show ahead<prs.length from by omega);rw[zG,zH (show f<prs.length from by omega),Ack,zG,zH (show ahead<prs.length from by omega),Ack]at m;generalize(Di ps prs k)[ahead]'(by omega)=ra at*;generalize(Di ps prs k)[f]'(by omega)=rh at*;generalize prs[f]'(by omega)=pr1 at*;generalize prs[ahead]'(by omega)=pr2 at*;obtain⟨a,b⟩:=pr1;obtain⟨c,d⟩:=pr2;simp only at H K L M;have j:=p.set f ra;have l:=j.set f (ra+1);rw[List.set_set]at l;have n:=fun W=>wB a b c d W;have aa: ¬F=w.heap.size:=by omega
   have ab: ¬G=w.heap.size:=by omega
   cases B:Y8 (a,b) (c,d)with
   |true=>
    rw[B]at m n;have q:(Di ps prs k).set f (ra+1)=Di ps prs (k+1):=m.o.symm;rw[q]at l;have E:=hZ l;clear j l m p A y C D h B q;go_wp2
    go_region
    go_wp2
    go_region
    go_wp2;go_roundw
    case rel=>exact⟨k+1,by omega,by go_num,E.o,((g.setCell (.inl (zK _)) _).setCell (.inl (zK _)) _).drew.drew⟩
    case measure=>simp[intOf];omega
   |false=>
    rw[B]at m n;have q:(Di ps prs k).set f ra=Di ps prs (k+1):=m.o.symm;rw[q]at j;have E:=hZ j;clear j l m p A y C D h B q;go_wp2
    go_region
    go_wp2
    go_region
    go_wp2;go_roundw
    case rel=>exact⟨k+1,by omega,by go_num,E.o,(g.setCell (.inl (zK _)) _).drew.drew⟩
    case measure=>simp[intOf];omega
  ·have r:decide ((k:Int)+1<(ps.length:Int))=false:=by simp;omega
   go_wp2;go_ret;have e:k=ps.length-1:=by omega
   exact⟨rfl,by rw[Gq,<-e];exact p,g⟩
namespace Hm
def Iw(s:Aeg):Nat->Aeh->Aeh->Prop
 |0,ps,rs=>ps=List.range (s.length+1)/\rs=Nb s
 |k+1,ps,rs=> ∃b a,Iw s k b a/\ps.Perm b/\b7 (Ej a (2^k)) ps/\rs=Gq ps (Ej a (2^k))
def Sj(s:Aeg)(ps:Aeh):Prop:= ∃k rs,s.length<2^k/\Iw s k ps rs
theorem Iw.perm: ∀{ps rs:Aeh},Iw s k ps rs->ps.Perm (List.range (s.length+1)):=by
 induction k with
 |zero=>intro ps rs h;rw[h.1]
 |succ k ih=>rintro ps rs ⟨b,c,h,a,_⟩;exact a.trans (ih h)
theorem Iw.mem(h:Iw s k ps rs): ∀x∈ps,x<s.length+1:=fun x a=>by
 have:=h.perm.subset a;simpa using this
theorem Iw.len(h:Iw s k ps rs):ps.length=s.length+1:=by
 have:=h.perm.length_eq;simpa using this
theorem Iw.ranks(h:Iw s k ps rs):rs.length=s.length+1/\ ∀x∈rs,x<=s.length+256:=by
 cases k with
 |zero=>
  obtain⟨_,rfl⟩:=h;refine⟨by simp[Nb],fun x a=>?_⟩;unfold Nb at a;rcases Ad7.1 a with h|h
  ·obtain⟨b,_,rfl⟩:=List.mem_map.1 h;have:=b.toNat_lt;omega
  ·simp at h;omega
 |succ k=>
  have c:=h.len;obtain⟨d,e,_,_,_,rfl⟩:=h;refine⟨by rw[Gq,Mo,c],fun x a=>?_⟩;have:=d8 _ _ _ x a;omega
theorem Sj.perm(h:Sj s ps):ps.Perm (List.range (s.length+1)):=by
 obtain⟨k,rs,_,h⟩:=h;exact h.perm
theorem d9(n k:Nat)(h:k<n):(List.range k++List.replicate (n-k) 0).set k k=List.range (k+1)++List.replicate (n-(k+1)) 0:=by
 have a:(List.range k).length=k:=by simp
 rw[Aba _ _ (by omega),a,Abd,show n-k=(n-(k+1))+1 from by omega,Abx,Acm,Aaj];rfl
end Hm
theorem wC(s:ByteArray)(w:World)(hs:s.size<=6000):
  Calls prog 95 #[.string s] w fun e w'=> ∃ps:Aeh,e= .returned (.slice (some ⟨w.heap.size,0,none⟩) (s.size+1) (s.size+1))/\Sj s.data.toList ps/\IntRow w' w.heap.size ps/\Aee w w':=by
 obtain⟨i0,hi,ag,ah,ai⟩:=Aa6 Jy;have r:s.data.toList.length=s.size:=by simp
 go_enter func95,ntmps95
 go_wp2_with(at_make;refine Abv _ rfl (.tmp 10) (.tmp 10) 64 rfl w.heap.size 3 i0 (I 0) 1 underlying64 hi ag ah .i64 .i64 _ _ (s.size+1) rfl rfl (by omega) (by omega) (by rw[ai];omega) (by unfold maxLen;omega) (zK _) ?_;intro w1 R N)
 have Y:=IntRow.made R;have O:Aee w w1:=(Aa.refl _ _).grown N (fun k hk=>by cases hk);clear R N
 go_loopw[14] (fun i wr=> ∃k:Nat,k<=s.size+1/\i=I k/\IntRow wr w.heap.size (List.range k++List.replicate (s.size+1-k) 0)/\Aee w wr) (fun i _=>s.size+1-(intOf i).toNat)
 case atStart=>exact⟨0,zZ _,rfl,Y,O⟩
 case round=>
  clear Y O;obtain⟨k,hk,rfl,l,c⟩:=hrel
  by_cases Q:k<s.size+1
  ·have m:decide ((k:Int)<(s.size:Int)+1)=true:=by simp;omega
   have hl:(List.range k++List.replicate (s.size+1-k) 0).length=s.size+1:=by simp;omega
   have hc:=l.cell (i:=k) (by omega);have hf:=l.free k;have HS:=l.set k k;rw[d9 _ _ Q]at HS;have H2:=hZ HS;generalize(List.range k++List.replicate (s.size+1-k) 0)[k]'(by omega)=old at hc;clear HS l hl r;go_wp2;go_roundw
   case rel=>exact⟨k+1,by omega,by go_num,H2.o,c.setCell (.inl (zK _)) _⟩
   case measure=>simp[intOf];omega
  ·obtain rfl:k=s.size+1:=by omega
   have m:decide ((s.size:Int)+1<(s.size:Int)+1)=false:=by simp
   rw[Abd,Adx,Abe]at l;have M:=bW s wr hs;have ad:=l.lt;have HR:=hZ l;clear l Q hk;go_wp2_with fail;refine M.mono ?_;rintro e w2 ⟨rfl,Z,n⟩;clear M;go_wp2
   go_loopw[5,6] (fun u i W=> ∃(k g:Nat) (ps rs:Aeh),2^k<=12000/\i=I ((2^k:Nat):Int)/\u=S0 g (s.size+1) (s.size+1)/\Iw s.data.toList k ps rs/\IntRow W w.heap.size ps/\IntRow W g rs/\w.heap.size<g/\Aee w W) (fun _ i _=>13000-(intOf i).toNat)
   case atStart=>exact⟨0,wr.heap.size,_,_,by omega,rfl,rfl,⟨rfl,rfl⟩,by rw[r];exact HR.o.kept n id,Z,ad,c.tr n⟩
   case round=>
    clear Z n c HR;obtain⟨k,g,ps,rs,n,rfl,rfl,b,S,l,hg,c⟩:=hrel;have f:=b.ranks;have A:=b.len;rw[r]at f A;generalize v:2^k=t at n|-;have ak:1<=t:=by rw[<-v];exact Nat.one_le_two_pow
    by_cases au:t<=s.size
    ·have m:decide ((t:Int)<=(s.size:Int))=true:=by simp;omega
     have E:=p9 g (s.size+1) rs t wr l (by omega) (by omega) (fun x hx=>by have:=f.2 x hx;omega);rw[f.1]at E;go_wp2_with fail;refine E.mono ?_;rintro e H ⟨rfl,B,D⟩;clear E;have X:(Ej rs t).length=s.size+1:=by rw[bZ,f.1]
     have av:=B.lt;have aw:=S.lt;have T:IntRow (H.alloc (.cells #[S0 wr.heap.size (s.size+1) (s.size+1)] 206)) w.heap.size ps:=by
      unfold IntRow;rw[Below.heap_alloc _ _ _ (by omega)];exact S.kept D id
     have d:Cn (H.alloc (.cells #[S0 wr.heap.size (s.size+1) (s.size+1)] 206)) wr.heap.size (Ej rs t):=by
      unfold Cn;rw[Below.heap_alloc _ _ _ B.lt];exact B
     have C:(H.alloc (.cells #[S0 wr.heap.size (s.size+1) (s.size+1)] 206)).heap[H.heap.size]?=some (.cells #[S0 wr.heap.size (s.size+1) (s.size+1)] 206 (0,0)):=zY H _;have G:=jG s.size H.heap.size w.heap.size wr.heap.size (s.size+1) (s.size+1) ps (Ej rs t) _ T d (by rw[X];exact zP _ _ 0 _ _ _ C) A X hs (fun x hx=>by have:=b.mem x hx;rw[r]at this;exact this) (by omega) (by omega);rw[A]at G;have p:Aee w (H.alloc (.cells #[S0 wr.heap.size (s.size+1) (s.size+1)] 206)):=(c.tr D).alloc _;have K:=hZ (aI b (aI v (aI p d)));clear b v S l B D T d p c f;go_wp2_with fail;refine G.mono ?_;rintro e w5 ⟨rfl,h,a,q,z,y⟩;clear G;obtain⟨b,v,p,d⟩:=K.o;have V:=d.kept y (by omega);have L:=y.row C (by omega);have aq:=cO 0 L;have U:h.length=s.size+1:=by rw[a.length_eq,A]
     have F:=qA w.heap.size (s.size+1) wr.heap.size (s.size+1) h (Ej rs t) w5 z V (by omega) (by omega) (fun x hx=>by have:=b.mem x (a.subset hx);omega) (by omega);rw[U]at F;have af:=z.lt;have HN:Hid (Iw s.data.toList (k+1) h (Gq h (Ej rs t))/\2^(k+1)=t*2/\Aee w w5/\IntRow w5 w.heap.size h):=by
      refine⟨⟨ps,rs,b,a,by rw[v];exact q,by rw[v]⟩,by rw[Abl,v],p.trans y (fun j h1 h2=>by omega),z⟩
     clear b v p d V L C z y q a K;go_wp2_with fail;refine F.mono ?_;rintro e w6 ⟨rfl,ae,P⟩;clear F;go_wp2;go_roundw
     case rel=>
      obtain⟨h1,h2,h3,h4⟩:=HN.o;exact⟨k+1,w5.heap.size,h,_,by omega,by rw[h2];go_num,rfl,h1,h4.kept P id,ae,af,h3.tr P⟩
     case measure=>simp[intOf];omega
    ·have m:decide ((t:Int)<=(s.size:Int))=false:=by simp;omega
     have HF:Hid (Sj s.data.toList ps/\IntRow wr w.heap.size ps/\Aee w wr):=⟨⟨k,rs,by rw[r,v];omega,b⟩,S,c⟩;clear b S l c f v;go_wp2;go_ret;obtain⟨h1,h2,h3⟩:=HF.o;exact⟨ps,rfl,h1,h2,h3⟩
end
namespace Hm
def Ds:Aeg->Aeg->Prop
 |_,[]=>False
 |[],_::_=>True
 |a::l,b::m=>a.toNat<b.toNat\/(a=b/\Ds l m)
theorem Vb(l:Aeg): ¬Ds l []:=by cases l<;>exact id
theorem Lf: ∀l:Aeg,¬Ds l l
 |[]=>id
 |a::l=>by
  rintro(h|⟨_,h⟩)
  ·omega
  ·exact Lf l h
theorem Oh: ∀{a b c:Aeg},Ds a b->Ds b c->Ds a c
 |_,_,[],_,h=>absurd h (Vb _)
 |_,[],_::_,h,_=>absurd h (Vb _)
 |[],_::_,_::_,_,_=>Ad2
 |a::l,b::m,c::n,h,k=>by
  rcases h with h|⟨h1,h2⟩<;>rcases k with k|⟨k1,k2⟩
  ·exact .inl (by omega)
  ·subst k1;exact .inl h
  ·subst h1;exact .inl k
  ·subst h1 k1;exact .inr ⟨rfl,Oh h2 k2⟩
theorem Oi: ∀(a b:Aeg),Ds a b\/a=b\/Ds b a
 |[],[]=> .inr (.inl rfl)
 |[],_::_=> .inl Ad2
 |_::_,[]=> .inr (.inr Ad2)
 |a::l,b::m=>by
  rcases Aa7 a.toNat b.toNat with h|h|h
  ·exact .inl (.inl h)
  ·have e:=UInt8.toNat_inj.1 h;subst e;rcases Oi l m with k|k|k
   ·exact .inl (.inr ⟨rfl,k⟩)
   ·exact .inr (.inl (by rw[k]))
   ·exact .inr (.inr (.inr ⟨rfl,k⟩))
  ·exact .inr (.inr (.inl h))
theorem Xs: ∀{N:Nat} {a b c d:Aeg},a.length<=N->c.length<=N->(a.length<N->b=[])->(c.length<N->d=[])->(Ds (a++b) (c++d)↔Ds a c\/(a=c/\Ds b d))
 |0,a,b,c,d,h1,h2,_,_=>by
  obtain rfl:a=[]:=Aaz (by omega);obtain rfl:c=[]:=Aaz (by omega);simp[Ds]
 |N+1,[],b,c,d,h1,h2,f,e=>by
  obtain rfl:b=[]:=f (by simp);cases c with
  |nil=>
   obtain rfl:d=[]:=e (by simp);simp[Ds]
  |cons x c=>simp[Ds]
 |N+1,x::a,b,[],d,h1,h2,f,e=>by
  obtain rfl:d=[]:=e (by simp);simp[Ds]
 |N+1,x::a,b,y::c,d,h1,h2,f,e=>by
  have j:=Xs (N:=N) (a:=a) (b:=b) (c:=c) (d:=d) (by simpa using h1) (by simpa using h2) (fun h=>f (by simpa using h)) (fun h=>e (by simpa using h));simp only[Adf,Ds,j];constructor
  ·rintro(h|⟨h,e|⟨g,i⟩⟩)
   ·exact .inl (.inl h)
   ·exact .inl (.inr ⟨h,e⟩)
   ·exact .inr ⟨by rw[h,g],i⟩
  ·rintro((h|⟨h,g⟩)|⟨h,i⟩)
   ·exact .inl h
   ·exact .inr ⟨h,.inl g⟩
   ·simp only[List.cons.injEq]at h;exact .inr ⟨h.1,.inr ⟨h.2,i⟩⟩
theorem eD{l:Aeh}(h:l.Nodup){i j:Nat}(hi:i<l.length)(a:j<l.length)(e:l[i]=l[j]):i=j:=by
 have b:=List.pairwise_iff_getElem.1 (List.nodup_iff_pairwise_ne.1 h);rcases Aa7 i j with c|c|c
 ·exact absurd e (b i j hi a c)
 ·exact c
 ·exact absurd e.symm (b j i a hi c)
def Oy(s:Aeg)(m:Nat)(rs:Aeh):Prop:= ∀i j,(rs.getD i 0<rs.getD j 0↔Ds ((s.drop i).take m) ((s.drop j).take m))
theorem Oy.eq(h:Oy s m rs)(i j:Nat):rs.getD i 0=rs.getD j 0↔(s.drop i).take m=(s.drop j).take m:=by
 have h1:=h i j;have h2:=h j i;constructor
 ·intro e;rcases Oi ((s.drop i).take m) ((s.drop j).take m)with k|k|k
  ·have:=h1.2 k;omega
  ·exact k
  ·have:=h2.2 k;omega
 ·intro e;rw[e]at h1 h2;have n:=Lf ((s.drop j).take m);rcases Aa7 (rs.getD i 0) (rs.getD j 0)with k|k|k
  ·exact absurd (h1.1 k) n
  ·exact k
  ·exact absurd (h2.1 k) n
theorem Xt(s:Aeg)(i:Nat):(Nb s).getD i 0=if h:i<s.length then s[i].toNat+1 else 0:=by
 unfold Nb;rw[zG]
 by_cases h:i<s.length
 ·rw[dif_pos h,Aav (by simpa using h)];simp[h]
 ·rw[dif_neg h,z7 (by simpa using h)]
  by_cases e:i=s.length
  ·subst e;simp
  ·rw[Aam (by simp;omega)];rfl
theorem Zz(s:Aeg)(i:Nat):(s.drop i).take 1=if h:i<s.length then [s[i]]else []:=by
 by_cases h:i<s.length
 ·rw[dif_pos h,Aan h,Adw,Aed]
 ·rw[dif_neg h,Adh (by omega)];rfl
theorem Oy.start(s:Aeg):Oy s 1 (Nb s):=by
 intro i j;rw[Xt,Xt,Zz,Zz]
 by_cases hi:i<s.length<;>by_cases a:j<s.length
 ·rw[dif_pos hi,dif_pos a,dif_pos hi,dif_pos a];simp[Ds]
 ·rw[dif_pos hi,dif_neg a,dif_pos hi,dif_neg a];simp[Ds]
 ·rw[dif_neg hi,dif_pos a,dif_neg hi,dif_pos a];simp[Ds]
 ·rw[dif_neg hi,dif_neg a,dif_neg hi,dif_neg a];simp[Ds]
theorem Ql(rs:Aeh)(a i:Nat):(Ej rs a).getD i (0,0)=(rs.getD i 0,rs.getD (i+a) 0):=by
 unfold Ej;rw[zG,Aah]
 by_cases h:i<rs.length
 ·rw[Abn h];rfl
 ·rw[Aam (by simpa using h)];simp only[zG];rw[Aam (by omega),Aam (by omega)];rfl
theorem Oy.pairs(h:Oy s m rs)(i j:Nat):
  ltP ((Ej rs m).getD i (0,0)) ((Ej rs m).getD j (0,0))↔Ds ((s.drop i).take (m+m)) ((s.drop j).take (m+m)):=by
 have a: ∀i,(s.drop i).take (m+m)=(s.drop i).take m++(s.drop (i+m)).take m:=fun i=>by
  rw[List.take_add,List.drop_drop]
 rw[Ql,Ql,a,a,Xs (N:=m) (by simp;omega) (by simp;omega)
  (fun h=>by simp at h;rw[Adh (by omega),List.take_nil]) (fun h=>by simp at h;rw[Adh (by omega),List.take_nil])]
 unfold ltP;simp only;rw[h i j,h.eq i j,h (i+m) (j+m)]
theorem Vc(p q:Nat×Nat):ltP p q\/p=q\/ltP q p:=by
 obtain⟨a,b⟩:=p;obtain⟨c,d⟩:=q;unfold ltP;simp only[Prod.mk.injEq];omega
theorem Pz(p:Nat×Nat): ¬ltP p p:=by unfold ltP;omega
section
variable (ps:Aeh) (prs:List (Nat×Nat))
def Fh(t:Nat):Nat×Nat:=prs.getD (ps.getD t 0) (0,0)
def Jm(t:Nat):Nat:=(Gq ps prs).getD (ps.getD t 0) 0
end
theorem Kg(l:Aeh)(i x:Nat)(h:i<l.length):(l.set i x).getD i 0=x:=by
 rw[zG,Adg h];rfl
theorem getD_set_ne(l:Aeh)(i j x:Nat)(h:i≠j):(l.set i x).getD j 0=l.getD j 0:=by
 rw[zG,Adc h,<-zG]
theorem Tb(ps:Aeh)(prs:List (Nat×Nat))(hn: ∀a b,a<ps.length->b<ps.length->ps.getD a 0=ps.getD b 0->a=b)(t k:Nat)(c:t<=k)(hk:k<ps.length):(Di ps prs k).getD (ps.getD t 0) 0=(Di ps prs t).getD (ps.getD t 0) 0:=by
 induction k with
 |zero=>
  obtain rfl:t=0:=by omega
  rfl
 |succ k ih=>
  by_cases e:t=k+1
  ·rw[e]
  ·rw[Di,getD_set_ne _ _ _ _ (fun h=>e (hn t (k+1) (by omega) hk h.symm))];exact ih (by omega) (by omega)
theorem mM(ps:Aeh)(prs:List (Nat×Nat))(hn: ∀a b,a<ps.length->b<ps.length->ps.getD a 0=ps.getD b 0->a=b)(c:0<ps.length):Jm ps prs 0=0:=by
 unfold Jm Gq;rw[Tb ps prs hn 0 _ (zZ _) (by omega),Di,zG]
 by_cases h:ps.getD 0 0<ps.length
 ·rw[Abp h];rfl
 ·rw[Aam (by simp;simpa[List.getD_eq_getElem?_getD]using h)];rfl
theorem mN(ps:Aeh)(prs:List (Nat×Nat))(hn: ∀a b,a<ps.length->b<ps.length->ps.getD a 0=ps.getD b 0->a=b)(c: ∀t,t<ps.length->ps.getD t 0<ps.length)(t:Nat)(h:t+1<ps.length):
  Jm ps prs (t+1)=Jm ps prs t+if Fh ps prs (t+1)=Fh ps prs t then 0 else 1:=by
 unfold Jm Gq;rw[Tb ps prs hn (t+1) _ (by omega) (by omega),Tb ps prs hn t _ (by omega) (by omega),Di,Kg _ _ _ (by rw[Mo];exact c _ h)];congr 1;unfold Y8 Fh
 by_cases e:prs.getD (ps.getD (t+1) 0) (0,0)=prs.getD (ps.getD t 0) (0,0)
 ·rw[if_pos e];simp only[ne_eq,e,not_true_eq_false,decide_false];rfl
 ·rw[if_neg e];simp only[ne_eq,e,not_false_eq_true,decide_true];rfl
theorem Xu(ps:Aeh)(prs:List (Nat×Nat))(hn: ∀a b,a<ps.length->b<ps.length->ps.getD a 0=ps.getD b 0->a=b)(f: ∀t,t<ps.length->ps.getD t 0<ps.length)
  (c: ∀a b,a<b->b<ps.length-> ¬ltP (Fh ps prs b) (Fh ps prs a)) (a b:Nat) (d:a<=b) (hb:b<ps.length):
  Jm ps prs a<=Jm ps prs b/\(Jm ps prs a=Jm ps prs b↔Fh ps prs a=Fh ps prs b):=by
 induction b with
 |zero=>
  obtain rfl:a=0:=by omega
  exact⟨zK _,⟨fun _=>rfl,fun _=>rfl⟩⟩
 |succ b ih=>
  by_cases e:a=b+1
  ·subst e;exact⟨zK _,⟨fun _=>rfl,fun _=>rfl⟩⟩
  ·obtain⟨h1,h2⟩:=ih (by omega) (by omega);rw[mN ps prs hn f b hb]
   by_cases e2:Fh ps prs (b+1)=Fh ps prs b
   ·rw[if_pos e2,e2];exact⟨by omega,by rw[<-h2];omega⟩
   ·rw[if_neg e2];refine⟨by omega,⟨fun h=>by omega,fun h=>?_⟩⟩;exfalso;have n1:=c b (b+1) (by omega) hb;rw[<-h]at n1 e2
    by_cases e3:a=b
    ·subst e3;exact e2 rfl
    ·have n2:=c a b (by omega) (by omega);rcases Vc (Fh ps prs a) (Fh ps prs b)with k|k|k
     ·exact n1 k
     ·exact e2 k
     ·exact n2 k
theorem tL(ps:Aeh)(prs:List (Nat×Nat))(n:Nat)(q:ps.Perm (List.range (n+1)))(L:b7 prs ps)(N:prs.length<=n+1)(y:prs.getD n (0,0)=(0,0))(i j:Nat):
  (Gq ps prs).getD i 0<(Gq ps prs).getD j 0↔ltP (prs.getD i (0,0)) (prs.getD j (0,0)):=by
 have g:ps.length=n+1:=by simpa using q.length_eq
 have w:=q.symm.nodup (List.nodup_range);have d: ∀t,(h:t<ps.length)->ps.getD t 0=ps[t]:=fun t h=>by rw[zG,zH h];rfl
 have hn: ∀a b,a<ps.length->b<ps.length->ps.getD a 0=ps.getD b 0->a=b:=fun a b m hb h=>by
  rw[d a m,d b hb]at h;exact eD w m hb h
 have r: ∀t,t<ps.length->ps.getD t 0<ps.length:=fun t h=>by
  rw[d t h,g];simpa using q.subset (z6 h)
 have f: ∀a b,a<b->b<ps.length-> ¬ltP (Fh ps prs b) (Fh ps prs a):=fun a b h1 h2=>by
  have:=L a b h1 h2;rw[Py,Qk]at this;exact this
 have l: ∀i,i<=n-> ∃t,t<ps.length/\ps.getD t 0=i:=fun i hi=>by
  have:i∈ps:=q.mem_iff.2 (by simpa using(by omega:i<n+1));obtain⟨t,ht,e⟩:=Aa5 this;exact⟨t,ht,by rw[d t ht];exact e⟩
 have inn: ∀i j,i<=n->j<=n->((Gq ps prs).getD i 0<(Gq ps prs).getD j 0↔ltP (prs.getD i (0,0)) (prs.getD j (0,0))):=fun i j hi K=>by
  obtain⟨a,m,rfl⟩:=l i hi;obtain⟨b,hb,rfl⟩:=l j K;show Jm ps prs a<Jm ps prs b↔ltP (Fh ps prs a) (Fh ps prs b);rcases Aa7 a b with h|h|h
  ·obtain⟨h1,h2⟩:=Xu ps prs hn r f a b (by omega) hb;have s:=f a b h hb;constructor
   ·intro k;rcases Vc (Fh ps prs a) (Fh ps prs b)with c|c|c
    ·exact c
    ·have:=h2.2 c;omega
    ·exact absurd c s
   ·intro k
    by_cases e:Jm ps prs a=Jm ps prs b
    ·rw[h2.1 e]at k;exact absurd k (Pz _)
    ·omega
  ·subst h;exact⟨fun k=>by omega,fun k=>absurd k (Pz _)⟩
  ·obtain⟨h1,h2⟩:=Xu ps prs hn r f b a (by omega) m;exact⟨fun k=>by omega,fun k=>absurd k (f b a h m)⟩
 have x:(Gq ps prs).getD n 0=0:=by
  obtain⟨t,ht,e⟩:=l n (zK _);have F:=mM ps prs hn (by omega);have h1:=inn n (ps.getD 0 0) (zK _) (by have:=r 0 (by omega);omega);have h2:=inn (ps.getD 0 0) n (by have:=r 0 (by omega);omega) (zK _);have s:(Gq ps prs).getD (ps.getD 0 0) 0=0:=F
  by_cases e0:t=0
  ·subst e0;rw[<-e];exact s
  ·have z:=f 0 t (by omega) ht;have G:Fh ps prs t=(0,0):=by unfold Fh;rw[e];exact y
   rw[G]at z;have H:Fh ps prs 0=(0,0):=by
    rcases Vc (0,0) (Fh ps prs 0)with c|c|c
    ·exact absurd c z
    ·exact c.symm
    ·unfold ltP at c;simp at c
   rw[y]at h1 h2;have A:prs.getD (ps.getD 0 0) (0,0)=(0,0):=H;rw[A]at h2;have:=mt h2.1 (Pz _);rw[A]at h1;have:=mt h1.1 (Pz _);omega
 have M:(Gq ps prs).length=n+1:=by unfold Gq;rw[Mo,g]
 have p: ∀i,∃o,o<=n/\(Gq ps prs).getD i 0=(Gq ps prs).getD o 0/\prs.getD i (0,0)=prs.getD o (0,0):=fun i=>by
  by_cases h:i<=n
  ·exact⟨i,h,rfl,rfl⟩
  ·refine⟨n,zK _,?_,?_⟩
   ·rw[x,zG,Aam (by omega)];rfl
   ·rw[y,zG,Aam (by omega)];rfl
 obtain⟨o,u,B,C⟩:=p i;obtain⟨j',v,D,E⟩:=p j;rw[B,C,D,E];exact inn o j' u v
theorem Iw.ranked: ∀{ps rs:Aeh},Iw s k ps rs->Oy s (2^k) rs:=by
 induction k with
 |zero=>rintro ps rs ⟨_,rfl⟩;exact Oy.start s
 |succ k ih=>
  rintro ps rs h;have b:=h.perm;obtain⟨o,a,c,p,m,rfl⟩:=h;have d:=ih c;have l:=c.ranks.1;intro i j;have n:(Ej a (2^k)).getD s.length (0,0)=(0,0):=by
   have e:a.getD s.length 0=a.getD (s.length+1) 0:=(d.eq _ _).2 (by rw[Ab7,Adh (by omega)]);have f:a.getD (s.length+1) 0=0:=by rw[zG,Aam (by omega)];rfl
   have g:a.getD (s.length+2^k) 0=0:=by
    have:=Acl k;rw[zG,Aam (by omega)];rfl
   rw[Ql,e,f,g]
  rw[tL ps (Ej a (2^k)) s.length b m (by unfold Ej;simp[l]) n i j,d.pairs i j,show 2^k+2^k=2^(k+1)from by rw[Abl];omega]
structure D4(s:Aeg)(ps:Aeh):Prop where
 perm:ps.Perm (List.range (s.length+1))
 ord:ps.Pairwise fun i j=>Ds (s.drop i) (s.drop j)
theorem Sj.sorted(h:Sj s ps):D4 s ps:=by
 have d:=h.perm;obtain⟨k,rs,hk,h⟩:=h;refine⟨d,?_⟩;rw[List.pairwise_iff_getElem];intro i j hi b f;have l: ∀t,(h:t<ps.length)->ps[t]<s.length+1:=fun t h=>by simpa using d.subset (z6 h)
 cases k with
 |zero=>
  have hs:s.length=0:=by simpa using hk
  have:=d.length_eq;simp[hs]at this;omega
 |succ k=>
  obtain⟨v,w,o,r,p,rfl⟩:=h;have u:=o.ranked.pairs;have a:=p i j f b;rw[Py,Qk,u]at a;have g: ∀t,(h:t<ps.length)->ps.getD t 0=ps[t]:=fun t h=>by rw[zG,zH h];rfl
  rw[g i hi,g j b]at a;have m: ∀q,(s.drop q).take (2^k+2^k)=s.drop q:=fun q=>Aap (by rw[Abl]at hk;simp;omega);rw[m,m]at a;rcases Oi (s.drop ps[i]) (s.drop ps[j])with c|c|c
  ·exact c
  ·exfalso;have e:=congrArg List.length c;simp at e;have h1:=l i hi;have h2:=l j b;have n:ps[i]=ps[j]:=by omega
   have:=eD (d.symm.nodup List.nodup_range) hi b n;omega
  ·exact absurd c a
theorem Nz{α:Type}{r:α->α->Prop}(f: ∀a b,r a b->r b a->False): ∀{l m:List α},l.Perm m->l.Pairwise r->m.Pairwise r->l=m
 |[],m,h,_,_=>(List.nil_perm.1 h).symm
 |a::l,[],h,_,_=>absurd h.symm (by simp)
 |a::l,b::m,h,h1,h2=>by
  rw[Ad0]at h1 h2
  by_cases e:a=b
  ·subst e;rw[Nz f (List.perm_cons a|>.1 h) h1.2 h2.2]
  ·have g:=h.subset Aab;have i:=h.symm.subset Aab;have c:a∈m:=by
    rcases List.mem_cons.1 g with k|k
    ·exact absurd k e
    ·exact k
   have d:b∈l:=by
    rcases List.mem_cons.1 i with k|k
    ·exact absurd k.symm e
    ·exact k
   exact(f a b (h1.1 b d) (h2.1 a c)).elim
theorem D4.unique{a:Aeh}(h:D4 s ps)(k:D4 s a):ps=a:=
 Nz (fun _ _ h1 h2=>Lf _ (Oh h1 h2)) (h.perm.trans k.perm.symm) h.ord k.ord
end Hm
namespace Hm
abbrev lnB(L:Aeh)(b:UInt8):Nat:=L.getD b.toNat 0
def Hh(L:Aeh)(b:UInt8):Nat:=lnB L b*256+b.toNat
def yZ(L:Aeh)(x y:UInt8):Prop:=lnB L x=lnB L y->x.toNat<y.toNat
def jH(L:Aeh)(x y:UInt8):Int:=Lib.compareInt (lnB L x:Nat) (lnB L y:Nat)
theorem b9(a b:Nat):Lib.compareInt (a:Nat) (b:Nat)<0↔a<b:=by
 unfold Lib.compareInt;rcases Aa7 a b with h|h|h
 ·have:(a:Int)<b:=by omega
  simp[this,h]
 ·subst h;simp
 ·have h1: ¬(a:Int)<b:=by omega
  have h2:(b:Int)<a:=by omega
  simp[h1,h2];omega
theorem zF(L:Aeh):Ord (jH L) (Hh L) (yZ L):=by
 refine⟨fun x y h=>?_,fun x y h e=>?_⟩
 ·unfold jH Hh;rw[b9];have a:=x.toNat_lt;have b:=y.toNat_lt;unfold yZ at h;constructor
  ·intro k;omega
  ·intro k;rcases Aa7 (lnB L y) (lnB L x)with c|c|c
   ·exact c
   ·have:=h c.symm;omega
   ·omega
 ·unfold Hh at e;have a:=x.toNat_lt;have b:=y.toNat_lt;have:=h (by omega);omega
theorem Oj(L:Aeh):(Aj L).Pairwise fun x y=>x.toNat<y.toNat:=by
 unfold Aj Bx;rw[List.pairwise_map];have c:(List.range 256).Pairwise (· < ·):=List.pairwise_lt_range;refine(c.filter _).imp_of_mem fun{a b} d hb h=>?_;have h1:a<256:=by simpa using(List.mem_filter.1 d).1
 have h2:b<256:=by simpa using(List.mem_filter.1 hb).1
 rw[Aax,Aax];omega
theorem Je(L:Aeh)(b:UInt8):b∈Aj L↔0<lnB L b:=by
 unfold Aj Bx;rw[List.mem_map];constructor
 ·rintro⟨x,a,rfl⟩;have h1:x<256:=by simpa using(List.mem_filter.1 a).1
  have h2:0<L.getD x 0:=by simpa using(List.mem_filter.1 a).2
  rw[lnB,Aax,Aby h1];exact h2
 ·intro h;exact⟨b.toNat,List.mem_filter.2 ⟨by simpa using b.toNat_lt,by simpa using h⟩,by simp⟩
def Af(L:Aeh):Aeg:=(List.range 256).flatMap fun n=>(Aj L).filter fun b=>lnB L b==n
theorem Kp(L:Aeh)(a: ∀b:UInt8,lnB L b<=255)(b:UInt8):b∈Af L↔0<lnB L b:=by
 unfold Af;rw[List.mem_flatMap];constructor
 ·rintro⟨n,_,h⟩;exact(Je L b).1 (List.mem_filter.1 h).1
 ·intro h;exact⟨lnB L b,List.mem_range.2 (Abm (a b) (by decide)),List.mem_filter.2 ⟨(Je L b).2 h,by simp⟩⟩
theorem Ey(L:Aeh):(Af L).Pairwise fun x y=>Hh L x<Hh L y:=by
 unfold Af;rw[List.pairwise_flatMap];refine⟨fun n _=>?_,?_⟩
 ·refine((Oj L).filter _).imp_of_mem fun{a b} c hb h=>?_;have h1:lnB L a=n:=by simpa using(List.mem_filter.1 c).2
  have h2:lnB L b=n:=by simpa using(List.mem_filter.1 hb).2
  unfold Hh;rw[h1,h2];omega
 ·refine(List.pairwise_lt_range (n:=256)).imp fun{m n} h x d y e=>?_;have h1:lnB L x=m:=by simpa using(List.mem_filter.1 d).2
  have h2:lnB L y=n:=by simpa using(List.mem_filter.1 e).2
  unfold Hh;rw[h1,h2];have:=x.toNat_lt;omega
theorem Hy{l:Aeg}(h:l.Pairwise fun x y=>Hh L x<Hh L y):l.Nodup:=by
 rw[List.nodup_iff_pairwise_ne];exact h.imp fun{a b} k e=>by subst e;omega
theorem Good.order{d:Array UInt8}(p: ∀b:UInt8,lnB L b<=255)(hs:d.size=(Aj L).length)(h:Good (Hh L) (Aj L).toArray d 0 (Aj L).length):d.toList=Af L:=by
 have g: ∀k,(h:k<d.size)->d[k]! =d.toList[k]'(by simpa using h):=fun k h=>by simp[h]
 have l: ∀k,(h:k<(Aj L).length)->(Aj L).toArray[k]! =(Aj L)[k]:=fun k h=>by simp[h]
 have n:d.toList.Pairwise fun x y=>Hh L x<Hh L y:=by
  rw[List.pairwise_iff_getElem];intro i j hi m f;have h1:=h.srt i j (zZ _) f (by rw[<-hs];simpa using m);rw[g i (by simpa using hi),g j (by simpa using m)]at h1;exact h1
 have o: ∀b,b∈d.toList↔b∈Af L:=fun b=>by
  rw[Kp L p,<-Je];have:=h.mem b;constructor
  ·intro hb;obtain⟨i,hi,rfl⟩:=Aa5 hb;have e:i<d.size:=by simpa using hi
   obtain⟨k,_,h2,c⟩:=this.1 ⟨i,zZ _,by omega,g i e⟩;rw[l k h2]at c;rw[<-c];exact z6 _
  ·intro hb;obtain⟨i,hi,rfl⟩:=Aa5 hb;obtain⟨k,_,h2,c⟩:=this.2 ⟨i,zZ _,hi,l i hi⟩;rw[g k (by omega)]at c;rw[<-c];exact z6 _
 exact Nz (fun a b h1 h2=>by omega) ((List.perm_ext_iff_of_nodup (Hy n) (Hy (Ey L))).2 o) n (Ey L)
theorem Jn(L:Aeh)(c: ∀b:UInt8,lnB L b<=255):(Af L).length=(Aj L).length:=by
 have hn:(Aj L).Nodup:=by
  rw[List.nodup_iff_pairwise_ne];exact(Oj L).imp fun{a b} k e=>by subst e;omega
 exact((List.perm_ext_iff_of_nodup (Hy (Ey L)) hn).2 fun b=>by rw[Kp L c,Je]).length_eq
end Hm
section
open Go.RowKit
def Gn(w:World)(v:Value)(ms:Aeg):Prop:= ∃g c,v= .slice (some ⟨g,0,none⟩) ms.length c/\ms.length<=c/\c<=maxLen/\g<w.heap.size/\ ∀i,(h:i<ms.length)->w.cell? ⟨g,i,none⟩=some (.int .u8 (ms[i].toNat:Nat))
theorem Gn.kept{S:Nat->Prop}{v:Value}{ms:Aeg}(h:Gn w v ms)(hk:Aa S w w')(hn: ∀k,v.ownBlock=some k-> ¬S k):Gn w' v ms:=by
 obtain⟨g,c,rfl,h1,h2,a,b⟩:=h;exact⟨g,c,rfl,h1,h2,Aa9 a hk.size,fun i hi=>(hk.cell (p:=(J g i)) a (hn g rfl)).trans (b i hi)⟩
namespace Hm
abbrev Grp:=Nat×UInt8×Aeg
def Dc:List Grp->Aei->Aei
 |g::gs,v::vs=> .int .i64 g.1:: .int .u8 g.2.1.toNat::v::Dc gs vs
 |_,_=>[]
theorem Pe: ∀(gs:List Grp) (vs:Aei),vs.length=gs.length->(Dc gs vs).length=gs.length*3
 |[],[],_=>rfl
 |g::gs,v::vs,h=>by
  have:=Pe gs vs (by simpa using h);simp only[Dc,Aau,this];omega
 |[],v::vs,h=>by simp at h
 |g::gs,[],h=>by simp at h
theorem T8: ∀(gs:List Grp) (vs:Aei) (hs:List Grp) (a:Aei),vs.length=gs.length->Dc (gs++hs) (vs++a)=Dc gs vs++Dc hs a
 |[],[],hs,a,_=>rfl
 |g::gs,v::vs,hs,a,h=>by
  have:=T8 gs vs hs a (by simpa using h);simp only[Dc,Adf,this]
 |[],v::vs,_,_,h=>by simp at h
 |g::gs,[],_,_,h=>by simp at h
theorem Z0: ∀(gs:List Grp) (vs:Aei) (i:Nat) (h:i<gs.length) (h2:i<vs.length),(Dc gs vs)[3*i]?=some (.int .i64 (gs[i].1:Nat))/\(Dc gs vs)[3*i+1]?=some (.int .u8 (gs[i].2.1.toNat:Nat))/\(Dc gs vs)[3*i+2]?=some vs[i]
 |g::gs,v::vs,0,_,_=>⟨rfl,rfl,rfl⟩
 |g::gs,v::vs,i+1,h,h2=>by
  have:=Z0 gs vs i (by simpa using h) (by simpa using h2);simp only[show 3*(i+1)=3*i+3 from rfl,show 3*i+3+1=(3*i+1)+3 from rfl,show 3*i+3+2=(3*i+2)+3 from rfl,Dc,Acz,List.getElem_cons_succ];exact this
def cnt(l:Aeg)(b:Nat):Nat:=l.countP fun x=>x.toNat==b
def weights(l:Aeg):Aeh:=(List.range 256).map (cnt l)
theorem Gu(l:Aeg):(weights l).length=256:=by simp[weights]
theorem Ol(l:Aeg)(b:Nat)(h:b<(weights l).length):(weights l)[b]=cnt l b:=by simp[weights]
theorem jI(l:Aeg)(b:Nat):cnt l b<=l.length:=List.countP_le_length
theorem Xv:weights []=List.replicate 256 0:=by
 unfold weights cnt;generalize 256=n;apply Aa1
 ·simp
 ·intro i h1 h2;simp
theorem Vd(l:Aeg)(k:Nat)(h:k<l.length):weights (l.take (k+1))=(weights (l.take k)).set l[k].toNat (cnt (l.take k) l[k].toNat+1):=by
 apply Aa1
 ·simp[weights]
 ·intro i h1 h2;rw[Ac5,Ol,Ol,zQ h];unfold cnt;rw[Ab0]
  by_cases e:l[k].toNat=i
  ·subst e;simp
  ·simp[e]
def Ai(l:Aeg)(b:Nat):List Grp:=((List.range b).filter fun x=>decide (0<cnt l x)).map fun x=>(cnt l x,UInt8.ofNat x,[UInt8.ofNat x])
theorem Ve(l:Aeg)(b:Nat):Ai l (b+1)=Ai l b++if 0<cnt l b then [(cnt l b,UInt8.ofNat b,[UInt8.ofNat b])]else []:=by
 unfold Ai;rw[Acm,Abz,Abt];congr 1
 by_cases h:0<cnt l b<;>simp[h]
theorem Sk(l:Aeg)(b:Nat):(Ai l b).length<=b:=by
 unfold Ai;rw[Aai];exact Aaf (Ac7 _ _) (by simp)
end Hm
structure Dm(w:World)(base:Nat)(v:Value)(gs:List Grp)(vs:Aei):Prop where
 len:vs.length=gs.length
 own:w.ownsRow base 216 3 v gs.length (Dc gs vs)
 mem: ∀i,(h:i<gs.length)->(h2:i<vs.length)->Gn w vs[i] gs[i].2.2/\ ∀k,vs[i].ownBlock=some k->v.ownBlock≠some k
theorem Dm.append{base:Nat}{v v':Value}{gs:List Grp}{vs:Aei}{g:Grp}{mv:Value}(h:Dm w base v gs vs)(hk:Aee w b)(_hb:base<=w.heap.size)
  (u:Gn b mv g.2.2) (n: ∀k,mv.ownBlock=some k->v.ownBlock≠some k)
  (z:w2.ownsRow base 216 3 v' (gs.length+1) (Dc gs vs++Dc [g] [mv])) (r:b.grownBy w2 v.ownBlock) (m:Ck b v v'):Dm w2 base v' (gs++[g]) (vs++[mv]):=by
 have l:Aa (fun k=>v.ownBlock=some k) b w2:=(Aa.refl _ _).grown r (fun j s=> .inr s);refine⟨by simp[h.len],by rw[T8 _ _ _ _ h.len,zL];exact z,fun i hi h2=>?_⟩;have key: ∀(x:Value) (ms:Aeg),Gn b x ms->(∀k,x.ownBlock=some k->v.ownBlock≠some k)->Gn w2 x ms/\ ∀k,x.ownBlock=some k->v'.ownBlock≠some k:=by
  intro x ms o d;refine⟨o.kept l d,fun k f e=>?_⟩;obtain⟨gb,c,rfl,_,_,a,_⟩:=o;cases f;rcases m _ e with y|y
  ·exact d _ rfl y
  ·exact Nat.lt_irrefl _ (Aa9 a y)
 have t:=h.len
 by_cases a:i<gs.length
 ·rw[List.getElem_append_left (by omega),List.getElem_append_left a];obtain⟨p,q⟩:=h.mem i a (by omega);exact key _ _ (p.kept hk (fun _ _=>id)) q
 ·have:i=gs.length:=by simp at hi;omega
  subst this;rw[List.getElem_append_right (by omega),List.getElem_append_right (by omega)];simp only[Abd,t,List.getElem_cons_zero];exact key _ _ u n
theorem Xw(s:ByteArray)(w:World)(hs:s.size<=6000):
  Calls prog 138 #[.string s] w fun e w'=> ∃v vs,e= .returned v/\Dm w' w.heap.size v (Ai s.data.toList 256) vs/\Aee w w':=by
 obtain⟨i0,hi,R,S,T⟩:=Aa6 Px;have ab:s.data.toList.length=s.size:=by simp
 have H:=vY;have G:E4 (w.alloc (.cells Tryz.zeroCells94 94)) 94 w.heap.size (weights (s.data.toList.take 0)):=by
  unfold E4;rw[zY,H,Aed,Xv]
 have z:Hid (E4 (w.alloc (.cells Tryz.zeroCells94 94)) 94 w.heap.size (weights (s.data.toList.take 0))):=G;clear G H
 go_enter func138,ntmps138
 go_wp2_with fail
 go_loopw[10] (fun i wr=> ∃k:Nat,k<=s.size/\i= .int .i64 k/\E4 wr 94 w.heap.size (weights (s.data.toList.take k))/\Aee w wr) (fun i _=>s.size-(intOf i).toNat)
 case atStart=>exact⟨0,zZ _,rfl,z.o,(Aa.refl _ _).alloc _⟩
 case round=>
  clear z;obtain⟨k,hk,rfl,x,c⟩:=hrel
  by_cases aa:k<s.size
  ·have Q:=Gu (s.data.toList.take k);obtain⟨m,A⟩: ∃m:Nat,s[k].toNat=m:=⟨_,rfl⟩;have Z:m<256:=by rw[<-A];exact UInt8.toNat_lt _
   have hd:=x.cell (i:=m) (by omega);have hf:=x.free m;rw[Ol]at hd;have P:=jI (s.data.toList.take k) m;rw[zS]at P;have HS:=x.set m (cnt (s.data.toList.take k) m+1);have p:s.data.toList[k].toNat=m:=by rw[<-A];simp[ByteArray.getElem_eq_getElem_data]
   have K:=Vd s.data.toList k (by omega);rw[p]at K;rw[<-K]at HS;have Y:Hid (E4 _ 94 w.heap.size (weights (s.data.toList.take (k+1)))):=HS;generalize cnt (s.data.toList.take k) m=q at*;clear HS x Q K p;go_wp2;go_roundw
   case rel=>exact⟨k+1,by omega,by go_num,Y.o,c.setCell (.inl (zK _)) _⟩
   case measure=>simp[intOf];omega
  ·obtain rfl:k=s.size:=by omega
   rw[Aap (by omega)]at x;have g:=x;unfold E4 at g;have n: ∀b,(h:b<256)-> ∀W,(Instr.index 94 (.agg (Ad (weights s.data.toList)).toArray) (.int .i64 (b:Nat))).run prog W= .ok (.int .i64 ((cnt s.data.toList b:Nat):Nat)) W:=by
    intro b hb W;rw[Pd 94 256 underlying94 _ b (by rw[Gu];exact hb) (Gu _) W,Ol]
   have f:(Ad (weights s.data.toList)).toArray.size=256:=by
    rw[Aaa,Ad,Aai,Gu]
   generalize(Ad (weights s.data.toList)).toArray=arr at g n f;clear x
   go_wp2_with(refine Aa0 rfl 94 _ rfl w.heap.size rfl 94 arr (0,0) _ g underlying94 rfl (by rw[f];kernel_rfl) ?_)
   go_loopw[5,22] (fun u i wr=> ∃(b:Nat) (vs:Aei),b<=256/\i= .int .i64 b/\Dm wr w.heap.size u (Ai s.data.toList b) vs/\Aee w wr) (fun _ i _=>256-(intOf i).toNat)
   case atStart=>exact⟨0,[],by omega,rfl,⟨rfl,Aco _ _ _ _,fun i h=>by simp[Ai]at h⟩,c⟩
   case round=>
    clear c g;obtain⟨b,vs,hb,rfl,l,c⟩:=hrel
    by_cases r:b<256
    ·have D:=n b r;have C:decide ((b:Int)<256)=true:=by simp;omega
     have a:=Ve s.data.toList b;have B:=jI s.data.toList b;have y:=Sk s.data.toList b;generalize cnt s.data.toList b=q at D a B;clear n f
     by_cases X:0<q
     ·rw[if_pos X]at a;have V:decide (0<q)=true:=by simp;omega
      have d:Hid (Ai s.data.toList (b+1)=Ai s.data.toList b++[(q,UInt8.ofNat b,[UInt8.ofNat b])]):=a;clear a;generalize Ai s.data.toList b=gs at l d y
      go_wp2_with(at_builtin;refine Ay _ rfl (.tmp 28) (.tmp 36) 213 rfl w.heap.size 216 i0 _ 3 40 underlying213 hi R S T rfl (by decide) _ gs.length (Dc gs vs) rfl ?c0 ⟨wr.heap.size+1,0,none⟩ 1 1 [.int .i64 (q:Nat),.int .u8 (b:Nat),.slice (some ⟨wr.heap.size,0,none⟩) 1 1] rfl rfl ?c1 ?c2 ?c3 ?c4 ?c5 ?_)
      case c0=>exact(((Aa.refl (fun _=>False) wr).alloc _).alloc _).owns l.own (fun _ _=>id)
      case c1=>
       intro j u M;rw[Addr.add_lit,Aao,zP _ _ j _ _ _ (Ab3 wr _ _)];simpa using M
      case c2=>first|exact⟨rfl,rfl,rfl⟩|(intro u l;simp at l;rcases l with rfl|rfl|rfl<;>rfl)
      case c3=>unfold maxLen;omega
      case c5=>have:=c.size;simp;omega
      case c4=>omega
      intro v' w2 F t E;have L:w.heap.size<=wr.heap.size:=c.size;have U:Dm w2 w.heap.size v' (gs++[(q,UInt8.ofNat b,[UInt8.ofNat b])]) (vs++[.slice (some ⟨wr.heap.size,0,none⟩) 1 1]):=by
       refine l.append (((Aa.refl (fun _=>False) wr).alloc _).alloc _) L ⟨wr.heap.size,1,rfl,zK _,by decide,?_,fun i hi=>?_⟩ (fun k N e=>?_) ?_ t E
       ·simp;omega
       ·obtain rfl:i=0:=by simp at hi;exact hi
        rw[zP _ _ 0 _ _ _ (Ab2 wr _ _)];simp;omega
       ·cases N;exact Nat.lt_irrefl _ (l.own.lt _ e).2
       ·simp only[Dc,Aax,Aby r];exact F
      rw[<-d.o]at U;have O:Aee w w2:=((c.alloc _).alloc _).grown t (fun j M=> .inl (l.own.lt _ M).1);clear t E F l d;go_wp2;go_roundw
      case rel=>exact⟨b+1,_,by omega,by go_num,U,O⟩
      case measure=>simp[intOf];omega
     ·rw[if_neg X,Abe]at a;obtain rfl:q=0:=by omega
      have d:Hid (Ai s.data.toList (b+1)=Ai s.data.toList b):=a;clear a;go_wp2;go_roundw
      case rel=>
       refine⟨b+1,vs,by omega,by go_num,?_,c⟩;rw[d.o];exact l
      case measure=>simp[intOf];omega
    ·have C:decide ((b:Int)<256)=false:=by simp;omega
     obtain rfl:b=256:=by omega
     clear n f;go_wp2;go_ret;exact⟨_,vs,rfl,l,c⟩
namespace Hm
def Oz(a:Array Value):Nat->Aei->Array Value
 |_,[]=>a
 |o,v::r=>Oz (a.setIfInBounds o v) (o+1) r
theorem Pf: ∀(vs:Aei) (a:Array Value) (o:Nat),o+vs.length<=a.size->(Oz a o vs).toList=a.toList.take o++vs++a.toList.drop (o+vs.length)
 |[],a,o,_=>by simp[Oz]
 |v::r,a,o,h=>by
  simp only[Aau]at h;rw[Oz,Pf r _ (o+1) (by simp;omega),Array.toList_setIfInBounds];have d:o<a.toList.length:=by simp;omega
  have b:(a.toList.set o v).take (o+1)=a.toList.take o++[v]:=by
   rw[List.take_set,zQ d,Aba _ _ (by simp;omega)];have e:min o a.size=o:=Ab8 (by omega);simp[e]
  have c:(a.toList.set o v).drop (o+1+r.length)=a.toList.drop (o+(v::r).length):=by
   rw[List.drop_set_of_lt (by omega)];congr 1;simp;omega
  rw[b,c];simp
theorem Z1: ∀(gs:List Grp) (vs:Aei),(∀k,(h:k<vs.length)->vs[k].oneCell'=true)-> ∀u∈Dc gs vs,u.oneCell'=true
 |[],_,_,u,a=>by simp[Dc]at a
 |g::gs,[],_,u,a=>by simp[Dc]at a
 |g::gs,v::vs,h,u,a=>by
  simp only[Dc,List.mem_cons]at a;rcases a with rfl|rfl|rfl|a
  ·rfl
  ·rfl
  ·exact h 0 (by simp)
  ·exact Z1 gs vs (fun k hk=>h (k+1) (by simpa using hk)) u a
theorem Kq: ∀(vs:Aei) (a:Array Value) (o:Nat),(Oz a o vs).size=a.size
 |[],_,_=>rfl
 |v::r,a,o=>by rw[Oz,Kq r];simp
theorem Vf: ∀(gs:List Grp) (vs:Aei) (i:Nat),vs.length=gs.length->i<gs.length->Dc (gs.eraseIdx i) (vs.eraseIdx i)=(Dc gs vs).take (i*3)++(Dc gs vs).drop ((i+1)*3)
 |g::gs,v::vs,0,_,_=>by simp[Dc]
 |g::gs,v::vs,i+1,h,hi=>by
  have:=Vf gs vs i (by simpa using h) (by simpa using hi);simp only[List.eraseIdx_cons_succ,Dc,show(i+1)*3=i*3+1+1+1 from by omega,show(i+1+1)*3=(i+1)*3+1+1+1 from by omega,Adw,List.drop_succ_cons,this,Adf]
 |[],_,_,_,hi=>by simp at hi
 |g::gs,[],_,h,_=>by simp at h
end Hm
theorem Pg(g:Nat)(e:TypeId): ∀(vs:Aei) (a:Array Value) (o:Nat) (w:World),w.heap[g]?=some (.cells a e (0,0))->(w.setCells g o vs).heap[g]?=some (.cells (Oz a o vs) e (0,0))
 |[],_,_,_,h=>h
 |v::r,a,o,w,h=>Pg g e r _ (o+1) _ (zI w g o a e v h)
theorem Aa.setCells{S:Nat->Prop}{g:Nat}{a:World}(c:a.heap.size<=g\/S g): ∀(vs:Aei) (o:Nat) {b:World},Aa S a b->Aa S a (b.setCells g o vs)
 |[],_,_,h=>h
 |v::r,o,_,h=>Aa.setCells c r (o+1) (h.setCell (p:=⟨g,o,none⟩) c v)
theorem Z2(w:World)(n:TypeId)(b o c:Nat)(a:Array Value)(e:TypeId)(h:w.heap[b]?=some (.cells a e (0,0)))(hs:o+3<=a.size):
  (Builtin.clear_ #[213] n #[.slice (some ⟨b,o,none⟩) 1 c]).run prog w= .ok (.tuple #[]) (w.setCells b o [.int .i64 0,.int .u8 0,.slice none 0 0]):=by
 obtain⟨p,hi,k,l,m⟩:=Aa6 Px;have f: ∀w,(zeroValue 216).run prog w= .ok (.agg #[I 0,.int .u8 0,.slice none 0 0]) w:=fun w=>by
  unfold zeroValue;kernel_rfl
 have d:=run_storeCells_cells (P:=prog) b o [I 0,.int .u8 0,.slice none 0 0] 0 w (fun j i=>by
   simp only[Aau,List.length_nil]at i;rw[Ac2,zP _ _ (o+j) _ _ _ h,Ab6 (by omega)];rfl) (fun j i=>zR _ _ _ _ _ h) (by intro v f;simp at f;rcases f with rfl|rfl|rfl<;>rfl)
 simp only[Ac2]at d;have g:(Builtin.zeroCells (Value.agg #[I 0,.int .u8 0,.slice none 0 0]).cells 1).toList=[I 0,.int .u8 0,.slice none 0 0]:=by kernel_rfl
 simp[Builtin.clear_,run_underlying underlying213,f,g,d]
theorem qB(base:Nat)(v:Value)(gs:List Grp)(vs:Aei)(i j:Nat)(w:World)(h:Dm w base v gs vs)(hl:gs.length<=256)(hi:i<gs.length)(Q:j=i+1):
  Calls prog 179 #[v,.int .i64 i,.int .i64 j] w fun e w'=> ∃v',e= .returned v'/\Dm w' base v' (gs.eraseIdx i) (vs.eraseIdx i)/\v'.ownBlock=v.ownBlock/\Aa (fun k=>v.ownBlock=some k) w w':=by
 obtain⟨i0,P,ai,T,aj⟩:=Aa6 Px;rcases h.own.2 with⟨_,V⟩|⟨g,cap,cur,rfl,hb,G,ag,z,F,c⟩
 ·omega
 have D:=Pe gs vs h.len;have af:i<j:=by omega
 have ad:j<=gs.length:=by omega
 have hm:cap<=9223372036854775807:=by unfold maxLen at z;omega
 obtain⟨a,b⟩:=gx ((Dc gs vs).drop (j*3));have f:a.length=(gs.length-j)*3:=by rw[b,Aas,D];omega
 have d: ∀k u,(Dc gs vs)[k]?=some u->w.drew.cell? (J g k)=some u:=by
  intro k u l;have hk:k<gs.length*3:=by have:=(List.getElem?_eq_some_iff.1 l).1;omega
  show w.cell? _=_;rw[zP _ _ k _ _ _ G,<-l,<-c,Ab9 hk,Array.getElem?_toList]
 have s: ∀u∈Dc gs vs,u.oneCell'=true:=Z1 gs vs (fun k hk=>by
  obtain⟨⟨gg,cc,e,_⟩,_⟩:=h.mem k (by have:=h.len;omega) hk;rw[e];rfl)
 obtain⟨A,hA,x⟩: ∃A:Addr,(if cap=j then some ((J g 0):Addr)else some (J g (j*3)))=some A/\Hid (∀t u,a[t]?=some u->w.drew.cell? (A.add t)=some u):=by
  by_cases E:cap=j
  ·refine⟨(J g 0),by simp[E],fun t u l=>?_⟩;have V:a.length=0:=by rw[f];omega
   rw[List.length_eq_zero_iff.1 V]at l;simp at l
  ·refine⟨(J g (j*3)),by simp[E],fun t u l=>?_⟩;rw[b,Adq]at l;rw[Addr.add_lit];exact d _ _ l
 have s1:=hZ f;have s2:Hid (∀u∈a,u.oneCell'=true):=fun u l=>s u (by rw[b]at l;exact List.mem_of_mem_drop l);have s3:Hid (∀t,t<a.length->(w.drew.cell? (J g (0+i*3+t))).isSome=true/\w.drew.frozen? (J g (0+i*3+t))=false):=by
  intro t ht;refine⟨?_,zR w _ _ _ _ G⟩;show(w.cell? _).isSome=true;rw[zP _ _ (0+i*3+t) _ _ _ G,Ab6 (by omega)];rfl
 obtain⟨C,p⟩:=gx (w.drew.setCells g (0+i*3) a);have B:C.heap[g]?=some (.cells (Oz cur (0+i*3) a) 216 (0,0)):=by rw[p];exact Pg g _ a cur _ _ G
 have N:=fun ty=>Z2 C ty g ((i+(gs.length-j))*3) (cap-(i+(gs.length-j))) _ _ B (by rw[Kq];omega);have Y:=hZ p;have HX:=hZ Q;have y:Calls prog 179 #[S0 g gs.length cap,I i,I j] w fun e w'=>e= .returned (S0 g (i+(gs.length-j)) cap)/\w'=C.setCells g ((i+(gs.length-j))*3) [I 0,.int .u8 0,.slice none 0 0]:=by
  have R:gs.length-(i+(gs.length-j))=1:=by omega
  generalize gs.length=n at*;have U:prog.follows Departure.mixedOrders=true:=by kernel_rfl
  have ab:i<=cap:=by omega
  have ac:j<=cap:=by omega
  clear z Q h G F c D B p b f d s
  go_enter func179,ntmps179
  go_wp2_with fail
  go_region_law_o (refine step_append_room rfl (.tmp 22) (.tmp 25) 213 rfl 216 i0 3 underlying213 P T g 0 i cap (by simp[Act.eval,Act.put]) A (n-j) (cap-j) a (by simp[Act.eval,Act.put]) s1.o x.o s2.o (by omega) s3.o ?_;rw[<-Y.o])
  go_wp2;go_ret;exact⟨rfl,rfl⟩
 clear hA x s1 s2 s3 N Y;refine y.mono ?_;rintro e w' ⟨rfl,rfl⟩;have H:Aa (fun k=>k=g) w (C.setCells g ((i+(gs.length-j))*3) [I 0,.int .u8 0,.slice none 0 0]):=by
  rw[p];have X:w.heap.size<=g\/(fun k=>k=g) g:= .inr rfl;exact Aa.setCells (S:=fun k=>k=g) X _ _ (Aa.setCells (S:=fun k=>k=g) X _ _ (Aa.refl _ w).drew)
 have O:=Pg g 216 [I 0,.int .u8 0,.slice none 0 0] _ ((i+(gs.length-j))*3) _ B;have r:(gs.eraseIdx i).length=i+(gs.length-j):=by rw[List.length_eraseIdx_of_lt hi];omega
 have K:(vs.eraseIdx i).length=i+(gs.length-j):=by have:=h.len;rw[List.length_eraseIdx_of_lt (by omega)];omega
 refine⟨_,rfl,⟨by rw[r,K],⟨?_,.inr ⟨g,cap,_,by rw[r],hb,O,by omega,z,by rw[Kq,Kq,F],?_⟩⟩,?_⟩,rfl,H.wider (fun k _ e=>by rw[e];rfl)⟩
 ·rw[Pe _ _ (by rw[r,K])]
 ·rw[r,Pf _ _ _ (by rw[Kq];simp;omega),Aaj,List.take_append_of_le_length (by simp[Kq];omega),List.take_take,Nat.min_self,Pf _ _ _ (by omega)];rw[List.take_append_of_le_length (by simp;omega),Vf _ _ _ h.len hi,<-Q,<-b,<-c,List.take_take,Aap (by simp;omega)];congr 2<;>omega
 ·intro k Z ae;have key: ∀m,(L:m<gs.length)->(M:m<vs.length)->Gn (C.setCells g ((i+(gs.length-j))*3) [I 0,.int .u8 0,.slice none 0 0]) vs[m] gs[m].2.2/\ ∀k,vs[m].ownBlock=some k->(some g:Option Nat)≠some k:=by
   intro m L M;obtain⟨h3,W⟩:=h.mem m L M;exact⟨h3.kept H (fun k hk e=>W k hk (by rw[e];rfl)),W⟩
  have ah:=h.len;rw[List.getElem_eraseIdx,List.getElem_eraseIdx]
  by_cases q:k<i
  ·rw[dif_pos q,dif_pos q];exact key k (by omega) (by omega)
  ·rw[dif_neg q,dif_neg q];exact key (k+1) (by omega) (by omega)
end
section
open Go.RowKit Go.Sort
namespace Hm
def N0(g h:Grp):Int:=orI (Lib.compareInt g.1 h.1) (Lib.compareInt g.2.1.toNat h.2.1.toNat)
end Hm
theorem Z3(x:Int)(w:World):Calls prog 217 #[.int .u8 x] w fun e w'=>e= .returned (.bool false)/\w'=w:=by
 go_enter func217,ntmps217
 go_wp2;go_ret;exact⟨rfl,rfl⟩
theorem jJ(x y:Int)(w:World):Calls prog 199 #[.int .u8 x,.int .u8 y] w fun e w'=>e= .returned (.int .i64 (Lib.compareInt x y))/\w'=w:=by
 have h1:=fun W=>Z3 x W;have h2:=fun W=>Z3 y W;rcases Int.lt_trichotomy x y with h|h|h
 ·have hd:decide (x<y)=true:=by simp;omega
  have a:Hid (Lib.compareInt x y= -1):=by show _=_;unfold Lib.compareInt;simp;omega
  go_enter func199,ntmps199
  go_wp2_with(first|(go_at_call_of 217 x;refine(h1 _).mono ?_;rintro e w' ⟨rfl,rfl⟩)|(go_at_call_of 217 y;refine(h2 _).mono ?_;rintro e w' ⟨rfl,rfl⟩))
  go_ret;exact⟨by rw[a.o];rfl,rfl⟩
 ·subst h;have hd:decide (x<x)=false:=by simp
  have a:Hid (Lib.compareInt x x=0):=by show _=_;unfold Lib.compareInt;simp
  go_enter func199,ntmps199
  go_wp2_with(first|(go_at_call_of 217 x;refine(h1 _).mono ?_;rintro e w' ⟨rfl,rfl⟩)|(go_at_call_of 217 y;refine(h2 _).mono ?_;rintro e w' ⟨rfl,rfl⟩))
  go_ret;exact⟨by rw[a.o];rfl,rfl⟩
 ·have hd:decide (x<y)=false:=by simp;omega
  have b:decide (y<x)=true:=by simp;omega
  have a:Hid (Lib.compareInt x y=1):=by show _=_;unfold Lib.compareInt;rw[iN,iP]
  go_enter func199,ntmps199
  go_wp2_with(first|(go_at_call_of 217 x;refine(h1 _).mono ?_;rintro e w' ⟨rfl,rfl⟩)|(go_at_call_of 217 y;refine(h2 _).mono ?_;rintro e w' ⟨rfl,rfl⟩))
  go_ret;exact⟨by rw[a.o];rfl,rfl⟩
theorem Xl(g h:Grp)(mv k:Value)(w:World):
  Calls prog 178 #[.agg #[.int .i64 g.1,.int .u8 g.2.1.toNat,mv],.agg #[.int .i64 h.1,.int .u8 h.2.1.toNat,k]] w fun e w'=>e= .returned (.int .i64 (N0 g h))/\Ii w w':=by
 have f:=fun W=>Tryz.cmp_Compare_int (g.1:Int) (h.1:Int) W;have i:=fun W=>jJ (g.2.1.toNat:Int) (h.2.1.toNat:Int) W;have j:Hid (N0 g h=orI (Lib.compareInt g.1 h.1) (Lib.compareInt g.2.1.toNat h.2.1.toNat)):=rfl;generalize Lib.compareInt (g.1:Int) (h.1:Int)=x at f j;generalize Lib.compareInt (g.2.1.toNat:Int) (h.2.1.toNat:Int)=y at i j;generalize g.1=a at*;generalize h.1=c at*;generalize g.2.1.toNat=b at*;generalize h.2.1.toNat=d at*;have l:=tI ((w.alloc (.cells #[I a,.int .u8 b,mv] 216)).alloc (.cells #[I c,.int .u8 d,k] 216)) x y;rw[show((w.alloc (.cells #[I a,.int .u8 b,mv] 216)).alloc (.cells #[I c,.int .u8 d,k] 216)).heap.size=w.heap.size+1+1 from by simp]at l
 go_enter func178,ntmps178
 go_wp2
 go_region_held(fun W=>W.cell? (J w.heap.size 0)=some (I a)/\W.cell? (J w.heap.size 1)=some (.int .u8 b)/\W.cell? (J (w.heap.size+1) 0)=some (I c)/\W.cell? (J (w.heap.size+1) 1)=some (.int .u8 d)) (go_keep)
  (first
  |(go_at_call_of 177 (a:Int);refine(f _).mono ?_;rintro e w' ⟨rfl,rfl⟩)
  |(go_at_call_of 199 (b:Int);refine(i _).mono ?_;rintro e w' ⟨rfl,rfl⟩)
  |(go_at_call 176;refine l.mono ?_;rintro e w' ⟨rfl,rfl⟩))
 go_wp2;go_ret;exact⟨by rw[j.o];rfl,(((((Ii.refl w).alloc _).alloc _).alloc _).drew)⟩
end
end Go.Proofs.YtegnkfdbmmndaaaGreat
