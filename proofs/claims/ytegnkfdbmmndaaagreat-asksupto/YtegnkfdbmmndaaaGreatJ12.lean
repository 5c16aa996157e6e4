import Derived.Test.YtegnkfdbmmndaaaGreatJ11

set_option maxHeartbeats 8000000
namespace Go.Proofs.YtegnkfdbmmndaaaGreat
open Hm Go.Proofs.Tryz Go.RowKit
namespace Hm
def Nj(cur:Array Value):Nat→Are→Array Value
 |_,[]=>cur
 |o,v::r=>Nj (cur.setIfInBounds o v) (o+1) r
theorem Ny: ∀(vs:Are) (cur:Array Value) (o:Nat),o+vs.length≤cur.size→(Nj cur o vs).toList=cur.toList.take o++vs++cur.toList.drop (o+vs.length)
 |[],cur,o,_=>by simp[Nj]
 |v::r,cur,o,h=>by
  simp only[An8]at h;rw[Nj,Ny r _ (o+1) (by simp;omega),Array.toList_setIfInBounds];have a:o<cur.toList.length:=by simp;omega
  have e1:(cur.toList.set o v).take (o+1)=cur.toList.take o++[v]:=by
   rw[List.take_set,Anh a,Aot _ _ (by simp;omega)];have b:min o cur.size=o:=Ap7 (by omega);simp[b]
  have e2:(cur.toList.set o v).drop (o+1+r.length)=cur.toList.drop (o+(v::r).length):=by
   rw[List.drop_set_of_lt (by omega)];congr 1;simp;omega
  rw[e1,e2];simp
theorem Ws: ∀(gs:List Grp) (vs:Are),(∀k,(h:k<vs.length)→vs[k].oneCell'=true)→ ∀u∈C6 gs vs,u.oneCell'=true
 |[],_,_,u,a=>by simp[C6]at a
 |g::gs,[],_,u,a=>by simp[C6]at a
 |g::gs,v::vs,h,u,a=>by
  simp only[C6,List.mem_cons]at a;rcases a with rfl|rfl|rfl|a
  ·rfl
  ·rfl
  ·exact h 0 (by simp)
  ·exact Ws gs vs (fun k hk=>h (k+1) (by simpa using hk)) u a
theorem Ju: ∀(vs:Are) (cur:Array Value) (o:Nat),(Nj cur o vs).size=cur.size
 |[],_,_=>rfl
 |v::r,cur,o=>by rw[Nj,Ju r];simp
theorem S9: ∀(gs:List Grp) (vs:Are) (i:Nat),vs.length=gs.length→i<gs.length→C6 (gs.eraseIdx i) (vs.eraseIdx i)=(C6 gs vs).take (i*3)++(C6 gs vs).drop ((i+1)*3)
 |g::gs,v::vs,0,_,_=>by simp[C6]
 |g::gs,v::vs,i+1,h,hi=>by
  have:=S9 gs vs i (by simpa using h) (by simpa using hi);simp only[List.eraseIdx_cons_succ,C6,show(i+1)*3=i*3+1+1+1 from by omega,show(i+1+1)*3=(i+1)*3+1+1+1 from by omega,Aqr,List.drop_succ_cons,this,Aqw]
 |[],_,_,_,hi=>by simp at hi
 |g::gs,[],_,h,_=>by simp at h
end Hm
theorem Nz(g:Nat)(e:TypeId): ∀(vs:Are) (cur:Array Value) (o:Nat) (w:World),w.heap[g]?=some (.cells cur e (0,0))→(w.setCells g o vs).heap[g]?=some (.cells (Nj cur o vs) e (0,0))
 |[],_,_,_,h=>h
 |v::r,cur,o,w,h=>Nz g e r _ (o+1) _ (Anb w g o cur e v h)
theorem Aa.setCells{S:Nat→Prop}{g:Nat}{a:World}(c:a.heap.size≤g∨S g): ∀(vs:Are) (o:Nat) {b:World},Aa S a b→Aa S a (b.setCells g o vs)
 |[],_,_,h=>h
 |v::r,o,_,h=>Aa.setCells c r (o+1) (h.setCell (p:=⟨g,o,none⟩) c v)
theorem Wt(w:World)(ty:TypeId)(b o c:Nat)(cur:Array Value)(e:TypeId)(g:w.heap[b]?=some (.cells cur e (0,0)))(hs:o+3≤cur.size):
  (Builtin.clear_ #[213] ty #[.slice (some ⟨b,o,none⟩) 1 c]).run prog w= .ok (.tuple #[]) (w.setCells b o [.int .i64 0,.int .u8 0,.slice none 0 0]):=by
 obtain⟨i0,hi,i,k,l⟩:=Aoo Oa;have d: ∀w,(zeroValue 216).run prog w= .ok (.agg #[.int .i64 0,.int .u8 0,.slice none 0 0]) w:=fun w=>by
  unfold zeroValue;kernel_rfl
 have a:=run_storeCells_cells (P:=prog) b o [.int .i64 0,.int .u8 0,.slice none 0 0] 0 w (fun j h=>by
   simp only[An8,List.length_nil]at h;rw[Ap3,Am7 _ _ (o+j) _ _ _ g,Apl (by omega)];rfl) (fun j h=>Ang _ _ _ _ _ g) (by intro v d;simp at d;rcases d with rfl|rfl|rfl<;>rfl)
 simp only[Ap3]at a;have f:(Builtin.zeroCells (Value.agg #[.int .i64 0,.int .u8 0,.slice none 0 0]).cells 1).toList=[.int .i64 0,.int .u8 0,.slice none 0 0]:=by kernel_rfl
 simp[Builtin.clear_,run_underlying underlying213,d,f,a]
set_option maxRecDepth 100000 in
theorem Ahf(base:Nat)(v:Value)(gs:List Hm.Grp)(vs:Are)(i j:Nat)(w:World)(h:Dc w base v gs vs)(hl:gs.length≤256)(hi:i<gs.length)(M:j=i+1):
  Calls prog 179 #[v,.int .i64 i,.int .i64 j] w fun e w'=> ∃v',e= .returned v'∧Dc w' base v' (gs.eraseIdx i) (vs.eraseIdx i)∧v'.ownBlock=v.ownBlock∧Aa (fun k=>v.ownBlock=some k) w w':=by
 obtain⟨i0,L,ad,O,ae⟩:=Aoo Oa;rcases h.own.2 with⟨_,P⟩|⟨g,cap,cur,rfl,hb,E,ab,y,D,b⟩
 ·omega
 have B:(C6 gs vs).length=gs.length*3:=Nx gs vs h.len;have aa:i<j:=by omega
 have Y:j≤gs.length:=by omega
 have hm:cap≤9223372036854775807:=by unfold maxLen at y;omega
 obtain⟨news,a⟩: ∃news,news=(C6 gs vs).drop (j*3):=⟨_,rfl⟩;have d:news.length=(gs.length-j)*3:=by rw[a,Aoi,B];omega
 have c: ∀k u,(C6 gs vs)[k]?=some u→w.drew.cell? ⟨g,k,none⟩=some u:=by
  intro k u f;have hk:k<gs.length*3:=by have:=(List.getElem?_eq_some_iff.1 f).1;omega
  show w.cell? _=_;rw[Am7 _ _ k _ _ _ E,←f,←b,Apg hk,Array.getElem?_toList]
 have r: ∀u∈C6 gs vs,u.oneCell'=true:=Ws gs vs (fun k hk=>by
  obtain⟨⟨gg,cc,e,_⟩,_⟩:=h.mem k (by have:=h.len;omega) hk;rw[e];rfl)
 obtain⟨A,hA,s⟩: ∃A:Addr,(if cap=j then some (⟨g,0,none⟩:Addr)else some ⟨g,j*3,none⟩)=some A∧Hid (∀t u,news[t]?=some u→w.drew.cell? (A.add t)=some u):=by
  by_cases C:cap=j
  ·refine⟨⟨g,0,none⟩,by simp[C],fun t u f=>?_⟩;have P:news.length=0:=by rw[d];omega
   rw[List.length_eq_zero_iff.1 P]at f;simp at f
  ·refine⟨⟨g,j*3,none⟩,by simp[C],fun t u f=>?_⟩;rw[a,Aqz]at f;rw[Addr.add_lit];exact c _ _ f
 have s1:Hid (news.length=(gs.length-j)*3):=d;have s2:Hid (∀u∈news,u.oneCell'=true):=fun u f=>r u (by rw[a]at f;exact List.mem_of_mem_drop f);have s3:Hid (∀t,t<news.length→(w.drew.cell? ⟨g,0+i*3+t,none⟩).isSome=true∧w.drew.frozen? ⟨g,0+i*3+t,none⟩=false):=by
  intro t ht;refine⟨?_,Ang w _ _ _ _ E⟩;show(w.cell? _).isSome=true;rw[Am7 _ _ (0+i*3+t) _ _ _ E,Apl (by omega)];rfl
 obtain⟨W1,l⟩: ∃W1,W1=w.drew.setCells g (0+i*3) news:=⟨_,rfl⟩;have z:W1.heap[g]?=some (.cells (Nj cur (0+i*3) news) 216 (0,0)):=by rw[l];exact Nz g _ news cur _ _ E
 have J:=fun ty=>Wt W1 ty g ((i+(gs.length-j))*3) (cap-(i+(gs.length-j))) _ _ z (by rw[Ju];omega);have T:Hid (W1=w.drew.setCells g (0+i*3) news):=l;have HX:Hid (j=i+1):=M;have x:Calls prog 179 #[.slice (some ⟨g,0,none⟩) gs.length cap,.int .i64 i,.int .i64 j] w fun e w'=>e= .returned (.slice (some ⟨g,0,none⟩) (i+(gs.length-j)) cap)∧w'=W1.setCells g ((i+(gs.length-j))*3) [.int .i64 0,.int .u8 0,.slice none 0 0]:=by
  have N:gs.length-(i+(gs.length-j))=1:=by omega
  generalize gs.length=n at*;have mixed:prog.follows Departure.mixedOrders=true:=by kernel_rfl
  have W:i≤cap:=by omega
  have X:j≤cap:=by omega
  clear y M h E D b B z l a d c r
  go_enter func179,ntmps179
  go_wp2_with fail
  go_region_law_o (refine step_append_room rfl (.tmp 22) (.tmp 25) 213 rfl 216 i0 3 underlying213 L O g 0 i cap (by simp[Act.eval,Act.put]) A (n-j) (cap-j) news (by simp[Act.eval,Act.put]) s1.o s.o s2.o (by omega) s3.o ?_;rw[←T.o])
  go_wp2;go_ret;exact⟨rfl,rfl⟩
 clear hA s s1 s2 s3 J T;refine x.mono ?_;rintro e w' ⟨rfl,rfl⟩;have F:Aa (fun k=>k=g) w (W1.setCells g ((i+(gs.length-j))*3) [.int .i64 0,.int .u8 0,.slice none 0 0]):=by
  rw[l];have R:w.heap.size≤g∨(fun k=>k=g) g:= .inr rfl;exact Aa.setCells (S:=fun k=>k=g) R _ _ (Aa.setCells (S:=fun k=>k=g) R _ _ (Aa.refl _ w).drew)
 have K:=Nz g 216 [.int .i64 0,.int .u8 0,.slice none 0 0] _ ((i+(gs.length-j))*3) _ z;have q:(gs.eraseIdx i).length=i+(gs.length-j):=by rw[List.length_eraseIdx_of_lt hi];omega
 have G:(vs.eraseIdx i).length=i+(gs.length-j):=by have:=h.len;rw[List.length_eraseIdx_of_lt (by omega)];omega
 refine⟨_,rfl,⟨by rw[q,G],⟨?_,.inr ⟨g,cap,_,by rw[q],hb,K,by omega,y,by rw[Ju,Ju,D],?_⟩⟩,?_⟩,rfl,F.wider (fun k _ e=>by rw[e];rfl)⟩
 ·rw[Nx _ _ (by rw[q,G])]
 ·rw[q,Ny _ _ _ (by rw[Ju];simp;omega),An4,List.take_append_of_le_length (by simp[Ju];omega),List.take_take,Nat.min_self,Ny _ _ _ (by omega)];rw[List.take_append_of_le_length (by simp;omega),S9 _ _ _ h.len hi,←M,←a,←b,List.take_take,An5 (by simp;omega)];congr 2<;>omega
 ·intro k U Z;have key: ∀m,(H:m<gs.length)→(I:m<vs.length)→Fq (W1.setCells g ((i+(gs.length-j))*3) [.int .i64 0,.int .u8 0,.slice none 0 0]) vs[m] gs[m].2.2∧ ∀k,vs[m].ownBlock=some k→(some g:Option Nat)≠some k:=by
   intro m H I;obtain⟨V,Q⟩:=h.mem m H I;exact⟨V.kept F (fun k hk e=>Q k hk (by rw[e];rfl)),Q⟩
  have ac:=h.len;rw[List.getElem_eraseIdx,List.getElem_eraseIdx]
  by_cases p:k<i
  ·rw[dif_pos p,dif_pos p];exact key k (by omega) (by omega)
  ·rw[dif_neg p,dif_neg p];exact key (k+1) (by omega) (by omega)
end Go.Proofs.YtegnkfdbmmndaaaGreat
namespace Go.Proofs.YtegnkfdbmmndaaaGreat
open Hm Go.Proofs.Tryz Go.RowKit Go.Sort
namespace Hm
def Mn(g h:Grp):Int:=orI (Lib.compareInt g.1 h.1) (Lib.compareInt g.2.1.toNat h.2.1.toNat)
end Hm
theorem Wu(x:Int)(w:World):Calls prog 217 #[.int .u8 x] w fun e w'=>e= .returned (.bool false)∧w'=w:=by
 go_enter func217,ntmps217
 go_wp2;go_ret;exact⟨rfl,rfl⟩
theorem Acn(x y:Int)(w:World):Calls prog 199 #[.int .u8 x,.int .u8 y] w fun e w'=>e= .returned (.int .i64 (Lib.compareInt x y))∧w'=w:=by
 have h1:=fun W=>Wu x W;have h2:=fun W=>Wu y W;rcases Int.lt_trichotomy x y with h|h|h
 ·have hd:decide (x<y)=true:=by simp;omega
  have a:Hid (Lib.compareInt x y= -1):=by show _=_;unfold Lib.compareInt;simp;omega
  go_enter func199,ntmps199
  go_wp2_with(first|(go_at_call_of 217 x;refine(h1 _).mono ?_;rintro e w' ⟨rfl,rfl⟩)|(go_at_call_of 217 y;refine(h2 _).mono ?_;rintro e w' ⟨rfl,rfl⟩))
  go_ret;exact⟨by rw[a.o];rfl,rfl⟩
 ·subst h;have hd:decide (x<x)=false:=by simp
  have a:Hid (Lib.compareInt x x=0):=by show _=_;unfold Lib.compareInt;simp
  go_enter func199,ntmps199
  go_wp2_with(first|(go_at_call_of 217 x;refine(h1 _).mono ?_;rintro e w' ⟨rfl,rfl⟩)|(go_at_call_of 217 y;refine(h2 _).mono ?_;rintro e w' ⟨rfl,rfl⟩))
  go_ret;exact⟨by rw[a.o];rfl,rfl⟩
 ·have hd:decide (x<y)=false:=by simp;omega
  have b:decide (y<x)=true:=by simp;omega
  have a:Hid (Lib.compareInt x y=1):=by show _=_;unfold Lib.compareInt;rw[if_neg (by omega),if_pos (by omega)]
  go_enter func199,ntmps199
  go_wp2_with(first|(go_at_call_of 217 x;refine(h1 _).mono ?_;rintro e w' ⟨rfl,rfl⟩)|(go_at_call_of 217 y;refine(h2 _).mono ?_;rintro e w' ⟨rfl,rfl⟩))
  go_ret;exact⟨by rw[a.o];rfl,rfl⟩
theorem Uo(g h:Hm.Grp)(mv nv:Value)(w:World):
  Calls prog 178 #[.agg #[.int .i64 (g.1:Nat),.int .u8 (g.2.1.toNat:Nat),mv],.agg #[.int .i64 (h.1:Nat),.int .u8 (h.2.1.toNat:Nat),nv]] w fun e w'=>e= .returned (.int .i64 (Mn g h))∧Hj w w':=by
 have f:=fun W=>Tryz.cmp_Compare_int (g.1:Int) (h.1:Int) W;have i:=fun W=>Acn (g.2.1.toNat:Int) (h.2.1.toNat:Int) W;have j:Hid (Mn g h=Hm.orI (Lib.compareInt g.1 h.1) (Lib.compareInt g.2.1.toNat h.2.1.toNat)):=rfl;generalize Lib.compareInt (g.1:Int) (h.1:Int)=x at f j;generalize Lib.compareInt (g.2.1.toNat:Int) (h.2.1.toNat:Int)=y at i j;generalize g.1=a at*;generalize h.1=c at*;generalize g.2.1.toNat=b at*;generalize h.2.1.toNat=d at*;have k:=Ajc ((w.alloc (.cells #[.int .i64 (a:Nat),.int .u8 (b:Nat),mv] 216)).alloc (.cells #[.int .i64 (c:Nat),.int .u8 (d:Nat),nv] 216)) x y;rw[show((w.alloc (.cells #[.int .i64 (a:Nat),.int .u8 (b:Nat),mv] 216)).alloc (.cells #[.int .i64 (c:Nat),.int .u8 (d:Nat),nv] 216)).heap.size=w.heap.size+1+1 from by simp]at k
 go_enter func178,ntmps178
 go_wp2
 go_region_held(fun W=>W.cell? ⟨w.heap.size,0,none⟩=some (.int .i64 (a:Nat))∧W.cell? ⟨w.heap.size,1,none⟩=some (.int .u8 (b:Nat))∧W.cell? ⟨w.heap.size+1,0,none⟩=some (.int .i64 (c:Nat))∧W.cell? ⟨w.heap.size+1,1,none⟩=some (.int .u8 (d:Nat))) (go_keep)
  (first
  |(go_at_call_of 177 (a:Int);refine(f _).mono ?_;rintro e w' ⟨rfl,rfl⟩)
  |(go_at_call_of 199 (b:Int);refine(i _).mono ?_;rintro e w' ⟨rfl,rfl⟩)
  |(go_at_call 176;refine k.mono ?_;rintro e w' ⟨rfl,rfl⟩))
 go_wp2;go_ret;exact⟨by rw[j.o];rfl,(((((Hj.refl w).alloc _).alloc _).alloc _).drew)⟩
theorem Hj.kept{w w':World}(h:Hj w w')(S:Nat→Prop):Aa S w w':=by
 obtain⟨q,os,rfl⟩:=h;exact⟨rfl,rfl,rfl,by unfold grow World.drewN;simp,fun k hk _=>by
  unfold grow World.drewN;simp only[];rw[Array.getElem?_append_left hk]⟩
namespace Hm
def Cn(gs:List Grp):Nat→Nat
 |0=>0
 |k+1=>if Mn (gs.getD k (0,0,[])) (gs.getD (Cn gs k) (0,0,[]))<0 then k else Cn gs k
def first(gs:List Grp):Nat:=Cn gs gs.length
theorem Wv(gs:List Grp)(h:0<gs.length)(k:Nat)(hk:k≤gs.length):Cn gs k<gs.length:=by
 induction k with
 |zero=>exact h
 |succ k ih=>
  rw[Cn];split
  ·omega
  ·exact ih (by omega)
theorem Gw(gs:List Grp)(h:0<gs.length):first gs<gs.length:=Wv gs h _ (Ane _)
end Hm
theorem Dc.cells{w:World}{base:Nat}{g n cap:Nat}{gs:List Hm.Grp}{vs:Are}(h:Dc w base (.slice (some ⟨g,0,none⟩) n cap) gs vs){i:Nat}(hi:i<gs.length)(h2:i<vs.length):
  w.cell? ⟨g,i*3,none⟩=some (.int .i64 (gs[i].1:Nat))∧w.cell? ⟨g,i*3+1,none⟩=some (.int .u8 (gs[i].2.1.toNat:Nat))∧w.cell? ⟨g,i*3+2,none⟩=some vs[i]:=by
 obtain⟨a,b,c⟩:=Wr gs vs i hi h2;have hn:n=gs.length:=by
  rcases h.own.2 with⟨e,_⟩|⟨_,_,_,e,_⟩
  ·cases e
  ·cases e;rfl
 subst hn;refine⟨?_,?_,?_⟩
 ·rw[h.own.cellAt _ (by omega),Aqh,a]
 ·rw[h.own.cellAt _ (by omega),Aqh,b]
 ·rw[h.own.cellAt _ (by omega),Aqh,c]
theorem Dc.cellsD{w:World}{base:Nat}{g n cap:Nat}{gs:List Hm.Grp}{vs:Are}(h:Dc w base (.slice (some ⟨g,0,none⟩) n cap) gs vs){i:Nat}(hi:i<gs.length):
  w.cell? ⟨g,i*3,none⟩=some (.int .i64 ((gs.getD i (0,0,[])).1:Nat))∧w.cell? ⟨g,i*3+1,none⟩=some (.int .u8 ((gs.getD i (0,0,[])).2.1.toNat:Nat))∧w.cell? ⟨g,i*3+2,none⟩=some (vs.getD i undef):=by
 have h2:i<vs.length:=by have:=h.len;omega
 rw[Am4,Am4,Am5 hi,Am5 h2];exact h.cells hi h2
theorem Dc.memD{w:World}{base:Nat}{v:Value}{gs:List Hm.Grp}{vs:Are}(h:Dc w base v gs vs){i:Nat}(hi:i<gs.length):
  Fq w (vs.getD i undef) (gs.getD i (0,0,[])).2.2∧ ∀k,(vs.getD i undef).ownBlock=some k→v.ownBlock≠some k:=by
 have h2:i<vs.length:=by have:=h.len;omega
 rw[Am4,Am4,Am5 hi,Am5 h2];exact h.mem i hi h2
theorem Rz(base pb:Nat)(v:Value)(gs:List Hm.Grp)(vs:Are)(w:World)(h:Dc w base v gs vs)(hp:w.heap[pb]?=some (.cells #[v] 213 (0,0)))(ab:v.ownBlock≠some pb)
  (aa: ∀m,(h:m<vs.length)→vs[m].ownBlock≠some pb) (hl:gs.length≤256) (h0:0<gs.length):
  Calls prog 139 #[.pointer (some ⟨pb,0,none⟩)] w fun e w'=> ∃v' gw gl gv,e= .returned (.agg #[.int .i64 (gw:Nat),.int .u8 (gl:Nat),gv])∧gw=(gs.getD (Hm.first gs) (0,0,[])).1∧gl=(gs.getD (Hm.first gs) (0,0,[])).2.1.toNat∧gv=vs.getD (Hm.first gs) undef∧
   w'.heap[pb]?=some (.cells #[v'] 213 (0,0))∧Dc w' base v' (gs.eraseIdx (Hm.first gs)) (vs.eraseIdx (Hm.first gs))∧v'.ownBlock=v.ownBlock∧Aa (fun k=>k=pb∨v.ownBlock=some k) w w':=by
 have J:=h.len;obtain⟨g,cap,hv,ar,t⟩:=Ck h.own (by omega);subst hv;have u:w.cell? ⟨pb,0,none⟩=some (.slice (some ⟨g,0,none⟩) gs.length cap):=Am7 _ _ 0 _ _ _ hp;have Q:pb<w.heap.size:=Anu hp;have F:g≠pb:=fun e=>ab (by rw[e];rfl);have A:Hid (Dc w base (.slice (some ⟨g,0,none⟩) gs.length cap) gs vs∧w.heap[pb]?=some (.cells #[.slice (some ⟨g,0,none⟩) gs.length cap] 213 (0,0))∧(∀m,(h:m<vs.length)→vs[m].ownBlock≠some pb)∧vs.length=gs.length∧g≠pb):=⟨h,hp,aa,J,F⟩;clear h hp ab aa J F
 go_enter func139,ntmps139
 go_wp2_with fail
 go_loopw[3,11] (fun f i wr=> ∃k:Nat,k≤gs.length∧i= .int .i64 k∧f= .int .i64 (Cn gs k:Nat)∧Ara (w.alloc (.cells #[.int .i64 0,.int .u8 0,.slice none 0 0] 216)) wr) (fun _ i _=>gs.length-(intOf i).toNat)
 case atStart=>exact⟨0,Ann _,rfl,rfl,Aa.refl _ _⟩
 case round=>
  clear u;obtain⟨k,hk,rfl,rfl,q⟩:=hrel;have j:Ara w wr:=((Aa.refl _ w).alloc _).trans q (fun _ _ h=>h);have s:=j.size;have u:wr.cell? ⟨pb,0,none⟩=some (.slice (some ⟨g,0,none⟩) gs.length cap):=(j.cell (p:=⟨pb,0,none⟩) Q id).trans (Am7 _ _ 0 _ _ _ A.o.2.1);have z:Dc wr base (.slice (some ⟨g,0,none⟩) gs.length cap) gs vs:=⟨A.o.2.2.2.1,j.owns A.o.1.own (fun _ _=>id),fun i h1 h2=>⟨(A.o.1.mem i h1 h2).1.kept j (fun _ _=>id),(A.o.1.mem i h1 h2).2⟩⟩;have B:=Wv gs h0 k hk
  by_cases O:k<gs.length
  ·have U:decide ((k:Int)<(gs.length:Int))=true:=by simp;omega
   obtain⟨a1,a2,a3⟩:=z.cellsD O;obtain⟨b1,b2,b3⟩:=z.cellsD B;have d:=fun W=>Uo (gs.getD k (0,0,[])) (gs.getD (Cn gs k) (0,0,[])) (vs.getD k undef) (vs.getD (Cn gs k) undef) W;have HF:Hid (Cn gs (k+1)=if Mn (gs.getD k (0,0,[])) (gs.getD (Cn gs k) (0,0,[]))<0 then k else Cn gs k):=rfl;obtain⟨mk,ck,ek,-⟩:=(z.memD O).1;obtain⟨mf,cf,ef,-⟩:=(z.memD B).1;rw[ek]at a3 d;rw[ef]at b3 d;clear ek ef;generalize Cn gs k=f at*;generalize gs.getD k (0,0,[])=gk at*;generalize gs.getD f (0,0,[])=gf at*;generalize gk.2.2.length=lk at*;generalize gf.2.2.length=lf at*;have af:(f:Int)<(gs.length:Int):=by omega
   have ao:(k:Int)<(gs.length:Int):=by omega
   clear z
   by_cases E:Mn gk gf<0
   ·have ae:decide (Mn gk gf<0)=true:=by simp;exact E
    rw[if_pos E]at HF;generalize Mn gk gf=r at*;go_wp2_with fail;have b:Ara wr (wr.alloc (.cells #[.int .i64 (gk.1:Nat),.int .u8 (gk.2.1.toNat:Nat),.slice (some ⟨mk,0,none⟩) lk ck] 216)):=(Aa.refl _ _).alloc _;have l:=Anj wr (.cells #[.int .i64 (gk.1:Nat),.int .u8 (gk.2.1.toNat:Nat),.slice (some ⟨mk,0,none⟩) lk ck] 216);have C:=q.alloc (.cells #[.int .i64 (gk.1:Nat),.int .u8 (gk.2.1.toNat:Nat),.slice (some ⟨mk,0,none⟩) lk ck] 216);generalize wr.alloc (.cells #[.int .i64 (gk.1:Nat),.int .u8 (gk.2.1.toNat:Nat),.slice (some ⟨mk,0,none⟩) lk ck] 216)=W1 at*;have p0:W1.cell? ⟨pb,0,none⟩=some (.slice (some ⟨g,0,none⟩) gs.length cap):=(b.cell (p:=⟨pb,0,none⟩) (Aom Q s) id).trans u;have p1:W1.cell? ⟨g,f*3,none⟩=_:=(b.cell (p:=⟨g,f*3,none⟩) (Aom t s) id).trans b1;have p2:W1.cell? ⟨g,f*3+1,none⟩=_:=(b.cell (p:=⟨g,f*3+1,none⟩) (Aom t s) id).trans b2;have p3:W1.cell? ⟨g,f*3+2,none⟩=_:=(b.cell (p:=⟨g,f*3+2,none⟩) (Aom t s) id).trans b3;have p4:W1.cell? ⟨wr.heap.size,0,none⟩=some (.int .i64 (gk.1:Nat)):=Am7 _ _ 0 _ _ _ l;have p5:W1.cell? ⟨wr.heap.size,1,none⟩=some (.int .u8 (gk.2.1.toNat:Nat)):=Am7 _ _ 1 _ _ _ l;have p6:W1.cell? ⟨wr.heap.size,2,none⟩=some (.slice (some ⟨mk,0,none⟩) lk ck):=Am7 _ _ 2 _ _ _ l;clear a1 a2 a3 b1 b2 b3 b l q j u
    go_region_held(fun W=>W.cell? ⟨pb,0,none⟩=some (.slice (some ⟨g,0,none⟩) gs.length cap)∧W.cell? ⟨g,f*3,none⟩=some (.int .i64 (gf.1:Nat))∧W.cell? ⟨g,f*3+1,none⟩=some (.int .u8 (gf.2.1.toNat:Nat))∧W.cell? ⟨g,f*3+2,none⟩=some (.slice (some ⟨mf,0,none⟩) lf cf)∧
      W.cell? ⟨wr.heap.size,0,none⟩=some (.int .i64 (gk.1:Nat))∧W.cell? ⟨wr.heap.size,1,none⟩=some (.int .u8 (gk.2.1.toNat:Nat))∧W.cell? ⟨wr.heap.size,2,none⟩=some (.slice (some ⟨mk,0,none⟩) lk ck)) (go_keep)
     (first
     |(go_at_call 178;refine(d _).mono ?_;rintro e w2 ⟨rfl,a⟩;have k0:=a.cell p0;have k1:=a.cell p1;have k2:=a.cell p2;have k3:=a.cell p3;have k4:=a.cell p4;have k5:=a.cell p5;have k6:=a.cell p6))
    have N:=C.drew.trans (a.kept (fun _=>False)) (fun _ _ h=>h);clear a d p0 p1 p2 p3 p4 p5 p6 C k0 k1 k2 k3 k4 k5 k6;go_wp2;go_roundw
    case rel=>exact⟨k+1,by omega,by go_num,by rw[HF.o],N⟩
    case measure=>simp[intOf];omega
   ·have ae:decide (Mn gk gf<0)=false:=by simp;omega
    rw[if_neg E]at HF;generalize Mn gk gf=r at*;go_wp2_with fail;have b:Ara wr (wr.alloc (.cells #[.int .i64 (gk.1:Nat),.int .u8 (gk.2.1.toNat:Nat),.slice (some ⟨mk,0,none⟩) lk ck] 216)):=(Aa.refl _ _).alloc _;have l:=Anj wr (.cells #[.int .i64 (gk.1:Nat),.int .u8 (gk.2.1.toNat:Nat),.slice (some ⟨mk,0,none⟩) lk ck] 216);have C:=q.alloc (.cells #[.int .i64 (gk.1:Nat),.int .u8 (gk.2.1.toNat:Nat),.slice (some ⟨mk,0,none⟩) lk ck] 216);generalize wr.alloc (.cells #[.int .i64 (gk.1:Nat),.int .u8 (gk.2.1.toNat:Nat),.slice (some ⟨mk,0,none⟩) lk ck] 216)=W1 at*;have p0:W1.cell? ⟨pb,0,none⟩=some (.slice (some ⟨g,0,none⟩) gs.length cap):=(b.cell (p:=⟨pb,0,none⟩) (Aom Q s) id).trans u;have p1:W1.cell? ⟨g,f*3,none⟩=_:=(b.cell (p:=⟨g,f*3,none⟩) (Aom t s) id).trans b1;have p2:W1.cell? ⟨g,f*3+1,none⟩=_:=(b.cell (p:=⟨g,f*3+1,none⟩) (Aom t s) id).trans b2;have p3:W1.cell? ⟨g,f*3+2,none⟩=_:=(b.cell (p:=⟨g,f*3+2,none⟩) (Aom t s) id).trans b3;have p4:W1.cell? ⟨wr.heap.size,0,none⟩=some (.int .i64 (gk.1:Nat)):=Am7 _ _ 0 _ _ _ l;have p5:W1.cell? ⟨wr.heap.size,1,none⟩=some (.int .u8 (gk.2.1.toNat:Nat)):=Am7 _ _ 1 _ _ _ l;have p6:W1.cell? ⟨wr.heap.size,2,none⟩=some (.slice (some ⟨mk,0,none⟩) lk ck):=Am7 _ _ 2 _ _ _ l;clear a1 a2 a3 b1 b2 b3 b l q j u
    go_region_held(fun W=>W.cell? ⟨pb,0,none⟩=some (.slice (some ⟨g,0,none⟩) gs.length cap)∧W.cell? ⟨g,f*3,none⟩=some (.int .i64 (gf.1:Nat))∧W.cell? ⟨g,f*3+1,none⟩=some (.int .u8 (gf.2.1.toNat:Nat))∧W.cell? ⟨g,f*3+2,none⟩=some (.slice (some ⟨mf,0,none⟩) lf cf)∧
      W.cell? ⟨wr.heap.size,0,none⟩=some (.int .i64 (gk.1:Nat))∧W.cell? ⟨wr.heap.size,1,none⟩=some (.int .u8 (gk.2.1.toNat:Nat))∧W.cell? ⟨wr.heap.size,2,none⟩=some (.slice (some ⟨mk,0,none⟩) lk ck)) (go_keep)
     (first
     |(go_at_call 178;refine(d _).mono ?_;rintro e w2 ⟨rfl,a⟩;have k0:=a.cell p0;have k1:=a.cell p1;have k2:=a.cell p2;have k3:=a.cell p3;have k4:=a.cell p4;have k5:=a.cell p5;have k6:=a.cell p6))
    have N:=C.drew.trans (a.kept (fun _=>False)) (fun _ _ h=>h);clear a d p0 p1 p2 p3 p4 p5 p6 C k0 k1 k2 k3 k4 k5 k6;go_wp2;go_roundw
    case rel=>exact⟨k+1,by omega,by go_num,by rw[HF.o],N⟩
    case measure=>simp[intOf];omega
  ·have X:k=gs.length:=by omega
   have U:decide ((gs.length:Int)<(gs.length:Int))=false:=by simp
   obtain⟨b1,b2,b3⟩:=z.cellsD B;obtain⟨mf,cf,ef,-⟩:=(z.memD B).1;rw[ef]at b3;have R:Hid (Cn gs k=Hm.first gs∧vs.getD (Cn gs k) undef= .slice (some ⟨mf,0,none⟩) (gs.getD (Cn gs k) (0,0,[])).2.2.length cf):=⟨by rw[X];rfl,ef⟩;have I:=fun W (hk:Ara wr W)=>Ahf base _ gs vs (Cn gs k) (Cn gs k+1) W ⟨z.len,hk.owns z.own (fun _ _=>id),fun i h1 h2=>⟨(z.mem i h1 h2).1.kept hk (fun _ _=>id),(z.mem i h1 h2).2⟩⟩ hl B rfl;have HD:Hid (∀W (_:Ara wr W),Calls prog 179 #[.slice (some ⟨g,0,none⟩) gs.length cap,.int .i64 (Cn gs k:Nat),.int .i64 (Cn gs k+1:Nat)] W fun e w'=> ∃v',e= .returned v'∧Dc w' base v' (gs.eraseIdx (Cn gs k)) (vs.eraseIdx (Cn gs k))∧v'.ownBlock=some g∧Aa (fun k=>(some g:Option Nat)=some k) W w'):=I;clear ef I z;generalize Cn gs k=f at*;generalize V:gs.getD f (0,0,[])=gf at*;generalize aq:gf.2.2.length=lf at*;have af:(f:Int)<(gs.length:Int):=by omega
   subst X;clear O hk;have au:pb<wr.heap.size:=by omega
   have av:w.heap.size<wr.heap.size:=by have:=q.size;simp at this;omega
   have L:wr.heap[w.heap.size]?=some (.cells #[.int .i64 0,.int .u8 0,.slice none 0 0] 216 (0,0)):=q.row (Anj w _) id;have S:Hid (wr.heap[w.heap.size]?=some (.cells #[.int .i64 0,.int .u8 0,.slice none 0 0] 216 (0,0))):=L;clear L;go_wp2_with fail;refine(HD.o _ ((Aa.refl _ _).alloc _)).mono ?_;rintro e w3 ⟨v3,rfl,n,P,D⟩;obtain⟨n3,cap3,ak⟩: ∃n3 cap3,v3= .slice (some ⟨g,0,none⟩) n3 cap3:=by
    rcases n.own.2 with⟨rfl,_⟩|⟨g3,cap3,cur3,rfl,_⟩
    ·cases P
    ·cases P;exact⟨_,_,rfl⟩
   subst ak;have F:=A.o.2.2.2.2;have y:w3.heap[pb]?=some (.cells #[.slice (some ⟨g,0,none⟩) gs.length cap] 213 (0,0)):=D.row ((((Aa.refl (fun _=>False) wr).alloc _).row (j.row A.o.2.1 id)) id) (fun e=>F (by cases e;rfl));have H:w3.heap[wr.heap.size]?=some (.cells #[.int .i64 (gf.1:Nat),.int .u8 (gf.2.1.toNat:Nat),.slice (some ⟨mf,0,none⟩) lf cf] 216 (0,0)):=D.row (Anj wr _) (fun e=>by cases e;omega);have c:w3.heap[w.heap.size]?=some (.cells #[.int .i64 0,.int .u8 0,.slice none 0 0] 216 (0,0)):=D.row ((((Aa.refl (fun _=>False) wr).alloc _).row S.o) id) (fun e=>by cases e;omega);have x:Aa (fun k=>(some g:Option Nat)=some k) w w3:=((j.alloc _).wider (T:=fun k=>(some g:Option Nat)=some k) (fun _ _ h=>h.elim)).trans D (fun _ _ h=>h);have c0:w3.cell? ⟨pb,0,none⟩=_:=Am7 _ _ 0 _ _ _ y;have f0:w3.frozen? ⟨pb,0,none⟩=false:=Ang _ _ 0 _ _ y;have t0:w3.cell? ⟨wr.heap.size,0,none⟩=some (.int .i64 (gf.1:Nat)):=Am7 _ _ 0 _ _ _ H;have t1:w3.cell? ⟨wr.heap.size,1,none⟩=some (.int .u8 (gf.2.1.toNat:Nat)):=Am7 _ _ 1 _ _ _ H;have t2:w3.cell? ⟨wr.heap.size,2,none⟩=some (.slice (some ⟨mf,0,none⟩) lf cf):=Am7 _ _ 2 _ _ _ H;have r0:w3.cell? ⟨w.heap.size,0,none⟩=some (.int .i64 0):=Am7 _ _ 0 _ _ _ c;have r1:w3.cell? ⟨w.heap.size,1,none⟩=some (.int .u8 0):=Am7 _ _ 1 _ _ _ c;have r2:w3.cell? ⟨w.heap.size,2,none⟩=some (.slice none 0 0):=Am7 _ _ 2 _ _ _ c;have q0:w3.frozen? ⟨w.heap.size,0,none⟩=false:=Ang _ _ 0 _ _ c;have q1:w3.frozen? ⟨w.heap.size,1,none⟩=false:=Ang _ _ 1 _ _ c;have q2:w3.frozen? ⟨w.heap.size,2,none⟩=false:=Ang _ _ 2 _ _ c;have n1:pb≠wr.heap.size:=by omega
   have n2:pb≠w.heap.size:=by omega
   have n3':wr.heap.size≠w.heap.size:=by omega
   have HX:Hid (w3.heap[pb]?=some (.cells #[.slice (some ⟨g,0,none⟩) gs.length cap] 213 (0,0))∧w3.heap[w.heap.size]?=some (.cells #[.int .i64 0,.int .u8 0,.slice none 0 0] 216 (0,0))∧Dc w3 base (.slice (some ⟨g,0,none⟩) n3 cap3) (gs.eraseIdx f) (vs.eraseIdx f)∧Aa (fun k=>(some g:Option Nat)=some k) w w3):=⟨y,c,n,x⟩;clear y H c n x D P HD j q u b1 b2 b3;go_wp2;obtain⟨y,c,n,x⟩:=HX.o;have ai:(w3.setCell ⟨pb,0,none⟩ (.slice (some ⟨g,0,none⟩) n3 cap3)).heap[w.heap.size]?=some (.cells #[.int .i64 0,.int .u8 0,.slice none 0 0] 216 (0,0)):=(Apm _ _ _ _ (fun e=>n2 e.symm)).trans c;have aj:=Anb _ _ 2 _ _ (.slice (some ⟨mf,0,none⟩) lf cf) (Anb _ _ 1 _ _ (.int .u8 (gf.2.1.toNat:Nat)) (Anb _ _ 0 _ _ (.int .i64 (gf.1:Nat)) ai));have ah:(w3.setCell ⟨pb,0,none⟩ (.slice (some ⟨g,0,none⟩) n3 cap3)).heap[pb]?=some (.cells #[.slice (some ⟨g,0,none⟩) n3 cap3] 213 (0,0)):=Anb _ _ 0 _ _ _ y;refine Aok (v:= .agg #[.int .i64 (gf.1:Nat),.int .u8 (gf.2.1.toNat:Nat),.slice (some ⟨mf,0,none⟩) lf cf]) (Ao0 results139 _ _ w.heap.size 216 _ (0,0) _ rfl aj underlying216 rfl (by kernel_rfl)) rfl ⟨.slice (some ⟨g,0,none⟩) n3 cap3,_,_,_,rfl,?_,?_,?_,?_,?_,rfl,?_⟩
   ·rw[←R.o.1,V]
   ·rw[←R.o.1,V]
   ·rw[←R.o.1,R.o.2]
   ·rw[Apm _ _ _ _ n2,Apm _ _ _ _ n2,Apm _ _ _ _ n2];exact ah
   ·rw[←R.o.1];have G:Aa (fun k=>k=pb∨w.heap.size=k) w3 ((((w3.setCell ⟨pb,0,none⟩ (.slice (some ⟨g,0,none⟩) n3 cap3)).setCell ⟨w.heap.size,0,none⟩ (.int .i64 (gf.1:Nat))).setCell ⟨w.heap.size,1,none⟩ (.int .u8 (gf.2.1.toNat:Nat))).setCell ⟨w.heap.size,2,none⟩ (.slice (some ⟨mf,0,none⟩) lf cf)):=
     ((((Aa.refl _ _).setCell (.inr (.inl rfl)) _).setCell (.inr (.inr rfl)) _).setCell (.inr (.inr rfl)) _).setCell (.inr (.inr rfl)) _
    refine⟨n.len,G.owns n.own (fun k hk e=>?_),fun i h1 h2=>⟨(n.mem i h1 h2).1.kept G (fun k hk e=>?_),(n.mem i h1 h2).2⟩⟩
    ·cases hk;rcases e with e|e
     ·exact A.o.2.2.2.2 e
     ·exact Nat.ne_of_gt t e
    ·have ax:=A.o.2.2.2.1;have K: ∀m,(hm:m<vs.length)→vs[m].ownBlock=some k→k<w.heap.size∧k≠pb:=by
      intro m hm M;refine⟨?_,fun e=>A.o.2.2.1 m hm (by rw[M,e])⟩;obtain⟨gg,cc,ee,_,_,Z,_⟩:=(A.o.1.mem m (by omega) hm).1;rw[ee]at M;cases M;exact Z
     rw[List.getElem_eraseIdx]at hk;have hb:k<w.heap.size∧k≠pb:=by
      by_cases Y:i<f
      ·rw[dif_pos Y]at hk;exact K _ _ hk
      ·rw[dif_neg Y]at hk;exact K _ _ hk
     rcases e with e|e
     ·exact hb.2 e
     ·omega
   ·have G:Aa (fun k=>k=pb∨(some g:Option Nat)=some k) w w3:=x.wider (fun _ _ h=> .inr h);exact(((G.setCell (.inr (.inl rfl)) _).setCell (.inl (Ane _)) _).setCell (.inl (Ane _)) _).setCell (.inl (Ane _)) _
end Go.Proofs.YtegnkfdbmmndaaaGreat
namespace Go.Proofs.YtegnkfdbmmndaaaGreat
open Hm Go.Proofs.Tryz Go.RowKit
theorem Aev(n:Nat)(w:World)(j:0<n)(hn:n≤1000):
  Calls prog 200 #[.slice none 0 0,.int .i64 n] w fun e w'=> ∃G,e= .returned (.slice (some ⟨w.heap.size,0,none⟩) 0 G)∧w'.ownsRow w.heap.size 5 1 (.slice (some ⟨w.heap.size,0,none⟩) 0 G) 0 []∧Ara w w':=by
 obtain⟨i0,hi,f,k,c⟩:=Aoo Fh;have h1: ¬((n:Int)<0):=by omega
 have l:(n:Int)>0:=by omega
 have b: ∀ty,(Builtin.append_ #[79,3] ty #[.slice none 0 0,.int .i64 n]).run prog w= .ok (.slice (some ⟨w.heap.size,0,none⟩) n (grownCap w n 0 5)) (w.drew.alloc (.cells (Builtin.zeroCells (Value.int .u8 0).cells n++Builtin.zeroCells (Value.int .u8 0).cells (grownCap w n 0 5-n)) 5)):=fun ty=>by
  have h:=Lib.run_append_grow_zeros w 79 3 ty 5 i0 (.int .u8 0) .i64 .i64 underlying79 underlying3 hi f none 0 0 [] (run_firstCells_none w.drew i0.size 0 0 0) n j (by omega) (by omega) (by omega) (by rw[c];omega)
   (by rw[An3];exact growslice_fits (by omega) (by rw[c];omega))
  simpa using h
 have d:n≤grownCap w n 0 5:=grownCap_ge w _ _ _;have a:grownCap w n 0 5≤maxLen:=grownCap_le_maxLen w n 0 5 (by unfold maxLen;omega);generalize grownCap w n 0 5=G at b d a;have g:G≤9223372036854775807:=by unfold maxLen at a;omega
 have i:Hid (G≤maxLen):=a;clear a
 go_enter func200,ntmps200
 go_wp2_with(at_builtin;refine Lib.wpList_append_run _ rfl _ _ _ _ rfl _ _ rfl rfl _ _ (b _) ?_)
 all_goals go_ret
 all_goals refine⟨G,rfl,⟨rfl,.inr ⟨w.heap.size,G,_,rfl,Ane _,Anj w.drew _,Ann _,i.o,?_,rfl⟩⟩,((Aa.refl _ w).drew).alloc _⟩
 all_goals(simp[Builtin.zeroCells];omega)
theorem U0(l:Arc): ∀u∈Ah l,u.oneCell'=true:=by
 intro u a;unfold Ah at a;obtain⟨x,_,rfl⟩:=List.mem_map.1 a;rfl
set_option maxRecDepth 100000 in
theorem Ahg(sb:Nat)(a b:Arc)(va vb:Value)(w:World)(U:w.cell? ⟨sb,0,none⟩=some va)(h1:w.cell? ⟨sb,1,none⟩=some vb)(g:sb<w.heap.size)(Y:Fq w va a)(hb:Fq w vb b)(ad:0<a.length)(hl:a.length+b.length≤600):
  Calls prog 180 #[.slice (some ⟨sb,0,none⟩) 2 2] w fun e w'=> ∃v,e= .returned v∧Fq w' v (a++b)∧(∀k,v.ownBlock=some k→w.heap.size≤k)∧Ara w w':=by
 obtain⟨i0,hi,F,H,I⟩:=Aoo Fh;obtain⟨ga,ca,ea,Z,r,N,n⟩:=Y;obtain⟨gb,cb,eb,aa,s,O,q⟩:=hb;subst ea;subst eb;have V:Hid (∀i,(h:i<a.length)→w.cell? ⟨ga,i,none⟩=some (.int .u8 (a[i].toNat:Nat))):=n;have X:Hid (∀i,(h:i<b.length)→w.cell? ⟨gb,i,none⟩=some (.int .u8 (b[i].toNat:Nat))):=q;clear n q r s;have y:=fun W=>Aev (a.length+b.length) W (by omega) (by omega);have ab: ¬((a.length:Int)<0):=by omega
 have ac: ¬((a.length:Int)+(b.length:Int)<0):=by omega
 go_enter func180,ntmps180
 go_wp2;refine wp_loop_rounds 3 ?_;rw[rounds_succ];go_wp2;rw[rounds_succ];go_wp2;rw[rounds_succ];go_wp2_with fail;have l:=y w;rw[show(((a.length+b.length:Nat):Nat):Int)=(a.length:Int)+(b.length:Int)from by omega]at l;refine l.mono ?_;rintro e w1 ⟨G,rfl,m,c⟩;clear y l;have T:=c.size;have s0:w1.cell? ⟨sb,0,none⟩=some (.slice (some ⟨ga,0,none⟩) a.length ca):=(c.cell (p:=⟨sb,0,none⟩) g id).trans U;have s1:w1.cell? ⟨sb,1,none⟩=some (.slice (some ⟨gb,0,none⟩) b.length cb):=(c.cell (p:=⟨sb,1,none⟩) g id).trans h1;clear U h1;go_wp2;have na:Hid (∀j u,(Ah a)[j]?=some u→w1.cell? (Addr.add ⟨ga,0,none⟩ j)=some u):=fun j u E=>by
  rw[Addr.add_lit,An3];have A:j<a.length:=by have:=(List.getElem?_eq_some_iff.1 E).1;simpa[Ah]using this
  rw[(c.cell (p:=⟨ga,j,none⟩) N id),V.o j A,←E];simp[Ah,A]
 refine wp_loop_rounds 3 ?_;rw[rounds_succ]
 go_wp2_with(at_builtin;refine Bg _ rfl (.tmp 31) (.tmp 32) 79 rfl w.heap.size 5 i0 (.int .u8 0) 1 1 underlying79 hi F H I rfl (by decide) _ 0 [] rfl m ⟨ga,0,none⟩ a.length ca (Ah a) rfl (by simp[Ah]) na.o (U0 a) (by unfold maxLen;omega) (by omega) T ?_;intro v2 w2 f t R)
 rw[An3,Aqs]at f;have d:Ara w w2:=c.grown t (fun k hk=> .inl (m.lt k hk).1);have D:=d.size;have K: ∀k,v2.ownBlock=some k→w.heap.size≤k:=fun k hk=>(f.lt k hk).1;have nb:Hid (∀j u,(Ah b)[j]?=some u→w2.cell? (Addr.add ⟨gb,0,none⟩ j)=some u):=fun j u E=>by
  rw[Addr.add_lit,An3];have A:j<b.length:=by have:=(List.getElem?_eq_some_iff.1 E).1;simpa[Ah]using this
  rw[(d.cell (p:=⟨gb,j,none⟩) O id),X.o j A,←E];simp[Ah,A]
 have s2:w2.cell? ⟨sb,1,none⟩=some (.slice (some ⟨gb,0,none⟩) b.length cb):=by
  have e1:=d.cell (p:=⟨sb,1,none⟩) g id;have e2:=c.cell (p:=⟨sb,1,none⟩) g id;rw[e1,←e2];exact s1
 clear s0 s1 t R m na;rw[rounds_succ]
 go_wp2_with(at_builtin;refine Bg _ rfl (.tmp 31) (.tmp 32) 79 rfl w.heap.size 5 i0 (.int .u8 0) 1 1 underlying79 hi F H I rfl (by decide) _ a.length (Ah a) rfl f ⟨gb,0,none⟩ b.length cb (Ah b) rfl (by simp[Ah]) nb.o (U0 b) (by unfold maxLen;omega) (by omega) D ?_;intro v3 w3 C x S)
 have Q:Ara w w3:=d.grown x (fun k hk=> .inl (K k hk));have J:Hid (w3.ownsRow w.heap.size 5 1 v3 (a.length+b.length) (Ah a++Ah b)):=C;clear s2 x S f nb C;rw[rounds_succ];go_wp2;go_ret;refine⟨v3,rfl,?_,fun k hk=>(J.o.lt k hk).1,Q⟩;obtain⟨g3,c3,ev,L,B⟩:=Ck J.o (by omega);subst ev;have M:c3≤maxLen:=by
  rcases J.o.2 with⟨e,_⟩|⟨_,_,_,e,_,_,_,h,_⟩
  ·cases e
  ·cases e;exact h
 refine⟨g3,c3,by rw[Anf],by rw[Anf];exact L,M,B,fun i z=>?_⟩;have P:=z;rw[Anf]at P;rw[J.o.cellAt i (by omega)];have:Ah a++Ah b=Ah (a++b):=by simp[Ah]
 rw[this];simp only[Ah,An2,Am5 z];rfl
namespace Hm
def Ez(g h:Grp):Grp:=(g.1+h.1,UInt8.ofNat (min g.2.1.toNat h.2.1.toNat),g.2.2++h.2.2)
end Hm
theorem Aar(w:World)(b:Nat)(x y z:Value)(p:Addr)(a:p.block≠b):(((w.setCell ⟨b,0,none⟩ x).setCell ⟨b,1,none⟩ y).setCell ⟨b,2,none⟩ z).cell? p=w.cell? p:=by
 rw[Apo _ _ _ _ (fun e=>a (by rw[←e])),Apo _ _ _ _ (fun e=>a (by rw[←e])),Apo _ _ _ _ (fun e=>a (by rw[←e]))]
theorem Ajf(g h:Hm.Grp)(mv nv:Value)(w:World)(r:Fq w mv g.2.2)(s:Fq w nv h.2.2)(x:0<g.2.2.length)(I:g.2.2.length+h.2.2.length≤600)(J:g.1+h.1≤1000000):
  Calls prog 140 #[.agg #[.int .i64 (g.1:Nat),.int .u8 (g.2.1.toNat:Nat),mv],.agg #[.int .i64 (h.1:Nat),.int .u8 (h.2.1.toNat:Nat),nv]] w fun e w'=> ∃v,e= .returned (.agg #[.int .i64 ((Ez g h).1:Nat),.int .u8 ((Ez g h).2.1.toNat:Nat),v])∧Fq w' v (Ez g h).2.2∧(∀k,v.ownBlock=some k→w.heap.size≤k)∧Ara w w':=by
 obtain⟨ga,ca,ea,-⟩:=id r;obtain⟨gb,cb,eb,-⟩:=id s;subst ea;subst eb;have B:Hid (Ez g h=(g.1+h.1,UInt8.ofNat (min g.2.1.toNat h.2.1.toNat),g.2.2++h.2.2)):=rfl;have G:g.2.1.toNat<256:=UInt8.toNat_lt _;have H:h.2.1.toNat<256:=UInt8.toNat_lt _;have C:(((w.alloc (.cells #[.int .i64 (g.1:Nat),.int .u8 (g.2.1.toNat:Nat),.slice (some ⟨ga,0,none⟩) g.2.2.length ca] 216)).alloc (.cells #[.int .i64 (h.1:Nat),.int .u8 (h.2.1.toNat:Nat),.slice (some ⟨gb,0,none⟩) h.2.2.length cb] 216)).alloc (.cells #[.int .i64 0,.int .u8 0,.slice none 0 0] 216)).heap.size=w.heap.size+1+1+1:=by simp
 have c:Ara w (((w.alloc (.cells #[.int .i64 (g.1:Nat),.int .u8 (g.2.1.toNat:Nat),.slice (some ⟨ga,0,none⟩) g.2.2.length ca] 216)).alloc (.cells #[.int .i64 (h.1:Nat),.int .u8 (h.2.1.toNat:Nat),.slice (some ⟨gb,0,none⟩) h.2.2.length cb] 216)).alloc (.cells #[.int .i64 0,.int .u8 0,.slice none 0 0] 216)):=(((Aa.refl _ w).alloc _).alloc _).alloc _;have r0:(((w.alloc (.cells #[.int .i64 (g.1:Nat),.int .u8 (g.2.1.toNat:Nat),.slice (some ⟨ga,0,none⟩) g.2.2.length ca] 216)).alloc (.cells #[.int .i64 (h.1:Nat),.int .u8 (h.2.1.toNat:Nat),.slice (some ⟨gb,0,none⟩) h.2.2.length cb] 216)).alloc (.cells #[.int .i64 0,.int .u8 0,.slice none 0 0] 216)).heap[w.heap.size]?=some (.cells #[.int .i64 (g.1:Nat),.int .u8 (g.2.1.toNat:Nat),.slice (some ⟨ga,0,none⟩) g.2.2.length ca] 216 (0,0)):=by
  rw[Below.heap_alloc _ _ _ (by simp;omega)];exact Apb w _ _
 have r1:(((w.alloc (.cells #[.int .i64 (g.1:Nat),.int .u8 (g.2.1.toNat:Nat),.slice (some ⟨ga,0,none⟩) g.2.2.length ca] 216)).alloc (.cells #[.int .i64 (h.1:Nat),.int .u8 (h.2.1.toNat:Nat),.slice (some ⟨gb,0,none⟩) h.2.2.length cb] 216)).alloc (.cells #[.int .i64 0,.int .u8 0,.slice none 0 0] 216)).heap[w.heap.size+1]?=some (.cells #[.int .i64 (h.1:Nat),.int .u8 (h.2.1.toNat:Nat),.slice (some ⟨gb,0,none⟩) h.2.2.length cb] 216 (0,0)):=by
  rw[Below.heap_alloc _ _ _ (by simp)];exact Apc w _ _
 have r2:(((w.alloc (.cells #[.int .i64 (g.1:Nat),.int .u8 (g.2.1.toNat:Nat),.slice (some ⟨ga,0,none⟩) g.2.2.length ca] 216)).alloc (.cells #[.int .i64 (h.1:Nat),.int .u8 (h.2.1.toNat:Nat),.slice (some ⟨gb,0,none⟩) h.2.2.length cb] 216)).alloc (.cells #[.int .i64 0,.int .u8 0,.slice none 0 0] 216)).heap[w.heap.size+1+1]?=some (.cells #[.int .i64 0,.int .u8 0,.slice none 0 0] 216 (0,0)):=by
  have e:=Anj ((w.alloc (.cells #[.int .i64 (g.1:Nat),.int .u8 (g.2.1.toNat:Nat),.slice (some ⟨ga,0,none⟩) g.2.2.length ca] 216)).alloc (.cells #[.int .i64 (h.1:Nat),.int .u8 (h.2.1.toNat:Nat),.slice (some ⟨gb,0,none⟩) h.2.2.length cb] 216)) (.cells #[.int .i64 0,.int .u8 0,.slice none 0 0] 216);simpa using e
 go_enter func140,ntmps140
 go_wp2_with fail;generalize((w.alloc (.cells #[.int .i64 (g.1:Nat),.int .u8 (g.2.1.toNat:Nat),.slice (some ⟨ga,0,none⟩) g.2.2.length ca] 216)).alloc (.cells #[.int .i64 (h.1:Nat),.int .u8 (h.2.1.toNat:Nat),.slice (some ⟨gb,0,none⟩) h.2.2.length cb] 216)).alloc (.cells #[.int .i64 0,.int .u8 0,.slice none 0 0] 216)=W3 at*;have f:=r.kept c (fun _ _=>id);have i:=s.kept c (fun _ _=>id);have a:Ara W3 (W3.alloc (.cells #[.slice (some ⟨ga,0,none⟩) g.2.2.length ca,.slice (some ⟨gb,0,none⟩) h.2.2.length cb] 79)).drew:=((Aa.refl _ _).alloc _).drew;have m:(W3.alloc (.cells #[.slice (some ⟨ga,0,none⟩) g.2.2.length ca,.slice (some ⟨gb,0,none⟩) h.2.2.length cb] 79)).drew.heap[W3.heap.size]?=some (.cells #[.slice (some ⟨ga,0,none⟩) g.2.2.length ca,.slice (some ⟨gb,0,none⟩) h.2.2.length cb] 79 (0,0)):=Anj W3 _;have l:=Ahg W3.heap.size _ _ _ _ _ (Am7 _ _ 0 _ _ _ m) (Am7 _ _ 1 _ _ _ m) (Anu m) (f.kept a (fun _ _=>id)) (i.kept a (fun _ _=>id)) x I;rw[C]at l;have p0:W3.cell? ⟨w.heap.size,0,none⟩=some (.int .i64 (g.1:Nat)):=Am7 _ _ 0 _ _ _ r0;have p1:W3.cell? ⟨w.heap.size,1,none⟩=some (.int .u8 (g.2.1.toNat:Nat)):=Am7 _ _ 1 _ _ _ r0;have p2:W3.cell? ⟨w.heap.size,2,none⟩=some (.slice (some ⟨ga,0,none⟩) g.2.2.length ca):=Am7 _ _ 2 _ _ _ r0;have p3:W3.cell? ⟨w.heap.size+1,0,none⟩=some (.int .i64 (h.1:Nat)):=Am7 _ _ 0 _ _ _ r1;have p4:W3.cell? ⟨w.heap.size+1,1,none⟩=some (.int .u8 (h.2.1.toNat:Nat)):=Am7 _ _ 1 _ _ _ r1;have p5:W3.cell? ⟨w.heap.size+1,2,none⟩=some (.slice (some ⟨gb,0,none⟩) h.2.2.length cb):=Am7 _ _ 2 _ _ _ r1;have D:Hid (Ara w W3∧W3.heap[w.heap.size+1+1]?=some (.cells #[.int .i64 0,.int .u8 0,.slice none 0 0] 216 (0,0))∧Ara W3 (W3.alloc (.cells #[.slice (some ⟨ga,0,none⟩) g.2.2.length ca,.slice (some ⟨gb,0,none⟩) h.2.2.length cb] 79)).drew):=⟨c,r2,a⟩;have c6:W3.cell? ⟨w.heap.size+1+1,0,none⟩=some (.int .i64 0):=Am7 _ _ 0 _ _ _ r2;have c7:W3.cell? ⟨w.heap.size+1+1,1,none⟩=some (.int .u8 0):=Am7 _ _ 1 _ _ _ r2;have c8:W3.cell? ⟨w.heap.size+1+1,2,none⟩=some (.slice none 0 0):=Am7 _ _ 2 _ _ _ r2;have f6:W3.frozen? ⟨w.heap.size+1+1,0,none⟩=false:=Ang _ _ 0 _ _ r2;have f7:W3.frozen? ⟨w.heap.size+1+1,1,none⟩=false:=Ang _ _ 1 _ _ r2;have f8:W3.frozen? ⟨w.heap.size+1+1,2,none⟩=false:=Ang _ _ 2 _ _ r2;have E:(W3.alloc (.cells #[.slice (some ⟨ga,0,none⟩) g.2.2.length ca,.slice (some ⟨gb,0,none⟩) h.2.2.length cb] 79)).drew.heap.size=w.heap.size+1+1+1+1:=by simp[C]
 have QQ:(W3.alloc (.cells #[.slice (some ⟨ga,0,none⟩) g.2.2.length ca,.slice (some ⟨gb,0,none⟩) h.2.2.length cb] 79)).drew.cell? ⟨w.heap.size,0,none⟩=some (.int .i64 (g.1:Nat))∧(W3.alloc (.cells #[.slice (some ⟨ga,0,none⟩) g.2.2.length ca,.slice (some ⟨gb,0,none⟩) h.2.2.length cb] 79)).drew.cell? ⟨w.heap.size,1,none⟩=some (.int .u8 (g.2.1.toNat:Nat))∧(W3.alloc (.cells #[.slice (some ⟨ga,0,none⟩) g.2.2.length ca,.slice (some ⟨gb,0,none⟩) h.2.2.length cb] 79)).drew.cell? ⟨w.heap.size,2,none⟩=some (.slice (some ⟨ga,0,none⟩) g.2.2.length ca)∧(W3.alloc (.cells #[.slice (some ⟨ga,0,none⟩) g.2.2.length ca,.slice (some ⟨gb,0,none⟩) h.2.2.length cb] 79)).drew.cell? ⟨w.heap.size+1,0,none⟩=some (.int .i64 (h.1:Nat))∧(W3.alloc (.cells #[.slice (some ⟨ga,0,none⟩) g.2.2.length ca,.slice (some ⟨gb,0,none⟩) h.2.2.length cb] 79)).drew.cell? ⟨w.heap.size+1,1,none⟩=some (.int .u8 (h.2.1.toNat:Nat))∧(W3.alloc (.cells #[.slice (some ⟨ga,0,none⟩) g.2.2.length ca,.slice (some ⟨gb,0,none⟩) h.2.2.length cb] 79)).drew.cell? ⟨w.heap.size+1,2,none⟩=some (.slice (some ⟨gb,0,none⟩) h.2.2.length cb):=⟨(a.cell (p:=⟨w.heap.size,0,none⟩) (show w.heap.size<_ by omega) id).trans p0,(a.cell (p:=⟨w.heap.size,1,none⟩) (show w.heap.size<_ by omega) id).trans p1,(a.cell (p:=⟨w.heap.size,2,none⟩) (show w.heap.size<_ by omega) id).trans p2,(a.cell (p:=⟨w.heap.size+1,0,none⟩) (show w.heap.size+1<_ by omega) id).trans p3,(a.cell (p:=⟨w.heap.size+1,1,none⟩) (show w.heap.size+1<_ by omega) id).trans p4,(a.cell (p:=⟨w.heap.size+1,2,none⟩) (show w.heap.size+1<_ by omega) id).trans p5⟩;have dc6:(W3.alloc (.cells #[.slice (some ⟨ga,0,none⟩) g.2.2.length ca,.slice (some ⟨gb,0,none⟩) h.2.2.length cb] 79)).drew.cell? ⟨w.heap.size+1+1,0,none⟩=some (.int .i64 0):=(a.cell (p:=⟨w.heap.size+1+1,0,none⟩) (show w.heap.size+1+1<_ by omega) id).trans c6;have ec6:(W3.alloc (.cells #[.slice (some ⟨ga,0,none⟩) g.2.2.length ca,.slice (some ⟨gb,0,none⟩) h.2.2.length cb] 79)).drew.frozen? ⟨w.heap.size+1+1,0,none⟩=false:=(a.frozen (p:=⟨w.heap.size+1+1,0,none⟩) (show w.heap.size+1+1<_ by omega) id).trans f6;have dc7:(W3.alloc (.cells #[.slice (some ⟨ga,0,none⟩) g.2.2.length ca,.slice (some ⟨gb,0,none⟩) h.2.2.length cb] 79)).drew.cell? ⟨w.heap.size+1+1,1,none⟩=some (.int .u8 0):=(a.cell (p:=⟨w.heap.size+1+1,1,none⟩) (show w.heap.size+1+1<_ by omega) id).trans c7;have ec7:(W3.alloc (.cells #[.slice (some ⟨ga,0,none⟩) g.2.2.length ca,.slice (some ⟨gb,0,none⟩) h.2.2.length cb] 79)).drew.frozen? ⟨w.heap.size+1+1,1,none⟩=false:=(a.frozen (p:=⟨w.heap.size+1+1,1,none⟩) (show w.heap.size+1+1<_ by omega) id).trans f7;have dc8:(W3.alloc (.cells #[.slice (some ⟨ga,0,none⟩) g.2.2.length ca,.slice (some ⟨gb,0,none⟩) h.2.2.length cb] 79)).drew.cell? ⟨w.heap.size+1+1,2,none⟩=some (.slice none 0 0):=(a.cell (p:=⟨w.heap.size+1+1,2,none⟩) (show w.heap.size+1+1<_ by omega) id).trans c8;have ec8:(W3.alloc (.cells #[.slice (some ⟨ga,0,none⟩) g.2.2.length ca,.slice (some ⟨gb,0,none⟩) h.2.2.length cb] 79)).drew.frozen? ⟨w.heap.size+1+1,2,none⟩=false:=(a.frozen (p:=⟨w.heap.size+1+1,2,none⟩) (show w.heap.size+1+1<_ by omega) id).trans f8;clear f i m r s c r0 r1 r2
 go_region_held(fun W=>W.cell? ⟨w.heap.size,0,none⟩=some (.int .i64 (g.1:Nat))∧W.cell? ⟨w.heap.size,1,none⟩=some (.int .u8 (g.2.1.toNat:Nat))∧W.cell? ⟨w.heap.size,2,none⟩=some (.slice (some ⟨ga,0,none⟩) g.2.2.length ca)∧W.cell? ⟨w.heap.size+1,0,none⟩=some (.int .i64 (h.1:Nat))∧W.cell? ⟨w.heap.size+1,1,none⟩=some (.int .u8 (h.2.1.toNat:Nat))∧W.cell? ⟨w.heap.size+1,2,none⟩=some (.slice (some ⟨gb,0,none⟩) h.2.2.length cb)) (first|exact QQ|assumption|(go_keep;done)|(refine⟨?_,?_,?_,?_,?_,?_⟩<;>(rw[Aar _ _ _ _ _ _ (by intro e;simp at e;try omega)];first|assumption|exact KK.1|exact KK.2.1|exact KK.2.2.1|exact KK.2.2.2.1|exact KK.2.2.2.2.1|exact KK.2.2.2.2.2)))
  (first
  |(go_at_call 180;refine l.mono ?_;rintro e w5 ⟨v,rfl,j,q,b⟩;have n:Hid (Fq w5 v (g.2.2++h.2.2)):=j;obtain⟨g5,c5,ev,-⟩:=j;subst ev;have KK:w5.cell? ⟨w.heap.size,0,none⟩=some (.int .i64 (g.1:Nat))∧w5.cell? ⟨w.heap.size,1,none⟩=some (.int .u8 (g.2.1.toNat:Nat))∧w5.cell? ⟨w.heap.size,2,none⟩=some (.slice (some ⟨ga,0,none⟩) g.2.2.length ca)∧w5.cell? ⟨w.heap.size+1,0,none⟩=some (.int .i64 (h.1:Nat))∧w5.cell? ⟨w.heap.size+1,1,none⟩=some (.int .u8 (h.2.1.toNat:Nat))∧w5.cell? ⟨w.heap.size+1,2,none⟩=some (.slice (some ⟨gb,0,none⟩) h.2.2.length cb):=⟨(b.cell (p:=⟨w.heap.size,0,none⟩) (show w.heap.size<_ by omega) id).trans QQ.1,(b.cell (p:=⟨w.heap.size,1,none⟩) (show w.heap.size<_ by omega) id).trans QQ.2.1,(b.cell (p:=⟨w.heap.size,2,none⟩) (show w.heap.size<_ by omega) id).trans QQ.2.2.1,(b.cell (p:=⟨w.heap.size+1,0,none⟩) (show w.heap.size+1<_ by omega) id).trans QQ.2.2.2.1,(b.cell (p:=⟨w.heap.size+1,1,none⟩) (show w.heap.size+1<_ by omega) id).trans QQ.2.2.2.2.1,(b.cell (p:=⟨w.heap.size+1,2,none⟩) (show w.heap.size+1<_ by omega) id).trans QQ.2.2.2.2.2⟩;have kc6:w5.cell? ⟨w.heap.size+1+1,0,none⟩=some (.int .i64 0):=(b.cell (p:=⟨w.heap.size+1+1,0,none⟩) (show w.heap.size+1+1<_ by omega) id).trans dc6;have lc6:w5.frozen? ⟨w.heap.size+1+1,0,none⟩=false:=(b.frozen (p:=⟨w.heap.size+1+1,0,none⟩) (show w.heap.size+1+1<_ by omega) id).trans ec6;have kc7:w5.cell? ⟨w.heap.size+1+1,1,none⟩=some (.int .u8 0):=(b.cell (p:=⟨w.heap.size+1+1,1,none⟩) (show w.heap.size+1+1<_ by omega) id).trans dc7;have lc7:w5.frozen? ⟨w.heap.size+1+1,1,none⟩=false:=(b.frozen (p:=⟨w.heap.size+1+1,1,none⟩) (show w.heap.size+1+1<_ by omega) id).trans ec7;have kc8:w5.cell? ⟨w.heap.size+1+1,2,none⟩=some (.slice none 0 0):=(b.cell (p:=⟨w.heap.size+1+1,2,none⟩) (show w.heap.size+1+1<_ by omega) id).trans dc8;have lc8:w5.frozen? ⟨w.heap.size+1+1,2,none⟩=false:=(b.frozen (p:=⟨w.heap.size+1+1,2,none⟩) (show w.heap.size+1+1<_ by omega) id).trans ec8))
 all_goals clear KK
 all_goals go_wp2
 all_goals(
  have A:IntKind.i64.wrap ((g.1:Int)+(h.1:Int))=((g.1+h.1:Nat):Int):=by rw[An9];omega
  have y:(min (g.2.1.toNat:Int) (h.2.1.toNat:Int))=((UInt8.ofNat (min g.2.1.toNat h.2.1.toNat)).toNat:Int):=by rw[Aoa];omega
  try rw[A]
  rw[y];obtain⟨c,r2,d⟩:=D.o;have F:w.heap.size+1+1+1+1≤g5:=by have:=q g5 rfl;omega
  have z:=Anb _ _ 2 _ _ (.slice (some ⟨g5,0,none⟩) (g.2.2.length+h.2.2.length) c5) (Anb _ _ 1 _ _ (.int .u8 ((UInt8.ofNat (min g.2.1.toNat h.2.1.toNat)).toNat:Nat)) (Anb _ _ 0 _ _ (.int .i64 ((g.1+h.1:Nat):Nat)) (b.row (d.row r2 id) id)));have t:=(c.trans d (fun _ _ h=>h)).trans b (fun _ _ h=>h);refine Aok (v:= .agg #[.int .i64 ((g.1+h.1:Nat):Nat),.int .u8 ((UInt8.ofNat (min g.2.1.toNat h.2.1.toNat)).toNat:Nat),.slice (some ⟨g5,0,none⟩) (g.2.2.length+h.2.2.length) c5]) (Ao0 results140 _ _ (w.heap.size+1+1) 216 _ (0,0) _ rfl z underlying216 rfl (by kernel_rfl)) rfl ⟨.slice (some ⟨g5,0,none⟩) (g.2.2.length+h.2.2.length) c5,?_,?_,?_,?_⟩
  ·rw[B.o]
  ·rw[B.o];have hM:=n.o;rw[Anf]at hM;have u:Aa (fun k=>k=w.heap.size+1+1) w5 _:=(((Aa.refl (fun k=>k=w.heap.size+1+1) w5).setCell (p:=⟨w.heap.size+1+1,0,none⟩) (.inr rfl) (.int .i64 ((g.1+h.1:Nat):Nat))).setCell (p:=⟨w.heap.size+1+1,1,none⟩) (.inr rfl) (.int .u8 ((UInt8.ofNat (min g.2.1.toNat h.2.1.toNat)).toNat:Nat))).setCell (p:=⟨w.heap.size+1+1,2,none⟩) (.inr rfl) (.slice (some ⟨g5,0,none⟩) (g.2.2.length+h.2.2.length) c5);exact hM.kept u (fun k hk e=>by cases hk;exact absurd (show g5=w.heap.size+1+1 from e) (by omega))
  ·intro k hk;cases hk;show w.heap.size≤g5;omega
  ·exact((t.setCell (.inl (show w.heap.size≤w.heap.size+1+1 by omega)) _).setCell (.inl (show w.heap.size≤w.heap.size+1+1 by omega)) _).setCell (.inl (show w.heap.size≤w.heap.size+1+1 by omega)) _)
end Go.Proofs.YtegnkfdbmmndaaaGreat
