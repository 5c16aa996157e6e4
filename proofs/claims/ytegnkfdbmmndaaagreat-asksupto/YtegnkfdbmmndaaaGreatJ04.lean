import Derived.Test.YtegnkfdbmmndaaaGreatRows
import Derived.Test.YtegnkfdbmmndaaaGreatJ03

set_option maxHeartbeats 8000000
namespace Go.Proofs.YtegnkfdbmmndaaaGreat
open Hm Go.Proofs.Tryz Go.RowKit
structure Aa(S:Nat→Prop)(w w':World):Prop where
 os:w'.os=w.os
 tape:w'.tape=w.tape
 output:w'.output=w.output
 size:w.heap.size≤w'.heap.size
 block: ∀k,k<w.heap.size→ ¬S k→w'.heap[k]?=w.heap[k]?
abbrev Ara:=Aa fun _=>False
theorem Aa.refl(S:Nat→Prop)(w:World):Aa S w w:=⟨rfl,rfl,rfl,Ane _,fun _ _ _=>rfl⟩
theorem Aa.trans{S T:Nat→Prop}{a b c:World}(h:Aa S a b)(k:Aa T b c)(e: ∀j,j<a.heap.size→T j→S j):Aa S a c:=
 ⟨k.os.trans h.os,k.tape.trans h.tape,k.output.trans h.output,Ant h.size k.size,fun j d hn=>(k.block j (Aom d h.size) (fun x=>hn (e j d x))).trans (h.block j d hn)⟩
theorem Aa.wider{S T:Nat→Prop}{a b:World}(h:Aa S a b)(d: ∀j,j<a.heap.size→S j→T j):Aa T a b:=
 ⟨h.os,h.tape,h.output,h.size,fun j c hn=>h.block j c (fun x=>hn (d j c x))⟩
theorem Aa.drew{S:Nat→Prop}{a b:World}(h:Aa S a b):Aa S a b.drew:=⟨h.os,h.tape,h.output,h.size,h.block⟩
theorem Aa.drewN{S:Nat→Prop}{a b:World}(h:Aa S a b)(n:Nat):Aa S a (b.drewN n):=⟨h.os,h.tape,h.output,h.size,h.block⟩
theorem Aa.alloc{S:Nat→Prop}{a b:World}(h:Aa S a b)(o:Obj):Aa S a (b.alloc o):=
 ⟨h.os,h.tape,h.output,by have:=h.size;simp;omega,fun j c hn=>(Below.heap_alloc b o j (by have:=h.size;omega)).trans (h.block j c hn)⟩
theorem Aa.setCell{S:Nat→Prop}{a b:World}(h:Aa S a b){p:Addr}(c:a.heap.size≤p.block∨S p.block)(u:Value):Aa S a (b.setCell p u):=by
 have hb:=(Below.refl 0 b).setCell (p:=p) (Ann _) u;refine⟨hb.os.trans h.os,hb.tape.trans h.tape,hb.output.trans h.output,Ant h.size hb.size,fun j e hn=>?_⟩;have d:j≠p.block:=by
  rintro rfl;rcases c with c|c
  ·omega
  ·exact hn c
 exact(Apm b p u j d).trans (h.block j e hn)
theorem Aa.grown{S:Nat→Prop}{a b c:World}{row:Option Nat}(h:Aa S a b)(d:b.grownBy c row)(g: ∀k,row=some k→a.heap.size≤k∨S k):Aa S a c:=
 ⟨d.os.trans h.os,d.tape.trans h.tape,d.output.trans h.output,Ant h.size d.size,fun j f hn=>(d.block j (Aom f h.size) (fun e=>by
  rcases g j e.symm with x|x
  ·omega
  ·exact hn x)).trans (h.block j f hn)⟩
theorem Aa.ofBelow{S:Nat→Prop}{B:Nat}{a b:World}(h:Below B a b)(c: ∀j,j<a.heap.size→B≤j→S j):Aa S a b:=
 ⟨h.os,h.tape,h.output,h.size,fun j d hn=>h.block j (by
  rcases Aoq j B with x|x
  ·exact x
  ·exact absurd (c j d x) hn)⟩
theorem Aa.below{S:Nat→Prop}{B:Nat}{a b:World}(h:Aa S a b)(e:B≤a.heap.size)(c: ∀j,j<B→ ¬S j):Below B a b:=
 ⟨h.os,h.tape,h.output,h.size,fun j d=>h.block j (by omega) (c j d)⟩
theorem Aa.cell{S:Nat→Prop}{a b:World}(h:Aa S a b){p:Addr}(c:p.block<a.heap.size)(hn: ¬S p.block):b.cell? p=a.cell? p:=World.cell?_of_block (h.block _ c hn)
theorem Aa.frozen{S:Nat→Prop}{a b:World}(h:Aa S a b){p:Addr}(c:p.block<a.heap.size)(hn: ¬S p.block):b.frozen? p=a.frozen? p:=World.frozen?_of_block (h.block _ c hn)
theorem Aa.row{S:Nat→Prop}{a b:World}(h:Aa S a b){g:Nat}{o:Obj}(c:a.heap[g]?=some o)(hn: ¬S g):b.heap[g]?=some o:=(h.block g (Anu c) hn).trans c
theorem Aa.owns{S:Nat→Prop}{a b:World}(h:Aa S a b){base:Nat}{e:TypeId}{size:Nat}{v:Value}{n:Nat}{xs:Are}(m:a.ownsRow base e size v n xs)(hn: ∀k,v.ownBlock=some k→ ¬S k):b.ownsRow base e size v n xs:=by
 obtain⟨l,c⟩:=m;refine⟨l,?_⟩;rcases c with c|⟨g,cap,cur,rfl,h1,h2,d,f,i,j⟩
 ·exact .inl c
 ·exact .inr ⟨g,cap,cur,rfl,h1,h.row h2 (hn g rfl),d,f,i,j⟩
def Cb(w:World)(v v':Value):Prop:= ∀k,v'.ownBlock=some k→v.ownBlock=some k∨w.heap.size≤k
theorem Cb.refl(w:World)(v:Value):Cb w v v:=fun _ h=> .inl h
theorem Cb.trans{w w1:World}{a b c:Value}(h:Cb w a b)(k:Cb w1 b c)(hs:w.heap.size≤w1.heap.size):Cb w a c:=fun j d=>by
 rcases k j d with x|x
 ·exact h j x
 ·exact .inr (by omega)
theorem Qv{w w':World}{base:Nat}{e:TypeId}{size:Nat}{v v':Value}{n:Nat}{xs:Are}(a:w'.ownsRow base e size v' n xs)(hb:base=w.heap.size):Cb w v v':=fun k hk=> .inr (by have:=a.lt k hk;omega)
theorem Gj{w:World}{base base':Nat}{e:TypeId}{size:Nat}{v:Value}{n:Nat}{xs:Are}(c:w.ownsRow base e size v n xs)(hb: ∀k,v.ownBlock=some k→base'≤k):w.ownsRow base' e size v n xs:=by
 obtain⟨b,a⟩:=c;refine⟨b,?_⟩;rcases a with a|⟨g,cap,cur,rfl,h1,h2⟩
 ·exact .inl a
 ·exact .inr ⟨g,cap,cur,rfl,hb g rfl,h2⟩
theorem G5{w:World}{base:Nat}{e:TypeId}{size:Nat}{v:Value}{n:Nat}{xs:Are}(a:w.ownsRow base e size v n xs):w.ownsRow 0 e size v n xs:=Gj a fun _ _=>Ann _
variable {P:Program} (w:World)
theorem Rv(base:Nat)(t ty e:TypeId)(i:TypeInfo)(z:Value)(size bytes:Nat)(ht:P.underlying t=some (.slice e))(hi:P.info? e=some i)(F:i.zero=some z)
  (h:i.size=size) (s:i.bytes=bytes) (A:z.cells.size=size) (y:0<size)
  (v:Value) (n:Nat) (xs:Are) (b:w.ownsRow base e size v n xs)
  (a:Addr) (m c:Nat) (news:Are) (C:news.length=m*size) (f: ∀j u,news[j]?=some u→w.cell? (a.add j)=some u) (h1: ∀u∈news,u.oneCell'=true)
  (r:n+m≤maxLen) (l:(n+m)*bytes≤140737488355328) (B:base≤w.heap.size):
  ∃v' w',(Builtin.append_ #[t,t] ty #[v,.slice (some a) m c]).run P w= .ok v' w'∧w'.ownsRow base e size v' (n+m) (xs++news)∧w.grownBy w' v.ownBlock∧Cb w v v':=by
 have p:=b.2;rcases p with⟨E,hn⟩|⟨g,cap,cur,E,G,K,J,H,I,D⟩
 ·obtain⟨v',w',x,o,d,_⟩:=run_append_own (P:=P) w w.heap.size t ty e i z size bytes ht hi F h s A y v n xs (by rw[E,hn]at b⊢;exact Gj b (fun k hk=>by cases hk)) a m c news C f h1 r l (Ane _);exact⟨v',w',x,Gj o (fun k hk=>by have:=o.lt k hk;omega),d,Qv o rfl⟩
 ·subst E
  by_cases q:n+m≤cap
  ·obtain⟨w',x,o,d⟩:=run_append_fits (P:=P) w base t ty e i size ht hi h g n cap xs b a m c news C f h1 q;exact⟨_,w',x,o,d,fun k hk=> .inl hk⟩
  ·obtain⟨v',w',x,o,d⟩:=run_append_arg_grows (P:=P) w t ty e i z size bytes ht hi F h s A y ⟨g,0,none⟩ n cap xs b.1 (b.cells (g:=g) rfl) a m c news C f (by omega) r l;exact⟨v',w',x,Gj o (fun k hk=>by have:=o.lt k hk;omega),⟨d.os,d.tape,d.output,d.size,fun k hk _=>d.block k hk (by simp)⟩,Qv o rfl⟩
theorem Bg{ops:Array Oper}{rest:List Oper}{o:Oper}{a:Act}{Q:Exit→Act→World→Prop}(q:o.guard=none)(s x:Operand)(t:TypeId)
  (D:o.op= .call {callee:= .builtin .append,args:= #[s,x],argTypes:= #[t,t]})
  (base:Nat) (e:TypeId) (i:TypeInfo) (z:Value) (size bytes:Nat) (ht:P.underlying t=some (.slice e)) (hi:P.info? e=some i) (G:i.zero=some z)
  (g:i.size=size) (p:i.bytes=bytes) (y:z.cells.size=size) (r:0<size)
  (v:Value) (n:Nat) (xs:Are) (hs:a.eval s=v) (k:w.ownsRow base e size v n xs)
  (ad:Addr) (m c:Nat) (news:Are) (F:a.eval x= .slice (some ad) m c) (C:news.length=m*size) (f: ∀j u,news[j]?=some u→w.cell? (ad.add j)=some u) (h1: ∀u∈news,u.oneCell'=true)
  (l:n+m≤maxLen) (b:(n+m)*bytes≤140737488355328) (d:base≤w.heap.size)
  (h: ∀v' w',w'.ownsRow base e size v' (n+m) (xs++news)→w.grownBy w' v.ownBlock→Cb w v v'→wpList P ops Q rest (a.put o.dst v') w'):wpList P ops Q (o::rest) a w:=by
 refine wpList_plain q fun K hK=>?_;obtain⟨v',w',E,h2,A,B⟩:=Rv (P:=P) w base t o.type e i z size bytes ht hi G g p y r v n xs k ad m c news C f h1 l b d;unfold Oper.wp execOp;simp only[D,resolve,invoke,builtin,Sem.run_bind,Sem.run_pure,Ap6,List.map_toArray,Aos,Aqy,hs,F,E];exact hK _ _ (h v' w' h2 A B)
theorem Qw(base:Nat)(t u ty e:TypeId)(i:TypeInfo)(ht:P.underlying t=some (.slice e))(r:P.underlying u=some .string)(hi:P.info? e=some i)(C:i.zero=some (.int .u8 0))
  (b:i.size=1) (j:i.bytes=1)
  (v:Value) (n:Nat) (xs:Are) (a:w.ownsRow base e 1 v n xs) (s:ByteArray)
  (f:n+s.size≤maxLen) (d:n+s.size≤140737488355328) (h:base≤w.heap.size):
  ∃v' w',(Builtin.append_ #[t,u] ty #[v,.string s]).run P w= .ok v' w'∧w'.ownsRow base e 1 v' (n+s.size) (xs++Lib.strCells s)∧w.grownBy w' v.ownBlock∧Cb w v v'∧(v'= .slice none 0 0↔v= .slice none 0 0∧s.size=0):=by
 have q:n+s.size≤9223372036854775807:=by simp only[maxLen]at f;omega
 obtain⟨v',w',p,I,y,o⟩:=Lib.run_append_own_string (P:=P) w base t u ty e i ht r hi C b j v n xs a s f d h;refine⟨v',w',p,I,y,?_,o⟩;have l:=a.2;rcases l with⟨B,hn⟩|⟨g,cap,cur,B,E,G,H,F,x,A⟩
 ·obtain⟨v2,w2,c,z,_,_⟩:=Lib.run_append_own_string (P:=P) w w.heap.size t u ty e i ht r hi C b j v n xs (by rw[B,hn]at a⊢;exact Gj a (fun k hk=>by cases hk)) s f d (Ane _);rw[p]at c;cases c;exact Qv z rfl
 ·subst B;have D:cur.size=cap:=by simpa using x
  by_cases m:n+s.size≤cap
  ·have c:=Lib.run_append_room_string (P:=P) w t u ty e i ht r hi b g n cap cur G s m (by omega);rw[p]at c;cases c;exact fun k hk=> .inl hk
  ·have c:=Lib.run_append_grow_string (P:=P) w t u ty e i (.int .u8 0) ht r hi C ⟨g,0,none⟩ n cap xs (by rw[b];exact a.1) (a.cells (g:=g) rfl) s (by omega) (by omega) (by rw[j];exact growslice_fits (by omega) (by omega));rw[p]at c;cases c;exact fun k hk=> .inr (by simp[Value.ownBlock]at hk;omega)
theorem Er{ops:Array Oper}{rest:List Oper}{o:Oper}{a:Act}{Q:Exit→Act→World→Prop}(k:o.guard=none)(sl x:Operand)(t u:TypeId)
  (q:o.op= .call {callee:= .builtin .append,args:= #[sl,x],argTypes:= #[t,u]})
  (base:Nat) (e:TypeId) (i:TypeInfo) (ht:P.underlying t=some (.slice e)) (y:P.underlying u=some .string) (hi:P.info? e=some i) (A:i.zero=some (.int .u8 0))
  (d:i.size=1) (j:i.bytes=1)
  (v:Value) (n:Nat) (xs:Are) (hs:a.eval sl=v) (f:w.ownsRow base e 1 v n xs) (s:ByteArray) (z:a.eval x= .string s)
  (g:n+s.size≤maxLen) (b:n+s.size≤140737488355328) (c:base≤w.heap.size)
  (h: ∀v' w',w'.ownsRow base e 1 v' (n+s.size) (xs++Lib.strCells s)→w.grownBy w' v.ownBlock→Cb w v v'→(v'= .slice none 0 0↔v= .slice none 0 0∧s.size=0)→wpList P ops Q rest (a.put o.dst v') w'):wpList P ops Q (o::rest) a w:=by
 refine wpList_plain k fun K hK=>?_;obtain⟨v',w',r,h2,l,m,p⟩:=Qw (P:=P) w base t u o.type e i ht y hi A d j v n xs f s g b c;unfold Oper.wp execOp;simp only[q,resolve,invoke,builtin,Sem.run_bind,Sem.run_pure,Ap6,List.map_toArray,Aos,Aqy,hs,z,r];exact hK _ _ (h v' w' h2 l m p)
end Go.Proofs.YtegnkfdbmmndaaaGreat
namespace Go.Proofs.YtegnkfdbmmndaaaGreat
open Hm Go.Proofs.Tryz Go.RowKit
theorem Fh:(prog.info? 5).map (fun i=>(i.zero,i.size,i.bytes))=some (some (.int .u8 0),1,1):=by kernel_rfl
namespace Hm
def Ah(l:Arc):Are:=l.map fun b=>Value.int .u8 (b.toNat:Int)
def leBytes(x:Nat):Nat→Arc
 |0=>[]
 |k+1=>leBytes x k++[UInt8.ofNat (x/256^k)]
theorem Dn(x k:Nat):(leBytes x k).length=k:=by
 induction k with
 |zero=>rfl
 |succ k ih=>simp[leBytes,ih]
end Hm
theorem Lc(base:Nat)(v:Value)(n x k:Nat)(l:Arc)(w:World)(z:w.ownsRow base 5 1 v n (Ah l))(hb:base≤w.heap.size)(B:x<4294967296)(hk:k≤4)(hn:n≤1000000):
  Calls prog 101 #[v,.int .i64 x,.int .i64 k] w fun e w'=> ∃v',e= .returned v'∧w'.ownsRow base 5 1 v' (n+k) (Ah (l++Hm.leBytes x k))∧Aa (fun j=>v.ownBlock=some j) w w'∧Cb w v v':=by
 obtain⟨i0,hi,m,p,q⟩:=Aoo Fh
 go_enter func101,ntmps101
 go_wp2
 go_loopw[0,9] (fun u i wr=> ∃j:Nat,j≤k∧i= .int .i64 j∧wr.ownsRow base 5 1 u (n+j) (Ah (l++Hm.leBytes x j))∧Aa (fun j=>v.ownBlock=some j) w wr∧Cb w v u) (fun _ i _=>k-(intOf i).toNat)
 case atStart=>exact⟨0,Ann _,rfl,by simpa[Hm.leBytes]using z,Aa.refl _ _,Cb.refl _ _⟩
 case round=>
  obtain⟨j,C,rfl,c,a,b⟩:=hrel
  by_cases t:j<k
  ·obtain⟨y,D,A,s⟩: ∃y:Nat,y<4294967296∧(x:Int)/2^(8*j)=(y:Int)∧Hid (y=x/256^j):=by
    refine⟨x/256^j,Aov (Apt _ _) B,?_,rfl⟩;have e2:(256:Nat)^j=2^(8*j):=by rw[Nat.pow_mul]
    rw[e2];simp
   go_wp2_with(at_builtin;refine Bg _ rfl (.tmp 12) (.tmp 18) 79 rfl base 5 i0 (.int .u8 0) 1 1 underlying79 hi m p q rfl (by decide) _ _ _ rfl (c.alloc _) ⟨wr.heap.size,0,none⟩ 1 1 [.int .u8 ((y:Int)%256)] rfl rfl ?c1 ?c2 ?c3 ?c4 ?c5 ?_)
   case c1=>exact cell_one_new _ _ _
   case c2=>intro u r;simp at r;subst r;rfl
   case c3=>unfold maxLen;omega
   case c4=>omega
   case c5=>have:=a.size;simp;omega
   intro v' w1 g d f;go_wp2;go_roundw
   case rel=>
    have e:Ah (l++Hm.leBytes x (j+1))=Ah (l++Hm.leBytes x j)++[.int .u8 ((y:Int)%256)]:=by
     simp[Ah,Hm.leBytes,s.o]
    refine⟨j+1,by omega,by go_num,?_,?_,?_⟩
    ·rw[e];exact g
    ·exact(a.alloc _).grown d (fun k hk=>(b k hk).elim (fun h=> .inr h) .inl)
    ·exact b.trans f (by have:=a.size;simp;omega)
   case measure=>simp[intOf];omega
  ·go_wp2;go_ret;obtain rfl:j=k:=by omega
   exact⟨_,rfl,c,a,b⟩
structure D3(w:World)(T pb:Nat)(v:Value)(bits:List Bool):Prop where
 blk:w.heap[pb]?=some (.cells #[v,.int .i64 (bits.length:Nat)] T (0,0))
 own:w.ownsRow 0 5 1 v ((bits.length+7)/8) (Ah (Ag bits))
 ne:v.ownBlock≠some pb
theorem D3.kept{S:Nat→Prop}{w w':World}{T pb:Nat}{v:Value}{bits:List Bool}(h:D3 w T pb v bits)(hk:Aa S w w')(h1: ¬S pb)(h2: ∀j,v.ownBlock=some j→ ¬S j):D3 w' T pb v bits:=
 ⟨hk.row h.blk h1,hk.owns h.own h2,h.ne⟩
abbrev Bk(pb:Nat)(v:Value):Nat→Prop:=fun j=>j=pb∨v.ownBlock=some j
theorem Aq{w:World}{base:Nat}{e:TypeId}{size:Nat}{v:Value}{n:Nat}{xs:Are}(h:w.ownsRow base e size v n xs): ∃a c,v= .slice a n c∧n≤c:=by
 rcases h.2 with⟨rfl,rfl⟩|⟨g,cap,cur,rfl,_,_,b,d,_⟩
 ·exact⟨none,0,rfl,Ane _⟩
 ·exact⟨_,cap,rfl,b⟩
theorem Qx(n:Nat)(w:World)(hn:n≤100000000):Calls prog 166 #[.int .i64 n] w fun e w'=>e= .returned (.int .i64 ((n+7)/8:Nat))∧w'=w:=by
 go_enter func166,ntmps166
 go_wp2;go_ret;exact⟨by first|rfl|go_num,rfl⟩
theorem Abz(T pb:Nat)(v:Value)(bits:List Bool)(c:Nat)(w:World)(h:D3 w T pb v bits)(hl:bits.length≤10000000)(hc:c≤10000000):
  Calls prog 144 #[.pointer (some ⟨pb,0,none⟩),.int .i64 c] w fun e w'=> ∃v',e= .returned (.tuple #[])∧D3 w' T pb v' (bits++List.replicate c false)∧Aa (Bk pb v) w w'∧Cb w v v':=by
 obtain⟨i0,hi,X,Y,Z⟩:=Aoo Fh;have f:=h.blk;have O:w.cell? ⟨pb,0,none⟩=some v:=Am7 _ _ 0 _ _ _ f;have P:w.cell? ⟨pb,1,none⟩=some (.int .i64 (bits.length:Nat)):=Am7 _ _ 1 _ _ _ f;have S:w.frozen? ⟨pb,1,none⟩=false:=Ang _ _ 1 _ _ f;have G:=Anb w pb 1 #[v,.int .i64 (bits.length:Nat)] T (.int .i64 ((bits.length:Int)+c)) f;have HB:Hid ((w.setCell ⟨pb,1,none⟩ (.int .i64 ((bits.length:Int)+c))).heap[pb]?=some (.cells #[v,.int .i64 ((bits.length:Int)+c)] T (0,0))):=by
  show _=_;simpa using G
 clear f G;have s: ∀W,Calls prog 166 #[.int .i64 ((bits.length:Int)+(c:Int))] W fun e w'=>e= .returned (.int .i64 ((bits.length+c+7)/8:Nat))∧w'=W:=fun W=>by
  have:=Qx (bits.length+c) W (by omega);rw[show((bits.length+c:Nat):Int)=(bits.length:Int)+(c:Int)from by omega]at this;exact this
 generalize hK:(bits.length+c+7)/8=K at*
 go_enter func144,ntmps144
 go_wp2
 go_loopg [12] (K-(bits.length+7)/8) (fun k _ wr=> ∃(v':Value) (m:Nat),m+k=K∧(bits.length+7)/8≤m∧wr.heap[pb]?=some (.cells #[v',.int .i64 ((bits.length:Int)+c)] T (0,0))∧
  wr.ownsRow 0 5 1 v' m (Ah (Ag bits++List.replicate (m-(bits.length+7)/8) 0))∧v'.ownBlock≠some pb∧Aa (Bk pb v) w wr∧Cb w v v')
 case atStart=>exact⟨v,(bits.length+7)/8,by omega,Ane _,HB.o,by simpa using ownsRow_setCell_other h.own h.ne _,h.ne,(Aa.refl _ _).setCell (.inr (.inl rfl)) _,Cb.refl _ _⟩
 case round=>
  obtain⟨v',m,M,x,q,g,p,l,n⟩:=hrel;have Q:wr.cell? ⟨pb,0,none⟩=some v':=Am7 _ _ 0 _ _ _ q;have ag:wr.cell? ⟨pb,1,none⟩=some (.int .i64 ((bits.length:Int)+c)):=Am7 _ _ 1 _ _ _ q;have ai:wr.frozen? ⟨pb,0,none⟩=false:=Ang _ _ 0 _ _ q;obtain⟨ao,cp,E,af⟩:=Aq g;have L:Hid (v'= .slice ao m cp):=E;rw[E]at Q;have A:Hid (wr.heap[pb]?=some (.cells #[v',.int .i64 ((bits.length:Int)+c)] T (0,0))):=q;have ad:m≤3000000:=by omega
  clear E O P S HB h q
  by_cases t:0<gk
  ·have d:wr.ownsRow 0 5 1 (.slice ao m cp) m (Ah (Ag bits++List.replicate (m-(bits.length+7)/8) 0)):=by rw[←L.o];exact g
   have y: ∀j,(Value.slice ao m cp).ownBlock=some j→j<wr.heap.size:=fun j hj=>(d.lt j hj).2;have b:(Value.slice ao m cp).ownBlock≠some pb:=by rw[←L.o];exact p
   have a:Cb w v (.slice ao m cp):=by rw[←L.o];exact n
   have U:pb<wr.heap.size:=Anu A.o;have N:Hid (wr.ownsRow 0 5 1 (.slice ao m cp) m (Ah (Ag bits++List.replicate (m-(bits.length+7)/8) 0))∧(∀j,(Value.slice ao m cp).ownBlock=some j→j<wr.heap.size)∧(Value.slice ao m cp).ownBlock≠some pb∧Cb w v (.slice ao m cp)):=⟨d,y,b,a⟩;have I:decide (m<K)=true:=Ana (by omega);have F:Hid (m+gk=K∧(bits.length+7)/8≤m∧0<gk):=⟨M,x,t⟩;clear g n p d y b a M x t;clear hK;go_wp2_with fail;go_quiet(first|(refine Aol (s _)));obtain⟨d,y,b,a⟩:=N.o;clear y
   go_wp2_with(at_builtin;refine Bg _ rfl (.tmp 27) (.tmp 28) 79 rfl 0 5 i0 (.int .u8 0) 1 1 underlying79 hi X Y Z rfl (by decide) _ _ _ rfl (by exact(d.alloc _)) ⟨wr.heap.size,0,none⟩ 1 1 [.int .u8 0] rfl rfl ?c1 ?c2 ?c3 ?c4 ?c5 ?_)
   case c1=>exact cell_one_new _ _ _
   case c2=>intro u hu;simp at hu;subst hu;rfl
   case c3=>unfold maxLen;omega
   case c4=>omega
   case c5=>exact Ann _
   intro v2 w1 D B C;have J:Aa (Bk pb v) w w1:=((l.drewN nq).alloc _).grown B (fun k hk=>(a k hk).elim (fun h=> .inr (.inr h)) .inl);have z:Cb w v v2:=a.trans C (by have:=l.size;simp;omega);have i:w1.heap[pb]?=some (.cells #[.slice ao m cp,.int .i64 ((bits.length:Int)+c)] T (0,0)):=by
    rw[B.block pb (by simp;omega) (fun e=>b e.symm)];show((wr.alloc _).heap[pb]?)=_;rw[Below.heap_alloc _ _ _ U,A.o,L.o]
   have r:v2.ownBlock≠some pb:=fun e=>by
    rcases C pb e with h|h
    ·exact b h
    ·simp at h;omega
   have ah:w1.cell? ⟨pb,0,none⟩=some (.slice ao m cp):=Am7 _ _ 0 _ _ _ i;have ac:w1.frozen? ⟨pb,0,none⟩=false:=Ang _ _ 0 _ _ i;have H:=Anb w1 pb 0 _ T v2 i;obtain⟨ao2,cp2,V,ab⟩:=Aq D;subst V;have R:Hid (∃(v':Value) (m':Nat),m'+(gk-1)=K∧(bits.length+7)/8≤m'∧(w1.setCell ⟨pb,0,none⟩ (.slice ao2 (m+1) cp2)).heap[pb]?=some (.cells #[v',.int .i64 ((bits.length:Int)+c)] T (0,0))∧
     (w1.setCell ⟨pb,0,none⟩ (.slice ao2 (m+1) cp2)).ownsRow 0 5 1 v' m' (Ah (Ag bits++List.replicate (m'-(bits.length+7)/8) 0))∧v'.ownBlock≠some pb∧Aa (Bk pb v) w (w1.setCell ⟨pb,0,none⟩ (.slice ao2 (m+1) cp2))∧Cb w v v'):=by
    obtain⟨M,x,t⟩:=F.o;refine⟨.slice ao2 (m+1) cp2,m+1,by omega,by omega,by simpa using H,?_,r,J.setCell (.inr (.inl rfl)) _,z⟩;have e:Ah (Ag bits++List.replicate (m+1-(bits.length+7)/8) 0)=Ah (Ag bits++List.replicate (m-(bits.length+7)/8) 0)++[.int .u8 0]:=by
     rw[show m+1-(bits.length+7)/8=m-(bits.length+7)/8+1 from by omega,Aq1,←An4];simp[Ah]
    rw[e];exact ownsRow_setCell_other D r _
   clear D B C J z i H d b a r;go_wp2
   go_roundg (gk-1)
   case measure=>have:=F.o;omega
   case rel=>exact R.o
  ·have F:Hid (m=K∧(bits.length+c+7)/8=K):=⟨by omega,hK⟩;have I:decide (m<K)=false:=Anc (by omega);clear t M x;have N:Hid (wr.ownsRow 0 5 1 v' m (Ah (Ag bits++List.replicate (m-(bits.length+7)/8) 0))∧v'.ownBlock≠some pb∧Aa (Bk pb v) w wr∧Cb w v v'):=⟨g,p,l,n⟩;clear g n p l hK;go_wp2_with fail;go_quiet(first|(refine Aol (s _)));go_wp2
   go_end0
   obtain⟨g,p,l,n⟩:=N.o;refine⟨v',rfl,⟨?_,?_,p⟩,l.drewN _,n⟩
   ·have e:((bits++List.replicate c false).length:Int)=(bits.length:Int)+c:=by simp
    rw[e];exact A.o
   ·rw[Rt];have e:(bits++List.replicate c false).length=bits.length+c:=by simp
    rw[e,F.o.2,←F.o.1];exact g
theorem Ck{w:World}{base:Nat}{e:TypeId}{size:Nat}{v:Value}{n:Nat}{xs:Are}(h:w.ownsRow base e size v n xs)(hn:0<n): ∃g cap,v= .slice (some ⟨g,0,none⟩) n cap∧n≤cap∧g<w.heap.size:=by
 rcases h.2 with⟨rfl,rfl⟩|⟨g,cap,cur,rfl,_,c,a,b,_⟩
 ·omega
 ·exact⟨g,cap,rfl,a,Anu c⟩
theorem Hm.Ss{x:Nat}(h:x<256):Value.int .u8 ((UInt8.ofNat x).toNat:Int)= .int .u8 (x:Int):=by
 rw[Aoa];congr 2;omega
theorem Age(T pb:Nat)(v:Value)(bits:List Bool)(k:Nat)(w:World)(h:D3 w T pb v bits)(x:bits.length≤20000000)(hk:k<bits.length):
  Calls prog 146 #[.pointer (some ⟨pb,0,none⟩),.int .i64 k] w fun e w'=>e= .returned (.tuple #[])∧D3 w' T pb v (bits.set k true)∧Aa (Bk pb v) w w':=by
 have b:=h.own;obtain⟨g,cap,u,t,r⟩:=Ck b (by omega);subst u;have m:w.cell? ⟨pb,0,none⟩=some (.slice (some ⟨g,0,none⟩) ((bits.length+7)/8) cap):=Am7 _ _ 0 _ _ _ h.blk;have p:w.cell? ⟨g,k/8,none⟩=some (.int .u8 (F9 bits (k/8):Nat)):=by
  rw[b.cellAt (k/8) (by omega)];simp only[Ah,An2];rw[Am5 (by rw[Bi];omega),Hb];have:=Qs bits (k/8);simp;omega
 have q:w.frozen? ⟨g,k/8,none⟩=false:=b.frozenAt _;have i:=Qs bits (k/8);have HS:=b.stored (k/8) (.int .u8 (F9 bits (k/8)|||2^(k%8):Nat));generalize c:F9 bits (k/8)=y at*;generalize d:(bits.length+7)/8=n at*;have s:(k:Int)/8<(n:Int):=by omega
 have l:Hid (Go.bits .or .u8 (y:Int) ((2:Int)^(k%8)%256)=((y|||2^(k%8):Nat):Int)):=by
  have j:2^(k%8)<256:=Nat.pow_lt_pow_right (a:=2) (by omega) (by omega:k%8<8);have e1:((2:Int)^(k%8)%256)=((2^(k%8):Nat):Int):=by
   have:((2^(k%8):Nat):Int)=(2:Int)^(k%8):=by simp
   rw[←this];exact Int.emod_eq_of_lt (Int.natCast_nonneg _) (Int.ofNat_lt.2 j)
  show _=_;rw[e1];exact u8_or_nat _ _ i j
 have f:Hid (D3 (w.setCell ⟨g,k/8,none⟩ (.int .u8 (y|||2^(k%8):Nat))) T pb (.slice (some ⟨g,0,none⟩) n cap) (bits.set k true)):=by
  refine⟨?_,?_,h.ne⟩
  ·have hb:=h.blk;rw[Apm _ _ _ _ (fun e=>h.ne (by rw[e];rfl)),hb];simp
  ·rw[Sj _ _ hk,c];have e:(bits.set k true).length=bits.length:=by simp
   have e2:Ah ((Ag bits).set (k/8) (UInt8.ofNat (y|||2^(k%8))))=(Ah (Ag bits)).set (k/8) (.int .u8 (y|||2^(k%8):Nat)):=by
    have j:2^(k%8)<256:=Nat.pow_lt_pow_right (a:=2) (by omega) (by omega:k%8<8);have z:y|||2^(k%8)<2^8:=Nat.or_lt_two_pow (by omega) (by omega);rw[Ah,Ap2];rw[Ss (by omega)];rfl
   rw[e,d,e2];exact HS.1
 clear h b HS c d
 go_enter func146,ntmps146
 go_wp2
 go_region
 go_end0
 rw[l.o];refine⟨rfl,?_,((Aa.refl _ _).setCell (.inr (.inr rfl)) _).drew⟩;exact⟨f.o.blk,f.o.own,f.o.ne⟩
theorem Ab0{pb:Nat}{v v':Value}{w w1 w2:World}(h:Aa (Bk pb v) w w1)(a:Cb w v v')(h2:Aa (Bk pb v') w1 w2):Aa (Bk pb v) w w2:=
 h.trans h2 fun j b hb=>by
  rcases hb with hb|hb
  ·exact .inl hb
  ·rcases a j hb with x|x
   ·exact .inr x
   ·omega
theorem Amd(T pb:Nat)(v:Value)(bits:List Bool)(w:World)(h:D3 w T pb v bits):
  Calls prog 143 #[.pointer (some ⟨pb,0,none⟩)] w fun e w'=>e= .returned (.int .i64 (bits.length:Nat))∧w=w':=by
 have a:w.cell? ⟨pb,1,none⟩=some (.int .i64 (bits.length:Nat)):=Am7 _ _ 1 _ _ _ h.blk;clear h
 go_enter func143,ntmps143
 go_wp2;go_ret;exact⟨rfl,rfl⟩
theorem Ub(T pb:Nat)(v:Value)(bits:List Bool)(x:Nat)(w:World)(h:D3 w T pb v bits)(j:bits.length≤9000000)(k:x≤1):
  Calls prog 152 #[.pointer (some ⟨pb,0,none⟩),.int .i64 x] w fun e w'=> ∃v',e= .returned (.tuple #[])∧D3 w' T pb v' (bits++[decide (x=1)])∧Aa (Bk pb v) w w'∧Cb w v v':=by
 have d:=Abz T pb v bits 1 w h (by omega) (by omega);clear h
 by_cases e:x=1
 ·subst e
  go_enter func152,ntmps152
  go_wp2_with fail;refine d.mono ?_;rintro e w1 ⟨v1,rfl,a,c,b⟩;have hs:=Age T pb v1 (bits++List.replicate 1 false) bits.length w1 a (by simp;omega) (by simp);rw[show(bits++List.replicate 1 false).set bits.length true=bits++[true]from Akl bits true]at hs;have i:w1.cell? ⟨pb,1,none⟩=some (.int .i64 ((bits.length:Int)+1)):=by
   rw[Am7 _ _ 1 _ _ _ a.blk];simp
  clear d;go_wp2_with fail;refine hs.mono ?_;rintro e w2 ⟨rfl,f,g⟩;go_wp2
  go_end0
  exact⟨v1,rfl,f,Ab0 c b g,b⟩
 ·obtain rfl:x=0:=by omega
  go_enter func152,ntmps152
  go_wp2_with fail;refine d.mono ?_;rintro e w1 ⟨v1,rfl,a,c,b⟩;clear d;go_wp2
  go_end0
  exact⟨v1,rfl,a,c,b⟩
namespace Hm
def Aw(x k:Nat):List Bool:=(List.range k).map fun i=>decide (x/2^i%2=1)
theorem Do(x k:Nat):(Aw x k).length=k:=by simp[Aw]
theorem Ov(x k:Nat):Aw x (k+1)=Aw x k++[decide (x/2^k%2=1)]:=by simp[Aw,List.range_succ]
theorem Ame(y:Nat)(a:y<4294967296):Go.bits .and .i64 (y:Int) 1=((y%2:Nat):Int):=by
 show IntKind.i64.wrap ((BitVec.ofInt 64 (y:Int)&&&BitVec.ofInt 64 1).toNat:Int)=_;rw[BitVec.toNat_and,Aq2,BitVec.toNat_ofNat,Ao7 (by omega:y<2^64),show(BitVec.ofInt 64 1).toNat=1 from rfl,Nat.and_one_is_mod];have:=Nat.mod_lt y (y:=2) (by omega);rw[An9];omega
end Hm
theorem Wi(T pb:Nat)(v:Value)(bits:List Bool)(x k:Nat)(w:World)(h:D3 w T pb v bits)(B:bits.length≤8000000)(t:x<4294967296)(hk:k≤60):
  Calls prog 142 #[.pointer (some ⟨pb,0,none⟩),.int .i64 x,.int .i64 k] w fun e w'=> ∃v',e= .returned (.tuple #[])∧D3 w' T pb v' (bits++Aw x k)∧Aa (Bk pb v) w w'∧Cb w v v':=by
 go_enter func142,ntmps142
 go_wp2
 go_loopw[8] (fun i wr=> ∃(j:Nat) (v':Value),j≤k∧i= .int .i64 j∧D3 wr T pb v' (bits++Aw x j)∧Aa (Bk pb v) w wr∧Cb w v v') (fun i _=>k-(intOf i).toNat)
 case atStart=>exact⟨0,v,Ann _,rfl,by simpa[Aw]using h,Aa.refl _ _,Cb.refl _ _⟩
 case round=>
  obtain⟨j,v',A,rfl,hb,a,b⟩:=hrel;have g:(bits++Aw x j).length≤9000000:=by simp[Do];omega
  by_cases r:j<k
  ·obtain⟨y,u,s,p⟩: ∃y:Nat,y<4294967296∧(x:Int)/2^j=(y:Int)∧Hid (y=x/2^j):=by
    refine⟨x/2^j,Aov (Apt _ _) t,?_,rfl⟩;simp
   obtain⟨z,m⟩: ∃z,y%2=z:=⟨_,rfl⟩;have c:=Ame y u;rw[m]at c;have q:Hid (y%2=z):=m;have n:z≤1:=by omega
   clear h m;go_wp2_with fail;refine(Ub T pb v' _ z wr hb g n).mono ?_;rintro e w1 ⟨v1,rfl,d,f,l⟩;go_wp2;go_roundw
   case rel=>
    refine⟨j+1,v1,by omega,by go_num,?_,Ab0 a b f,b.trans l a.size⟩;rw[Ov,←p.o,q.o,←An4];exact d
   case measure=>simp[intOf];omega
  ·clear h;go_wp2
   go_end0
   obtain rfl:j=k:=by omega
   exact⟨v',rfl,hb,a,b⟩
theorem Ii{w:World}{base:Nat}{v:Value}{n:Nat}{l:Arc}(h:w.ownsRow base 5 1 v n (Ah l)):
  (convert 79 9 v).run prog w= .ok (.string ⟨l.toArray⟩) w:=by
 have c:l.length=n:=by have:=h.1;simpa[Ah]using this
 rcases h.2 with⟨rfl,rfl⟩|⟨g,cap,cur,rfl,_⟩
 ·have:l=[]:=Aob c;subst this;exact run_convert_bytes_nil w _ _ underlying79 underlying5 0 0 _ underlying9
 ·have d:=run_convert_bytes_arg w _ _ underlying79 underlying5 g 0 n cap (l.map fun b=>(b.toNat:Int)) (by simpa using c) (fun i hi=>by
   have f:=h.cellAt i (by omega);have a:i<l.length:=by omega
   simp only[An3];rw[f,Ah,An2,Am5 a,Am4,An2,Am5 a];rfl) _ underlying9
  have e:strOfNums (l.map fun b=>(b.toNat:Int))=⟨l.toArray⟩:=by
   unfold strOfNums;rw[List.map_map];have e2:((fun n:Int=>UInt8.ofNat n.toNat)∘fun b:UInt8=>(b.toNat:Int))=id:=by funext b;simp
   rw[e2,List.map_id]
  rw[e]at d;exact d
theorem Yc(T pb:Nat)(v:Value)(bits:List Bool)(w:World)(h:D3 w T pb v bits):
  Calls prog 148 #[.pointer (some ⟨pb,0,none⟩)] w fun e w'=>e= .returned (.agg #[.string ⟨(Ag bits).toArray⟩,.int .i64 (bits.length:Nat)])∧Ara w w':=by
 have d:w.cell? ⟨pb,0,none⟩=some v:=Am7 _ _ 0 _ _ _ h.blk;have f:w.cell? ⟨pb,1,none⟩=some (.int .i64 (bits.length:Nat)):=Am7 _ _ 1 _ _ _ h.blk;have c: ∀W,Ara w W→(convert 79 9 v).run prog W= .ok (.string ⟨(Ag bits).toArray⟩) W:=fun W hk=>Ii (hk.owns h.own fun _ _ h=>h);have g:pb<w.heap.size:=Anu h.blk;clear h;generalize(⟨(Ag bits).toArray⟩:ByteArray)=s at*
 go_enter func148,ntmps148
 go_wp2;have a:Ara w (w.alloc (.cells #[.string ⟨#[]⟩,.int .i64 0] 83)):=(Aa.refl _ _).alloc _;have b:=Anj w (.cells #[.string ⟨#[]⟩,.int .i64 0] 83);have l:pb≠w.heap.size:=by omega
 generalize w.alloc (.cells #[.string ⟨#[]⟩,.int .i64 0] 83)=W at*;have p0:W.cell? ⟨pb,0,none⟩=some v:=(a.cell (p:=⟨pb,0,none⟩) g id).trans d;have p1:W.cell? ⟨pb,1,none⟩=some (.int .i64 (bits.length:Nat)):=(a.cell (p:=⟨pb,1,none⟩) g id).trans f;have p2:W.cell? ⟨w.heap.size,0,none⟩=some (.string ⟨#[]⟩):=Am7 _ _ 0 _ _ _ b;have p3:W.cell? ⟨w.heap.size,1,none⟩=some (.int .i64 0):=Am7 _ _ 1 _ _ _ b;have f2:W.frozen? ⟨w.heap.size,0,none⟩=false:=Ang _ _ 0 _ _ b;have f3:W.frozen? ⟨w.heap.size,1,none⟩=false:=Ang _ _ 1 _ _ b;have k:=c W a;have i:=c W.drew a.drew;have j:Hid (Ara w W∧W.heap[w.heap.size]?=some (.cells #[.string ⟨#[]⟩,.int .i64 0] 83 (0,0))):=⟨a,b⟩;clear a b c d f
 go_region
 go_wp2;obtain⟨a,b⟩:=j.o;have h2:=Anb _ _ 1 _ _ (.int .i64 (bits.length:Nat)) (Anb _ _ 0 _ _ (.string s) b);refine Aok (v:= .agg #[.string s,.int .i64 (bits.length:Nat)]) (Ao0 results148 _ _ w.heap.size 83 _ (0,0) _ rfl h2 underlying83 rfl (by kernel_rfl)) rfl ⟨rfl,?_⟩;exact((a.setCell (.inl (Ane _)) _).setCell (.inl (Ane _)) _).drew
theorem Kr(pb o:Nat)(s:ByteArray)(w:World)(h:w.cell? ⟨pb,o,none⟩=some (.string s)):
  Calls prog 104 #[.pointer (some ⟨pb,o,none⟩)] w fun e w'=>e= .returned (.string s)∧w'=w:=by
 go_enter func104,ntmps104
 go_wp2;go_ret;exact⟨rfl,rfl⟩
theorem Ur(pb o n:Nat)(w:World)(h:w.cell? ⟨pb,o+1,none⟩=some (.int .i64 n)):
  Calls prog 182 #[.pointer (some ⟨pb,o,none⟩)] w fun e w'=>e= .returned (.int .i64 n)∧w'=w:=by
 go_enter func182,ntmps182
 go_wp2;go_ret;exact⟨rfl,rfl⟩
namespace Hm
def Dy(m n:Nat):Nat→Nat→Nat
 |0,j=>j
 |f+1,j=>if m*2^(j+1)≤n then Dy m n f (j+1)else j
def Dw(m n:Nat):Nat:=if m=0 then 0 else Dy m n 14 0
def Co(es:Ard)(l:Nat):List Bool:=es.flatMap fun e=>Aw e l
def F5(es:Ard)(l h:Nat)(R:List Bool):Nat→List Bool
 |0=>R
 |k+1=>(F5 es l h R k).set (h+es.getD k 0/2^l+k) true
def B4(es:Ard)(n:Nat):List Bool:=
 F5 es (Dw es.length n) (Co es (Dw es.length n)).length (Co es (Dw es.length n)++List.replicate (es.length+n/2^Dw es.length n+1) false) es.length
theorem Ks(es:Ard)(l h:Nat)(R:List Bool)(k:Nat):(F5 es l h R k).length=R.length:=by
 induction k with
 |zero=>rfl
 |succ k ih=>simp[F5,ih]
theorem Hn(es:Ard)(l:Nat):(Co es l).length=es.length*l:=by
 induction es with
 |nil=>simp[Co]
 |cons e r ih=>simp only[Co,Aoe,Anf,Do,An8]at ih⊢;rw[ih,Ape];omega
theorem Us(es:Ard)(l k:Nat)(h:k<es.length):Co (es.take (k+1)) l=Co (es.take k) l++Aw es[k] l:=by
 rw[Anh h];unfold Co;rw[Ao4];congr 1;simp
theorem Ag2(m n:Nat)(b:1≤m)(hn:n≤6000): ∀f j,j≤12→Dy m n f j≤12:=by
 intro f;induction f with
 |zero=>intro j a;exact a
 |succ f ih=>
  intro j a;unfold Dy;split
  ·rename_i h;refine ih (j+1) ?_;rcases Aoq j 12 with h1|h1
   ·omega
   ·have:j=12:=by omega
    subst this;have:1*2^13≤m*2^13:=Apa _ b;omega
  ·exact a
theorem Qa(m n:Nat)(hn:n≤6000):Dw m n≤12:=by
 unfold Dw;split
 ·omega
 ·exact Ag2 m n (by omega) hn 14 0 (by omega)
end Hm
theorem Ab1(m n:Nat)(w:World)(v:m≤1000)(hn:n≤6000):
  Calls prog 141 #[.int .i64 m,.int .i64 n] w fun e w'=>e= .returned (.int .i64 (Dw m n:Nat))∧w=w':=by
 by_cases k:m=0
 ·subst k
  go_enter func141,ntmps141
  go_wp2;go_ret;exact⟨rfl,rfl⟩
 have d:Hid (Dw m n=Dy m n (14-0) 0):=by unfold Dw;rw[if_neg k];rfl
 generalize Dw m n=L at d⊢;have h1:1≤m:=by omega
 have s:((m:Int)==0)=false:=by simp;omega
 go_enter func141,ntmps141
 go_wp2
 go_loop [5] (fun i=> ∃j:Nat,j≤12∧i= .int .i64 j∧m*2^j≤6000+m∧L=Dy m n (14-j) j) (fun i=>14-(intOf i).toNat)
 case atStart=>exact⟨0,by omega,rfl,by omega,d.o⟩
 case round=>
  clear d;obtain⟨j,u,rfl,q,l⟩:=hrel;have g:Hid (L=if m*2^(j+1)≤n then Dy m n (13-j) (j+1)else j):=by
   show _=_;rw[l,show 14-j=(13-j)+1 from by omega];rfl
  have e2:m*2^(j+1)=m*2^j*2:=by rw[Aoz,Aqn]
  obtain⟨p,t,c⟩: ∃p:Nat,(m:Int)*2^(j+1)=(p:Int)∧Hid (p=m*2^(j+1)):=⟨m*2^(j+1),by simp,rfl⟩;have hpb:p≤14000:=by have:=c.o;omega
  have a:p≤n→j<12:=by
   intro b;rcases Aoq j 12 with h|h
   ·exact h
   ·have:j=12:=by omega
    subst this;have f:=c.o;have:1*2^13≤m*2^13:=Apa _ h1;omega
  have r:Hid ((p≤n→j<12)∧m*2^j≤6000+m):=⟨a,q⟩;clear l q e2 a
  by_cases b:p≤n
  ·go_wp2
   go_round
   case rel=>
    have f:=c.o;refine⟨j+1,by have:=r.o.1 b;omega,by go_num,by rw[←f];omega,?_⟩;rw[g.o,if_pos (by omega)];congr 1;omega
   case measure=>simp[intOf];omega
  ·go_wp2;go_ret;have f:=c.o;refine⟨?_,rfl⟩;have:L=j:=by rw[g.o,if_neg (by omega)]
   rw[this];rfl
def J8(w:World)(ao:Arf)(es:Ard):Prop:=
 ∀i,(h:i<es.length)→ ∃b o,ao=some ⟨b,o,none⟩∧b<w.heap.size∧w.cell? ⟨b,o+i,none⟩=some (.int .i64 (es[i]:Nat))
theorem J8.kept{S:Nat→Prop}{w w':World}{ao:Arf}{es:Ard}(h:J8 w ao es)(hk:Aa S w w')(hn: ∀a,ao=some a→ ¬S a.block):J8 w' ao es:=by
 intro i hi;obtain⟨b,o,e,hb,h1⟩:=h i hi;have hs:=hn _ e;exact⟨b,o,e,by have:=hk.size;omega,(hk.cell (p:=⟨b,o+i,none⟩) hb hs).trans h1⟩
theorem Ab2(w:World)(T:Nat)(o:Obj):D3 ((w.alloc o).alloc (.cells #[.slice none 0 0,.int .i64 0] T)) T (w.heap.size+1) (.slice none 0 0) []:=
 ⟨Apc w _ _,World.ownsRow_nil _ _ _ _,by simp[Value.ownBlock]⟩
theorem Lf:(prog.info? 3).map (fun i=>(i.zero,i.size,i.bytes))=some (some (.int .i64 0),1,8):=by kernel_rfl
def Ad(l:Ard):Are:=l.map fun x=>Value.int .i64 (x:Nat)
def IntRow(w:World)(g:Nat)(l:Ard):Prop:=w.heap[g]?=some (.cells (Ad l).toArray 3 (0,0))
theorem IntRow.cell{w:World}{g:Nat}{l:Ard}(h:IntRow w g l){i:Nat}(hi:i<l.length):w.cell? ⟨g,i,none⟩=some (.int .i64 (l[i]:Nat)):=by
 rw[Am7 _ _ i _ _ _ h];simp[Ad,hi]
theorem IntRow.free{w:World}{g:Nat}{l:Ard}(h:IntRow w g l)(i:Nat):w.frozen? ⟨g,i,none⟩=false:=Ang _ _ i _ _ h
theorem IntRow.set{w:World}{g:Nat}{l:Ard}(h:IntRow w g l)(i x:Nat):IntRow (w.setCell ⟨g,i,none⟩ (.int .i64 (x:Nat))) g (l.set i x):=by
 have h2:=Anb w g i _ _ (.int .i64 (x:Nat)) h;unfold IntRow;rw[h2];congr 2;apply Api;simp[Ad,List.map_set]
theorem IntRow.lt{w:World}{g:Nat}{l:Ard}(h:IntRow w g l):g<w.heap.size:=Anu h
theorem IntRow.at{w:World}{g:Nat}{l:Ard}(h:IntRow w g l):J8 w (some ⟨g,0,none⟩) l:=fun i hi=>⟨g,0,rfl,h.lt,by rw[An3];exact h.cell hi⟩
theorem IntRow.kept{S:Nat→Prop}{w w':World}{g:Nat}{l:Ard}(h:IntRow w g l)(hk:Aa S w w')(hn: ¬S g):IntRow w' g l:=hk.row h hn
theorem IntRow.made{w':World}{g n:Nat}{base:Nat}(h:w'.ownsRow base 3 1 (.slice (some ⟨g,0,none⟩) n n) n (madeCells (Value.int .i64 0).cells (n*1)).toList):IntRow w' g (List.replicate n 0):=by
 rcases h.2 with⟨h1,_⟩|⟨g2,cap,cur,h1,_,a,_,_,hs,ht⟩
 ·cases h1
 ·cases h1;unfold IntRow;rw[a];congr 2;apply Api;have e:cur.toList.take (n*1)=cur.toList:=An5 (by simp;omega);rw[←e,ht,Aqk,show(Value.int .i64 0).cells= #[Value.int .i64 0]from rfl,toList_madeCells_one];simp[Ad]
namespace Hm
def Lz(s:Arc):Ard:=(s.map fun b=>b.toNat+1)++[0]
def G9(s:Arc)(k:Nat):Ard:=((s.take k).map fun b=>b.toNat+1)++List.replicate (s.length+1-k) 0
theorem Yd(s:Arc)(k:Nat)(h:k≤s.length):(G9 s k).length=s.length+1:=by simp[G9];omega
theorem Ab3(s:Arc)(k:Nat)(h:k<s.length):G9 s (k+1)=(G9 s k).set k (s[k].toNat+1):=by
 have a:((s.take k).map fun b=>b.toNat+1).length=k:=by simp;omega
 rw[G9,G9,Aot _ _ (by omega),a,Aoy,Anh h,Apk,An4];congr 1;rw[show s.length+1-k=(s.length+1-(k+1))+1 from by omega,Apf];rfl
theorem Aem(s:Arc):G9 s s.length=Lz s:=by simp[G9,Lz]
end Hm
theorem Ye(s:ByteArray)(w:World)(hs:s.size≤6000):
  Calls prog 132 #[.string s] w fun e w'=>e= .returned (.slice (some ⟨w.heap.size,0,none⟩) (s.size+1) (s.size+1))∧IntRow w' w.heap.size (Lz s.data.toList)∧Ara w w':=by
 obtain⟨i0,hi,l,m,n⟩:=Aoo Lf;have h:s.data.toList.length=s.size:=by simp
 go_enter func132,ntmps132
 go_wp2_with(at_make;refine Apr _ rfl (.tmp 7) (.tmp 7) 64 rfl w.heap.size 3 i0 (.int .i64 0) 1 underlying64 hi l m .i64 .i64 _ _ (s.size+1) rfl rfl (by omega) (by omega) (by rw[n];omega) (by unfold maxLen;omega) (Ane _) ?_;intro w1 f b)
 have g:IntRow w1 w.heap.size (G9 s.data.toList 0):=by
  have:=IntRow.made f;simpa[G9]using this
 have c:Ara w w1:=(Aa.refl _ _).grown b (fun k hk=>by cases hk);clear f b
 go_loopw[11] (fun i wr=> ∃k:Nat,k≤s.size∧i= .int .i64 k∧IntRow wr w.heap.size (G9 s.data.toList k)∧Ara w wr) (fun i _=>s.size-(intOf i).toNat)
 case atStart=>exact⟨0,Ann _,rfl,g,c⟩
 case round=>
  clear g c;obtain⟨k,hk,rfl,a,d⟩:=hrel
  by_cases r:k<s.size
  ·have j:=Yd s.data.toList k (by omega);have q:=a.cell (i:=k) (by omega);have t:=a.free k;have HS:Hid (IntRow (wr.setCell ⟨w.heap.size,k,none⟩ (.int .i64 ((s[k].toNat+1:Nat):Int))) w.heap.size (G9 s.data.toList (k+1))):=by
    show IntRow _ _ _;rw[Ab3 _ _ (by omega)];exact a.set k _
   rw[show((s[k].toNat+1:Nat):Int)=(s[k].toNat:Int)+1 from by omega]at HS;have p:s[k].toNat<256:=s[k].toNat_lt;generalize(G9 s.data.toList k)[k]'(by omega)=old at q;clear a j h;go_wp2;go_roundw
   case rel=>exact⟨k+1,by omega,by go_num,HS.o,d.setCell (.inl (Ane _)) _⟩
   case measure=>simp[intOf];omega
  ·go_wp2;go_ret;obtain rfl:k=s.size:=by omega
   refine⟨rfl,?_,d⟩;rw[←h,Aem]at a;exact a
namespace Hm
theorem Ai7: ∃f:UInt8→Nat,∀b,f b=Lib.onesCount b.toNat:=⟨fun b=>Lib.onesCount b.toNat,fun _=>rfl⟩
noncomputable def on8:UInt8→Nat:=Classical.choose Ai7
theorem Wj(b:UInt8):on8 b=Lib.onesCount b.toNat:=Classical.choose_spec Ai7 b
theorem Ab4(b:UInt8):on8 b≤8:=by rw[Wj];exact Lib.onesCount_le8 ⟨b.toNat,b.toNat_lt⟩
noncomputable def Eb(s:Arc):Nat→Nat
 |0=>0
 |k+1=>Eb s k+on8 (s.getD k 0)
noncomputable def B6(s:Arc):Ard:=(List.range (s.length+1)).map (Eb s)
noncomputable def Ec(s:Arc)(k:Nat):Ard:=(List.range (s.length+1)).map fun i=>if i≤k then Eb s i else 0
theorem Rw(s:Arc):(B6 s).length=s.length+1:=by simp[B6]
theorem Wk(s:Arc)(k:Nat):(Ec s k).length=s.length+1:=by simp[Ec]
theorem Ab5(s:Arc):Ec s s.length=B6 s:=by
 unfold Ec B6;refine Aqe fun i hi=>?_;have:i<s.length+1:=by simpa using hi
 rw[if_pos (by omega)]
theorem Aam(s:Arc):Ec s 0=List.replicate (s.length+1) 0:=by
 unfold Ec;apply Aon
 ·simp
 ·intro i h1 h2;simp only[Aqb,List.getElem_range,List.getElem_replicate]
  by_cases h:i≤0
  ·obtain rfl:i=0:=by omega
   rfl
  ·rw[if_neg h]
theorem Aan(s:Arc)(k:Nat)(_h:k<s.length):(Ec s k).set (k+1) (Eb s (k+1))=Ec s (k+1):=by
 apply Aon
 ·simp[Ec]
 ·intro i h1 h2;rw[Aql];simp only[Ec,Aqb,List.getElem_range]
  by_cases e:k+1=i
  ·subst e;simp
  ·rw[if_neg e]
   by_cases a:i≤k
   ·rw[if_pos a,if_pos (by omega)]
   ·rw[if_neg a,if_neg (by omega)]
theorem Ab6(s:Arc)(k i:Nat)(h:i<(Ec s k).length)(hi:i≤k):(Ec s k)[i]=Eb s i:=by
 simp only[Ec,Aqb,List.getElem_range];rw[if_pos hi]
theorem Zg(s:Arc)(k:Nat):Eb s k≤8*k:=by
 induction k with
 |zero=>exact Ane _
 |succ k ih=>
  rw[Eb];have:=Ab4 (s.getD k 0);omega
end Hm
def Bd:Prop:= ∀(b:UInt8) (W:World),Calls prog 172 #[.int .u8 (b.toNat:Nat)] W fun e w'=>e= .returned (.int .i64 (Hm.on8 b:Nat))∧w'=W
theorem L0(w:World)(b:Nat)(x y z:Value):Aa (fun j=>j=b) w (((w.setCell ⟨b,0,none⟩ x).setCell ⟨b,1,none⟩ y).setCell ⟨b,2,none⟩ z):=
 ((((Aa.refl (fun j=>j=b) w).setCell (p:=⟨b,0,none⟩) (.inr rfl) x).setCell (p:=⟨b,1,none⟩) (.inr rfl) y).setCell (p:=⟨b,2,none⟩) (.inr rfl) z)
theorem J9(hones:Bd)(s:ByteArray)(L:Nat)(w:World)(hs:s.size≤1000000):
  Calls prog 147 #[.agg #[.string s,.int .i64 L]] w fun e w'=> ∃g,w.heap.size≤g∧e= .returned (.agg #[.string s,.int .i64 L,.slice (some ⟨g,0,none⟩) (s.size+1) (s.size+1)])∧IntRow w' g (B6 s.data.toList)∧Ara w w':=by
 obtain⟨i0,hi,J,K,M⟩:=Aoo Lf;have f:Aside (s.data.toList.length=s.size):=by show _=_;simp
 have S:Aside _:=hones;clear hones
 go_enter func147,ntmps147
 go_upto_region 1 with fail
 have b:((w.alloc (.cells #[.string s,.int .i64 (L:Nat)] 83)).alloc (.cells #[.string ⟨#[]⟩,.int .i64 0,.slice none 0 0] 85)).heap[w.heap.size]?=some (.cells #[.string s,.int .i64 (L:Nat)] 83 (0,0)):=Apb w _ _;have c:((w.alloc (.cells #[.string s,.int .i64 (L:Nat)] 83)).alloc (.cells #[.string ⟨#[]⟩,.int .i64 0,.slice none 0 0] 85)).heap[w.heap.size+1]?=some (.cells #[.string ⟨#[]⟩,.int .i64 0,.slice none 0 0] 85 (0,0)):=Apc w _ _;have l:Ara w ((w.alloc (.cells #[.string s,.int .i64 (L:Nat)] 83)).alloc (.cells #[.string ⟨#[]⟩,.int .i64 0,.slice none 0 0] 85)):=((Aa.refl _ _).alloc _).alloc _;have q:((w.alloc (.cells #[.string s,.int .i64 (L:Nat)] 83)).alloc (.cells #[.string ⟨#[]⟩,.int .i64 0,.slice none 0 0] 85)).heap.size=w.heap.size+2:=by simp
 generalize((w.alloc (.cells #[.string s,.int .i64 (L:Nat)] 83)).alloc (.cells #[.string ⟨#[]⟩,.int .i64 0,.slice none 0 0] 85))=W at*;have p0:W.cell? ⟨w.heap.size,0,none⟩=some (.string s):=Am7 _ _ 0 _ _ _ b;have y:Aside (W.heap[w.heap.size]?=some (.cells #[.string s,.int .i64 (L:Nat)] 83 (0,0))∧W.heap[w.heap.size+1]?=some (.cells #[.string ⟨#[]⟩,.int .i64 0,.slice none 0 0] 85 (0,0))∧Ara w W∧W.heap.size=w.heap.size+2):=⟨b,c,l,q⟩;clear b c l q;go_upto_region 2 with(at_make;refine Apr _ rfl (.tmp 8) (.tmp 8) 64 rfl W.heap.size 3 i0 (.int .i64 0) 1 underlying64 hi J K .i64 .i64 _ _ (s.size+1) rfl rfl (by omega) (by omega) (by rw[M];omega) (by unfold maxLen;omega) (Ane _) ?_;intro w1 D B)
 have E:IntRow w1 W.heap.size (List.replicate (s.size+1) 0):=IntRow.made D;have u:Ara W w1:=(Aa.refl _ _).grown B (fun k hk=>by cases hk);have q0:w1.cell? ⟨w.heap.size,0,none⟩=some (.string s):=(u.cell (p:=⟨w.heap.size,0,none⟩) (by have:=y.o.2.2.2;show w.heap.size<_;omega) id).trans p0;have G:Aside (IntRow w1 W.heap.size (List.replicate (s.size+1) 0)∧Ara W w1):=⟨E,u⟩;clear D B E u p0;go_wp2
 go_loopw[13] (fun i wr=> ∃k:Nat,k≤s.size∧i= .int .i64 k∧IntRow wr W.heap.size (Ec s.data.toList k)∧Ara W wr) (fun i _=>s.size-(intOf i).toNat)
 case atStart=>exact⟨0,Ann _,rfl,by rw[Aam,f.o];exact G.o.1,G.o.2⟩
 case round=>
  clear q0 G;obtain⟨k,hk,rfl,m,d⟩:=hrel;have I:w.heap.size<W.heap.size:=by have:=y.o.2.2.2;omega
  have q0:wr.cell? ⟨w.heap.size,0,none⟩=some (.string s):=(d.cell (p:=⟨w.heap.size,0,none⟩) I id).trans (Am7 _ _ 0 _ _ _ y.o.1)
  by_cases x:k<s.size
  ·have P:=Wk s.data.toList k;rw[f.o]at P;have c1:=m.cell (i:=k) (by omega);obtain⟨old,c2⟩: ∃old,wr.cell? ⟨W.heap.size,k+1,none⟩=some old:=⟨_,m.cell (i:=k+1) (by omega)⟩;rw[Ab6 _ _ _ _ (Ane _)]at c1;have f2:=m.free (k+1);have n:=Zg s.data.toList k;have HS:=m.set (k+1) (Eb s.data.toList (k+1));rw[Aan _ _ (by rw[f.o];exact x)]at HS;have O:s.data.toList.getD k 0=s[k]:=by
    rw[Am4,Am5 (by rw[f.o];exact x)];rfl
   obtain⟨z,F⟩: ∃z,z=Hm.on8 s[k]:=⟨_,rfl⟩;have e1:Eb s.data.toList (k+1)=Eb s.data.toList k+z:=by
    rw[Eb,O,F]
   have r:=fun W=>S.o s[k] W;have U:z≤8:=by rw[F];exact Ab4 _
   rw[←F]at r;rw[e1]at HS;clear F O;obtain⟨o,Q⟩: ∃o,o=Eb s.data.toList k:=⟨_,rfl⟩;rw[←Q]at HS c1 n;clear Q;have N:Hid (IntRow _ W.heap.size (Ec s.data.toList (k+1))):=HS;have C:w.heap.size≠W.heap.size:=by omega
   have A:decide ((k:Int)<(s.size:Int))=true:=Ana (by omega);have V:(k:Int)<(s.size:Int)+1:=by omega
   have t:(k:Int)+1<(s.size:Int)+1:=by omega
   have Y:IntKind.i64.wrap ((k:Int)+1)=(k:Int)+1:=by rw[An9];omega
   have Z:IntKind.i64.wrap ((o:Int)+(z:Int))=(o:Int)+(z:Int):=by rw[An9];omega
   have aa:((k:Int)+1).toNat=k+1:=by omega
   have ab:(0:Int)≤(k:Int)+1:=by omega
   clear HS m P e1 y n U hs;have R:Hid (IntRow (wr.setCell ⟨W.heap.size,k+1,none⟩ (.int .i64 ((o:Int)+(z:Int)))).drew W.heap.size (Ec s.data.toList (k+1))):=by
    have:=N.o;rw[show((o+z:Nat):Int)=(o:Int)+(z:Int)from by omega]at this;exact this
   clear N;go_wp2_with fail
   go_region_with (first|(go_at_call 172;refine(r _).mono ?_;rintro e w' ⟨rfl,rfl⟩))
   all_goals
    go_wp2;go_roundw
    case rel=>exact⟨k+1,by omega,by go_num,R.o,(d.setCell (.inl (Ane _)) _).drew⟩
    case measure=>simp[intOf];omega
  ·obtain rfl:k=s.size:=by omega
   have A:decide ((s.size:Int)<(s.size:Int))=false:=Anc (by omega);have e0:Ec s.data.toList s.size=B6 s.data.toList:=by rw[←Ab5,f.o]
   rw[e0]at m;obtain⟨b,c,l,q⟩:=y.o;have t:=d.row b id;have a:=d.row c id;have C:w.heap.size+1≠W.heap.size:=by omega
   have X:wr.cell? ⟨w.heap.size,1,none⟩=some (.int .i64 (L:Nat)):=Am7 _ _ 1 _ _ _ t;have p0:wr.cell? ⟨w.heap.size+1,0,none⟩=some (.string ⟨#[]⟩):=Am7 _ _ 0 _ _ _ a;have p1:wr.cell? ⟨w.heap.size+1,1,none⟩=some (.int .i64 0):=Am7 _ _ 1 _ _ _ a;have p2:wr.cell? ⟨w.heap.size+1,2,none⟩=some (.slice none 0 0):=Am7 _ _ 2 _ _ _ a;have f0:wr.frozen? ⟨w.heap.size+1,0,none⟩=false:=Ang _ _ 0 _ _ a;have f1:wr.frozen? ⟨w.heap.size+1,1,none⟩=false:=Ang _ _ 1 _ _ a;have f2:wr.frozen? ⟨w.heap.size+1,2,none⟩=false:=Ang _ _ 2 _ _ a;have T:Aside (wr.heap[w.heap.size+1]?=some (.cells #[.string ⟨#[]⟩,.int .i64 0,.slice none 0 0] 85 (0,0))∧Ara w wr∧IntRow wr W.heap.size (B6 s.data.toList)∧w.heap.size≤W.heap.size):=⟨a,l.trans d (fun _ _ h=>h),m,by omega⟩;clear b c l q t a y m d e0 hk x hs;go_wp2;obtain⟨a,H,m,n⟩:=T.o;have h2:=Anb _ _ 2 _ _ (.slice (some ⟨W.heap.size,0,none⟩) (s.size+1) (s.size+1)) (Anb _ _ 1 _ _ (.int .i64 (L:Nat)) (Anb _ _ 0 _ _ (.string s) a));refine Aok (v:= .agg #[.string s,.int .i64 (L:Nat),.slice (some ⟨W.heap.size,0,none⟩) (s.size+1) (s.size+1)]) (Ao0 results147 _ _ (w.heap.size+1) 85 _ (0,0) _ rfl h2 underlying85 rfl (by kernel_rfl)) rfl ⟨W.heap.size,n,rfl,?_,?_⟩
   ·exact m.kept (L0 wr (w.heap.size+1) _ _ _) (fun e=>C e.symm)
   ·exact H.trans (L0 wr (w.heap.size+1) _ _ _) (fun j h1 h2=>by omega)
def Dz(b:Hm.Br):Are:=[.bool b.whole,.int .u8 (b.val.toNat:Nat),.int .i64 (b.node:Nat)]
def Ch(n:Hm.Nd):Are:=[.int .i64 (n.depth:Nat),.int .i64 (n.frm:Nat),.int .i64 (n.siz:Nat),.bool n.b0.whole,.int .u8 (n.b0.val.toNat:Nat),.int .i64 (n.b0.node:Nat),.bool n.b1.whole,.int .u8 (n.b1.val.toNat:Nat),.int .i64 (n.b1.node:Nat)]
def Be:List Hm.Nd→Are
 |[]=>[]
 |n::r=>Ch n++Be r
theorem Nv(a b:List Hm.Nd):Be (a++b)=Be a++Be b:=by
 induction a with
 |nil=>rfl
 |cons n r ih=>show Ch n++Be (r++b)=_;rw[ih,←An4];rfl
theorem Aao(l:List Hm.Nd):(Be l).length=l.length*9:=by
 induction l with
 |nil=>rfl
 |cons n r ih=>show(Ch n++Be r).length=_;rw[Anf,ih,An8];show 9+_=_;omega
theorem Ag3(l:List Hm.Nd): ∀v∈Be l,v.oneCell'=true:=by
 induction l with
 |nil=>intro v a;simp[Be]at a
 |cons n r ih=>
  intro v a;rcases Aq3.1 a with h|h
  ·simp only[Ch,List.mem_cons,List.not_mem_nil,or_false]at h;rcases h with rfl|rfl|rfl|rfl|rfl|rfl|rfl|rfl|rfl<;>rfl
  ·exact ih v h
theorem Zh(l:List Hm.Nd)(i:Nat)(h:i<l.length)(n:Hm.Nd):l.set i n=l.take i++(n::l.drop (i+1)):=by
 rw[List.set_eq_take_append_cons_drop,if_pos h]
theorem Akq(l:List Hm.Nd)(i:Nat)(h:i<l.length):l=l.take i++(Ab l i::l.drop (i+1)):=by
 rw[←Zh l i h];unfold Ab;rw[Am4,Am5 h];exact(List.set_getElem_self h).symm
theorem St(l:List Hm.Nd)(i:Nat)(h:i<l.length)(n:Hm.Nd):Be (l.set i n)=Be (l.take i)++(Ch n++Be (l.drop (i+1))):=by
 rw[Zh l i h,Nv];rfl
theorem Pw(l:List Hm.Nd)(i:Nat)(h:i<l.length):Be l=Be (l.take i)++(Ch (Ab l i)++Be (l.drop (i+1))):=by
 conv=>lhs;rw[Akq l i h]
 rw[Nv];rfl
theorem Agf(a b c:Are)(j:Nat)(v:Value)(h:j<b.length):(a++(b++c)).set (a.length+j) v=a++(b.set j v++c):=by
 rw[Aot _ _ (by omega),Ap8,List.set_append_left _ _ h]
theorem Io(l:List Hm.Nd)(i:Nat)(h:i<l.length):(Be (l.take i)).length=i*9:=by
 rw[Aao,Anp,Ap7 (by omega)]
theorem Ag4(l:List Hm.Nd)(i j:Nat)(h:i<l.length)(a:j<9):(Be l)[i*9+j]?=(Ch (Ab l i))[j]?:=by
 rw[Pw l i h,Ans (by rw[Io l i h];omega),Io l i h,Ap8,An6 (by show j<9;exact a)]
theorem Ut(l:List Hm.Nd)(i j:Nat)(h:i<l.length)(a:j<9)(v:Value)(n:Hm.Nd)(e:Ch n=(Ch (Ab l i)).set j v):(Be l).set (i*9+j) v=Be (l.set i n):=by
 rw[St l i h n,e,Pw l i h];have:=Agf (Be (l.take i)) (Ch (Ab l i)) (Be (l.drop (i+1))) j v (by show j<9;exact a);rw[Io l i h]at this;exact this
theorem Wl(l:List Hm.Nd)(i s:Nat)(h:i<l.length):(Be l).set (i*9+2) (.int .i64 (s:Nat))=Be (E4 l i s):=Ut l i 2 h (by omega) _ _ rfl
theorem Ag5(l:List Hm.Nd)(i s:Nat)(h:i<l.length):(Be l).set (i*9+1) (.int .i64 (s:Nat))=Be (Ea l i s):=Ut l i 1 h (by omega) _ _ rfl
theorem Zi(l:List Hm.Nd)(i s:Nat)(h:i<l.length)(hs:s<2)(b:Hm.Br):(((Be l).set (i*9+3+s*3) (.bool b.whole)).set (i*9+3+s*3+1) (.int .u8 (b.val.toNat:Nat))).set (i*9+3+s*3+2) (.int .i64 (b.node:Nat))=Be (B7 l i s b):=by
 unfold B7;rw[St l i h,Pw l i h];have tl:=Io l i h;have m1:=fun(B:Are) (j:Nat) (v:Value) (a:j<B.length)=>Agf (Be (l.take i)) B (Be (l.drop (i+1))) j v a;rw[tl]at m1;rcases(show s=0∨s=1 by omega)with rfl|rfl
 ·rw[show i*9+3+0*3=i*9+3 from by omega,show i*9+3+1=i*9+4 from by omega,show i*9+3+2=i*9+5 from by omega,m1 _ 3 _ (by show 3<9;omega),m1 _ 4 _ (by show 4<9;omega),m1 _ 5 _ (by show 5<9;omega)];rfl
 ·rw[show i*9+3+1*3=i*9+6 from by omega,show i*9+6+1=i*9+7 from by omega,show i*9+6+2=i*9+8 from by omega,m1 _ 6 _ (by show 6<9;omega),m1 _ 7 _ (by show 7<9;omega),m1 _ 8 _ (by show 8<9;omega)];rfl
theorem Hv{w:World}{base g cap n:Nat}{nds:List Hm.Nd}(h:w.ownsRow base 195 9 (.slice (some ⟨g,0,none⟩) n cap) n (Be nds))(hn:n=nds.length){i:Nat}(hi:i<nds.length)(j:Nat)(a:j<9):w.cell? ⟨g,i*9+j,none⟩=(Ch (Ab nds i))[j]?:=by
 rw[h.cellAt (i*9+j) (by omega),Ag4 _ _ _ hi a]
theorem Ag6{w:World}{base g cap n:Nat}{nds:List Hm.Nd}(h:w.ownsRow base 195 9 (.slice (some ⟨g,0,none⟩) n cap) n (Be nds))(hn:n=nds.length){i:Nat}(hi:i<nds.length):w.cell? ⟨g,i*9,none⟩=some (.int .i64 ((Ab nds i).depth:Nat)):=Hv h hn hi 0 (by omega)
theorem Vt{w:World}{base g cap n:Nat}{nds:List Hm.Nd}(h:w.ownsRow base 195 9 (.slice (some ⟨g,0,none⟩) n cap) n (Be nds))(hn:n=nds.length){i:Nat}(hi:i<nds.length):w.cell? ⟨g,i*9+1,none⟩=some (.int .i64 ((Ab nds i).frm:Nat)):=Hv h hn hi 1 (by omega)
theorem Vu{w:World}{base g cap n:Nat}{nds:List Hm.Nd}(h:w.ownsRow base 195 9 (.slice (some ⟨g,0,none⟩) n cap) n (Be nds))(hn:n=nds.length){i:Nat}(hi:i<nds.length):w.cell? ⟨g,i*9+2,none⟩=some (.int .i64 ((Ab nds i).siz:Nat)):=Hv h hn hi 2 (by omega)
theorem Ai8:(prog.info? 195).map (fun i=>(i.zero,i.size,i.bytes))=some (some (.agg (Ch {}).toArray),9,56):=by kernel_rfl
end Go.Proofs.YtegnkfdbmmndaaaGreat
namespace Go.Proofs.YtegnkfdbmmndaaaGreat
open Hm Go.Proofs.Tryz
namespace Hm
theorem Akr: ∀(b:Fin 256) (r:Fin 9),Lib.onesCount (b.val*2^(8-r.val)%256)=rk (fun j=>decide (b.val/2^j%2=1)) r.val:=by decide+kernel
theorem Agg(bs:Arc)(k r:Nat)(b:r≤8):rk (Am bs) (8*k+r)=rk (Am bs) (8*k)+Lib.onesCount ((bs.getD k 0).toNat*2^(8-r)%256):=by
 rw[Wc,Akr ⟨_,(bs.getD k 0).toNat_lt⟩ ⟨r,by omega⟩];congr 1;exact Abp fun j a=>Ama bs k j (by omega)
theorem Nh(bs:Arc): ∀k,Eb bs k=rk (Am bs) (8*k)
 |0=>rfl
 |k+1=>by
  rw[Eb,Nh bs k,show 8*(k+1)=8*k+8 from by omega,Agg bs k 8 (Ane _),Wj];have:=(bs.getD k 0).toNat_lt;rw[show 8-8=0 from rfl,Nat.pow_zero,Aqk,Ao7 this]
theorem Amf(bs:Arc)(p:Nat):Eb bs (p/8)+Lib.onesCount ((bs.getD (p/8) 0).toNat*2^(8-p%8)%256)=rk (Am bs) p:=by
 have h:=Agg bs (p/8) (p%8) (by omega);rw[show 8*(p/8)+p%8=p from by omega]at h;rw[h,Nh]
end Hm
end Go.Proofs.YtegnkfdbmmndaaaGreat
