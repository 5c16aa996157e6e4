import Derived.Test.YtegnkfdbmmndaaaGreatJ20

set_option maxHeartbeats 8000000
namespace Go.Proofs.YtegnkfdbmmndaaaGreat
open Hm Go.Proofs.Tryz Go.RowKit
namespace Hm
def Ac(fs:Arb):Arc:=fs.flatMap fun f=>f.2.data.toList
def Fa(fs:Arb)(k:Nat):Ard:=(List.range fs.length).map fun i=>if i<k then(Ac (fs.take (i+1))).length else 0
def Bf(fs:Arb):Ard:=(List.range fs.length).map fun i=>(Ac (fs.take (i+1))).length
theorem Vb(fs:Arb)(k:Nat)(h:k<fs.length):Ac (fs.take (k+1))=Ac (fs.take k)++fs[k].2.data.toList:=by
 rw[Anh h];unfold Ac;rw[Ao4];congr 1;simp
theorem Nn(fs:Arb)(k:Nat):(Ac (fs.take k)).length≤(Ac fs).length:=by
 have e:Ac fs=Ac (fs.take k)++Ac (fs.drop k):=by
  unfold Ac;rw[←Ao4,Ao5]
 rw[e,Anf];omega
theorem Aa1(fs:Arb)(k:Nat):(Fa fs k).length=fs.length:=by simp[Fa]
theorem Ej(fs:Arb):(Bf fs).length=fs.length:=by simp[Bf]
theorem Afe(fs:Arb):Fa fs 0=List.replicate fs.length 0:=by
 apply Aon<;>simp[Fa]
theorem Ah3(fs:Arb):Fa fs fs.length=Bf fs:=by
 apply Aon
 ·simp[Fa,Bf]
 ·intro i h1 h2;have:i<fs.length:=by simpa[Fa]using h1
  simp[Fa,Bf,this]
theorem Xl(fs:Arb)(k i:Nat)(h:i<(Fa fs k).length):(Fa fs k)[i]=if i<k then(Ac (fs.take (i+1))).length else 0:=by simp[Fa]
theorem Aff(fs:Arb)(k:Nat)(_h:k<fs.length):Fa fs (k+1)=(Fa fs k).set k (Ac (fs.take (k+1))).length:=by
 apply Aon
 ·simp[Fa]
 ·intro i h1 h2;rw[Aql,Xl,Xl]
  by_cases e:k=i
  ·subst e;simp
  ·rw[if_neg e]
   by_cases a:i<k
   ·rw[if_pos a,if_pos (by omega)]
   ·rw[if_neg a,if_neg (by omega)]
theorem Aju(fs:Arb): ∀e∈Bf fs,e≤(Ac fs).length:=by
 intro e a;obtain⟨i,_,rfl⟩:=List.mem_map.1 a;exact Nn fs _
end Hm
theorem Aa2(ao:Arf)(c:Nat)(fs:Arb)(w:World)(K:Ba w ao fs)(hm:fs.length≤40)(ht:(Ac fs).length≤6000):
  Calls prog 94 #[.slice ao fs.length c] w fun e w'=>e= .returned (.tuple #[.string ⟨(Ac fs).toArray⟩,.slice (some ⟨w.heap.size+1,0,none⟩) fs.length fs.length])∧IntRow w' (w.heap.size+1) (Bf fs)∧Ara w w':=by
 obtain⟨i0,hi,L,M,N⟩:=Aoo Lf
 go_enter func94,ntmps94
 go_wp2_with(at_make;refine Apr _ rfl (.tmp 9) (.tmp 9) 64 rfl w.heap.size 3 i0 (.int .i64 0) 1 underlying64 hi L M .i64 .i64 _ _ fs.length rfl rfl rfl rfl (by rw[N];omega) (by unfold maxLen;omega) (by simp) ?_;intro w1 s q)
 have F:(w.alloc (.cells #[.pointer none,.slice none 0 0] 201)).heap.size=w.heap.size+1:=by simp
 try rw[F]at s
 have D:IntRow w1 (w.heap.size+1) (Fa fs 0):=by rw[Afe];exact IntRow.made s
 have x:E1 w1 w.heap.size (.pointer none) (.slice none 0 0) (Ac (fs.take 0)):=
  ⟨by rw[q.block _ (by simp) (by simp)];exact Anj w _,by simpa[Ac,Ah]using World.ownsRow_nil w1 0 5 1,by simp[Value.ownBlock],.inl rfl,fun _=>rfl⟩
 have z:Ara w w1:=((Aa.refl (fun _=>False) w).alloc _).grown q (fun k hk=>by cases hk);clear s q
 go_loopw[13] (fun i wr=> ∃(k:Nat) (p v:Value),k≤fs.length∧i= .int .i64 k∧E1 wr w.heap.size p v (Ac (fs.take k))∧IntRow wr (w.heap.size+1) (Fa fs k)∧Ara w wr∧(∀j,v.ownBlock=some j→w.heap.size+1<j)) (fun i _=>fs.length-(intOf i).toNat)
 case atStart=>exact⟨0,_,_,Ann _,rfl,x,D,z,fun j h=>by cases h⟩
 case round=>
  clear D x z;obtain⟨k,p,v,hk,rfl,hb,t,l,f⟩:=hrel;have Q:=Nn fs k
  by_cases r:k<fs.length
  ·obtain⟨b,o,u,U,V,W⟩:=(K.kept l (fun a Z=>id)) k r;have R:=Nn fs (k+1);have O:Hid (Ac (fs.take (k+1))=Ac (fs.take k)++fs[k].2.data.toList):=Vb fs k r;have X:(Ac (fs.take k)).length+fs[k].2.size≤6000:=by
    have:=congrArg List.length O.o;have e3:fs[k].2.data.toList.length=fs[k].2.size:=by simp
    rw[Anf,e3]at this;omega
   have S:Hid (Fa fs (k+1)=(Fa fs k).set k (Ac (fs.take (k+1))).length):=Aff fs k r;have P:=Aa1 fs k;generalize fs[k].1=nm at*;generalize fs[k].2=ct at*;have y:E1 (wr.alloc (.cells #[.string nm,.string ct] 38)) w.heap.size p v (Ac (fs.take k)):=
    ⟨by rw[Below.heap_alloc _ _ _ (Anu hb.blk)];exact hb.blk,hb.own.alloc _,hb.ne,hb.adr,hb.nil⟩
   have H:=Xk w.heap.size p v _ ct _ y (by omega);rw[u];clear u K hb y;go_wp2_with fail;refine H.mono ?_;rintro e w2 ⟨v2,rfl,g,d,C⟩;have B:=Yw _ _ _ _ w2 g;rw[←O.o]at g B;have m:IntRow w2 (w.heap.size+1) (Fa fs k):=by
    refine IntRow.kept (w:=wr.alloc (.cells #[.string nm,.string ct] 38)) ?_ d ?_
    ·unfold IntRow;rw[Below.heap_alloc _ _ _ t.lt];exact t
    ·rintro(h|h)
     ·omega
     ·have:=f _ h;omega
   have hd:=m.cell (i:=k) (by omega);have Y:=m.free k;have J:Hid (IntRow (w2.setCell ⟨w.heap.size+1,k,none⟩ (.int .i64 ((Ac (fs.take (k+1))).length:Nat))) (w.heap.size+1) (Fa fs (k+1))):=by
    show IntRow _ _ _;rw[S.o];exact m.set k _
   have A:Ara w w2:=(l.alloc _).trans d (fun j h1 h2=>by
    rcases h2 with h2|h2
    ·omega
    ·have:=f _ h2;omega)
   have n: ∀j,v2.ownBlock=some j→w.heap.size+1<j:=fun j h=>by
    rcases C j h with h2|h2
    ·exact f j h2
    ·have:=Anu t;simp at h2;omega
   generalize(Fa fs k)[k]'(by omega)=old at hd;have I:Hid (E1 w2 w.heap.size (.pointer (some ⟨w.heap.size,0,none⟩)) v2 (Ac (fs.take (k+1)))):=g;clear H t m g d C l f;generalize(Ac (fs.take (k+1))).length=el at*
   go_wp2_with(go_at_call 130;refine B.mono ?_;rintro e w3 ⟨rfl,rfl⟩)
   go_roundw
   case rel=>
    have hb:=I.o;refine⟨k+1,_,v2,by omega,by go_num,⟨?_,?_,hb.ne,hb.adr,hb.nil⟩,J.o,A.setCell (.inl (by simp)) _,n⟩
    ·rw[Apm _ _ _ _ (by simp)];exact hb.blk
    ·exact ownsRow_setCell_other hb.own (fun e=>by have:=n _ e;simp at this) _
   case measure=>simp[intOf];omega
  ·obtain rfl:k=fs.length:=by omega
   rw[Aof]at hb;rw[Ah3]at t;have E:=Up _ _ _ _ wr hb (by omega);have J:Hid (IntRow wr (w.heap.size+1) (Bf fs)):=t;clear K hb t;generalize G:(⟨(Ac fs).toArray⟩:ByteArray)=txt at E;have T:Hid ((⟨(Ac fs).toArray⟩:ByteArray)=txt):=G;clear G
   go_wp2_with(go_at_call 131;refine E.mono ?_;rintro e w2 ⟨rfl,d⟩)
   go_ret2;rw[T.o];refine⟨rfl,J.o.kept d ?_,l.trans d (fun j h1 h2=>?_)⟩
   ·rintro(h|h)
    ·omega
    ·have:=f _ h;omega
   ·rcases h2 with h2|h2
    ·omega
    ·have:=f _ h2;omega
end Go.Proofs.YtegnkfdbmmndaaaGreat
namespace Go.Proofs.YtegnkfdbmmndaaaGreat
open Hm Go.Proofs.Tryz
namespace Hm
theorem Ajv(n:Nat):((List.range (n+1)).filter fun p=>decide (0<p)).length=n:=by
 induction n with
 |zero=>rfl
 |succ n ih=>rw[Apu,Ao8,Anf,ih];simp
theorem Ada(n:Nat):((List.range (n+1)).filter fun p=>decide (p%8=0)).length=n/8+1:=by
 induction n with
 |zero=>rfl
 |succ n ih=>
  rw[Apu,Ao8,Anf,ih]
  by_cases h:(n+1)%8=0
  ·simp[h];omega
  ·simp[h];omega
theorem Gm{s:Arc}{ps:Ard}(h:ps.Perm (List.range (s.length+1))):(Al s ps).length=s.length:=by
 unfold Al;rw[Anz,(h.filter _).length_eq,Ajv]
theorem Xm(ps:Ard)(wd:Nat):(Bx ps wd).length=(ps.filter fun p=>decide (p%8=0)).length*wd:=by
 unfold Bx;generalize(ps.filter fun p=>decide (p%8=0))=l;induction l with
 |nil=>simp
 |cons p r ih=>rw[Aoe,Anf,Do,ih,An8,Ape];omega
theorem Fk{n:Nat}{ps:Ard}(h:ps.Perm (List.range (n+1))):(A7 ps).length=n+1+(n/8+1)*Lib.bitLen (n/8):=by
 have a:ps.length=n+1:=by have:=h.length_eq;simpa using this
 unfold A7;rw[Anf,Anz,Xm,(h.filter _).length_eq,Ada,a,Ap1]
theorem L7(es:Ard)(n:Nat):(B4 es n).length=es.length*Dw es.length n+(es.length+n/2^Dw es.length n+1):=by
 unfold B4;rw[Ks,Anf,Hn,Ani]
end Hm
namespace Hm
def A8(ps:Ard):Nat:=ps.findIdx fun x=>x==0
def F7(cd:UInt8→List Bool)(hs:List (List Bool))(col:Arc):List Bool:=hs.flatMap fun h=>(col.filter fun b=>Le (cd b) h).map fun b=>(cd b).getD h.length false
def D5(L:Ard)(N:Nat)(col:Arc):List Bool:=(Az (lnB L) (Bh L) (Ao (lnB L) (Ae L) (2*N)).1 col N).map fun x=>decide (x=1)
def Cz(fs:Arb)(ps:Ard)(tr:List Bool):Arc:=
 [72,79,65,82,68,49,UInt8.ofNat fs.length]++leBytes (Ac fs).length 2++leBytes (A8 ps) 2++nameBytes fs++Ag (B4 (Bf fs) (Ac fs).length)++leBytes (Ai (lens (Ac fs))).length 2++Cc (lens (Ac fs)) (Ai (lens (Ac fs)))++Ag tr++Ag (A7 ps)
def K9(fs:Arb)(ps:Ard)(tr:List Bool):Arc:=Cz fs ps tr++leBytes (crc (Cz fs ps tr)) 4
theorem Kw{n:Nat}{ps:Ard}(h:ps.Perm (List.range (n+1))):Lib.idxOf (ps.map fun x:Nat=>(x:Int)) 0=(A8 ps:Int)∧A8 ps≤n:=by
 have g:ps.length=n+1:=by have:=h.length_eq;simpa using this
 have a:0∈ps:=h.symm.subset (by simp);have hk:ps.findIdx (fun x=>x==0)<ps.length:=List.findIdx_lt_length_of_exists ⟨0,a,by simp⟩;have f:ps[ps.findIdx (fun x=>x==0)]=0:=by
  have:=List.findIdx_getElem (p:=fun x:Nat=>x==0) (xs:=ps) (w:=hk);simpa using this
 refine⟨?_,by unfold A8;omega⟩;have d:=Lib.idxOf_hit (ps.map fun x:Nat=>(x:Int)) ps.length (ps.findIdx (fun x=>x==0)) 0 hk (by simp)
  (by simp[List.getD_eq_getElem?_getD,hk,f])
  (fun j e=>by
   have b:j<ps.length:=by omega
   have c:=List.not_of_lt_findIdx e;simp[List.getD_eq_getElem?_getD,b];simpa using c)
 rw[An5 (by simp)]at d;exact d
theorem No{s:Arc}{ps:Ard}(h:ps.Perm (List.range (s.length+1))): ∀b∈Al s ps,b∈s:=by
 intro b hb;unfold Al at hb;obtain⟨p,c,rfl⟩:=List.mem_map.1 hb;have a:=List.mem_filter.1 c;have d:0<p:=by simpa using a.2
 have h1:=h.subset a.1;have h2:p<s.length+1:=by simpa using h1
 rw[Am4,Am5 (by omega)];exact Anm _
theorem Adb(ln num:UInt8→Nat)(nds:List Nd)(n:Nat):Hd ln num nds [] n=[]:=rfl
theorem Iv(ln num:UInt8→Nat)(nds:List Nd)(N:Nat):Az ln num nds [] N=[]:=by
 induction N with
 |zero=>rfl
 |succ N ih=>rw[Fc,ih,Adb];rfl
theorem Pd{L:Ard}{N:Nat}{col:Arc}{hs:List (List Bool)}(c:Bu L)(f:Ends 32 (lnB L) (Ae L) N)(i: ∀b∈col,b∈Ae L)(m:Hk (J6 (lnB L) (Bh L)) hs):D5 L N col=F7 (J6 (lnB L) (Bh L)) hs col:=by
 by_cases k:Ae L=[]
 ·have l:col=[]:=by
   cases col with
   |nil=>rfl
   |cons b r=>have:=i b (Anl ..);rw[k]at this;simp at this
  subst l;unfold D5 F7;rw[Iv];simp
 ·have d:=f.nodes;have a:=f.len;have o:=f.side0 k;have hk:=c.numk;have n:=m.unique (d.heads hk (fun j e=>o j (by rw[a]at e;exact e)) c.num_lt (fun b hb=>(c.mem b).2 hb));rw[n];unfold D5 F7 P9;generalize(Ao (lnB L) (Ae L) (2*N)).1=nds at*;rw[←a];unfold Az;rw[List.map_flatMap,List.flatMap_map];rw[List.flatMap_def,List.flatMap_def];congr 1;refine Aqe fun j e=>?_;have h:j<nds.length:=by simpa using e
  unfold Hd Ap;rw[List.map_map];have e1:(col.filter fun b=>Le (J6 (lnB L) (Bh L) b) (Db (Ab nds j).depth (Ab nds j).num))=col.filter (D9 (lnB L) (Bh L) (Ab nds j)):=
   List.filter_congr fun b hb=>d.begins hk c.num_lt h (i b hb) (c.pos b (i b hb))
  rw[e1,Cj];refine Aqe fun b hb=>?_;have g:=List.mem_filter.1 hb;exact(Ai3 b _ (Aoc g.2).1).symm
end Hm
end Go.Proofs.YtegnkfdbmmndaaaGreat
namespace Go.Proofs.YtegnkfdbmmndaaaGreat
open Hm Go.Proofs.Tryz Go.RowKit
structure Eu(w wr:World)(pb:Nat)(gs:List Hm.Grp)(L:Ard)(v:Value)(vs:Are):Prop where
 grp:Dc wr (w.heap.size+1) v gs vs
 row:wr.heap[pb]?=some (.cells #[v] 213 (0,0))
 len:Es wr 139 (pb+1) L
 res:wr.heap[w.heap.size]?=some (.cells Tryz.zeroCells139 139 (0,0))
 kept:Ara w wr
 own: ∀k,v.ownBlock=some k→k≠pb∧k≠pb+1
 mem: ∀m,(h:m<vs.length)→ ∀k,vs[m].ownBlock=some k→k≠pb∧k≠pb+1
 hpb:w.heap.size<pb
theorem Eu.grew{w wr wr':World}{pb:Nat}{gs:List Hm.Grp}{L:Ard}{v:Value}{vs:Are}(h:Eu w wr pb gs L v vs)(hk:Ara wr wr'):Eu w wr' pb gs L v vs:=
 ⟨⟨h.grp.len,hk.owns h.grp.own (fun _ _=>id),fun i h1 h2=>⟨(h.grp.mem i h1 h2).1.kept hk (fun _ _=>id),(h.grp.mem i h1 h2).2⟩⟩,hk.row h.row id,h.len.kept hk id,hk.row h.res id,h.kept.trans hk (fun _ _ h=>h),h.own,h.mem,h.hpb⟩
theorem Eu.take{w wr w2:World}{pb:Nat}{gs:List Hm.Grp}{L:Ard}{v v2:Value}{vs:Are}(h:Eu w wr pb gs L v vs)(i:0<gs.length)
  (n:w2.heap[pb]?=some (.cells #[v2] 213 (0,0))) (l:Dc w2 (w.heap.size+1) v2 (gs.eraseIdx (Hm.first gs)) (vs.eraseIdx (Hm.first gs))) (g:v2.ownBlock=v.ownBlock) (hk:Aa (fun k=>k=pb∨v.ownBlock=some k) wr w2):
  Eu w w2 pb (Hm.left gs) L v2 (vs.eraseIdx (Hm.first gs))∧Fq w2 (vs.getD (Hm.first gs) undef) (Ar gs).2.2∧ ∀k,(vs.getD (Hm.first gs) undef).ownBlock=some k→k≠pb∧k≠pb+1∧v2.ownBlock≠some k:=by
 have d:=Gw gs i;have o:=h.grp.len;have hM:=h.grp.memD d;have b: ∀k,(vs.getD (Hm.first gs) undef).ownBlock=some k→k≠pb∧k≠pb+1:=fun k a=>by
  rw[Am4,Am5 (by omega)]at a;exact h.mem _ _ k a
 have f:pb+1≠pb:=by omega
 refine⟨⟨l,n,h.len.kept hk ?_,hk.row h.res ?_,h.kept.trans hk ?_,fun k a=>h.own k (by rw[←g];exact a),?_,h.hpb⟩,hM.1.kept hk ?_,fun k a=>⟨(b k a).1,(b k a).2,by rw[g];exact hM.2 k a⟩⟩
 ·rintro(e|e)
  ·omega
  ·exact(h.own _ e).2 rfl
 ·rintro(e|e)
  ·have:=h.hpb;omega
  ·have:=(h.grp.own.lt _ e).1;omega
 ·rintro j p (e|e)
  ·have:=h.hpb;omega
  ·have:=(h.grp.own.lt _ e).1;omega
 ·intro m q k a;rw[List.getElem_eraseIdx]at a
  by_cases c:m<Hm.first gs
  ·rw[dif_pos c]at a;exact h.mem _ _ k a
  ·rw[dif_neg c]at a;exact h.mem _ _ k a
 ·rintro k a (e|e)
  ·exact(b k a).1 e
  ·exact hM.2 k a e
theorem Eu.bump{w wr:World}{pb:Nat}{gs:List Hm.Grp}{L:Ard}{v:Value}{vs:Are}(h:Eu w wr pb gs L v vs)(i x:Nat):Eu w (wr.setCell ⟨pb+1,i,none⟩ (.int .i64 (x:Nat))) pb gs (L.set i x) v vs:=by
 have hk:Aa (fun k=>k=pb+1) wr (wr.setCell ⟨pb+1,i,none⟩ (.int .i64 (x:Nat))):=(Aa.refl (fun k=>k=pb+1) wr).setCell (p:=⟨pb+1,i,none⟩) (.inr rfl) _;have b:=h.hpb;exact⟨⟨h.grp.len,hk.owns h.grp.own (fun k a e=>(h.own k a).2 e),fun m h1 h2=>⟨(h.grp.mem m h1 h2).1.kept hk (fun k a e=>(h.mem m h2 k a).2 e),(h.grp.mem m h1 h2).2⟩⟩,hk.row h.row (by omega),h.len.set i x,hk.row h.res (by omega),h.kept.setCell (.inl (show w.heap.size≤pb+1 by omega)) _,h.own,h.mem,h.hpb⟩
theorem Eu.app{w wr wa w8:World}{pb:Nat}{gs:List Hm.Grp}{L:Ard}{v v8 mv:Value}{vs:Are}{g:Hm.Grp}(h:Eu w wr pb gs L v vs)(a:Ara wr wa)(r:Fq wa mv g.2.2)
  (f: ∀k,mv.ownBlock=some k→v.ownBlock≠some k∧k≠pb∧k≠pb+1) (t:w8.ownsRow (w.heap.size+1) 216 3 v8 (gs.length+1) (C6 gs vs++C6 [g] [mv])) (n:wa.grownBy w8 v.ownBlock) (l:Cb wa v v8):
  Eu w (w8.setCell ⟨pb,0,none⟩ v8) pb (gs++[g]) L v8 (vs++[mv]):=by
 have u:=h.hpb;have q:=h.len.lt;have x:=a.size;have G8:=h.grp.append a (by omega) r (fun k hk=>(f k hk).1) t n l;have k8:Aa (fun k=>v.ownBlock=some k) wa w8:=(Aa.refl _ _).grown n (fun j o=> .inr o);have kp:Aa (fun k=>k=pb) w8 (w8.setCell ⟨pb,0,none⟩ v8):=(Aa.refl (fun k=>k=pb) w8).setCell (p:=⟨pb,0,none⟩) (.inr rfl) _;have d: ∀k,v8.ownBlock=some k→k≠pb∧k≠pb+1:=fun k hk=>by
  rcases l k hk with y|y
  ·exact h.own k y
  ·omega
 have c: ∀m,(r:m<(vs++[mv]).length)→ ∀k,(vs++[mv])[m].ownBlock=some k→k≠pb∧k≠pb+1:=by
  intro m s k hk
  by_cases i:m<vs.length
  ·rw[List.getElem_append_left i]at hk;exact h.mem m i k hk
  ·rw[List.getElem_append_right (by omega)]at hk;simp at hk;exact⟨(f k hk).2.1,(f k hk).2.2⟩
 have r8:w8.heap[pb]?=some (.cells #[v] 213 (0,0)):=k8.row (a.row h.row id) (fun e=>(h.own _ e).1 rfl);have b: ∀k,v.ownBlock=some k→w.heap.size+1≤k:=fun k hk=>(h.grp.own.lt k hk).1;refine⟨⟨G8.len,kp.owns G8.own (fun k hk e=>(d k hk).1 e),fun m h1 h2=>⟨(G8.mem m h1 h2).1.kept kp (fun k hk e=>(c m h2 k hk).1 e),(G8.mem m h1 h2).2⟩⟩,Anb _ _ 0 _ _ _ r8,((h.len.kept a id).kept k8 (fun e=>(h.own _ e).2 rfl)).kept kp (by omega),kp.row (k8.row (a.row h.res id) (fun e=>by have:=b _ e;omega)) (by omega),?_,d,c,u⟩;exact((h.kept.trans a (fun _ _ h=>h)).trans k8 (fun j o e=>by have:=b _ e;omega)).setCell (.inl (show w.heap.size≤pb by omega)) _
theorem Yx(s:ByteArray)(cn:Nat)(w:World)(hs:s.size≤6000)(gs:List Hm.Grp)(t:Aj s.data.toList 256=gs)(h1:gs.length=1)(D:cn<256)(B:(gs.getD 0 (0,0,[])).2.1.toNat=cn):
  Calls prog 96 #[.string s] w fun e w'=>e= .returned (.agg (Ad (Gh 256 cn 1)).toArray)∧Ara w w':=by
 have q:=Uz s (w.alloc (.cells Tryz.zeroCells139 139)) hs;rw[t]at q
 go_enter func96,ntmps96
 go_wp2_with fail;refine q.mono ?_;rintro e w1 ⟨v,vs,rfl,y,l⟩;clear q t;have m:=y.own;rw[h1]at m;obtain⟨g,cap,J,H,F⟩:=Ck m (by omega);subst J;have I:w.heap.size+1≤w1.heap.size:=by have:=l.size;simpa using this
 have E:w.heap.size<g:=by have:=m.lt g rfl;simp at this;omega
 have G:w1.cell? ⟨g,1,none⟩=some (.int .u8 (cn:Nat)):=by
  have h2:=(y.cellsD (i:=0) (by omega)).2.1;rw[B,Nat.zero_mul]at h2;exact h2
 have k:w1.heap[w.heap.size]?=some (.cells Tryz.zeroCells139 139 (0,0)):=l.row (Anj w _) id;have n:Ara w w1:=((Aa.refl (fun _=>False) w).alloc _).trans l (fun _ _ h=>h);clear m l y B h1;have p:((w1.alloc (.cells #[.slice (some ⟨g,0,none⟩) 1 cap] 213)).alloc (.cells (Ad (Gh 256 cn 1)).toArray 139)).cell? ⟨w1.heap.size,0,none⟩=some (.slice (some ⟨g,0,none⟩) 1 cap):=Am7 _ _ 0 _ _ _ (Apb w1 _ _);have a:((w1.alloc (.cells #[.slice (some ⟨g,0,none⟩) 1 cap] 213)).alloc (.cells (Ad (Gh 256 cn 1)).toArray 139)).heap[w1.heap.size+1]?=some (.cells (Ad (Gh 256 cn 1)).toArray 139 (0,0)):=Apc w1 _ _;have b:((w1.alloc (.cells #[.slice (some ⟨g,0,none⟩) 1 cap] 213)).alloc (.cells (Ad (Gh 256 cn 1)).toArray 139)).heap[w.heap.size]?=some (.cells Tryz.zeroCells139 139 (0,0)):=by
  rw[Below.heap_alloc _ _ _ (by simp;omega),Below.heap_alloc _ _ _ (by omega)];exact k
 have d:Ara w ((w1.alloc (.cells #[.slice (some ⟨g,0,none⟩) 1 cap] 213)).alloc (.cells (Ad (Gh 256 cn 1)).toArray 139)):=(n.alloc _).alloc _;have x:Hid (((w1.alloc (.cells #[.slice (some ⟨g,0,none⟩) 1 cap] 213)).alloc (.cells (Ad (Gh 256 cn 1)).toArray 139)).cell? ⟨w1.heap.size,0,none⟩=some (.slice (some ⟨g,0,none⟩) 1 cap)∧
  ((w1.alloc (.cells #[.slice (some ⟨g,0,none⟩) 1 cap] 213)).alloc (.cells (Ad (Gh 256 cn 1)).toArray 139)).heap[w1.heap.size+1]?=some (.cells (Ad (Gh 256 cn 1)).toArray 139 (0,0))∧
  ((w1.alloc (.cells #[.slice (some ⟨g,0,none⟩) 1 cap] 213)).alloc (.cells (Ad (Gh 256 cn 1)).toArray 139)).heap[w.heap.size]?=some (.cells Tryz.zeroCells139 139 (0,0))∧
  Ara w ((w1.alloc (.cells #[.slice (some ⟨g,0,none⟩) 1 cap] 213)).alloc (.cells (Ad (Gh 256 cn 1)).toArray 139))):=⟨p,a,b,d⟩
 clear p a b d n k;have u:Tryz.zeroCells139.size=256:=by rw[Kb,Bm,Ani]
 go_wp2_with fail;rw[Akv];generalize(w1.alloc (.cells #[.slice (some ⟨g,0,none⟩) 1 cap] 213)).alloc (.cells (Ad (Gh 256 cn 1)).toArray 139)=W at x⊢;have c:(Ad (Gh 256 cn 1)).toArray.size=256:=by rw[Bm,Ach]
 have f:=Fv (Gh 256 cn 1);generalize hA:(Ad (Gh 256 cn 1)).toArray=arr at x c f;have C:Hid ((Ad (Gh 256 cn 1)).toArray=arr):=hA;clear hA;obtain⟨p,a,b,d⟩:=x.o;have r:Hid (W.heap[w1.heap.size+1]?=some (.cells arr 139 (0,0))∧W.heap[w.heap.size]?=some (.cells Tryz.zeroCells139 139 (0,0))∧arr.all (·.oneCell')=true∧Ara w W∧Tryz.zeroCells139.size=arr.size):=⟨a,b,f,d,by rw[u,c]⟩;clear a b f d x u;refine wp_loop_rounds 1 ?_;rw[rounds_succ]
 go_wp2_with(first
  |(refine Aoh rfl 139 _ rfl (w1.heap.size+1) rfl 139 arr (0,0) _ r.o.1 underlying139 rfl (by rw[c];exact Cf) ?_)
  |(refine wpList_store_row _ rfl 139 _ _ rfl w.heap.size 139 _ arr rfl rfl r.o.2.1 (by rw[c];exact Cf) r.o.2.2.2.2 r.o.2.2.1 ?_;intro w3 A z))
 refine Aok (v:= .agg arr) (Ao0 results96 _ w3 w.heap.size 139 arr (0,0) _ rfl A underlying139 rfl (by rw[c];exact Cf)) rfl ⟨by rw[C.o],?_⟩;exact r.o.2.2.2.1.trans z (fun j h1 h2=>by omega)
theorem Afg(s:ByteArray)(w:World)(hs:s.size≤6000):
  Calls prog 96 #[.string s] w fun e w'=>e= .returned (.agg (Ad (Hm.lens s.data.toList)).toArray)∧Ara w w':=by
 have aF:=Uz s (w.alloc (.cells Tryz.zeroCells139 139)) hs;have G:=Oz s.data.toList (by simpa using hs)
 by_cases h1:(Aj s.data.toList 256).length=1
 ·have hL:Hm.lens s.data.toList=Gh 256 ((Aj s.data.toList 256).getD 0 (0,0,[])).2.1.toNat 1:=by
   unfold Hm.lens;simp only[];rw[if_pos h1];rfl
  rw[hL];exact Yx s _ w hs _ rfl h1 (UInt8.toNat_lt _) rfl
 have hL:Hm.lens s.data.toList=(Bv (Aj s.data.toList 256) (List.replicate 256 0) ((Aj s.data.toList 256).length-1)).2:=by
  unfold Hm.lens;simp only[];rw[if_neg h1]
 rw[hL];generalize Aj s.data.toList 256=gs at*;clear hL;have bv:=G.len;have ba: ¬((gs.length:Int)=1):=by omega
 go_enter func96,ntmps96
 go_wp2_with fail;refine aF.mono ?_;rintro e w1 ⟨v,vs,rfl,L,Q⟩;clear aF;have q:v.oneCell'=true∧ ∃a c,v= .slice a gs.length c:=by
  rcases L.own.2 with⟨rfl,h0⟩|⟨g,cap,cur,rfl,_⟩
  ·exact⟨rfl,none,0,by rw[h0]⟩
  ·exact⟨rfl,_,_,rfl⟩
 obtain⟨_,av,cv,ev⟩:=q;subst ev;have b2:w.heap.size+1≤w1.heap.size:=by have:=Q.size;simpa using this
 have HS:Hid (Eu w ((w1.alloc (.cells #[.slice av gs.length cv] 213)).alloc (.cells Tryz.zeroCells139 139)) w1.heap.size gs (List.replicate 256 0) (.slice av gs.length cv) vs):=by
  have S:Ara w1 ((w1.alloc (.cells #[.slice av gs.length cv] 213)).alloc (.cells Tryz.zeroCells139 139)):=((Aa.refl _ _).alloc _).alloc _;have hb:(w.alloc (.cells Tryz.zeroCells139 139)).heap.size=w.heap.size+1:=by simp
  rw[hb]at L;refine⟨⟨L.len,S.owns L.own (fun _ _=>id),fun i h1 h2=>⟨(L.mem i h1 h2).1.kept S (fun _ _=>id),(L.mem i h1 h2).2⟩⟩,Apb w1 _ _,?_,S.row (Q.row (Anj w _) id) id,(((Aa.refl _ w).alloc _).trans Q (fun _ _ h=>h)).trans S (fun _ _ h=>h),fun k hk=>?_,fun m hm k hk=>?_,by omega⟩
  ·unfold Es;rw[Apc w1 _ _,Kb]
  ·have:=(L.own.lt k hk).2;omega
  ·obtain⟨gg,cc,ee,_,_,bj,_⟩:=(L.mem m (by have:=L.len;omega) hm).1;rw[ee]at hk;cases hk;show gg≠_∧gg≠_;omega
 clear L Q;go_wp2_with fail;have d:=HS.o;clear HS;have ay:((gs.length:Int)==1)=false:=by rw[Aod];exact ba
 rw[ay];clear ay;generalize(w1.alloc (.cells #[.slice av gs.length cv] 213)).alloc (.cells Tryz.zeroCells139 139)=W0 at*
 go_loopg [20] (gs.length-1) (fun k _ wr=> ∃(j:Nat) (v':Value) (vs':Are),j+k=gs.length-1∧Eu w wr w1.heap.size (Bv gs (List.replicate 256 0) j).1 (Bv gs (List.replicate 256 0) j).2 v' vs'∧Kz (Bv gs (List.replicate 256 0) j).1∧(Bv gs (List.replicate 256 0) j).1.length+j=gs.length∧(∀x∈(Bv gs (List.replicate 256 0) j).2,x≤256*j)∧(Bv gs (List.replicate 256 0) j).2.length=256)
 case atStart=>exact⟨0,_,vs,by omega,d,G,rfl,fun x hx=>by rw[List.eq_of_mem_replicate hx];omega,Ani⟩
 case round=>
  clear d;obtain⟨j,v',vs',aY,d,P,aZ,af,X⟩:=hrel;have HN:Hid (Bv gs (List.replicate 256 0) (j+1)=(Hm.step (Bv gs (List.replicate 256 0) j).1,Hm.bump (Bv gs (List.replicate 256 0) j).2 (K0 (Bv gs (List.replicate 256 0) j).1).2.2)):=rfl;have HZ:Hid (Bv gs (List.replicate 256 0) j=((Bv gs (List.replicate 256 0) j).1,(Bv gs (List.replicate 256 0) j).2)):=rfl;generalize(Bv gs (List.replicate 256 0) j).1=g1 at*;generalize(Bv gs (List.replicate 256 0) j).2=L1 at*;have q: ∃a c,v'= .slice a g1.length c:=by
   rcases d.grp.own.2 with⟨rfl,h0⟩|⟨g,cap,cur,rfl,_⟩
   ·exact⟨none,0,by rw[h0]⟩
   ·exact⟨_,_,rfl⟩
  obtain⟨a',c',ev⟩:=q;subst ev;have aS:wr.cell? ⟨w1.heap.size,0,none⟩=some (.slice a' g1.length c'):=Am7 _ _ 0 _ _ _ d.row
  by_cases a6:1<g1.length
  ·have a1:decide (1<g1.length)=true:=by simp;omega
   have aa:decide ((1:Int)<(g1.length:Int))=true:=by simp;omega
   have a2:=P.len;have hleft:=Eh g1 (by omega);have aH:=Rz (w.heap.size+1) w1.heap.size _ g1 vs' wr d.grp d.row (fun e=>(d.own _ e).1 rfl) (fun m hm e=>(d.mem m hm _ e).1 rfl) a2 (by omega);have ap:Hid (Eu w wr w1.heap.size g1 L1 (.slice a' g1.length c') vs'):=d;have M:Hid (Kz g1∧(∀x∈L1,x≤256*j)):=⟨P,af⟩;clear d P af;go_wp2_with fail;refine aH.mono ?_;rintro e w2 ⟨v2,gw,gl,gv,rfl,ac,H,I,aD,au,aB,a4⟩;obtain⟨st2,N,Y⟩:=ap.o.take (by omega) aD au aB a4;clear aH aD au aB a4;rw[←I]at N Y;obtain⟨mA,cA,eA,-⟩:=id N;subst eA;obtain rfl:gw=(Ar g1).1:=ac;obtain rfl:gl=(Ar g1).2.1.toNat:=H;clear I;have al:Hid (Fq w2 (.slice (some ⟨mA,0,none⟩) (Ar g1).2.2.length cA) (Ar g1).2.2):=N;have a0:=Y mA rfl;clear N Y ap aS;have st2':=st2.grew (((Aa.refl (fun _=>False) w2).alloc (.cells #[.int .i64 ((Ar g1).1:Nat),.int .u8 ((Ar g1).2.1.toNat:Nat),.slice (some ⟨mA,0,none⟩) (Ar g1).2.2.length cA] 216)));have aI:=Rz (w.heap.size+1) w1.heap.size _ (Hm.left g1) _ _ st2'.grp st2'.row (fun e=>(st2'.own _ e).1 rfl) (fun m hm e=>(st2'.mem m hm _ e).1 rfl) (by omega) (by omega);have J:=Anj w2 (.cells #[.int .i64 ((Ar g1).1:Nat),.int .u8 ((Ar g1).2.1.toNat:Nat),.slice (some ⟨mA,0,none⟩) (Ar g1).2.2.length cA] 216);have a5:Ara w2 (w2.alloc (.cells #[.int .i64 ((Ar g1).1:Nat),.int .u8 ((Ar g1).2.1.toNat:Nat),.slice (some ⟨mA,0,none⟩) (Ar g1).2.2.length cA] 216)):=(Aa.refl _ _).alloc _;have an:Hid (Eu w (w2.alloc (.cells #[.int .i64 ((Ar g1).1:Nat),.int .u8 ((Ar g1).2.1.toNat:Nat),.slice (some ⟨mA,0,none⟩) (Ar g1).2.2.length cA] 216)) w1.heap.size (Hm.left g1) L1 v2 (vs'.eraseIdx (Hm.first g1))∧(∀k,v2.ownBlock=some k→k<w2.heap.size)∧
    (w2.alloc (.cells #[.int .i64 ((Ar g1).1:Nat),.int .u8 ((Ar g1).2.1.toNat:Nat),.slice (some ⟨mA,0,none⟩) (Ar g1).2.2.length cA] 216)).heap[w2.heap.size]?=some (.cells #[.int .i64 ((Ar g1).1:Nat),.int .u8 ((Ar g1).2.1.toNat:Nat),.slice (some ⟨mA,0,none⟩) (Ar g1).2.2.length cA] 216 (0,0))∧
    Fq (w2.alloc (.cells #[.int .i64 ((Ar g1).1:Nat),.int .u8 ((Ar g1).2.1.toNat:Nat),.slice (some ⟨mA,0,none⟩) (Ar g1).2.2.length cA] 216)) (.slice (some ⟨mA,0,none⟩) (Ar g1).2.2.length cA) (Ar g1).2.2∧v2.ownBlock≠some mA∧w1.heap.size<w2.heap.size):=
    ⟨st2',fun k hk=>(st2.grp.own.lt k hk).2,J,al.o.kept a5 (fun _ _=>id),a0.2.2,Anu st2.row⟩
   clear st2 st2' J a5 al;go_wp2_with fail;refine aI.mono ?_;rintro e w3 ⟨v3,gw,gl,gv,rfl,ac,H,I,aE,aw,aC,z⟩;obtain⟨sA,W,J,ax,aK,bl⟩:=an.o;obtain⟨st3,O,Z⟩:=sA.take (by omega) aE aw aC z;rw[←I]at O Z;obtain⟨mB,cB,eB,-⟩:=id O;subst eB;obtain rfl:gw=(Ar (Hm.left g1)).1:=ac;obtain rfl:gl=(Ar (Hm.left g1)).2.1.toNat:=H;have bt:=Z mB rfl;have E:=z.row J (by
    rintro(e|e)
    ·omega
    ·have:=W _ e;omega)
   have T:=ax.kept z (by
    rintro k hk (e|e)
    ·cases hk;exact a0.1 e
    ·cases hk;exact aK e)
   clear aI I aE aw aC z Z sA W J ax aK an;have R:Ara w3 (w3.alloc (.cells #[.int .i64 ((Ar (Hm.left g1)).1:Nat),.int .u8 ((Ar (Hm.left g1)).2.1.toNat:Nat),.slice (some ⟨mB,0,none⟩) (Ar (Hm.left g1)).2.2.length cB] 216)):=(Aa.refl _ _).alloc _;have aR:=Agj M.o.1 a6;have hj:=Ajf (Ar g1) (Ar (Hm.left g1)) _ _ _ (T.kept R (fun _ _=>id)) (O.kept R (fun _ _=>id)) aR.2.2.1 (by omega) (by omega);have f0:w3.cell? ⟨w2.heap.size,0,none⟩=some (.int .i64 ((Ar g1).1:Nat)):=Am7 _ _ 0 _ _ _ E;have f1:w3.cell? ⟨w2.heap.size,1,none⟩=some (.int .u8 ((Ar g1).2.1.toNat:Nat)):=Am7 _ _ 1 _ _ _ E;have f2:w3.cell? ⟨w2.heap.size,2,none⟩=some (.slice (some ⟨mA,0,none⟩) (Ar g1).2.2.length cA):=Am7 _ _ 2 _ _ _ E;have bn:w2.heap.size<w3.heap.size:=Anu E;have A:Hid (Eu w (w3.alloc (.cells #[.int .i64 ((Ar (Hm.left g1)).1:Nat),.int .u8 ((Ar (Hm.left g1)).2.1.toNat:Nat),.slice (some ⟨mB,0,none⟩) (Ar (Hm.left g1)).2.2.length cB] 216)) w1.heap.size (Hm.left (Hm.left g1)) L1 v3 ((vs'.eraseIdx (Hm.first g1)).eraseIdx (Hm.first (Hm.left g1)))):=st3.grew R;clear st3 O E T R;have HJ:Hid (K0 g1=Ez (Ar g1) (Ar (Hm.left g1))):=rfl;have D:Hid (Hm.step g1=Hm.left (Hm.left g1)++[K0 g1]∧(Hm.left (Hm.left g1)).length+1=(Hm.left g1).length):=⟨rfl,Eh _ (by omega)⟩;go_wp2_with fail;refine hj.mono ?_;rintro e w4 ⟨v5,rfl,f,az,ad⟩;rw[←HJ.o]at f⊢;have bs:(K0 g1).2.2.length≤256:=by rw[HJ.o,Ez];simp only[Anf];omega
   generalize K0 g1=C at*;obtain⟨mC,cC,eC,-⟩:=id f;subst eC;have aP:=az mC rfl;have st5:=(A.o.grew ad).grew (((Aa.refl (fun _=>False) w4).alloc (.cells #[.int .i64 (C.1:Nat),.int .u8 (C.2.1.toNat:Nat),.slice (some ⟨mC,0,none⟩) C.2.2.length cC] 216)));have bk:w1.heap.size+1<mC:=by
    have h2:=A.o.len.lt;omega
   have ao:Hid (Eu w (w4.alloc (.cells #[.int .i64 (C.1:Nat),.int .u8 (C.2.1.toNat:Nat),.slice (some ⟨mC,0,none⟩) C.2.2.length cC] 216)) w1.heap.size (Hm.left (Hm.left g1)) L1 v3 ((vs'.eraseIdx (Hm.first g1)).eraseIdx (Hm.first (Hm.left g1)))∧
    (w4.alloc (.cells #[.int .i64 (C.1:Nat),.int .u8 (C.2.1.toNat:Nat),.slice (some ⟨mC,0,none⟩) C.2.2.length cC] 216)).heap[w4.heap.size]?=some (.cells #[.int .i64 (C.1:Nat),.int .u8 (C.2.1.toNat:Nat),.slice (some ⟨mC,0,none⟩) C.2.2.length cC] 216 (0,0))∧
    Fq (w4.alloc (.cells #[.int .i64 (C.1:Nat),.int .u8 (C.2.1.toNat:Nat),.slice (some ⟨mC,0,none⟩) C.2.2.length cC] 216)) (.slice (some ⟨mC,0,none⟩) C.2.2.length cC) C.2.2∧w1.heap.size+1<w4.heap.size∧(∀k,v3.ownBlock=some k→k<mC)):=
    ⟨st5,Anj _ _,f.kept ((Aa.refl (fun _=>False) w4).alloc _) (fun _ _=>id),(A.o.grew ad).len.lt,fun k hk=>Aom (A.o.grp.own.lt k hk).2 aP⟩
   clear hj f az ad st5 A f0 f1 f2;go_wp2_with fail;obtain⟨st5,ar,f,b1,aJ⟩:=ao.o;clear ao;generalize w4.alloc (.cells #[.int .i64 (C.1:Nat),.int .u8 (C.2.1.toNat:Nat),.slice (some ⟨mC,0,none⟩) C.2.2.length cC] 216)=W5 at*;generalize(vs'.eraseIdx (Hm.first g1)).eraseIdx (Hm.first (Hm.left g1))=VS at*;have aO:Hid (∀k,v3.ownBlock=some k→k<mC):=aJ;clear aJ
   go_loopw[31] (fun i wr2=> ∃b:Nat,b≤C.2.2.length∧i= .int .i64 b∧Eu w wr2 w1.heap.size (Hm.left (Hm.left g1)) (Hm.bump L1 (C.2.2.take b)) v3 VS∧wr2.heap[w4.heap.size]?=some (.cells #[.int .i64 (C.1:Nat),.int .u8 (C.2.1.toNat:Nat),.slice (some ⟨mC,0,none⟩) C.2.2.length cC] 216 (0,0))∧Fq wr2 (.slice (some ⟨mC,0,none⟩) C.2.2.length cC) C.2.2) (fun i _=>C.2.2.length-(intOf i).toNat)
   case atStart=>exact⟨0,Ann _,rfl,by rw[List.take_zero];exact st5,ar,f⟩
   case round=>
    clear st5 ar f;obtain⟨b,hb,rfl,st6,t,F⟩:=hrel
    by_cases V:b<C.2.2.length
    ·have aV:decide ((b:Int)<(C.2.2.length:Int))=true:=by simp;omega
     have bi:=K7 (C.2.2.take b) L1;have b5:C.2.2[b].toNat<256:=UInt8.toNat_lt _;have aU:wr.cell? ⟨mC,b,none⟩=some (.int .u8 (C.2.2[b].toNat:Nat)):=by
      obtain⟨g',c'',e',_,_,_,aT⟩:=F;cases e';exact aT b V
     have bz:=st6.len.cell (i:=C.2.2[b].toNat) (by omega);have b0:=st6.len.free C.2.2[b].toNat;have bu:(Hm.bump L1 (C.2.2.take b))[C.2.2[b].toNat]'(by omega)≤256*j+256:=by
      have h3:=Yk (C.2.2.take b) L1 (256*j) M.o.2 _ (Anm (l:=Hm.bump L1 (C.2.2.take b)) (n:=C.2.2[b].toNat) (by omega));rw[Anp]at h3;omega
     have aG:Hm.bump L1 (C.2.2.take (b+1))=(Hm.bump L1 (C.2.2.take b)).set C.2.2[b].toNat ((Hm.bump L1 (C.2.2.take b))[C.2.2[b].toNat]'(by omega)+1):=by
      rw[Anh V,Zo,Am4,Am5 (by omega)];rfl
     have st7:=st6.bump C.2.2[b].toNat ((Hm.bump L1 (C.2.2.take b))[C.2.2[b].toNat]'(by omega)+1);rw[←aG]at st7;have ae:Aa (fun k=>k=w1.heap.size+1) wr (wr.setCell ⟨w1.heap.size+1,C.2.2[b].toNat,none⟩ (.int .i64 (((Hm.bump L1 (C.2.2.take b))[C.2.2[b].toNat]'(by omega)+1:Nat):Nat))):=(Aa.refl (fun k=>k=w1.heap.size+1) wr).setCell (p:=⟨w1.heap.size+1,C.2.2[b].toNat,none⟩) (.inr rfl) _;have H7:Hid (Eu w (wr.setCell ⟨w1.heap.size+1,C.2.2[b].toNat,none⟩ (.int .i64 (((Hm.bump L1 (C.2.2.take b))[C.2.2[b].toNat]'(by omega)+1:Nat):Nat))) w1.heap.size (Hm.left (Hm.left g1)) (Hm.bump L1 (C.2.2.take (b+1))) v3 VS∧
      (wr.setCell ⟨w1.heap.size+1,C.2.2[b].toNat,none⟩ (.int .i64 (((Hm.bump L1 (C.2.2.take b))[C.2.2[b].toNat]'(by omega)+1:Nat):Nat))).heap[w4.heap.size]?=some (.cells #[.int .i64 (C.1:Nat),.int .u8 (C.2.1.toNat:Nat),.slice (some ⟨mC,0,none⟩) C.2.2.length cC] 216 (0,0))∧
      Fq (wr.setCell ⟨w1.heap.size+1,C.2.2[b].toNat,none⟩ (.int .i64 (((Hm.bump L1 (C.2.2.take b))[C.2.2[b].toNat]'(by omega)+1:Nat):Nat))) (.slice (some ⟨mC,0,none⟩) C.2.2.length cC) C.2.2):=⟨st7,ae.row t (by omega),F.kept ae (fun k hk e=>by cases hk;exact absurd (show mC=w1.heap.size+1 from e) (by omega))⟩
     clear aG st7 ae st6 t F;generalize(Hm.bump L1 (C.2.2.take b))[C.2.2[b].toNat]'(by omega)=y at*;generalize C.2.2[b].toNat=x at*;go_wp2;go_roundw
     case rel=>exact⟨b+1,by omega,by go_num,H7.o.1,H7.o.2.1,H7.o.2.2⟩
     case measure=>simp[intOf];omega
    ·have aV:decide ((C.2.2.length:Int)<(C.2.2.length:Int))=false:=by simp
     have aQ:b=C.2.2.length:=by omega
     subst aQ;rw[Aof]at st6;obtain⟨a3,c3,ev3⟩: ∃a3 c3,v3= .slice a3 (Hm.left (Hm.left g1)).length c3:=by
      rcases st6.grp.own.2 with⟨rfl,h0⟩|⟨g,cap,cur,rfl,_⟩
      ·exact⟨none,0,by rw[h0]⟩
      ·exact⟨_,_,rfl⟩
     subst ev3;have c0:wr.cell? ⟨w1.heap.size,0,none⟩=some (.slice a3 (Hm.left (Hm.left g1)).length c3):=Am7 _ _ 0 _ _ _ st6.row;have d0:wr.cell? ⟨w4.heap.size,0,none⟩=some (.int .i64 (C.1:Nat)):=Am7 _ _ 0 _ _ _ t;have d1:wr.cell? ⟨w4.heap.size,1,none⟩=some (.int .u8 (C.2.1.toNat:Nat)):=Am7 _ _ 1 _ _ _ t;have d2:wr.cell? ⟨w4.heap.size,2,none⟩=some (.slice (some ⟨mC,0,none⟩) C.2.2.length cC):=Am7 _ _ 2 _ _ _ t;have B:Hid (Eu w wr w1.heap.size (Hm.left (Hm.left g1)) (Hm.bump L1 C.2.2) (.slice a3 (Hm.left (Hm.left g1)).length c3) VS∧Fq wr (.slice (some ⟨mC,0,none⟩) C.2.2.length cC) C.2.2):=⟨st6,F⟩;have b4:=st6.len.lt;have bw:=st6.kept.size;clear st6 F t hb;obtain⟨i0,hi,bd,be,bf⟩:=Aoo Oa;have bx:(Hm.left (Hm.left g1)).length≤256:=by have:=D.o.2;omega
     generalize aA:(Hm.left (Hm.left g1)).length=n3 at*;have am:Hid ((Hm.left (Hm.left g1)).length=n3):=aA;clear aA
     go_wp2_with(at_builtin;refine Bg _ rfl (.tmp 41) (.tmp 43) 213 rfl (w.heap.size+1) 216 i0 _ 3 40 underlying213 hi bd be bf rfl (by decide) _ n3 (C6 (Hm.left (Hm.left g1)) VS) rfl ?c0 ⟨wr.heap.size,0,none⟩ 1 1 [.int .i64 (C.1:Nat),.int .u8 (C.2.1.toNat:Nat),.slice (some ⟨mC,0,none⟩) C.2.2.length cC] rfl rfl ?c1 ?c2 ?c3 ?c4 ?c5 ?_)
     case c0=>
      have:=B.o.1.grp.own;rw[am.o]at this;exact((Aa.refl (fun _=>False) wr).alloc _).owns this (fun _ _=>id)
     case c1=>
      intro j u hj;rw[Addr.add_lit,An3,Am7 _ _ j _ _ _ (Anj wr _)];simpa using hj
     case c2=>first|exact⟨rfl,rfl,rfl⟩|(intro u hu;simp at hu;rcases hu with rfl|rfl|rfl<;>rfl)
     case c3=>unfold maxLen;omega
     case c4=>omega
     case c5=>simp;omega
     intro v8 w8 ag ab a9;obtain⟨a8,c8,ev8⟩: ∃a8 c8,v8= .slice a8 (n3+1) c8:=by
      rcases ag.2 with⟨rfl,h0⟩|⟨g,cap,cur,rfl,_⟩
      ·omega
      ·exact⟨_,_,rfl⟩
     subst ev8;have st9:=B.o.1.app ((Aa.refl (fun _=>False) wr).alloc (.cells #[.int .i64 (C.1:Nat),.int .u8 (C.2.1.toNat:Nat),.slice (some ⟨mC,0,none⟩) C.2.2.length cC] 216)) (g:=C) (mv:= .slice (some ⟨mC,0,none⟩) C.2.2.length cC) (B.o.2.kept ((Aa.refl (fun _=>False) wr).alloc _) (fun _ _=>id))
      (fun k hk=>by
       cases hk;refine⟨fun e=>Nat.lt_irrefl _ (aO.o _ e),?_,?_⟩
       ·show mC≠_;omega
       ·show mC≠_;omega) (by rw[am.o];exact ag) ab a9
     have k8:Aa (fun k=>(Value.slice a3 n3 c3).ownBlock=some k) _ w8:=(Aa.refl _ _).grown ab (fun j hj=> .inr hj);have row8:=k8.row (((Aa.refl (fun _=>False) wr).alloc _).row B.o.1.row id) (fun e=>(B.o.1.own _ e).1 rfl);have r8:w8.cell? ⟨w1.heap.size,0,none⟩=some (.slice a3 n3 c3):=Am7 _ _ 0 _ _ _ row8;have q8:w8.frozen? ⟨w1.heap.size,0,none⟩=false:=Ang _ _ 0 _ _ row8;have H9:Hid (Eu w (w8.setCell ⟨w1.heap.size,0,none⟩ (.slice a8 (n3+1) c8)) w1.heap.size (Hm.left (Hm.left g1)++[C]) (Hm.bump L1 C.2.2) (.slice a8 (n3+1) c8) (VS++[.slice (some ⟨mC,0,none⟩) C.2.2.length cC])):=st9;clear st9 ag ab a9 c0 d0 d1 d2 k8 row8;have ak:Hid (j+gk=gs.length-1∧g1.length+j=gs.length∧1<g1.length∧L1.length=256):=⟨aY,aZ,a6,X⟩;go_wp2
     go_roundg (gk-1)
     case rel=>
      obtain⟨p1,p2,p3,p4⟩:=ak.o;have aW:=M.o.1.step p3;have b3:=U2 g1 p3;refine⟨j+1,.slice a8 (n3+1) c8,VS++[.slice (some ⟨mC,0,none⟩) C.2.2.length cC],by omega,?_,?_,?_,?_,?_⟩
      ·rw[HN.o,D.o.1];exact H9.o
      ·rw[HN.o];exact aW
      ·rw[HN.o];show(Hm.step g1).length+(j+1)=_;omega
      ·rw[HN.o];intro x hx;have:=Yk C.2.2 L1 (256*j) M.o.2 x hx;omega
      ·rw[HN.o];show(Hm.bump L1 C.2.2).length=256;rw[K7];exact p4
     case measure=>have:=ak.o;omega
  ·have a1:decide (1<g1.length)=false:=by simp;omega
   have aa:decide ((1:Int)<(g1.length:Int))=false:=by simp;omega
   have aX:gs.length-1=j:=by omega
   have HL:Hid ((Bv gs (List.replicate 256 0) (gs.length-1)).2=L1):=by show _=_;rw[aX,HZ.o]
   have r:(Ad L1).toArray.size=256:=by rw[Bm];exact X
   have aL:Tryz.zeroCells139.size=256:=by rw[Kb,Bm,Ani]
   have U:=Fv L1;have K:=d.len;unfold Es at K;have HX:Hid (wr.heap[w1.heap.size+1]?=some (.cells (Ad L1).toArray 139 (0,0))∧wr.heap[w.heap.size]?=some (.cells Tryz.zeroCells139 139 (0,0))∧(Ad L1).toArray.all (·.oneCell')=true∧Ara w wr∧Tryz.zeroCells139.size=(Ad L1).toArray.size):=⟨K,d.res,U,d.kept,by rw[aL,r]⟩;clear d P af HN HZ K U aL X;generalize hA:(Ad L1).toArray=arr at*;have HA:Hid ((Ad L1).toArray=arr):=hA;clear hA
   go_wp2_with(first
    |(refine Aoh rfl 139 _ rfl (w1.heap.size+1) rfl 139 arr (0,0) _ HX.o.1 underlying139 rfl (by rw[r];exact Cf) ?_)
    |(refine wpList_store_row _ rfl 139 _ _ rfl w.heap.size 139 _ arr rfl rfl HX.o.2.1 (by rw[r];exact Cf) HX.o.2.2.2.2 HX.o.2.2.1 ?_;intro w3 bb z))
   refine Aok (v:= .agg arr) (Ao0 results96 _ w3 w.heap.size 139 arr (0,0) _ rfl bb underlying139 rfl (by rw[r];exact Cf)) rfl ⟨by rw[HL.o,HA.o],?_⟩;exact HX.o.2.2.2.1.trans z (fun j h1 h2=>by omega)
namespace Hm
def leB(a b:ByteArray):Bool:=Op.bytesLess a.toList b.toList||a.toList==b.toList
def Cp(nm ct ahead:ByteArray):Int:=
 if nm.size=0∨32<nm.size then 2 else if leB nm ahead then 3 else if 3000<ct.size then 4 else 0
def Gc(ah:ByteArray)(tot:Nat):Arb→Int
 |[]=>if 6000<tot then 5 else 0
 |f::r=>if Cp f.1 f.2 ah=0 then Gc f.1 (tot+f.2.size) r else Cp f.1 f.2 ah
def Cq(fs:Arb):Int:=if 40<fs.length then 1 else Gc ⟨#[]⟩ 0 fs
theorem Vc(fs:Arb)(k:Nat)(h:k<fs.length)(ah:ByteArray)(tot:Nat):
  Gc ah tot (fs.drop k)=if Cp fs[k].1 fs[k].2 ah=0 then Gc fs[k].1 (tot+fs[k].2.size) (fs.drop (k+1))else Cp fs[k].1 fs[k].2 ah:=by
 rw[An7 h];rfl
theorem Tp{nm ct ah:ByteArray}(h:Cp nm ct ah=0):ct.size≤3000∧nm.size≤32∧nm.size≠0∧leB nm ah=false:=by
 unfold Cp at h;split at h
 ·omega
 split at h
 ·omega
 split at h
 ·omega
 rename_i h1 h2 a;exact⟨by omega,by omega,by omega,by simpa using h2⟩
theorem Adc(nm ct ah:ByteArray):0≤Cp nm ct ah∧Cp nm ct ah≤4:=by
 unfold Cp;split
 ·omega
 split
 ·omega
 split<;>omega
end Hm
theorem Kx(s:ByteArray):s.toList.isEmpty=decide (s.size=0):=by
 have a:s.data.toList.length=s.size:=by simp
 rw[Aor,←a];cases s.data.toList<;>simp
theorem Yy{nm ct ah:ByteArray}(h:nm.size=0∨32<nm.size):Cp nm ct ah=2:=by rw[Cp,if_pos h]
theorem Alb{nm ct ah:ByteArray}(a: ¬nm.size=0)(h:(nm.size:Int)≤32)(h2:Op.bytesLess nm.toList ah.toList=true∨(nm.toList==ah.toList)=true):Cp nm ct ah=3:=by
 rw[Cp,if_neg (by omega),if_pos (by simpa[Hm.leB]using h2)]
theorem Amz{nm ct ah:ByteArray}(a: ¬nm.size=0)(h:(nm.size:Int)≤32)(h2:Op.bytesLess nm.toList ah.toList=false∧(nm.toList==ah.toList)=false)(b:3000<(ct.size:Int)):Cp nm ct ah=4:=by
 rw[Cp,if_neg (by omega),if_neg (by simp[Hm.leB,h2.1];simpa using h2.2),if_pos (by omega)]
theorem Am2{nm ct ah:ByteArray}(a: ¬nm.size=0)(h:(nm.size:Int)≤32)(h2:Op.bytesLess nm.toList ah.toList=false∧(nm.toList==ah.toList)=false)(b:(ct.size:Int)≤3000):Cp nm ct ah=0:=by
 rw[Cp,if_neg (by omega),if_neg (by simp[Hm.leB,h2.1];simpa using h2.2),if_neg (by omega)]
theorem E3{k:IntKind}{a b:Int}(h:a=b):Ending.returned (.int k a)= .returned (.int k b):=by rw[h]
theorem Sa(nm ct ah:ByteArray)(w:World)(h1:nm.size≤140737488355328)(_h2:ct.size≤140737488355328):
  Calls prog 93 #[.agg #[.string nm,.string ct],.string ah] w fun e w'=>e= .returned (.int .i64 (Cp nm ct ah))∧Ara w w':=by
 by_cases a0:nm.size=0
 ·have a:nm.toList.isEmpty=true:=by rw[Kx];simpa using a0
  go_enter func93,ntmps93
  go_wp2;go_ret;exact⟨E3 (Yy (.inl a0)).symm,(Aa.refl _ _).alloc _⟩
 ·have a:nm.toList.isEmpty=false:=by rw[Kx];simpa using a0
  go_enter func93,ntmps93
  go_wp2
  all_goals go_ret
  ·exact⟨E3 (Yy (.inr (by omega))).symm,(Aa.refl _ _).alloc _⟩
  ·exact⟨E3 (Alb a0 ‹_› ‹_›).symm,(Aa.refl _ _).alloc _⟩
  ·exact⟨E3 (Amz a0 ‹_› ‹_› ‹_›).symm,(Aa.refl _ _).alloc _⟩
  ·exact⟨E3 (Am2 a0 ‹_› ‹_› ‹_›).symm,(Aa.refl _ _).alloc _⟩
theorem Ajw(ao:Arf)(c:Nat)(fs:Arb)(w:World)(A:Ba w ao fs)(N:fs.length≤140737488355328)(y: ∀f∈fs,f.1.size≤140737488355328∧f.2.size≤140737488355328):
  Calls prog 50 #[.slice ao fs.length c] w fun e w'=>e= .returned (.int .i64 (Cq fs))∧Ara w w':=by
 by_cases q:40<fs.length
 ·clear A
  go_enter func50,ntmps50
  go_wp2;go_ret;exact⟨E3 (by rw[Cq,if_pos q]),Aa.refl _ _⟩
 have m:Hid (Cq fs=Gc ⟨#[]⟩ 0 (fs.drop 0)):=by rw[Cq,if_neg q];rfl
 generalize Cq fs=E at m⊢
 go_enter func50,ntmps50
 go_wp2
 go_loopw[3,4,13] (fun t a i wr=> ∃(k:Nat) (tot:Nat) (ah:ByteArray),k≤fs.length∧i= .int .i64 k∧t= .int .i64 tot∧a= .string ah∧tot≤3000*k∧E=Gc ah tot (fs.drop k)∧Ara w wr) (fun _ _ i _=>fs.length-(intOf i).toNat)
 case atStart=>exact⟨0,0,_,Ann _,rfl,rfl,rfl,by omega,m.o,Aa.refl _ _⟩
 case round=>
  clear m;obtain⟨k,tot,ah,hk,rfl,rfl,rfl,ht,F,l⟩:=hrel;have m:Hid (E=Gc ah tot (fs.drop k)):=F;clear F
  by_cases u:k<fs.length
  ·obtain⟨b,o,s,H,I,J⟩:=(A.kept l (fun a M=>id)) k u;have hs:=y fs[k] (Anm _);obtain⟨v,x⟩:=hs;have z:Hid (E=if Cp fs[k].1 fs[k].2 ah=0 then Gc fs[k].1 (tot+fs[k].2.size) (fs.drop (k+1))else Cp fs[k].1 fs[k].2 ah):=m.o.trans (Vc fs k u ah tot);generalize fs[k].1=nm at*;generalize fs[k].2=ct at*;rw[s];clear s A m y
   by_cases n:Cp nm ct ah=0
   ·have L:=(Tp n).1;have d:=Sa nm ct ah (wr.alloc (.cells #[.string nm,.string ct] 38)) v x;rw[n]at d;have g:Hid (E=Gc nm (tot+ct.size) (fs.drop (k+1))):=by rw[z.o,if_pos n];rfl
    clear n z
    go_wp2_with(go_at_call 93;refine d.mono ?_;rintro e w1 ⟨rfl,j⟩;have B:=j.cell (p:=⟨wr.heap.size,0,none⟩) (by simp) id;have C:=j.cell (p:=⟨wr.heap.size,1,none⟩) (by simp) id;simp at B C)
    go_roundw
    case rel=>exact⟨k+1,tot+ct.size,nm,by omega,by go_num,by go_num,rfl,by omega,g.o,(l.alloc _).trans j (fun _ _ h=>h)⟩
    case measure=>simp[intOf];omega
   ·have d:=Sa nm ct ah (wr.alloc (.cells #[.string nm,.string ct] 38)) v x;have K:=Adc nm ct ah;have g:Hid (E=Cp nm ct ah):=by rw[z.o,if_neg n];rfl
    clear z;generalize Cp nm ct ah=r at*;have G:(r !=0)=true:=by rw[bne_iff_ne];exact n
    go_wp2_with(go_at_call 93;refine d.mono ?_;rintro e w1 ⟨rfl,j⟩)
    go_ret;exact⟨E3 g.o.symm,(l.alloc _).trans j (fun _ _ h=>h)⟩
  ·obtain rfl:k=fs.length:=by omega
   have g:Hid (E=if 6000<tot then 5 else 0):=by have h:=m.o;rw[Apy]at h;exact h
   clear m A
   by_cases D:6000<tot
   ·go_wp2;go_ret;exact⟨E3 (by rw[g.o,if_pos D]),l⟩
   ·go_wp2;go_ret;exact⟨E3 (by rw[g.o,if_neg D]),l⟩
end Go.Proofs.YtegnkfdbmmndaaaGreat
