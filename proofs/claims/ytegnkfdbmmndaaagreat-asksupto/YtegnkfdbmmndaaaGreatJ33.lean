import Derived.Test.YtegnkfdbmmndaaaGreatJ32

set_option maxHeartbeats 8000000
namespace Go.Proofs.YtegnkfdbmmndaaaGreat
open Hm Go.Proofs.Tryz Go.RowKit
namespace Hm
def Lm(l:Arc)(c:Nat):Bool:=l.any fun b=>b.toNat==c
theorem Akb(l:Arc)(c k:Nat)(h:k<l.length):Lm (l.take (k+1)) c=(Lm (l.take k) c||l[k].toNat==c):=by
 rw[Anh h];unfold Lm;rw[List.any_append];simp only[List.any_cons,List.any_nil,Bool.or_false]
def Pf:Option Nat→Int
 |none=> -1
 |some j=>j
def Cg(wt:Ard)(but:Int):Nat→Option Nat
 |0=>none
 |c+1=>if(c:Int)≠but∧0<wt.getD c 0∧(∀j,Cg wt but c=some j→wt.getD c 0<wt.getD j 0)then some c else Cg wt but c
theorem Ro(wt:Ard)(but:Int): ∀c j,Cg wt but c=some j→j<c
 |0,j,h=>by simp[Cg]at h
 |c+1,j,h=>by
  rw[Cg]at h;split at h
  ·cases h;omega
  ·have:=Ro wt but c j h;omega
theorem Mc(wt:Ard)(but:Int): ∀c,(∀j,Cg wt but c=some j→(j:Int)≠but∧0<wt.getD j 0∧ ∀i,i<c→(i:Int)≠but→0<wt.getD i 0→wt.getD j 0<wt.getD i 0∨(wt.getD j 0=wt.getD i 0∧j≤i))∧(Cg wt but c=none→ ∀i,i<c→(i:Int)≠but→wt.getD i 0=0)
 |0=>⟨fun j h=>by simp[Cg]at h,fun _ i h=>by omega⟩
 |c+1=>by
  obtain⟨h1,h2⟩:=Mc wt but c;have g:=Ro wt but c;rw[Cg]
  by_cases cd:(c:Int)≠but∧0<wt.getD c 0∧(∀j,Cg wt but c=some j→wt.getD c 0<wt.getD j 0)
  ·rw[if_pos cd];refine⟨fun j a=>?_,fun h=>by cases h⟩;cases a;refine⟨cd.1,cd.2.1,fun i hi hb d=>?_⟩
   by_cases e:i=c
   ·subst e;exact .inr ⟨rfl,Ane _⟩
   ·cases f:Cg wt but c with
    |none=>have:=h2 f i (by omega) hb;omega
    |some j=>
     have a1:=(h1 j f).2.2 i (by omega) hb d;have a2:=cd.2.2 j f;omega
  ·rw[if_neg cd];refine⟨fun j a=>?_,fun l i hi hb=>?_⟩
   ·obtain⟨b1,b2,b3⟩:=h1 j a;refine⟨b1,b2,fun i hi hb d=>?_⟩
    by_cases e:i=c
    ·subst e;have: ¬wt.getD i 0<wt.getD j 0:=fun k=>cd ⟨hb,d,fun j' b=>by rw[a]at b;cases b;exact k⟩;have:=g j a;omega
    ·exact b3 i (by omega) hb d
   ·by_cases e:i=c
    ·subst e;apply Aq0;intro d;exact cd ⟨hb,by omega,fun j a=>by rw[l]at a;cases a⟩
    ·exact h2 l i (by omega) hb
end Hm
theorem Sg(s:ByteArray)(c:Nat)(w:World)(hs:s.size≤6000)(_hc:c<256):
  Calls prog 87 #[.string s,.int .i64 c] w fun e w'=>e= .returned (.bool (Lm s.data.toList c))∧w'=w:=by
 have f:Aside (s.data.toList.length=s.size):=by show _=_;simp
 go_enter func87,ntmps87
 go_wp2
 go_loop [5] (fun i=> ∃k:Nat,k≤s.size∧i= .int .i64 k∧Lm (s.data.toList.take k) c=false) (fun i=>s.size-(intOf i).toNat)
 case atStart=>exact⟨0,Ann _,rfl,rfl⟩
 case round=>
  obtain⟨k,hk,rfl,n⟩:=hrel;have m:Aside (Lm (s.data.toList.take k) c=false):=n;clear n
  by_cases a:k<s.size
  ·have g:decide ((k:Int)<(s.size:Int))=true:=Ana (by omega);have d:k<s.data.toList.length:=by rw[f.o];exact a
   have h:Aside (Lm (s.data.toList.take (k+1)) c=(Lm (s.data.toList.take k) c||s.data.toList[k].toNat==c)):=Akb _ c k d;have b:s.data.toList[k]'d=s[k]'a:=rfl;rw[b]at h;have q:=(s[k]'a).toNat_lt
   by_cases j:(s[k]'a).toNat=c
   ·have hb:(((s[k]'a).toNat:Int)==(c:Int))=true:=by simp;omega
    have l:Aside (Lm s.data.toList c=true):=by
     show _=_;unfold Lm;rw[List.any_eq_true];exact⟨s[k]'a,by rw[←b];exact Anm _,beq_iff_eq.2 j⟩
    clear h b d j;go_wp2;go_ret;exact⟨by rw[l.o];rfl,rfl⟩
   ·have hb:(((s[k]'a).toNat:Int)==(c:Int))=false:=by simp;omega
    have p:Aside (Lm (s.data.toList.take (k+1)) c=false):=by
     show _=_;rw[h.o,m.o,Bool.false_or,Aod];exact j
    clear h b d j;go_wp2
    go_round
    case rel=>exact⟨k+1,by omega,by go_num,p.o⟩
    case measure=>simp[intOf];omega
  ·obtain rfl:s.size=k:=by omega
   have g:decide ((s.size:Int)<(s.size:Int))=false:=Anc (by omega);have l:Aside (Lm s.data.toList c=false):=by
    have:=m.o;rw[←f.o,Aof]at this;exact this
   go_wp2;go_ret;exact⟨by rw[l.o];rfl,rfl⟩
theorem Eg:(prog.info? 94).map (·.size)=some 256:=by kernel_rfl
theorem Pg(wt:Ard)(but:Int)(w:World)(g:wt.length=256)(G: ∀x∈wt,x≤100000)(_hb: -1≤but)(_hb2:but≤256):
  Calls prog 86 #[.agg (Ad wt).toArray,.int .i64 but] w fun e w'=>e= .returned (.int .i64 (Pf (Cg wt but 256)))∧Ara w w':=by
 have l:(w.alloc (.cells (Ad wt).toArray 94)).heap[w.heap.size]?=some (.cells (Ad wt).toArray 94 (0,0)):=Anj w _;have f: ∀W:World,W.heap[w.heap.size]?=some (.cells (Ad wt).toArray 94 (0,0))→ ∀b:Nat,b<256→W.cell? ⟨w.heap.size,b,none⟩=some (.int .i64 (wt.getD b 0:Nat)):=by
  intro W I b hb;rw[Am7 _ _ b _ _ _ I];simp[Ad,List.getD_eq_getElem?_getD,List.getElem?_eq_getElem (show b<wt.length from by omega)]
 have q: ∀b:Nat,wt.getD b 0≤100000:=fun b=>by
  rw[Am4]
  by_cases h:b<wt.length
  ·rw[Am5 h];exact G _ (Anm _)
  ·rw[Anx (by omega)];simp
 have D:Aside _:=f;have E:Aside _:=q;have H:Aside _:=l;clear f q G g l;generalize(Ad wt).toArray=arr at*
 go_enter func86,ntmps86
 go_wp2_with fail;have s:Ara (w.alloc (.cells arr 94)) (w.alloc (.cells arr 94)):=Aa.refl _ _
 go_loopw[5,6] (fun b i wr=> ∃c:Nat,c≤256∧i= .int .i64 c∧b= .int .i64 (Pf (Cg wt but c))∧Ara (w.alloc (.cells arr 94)) wr) (fun _ i _=>256-(intOf i).toNat)
 case atStart=>exact⟨0,by omega,rfl,rfl,s⟩
 case round=>
  clear s;obtain⟨c,P,rfl,rfl,d⟩:=hrel;have a:=d.row H.o id
  by_cases C:c<256
  ·have p:decide ((c:Int)<256)=true:=Ana (by omega);have u:=D.o wr a c C;have B:=E.o c;have HS:Aside (Cg wt but (c+1)=if(c:Int)≠but∧0<wt.getD c 0∧(∀j,Cg wt but c=some j→wt.getD c 0<wt.getD j 0)then some c else Cg wt but c):=rfl;have J:(c:Int)<256:=by omega
   by_cases h1:(c:Int)=but
   ·have hn:((c:Int) !=but)=false:=by simp[h1]
    have k:Aside (Cg wt but (c+1)=Cg wt but c):=by show _=_;rw[HS.o,if_neg (fun h=>h.1 h1)]
    clear HS a h1;generalize m:Pf (Cg wt but c)=bb at*;go_wp2_with fail
    go_region
    go_wp2;go_roundw
    case rel=>exact⟨c+1,by omega,by go_num,by rw[k.o,m],d.drew⟩
    case measure=>simp[intOf];omega
   ·have hn:((c:Int) !=but)=true:=by simpa using h1
    by_cases h2:0<wt.getD c 0
    ·cases g:Cg wt but c with
     |none=>
      have k:Aside (Cg wt but (c+1)=some c):=by show _=_;rw[HS.o,if_pos ⟨h1,h2,fun j F=>by rw[g]at F;cases F⟩]
      have v:decide (0<wt.getD c 0)=true:=Ana h2;generalize wt.getD c 0=x at*;clear HS a h1 g h2;rw[show Pf none= -1 from rfl];go_wp2_with fail
      go_region
      go_wp2;go_roundw
      case rel=>exact⟨c+1,by omega,by go_num,by rw[k.o];go_num,d.drew⟩
      case measure=>simp[intOf];omega
     |some j=>
      have O:=Ro wt but c j g;have K:=D.o wr a j (by omega);have L:=E.o j;have N:(j:Int)<256:=by omega
      have v:decide (0<wt.getD c 0)=true:=Ana h2;rw[show Pf (some j)=(j:Int)from rfl];have M:decide ((j:Int)<0)=false:=Anc (by omega)
      by_cases n:wt.getD c 0<wt.getD j 0
      ·have k:Aside (Cg wt but (c+1)=some c):=by show _=_;rw[HS.o,if_pos ⟨h1,h2,fun j' r=>by rw[g]at r;cases r;exact n⟩]
       have z:decide ((wt.getD c 0:Int)<(wt.getD j 0:Int))=true:=Ana (by omega);have A:decide (wt.getD c 0<wt.getD j 0)=true:=Ana n;generalize wt.getD c 0=x at*;generalize wt.getD j 0=y at*;clear HS a h1 g h2 n;go_wp2_with fail
       go_region
       go_wp2;go_roundw
       case rel=>exact⟨c+1,by omega,by go_num,by rw[k.o];go_num,d.drew⟩
       case measure=>simp[intOf];omega
      ·have k:Aside (Cg wt but (c+1)=some j):=by show _=_;rw[HS.o,if_neg (fun h=>n (h.2.2 j g)),g]
       have z:decide ((wt.getD c 0:Int)<(wt.getD j 0:Int))=false:=Anc (by omega);have A:decide (wt.getD c 0<wt.getD j 0)=false:=Anc n;generalize wt.getD c 0=x at*;generalize wt.getD j 0=y at*;clear HS a h1 g h2 n;go_wp2_with fail
       go_region
       go_wp2;go_roundw
       case rel=>exact⟨c+1,by omega,by go_num,by rw[k.o];rfl,d.drew⟩
       case measure=>simp[intOf];omega
    ·have k:Aside (Cg wt but (c+1)=Cg wt but c):=by show _=_;rw[HS.o,if_neg (fun h=>h2 h.2.1)]
     have t:wt.getD c 0=0:=by omega
     rw[t]at u;clear HS a h1 h2 t B;generalize m:Pf (Cg wt but c)=bb at*;go_wp2_with fail
     go_region
     go_wp2;go_roundw
     case rel=>exact⟨c+1,by omega,by go_num,by rw[k.o,m],d.drew⟩
     case measure=>simp[intOf];omega
  ·obtain rfl:256=c:=by omega
   have p:decide ((256:Int)<256)=false:=by decide
   clear a;go_wp2;go_ret;exact⟨rfl,((Aa.refl (fun _=>False) w).alloc _).trans d (fun _ _ h=>h)⟩
end Go.Proofs.YtegnkfdbmmndaaaGreat
namespace Go.Proofs.YtegnkfdbmmndaaaGreat
open Hm Go.Proofs.Tryz
namespace Hm
theorem Sh(gs:List Grp): ∀k,k≤gs.length→ ∀i,i<k→(gs.getD (Cn gs k) (0,0,[])).1<(gs.getD i (0,0,[])).1∨((gs.getD (Cn gs k) (0,0,[])).1=(gs.getD i (0,0,[])).1∧(gs.getD (Cn gs k) (0,0,[])).2.1.toNat≤(gs.getD i (0,0,[])).2.1.toNat)
 |0,_,i,h=>by omega
 |k+1,hk,i,h=>by
  have ih:=Sh gs k (by omega);rw[Cn];have neg: ∀g h:Grp,Mn g h<0↔ltP (g.1,g.2.1.toNat) (h.1,h.2.1.toNat):=fun g h=>Ox (g.1,g.2.1.toNat) (h.1,h.2.1.toNat)
  by_cases c:Mn (gs.getD k (0,0,[])) (gs.getD (Cn gs k) (0,0,[]))<0
  ·rw[if_pos c];have c':=(neg _ _).1 c;unfold ltP at c';simp only at c'
   by_cases e:i=k
   ·subst e;exact .inr ⟨rfl,Ane _⟩
   ·have:=ih i (by omega);omega
  ·rw[if_neg c];have c':=mt (neg _ _).2 c;unfold ltP at c';simp only at c'
   by_cases e:i=k
   ·subst e;omega
   ·exact ih i (by omega)
theorem Vl(gs:List Grp)(g:Grp)(a:g∈gs):(Ar gs).1<g.1∨((Ar gs).1=g.1∧(Ar gs).2.1.toNat≤g.2.1.toNat):=by
 obtain⟨i,hi,rfl⟩:=Aog a;have:=Sh gs gs.length (Ane _) i hi;rw[Am4 (i:=i),Am5 hi]at this;exact this
structure Sim(gs:List Grp)(wt inn:Ard):Prop where
 lw:wt.length=256
 li:inn.length=256
 name: ∀g∈gs,g.2.1∈g.2.2
 pos: ∀g∈gs,0<g.1
 wi: ∀g∈gs,wt.getD g.2.1.toNat 0=g.1
 wo: ∀c,(∀g∈gs,g.2.1.toNat≠c)→wt.getD c 0=0
 ii: ∀g∈gs,∀b∈g.2.2,inn.getD b.toNat 0=g.2.1.toNat
 io: ∀b:UInt8,b∉Bp gs→inn.getD b.toNat 0=b.toNat
theorem Sim.perm{gs hs:List Grp}{wt inn:Ard}(h:Sim gs wt inn)(p:gs.Perm hs):Sim hs wt inn:=
 ⟨h.lw,h.li,fun g a=>h.name g (p.mem_iff.2 a),fun g a=>h.pos g (p.mem_iff.2 a),fun g a=>h.wi g (p.mem_iff.2 a),fun c d=>h.wo c fun g a=>d g (p.mem_iff.1 a),fun g a=>h.ii g (p.mem_iff.2 a),fun b hb=>h.io b fun k=>hb ((p.flatMap_right (fun g:Grp=>g.2.2)).mem_iff.1 k)⟩
theorem Kk{x y:Grp}{gs:List Grp}(hn:(Bp (x::gs)).Nodup)(b:x.2.1∈x.2.2)(c:y∈gs)(a:y.2.1∈y.2.2):x.2.1.toNat≠y.2.1.toNat:=fun e=>by
 have e':x.2.1=y.2.1:=UInt8.toNat_inj.1 e;unfold Bp at hn;rw[Aoe,List.nodup_append]at hn;exact hn.2.2 _ b _ (List.mem_flatMap.2 ⟨y,c,a⟩) e'
theorem Sim.first{gs:List Grp}{wt inn:Ard}(h:Sim gs wt inn)(d:0<gs.length):Cg wt (-1) 256=some (Ar gs).2.1.toNat:=by
 obtain⟨s1,s2⟩:=Mc wt (-1) 256;have ht:=Zq gs d;cases c:Cg wt (-1) 256 with
 |none=>
  have:=s2 c (Ar gs).2.1.toNat (Ar gs).2.1.toNat_lt (by omega);rw[h.wi _ ht]at this;have:=h.pos _ ht;omega
 |some j=>
  obtain⟨_,a2,a3⟩:=s1 j c;have b: ∃g∈gs,g.2.1.toNat=j:=by
   apply Aq0;intro f;have:=h.wo j fun g a e=>f ⟨g,a,e⟩;omega
  obtain⟨g,a,rfl⟩:=b;have b1:=a3 (Ar gs).2.1.toNat (Ar gs).2.1.toNat_lt (by omega) (by rw[h.wi _ ht];exact h.pos _ ht);rw[h.wi _ ht,h.wi _ a]at b1;have b2:=Vl gs g a;congr 1;omega
theorem Sim.second{x:Grp}{gs:List Grp}{wt inn:Ard}(h:Sim (x::gs) wt inn)(hn:(Bp (x::gs)).Nodup):Cg wt (x.2.1.toNat:Int) 256=if 0<gs.length then some (Ar gs).2.1.toNat else none:=by
 obtain⟨s1,s2⟩:=Mc wt (x.2.1.toNat:Int) 256;have n:x.2.1∈x.2.2:=h.name x Anl;have m: ∀g∈gs,x.2.1.toNat≠g.2.1.toNat:=fun g b=>Kk hn n b (h.name g (Anr _ b))
 by_cases d:0<gs.length
 ·rw[if_pos d];have ht:=Zq gs d;have a:Ar gs∈x::gs:=Anr _ ht;have p:=m _ ht;cases c:Cg wt (x.2.1.toNat:Int) 256 with
  |none=>
   have:=s2 c (Ar gs).2.1.toNat (Ar gs).2.1.toNat_lt (by omega);rw[h.wi _ a]at this;have:=h.pos _ a;omega
  |some j=>
   obtain⟨a1,a2,a3⟩:=s1 j c;have f: ∃g∈x::gs,g.2.1.toNat=j:=by
    apply Aq0;intro o;have:=h.wo j fun g b e=>o ⟨g,b,e⟩;omega
   obtain⟨g,b,rfl⟩:=f;have i:g∈gs:=by
    rcases List.mem_cons.1 b with e|k
    ·subst e;exact absurd rfl a1
    ·exact k
   have b1:=a3 (Ar gs).2.1.toNat (Ar gs).2.1.toNat_lt (by omega) (by rw[h.wi _ a];exact h.pos _ a);rw[h.wi _ a,h.wi _ b]at b1;have b2:=Vl gs g i;congr 1;omega
 ·rw[if_neg d];cases c:Cg wt (x.2.1.toNat:Int) 256 with
  |none=>rfl
  |some j=>
   exfalso;obtain⟨a1,a2,a3⟩:=s1 j c;have l:gs=[]:=Aob (by omega);subst l;have:=h.wo j fun g b e=>by
    rw[List.mem_singleton.1 b]at e;exact a1 (by omega)
   omega
def Qq(inn:Ard)(x y:Nat):Ard:=inn.map fun v=>if v=x∨v=y then x else v
def Nr(wt:Ard)(x y:Nat):Ard:=(wt.set x (wt.getD x 0+wt.getD y 0)).set y 0
theorem P8(inn:Ard)(x y c:Nat)(h:c<inn.length):(Qq inn x y).getD c 0=if inn.getD c 0=x∨inn.getD c 0=y then x else inn.getD c 0:=by
 unfold Qq;rw[Am4,An2,Am4,Am5 h];rfl
theorem Vm(wt:Ard)(x y c:Nat)(a:x<wt.length)(b:y<wt.length):(Nr wt x y).getD c 0=if c=y then 0 else if c=x then wt.getD x 0+wt.getD y 0 else wt.getD c 0:=by
 unfold Nr
 by_cases h1:c=y
 ·rw[if_pos h1,h1,Jl _ _ _ (by simpa using b)]
 ·rw[if_neg h1,getD_set_ne _ _ _ _ (fun e=>h1 e.symm)]
  by_cases h2:c=x
  ·rw[if_pos h2,h2,Jl _ _ _ a]
  ·rw[if_neg h2,getD_set_ne _ _ _ _ (fun e=>h2 e.symm)]
theorem Rp(x y:Grp):(Ez x y).2.1.toNat=min x.2.1.toNat y.2.1.toNat:=by
 show(UInt8.ofNat (min x.2.1.toNat y.2.1.toNat)).toNat=_;rw[Aoa];have:=x.2.1.toNat_lt;omega
theorem Sim.either{x y:Grp}{gs:List Grp}{wt inn:Ard}(h:Sim (x::y::gs) wt inn)(hn:(Bp (x::y::gs)).Nodup)(b:UInt8):(inn.getD b.toNat 0=x.2.1.toNat∨inn.getD b.toNat 0=y.2.1.toNat)↔b∈x.2.2++y.2.2:=by
 have i:=h.name x Anl;have j:=h.name y (Anr _ Anl);have k:x.2.1.toNat≠y.2.1.toNat:=Kk hn i Anl j;constructor
 ·intro e
  by_cases d:b∈Bp (x::y::gs)
  ·obtain⟨g,a,hb⟩:=List.mem_flatMap.1 d;have hi:=h.ii g a b hb;rw[hi]at e;rcases List.mem_cons.1 a with rfl|a
   ·exact Ap0 _ hb
   ·rcases List.mem_cons.1 a with rfl|a
    ·exact List.mem_append_right _ hb
    ·exfalso;have c:=h.name g (Anr _ (Anr _ a));have n1:x.2.1.toNat≠g.2.1.toNat:=Kk hn i (Anr _ a) c;have f:(Bp (y::gs)).Nodup:=by
      unfold Bp at hn⊢;rw[Aoe,List.nodup_append]at hn;exact hn.2.1
     have n2:y.2.1.toNat≠g.2.1.toNat:=Kk f j a c;omega
  ·exfalso;rw[h.io b d]at e;rcases e with e|e
   ·exact d (List.mem_flatMap.2 ⟨x,Anl,by rw[UInt8.toNat_inj.1 e];exact i⟩)
   ·exact d (List.mem_flatMap.2 ⟨y,Anr _ Anl,by rw[UInt8.toNat_inj.1 e];exact j⟩)
 ·intro hb;rcases Aq3.1 hb with hb|hb
  ·exact .inl (h.ii x Anl b hb)
  ·exact .inr (h.ii y (Anr _ Anl) b hb)
theorem Sim.merge{x y:Grp}{gs:List Grp}{wt inn:Ard}(h:Sim (x::y::gs) wt inn)(hn:(Bp (x::y::gs)).Nodup):Sim (Ez x y::gs) (Nr wt (min x.2.1.toNat y.2.1.toNat) (max x.2.1.toNat y.2.1.toNat)) (Qq inn (min x.2.1.toNat y.2.1.toNat) (max x.2.1.toNat y.2.1.toNat)):=by
 have r:=h.name x Anl;have s:=h.name y (Anr _ Anl);have z:x.2.1.toNat≠y.2.1.toNat:=Kk hn r Anl s;have w:=x.2.1.toNat_lt;have A:=y.2.1.toNat_lt;have j:=h.wi x Anl;have l:=h.wi y (Anr _ Anl);have old: ∀g∈gs,g∈x::y::gs:=fun g d=>Anr _ (Anr _ d);have q:(Bp (y::gs)).Nodup:=by
  unfold Bp at hn⊢;rw[Aoe,List.nodup_append]at hn;exact hn.2.1
 have n1: ∀g∈gs,x.2.1.toNat≠g.2.1.toNat:=fun g d=>Kk hn r (Anr _ d) (h.name g (old g d));have n2: ∀g∈gs,y.2.1.toNat≠g.2.1.toNat:=fun g d=>Kk q s d (h.name g (old g d));have o:=h.lw;have n:=h.li;have p:(x.2.1.toNat=min x.2.1.toNat y.2.1.toNat∧y.2.1.toNat=max x.2.1.toNat y.2.1.toNat)∨(y.2.1.toNat=min x.2.1.toNat y.2.1.toNat∧x.2.1.toNat=max x.2.1.toNat y.2.1.toNat):=by omega
 have i:wt.getD (min x.2.1.toNat y.2.1.toNat) 0+wt.getD (max x.2.1.toNat y.2.1.toNat) 0=x.1+y.1:=by
  rcases p with⟨a,b⟩|⟨a,b⟩
  ·rw[←a,←b,j,l]
  ·rw[←a,←b,j,l];omega
 have eith: ∀v:Nat,(v=min x.2.1.toNat y.2.1.toNat∨v=max x.2.1.toNat y.2.1.toNat)↔(v=x.2.1.toNat∨v=y.2.1.toNat):=fun v=>by omega
 refine⟨by simp[Nr,o],by simp[Qq,n],fun g d=>?_,fun g d=>?_,fun g d=>?_,fun c t=>?_,fun g d b hb=>?_,fun b hb=>?_⟩
 ·rcases List.mem_cons.1 d with rfl|d
  ·show UInt8.ofNat (min x.2.1.toNat y.2.1.toNat)∈x.2.2++y.2.2;rcases Nat.le_total x.2.1.toNat y.2.1.toNat with e|e
   ·rw[Ap7 e];simp only[UInt8.ofNat_toNat];exact Ap0 _ r
   ·rw[Nat.min_eq_right e];simp only[UInt8.ofNat_toNat];exact List.mem_append_right _ s
  ·exact h.name g (old g d)
 ·rcases List.mem_cons.1 d with rfl|d
  ·have:=h.pos x Anl;show 0<x.1+y.1;omega
  ·exact h.pos g (old g d)
 ·rw[Vm _ _ _ _ (by omega) (by omega)];rcases List.mem_cons.1 d with rfl|d
  ·rw[Rp,if_neg (by omega),if_pos rfl,i];rfl
  ·have:=n1 g d;have:=n2 g d;rw[if_neg (by omega),if_neg (by omega)];exact h.wi g (old g d)
 ·rw[Vm _ _ _ _ (by omega) (by omega)];have u:=t _ Anl;rw[Rp]at u
  by_cases e:c=max x.2.1.toNat y.2.1.toNat
  ·rw[if_pos e]
  ·rw[if_neg e,if_neg (fun k=>u k.symm)];refine h.wo c fun g d=>?_;rcases List.mem_cons.1 d with rfl|d
   ·omega
   ·rcases List.mem_cons.1 d with rfl|d
    ·omega
    ·exact t g (Anr _ d)
 ·have m:=b.toNat_lt;rw[P8 _ _ _ _ (by omega)];rcases List.mem_cons.1 d with rfl|d
  ·rw[if_pos ((eith _).2 ((h.either hn b).2 hb)),Rp]
  ·have hi:=h.ii g (old g d) b hb;have:=n1 g d;have:=n2 g d;rw[hi,if_neg (by omega)]
 ·have m:=b.toNat_lt;have f:b∉Bp (x::y::gs):=by
   intro k;refine hb ?_;unfold Bp at k⊢;rw[Aoe,Aoe,←An4]at k;rw[Aoe];exact k
  rw[P8 _ _ _ _ (by omega),if_neg (fun k=>?_)]
  ·exact h.io b f
  ·have:=(h.either hn b).1 ((eith _).1 k);refine f (List.mem_flatMap.2 ?_);rcases Aq3.1 this with k|k
   ·exact⟨x,Anl,k⟩
   ·exact⟨y,Anr _ Anl,k⟩
end Hm
end Go.Proofs.YtegnkfdbmmndaaaGreat
namespace Go.Proofs.YtegnkfdbmmndaaaGreat
open Hm Go.Proofs.Tryz Go.RowKit
def AR(w:World)(g:Nat)(l:Ard):Prop:=w.heap[g]?=some (.cells (Ad l).toArray 94 (0,0))
theorem AR.cell{w:World}{g:Nat}{l:Ard}(h:AR w g l){i:Nat}(hi:i<l.length):w.cell? ⟨g,i,none⟩=some (.int .i64 (l.getD i 0:Nat)):=by
 rw[Am7 _ _ i _ _ _ h];simp[Ad,hi,List.getD_eq_getElem?_getD]
theorem AR.free{w:World}{g:Nat}{l:Ard}(h:AR w g l)(i:Nat):w.frozen? ⟨g,i,none⟩=false:=Ang _ _ i _ _ h
theorem AR.set{w:World}{g:Nat}{l:Ard}(h:AR w g l)(i x:Nat):AR (w.setCell ⟨g,i,none⟩ (.int .i64 (x:Nat))) g (l.set i x):=by
 have h2:=Anb w g i _ _ (.int .i64 (x:Nat)) h;unfold AR;rw[h2];congr 2;apply Api;simp[Ad,List.map_set]
theorem AR.other{w:World}{g h:Nat}{l:Ard}(k:AR w g l)(i:Nat)(v:Value)(a:g≠h):AR (w.setCell ⟨h,i,none⟩ v) g l:=(Apm _ _ _ _ a).trans k
theorem AR.lt{w:World}{g:Nat}{l:Ard}(h:AR w g l):g<w.heap.size:=Anu h
theorem AR.kept{S:Nat→Prop}{w w':World}{g:Nat}{l:Ard}(h:AR w g l)(hk:Aa S w w')(hn: ¬S g):AR w' g l:=hk.row h hn
theorem Aad:Tryz.zeroCells94=(Ad (List.replicate 256 0)).toArray:=by kernel_rfl
namespace Hm
def Kl(inn:Ard)(x y k:Nat):Ard:=(List.range 256).map fun i=>if i<k∧(inn.getD i 0=x∨inn.getD i 0=y)then x else inn.getD i 0
def Jg(inn L:Ard)(x y k:Nat):Ard:=(List.range 256).map fun i=>if i<k∧(inn.getD i 0=x∨inn.getD i 0=y)then L.getD i 0+1 else L.getD i 0
theorem G7(inn:Ard)(x y k:Nat):(Kl inn x y k).length=256:=by unfold Kl;rw[Anz,Apq]
theorem F4(inn L:Ard)(x y k:Nat):(Jg inn L x y k).length=256:=by unfold Jg;rw[Anz,Apq]
theorem Km(inn:Ard)(x y k i:Nat)(h:i<256):(Kl inn x y k).getD i 0=if i<k∧(inn.getD i 0=x∨inn.getD i 0=y)then x else inn.getD i 0:=by
 unfold Kl;rw[Am4,An2,Ao2 h];rfl
theorem Ie(inn L:Ard)(x y k i:Nat)(h:i<256):(Jg inn L x y k).getD i 0=if i<k∧(inn.getD i 0=x∨inn.getD i 0=y)then L.getD i 0+1 else L.getD i 0:=by
 unfold Jg;rw[Am4,An2,Ao2 h];rfl
theorem Kn{a b:Ard}(h:a.length=256)(k:b.length=256)(e: ∀i,i<256→a.getD i 0=b.getD i 0):a=b:=by
 apply Aon
 ·omega
 ·intro i h1 h2;have:=e i (by omega);rw[Am4,Am5 h1,Am4,Am5 h2]at this;exact this
theorem Akc(inn:Ard)(x y:Nat)(h:inn.length=256):Kl inn x y 0=inn:=Kn (G7 ..) h fun i hi=>by rw[Km _ _ _ _ _ hi,if_neg (by omega)]
theorem Ait(inn L:Ard)(x y:Nat)(h:L.length=256):Jg inn L x y 0=L:=Kn (F4 ..) h fun i hi=>by rw[Ie _ _ _ _ _ _ hi,if_neg (by omega)]
theorem Aeb(inn:Ard)(x y k:Nat)(hk:k<256)(h:inn.getD k 0=x∨inn.getD k 0=y):Kl inn x y (k+1)=(Kl inn x y k).set k x:=Kn (G7 ..) (by rw[Aou,G7]) fun i hi=>by
 rw[Km _ _ _ _ _ hi]
 by_cases e:i=k
 ·subst e;rw[Jl _ _ _ (by rw[G7];exact hi),if_pos ⟨by omega,h⟩]
 ·rw[getD_set_ne _ _ _ _ (fun c=>e c.symm),Km _ _ _ _ _ hi]
  by_cases c:i<k∧(inn.getD i 0=x∨inn.getD i 0=y)
  ·rw[if_pos c,if_pos ⟨by omega,c.2⟩]
  ·rw[if_neg c,if_neg (fun q=>c ⟨by omega,q.2⟩)]
theorem Akd(inn:Ard)(x y k:Nat)(h: ¬(inn.getD k 0=x∨inn.getD k 0=y)):Kl inn x y (k+1)=Kl inn x y k:=Kn (G7 ..) (G7 ..) fun i hi=>by
 rw[Km _ _ _ _ _ hi,Km _ _ _ _ _ hi]
 by_cases e:i=k
 ·subst e;rw[if_neg (fun q=>h q.2),if_neg (fun q=>h q.2)]
 ·by_cases c:i<k∧(inn.getD i 0=x∨inn.getD i 0=y)
  ·rw[if_pos c,if_pos ⟨by omega,c.2⟩]
  ·rw[if_neg c,if_neg (fun q=>c ⟨by omega,q.2⟩)]
theorem Aae(inn L:Ard)(x y k:Nat)(hk:k<256)(h:inn.getD k 0=x∨inn.getD k 0=y):Jg inn L x y (k+1)=(Jg inn L x y k).set k (L.getD k 0+1):=Kn (F4 ..) (by rw[Aou,F4]) fun i hi=>by
 rw[Ie _ _ _ _ _ _ hi]
 by_cases e:i=k
 ·subst e;rw[Jl _ _ _ (by rw[F4];exact hi),if_pos ⟨by omega,h⟩]
 ·rw[getD_set_ne _ _ _ _ (fun c=>e c.symm),Ie _ _ _ _ _ _ hi]
  by_cases c:i<k∧(inn.getD i 0=x∨inn.getD i 0=y)
  ·rw[if_pos c,if_pos ⟨by omega,c.2⟩]
  ·rw[if_neg c,if_neg (fun q=>c ⟨by omega,q.2⟩)]
theorem Aiu(inn L:Ard)(x y k:Nat)(h: ¬(inn.getD k 0=x∨inn.getD k 0=y)):Jg inn L x y (k+1)=Jg inn L x y k:=Kn (F4 ..) (F4 ..) fun i hi=>by
 rw[Ie _ _ _ _ _ _ hi,Ie _ _ _ _ _ _ hi]
 by_cases e:i=k
 ·subst e;rw[if_neg (fun q=>h q.2),if_neg (fun q=>h q.2)]
 ·by_cases c:i<k∧(inn.getD i 0=x∨inn.getD i 0=y)
  ·rw[if_pos c,if_pos ⟨by omega,c.2⟩]
  ·rw[if_neg c,if_neg (fun q=>c ⟨by omega,q.2⟩)]
theorem Al2(inn:Ard)(x y:Nat)(h:inn.length=256):Kl inn x y 256=Qq inn x y:=Kn (G7 ..) (by unfold Qq;rw[Anz,h]) fun i hi=>by
 rw[Km _ _ _ _ _ hi,P8 _ _ _ _ (by omega)]
 by_cases c:inn.getD i 0=x∨inn.getD i 0=y
 ·rw[if_pos ⟨hi,c⟩,if_pos c]
 ·rw[if_neg (fun q=>c q.2),if_neg c]
theorem Ake{x y:Grp}{gs:List Grp}{wt inn L:Ard}(h:Sim (x::y::gs) wt inn)(hn:(Bp (x::y::gs)).Nodup)(d:L.length=256):Jg inn L (min x.2.1.toNat y.2.1.toNat) (max x.2.1.toNat y.2.1.toNat) 256=bump L (Ez x y).2.2:=by
 have f:(x.2.2++y.2.2).Nodup:=by
  unfold Bp at hn;rw[Aoe,Aoe,←An4,List.nodup_append]at hn;exact hn.1
 refine Kn (F4 ..) (by rw[K7];exact d) fun i hi=>?_;rw[Ie _ _ _ _ _ _ hi];have hb:(UInt8.ofNat i).toNat=i:=by rw[Aoa];omega
 have e:=h.either hn (UInt8.ofNat i);rw[hb]at e;have eith:(inn.getD i 0=min x.2.1.toNat y.2.1.toNat∨inn.getD i 0=max x.2.1.toNat y.2.1.toNat)↔(inn.getD i 0=x.2.1.toNat∨inn.getD i 0=y.2.1.toNat):=by omega
 by_cases c:inn.getD i 0=x.2.1.toNat∨inn.getD i 0=y.2.1.toNat
 ·have b:=Ue (L:=L) d f (e.1 c);rw[ln,ln,hb]at b;rw[if_pos ⟨hi,eith.2 c⟩];exact b.symm
 ·have a:=V4 (L:=L) (bs:=x.2.2++y.2.2) d (fun k=>c (e.2 k));rw[ln,ln,hb]at a;rw[if_neg (fun q=>c (eith.1 q.2))];exact a.symm
theorem Af7(t:Arc):Sim (Aj t 256) (weights t) (List.range 256):=by
 have a: ∀g∈Aj t 256,∃x,x<256∧0<cnt t x∧g=(cnt t x,UInt8.ofNat x,[UInt8.ofNat x]):=fun g a=>by
  unfold Aj at a;obtain⟨x,f,rfl⟩:=List.mem_map.1 a;exact⟨x,List.mem_range.1 (List.mem_filter.1 f).1,by simpa using(List.mem_filter.1 f).2,rfl⟩
 have k: ∀c,c<256→(weights t).getD c 0=cnt t c:=fun c d=>by
  unfold weights;rw[Am4,An2,Ao2 d];rfl
 have i: ∀c,c<256→(List.range 256).getD c 0=c:=fun c d=>by
  rw[Am4,Ao2 d];rfl
 have j: ∀x,x<256→(UInt8.ofNat x).toNat=x:=fun x f=>by rw[Aoa];omega
 refine⟨Gd t,Apq,fun g h=>?_,fun g h=>?_,fun g h=>?_,fun c d=>?_,fun g h b hb=>?_,fun b _=>i _ b.toNat_lt⟩
 ·obtain⟨x,_,_,rfl⟩:=a g h;exact List.mem_singleton.2 rfl
 ·obtain⟨x,_,h2,rfl⟩:=a g h;exact h2
 ·obtain⟨x,h1,_,rfl⟩:=a g h;show(weights t).getD (UInt8.ofNat x).toNat 0=cnt t x;rw[j x h1,k x h1]
 ·by_cases h1:c<256
  ·rw[k c h1];apply Aq0;intro h2;refine d (cnt t c,UInt8.ofNat c,[UInt8.ofNat c]) ?_ (j c h1);unfold Aj;exact List.mem_map.2 ⟨c,List.mem_filter.2 ⟨List.mem_range.2 h1,by simp;omega⟩,rfl⟩
  ·rw[Am4,Anx (by rw[Gd];omega)];rfl
 ·obtain⟨x,h1,_,rfl⟩:=a g h;have e:b=UInt8.ofNat x:=List.mem_singleton.1 hb;subst e;show(List.range 256).getD (UInt8.ofNat x).toNat 0=(UInt8.ofNat x).toNat;rw[i _ (UInt8.ofNat x).toNat_lt]
theorem Akf{t:Arc}{c:Nat}{b:UInt8}(h:b∈t)(e:b.toNat=c):Lm t c=true:=by
 unfold Lm;rw[List.any_eq_true];exact⟨b,h,by simpa using e⟩
end Hm
end Go.Proofs.YtegnkfdbmmndaaaGreat
