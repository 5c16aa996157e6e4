import Derived.Test.YtegnkfdbmmndaaaGreatK09

set_option maxHeartbeats 8000000
set_option maxRecDepth 100000
namespace Go.Proofs.YtegnkfdbmmndaaaGreat
open Hm Go.Proofs.Tryz
variable{w:World}{a base g n:Nat}{vs:Aei}{bs o:Aeg}{L:Aeh}{b:UInt8}
section
open Go.RowKit Go.Sort
theorem Ii.kept{w':World}(h:Ii w w')(S:Nat->Prop):Aa S w w':=by
 obtain⟨q,os,rfl⟩:=h;exact⟨rfl,rfl,rfl,by unfold grow World.drewN;simp,fun k hk _=>by
  unfold grow World.drewN;simp only[];rw[Array.getElem?_append_left hk]⟩
namespace Hm
def Ct(gs:List Grp):Nat->Nat
 |0=>0
 |k+1=>if N0 (gs.getD k (0,0,[])) (gs.getD (Ct gs k) (0,0,[]))<0 then k else Ct gs k
def first(gs:List Grp):Nat:=Ct gs gs.length
theorem Z4(gs:List Grp)(h:0<gs.length)(k:Nat)(hk:k<=gs.length):Ct gs k<gs.length:=by
 induction k with
 |zero=>exact h
 |succ k ih=>
  rw[Ct];split
  ·omega
  ·exact ih (by omega)
theorem Hd(gs:List Grp)(h:0<gs.length):first gs<gs.length:=Z4 gs h _ (zK _)
end Hm
theorem Dm.cells{gs:List Grp}(h:Dm w base (.slice (some ⟨g,0,none⟩) n a) gs vs){i:Nat}(hi:i<gs.length)(h2:i<vs.length):
  w.cell? ⟨g,i*3,none⟩=some (.int .i64 (gs[i].1:Nat))/\w.cell? ⟨g,i*3+1,none⟩=some (.int .u8 (gs[i].2.1.toNat:Nat))/\w.cell? ⟨g,i*3+2,none⟩=some vs[i]:=by
 obtain⟨b,c,d⟩:=Z0 gs vs i hi h2;have hn:n=gs.length:=by
  rcases h.own.2 with⟨e,_⟩|⟨_,_,_,e,_⟩
  ·cases e
  ·cases e;rfl
 subst hn;refine⟨?_,?_,?_⟩
 ·rw[h.own.cellAt _ (by omega),Ade,b]
 ·rw[h.own.cellAt _ (by omega),Ade,c]
 ·rw[h.own.cellAt _ (by omega),Ade,d]
theorem Dm.cellsD{gs:List Grp}(h:Dm w base (.slice (some ⟨g,0,none⟩) n a) gs vs){i:Nat}(hi:i<gs.length):
  w.cell? ⟨g,i*3,none⟩=some (.int .i64 ((gs.getD i (0,0,[])).1:Nat))/\w.cell? ⟨g,i*3+1,none⟩=some (.int .u8 ((gs.getD i (0,0,[])).2.1.toNat:Nat))/\w.cell? ⟨g,i*3+2,none⟩=some (vs.getD i undef):=by
 have h2:i<vs.length:=by have:=h.len;omega
 rw[zG,zG,zH hi,zH h2];exact h.cells hi h2
theorem Dm.memD{v:Value}{gs:List Grp}(h:Dm w base v gs vs){i:Nat}(hi:i<gs.length):
  Gn w (vs.getD i undef) (gs.getD i (0,0,[])).2.2/\ ∀k,(vs.getD i undef).ownBlock=some k->v.ownBlock≠some k:=by
 have h2:i<vs.length:=by have:=h.len;omega
 rw[zG,zG,zH hi,zH h2];exact h.mem i hi h2
theorem T9(base pb:Nat)(v:Value)(gs:List Grp)(vs:Aei)(w:World)(h:Dm w base v gs vs)(hp:w.heap[pb]?=some (.cells #[v] 213 (0,0)))(aj:v.ownBlock≠some pb)
  (ai: ∀m,(h:m<vs.length)->vs[m].ownBlock≠some pb) (hl:gs.length<=256) (h0:0<gs.length):
  Calls prog 139 #[.pointer (some ⟨pb,0,none⟩)] w fun e w'=> ∃v' gw gl gv,e= .returned (.agg #[.int .i64 gw,.int .u8 gl,gv])/\gw=(gs.getD (Hm.first gs) (0,0,[])).1/\gl=(gs.getD (Hm.first gs) (0,0,[])).2.1.toNat/\gv=vs.getD (Hm.first gs) undef/\
   w'.heap[pb]?=some (.cells #[v'] 213 (0,0))/\Dm w' base v' (gs.eraseIdx (Hm.first gs)) (vs.eraseIdx (Hm.first gs))/\v'.ownBlock=v.ownBlock/\Aa (fun k=>k=pb\/v.ownBlock=some k) w w':=by
 have Q:=h.len;obtain⟨g,c,hv,aM,y⟩:=Co h.own (by omega);subst hv;have z:w.cell? ⟨pb,0,none⟩=some (.slice (some ⟨g,0,none⟩) gs.length c):=zP _ _ 0 _ _ _ hp;have Z:pb<w.heap.size:=Aac hp;have L:g≠pb:=fun e=>aj (by rw[e];rfl);have E:Hid (Dm w base (.slice (some ⟨g,0,none⟩) gs.length c) gs vs/\w.heap[pb]?=some (.cells #[.slice (some ⟨g,0,none⟩) gs.length c] 213 (0,0))/\(∀m,(h:m<vs.length)->vs[m].ownBlock≠some pb)/\vs.length=gs.length/\g≠pb):=⟨h,hp,ai,Q,L⟩;clear h hp aj ai Q L
 go_enter func139,ntmps139
 go_wp2_with fail
 go_loopw[3,11] (fun f i wr=> ∃k:Nat,k<=gs.length/\i= .int .i64 k/\f= .int .i64 (Ct gs k:Nat)/\Aee (w.alloc (.cells #[.int .i64 0,.int .u8 0,.slice none 0 0] 216)) wr) (fun _ i _=>gs.length-(intOf i).toNat)
 case atStart=>exact⟨0,zZ _,rfl,rfl,Aa.refl _ _⟩
 case round=>
  clear z;obtain⟨k,hk,rfl,rfl,u⟩:=hrel;have q:Aee w wr:=((Aa.refl _ w).alloc _).tr u;have x:=q.size;have z:wr.cell? ⟨pb,0,none⟩=some (.slice (some ⟨g,0,none⟩) gs.length c):=(q.cell (p:=⟨pb,0,none⟩) Z id).trans (zP _ _ 0 _ _ _ E.o.2.1);have C:Dm wr base (.slice (some ⟨g,0,none⟩) gs.length c) gs vs:=⟨E.o.2.2.2.1,q.owns E.o.1.own (fun _ _=>id),fun i h1 h2=>⟨(E.o.1.mem i h1 h2).1.kept q (fun _ _=>id),(E.o.1.mem i h1 h2).2⟩⟩;have F:=Z4 gs h0 k hk
  by_cases X:k<gs.length
  ·have ad:decide ((k:Int)<(gs.length:Int))=true:=by simp;omega
   obtain⟨a1,a2,a3⟩:=C.cellsD X;obtain⟨b1,b2,b3⟩:=C.cellsD F;have n:=fun W=>Xl (gs.getD k (0,0,[])) (gs.getD (Ct gs k) (0,0,[])) (vs.getD k undef) (vs.getD (Ct gs k) undef) W;have HF:Hid (Ct gs (k+1)=if N0 (gs.getD k (0,0,[])) (gs.getD (Ct gs k) (0,0,[]))<0 then k else Ct gs k):=rfl;obtain⟨D,ck,ek,-⟩:=(C.memD X).1;obtain⟨O,cf,ef,-⟩:=(C.memD F).1;rw[ek]at a3 n;rw[ef]at b3 n;clear ek ef;generalize Ct gs k=f at*;generalize gs.getD k (0,0,[])=gk at*;generalize gs.getD f (0,0,[])=gf at*;generalize gk.2.2.length=lk at*;generalize gf.2.2.length=lf at*;have au:(f:Int)<(gs.length:Int):=by omega
   have aJ:(k:Int)<(gs.length:Int):=by omega
   clear C
   by_cases K:N0 gk gf<0
   ·have ar:decide (N0 gk gf<0)=true:=by simp;exact K
    rw[if_pos K]at HF;generalize N0 gk gf=r at*;go_wp2_with fail;have j:Aee wr (wr.alloc (.cells #[.int .i64 gk.1,.int .u8 gk.2.1.toNat,.slice (some ⟨D,0,none⟩) lk ck] 216)):=(Aa.refl _ _).alloc _;have s:=zY wr (.cells #[.int .i64 gk.1,.int .u8 gk.2.1.toNat,.slice (some ⟨D,0,none⟩) lk ck] 216);have G:=u.alloc (.cells #[.int .i64 gk.1,.int .u8 gk.2.1.toNat,.slice (some ⟨D,0,none⟩) lk ck] 216);generalize wr.alloc (.cells #[.int .i64 gk.1,.int .u8 gk.2.1.toNat,.slice (some ⟨D,0,none⟩) lk ck] 216)=W1 at*;have p0:W1.cell? ⟨pb,0,none⟩=some (.slice (some ⟨g,0,none⟩) gs.length c):=(j.cell (p:=⟨pb,0,none⟩) (Aa9 Z x) id).trans z;have p1:W1.cell? ⟨g,f*3,none⟩=_:=(j.cell (p:=⟨g,f*3,none⟩) (Aa9 y x) id).trans b1;have p2:W1.cell? ⟨g,f*3+1,none⟩=_:=(j.cell (p:=⟨g,f*3+1,none⟩) (Aa9 y x) id).trans b2;have p3:W1.cell? ⟨g,f*3+2,none⟩=_:=(j.cell (p:=⟨g,f*3+2,none⟩) (Aa9 y x) id).trans b3;have p4:W1.cell? ⟨wr.heap.size,0,none⟩=some (.int .i64 gk.1):=zP _ _ 0 _ _ _ s;have p5:W1.cell? ⟨wr.heap.size,1,none⟩=some (.int .u8 gk.2.1.toNat):=zP _ _ 1 _ _ _ s;have p6:W1.cell? ⟨wr.heap.size,2,none⟩=some (.slice (some ⟨D,0,none⟩) lk ck):=zP _ _ 2 _ _ _ s;clear a1 a2 a3 b1 b2 b3 j s u q z
    go_region_held(fun W=>W.cell? ⟨pb,0,none⟩=some (.slice (some ⟨g,0,none⟩) gs.length c)/\W.cell? ⟨g,f*3,none⟩=some (.int .i64 gf.1)/\W.cell? ⟨g,f*3+1,none⟩=some (.int .u8 gf.2.1.toNat)/\W.cell? ⟨g,f*3+2,none⟩=some (.slice (some ⟨O,0,none⟩) lf cf)/\
      W.cell? ⟨wr.heap.size,0,none⟩=some (.int .i64 gk.1)/\W.cell? ⟨wr.heap.size,1,none⟩=some (.int .u8 gk.2.1.toNat)/\W.cell? ⟨wr.heap.size,2,none⟩=some (.slice (some ⟨D,0,none⟩) lk ck)) (go_keep)
     (first
     |(go_at_call 178;refine(n _).mono ?_;rintro e w2 ⟨rfl,a⟩;have k0:=a.cell p0;have k1:=a.cell p1;have k2:=a.cell p2;have k3:=a.cell p3;have k4:=a.cell p4;have k5:=a.cell p5;have k6:=a.cell p6))
    have V:=G.drew.tr (a.kept (fun _=>False));clear a n p0 p1 p2 p3 p4 p5 p6 G k0 k1 k2 k3 k4 k5 k6;go_wp2;go_roundw
    case rel=>exact⟨k+1,by omega,by go_num,by rw[HF.o],V⟩
    case measure=>simp[intOf];omega
   ·have ar:decide (N0 gk gf<0)=false:=by simp;omega
    rw[if_neg K]at HF;generalize N0 gk gf=r at*;go_wp2_with fail;have j:Aee wr (wr.alloc (.cells #[.int .i64 gk.1,.int .u8 gk.2.1.toNat,.slice (some ⟨D,0,none⟩) lk ck] 216)):=(Aa.refl _ _).alloc _;have s:=zY wr (.cells #[.int .i64 gk.1,.int .u8 gk.2.1.toNat,.slice (some ⟨D,0,none⟩) lk ck] 216);have G:=u.alloc (.cells #[.int .i64 gk.1,.int .u8 gk.2.1.toNat,.slice (some ⟨D,0,none⟩) lk ck] 216);generalize wr.alloc (.cells #[.int .i64 gk.1,.int .u8 gk.2.1.toNat,.slice (some ⟨D,0,none⟩) lk ck] 216)=W1 at*;have p0:W1.cell? ⟨pb,0,none⟩=some (.slice (some ⟨g,0,none⟩) gs.length c):=(j.cell (p:=⟨pb,0,none⟩) (Aa9 Z x) id).trans z;have p1:W1.cell? ⟨g,f*3,none⟩=_:=(j.cell (p:=⟨g,f*3,none⟩) (Aa9 y x) id).trans b1;have p2:W1.cell? ⟨g,f*3+1,none⟩=_:=(j.cell (p:=⟨g,f*3+1,none⟩) (Aa9 y x) id).trans b2;have p3:W1.cell? ⟨g,f*3+2,none⟩=_:=(j.cell (p:=⟨g,f*3+2,none⟩) (Aa9 y x) id).trans b3;have p4:W1.cell? ⟨wr.heap.size,0,none⟩=some (.int .i64 gk.1):=zP _ _ 0 _ _ _ s;have p5:W1.cell? ⟨wr.heap.size,1,none⟩=some (.int .u8 gk.2.1.toNat):=zP _ _ 1 _ _ _ s;have p6:W1.cell? ⟨wr.heap.size,2,none⟩=some (.slice (some ⟨D,0,none⟩) lk ck):=zP _ _ 2 _ _ _ s;clear a1 a2 a3 b1 b2 b3 j s u q z
    go_region_held(fun W=>W.cell? ⟨pb,0,none⟩=some (.slice (some ⟨g,0,none⟩) gs.length c)/\W.cell? ⟨g,f*3,none⟩=some (.int .i64 gf.1)/\W.cell? ⟨g,f*3+1,none⟩=some (.int .u8 gf.2.1.toNat)/\W.cell? ⟨g,f*3+2,none⟩=some (.slice (some ⟨O,0,none⟩) lf cf)/\
      W.cell? ⟨wr.heap.size,0,none⟩=some (.int .i64 gk.1)/\W.cell? ⟨wr.heap.size,1,none⟩=some (.int .u8 gk.2.1.toNat)/\W.cell? ⟨wr.heap.size,2,none⟩=some (.slice (some ⟨D,0,none⟩) lk ck)) (go_keep)
     (first
     |(go_at_call 178;refine(n _).mono ?_;rintro e w2 ⟨rfl,a⟩;have k0:=a.cell p0;have k1:=a.cell p1;have k2:=a.cell p2;have k3:=a.cell p3;have k4:=a.cell p4;have k5:=a.cell p5;have k6:=a.cell p6))
    have V:=G.drew.tr (a.kept (fun _=>False));clear a n p0 p1 p2 p3 p4 p5 p6 G k0 k1 k2 k3 k4 k5 k6;go_wp2;go_roundw
    case rel=>exact⟨k+1,by omega,by go_num,by rw[HF.o],V⟩
    case measure=>simp[intOf];omega
  ·have af:k=gs.length:=by omega
   have ad:decide ((gs.length:Int)<(gs.length:Int))=false:=by simp
   obtain⟨b1,b2,b3⟩:=C.cellsD F;obtain⟨O,cf,ef,-⟩:=(C.memD F).1;rw[ef]at b3;have HE:Hid (Ct gs k=Hm.first gs/\vs.getD (Ct gs k) undef= .slice (some ⟨O,0,none⟩) (gs.getD (Ct gs k) (0,0,[])).2.2.length cf):=⟨by rw[af];rfl,ef⟩;have P:=fun W (hk:Aee wr W)=>qB base _ gs vs (Ct gs k) (Ct gs k+1) W ⟨C.len,hk.owns C.own (fun _ _=>id),fun i h1 h2=>⟨(C.mem i h1 h2).1.kept hk (fun _ _=>id),(C.mem i h1 h2).2⟩⟩ hl F rfl;have HD:Hid (∀W (_:Aee wr W),Calls prog 179 #[.slice (some ⟨g,0,none⟩) gs.length c,.int .i64 (Ct gs k:Nat),.int .i64 (Ct gs k+1:Nat)] W fun e w'=> ∃v',e= .returned v'/\Dm w' base v' (gs.eraseIdx (Ct gs k)) (vs.eraseIdx (Ct gs k))/\v'.ownBlock=some g/\Aa (fun k=>(some g:Option Nat)=some k) W w'):=P;clear ef P C;generalize Ct gs k=f at*;generalize ae:gs.getD f (0,0,[])=gf at*;generalize aL:gf.2.2.length=lf at*;have au:(f:Int)<(gs.length:Int):=by omega
   subst af;clear X hk;have aN:pb<wr.heap.size:=by omega
   have aO:w.heap.size<wr.heap.size:=by have:=u.size;simp at this;omega
   have S:wr.heap[w.heap.size]?=some (.cells #[.int .i64 0,.int .u8 0,.slice none 0 0] 216 (0,0)):=u.row (zY w _) id;have ac:Hid (wr.heap[w.heap.size]?=some (.cells #[.int .i64 0,.int .u8 0,.slice none 0 0] 216 (0,0))):=S;clear S;go_wp2_with fail;refine(HD.o _ ((Aa.refl _ _).alloc _)).mono ?_;rintro e d ⟨v3,rfl,t,Y,H⟩;obtain⟨n3,b,az⟩: ∃n3 b,v3= .slice (some ⟨g,0,none⟩) n3 b:=by
    rcases t.own.2 with⟨rfl,_⟩|⟨g3,b,cur3,rfl,_⟩
    ·cases Y
    ·cases Y;exact⟨_,_,rfl⟩
   subst az;have L:=E.o.2.2.2.2;have B:d.heap[pb]?=some (.cells #[.slice (some ⟨g,0,none⟩) gs.length c] 213 (0,0)):=H.row ((((Aa.refl (fun _=>False) wr).alloc _).row (q.row E.o.2.1 id)) id) (fun e=>L (by cases e;rfl));have N:d.heap[wr.heap.size]?=some (.cells #[.int .i64 gf.1,.int .u8 gf.2.1.toNat,.slice (some ⟨O,0,none⟩) lf cf] 216 (0,0)):=H.row (zY wr _) (fun e=>by cases e;omega);have l:d.heap[w.heap.size]?=some (.cells #[.int .i64 0,.int .u8 0,.slice none 0 0] 216 (0,0)):=H.row ((((Aa.refl (fun _=>False) wr).alloc _).row ac.o) id) (fun e=>by cases e;omega);have A:Aa (fun k=>(some g:Option Nat)=some k) w d:=((q.alloc _).wider (T:=fun k=>(some g:Option Nat)=some k) (fun _ _ h=>h.elim)).tr H;have c0:d.cell? ⟨pb,0,none⟩=_:=zP _ _ 0 _ _ _ B;have f0:d.frozen? ⟨pb,0,none⟩=false:=zR _ _ 0 _ _ B;have t0:d.cell? ⟨wr.heap.size,0,none⟩=some (.int .i64 gf.1):=zP _ _ 0 _ _ _ N;have t1:d.cell? ⟨wr.heap.size,1,none⟩=some (.int .u8 gf.2.1.toNat):=zP _ _ 1 _ _ _ N;have t2:d.cell? ⟨wr.heap.size,2,none⟩=some (.slice (some ⟨O,0,none⟩) lf cf):=zP _ _ 2 _ _ _ N;have r0:d.cell? ⟨w.heap.size,0,none⟩=some (.int .i64 0):=zP _ _ 0 _ _ _ l;have r1:d.cell? ⟨w.heap.size,1,none⟩=some (.int .u8 0):=zP _ _ 1 _ _ _ l;have r2:d.cell? ⟨w.heap.size,2,none⟩=some (.slice none 0 0):=zP _ _ 2 _ _ _ l;have q0:d.frozen? ⟨w.heap.size,0,none⟩=false:=zR _ _ 0 _ _ l;have q1:d.frozen? ⟨w.heap.size,1,none⟩=false:=zR _ _ 1 _ _ l;have q2:d.frozen? ⟨w.heap.size,2,none⟩=false:=zR _ _ 2 _ _ l;have n1:pb≠wr.heap.size:=by omega
   have n2:pb≠w.heap.size:=by omega
   have aR:wr.heap.size≠w.heap.size:=by omega
   have HX:Hid (d.heap[pb]?=some (.cells #[.slice (some ⟨g,0,none⟩) gs.length c] 213 (0,0))/\d.heap[w.heap.size]?=some (.cells #[.int .i64 0,.int .u8 0,.slice none 0 0] 216 (0,0))/\Dm d base (.slice (some ⟨g,0,none⟩) n3 b) (gs.eraseIdx f) (vs.eraseIdx f)/\Aa (fun k=>(some g:Option Nat)=some k) w d):=⟨B,l,t,A⟩;clear B N l t A H Y HD q u z b1 b2 b3;go_wp2;obtain⟨B,l,t,A⟩:=HX.o;have ax:(d.setCell ⟨pb,0,none⟩ (.slice (some ⟨g,0,none⟩) n3 b)).heap[w.heap.size]?=some (.cells #[.int .i64 0,.int .u8 0,.slice none 0 0] 216 (0,0)):=(Acg _ _ _ _ (fun e=>n2 e.symm)).trans l;have ay:=zI _ _ 2 _ _ (.slice (some ⟨O,0,none⟩) lf cf) (zI _ _ 1 _ _ (.int .u8 gf.2.1.toNat) (zI _ _ 0 _ _ (.int .i64 gf.1) ax));have aw:(d.setCell ⟨pb,0,none⟩ (.slice (some ⟨g,0,none⟩) n3 b)).heap[pb]?=some (.cells #[.slice (some ⟨g,0,none⟩) n3 b] 213 (0,0)):=zI _ _ 0 _ _ _ B;refine Aa8 (v:= .agg #[.int .i64 gf.1,.int .u8 gf.2.1.toNat,.slice (some ⟨O,0,none⟩) lf cf]) (Abj results139 _ _ w.heap.size 216 _ (0,0) _ rfl ay underlying216 rfl (by kernel_rfl)) rfl ⟨.slice (some ⟨g,0,none⟩) n3 b,_,_,_,rfl,?_,?_,?_,?_,?_,rfl,?_⟩
   ·rw[<-HE.o.1,ae]
   ·rw[<-HE.o.1,ae]
   ·rw[<-HE.o.1,HE.o.2]
   ·rw[Acg _ _ _ _ n2,Acg _ _ _ _ n2,Acg _ _ _ _ n2];exact aw
   ·rw[<-HE.o.1];have M:Aa (fun k=>k=pb\/w.heap.size=k) d ((((d.setCell ⟨pb,0,none⟩ (.slice (some ⟨g,0,none⟩) n3 b)).setCell ⟨w.heap.size,0,none⟩ (.int .i64 gf.1)).setCell ⟨w.heap.size,1,none⟩ (.int .u8 gf.2.1.toNat)).setCell ⟨w.heap.size,2,none⟩ (.slice (some ⟨O,0,none⟩) lf cf)):=
     ((((Aa.refl _ _).setCell (.inr (.inl rfl)) _).setCell (.inr (.inr rfl)) _).setCell (.inr (.inr rfl)) _).setCell (.inr (.inr rfl)) _
    refine⟨t.len,M.owns t.own (fun k hk e=>?_),fun i h1 h2=>⟨(t.mem i h1 h2).1.kept M (fun k hk e=>?_),(t.mem i h1 h2).2⟩⟩
    ·cases hk;rcases e with e|e
     ·exact E.o.2.2.2.2 e
     ·exact Nat.ne_of_gt y e
    ·have aQ:=E.o.2.2.2.1;have R: ∀m,(hm:m<vs.length)->vs[m].ownBlock=some k->k<w.heap.size/\k≠pb:=by
      intro m hm U;refine⟨?_,fun e=>E.o.2.2.1 m hm (by rw[U,e])⟩;obtain⟨gg,cc,ee,_,_,ah,_⟩:=(E.o.1.mem m (by omega) hm).1;rw[ee]at U;cases U;exact ah
     rw[List.getElem_eraseIdx]at hk;have hb:k<w.heap.size/\k≠pb:=by
      by_cases ag:i<f
      ·rw[dif_pos ag]at hk;exact R _ _ hk
      ·rw[dif_neg ag]at hk;exact R _ _ hk
     rcases e with e|e
     ·exact hb.2 e
     ·omega
   ·have M:Aa (fun k=>k=pb\/(some g:Option Nat)=some k) w d:=A.wider (fun _ _ h=> .inr h);exact(((M.setCell (.inr (.inl rfl)) _).setCell (.inl (zK _)) _).setCell (.inl (zK _)) _).setCell (.inl (zK _)) _
end
section
open Go.RowKit
theorem mO(n:Nat)(w:World)(l:0<n)(hn:n<=1000):
  Calls prog 200 #[.slice none 0 0,.int .i64 n] w fun e w'=> ∃G,e= .returned (.slice (some ⟨w.heap.size,0,none⟩) 0 G)/\w'.ownsRow w.heap.size 5 1 (.slice (some ⟨w.heap.size,0,none⟩) 0 G) 0 []/\Aee w w':=by
 obtain⟨j,hi,f,m,c⟩:=Aa6 Ft;have h1: ¬((n:Int)<0):=by omega
 have p:(n:Int)>0:=by omega
 have b: ∀g,(Builtin.append_ #[79,3] g #[.slice none 0 0,I n]).run prog w= .ok (S0 w.heap.size n (grownCap w n 0 5)) (w.drew.alloc (.cells (Builtin.zeroCells (Value.int .u8 0).cells n++Builtin.zeroCells (Value.int .u8 0).cells (grownCap w n 0 5-n)) 5)):=fun g=>by
  have h:=Lib.run_append_grow_zeros w 79 3 g 5 j (.int .u8 0) .i64 .i64 underlying79 underlying3 hi f none 0 0 [] (run_firstCells_none w.drew j.size 0 0 0) n l (by omega) (by omega) (by omega) (by rw[c];omega)
   (by rw[Aao];exact growslice_fits (by omega) (by rw[c];omega))
  simpa using h
 have d:n<=grownCap w n 0 5:=grownCap_ge w _ _ _;have a:grownCap w n 0 5<=maxLen:=grownCap_le_maxLen w n 0 5 (by unfold maxLen;omega);generalize grownCap w n 0 5=G at b d a;have i:G<=9223372036854775807:=by unfold maxLen at a;omega
 have k:=hZ a;clear a
 go_enter func200,ntmps200
 go_wp2_with(at_builtin;refine Lib.wpList_append_run _ rfl _ _ _ _ rfl _ _ rfl rfl _ _ (b _) ?_)
 all_goals go_ret
 all_goals refine⟨G,rfl,⟨rfl,.inr ⟨w.heap.size,G,_,rfl,zK _,zY w.drew _,zZ _,k.o,?_,rfl⟩⟩,((Aa.refl _ w).drew).alloc _⟩
 all_goals(simp[Builtin.zeroCells];omega)
theorem Xx(l:Aeg): ∀u∈Ag l,u.oneCell'=true:=by
 intro u a;unfold Ag at a;obtain⟨x,_,rfl⟩:=List.mem_map.1 a;rfl
theorem qC(d:Nat)(a b:Aeg)(va vb:Value)(w:World)(h0:w.cell? ⟨d,0,none⟩=some va)(h1:w.cell? ⟨d,1,none⟩=some vb)(l:d<w.heap.size)(ha:Gn w va a)(hb:Gn w vb b)(ax:0<a.length)(hl:a.length+b.length<=600):
  Calls prog 180 #[.slice (some ⟨d,0,none⟩) 2 2] w fun e w'=> ∃v,e= .returned v/\Gn w' v (a++b)/\(∀k,v.ownBlock=some k->w.heap.size<=k)/\Aee w w':=by
 obtain⟨i0,hi,H,K,L⟩:=Aa6 Ft;obtain⟨N,ca,ea,ar,s,S,q⟩:=ha;obtain⟨gb,O,eb,au,t,T,r⟩:=hb;subst ea;subst eb;have HA:=hZ q;have HB:=hZ r;clear q r s t;have z:=fun W=>mO (a.length+b.length) W (by omega) (by omega);have av: ¬((a.length:Int)<0):=by omega
 have aw: ¬((a.length:Int)+(b.length:Int)<0):=by omega
 go_enter func180,ntmps180
 go_wp2;refine wp_loop_rounds 3 ?_;rw[rounds_succ];go_wp2;rw[rounds_succ];go_wp2;rw[rounds_succ];go_wp2_with fail;have m:=z w;rw[show(((a.length+b.length:Nat):Nat):Int)=(a.length:Int)+(b.length:Int)from by omega]at m;refine m.mono ?_;rintro e w1 ⟨G,rfl,n,c⟩;clear z m;have Z:=c.size;have s0:w1.cell? (J d 0)=some (S0 N a.length ca):=(c.cell (p:=(J d 0)) l id).trans h0;have s1:w1.cell? (J d 1)=some (S0 gb b.length O):=(c.cell (p:=(J d 1)) l id).trans h1;clear h0 h1;go_wp2;have na:Hid (∀j u,(Ag a)[j]?=some u->w1.cell? (Addr.add (J N 0) j)=some u):=fun j u F=>by
  rw[Addr.add_lit,Aao];have B:j<a.length:=by have:=(List.getElem?_eq_some_iff.1 F).1;simpa[Ag]using this
  rw[(c.cell (p:=(J N j)) S id),HA.o j B,<-F];simp[Ag,B]
 refine wp_loop_rounds 3 ?_;rw[rounds_succ]
 go_wp2_with(at_builtin;refine Ay _ rfl (.tmp 31) (.tmp 32) 79 rfl w.heap.size 5 i0 (.int .u8 0) 1 1 underlying79 hi H K L rfl (by decide) _ 0 [] rfl n (J N 0) a.length ca (Ag a) rfl (by simp[Ag]) na.o (Xx a) (by unfold maxLen;omega) (by omega) Z ?_;intro v2 w2 g x X)
 rw[Aao,Adk]at g;have f:Aee w w2:=c.grown x (fun k hk=> .inl (n.lt k hk).1);have E:=f.size;have P: ∀k,v2.ownBlock=some k->w.heap.size<=k:=fun k hk=>(g.lt k hk).1;have nb:Hid (∀j u,(Ag b)[j]?=some u->w2.cell? (Addr.add (J gb 0) j)=some u):=fun j u F=>by
  rw[Addr.add_lit,Aao];have B:j<b.length:=by have:=(List.getElem?_eq_some_iff.1 F).1;simpa[Ag]using this
  rw[(f.cell (p:=(J gb j)) T id),HB.o j B,<-F];simp[Ag,B]
 have s2:w2.cell? (J d 1)=some (S0 gb b.length O):=by
  have e1:=f.cell (p:=(J d 1)) l id;have e2:=c.cell (p:=(J d 1)) l id;rw[e1,<-e2];exact s1
 clear s0 s1 x X n na;rw[rounds_succ]
 go_wp2_with(at_builtin;refine Ay _ rfl (.tmp 31) (.tmp 32) 79 rfl w.heap.size 5 i0 (.int .u8 0) 1 1 underlying79 hi H K L rfl (by decide) _ a.length (Ag a) rfl g (J gb 0) b.length O (Ag b) rfl (by simp[Ag]) nb.o (Xx b) (by unfold maxLen;omega) (by omega) E ?_;intro v3 w3 D y Y)
 have V:Aee w w3:=f.grown y (fun k hk=> .inl (P k hk));have M:=hZ D;clear s2 y Y g nb D;rw[rounds_succ];go_wp2;go_ret;refine⟨v3,rfl,?_,fun k hk=>(M.o.lt k hk).1,V⟩;obtain⟨g3,c3,ev,Q,C⟩:=Co M.o (by omega);subst ev;have R:c3<=maxLen:=by
  rcases M.o.2 with⟨e,_⟩|⟨_,_,_,e,_,_,_,h,_⟩
  ·cases e
  ·cases e;exact h
 refine⟨g3,c3,by rw[zL],by rw[zL];exact Q,R,C,fun i A=>?_⟩;have U:=A;rw[zL]at U;rw[M.o.cellAt i (by omega)];have:Ag a++Ag b=Ag (a++b):=by simp[Ag]
 rw[this];simp only[Ag,Aah,zH A];rfl
namespace Hm
def E9(g h:Grp):Grp:=(g.1+h.1,UInt8.ofNat (min g.2.1.toNat h.2.1.toNat),g.2.2++h.2.2)
end Hm
theorem f9(w:World)(b:Nat)(x y z:Value)(p:Addr)(a:p.block≠b):(((w.setCell ⟨b,0,none⟩ x).setCell ⟨b,1,none⟩ y).setCell ⟨b,2,none⟩ z).cell? p=w.cell? p:=by
 rw[Aci _ _ _ _ (fun e=>a (by rw[<-e])),Aci _ _ _ _ (fun e=>a (by rw[<-e])),Aci _ _ _ _ (fun e=>a (by rw[<-e]))]
theorem tM(g h:Grp)(mv V:Value)(w:World)(L:Gn w mv g.2.2)(M:Gn w V h.2.2)(P:0<g.2.2.length)(hl:g.2.2.length+h.2.2.length<=600)(hw:g.1+h.1<=1000000):
  Calls prog 140 #[.agg #[.int .i64 g.1,.int .u8 g.2.1.toNat,mv],.agg #[.int .i64 h.1,.int .u8 h.2.1.toNat,V]] w fun e w'=> ∃v,e= .returned (.agg #[.int .i64 ((E9 g h).1:Nat),.int .u8 ((E9 g h).2.1.toNat:Nat),v])/\Gn w' v (E9 g h).2.2/\(∀k,v.ownBlock=some k->w.heap.size<=k)/\Aee w w':=by
 obtain⟨f,c,ea,-⟩:=id L;obtain⟨gb,d,eb,-⟩:=id M;subst ea;subst eb;have T:Hid (E9 g h=(g.1+h.1,UInt8.ofNat (min g.2.1.toNat h.2.1.toNat),g.2.2++h.2.2)):=rfl;have aj:g.2.1.toNat<256:=UInt8.toNat_lt _;have ak:h.2.1.toNat<256:=UInt8.toNat_lt _;have U:(((w.alloc (.cells #[I g.1,.int .u8 g.2.1.toNat,S0 f g.2.2.length c] 216)).alloc (.cells #[I h.1,.int .u8 h.2.1.toNat,S0 gb h.2.2.length d] 216)).alloc (.cells #[I 0,.int .u8 0,.slice none 0 0] 216)).heap.size=w.heap.size+1+1+1:=by simp
 have j:Aee w (((w.alloc (.cells #[I g.1,.int .u8 g.2.1.toNat,S0 f g.2.2.length c] 216)).alloc (.cells #[I h.1,.int .u8 h.2.1.toNat,S0 gb h.2.2.length d] 216)).alloc (.cells #[I 0,.int .u8 0,.slice none 0 0] 216)):=(((Aa.refl _ w).alloc _).alloc _).alloc _;have r0:(((w.alloc (.cells #[I g.1,.int .u8 g.2.1.toNat,S0 f g.2.2.length c] 216)).alloc (.cells #[I h.1,.int .u8 h.2.1.toNat,S0 gb h.2.2.length d] 216)).alloc (.cells #[I 0,.int .u8 0,.slice none 0 0] 216)).heap[w.heap.size]?=some (.cells #[I g.1,.int .u8 g.2.1.toNat,S0 f g.2.2.length c] 216 (0,0)):=by
  rw[Below.heap_alloc _ _ _ (by simp;omega)];exact Ab2 w _ _
 have A:(((w.alloc (.cells #[I g.1,.int .u8 g.2.1.toNat,S0 f g.2.2.length c] 216)).alloc (.cells #[I h.1,.int .u8 h.2.1.toNat,S0 gb h.2.2.length d] 216)).alloc (.cells #[I 0,.int .u8 0,.slice none 0 0] 216)).heap[w.heap.size+1]?=some (.cells #[I h.1,.int .u8 h.2.1.toNat,S0 gb h.2.2.length d] 216 (0,0)):=by
  rw[Below.heap_alloc _ _ _ (by simp)];exact Ab3 w _ _
 have l:(((w.alloc (.cells #[I g.1,.int .u8 g.2.1.toNat,S0 f g.2.2.length c] 216)).alloc (.cells #[I h.1,.int .u8 h.2.1.toNat,S0 gb h.2.2.length d] 216)).alloc (.cells #[I 0,.int .u8 0,.slice none 0 0] 216)).heap[w.heap.size+1+1]?=some (.cells #[I 0,.int .u8 0,.slice none 0 0] 216 (0,0)):=by
  have e:=zY ((w.alloc (.cells #[I g.1,.int .u8 g.2.1.toNat,S0 f g.2.2.length c] 216)).alloc (.cells #[I h.1,.int .u8 h.2.1.toNat,S0 gb h.2.2.length d] 216)) (.cells #[I 0,.int .u8 0,.slice none 0 0] 216);simpa using e
 go_enter func140,ntmps140
 go_wp2_with fail;generalize((w.alloc (.cells #[I g.1,.int .u8 g.2.1.toNat,S0 f g.2.2.length c] 216)).alloc (.cells #[I h.1,.int .u8 h.2.1.toNat,S0 gb h.2.2.length d] 216)).alloc (.cells #[I 0,.int .u8 0,.slice none 0 0] 216)=W3 at*;have s:=L.kept j (fun _ _=>id);have t:=M.kept j (fun _ _=>id);have a:Aee W3 (W3.alloc (.cells #[S0 f g.2.2.length c,S0 gb h.2.2.length d] 79)).drew:=((Aa.refl _ _).alloc _).drew;have z:(W3.alloc (.cells #[S0 f g.2.2.length c,S0 gb h.2.2.length d] 79)).drew.heap[W3.heap.size]?=some (.cells #[S0 f g.2.2.length c,S0 gb h.2.2.length d] 79 (0,0)):=zY W3 _;have x:=qC W3.heap.size _ _ _ _ _ (zP _ _ 0 _ _ _ z) (zP _ _ 1 _ _ _ z) (Aac z) (s.kept a (fun _ _=>id)) (t.kept a (fun _ _=>id)) P hl;rw[U]at x;have p0:=cO 0 r0;have p1:=cO 1 r0;have p2:=cO 2 r0;have p3:=cO 0 A;have p4:=cO 1 A;have p5:=cO 2 A;have X:=hZ (aI j (aI l a));have Y:=cO 0 l;have Z:=cO 1 l;have c8:=cO 2 l;have f6:=zR _ _ 0 _ _ l;have f7:=zR _ _ 1 _ _ l;have f8:=zR _ _ 2 _ _ l;have ah:(W3.alloc (.cells #[S0 f g.2.2.length c,S0 gb h.2.2.length d] 79)).drew.heap.size=w.heap.size+1+1+1+1:=by simp[U]
 have r:(W3.alloc (.cells #[S0 f g.2.2.length c,S0 gb h.2.2.length d] 79)).drew.cell? (J w.heap.size 0)=some (I g.1)/\(W3.alloc (.cells #[S0 f g.2.2.length c,S0 gb h.2.2.length d] 79)).drew.cell? (J w.heap.size 1)=some (.int .u8 g.2.1.toNat)/\(W3.alloc (.cells #[S0 f g.2.2.length c,S0 gb h.2.2.length d] 79)).drew.cell? (J w.heap.size 2)=some (S0 f g.2.2.length c)/\(W3.alloc (.cells #[S0 f g.2.2.length c,S0 gb h.2.2.length d] 79)).drew.cell? (J (w.heap.size+1) 0)=some (I h.1)/\(W3.alloc (.cells #[S0 f g.2.2.length c,S0 gb h.2.2.length d] 79)).drew.cell? (J (w.heap.size+1) 1)=some (.int .u8 h.2.1.toNat)/\(W3.alloc (.cells #[S0 f g.2.2.length c,S0 gb h.2.2.length d] 79)).drew.cell? (J (w.heap.size+1) 2)=some (S0 gb h.2.2.length d):=⟨(a.cell (p:=(J w.heap.size 0)) (show w.heap.size<_ by omega) id).trans p0,(a.cell (p:=(J w.heap.size 1)) (show w.heap.size<_ by omega) id).trans p1,(a.cell (p:=(J w.heap.size 2)) (show w.heap.size<_ by omega) id).trans p2,(a.cell (p:=(J (w.heap.size+1) 0)) (show w.heap.size+1<_ by omega) id).trans p3,(a.cell (p:=(J (w.heap.size+1) 1)) (show w.heap.size+1<_ by omega) id).trans p4,(a.cell (p:=(J (w.heap.size+1) 2)) (show w.heap.size+1<_ by omega) id).trans p5⟩;have C:(W3.alloc (.cells #[S0 f g.2.2.length c,S0 gb h.2.2.length d] 79)).drew.cell? (J (w.heap.size+1+1) 0)=some (I 0):=(a.cell (p:=(J (w.heap.size+1+1) 0)) (show w.heap.size+1+1<_ by omega) id).trans Y;have F:(W3.alloc (.cells #[S0 f g.2.2.length c,S0 gb h.2.2.length d] 79)).drew.frozen? (J (w.heap.size+1+1) 0)=false:=(a.frozen (p:=(J (w.heap.size+1+1) 0)) (show w.heap.size+1+1<_ by omega) id).trans f6;have D:(W3.alloc (.cells #[S0 f g.2.2.length c,S0 gb h.2.2.length d] 79)).drew.cell? (J (w.heap.size+1+1) 1)=some (.int .u8 0):=(a.cell (p:=(J (w.heap.size+1+1) 1)) (show w.heap.size+1+1<_ by omega) id).trans Z;have G:(W3.alloc (.cells #[S0 f g.2.2.length c,S0 gb h.2.2.length d] 79)).drew.frozen? (J (w.heap.size+1+1) 1)=false:=(a.frozen (p:=(J (w.heap.size+1+1) 1)) (show w.heap.size+1+1<_ by omega) id).trans f7;have E:(W3.alloc (.cells #[S0 f g.2.2.length c,S0 gb h.2.2.length d] 79)).drew.cell? (J (w.heap.size+1+1) 2)=some (.slice none 0 0):=(a.cell (p:=(J (w.heap.size+1+1) 2)) (show w.heap.size+1+1<_ by omega) id).trans c8;have H:(W3.alloc (.cells #[S0 f g.2.2.length c,S0 gb h.2.2.length d] 79)).drew.frozen? (J (w.heap.size+1+1) 2)=false:=(a.frozen (p:=(J (w.heap.size+1+1) 2)) (show w.heap.size+1+1<_ by omega) id).trans f8;clear s t z L M j r0 A l
 go_region_held(fun W=>W.cell? (J w.heap.size 0)=some (I g.1)/\W.cell? (J w.heap.size 1)=some (.int .u8 g.2.1.toNat)/\W.cell? (J w.heap.size 2)=some (S0 f g.2.2.length c)/\W.cell? (J (w.heap.size+1) 0)=some (I h.1)/\W.cell? (J (w.heap.size+1) 1)=some (.int .u8 h.2.1.toNat)/\W.cell? (J (w.heap.size+1) 2)=some (S0 gb h.2.2.length d)) (first|exact r|assumption|(go_keep;done)|(refine⟨?_,?_,?_,?_,?_,?_⟩<;>(rw[f9 _ _ _ _ _ _ (by intro e;simp at e;try omega)];first|assumption|exact q.1|exact q.2.1|exact q.2.2.1|exact q.2.2.2.1|exact q.2.2.2.2.1|exact q.2.2.2.2.2)))
  (first
  |(go_at_call 180;refine x.mono ?_;rintro e i ⟨v,rfl,u,K,b⟩;have B:Hid (Gn i v (g.2.2++h.2.2)):=u;obtain⟨m,y,ev,-⟩:=u;subst ev;have q:i.cell? (J w.heap.size 0)=some (I g.1)/\i.cell? (J w.heap.size 1)=some (.int .u8 g.2.1.toNat)/\i.cell? (J w.heap.size 2)=some (S0 f g.2.2.length c)/\i.cell? (J (w.heap.size+1) 0)=some (I h.1)/\i.cell? (J (w.heap.size+1) 1)=some (.int .u8 h.2.1.toNat)/\i.cell? (J (w.heap.size+1) 2)=some (S0 gb h.2.2.length d):=⟨(b.cell (p:=(J w.heap.size 0)) (show w.heap.size<_ by omega) id).trans r.1,(b.cell (p:=(J w.heap.size 1)) (show w.heap.size<_ by omega) id).trans r.2.1,(b.cell (p:=(J w.heap.size 2)) (show w.heap.size<_ by omega) id).trans r.2.2.1,(b.cell (p:=(J (w.heap.size+1) 0)) (show w.heap.size+1<_ by omega) id).trans r.2.2.2.1,(b.cell (p:=(J (w.heap.size+1) 1)) (show w.heap.size+1<_ by omega) id).trans r.2.2.2.2.1,(b.cell (p:=(J (w.heap.size+1) 2)) (show w.heap.size+1<_ by omega) id).trans r.2.2.2.2.2⟩;have am:i.cell? (J (w.heap.size+1+1) 0)=some (I 0):=(b.cell (p:=(J (w.heap.size+1+1) 0)) (show w.heap.size+1+1<_ by omega) id).trans C;have ap:i.frozen? (J (w.heap.size+1+1) 0)=false:=(b.frozen (p:=(J (w.heap.size+1+1) 0)) (show w.heap.size+1+1<_ by omega) id).trans F;have an:i.cell? (J (w.heap.size+1+1) 1)=some (.int .u8 0):=(b.cell (p:=(J (w.heap.size+1+1) 1)) (show w.heap.size+1+1<_ by omega) id).trans D;have aq:i.frozen? (J (w.heap.size+1+1) 1)=false:=(b.frozen (p:=(J (w.heap.size+1+1) 1)) (show w.heap.size+1+1<_ by omega) id).trans G;have ao:i.cell? (J (w.heap.size+1+1) 2)=some (.slice none 0 0):=(b.cell (p:=(J (w.heap.size+1+1) 2)) (show w.heap.size+1+1<_ by omega) id).trans E;have ar:i.frozen? (J (w.heap.size+1+1) 2)=false:=(b.frozen (p:=(J (w.heap.size+1+1) 2)) (show w.heap.size+1+1<_ by omega) id).trans H))
 all_goals clear q
 all_goals go_wp2
 all_goals(
  have S:IntKind.i64.wrap ((g.1:Int)+(h.1:Int))=((g.1+h.1:Nat):Int):=by rw[Aar];omega
  have Q:(min (g.2.1.toNat:Int) (h.2.1.toNat:Int))=((UInt8.ofNat (min g.2.1.toNat h.2.1.toNat)).toNat:Int):=by rw[Aax];omega
  try rw[S]
  rw[Q];obtain⟨j,l,n⟩:=X.o;have ai:w.heap.size+1+1+1+1<=m:=by have:=K m rfl;omega
  have R:=zI _ _ 2 _ _ (S0 m (g.2.2.length+h.2.2.length) y) (zI _ _ 1 _ _ (.int .u8 ((UInt8.ofNat (min g.2.1.toNat h.2.1.toNat)).toNat:Nat)) (zI _ _ 0 _ _ (I ((g.1+h.1:Nat):Nat)) (b.row (n.row l id) id)));have N:=(j.tr n).tr b;refine Aa8 (v:= .agg #[I ((g.1+h.1:Nat):Nat),.int .u8 ((UInt8.ofNat (min g.2.1.toNat h.2.1.toNat)).toNat:Nat),S0 m (g.2.2.length+h.2.2.length) y]) (Abj results140 _ _ (w.heap.size+1+1) 216 _ (0,0) _ rfl R underlying216 rfl (by kernel_rfl)) rfl ⟨S0 m (g.2.2.length+h.2.2.length) y,?_,?_,?_,?_⟩
  ·rw[T.o]
  ·rw[T.o];have hM:=B.o;rw[zL]at hM;have O:Aa (fun k=>k=w.heap.size+1+1) i _:=(((Aa.refl (fun k=>k=w.heap.size+1+1) i).setCell (p:=(J (w.heap.size+1+1) 0)) (.inr rfl) (I ((g.1+h.1:Nat):Nat))).setCell (p:=(J (w.heap.size+1+1) 1)) (.inr rfl) (.int .u8 ((UInt8.ofNat (min g.2.1.toNat h.2.1.toNat)).toNat:Nat))).setCell (p:=(J (w.heap.size+1+1) 2)) (.inr rfl) (S0 m (g.2.2.length+h.2.2.length) y);exact hM.kept O (fun k hk e=>by cases hk;exact absurd (show m=w.heap.size+1+1 from e) (by omega))
  ·intro k hk;cases hk;show w.heap.size<=m;omega
  ·exact((N.setCell (.inl (show w.heap.size<=w.heap.size+1+1 by omega)) _).setCell (.inl (show w.heap.size<=w.heap.size+1+1 by omega)) _).setCell (.inl (show w.heap.size<=w.heap.size+1+1 by omega)) _)
namespace Hm
def L5(gs:List Grp):Nat:=(gs.map (·.1)).sum
def Kw(gs:List Grp):Nat:=(gs.map (·.2.2.length)).sum
theorem Xy(a b:List Grp):L5 (a++b)=L5 a+L5 b:=by simp[L5]
theorem mP(a b:List Grp):Kw (a++b)=Kw a+Kw b:=by simp[Kw]
theorem Y9(g:Grp):L5 [g]=g.1:=by simp[L5]
theorem wD(g:Grp):Kw [g]=g.2.2.length:=by simp[Kw]
theorem Lw: ∀(gs:List Grp) (i:Nat),i<gs.length->L5 (gs.eraseIdx i)+(gs.getD i (0,0,[])).1=L5 gs
 |g::gs,0,_=>by simp[L5];omega
 |g::gs,i+1,h=>by
  have:=Lw gs i (by simpa using h);simp only[L5,List.eraseIdx_cons_succ,Abg,Adu,Aea]at*;omega
theorem P2: ∀(gs:List Grp) (i:Nat),i<gs.length->Kw (gs.eraseIdx i)+(gs.getD i (0,0,[])).2.2.length=Kw gs
 |g::gs,0,_=>by simp[Kw];omega
 |g::gs,i+1,h=>by
  have:=P2 gs i (by simpa using h);simp only[Kw,List.eraseIdx_cons_succ,Abg,Adu,Aea]at*;omega
theorem jK(gs:List Grp)(i:Nat)(h:i<gs.length):gs.getD i (0,0,[])∈gs:=by
 rw[zG,zH h];exact z6 _
structure Ms(gs:List Grp):Prop where
 w:L5 gs<=6000
 m:Kw gs<=256
 ne: ∀g∈gs,0<g.2.2.length
theorem Ms.len{gs:List Grp}(h:Ms gs):gs.length<=256:=by
 have h1:=h.m;have key: ∀l:List Grp,(∀g∈l,0<g.2.2.length)->l.length<=Kw l:=by
  intro l;induction l with
  |nil=>intro _;simp
  |cons g l ih=>
   intro a;have h2:=ih (fun x b=>a x (Aae _ b));have c:=a g Aab;simp only[Kw,Abg,Adu,Aau]at*;omega
 have:=key gs h.ne;omega
def Au(gs:List Grp):Grp:=gs.getD (first gs) (0,0,[])
def left(gs:List Grp):List Grp:=gs.eraseIdx (first gs)
theorem Et(gs:List Grp)(h:0<gs.length):(left gs).length+1=gs.length:=by
 rw[left,List.length_eraseIdx_of_lt (Hd gs h)];omega
theorem Ms.left{gs:List Grp}(h:Ms gs)(a:0<gs.length):Ms (left gs):=by
 have h1:=Lw gs (first gs) (Hd gs a);have h2:=P2 gs (first gs) (Hd gs a);have:=h.w;have:=h.m;exact⟨by rw[Hm.left];omega,by rw[Hm.left];omega,fun g b=>h.ne g (List.mem_of_mem_eraseIdx b)⟩
def L6(gs:List Grp):Grp:=E9 (Au gs) (Au (left gs))
def step(gs:List Grp):List Grp:=left (left gs)++[L6 gs]
theorem Xz(gs:List Grp)(h:1<gs.length):(step gs).length+1=gs.length:=by
 have h1:=Et gs (by omega);have h2:=Et (left gs) (by omega);rw[step,zL,Adl];omega
theorem jL{gs:List Grp}(h:Ms gs)(a:0<gs.length):L5 (left gs)+(Au gs).1<=6000/\Kw (left gs)+(Au gs).2.2.length<=256/\0<(Au gs).2.2.length:=by
 have h1:=Lw gs (first gs) (Hd gs a);have h2:=P2 gs (first gs) (Hd gs a);have:=h.w;have:=h.m;exact⟨by rw[left,Au];omega,by rw[left,Au];omega,h.ne _ (jK gs _ (Hd gs a))⟩
theorem o6{gs:List Grp}(h:Ms gs)(c:1<gs.length):L5 (left (left gs))+(Au gs).1+(Au (left gs)).1<=6000/\Kw (left (left gs))+(Au gs).2.2.length+(Au (left gs)).2.2.length<=256/\0<(Au gs).2.2.length/\0<(Au (left gs)).2.2.length:=by
 have d:=Et gs (by omega);have a:=jL h (by omega);have h1:=Lw (left gs) (first (left gs)) (Hd _ (by omega));have h2:=P2 (left gs) (first (left gs)) (Hd _ (by omega));have b:=jL (h.left (by omega)) (by omega);refine⟨?_,?_,a.2.2,b.2.2⟩
 ·rw[show left (left gs)=(left gs).eraseIdx (first (left gs))from rfl,show Au (left gs)=(left gs).getD (first (left gs)) (0,0,[])from rfl];omega
 ·rw[show left (left gs)=(left gs).eraseIdx (first (left gs))from rfl,show Au (left gs)=(left gs).getD (first (left gs)) (0,0,[])from rfl];omega
theorem Ms.step{gs:List Grp}(h:Ms gs)(b:1<gs.length):Ms (step gs):=by
 have hb:=o6 h b;have c:=Et gs (by omega);have h2:=(h.left (by omega)).left (by omega);refine⟨?_,?_,?_⟩
 ·rw[Hm.step,Xy,Y9,L6,E9];simp only[];omega
 ·rw[Hm.step,mP,wD,L6,E9];simp only[zL];omega
 ·intro g a;rw[Hm.step,Ad7,List.mem_singleton]at a;rcases a with a|rfl
  ·exact h2.ne g a
  ·rw[L6,E9];simp only[zL];omega
def bump(L:Aeh):Aeg->Aeh
 |[]=>L
 |b::bs=>bump (L.set b.toNat (L.getD b.toNat 0+1)) bs
theorem Me: ∀(bs:Aeg) (L:Aeh),(bump L bs).length=L.length
 |[],_=>rfl
 |b::bs,L=>by rw[bump,Me bs];simp
theorem cD: ∀(bs:Aeg) (L:Aeh) (M:Nat),(∀x∈L,x<=M)-> ∀x∈bump L bs,x<=M+bs.length
 |[],L,M,h,x,a=>by simpa using h x a
 |b::bs,L,M,h,x,a=>by
  have:=cD bs _ (M+1) (fun y c=>by
   rcases Ac3 c with c|rfl
   ·have:=h y c;omega
   ·have:L.getD b.toNat 0<=M:=by
     rw[zG]
     by_cases hb:b.toNat<L.length
     ·rw[zH hb];exact h _ (z6 _)
     ·rw[Aam (by omega)];simp
    omega) x a
  simp only[Aau];omega
theorem eE: ∀(bs:Aeg) (L:Aeh) (b:UInt8),bump L (bs++[b])=(bump L bs).set b.toNat ((bump L bs).getD b.toNat 0+1)
 |[],_,_=>rfl
 |c::bs,L,b=>by rw[Adf,bump,eE bs,<-bump]
def Bv(gs:List Grp)(L:Aeh):Nat->List Grp×Aeh
 |0=>(gs,L)
 |k+1=>(step (Bv gs L k).1,bump (Bv gs L k).2 (L6 (Bv gs L k).1).2.2)
def lens(t:Aeg):Aeh:=
 let gs:=Ai t 256
 let L:=List.replicate 256 0
 if gs.length=1 then L.set (gs.getD 0 (0,0,[])).2.1.toNat 1 else(Bv gs L (gs.length-1)).2
theorem jM(t:Aeg)(b:Nat):Kw (Ai t b)<=b:=by
 have:Kw (Ai t b)=(Ai t b).length:=by
  unfold Kw Ai;rw[List.map_map,Aai];generalize(List.range b).filter _=l;induction l with
  |nil=>rfl
  |cons x l ih=>simp only[Abg,Adu,Aau,Function.comp,ih];simp;omega
 rw[this];exact Sk t b
theorem Vg(t:Aeg): ∀b,L5 (Ai t b)=t.countP fun x=>decide (x.toNat<b)
 |0=>by simp[Ai,L5]
 |b+1=>by
  rw[Ve,Xy,Vg t b];have e:(t.countP fun x=>decide (x.toNat<b+1))=(t.countP fun x=>decide (x.toNat<b))+cnt t b:=by
   unfold cnt;induction t with
   |nil=>rfl
   |cons x t ih=>
    simp only[Abi,ih]
    by_cases h1:x.toNat<b
    ·have h2:x.toNat<b+1:=by omega
     have a: ¬x.toNat=b:=by omega
     simp[h1,h2,a];omega
    ·by_cases a:x.toNat=b
     ·have h2:x.toNat<b+1:=by omega
      simp[a];omega
     ·have h2: ¬x.toNat<b+1:=by omega
      simp[h1,h2,a]
  rw[e]
  by_cases h:0<cnt t b
  ·rw[if_pos h,Y9]
  ·rw[if_neg h];simp only[L5,Adv,List.sum_nil];omega
theorem Qm(t:Aeg)(h:t.length<=6000):Ms (Ai t 256):=by
 refine⟨?_,jM t 256,?_⟩
 ·rw[Vg];exact Aaf List.countP_le_length h
 ·intro g a;unfold Ai at a;obtain⟨x,_,rfl⟩:=List.mem_map.1 a;simp
end Hm
end
namespace Hm
def fib:Nat->Nat
 |0=>1
 |1=>2
 |n+2=>fib (n+1)+fib n
theorem o7: ∀n,1<=fib n
 |0=>by decide
 |1=>by decide
 |n+2=>by have:=o7 (n+1);rw[fib];omega
theorem wE: ∀n,fib n<=fib (n+1)
 |0=>by decide
 |n+1=>by rw[fib];omega
theorem y6{m:Nat}(h:m<=n):fib m<=fib n:=by
 induction h with
 |refl=>exact zK _
 |step _ ih=>exact Aaf ih (wE _)
theorem eG(n:Nat)(h:fib n<=6000):n<=17:=by
 apply Aec;intro k;have:=y6 (show 18<=n from k);have e:fib 18=6765:=by decide
 omega
abbrev ln(L:Aeh)(b:UInt8):Nat:=L.getD b.toNat 0
theorem Vh: ∀(bs:Aeg) (L:Aeh) (b:UInt8),b.toNat<L.length->ln (bump L bs) b=ln L b+bs.count b
 |[],L,b,_=>by simp[bump]
 |c::bs,L,b,h=>by
  rw[bump,Vh bs _ b (by simpa using h),List.count_cons]
  by_cases e:c=b
  ·subst e;have:(L.set c.toNat (L.getD c.toNat 0+1)).getD c.toNat 0=L.getD c.toNat 0+1:=by
    rw[zG,Adg h];rfl
   simp only[ln,this,Acr,if_true];omega
  ·have a:c.toNat≠b.toNat:=fun k=>e (UInt8.toNat_inj.1 k);have:(L.set c.toNat (L.getD c.toNat 0+1)).getD b.toNat 0=L.getD b.toNat 0:=by
    rw[zG,Adc a,<-zG]
   simp only[ln,this];have d:(c==b)=false:=by simpa using e
   simp[d]
theorem Ww(a:L.length=256)(hn:bs.Nodup)(hb:b∈bs):ln (bump L bs) b=ln L b+1:=by
 rw[Vh bs L b (by rw[a];exact b.toNat_lt),List.Nodup.count hn,if_pos hb]
theorem Za(a:L.length=256)(hb:b∉bs):ln (bump L bs) b=ln L b:=by
 rw[Vh bs L b (by rw[a];exact b.toNat_lt),List.count_eq_zero_of_not_mem hb];omega
def kr(M:Nat)(L:Aeh)(ms:Aeg):Nat:=(ms.map fun b=>2^(M-ln L b)).sum
theorem Rg(M:Nat)(L:Aeh)(a b:Aeg):kr M L (a++b)=kr M L a+kr M L b:=by simp[kr]
theorem o8{M:Nat}{L:Aeh}(a:L.length=256){bs:Aeg}(hn:bs.Nodup): ∀ms:Aeg,(∀b∈ms,b∈bs)->kr (M+1) (bump L bs) ms=kr M L ms
 |[],_=>rfl
 |b::ms,h=>by
  have d:=o8 (M:=M) a hn ms (fun x c=>h x (Aae _ c));unfold kr at*;rw[Abg,Adu,Abg,Adu,d,Ww a hn (h b Aab),show M+1-(ln L b+1)=M-ln L b from by omega]
theorem o9{M:Nat}{L K:Aeh}: ∀ms:Aeg,(∀b∈ms,ln K b=ln L b)->kr M K ms=kr M L ms
 |[],_=>rfl
 |b::ms,h=>by
  have c:=o9 (M:=M) ms (fun x a=>h x (Aae _ a));unfold kr at*;rw[Abg,Adu,Abg,Adu,c,h b Aab]
theorem Ua(gs:List Grp): ∀k,k<=gs.length-> ∀i,i<k->(gs.getD (Ct gs k) (0,0,[])).1<=(gs.getD i (0,0,[])).1
 |0,_,i,h=>by omega
 |k+1,hk,i,h=>by
  have d:=Ua gs k (by omega);rw[Ct];have b: ∀g h:Grp,N0 g h<0↔ltP (g.1,g.2.1.toNat) (h.1,h.2.1.toNat):=fun g h=>Qk (g.1,g.2.1.toNat) (h.1,h.2.1.toNat)
  by_cases c:N0 (gs.getD k (0,0,[])) (gs.getD (Ct gs k) (0,0,[]))<0
  ·rw[if_pos c];have a:=(b _ _).1 c;unfold ltP at a;simp only at a
   by_cases e:i=k
   ·subst e;exact zK _
   ·have:=d i (by omega);omega
  ·rw[if_neg c];have a:=mt (b _ _).2 c;unfold ltP at a;simp only at a
   by_cases e:i=k
   ·subst e;omega
   ·exact d i (by omega)
theorem X0(gs:List Grp)(g:Grp)(a:g∈gs):(Au gs).1<=g.1:=by
 obtain⟨i,hi,rfl⟩:=Aa5 a;have:=Ua gs gs.length (zK _) i hi;rw[zG (i:=i),zH hi]at this;exact this
theorem eH(gs:List Grp)(h:0<gs.length):Au gs∈gs:=jK gs _ (Hd gs h)
theorem Z5{α:Type}: ∀(l:List α) (i:Nat) (h:i<l.length),l.Perm (l[i]::l.eraseIdx i)
 |a::l,0,_=>List.Perm.refl _
 |a::l,i+1,h=>by
  have b:=Z5 l i (by simpa using h);rw[List.eraseIdx_cons_succ,List.getElem_cons_succ];exact(b.cons a).trans (List.Perm.swap _ _ _)
theorem Jz(gs:List Grp)(h:0<gs.length):gs.Perm (Au gs::left gs):=by
 have a:=Hd gs h;have e:Au gs=gs[first gs]:=by rw[Au,zG,zH a];rfl
 rw[e,left];exact Z5 gs _ a
theorem Qo(gs:List Grp)(h:1<gs.length):gs.Perm (Au gs::Au (left gs)::left (left gs)):=by
 have h1:=Et gs (by omega);exact(Jz gs (by omega)).trans ((Jz (left gs) (by omega)).cons _)
def Bm(gs:List Grp):Aeg:=gs.flatMap (·.2.2)
structure N1(gs:List Grp)(L:Aeh):Prop where
 len:L.length=256
 nd:(Bm gs).Nodup
 ne: ∀g∈gs,g.2.2≠[]
 kr: ∀g∈gs,∀M,(∀b∈g.2.2,ln L b<=M)->kr M L g.2.2=2^M
 f1: ∀g∈gs,∀b∈g.2.2,fib (ln L b)<=g.1
 f2:gs.Pairwise fun g h=>(∀b∈g.2.2,fib (ln L b-1)<=h.1)/\ ∀b∈h.2.2,fib (ln L b-1)<=g.1
theorem N1.perm{gs hs:List Grp}(h:N1 gs L)(p:gs.Perm hs):N1 hs L:=
 ⟨h.len,((p.flatMap_right _).nodup_iff).1 h.nd,fun g a=>h.ne g (p.mem_iff.2 a),fun g a=>h.kr g (p.mem_iff.2 a),fun g a=>h.f1 g (p.mem_iff.2 a),
  (p.pairwise_iff (fun{_ _} k=>⟨k.2,k.1⟩)).1 h.f2⟩
theorem N1.merge{x y:Grp}{gs:List Grp}(h:N1 (x::y::gs) L)(u: ∀g∈gs,x.1<=g.1)(v: ∀g∈gs,y.1<=g.1):N1 (E9 x y::gs) (bump L (E9 x y).2.2):=by
 have i:=h.nd;unfold Bm at i;rw[Aa3,Aa3,<-Aaj]at i;have f:(E9 x y).2.2=x.2.2++y.2.2:=rfl;have hn:(E9 x y).2.2.Nodup:=by rw[f];exact(List.nodup_append.1 i).1
 have inn: ∀b∈(E9 x y).2.2,ln (bump L (E9 x y).2.2) b=ln L b+1:=fun b hb=>Ww h.len hn hb;have out: ∀g∈gs,∀b∈g.2.2,ln (bump L (E9 x y).2.2) b=ln L b:=fun g c b hb=>Za h.len fun t=>by
  have:=(List.nodup_append.1 i).2.2;exact this b (by rw[<-f];exact t) b (List.mem_flatMap.2 ⟨g,c,hb⟩) rfl
 have m:=h.f2;rw[Ad0,Ad0]at m;obtain⟨p1,w,z⟩:=m;have o:=p1 y Aab;have deep: ∀b∈(E9 x y).2.2,fib (ln L b+1)<=x.1+y.1:=fun b hb=>by
  rw[f,Ad7]at hb;have j: ∀n a b:Nat,fib n<=a->fib (n-1)<=b->fib (n+1)<=a+b:=fun n a b h1 h2=>by
   cases n with
   |zero=>rw[show fib (0+1)=2 from rfl];have:=o7 0;have e:fib (0-1)=1:=rfl;have A:fib 0=1:=rfl;omega
   |succ n=>rw[fib];simp only[Acn]at h2;omega
  rcases hb with hb|hb
  ·exact j _ _ _ (h.f1 x Aab b hb) (o.1 b hb)
  ·have:=j _ _ _ (h.f1 y (Aae _ Aab) b hb) (o.2 b hb);omega
 refine⟨by rw[Me];exact h.len,?_,fun g c=>?_,fun g c M hM=>?_,fun g c b hb=>?_,?_⟩
 ·unfold Bm;rw[Aa3,f];exact i
 ·rcases List.mem_cons.1 c with rfl|c
  ·rw[f];exact fun k=>h.ne x Aab (List.append_eq_nil_iff.1 k).1
  ·exact h.ne g (Aae _ (Aae _ c))
 ·rcases List.mem_cons.1 c with rfl|c
  ·have q:=h.ne x Aab;obtain⟨b0,l⟩:=List.exists_mem_of_ne_nil _ q;have s:=hM b0 (by rw[f];exact Acs _ l);rw[inn b0 (by rw[f];exact Acs _ l)]at s;obtain⟨p,rfl⟩: ∃p,M=p+1:=⟨M-1,by omega⟩;rw[o8 h.len hn _ (fun _ hb=>hb),f,Rg,h.kr x Aab p (fun b hb=>by
     have d:b∈(E9 x y).2.2:=by rw[f];exact Acs _ hb
     have:=hM b d;rw[inn b d]at this;omega),
    h.kr y (Aae _ Aab) p (fun b hb=>by
     have d:b∈(E9 x y).2.2:=by rw[f];exact List.mem_append_right _ hb
     have:=hM b d;rw[inn b d]at this;omega),Abl]
   omega
  ·rw[o9 _ (out g c)];exact h.kr g (Aae _ (Aae _ c)) M fun b hb=>by have:=hM b hb;rw[out g c b hb]at this;exact this
 ·rcases List.mem_cons.1 c with rfl|c
  ·rw[inn b hb];exact deep b hb
  ·rw[out g c b hb];exact h.f1 g (Aae _ (Aae _ c)) b hb
 ·rw[Ad0];refine⟨fun g c=>⟨fun b hb=>?_,fun b hb=>?_⟩,?_⟩
  ·rw[inn b hb,Acn];rw[f,Ad7]at hb;rcases hb with hb|hb
   ·exact Aaf (h.f1 x Aab b hb) (u g c)
   ·exact Aaf (h.f1 y (Aae _ Aab) b hb) (v g c)
  ·rw[out g c b hb];have:=(w g c).2 b hb;show _<=x.1+y.1;omega
  ·refine z.imp_of_mem fun{g k} c hk r=>⟨fun b hb=>?_,fun b hb=>?_⟩
   ·rw[out g c b hb];exact r.1 b hb
   ·rw[out k hk b hb];exact r.2 b hb
theorem N1.step{gs:List Grp}{L:Aeh}(h:N1 gs L)(h1:1<gs.length):N1 (step gs) (bump L (L6 gs).2.2):=by
 have b:=Qo gs h1;have c:=Et gs (by omega);have w:=(h.perm b).merge (fun g a=>X0 gs g (b.mem_iff.2 (Aae _ (Aae _ a)))) (fun g a=>X0 (left gs) g ((Jz (left gs) (by omega)).mem_iff.2 (Aae _ a)));exact w.perm (by rw[Hm.step];exact(List.perm_append_singleton _ _).symm)
theorem Vi(gs:List Grp)(h1:1<gs.length):(Bm (step gs)).Perm (Bm gs):=by
 have a:=(Qo gs h1).flatMap_right (fun g:Grp=>g.2.2);refine List.Perm.trans ?_ a.symm;have e:(Bm (step gs)).Perm (Bm (L6 gs::left (left gs))):=by
  unfold Bm;rw[Hm.step];exact(List.perm_append_singleton _ _).flatMap_right _
 refine e.trans ?_;unfold Bm;rw[Aa3,Aa3,Aa3,<-Aaj];exact List.Perm.refl _
theorem Ni(t:Aeg):Bm (Ai t 256)=((List.range 256).filter fun x=>decide (0<cnt t x)).map UInt8.ofNat:=by
 unfold Bm Ai;rw[List.flatMap_map];generalize(List.range 256).filter _=l;induction l with
 |nil=>rfl
 |cons x l ih=>rw[Aa3,ih];rfl
theorem Z6{l:Aeh}(h:l.Nodup)(d: ∀x∈l,x<256):(l.map UInt8.ofNat).Nodup:=by
 rw[List.nodup_iff_pairwise_ne,List.pairwise_map];refine(List.nodup_iff_pairwise_ne.1 h).imp_of_mem fun{a b} f hb c e=>c ?_;have:=congrArg UInt8.toNat e;rw[Aax,Aax]at this;have:=d a f;have:=d b hb;omega
theorem Vj(t:Aeg):N1 (Ai t 256) (List.replicate 256 0):=by
 have d: ∀b:UInt8,ln (List.replicate 256 0) b=0:=fun b=>by
  rw[ln,zG,Abp b.toNat_lt];rfl
 have a: ∀g∈Ai t 256,∃b,g.2.2=[b]/\0<g.1:=fun g a=>by
  unfold Ai at a;obtain⟨x,f,rfl⟩:=List.mem_map.1 a;exact⟨_,rfl,by simpa using(List.mem_filter.1 f).2⟩
 refine⟨zV,?_,fun g h=>?_,fun g h M _=>?_,fun g h b _=>?_,?_⟩
 ·rw[Ni];exact Z6 (List.nodup_iff_pairwise_ne.2 ((List.nodup_iff_pairwise_ne.1 List.nodup_range).filter _)) fun x f=>by simpa using(List.mem_filter.1 f).1
 ·obtain⟨b,e,_⟩:=a g h;rw[e];simp
 ·obtain⟨b,e,_⟩:=a g h;rw[e];unfold kr;simp only[Abg,Adv,Adu,List.sum_nil,d];simp
 ·obtain⟨_,_,c⟩:=a g h;rw[d];exact c
 ·refine List.Pairwise.imp_of_mem (R:=fun _ _=>True) (fun{g k} h1 h2 _=>⟨fun b _=>?_,fun b _=>?_⟩) (List.pairwise_of_forall fun _ _=>Ad2)
  ·obtain⟨_,_,c⟩:=a k h2;rw[d];exact c
  ·obtain⟨_,_,c⟩:=a g h1;rw[d];exact c
theorem Jf(t:Aeg): ∀k,k<(Ai t 256).length->(Bv (Ai t 256) (List.replicate 256 0) k).1.length+k=(Ai t 256).length/\N1 (Bv (Ai t 256) (List.replicate 256 0) k).1 (Bv (Ai t 256) (List.replicate 256 0) k).2/\(Bm (Bv (Ai t 256) (List.replicate 256 0) k).1).Perm (Bm (Ai t 256))/\(∀b,b∉Bm (Ai t 256)->ln (Bv (Ai t 256) (List.replicate 256 0) k).2 b=0)
 |0,_=>⟨rfl,Vj t,List.Perm.refl _,fun b _=>by rw[Bv,ln,zG,Abp b.toNat_lt];rfl⟩
 |k+1,h=>by
  obtain⟨h1,h2,a,c⟩:=Jf t k (by omega);have hs:=Xz (Bv (Ai t 256) (List.replicate 256 0) k).1 (by omega);refine⟨by rw[Bv];simp only;omega,h2.step (by omega),(Vi _ (by omega)).trans a,fun b hb=>?_⟩;rw[Bv];simp only;rw[Za h2.len,c b hb];intro d;refine hb (a.mem_iff.1 ((Vi _ (by omega)).mem_iff.1 ?_));unfold Bm;rw[Hm.step,Abo,Ad7];exact .inr (by rw[Aa3,List.flatMap_nil,Abe];exact d)
structure zA(t:Aeg)(L:Aeh):Prop where
 len:L.length=256
 pos: ∀b:UInt8,0<ln L b↔b∈t
 short:t.length<=6000-> ∀b:UInt8,ln L b<=17
 full: ∀ms:Aeg,ms.Nodup->(∀b,b∈ms↔0<ln L b)->1<ms.length-> ∀M,(∀b∈ms,ln L b<=M)->kr M L ms=2^M
 one: ∀ms:Aeg,ms.Nodup->(∀b,b∈ms↔0<ln L b)->ms.length=1-> ∀b∈ms,ln L b=1
theorem X1(t:Aeg)(b:UInt8):b∈Bm (Ai t 256)↔b∈t:=by
 rw[Ni,List.mem_map];constructor
 ·rintro⟨x,c,rfl⟩;have h1:=List.mem_filter.1 c;have h2:0<cnt t x:=by simpa using h1.2
  have f:x<256:=by simpa using h1.1
  unfold cnt at h2;obtain⟨y,d,e⟩:=List.countP_pos_iff.1 h2;have a:y.toNat=x:=by simpa using e
  rw[show UInt8.ofNat x=y from by rw[<-a];simp];exact d
 ·intro h;refine⟨b.toNat,List.mem_filter.2 ⟨List.mem_range.2 b.toNat_lt,?_⟩,by simp⟩;have:0<cnt t b.toNat:=List.countP_pos_iff.2 ⟨b,h,by simp⟩;simpa using this
theorem cF{M:Nat}{a b:Aeg}(h:a.Perm b):kr M L a=kr M L b:=(h.map _).sum_nat
theorem Z7(t:Aeg):zA t (lens t):=by
 have a:=X1 t;have A:=(Vj t).nd;have p: ∀ms:Aeg,ms.Nodup->(∀b,b∈ms↔b∈t)->ms.Perm (Bm (Ai t 256)):=fun ms h1 h2=>
  (List.perm_ext_iff_of_nodup h1 A).2 fun b=>by rw[h2,a]
 have P:(Bm (Ai t 256)).length=(Ai t 256).length:=by
  rw[Ni];unfold Ai;simp
 have q:lens t=if(Ai t 256).length=1 then(List.replicate 256 0).set ((Ai t 256).getD 0 (0,0,[])).2.1.toNat 1 else(Bv (Ai t 256) (List.replicate 256 0) ((Ai t 256).length-1)).2:=rfl;rw[q]
 by_cases h1:(Ai t 256).length=1
 ·rw[if_pos h1];obtain⟨g,m⟩:=List.length_eq_one_iff.1 h1;have i:g∈Ai t 256:=by rw[m];exact List.mem_singleton.2 rfl
  obtain⟨x,U,e⟩: ∃x,x∈(List.range 256).filter (fun x=>decide (0<cnt t x))/\(cnt t x,UInt8.ofNat x,[UInt8.ofNat x])=g:=by
   unfold Ai at i;exact List.mem_map.1 i
  have z:Bm (Ai t 256)=[UInt8.ofNat x]:=by unfold Bm;rw[m,<-e];rfl
  have E:((Ai t 256).getD 0 (0,0,[])).2.1=UInt8.ofNat x:=by rw[m,<-e];rfl
  rw[E];have l: ∀b,ln ((List.replicate 256 0).set (UInt8.ofNat x).toNat 1) b=if b=UInt8.ofNat x then 1 else 0:=fun b=>by
   rw[ln,zG]
   by_cases c:b=UInt8.ofNat x
   ·rw[if_pos c,c,Adg (by rw[zV];exact(UInt8.ofNat x).toNat_lt)];rfl
   ·rw[if_neg c,Adc (fun k=>c (UInt8.toNat_inj.1 k.symm)),Abp b.toNat_lt];rfl
  have f: ∀b,b∈t↔b=UInt8.ofNat x:=fun b=>by rw[<-a,z,List.mem_singleton]
  refine⟨by rw[Abb,zV],fun b=>?_,fun _ b=>?_,fun ms h2 j r=>?_,fun ms h2 j r b hb=>?_⟩
  ·rw[l,f];by_cases c:b=UInt8.ofNat x<;>simp[c]
  ·rw[l];split<;>omega
  ·have:=(p ms h2 (fun b=>by rw[j,l,f];by_cases c:b=UInt8.ofNat x<;>simp[c])).length_eq;omega
  ·have:=(j b).1 hb;rw[l]at this|-;split
   ·rfl
   ·rw[if_neg (by assumption)]at this;omega
 ·rw[if_neg h1]
  by_cases v:(Ai t 256).length=0
  ·have H:=Aaz v;have hno: ∀b,b∉t:=fun b hb=>by have:=(a b).2 hb;rw[H]at this;simp[Bm]at this
   have B: ∀b:UInt8,ln (Bv (Ai t 256) (List.replicate 256 0) ((Ai t 256).length-1)).2 b=0:=fun b=>by
    rw[v];show ln (List.replicate 256 0) b=0;rw[ln,zG,Abp b.toNat_lt];rfl
   refine⟨by rw[v];exact zV,fun b=>?_,fun _ b=>?_,fun ms h2 j r=>?_,fun ms h2 j r=>?_⟩
   ·rw[B];exact⟨fun h=>by omega,fun h=>absurd h (hno b)⟩
   ·rw[B];omega
   all_goals
    obtain⟨b,hb⟩:=List.exists_mem_of_length_pos (show 0<ms.length by omega);have:=(j b).1 hb;rw[B]at this;omega
  ·obtain⟨n,hn⟩: ∃n,(Ai t 256).length=n+2:=⟨(Ai t 256).length-2,by omega⟩;obtain⟨p1,u,D,Q⟩:=Jf t (n+1) (by omega);obtain⟨V,R,W,X⟩:=Jf t n (by omega);rw[show(Ai t 256).length-1=n+1 from by omega];obtain⟨g,m⟩:=List.length_eq_one_iff.1 (show(Bv (Ai t 256) (List.replicate 256 0) (n+1)).1.length=1 by omega);have i:g∈(Bv (Ai t 256) (List.replicate 256 0) (n+1)).1:=by rw[m];exact List.mem_singleton.2 rfl
   have s:Bm (Bv (Ai t 256) (List.replicate 256 0) (n+1)).1=g.2.2:=by rw[m];simp[Bm]
   rw[s]at D;have f: ∀b,b∈g.2.2↔b∈t:=fun b=>by rw[<-a,D.mem_iff]
   have y:g.2.2=(L6 (Bv (Ai t 256) (List.replicate 256 0) n).1).2.2:=by
    have e:(Bv (Ai t 256) (List.replicate 256 0) (n+1)).1=Hm.step (Bv (Ai t 256) (List.replicate 256 0) n).1:=rfl;have N:=Et (Bv (Ai t 256) (List.replicate 256 0) n).1 (by omega);have O:=Et (left (Bv (Ai t 256) (List.replicate 256 0) n).1) (by omega);have F:left (left (Bv (Ai t 256) (List.replicate 256 0) n).1)=[]:=Aaz (by omega);rw[m,Hm.step,F,Adk]at e;rw[List.cons.inj e|>.1]
   have o:g.2.2.Nodup:=by have:=u.nd;rw[s]at this;exact this
   have d: ∀b,0<ln (Bv (Ai t 256) (List.replicate 256 0) (n+1)).2 b↔b∈t:=fun b=>by
    constructor
    ·intro h;apply Ad5;intro G;have:=Q b (fun k=>G ((a b).1 k));omega
    ·intro h;have hb:=(f b).2 h;have e:(Bv (Ai t 256) (List.replicate 256 0) (n+1)).2=bump (Bv (Ai t 256) (List.replicate 256 0) n).2 (L6 (Bv (Ai t 256) (List.replicate 256 0) n).1).2.2:=rfl;rw[e,<-y,Ww R.len o hb];omega
   refine⟨u.len,d,fun L b=>?_,fun ms h2 j r M hM=>?_,fun ms h2 j r=>?_⟩
   ·by_cases hb:b∈t
    ·have S:=u.f1 g i b ((f b).2 hb);have T:g.1<=6000:=by
      have K: ∀k,k<(Ai t 256).length->Ms (Bv (Ai t 256) (List.replicate 256 0) k).1:=fun k=>by
       induction k with
       |zero=>intro _;exact Qm t L
       |succ k ih=>
        intro hk;have:=(Jf t k (by omega)).1;exact(ih (by omega)).step (by omega)
      have:=(K (n+1) (by omega)).w;rw[m,Y9]at this;exact this
     exact eG _ (by omega)
    ·have:=mt (d b).1 hb;omega
   ·have C:ms.Perm g.2.2:=(List.perm_ext_iff_of_nodup h2 o).2 fun b=>by rw[j,d,f]
    rw[cF C];exact u.kr g i M fun b hb=>hM b (C.mem_iff.2 hb)
   ·have:=(p ms h2 (fun b=>by rw[j,d])).length_eq;omega
end Hm
namespace Hm
def N2(L:Aeh)(p:Nat×Nat)(k:Nat)(b:UInt8):Nat×Nat:=((p.1+if k=0 then 0 else 1)*2^(lnB L b-p.2),lnB L b)
def B9(L:Aeh)(o:Aeg):Nat->Nat×Nat
 |0=>(0,0)
 |k+1=>N2 L (B9 L o k) k (o.getD k 0)
def Eh(L:Aeh)(o:Aeg)(z:Nat):Nat->List (Nat×Nat)
 |0=>List.replicate z (0,0)
 |k+1=>(Eh L o z k).set (o.getD k 0).toNat (B9 L o (k+1))
def Bf(L:Aeh):List (Nat×Nat):=Eh L (Af L) 256 (Af L).length
theorem A5(L:Aeh)(o:Aeg)(z k:Nat):(Eh L o z k).length=z:=by
 induction k with
 |zero=>simp[Eh]
 |succ k ih=>simp[Eh,ih]
structure N3(L:Aeh)(o:Aeg):Prop where
 asc:o.Pairwise fun a b=>lnB L a<=lnB L b
 short: ∀b∈o,lnB L b<=32
 sum:kr 32 L o<=2^32
theorem Lg{k:Nat}(h:k<o.length):o.getD k 0∈o:=by
 rw[zG,zH h];exact z6 _
theorem Qp(M:Nat)(L:Aeh)(o:Aeg)(k:Nat)(h:k<o.length):kr M L (o.take (k+1))=kr M L (o.take k)+2^(M-lnB L (o.getD k 0)):=by
 rw[zQ h,Rg];congr 1;rw[zG,zH h];simp[kr]
theorem qD(M:Nat)(L:Aeh)(o:Aeg)(k:Nat):kr M L (o.take k)<=kr M L o:=by
 conv=>rhs;rw[<-Abh k o,Rg]
 omega
theorem N3.asc_get(h:N3 L o){i j:Nat}(b:i<=j)(a:j<o.length):lnB L (o.getD i 0)<=lnB L (o.getD j 0):=by
 rcases Abf i j with c|c
 ·rw[zG,zH (by omega:i<o.length),zG,zH a];exact List.pairwise_iff_getElem.1 h.asc i j (by omega) a c
 ·obtain rfl:i=j:=by omega
  exact zK _
theorem Ix(L:Aeh)(o:Aeg)(k:Nat):(B9 L o (k+1)).2=lnB L (o.getD k 0):=rfl
theorem N3.num(h:N3 L o): ∀k,k<o.length->(B9 L o (k+1)).1*2^(32-lnB L (o.getD k 0))=kr 32 L (o.take k)
 |0,hk=>by simp[B9,N2,kr]
 |k+1,hk=>by
  have a:=h.num k (by omega);have h1:=h.asc_get (i:=k) (j:=k+1) (by omega) hk;have h2:=h.short _ (Lg hk);rw[Qp _ _ _ _ (by omega),<-a];show((B9 L o (k+1)).1+if k+1=0 then 0 else 1)*2^(lnB L (o.getD (k+1) 0)-(B9 L o (k+1)).2)*2^(32-lnB L (o.getD (k+1) 0))=_;rw[Ix,iN,Adt,<-Nat.pow_add,show lnB L (o.getD (k+1) 0)-lnB L (o.getD k 0)+(32-lnB L (o.getD (k+1) 0))=32-lnB L (o.getD k 0)from by omega,Ab4,Nat.one_mul]
theorem N3.lt(h:N3 L o)(k:Nat)(hk:k<o.length):(B9 L o (k+1)).1<2^lnB L (o.getD k 0):=by
 have h1:=h.num k hk;have h2:=Qp 32 L o k hk;have b:=qD 32 L o (k+1);have c:=h.sum;have d:=h.short _ (Lg hk);have e:(2:Nat)^32=2^lnB L (o.getD k 0)*2^(32-lnB L (o.getD k 0)):=by rw[<-Nat.pow_add];congr 1;omega
 have f:0<(2:Nat)^(32-lnB L (o.getD k 0)):=Acl _;refine Nat.lt_of_mul_lt_mul_right (a:=2^(32-lnB L (o.getD k 0))) ?_;rw[h1,<-e];omega
theorem jO{l:Nat}(h:l<=32):2^l<=4294967296:=by
 have:=Abk (show 0<2 by omega) h;have e:(2:Nat)^32=4294967296:=by decide
 omega
theorem N3.num_le(h:N3 L o)(k:Nat)(hk:k<=o.length):(B9 L o k).1<4294967296/\(B9 L o k).2<=32:=by
 cases k with
 |zero=>simp[B9]
 |succ k=>
  have h1:=h.lt k hk;have h2:=h.short _ (Lg hk);have a:=jO h2;exact⟨by omega,by rw[Ix];exact h2⟩
theorem N3.step_le(h:N3 L o)(k:Nat)(hk:k<o.length):(B9 L o k).2<=lnB L (o.getD k 0):=by
 cases k with
 |zero=>exact zZ _
 |succ k=>rw[Ix];exact h.asc_get (by omega) hk
end Hm
namespace Hm
theorem cG(l:List (Nat×Nat))(i:Nat)(x:Nat×Nat)(h:i<l.length):(l.set i x).getD i (0,0)=x:=by
 rw[zG,Adg h];rfl
theorem Vk(l:List (Nat×Nat))(i j:Nat)(x:Nat×Nat)(h:i≠j):(l.set i x).getD j (0,0)=l.getD j (0,0):=by
 rw[zG,Adc h,<-zG]
theorem wF(hn:o.Nodup){i j:Nat}(hi:i<o.length)(a:j<o.length)(e:o.getD i 0=o.getD j 0):i=j:=by
 rw[zG,zH hi,zG,zH a]at e;have b:=List.pairwise_iff_getElem.1 (List.nodup_iff_pairwise_ne.1 hn);rcases Aa7 i j with c|c|c
 ·exact absurd e (b i j hi a c)
 ·exact c
 ·exact absurd e.symm (b j i a hi c)
theorem jP(L:Aeh)(o:Aeg)(hn:o.Nodup)(i:Nat): ∀k,i<k->k<=o.length->(Eh L o 256 k).getD (o.getD i 0).toNat (0,0)=B9 L o (i+1)
 |0,h,_=>by omega
 |k+1,h,hk=>by
  rw[Eh]
  by_cases e:i=k
  ·subst e;exact cG _ _ _ (by rw[A5];exact UInt8.toNat_lt _)
  ·rw[Vk _ _ _ _ (fun c=>e (wF hn (by omega) (by omega) (UInt8.toNat_inj.1 c.symm)))];exact jP L o hn i k (by omega) (by omega)
theorem jQ(L:Aeh)(o:Aeg)(b:UInt8)(hb:b∉o): ∀k,k<=o.length->(Eh L o 256 k).getD b.toNat (0,0)=(0,0)
 |0,_=>by
  rw[Eh,zG,Abp b.toNat_lt];rfl
 |k+1,hk=>by
  rw[Eh,Vk _ _ _ _ (fun c=>hb (by rw[<-UInt8.toNat_inj.1 c];exact Lg hk))];exact jQ L o b hb k (by omega)
def Kh(L:Aeh)(b:UInt8):Nat×Nat:=(Bf L).getD b.toNat (0,0)
theorem Rh(L:Aeh)(k:Nat)(hk:k<(Af L).length):Kh L ((Af L).getD k 0)=B9 L (Af L) (k+1):=
 jP L _ (Hy (Ey L)) k _ hk (zK _)
theorem eI(L:Aeh)(b:UInt8)(hb:b∉Af L):Kh L b=(0,0):=jQ L _ b hb _ (zK _)
theorem Tc(L:Aeh)(c: ∀b:UInt8,lnB L b<=255)(b:UInt8):(Kh L b).2=lnB L b:=by
 by_cases hb:b∈Af L
 ·obtain⟨k,hk,e⟩:=Aa5 hb;have a:(Af L).getD k 0=b:=by rw[zG,zH hk];exact e
  rw[<-a,Rh L k hk,Ix]
 ·rw[eI L b hb];have:=mt (Kp L c b).2 hb;show 0=_;omega
theorem tN(L:Aeh)(c:N3 L (Af L))(b:UInt8)(hb:b∈Af L):(Kh L b).1<2^(Kh L b).2:=by
 obtain⟨k,hk,e⟩:=Aa5 hb;have a:(Af L).getD k 0=b:=by rw[zG,zH hk];exact e
 rw[<-a,Rh L k hk,Ix];exact c.lt k hk
end Hm
namespace Hm
structure Bz(L:Aeh):Prop where
 len:L.length=256
 short: ∀b:UInt8,lnB L b<=32
 kind:(Af L).length=0\/((Af L).length=1/\ ∀b∈Af L,lnB L b=1)\/(1<(Af L).length/\kr 32 L (Af L)=2^32)
def Bq(L:Aeh)(b:UInt8):Nat:=(Kh L b).1
section
variable {L:Aeh}
theorem Bz.le255(h:Bz L)(b:UInt8):lnB L b<=255:=by have:=h.short b;omega
theorem Bz.mem(h:Bz L)(b:UInt8):b∈Af L↔0<lnB L b:=Kp L h.le255 b
theorem Bz.asc(_h:Bz L):(Af L).Pairwise fun a b=>lnB L a<=lnB L b:=by
 refine(Ey L).imp fun{a b} h=>?_;unfold Hh at h;have:=a.toNat_lt;have:=b.toNat_lt;omega
theorem Bz.nodup(_h:Bz L):(Af L).Nodup:=Hy (Ey L)
theorem Bz.fits(h:Bz L):N3 L (Af L):=by
 refine⟨h.asc,fun b _=>h.short b,?_⟩;rcases h.kind with a|⟨h1,h2⟩|⟨_,h2⟩
 ·have:Af L=[]:=Aaz a;rw[this];simp[kr]
 ·obtain⟨b,hb⟩:=List.length_eq_one_iff.1 h1;have c:=h2 b (by rw[hb];exact List.mem_singleton.2 rfl);rw[hb];have d:ln L b=1:=c;simp only[kr,Abg,Adv,Adu,List.sum_nil,d];decide
 ·exact Acx h2
theorem Bz.numk(h:Bz L):Hw 32 (lnB L) (Bq L) (Af L):=by
 refine⟨fun k hk=>?_,fun b _=>h.short b⟩;unfold Bq;rw[Rh L k hk];exact h.fits.num k hk
theorem Bz.num_lt(h:Bz L): ∀b∈Af L,Bq L b<2^lnB L b:=fun b hb=>by
 have:=tN L h.fits b hb;rwa[Tc L h.le255]at this
theorem Bz.pos(h:Bz L): ∀b∈Af L,0<lnB L b:=fun b hb=>(h.mem b).1 hb
theorem Bz.few(h:Bz L):(Af L).length<=256:=by
 rw[Jn L h.le255];exact Ex L 256
theorem Bz.ends(h:Bz L): ∃N,0<N/\Ends 32 (lnB L) (Af L) N:=by
 rcases h.kind with a|⟨h1,h2⟩|⟨h1,h2⟩
 ·have:Af L=[]:=Aaz a;rw[this];exact⟨1,by omega,pP 32 _⟩
 ·obtain⟨b,hb⟩:=List.length_eq_one_iff.1 h1;have c:=h2 b (by rw[hb];exact List.mem_singleton.2 rfl);rw[hb];exact⟨1,by omega,s6 32 _ b c⟩
 ·exact pO ⟨h.asc,h.pos,fun b _=>h.short b,h2⟩ (by omega) h.few
end
theorem Hj(t:Aeg)(ht:t.length<=6000):Bz (lens t):=by
 have a:=Z7 t;have hs: ∀b:UInt8,lnB (lens t) b<=17:=a.short ht;have d: ∀b:UInt8,lnB (lens t) b<=255:=fun b=>by have:=hs b;omega
 have hn:=Hy (Ey (lens t));have c:=Kp (lens t) d;refine⟨a.len,fun b=>by have:=hs b;omega,?_⟩;rcases Aa7 (Af (lens t)).length 1 with h|h|h
 ·exact .inl (by omega)
 ·exact .inr (.inl ⟨h,a.one _ hn c h⟩)
 ·exact .inr (.inr ⟨h,a.full _ hn c h 32 fun b _=>Aaf (hs b) (by omega)⟩)
theorem N4(t:Aeg)(ht:t.length<=6000)(b:UInt8):b∈Af (lens t)↔b∈t:=by
 rw[(Hj t ht).mem];exact(Z7 t).pos b
end Hm
section
open Go.RowKit
namespace Hm
def Hk(L:Aeh):Nat:=L.foldl max 0
theorem cH(r:Aeh): ∀a:Nat,(r.map fun x:Nat=>(x:Int)).foldl max (a:Int)=((r.foldl max a:Nat):Int):=by
 induction r with
 |nil=>intro a;rfl
 |cons x r ih=>
  intro a;rw[Abg,Ad8,Ad8,<-ih (max a x)];congr 1;omega
theorem yI(L:Aeh):Lib.maxOf (L.map fun x:Nat=>(x:Int))=(Hk L:Int):=by
 cases L with
 |nil=>rfl
 |cons x r=>
  unfold Lib.maxOf Hk;rw[Abg,List.headD_cons,Ad8,Ad8,Int.max_self,cH];simp
theorem jR(r:Aeh): ∀a,a<=r.foldl max a/\ ∀x∈r,x<=r.foldl max a:=by
 induction r with
 |nil=>intro a;exact⟨zK _,fun x h=>by cases h⟩
 |cons y r ih=>
  intro a;obtain⟨h1,h2⟩:=ih (max a y);rw[Ad8];refine⟨by omega,fun x b=>?_⟩;rcases List.mem_cons.1 b with rfl|h
  ·omega
  ·exact h2 x h
theorem jS(r:Aeh): ∀a,r.foldl max a=a\/r.foldl max a∈r:=by
 induction r with
 |nil=>intro a;exact .inl rfl
 |cons y r ih=>
  intro a;rw[Ad8];rcases ih (max a y)with h|h
  ·rw[h];rcases Nat.le_total a y with h1|h1
   ·right;rw[Nat.max_eq_right h1];exact Aab ..
   ·left;exact Nat.max_eq_left h1
  ·exact .inr (Aae _ h)
theorem Wx(L:Aeh)(x:Nat)(h:x∈L):x<=Hk L:=(jR L 0).2 x h
theorem Wy(L:Aeh)(h:0<Hk L):Hk L∈L:=by
 rcases jS L 0 with h1|h1
 ·unfold Hk at h;omega
 ·exact h1
theorem Vl(L:Aeh)(c: ∀b:UInt8,lnB L b<=255):(Af L).Perm (Aj L):=by
 have hn:(Aj L).Nodup:=by
  rw[List.nodup_iff_pairwise_ne];exact(Oj L).imp fun{a b} k e=>by subst e;omega
 exact(List.perm_ext_iff_of_nodup (Hy (Ey L)) hn).2 fun b=>by rw[Kp L c,Je]
theorem jT(a:L.length=256)(B:Nat)(h: ∀x∈L,x<=B)(b:UInt8):lnB L b<=B:=by
 have hb:=b.toNat_lt;unfold lnB;rw[zG,zH (by omega)];exact h _ (z6 _)
theorem yJ(M:Nat)(L:Aeh)(ms:Aeg)(k:Nat)(h:k<ms.length):kr M L (ms.take (k+1))=kr M L (ms.take k)+2^(M-lnB L ms[k]):=by
 rw[zQ h,Rg];show _+([ms[k]].map fun b=>2^(M-ln L b)).sum=_;rw[Abg,Adv,Adu,List.sum_nil,Ac2]
theorem zB(M:Nat)(L:Aeh)(ms:Aeg):kr M L ms<=ms.length*2^M:=by
 induction ms with
 |nil=>simp[kr]
 |cons b r ih=>
  have h1:2^(M-ln L b)<=2^M:=Abk (by omega) (by omega);have h2:kr M L (b::r)=2^(M-ln L b)+kr M L r:=by simp[kr]
  rw[h2,Aau,Ab4];omega
theorem jU(h:(Aj L).length=0)(b:UInt8):lnB L b=0:=by
 have h1: ¬0<lnB L b:=fun a=>by
  have h2:=(Je L b).2 a;rw[Aaz h]at h2;cases h2
 omega
end Hm
theorem X2(L:Aeh)(w:World)(f:L.length=256):
  Calls prog 170 #[.agg (Ad L).toArray] w fun e w'=>e= .returned (.int .i64 (Hk L:Nat))/\Aee w w':=by
 have a:=zY w (.cells (Ad L).toArray 139);have b:=Tryz.slices_Max_int w.heap.size 0 256 256 (L.map fun x:Nat=>(x:Int)) (w.alloc (.cells (Ad L).toArray 139)) (by omega) (by simp;omega) (by omega) (fun j d=>by
  have c:j<L.length:=by simpa using d
  rw[Aao,zP _ _ _ _ _ _ a];simp[Ad,List.getD_eq_getElem?_getD,c])
 rw[Aap (by simp;omega),yI]at b;have hk:Aee w (w.alloc (.cells (Ad L).toArray 139)):=(Aa.refl _ _).alloc _;generalize(Ad L).toArray=arr at*;clear a
 go_enter func170,ntmps170
 go_wp2_with fail;refine b.mono ?_;rintro e g ⟨rfl,rfl⟩;go_wp2_with fail;go_ret;exact⟨rfl,hk⟩
theorem gA(L:Aeh)(w:World)(hL:L.length=256)(O: ∀x∈L,x<=255):
  Calls prog 169 #[.agg (Ad L).toArray] w fun e w'=> ∃b,e= .returned (.bool b)/\(b=true↔Bz L)/\Aee w w':=by
 have aa:=jT hL 255 O;have an:=Jn L aa;have f:=zY w (.cells (Ad L).toArray 139);have s:(Ad L).toArray.size=256:=by rw[Ba,hL]
 have Y:=fun W=>U9 L W hL (fun x h=>by have:=O x h;omega);have H:=fun W=>X2 L W hL;have F:Aee w (w.alloc (.cells (Ad L).toArray 139)):=(Aa.refl _ _).alloc _;have D:Hid (∀W,Aee (w.alloc (.cells (Ad L).toArray 139)) W->W.heap[w.heap.size]?=some (.cells (Ad L).toArray 139 (0,0))/\ ∀b:UInt8,W.cell? (J w.heap.size b.toNat)=some (I (lnB L b:Nat))):=fun W hk=>by
  have h1:=hk.row f id;refine⟨h1,fun b=>?_⟩;have hb:=b.toNat_lt;rw[zP _ _ _ _ _ _ h1];simp[Ad,lnB,List.getD_eq_getElem?_getD,List.getElem?_eq_getElem (show b.toNat<L.length from by omega)]
 have ai:=Ex L 256
 change (Aj L).length<=256 at ai
 obtain⟨T,K⟩: ∃a,a=(Ad L).toArray:=⟨_,rfl⟩;rw[<-K]at f s Y H F D|-;have q:=hZ (aI hL (aI O (aI aa an)));obtain⟨W0,V⟩:=gx (w.alloc (.cells T 139));rw[<-V]at f F D;have HW:=hZ V.symm;clear K V O aa an hL
 go_enter func169,ntmps169
 go_upto_region 1 with fail
 rw[HW.o];clear HW
 go_wp2_with(first
  |(refine Aa0 rfl 139 _ rfl w.heap.size rfl 139 T (0,0) _ f underlying139 rfl (by rw[s];exact Ci) ?_))
 refine(Y _).mono ?_;rintro e w1 ⟨v,rfl,ho,l⟩;clear Y
 have R:=hZ (aI l (F.tr l));clear F
 by_cases U:(Aj L).length=0
 ·obtain⟨ao,cp,hv,_⟩:=An ho;rw[U]at hv;subst hv;have HC:Hid (Bz L):=⟨q.o.1,fun b=>by rw[jU U b];omega,.inl (by rw[q.o.2.2.2,U])⟩;clear ho l f U;go_wp2_with fail;go_ret;exact⟨true,rfl,⟨fun _=>HC.o,fun _=>rfl⟩,R.o.2⟩
 ·obtain⟨g,aD,hv,_,aJ⟩:=Co ho (by omega);subst hv;obtain⟨n,hn⟩:=gx ((Aj L).length);have d: ∀i,(h:i<(Aj L).length)->w1.cell? (J g i)=some (.int .u8 (((Aj L)[i]).toNat:Nat)):=fun i h=>by
   rw[ho.cellAt i (by omega)];simp[Ag,h]
  have C:=hZ d;have E:=D.o w1 l;have r:=hZ E.2;have ag:=E.1;have HN:=hZ hn;rw[<-hn]at ai U|-;have aM:((n:Int)==0)=false:=by rw[Aat];omega
  by_cases h1:n=1
  ·have a1:=d 0 (by omega);obtain⟨b,hb⟩:=gx ((Aj L)[0]'(by omega));rw[<-hb]at a1;have Z:=r.o b;have X:((b.toNat:Nat):Int)<256:=by have:=b.toNat_lt;omega
   have HB:Hid ((decide (lnB L b=1)=true)↔Bz L):=by
    have M:Aj L=[b]:=by
     obtain⟨y,hy⟩:=List.length_eq_one_iff.1 (show(Aj L).length=1 from by omega);rw[hy];simp only[hy,List.getElem_cons_zero]at hb;rw[hb]
    have A:=Vl L q.o.2.2.1;rw[M]at A;have u:=List.perm_singleton.1 A;have hz: ∀c,c≠b->lnB L c=0:=fun c hc=>by
     have h2: ¬0<lnB L c:=fun hp=>by
      have h3:=(Je L c).2 hp;rw[M]at h3;exact hc (List.mem_singleton.1 h3)
     omega
    constructor
    ·intro h;have h2:=Aay h;refine⟨q.o.1,fun c=>?_,.inr (.inl ⟨by rw[u];rfl,fun c hc=>?_⟩)⟩
     ·by_cases ah:c=b
      ·rw[ah,h2];omega
      ·rw[hz c ah];omega
     ·rw[u]at hc;rw[List.mem_singleton.1 hc];exact h2
    ·intro h;rcases h.kind with h2|⟨_,h2⟩|⟨h2,_⟩
     ·rw[u]at h2;cases h2
     ·exact zJ (h2 b (by rw[u];exact List.mem_singleton.2 rfl))
     ·rw[u]at h2;simp at h2
   generalize lnB L b=x at*;subst h1;clear ho l f U hn d hb r E C D;go_wp2_with fail;go_ret;refine⟨decide (x=1),?_,HB.o,R.o.2⟩;have e:(((x:Nat):Int)==1)=decide (x=1):=by rw[Bool.eq_iff_iff];simp;omega
   rw[<-e];rfl
  ·have aN:((n:Int)==1)=false:=by rw[Aat];omega
   have am:1<n:=by omega
   have a0:=hZ am;have Q:Hid (Hk L<=32->(decide (kr 32 L (Aj L)=4294967296)=true↔Bz L)):=fun B=>by
    have A:=Vl L q.o.2.2.1;have ak:1<(Af L).length:=by rw[q.o.2.2.2,<-HN.o];exact a0.o
    constructor
    ·intro h;refine⟨q.o.1,jT q.o.1 32 (fun x O=>Aaf (Wx L x O) B),.inr (.inr ⟨ak,?_⟩)⟩;rw[cF A,Aay h]
    ·intro h;rcases h.kind with h2|⟨h2,_⟩|⟨_,h2⟩
     ·omega
     ·omega
     ·rw[cF A]at h2;exact zJ h2
   have af:Hid (¬Hk L<=32-> ¬Bz L):=fun B hC=>by
    obtain⟨i,hi,he⟩:=Aa5 (Wy L (by omega));have h1:=hC.short (UInt8.ofNat i);have h2:(UInt8.ofNat i).toNat=i:=by rw[Aax];have:=q.o.1;omega
    unfold lnB at h1;rw[h2,zG,zH hi,he]at h1;exact B h1
   have S:Hid (∀b,Hk L<=32->lnB L b<=32):=fun b B=>jT q.o.1 32 (fun x O=>Aaf (Wx L x O) B) b;have al:Hk L<=255:=by
    by_cases h:0<Hk L
    ·exact q.o.2.1 _ (Wy L h)
    ·omega
   obtain⟨mx,N⟩: ∃x,x=Hk L:=⟨_,rfl⟩;rw[<-N]at H Q af S al;clear ho l f U hn d E h1 am N
   go_wp2_with(first
    |(refine Aa0 rfl 139 _ rfl w.heap.size rfl 139 T (0,0) _ ag underlying139 rfl (by rw[s];exact Ci) ?_))
   refine(H _).mono ?_;rintro e w2 ⟨rfl,m⟩;have ae:=hZ (aI m (R.o.2.tr m));clear H ag
   by_cases B:mx<=32
   ·have hd:decide ((32:Int)<(mx:Int))=false:=zM (by omega);have aw:Hid (∀i,(h:i<(Aj L).length)->w2.cell? (J g i)=some (.int .u8 (((Aj L)[i]).toNat:Nat))):=fun i h=>(m.cell (p:=(J g i)) (z9 _ _ (C.o i h)) id).trans (C.o i h);have ay:Hid (∀b:UInt8,w2.cell? (J w.heap.size b.toNat)=some (I (lnB L b:Nat))):=fun b=>(m.cell (p:=(J w.heap.size b.toNat)) (z9 _ _ (r.o b)) id).trans (r.o b);have HM:=hZ B;clear C r m B;go_wp2_with fail
    go_loopw[4,26] (fun vt vi wr=> ∃k:Nat,k<=n/\vi=I k/\vt= .int .u64 (kr 32 L ((Aj L).take k):Nat)/\wr=w2) (fun _ vi _=>n-(intOf vi).toNat)
    case atStart=>exact⟨0,by omega,rfl,by simp[kr],rfl⟩
    case round=>
     obtain⟨k,hk,rfl,rfl,rfl⟩:=hrel;have G:=zB 32 L ((Aj L).take k);have a2:kr 32 L ((Aj L).take k)<=1099511627776:=Aaf G (Aa4 (show((Aj L).take k).length<=256 from by rw[zS];have:=HN.o;omega) (zK (2^32)))
     by_cases aK:k<n
     ·have aj:k<(Aj L).length:=by have:=HN.o;omega
      have hc:=aw.o k aj;have Z:=ay.o (Aj L)[k];have P:=S.o (Aj L)[k] HM.o;have HS:=hZ (yJ 32 L _ k aj);obtain⟨b,hb⟩:=gx ((Aj L)[k]);rw[<-hb]at hc Z P HS;have X:((b.toNat:Nat):Int)<256:=by have:=b.toNat_lt;omega
      obtain⟨x,aq⟩:=gx (lnB L b);rw[<-aq]at Z P HS;obtain⟨y,hy⟩:=gx (32-x);have zy:(32:Int)-(x:Int)=(y:Int):=by omega
      rw[<-hy]at HS;have aO:(2:Nat)^y<=4294967296:=Abk (n:=2) (i:=y) (j:=32) (by omega) (by omega);generalize kr 32 L ((Aj L).take k)=t at*;clear G hb aq hy;go_wp2_with fail;have ap: ∀z:Nat,z<18446744073709551616->IntKind.u64.wrap (z:Int)=(z:Int):=fun z hz=>by
       simp[IntKind.wrap,IntKind.signed,IntKind.bits];omega
      have e1:((2:Int)^y)=((2^y:Nat):Int):=by simp
      have e2:IntKind.u64.wrap ((t:Int)+IntKind.u64.wrap ((2:Int)^y))=((t+2^y:Nat):Int):=by
       rw[e1,ap (2^y) (by omega),<-Int.natCast_add,ap (t+2^y) (by omega)]
      exact⟨⟨k+1,by omega,by go_num,by rw[e2,HS.o],Ad2⟩,by simp[intOf];omega⟩
     ·obtain rfl:k=n:=by omega
      have HT:Hid ((Aj L).take k=Aj L):=by show _=_;rw[HN.o,Aaw]
      rw[HT.o];have HF:=Q.o HM.o;have ax:=hZ HF;rw[HT.o]at a2 G;generalize kr 32 L (Aj L)=t at*;clear HF G;go_wp2_with fail;go_ret;refine⟨decide (t=4294967296),?_,ax.o,ae.o.2⟩;have e:(((t:Nat):Int)==4294967296)=decide (t=4294967296):=by rw[Bool.eq_iff_iff];simp;omega
      rw[<-e];rfl
   ·have hd:decide ((32:Int)<(mx:Int))=true:=zJ (by omega);have az:=hZ (af.o B);clear B Q S m;go_wp2_with fail;go_ret;exact⟨false,rfl,⟨fun h=>(by cases h),fun h=>absurd h az.o⟩,ae.o.2⟩
end
end Go.Proofs.YtegnkfdbmmndaaaGreat
