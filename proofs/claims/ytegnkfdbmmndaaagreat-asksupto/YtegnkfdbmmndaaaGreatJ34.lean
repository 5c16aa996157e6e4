import Derived.Test.YtegnkfdbmmndaaaGreatJ33

set_option maxHeartbeats 8000000
namespace Go.Proofs.YtegnkfdbmmndaaaGreat
open Hm Go.Proofs.Tryz Go.RowKit
def Bc(t:Arc)(r:Nat):List Hm.Grp×Ard:=Bv (Aj t 256) (List.replicate 256 0) r
theorem Md(t:Arc)(r:Nat)(h:r<(Aj t 256).length):(Bc t r).1.length+r=(Aj t 256).length∧Mo (Bc t r).1 (Bc t r).2∧(Bp (Bc t r).1).Perm (Bp (Aj t 256)):=⟨(Im t r h).1,(Im t r h).2.1,(Im t r h).2.2.1⟩
theorem Rq(t:Arc)(ht:t.length≤6000): ∀r,(r=0∨r<(Aj t 256).length)→Kz (Bc t r).1
 |0,_=>Oz t ht
 |r+1,h=>by
  have:=(Md t r (by omega)).1;exact(Rq t ht r (by omega)).step (by omega)
theorem Hm.Sim.le{gs:List Hm.Grp}{wt inn:Ard}(h:Hm.Sim gs wt inn)(d:Kz gs): ∀x∈wt,x≤6000:=fun x f=>by
 obtain⟨c,b,rfl⟩:=Aog f;have e:wt.getD c 0=wt[c]:=by rw[Am4,Am5 b];rfl
 rw[←e]
 by_cases hn: ∃g∈gs,g.2.1.toNat=c
 ·obtain⟨g,a,rfl⟩:=hn;rw[h.wi g a];obtain⟨i,hi,rfl⟩:=Aog a;have h1:=Kv gs i hi;have h2:=d.w;rw[Am4,Am5 hi]at h1;simp only[Aps]at h1;omega
 ·rw[h.wo c (fun g a e=>hn ⟨g,a,e⟩)];omega
set_option maxRecDepth 100000 in
theorem Y8(s:ByteArray)(w:World)(hs:s.size≤6000):
  Calls prog 44 #[.string s] w fun e w'=>e= .returned (.agg (Ad (Hm.lens s.data.toList)).toArray)∧Ara w w':=by
 have a1:Aside (s.data.toList.length=s.size):=by show _=_;simp
 have HZ:Aside (Tryz.zeroCells94=(Ad (List.replicate 256 0)).toArray):=Aad
 go_enter func44,ntmps44
 go_upto_region 4 with fail
 have g0:AR ((((w.alloc (.cells Tryz.zeroCells94 94)).alloc (.cells Tryz.zeroCells94 94)).alloc (.cells Tryz.zeroCells94 94)).alloc (.cells Tryz.zeroCells94 94)) w.heap.size (List.replicate 256 0):=by
  unfold AR;rw[←HZ.o];exact((((Aa.refl (fun _=>False) (w.alloc (.cells Tryz.zeroCells94 94))).alloc _).alloc _).alloc _).row (Anj w _) id
 have g1:AR ((((w.alloc (.cells Tryz.zeroCells94 94)).alloc (.cells Tryz.zeroCells94 94)).alloc (.cells Tryz.zeroCells94 94)).alloc (.cells Tryz.zeroCells94 94)) (w.heap.size+1) (List.replicate 256 0):=by
  unfold AR;rw[←HZ.o];exact(((Aa.refl (fun _=>False) ((w.alloc (.cells Tryz.zeroCells94 94)).alloc (.cells Tryz.zeroCells94 94))).alloc _).alloc _).row (Apc w _ _) id
 have g2:AR ((((w.alloc (.cells Tryz.zeroCells94 94)).alloc (.cells Tryz.zeroCells94 94)).alloc (.cells Tryz.zeroCells94 94)).alloc (.cells Tryz.zeroCells94 94)) (w.heap.size+1+1) (List.replicate 256 0):=by
  unfold AR;rw[←HZ.o];have:=((Aa.refl (fun _=>False) (((w.alloc (.cells Tryz.zeroCells94 94)).alloc (.cells Tryz.zeroCells94 94)).alloc (.cells Tryz.zeroCells94 94))).alloc (.cells Tryz.zeroCells94 94)).row (Anj _ _) id;simpa using this
 have g3:AR ((((w.alloc (.cells Tryz.zeroCells94 94)).alloc (.cells Tryz.zeroCells94 94)).alloc (.cells Tryz.zeroCells94 94)).alloc (.cells Tryz.zeroCells94 94)) (w.heap.size+1+1+1) (List.replicate 256 0):=by
  unfold AR;rw[←HZ.o];have:=Anj (((w.alloc (.cells Tryz.zeroCells94 94)).alloc (.cells Tryz.zeroCells94 94)).alloc (.cells Tryz.zeroCells94 94)) (.cells Tryz.zeroCells94 94);simpa using this
 have aa:Ara w ((((w.alloc (.cells Tryz.zeroCells94 94)).alloc (.cells Tryz.zeroCells94 94)).alloc (.cells Tryz.zeroCells94 94)).alloc (.cells Tryz.zeroCells94 94)):=((((Aa.refl _ _).alloc _).alloc _).alloc _).alloc _;generalize((((w.alloc (.cells Tryz.zeroCells94 94)).alloc (.cells Tryz.zeroCells94 94)).alloc (.cells Tryz.zeroCells94 94)).alloc (.cells Tryz.zeroCells94 94))=W at*;obtain⟨b3,aF⟩: ∃b,b=w.heap.size+1+1+1:=⟨_,rfl⟩;rw[←aF]at g3⊢;obtain⟨b2,am⟩: ∃b,b=w.heap.size+1+1:=⟨_,rfl⟩;rw[←am]at g2⊢;obtain⟨b1,aj⟩: ∃b,b=w.heap.size+1:=⟨_,rfl⟩;rw[←aj]at g1⊢;have n1:b1≠b2:=by omega
 have n2:b1≠b3:=by omega
 have n3:b2≠b3:=by omega
 have HB:Aside (b1=w.heap.size+1∧b2=w.heap.size+1+1∧b3=w.heap.size+1+1+1):=⟨aj,am,aF⟩;have HW:Aside (AR W w.heap.size (List.replicate 256 0)∧AR W b1 (List.replicate 256 0)∧AR W b2 (List.replicate 256 0)∧AR W b3 (List.replicate 256 0)∧Ara w W):=⟨g0,g1,g2,g3,aa⟩;clear aj am aF g0 g1 g2 g3 aa;go_wp2_with fail
 go_loopw[6] (fun i wr=> ∃k:Nat,k≤256∧i= .int .i64 k∧AR wr b2 (List.range k++List.replicate (256-k) 0)∧Aa (fun j=>j=b2) W wr) (fun i _=>256-(intOf i).toNat)
 case atStart=>exact⟨0,by omega,rfl,HW.o.2.2.1,Aa.refl _ _⟩
 case round=>
  obtain⟨k,hk,rfl,hr,m⟩:=hrel
  by_cases d:k<256
  ·have N:decide ((k:Int)<256)=true:=Ana (by omega);have bB:(k:Int)<256:=by omega
   have hl:(List.range k++List.replicate (256-k) 0).length=256:=by rw[Anf,Apq,Ani];omega
   have hc:=hr.cell (i:=k) (by omega);have hf:=hr.free k;have HS:=hr.set k k;rw[Zm _ _ d]at HS;have H2:Hid (AR _ b2 (List.range (k+1)++List.replicate (256-(k+1)) 0)):=HS;generalize(List.range k++List.replicate (256-k) 0).getD k 0=old at hc;clear HS hr hl;go_wp2;go_roundw
   case rel=>exact⟨k+1,by omega,by go_num,H2.o,m.setCell (.inr rfl) _⟩
   case measure=>simp[intOf];omega
  ·have ap:k=256:=by omega
   have N:decide ((k:Int)<256)=false:=Anc (by omega);obtain⟨W1,rfl⟩: ∃X,X=wr:=⟨_,rfl⟩;have ai:Aside (AR W1 b2 (List.range 256)∧Aa (fun j=>j=b2) W W1):=by
    rw[ap,Aoy,List.replicate_zero,Aow]at hr;exact⟨hr,m⟩
   clear hr m ap d hk;go_wp2_with fail
   go_loopw[7] (fun i wx=> ∃k:Nat,k≤s.size∧i= .int .i64 k∧AR wx b1 (Hm.weights (s.data.toList.take k))∧Aa (fun j=>j=b1) W1 wx) (fun i _=>s.size-(intOf i).toNat)
   case atStart=>exact⟨0,Ann _,rfl,by rw[List.take_zero,Uy];exact HW.o.2.1.kept ai.o.2 n1,Aa.refl _ _⟩
   case round=>
    clear N;obtain⟨k,hk,rfl,hr,m⟩:=hrel
    by_cases d:k<s.size
    ·have N:decide ((k:Int)<(s.size:Int))=true:=Ana (by omega);have aI:k<s.data.toList.length:=by rw[a1.o];exact d
     have h8:=(s[k]'d).toNat_lt;have hc:=hr.cell (i:=(s[k]'d).toNat) (by rw[Gd];exact h8);have hf:=hr.free (s[k]'d).toNat;have ak:(Hm.weights (s.data.toList.take k)).getD (s[k]'d).toNat 0≤6000:=by
      have h1:=Acm (s.data.toList.take k) (s[k]'d).toNat;have h2:(s.data.toList.take k).length≤6000:=by rw[Anp,a1.o];omega
      unfold Hm.weights;rw[Am4,An2,Ao2 h8];show Hm.cnt (s.data.toList.take k) (s[k]'d).toNat≤6000;omega
     have ba:s.data.toList[k]'aI=s[k]'d:=rfl;have HS:=hr.set (s[k]'d).toNat ((Hm.weights (s.data.toList.take k)).getD (s[k]'d).toNat 0+1);have e1:(Hm.weights (s.data.toList.take k)).set (s[k]'d).toNat ((Hm.weights (s.data.toList.take k)).getD (s[k]'d).toNat 0+1)=Hm.weights (s.data.toList.take (k+1)):=by
      rw[S7 _ _ aI,ba];congr 2;unfold Hm.weights;rw[Am4,An2,Ao2 h8];rfl
     rw[e1]at HS;have H2:Hid (AR _ b1 (Hm.weights (s.data.toList.take (k+1)))):=HS;generalize(Hm.weights (s.data.toList.take k)).getD (s[k]'d).toNat 0=old at*;have b6:((s[k]'d).toNat:Int)<256:=by omega
     clear HS hr e1 ba aI;go_wp2;go_roundw
     case rel=>exact⟨k+1,by omega,by go_num,by simpa using H2.o,m.setCell (.inr rfl) _⟩
     case measure=>simp[intOf];omega
    ·obtain rfl:s.size=k:=by omega
     have N:decide ((s.size:Int)<(s.size:Int))=false:=Anc (by omega);have eT:s.data.toList.take s.size=s.data.toList:=by rw[←a1.o,Aof]
     rw[eT]at hr;obtain⟨W2,rfl⟩: ∃X,X=wr:=⟨_,rfl⟩;have Q:Aside (AR W2 b1 (Hm.weights s.data.toList)∧AR W2 b2 (List.range 256)∧AR W2 b3 (List.replicate 256 0)∧AR W2 w.heap.size (List.replicate 256 0)∧Ara w W2):=by
      have:=HB.o;have h3:AR W1 b3 (List.replicate 256 0):=HW.o.2.2.2.1.kept ai.o.2 (fun e=>n3 e.symm);have h0:AR W1 w.heap.size (List.replicate 256 0):=HW.o.1.kept ai.o.2 (fun e=>by omega);refine⟨hr,ai.o.1.kept m (fun e=>n1 e.symm),h3.kept m (fun e=>n2 e.symm),h0.kept m (fun e=>by omega),?_⟩;exact(HW.o.2.2.2.2.trans ai.o.2 (fun j h1 h2=>by omega)).trans m (fun j h1 h2=>by omega)
     clear hr m eT ai HW hk d;have HT:Aside (s.data.toList.length≤6000):=by show _≤_;rw[a1.o];exact hs
     go_wp2_with fail
     go_loopg [8] ((Aj s.data.toList 256).length) (fun g1 vf wx=> ∃(r:Nat) (wt inn:Ard),vf= .bool (decide (r=0))∧(r=0∨r<(Aj s.data.toList 256).length)∧r+g1=(Aj s.data.toList 256).length∧Hid (Hm.Sim (Bc s.data.toList r).1 wt inn)∧Aside (AR wx b1 wt∧AR wx b2 inn∧AR wx b3 (Bc s.data.toList r).2)∧Aa (fun j=>j=b1∨j=b2∨j=b3) W2 wx)
     case atStart=>exact⟨0,Hm.weights s.data.toList,List.range 256,rfl,.inl rfl,by omega,Af7 _,⟨Q.o.1,Q.o.2.1,Q.o.2.2.1⟩,Aa.refl _ _⟩
     case round=>
      obtain⟨r,wt,inn,rfl,a5,br,G,HA,m⟩:=hrel;have b7:Aside (b1<W2.heap.size∧b2<W2.heap.size∧b3<W2.heap.size):=⟨Q.o.1.lt,Q.o.2.1.lt,Q.o.2.2.1.lt⟩;have L:=G.o.lw;have a3:=G.o.li;have P:=Rq s.data.toList HT.o r a5;have ak:=G.o.le P;have O: ∀x∈wt,x≤100000:=fun x hx=>by have:=ak x hx;omega
      have y:=fun W=>Pg wt (-1) W L O (by omega) (by omega);have I:(Ad wt).toArray.size=256:=by rw[Bm,L]
      have z:wr.heap[b1]?=some (.cells (Ad wt).toArray 94 (0,0)):=HA.o.1
      by_cases bA:2≤gk
      ·have a6:r<(Aj s.data.toList 256).length:=by omega
       obtain⟨aQ,hw,bd⟩:=Md s.data.toList r a6;have bb:2≤(Bc s.data.toList r).1.length:=by omega
       have aL:=Eh (Bc s.data.toList r).1 (by omega);have aP:(Bp (Ar (Bc s.data.toList r).1::Ar (Hm.left (Bc s.data.toList r).1)::Hm.left (Hm.left (Bc s.data.toList r).1))).Nodup:=(hw.perm (O0 _ (by omega))).nd;have a2:=G.o.perm (O0 _ (by omega));have ao:=G.o.first (by omega);have Z:=(G.o.perm (I5 _ (by omega))).second ((hw.perm (I5 _ (by omega))).nd);rw[if_pos (by omega)]at Z;have a9:=Kk aP (a2.name _ Anl) Anl (a2.name _ (Anr _ Anl));have A:=fun W=>Pg wt ((Ar (Bc s.data.toList r).1).2.1.toNat:Int) W L O (by omega) (by have:=(Ar (Bc s.data.toList r).1).2.1.toNat_lt;omega);rw[ao]at y;rw[Z]at A;obtain⟨X,hX⟩: ∃X,X=Ar (Bc s.data.toList r).1:=⟨_,rfl⟩;obtain⟨Y,hY⟩: ∃Y,Y=Ar (Hm.left (Bc s.data.toList r).1):=⟨_,rfl⟩;have aD:Aside (X=Ar (Bc s.data.toList r).1∧Y=Ar (Hm.left (Bc s.data.toList r).1)∧Hm.Sim (X::Y::Hm.left (Hm.left (Bc s.data.toList r).1)) wt inn∧(Bp (X::Y::Hm.left (Hm.left (Bc s.data.toList r).1))).Nodup∧Mo (Bc s.data.toList r).1 (Bc s.data.toList r).2∧(Bp (Bc s.data.toList r).1).Perm (Bp (Aj s.data.toList 256))):=by
        rw[hX,hY];exact⟨rfl,rfl,a2,aP,hw,bd⟩
       rw[←hX]at y A a9;rw[←hY]at A a9;have bm:=X.2.1.toNat_lt;have bo:=Y.2.1.toNat_lt;have HC:Aside (wt.length=256∧inn.length=256∧ ∀x∈wt,x≤6000):=⟨L,a3,ak⟩;clear ao Z a2 aP hw bd aQ aL bb hX hY ak O L a3 P G;obtain⟨xa,U⟩: ∃n,n=X.2.1.toNat:=⟨_,rfl⟩;obtain⟨yb,aR⟩: ∃n,n=Y.2.1.toNat:=⟨_,rfl⟩;have aY:Aside (xa=X.2.1.toNat∧yb=Y.2.1.toNat):=⟨U,aR⟩;rw[←U]at y A a9 bm;rw[←aR]at A a9 bo;rw[show Pf (some xa)=(xa:Int)from rfl]at y;rw[show Pf (some yb)=(yb:Int)from rfl]at A;clear U aR;obtain⟨arr,H⟩: ∃a,a=(Ad wt).toArray:=⟨_,rfl⟩;rw[←H]at y A I z;have aA:Aside (arr=(Ad wt).toArray):=H;clear H;have bu:decide (0≤(xa:Int))=true:=Ana (by omega);have bH:decide ((yb:Int)<0)=false:=Anc (by omega);obtain⟨W3,rfl⟩: ∃V,V=wr:=⟨_,rfl⟩
       go_wp2_with(first
        |(refine Aoh rfl 94 _ rfl b1 rfl 94 arr (0,0) _ z underlying94 rfl (by rw[I];exact Eg) ?_))
       refine(y _).mono ?_;rintro e W4 ⟨rfl,E⟩;have J:=E.row z id
       go_wp2_with(first
        |(refine Aoh rfl 94 _ rfl b1 rfl 94 arr (0,0) _ J underlying94 rfl (by rw[I];exact Eg) ?_))
       refine(A _).mono ?_;rintro e W5 ⟨rfl,aq⟩;have S:Ara W3 W5:=E.trans aq (fun _ _ h=>h);have a0:Aside (AR W5 b1 wt∧AR W5 b2 inn∧AR W5 b3 (Bc s.data.toList r).2∧Aa (fun j=>j=b1∨j=b2∨j=b3) W2 W5):=
        ⟨HA.o.1.kept S id,HA.o.2.1.kept S id,HA.o.2.2.kept S id,m.trans S (fun _ _ h=>h.elim)⟩
       clear y A z J E aq S HA m;go_upto_if 55 with fail
       go_cut[11,12]from 34 to 95 (fun vx vy wx=>vx= .int .i64 ((min xa yb:Nat):Int)∧vy= .int .i64 ((max xa yb:Nat):Int)∧W5=wx)
       case first=>
        by_cases d:yb<xa
        ·have hd:decide ((yb:Int)<(xa:Int))=true:=Ana (by omega);have bp:decide (yb<xa)=true:=Ana d;go_wp2_with fail;go_meet
         case rel=>exact⟨by congr 1;omega,by congr 1;omega,rfl⟩
        ·have hd:decide ((yb:Int)<(xa:Int))=false:=Anc (by omega);have bp:decide (yb<xa)=false:=Anc d;go_wp2_with fail;go_meet
         case rel=>exact⟨by congr 1;omega,by congr 1;omega,rfl⟩
       case rest=>
        obtain⟨rfl,rfl,rfl⟩:=hcut;obtain⟨mn,aM⟩: ∃n,n=min xa yb:=⟨_,rfl⟩;obtain⟨mx,aN⟩: ∃n,n=max xa yb:=⟨_,rfl⟩;rw[←aM,←aN];have bD:mn<mx:=by omega
        have bC:mx<256:=by omega
        have aW:Aside (mn=min xa yb∧mx=max xa yb):=⟨aM,aN⟩;clear aM aN;have ad:Aside (∀c,c<256→(inn.getD c 0=mn∨inn.getD c 0=mx)→Lm s.data.toList c=true∧(Bc s.data.toList r).2.getD c 0≤17):=by
         intro c hc hh;obtain⟨q1,q2,q3,q4,q5,q6⟩:=aD.o;obtain⟨p1,p2⟩:=aY.o;obtain⟨o1,o2⟩:=aW.o;have aG:(UInt8.ofNat c).toNat=c:=by rw[Aoa];omega
         have L:=(q3.either q4 (UInt8.ofNat c)).1 (by rw[aG,←p1,←p2];omega);have bc:UInt8.ofNat c∈Bp (Bc s.data.toList r).1:=by
          have hp:=(O0 (Bc s.data.toList r).1 (by have:=(Md s.data.toList r a6).1;omega)).flatMap_right (fun g:Hm.Grp=>g.2.2);refine hp.mem_iff.2 ?_;rw[←q1,←q2,Aoe,Aoe,←An4];exact Ap0 _ L
         refine⟨Akf ((U4 s.data.toList _).1 (q6.mem_iff.1 bc)) aG,?_⟩;obtain⟨g,hg,hb⟩:=List.mem_flatMap.1 bc;have hf:=q5.f1 g hg _ hb;rw[Hm.ln,aG]at hf;refine Zp _ (Ant hf ?_);have bq:=Rq s.data.toList HT.o r a5;obtain⟨j,hj,rfl⟩:=Aog hg;have h1:=Kv _ j hj;have h2:=bq.w;rw[Am4,Am5 hj]at h1;simp only[Aps]at h1;omega
        have b4:(mx:Int)<256:=by omega
        go_wp2_with fail
        go_loopw[13] (fun i wx=> ∃c:Nat,c≤256∧i= .int .i64 c∧AR wx b2 (Kl inn mn mx c)∧AR wx b3 (Jg inn (Bc s.data.toList r).2 mn mx c)∧Aa (fun j=>j=b2∨j=b3) W5 wx) (fun i _=>256-(intOf i).toNat)
        case atStart=>exact⟨0,by omega,rfl,by rw[Akc _ _ _ HC.o.2.1];exact a0.o.2.1,by rw[Ait _ _ _ _ aD.o.2.2.2.2.1.len];exact a0.o.2.2.1,Aa.refl _ _⟩
        case round=>
         obtain⟨c,hc,rfl,D,B,m⟩:=hrel
         by_cases d:c<256
         ·have N:decide ((c:Int)<256)=true:=Ana (by omega);have b8:(c:Int)<256:=by omega
          have ci:=D.cell (i:=c) (by rw[G7];exact d);rw[Km _ _ _ _ _ d,if_neg (by omega)]at ci
          by_cases h1:inn.getD c 0=mn
          ·have F:inn.getD c 0=mn∨inn.getD c 0=mx:= .inl h1;have T:=(ad.o c d F).1;have au:=(ad.o c d F).2;have ab:=fun V=>Sg s c V hs d;rw[T]at ab;have co:=B.cell (i:=c) (by rw[F4];exact d);rw[Ie _ _ _ _ _ _ d,if_neg (by omega)]at co;have fo:=B.free c;have fi:=D.free c;have e2:=Aeb inn mn mx c d F;have e3:=Aae inn (Bc s.data.toList r).2 mn mx c d F;have C:=(B.set c ((Bc s.data.toList r).2.getD c 0+1)).other c (.int .i64 (mn:Nat)) (h:=b2) (fun e=>n3 e.symm);have K:=(D.other c (.int .i64 (((Bc s.data.toList r).2.getD c 0+1:Nat):Int)) (h:=b3) n3).set c mn;rw[←e3]at C;rw[←e2]at K;obtain⟨l,hl⟩: ∃l,l=(Bc s.data.toList r).2.getD c 0:=⟨_,rfl⟩;rw[←hl]at co K C au;have ci2:(wr.setCell ⟨b3,c,none⟩ (.int .i64 ((l:Int)+1))).cell? ⟨b2,c,none⟩=some (.int .i64 (inn.getD c 0:Nat)):=by
            rw[Apo _ _ _ _ (by intro e';simp only[Addr.mk.injEq]at e';exact n3 e'.1.symm)];exact ci
           have HS:Aside (AR ((wr.setCell ⟨b3,c,none⟩ (.int .i64 ((l:Int)+1))).setCell ⟨b2,c,none⟩ (.int .i64 (mn:Nat))) b2 (Kl inn mn mx (c+1))∧AR ((wr.setCell ⟨b3,c,none⟩ (.int .i64 ((l:Int)+1))).setCell ⟨b2,c,none⟩ (.int .i64 (mn:Nat))) b3 (Jg inn (Bc s.data.toList r).2 mn mx (c+1))):=by
            rw[show((l+1:Nat):Int)=(l:Int)+1 from by omega]at K C;exact⟨K,C⟩
           clear hl e2 e3 K C T D B;clear F;rw[h1]at ci ci2;have aj:((mn:Int)==(mn:Int))=true:=by simp
           clear h1;go_wp2_with fail;refine(ab _).mono ?_;rintro e W6 ⟨rfl,bs⟩;subst W6;clear ab;go_wp2;go_roundw
           case rel=>exact⟨c+1,by omega,by go_num,HS.o.1,HS.o.2,(m.setCell (.inr (.inr rfl)) _).setCell (.inr (.inl rfl)) _⟩
           case measure=>simp[intOf];omega
          ·by_cases h2:inn.getD c 0=mx
           ·have F:inn.getD c 0=mn∨inn.getD c 0=mx:= .inr h2;have T:=(ad.o c d F).1;have au:=(ad.o c d F).2;have ab:=fun V=>Sg s c V hs d;rw[T]at ab;have co:=B.cell (i:=c) (by rw[F4];exact d);rw[Ie _ _ _ _ _ _ d,if_neg (by omega)]at co;have fo:=B.free c;have fi:=D.free c;have e2:=Aeb inn mn mx c d F;have e3:=Aae inn (Bc s.data.toList r).2 mn mx c d F;have C:=(B.set c ((Bc s.data.toList r).2.getD c 0+1)).other c (.int .i64 (mn:Nat)) (h:=b2) (fun e=>n3 e.symm);have K:=(D.other c (.int .i64 (((Bc s.data.toList r).2.getD c 0+1:Nat):Int)) (h:=b3) n3).set c mn;rw[←e3]at C;rw[←e2]at K;obtain⟨l,hl⟩: ∃l,l=(Bc s.data.toList r).2.getD c 0:=⟨_,rfl⟩;rw[←hl]at co K C au;have ci2:(wr.setCell ⟨b3,c,none⟩ (.int .i64 ((l:Int)+1))).cell? ⟨b2,c,none⟩=some (.int .i64 (inn.getD c 0:Nat)):=by
             rw[Apo _ _ _ _ (by intro e';simp only[Addr.mk.injEq]at e';exact n3 e'.1.symm)];exact ci
            have HS:Aside (AR ((wr.setCell ⟨b3,c,none⟩ (.int .i64 ((l:Int)+1))).setCell ⟨b2,c,none⟩ (.int .i64 (mn:Nat))) b2 (Kl inn mn mx (c+1))∧AR ((wr.setCell ⟨b3,c,none⟩ (.int .i64 ((l:Int)+1))).setCell ⟨b2,c,none⟩ (.int .i64 (mn:Nat))) b3 (Jg inn (Bc s.data.toList r).2 mn mx (c+1))):=by
             rw[show((l+1:Nat):Int)=(l:Int)+1 from by omega]at K C;exact⟨K,C⟩
            clear hl e2 e3 K C T D B;clear F;rw[h2]at ci ci2;have aj:((mx:Int)==(mn:Int))=false:=by simp;omega
            have am:((mx:Int)==(mx:Int))=true:=by simp
            clear h1 h2;go_wp2_with fail;refine(ab _).mono ?_;rintro e W6 ⟨rfl,bs⟩;subst W6;clear ab;go_wp2;go_roundw
            case rel=>exact⟨c+1,by omega,by go_num,HS.o.1,HS.o.2,(m.setCell (.inr (.inr rfl)) _).setCell (.inr (.inl rfl)) _⟩
            case measure=>simp[intOf];omega
           ·have aj:(((inn.getD c 0:Nat):Int)==(mn:Int))=false:=by rw[Aod];omega
            have am:(((inn.getD c 0:Nat):Int)==(mx:Int))=false:=by rw[Aod];omega
            have e2:=Akd inn mn mx c (by omega);have e3:=Aiu inn (Bc s.data.toList r).2 mn mx c (by omega);rw[←e2]at D;rw[←e3]at B;have HS:Aside (AR wr b2 (Kl inn mn mx (c+1))∧AR wr b3 (Jg inn (Bc s.data.toList r).2 mn mx (c+1))):=⟨D,B⟩;clear D B e2 e3 h1 h2;generalize inn.getD c 0=v at*;go_wp2;go_roundw
            case rel=>exact⟨c+1,by omega,by go_num,HS.o.1,HS.o.2,m⟩
            case measure=>simp[intOf];omega
         ·have an:c=256:=by omega
          have N:decide ((c:Int)<256)=false:=Anc (by omega);rw[an]at D B;have M:=a0.o.1.kept m (fun e=>by rcases e with e|e<;>omega);have cx:=M.cell (i:=mn) (by rw[HC.o.1];omega);have cy:=M.cell (i:=mx) (by rw[HC.o.1];omega);have fx:=M.free mn;have fy:=M.free mx;have lx:wt.getD mn 0≤6000:=HC.o.2.2 _ (by rw[Am4,Am5 (show mn<wt.length by rw[HC.o.1];omega)];exact Anm _);have ly:wt.getD mx 0≤6000:=HC.o.2.2 _ (by rw[Am4,Am5 (show mx<wt.length by rw[HC.o.1];omega)];exact Anm _);have aE:=(M.set mn (wt.getD mn 0+wt.getD mx 0)).set mx 0;have cy2:(wr.setCell ⟨b1,mn,none⟩ (.int .i64 (((wt.getD mn 0:Nat):Int)+((wt.getD mx 0:Nat):Int)))).cell? ⟨b1,mx,none⟩=some (.int .i64 (wt.getD mx 0:Nat)):=by
           rw[Apo _ _ _ _ (by intro e';simp only[Addr.mk.injEq]at e';omega)];exact cy
          rw[show((wt.getD mn 0+wt.getD mx 0:Nat):Int)=((wt.getD mn 0:Nat):Int)+((wt.getD mx 0:Nat):Int)from by omega]at aE;have HF:Aside (Hm.Sim (Bc s.data.toList (r+1)).1 (Nr wt mn mx) (Kl inn mn mx 256)∧Jg inn (Bc s.data.toList r).2 mn mx 256=(Bc s.data.toList (r+1)).2):=by
           obtain⟨q1,q2,q3,q4,q5,q6⟩:=aD.o;obtain⟨p1,p2⟩:=aY.o;obtain⟨o1,o2⟩:=aW.o;rw[Al2 _ _ _ HC.o.2.1,o1,o2,p1,p2];refine⟨(q3.merge q4).perm ?_,?_⟩
           ·show(Ez X Y::Hm.left (Hm.left (Bc s.data.toList r).1)).Perm (Hm.left (Hm.left (Bc s.data.toList r).1)++[Ez (Ar (Bc s.data.toList r).1) (Ar (Hm.left (Bc s.data.toList r).1))]);rw[←q1,←q2];exact(List.perm_append_singleton _ _).symm
           ·rw[Ake q3 q4 q5.len];show _=Hm.bump (Bc s.data.toList r).2 (Ez (Ar (Bc s.data.toList r).1) (Ar (Hm.left (Bc s.data.toList r).1))).2.2;rw[←q1,←q2]
          have HG:Aside (AR wr b2 (Kl inn mn mx 256)∧AR wr b3 (Bc s.data.toList (r+1)).2∧Aa (fun j=>j=b2∨j=b3) W5 wr):=⟨D,by rw[←HF.o.2];exact B,m⟩;obtain⟨vx,a7⟩: ∃n,n=wt.getD mn 0:=⟨_,rfl⟩;obtain⟨vy,a8⟩: ∃n,n=wt.getD mx 0:=⟨_,rfl⟩;rw[←a7]at cx lx;rw[←a8]at cy ly;rw[←a7,←a8]at cy2;have bi:Aside (AR ((wr.setCell ⟨b1,mn,none⟩ (.int .i64 ((vx:Int)+(vy:Int)))).setCell ⟨b1,mx,none⟩ (.int .i64 0)) b1 (Nr wt mn mx)):=by
           unfold Nr;rw[a7,a8];exact aE
          have b0:(mn:Int)<256:=by omega
          clear aE D B m M a7 a8 an;go_wp2_with fail
          go_region
          go_wp2
          go_roundg (gk-1)
          case measure=>omega
          case rel=>
           refine⟨r+1,Nr wt mn mx,Kl inn mn mx 256,by simp,.inr (by omega),by omega,HF.o.1,⟨bi.o,?_,?_⟩,?_⟩
           ·exact(HG.o.1.other _ _ (fun e=>n1 e.symm)).other _ _ (fun e=>n1 e.symm)
           ·exact(HG.o.2.1.other _ _ (fun e=>n2 e.symm)).other _ _ (fun e=>n2 e.symm)
           ·exact((((a0.o.2.2.2).trans HG.o.2.2 (fun _ _ h=> .inr h)).setCell (.inr (.inl rfl)) _).setCell (.inr (.inl rfl)) _).drew
      ·have ah:AR wr w.heap.size (List.replicate 256 0):=Q.o.2.2.2.1.kept m (fun e=>by have:=HB.o;omega);have a4:Ara w wr:=Q.o.2.2.2.2.trans m (fun j h1 h2=>by have:=HB.o;omega);have af:(Bc s.data.toList r).2.length=256:=by
        rcases a5 with e|e
        ·rw[e];exact Ani
        ·exact(Md s.data.toList r e).2.1.len
       obtain⟨arr,H⟩: ∃a,a=(Ad wt).toArray:=⟨_,rfl⟩;rw[←H]at y I z;have aA:Aside (arr=(Ad wt).toArray):=H;clear H
       by_cases b9:gk=0
       ·have ag:r=0:=by omega
        have aO:(Aj s.data.toList 256).length=0:=by omega
        have av:Cg wt (-1) 256=none:=by
         cases hL:Cg wt (-1) 256 with
         |none=>rfl
         |some j=>
          exfalso;have h1:=((Mc wt (-1) 256).1 j hL).2.1;have h2:=G.o.wo j (fun g hg=>by
           rw[ag]at hg;have:Aj s.data.toList 256=[]:=Aob aO
           change g∈Aj s.data.toList 256 at hg
           rw[this]at hg;simp at hg)
          omega
        rw[av,show Pf none= -1 from rfl]at y;have al:Aside (Hm.lens s.data.toList=(Bc s.data.toList r).2):=by
         show _=_;unfold Hm.lens;simp only;rw[if_neg (by omega),aO,ag];rfl
        have aZ:decide (r=0)=true:=Ana ag;clear ag av aO ak O P L a3 G
        go_wp2_with(first
         |(refine Aoh rfl 94 _ rfl b1 rfl 94 arr (0,0) _ z underlying94 rfl (by rw[I];exact Eg) ?_))
        refine(y _).mono ?_;rintro e W4 ⟨rfl,E⟩;have u:AR W4 b3 (Bc s.data.toList r).2:=HA.o.2.2.kept E id;have t:AR W4 w.heap.size (List.replicate 256 0):=ah.kept E id;have q:Ara w W4:=a4.trans E (fun _ _ h=>h);clear y z E HA m ah a4;obtain⟨TT,R⟩: ∃a,a=(Ad (Bc s.data.toList r).2).toArray:=⟨_,rfl⟩;have f:Aside (TT=(Ad (Bc s.data.toList r).2).toArray∧TT.size=256∧TT.all (·.oneCell')=true∧W4.heap[b3]?=some (.cells TT 94 (0,0))∧W4.heap[w.heap.size]?=some (.cells Tryz.zeroCells94 94 (0,0))∧Ara w W4∧Tryz.zeroCells94.size=256):=by
         rw[R];exact⟨rfl,by rw[Bm,af],Fv _,u,by rw[HZ.o];exact t,q,by rw[HZ.o,Bm,Ani]⟩
        clear R u t q
        go_wp2_with(first
         |(refine Aoh rfl 94 _ rfl b3 rfl 94 TT (0,0) _ f.o.2.2.2.1 underlying94 rfl (by rw[f.o.2.1];exact Eg) ?_)
         |(refine wpList_store_row _ rfl 94 _ _ rfl w.heap.size 94 Tryz.zeroCells94 TT rfl rfl f.o.2.2.2.2.1 (by rw[f.o.2.1];exact Eg) (by rw[f.o.2.1];exact f.o.2.2.2.2.2.2) f.o.2.2.1 ?_;intro w9 ax ar))
        refine Aok (v:= .agg TT) (Ao0 results44 _ w9 w.heap.size 94 _ (0,0) _ rfl ax underlying94 rfl (by rw[f.o.2.1];exact Eg)) rfl ⟨by rw[f.o.1,al.o],?_⟩;exact f.o.2.2.2.2.2.1.trans ar (fun j h1 h2=>by omega)
       ·have bx:gk=1:=by omega
        have a6:r<(Aj s.data.toList 256).length:=by omega
        obtain⟨aQ,hw,_⟩:=Md s.data.toList r a6;have bb:(Bc s.data.toList r).1.length=1:=by omega
        have aL:=Eh (Bc s.data.toList r).1 (by omega);have ao:=G.o.first (by omega);have Z:=(G.o.perm (I5 _ (by omega))).second ((hw.perm (I5 _ (by omega))).nd);rw[if_neg (by omega)]at Z;have A:=fun W=>Pg wt ((Ar (Bc s.data.toList r).1).2.1.toNat:Int) W L O (by omega) (by have:=(Ar (Bc s.data.toList r).1).2.1.toNat_lt;omega);rw[ao]at y;rw[Z,←aA.o,show Pf none= -1 from rfl]at A;obtain⟨xa,U⟩: ∃n,n=(Ar (Bc s.data.toList r).1).2.1.toNat:=⟨_,rfl⟩;have bt:xa<256:=by rw[U];exact UInt8.toNat_lt _
        have bj:Aside (xa=(Ar (Bc s.data.toList r).1).2.1.toNat):=U;rw[←U]at y A;rw[show Pf (some xa)=(xa:Int)from rfl]at y;have bu:decide (0≤(xa:Int))=true:=Ana (by omega);have bG:(xa:Int)<256:=by omega
        clear U ao Z ak O P L a3;have aX:Aside ((Aj s.data.toList 256).length=r+1):=by show _=_;omega
        go_wp2_with(first
         |(refine Aoh rfl 94 _ rfl b1 rfl 94 arr (0,0) _ z underlying94 rfl (by rw[I];exact Eg) ?_))
        refine(y _).mono ?_;rintro e W4 ⟨rfl,E⟩;have J:=E.row z id
        go_wp2_with(first
         |(refine Aoh rfl 94 _ rfl b1 rfl 94 arr (0,0) _ J underlying94 rfl (by rw[I];exact Eg) ?_))
        refine(A _).mono ?_;rintro e W5 ⟨rfl,aq⟩;have ae:Ara wr W5:=E.trans aq (fun _ _ h=>h);have h3:AR W5 b3 (Bc s.data.toList r).2:=HA.o.2.2.kept ae id;have h0:AR W5 w.heap.size (List.replicate 256 0):=ah.kept ae id;have aa:Ara w W5:=a4.trans ae (fun _ _ h=>h);have n0:w.heap.size≠b3:=by have:=HB.o;omega
        clear y A z J E aq ae HA m ah a4 br a5 aQ aL
        by_cases aw:r=0
        ·have al:Aside (Hm.lens s.data.toList=(Bc s.data.toList r).2.set xa 1):=by
          show _=_;have e1:(Aj s.data.toList 256).length=1:=by have:=aX.o;omega
          unfold Hm.lens;simp only;rw[if_pos e1,bj.o,aw];have e2:Ar (Bc s.data.toList 0).1=(Aj s.data.toList 256).getD 0 (0,0,[]):=by
           show(Aj s.data.toList 256).getD (Hm.first (Aj s.data.toList 256)) (0,0,[])=_;have:=Gw (Aj s.data.toList 256) (by omega);rw[show Hm.first (Aj s.data.toList 256)=0 from by omega]
          rw[e2];rfl
         have co:=h3.cell (i:=xa) (by rw[af];exact bt);have fo:=h3.free xa;have C:=h3.set xa 1;have aK:((Bc s.data.toList r).2.set xa 1).length=256:=by rw[Aou];exact af
         have u:AR (W5.setCell ⟨b3,xa,none⟩ (.int .i64 1)) b3 ((Bc s.data.toList r).2.set xa 1):=C;have t:AR (W5.setCell ⟨b3,xa,none⟩ (.int .i64 1)) w.heap.size (List.replicate 256 0):=h0.other xa (.int .i64 1) n0;have q:Ara w (W5.setCell ⟨b3,xa,none⟩ (.int .i64 1)):=aa.setCell (p:=⟨b3,xa,none⟩) (.inl (by have:=HB.o;show _≤b3;omega)) _;generalize(Bc s.data.toList r).2.getD xa 0=old at co;have aZ:decide (r=0)=true:=Ana aw;clear h3 h0 aa C aw;obtain⟨TT,R⟩: ∃a,a=(Ad ((Bc s.data.toList r).2.set xa 1)).toArray:=⟨_,rfl⟩;have f:Aside (TT=(Ad ((Bc s.data.toList r).2.set xa 1)).toArray∧TT.size=256∧TT.all (·.oneCell')=true∧(W5.setCell ⟨b3,xa,none⟩ (.int .i64 1)).heap[b3]?=some (.cells TT 94 (0,0))∧(W5.setCell ⟨b3,xa,none⟩ (.int .i64 1)).heap[w.heap.size]?=some (.cells Tryz.zeroCells94 94 (0,0))∧Ara w (W5.setCell ⟨b3,xa,none⟩ (.int .i64 1))∧Tryz.zeroCells94.size=256):=by
          rw[R];exact⟨rfl,by rw[Bm,aK],Fv _,u,by rw[HZ.o];exact t,q,by rw[HZ.o,Bm,Ani]⟩
         clear R u t q
         go_wp2_with(first
          |(refine Aoh rfl 94 _ rfl b3 rfl 94 TT (0,0) _ f.o.2.2.2.1 underlying94 rfl (by rw[f.o.2.1];exact Eg) ?_)
          |(refine wpList_store_row _ rfl 94 _ _ rfl w.heap.size 94 Tryz.zeroCells94 TT rfl rfl f.o.2.2.2.2.1 (by rw[f.o.2.1];exact Eg) (by rw[f.o.2.1];exact f.o.2.2.2.2.2.2) f.o.2.2.1 ?_;intro w9 ax ar))
         refine Aok (v:= .agg TT) (Ao0 results44 _ w9 w.heap.size 94 _ (0,0) _ rfl ax underlying94 rfl (by rw[f.o.2.1];exact Eg)) rfl ⟨by rw[f.o.1,al.o],?_⟩;exact f.o.2.2.2.2.2.1.trans ar (fun j h1 h2=>by omega)
        ·have al:Aside (Hm.lens s.data.toList=(Bc s.data.toList r).2):=by
          show _=_;have e1:(Aj s.data.toList 256).length=r+1:=aX.o;unfold Hm.lens;simp only;rw[if_neg (by omega),e1,Ap1];rfl
         have u:=h3;have t:=h0;have q:=aa;have aZ:decide (r=0)=false:=Anc aw;clear h3 h0 aa aw;obtain⟨TT,R⟩: ∃a,a=(Ad (Bc s.data.toList r).2).toArray:=⟨_,rfl⟩;have f:Aside (TT=(Ad (Bc s.data.toList r).2).toArray∧TT.size=256∧TT.all (·.oneCell')=true∧W5.heap[b3]?=some (.cells TT 94 (0,0))∧W5.heap[w.heap.size]?=some (.cells Tryz.zeroCells94 94 (0,0))∧Ara w W5∧Tryz.zeroCells94.size=256):=by
          rw[R];exact⟨rfl,by rw[Bm,af],Fv _,u,by rw[HZ.o];exact t,q,by rw[HZ.o,Bm,Ani]⟩
         clear R u t q
         go_wp2_with(first
          |(refine Aoh rfl 94 _ rfl b3 rfl 94 TT (0,0) _ f.o.2.2.2.1 underlying94 rfl (by rw[f.o.2.1];exact Eg) ?_)
          |(refine wpList_store_row _ rfl 94 _ _ rfl w.heap.size 94 Tryz.zeroCells94 TT rfl rfl f.o.2.2.2.2.1 (by rw[f.o.2.1];exact Eg) (by rw[f.o.2.1];exact f.o.2.2.2.2.2.2) f.o.2.2.1 ?_;intro w9 ax ar))
         refine Aok (v:= .agg TT) (Ao0 results44 _ w9 w.heap.size 94 _ (0,0) _ rfl ax underlying94 rfl (by rw[f.o.2.1];exact Eg)) rfl ⟨by rw[f.o.1,al.o],?_⟩;exact f.o.2.2.2.2.2.1.trans ar (fun j h1 h2=>by omega)
namespace Hm
def Fb:List Bool→Option (List Bool)
 |[]=>none
 |false::t=>some (true::t)
 |true::t=>(Fb t).map (false:: ·)
theorem Ph(x k:Nat):Aw x (k+1)=decide (x%2=1)::Aw (x/2) k:=by
 unfold Aw;rw[List.range_succ_eq_map,Aos,List.map_map];refine List.cons_eq_cons.2 ⟨by simp,?_⟩;refine Aqe fun i _=>?_;simp only[Function.comp,Nat.succ_eq_add_one];rw[Aoz,Aqh,Aqt]
theorem Wa: ∀(l c:Nat),c<2^l→Fb (Aw c l)=if c+1<2^l then some (Aw (c+1) l)else none
 |0,c,h=>by
  have:c=0:=by simpa using h
  subst this;rfl
 |l+1,c,h=>by
  have ih:=Wa l (c/2) (by rw[Aoz]at h;omega);rw[Ph,Ph (c+1)];have a:2^(l+1)=2^l*2:=Aoz ..
  by_cases e:c%2=1
  ·have e1:decide (c%2=1)=true:=Ana e;have e2:decide ((c+1)%2=1)=false:=Anc (by omega);rw[e1,e2,Fb,ih,show(c+1)/2=c/2+1 from by omega]
   by_cases k:c/2+1<2^l
   ·rw[if_pos k,if_pos (by omega)];rfl
   ·rw[if_neg k,if_neg (by omega)];rfl
  ·have e1:decide (c%2=1)=false:=Anc e;have e2:decide ((c+1)%2=1)=true:=Ana (by omega);rw[e1,e2,Fb,show(c+1)/2=c/2 from by omega,if_pos (by omega)]
def Ep(R:List Bool)(k:Nat):List Bool:=List.replicate k false++R.drop k
theorem Aec(R:List Bool)(k:Nat)(h:k≤R.length):(Ep R k).length=R.length:=by simp[Ep];omega
theorem Akg(R:List Bool)(k:Nat)(h:k<R.length)(h2:k<(Ep R k).length):(Ep R k)[k]=R[k]:=by
 have e:(Ep R k)[k]?=some R[k]:=by
  unfold Ep;rw[Ans (by simp),Ani,Aoy,Aqz,Ap3,Am5 h]
 rw[Am5 h2]at e;exact An0 e
theorem Aiv(R:List Bool)(k:Nat)(h:k<R.length):Ep R (k+1)=(Ep R k).set k false:=by
 unfold Ep;have a:(List.replicate k false).length=k:=by simp
 rw[Aot _ _ (by omega),a,Aoy,An7 h,Aq1,An4];rfl
theorem Aiw(R:List Bool)(k:Nat)(h:k<R.length)(a:R[k]=true)(hi:Fb R=(Fb (R.drop k)).map (List.replicate k false++ ·)):Fb R=(Fb (R.drop (k+1))).map (List.replicate (k+1) false++ ·):=by
 rw[hi,An7 h,a,Fb,Option.map_map];congr 1;funext l;simp[List.replicate_succ']
theorem Al3(R:List Bool)(k:Nat)(h:k<R.length)(a:R[k]=false)(hi:Fb R=(Fb (R.drop k)).map (List.replicate k false++ ·)):Fb R=some ((Ep R k).set k true):=by
 rw[hi,An7 h,a,Fb];unfold Ep;have b:(List.replicate k false).length=k:=by simp
 rw[Aot _ _ (by omega),b,Aoy,An7 h];rfl
theorem Agu(l:List Bool)(k:Nat)(h:k<l.length)(b:Bool):(l.set k b).reverse=l.reverse.set (l.length-1-k) b:=by
 apply Aon
 ·simp
 ·intro i h1 h2;have hi:i<l.length:=by simpa using h2
  rw[List.getElem_reverse,Aql,Aql,List.getElem_reverse];simp only[Aou]
  by_cases e:k=l.length-1-i
  ·rw[if_pos e,if_pos (by omega)]
  ·rw[if_neg e,if_neg (by omega)]
end Hm
def Jx(w:World)(g:Nat)(l:Arc):Prop:=g<w.heap.size∧ ∀j,(h:j<l.length)→w.cell? ⟨g,j,none⟩=some (.int .u8 (l[j].toNat:Nat))∧w.frozen? ⟨g,j,none⟩=false
theorem Jx.set{w:World}{g:Nat}{l:Arc}(h:Jx w g l)(i:Nat)(hi:i<l.length)(x:UInt8):Jx (w.setCell ⟨g,i,none⟩ (.int .u8 (x.toNat:Nat))) g (l.set i x):=by
 refine⟨by simpa using h.1,fun j b=>⟨?_,by rw[World.frozen?_setCell];exact(h.2 j (by simpa using b)).2⟩⟩;have a:j<l.length:=by simpa using b
 rw[Aql]
 by_cases e:i=j
 ·subst e;rw[if_pos rfl];exact World.cell?_setCell_same _ _ _ (h.2 i hi).1
 ·rw[if_neg e,Apo _ _ _ _ (by intro e';simp only[Addr.mk.injEq]at e';omega)];exact(h.2 j a).1
theorem Jx.back{w:World}{g:Nat}{l:Arc}(h:Jx w g l)(c:Nat):(convert 79 9 (.slice (some ⟨g,0,none⟩) l.length c)).run prog w= .ok (.string ⟨l.toArray⟩) w:=by
 have d:=run_convert_bytes_arg w _ _ underlying79 underlying5 g 0 l.length c (l.map fun b=>(b.toNat:Int)) (by simp) (fun i hi=>by
  have a:i<l.length:=by simpa using hi
  rw[An3,(h.2 i a).1,Am4,An2,Am5 a];rfl) _ underlying9
 have e:strOfNums (l.map fun b=>(b.toNat:Int))=⟨l.toArray⟩:=by
  unfold strOfNums;rw[List.map_map];have e2:((fun n:Int=>UInt8.ofNat n.toNat)∘fun b:UInt8=>(b.toNat:Int))=id:=by funext b;simp
  rw[e2,List.map_id]
 rw[e]at d;exact d
theorem Jx.made(w:World)(s:ByteArray):Jx (Lib.bytesWorld w 5 s) w.heap.size s.data.toList:=by
 refine⟨by rw[Lib.bytesWorld_size];omega,fun j b=>?_⟩;have a:j<s.size:=by simpa using b
 refine⟨?_,?_⟩
 ·rw[Lib.bytesWorld_cell w 5 s j a,Am4,Am5 b];rfl
 ·unfold World.frozen?;rw[Lib.bytesWorld_at_new];simp[Lib.bytesCells];omega
def In(R:List Bool):Value:=match Fb R with
 |some R'=> .tuple #[.string ⟨(Af R'.reverse).toArray⟩,.bool true]
 |none=> .tuple #[.string ⟨(Af R.reverse).toArray⟩,.bool false]
theorem Vn(R:List Bool)(w:World)(T:R.length≤300):
  Calls prog 88 #[.string ⟨(Af R.reverse).toArray⟩] w fun e w'=>e= .returned (In R)∧Ara w w':=by
 obtain⟨s,hs⟩: ∃s,s=(⟨(Af R.reverse).toArray⟩:ByteArray):=⟨_,rfl⟩;have F:s.size=R.length:=by rw[hs];show(Af R.reverse).toArray.size=_;simp[Af]
 have E:s.data.toList=Af R.reverse:=by rw[hs]
 have C:=fun W=>Lib.run_convert_string_bytes (P:=prog) W 9 79 5 s underlying9 underlying79 underlying5;have m:=Jx.made w s;rw[E]at m;have v:Ara w (Lib.bytesWorld w 5 s):=by
  refine⟨rfl,rfl,rfl,by rw[Lib.bytesWorld_size];omega,fun k hk _=>Lib.bytesWorld_at_old w _ s k hk⟩
 rw[←hs];have h:=C w;rw[F]at h;obtain⟨cp,B⟩: ∃c,c=grownCap w R.length 0 5:=⟨_,rfl⟩;rw[←B]at h;obtain⟨W,L⟩: ∃W,W=Lib.bytesWorld w 5 s:=⟨_,rfl⟩;rw[←L]at m v h;have HS:Aside (s=(⟨(Af R.reverse).toArray⟩:ByteArray)):=hs;clear C hs E B L F
 go_enter func88,ntmps88
 go_wp2_with fail
 go_loopw[5] (fun vi wr=> ∃k:Nat,k≤R.length∧vi= .int .i64 ((R.length:Int)-1-(k:Int))∧Jx wr w.heap.size (Af (Ep R k).reverse)∧Hid (Fb R=(Fb (R.drop k)).map (List.replicate k false++ ·))∧Ara w wr) (fun i _=>(intOf i+1).toNat)
 case atStart=>exact⟨0,Ann _,by simp,m,by show _=_;simp,v⟩
 case round=>
  clear m v h;obtain⟨k,hk,rfl,hb,z,y⟩:=hrel;have a:=Aec R k hk
  by_cases l:k<R.length
  ·obtain⟨j,G⟩: ∃j,j=R.length-1-k:=⟨_,rfl⟩;have zj:(R.length:Int)-1-(k:Int)=(j:Int):=by omega
   have A:(Af (Ep R k).reverse).length=R.length:=by rw[Ff,List.length_reverse,a]
   have f:j<(Af (Ep R k).reverse).length:=by omega
   obtain⟨c1,f1⟩:=hb.2 j f;have d:(Af (Ep R k).reverse)[j]=if R[k]then 49 else 48:=by
    have e1:(Ep R k).reverse[j]'(by rw[List.length_reverse];omega)=R[k]:=by
     rw[List.getElem_reverse];have e2:(Ep R k).length-1-j=k:=by omega
     simp only[e2];exact Akg R k l (by omega)
    have e0:(Af (Ep R k).reverse)[j]?=some (if R[k]then 49 else 48):=by
     show(List.map _ _)[j]?=_;rw[An2,Am5 (by rw[List.length_reverse];omega),e1];rfl
    rw[Am5 f]at e0;exact An0 e0
   rw[d]at c1;have S:(j:Int)<(R.length:Int):=by omega
   have hd:decide (0≤(j:Int))=true:=Ana (by omega);have n:=fun x=>hb.set j f x;rw[zj];cases b:R[k]with
   |false=>
    rw[b,if_neg (by simp)]at c1;have J:Aside (Fb R=some ((Ep R k).set k true)):=Al3 R k l b z.o;have u:=n 49;have e3:(Af (Ep R k).reverse).set j 49=Af ((Ep R k).set k true).reverse:=by
     rw[Agu _ _ (by omega),a,←G,X2]
    rw[e3]at u;have r:(Af ((Ep R k).set k true).reverse).length=R.length:=by rw[Ff,List.length_reverse,Aou,a]
    have g:=u.back cp;rw[r]at g;have D:Ara w (wr.setCell ⟨w.heap.size,j,none⟩ (.int .u8 49)):=y.setCell (p:=⟨w.heap.size,j,none⟩) (.inl (Ane _)) _;have I:Aside _:=D;obtain⟨q,K⟩: ∃q,q=(⟨(Af ((Ep R k).set k true).reverse).toArray⟩:ByteArray):=⟨_,rfl⟩;rw[←K]at g;have Q:Aside (q=(⟨(Af ((Ep R k).set k true).reverse).toArray⟩:ByteArray)):=K;have M:(convert 79 9 (.slice (some ⟨w.heap.size,0,none⟩) R.length cp)).run prog (wr.setCell ⟨w.heap.size,j,none⟩ (.int .u8 49))= .ok (.string q) (wr.setCell ⟨w.heap.size,j,none⟩ (.int .u8 49)):=g;have c2:wr.cell? ⟨w.heap.size,j,none⟩=some (.int .u8 48):=c1;clear u e3 n hb d g D K r A f G a b c1 z;go_wp2;go_ret2;exact⟨by unfold In;rw[J.o];simp only;rw[←Q.o];rfl,I.o⟩
   |true=>
    rw[b,if_pos rfl]at c1;have H:Hid (Fb R=(Fb (R.drop (k+1))).map (List.replicate (k+1) false++ ·)):=Aiw R k l b z.o;have t:=n 48;have e3:(Af (Ep R k).reverse).set j 48=Af (Ep R (k+1)).reverse:=by
     rw[Aiv R k l,Agu _ _ (by omega),a,←G];unfold Af;rw[Ap2];rfl
    rw[e3]at t;have N:Aside (Jx (wr.setCell ⟨w.heap.size,j,none⟩ (.int .u8 48)) w.heap.size (Af (Ep R (k+1)).reverse)):=t;have c2:wr.cell? ⟨w.heap.size,j,none⟩=some (.int .u8 49):=c1;have O:Aside ((R.length:Int)-1-(k:Int)=(j:Int)):=zj;clear t e3 n hb d A f a b c1 z zj G;go_wp2;go_roundw
    case rel=>exact⟨k+1,by omega,by have:=O.o;first|go_num|(congr 1;omega),N.o,H,y.setCell (.inl (Ane _)) _⟩
    case measure=>simp[intOf]
  ·obtain rfl:R.length=k:=by omega
   have zj:(R.length:Int)-1-(R.length:Int)= -1:=by omega
   have J:Aside (Fb R=none):=by
    show _=_;rw[z.o,Apy];rfl
   rw[zj];clear hb a;go_wp2;go_ret2;exact⟨by unfold In;rw[J.o];simp only;rw[←HS.o];rfl,y⟩
theorem Aix(L:Ard)(w:World)(G:L.length=256)(B: ∀x∈L,x≤100000):
  Calls prog 89 #[.agg (Ad L).toArray] w fun e w'=>e= .returned (.bool (decide ((Ai L).length=1)))∧Ara w w':=by
 have j:(w.alloc (.cells (Ad L).toArray 94)).heap[w.heap.size]?=some (.cells (Ad L).toArray 94 (0,0)):=Anj w _;have f: ∀W:World,W.heap[w.heap.size]?=some (.cells (Ad L).toArray 94 (0,0))→ ∀b:Nat,b<256→W.cell? ⟨w.heap.size,b,none⟩=some (.int .i64 (L.getD b 0:Nat)):=by
  intro W H b hb;rw[Am7 _ _ b _ _ _ H];simp[Ad,List.getD_eq_getElem?_getD,List.getElem?_eq_getElem (show b<L.length from by omega)]
 have q: ∀b:Nat,b<256→L.getD b 0≤100000:=fun b hb=>by
  rw[Am4,Am5 (show b<L.length from by omega)];exact B _ (Anm _)
 have C:Aside _:=f;have D:Aside _:=q;have a:=fun b hb=>C.o (w.alloc (.cells (Ad L).toArray 94)) j b hb;have u:Aside _:=a;clear f q B G j a;generalize(Ad L).toArray=arr at*
 go_enter func89,ntmps89
 go_wp2_with fail
 go_loopw[3,4] (fun n i wr=> ∃c:Nat,c≤256∧i= .int .i64 c∧n= .int .i64 ((Bs L c).length:Nat)∧wr=w.alloc (.cells arr 94)) (fun _ i _=>256-(intOf i).toNat)
 case atStart=>exact⟨0,by omega,rfl,rfl,rfl⟩
 case round=>
  obtain⟨c,K,rfl,rfl,g⟩:=hrel;have A:Aside (wr=w.alloc (.cells arr 94)):=g;have r:=Fw L c
  by_cases s:c<256
  ·have p:decide ((c:Int)<256)=true:=Ana (by omega);have I:(c:Int)<256:=by omega
   have v:wr.cell? ⟨w.heap.size,c,none⟩=some (.int .i64 (L.getD c 0:Nat)):=by rw[g];exact u.o c s
   have y:=D.o c s;have l:Aside ((Bs L (c+1)).length=(Bs L c).length+if 0<L.getD c 0 then 1 else 0):=by
    show _=_;rw[Ow,Anf]
    by_cases h:0<L.getD c 0
    ·rw[if_pos h,if_pos h];rfl
    ·rw[if_neg h,if_neg h];rfl
   clear g;obtain⟨m,k⟩: ∃m,m=(Bs L c).length:=⟨_,rfl⟩;rw[←k]at r l;rw[←k];clear k
   by_cases h2:0<L.getD c 0
   ·have J:decide (0<L.getD c 0)=true:=Ana h2;rw[if_pos h2]at l;generalize L.getD c 0=x at*;clear h2;go_wp2;go_roundw
    case rel=>exact⟨c+1,by omega,by go_num,by rw[l.o];go_num,A.o⟩
    case measure=>simp[intOf];omega
   ·have t:L.getD c 0=0:=by omega
    rw[if_neg h2,Ap3]at l;rw[t]at v;clear h2 t y;go_wp2;go_roundw
    case rel=>exact⟨c+1,by omega,by go_num,by rw[l.o];rfl,A.o⟩
    case measure=>simp[intOf];omega
  ·have d:c=256:=by omega
   have p:decide ((c:Int)<256)=false:=Anc (by omega);have F:Aside ((Bs L c).length=(Ai L).length):=by show _=_;rw[d];rfl
   have E:Aside (Ara w wr):=by rw[g];exact(Aa.refl _ _).alloc _
   have z:Aside ((((Bs L c).length:Int)==1)=decide ((Ai L).length=1)):=by
    show _=_;rw[F.o]
    by_cases e:(Ai L).length=1
    ·rw[e];rfl
    ·rw[Anc e,Aod];omega
   clear g d;obtain⟨m,k⟩: ∃m,m=(Bs L c).length:=⟨_,rfl⟩;rw[←k]at r z;rw[←k];clear k;go_wp2;go_ret;exact⟨by rw[←z.o];rfl,E.o⟩
namespace Hm
def pre(h c:Arc):Bool:=decide (h.length≤c.length)&&c.take h.length==h
end Hm
theorem Abj(s h:ByteArray)(w:World)(_hs:s.size≤100000)(_hh:h.size≤100000):
  Calls prog 91 #[.string s,.string h] w fun e w'=>e= .returned (.bool (Hm.pre h.data.toList s.data.toList))∧ ∃q,w'=w.drewN q:=by
 have b:Aside (Hm.pre h.data.toList s.data.toList=(decide (h.size≤s.size)&&(s.extract 0 h.size).toList==h.toList)):=by
  show _=_;unfold Hm.pre;have e1:h.data.toList.length=h.size:=by simp
  have e2:s.data.toList.length=s.size:=by simp
  have e3:(s.extract 0 h.size).toList=s.data.toList.take h.size:=by
   rw[Aor,ByteArray.data_extract,Array.toList_extract,Aqf,Aqp,List.drop_zero]
  rw[e1,e2,e3,Aor]
 by_cases a:h.size≤s.size
 ·have hd:decide ((s.size:Int)≥(h.size:Int))=true:=Ana (by omega);have d:(h.size:Int)≤(s.size:Int):=by omega
  have c:Aside (Hm.pre h.data.toList s.data.toList=((s.extract 0 h.size).toList==h.toList)):=by
   show _=_;rw[b.o,Ana a,Bool.true_and]
  clear b
  go_enter func91,ntmps91
  go_wp2;go_ret;exact⟨by rw[c.o];rfl,0,rfl⟩
 ·have hd:decide ((s.size:Int)≥(h.size:Int))=false:=Anc (by omega);have d: ¬(h.size:Int)≤(s.size:Int):=by omega
  have c:Aside (Hm.pre h.data.toList s.data.toList=false):=by
   show _=_;rw[b.o,Anc a,Bool.false_and]
  clear b
  go_enter func91,ntmps91
  go_wp2;go_ret;exact⟨by rw[c.o];rfl,0,rfl⟩
end Go.Proofs.YtegnkfdbmmndaaaGreat
