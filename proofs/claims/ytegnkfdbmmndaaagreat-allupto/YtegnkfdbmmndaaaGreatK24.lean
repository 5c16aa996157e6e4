import Derived.Test.YtegnkfdbmmndaaaGreatK23

set_option maxHeartbeats 8000000
set_option maxRecDepth 100000
namespace Go.Proofs.YtegnkfdbmmndaaaGreat
open Hm Go.Proofs.Tryz
variable{L:Aeh}{w:World}{g:Nat}{l o:List (List Bool)}{ok:Bool}
section
open Go.RowKit
def Bi(t:Aeg)(r:Nat):List Grp×Aeh:=Bv (Ai t 256) (List.replicate 256 0) r
theorem Np(t:Aeg)(r:Nat)(h:r<(Ai t 256).length):(Bi t r).1.length+r=(Ai t 256).length/\N1 (Bi t r).1 (Bi t r).2/\(Bm (Bi t r).1).Perm (Bm (Ai t 256)):=⟨(Jf t r h).1,(Jf t r h).2.1,(Jf t r h).2.2.1⟩
theorem Tw(t:Aeg)(ht:t.length<=6000): ∀r,(r=0\/r<(Ai t 256).length)->Ms (Bi t r).1
 |0,_=>Qm t ht
 |r+1,h=>by
  have:=(Np t r (by omega)).1;exact(Tw t ht r (by omega)).step (by omega)
theorem Hm.Sim.le{gs:List Grp}{wt inn:Aeh}(h:Sim gs wt inn)(d:Ms gs): ∀x∈wt,x<=6000:=fun x f=>by
 obtain⟨c,b,rfl⟩:=Aa5 f;have e:wt.getD c 0=wt[c]:=by rw[zG,zH b];rfl
 rw[<-e]
 by_cases hn: ∃g∈gs,g.2.1.toNat=c
 ·obtain⟨g,a,rfl⟩:=hn;rw[h.wi g a];obtain⟨i,hi,rfl⟩:=Aa5 a;have h1:=Lw gs i hi;have h2:=d.w;rw[zG,zH hi]at h1;simp only[Ack]at h1;omega
 ·rw[h.wo c (fun g a e=>hn ⟨g,a,e⟩)];omega
theorem dL(s:ByteArray)(w:World)(hs:s.size<=6000):
  Calls prog 44 #[.string s] w fun e w'=>e= .returned (.agg (Ad (lens s.data.toList)).toArray)/\Aee w w':=by
 have aB:Aside (s.data.toList.length=s.size):=by show _=_;simp
 have HZ:=aZ Wi
 go_enter func44,ntmps44
 go_upto_region 4 with fail
 have g0:AR ((((w.alloc (.cells Tryz.zeroCells94 94)).alloc (.cells Tryz.zeroCells94 94)).alloc (.cells Tryz.zeroCells94 94)).alloc (.cells Tryz.zeroCells94 94)) w.heap.size (List.replicate 256 0):=by
  unfold AR;rw[<-HZ.o];exact((((Aa.refl (fun _=>False) (w.alloc (.cells Tryz.zeroCells94 94))).alloc _).alloc _).alloc _).row (zY w _) id
 have g1:AR ((((w.alloc (.cells Tryz.zeroCells94 94)).alloc (.cells Tryz.zeroCells94 94)).alloc (.cells Tryz.zeroCells94 94)).alloc (.cells Tryz.zeroCells94 94)) (w.heap.size+1) (List.replicate 256 0):=by
  unfold AR;rw[<-HZ.o];exact(((Aa.refl (fun _=>False) ((w.alloc (.cells Tryz.zeroCells94 94)).alloc (.cells Tryz.zeroCells94 94))).alloc _).alloc _).row (Ab3 w _ _) id
 have g2:AR ((((w.alloc (.cells Tryz.zeroCells94 94)).alloc (.cells Tryz.zeroCells94 94)).alloc (.cells Tryz.zeroCells94 94)).alloc (.cells Tryz.zeroCells94 94)) (w.heap.size+1+1) (List.replicate 256 0):=by
  unfold AR;rw[<-HZ.o];have:=((Aa.refl (fun _=>False) (((w.alloc (.cells Tryz.zeroCells94 94)).alloc (.cells Tryz.zeroCells94 94)).alloc (.cells Tryz.zeroCells94 94))).alloc (.cells Tryz.zeroCells94 94)).row (zY _ _) id;simpa using this
 have g3:AR ((((w.alloc (.cells Tryz.zeroCells94 94)).alloc (.cells Tryz.zeroCells94 94)).alloc (.cells Tryz.zeroCells94 94)).alloc (.cells Tryz.zeroCells94 94)) (w.heap.size+1+1+1) (List.replicate 256 0):=by
  unfold AR;rw[<-HZ.o];have:=zY (((w.alloc (.cells Tryz.zeroCells94 94)).alloc (.cells Tryz.zeroCells94 94)).alloc (.cells Tryz.zeroCells94 94)) (.cells Tryz.zeroCells94 94);simpa using this
 have ah:Aee w ((((w.alloc (.cells Tryz.zeroCells94 94)).alloc (.cells Tryz.zeroCells94 94)).alloc (.cells Tryz.zeroCells94 94)).alloc (.cells Tryz.zeroCells94 94)):=((((Aa.refl _ _).alloc _).alloc _).alloc _).alloc _;generalize((((w.alloc (.cells Tryz.zeroCells94 94)).alloc (.cells Tryz.zeroCells94 94)).alloc (.cells Tryz.zeroCells94 94)).alloc (.cells Tryz.zeroCells94 94))=W at*;obtain⟨b3,aW⟩: ∃b,b=w.heap.size+1+1+1:=⟨_,rfl⟩;rw[<-aW]at g3|-;obtain⟨b2,aw⟩: ∃b,b=w.heap.size+1+1:=⟨_,rfl⟩;rw[<-aw]at g2|-;obtain⟨b1,ar⟩: ∃b,b=w.heap.size+1:=⟨_,rfl⟩;rw[<-ar]at g1|-;have n1:b1≠b2:=by omega
 have n2:b1≠b3:=by omega
 have n3:b2≠b3:=by omega
 have HB:=aZ (aI ar (aI aw aW));have HW:=aZ (aI g0 (aI g1 (aI g2 (aI g3 ah))));clear ar aw aW g0 g1 g2 g3 ah;go_wp2_with fail
 go_loopw[6] (fun i wr=> ∃k:Nat,k<=256/\i=I k/\AR wr b2 (List.range k++List.replicate (256-k) 0)/\Aa (fun j=>j=b2) W wr) (fun i _=>256-(intOf i).toNat)
 case atStart=>exact⟨0,by omega,rfl,HW.o.2.2.1,Aa.refl _ _⟩
 case round=>
  obtain⟨k,hk,rfl,hr,m⟩:=hrel
  by_cases d:k<256
  ·have T:decide ((k:Int)<256)=true:=zJ (by omega);have cv:(k:Int)<256:=by omega
   have hl:(List.range k++List.replicate (256-k) 0).length=256:=by rw[zL,Acb,zV];omega
   have hc:=hr.cell (i:=k) (by omega);have hf:=hr.free k;have HS:=hr.set k k;rw[d9 _ _ d]at HS;have H2:=hZ HS;generalize(List.range k++List.replicate (256-k) 0).getD k 0=old at hc;clear HS hr hl;go_wp2;go_roundw
   case rel=>exact⟨k+1,by omega,by go_num,H2.o,m.setCell (.inr rfl) _⟩
   case measure=>simp[intOf];omega
  ·have az:k=256:=by omega
   have T:decide ((k:Int)<256)=false:=zM (by omega);obtain⟨W1,rfl⟩: ∃X,X=wr:=⟨_,rfl⟩;have ap:Aside (AR W1 b2 (List.range 256)/\Aa (fun j=>j=b2) W W1):=by
    rw[az,Abd,Adx,Abe]at hr;exact⟨hr,m⟩
   clear hr m az d hk;go_wp2_with fail
   go_loopw[7] (fun i wx=> ∃k:Nat,k<=s.size/\i=I k/\AR wx b1 (weights (s.data.toList.take k))/\Aa (fun j=>j=b1) W1 wx) (fun i _=>s.size-(intOf i).toNat)
   case atStart=>exact⟨0,zZ _,rfl,by rw[Aed,Xv];exact HW.o.2.1.kept ap.o.2 n1,Aa.refl _ _⟩
   case round=>
    clear T;obtain⟨k,hk,rfl,hr,m⟩:=hrel
    by_cases d:k<s.size
    ·have T:=(dT k s.size).2;have ba:k<s.data.toList.length:=by rw[aB.o];exact d
     have h8:=(s[k]'d).toNat_lt;have hc:=hr.cell (i:=(s[k]'d).toNat) (by rw[Gu];exact h8);have hf:=hr.free (s[k]'d).toNat;have au:(weights (s.data.toList.take k)).getD (s[k]'d).toNat 0<=6000:=by
      have h1:=jI (s.data.toList.take k) (s[k]'d).toNat;have h2:(s.data.toList.take k).length<=6000:=by rw[zS,aB.o];omega
      unfold weights;rw[zG,Aah,Abn h8];show cnt (s.data.toList.take k) (s[k]'d).toNat<=6000;omega
     have bw:s.data.toList[k]'ba=s[k]'d:=rfl;have HS:=hr.set (s[k]'d).toNat ((weights (s.data.toList.take k)).getD (s[k]'d).toNat 0+1);have e1:(weights (s.data.toList.take k)).set (s[k]'d).toNat ((weights (s.data.toList.take k)).getD (s[k]'d).toNat 0+1)=weights (s.data.toList.take (k+1)):=by
      rw[Vd _ _ ba,bw];congr 2;unfold weights;rw[zG,Aah,Abn h8];rfl
     rw[e1]at HS;have H2:=hZ HS;generalize(weights (s.data.toList.take k)).getD (s[k]'d).toNat 0=old at*;have cq:((s[k]'d).toNat:Int)<256:=by omega
     clear HS hr e1 bw ba;go_wp2;go_roundw
     case rel=>exact⟨k+1,by omega,by go_num,by simpa using H2.o,m.setCell (.inr rfl) _⟩
     case measure=>simp[intOf];omega
    ·obtain rfl:s.size=k:=by omega
     have T:=(dF s.size s.size).2;have eT:s.data.toList.take s.size=s.data.toList:=by rw[<-aB.o,Aaw]
     rw[eT]at hr;obtain⟨W2,rfl⟩: ∃X,X=wr:=⟨_,rfl⟩;have ab:Aside (AR W2 b1 (weights s.data.toList)/\AR W2 b2 (List.range 256)/\AR W2 b3 (List.replicate 256 0)/\AR W2 w.heap.size (List.replicate 256 0)/\Aee w W2):=by
      have:=HB.o;have h3:AR W1 b3 (List.replicate 256 0):=HW.o.2.2.2.1.kept ap.o.2 (fun e=>n3 e.symm);have h0:AR W1 w.heap.size (List.replicate 256 0):=HW.o.1.kept ap.o.2 (fun e=>by omega);refine⟨hr,ap.o.1.kept m (fun e=>n1 e.symm),h3.kept m (fun e=>n2 e.symm),h0.kept m (fun e=>by omega),?_⟩;exact(HW.o.2.2.2.2.trans ap.o.2 (fun j h1 h2=>by omega)).trans m (fun j h1 h2=>by omega)
     clear hr m eT ap HW hk d;have HT:Aside (s.data.toList.length<=6000):=by show _<=_;rw[aB.o];exact hs
     go_wp2_with fail
     go_loopg [8] ((Ai s.data.toList 256).length) (fun g1 vf wx=> ∃(r:Nat) (wt inn:Aeh),vf= .bool (decide (r=0))/\(r=0\/r<(Ai s.data.toList 256).length)/\r+g1=(Ai s.data.toList 256).length/\Hid (Sim (Bi s.data.toList r).1 wt inn)/\Aside (AR wx b1 wt/\AR wx b2 inn/\AR wx b3 (Bi s.data.toList r).2)/\Aa (fun j=>j=b1\/j=b2\/j=b3) W2 wx)
     case atStart=>exact⟨0,weights s.data.toList,List.range 256,rfl,.inl rfl,by omega,oJ _,⟨ab.o.1,ab.o.2.1,ab.o.2.2.1⟩,Aa.refl _ _⟩
     case round=>
      obtain⟨r,wt,inn,rfl,aF,bQ,L,HA,m⟩:=hrel;have cr:=aZ (aI ab.o.1.lt (aI ab.o.2.1.lt ab.o.2.2.1.lt));have R:=L.o.lw;have aD:=L.o.li;have Z:=Tw s.data.toList HT.o r aF;have au:=L.o.le Z;have U: ∀x∈wt,x<=100000:=fun x hx=>by have:=au x hx;omega
      have A:=fun W=>Q8 wt (-1) W R U (by omega) (by omega);have O:(Ad wt).toArray.size=256:=by rw[Ba,R]
      have B:wr.heap[b1]?=some (.cells (Ad wt).toArray 94 (0,0)):=HA.o.1
      by_cases cu:2<=gk
      ·have aG:r<(Ai s.data.toList 256).length:=by omega
       obtain⟨bi,hw,b0⟩:=Np s.data.toList r aG;have bx:2<=(Bi s.data.toList r).1.length:=by omega
       have bd:=Et (Bi s.data.toList r).1 (by omega);have bh:(Bm (Au (Bi s.data.toList r).1::Au (left (Bi s.data.toList r).1)::left (left (Bi s.data.toList r).1))).Nodup:=(hw.perm (Qo _ (by omega))).nd;have aC:=L.o.perm (Qo _ (by omega));have ay:=L.o.first (by omega);have ag:=(L.o.perm (Jz _ (by omega))).second ((hw.perm (Jz _ (by omega))).nd);rw[iP]at ag;have aK:=Lk bh (aC.name _ Aab) Aab (aC.name _ (Aae _ Aab));have D:=fun W=>Q8 wt ((Au (Bi s.data.toList r).1).2.1.toNat:Int) W R U (by omega) (by have:=(Au (Bi s.data.toList r).1).2.1.toNat_lt;omega);rw[ay]at A;rw[ag]at D;obtain⟨X,hX⟩:=gx (Au (Bi s.data.toList r).1);obtain⟨Y,hY⟩:=gx (Au (left (Bi s.data.toList r).1));have aP:Aside (X=Au (Bi s.data.toList r).1/\Y=Au (left (Bi s.data.toList r).1)/\Sim (X::Y::left (left (Bi s.data.toList r).1)) wt inn/\(Bm (X::Y::left (left (Bi s.data.toList r).1))).Nodup/\N1 (Bi s.data.toList r).1 (Bi s.data.toList r).2/\(Bm (Bi s.data.toList r).1).Perm (Bm (Ai s.data.toList 256))):=by
        rw[hX,hY];exact⟨rfl,rfl,aC,bh,hw,b0⟩
       rw[<-hX]at A D aK;rw[<-hY]at D aK;have bL:=X.2.1.toNat_lt;have bN:=Y.2.1.toNat_lt;have HC:=aZ (aI R (aI aD au));clear ay ag aC bh hw b0 bi bd bx hX hY au U R aD Z L;obtain⟨C,af⟩: ∃n,n=X.2.1.toNat:=⟨_,rfl⟩;obtain⟨yb,bj⟩: ∃n,n=Y.2.1.toNat:=⟨_,rfl⟩;have br:=aZ (aI af bj);rw[<-af]at A D aK bL;rw[<-bj]at D aK bN;rw[show Q7 (some C)=(C:Int)from rfl]at A;rw[show Q7 (some yb)=(yb:Int)from rfl]at D;clear af bj;obtain⟨aq,N⟩: ∃a,a=(Ad wt).toArray:=⟨_,rfl⟩;rw[<-N]at A D O B;have aL:=aZ N;clear N;have bT:decide (0<=(C:Int))=true:=zJ (by omega);have c3:decide ((yb:Int)<0)=false:=zM (by omega);obtain⟨W3,rfl⟩: ∃V,V=wr:=⟨_,rfl⟩
       go_wp2_with(first
        |(refine Aa0 rfl 94 _ rfl b1 rfl 94 aq (0,0) _ B underlying94 rfl (by rw[O];exact D7) ?_))
       refine(A _).mono ?_;rintro e W4 ⟨rfl,H⟩;have P:=H.row B id
       go_wp2_with(first
        |(refine Aa0 rfl 94 _ rfl b1 rfl 94 aq (0,0) _ P underlying94 rfl (by rw[O];exact D7) ?_))
       refine(D _).mono ?_;rintro e W5 ⟨rfl,a0⟩;have ad:=H.tr a0;have aA:Aside (AR W5 b1 wt/\AR W5 b2 inn/\AR W5 b3 (Bi s.data.toList r).2/\Aa (fun j=>j=b1\/j=b2\/j=b3) W2 W5):=
        ⟨HA.o.1.kept ad id,HA.o.2.1.kept ad id,HA.o.2.2.kept ad id,m.trans ad (fun _ _ h=>h.elim)⟩
       clear A D B P H a0 ad HA m;go_upto_if 55 with fail
       go_cut[11,12]from 34 to 95 (fun vx vy wx=>vx=I ((min C yb:Nat):Int)/\vy=I ((max C yb:Nat):Int)/\W5=wx)
       case first=>
        by_cases d:yb<C
        ·have hd:=(dT yb C).2;have bO:=zJ d;go_wp2_with fail;go_meet
         case rel=>exact⟨by congr 1;omega,by congr 1;omega,rfl⟩
        ·have hd:=(dF yb C).2;have bO:=zM d;go_wp2_with fail;go_meet
         case rel=>exact⟨by congr 1;omega,by congr 1;omega,rfl⟩
       case rest=>
        obtain⟨rfl,rfl,rfl⟩:=hcut;obtain⟨q,be⟩: ∃n,n=min C yb:=⟨_,rfl⟩;obtain⟨t,bf⟩: ∃n,n=max C yb:=⟨_,rfl⟩;rw[<-be,<-bf];have cz:q<t:=by omega
        have cw:t<256:=by omega
        have bp:=aZ (aI be bf);clear be bf;have ak:Aside (∀c,c<256->(inn.getD c 0=q\/inn.getD c 0=t)->Pq s.data.toList c=true/\(Bi s.data.toList r).2.getD c 0<=17):=by
         intro c hc hh;obtain⟨q1,q2,q3,q4,q5,q6⟩:=aP.o;obtain⟨p1,p2⟩:=br.o;obtain⟨o1,o2⟩:=bp.o;have aX:(UInt8.ofNat c).toNat=c:=by rw[Aax];omega
         have R:=(q3.either q4 (UInt8.ofNat c)).1 (by rw[aX,<-p1,<-p2];omega);have bz:UInt8.ofNat c∈Bm (Bi s.data.toList r).1:=by
          have hp:=(Qo (Bi s.data.toList r).1 (by have:=(Np s.data.toList r aG).1;omega)).flatMap_right (fun g:Grp=>g.2.2);refine hp.mem_iff.2 ?_;rw[<-q1,<-q2,Aa3,Aa3,<-Aaj];exact Acs _ R
         refine⟨u6 ((X1 s.data.toList _).1 (q6.mem_iff.1 bz)) aX,?_⟩;obtain⟨g,hg,hb⟩:=List.mem_flatMap.1 bz;have hf:=q5.f1 g hg _ hb;rw[ln,aX]at hf;refine eG _ (Aaf hf ?_);have bP:=Tw s.data.toList HT.o r aF;obtain⟨j,hj,rfl⟩:=Aa5 hg;have h1:=Lw _ j hj;have h2:=bP.w;rw[zG,zH hj]at h1;simp only[Ack]at h1;omega
        have ch:(t:Int)<256:=by omega
        go_wp2_with fail
        go_loopw[13] (fun i wx=> ∃c:Nat,c<=256/\i=I c/\AR wx b2 (L8 inn q t c)/\AR wx b3 (K9 inn (Bi s.data.toList r).2 q t c)/\Aa (fun j=>j=b2\/j=b3) W5 wx) (fun i _=>256-(intOf i).toNat)
        case atStart=>exact⟨0,by omega,rfl,by rw[uY _ _ _ HC.o.2.1];exact aA.o.2.1,by rw[sD _ _ _ _ aP.o.2.2.2.2.1.len];exact aA.o.2.2.1,Aa.refl _ _⟩
        case round=>
         obtain⟨c,hc,rfl,G,E,m⟩:=hrel
         by_cases d:c<256
         ·have T:decide ((c:Int)<256)=true:=zJ (by omega);have cs:(c:Int)<256:=by omega
          have ci:=G.cell (i:=c) (by rw[Hs];exact d);rw[Ll _ _ _ _ _ d,iN]at ci
          by_cases h1:inn.getD c 0=q
          ·have K:inn.getD c 0=q\/inn.getD c 0=t:= .inl h1;have ae:=(ak.o c d K).1;have a2:=(ak.o c d K).2;have ai:=fun V=>Uo s c V hs d;rw[ae]at ai;have co:=E.cell (i:=c) (by rw[Gb];exact d);rw[I7 _ _ _ _ _ _ d,iN]at co;have fo:=E.free c;have fi:=G.free c;have e2:=lK inn q t c d K;have e3:=fF inn (Bi s.data.toList r).2 q t c d K;have F:=(E.set c ((Bi s.data.toList r).2.getD c 0+1)).other c (I q) (h:=b2) (fun e=>n3 e.symm);have Q:=(G.other c (I (((Bi s.data.toList r).2.getD c 0+1:Nat):Int)) (h:=b3) n3).set c q;rw[<-e3]at F;rw[<-e2]at Q;obtain⟨l,hl⟩:=gx ((Bi s.data.toList r).2.getD c 0);rw[<-hl]at co Q F a2;have aS:(wr.setCell (J b3 c) (I ((l:Int)+1))).cell? (J b2 c)=some (I (inn.getD c 0:Nat)):=by
            rw[Aci _ _ _ _ (by intro e';simp only[Addr.mk.injEq]at e';exact n3 e'.1.symm)];exact ci
           have HS:Aside (AR ((wr.setCell (J b3 c) (I ((l:Int)+1))).setCell (J b2 c) (I q)) b2 (L8 inn q t (c+1))/\AR ((wr.setCell (J b3 c) (I ((l:Int)+1))).setCell (J b2 c) (I q)) b3 (K9 inn (Bi s.data.toList r).2 q t (c+1))):=by
            rw[show((l+1:Nat):Int)=(l:Int)+1 from by omega]at Q F;exact⟨Q,F⟩
           clear hl e2 e3 Q F ae G E;clear K;rw[h1]at ci aS;have ar:((q:Int)==(q:Int))=true:=by simp
           clear h1;go_wp2_with fail;refine(ai _).mono ?_;rintro e W6 ⟨rfl,bR⟩;subst W6;clear ai;go_wp2;go_roundw
           case rel=>exact⟨c+1,by omega,by go_num,HS.o.1,HS.o.2,(m.setCell (.inr (.inr rfl)) _).setCell (.inr (.inl rfl)) _⟩
           case measure=>simp[intOf];omega
          ·by_cases h2:inn.getD c 0=t
           ·have K:inn.getD c 0=q\/inn.getD c 0=t:= .inr h2;have ae:=(ak.o c d K).1;have a2:=(ak.o c d K).2;have ai:=fun V=>Uo s c V hs d;rw[ae]at ai;have co:=E.cell (i:=c) (by rw[Gb];exact d);rw[I7 _ _ _ _ _ _ d,iN]at co;have fo:=E.free c;have fi:=G.free c;have e2:=lK inn q t c d K;have e3:=fF inn (Bi s.data.toList r).2 q t c d K;have F:=(E.set c ((Bi s.data.toList r).2.getD c 0+1)).other c (I q) (h:=b2) (fun e=>n3 e.symm);have Q:=(G.other c (I (((Bi s.data.toList r).2.getD c 0+1:Nat):Int)) (h:=b3) n3).set c q;rw[<-e3]at F;rw[<-e2]at Q;obtain⟨l,hl⟩:=gx ((Bi s.data.toList r).2.getD c 0);rw[<-hl]at co Q F a2;have aS:(wr.setCell (J b3 c) (I ((l:Int)+1))).cell? (J b2 c)=some (I (inn.getD c 0:Nat)):=by
             rw[Aci _ _ _ _ (by intro e';simp only[Addr.mk.injEq]at e';exact n3 e'.1.symm)];exact ci
            have HS:Aside (AR ((wr.setCell (J b3 c) (I ((l:Int)+1))).setCell (J b2 c) (I q)) b2 (L8 inn q t (c+1))/\AR ((wr.setCell (J b3 c) (I ((l:Int)+1))).setCell (J b2 c) (I q)) b3 (K9 inn (Bi s.data.toList r).2 q t (c+1))):=by
             rw[show((l+1:Nat):Int)=(l:Int)+1 from by omega]at Q F;exact⟨Q,F⟩
            clear hl e2 e3 Q F ae G E;clear K;rw[h2]at ci aS;have ar:((t:Int)==(q:Int))=false:=by simp;omega
            have aw:((t:Int)==(t:Int))=true:=by simp
            clear h1 h2;go_wp2_with fail;refine(ai _).mono ?_;rintro e W6 ⟨rfl,bR⟩;subst W6;clear ai;go_wp2;go_roundw
            case rel=>exact⟨c+1,by omega,by go_num,HS.o.1,HS.o.2,(m.setCell (.inr (.inr rfl)) _).setCell (.inr (.inl rfl)) _⟩
            case measure=>simp[intOf];omega
           ·have ar:(((inn.getD c 0:Nat):Int)==(q:Int))=false:=by rw[Aat];omega
            have aw:(((inn.getD c 0:Nat):Int)==(t:Int))=false:=by rw[Aat];omega
            have e2:=uZ inn q t c (by omega);have e3:=sF inn (Bi s.data.toList r).2 q t c (by omega);rw[<-e2]at G;rw[<-e3]at E;have HS:=aZ (aI G E);clear G E e2 e3 h1 h2;generalize inn.getD c 0=v at*;go_wp2;go_roundw
            case rel=>exact⟨c+1,by omega,by go_num,HS.o.1,HS.o.2,m⟩
            case measure=>simp[intOf];omega
         ·have ax:c=256:=by omega
          have T:decide ((c:Int)<256)=false:=zM (by omega);rw[ax]at G E;have S:=aA.o.1.kept m (fun e=>by rcases e with e|e<;>omega);have cx:=S.cell (i:=q) (by rw[HC.o.1];omega);have cy:=S.cell (i:=t) (by rw[HC.o.1];omega);have fx:=S.free q;have fy:=S.free t;have lx:wt.getD q 0<=6000:=HC.o.2.2 _ (by rw[zG,zH (show q<wt.length by rw[HC.o.1];omega)];exact z6 _);have ly:wt.getD t 0<=6000:=HC.o.2.2 _ (by rw[zG,zH (show t<wt.length by rw[HC.o.1];omega)];exact z6 _);have aV:=(S.set q (wt.getD q 0+wt.getD t 0)).set t 0;have bG:(wr.setCell (J b1 q) (I (((wt.getD q 0:Nat):Int)+((wt.getD t 0:Nat):Int)))).cell? (J b1 t)=some (I (wt.getD t 0:Nat)):=by
           rw[Aci _ _ _ _ (by intro e';simp only[Addr.mk.injEq]at e';omega)];exact cy
          rw[show((wt.getD q 0+wt.getD t 0:Nat):Int)=((wt.getD q 0:Nat):Int)+((wt.getD t 0:Nat):Int)from by omega]at aV;have HF:Aside (Sim (Bi s.data.toList (r+1)).1 (O7 wt q t) (L8 inn q t 256)/\K9 inn (Bi s.data.toList r).2 q t 256=(Bi s.data.toList (r+1)).2):=by
           obtain⟨q1,q2,q3,q4,q5,q6⟩:=aP.o;obtain⟨p1,p2⟩:=br.o;obtain⟨o1,o2⟩:=bp.o;rw[xO _ _ _ HC.o.2.1,o1,o2,p1,p2];refine⟨(q3.merge q4).perm ?_,?_⟩
           ·show(E9 X Y::left (left (Bi s.data.toList r).1)).Perm (left (left (Bi s.data.toList r).1)++[E9 (Au (Bi s.data.toList r).1) (Au (left (Bi s.data.toList r).1))]);rw[<-q1,<-q2];exact(List.perm_append_singleton _ _).symm
           ·rw[u4 q3 q4 q5.len];show _=bump (Bi s.data.toList r).2 (E9 (Au (Bi s.data.toList r).1) (Au (left (Bi s.data.toList r).1))).2.2;rw[<-q1,<-q2]
          have HG:Aside (AR wr b2 (L8 inn q t 256)/\AR wr b3 (Bi s.data.toList (r+1)).2/\Aa (fun j=>j=b2\/j=b3) W5 wr):=⟨G,by rw[<-HF.o.2];exact E,m⟩;obtain⟨vx,aH⟩: ∃n,n=wt.getD q 0:=⟨_,rfl⟩;obtain⟨vy,aJ⟩: ∃n,n=wt.getD t 0:=⟨_,rfl⟩;rw[<-aH]at cx lx;rw[<-aJ]at cy ly;rw[<-aH,<-aJ]at bG;have bD:Aside (AR ((wr.setCell (J b1 q) (I ((vx:Int)+(vy:Int)))).setCell (J b1 t) (I 0)) b1 (O7 wt q t)):=by
           unfold O7;rw[aH,aJ];exact aV
          have cg:(q:Int)<256:=by omega
          clear aV G E m S aH aJ ax;go_wp2_with fail
          go_region
          go_wp2
          go_roundg (gk-1)
          case measure=>omega
          case rel=>
           refine⟨r+1,O7 wt q t,L8 inn q t 256,by simp,.inr (by omega),by omega,HF.o.1,⟨bD.o,?_,?_⟩,?_⟩
           ·exact(HG.o.1.other _ _ (fun e=>n1 e.symm)).other _ _ (fun e=>n1 e.symm)
           ·exact(HG.o.2.1.other _ _ (fun e=>n2 e.symm)).other _ _ (fun e=>n2 e.symm)
           ·exact((((aA.o.2.2.2).trans HG.o.2.2 (fun _ _ h=> .inr h)).setCell (.inr (.inl rfl)) _).setCell (.inr (.inl rfl)) _).drew
      ·have ao:AR wr w.heap.size (List.replicate 256 0):=ab.o.2.2.2.1.kept m (fun e=>by have:=HB.o;omega);have aE:Aee w wr:=ab.o.2.2.2.2.trans m (fun j h1 h2=>by have:=HB.o;omega);have am:(Bi s.data.toList r).2.length=256:=by
        rcases aF with e|e
        ·rw[e];exact zV
        ·exact(Np s.data.toList r e).2.1.len
       obtain⟨aq,N⟩: ∃a,a=(Ad wt).toArray:=⟨_,rfl⟩;rw[<-N]at A O B;have aL:=aZ N;clear N
       by_cases ct:gk=0
       ·have an:r=0:=by omega
        have bg:(Ai s.data.toList 256).length=0:=by omega
        have a3:Cj wt (-1) 256=none:=by
         cases hL:Cj wt (-1) 256 with
         |none=>rfl
         |some j=>
          exfalso;have h1:=((No wt (-1) 256).1 j hL).2.1;have h2:=L.o.wo j (fun g hg=>by
           rw[an]at hg;have:Ai s.data.toList 256=[]:=Aaz bg
           change g∈Ai s.data.toList 256 at hg
           rw[this]at hg;simp at hg)
          omega
        rw[a3,show Q7 none= -1 from rfl]at A;have av:Aside (lens s.data.toList=(Bi s.data.toList r).2):=by
         show _=_;unfold lens;simp only;rw[iN,bg,an];rfl
        have bv:=zJ an;clear an a3 bg au U Z R aD L
        go_wp2_with(first
         |(refine Aa0 rfl 94 _ rfl b1 rfl 94 aq (0,0) _ B underlying94 rfl (by rw[O];exact D7) ?_))
        refine(A _).mono ?_;rintro e W4 ⟨rfl,H⟩;have z:AR W4 b3 (Bi s.data.toList r).2:=HA.o.2.2.kept H id;have y:AR W4 w.heap.size (List.replicate 256 0):=ao.kept H id;have u:=aE.tr H;clear A B H HA m ao aE;obtain⟨M,ac⟩: ∃a,a=(Ad (Bi s.data.toList r).2).toArray:=⟨_,rfl⟩;have f:Aside (M=(Ad (Bi s.data.toList r).2).toArray/\M.size=256/\M.all (·.oneCell')=true/\W4.heap[b3]?=some (.cells M 94 (0,0))/\W4.heap[w.heap.size]?=some (.cells Tryz.zeroCells94 94 (0,0))/\Aee w W4/\Tryz.zeroCells94.size=256):=by
         rw[ac];exact⟨rfl,by rw[Ba,am],Ew _,z,by rw[HZ.o];exact y,u,by rw[HZ.o,Ba,zV]⟩
        clear ac z y u
        go_wp2_with(first
         |(refine Aa0 rfl 94 _ rfl b3 rfl 94 M (0,0) _ f.o.2.2.2.1 underlying94 rfl (by rw[f.o.2.1];exact D7) ?_)
         |(refine wpList_store_row _ rfl 94 _ _ rfl w.heap.size 94 Tryz.zeroCells94 M rfl rfl f.o.2.2.2.2.1 (by rw[f.o.2.1];exact D7) (by rw[f.o.2.1];exact f.o.2.2.2.2.2.2) f.o.2.2.1 ?_;intro w9 a5 a1))
        refine Aa8 (v:= .agg M) (Abj results44 _ w9 w.heap.size 94 _ (0,0) _ rfl a5 underlying94 rfl (by rw[f.o.2.1];exact D7)) rfl ⟨by rw[f.o.1,av.o],?_⟩;exact f.o.2.2.2.2.2.1.trans a1 (fun j h1 h2=>by omega)
       ·have ce:gk=1:=by omega
        have aG:r<(Ai s.data.toList 256).length:=by omega
        obtain⟨bi,hw,_⟩:=Np s.data.toList r aG;have bx:(Bi s.data.toList r).1.length=1:=by omega
        have bd:=Et (Bi s.data.toList r).1 (by omega);have ay:=L.o.first (by omega);have ag:=(L.o.perm (Jz _ (by omega))).second ((hw.perm (Jz _ (by omega))).nd);rw[iN]at ag;have D:=fun W=>Q8 wt ((Au (Bi s.data.toList r).1).2.1.toNat:Int) W R U (by omega) (by have:=(Au (Bi s.data.toList r).1).2.1.toNat_lt;omega);rw[ay]at A;rw[ag,<-aL.o,show Q7 none= -1 from rfl]at D;obtain⟨C,af⟩: ∃n,n=(Au (Bi s.data.toList r).1).2.1.toNat:=⟨_,rfl⟩;have bS:C<256:=by rw[af];exact UInt8.toNat_lt _
        have bE:=aZ af;rw[<-af]at A D;rw[show Q7 (some C)=(C:Int)from rfl]at A;have bT:decide (0<=(C:Int))=true:=zJ (by omega);have c2:(C:Int)<256:=by omega
        clear af ay ag au U Z R aD;have bq:Aside ((Ai s.data.toList 256).length=r+1):=by show _=_;omega
        go_wp2_with(first
         |(refine Aa0 rfl 94 _ rfl b1 rfl 94 aq (0,0) _ B underlying94 rfl (by rw[O];exact D7) ?_))
        refine(A _).mono ?_;rintro e W4 ⟨rfl,H⟩;have P:=H.row B id
        go_wp2_with(first
         |(refine Aa0 rfl 94 _ rfl b1 rfl 94 aq (0,0) _ P underlying94 rfl (by rw[O];exact D7) ?_))
        refine(D _).mono ?_;rintro e W5 ⟨rfl,a0⟩;have al:=H.tr a0;have h3:AR W5 b3 (Bi s.data.toList r).2:=HA.o.2.2.kept al id;have h0:AR W5 w.heap.size (List.replicate 256 0):=ao.kept al id;have ah:=aE.tr al;have n0:w.heap.size≠b3:=by have:=HB.o;omega
        clear A D B P H a0 al HA m ao aE bQ aF bi bd
        by_cases a4:r=0
        ·have av:Aside (lens s.data.toList=(Bi s.data.toList r).2.set C 1):=by
          show _=_;have e1:(Ai s.data.toList 256).length=1:=by have:=bq.o;omega
          unfold lens;simp only;rw[if_pos e1,bE.o,a4];have e2:Au (Bi s.data.toList 0).1=(Ai s.data.toList 256).getD 0 (0,0,[]):=by
           show(Ai s.data.toList 256).getD (Hm.first (Ai s.data.toList 256)) (0,0,[])=_;have:=Hd (Ai s.data.toList 256) (by omega);rw[show Hm.first (Ai s.data.toList 256)=0 from by omega]
          rw[e2];rfl
         have co:=h3.cell (i:=C) (by rw[am];exact bS);have fo:=h3.free C;have F:=h3.set C 1;have bc:((Bi s.data.toList r).2.set C 1).length=256:=by rw[Abb];exact am
         have z:AR (W5.setCell (J b3 C) (I 1)) b3 ((Bi s.data.toList r).2.set C 1):=F;have y:=h0.other C (I 1) n0;have u:Aee w (W5.setCell (J b3 C) (I 1)):=ah.setCell (p:=(J b3 C)) (.inl (by have:=HB.o;show _<=b3;omega)) _;generalize(Bi s.data.toList r).2.getD C 0=old at co;have bv:=zJ a4;clear h3 h0 ah F a4;obtain⟨M,ac⟩: ∃a,a=(Ad ((Bi s.data.toList r).2.set C 1)).toArray:=⟨_,rfl⟩;have f:Aside (M=(Ad ((Bi s.data.toList r).2.set C 1)).toArray/\M.size=256/\M.all (·.oneCell')=true/\(W5.setCell (J b3 C) (I 1)).heap[b3]?=some (.cells M 94 (0,0))/\(W5.setCell (J b3 C) (I 1)).heap[w.heap.size]?=some (.cells Tryz.zeroCells94 94 (0,0))/\Aee w (W5.setCell (J b3 C) (I 1))/\Tryz.zeroCells94.size=256):=by
          rw[ac];exact⟨rfl,by rw[Ba,bc],Ew _,z,by rw[HZ.o];exact y,u,by rw[HZ.o,Ba,zV]⟩
         clear ac z y u
         go_wp2_with(first
          |(refine Aa0 rfl 94 _ rfl b3 rfl 94 M (0,0) _ f.o.2.2.2.1 underlying94 rfl (by rw[f.o.2.1];exact D7) ?_)
          |(refine wpList_store_row _ rfl 94 _ _ rfl w.heap.size 94 Tryz.zeroCells94 M rfl rfl f.o.2.2.2.2.1 (by rw[f.o.2.1];exact D7) (by rw[f.o.2.1];exact f.o.2.2.2.2.2.2) f.o.2.2.1 ?_;intro w9 a5 a1))
         refine Aa8 (v:= .agg M) (Abj results44 _ w9 w.heap.size 94 _ (0,0) _ rfl a5 underlying94 rfl (by rw[f.o.2.1];exact D7)) rfl ⟨by rw[f.o.1,av.o],?_⟩;exact f.o.2.2.2.2.2.1.trans a1 (fun j h1 h2=>by omega)
        ·have av:Aside (lens s.data.toList=(Bi s.data.toList r).2):=by
          show _=_;have e1:=bq.o;unfold lens;simp only;rw[iN,e1,Acn];rfl
         have z:=h3;have y:=h0;have u:=ah;have bv:=zM a4;clear h3 h0 ah a4;obtain⟨M,ac⟩: ∃a,a=(Ad (Bi s.data.toList r).2).toArray:=⟨_,rfl⟩;have f:Aside (M=(Ad (Bi s.data.toList r).2).toArray/\M.size=256/\M.all (·.oneCell')=true/\W5.heap[b3]?=some (.cells M 94 (0,0))/\W5.heap[w.heap.size]?=some (.cells Tryz.zeroCells94 94 (0,0))/\Aee w W5/\Tryz.zeroCells94.size=256):=by
          rw[ac];exact⟨rfl,by rw[Ba,am],Ew _,z,by rw[HZ.o];exact y,u,by rw[HZ.o,Ba,zV]⟩
         clear ac z y u
         go_wp2_with(first
          |(refine Aa0 rfl 94 _ rfl b3 rfl 94 M (0,0) _ f.o.2.2.2.1 underlying94 rfl (by rw[f.o.2.1];exact D7) ?_)
          |(refine wpList_store_row _ rfl 94 _ _ rfl w.heap.size 94 Tryz.zeroCells94 M rfl rfl f.o.2.2.2.2.1 (by rw[f.o.2.1];exact D7) (by rw[f.o.2.1];exact f.o.2.2.2.2.2.2) f.o.2.2.1 ?_;intro w9 a5 a1))
         refine Aa8 (v:= .agg M) (Abj results44 _ w9 w.heap.size 94 _ (0,0) _ rfl a5 underlying94 rfl (by rw[f.o.2.1];exact D7)) rfl ⟨by rw[f.o.1,av.o],?_⟩;exact f.o.2.2.2.2.2.1.trans a1 (fun j h1 h2=>by omega)
namespace Hm
def Gl:List Bool->Option (List Bool)
 |[]=>none
 |false::t=>some (true::t)
 |true::t=>(Gl t).map (false:: ·)
theorem Q9(x k:Nat):A7 x (k+1)=decide (x%2=1)::A7 (x/2) k:=by
 unfold A7;rw[List.range_succ_eq_map,Abg,List.map_map];refine List.cons_eq_cons.2 ⟨by simp,?_⟩;refine Acy fun i _=>?_;simp only[Function.comp,Nat.succ_eq_add_one];rw[Abl,Ade,Ady]
theorem Zg: ∀(l c:Nat),c<2^l->Gl (A7 c l)=if c+1<2^l then some (A7 (c+1) l)else none
 |0,c,h=>by
  have:c=0:=by simpa using h
  subst this;rfl
 |l+1,c,h=>by
  have d:=Zg l (c/2) (by rw[Abl]at h;omega);rw[Q9,Q9 (c+1)];have f:2^(l+1)=2^l*2:=Abl ..
  by_cases e:c%2=1
  ·have a:=zJ e;have b:decide ((c+1)%2=1)=false:=zM (by omega);rw[a,b,Gl,d,show(c+1)/2=c/2+1 from by omega]
   by_cases k:c/2+1<2^l
   ·rw[if_pos k,iP];rfl
   ·rw[if_neg k,iN];rfl
  ·have a:=zM e;have b:decide ((c+1)%2=1)=true:=zJ (by omega);rw[a,b,Gl,show(c+1)/2=c/2 from by omega,iP]
def F3(R:List Bool)(k:Nat):List Bool:=List.replicate k false++R.drop k
theorem lL(R:List Bool)(k:Nat)(h:k<=R.length):(F3 R k).length=R.length:=by simp[F3];omega
theorem u7(R:List Bool)(k:Nat)(h:k<R.length)(h2:k<(F3 R k).length):(F3 R k)[k]=R[k]:=by
 have e:(F3 R k)[k]?=some R[k]:=by
  unfold F3;rw[z7 (by simp),zV,Abd,Adq,Ac2,zH h]
 rw[zH h2]at e;exact Aak e
theorem sG(R:List Bool)(k:Nat)(h:k<R.length):F3 R (k+1)=(F3 R k).set k false:=by
 unfold F3;have a:(List.replicate k false).length=k:=by simp
 rw[Aba _ _ (by omega),a,Abd,Aan h,Adr,Aaj];rfl
theorem sH(R:List Bool)(k:Nat)(h:k<R.length)(a:R[k]=true)(hi:Gl R=(Gl (R.drop k)).map (List.replicate k false++ ·)):Gl R=(Gl (R.drop (k+1))).map (List.replicate (k+1) false++ ·):=by
 rw[hi,Aan h,a,Gl,Option.map_map];congr 1;funext l;simp[List.replicate_succ']
theorem xP(R:List Bool)(k:Nat)(h:k<R.length)(a:R[k]=false)(hi:Gl R=(Gl (R.drop k)).map (List.replicate k false++ ·)):Gl R=some ((F3 R k).set k true):=by
 rw[hi,Aan h,a,Gl];unfold F3;have b:(List.replicate k false).length=k:=by simp
 rw[Aba _ _ (by omega),b,Abd,Aan h];rfl
theorem pI(l:List Bool)(k:Nat)(h:k<l.length)(b:Bool):(l.set k b).reverse=l.reverse.set (l.length-1-k) b:=by
 apply Aa1
 ·simp
 ·intro i h1 h2;have hi:i<l.length:=by simpa using h2
  rw[List.getElem_reverse,Ac5,Ac5,List.getElem_reverse];simp only[Abb]
  by_cases e:k=l.length-1-i
  ·rw[if_pos e,iP]
  ·rw[if_neg e,iN]
end Hm
def Lz(w:World)(g:Nat)(l:Aeg):Prop:=g<w.heap.size/\ ∀j,(h:j<l.length)->w.cell? ⟨g,j,none⟩=some (.int .u8 (l[j].toNat:Nat))/\w.frozen? ⟨g,j,none⟩=false
theorem Lz.set{l:Aeg}(h:Lz w g l)(i:Nat)(hi:i<l.length)(x:UInt8):Lz (w.setCell ⟨g,i,none⟩ (.int .u8 x.toNat)) g (l.set i x):=by
 refine⟨by simpa using h.1,fun j b=>⟨?_,by rw[World.frozen?_setCell];exact(h.2 j (by simpa using b)).2⟩⟩;have a:j<l.length:=by simpa using b
 rw[Ac5]
 by_cases e:i=j
 ·subst e;rw[if_pos rfl];exact World.cell?_setCell_same _ _ _ (h.2 i hi).1
 ·rw[if_neg e,Aci _ _ _ _ (by intro c;simp only[Addr.mk.injEq]at c;omega)];exact(h.2 j a).1
theorem Lz.back{l:Aeg}(h:Lz w g l)(c:Nat):(convert 79 9 (.slice (some ⟨g,0,none⟩) l.length c)).run prog w= .ok (.string ⟨l.toArray⟩) w:=by
 have d:=run_convert_bytes_arg w _ _ underlying79 underlying5 g 0 l.length c (l.map fun b=>(b.toNat:Int)) (by simp) (fun i hi=>by
  have a:i<l.length:=by simpa using hi
  rw[Aao,(h.2 i a).1,zG,Aah,zH a];rfl) _ underlying9
 have e:strOfNums (l.map fun b=>(b.toNat:Int))=⟨l.toArray⟩:=by
  unfold strOfNums;rw[List.map_map];have f:((fun n:Int=>UInt8.ofNat n.toNat)∘fun b:UInt8=>(b.toNat:Int))=id:=by funext b;simp
  rw[f,List.map_id]
 rw[e]at d;exact d
theorem Lz.made(w:World)(s:ByteArray):Lz (Lib.bytesWorld w 5 s) w.heap.size s.data.toList:=by
 refine⟨by rw[Lib.bytesWorld_size];omega,fun j b=>?_⟩;have a:j<s.size:=by simpa using b
 refine⟨?_,?_⟩
 ·rw[Lib.bytesWorld_cell w 5 s j a,zG,zH b];rfl
 ·unfold World.frozen?;rw[Lib.bytesWorld_at_new];simp[Lib.bytesCells];omega
def J9(R:List Bool):Value:=match Gl R with
 |some R'=> .tuple #[.string ⟨(Ae R'.reverse).toArray⟩,.bool true]
 |none=> .tuple #[.string ⟨(Ae R.reverse).toArray⟩,.bool false]
theorem Yr(R:List Bool)(w:World)(hR:R.length<=300):
  Calls prog 88 #[.string ⟨(Ae R.reverse).toArray⟩] w fun e w'=>e= .returned (J9 R)/\Aee w w':=by
 obtain⟨s,hs⟩:=gx (⟨(Ae R.reverse).toArray⟩:ByteArray);have H:s.size=R.length:=by rw[hs];show(Ae R.reverse).toArray.size=_;simp[Ae]
 have G:s.data.toList=Ae R.reverse:=by rw[hs]
 have E:=fun W=>Lib.run_convert_string_bytes (P:=prog) W 9 79 5 s underlying9 underlying79 underlying5;have m:=Lz.made w s;rw[G]at m;have y:Aee w (Lib.bytesWorld w 5 s):=by
  refine⟨rfl,rfl,rfl,by rw[Lib.bytesWorld_size];omega,fun k hk _=>Lib.bytesWorld_at_old w _ s k hk⟩
 rw[<-hs];have h:=E w;rw[H]at h;obtain⟨S,D⟩: ∃c,c=grownCap w R.length 0 5:=⟨_,rfl⟩;rw[<-D]at h;obtain⟨W,U⟩:=gx (Lib.bytesWorld w 5 s);rw[<-U]at m y h;have HS:=aZ hs;clear E hs G D U H
 go_enter func88,ntmps88
 go_wp2_with fail
 go_loopw[5] (fun vi wr=> ∃k:Nat,k<=R.length/\vi=I ((R.length:Int)-1-(k:Int))/\Lz wr w.heap.size (Ae (F3 R k).reverse)/\Hid (Gl R=(Gl (R.drop k)).map (List.replicate k false++ ·))/\Aee w wr) (fun i _=>(intOf i+1).toNat)
 case atStart=>exact⟨0,zZ _,by simp,m,by show _=_;simp,y⟩
 case round=>
  clear m y h;obtain⟨k,hk,rfl,hb,A,z⟩:=hrel;have a:=lL R k hk
  by_cases l:k<R.length
  ·obtain⟨j,L⟩:=gx (R.length-1-k);have K:(R.length:Int)-1-(k:Int)=(j:Int):=by omega
   have C:(Ae (F3 R k).reverse).length=R.length:=by rw[Fp,List.length_reverse,a]
   have f:j<(Ae (F3 R k).reverse).length:=by omega
   obtain⟨t,f1⟩:=hb.2 j f;have d:(Ae (F3 R k).reverse)[j]=if R[k]then 49 else 48:=by
    have e1:(F3 R k).reverse[j]'(by rw[List.length_reverse];omega)=R[k]:=by
     rw[List.getElem_reverse];have e2:(F3 R k).length-1-j=k:=by omega
     simp only[e2];exact u7 R k l (by omega)
    have T:(Ae (F3 R k).reverse)[j]?=some (if R[k]then 49 else 48):=by
     show(List.map _ _)[j]?=_;rw[Aah,zH (by rw[List.length_reverse];omega),e1];rfl
    rw[zH f]at T;exact Aak T
   rw[d]at t;have ad:(j:Int)<(R.length:Int):=by omega
   have hd:decide (0<=(j:Int))=true:=zJ (by omega);have n:=fun x=>hb.set j f x;rw[K];cases b:R[k]with
   |false=>
    rw[b,if_neg (by simp)]at t;have O:=aZ (xP R k l b A.o);have v:=n 49;have B:(Ae (F3 R k).reverse).set j 49=Ae ((F3 R k).set k true).reverse:=by
     rw[pI _ _ (by omega),a,<-L,bF]
    rw[B]at v;have r:(Ae ((F3 R k).set k true).reverse).length=R.length:=by rw[Fp,List.length_reverse,Abb,a]
    have g:=v.back S;rw[r]at g;have F:Aee w (wr.setCell (J w.heap.size j) (.int .u8 49)):=z.setCell (p:=(J w.heap.size j)) (.inl (zK _)) _;have N:Aside _:=F;obtain⟨q,Q⟩:=gx (⟨(Ae ((F3 R k).set k true).reverse).toArray⟩:ByteArray);rw[<-Q]at g;have Z:=aZ Q;have V:(convert 79 9 (S0 w.heap.size R.length S)).run prog (wr.setCell (J w.heap.size j) (.int .u8 49))= .ok (.string q) (wr.setCell (J w.heap.size j) (.int .u8 49)):=g;have c2:wr.cell? (J w.heap.size j)=some (.int .u8 48):=t;clear v B n hb d g F Q r C f L a b t A;go_wp2;go_ret2;exact⟨by unfold J9;rw[O.o];simp only;rw[<-Z.o];rfl,N.o⟩
   |true=>
    rw[b,if_pos rfl]at t;have M:=hZ (sH R k l b A.o);have u:=n 48;have B:(Ae (F3 R k).reverse).set j 48=Ae (F3 R (k+1)).reverse:=by
     rw[sG R k l,pI _ _ (by omega),a,<-L];unfold Ae;rw[Ace];rfl
    rw[B]at u;have X:=aZ u;have c2:wr.cell? (J w.heap.size j)=some (.int .u8 49):=t;have Y:=aZ K;clear u B n hb d C f a b t A K L;go_wp2;go_roundw
    case rel=>exact⟨k+1,by omega,by have:=Y.o;first|go_num|(congr 1;omega),X.o,M,z.setCell (.inl (zK _)) _⟩
    case measure=>simp[intOf]
  ·obtain rfl:R.length=k:=by omega
   have K:(R.length:Int)-1-(R.length:Int)= -1:=by omega
   have O:Aside (Gl R=none):=by
    show _=_;rw[A.o,Ab7];rfl
   rw[K];clear hb a;go_wp2;go_ret2;exact⟨by unfold J9;rw[O.o];simp only;rw[<-HS.o];rfl,z⟩
theorem sI(L:Aeh)(w:World)(G:L.length=256)(B: ∀x∈L,x<=100000):
  Calls prog 89 #[.agg (Ad L).toArray] w fun e w'=>e= .returned (.bool (decide ((Aj L).length=1)))/\Aee w w':=by
 have j:(w.alloc (.cells (Ad L).toArray 94)).heap[w.heap.size]?=some (.cells (Ad L).toArray 94 (0,0)):=zY w _;have f: ∀W:World,W.heap[w.heap.size]?=some (.cells (Ad L).toArray 94 (0,0))-> ∀b:Nat,b<256->W.cell? (J w.heap.size b)=some (I (L.getD b 0:Nat)):=by
  intro W H b hb;rw[zP _ _ b _ _ _ H];simp[Ad,List.getD_eq_getElem?_getD,List.getElem?_eq_getElem (show b<L.length from by omega)]
 have q: ∀b:Nat,b<256->L.getD b 0<=100000:=fun b hb=>by
  rw[zG,zH (show b<L.length from by omega)];exact B _ (z6 _)
 have C:Aside _:=f;have D:Aside _:=q;have a:=fun b hb=>C.o (w.alloc (.cells (Ad L).toArray 94)) j b hb;have u:Aside _:=a;clear f q B G j a;generalize(Ad L).toArray=arr at*
 go_enter func89,ntmps89
 go_wp2_with fail
 go_loopw[3,4] (fun n i wr=> ∃c:Nat,c<=256/\i=I c/\n=I ((Bx L c).length:Nat)/\wr=w.alloc (.cells arr 94)) (fun _ i _=>256-(intOf i).toNat)
 case atStart=>exact⟨0,by omega,rfl,rfl,rfl⟩
 case round=>
  obtain⟨c,N,rfl,rfl,g⟩:=hrel;have A:=aZ g;have r:=Ex L c
  by_cases s:c<256
  ·have p:decide ((c:Int)<256)=true:=zJ (by omega);have K:(c:Int)<256:=by omega
   have v:wr.cell? (J w.heap.size c)=some (I (L.getD c 0:Nat)):=by rw[g];exact u.o c s
   have y:=D.o c s;have l:Aside ((Bx L (c+1)).length=(Bx L c).length+if 0<L.getD c 0 then 1 else 0):=by
    show _=_;rw[Qj,zL]
    by_cases h:0<L.getD c 0
    ·rw[if_pos h,if_pos h];rfl
    ·rw[if_neg h,if_neg h];rfl
   clear g;obtain⟨m,k⟩:=gx ((Bx L c).length);rw[<-k]at r l;rw[<-k];clear k
   by_cases h2:0<L.getD c 0
   ·have M:=zJ h2;rw[if_pos h2]at l;generalize L.getD c 0=x at*;clear h2;go_wp2;go_roundw
    case rel=>exact⟨c+1,by omega,by go_num,by rw[l.o];go_num,A.o⟩
    case measure=>simp[intOf];omega
   ·have t:L.getD c 0=0:=by omega
    rw[if_neg h2,Ac2]at l;rw[t]at v;clear h2 t y;go_wp2;go_roundw
    case rel=>exact⟨c+1,by omega,by go_num,by rw[l.o];rfl,A.o⟩
    case measure=>simp[intOf];omega
  ·have d:c=256:=by omega
   have p:decide ((c:Int)<256)=false:=zM (by omega);have F:Aside ((Bx L c).length=(Aj L).length):=by show _=_;rw[d];rfl
   have E:Aside (Aee w wr):=by rw[g];exact(Aa.refl _ _).alloc _
   have z:Aside ((((Bx L c).length:Int)==1)=decide ((Aj L).length=1)):=by
    show _=_;rw[F.o]
    by_cases e:(Aj L).length=1
    ·rw[e];rfl
    ·rw[zM e,Aat];omega
   clear g d;obtain⟨m,k⟩:=gx ((Bx L c).length);rw[<-k]at r z;rw[<-k];clear k;go_wp2;go_ret;exact⟨by rw[<-z.o];rfl,E.o⟩
namespace Hm
def pre(h c:Aeg):Bool:=decide (h.length<=c.length)&&c.take h.length==h
end Hm
theorem g8(s h:ByteArray)(w:World)(_hs:s.size<=100000)(_hh:h.size<=100000):
  Calls prog 91 #[.string s,.string h] w fun e w'=>e= .returned (.bool (pre h.data.toList s.data.toList))/\ ∃q,w'=w.drewN q:=by
 have b:Aside (pre h.data.toList s.data.toList=(decide (h.size<=s.size)&&(s.extract 0 h.size).toList==h.toList)):=by
  show _=_;unfold pre;have f:h.data.toList.length=h.size:=by simp
  have g:s.data.toList.length=s.size:=by simp
  have i:(s.extract 0 h.size).toList=s.data.toList.take h.size:=by
   rw[Aa2,Acu,Ac1,Ab5,Adj,Ad3]
  rw[f,g,i,Aa2]
 by_cases a:h.size<=s.size
 ·have hd:decide ((s.size:Int)>=(h.size:Int))=true:=zJ (by omega);have d:(h.size:Int)<=(s.size:Int):=by omega
  have c:Aside (pre h.data.toList s.data.toList=((s.extract 0 h.size).toList==h.toList)):=by
   show _=_;rw[b.o,zJ a,Bool.true_and]
  clear b
  go_enter func91,ntmps91
  go_wp2;go_ret;exact⟨by rw[c.o];rfl,0,rfl⟩
 ·have hd:decide ((s.size:Int)>=(h.size:Int))=false:=zM (by omega);have d: ¬(h.size:Int)<=(s.size:Int):=by omega
  have c:Aside (pre h.data.toList s.data.toList=false):=by
   show _=_;rw[b.o,zM a,Bool.false_and]
  clear b
  go_enter func91,ntmps91
  go_wp2;go_ret;exact⟨by rw[c.o];rfl,0,rfl⟩
namespace Hm
structure CS where
 o:List (List Bool)
 code:List Bool
 on:Bool
def Ka(n:Nat)(R:List Bool):List Bool:=List.replicate (n-R.length) false++R
theorem oK(n:Nat)(R:List Bool)(h:R.length<=n):(Ka n R).length=n:=by simp[Ka];omega
theorem Zz9(n:Nat)(R:List Bool)(h:R.length<n):Ka n (false::R)=Ka n R:=by
 unfold Ka;rw[Aau,show n-R.length=(n-(R.length+1))+1 from by omega,Adr,Aaj];rfl
theorem vA(n:Nat)(R:List Bool)(h:R.length=n):Ka n R=R:=by
 unfold Ka;rw[h,Abd];rfl
theorem Ys: ∀R a,Gl R=some a->a.length=R.length
 |[],a,h=>by simp[Gl]at h
 |false::t,a,h=>by simp[Gl]at h;rw[<-h];rfl
 |true::t,a,h=>by
  simp only[Gl,Option.map_eq_some_iff]at h;obtain⟨x,b,rfl⟩:=h;rw[Aau,Aau,Ys t x b]
def Mq(s:CS):Option (List Bool):=if s.on then Gl s.code else some s.code
theorem Wj(s:CS)(R:List Bool)(h:Mq s=some R):R.length=s.code.length:=by
 unfold Mq at h;split at h
 ·exact Ys _ _ h
 ·rw[Aak h]
def Oq(L:Aeh)(n c:Nat)(s:CS):Option CS:=
 if L.getD c 0=n then(Mq s).map fun R=>⟨s.o.set c (Ka n R).reverse,Ka n R,true⟩else some s
def cTo(L:Aeh):Nat->Option CS
 |0=>some ⟨List.replicate 256 [],[],false⟩
 |t+1=>(cTo L t).bind (Oq L (t/256+1) (t%256))
theorem xQ(L:Aeh)(n c:Nat)(s:CS)(a:c<256)(hn:0<n)(h:cTo L ((n-1)*256+c)=some s):cTo L ((n-1)*256+(c+1))=Oq L n c s:=by
 rw[<-Abw,cTo,h,Option.bind_some,show((n-1)*256+c)/256+1=n from by omega,show((n-1)*256+c)%256=c from by omega]
theorem xR(L:Aeh)(t k:Nat)(h:cTo L t=none):cTo L (t+k)=none:=by
 induction k with
 |zero=>exact h
 |succ k ih=>rw[<-Abw,cTo,ih];rfl
def Xf(r:Option CS)(one:Bool)(o:List (List Bool))(ok:Bool):Prop:=match r with
 |none=>ok=false
 |some s=>o=s.o/\ok=(!s.on||((Gl s.code).isNone||(s.code==[false]&&one)))
@[irreducible] def Cx (L : Aeh) (o : List (List Bool)) (ok : Bool) : Prop := Xf (cTo L 65280) (decide ((Aj L).length = 1)) o ok
theorem Cx.of(r:Option CS)(a:cTo L 65280=r)(h:Xf r (decide ((Aj L).length=1)) o ok):Cx L o ok:=by
 unfold Cx;rw[a];exact h
theorem Cx.to(r:Option CS)(a:cTo L 65280=r)(h:Cx L o ok):Xf r (decide ((Aj L).length=1)) o ok:=by
 unfold Cx at h;rw[a]at h;exact h
def Ar(l:List (List Bool)):Aei:=l.map fun b=> .string ⟨(Ae b).toArray⟩
theorem Bp(l:List (List Bool)):(Ar l).length=l.length:=by simp[Ar]
theorem L0(l:List (List Bool)):(Ar l).toArray.all (·.oneCell')=true:=by
 rw[Acv];intro v a;have:v∈Ar l:=by simpa using a
 unfold Ar at this;obtain⟨b,_,rfl⟩:=List.mem_map.1 this;rfl
theorem oL(R:List Bool):Ae (false::R).reverse=Ae R.reverse++[48]:=by simp[Ae]
theorem yS(R:List Bool):(R==[false])=((Ae R.reverse).toArray.toList==[48]):=by
 match R with
 |[]=>rfl
 |[b]=>cases b<;>rfl
 |a::b::t=>
  have h1:((a::b::t)==[false])=false:=by simp
  have h2:((Ae (a::b::t).reverse).toArray.toList==[48])=false:=by
   rw[Aat];intro e;have:=congrArg List.length e;simp[Ae]at this
  rw[h1,h2]
theorem oM(R:List Bool):(Ae R.reverse).toArray.size=R.length:=by simp[Ae]
end Hm
def TR(w:World)(g:Nat)(l:List (List Bool)):Prop:=w.heap[g]?=some (.cells (Ar l).toArray 113 (0,0))
theorem TR.cell(h:TR w g l){i:Nat}(hi:i<l.length):w.cell? ⟨g,i,none⟩=some (.string ⟨(Ae (l.getD i [])).toArray⟩):=by
 rw[zP _ _ i _ _ _ h];simp[Ar,List.getD_eq_getElem?_getD,List.getElem?_eq_getElem hi]
theorem TR.free(h:TR w g l)(i:Nat):w.frozen? ⟨g,i,none⟩=false:=zR _ _ i _ _ h
theorem TR.set(h:TR w g l)(i:Nat)(x:List Bool):TR (w.setCell ⟨g,i,none⟩ (.string ⟨(Ae x).toArray⟩)) g (l.set i x):=by
 have h2:=zI w g i _ _ (.string ⟨(Ae x).toArray⟩) h;unfold TR;rw[h2];congr 2;apply Abr;simp[Ar,List.map_set]
theorem TR.kept{S:Nat->Prop}{w':World}(h:TR w g l)(hk:Aa S w w')(hn: ¬S g):TR w' g l:=hk.row h hn
theorem Rv:Tryz.zeroCells113=(Ar (List.replicate 256 [])).toArray:=by kernel_rfl
theorem C9:(prog.info? 113).map (·.size)=some 256:=by kernel_rfl
theorem I8{P:Program}{c:Func}{p u:Tmp}{b:TypeId}(h:c.results= #[.cell p b,.tmp u])(a:Array Value)(w:World)(g:Nat)(t:TypeId)(cs:Array Value)(fr:Nat×Nat)(d:TypeDesc)
  (f:a.getD p undef= .pointer (some ⟨g,0,none⟩)) (e:w.heap[g]?=some (.cells cs t fr))
  (i:P.underlying b=some d) (hd:(match d with| .struct _| .array _ _=>true|_=>false)=true) (hi:(P.info? b).map (·.size)=some cs.size):
  (results c a).run P w= .ok (.tuple #[.agg cs,a.getD u undef]) w:=by
 rw[results_cell_tmp h,f];simp[asAddr,run_loadVar_row w g t b cs fr d e i hd hi,Result.andThen]
theorem Wk(L:Aeh)(w:World)(hL:L.length=256)(hx: ∀x∈L,x<=100000):
  Calls prog 45 #[.agg (Ad L).toArray] w fun e w'=>(∃(o:List (List Bool)) (ok:Bool),o.length=256/\e= .returned (.tuple #[.agg (Ar o).toArray,.bool ok])/\Cx L o ok)/\Aee w w':=by
 have a2: ∀b:Nat,b<256->L.getD b 0<=100000:=fun b hb=>by
  rw[zG,zH (show b<L.length from by omega)];exact hx _ (z6 _)
 have HG:=aZ a2;have HO:Aside (∀W,Calls prog 89 #[.agg (Ad L).toArray] W fun e w'=>e= .returned (.bool (decide ((Aj L).length=1)))/\Aee W w'):=fun W=>sI L W hL hx;have HL:=aZ hL;clear a2 hx hL
 go_enter func45,ntmps45
 go_upto_region 2 with fail
 have g0:AR (((w.alloc (.cells (Ad L).toArray 94)).alloc (.cells Tryz.zeroCells113 113)).alloc (.cells Tryz.zeroCells113 113)) w.heap.size L:=
  (((Aa.refl (fun _=>False) (w.alloc (.cells (Ad L).toArray 94))).alloc _).alloc _).row (zY w _) id
 have g1:TR (((w.alloc (.cells (Ad L).toArray 94)).alloc (.cells Tryz.zeroCells113 113)).alloc (.cells Tryz.zeroCells113 113)) (w.heap.size+1) (List.replicate 256 []):=by
  unfold TR;rw[<-Rv];exact((Aa.refl (fun _=>False) ((w.alloc (.cells (Ad L).toArray 94)).alloc (.cells Tryz.zeroCells113 113))).alloc _).row (Ab3 w _ _) id
 have g2:TR (((w.alloc (.cells (Ad L).toArray 94)).alloc (.cells Tryz.zeroCells113 113)).alloc (.cells Tryz.zeroCells113 113)) (w.heap.size+1+1) (List.replicate 256 []):=by
  unfold TR;rw[<-Rv];have:=zY ((w.alloc (.cells (Ad L).toArray 94)).alloc (.cells Tryz.zeroCells113 113)) (.cells Tryz.zeroCells113 113);simpa using this
 have a3:Aee w (((w.alloc (.cells (Ad L).toArray 94)).alloc (.cells Tryz.zeroCells113 113)).alloc (.cells Tryz.zeroCells113 113)):=(((Aa.refl _ _).alloc _).alloc _).alloc _;generalize(((w.alloc (.cells (Ad L).toArray 94)).alloc (.cells Tryz.zeroCells113 113)).alloc (.cells Tryz.zeroCells113 113))=W at*;obtain⟨b2,aq⟩: ∃b,b=w.heap.size+1+1:=⟨_,rfl⟩;rw[<-aq]at g2|-;obtain⟨b1,ap⟩: ∃b,b=w.heap.size+1:=⟨_,rfl⟩;rw[<-ap]at g1|-;have n0:w.heap.size≠b2:=by omega
 have n1:b1≠b2:=by omega
 have H:=aZ (aI ap aq);have HW:=aZ (aI g0 (aI g1 (aI g2 a3)));clear ap aq g0 g1 g2 a3;go_wp2_with fail
 go_loopw[5,6,7] (fun vc vs vn wr=> ∃(n:Nat) (s:CS),1<=n/\n<=256/\vn=I n/\vs= .bool s.on/\vc= .string ⟨(Ae s.code.reverse).toArray⟩/\Hid (cTo L ((n-1)*256)=some s/\s.code.length<n/\s.o.length=256)/\TR wr b2 s.o/\Aa (fun j=>j=b2) W wr) (fun _ _ vn _=>256-(intOf vn).toNat)
 case atStart=>exact⟨1,⟨List.replicate 256 [],[],false⟩,by omega,by omega,rfl,rfl,rfl,⟨rfl,Nat.zero_lt_one,zV⟩,HW.o.2.2.1,Aa.refl _ _⟩
 case round=>
  obtain⟨n,s,bh,bi,rfl,rfl,rfl,Z,al,N⟩:=hrel;have HR:=aZ (aI al N);have be:=Z.o.2.1;clear al N
  by_cases bg:n<256
  ·have U:decide ((n:Int)<256)=true:=zJ (by omega);go_wp2_with fail
   go_loopw[5,6,8] (fun vc vs vi wx=> ∃(c:Nat) (s1:CS),c<=256/\vi=I c/\vs= .bool s1.on/\vc= .string ⟨(Ae s1.code.reverse).toArray⟩/\Hid (cTo L ((n-1)*256+c)=some s1/\s1.code.length<=n/\s1.o.length=256)/\TR wx b2 s1.o/\Aa (fun j=>j=b2) W wx) (fun _ _ vi _=>256-(intOf vi).toNat)
   case atStart=>exact⟨0,s,by omega,rfl,rfl,rfl,⟨by rw[Ac2];exact Z.o.1,by omega,Z.o.2.2⟩,HR.o.1,HR.o.2⟩
   case round=>
    obtain⟨c,s1,hc,rfl,rfl,rfl,A,Y,ak⟩:=hrel;have B:=aZ (aI Y ak);clear Y ak
    by_cases af:c<256
    ·have U:decide ((c:Int)<256)=true:=zJ (by omega);have aK:(c:Int)<256:=by omega
     have ar:wr.cell? (J w.heap.size c)=some (I (L.getD c 0:Nat)):=(HW.o.1.kept B.o.2 n0).cell (by rw[HL.o];exact af);have a1:=HG.o c af;have ac:Aside (cTo L ((n-1)*256+(c+1))=Oq L n c s1):=xQ L n c s1 af (by omega) A.o.1
     by_cases he:L.getD c 0=n
     ·have HE:=aZ he;rw[he]at ar;clear he a1;have aj:=A.o.2.1;have l:=fun W=>Yr s1.code W (by omega);have aa:=aZ l;clear l;go_upto_if 26 with fail
      go_cut[5,6]from 17 to 44 (fun vc _ wy=> ∃W3,W3=wy/\ ∃R:List Bool,vc= .string ⟨(Ae R.reverse).toArray⟩/\Hid (Mq s1=some R)/\Aee wr W3)
      case first=>
       obtain⟨on,E⟩: ∃o,o=s1.on:=⟨_,rfl⟩;rw[<-E];cases on with
       |false=>
        have HN:Aside (Mq s1=some s1.code):=by show _=_;unfold Mq;rw[<-E];rfl
        clear E aa;go_wp2_with fail;go_meet
        case rel=>exact⟨_,rfl,s1.code,rfl,HN.o,Aa.refl _ _⟩
       |true=>
        have HN:Aside (Mq s1=Gl s1.code):=by show _=_;unfold Mq;rw[<-E];rfl
        have l:=aa.o;clear E aa;cases hi:Gl s1.code with
        |some R=>
         have G:J9 s1.code= .tuple #[.string ⟨(Ae R.reverse).toArray⟩,.bool true]:=by unfold J9;rw[hi]
         rw[G]at l;have aB:=aZ hi;clear G hi;go_wp2_with fail;refine(l _).mono ?_;rintro e C ⟨rfl,r⟩;have aC:=aZ r;clear l r;go_wp2_with fail;go_meet
         case rel=>exact⟨_,rfl,R,rfl,HN.o.trans aB.o,aC.o⟩
        |none=>
         have G:J9 s1.code= .tuple #[.string ⟨(Ae s1.code.reverse).toArray⟩,.bool false]:=by unfold J9;rw[hi]
         rw[G]at l;have HF:Aside (cTo L 65280=none):=by
          show _=_;have h1:cTo L ((n-1)*256+(c+1))=none:=by
           rw[ac.o];unfold Oq;rw[if_pos HE.o,HN.o,hi];rfl
          have h2:=xR L _ (65280-((n-1)*256+(c+1))) h1;rwa[show(n-1)*256+(c+1)+(65280-((n-1)*256+(c+1)))=65280 from by omega]at h2
         clear G hi;go_wp2_with fail;refine(l _).mono ?_;rintro e C ⟨rfl,r⟩;obtain⟨k,F⟩: ∃a,a=(Ar s1.o).toArray:=⟨_,rfl⟩;have g:Aside (k=(Ar s1.o).toArray/\k.size=256/\k.all (·.oneCell')=true/\C.heap[b2]?=some (.cells k 113 (0,0))/\C.heap[b1]?=some (.cells (Ar (List.replicate 256 [])).toArray 113 (0,0))/\Aee w C/\(Ar (List.replicate 256 [])).toArray.size=256):=by
          rw[F];refine⟨rfl,?_,L0 _,B.o.1.kept r id,(HW.o.2.1.kept B.o.2 n1).kept r id,?_,?_⟩
          ·rw[Aaa,Bp];exact A.o.2.2
          ·exact(HW.o.2.2.2.trans B.o.2 (fun j h1 h2=>by have:=H.o;omega)).tr r
          ·rw[Aaa,Bp,zV]
         clear F r l
         go_wp2_with(first
          |(refine Aa0 rfl 113 _ rfl b2 rfl 113 k (0,0) _ g.o.2.2.2.1 underlying113 rfl (by rw[g.o.2.1];exact C9) ?_)
          |(refine wpList_store_row _ rfl 113 _ _ rfl b1 113 (Ar (List.replicate 256 [])).toArray k rfl rfl g.o.2.2.2.2.1 (by rw[g.o.2.1];exact C9) (by rw[g.o.2.1];exact g.o.2.2.2.2.2.2) g.o.2.2.1 ?_;intro w9 aN aL))
         refine Aa8 (v:= .tuple #[.agg k,.bool false]) (I8 results45 _ w9 b1 113 _ (0,0) _ rfl aN underlying113 rfl (by rw[g.o.2.1];exact C9)) rfl ⟨⟨s1.o,false,A.o.2.2,by rw[g.o.1],Cx.of none HF.o rfl⟩,?_⟩;exact g.o.2.2.2.2.2.1.trans aL (fun j h1 h2=>by have:=H.o;omega)
      case rest=>
       obtain⟨W3,rfl,R,rfl,HN,a5⟩:=hcut;have bd:R.length<=n:=by rw[Wj s1 R HN.o];exact aj
       have ax:=aZ a5;clear a5 aa ar;go_wp2_with fail
       go_loopg [5] (n-R.length) (fun g1 vc P=> ∃D:List Bool,D.length+g1=n/\vc= .string ⟨(Ae D.reverse).toArray⟩/\Hid (Ka n D=Ka n R)/\W3=P)
       case atStart=>exact⟨R,by omega,rfl,rfl,rfl⟩
       case round=>
        obtain⟨D,bf,rfl,ay,rfl⟩:=hrel;obtain⟨S,hS⟩:=gx (⟨(Ae D.reverse).toArray⟩:ByteArray);have bj:S.size=D.length:=by rw[hS];exact oM D
        rw[<-hS];have HS:=aZ hS;clear hS
        by_cases hz:D.length<n
        ·have hd:=(dT S.size n).2;go_wp2_with fail
         go_roundg (gk-1)
         case measure=>omega
         case rel=>
          refine⟨false::D,by simp;omega,?_,?_,rfl⟩
          ·rw[HS.o,oL];congr 1
          ·show _=_;rw[Zz9 n D hz];exact ay.o
        ·have hd:=(dF S.size n).2;have aA:Aside (Ka n R=D):=by show _=_;rw[<-ay.o];exact vA n D (by omega)
         have aE:Aside (cTo L ((n-1)*256+(c+1))=some ⟨s1.o.set c D.reverse,D,true⟩):=by
          show _=_;rw[ac.o];unfold Oq;rw[if_pos HE.o,HN.o,Option.map_some,aA.o]
         have ab:Aside (TR W3 b2 s1.o/\Aa (fun j=>j=b2) W W3):=⟨B.o.1.kept ax.o id,B.o.2.trans ax.o (fun _ _ h=>h.elim)⟩;have co:=ab.o.1.cell (i:=c) (by rw[A.o.2.2];exact af);have fo:=ab.o.1.free c;generalize(⟨(Ae (s1.o.getD c [])).toArray⟩:ByteArray)=old at co;have aK:(c:Int)<256:=by omega
         go_wp2_with fail;go_roundw
         case rel=>
          refine⟨c+1,⟨s1.o.set c D.reverse,D,true⟩,by omega,by go_num,rfl,by rw[HS.o],⟨aE.o,by show D.length<=n;omega,?_⟩,?_,?_⟩
          ·show(s1.o.set c D.reverse).length=256;rw[Abb];exact A.o.2.2
          ·rw[HS.o];exact ab.o.1.set c D.reverse
          ·exact ab.o.2.setCell (p:=(J b2 c)) (.inr rfl) _
         case measure=>simp[intOf];omega
     ·have a7:((L.getD c 0:Nat):Int)≠(n:Int):=by omega
      have aJ:=Aat.2 a7;have aD:Aside (cTo L ((n-1)*256+(c+1))=some s1):=by show _=_;rw[ac.o];unfold Oq;rw[if_neg he]
      clear he;clear ac;generalize L.getD c 0=x at ar a1 a7 aJ;go_wp2;go_roundw
      case rel=>exact⟨c+1,s1,by omega,by go_num,rfl,rfl,⟨aD.o,A.o.2⟩,B.o.1,B.o.2⟩
      case measure=>simp[intOf];omega
    ·have T:c=256:=by omega
     have U:decide ((c:Int)<256)=false:=zM (by omega);have HE:=aZ T;clear T;have aj:=A.o.2.1;go_wp2;go_roundw
     case rel=>exact⟨n+1,s1,by omega,by omega,by go_num,rfl,rfl,⟨by rw[show(n+1-1)*256=(n-1)*256+c from by have:=HE.o;omega];exact A.o.1,by omega,A.o.2.2⟩,B.o.1,B.o.2⟩
     case measure=>simp[intOf];omega
  ·have V:n=256:=by omega
   have U:decide ((n:Int)<256)=false:=zM (by omega);have l:=fun W=>Yr s.code W (by omega);have HT:Aside (cTo L 65280=some s):=by
    have:=Z.o.1;rwa[V]at this
   obtain⟨S2,more,G,a6⟩: ∃(S2:ByteArray) (m:Bool),J9 s.code= .tuple #[.string S2,.bool m]/\(Gl s.code).isNone=!m:=by
    unfold J9;cases Gl s.code with
    |none=>exact⟨_,_,rfl,rfl⟩
    |some R=>exact⟨_,_,rfl,rfl⟩
   rw[G]at l;obtain⟨S,hS⟩:=gx (⟨(Ae s.code.reverse).toArray⟩:ByteArray);rw[<-hS]at l|-;obtain⟨z,hz⟩: ∃z,(S.toList==[48])=z:=⟨_,rfl⟩;have a8:(s.code==[false])=z:=by
    rw[<-hz,hS,Aa2];exact yS s.code
   obtain⟨on,E⟩: ∃o,o=s.on:=⟨_,rfl⟩;rw[<-E];have Q:Aside (∀ok,ok=(!on||(!more||(z&&decide ((Aj L).length=1))))->Cx L s.o ok):=by
    intro ok aM;refine Cx.of (some s) HT.o ⟨rfl,?_⟩;rw[a6,a8,<-E];exact aM
   clear G a6 a8 hS E V;have ba:=aZ HR;go_upto_region 20 with fail
   go_wp2_with fail;refine(l _).mono ?_;rintro e C ⟨rfl,r⟩;obtain⟨k,F⟩: ∃a,a=(Ar s.o).toArray:=⟨_,rfl⟩;have f:k.size=256:=by rw[F,Aaa,Bp];exact Z.o.2.2
   have ah:k.all (·.oneCell')=true:=by rw[F];exact L0 _
   have u:C.heap[b2]?=some (.cells k 113 (0,0)):=by rw[F];exact HR.o.1.kept r id
   have t:C.heap[w.heap.size]?=some (.cells (Ad L).toArray 94 (0,0)):=(HW.o.1.kept HR.o.2 n0).kept r id;have ag:C.heap[b1]?=some (.cells (Ar (List.replicate 256 [])).toArray 113 (0,0)):=(HW.o.2.1.kept HR.o.2 n1).kept r id;have N:Aee w C:=(HW.o.2.2.2.trans HR.o.2 (fun j h1 h2=>by have:=H.o;omega)).tr r;clear r l;have g:=aZ F;clear F;go_upto_region 21 with fail
   obtain⟨q,hq⟩:=gx (decide ((Aj L).length=1));rw[<-hq]at HO Q;have HQ:=aZ HO;clear hq;cases on with
   |false=>
    refine Aca (S:=fun X=>X.heap[b2]?=some (.cells k 113 (0,0))/\X.heap[w.heap.size]?=some (.cells (Ad L).toArray 94 (0,0))) (by kernel_rfl) ?_ (fun hHeld=>?_)
    ·exact⟨u,t⟩
    refine tK 0 ⟨some 50,.load 113 (.tmp 4),113,"hoardref.go:154",#[],none⟩ (.agg k) (fun X hX => Fi X 113 (.tmp 4) rfl b2 rfl 113 k (0, 0) _ hX.1 underlying113 rfl (by rw [f]; exact C9)) ?_
    simp only[Act.put,zO,zW,z5]
    refine tW 1 ⟨some 51,.move (.tmp 6),4,"hoardref.go:154",#[],none⟩ (.bool false) ?_
    refine tW 2 ⟨some 52,.unOp .not 4 (.tmp 51),4,"hoardref.go:154",#[⟨1,.data⟩],none⟩ (.bool true) ?_
    refine tW 3 ⟨some 53,.move (.tmp 52),4,"hoardref.go:154",#[⟨2,.data⟩],none⟩ (.bool true) ?_
    refine tU 4 ⟨some 54,.move (.tmp 12),4,"hoardref.go:154",#[⟨3,.guard⟩],some (3,false)⟩ ?_
    simp only[Act.put,zO,zW,z5]
    refine tU 5 ⟨some 55,.unOp .not 4 (.tmp 54),4,"hoardref.go:154",#[⟨4,.data⟩,⟨3,.guard⟩],some (3,false)⟩ ?_
    simp only[Act.put,zO,zW,z5]
    refine tW 6 ⟨some 56,.pick (.tmp 53) (.const (.bool true)) (.tmp 55),4,"hoardref.go:154",#[⟨3,.data⟩,⟨5,.data⟩],none⟩ (.bool true) ?_
    refine tW 7 ⟨some 57,.move (.tmp 56),4,"hoardref.go:154",#[⟨6,.data⟩,⟨3,.chain⟩],none⟩ (.bool true) ?_
    refine tU 8 ⟨some 58,.move (.tmp 5),9,"hoardref.go:154",#[⟨7,.guard⟩],some (7,false)⟩ ?_
    simp only[Act.put,zO,zW,z5]
    refine tU 9 ⟨some 59,.binOp .eql 9 (.tmp 58) (.const (.string { data := #[48] })) 9,4,"hoardref.go:154",#[⟨8,.data⟩,⟨7,.guard⟩],some (7,false)⟩ ?_
    simp only[Act.put,zO,zW,z5]
    refine tU 10 ⟨some 60,.move (.tmp 59),4,"hoardref.go:154",#[⟨9,.data⟩,⟨7,.chain⟩,⟨7,.guard⟩],some (7,false)⟩ ?_
    simp only[Act.put,zO,zW,z5]
    refine tU 11 ⟨some 61,.load 94 (.tmp 1),94,"hoardref.go:154",#[⟨10,.guard⟩],some (10,true)⟩ ?_
    simp only[Act.put,zO,zW,z5]
    refine tU 12 ⟨some 62,.call ⟨.value (.func 89),#[.tmp 61],#[94]⟩,4,"hoardref.go:154",#[⟨11,.data⟩,⟨10,.chain⟩,⟨10,.guard⟩],some (10,true)⟩ ?_
    simp only[Act.put,zO,zW,z5]
    refine tU 13 ⟨some 63,.pick (.tmp 60) (.tmp 62) (.const (.bool false)),4,"hoardref.go:154",#[⟨10,.data⟩,⟨12,.data⟩,⟨7,.guard⟩,⟨15,.gcOnly .lateStores⟩],some (7,false)⟩ ?_
    simp only[Act.put,zO,zW,z5]
    refine tW 14 ⟨some 64,.pick (.tmp 57) (.const (.bool true)) (.tmp 63),4,"hoardref.go:154",#[⟨7,.data⟩,⟨13,.data⟩,⟨15,.gcOnly .lateStores⟩],none⟩ (.bool true) ?_
    refine Aaq (rs:=[15]) (by kernel_rfl) (by simp) ?_;refine Aad rfl (fun K hK=>?_) Aal
    refine Cd _ (op := ⟨none,.store 113 (.tmp 2) (.tmp 50),0,"hoardref.go:154",#[⟨0,.data⟩,⟨12,.chain⟩,⟨0,.phase⟩,⟨1,.textOnly .lateStores⟩,⟨2,.textOnly .lateStores⟩,⟨3,.textOnly .lateStores⟩,⟨4,.textOnly .lateStores⟩,⟨5,.textOnly .lateStores⟩,⟨6,.textOnly .lateStores⟩,⟨7,.textOnly .lateStores⟩,⟨8,.textOnly .lateStores⟩,⟨9,.textOnly .lateStores⟩,⟨10,.textOnly .lateStores⟩,⟨11,.textOnly .lateStores⟩,⟨12,.textOnly .lateStoresUnsure⟩,⟨13,.textOnly .lateStores⟩,⟨14,.textOnly .lateStores⟩],none⟩) rfl 113 (.tmp 2) (.tmp 50) rfl b1 113 (Ar (List.replicate 256 [])).toArray k rfl rfl ((Aa.refl (fun _ => False) C).drew.row ag id) (by rw [f]; exact C9) (by rw [f, List.size_toArray, Bp, List.length_replicate]) ah ?_
    intro P O y;have d:Aa (fun j=>j=b1) C P:=(Aa.refl (fun j=>j=b1) C).drew.tr y;refine hK.o _ _ ⟨d.row u (fun e=>n1 e.symm),d.row t (by have:=H.o;omega)⟩ (fun hHeld=>?_);clear hK K y;refine Aaq (rs:=[16]) (by kernel_rfl) (by simp) ?_;refine Aad rfl (fun K hK=>?_) Aal;go_simp;refine hK.o _ _ ⟨d.row u (fun e=>n1 e.symm),d.row t (by have:=H.o;omega)⟩ (fun hHeld=>?_);clear hK K;refine Ach (by kernel_rfl) ?_ _;have M:Aside (Cx L s.o (true)):=Q.o (true) rfl;go_wp2_with fail;refine Aa8 (v:= .tuple #[.agg k,.bool (true)]) (I8 results45 _ P b1 113 _ (0,0) _ rfl O underlying113 rfl (by rw[f];exact C9)) rfl ⟨⟨s.o,true,Z.o.2.2,by rw[g.o],M.o⟩,?_⟩;exact N.trans d (fun j h1 h2=>by have:=H.o;omega)
   |true=>
    cases more with
    |false=>
     refine Aca (S:=fun X=>X.heap[b2]?=some (.cells k 113 (0,0))/\X.heap[w.heap.size]?=some (.cells (Ad L).toArray 94 (0,0))) (by kernel_rfl) ?_ (fun hHeld=>?_)
     ·exact⟨u,t⟩
     refine tK 0 ⟨some 50,.load 113 (.tmp 4),113,"hoardref.go:154",#[],none⟩ (.agg k) (fun X hX => Fi X 113 (.tmp 4) rfl b2 rfl 113 k (0, 0) _ hX.1 underlying113 rfl (by rw [f]; exact C9)) ?_
     simp only[Act.put,zO,zW,z5]
     refine tW 1 ⟨some 51,.move (.tmp 6),4,"hoardref.go:154",#[],none⟩ (.bool true) ?_
     refine tW 2 ⟨some 52,.unOp .not 4 (.tmp 51),4,"hoardref.go:154",#[⟨1,.data⟩],none⟩ (.bool false) ?_
     refine tW 3 ⟨some 53,.move (.tmp 52),4,"hoardref.go:154",#[⟨2,.data⟩],none⟩ (.bool false) ?_
     refine tW 4 ⟨some 54,.move (.tmp 12),4,"hoardref.go:154",#[⟨3,.guard⟩],some (3,false)⟩ (.bool false) ?_
     refine tW 5 ⟨some 55,.unOp .not 4 (.tmp 54),4,"hoardref.go:154",#[⟨4,.data⟩,⟨3,.guard⟩],some (3,false)⟩ (.bool true) ?_
     refine tW 6 ⟨some 56,.pick (.tmp 53) (.const (.bool true)) (.tmp 55),4,"hoardref.go:154",#[⟨3,.data⟩,⟨5,.data⟩],none⟩ (.bool true) ?_
     refine tW 7 ⟨some 57,.move (.tmp 56),4,"hoardref.go:154",#[⟨6,.data⟩,⟨3,.chain⟩],none⟩ (.bool true) ?_
     refine tU 8 ⟨some 58,.move (.tmp 5),9,"hoardref.go:154",#[⟨7,.guard⟩],some (7,false)⟩ ?_
     simp only[Act.put,zO,zW,z5]
     refine tU 9 ⟨some 59,.binOp .eql 9 (.tmp 58) (.const (.string { data := #[48] })) 9,4,"hoardref.go:154",#[⟨8,.data⟩,⟨7,.guard⟩],some (7,false)⟩ ?_
     simp only[Act.put,zO,zW,z5]
     refine tU 10 ⟨some 60,.move (.tmp 59),4,"hoardref.go:154",#[⟨9,.data⟩,⟨7,.chain⟩,⟨7,.guard⟩],some (7,false)⟩ ?_
     simp only[Act.put,zO,zW,z5]
     refine tU 11 ⟨some 61,.load 94 (.tmp 1),94,"hoardref.go:154",#[⟨10,.guard⟩],some (10,true)⟩ ?_
     simp only[Act.put,zO,zW,z5]
     refine tU 12 ⟨some 62,.call ⟨.value (.func 89),#[.tmp 61],#[94]⟩,4,"hoardref.go:154",#[⟨11,.data⟩,⟨10,.chain⟩,⟨10,.guard⟩],some (10,true)⟩ ?_
     simp only[Act.put,zO,zW,z5]
     refine tU 13 ⟨some 63,.pick (.tmp 60) (.tmp 62) (.const (.bool false)),4,"hoardref.go:154",#[⟨10,.data⟩,⟨12,.data⟩,⟨7,.guard⟩,⟨15,.gcOnly .lateStores⟩],some (7,false)⟩ ?_
     simp only[Act.put,zO,zW,z5]
     refine tW 14 ⟨some 64,.pick (.tmp 57) (.const (.bool true)) (.tmp 63),4,"hoardref.go:154",#[⟨7,.data⟩,⟨13,.data⟩,⟨15,.gcOnly .lateStores⟩],none⟩ (.bool true) ?_
     refine Aaq (rs:=[15]) (by kernel_rfl) (by simp) ?_;refine Aad rfl (fun K hK=>?_) Aal
     refine Cd _ (op := ⟨none,.store 113 (.tmp 2) (.tmp 50),0,"hoardref.go:154",#[⟨0,.data⟩,⟨12,.chain⟩,⟨0,.phase⟩,⟨1,.textOnly .lateStores⟩,⟨2,.textOnly .lateStores⟩,⟨3,.textOnly .lateStores⟩,⟨4,.textOnly .lateStores⟩,⟨5,.textOnly .lateStores⟩,⟨6,.textOnly .lateStores⟩,⟨7,.textOnly .lateStores⟩,⟨8,.textOnly .lateStores⟩,⟨9,.textOnly .lateStores⟩,⟨10,.textOnly .lateStores⟩,⟨11,.textOnly .lateStores⟩,⟨12,.textOnly .lateStoresUnsure⟩,⟨13,.textOnly .lateStores⟩,⟨14,.textOnly .lateStores⟩],none⟩) rfl 113 (.tmp 2) (.tmp 50) rfl b1 113 (Ar (List.replicate 256 [])).toArray k rfl rfl ((Aa.refl (fun _ => False) C).drew.row ag id) (by rw [f]; exact C9) (by rw [f, List.size_toArray, Bp, List.length_replicate]) ah ?_
     intro P O y;have d:Aa (fun j=>j=b1) C P:=(Aa.refl (fun j=>j=b1) C).drew.tr y;refine hK.o _ _ ⟨d.row u (fun e=>n1 e.symm),d.row t (by have:=H.o;omega)⟩ (fun hHeld=>?_);clear hK K y;refine Aaq (rs:=[16]) (by kernel_rfl) (by simp) ?_;refine Aad rfl (fun K hK=>?_) Aal;go_simp;refine hK.o _ _ ⟨d.row u (fun e=>n1 e.symm),d.row t (by have:=H.o;omega)⟩ (fun hHeld=>?_);clear hK K;refine Ach (by kernel_rfl) ?_ _;have M:Aside (Cx L s.o (true)):=Q.o (true) rfl;go_wp2_with fail;refine Aa8 (v:= .tuple #[.agg k,.bool (true)]) (I8 results45 _ P b1 113 _ (0,0) _ rfl O underlying113 rfl (by rw[f];exact C9)) rfl ⟨⟨s.o,true,Z.o.2.2,by rw[g.o],M.o⟩,?_⟩;exact N.trans d (fun j h1 h2=>by have:=H.o;omega)
    |true=>
     cases z with
     |false=>
      refine Aca (S:=fun X=>X.heap[b2]?=some (.cells k 113 (0,0))/\X.heap[w.heap.size]?=some (.cells (Ad L).toArray 94 (0,0))) (by kernel_rfl) ?_ (fun hHeld=>?_)
      ·exact⟨u,t⟩
      refine tK 0 ⟨some 50,.load 113 (.tmp 4),113,"hoardref.go:154",#[],none⟩ (.agg k) (fun X hX => Fi X 113 (.tmp 4) rfl b2 rfl 113 k (0, 0) _ hX.1 underlying113 rfl (by rw [f]; exact C9)) ?_
      simp only[Act.put,zO,zW,z5]
      refine tW 1 ⟨some 51,.move (.tmp 6),4,"hoardref.go:154",#[],none⟩ (.bool true) ?_
      refine tW 2 ⟨some 52,.unOp .not 4 (.tmp 51),4,"hoardref.go:154",#[⟨1,.data⟩],none⟩ (.bool false) ?_
      refine tW 3 ⟨some 53,.move (.tmp 52),4,"hoardref.go:154",#[⟨2,.data⟩],none⟩ (.bool false) ?_
      refine tW 4 ⟨some 54,.move (.tmp 12),4,"hoardref.go:154",#[⟨3,.guard⟩],some (3,false)⟩ (.bool true) ?_
      refine tW 5 ⟨some 55,.unOp .not 4 (.tmp 54),4,"hoardref.go:154",#[⟨4,.data⟩,⟨3,.guard⟩],some (3,false)⟩ (.bool false) ?_
      refine tW 6 ⟨some 56,.pick (.tmp 53) (.const (.bool true)) (.tmp 55),4,"hoardref.go:154",#[⟨3,.data⟩,⟨5,.data⟩],none⟩ (.bool false) ?_
      refine tW 7 ⟨some 57,.move (.tmp 56),4,"hoardref.go:154",#[⟨6,.data⟩,⟨3,.chain⟩],none⟩ (.bool false) ?_
      refine tW 8 ⟨some 58,.move (.tmp 5),9,"hoardref.go:154",#[⟨7,.guard⟩],some (7,false)⟩ (.string S) ?_
      refine tK 9 ⟨some 59,.binOp .eql 9 (.tmp 58) (.const (.string { data := #[48] })) 9,4,"hoardref.go:154",#[⟨8,.data⟩,⟨7,.guard⟩],some (7,false)⟩ (.bool false) ?_ ?_
      ·intro X aH;go_simp;try(first|rw[hz]|(simp only[hz]))
      simp only[Act.put,zO,zW,z5]
      refine tW 10 ⟨some 60,.move (.tmp 59),4,"hoardref.go:154",#[⟨9,.data⟩,⟨7,.chain⟩,⟨7,.guard⟩],some (7,false)⟩ (.bool false) ?_
      refine tU 11 ⟨some 61,.load 94 (.tmp 1),94,"hoardref.go:154",#[⟨10,.guard⟩],some (10,true)⟩ ?_
      simp only[Act.put,zO,zW,z5]
      refine tU 12 ⟨some 62,.call ⟨.value (.func 89),#[.tmp 61],#[94]⟩,4,"hoardref.go:154",#[⟨11,.data⟩,⟨10,.chain⟩,⟨10,.guard⟩],some (10,true)⟩ ?_
      simp only[Act.put,zO,zW,z5]
      refine tW 13 ⟨some 63,.pick (.tmp 60) (.tmp 62) (.const (.bool false)),4,"hoardref.go:154",#[⟨10,.data⟩,⟨12,.data⟩,⟨7,.guard⟩,⟨15,.gcOnly .lateStores⟩],some (7,false)⟩ (.bool false) ?_
      refine tW 14 ⟨some 64,.pick (.tmp 57) (.const (.bool true)) (.tmp 63),4,"hoardref.go:154",#[⟨7,.data⟩,⟨13,.data⟩,⟨15,.gcOnly .lateStores⟩],none⟩ (.bool false) ?_
      refine Aaq (rs:=[15]) (by kernel_rfl) (by simp) ?_;refine Aad rfl (fun K hK=>?_) Aal
      refine Cd _ (op := ⟨none,.store 113 (.tmp 2) (.tmp 50),0,"hoardref.go:154",#[⟨0,.data⟩,⟨12,.chain⟩,⟨0,.phase⟩,⟨1,.textOnly .lateStores⟩,⟨2,.textOnly .lateStores⟩,⟨3,.textOnly .lateStores⟩,⟨4,.textOnly .lateStores⟩,⟨5,.textOnly .lateStores⟩,⟨6,.textOnly .lateStores⟩,⟨7,.textOnly .lateStores⟩,⟨8,.textOnly .lateStores⟩,⟨9,.textOnly .lateStores⟩,⟨10,.textOnly .lateStores⟩,⟨11,.textOnly .lateStores⟩,⟨12,.textOnly .lateStoresUnsure⟩,⟨13,.textOnly .lateStores⟩,⟨14,.textOnly .lateStores⟩],none⟩) rfl 113 (.tmp 2) (.tmp 50) rfl b1 113 (Ar (List.replicate 256 [])).toArray k rfl rfl ((Aa.refl (fun _ => False) C).drew.row ag id) (by rw [f]; exact C9) (by rw [f, List.size_toArray, Bp, List.length_replicate]) ah ?_
      intro P O y;have d:Aa (fun j=>j=b1) C P:=(Aa.refl (fun j=>j=b1) C).drew.tr y;refine hK.o _ _ ⟨d.row u (fun e=>n1 e.symm),d.row t (by have:=H.o;omega)⟩ (fun hHeld=>?_);clear hK K y;refine Aaq (rs:=[16]) (by kernel_rfl) (by simp) ?_;refine Aad rfl (fun K hK=>?_) Aal;go_simp;refine hK.o _ _ ⟨d.row u (fun e=>n1 e.symm),d.row t (by have:=H.o;omega)⟩ (fun hHeld=>?_);clear hK K;refine Ach (by kernel_rfl) ?_ _;have M:Aside (Cx L s.o (false)):=Q.o (false) rfl;go_wp2_with fail;refine Aa8 (v:= .tuple #[.agg k,.bool (false)]) (I8 results45 _ P b1 113 _ (0,0) _ rfl O underlying113 rfl (by rw[f];exact C9)) rfl ⟨⟨s.o,false,Z.o.2.2,by rw[g.o],M.o⟩,?_⟩;exact N.trans d (fun j h1 h2=>by have:=H.o;omega)
     |true=>
      refine Aca (S:=fun X=>X.heap[b2]?=some (.cells k 113 (0,0))/\X.heap[w.heap.size]?=some (.cells (Ad L).toArray 94 (0,0))) (by kernel_rfl) ?_ (fun hHeld=>?_)
      ·exact⟨u,t⟩
      refine tK 0 ⟨some 50,.load 113 (.tmp 4),113,"hoardref.go:154",#[],none⟩ (.agg k) (fun X hX => Fi X 113 (.tmp 4) rfl b2 rfl 113 k (0, 0) _ hX.1 underlying113 rfl (by rw [f]; exact C9)) ?_
      simp only[Act.put,zO,zW,z5]
      refine tW 1 ⟨some 51,.move (.tmp 6),4,"hoardref.go:154",#[],none⟩ (.bool true) ?_
      refine tW 2 ⟨some 52,.unOp .not 4 (.tmp 51),4,"hoardref.go:154",#[⟨1,.data⟩],none⟩ (.bool false) ?_
      refine tW 3 ⟨some 53,.move (.tmp 52),4,"hoardref.go:154",#[⟨2,.data⟩],none⟩ (.bool false) ?_
      refine tW 4 ⟨some 54,.move (.tmp 12),4,"hoardref.go:154",#[⟨3,.guard⟩],some (3,false)⟩ (.bool true) ?_
      refine tW 5 ⟨some 55,.unOp .not 4 (.tmp 54),4,"hoardref.go:154",#[⟨4,.data⟩,⟨3,.guard⟩],some (3,false)⟩ (.bool false) ?_
      refine tW 6 ⟨some 56,.pick (.tmp 53) (.const (.bool true)) (.tmp 55),4,"hoardref.go:154",#[⟨3,.data⟩,⟨5,.data⟩],none⟩ (.bool false) ?_
      refine tW 7 ⟨some 57,.move (.tmp 56),4,"hoardref.go:154",#[⟨6,.data⟩,⟨3,.chain⟩],none⟩ (.bool false) ?_
      refine tW 8 ⟨some 58,.move (.tmp 5),9,"hoardref.go:154",#[⟨7,.guard⟩],some (7,false)⟩ (.string S) ?_
      refine tK 9 ⟨some 59,.binOp .eql 9 (.tmp 58) (.const (.string { data := #[48] })) 9,4,"hoardref.go:154",#[⟨8,.data⟩,⟨7,.guard⟩],some (7,false)⟩ (.bool true) ?_ ?_
      ·intro X aH;go_simp;try(first|rw[hz]|(simp only[hz]))
      simp only[Act.put,zO,zW,z5]
      refine tW 10 ⟨some 60,.move (.tmp 59),4,"hoardref.go:154",#[⟨9,.data⟩,⟨7,.chain⟩,⟨7,.guard⟩],some (7,false)⟩ (.bool true) ?_
      refine tK 11 ⟨some 61,.load 94 (.tmp 1),94,"hoardref.go:154",#[⟨10,.guard⟩],some (10,true)⟩ (.agg (Ad L).toArray) (fun X hX => Fi X 94 (.tmp 1) rfl w.heap.size rfl 94 (Ad L).toArray (0, 0) _ hX.2 underlying94 rfl (by rw [Ba, HL.o]; exact D7)) ?_
      simp only[Act.put,zO,zW,z5];refine Aaq (rs:=[12]) (by kernel_rfl) (by simp) ?_;refine Aad rfl (fun K hK=>?_) Aal;go_simp;refine(HQ.o _).mono ?_;rintro e wa ⟨rfl,a4⟩;have ae:Aee C wa:=(Aa.refl (fun _=>False) C).drew.tr a4;refine hK.o _ _ ⟨ae.row u id,ae.row t id⟩ (fun hHeld=>?_);clear hK K a4
      refine tW 13 ⟨some 63,.pick (.tmp 60) (.tmp 62) (.const (.bool false)),4,"hoardref.go:154",#[⟨10,.data⟩,⟨12,.data⟩,⟨7,.guard⟩,⟨15,.gcOnly .lateStores⟩],some (7,false)⟩ (.bool q) ?_
      refine tW 14 ⟨some 64,.pick (.tmp 57) (.const (.bool true)) (.tmp 63),4,"hoardref.go:154",#[⟨7,.data⟩,⟨13,.data⟩,⟨15,.gcOnly .lateStores⟩],none⟩ (.bool q) ?_
      refine Aaq (rs:=[15]) (by kernel_rfl) (by simp) ?_;refine Aad rfl (fun K hK=>?_) Aal
      refine Cd _ (op := ⟨none,.store 113 (.tmp 2) (.tmp 50),0,"hoardref.go:154",#[⟨0,.data⟩,⟨12,.chain⟩,⟨0,.phase⟩,⟨1,.textOnly .lateStores⟩,⟨2,.textOnly .lateStores⟩,⟨3,.textOnly .lateStores⟩,⟨4,.textOnly .lateStores⟩,⟨5,.textOnly .lateStores⟩,⟨6,.textOnly .lateStores⟩,⟨7,.textOnly .lateStores⟩,⟨8,.textOnly .lateStores⟩,⟨9,.textOnly .lateStores⟩,⟨10,.textOnly .lateStores⟩,⟨11,.textOnly .lateStores⟩,⟨12,.textOnly .lateStoresUnsure⟩,⟨13,.textOnly .lateStores⟩,⟨14,.textOnly .lateStores⟩],none⟩) rfl 113 (.tmp 2) (.tmp 50) rfl b1 113 (Ar (List.replicate 256 [])).toArray k rfl rfl (ae.row ag id) (by rw [f]; exact C9) (by rw [f, List.size_toArray, Bp, List.length_replicate]) ah ?_
      intro P O y;have d:Aa (fun j=>j=b1) C P:=(ae.wider (fun _ _ h=>h.elim)).tr y;refine hK.o _ _ ⟨d.row u (fun e=>n1 e.symm),d.row t (by have:=H.o;omega)⟩ (fun hHeld=>?_);clear hK K y;refine Aaq (rs:=[16]) (by kernel_rfl) (by simp) ?_;refine Aad rfl (fun K hK=>?_) Aal;go_simp;refine hK.o _ _ ⟨d.row u (fun e=>n1 e.symm),d.row t (by have:=H.o;omega)⟩ (fun hHeld=>?_);clear hK K;refine Ach (by kernel_rfl) ?_ _;have M:Aside (Cx L s.o (q)):=Q.o (q) rfl;go_wp2_with fail;refine Aa8 (v:= .tuple #[.agg k,.bool (q)]) (I8 results45 _ P b1 113 _ (0,0) _ rfl O underlying113 rfl (by rw[f];exact C9)) rfl ⟨⟨s.o,q,Z.o.2.2,by rw[g.o],M.o⟩,?_⟩;exact N.trans d (fun j h1 h2=>by have:=H.o;omega)
end
end Go.Proofs.YtegnkfdbmmndaaaGreat
