import Derived.Test.YtegnkfdbmmndaaaGreatK25

set_option maxHeartbeats 8000000
set_option maxRecDepth 100000
namespace Go.Proofs.YtegnkfdbmmndaaaGreat
open Hm Go.Proofs.Tryz
variable{V w w':World}{B c g i pg:Nat}{xs:Aei}{v x:Value}{yo:Aej}{l:List (List Bool)}{h:List Bool}
section
open Go.RowKit
theorem dP{P:Program}{ρ:Operand->Value}{o:Oper}(w:World)(a b:TypeId)(x:Operand)(c:o.op= .convert a b x)(v r:Value)(d:ρ x=v)(h:(convert a b v).run P w= .ok r w):(execOp ρ o).run P w= .ok (.value r) w:=by
 unfold execOp;simp only[c,d,Sem.run_bind,h,Ac9,Sem.run_pure]
theorem Kt(ao:Aej)(c:Nat)(fs:Aef)(w:World)(hf:Az w ao fs)(hl:fs.length<=140737488355328)(cm: ∀f∈fs,f.1.size<=140737488355328/\f.2.size<=140737488355328):
  Calls prog 16 #[.slice ao fs.length c] w fun e w'=>J3 fs e/\Aee w w':=by
 have ax:=lF ao c fs w hf hl cm
 by_cases he:Bu fs=0
 ·obtain⟨hm,bG,hn⟩:=Ia he;have HT:Aside (G6 fs=Ac fs):=rfl;have hC:=Hj (Ac fs) hn;obtain⟨N,h0,hE⟩:=hC.ends;obtain⟨i0,hi,da,db,dd⟩:=Aa6 Ft;have HF:Aside (Az w ao fs/\(∀f∈fs,f.1.size<=32/\f.2.size<=3000)/\Bz (lens (Ac fs))/\0<N/\Hm.Ends 32 (lnB (lens (Ac fs))) (Af (lens (Ac fs))) N/\Bu fs=0):=⟨hf,bG,hC,h0,hE,he⟩;have V:=fun W (hk:Aee w W)=>oE ao c fs W (hf.kept hk (fun _ _=>id)) hm (fun f hf=>(bG f hf).2);have dz:Aside _:=V;rw[he]at ax;clear hf cm hl bG hC h0 hE he V;obtain⟨a,V⟩:=gx (⟨(G6 fs).toArray⟩:ByteArray);have dN:a.size=(Ac fs).length:=by rw[V];show(G6 fs).toArray.size=_;rw[Aaa];rfl
  have U:Aside (a.data.toList=Ac fs/\a=(⟨(G6 fs).toArray⟩:ByteArray)):=⟨by rw[V];rfl,V⟩;have ce:a.size<=6000:=by omega
  have c6:Aside (∀W,Calls prog 40 #[.string a,.int .i64 0,.int .i64 ((a.size:Int)+1)] W fun e w'=> ∃v ps,e= .returned v/\J8 a.data.toList 0 (a.size+1) ps/\w'.ownsRow W.heap.size 3 1 v ps.length (Ad ps)/\Aee W w'):=fun W=>by
   have h:=Un a ce (a.size+1) 0 (a.size+1) W (by omega) (by omega) (zK _);rw[show((a.size+1:Nat):Int)=(a.size:Int)+1 from by omega]at h;exact h
  clear V dN hn
  go_enter func16,ntmps16
  go_wp2_with fail;refine ax.mono ?_;rintro e w2 ⟨rfl,ah⟩;have a9:=dz.o w2 ah;rw[<-U.o.2]at a9;clear ax;go_wp2_with fail;refine a9.mono ?_;rintro e w3 ⟨rfl,eD⟩;subst w3;clear a9;go_wp2_with fail;refine(c6.o _).mono ?_;rintro e w4 ⟨v,ps,rfl,F,a4,bk⟩;have ci:ps.length=a.size+1:=by have:=F.len;omega
  obtain⟨gp,cp,hv,_,_⟩:=Co a4 (by omega);subst hv;have b3:=ah.tr bk;have b8:D4 (Ac fs) ps:=by
   have h:=F;have e1:a.size=a.data.toList.length:=by simp
   rw[e1]at h;have h2:=h.sorted;rwa[U.o.1]at h2
  have cj: ∀x∈ps,x<=a.size:=fun x hx=>by have:=(F.mem x hx).2;omega
  have H4:Aside (D4 (Ac fs) ps/\w4.ownsRow w2.heap.size 3 1 (.slice (some ⟨gp,0,none⟩) ps.length cp) ps.length (Ad ps)/\Aee w w4/\ ∀x∈ps,x<=a.size):=⟨b8,a4,b3,cj⟩;clear F a4 bk ah b3 b8 cj c6
  go_wp2_with(at_make;refine wpList_make_own _ rfl _ _ 79 rfl w4.heap.size 5 i0 (.int .u8 0) 1 underlying79 hi da db .i64 .i64 _ a.size rfl rfl rfl (by rw[dd];omega) (by unfold maxLen;omega) (zK _) ?_;intro w5 cX cM)
  have a1:Aee w4 w5:=(Aa.refl _ _).grown cM (fun k hk=>by cases hk);clear cM
  go_loopw[8,9,10] (fun vr vc vi wr=> ∃i:Nat,i<=a.size+1/\vi= .int .i64 i/\vr= .int .i64 (Ln ps i:Nat)/\Aside (wr.ownsRow w4.heap.size 5 1 vc (Am (Ac fs) (ps.take i)).length (Ag (Am (Ac fs) (ps.take i))))/\Aee w4 wr) (fun _ _ vi _=>a.size+1-(intOf vi).toNat)
  case atStart=>exact⟨0,by omega,rfl,rfl,cX,a1⟩
  case round=>
   clear cX a1;obtain⟨i,e5,rfl,rfl,HO,g⟩:=hrel;have ai:=g.owns H4.o.2.1 (fun _ _ h=>h);have M:=aZ g;obtain⟨ab,cb,dO,_⟩:=An HO.o;subst dO
   by_cases e9:i<a.size+1
   ·have Q:decide ((i:Int)<=(a.size:Int))=true:=zJ (by omega);have cd:i<ps.length:=by omega
    have e4:(i:Int)<(ps.length:Int):=by omega
    have d9:wr.cell? ⟨gp,i,none⟩=some (.int .i64 (ps[i]:Nat)):=by
     rw[ai.cellAt i (by omega)];simp[Ad,cd]
    have dQ:ps[i]<=a.size:=H4.o.2.2.2 _ (z6 _);have aN:=oO (n:=(Ac fs).length) H4.o.1.perm i cd;have aK:=aJ (Ac fs) ps i cd;have bX:(Am (Ac fs) (ps.take i)).length<=6001:=by
     unfold Am;rw[Aai];have h1:=Ac7 (fun p=>decide (0<p)) (ps.take i);rw[zS]at h1;omega
    have O:=aZ (aI aN aK);clear aN aK ai g;obtain⟨x,hx⟩:=gx (ps[i]);rw[<-hx]at d9 dQ O;clear hx
    by_cases aj:x=0
    ·subst aj;have HE:Aside (Ln ps (i+1)=i/\Am (Ac fs) (ps.take (i+1))=Am (Ac fs) (ps.take i)):=⟨by rw[O.o.1,if_pos rfl],by rw[O.o.2];simp⟩;clear O;go_wp2_with fail;go_roundw
     case rel=>
      refine⟨i+1,by omega,by go_num,by rw[HE.o.1],?_,M.o⟩;show World.ownsRow _ _ _ _ _ _ _;rw[HE.o.2];exact HO.o
     case measure=>simp[intOf];omega
    ·obtain⟨y,hy⟩: ∃y,x=y+1:=⟨x-1,by omega⟩;have hq:((x:Int)==0)=false:=by rw[Aat];omega
     have eE:IntKind.i64.wrap ((x:Int)-1)=(y:Int):=by rw[Aar];omega
     have bp:y<a.size:=by omega
     have eF:(y:Int)<(a.size:Int):=by omega
     have HE:Aside (Ln ps (i+1)=Ln ps i/\(Am (Ac fs) (ps.take (i+1))).length=(Am (Ac fs) (ps.take i)).length+1/\Ag (Am (Ac fs) (ps.take (i+1)))=Ag (Am (Ac fs) (ps.take i))++[.int .u8 ((a[y]'bp).toNat:Nat)]):=by
      have dR:y<a.data.toList.length:=by simpa using bp
      have e1:(Ac fs).getD (x-1) 0=a[y]'bp:=by
       rw[hy,Acn,<-U.o.1,zG,zH dR];rfl
      refine⟨by rw[O.o.1,if_neg aj],?_,?_⟩
      ·rw[O.o.2,iP];simp
      ·rw[O.o.2,iP,e1];simp[Ag]
     clear O hy aj;generalize Ln ps i=rt at*
     go_wp2_with(at_builtin;refine Ay _ rfl (.tmp 45) (.tmp 53) 79 rfl w4.heap.size 5 i0 (.int .u8 0) 1 1 underlying79 hi da db dd rfl (by decide) _ _ _ rfl (HO.o.alloc _) ⟨wr.heap.size,0,none⟩ 1 1 [.int .u8 ((a[y]'bp).toNat:Nat)] rfl rfl ?c1 ?c2 ?c3 ?c4 ?c5 ?_)
     case c1=>exact Ac6 _ _ _
     case c2=>intro u hu;simp at hu;subst hu;rfl
     case c3=>unfold maxLen;omega
     case c4=>omega
     case c5=>have:=M.o.size;simp;omega
     intro v6 w6 cY cN dG;have a2:Aee w4 w6:=(M.o.alloc _).grown cN (fun j hj=> .inl (HO.o.lt j hj).1);have dx:=aZ cY;clear cY cN dG HO;go_wp2_with fail;go_roundw
     case rel=>
      refine⟨i+1,by omega,by go_num,by rw[HE.o.1],?_,a2⟩;show World.ownsRow _ _ _ _ _ _ _;rw[HE.o.2.1,HE.o.2.2];exact dx.o
     case measure=>simp[intOf];omega
   ·have cO:i=a.size+1:=by omega
    have Q:decide ((i:Int)<=(a.size:Int))=false:=zM (by omega);have r:a.size=(Ac fs).length:=by rw[<-U.o.1];simp
    have HR:Aside (Ln ps i=Av ps/\Av ps<=a.size/\ps.take i=ps):=⟨by rw[cO,r];exact oP H4.o.1.perm,by rw[r];exact(I2 H4.o.1.perm).2,by rw[Aap (by omega)]⟩;have cu:Aside (wr.ownsRow w4.heap.size 5 1 (.slice ab (Am (Ac fs) ps).length cb) (Am (Ac fs) ps).length (Ag (Am (Ac fs) ps))):=by
     have h:=HO.o;rwa[HR.o.2.2]at h
    rw[HR.o.1,HR.o.2.2];have dM:=HR.o.2.1;clear ai g HO cO r;obtain⟨rt,a6⟩:=gx (Av ps);have aN:=aZ a6;rw[<-a6]at dM|-;clear a6 HR;have bv:=aZ M.o;clear M;obtain⟨B1,aQ⟩: ∃B,B=(⟨(Hm.leBytes fs.length 1).toArray⟩:ByteArray):=⟨_,rfl⟩;obtain⟨B2,aR⟩: ∃B,B=(⟨(Hm.leBytes a.size 2).toArray⟩:ByteArray):=⟨_,rfl⟩;obtain⟨B3,aS⟩: ∃B,B=(⟨(Hm.leBytes rt 2).toArray⟩:ByteArray):=⟨_,rfl⟩;have bN:=fun W=>G3 fs.length 1 W (by omega) (by omega) (by omega);have bP:=fun W=>G3 a.size 2 W (by omega) (by omega) (by omega);have bQ:=fun W=>G3 rt 2 W (by omega) (by omega) (by omega);rw[<-aQ]at bN;rw[<-aR]at bP;rw[<-aS]at bQ;have dc:B1.size=1:=by rw[aQ];rfl
    have de:B2.size=2:=by rw[aR];rfl
    have df:B3.size=2:=by rw[aS];rfl
    have aH:=aZ (aI aQ (aI aR aS));clear aQ aR aS;go_wp2_with fail;refine(bN _).mono ?_;rintro e w7 ⟨rfl,cR⟩;have cz:=aZ cR;clear cR;go_wp2_with fail;refine(bP _).mono ?_;rintro e w8 ⟨rfl,cS⟩;have c0:=aZ (cz.o.tr cS);clear cS cz;go_wp2_with fail;refine(bQ _).mono ?_;rintro e w9 ⟨rfl,cT⟩;have bC:=aZ (c0.o.tr cT);clear cT c0 bN bP bQ;go_upto_region 16 with fail
    obtain⟨P0,hP0⟩: ∃P:Aeg,P=[72,79,65,82,68,49,UInt8.ofNat fs.length]++Hm.leBytes a.size 2++Hm.leBytes rt 2:=⟨_,rfl⟩;obtain⟨S0,bK⟩: ∃S,S=(⟨#[72,79,65,82,68,49]⟩:ByteArray)++B1++B2++B3:=⟨_,rfl⟩;rw[<-bK];have aM:Aside (S0=(⟨P0.toArray⟩:ByteArray)/\P0=[72,79,65,82,68,49,UInt8.ofNat fs.length]++Hm.leBytes a.size 2++Hm.leBytes rt 2/\P0.length=11):=by
     refine⟨?_,hP0,by rw[hP0];rfl⟩;rw[bK,aH.o.1,aH.o.2.1,aH.o.2.2,hP0];apply Acj;simp[ByteArray.data_append,Hm.leBytes]
    clear hP0 bK;have H:Aside (Aee w w9/\Aee w4 w9/\Az w9 ao fs/\w9.ownsRow w4.heap.size 5 1 (.slice ab (Am (Ac fs) ps).length cb) (Am (Ac fs) ps).length (Ag (Am (Ac fs) ps))/\w9.ownsRow w2.heap.size 3 1 (.slice (some ⟨gp,0,none⟩) ps.length cp) ps.length (Ad ps)):=by
     have bH:=bv.o.tr bC.o;have cD:=H4.o.2.2.1.tr bH;exact⟨cD,bH,HF.o.1.kept cD (fun _ _=>id),bC.o.owns cu.o (fun _ _ h=>h),bH.owns H4.o.2.1 (fun _ _ h=>h)⟩
    clear bv bC cu aH dc de df;go_wp2_with fail
    go_loopw[11,12] (fun vs vi wx=> ∃i:Nat,i<=fs.length/\vi= .int .i64 i/\vs= .string ⟨(P0++Hm.nameBytes (fs.take i)).toArray⟩/\Aee w9 wx) (fun _ vi _=>fs.length-(intOf vi).toNat)
    case atStart=>exact⟨0,by omega,rfl,by rw[aM.o.1];simp[Hm.nameBytes],Aa.refl _ _⟩
    case round=>
     obtain⟨k,e7,rfl,rfl,g⟩:=hrel;have M:=aZ g
     by_cases cW:k<fs.length
     ·have Q:=(dT k fs.length).2;have e6:(k:Int)<(fs.length:Int):=by omega
      obtain⟨bb,oo,d8,e3,aw,_⟩:=(H.o.2.2.1.kept g (fun _ _=>id)) k cW;subst d8;have dH:fs[k].1.size<=32:=(HF.o.2.1 _ (z6 _)).1;obtain⟨nm,a3⟩: ∃n,n=fs[k].1:=⟨_,rfl⟩;rw[<-a3]at aw dH;have dw:Aside (Hm.nameBytes (fs.take (k+1))=Hm.nameBytes (fs.take k)++(UInt8.ofNat nm.size::nm.data.toList)):=by rw[a3];exact Sg fs k cW
      clear a3 g;obtain⟨SS,bM⟩: ∃S,S=(⟨(P0++Hm.nameBytes (fs.take k)).toArray⟩:ByteArray):=⟨_,rfl⟩;rw[<-bM];have c9:=aZ bM;clear bM;have cf:=Jk (fs.take k) (fun f hf=>(HF.o.2.1 f (Ads hf)).1);have es:SS.size<=2000:=by
       have h1:SS.size=P0.length+(Hm.nameBytes (fs.take k)).length:=by rw[c9.o];show(P0++Hm.nameBytes (fs.take k)).toArray.size=_;simp
       rw[zS]at cf;have:=aM.o.2.2;omega
      obtain⟨NB,ba⟩: ∃B,B=(⟨(Hm.leBytes nm.size 1).toArray⟩:ByteArray):=⟨_,rfl⟩;have bT:=fun W=>G3 nm.size 1 W (by omega) (by omega) (by omega);rw[<-ba]at bT;have ek:NB.size=1:=by rw[ba];rfl
      have dv:Aside (SS++NB++nm=(⟨(P0++Hm.nameBytes (fs.take (k+1))).toArray⟩:ByteArray)):=by
       show _=_;rw[dw.o,c9.o,ba];apply Acj;simp[ByteArray.data_append,Hm.leBytes]
      clear ba cf;go_wp2_with fail
      go_region_held(fun X=>X.cell? ⟨bb,oo+k*2,none⟩=some (.string nm)) (first|exact aw|exact k0)
       (first|(go_at_call 41;(refine(bT _).mono ?_;rintro e w6 ⟨rfl,a2⟩;have k0:=(a2.cell (p:=⟨bb,oo+k*2,none⟩) (z9 _ _ aw) id).trans aw)))
      have ds:=aZ (M.o.drew.tr a2);clear a2 k0 bT aw;go_wp2_with fail;go_roundw
      case rel=>exact⟨k+1,by omega,by go_num,by rw[dv.o],ds.o⟩
      case measure=>simp[intOf];omega
     ·have cU:k=fs.length:=by omega
      have Q:=(dF k fs.length).2;have dy:Aside (fs.take k=fs):=by show _=_;rw[cU,Aaw]
      rw[dy.o];have r:a.size=(Ac fs).length:=by rw[<-U.o.1];simp
      have dr:Aside (Az wr ao fs):=H.o.2.2.1.kept g (fun _ _=>id);have ca:=oI ao c fs a.size wr dr.o hm r ce;obtain⟨EB,aW⟩: ∃l,l=Bo (Aw fs) a.size:=⟨_,rfl⟩;have ei:EB.length<=10000:=by
       rw[aW,K7,Dp];have h1:=Nw fs.length a.size (by omega);have h2:fs.length*Ca fs.length a.size<=40*20:=Aa4 hm (by omega);have h3:a.size/2^Ca fs.length a.size<=a.size:=Acd _ _;omega
      rw[<-aW]at ca;have cc:=fun W=>Pp EB W (by omega);have s:=fun W=>dL a W ce;rw[U.o.1]at s;obtain⟨L,hL⟩:=gx (lens (Ac fs));rw[<-hL]at s;have hC:Bz L:=by rw[hL];exact HF.o.2.2.1
      have cF: ∀x∈L,x<=100000:=fun x hx=>by
       obtain⟨j,hj,rfl⟩:=Aa5 hx;have h1:=hC.short (UInt8.ofNat j);have h2:(UInt8.ofNat j).toNat=j:=by rw[Aax];have:=hC.len;omega
       rw[Xg,h2,zG,zH hj]at h1;simp only[Ack]at h1;omega
      have bW:=fun W=>Wk L W hC.len cF;have HL:=aZ (aI hL hC);obtain⟨LA,aq⟩: ∃A,A=(Ad L).toArray:=⟨_,rfl⟩;have bI:LA.size=256:=by rw[aq,Ba,hC.len]
      have d5:LA.all (·.oneCell')=true:=by rw[aq];exact Ew _
      have du:=aZ aq;rw[<-aq]at s bW;clear hL hC cF aq;obtain⟨S1,be⟩: ∃S,S=(⟨(P0++Hm.nameBytes fs).toArray⟩:ByteArray):=⟨_,rfl⟩;rw[<-be];have en:S1.size<=2000:=by
       have cf:=Jk fs (fun f hf=>(HF.o.2.1 f hf).1);have h1:S1.size=P0.length+(Hm.nameBytes fs).length:=by rw[be];show(P0++Hm.nameBytes fs).toArray.size=_;simp
       have:=aM.o.2.2;omega
      obtain⟨sE,bl⟩:=gx (⟨(Ah EB).toArray⟩:ByteArray);have eo:sE.size<=2000:=by rw[bl];show(Ah EB).toArray.size<=_;rw[Aaa,A8];omega
      rw[<-bl]at cc;have bB:=aZ (aI be (aI aW bl));clear be aW bl cU g r;go_wp2_with fail;refine ca.mono ?_;rintro e eK ⟨rfl,b4⟩;have bs:=aZ (M.o.tr b4);clear b4 ca;go_wp2_with fail;refine(cc _).mono ?_;rintro e eL ⟨rfl,b5⟩;have bt:=aZ (bs.o.tr b5);clear b5 cc bs;go_wp2_with fail;refine(s _).mono ?_;rintro e bq ⟨rfl,b6⟩;have Y:=aZ (bt.o.tr b6);clear b6 s bt
      go_wp2_with(first
       |(refine wpList_store_row _ rfl 94 _ _ rfl bq.heap.size 94 Tryz.zeroCells94 LA rfl rfl (zY bq _) (by rw[bI];exact D7) (by rw[bI,Wi,Ba,zV]) d5 ?_;intro eM aA b7)
       |(refine Aa0 rfl 94 _ rfl bq.heap.size rfl 94 LA (0,0) _ aA underlying94 rfl (by rw[bI];exact D7) ?_))
      refine(bW _).mono ?_;rintro e t ⟨⟨o,ok,cg,rfl,cK⟩,az⟩;obtain⟨bL,bh⟩: ∃b,b=bq.heap.size:=⟨_,rfl⟩;have ck:t.heap[bL]?=some (.cells LA 94 (0,0)):=by rw[bh];exact az.row aA id
      rw[<-bh];have ac:Aee w9 t:=((Y.o.alloc _).trans b7 (fun j h1 h2=>by have:=Y.o.size;omega)).tr az;have bu:Aside (Aee w9 t/\w9.heap.size<=bL):=⟨ac,by rw[bh];exact Y.o.size⟩;obtain⟨OA,ar⟩: ∃A,A=(Ar o).toArray:=⟨_,rfl⟩;have bJ:OA.size=256:=by rw[ar,Aaa,Bp,cg]
      have d6:OA.all (·.oneCell')=true:=by rw[ar];exact L0 _
      have bE:=aZ (aI ar (aI cg cK));rw[<-ar];clear ar cg cK az b7 aA ac bh bW Y
      go_wp2_with(first
       |(refine wpList_store_row _ rfl 113 _ _ rfl t.heap.size 113 Tryz.zeroCells113 OA rfl rfl (zY t _) (by rw[bJ];exact C9) (by rw[bJ,Rv,Aaa,Bp,zV]) d6 ?_;intro aC b9 a0))
      have av:bL<t.heap.size:=Aac ck;have a5:aC.heap[bL]?=some (.cells LA 94 (0,0)):=a0.row (((Aa.refl (fun _=>False) t).alloc _).row ck id) (by omega);have Z:Aside (Aee w9 aC/\aC.heap[bL]?=some (.cells LA 94 (0,0))/\aC.heap[t.heap.size]?=some (.cells OA 113 (0,0))/\bL<t.heap.size):=⟨(bu.o.1.alloc _).trans a0 (fun j h1 h2=>by have:=bu.o.1.size;omega),a5,b9,av⟩;clear a0 b9 a5 ck av;generalize t.heap.size=bO at*
      go_loopw[16,17,18] (fun vk vp vc wx=> ∃q:Nat,q<=256/\vc= .int .i64 q/\vk= .int .i64 ((Bx L q).length:Nat)/\vp= .string ⟨(B4 L (Bx L q)).toArray⟩/\Aee aC wx) (fun _ _ vc _=>256-(intOf vc).toNat)
      case atStart=>exact⟨0,by omega,rfl,rfl,rfl,Aa.refl _ _⟩
      case round=>
       obtain⟨q,hq,rfl,rfl,rfl,g⟩:=hrel;have z:=aZ g;have s:=Ex L q
       by_cases dD:q<256
       ·have Q:decide ((q:Int)<256)=true:=zJ (by omega);have eB:(q:Int)<256:=by omega
        have ag:wr.cell? ⟨bL,q,none⟩=some (.int .i64 (L.getD q 0:Nat)):=by
         rw[zP _ _ q _ _ _ (g.row Z.o.2.1 id),du.o];simp[Ad,List.getD_eq_getElem?_getD,List.getElem?_eq_getElem (show q<L.length from by rw[HL.o.2.len];exact dD)]
        have bA:L.getD q 0<=32:=by
         have h1:=HL.o.2.short (UInt8.ofNat q);have h2:(UInt8.ofNat q).toNat=q:=by rw[Aax];omega
         rwa[Xg,h2]at h1
        have aO:=aZ (Qj L q);clear g
        by_cases hp:0<L.getD q 0
        ·obtain⟨x,hx⟩:=gx (L.getD q 0);rw[<-hx]at ag bA hp;obtain⟨cl,m⟩: ∃n,n=(Bx L q).length:=⟨_,rfl⟩;obtain⟨PS,E⟩: ∃S,S=(⟨(B4 L (Bx L q)).toArray⟩:ByteArray):=⟨_,rfl⟩;rw[<-E];rw[<-m]at s|-;have dK:PS.size=2*cl:=by rw[E,m];show(B4 L (Bx L q)).toArray.size=_;rw[Aaa,Iv]
         obtain⟨Q1,bc⟩: ∃B,B=(⟨(Hm.leBytes q 1).toArray⟩:ByteArray):=⟨_,rfl⟩;obtain⟨Q2,bd⟩: ∃B,B=(⟨(Hm.leBytes x 1).toArray⟩:ByteArray):=⟨_,rfl⟩;have bU:=fun W=>G3 q 1 W (by omega) (by omega) (by omega);have bV:=fun W=>G3 x 1 W (by omega) (by omega) (by omega);rw[<-bc]at bU;rw[<-bd]at bV;have el:Q1.size=1:=by rw[bc];rfl
         have em:Q2.size=1:=by rw[bd];rfl
         have cj:=zJ hp;have R:Aside ((Bx L (q+1)).length=cl+1/\PS++Q1++Q2=(⟨(B4 L (Bx L (q+1))).toArray⟩:ByteArray)):=by
          have dI:0<L.getD q 0:=by rw[<-hx];exact hp
          have e:Bx L (q+1)=Bx L q++[UInt8.ofNat q]:=by rw[aO.o,if_pos dI]
          have h2:(UInt8.ofNat q).toNat=q:=by rw[Aax];omega
          refine⟨by rw[e,zL,<-m];rfl,?_⟩;rw[e,E,bc,bd,hx];apply Acj;unfold B4;rw[Abo];simp[ByteArray.data_append,Hm.leBytes,h2]
         clear hx m E bc bd aO;go_wp2_with fail
         go_region_held(fun X=>X.cell? ⟨bL,q,none⟩=some (.int .i64 x)) (first|exact k1|exact k0|exact ag)
          (first
           |(go_at_call_of 41 (Value.int .i64 (q:Int));(refine(bU _).mono ?_;rintro e eN ⟨rfl,ad⟩;have k0:=(ad.cell (p:=⟨bL,q,none⟩) (z9 _ _ ag) id).trans ag))
           |(go_at_call_of 41 (Value.int .i64 (x:Int));(refine(bV _).mono ?_;rintro e eO ⟨rfl,ae⟩;have k1:=(ae.cell (p:=⟨bL,q,none⟩) (z9 _ _ k0) id).trans k0)))
         have cy:=aZ ((z.o.drew.tr ad).tr ae);clear ad ae k0 k1 bU bV ag;go_wp2_with fail;go_roundw
         case rel=>exact⟨q+1,by omega,by go_num,by rw[R.o.1];go_num,by rw[R.o.2],cy.o⟩
         case measure=>simp[intOf];omega
         case roundEnd=>exact⟨⟨q+1,by omega,by go_num,by rw[R.o.1];go_num,by rw[R.o.2],(z.o.drew.tr ad).tr ae⟩,by simp[intOf];omega⟩
        ·have aj:L.getD q 0=0:=by omega
         have R:Aside (Bx L (q+1)=Bx L q):=by show _=_;rw[aO.o,if_neg hp,Abe]
         rw[aj]at ag;clear hp aj aO bA;obtain⟨cl,m⟩: ∃n,n=(Bx L q).length:=⟨_,rfl⟩;rw[<-m]at s|-;have dp:=aZ m;clear m;go_wp2_with fail;go_roundw
         case rel=>exact⟨q+1,by omega,by go_num,by rw[R.o,dp.o],by rw[R.o],z.o⟩
         case measure=>simp[intOf];omega
       ·have cZ:q=256:=by omega
        have Q:decide ((q:Int)<256)=false:=zM (by omega);have aK:Aside (Bx L q=Aj L):=by show _=_;rw[cZ];rfl
        rw[aK.o]at s|-;obtain⟨cl,m⟩: ∃n,n=(Aj L).length:=⟨_,rfl⟩;obtain⟨PS,E⟩: ∃S,S=(⟨(B4 L (Aj L)).toArray⟩:ByteArray):=⟨_,rfl⟩;rw[<-E];rw[<-m]at s|-;have dK:PS.size=2*cl:=by rw[E,m];show(B4 L (Aj L)).toArray.size=_;rw[Aaa,Iv]
        obtain⟨KB,aY⟩: ∃B,B=(⟨(Hm.leBytes cl 2).toArray⟩:ByteArray):=⟨_,rfl⟩;have bS:=fun W=>G3 cl 2 W (by omega) (by omega) (by omega);rw[<-aY]at bS;have e8:KB.size=2:=by rw[aY];rfl
        have r:a.size=(Ac fs).length:=by rw[<-U.o.1];simp
        have G:=H4.o.1.perm;obtain⟨col,D⟩:=gx (Am (Ac fs) ps);rw[<-D];have bX:col.length=a.size:=by rw[D,D8 G,r]
        have cL: ∀b∈col,b∈Af L:=fun b hb=>by
         rw[HL.o.1];rw[D]at hb;exact(N4 _ (by omega) b).2 (M5 G b hb)
        obtain⟨CS,aV⟩: ∃C,C=(⟨col.toArray⟩:ByteArray):=⟨_,rfl⟩;have ap:CS.data.toList=col:=by rw[aV]
        have aX:Hm.Ends 32 (lnB L) (Af L) N:=by rw[HL.o.1];exact HF.o.2.2.2.2.1
        have a8:=fun W=>iA CS L o ok N W HL.o.2 aX bE.o.2.1 bE.o.2.2 (by rw[aV];show col.toArray.size<=_;rw[Aaa];omega) (by rw[ap];exact cL);rw[ap,<-bE.o.1]at a8;obtain⟨TB,bg⟩: ∃T,T=D2 L N col:=⟨_,rfl⟩;rw[<-bg]at a8;have cI:TB.length<=2000000:=by
         rw[bg];unfold D2;rw[Aai];have h1:=Mb (lnB L) (Bq L) (Ao (lnB L) (Af L) (2*N)).1 col N;have h3:N<=255:=by have h4:=aX.len;have h5:=aX.few (2*N) (zK _);omega
         have h2:N*col.length<=255*6000:=Aa4 h3 (by omega);omega
        have bj:=fun W=>Pp TB W (by omega);obtain⟨TT,cJ⟩: ∃S,S=(⟨(Ae TB).toArray⟩:ByteArray):=⟨_,rfl⟩;obtain⟨sT,bn⟩: ∃S,S=(⟨(Ah TB).toArray⟩:ByteArray):=⟨_,rfl⟩;rw[<-cJ]at a8 bj;rw[<-bn]at bj;have er:sT.size<=260000:=by rw[bn];show(Ah TB).toArray.size<=_;rw[Aaa,A8];omega
        have a7:=fun W (h:Na W (some ⟨gp,0,none⟩) ps)=>dJ (some ⟨gp,0,none⟩) cp ps W h (by omega) (by omega) (fun p hp=>by have:=H4.o.2.2.2 p hp;omega);obtain⟨SB,bf⟩:=gx (Bb ps);have cG:SB.length<=100000:=by
         rw[bf,E0 (n:=a.size) (by rw[r];exact G)];have au:Lib.bitLen (a.size/8)<=10:=Lib.bitLen_le _ 10 (by omega) (by omega);have:(a.size/8+1)*Lib.bitLen (a.size/8)<=751*10:=Aa4 (by omega) au;omega
        rw[<-bf]at a7;have bi:=fun W=>Pp SB W (by omega);obtain⟨ST,cH⟩: ∃S,S=(⟨(Ae SB).toArray⟩:ByteArray):=⟨_,rfl⟩;obtain⟨sS,bm⟩: ∃S,S=(⟨(Ah SB).toArray⟩:ByteArray):=⟨_,rfl⟩;rw[<-cH]at a7 bi;rw[<-bm]at bi;have ep:sS.size<=20000:=by rw[bm];show(Ah SB).toArray.size<=_;rw[Aaa,A8];omega
        have HX:Aside (∀X,Aee wr X->(X.ownsRow w4.heap.size 5 1 (.slice ab col.length cb) col.length (Ag col)/\X.heap[bO]?=some (.cells OA 113 (0,0)))/\Na X (some ⟨gp,0,none⟩) ps):=fun X hk=>by
         have h1:=(Z.o.1.tr z.o).tr hk;have h2:=z.o.tr hk;have ai:=h1.owns H.o.2.2.2.2 (fun _ _ h=>h);refine⟨⟨by rw[D];exact h1.owns H.o.2.2.2.1 (fun _ _ h=>h),h2.row Z.o.2.2.1 id⟩,fun i hi=>⟨gp,0,rfl,(ai.lt gp rfl).2,?_⟩⟩;rw[Aao,ai.cellAt i (by omega)];simp[Ad,hi]
        have HT:Aside (S1++sE++KB++PS++sT++sS=(⟨(Cr fs ps (D2 (lens (Ac fs)) N (Am (Ac fs) ps))).toArray⟩:ByteArray)):=by
         show _=_;rw[bB.o.1,bB.o.2.2,bB.o.2.1,aY,E,bn,bm,bg,bf,m,D,aM.o.2.1,HL.o.1];unfold Cr;apply Acj;rw[<-r,aN.o];simp[ByteArray.data_append]
        simp only[ci]at a7;have ea:=aZ (aI ci bX);have cx:Aside _:=bj;have cw:Aside _:=bi;have c8:Aside _:=a7;have cA:Aside _:=a8;have ct:Aside _:=bS;have d4:=aV.symm;clear cZ m E aY r G D cL aV ap aX a8 bg cI bj cJ bn a7 bf cG bi cH bm bS ci bX;go_wp2_with fail;refine Aca (S:=fun X=>X.ownsRow w4.heap.size 5 1 (.slice ab col.length cb) col.length (Ag col)/\X.heap[bO]?=some (.cells OA 113 (0,0))) (by kernel_rfl) ?_ (fun hHeld=>?_)
        ·exact(HX.o _ (Aa.refl _ wr).drew).1
        refine tK 0 ⟨some 118,.move (.tmp 11),9,"hoardref.go:377",#[],none⟩ ?_ ?_ ?_
        rotate_left
        ·intro X d;try dsimp only at d
         go_simp
         first|(with_reducible rfl)|(rw[iN])
        simp only[Act.put,zO,zW,z5]
        refine tK 1 ⟨some 119,.move (.tmp 16),3,"hoardref.go:377",#[],none⟩ ?_ ?_ ?_
        rotate_left
        ·intro X d;try dsimp only at d
         go_simp
         first|(with_reducible rfl)|(rw[iN])
        simp only[Act.put,zO,zW,z5]
        refine tK 4 ⟨some 122,.move (.tmp 17),9,"hoardref.go:377",#[],none⟩ ?_ ?_ ?_
        rotate_left
        ·intro X d;try dsimp only at d
         go_simp
         first|(with_reducible rfl)|(rw[iN])
        simp only[Act.put,zO,zW,z5]
        refine tK 6 ⟨some 124,.move (.tmp 9),79,"hoardref.go:377",#[],none⟩ ?_ ?_ ?_
        rotate_left
        ·intro X d;try dsimp only at d
         go_simp
         first|(with_reducible rfl)|(rw[iN])
        simp only[Act.put,zO,zW,z5]
        refine tK 7 ⟨some 125,.convert 79 9 (.tmp 124),9,"hoardref.go:377",#[⟨6,.data⟩],none⟩ (.string CS) (fun X hX => dP X 79 9 (.tmp 124) rfl _ _ rfl ((Ho hX.1).trans (by rw [d4]))) ?_
        simp only[Act.put,zO,zW,z5]
        refine tK 8 ⟨some 126,.load 113 (.tmp 14),113,"hoardref.go:377",#[],none⟩ (.agg OA) (fun X hX => Fi X 113 (.tmp 14) rfl bO rfl 113 OA (0, 0) _ hX.2 underlying113 rfl (by rw [bJ]; exact C9)) ?_
        simp only[Act.put,zO,zW,z5]
        refine tK 12 ⟨some 130,.move (.tmp 7),64,"hoardref.go:377",#[],none⟩ ?_ ?_ ?_
        rotate_left
        ·intro X d;try dsimp only at d
         go_simp
         first|(with_reducible rfl)|(rw[iN])
        simp only[Act.put,zO,zW,z5];refine Aaq (rs:=[2]) (by kernel_rfl) (by simp) ?_;refine Aad rfl (fun K hK=>?_) Aal;go_simp;refine(ct.o _).mono ?_;rintro e wa ⟨rfl,cP⟩;have bw:=aZ ((Aa.refl _ wr).drew.tr cP);refine hK.o _ _ (HX.o _ bw.o).1 (fun hHeld=>?_);clear hK K cP
        refine tK 3 ⟨some 121,.binOp .add 9 (.tmp 118) (.tmp 120) 9,9,"hoardref.go:377",#[⟨0,.data⟩,⟨2,.data⟩],none⟩ ?_ ?_ ?_
        rotate_left
        ·intro X d;try dsimp only at d
         go_simp
         first|(with_reducible rfl)|(rw[iN])
        simp only[Act.put,zO,zW,z5]
        refine tK 5 ⟨some 123,.binOp .add 9 (.tmp 121) (.tmp 122) 9,9,"hoardref.go:377",#[⟨3,.data⟩,⟨4,.data⟩],none⟩ ?_ ?_ ?_
        rotate_left
        ·intro X d;try dsimp only at d
         go_simp
         first|(with_reducible rfl)|(rw[iN])
        simp only[Act.put,zO,zW,z5];refine Aaq (rs:=[9]) (by kernel_rfl) (by simp) ?_;refine Aad rfl (fun K hK=>?_) Aal;go_simp;refine(cA.o _).mono ?_;rintro e wb ⟨rfl,ah⟩;have bx:=aZ (bw.o.tr ah);refine hK.o _ _ (HX.o _ bx.o).1 (fun hHeld=>?_);clear hK K ah;refine Aaq (rs:=[10]) (by kernel_rfl) (by simp) ?_;refine Aad rfl (fun K hK=>?_) Aal;go_simp;refine(cx.o _).mono ?_;rintro e wc ⟨rfl,cQ⟩;have al:=aZ (bx.o.tr cQ);refine hK.o _ _ (HX.o _ al.o).1 (fun hHeld=>?_);clear hK K cQ
        refine tK 11 ⟨some 129,.binOp .add 9 (.tmp 123) (.tmp 128) 9,9,"hoardref.go:377",#[⟨5,.data⟩,⟨10,.data⟩],none⟩ ?_ ?_ ?_
        rotate_left
        ·intro X d;try dsimp only at d
         go_simp
         first|(with_reducible rfl)|(rw[iN])
        simp only[Act.put,zO,zW,z5];refine Aaq (rs:=[13]) (by kernel_rfl) (by simp) ?_;refine Aad rfl (fun K hK=>?_) Aal;go_simp;refine(c8.o _ (HX.o _ al.o).2).mono ?_;rintro e wd ⟨rfl,bk⟩;obtain⟨nq,rfl⟩:=bk;have bz:=aZ (al.o.drewN nq);refine hK.o _ _ (HX.o _ bz.o).1 (fun hHeld=>?_);clear hK K;refine Aaq (rs:=[14]) (by kernel_rfl) (by simp) ?_;refine Aad rfl (fun K hK=>?_) Aal;go_simp;refine(cw.o _).mono ?_;rintro e we ⟨rfl,a1⟩;have aa:=aZ (bz.o.tr a1);refine hK.o _ _ (HX.o _ aa.o).1 (fun hHeld=>?_);clear hK K a1
        refine tK 15 ⟨some 133,.binOp .add 9 (.tmp 129) (.tmp 132) 9,9,"hoardref.go:377",#[⟨11,.data⟩,⟨14,.data⟩],none⟩ ?_ ?_ ?_
        rotate_left
        ·intro X d;try dsimp only at d
         go_simp
         first|(with_reducible rfl)|(rw[iN])
        simp only[Act.put,zO,zW,z5];refine Aaq (rs:=[16]) (by kernel_rfl) (by simp) ?_;refine Aad rfl (fun K hK=>?_) Aal;go_simp;refine hK.o _ _ (HX.o _ aa.o).1 (fun hHeld=>?_);clear hK K;refine Ach (by kernel_rfl) ?_ _;clear hHeld HX cx cw c8 cA ct;rw[HT.o];obtain⟨BD,aT⟩: ∃l,l=Cr fs ps (D2 (lens (Ac fs)) N (Am (Ac fs) ps)):=⟨_,rfl⟩;have au:BD.length<=1000000:=by
         have h1:(S1++sE++KB++PS++sT++sS).size=BD.length:=by rw[HT.o,<-aT];show BD.toArray.size=_;simp
         simp only[ByteArray.size_append]at h1;omega
        rw[<-aT];have bo:=fun W=>rZ ⟨BD.toArray⟩ W (by show BD.toArray.size<=_;rw[Aaa];exact au);have dA:crc BD<=4294967296:=by have:=Vt BD;omega
        have bR:=fun W=>G3 (crc BD) 4 W (by omega) (by omega) dA;obtain⟨BA,an⟩: ∃B,B=(⟨BD.toArray⟩:ByteArray):=⟨_,rfl⟩;have cE:BA.data.toList=BD:=by rw[an]
        have e2:BA.size<=1000000:=by rw[an];show BD.toArray.size<=_;rw[Aaa];exact au
        rw[<-an]at bo|-;rw[cE]at bo;obtain⟨C4,aU⟩: ∃B,B=(⟨(Hm.leBytes (crc BD) 4).toArray⟩:ByteArray):=⟨_,rfl⟩;rw[<-aU]at bR;have ej:C4.size=4:=by rw[aU];rfl
        have cv:Aside (BA++C4=(⟨(Kl fs ps (D2 (lens (Ac fs)) N (Am (Ac fs) ps))).toArray⟩:ByteArray)):=by
         show _=_;unfold Kl;rw[<-aT,an,aU];apply Acj;simp[ByteArray.data_append]
        clear an cE aU aT au HT;generalize crc BD=cr at*;go_wp2_with fail;refine(bo _).mono ?_;rintro e wf ⟨rfl,rfl⟩;clear bo;go_wp2_with fail;refine(bR _).mono ?_;rintro e wg ⟨rfl,cV⟩;have dt:Aside (Aee w wg):=by
         have h1:=H.o.1.tr Z.o.1;have h2:=(h1.tr z.o).tr aa.o;exact h2.tr cV
        clear bR cV aa;go_wp2_with fail;go_ret2;exact⟨.inr ⟨HF.o.2.2.2.2.2,_,⟨ps,N,H4.o.1,HF.o.2.2.2.1,HF.o.2.2.2.2.1,rfl⟩,by rw[<-cv.o];rfl⟩,dt.o⟩
 ·have hb:(Bu fs !=0)=true:=by rw[bne_iff_ne];exact he
  have HE:=aZ he;clear hf cm he hl;obtain⟨e0,bZ⟩:=gx (Bu fs);rw[<-bZ]at ax hb;have dq:=aZ bZ;clear bZ
  go_enter func16,ntmps16
  go_wp2_with(go_at_call 38;refine ax.mono ?_;rintro e w2 ⟨rfl,hk⟩)
  go_ret2;exact⟨.inl ⟨HE.o,by rw[<-dq.o];rfl⟩,hk⟩
theorem yU{w0:World}{m:Nat}{rs:List Rec}{q:Qn}(a:Js w0 w pg xs v rs)(c:q.Ok)(b:m<=1000000000000):
  Calls prog 24 #[.pointer (some ⟨pg,0,none⟩),.agg q.cells.toArray,.int .i64 m] w fun e w'=>Of w0 pg xs rs e w':=by
 by_cases h1:q.k=1
 ·exact xG a c b h1
 by_cases h2:q.k=2
 ·exact xH a c b h2
 by_cases d:q.k=3
 ·exact xJ a c b d
 by_cases f:q.k=4
 ·exact xK a c b f
 by_cases g:q.k=5
 ·exact xL a c b g
 exact xI a c b h1 h2 d f g
theorem Oo.of{fs:List Fl}{s:Aeg}{e:Ending}(b:Bu fs=0)(c:Cy fs s)(f:To B w' s e): ∃pa,e= .returned (.tuple #[.pointer (some ⟨pa,0,none⟩),.int .i64 0])/\Oo B w' pa fs:=by
 obtain⟨h,j,i,st',d,a⟩:=V8 b c;rcases f with⟨pa,l6,L,l8,st,g,hP,hA,_,_,rfl⟩|⟨hno,_⟩
 ·obtain⟨ps,hI⟩:=rK b c hP;obtain⟨rfl,_,rfl,rfl⟩:=C5.unique d hP;exact⟨pa,rfl,g,b,s,_,L,_,_,ps,hP,hA,hI,a⟩
 ·exact absurd (by rw[a];exact c) (hno h j i st' d (by rw[a];exact b))
def Hm.O9:List Fl:=[(⟨#[97]⟩,⟨#[98,97,110,97,110,97]⟩)]
theorem Hm.fH:Bu O9=0:=by decide+kernel
def Tx(b:Aej)(fs:List Fl)(w w':World)(e:Ending):Prop:=Aee w w'/\ ∃B pa yo d gs,e= .returned (.tuple #[.pointer (some ⟨pa,0,none⟩),.slice yo (List.length gs) d])/\w.heap.size<=B/\Oo B w' pa gs/\Az w' yo gs/\((yo=b/\gs=fs)\/ ∀a,yo=some a->w.heap.size<=a.block)
theorem bJ(t:Aej)(c:Nat)(fs:List Fl)(w:World)(x:Az w t fs)(L:fs.length<=140737488355328)(A: ∀f∈fs,f.1.size<=140737488355328/\f.2.size<=140737488355328):
  Calls prog 23 #[.slice t fs.length c] w fun e w'=>Tx t fs w w' e:=by
 have n:=Kt t c fs w x L A;have D:Hid (∀(gs:List Fl) s W,Bu gs=0->Cy gs s->Calls prog 12 #[.string ⟨s.toArray⟩] W fun e w'=>(∃pa,e= .returned (.tuple #[.pointer (some (J pa 0)),I 0])/\Hid (Oo W.heap.size w' pa gs))/\Aee W w'):=fun gs s W h1 h2=>by
  have:=(oC h1 h2).1;exact(kK Fa N7 s W (by omega)).mono fun e w' h=>⟨Oo.of h1 h2 h.2,h.1⟩
 have G:=hZ x;clear x A
 go_enter func23,ntmps23
 go_wp2_with fail;refine n.mono ?_;rintro e b ⟨p,i⟩;rcases p with⟨y,rfl⟩|⟨v,s,g,rfl⟩
 ·have H: ¬(Bu fs:Int)=0:=by simpa using y
  have u:Cv (b.alloc (.cells #[.string ⟨#[97]⟩,.string ⟨#[98,97,110,97,110,97]⟩] 38)) b.heap.size O9:=zY b _;have l:Az (b.alloc (.cells #[.string ⟨#[97]⟩,.string ⟨#[98,97,110,97,110,97]⟩] 38)) (some (J b.heap.size 0)) O9:=Cv.at (r:=[]) (by rw[Abe];exact u);have z:Calls prog 16 #[S0 b.heap.size 1 1] _ _:=Kt (some (J b.heap.size 0)) 1 O9 _ l (by show 1<=_;omega) (fun f x=>by
   rw[List.mem_singleton.1 x];exact⟨show 1<=_ by omega,show 6<=_ by omega⟩)
  have C:Hid (Aee w (b.alloc (.cells #[.string ⟨#[97]⟩,.string ⟨#[98,97,110,97,110,97]⟩] 38))/\w.heap.size<=b.heap.size/\Az (b.alloc (.cells #[.string ⟨#[97]⟩,.string ⟨#[98,97,110,97,110,97]⟩] 38)) (some (J b.heap.size 0)) O9):=⟨i.alloc _,i.size,l⟩;clear n i u l y G;go_wp2_with fail;refine z.mono ?_;rintro e w2 ⟨p,m⟩;rcases p with⟨F,_⟩|⟨_,s,g,rfl⟩
  ·exact absurd fH F
  have j:=D.o _ s w2 fH g;have k:Hid (Aee w w2/\w.heap.size<=b.heap.size/\Az w2 (some (J b.heap.size 0)) O9):=⟨C.o.1.tr m,C.o.2.1,C.o.2.2.kept m (fun _ _=>id)⟩;generalize(⟨s.toArray⟩:ByteArray)=S at*;clear z m C g D;go_wp2_with fail;refine j.mono ?_;rintro e B ⟨⟨pa,rfl,E⟩,d⟩;have q:Hid (Aee w B/\Az B (some (J b.heap.size 0)) O9/\w.heap.size<=w2.heap.size):=⟨k.o.1.tr d,k.o.2.2.kept d (fun _ _=>id),k.o.1.size⟩;clear j d;go_wp2_with fail;go_ret2;exact⟨q.o.1,w2.heap.size,pa,_,_,O9,rfl,q.o.2.2,E.o,q.o.2.1,.inr fun a K=>by cases K;exact k.o.2.1⟩
 ·have j:=D.o _ s b v g;have k:=hZ i;generalize(⟨s.toArray⟩:ByteArray)=S at*;clear n i g D v;go_wp2_with fail;refine j.mono ?_;rintro e B ⟨⟨pa,rfl,E⟩,d⟩;have q:Hid (Aee w B/\Az B t fs):=by
   have h:=k.o.tr d;exact⟨h,G.o.kept h (fun _ _=>id)⟩
  clear j d;go_wp2_with fail;go_ret2;exact⟨q.o.1,b.heap.size,pa,_,_,fs,rfl,k.o.size,E.o,q.o.2,.inl ⟨rfl,rfl⟩⟩
theorem cQ{A:Array Value}{e:TypeId}(i:Nat)(h:w.heap[g]?=some (.cells A e (0,0)))(a:A[i]?=some x:=by rfl):w.cell? ⟨g,i,none⟩=some x:=(zP _ _ i _ _ _ h).trans a
def L9(V:World)(pg:Nat)(x:Value)(yo:Aej)(fs:List Fl):Prop:= ∀W,Aa (fun j=>j=pg) V W->Sub false W x fs/\Az W yo fs/\Bu fs=0
theorem L9.step{a:World}{fs:List Fl}(h:L9 V pg x yo fs)(hk:Aa (fun j=>j=pg) V a):L9 a pg x yo fs:=fun W b=>h W (hk.tr b)
theorem L9.of{W:World}{pa:Nat}{d:Aej}{fs gs:List Fl}(k:w.heap.size=pg)(hk:Aee w w')(_hW:Aee w W)(g:Az w d fs/\pg<W.heap.size)(l:W.heap.size<=B)(f:Oo B w' pa gs)(hF:Az w' yo gs)(c:(yo=d/\gs=fs)\/ ∀a,yo=some a->W.heap.size<=a.block):L9 w' pg (.pointer (some ⟨pa,0,none⟩)) yo gs:=fun V b=>by
 have i:=g.2;refine⟨.inr ⟨rfl,B,pa,rfl,f.kept b (fun j m e=>by omega)⟩,?_,f.ck⟩;rcases c with⟨rfl,rfl⟩|c
 ·exact g.1.kept (hk.trans b (fun j h1 h2=>by omega)) (fun _ _=>id)
 ·exact hF.kept b (fun a h e=>by have:=c a h;omega)
theorem L9.turn{k:Nat}{rs:List Rec}{fs:List Fl}(h:L9 V pg x yo fs)(e:Dj V pg xs v rs w)(d:pg<V.heap.size)(i:xs.length=8)(m:rs.length<=2000000)(hk:k<4)(b: ¬k=2)(n:xs[k]?=some x)(o:xs[4+k]?=some (.slice yo fs.length c)): ∃x yo c fs,dI V w pg k xs v rs (decide (k=2)) x yo c fs:=by
 obtain⟨h1,h2,g⟩:=h w e.kept;obtain⟨l,a,_⟩:=Ia g;refine⟨x,yo,c,fs,e,d,i,m,hk,n,o,?_,h2,l,fun f j=>(a f j).2⟩;rw[zM b];exact h1
theorem xU(ao bo so:Aej)(c d sc:Nat)(fs gs:List Fl)(N:List Qn)(w:World)(hf:Az w ao fs)(hg:Az w bo gs)(hq:Xe w so N)(hl:fs.length<=140737488355328)(a5:gs.length<=140737488355328)
  (a9: ∀f∈fs,f.1.size<=140737488355328/\f.2.size<=140737488355328) (Z: ∀f∈gs,f.1.size<=140737488355328/\f.2.size<=140737488355328) (bp:N.length<=1048576) (a8: ∀q∈N,q.Ok):
  Calls prog 7 #[.slice ao fs.length c,.slice bo gs.length d,.slice so N.length sc] w fun e w'=>e= .returned (.bool true)/\Aee w w':=by
 have aa:Hid (∀W,Aee w W->Calls prog 23 #[.slice ao fs.length c] W fun e w'=>Tx ao fs W w' e):=fun W hW=>bJ ao c fs W (hf.kept hW (fun _ _=>id)) hl a9;have ak:Hid (∀W,Aee w W->Calls prog 23 #[.slice bo gs.length d] W fun e w'=>Tx bo gs W w' e):=fun W hW=>bJ bo d gs W (hg.kept hW (fun _ _=>id)) a5 Z;have HQ:=hZ (aI hq a8);have P:=hZ (aI hf hg);clear hf hg hq a9 Z a8
 go_enter func7,ntmps7
 go_wp2_with fail;have ac:=zY w (.cells #[.pointer none,.pointer none,.pointer none,.pointer none,.slice none 0 0,.slice none 0 0,.slice none 0 0,.slice none 0 0,.slice none 0 0] 57);have a4:Aee w (w.alloc (.cells #[.pointer none,.pointer none,.pointer none,.pointer none,.slice none 0 0,.slice none 0 0,.slice none 0 0,.slice none 0 0,.slice none 0 0] 57)):=(Aa.refl _ _).alloc _;generalize w.alloc (.cells #[.pointer none,.pointer none,.pointer none,.pointer none,.slice none 0 0,.slice none 0 0,.slice none 0 0,.slice none 0 0,.slice none 0 0] 57)=W0 at*;obtain⟨pg,R⟩: ∃p,w.heap.size=p:=⟨_,rfl⟩;rw[R]at ac|-;have x:=hZ (aI a4 ac);clear ac a4
 go_region_with (first
  |(go_at_call 23;refine(aa.o _ x.o.1.drew).mono ?_;rintro e u1 ⟨Q,B1,a,E,d1,l,rfl,an,ax,ar,aA⟩;have r1:=Q.row (g:=pg) x.o.2 id;have a1:=cQ 0 r1;have f1:=zR _ _ 0 _ _ r1;have T:=zI _ pg 0 _ _ (.pointer (some (J a 0))) r1;have b1:=cQ 4 T;have g1:=zR _ _ 4 _ _ T))
 have ad:Aa (fun j=>j=pg) u1 ((u1.setCell (J pg 0) (.pointer (some (J a 0)))).setCell (J pg 4) (.slice E l.length d1)):=((Aa.refl (fun j=>j=pg) u1).setCell (p:=(J pg 0)) (.inr rfl) _).setCell (p:=(J pg 4)) (.inr rfl) _;have q1:((u1.setCell (J pg 0) (.pointer (some (J a 0)))).setCell (J pg 4) (.slice E l.length d1)).heap[pg]?=some (.cells #[.pointer (some (J a 0)),.pointer none,.pointer none,.pointer none,.slice E l.length d1,.slice none 0 0,.slice none 0 0,.slice none 0 0,.slice none 0 0] 57 (0,0)):=zI _ pg 4 _ _ _ T;generalize(u1.setCell (J pg 0) (.pointer (some (J a 0)))).setCell (J pg 4) (.slice E l.length d1)=V1 at*;have y:Hid (Aee w V1/\V1.heap[pg]?=some (.cells #[.pointer (some (J a 0)),.pointer none,.pointer none,.pointer none,.slice E l.length d1,.slice none 0 0,.slice none 0 0,.slice none 0 0,.slice none 0 0] 57 (0,0))):=⟨(x.o.1.drew.tr Q).trans ad (fun j h1 h2=>by omega),q1⟩;have ag:Hid (L9 V1 pg (.pointer (some (J a 0))) E l):=(L9.of R (x.o.1.drew.tr Q) x.o.1.drew ⟨P.o.1,Aac x.o.2⟩ an ax ar aA).step ad;clear Q an ax ar aA r1 a1 f1 T b1 g1 ad q1 x;go_wp2_with fail
 go_region_with (first
  |(go_at_call 23;refine(ak.o _ y.o.1.drew).mono ?_;rintro e u2 ⟨L,B2,s,O,X,t,rfl,ap,ay,au,aB⟩;have r2:=L.row (g:=pg) y.o.2 id;have a2:=cQ 1 r2;have f2:=zR _ _ 1 _ _ r2;have U:=zI _ pg 1 _ _ (.pointer (some (J s 0))) r2;have b2:=cQ 5 U;have g2:=zR _ _ 5 _ _ U))
 have S:Aa (fun j=>j=pg) u2 ((u2.setCell (J pg 1) (.pointer (some (J s 0)))).setCell (J pg 5) (.slice O t.length X)):=((Aa.refl (fun j=>j=pg) u2).setCell (p:=(J pg 1)) (.inr rfl) _).setCell (p:=(J pg 5)) (.inr rfl) _;have q2:((u2.setCell (J pg 1) (.pointer (some (J s 0)))).setCell (J pg 5) (.slice O t.length X)).heap[pg]?=some (.cells #[.pointer (some (J a 0)),.pointer (some (J s 0)),.pointer none,.pointer none,.slice E l.length d1,.slice O t.length X,.slice none 0 0,.slice none 0 0,.slice none 0 0] 57 (0,0)):=zI _ pg 5 _ _ _ U;generalize(u2.setCell (J pg 1) (.pointer (some (J s 0)))).setCell (J pg 5) (.slice O t.length X)=V2 at*;have z:Hid (Aee w V2/\V2.heap[pg]?=some (.cells #[.pointer (some (J a 0)),.pointer (some (J s 0)),.pointer none,.pointer none,.slice E l.length d1,.slice O t.length X,.slice none 0 0,.slice none 0 0,.slice none 0 0] 57 (0,0))):=⟨(y.o.1.drew.tr L).trans S (fun j h1 h2=>by omega),q2⟩;have ah:Hid (L9 V2 pg (.pointer (some (J s 0))) O t):=(L9.of R (y.o.1.drew.tr L) y.o.1.drew ⟨P.o.2,Aac y.o.2⟩ ap ay au aB).step S;have F:Hid (L9 V2 pg (.pointer (some (J a 0))) E l):=(ag.o.step ((Aa.refl (fun j=>j=pg) V1).drew.trans L (fun _ _ h=>h.elim))).step S;clear L ap ay au aB r2 a2 f2 U b2 g2 S q2 y ag;go_wp2_with fail
 go_region_with (first
  |(go_at_call 23;refine(aa.o _ z.o.1.drew).mono ?_;rintro e u3 ⟨D,B3,u,y3,d3,B,rfl,aq,az,av,aC⟩;have r3:=D.row (g:=pg) z.o.2 id;have a3:=cQ 3 r3;have f3:=zR _ _ 3 _ _ r3;have V:=zI _ pg 3 _ _ (.pointer (some (J u 0))) r3;have b3:=cQ 7 V;have g3:=zR _ _ 7 _ _ V))
 have M:Aa (fun j=>j=pg) u3 ((u3.setCell (J pg 3) (.pointer (some (J u 0)))).setCell (J pg 7) (.slice y3 B.length d3)):=((Aa.refl (fun j=>j=pg) u3).setCell (p:=(J pg 3)) (.inr rfl) _).setCell (p:=(J pg 7)) (.inr rfl) _;have q3:((u3.setCell (J pg 3) (.pointer (some (J u 0)))).setCell (J pg 7) (.slice y3 B.length d3)).heap[pg]?=some (.cells #[.pointer (some (J a 0)),.pointer (some (J s 0)),.pointer none,.pointer (some (J u 0)),.slice E l.length d1,.slice O t.length X,.slice none 0 0,.slice y3 B.length d3,.slice none 0 0] 57 (0,0)):=zI _ pg 7 _ _ _ V;generalize(u3.setCell (J pg 3) (.pointer (some (J u 0)))).setCell (J pg 7) (.slice y3 B.length d3)=V3 at*;have A:Hid (Aee w V3/\V3.heap[pg]?=some (.cells #[.pointer (some (J a 0)),.pointer (some (J s 0)),.pointer none,.pointer (some (J u 0)),.slice E l.length d1,.slice O t.length X,.slice none 0 0,.slice y3 B.length d3,.slice none 0 0] 57 (0,0))):=⟨(z.o.1.drew.tr D).trans M (fun j h1 h2=>by omega),q3⟩;have ai:Hid (L9 V3 pg (.pointer (some (J u 0))) y3 B):=(L9.of R (z.o.1.drew.tr D) z.o.1.drew ⟨P.o.1,Aac z.o.2⟩ aq az av aC).step M;have G:Hid (L9 V3 pg (.pointer (some (J a 0))) E l):=(F.o.step ((Aa.refl (fun j=>j=pg) V2).drew.trans D (fun _ _ h=>h.elim))).step M;have H:Hid (L9 V3 pg (.pointer (some (J s 0))) O t):=(ah.o.step ((Aa.refl (fun j=>j=pg) V2).drew.trans D (fun _ _ h=>h.elim))).step M;clear D aq az av aC r3 a3 f3 V b3 g3 M q3 z F ah;obtain⟨xs,n⟩:=gx ([.pointer (some (J a 0)),.pointer (some (J s 0)),.pointer none,.pointer (some (J u 0)),.slice E l.length d1,.slice O t.length X,.slice none 0 0,.slice y3 B.length d3]:Aei);have aP:Hid (Dj V3 pg xs (.slice none 0 0) [] V3):=⟨Aa.refl _ _,by rw[n];exact A.o.2,⟨rfl,.inl ⟨rfl,rfl⟩⟩,fun r Y=>(by cases Y),fun r Y=>(by cases Y)⟩;have aS:Hid (∀v rs W,Dj V3 pg xs v rs W->rs.length<=2000000->Js V3 W pg xs v rs):=fun v rs W hG Y k hk=>by
  have C:=Aac A.o.2;have h8:xs.length=8:=by rw[n];rfl
  match k,hk with
  |0,_=>exact G.o.turn hG C h8 Y (by decide) (by decide) (by rw[n];rfl) (by rw[n];rfl)
  |1,_=>exact H.o.turn hG C h8 Y (by decide) (by decide) (by rw[n];rfl) (by rw[n];rfl)
  |2,_=>exact⟨.pointer none,none,0,[],hG,C,h8,Y,by decide,by rw[n];rfl,by rw[n];rfl,.inl ⟨rfl,rfl,rfl⟩,fun i hi=>by simp at hi,zZ _,fun f hf=>by cases hf⟩
  |3,_=>exact ai.o.turn hG C h8 Y (by decide) (by decide) (by rw[n];rfl) (by rw[n];rfl)
 have k0:=cO 0 A.o.2;have k1:=cO 1 A.o.2;have k3:=cO 3 A.o.2;have aR:=hZ A.o.1;clear n A G H ai aa ak P hl a5;go_wp2_with fail
 go_loopw[8] (fun vi wr=> ∃(i:Nat) (v:Value) (rs:List Rec),i<=N.length/\vi=I i/\rs.length<=i/\Hid (Dj V3 pg xs v rs wr)) (fun vi _=>N.length-(intOf vi).toNat)
 case atStart=>exact⟨0,_,[],zZ _,rfl,zK _,aP.o⟩
 case round=>
  obtain⟨i,v,rs,bm,rfl,bq,HG⟩:=hrel;have aj:Hid (Aee w wr):=aR.o.trans HG.o.kept (fun j h1 h2=>by omega)
  by_cases C:i<N.length
  ·obtain⟨aV,hd⟩:=dT i N.length;obtain⟨b,o,rfl,_,hc⟩:=(HQ.o.1.kept aj.o (fun _ _=>id)) i C;have a7:=HQ.o.2 _ (z6 C);have K:=yU (m:=1000+i) (aS.o v rs wr HG.o (by omega)) a7 (by omega);have a6:((1000+i:Nat):Int)=1000+(i:Int):=by omega
   rw[a6]at K;generalize N[i]=q at*;obtain⟨q0,q1,q2,q3,q4,q5⟩:=q;have e0:wr.cell? (J b (o+i*6))=some (I q0):=hc 0 _ rfl;have e1:wr.cell? (J b (o+i*6+1))=some (I q1):=hc 1 _ rfl;have e2:wr.cell? (J b (o+i*6+2))=some (I q2):=hc 2 _ rfl;have e3:wr.cell? (J b (o+i*6+3))=some (I q3):=hc 3 _ rfl;have e4:wr.cell? (J b (o+i*6+4))=some (I q4):=hc 4 _ rfl;have e5:wr.cell? (J b (o+i*6+5))=some (.string q5):=hc 5 _ rfl;clear hc a6 a7 k0 k1 k3;go_wp2_with fail;refine K.mono ?_;rintro e w9 ⟨rfl,v9,aW,aw,bn⟩;have aQ:=hZ aw;clear K aw e0 e1 e2 e3 e4 e5;go_wp2_with fail;go_roundw
   case rel=>exact⟨i+1,v9,aW,by omega,by go_num,by omega,aQ⟩
   case measure=>simp[intOf];omega
  ·obtain⟨aV,hd⟩:=dF i N.length;go_wp2_with fail;go_ret;exact⟨rfl,aj.o⟩
namespace Hm
abbrev RS:=Nat×Bool
def Cs(s:Aeg)(st:RS)(k:Nat):Nat×RS:=if s.length<st.1+k then(0,(st.1,true))else(Dq ((s.drop st.1).take k),(st.1+k,st.2))
def El(s:Aeg)(st:RS)(n:Nat):Aeg×RS:=if st.2=true\/s.length<st.1+n then([],(st.1,true))else((s.drop st.1).take n,(st.1+n,false))
theorem Og(s:Aeg)(st:RS)(k:Nat)(h:st.1<=s.length):(Cs s st k).2.1<=s.length:=by
 unfold Cs;split
 ·exact h
 ·show st.1+k<=_;omega
theorem Zi(s:Aeg)(st:RS)(n:Nat)(h:st.1<=s.length):(El s st n).2.1<=s.length:=by
 unfold El;split
 ·exact h
 ·show st.1+n<=_;omega
theorem sJ(l:Aeg)(i:Nat)(h:i<l.length):Dq (l.drop i)=l[i].toNat+256*Dq (l.drop (i+1)):=by
 rw[Aan h];rfl
end Hm
def C6(w:World)(p:Nat)(s:Aeg)(st:RS):Prop:=w.heap[p]?=some (.cells #[.string ⟨s.toArray⟩,.int .i64 st.1,.bool st.2] 145 (0,0))
theorem Jg(p k:Nat)(s:Aeg)(st:RS)(w:World)(h:C6 w p s st)(hk:k<=2)(n:st.1<=s.length)(hs:s.length<=30000):
  Calls prog 73 #[.pointer (some ⟨p,0,none⟩),.int .i64 k] w fun e w'=>e= .returned (.int .i64 ((Cs s st k).1:Nat))/\C6 w' p s (Cs s st k).2/\Aa (fun j=>j=p) w w':=by
 obtain⟨at',f⟩:=st;obtain⟨S,r⟩:=gx (⟨s.toArray⟩:ByteArray);have P:S.size=s.length:=by rw[r];show s.toArray.size=_;simp
 have c:S.data.toList=s:=by rw[r]
 have b:=h;unfold C6 at b;rw[<-r]at b;have M:=cO 0 b;have N:=cO 1 b;have O:=cO 2 b;have f1:=zR _ _ 1 _ _ b;have f2:=zR _ _ 2 _ _ b;have Q:at'<=s.length:=n;have H:=hZ b;have HS:=hZ (aI r c);have A:IntKind.i64.wrap ((at':Int)+(k:Int))=((at'+k:Nat):Int):=by rw[Aar];omega
 by_cases x:s.length<at'+k
 ·have z:Cs s (at',f) k=(0,(at',true)):=if_pos x;rw[z];have hd:decide ((s.length:Int)<((at'+k:Nat):Int))=true:=zJ (by omega);have g:decide (s.length<at'+k)=true:=zJ (by omega);clear h b r c n z;obtain⟨y,B⟩:=gx (at'+k);rw[<-B]at hd g A;clear B
  go_enter func73,ntmps73
  go_wp2_with fail;go_quiet(fail);go_wp2_with fail;go_ret;have hb:=zI (w.drewN nq) p 2 _ _ (.bool true) H.o;refine⟨rfl,?_,((Aa.refl (fun j=>j=p) w).drewN nq).setCell (p:=(J p 2)) (.inr rfl) _⟩;unfold C6;rw[<-HS.o.1];exact hb
 ·have z:Cs s (at',f) k=(Dq ((s.drop at').take k),(at'+k,f)):=if_neg x;rw[z];obtain⟨l,C⟩:=gx ((s.drop at').take k);have E:l.length=k:=by rw[C,zS,Aas];omega
  rw[<-C];have L:Hid (∀i,(h:i<k)-> ∃q,q=at'+i/\ ∃K:q<S.size,S[q]=l[i]):=fun i hi=>by
   have h1:at'+i<S.size:=by omega
   refine⟨at'+i,rfl,h1,?_⟩;have e:S.data.toList[at'+i]?=l[i]?:=by rw[c,C,Ad1,if_pos hi,Adq]
   rw[zH (l:=l) (by omega),Array.getElem?_toList,Ab6 (show at'+i<S.data.size from h1)]at e;exact Aak e
  have hd:decide ((s.length:Int)<((at'+k:Nat):Int))=false:=zM (by omega);have g:decide (s.length<at'+k)=false:=zM (by omega);have d:=hZ E;clear h b r c n z C;obtain⟨y,B⟩:=gx (at'+k);rw[<-B]at hd g A|-;have zy:(at':Int)+(k:Int)=(y:Int):=by omega
  clear B
  go_enter func73,ntmps73
  go_wp2_with fail;go_quiet(fail);go_wp2_with fail
  go_loopw[5,6] (fun v5 G wr=> ∃j:Nat,j<=k/\G=I ((j:Int)-1)/\v5=I (Dq (l.drop j):Nat)/\Aee w wr) (fun _ G _=>(intOf G+1).toNat)
  case atStart=>exact⟨k,zK _,by first|rfl|go_num,by rw[List.drop_of_length_le (by rw[d.o];exact zK _)];rfl,(Aa.refl _ _).drewN _⟩
  case round=>
   obtain⟨j,hj,rfl,rfl,m⟩:=hrel;have a:=m.row H.o id;have d0:=cO 0 a;have d1:=cO 1 a;have e1:=zR _ _ 1 _ _ a;have D:=hZ (aI a m);clear a m M N O f1 f2;cases j with
   |zero=>
    have F:((0:Nat):Int)-1= -1:=rfl;rw[F,Ad3];go_wp2_with fail;go_ret;have hb:=zI wr p 1 _ _ (I y) D.o.1;refine⟨rfl,?_,(D.o.2.wider (T:=fun j=>j=p) (fun _ _ h=>h.elim)).setCell (p:=(J p 1)) (.inr rfl) _⟩;unfold C6;rw[<-HS.o.1];exact hb
   |succ i=>
    have F:((i+1:Nat):Int)-1=(i:Int):=by omega
    rw[F];obtain⟨q,K,V,u⟩:=L.o i (by omega);have t:Hid (Dq (l.drop i)=l[i].toNat+256*Dq (l.drop (i+1))):=sJ l i (by have:=d.o;omega);have Y:Dq (l.drop (i+1))<65536:=by
     have h1:=Nx (l.drop (i+1));rw[Aas]at h1;have h2:256^(l.length-(i+1))<=256^2:=Abk (by omega) (by have:=d.o;omega);omega
    rw[<-u]at t;have ab:IntKind.i64.wrap ((at':Int)+(i:Int))=(q:Int):=by rw[Aar];omega
    have W:(q:Int)<(S.size:Int):=by omega
    have X:(q:Int)<(s.length:Int):=by omega
    have R:=S[q].toNat_lt;generalize Dq (l.drop (i+1))=v at*;have aa:IntKind.i64.wrap (256*(v:Int))=((256*v:Nat):Int):=by rw[Aar];omega
    have Z:IntKind.i64.wrap (((256*v:Nat):Int)+((S[q].toNat:Nat):Int))=((S[q].toNat+256*v:Nat):Int):=by rw[Aar];omega
    have U:decide ((0:Int)<=(i:Int))=true:=zJ (by omega);clear K u;go_wp2_with fail;go_quiet(fail);go_wp2_with fail;go_roundw
    case rel=>exact⟨i,by omega,rfl,by rw[t.o];congr 1;omega,D.o.2.drewN _⟩
    case measure=>simp[intOf]
theorem fI(p n:Nat)(s:Aeg)(st:RS)(w:World)(h:C6 w p s st)(hn:n<=1000000000)(d:st.1<=s.length)(hs:s.length<=30000):
  Calls prog 74 #[.pointer (some ⟨p,0,none⟩),.int .i64 n] w fun e w'=>e= .returned (.string ⟨(El s st n).1.toArray⟩)/\C6 w' p s (El s st n).2/\Aa (fun j=>j=p) w w':=by
 obtain⟨at',b⟩:=st;obtain⟨S,g⟩:=gx (⟨s.toArray⟩:ByteArray);have F:S.size=s.length:=by rw[g];show s.toArray.size=_;simp
 have c:=h;unfold C6 at c;rw[<-g]at c;have B:=cO 0 c;have C:=cO 1 c;have D:=cO 2 c;have f1:=zR _ _ 1 _ _ c;have f2:=zR _ _ 2 _ _ c;have G:at'<=s.length:=d;have q:=hZ c;have HS:=hZ g;have f:IntKind.i64.wrap ((at':Int)+(n:Int))=((at'+n:Nat):Int):=by rw[Aar];omega
 by_cases a:b=true\/s.length<at'+n
 ·have l:El s (at',b) n=([],(at',true)):=if_pos a;rw[l];have E:(⟨([]:Aeg).toArray⟩:ByteArray)=⟨#[]⟩:=rfl;rw[E];clear h c g d l;obtain⟨y,m⟩:=gx (at'+n);rw[<-m]at f a;clear m;cases b with
  |true=>
   clear a f
   go_enter func74,ntmps74
   go_wp2_with fail;go_quiet(fail);go_wp2_with fail;go_ret;have hb:=zI (w.drewN nq) p 2 _ _ (.bool true) q.o;refine⟨rfl,?_,((Aa.refl (fun j=>j=p) w).drewN nq).setCell (p:=(J p 2)) (.inr rfl) _⟩;unfold C6;rw[<-HS.o];exact hb
  |false=>
   have u:s.length<y:=a.resolve_left (by simp);have hd:=(dT s.length y).2;have t:=zJ u;clear a
   go_enter func74,ntmps74
   go_wp2_with fail;go_quiet(fail);go_wp2_with fail;go_ret;have hb:=zI (w.drewN nq) p 2 _ _ (.bool true) q.o;refine⟨rfl,?_,((Aa.refl (fun j=>j=p) w).drewN nq).setCell (p:=(J p 2)) (.inr rfl) _⟩;unfold C6;rw[<-HS.o];exact hb
 ·have l:El s (at',b) n=((s.drop at').take n,(at'+n,false)):=if_neg a;rw[l];have r:b=false:=by cases b with|false=>rfl|true=>exact absurd (.inl rfl) a
  subst r;have k: ¬s.length<at'+n:=fun h=>a (.inr h);have v:Hid (S.extract at' (at'+n)=⟨((s.drop at').take n).toArray⟩):=by
   show _=_;apply Acj;apply Abr;rw[g];simp only[Acu,Ac1,Ab5,Acq]
  clear h c g d l a;obtain⟨y,m⟩:=gx (at'+n);rw[<-m]at f v k|-;have M:(at':Int)+(n:Int)=(y:Int):=by omega
  have L:IntKind.i64.wrap ((y:Int)-(n:Int))=(at':Int):=by rw[Aar];omega
  have hd:=(dF s.length y).2;have t:=zM k;have K:y<=s.length:=by omega
  have H:at'<=y:=by omega
  have A:(y:Int)<=(s.length:Int):=by omega
  have z:(at':Int)<=(y:Int):=by omega
  clear m
  go_enter func74,ntmps74
  go_wp2_with fail;go_quiet(fail);go_wp2_with fail;have hb:=zI (w.drewN nq) p 1 _ _ (I y) q.o;have i:Aa (fun j=>j=p) w ((w.drewN nq).setCell (J p 1) (I y)):=((Aa.refl (fun j=>j=p) w).drewN nq).setCell (p:=(J p 1)) (.inr rfl) _;generalize(w.drewN nq).setCell (J p 1) (I y)=W2 at*;have d0:=cO 0 hb;have d1:=cO 1 hb;have x:Hid (C6 W2 p s (y,false)/\Aa (fun j=>j=p) w W2):=⟨by unfold C6;rw[<-HS.o];exact hb,i⟩;clear hb i B C D f1 f2;go_quiet(fail);go_wp2_with fail;go_ret;exact⟨by rw[<-v.o];rfl,x.o.1,x.o.2.drewN _⟩
namespace Hm
def Dv(s:Aeg)(st:RS)(n:Nat):List Bool×RS:=if(El s st ((n+7)/8)).2.2=true then([],(El s st ((n+7)/8)).2)else((List.range n).map (Al (El s st ((n+7)/8)).1),(El s st ((n+7)/8)).2)
def I9(f:Nat->Bool)(n i:Nat):Aeg:=Ae ((List.range i).map f)++List.replicate (n-i) 0
theorem sK(f:Nat->Bool)(n i:Nat)(h:i<n):(I9 f n i)[i]?=some 0:=by
 unfold I9 Ae;rw[z7 (by simp)];simp[List.getElem?_replicate];omega
theorem sL(f:Nat->Bool)(n i:Nat)(h:i<n):(I9 f n i).set i (if f i then 49 else 48)=I9 f n (i+1):=by
 unfold I9 Ae;rw[Aba _ _ (by simp)];simp only[Aai,Acb,Abd];rw[show n-i=(n-(i+1))+1 from by omega,Abx,zW,Acm,Abt,Abt];simp
end Hm
theorem Yu{t:Aeg}(h:w.heap[g]?=some (.cells (Ag t).toArray 5 (0,0)))(k c:Nat)(hk:t.length=k):(convert 79 9 (.slice (some ⟨g,0,none⟩) k c)).run prog w= .ok (.string ⟨t.toArray⟩) w:=by
 have d:=run_convert_bytes_arg w _ _ underlying79 underlying5 g 0 k c (t.map fun b=>(b.toNat:Int)) (by rw[Aai];exact hk) (fun i hi=>by
  have a:i<t.length:=by omega
  rw[Aao,zP _ _ i _ _ _ h,Aag,Ag,Aah,zG,Aah,zH a];rfl) _ underlying9
 have e:strOfNums (t.map fun b=>(b.toNat:Int))=⟨t.toArray⟩:=by
  unfold strOfNums;rw[List.map_map];have f:((fun n:Int=>UInt8.ofNat n.toNat)∘fun b:UInt8=>(b.toNat:Int))=id:=by funext b;simp
  rw[f,List.map_id]
 rw[e]at d;exact d
theorem fJ(p n:Nat)(s:Aeg)(st:RS)(w:World)(h:C6 w p s st)(hn:n<=1000000)(M:st.1<=s.length)(hs:s.length<=30000):
  Calls prog 120 #[.pointer (some ⟨p,0,none⟩),.int .i64 n] w fun e w'=>e= .returned (.string ⟨(Ae (Dv s st n).1).toArray⟩)/\C6 w' p s (Dv s st n).2/\Aa (fun j=>j=p) w w':=by
 obtain⟨i0,hi,aa,ab,ac⟩:=Aa6 Rn;have K:=fI p ((n+7)/8) s st w h (by omega) M hs;have au:p<w.heap.size:=Aac h;have A:Hid (Dv s st n=if(El s st ((n+7)/8)).2.2=true then([],(El s st ((n+7)/8)).2)else((List.range n).map (Al (El s st ((n+7)/8)).1),(El s st ((n+7)/8)).2)):=rfl;have W:Hid ((El s st ((n+7)/8)).2.2=false->(El s st ((n+7)/8)).1.length=(n+7)/8):=fun hb=>by
  unfold El at hb|-;split at hb
  ·cases hb
  ·rename_i hc;rw[if_neg hc];show((s.drop st.1).take ((n+7)/8)).length=_;rw[zS,Aas];have: ¬s.length<st.1+(n+7)/8:=fun h=>hc (.inr h);omega
 generalize Dv s st n=RB at*;generalize El s st ((n+7)/8)=R at*;obtain⟨T,ad⟩:=R;obtain⟨a1,B⟩:=ad;have z8:((n:Int)+7)/8=(((n+7)/8:Nat):Int):=by omega
 generalize(n+7)/8=m at*;clear h M
 go_enter func120,ntmps120
 go_wp2_with fail;refine K.mono ?_;rintro e x ⟨rfl,v,F⟩;have l:x.heap[p]?=some (.cells #[.string ⟨s.toArray⟩,I a1,.bool B] 145 (0,0)):=v;have c2:=cO 2 l;obtain⟨S,Q⟩:=gx (⟨T.toArray⟩:ByteArray);have am:S.size=T.length:=by rw[Q];show T.toArray.size=_;simp
 have Y:S.data.toList=T:=by rw[Q]
 have y:=hZ (aI v F);rw[<-Q];clear K v F l Q;cases B with
 |true=>
  go_wp2_with fail;go_ret;rw[A.o];exact⟨rfl,y.o.1,y.o.2⟩
 |false=>
  have an:=W.o rfl
  go_wp2_with(at_make;refine Abv _ rfl (.tmp 17) (.tmp 17) 79 rfl x.heap.size 5 i0 (.int .u8 0) 1 underlying79 hi aa ab .i64 .i64 _ _ n rfl rfl rfl rfl (by rw[ac];omega) (by unfold maxLen;omega) (zK _) ?_;intro w2 u D)
  have t:Aee x w2:=(Aa.refl _ _).grown D (fun k hk=>by cases hk);have L:w2.heap[x.heap.size]?=some (.cells (Ag (I9 (Al T) n 0)).toArray 5 (0,0)):=by
   rw[Acw,show(Value.int .u8 0).cells= #[Value.int .u8 0]from rfl,Ac4]at u;rcases u.2 with⟨h1,_⟩|⟨g2,cap,cur,h1,_,U,_,_,hs,ht⟩
   ·cases h1
   ·cases h1;have e:cur.toList.take (n*1)=cur.toList:=Aap (by simp;omega);have e2:cur=(Ag (I9 (Al T) n 0)).toArray:=by
     apply Abr;rw[<-e,ht];simp[I9,Ae,Ag]
    rw[U,e2]
  have N:p<x.heap.size:=Aac y.o.1;have P:Hid (C6 w2 p s (a1,false)/\Aa (fun j=>j=p) w w2/\w2.heap[x.heap.size]?=some (.cells (Ag (I9 (Al T) n 0)).toArray 5 (0,0))):=⟨t.row y.o.1 id,y.o.2.tr (t.wider (T:=fun j=>j=p) (fun _ _ h=>h.elim)),L⟩;have O:=y.o.2.size;clear u D t L;obtain⟨g,U⟩:=gx x.heap.size;rw[<-U]at P N O|-;clear U;go_wp2_with fail
  go_loopw[7] (fun vi wr=> ∃i:Nat,i<=n/\vi=I i/\wr.heap[g]?=some (.cells (Ag (I9 (Al T) n i)).toArray 5 (0,0))/\Aa (fun j=>j=g) w2 wr) (fun vi _=>n-(intOf vi).toNat)
  case atStart=>exact⟨0,zZ _,rfl,P.o.2.2,Aa.refl _ _⟩
  case round=>
   obtain⟨i,ar,rfl,a,f⟩:=hrel
   by_cases G:i<n
   ·obtain⟨q,hq⟩:=gx (i/8);obtain⟨r,hr⟩:=gx (i%8);have zq:(i:Int)/8=(q:Int):=by omega
    have zr:(i:Int)%8=(r:Int):=by omega
    have ax:r<8:=by omega
    have Z:q<S.size:=by omega
    have av:(q:Int)<(S.size:Int):=by omega
    have aw:(q:Int)<(T.length:Int):=by omega
    have H:(i:Int)<(n:Int):=by omega
    have C:T.getD q 0=S[q]:=by
     rw[<-Y,zG,zH (by simpa using Z)];rfl
    have c0:wr.cell? (J g i)=some (.int .u8 0):=by
     rw[zP _ _ i _ _ _ a,Aag,Ag,Aah,sK _ _ _ G];rfl
    have f0:=zR _ _ i _ _ a;have ap:=S[q].toNat_lt;obtain⟨b,hb⟩:=gx (S[q].toNat);obtain⟨d,hd⟩:=gx (b/2^r%2);have HV:Hid (((if Al T i then 49 else 48:UInt8).toNat:Nat)=48+d):=by
     show _=_;unfold Al;rw[<-hq,<-hr,C,<-hb,<-hd];have:d<2:=by rw[hd];exact Nat.mod_lt _ (by omega)
     rcases(show d=0\/d=1 by omega)with e|e<;>rw[e]<;>rfl
    have X:Hid ((I9 (Al T) n i).set i (if Al T i then 49 else 48)=I9 (Al T) n (i+1)):=sL _ _ _ G;have HR:=hZ (aI a f);have V:Hid (b=S[q].toNat/\d=b/2^r%2/\b<256):=⟨hb,hd,by omega⟩;clear hq hr C a f hd hb;go_wp2_with fail;go_roundw
    case rel=>
     obtain⟨hb,hd,ao⟩:=V.o;have hv:((48:Int)+((S[q].toNat:Int)/2^r).tmod 2)%256=(((if Al T i then 49 else 48:UInt8).toNat:Nat):Int):=by
      have e1:(S[q].toNat:Int)/2^r=((b/2^r:Nat):Int):=by rw[<-hb];simp
      rw[HV.o,e1,Int.tmod_eq_emod_of_nonneg (Int.natCast_nonneg _)];generalize b/2^r=z at hd|-;omega
     rw[hv];refine⟨i+1,by omega,by go_num,?_,HR.o.2.setCell (p:=(J g i)) (.inr rfl) _⟩;rw[zI wr g i _ _ _ HR.o.1,<-X.o];congr 2;apply Abr;unfold Ag;rw[Ace];simp
    case measure=>simp[intOf];omega
   ·have E:i=n:=by omega
    have H: ¬(i:Int)<(n:Int):=by omega
    have c:I9 (Al T) n i=Ae ((List.range n).map (Al T)):=by
     unfold I9;rw[E,Abd,Adx,Abe]
    rw[c]at a;have aq:=Yu a n n (by simp[Ae]);have HF:Hid (C6 wr p s (a1,false)/\Aa (fun j=>j=p) w wr):=⟨f.row P.o.1 (by omega),P.o.2.1.trans f (fun j hj e=>by omega)⟩;clear a f c E;go_wp2_with fail;go_ret;rw[A.o];exact⟨rfl,HF.o.1,HF.o.2⟩
namespace Hm
def Ij:List Bool->Nat
 |[]=>0
 |b::r=>b.toNat+2*Ij r
theorem dQ: ∀l:List Bool,Ij l<2^l.length
 |[]=>by simp[Ij]
 |b::r=>by
  have:=dQ r;have:=La b;rw[Ij,Aau,Abl];omega
theorem vE(l:List Bool)(i:Nat)(h:i<l.length):Ij (l.drop i)=l[i].toNat+2*Ij (l.drop (i+1)):=by
 rw[Aan h];rfl
end Hm
theorem lQ(bs:List Bool)(w:World)(hb:bs.length<=30):
  Calls prog 121 #[.string ⟨(Ae bs).toArray⟩] w fun e w'=>e= .returned (.int .i64 (Ij bs:Nat))/\w'=w:=by
 obtain⟨S,a⟩:=gx (⟨(Ae bs).toArray⟩:ByteArray);have k:S.size=bs.length:=by rw[a];show(Ae bs).toArray.size=_;simp[Ae]
 have g:Hid (∀i,(h:i<bs.length)-> ∃hi:i<S.size,(S[i].toNat:Int)=48+((bs[i].toNat:Nat):Int)):=fun i hi=>by
  have h1:i<S.size:=by omega
  refine⟨h1,?_⟩;have e:S[i]=if bs[i]then 49 else 48:=by
   subst a;show(Ae bs).toArray[i]'_=_;simp[Ae]
  rw[e];cases bs[i]<;>rfl
 rw[<-a];clear a
 go_enter func121,ntmps121
 go_wp2_with fail
 go_loopw[3,4] (fun r f wr=> ∃j:Nat,j<=bs.length/\f=I ((j:Int)-1)/\r=I (Ij (bs.drop j):Nat)/\wr=w) (fun _ f _=>(intOf f+1).toNat)
 case atStart=>exact⟨bs.length,zK _,by first|rfl|go_num,by rw[Ab7];rfl,rfl⟩
 case round=>
  obtain⟨j,t,rfl,rfl,rfl⟩:=hrel;cases j with
  |zero=>
   have c:((0:Nat):Int)-1= -1:=rfl;rw[c,Ad3];go_wp2_with fail;go_ret;exact⟨rfl,rfl⟩
  |succ i=>
   have c:((i+1:Nat):Int)-1=(i:Int):=by omega
   rw[c];obtain⟨hi,s⟩:=g.o i (by omega);have b:Hid (Ij (bs.drop i)=bs[i].toNat+2*Ij (bs.drop (i+1))):=vE bs i (by omega);have q:Ij (bs.drop (i+1))<2^30:=by
    have h1:=dQ (bs.drop (i+1));rw[Aas]at h1;have h2:2^(bs.length-(i+1))<=2^30:=Abk (by omega) (by omega);omega
   have l:=La bs[i];generalize bs[i].toNat=d at*;generalize Ij (bs.drop (i+1))=v at*;have p:(i:Int)<(S.size:Int):=by omega
   have n:(i:Int)<(bs.length:Int):=by omega
   have m:decide ((0:Int)<=(i:Int))=true:=zJ (by omega);go_wp2_with fail;go_roundw
   case rel=>exact⟨i,by omega,rfl,by rw[b.o];congr 1;omega,Ad2⟩
   case measure=>simp[intOf]
theorem oQ(p:Aej)(c:Nat)(l:List ByteArray)(t:ByteArray)(w:World)(h:Mi w p l)(u:l.length<=1000000):
  Calls prog 122 #[.slice p l.length c,.string t] w fun e w'=>((∃i:Nat,e= .returned (.int .i64 i)/\ ∃hi:i<l.length,l[i]=t/\ ∀j,(a:j<i)->l[j]≠t)\/(e= .returned (.int .i64 (-1))/\ ∀j,(a:j<l.length)->l[j]≠t))/\w'=w:=by
 have HS:=hZ h;clear h
 go_enter func122,ntmps122
 go_wp2_with fail
 go_loopw[5] (fun vi wr=> ∃i:Nat,i<=l.length/\vi=I i/\Hid (∀j,(a:j<l.length)->j<i->l[j]≠t)/\wr=w) (fun vi _=>l.length-(intOf vi).toNat)
 case atStart=>exact⟨0,zZ _,rfl,fun j _ h=>by omega,rfl⟩
 case round=>
  obtain⟨i,hi,rfl,m,rfl⟩:=hrel
  by_cases f:i<l.length
  ·have g:(i:Int)<(l.length:Int):=by omega
   obtain⟨b,o,rfl,hb,s⟩:=HS.o i f
   by_cases d:l[i]=t
   ·have q:(l[i].toList==t.toList)=true:=by rw[d];simp
    have k:=hZ d;clear d;obtain⟨x,r⟩:=gx (l[i]);rw[<-r]at s q;clear r;go_wp2_with fail;go_ret;exact⟨.inl ⟨i,rfl,f,k.o,fun j a=>m.o j (by omega) a⟩,rfl⟩
   ·have q:(l[i].toList==t.toList)=false:=by
     rw[Aat,Aa2,Aa2];exact fun e=>d (by apply Acj;exact Abr e)
    have k:Hid (∀j,(a:j<l.length)->j<i+1->l[j]≠t):=fun j a h2=>by
     rcases Nat.lt_or_eq_of_le (show j<=i by omega)with n|n
     ·exact m.o j a n
     ·subst n;exact d
    clear d;generalize l[i]=x at*;go_wp2_with fail;go_roundw
    case rel=>exact⟨i+1,by omega,by go_num,k,Ad2⟩
    case measure=>simp[intOf];omega
  ·have g: ¬(i:Int)<(l.length:Int):=by omega
   go_wp2_with fail;go_ret;exact⟨.inr ⟨rfl,fun j a=>m.o j a (by omega)⟩,rfl⟩
namespace Hm
def Gc(bs:List Bool)(m l:Nat):Nat->Aeh
 |0=>[]
 |k+1=>if bs.getD (m*l+k) false=true/\(Gc bs m l k).length<m then Gc bs m l k++[(k-(Gc bs m l k).length)*2^l+Ij ((bs.drop ((Gc bs m l k).length*l)).take l)]else Gc bs m l k
theorem Sc(bs:List Bool)(m l:Nat): ∀k,(Gc bs m l k).length<=k/\(Gc bs m l k).length<=m
 |0=>⟨zK _,zZ _⟩
 |k+1=>by
  have a:=Sc bs m l k;rw[Gc];split
  ·rename_i h;rw[zL];simp only[Adl];omega
  ·omega
def Kb(s:Aeg)(st:RS)(m n:Nat):Aeh×RS:=
 (if(Dv s st (m*Ca m n+m+n/2^Ca m n+1)).2.2=true then []else Gc (Dv s st (m*Ca m n+m+n/2^Ca m n+1)).1 m (Ca m n) (m+n/2^Ca m n+1),(Dv s st (m*Ca m n+m+n/2^Ca m n+1)).2)
theorem Rb(s:Aeg)(st:RS)(n:Nat)(h:(Dv s st n).2.2=false):(Dv s st n).1.length=n:=by
 unfold Dv at h|-;split at h
 ·rename_i a;rw[a]at h;cases h
 ·rename_i a;rw[if_neg a];simp
theorem Sd(x:List Bool)(a b:Nat):(⟨(Ae x).toArray⟩:ByteArray).extract a (a+b)=⟨(Ae ((x.drop a).take b)).toArray⟩:=by
 apply Acj;rw[Acu];apply Abr;rw[Ac1,Ab5];simp[Ae,List.map_take,List.map_drop]
end Hm
theorem vF(p m n:Nat)(s:Aeg)(st:RS)(w:World)(h:C6 w p s st)(hm:m<=40)(hn:n<=6000)(aj:st.1<=s.length)(hs:s.length<=30000):
  Calls prog 75 #[.pointer (some ⟨p,0,none⟩),.int .i64 m,.int .i64 n] w fun e w'=> ∃v,e= .returned v/\w'.ownsRow w.heap.size 3 1 v (Kb s st m n).1.length (Ad (Kb s st m n).1)/\C6 w' p s (Kb s st m n).2/\Aa (fun j=>j=p) w w':=by
 obtain⟨i0,hi,a7,a8,a9⟩:=Aa6 Jy;have bj:p<w.heap.size:=Aac h;have C:=Nw m n hn;have E:=bA m n w (by omega) hn;have c:Hid (Kb s st m n=(if(Dv s st (m*Ca m n+m+n/2^Ca m n+1)).2.2=true then []else Gc (Dv s st (m*Ca m n+m+n/2^Ca m n+1)).1 m (Ca m n) (m+n/2^Ca m n+1),(Dv s st (m*Ca m n+m+n/2^Ca m n+1)).2)):=rfl;generalize Kb s st m n=RE at*;generalize Ca m n=l at*;have t:=Wg l w (by omega);obtain⟨P,hP⟩:=gx (2^l);have aZ:1<=P:=by rw[hP];exact Nat.one_le_two_pow
 have ap:P<=4096:=by rw[hP];exact Abk (n:=2) (by omega) C
 obtain⟨d,hd⟩:=gx (n/P);have bf:d<=n:=by rw[hd];exact Acd _ _
 have be:d*P<=n:=by rw[hd];exact Nat.div_mul_le_self _ _
 obtain⟨K,f⟩:=gx (m*l);have aK:K<=480:=by rw[f];exact Aa4 hm C
 have bv:(m:Int)*(l:Int)=(K:Int):=by rw[f];exact(Adb m l).symm
 have zd:(n:Int)/(P:Int)=(d:Int):=by rw[hd];exact(Int.natCast_ediv n P).symm
 rw[<-hP]at t;rw[<-hP,<-hd,<-f]at c;obtain⟨U,hU⟩:=gx (m+d+1);rw[<-hU]at c;have zU:(m:Int)+(d:Int)+1=(U:Int):=by omega
 obtain⟨T,hT⟩:=gx (K+m+d+1);rw[<-hT]at c;have g:=fJ p T s st w h (by omega) aj hs;have an:=hZ (Rb s st T);generalize Dv s st T=R at*;obtain⟨bs,aA⟩:=R;obtain⟨a1,Y⟩:=aA;have zT:(K:Int)+(m:Int)+(d:Int)+1=(T:Int):=by omega
 have HP:=hZ hP;have W:=hZ f;have ba: ¬(P:Int)=0:=by omega
 have HT:Hid (T=K+U/\U=m+d+1):=⟨by omega,hU⟩;have bb:T<=7000:=by omega
 have bc:U<=6100:=by omega
 clear h aj hP hd f hT hU
 go_enter func75,ntmps75
 go_wp2_with fail;refine E.mono ?_;rintro e w1 ⟨rfl,rfl⟩;clear E;go_wp2_with fail;refine t.mono ?_;rintro e w2 ⟨rfl,rfl⟩;clear t;go_wp2_with fail;refine g.mono ?_;rintro e Q ⟨rfl,O,ad⟩;have F:Q.heap[p]?=some (.cells #[.string ⟨s.toArray⟩,I a1,.bool Y] 145 (0,0)):=O;have c2:=cO 2 F;obtain⟨S,hS⟩:=gx (⟨(Ae bs).toArray⟩:ByteArray);have aq:S.size=bs.length:=by rw[hS];show(Ae bs).toArray.size=_;simp[Ae]
 have HS:=hZ hS;have HG:Hid (∀i,(h:i<bs.length)-> ∃hi:i<S.size,S[i]=if bs[i]then 49 else 48):=fun i hi=>by
  have h1:i<S.size:=by omega
  refine⟨h1,?_⟩;subst hS;show(Ae bs).toArray[i]'_=_;simp[Ae]
 have V:=hZ (aI O ad);rw[<-hS];clear g O ad F hS;cases Y with
 |true=>
  go_wp2_with fail;go_ret;rw[c.o];exact⟨_,rfl,Aco _ _ _ _,V.o.1,V.o.2⟩
 |false=>
  have ab:=an.o rfl;have a2:=V.o.2.size;go_wp2_with fail
  go_loopw[10,11] (fun vo vk wr=> ∃k:Nat,k<=U/\vk=I k/\wr.ownsRow Q.heap.size 3 1 vo (Gc bs m l k).length (Ad (Gc bs m l k))/\Aee Q wr) (fun _ vk _=>U-(intOf vk).toNat)
  case atStart=>exact⟨0,zZ _,rfl,Aco _ _ _ _,Aa.refl _ _⟩
  case round=>
   obtain⟨k,bg,rfl,a,r⟩:=hrel;obtain⟨ao,co,a6,_⟩:=An a;subst a6
   by_cases bh:k<U
   ·obtain⟨af,au⟩:=dT k U;have aP:=Sc bs m l k;obtain⟨q,hq⟩:=gx (K+k);have ai:q<bs.length:=by rw[ab,HT.o.1,hq];omega
    obtain⟨bl,B⟩:=HG.o q ai;have zq:(K:Int)+(k:Int)=(q:Int):=by omega
    have bk:(q:Int)<(S.size:Int):=by omega
    have b:Hid (Gc bs m l (k+1)=if bs[q]=true/\(Gc bs m l k).length<m then Gc bs m l k++[(k-(Gc bs m l k).length)*P+Ij ((bs.drop ((Gc bs m l k).length*l)).take l)]else Gc bs m l k):=by
     show _=_;rw[Gc,<-W.o,<-hq,<-HP.o,zG,zH ai];rfl
    have H:=hZ (aI a r);generalize Gc bs m l k=out at*;generalize bs[q]=bq at*;have G:Hid ((bq=true/\out.length<m->False)->wr.ownsRow Q.heap.size 3 1 (.slice ao out.length co) (Gc bs m l (k+1)).length (Ad (Gc bs m l (k+1)))):=fun hc=>by
     rw[b.o,if_neg hc];exact H.o.1
    clear a r hq;cases bq with
    |false=>
     have aL:S[q]=48:=B;clear B;go_wp2_with fail;go_roundw
     case rel=>exact⟨k+1,by omega,by go_num,G.o (fun h=>by cases h.1),H.o.2⟩
     case measure=>simp[intOf];omega
    |true=>
     have aM:S[q]=49:=B;clear B
     by_cases N:out.length<m
     ·obtain⟨az,av⟩:=dT out.length m;rw[if_pos ⟨rfl,N⟩]at b;obtain⟨y,A⟩:=gx (out.length*l);obtain⟨EL,Z⟩:=gx (y+l);have bu:(out.length:Int)*(l:Int)=(y:Int):=by rw[A];exact(Adb _ l).symm
      have bt:(y:Int)+(l:Int)=(EL:Int):=by omega
      have aW:EL<=S.size:=by
       have h1:=Abs l N;rw[Nat.succ_mul,<-A,<-W.o]at h1;rw[aq,ab,HT.o.1];omega
      have aV:(EL:Int)<=(S.size:Int):=by omega
      have aX:(y:Int)<=(EL:Int):=by omega
      have aY:(y:Int)<=(S.size:Int):=by omega
      rw[<-A]at b;have ah:((bs.drop y).take l).length=l:=by rw[zS,Aas];omega
      have x:=lQ ((bs.drop y).take l) wr (by omega);rw[<-Sd,<-HS.o,<-Z]at x;have a4:=dQ ((bs.drop y).take l);rw[ah,<-HP.o]at a4;generalize Ij ((bs.drop y).take l)=v at*;obtain⟨D,hD⟩:=gx (k-out.length);have zD:(k:Int)-(out.length:Int)=(D:Int):=by omega
      obtain⟨DP,z⟩:=gx (D*P);have br:(D:Int)*(P:Int)=(DP:Int):=by rw[z];exact(Adb D P).symm
      have aJ:DP<=6100*4096:=by rw[z];exact Aa4 (by omega) ap
      obtain⟨X,hX⟩:=gx (DP+v);have zX:(DP:Int)+(v:Int)=(X:Int):=by omega
      rw[<-hD,<-z,<-hX]at b;have L:=H.o.1;have aQ:=H.o.2.size;clear A Z ah hD z hX;go_wp2_with fail;refine x.mono ?_;rintro e w4 ⟨rfl,rfl⟩;clear x G
      go_wp2_with(at_builtin;refine Ay _ rfl (.tmp 59) (.tmp 77) 64 rfl Q.heap.size 3 i0 (I 0) 1 8 underlying64 hi a7 a8 a9 rfl (by decide) _ _ _ rfl (L.alloc _) (J w4.heap.size 0) 1 1 [I X] rfl rfl ?c1 ?c2 ?c3 ?c4 ?c5 ?_)
      case c1=>exact Ac6 _ _ _
      case c2=>intro u hu;simp at hu;subst hu;rfl
      case c3=>unfold maxLen;omega
      case c4=>omega
      case c5=>simp only[World.alloc,Array.size_push];omega
      intro v5 w5 ag ac ay;have ae:Aee Q w5:=(H.o.2.alloc _).grown ac (fun j hj=> .inl (L.lt j hj).1);have M:w5.ownsRow Q.heap.size 3 1 v5 (Gc bs m l (k+1)).length (Ad (Gc bs m l (k+1))):=by
       have e1:Ad (out++[X])=Ad out++[I X]:=by simp[Ad]
       rw[b.o,e1,zL];exact ag
      obtain⟨a5,c5,a3,_⟩:=An M;subst a3;have H5:Hid _:=aI M ae;clear ag ac ay M ae L b H;go_wp2_with fail;go_roundw
      case rel=>exact⟨k+1,by omega,by go_num,H5.o.1,H5.o.2⟩
      case measure=>simp[intOf];omega
     ·obtain⟨az,av⟩:=dF out.length m;go_wp2_with fail;go_roundw
      case rel=>exact⟨k+1,by omega,by go_num,G.o (fun h=>N h.2),H.o.2⟩
      case measure=>simp[intOf];omega
   ·obtain⟨af,au⟩:=dF k U;have ax:k=U:=by omega
    subst ax;have HF:Hid (wr.ownsRow w2.heap.size 3 1 (.slice ao (Gc bs m l k).length co) (Gc bs m l k).length (Ad (Gc bs m l k))/\C6 wr p s (a1,false)/\Aa (fun j=>j=p) w2 wr):=
     ⟨Fs a (fun j hj=>Aaf a2 (a.lt j hj).1),r.row V.o.1 id,V.o.2.tr (r.wider (T:=fun j=>j=p) (fun _ _ h=>h.elim))⟩
    clear a r;go_wp2_with fail;go_ret;rw[c.o];exact⟨_,rfl,HF.o.1,HF.o.2.1,HF.o.2.2⟩
namespace Hm
def Ig(l:List (List Bool))(h:List Bool):Option Nat:=l.findIdx? (fun x=>decide (x=h))
def Nr(l:List (List Bool))(h:List Bool):Int:=match Ig l h with
 |some i=>(i:Int)
 |none=> -1
theorem Ty(hi:i<l.length)(e:l[i]=h)(hn: ∀j,(a:j<i)->l[j]≠h):Ig l h=some i:=by
 unfold Ig;rw[List.findIdx?_eq_some_iff_getElem];exact⟨hi,by simpa using e,fun j a=>by simpa using hn j a⟩
theorem bK(hn: ∀j,(a:j<l.length)->l[j]≠h):Ig l h=none:=by
 unfold Ig;rw[List.findIdx?_eq_none_iff];intro x b;obtain⟨j,a,rfl⟩:=List.mem_iff_getElem.1 b;simpa using hn j a
theorem lR(e:Ig l h=some i): ∃hi:i<l.length,l[i]=h:=by
 unfold Ig at e;rw[List.findIdx?_eq_some_iff_getElem]at e;obtain⟨hi,h1,_⟩:=e;exact⟨hi,by simpa using h1⟩
def Fr(hd:List (List Bool))(i ones De:Nat)(sz:Aeh):Nat->Aeh
 |0=>sz
 |j+1=>if hd.getD (i+1+j) []=hd.getD i []++[true]then(Fr hd i ones De sz j).set (i+1+j) ones
  else if hd.getD (i+1+j) []=hd.getD i []++[false]then(Fr hd i ones De sz j).set (i+1+j) De
  else Fr hd i ones De sz j
theorem Mj(hd:List (List Bool))(i ones De:Nat)(sz:Aeh): ∀j,(Fr hd i ones De sz j).length=sz.length
 |0=>rfl
 |j+1=>by
  have a:=Mj hd i ones De sz j;rw[Fr];split
  ·rw[Abb,a]
  ·split
   ·rw[Abb,a]
   ·exact a
def Ie(s:Aeg)(fr n:Nat)(hd:List (List Bool)):Nat->Option (List (List Bool)×Aeh×Nat)
 |0=>some ([],(List.replicate hd.length 0).set 0 n,0)
 |i+1=>match Ie s fr n hd i with
  |none=>none
  |some (rows,sz,a)=>
   if(Dv s (fr,false) (a+sz.getD i 0)).2.2=true then none
   else
    let row:=(Dv s (fr,false) (a+sz.getD i 0)).1.drop a
    some (rows++[row],Fr hd i (row.count true) (row.length-row.count true) sz (hd.length-(i+1)),a+sz.getD i 0)
def If(hd rows codes:List (List Bool)):Nat->Aeh->List Bool->Option (Nat×Aeh)
 |0,_,_=>none
 |f+1,nx,h=>match Ig hd h with
  |none=>none
  |some i=>
   if(rows.getD i []).length<=nx.getD i 0 then none
   else match Ig codes (h++[(rows.getD i []).getD (nx.getD i 0) false])with
    |some c=>some (c,nx.set i (nx.getD i 0+1))
    |none=>If hd rows codes f (nx.set i (nx.getD i 0+1)) (h++[(rows.getD i []).getD (nx.getD i 0) false])
def Kx(hd rows codes:List (List Bool)):Nat->Option (Aeg×Aeh)
 |0=>some ([],List.replicate hd.length 0)
 |k+1=>match Kx hd rows codes k with
  |none=>none
  |some (b,nx)=>match If hd rows codes 256 nx []with
   |none=>none
   |some (c,nx')=>some (b++[UInt8.ofNat c],nx')
def Ma(s:Aeg)(fr n:Nat)(hd codes:List (List Bool)):Option Aeg:=match Ie s fr n hd hd.length with
 |none=>none
 |some (rows,_,_)=>(Kx hd rows codes n).map (·.1)
end Hm
theorem Wo(d:Aej)(c:Nat)(l:List (List Bool))(h:List Bool)(w:World)(hs:Mi w d (l.map fun x=>⟨(Ae x).toArray⟩))(p:l.length<=1000000):
  Calls prog 122 #[.slice d l.length c,.string ⟨(Ae h).toArray⟩] w fun e w'=>e= .returned (.int .i64 (Nr l h))/\w'=w:=by
 have o:=oQ d c _ ⟨(Ae h).toArray⟩ w hs (by simpa using p);rw[show(Value.slice d l.length c)= .slice d (l.map fun x=>(⟨(Ae x).toArray⟩:ByteArray)).length c from by rw[Aai]];refine o.mono ?_;have a: ∀x:List Bool,(⟨(Ae x).toArray⟩:ByteArray)=⟨(Ae h).toArray⟩↔x=h:=fun x=>by
  constructor
  ·intro e;have f:=congrArg (fun b:ByteArray=>b.data.toList) e;exact Nq x h f
  ·rintro rfl;rfl
 rintro e w' ⟨⟨i,rfl,hi,n,f⟩|⟨rfl,f⟩,rfl⟩
 ·refine⟨?_,rfl⟩;have k:i<l.length:=by simpa using hi
  have h1:Ig l h=some i:=Ty k (by rw[Abu]at n;exact(a _).1 n) (fun j m g=>f j m (by rw[Abu];exact(a _).2 g));unfold Nr;rw[h1]
 ·refine⟨?_,rfl⟩;have h1:Ig l h=none:=bK (fun j m g=>f j (by simpa using m) (by rw[Abu];exact(a _).2 g));unfold Nr;rw[h1]
def zE:Value->Nat
 | .slice _ n _=>n
 |_=>0
def y9:Value->Nat
 | .string b=>b.size
 |_=>0
namespace Hm
theorem fK(hd rows codes:List (List Bool))(k:Nat)(h:Kx hd rows codes k=none): ∀m,Kx hd rows codes (k+m)=none
 |0=>h
 |m+1=>by rw[<-Abw,Kx,fK hd rows codes k h m]
theorem sM(s:Aeg)(fr n:Nat)(h: ¬(Dv s (fr,false) n).2.2=true):(Dv s (fr,false) n).1.length<=8*s.length:=by
 have a:(Dv s (fr,false) n).2.2=false:=by simpa using h
 rw[Rb s (fr,false) n a];unfold Dv at a;split at a
 ·rename_i b;rw[b]at a;cases a
 ·rename_i b;have: ¬s.length<fr+(n+7)/8:=fun c=>b (by unfold El;rw[if_pos (.inr c)]);omega
theorem Wp(s:Aeg)(fr n:Nat)(hd:List (List Bool)): ∀i rows sz a,Ie s fr n hd i=some (rows,sz,a)-> ∀r∈rows,r.length<=8*s.length
 |0,rows,sz,a,h,r,c=>by
  rw[Ie]at h;injection h with h;injection h with h1 h2;subst h1;cases c
 |i+1,rows,sz,a,h,r,c=>by
  rw[Ie]at h;split at h
  ·cases h
  ·rename_i rows0 sz0 a0 d;split at h
   ·cases h
   ·rename_i e;injection h with h;injection h with h1 h2;subst h1;rcases Ad7.1 c with b|b
    ·exact Wp s fr n hd i rows0 sz0 a0 d r b
    ·rw[List.mem_singleton.1 b,Aas];have:=sM s fr _ e;omega
end Hm
theorem yV{o:List (List Bool)}(h:TR w g o):Mi w (some ⟨g,0,none⟩) (o.map fun x=>⟨(Ae x).toArray⟩):=fun i hi=>by
 have a:i<o.length:=by simpa using hi
 refine⟨g,0,rfl,Aac h,?_⟩;rw[Aao,h.cell a,Abu,zG,zH a];rfl
theorem vG{b:Nat}{a:Aej}(h:w.ownsRow b 9 1 (.slice a l.length c) l.length (Ar l)):Mi w a (l.map fun x=>⟨(Ae x).toArray⟩):=fun i hi=>by
 have d:i<l.length:=by simpa using hi
 rcases h.2 with⟨e,f⟩|⟨g,cap,cur,e,h1,h2,j⟩
 ·omega
 ·cases e;refine⟨g,0,rfl,Aac h2,?_⟩;rw[Aao,h.cellAt i (by omega),Ar,Aah,zH d,Abu];rfl
end
end Go.Proofs.YtegnkfdbmmndaaaGreat
