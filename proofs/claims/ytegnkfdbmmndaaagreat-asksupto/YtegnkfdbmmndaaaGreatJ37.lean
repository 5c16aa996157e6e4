import Derived.Test.YtegnkfdbmmndaaaGreatJ36

set_option maxHeartbeats 8000000
namespace Go.Proofs.YtegnkfdbmmndaaaGreat
open Hm Go.Proofs.Tryz Go.RowKit
theorem Zc{P:Program}{ρ:Operand→Value}{o:Oper}(w:World)(a b:TypeId)(x:Operand)(c:o.op= .convert a b x)(v r:Value)(d:ρ x=v)(h:(convert a b v).run P w= .ok r w):(execOp ρ o).run P w= .ok (.value r) w:=by
 unfold execOp;simp only[c,d,Sem.run_bind,h,Ap6,Sem.run_pure]
set_option maxRecDepth 100000 in
theorem Vp(ao:Arf)(c:Nat)(fs:Arb)(w:World)(hf:Ba w ao fs)(hl:fs.length≤140737488355328)(bS: ∀f∈fs,f.1.size≤140737488355328∧f.2.size≤140737488355328):
  Calls prog 16 #[.slice ao fs.length c] w fun e w'=>Ade fs e∧Ara w w':=by
 have an:=Ad6 ao c fs w hf hl bS
 by_cases he:Cq fs=0
 ·obtain⟨hm,bx,hn⟩:=Li he;have HT:Aside (Fo fs=Ac fs):=rfl;have hC:=I6 (Ac fs) hn;obtain⟨N,h0,hE⟩:=hC.ends;obtain⟨i0,hi,cD,cE,cG⟩:=Aoo Fh;have HF:Aside (Ba w ao fs∧(∀f∈fs,f.1.size≤32∧f.2.size≤3000)∧Bu (Hm.lens (Ac fs))∧0<N∧Hm.Ends 32 (Hm.lnB (Hm.lens (Ac fs))) (Ae (Hm.lens (Ac fs))) N∧Cq fs=0):=⟨hf,bx,hC,h0,hE,he⟩;have O:=fun W (hk:Ara w W)=>Af2 ao c fs W (hf.kept hk (fun _ _=>id)) hm (fun f hf=>(bx f hf).2);have cV:Aside _:=O;rw[he]at an;clear hf bS hl bx hC h0 hE he O;obtain⟨tx,O⟩: ∃tx,tx=(⟨(Fo fs).toArray⟩:ByteArray):=⟨_,rfl⟩;have dm:tx.size=(Ac fs).length:=by rw[O];show(Fo fs).toArray.size=_;rw[Anq];rfl
  have M:Aside (tx.data.toList=Ac fs∧tx=(⟨(Fo fs).toArray⟩:ByteArray)):=⟨by rw[O];rfl,O⟩;have bJ:tx.size≤6000:=by omega
  have cd:Aside (∀W,Calls prog 40 #[.string tx,.int .i64 0,.int .i64 ((tx.size:Int)+1)] W fun e w'=> ∃v ps,e= .returned v∧Jf tx.data.toList 0 (tx.size+1) ps∧w'.ownsRow W.heap.size 3 1 v ps.length (Ad ps)∧Ara W w'):=fun W=>by
   have h:=Sf tx bJ (tx.size+1) 0 (tx.size+1) W (by omega) (by omega) (Ane _);rw[show((tx.size+1:Nat):Int)=(tx.size:Int)+1 from by omega]at h;exact h
  clear O dm hn
  go_enter func16,ntmps16
  go_wp2_with fail;refine an.mono ?_;rintro e w2 ⟨rfl,ac⟩;have a2:=cV.o w2 ac;rw[←M.o.2]at a2;clear an;go_wp2_with fail;refine a2.mono ?_;rintro e w3 ⟨rfl,dI⟩;subst w3;clear a2;go_wp2_with fail;refine(cd.o _).mono ?_;rintro e w4 ⟨v,ps,rfl,D,ax,aX⟩;have bP:ps.length=tx.size+1:=by have:=D.len;omega
  obtain⟨gp,cp,hv,_,_⟩:=Ck ax (by omega);subst hv;have bl:Ara w w4:=ac.trans aX (fun _ _ h=>h);have bq:C5 (Ac fs) ps:=by
   have h:=D;have e1:tx.size=tx.data.toList.length:=by simp
   rw[e1]at h;have h2:=h.sorted;rwa[M.o.1]at h2
  have bQ: ∀x∈ps,x≤tx.size:=fun x hx=>by have:=(D.mem x hx).2;omega
  have H4:Aside (C5 (Ac fs) ps∧w4.ownsRow w2.heap.size 3 1 (.slice (some ⟨gp,0,none⟩) ps.length cp) ps.length (Ad ps)∧Ara w w4∧ ∀x∈ps,x≤tx.size):=⟨bq,ax,bl,bQ⟩;clear D ax aX ac bl bq bQ cd
  go_wp2_with(at_make;refine wpList_make_own _ rfl _ _ 79 rfl w4.heap.size 5 i0 (.int .u8 0) 1 underlying79 hi cD cE .i64 .i64 _ tx.size rfl rfl rfl (by rw[cG];omega) (by unfold maxLen;omega) (Ane _) ?_;intro w5 cA cu)
  have au:Ara w4 w5:=(Aa.refl _ _).grown cu (fun k hk=>by cases hk);clear cu
  go_loopw[8,9,10] (fun vr vc vi wr=> ∃i:Nat,i≤tx.size+1∧vi= .int .i64 i∧vr= .int .i64 (Iy ps i:Nat)∧Aside (wr.ownsRow w4.heap.size 5 1 vc (Al (Ac fs) (ps.take i)).length (Ah (Al (Ac fs) (ps.take i))))∧Ara w4 wr) (fun _ _ vi _=>tx.size+1-(intOf vi).toNat)
  case atStart=>exact⟨0,by omega,rfl,rfl,cA,au⟩
  case round=>
   clear cA au;obtain⟨i,dA,rfl,rfl,HO,d⟩:=hrel;have ad:=d.owns H4.o.2.1 (fun _ _ h=>h);have G:Aside (Ara w4 wr):=d;obtain⟨ab,cb,dn,_⟩:=Aq HO.o;subst dn
   by_cases dE:i<tx.size+1
   ·have I:decide ((i:Int)≤(tx.size:Int))=true:=Ana (by omega);have bI:i<ps.length:=by omega
    have d9:(i:Int)<(ps.length:Int):=by omega
    have db:wr.cell? ⟨gp,i,none⟩=some (.int .i64 (ps[i]:Nat)):=by
     rw[ad.cellAt i (by omega)];simp[Ad,bI]
    have dp:ps[i]≤tx.size:=H4.o.2.2.2 _ (Anm _);have aC:=Agc (n:=(Ac fs).length) H4.o.1.perm i bI;have a9:=Xj (Ac fs) ps i bI;have bD:(Al (Ac fs) (ps.take i)).length≤6001:=by
     unfold Al;rw[Anz];have h1:=Ap4 (fun p=>decide (0<p)) (ps.take i);rw[Anp]at h1;omega
    have H:Aside (Iy ps (i+1)=(if ps[i]=0 then i else Iy ps i)∧Al (Ac fs) (ps.take (i+1))=Al (Ac fs) (ps.take i)++if 0<ps[i]then [(Ac fs).getD (ps[i]-1) 0]else []):=⟨aC,a9⟩;clear aC a9 ad d;obtain⟨x,hx⟩: ∃x,x=ps[i]:=⟨_,rfl⟩;rw[←hx]at db dp H;clear hx
    by_cases ae:x=0
    ·subst ae;have HE:Aside (Iy ps (i+1)=i∧Al (Ac fs) (ps.take (i+1))=Al (Ac fs) (ps.take i)):=⟨by rw[H.o.1,if_pos rfl],by rw[H.o.2];simp⟩;clear H;go_wp2_with fail;go_roundw
     case rel=>
      refine⟨i+1,by omega,by go_num,by rw[HE.o.1],?_,G.o⟩;show World.ownsRow _ _ _ _ _ _ _;rw[HE.o.2];exact HO.o
     case measure=>simp[intOf];omega
    ·obtain⟨y,hy⟩: ∃y,x=y+1:=⟨x-1,by omega⟩;have hq:((x:Int)==0)=false:=by rw[Aod];omega
     have dJ:IntKind.i64.wrap ((x:Int)-1)=(y:Int):=by rw[An9];omega
     have a5:y<tx.size:=by omega
     have dK:(y:Int)<(tx.size:Int):=by omega
     have HE:Aside (Iy ps (i+1)=Iy ps i∧(Al (Ac fs) (ps.take (i+1))).length=(Al (Ac fs) (ps.take i)).length+1∧Ah (Al (Ac fs) (ps.take (i+1)))=Ah (Al (Ac fs) (ps.take i))++[.int .u8 ((tx[y]'a5).toNat:Nat)]):=by
      have dq:y<tx.data.toList.length:=by simpa using a5
      have e1:(Ac fs).getD (x-1) 0=tx[y]'a5:=by
       rw[hy,Ap1,←M.o.1,Am4,Am5 dq];rfl
      refine⟨by rw[H.o.1,if_neg ae],?_,?_⟩
      ·rw[H.o.2,if_pos (by omega)];simp
      ·rw[H.o.2,if_pos (by omega),e1];simp[Ah]
     clear H hy ae;generalize Iy ps i=rt at*
     go_wp2_with(at_builtin;refine Bg _ rfl (.tmp 45) (.tmp 53) 79 rfl w4.heap.size 5 i0 (.int .u8 0) 1 1 underlying79 hi cD cE cG rfl (by decide) _ _ _ rfl (HO.o.alloc _) ⟨wr.heap.size,0,none⟩ 1 1 [.int .u8 ((tx[y]'a5).toNat:Nat)] rfl rfl ?c1 ?c2 ?c3 ?c4 ?c5 ?_)
     case c1=>exact cell_one_new _ _ _
     case c2=>intro u hu;simp at hu;subst hu;rfl
     case c3=>unfold maxLen;omega
     case c4=>omega
     case c5=>have:=G.o.size;simp;omega
     intro v6 w6 cB cv dh;have av:Ara w4 w6:=(G.o.alloc _).grown cv (fun j hj=> .inl (HO.o.lt j hj).1);have cT:Aside (w6.ownsRow w4.heap.size 5 1 v6 ((Al (Ac fs) (ps.take i)).length+1) (Ah (Al (Ac fs) (ps.take i))++[.int .u8 ((tx[y]'a5).toNat:Nat)])):=cB;clear cB cv dh HO;go_wp2_with fail;go_roundw
     case rel=>
      refine⟨i+1,by omega,by go_num,by rw[HE.o.1],?_,av⟩;show World.ownsRow _ _ _ _ _ _ _;rw[HE.o.2.1,HE.o.2.2];exact cT.o
     case measure=>simp[intOf];omega
   ·have cw:i=tx.size+1:=by omega
    have I:decide ((i:Int)≤(tx.size:Int))=false:=Anc (by omega);have m:tx.size=(Ac fs).length:=by rw[←M.o.1];simp
    have HR:Aside (Iy ps i=A8 ps∧A8 ps≤tx.size∧ps.take i=ps):=⟨by rw[cw,m];exact Agd H4.o.1.perm,by rw[m];exact(Kw H4.o.1.perm).2,by rw[An5 (by omega)]⟩;have bV:Aside (wr.ownsRow w4.heap.size 5 1 (.slice ab (Al (Ac fs) ps).length cb) (Al (Ac fs) ps).length (Ah (Al (Ac fs) ps))):=by
     have h:=HO.o;rwa[HR.o.2.2]at h
    rw[HR.o.1,HR.o.2.2];have dl:=HR.o.2.1;clear ad d HO cw m;obtain⟨rt,az⟩: ∃rt,rt=A8 ps:=⟨_,rfl⟩;have aC:Aside (rt=A8 ps):=az;rw[←az]at dl⊢;clear az HR;have bh:Aside (Ara w4 wr):=G.o;clear G;obtain⟨B1,aF⟩: ∃B,B=(⟨(Hm.leBytes fs.length 1).toArray⟩:ByteArray):=⟨_,rfl⟩;obtain⟨B2,aG⟩: ∃B,B=(⟨(Hm.leBytes tx.size 2).toArray⟩:ByteArray):=⟨_,rfl⟩;obtain⟨B3,aH⟩: ∃B,B=(⟨(Hm.leBytes rt 2).toArray⟩:ByteArray):=⟨_,rfl⟩;have b4:=fun W=>Gp fs.length 1 W (by omega) (by omega) (by omega);have b5:=fun W=>Gp tx.size 2 W (by omega) (by omega) (by omega);have b6:=fun W=>Gp rt 2 W (by omega) (by omega) (by omega);rw[←aF]at b4;rw[←aG]at b5;rw[←aH]at b6;have cF:B1.size=1:=by rw[aF];rfl
    have cH:B2.size=2:=by rw[aG];rfl
    have cI:B3.size=2:=by rw[aH];rfl
    have a8:Aside (B1=(⟨(Hm.leBytes fs.length 1).toArray⟩:ByteArray)∧B2=(⟨(Hm.leBytes tx.size 2).toArray⟩:ByteArray)∧B3=(⟨(Hm.leBytes rt 2).toArray⟩:ByteArray)):=⟨aF,aG,aH⟩;clear aF aG aH;go_wp2_with fail;refine(b4 _).mono ?_;rintro e w7 ⟨rfl,cz⟩;have ca:Aside (Ara wr w7):=cz;clear cz;go_wp2_with fail;refine(b5 _).mono ?_;rintro e w8 ⟨rfl,c0⟩;have cc:Aside (Ara wr w8):=ca.o.trans c0 (fun _ _ h=>h);clear c0 ca;go_wp2_with fail;refine(b6 _).mono ?_;rintro e w9 ⟨rfl,c6⟩;have bu:Aside (Ara wr w9):=cc.o.trans c6 (fun _ _ h=>h);clear c6 cc b4 b5 b6;go_upto_region 16 with fail
    obtain⟨P0,hP0⟩: ∃P:Arc,P=[72,79,65,82,68,49,UInt8.ofNat fs.length]++Hm.leBytes tx.size 2++Hm.leBytes rt 2:=⟨_,rfl⟩;obtain⟨S0,b2⟩: ∃S,S=(⟨#[72,79,65,82,68,49]⟩:ByteArray)++B1++B2++B3:=⟨_,rfl⟩;rw[←b2];have aB:Aside (S0=(⟨P0.toArray⟩:ByteArray)∧P0=[72,79,65,82,68,49,UInt8.ofNat fs.length]++Hm.leBytes tx.size 2++Hm.leBytes rt 2∧P0.length=11):=by
     refine⟨?_,hP0,by rw[hP0];rfl⟩;rw[b2,a8.o.1,a8.o.2.1,a8.o.2.2,hP0];apply Aqg;simp[ByteArray.data_append,Hm.leBytes]
    clear hP0 b2;have F:Aside (Ara w w9∧Ara w4 w9∧Ba w9 ao fs∧w9.ownsRow w4.heap.size 5 1 (.slice ab (Al (Ac fs) ps).length cb) (Al (Ac fs) ps).length (Ah (Al (Ac fs) ps))∧w9.ownsRow w2.heap.size 3 1 (.slice (some ⟨gp,0,none⟩) ps.length cp) ps.length (Ad ps)):=by
     have bz:Ara w4 w9:=bh.o.trans bu.o (fun _ _ h=>h);have ci:Ara w w9:=H4.o.2.2.1.trans bz (fun _ _ h=>h);exact⟨ci,bz,HF.o.1.kept ci (fun _ _=>id),bu.o.owns bV.o (fun _ _ h=>h),bz.owns H4.o.2.1 (fun _ _ h=>h)⟩
    clear bh bu bV a8 cF cH cI;go_wp2_with fail
    go_loopw[11,12] (fun vs vi wx=> ∃i:Nat,i≤fs.length∧vi= .int .i64 i∧vs= .string ⟨(P0++Hm.nameBytes (fs.take i)).toArray⟩∧Ara w9 wx) (fun _ vi _=>fs.length-(intOf vi).toNat)
    case atStart=>exact⟨0,by omega,rfl,by rw[aB.o.1];simp[Hm.nameBytes],Aa.refl _ _⟩
    case round=>
     obtain⟨k,dC,rfl,rfl,d⟩:=hrel;have G:Aside (Ara w9 wr):=d
     by_cases c9:k<fs.length
     ·have I:decide ((k:Int)<(fs.length:Int))=true:=Ana (by omega);have dB:(k:Int)<(fs.length:Int):=by omega
      obtain⟨bb,oo,da,d8,am,_⟩:=(F.o.2.2.1.kept d (fun _ _=>id)) k c9;subst da;have di:fs[k].1.size≤32:=(HF.o.2.1 _ (Anm _)).1;obtain⟨nm,aw⟩: ∃n,n=fs[k].1:=⟨_,rfl⟩;rw[←aw]at am di;have cS:Aside (Hm.nameBytes (fs.take (k+1))=Hm.nameBytes (fs.take k)++(UInt8.ofNat nm.size::nm.data.toList)):=by rw[aw];exact Qb fs k c9
      clear aw d;obtain⟨SS,b3⟩: ∃S,S=(⟨(P0++Hm.nameBytes (fs.take k)).toArray⟩:ByteArray):=⟨_,rfl⟩;rw[←b3];have cg:Aside (SS=(⟨(P0++Hm.nameBytes (fs.take k)).toArray⟩:ByteArray)):=b3;clear b3;have bK:=Ka (fs.take k) (fun f hf=>(HF.o.2.1 f (Aqm hf)).1);have d4:SS.size≤2000:=by
       have h1:SS.size=P0.length+(Hm.nameBytes (fs.take k)).length:=by rw[cg.o];show(P0++Hm.nameBytes (fs.take k)).toArray.size=_;simp
       rw[Anp]at bK;have:=aB.o.2.2;omega
      obtain⟨NB,aO⟩: ∃B,B=(⟨(Hm.leBytes nm.size 1).toArray⟩:ByteArray):=⟨_,rfl⟩;have b9:=fun W=>Gp nm.size 1 W (by omega) (by omega) (by omega);rw[←aO]at b9;have dx:NB.size=1:=by rw[aO];rfl
      have cR:Aside (SS++NB++nm=(⟨(P0++Hm.nameBytes (fs.take (k+1))).toArray⟩:ByteArray)):=by
       show _=_;rw[cS.o,cg.o,aO];apply Aqg;simp[ByteArray.data_append,Hm.leBytes]
      clear aO bK;go_wp2_with fail
      go_region_held(fun X=>X.cell? ⟨bb,oo+k*2,none⟩=some (.string nm)) (first|exact am|exact k0)
       (first|(go_at_call 41;(refine(b9 _).mono ?_;rintro e w6 ⟨rfl,av⟩;have k0:=(av.cell (p:=⟨bb,oo+k*2,none⟩) (Ank _ _ am) id).trans am)))
      have cO:Aside (Ara w9 w6):=G.o.drew.trans av (fun _ _ h=>h);clear av k0 b9 am;go_wp2_with fail;go_roundw
      case rel=>exact⟨k+1,by omega,by go_num,by rw[cR.o],cO.o⟩
      case measure=>simp[intOf];omega
     ·have c7:k=fs.length:=by omega
      have I:decide ((k:Int)<(fs.length:Int))=false:=Anc (by omega);have cU:Aside (fs.take k=fs):=by show _=_;rw[c7,Aof]
      rw[cU.o];have m:tx.size=(Ac fs).length:=by rw[←M.o.1];simp
      have cN:Aside (Ba wr ao fs):=F.o.2.2.1.kept d (fun _ _=>id);have bG:=Af6 ao c fs tx.size wr cN.o hm m bJ;obtain⟨EB,aL⟩: ∃l,l=B4 (Bf fs) tx.size:=⟨_,rfl⟩;have dv:EB.length≤10000:=by
       rw[aL,L7,Ej];have h1:=Qa fs.length tx.size (by omega);have h2:fs.length*Dw fs.length tx.size≤40*20:=Aoj hm (by omega);have h3:tx.size/2^Dw fs.length tx.size≤tx.size:=Apt _ _;omega
      rw[←aL]at bG;have bH:=fun W=>N5 EB W (by omega);have r:=fun W=>Y8 tx W bJ;rw[M.o.1]at r;obtain⟨L,hL⟩: ∃L,L=Hm.lens (Ac fs):=⟨_,rfl⟩;rw[←hL]at r;have hC:Bu L:=by rw[hL];exact HF.o.2.2.1
      have ck: ∀x∈L,x≤100000:=fun x hx=>by
       obtain⟨j,hj,rfl⟩:=Aog hx;have h1:=hC.short (UInt8.ofNat j);have h2:(UInt8.ofNat j).toNat=j:=by rw[Aoa];have:=hC.len;omega
       rw[Un,h2,Am4,Am5 hj]at h1;simp only[Aps]at h1;omega
      have bC:=fun W=>Aee L W hC.len ck;have HL:Aside (L=Hm.lens (Ac fs)∧Bu L):=⟨hL,hC⟩;obtain⟨LA,ai⟩: ∃A,A=(Ad L).toArray:=⟨_,rfl⟩;have b0:LA.size=256:=by rw[ai,Bm,hC.len]
      have cX:LA.all (·.oneCell')=true:=by rw[ai];exact Fv _
      have cQ:Aside (LA=(Ad L).toArray):=ai;rw[←ai]at r bC;clear hL hC ck ai;obtain⟨S1,aR⟩: ∃S,S=(⟨(P0++Hm.nameBytes fs).toArray⟩:ByteArray):=⟨_,rfl⟩;rw[←aR];have d0:S1.size≤2000:=by
       have bK:=Ka fs (fun f hf=>(HF.o.2.1 f hf).1);have h1:S1.size=P0.length+(Hm.nameBytes fs).length:=by rw[aR];show(P0++Hm.nameBytes fs).toArray.size=_;simp
       have:=aB.o.2.2;omega
      obtain⟨sE,aY⟩: ∃sE,sE=(⟨(Ag EB).toArray⟩:ByteArray):=⟨_,rfl⟩;have d1:sE.size≤2000:=by rw[aY];show(Ag EB).toArray.size≤_;rw[Anq,Bi];omega
      rw[←aY]at bH;have bt:Aside (S1=(⟨(P0++Hm.nameBytes fs).toArray⟩:ByteArray)∧EB=B4 (Bf fs) tx.size∧sE=(⟨(Ag EB).toArray⟩:ByteArray)):=⟨aR,aL,aY⟩;clear aR aL aY c7 d m;go_wp2_with fail;refine bG.mono ?_;rintro e w10 ⟨rfl,bm⟩;have be:Aside (Ara w9 w10):=G.o.trans bm (fun _ _ h=>h);clear bm bG;go_wp2_with fail;refine(bH _).mono ?_;rintro e w11 ⟨rfl,bn⟩;have bf:Aside (Ara w9 w11):=be.o.trans bn (fun _ _ h=>h);clear bn bH be;go_wp2_with fail;refine(r _).mono ?_;rintro e w12 ⟨rfl,bo⟩;have Q:Aside (Ara w9 w12):=bf.o.trans bo (fun _ _ h=>h);clear bo r bf
      go_wp2_with(first
       |(refine wpList_store_row _ rfl 94 _ _ rfl w12.heap.size 94 Tryz.zeroCells94 LA rfl rfl (Anj w12 _) (by rw[b0];exact Eg) (by rw[b0,Aad,Bm,Ani]) cX ?_;intro w13 a3 bp)
       |(refine Aoh rfl 94 _ rfl w12.heap.size rfl 94 LA (0,0) _ a3 underlying94 rfl (by rw[b0];exact Eg) ?_))
      refine(bC _).mono ?_;rintro e w14 ⟨⟨o,ok,bM,rfl,cs⟩,aq⟩;obtain⟨bL,aU⟩: ∃b,b=w12.heap.size:=⟨_,rfl⟩;have bR:w14.heap[bL]?=some (.cells LA 94 (0,0)):=by rw[aU];exact aq.row a3 id
      rw[←aU];have V:Ara w9 w14:=((Q.o.alloc _).trans bp (fun j h1 h2=>by have:=Q.o.size;omega)).trans aq (fun _ _ h=>h);have bg:Aside (Ara w9 w14∧w9.heap.size≤bL):=⟨V,by rw[aU];exact Q.o.size⟩;obtain⟨OA,aj⟩: ∃A,A=(Av o).toArray:=⟨_,rfl⟩;have b1:OA.size=256:=by rw[aj,Anq,Bz,bM]
      have cY:OA.all (·.oneCell')=true:=by rw[aj];exact Mf _
      have bw:Aside (OA=(Av o).toArray∧o.length=256∧Du L o ok):=⟨aj,bM,cs⟩;rw[←aj];clear aj bM cs aq bp a3 V aU bC Q
      go_wp2_with(first
       |(refine wpList_store_row _ rfl 113 _ _ rfl w14.heap.size 113 Tryz.zeroCells113 OA rfl rfl (Anj w14 _) (by rw[b1];exact Dm) (by rw[b1,T7,Anq,Bz,Ani]) cY ?_;intro w15 br ar))
      have al:bL<w14.heap.size:=Anu bR;have ay:w15.heap[bL]?=some (.cells LA 94 (0,0)):=ar.row (((Aa.refl (fun _=>False) w14).alloc _).row bR id) (by omega);have R:Aside (Ara w9 w15∧w15.heap[bL]?=some (.cells LA 94 (0,0))∧w15.heap[w14.heap.size]?=some (.cells OA 113 (0,0))∧bL<w14.heap.size):=⟨(bg.o.1.alloc _).trans ar (fun j h1 h2=>by have:=bg.o.1.size;omega),ay,br,al⟩;clear ar br ay bR al;generalize w14.heap.size=bO at*
      go_loopw[16,17,18] (fun vk vp vc wx=> ∃q:Nat,q≤256∧vc= .int .i64 q∧vk= .int .i64 ((Bs L q).length:Nat)∧vp= .string ⟨(Cc L (Bs L q)).toArray⟩∧Ara w15 wx) (fun _ _ vc _=>256-(intOf vc).toNat)
      case atStart=>exact⟨0,by omega,rfl,rfl,rfl,Aa.refl _ _⟩
      case round=>
       obtain⟨q,hq,rfl,rfl,rfl,d⟩:=hrel;have s:Aside (Ara w15 wr):=d;have r:=Fw L q
       by_cases df:q<256
       ·have I:decide ((q:Int)<256)=true:=Ana (by omega);have dG:(q:Int)<256:=by omega
        have aa:wr.cell? ⟨bL,q,none⟩=some (.int .i64 (L.getD q 0:Nat)):=by
         rw[Am7 _ _ q _ _ _ (d.row R.o.2.1 id),cQ.o];simp[Ad,List.getD_eq_getElem?_getD,List.getElem?_eq_getElem (show q<L.length from by rw[HL.o.2.len];exact df)]
        have bs:L.getD q 0≤32:=by
         have h1:=HL.o.2.short (UInt8.ofNat q);have h2:(UInt8.ofNat q).toNat=q:=by rw[Aoa];omega
         rwa[Un,h2]at h1
        have aD:Aside (Bs L (q+1)=Bs L q++if 0<L.getD q 0 then [UInt8.ofNat q]else []):=Ow L q;clear d
        by_cases hp:0<L.getD q 0
        ·obtain⟨x,hx⟩: ∃x,x=L.getD q 0:=⟨_,rfl⟩;rw[←hx]at aa bs hp;obtain⟨cl,g⟩: ∃n,n=(Bs L q).length:=⟨_,rfl⟩;obtain⟨PS,z⟩: ∃S,S=(⟨(Cc L (Bs L q)).toArray⟩:ByteArray):=⟨_,rfl⟩;rw[←z];rw[←g]at r⊢;have dk:PS.size=2*cl:=by rw[z,g];show(Cc L (Bs L q)).toArray.size=_;rw[Anq,J3]
         obtain⟨Q1,aP⟩: ∃B,B=(⟨(Hm.leBytes q 1).toArray⟩:ByteArray):=⟨_,rfl⟩;obtain⟨Q2,aQ⟩: ∃B,B=(⟨(Hm.leBytes x 1).toArray⟩:ByteArray):=⟨_,rfl⟩;have bA:=fun W=>Gp q 1 W (by omega) (by omega) (by omega);have bB:=fun W=>Gp x 1 W (by omega) (by omega) (by omega);rw[←aP]at bA;rw[←aQ]at bB;have dy:Q1.size=1:=by rw[aP];rfl
         have dz:Q2.size=1:=by rw[aQ];rfl
         have bQ:decide (0<x)=true:=Ana hp;have J:Aside ((Bs L (q+1)).length=cl+1∧PS++Q1++Q2=(⟨(Cc L (Bs L (q+1))).toArray⟩:ByteArray)):=by
          have dj:0<L.getD q 0:=by rw[←hx];exact hp
          have e:Bs L (q+1)=Bs L q++[UInt8.ofNat q]:=by rw[aD.o,if_pos dj]
          have h2:(UInt8.ofNat q).toNat=q:=by rw[Aoa];omega
          refine⟨by rw[e,Anf,←g];rfl,?_⟩;rw[e,z,aP,aQ,hx];apply Aqg;unfold Cc;rw[Ao4];simp[ByteArray.data_append,Hm.leBytes,h2]
         clear hx g z aP aQ aD;go_wp2_with fail
         go_region_held(fun X=>X.cell? ⟨bL,q,none⟩=some (.int .i64 (x:Nat))) (first|exact k1|exact k0|exact aa)
          (first
           |(go_at_call_of 41 (Value.int .i64 (q:Int));(refine(bA _).mono ?_;rintro e w16 ⟨rfl,Y⟩;have k0:=(Y.cell (p:=⟨bL,q,none⟩) (Ank _ _ aa) id).trans aa))
           |(go_at_call_of 41 (Value.int .i64 (x:Int));(refine(bB _).mono ?_;rintro e w17 ⟨rfl,Z⟩;have k1:=(Z.cell (p:=⟨bL,q,none⟩) (Ank _ _ k0) id).trans k0)))
         have bZ:Aside (Ara w15 w17):=(s.o.drew.trans Y (fun _ _ h=>h)).trans Z (fun _ _ h=>h);clear Y Z k0 k1 bA bB aa;go_wp2_with fail;go_roundw
         case rel=>exact⟨q+1,by omega,by go_num,by rw[J.o.1];go_num,by rw[J.o.2],bZ.o⟩
         case measure=>simp[intOf];omega
         case roundEnd=>exact⟨⟨q+1,by omega,by go_num,by rw[J.o.1];go_num,by rw[J.o.2],(s.o.drew.trans Y (fun _ _ h=>h)).trans Z (fun _ _ h=>h)⟩,by simp[intOf];omega⟩
        ·have ae:L.getD q 0=0:=by omega
         have J:Aside (Bs L (q+1)=Bs L q):=by show _=_;rw[aD.o,if_neg hp,Aow]
         rw[ae]at aa;clear hp ae aD bs;obtain⟨cl,g⟩: ∃n,n=(Bs L q).length:=⟨_,rfl⟩;rw[←g]at r⊢;have cL:Aside (cl=(Bs L q).length):=g;clear g;go_wp2_with fail;go_roundw
         case rel=>exact⟨q+1,by omega,by go_num,by rw[J.o,cL.o],by rw[J.o],s.o⟩
         case measure=>simp[intOf];omega
       ·have cC:q=256:=by omega
        have I:decide ((q:Int)<256)=false:=Anc (by omega);have a9:Aside (Bs L q=Ai L):=by show _=_;rw[cC];rfl
        rw[a9.o]at r⊢;obtain⟨cl,g⟩: ∃n,n=(Ai L).length:=⟨_,rfl⟩;obtain⟨PS,z⟩: ∃S,S=(⟨(Cc L (Ai L)).toArray⟩:ByteArray):=⟨_,rfl⟩;rw[←z];rw[←g]at r⊢;have dk:PS.size=2*cl:=by rw[z,g];show(Cc L (Ai L)).toArray.size=_;rw[Anq,J3]
        obtain⟨KB,aN⟩: ∃B,B=(⟨(Hm.leBytes cl 2).toArray⟩:ByteArray):=⟨_,rfl⟩;have b8:=fun W=>Gp cl 2 W (by omega) (by omega) (by omega);rw[←aN]at b8;have dD:KB.size=2:=by rw[aN];rfl
        have m:tx.size=(Ac fs).length:=by rw[←M.o.1];simp
        have E:=H4.o.1.perm;obtain⟨col,t⟩: ∃col,col=Al (Ac fs) ps:=⟨_,rfl⟩;rw[←t];have bD:col.length=tx.size:=by rw[t,Gm E,m]
        have ct: ∀b∈col,b∈Ae L:=fun b hb=>by
         rw[HL.o.1];rw[t]at hb;exact(O2 _ (by omega) b).2 (No E b hb)
        obtain⟨CS,aK⟩: ∃C,C=(⟨col.toArray⟩:ByteArray):=⟨_,rfl⟩;have ah:CS.data.toList=col:=by rw[aK]
        have aM:Hm.Ends 32 (Hm.lnB L) (Ae L) N:=by rw[HL.o.1];exact HF.o.2.2.2.2.1
        have a1:=fun W=>Abk CS L o ok N W HL.o.2 aM bw.o.2.1 bw.o.2.2 (by rw[aK];show col.toArray.size≤_;rw[Anq];omega) (by rw[ah];exact ct);rw[ah,←bw.o.1]at a1;obtain⟨TB,aT⟩: ∃T,T=D5 L N col:=⟨_,rfl⟩;rw[←aT]at a1;have co:TB.length≤2000000:=by
         rw[aT];unfold D5;rw[Anz];have h1:=K3 (Hm.lnB L) (Bh L) (Ao (Hm.lnB L) (Ae L) (2*N)).1 col N;have h3:N≤255:=by have h4:=aM.len;have h5:=aM.few (2*N) (Ane _);omega
         have h2:N*col.length≤255*6000:=Aoj h3 (by omega);omega
        have aW:=fun W=>N5 TB W (by omega);obtain⟨TT,cq⟩: ∃S,S=(⟨(Af TB).toArray⟩:ByteArray):=⟨_,rfl⟩;obtain⟨sT,ba⟩: ∃S,S=(⟨(Ag TB).toArray⟩:ByteArray):=⟨_,rfl⟩;rw[←cq]at a1 aW;rw[←ba]at aW;have d3:sT.size≤260000:=by rw[ba];show(Ag TB).toArray.size≤_;rw[Anq,Bi];omega
        have a0:=fun W (h:J8 W (some ⟨gp,0,none⟩) ps)=>Y6 (some ⟨gp,0,none⟩) cp ps W h (by omega) (by omega) (fun p hp=>by have:=H4.o.2.2.2 p hp;omega);obtain⟨SB,aS⟩: ∃SB,SB=A7 ps:=⟨_,rfl⟩;have cm:SB.length≤100000:=by
         rw[aS,Fk (n:=tx.size) (by rw[m];exact E)];have ak:Lib.bitLen (tx.size/8)≤10:=Lib.bitLen_le _ 10 (by omega) (by omega);have:(tx.size/8+1)*Lib.bitLen (tx.size/8)≤751*10:=Aoj (by omega) ak;omega
        rw[←aS]at a0;have aV:=fun W=>N5 SB W (by omega);obtain⟨ST,cn⟩: ∃S,S=(⟨(Af SB).toArray⟩:ByteArray):=⟨_,rfl⟩;obtain⟨sS,aZ⟩: ∃S,S=(⟨(Ag SB).toArray⟩:ByteArray):=⟨_,rfl⟩;rw[←cn]at a0 aV;rw[←aZ]at aV;have d2:sS.size≤20000:=by rw[aZ];show(Ag SB).toArray.size≤_;rw[Anq,Bi];omega
        have HX:Aside (∀X,Ara wr X→(X.ownsRow w4.heap.size 5 1 (.slice ab col.length cb) col.length (Ah col)∧X.heap[bO]?=some (.cells OA 113 (0,0)))∧J8 X (some ⟨gp,0,none⟩) ps):=fun X hk=>by
         have h1:Ara w9 X:=(R.o.1.trans s.o (fun _ _ h=>h)).trans hk (fun _ _ h=>h);have h2:Ara w15 X:=s.o.trans hk (fun _ _ h=>h);have ad:=h1.owns F.o.2.2.2.2 (fun _ _ h=>h);refine⟨⟨by rw[t];exact h1.owns F.o.2.2.2.1 (fun _ _ h=>h),h2.row R.o.2.2.1 id⟩,fun i hi=>⟨gp,0,rfl,(ad.lt gp rfl).2,?_⟩⟩;rw[An3,ad.cellAt i (by omega)];simp[Ad,hi]
        have HT:Aside (S1++sE++KB++PS++sT++sS=(⟨(Cz fs ps (D5 (Hm.lens (Ac fs)) N (Al (Ac fs) ps))).toArray⟩:ByteArray)):=by
         show _=_;rw[bt.o.1,bt.o.2.2,bt.o.2.1,aN,z,ba,aZ,aT,aS,g,t,aB.o.2.1,HL.o.1];unfold Cz;apply Aqg;rw[←m,aC.o];simp[ByteArray.data_append]
        simp only[bP]at a0;have dr:Aside (ps.length=tx.size+1∧col.length=tx.size):=⟨bP,bD⟩;have bY:Aside _:=aW;have bX:Aside _:=aV;have cf:Aside _:=a0;have ch:Aside _:=a1;have bU:Aside _:=b8;have cW:(⟨col.toArray⟩:ByteArray)=CS:=aK.symm;clear cC g z aN m E t ct aK ah aM a1 aT co aW cq ba a0 aS cm aV cn aZ b8 bP bD;go_wp2_with fail;refine Aph (S:=fun X=>X.ownsRow w4.heap.size 5 1 (.slice ab col.length cb) col.length (Ah col)∧X.heap[bO]?=some (.cells OA 113 (0,0))) (by kernel_rfl) ?_ (fun hHeld=>?_)
        ·exact(HX.o _ (Aa.refl _ wr).drew).1
        refine tK 0 ⟨some 118,.move (.tmp 11),9,"hoardref.go:377",#[],none⟩ ?_ ?_ ?_
        rotate_left
        ·intro X a;try dsimp only at a
         go_simp
         first|(with_reducible rfl)|(rw[if_neg (by omega)])
        simp only[Act.put,Am6,Am8,Am9]
        refine tK 1 ⟨some 119,.move (.tmp 16),3,"hoardref.go:377",#[],none⟩ ?_ ?_ ?_
        rotate_left
        ·intro X a;try dsimp only at a
         go_simp
         first|(with_reducible rfl)|(rw[if_neg (by omega)])
        simp only[Act.put,Am6,Am8,Am9]
        refine tK 4 ⟨some 122,.move (.tmp 17),9,"hoardref.go:377",#[],none⟩ ?_ ?_ ?_
        rotate_left
        ·intro X a;try dsimp only at a
         go_simp
         first|(with_reducible rfl)|(rw[if_neg (by omega)])
        simp only[Act.put,Am6,Am8,Am9]
        refine tK 6 ⟨some 124,.move (.tmp 9),79,"hoardref.go:377",#[],none⟩ ?_ ?_ ?_
        rotate_left
        ·intro X a;try dsimp only at a
         go_simp
         first|(with_reducible rfl)|(rw[if_neg (by omega)])
        simp only[Act.put,Am6,Am8,Am9]
        refine tK 7 ⟨some 125,.convert 79 9 (.tmp 124),9,"hoardref.go:377",#[⟨6,.data⟩],none⟩ (.string CS) (fun X hX => Zc X 79 9 (.tmp 124) rfl _ _ rfl ((Ii hX.1).trans (by rw [cW]))) ?_
        simp only[Act.put,Am6,Am8,Am9]
        refine tK 8 ⟨some 126,.load 113 (.tmp 14),113,"hoardref.go:377",#[],none⟩ (.agg OA) (fun X hX => E7 X 113 (.tmp 14) rfl bO rfl 113 OA (0, 0) _ hX.2 underlying113 rfl (by rw [b1]; exact Dm)) ?_
        simp only[Act.put,Am6,Am8,Am9]
        refine tK 12 ⟨some 130,.move (.tmp 7),64,"hoardref.go:377",#[],none⟩ ?_ ?_ ?_
        rotate_left
        ·intro X a;try dsimp only at a
         go_simp
         first|(with_reducible rfl)|(rw[if_neg (by omega)])
        simp only[Act.put,Am6,Am8,Am9];refine An1 (rs:=[2]) (by kernel_rfl) (by simp) ?_
        refine AllReadyH.cons (o := ⟨some 120,.call ⟨.value (.func 41),#[.tmp 119,.const (.int .i64 2)],#[3,3]⟩,9,"hoardref.go:377",#[⟨1,.data⟩],none⟩) rfl (fun K hK => ?_) AllReadyH.nil
        go_simp;refine(bU.o _).mono ?_;rintro e wa ⟨rfl,cx⟩;have bi:Aside (Ara wr wa):=(Aa.refl _ wr).drew.trans cx (fun _ _ h=>h);refine hK.o _ _ (HX.o _ bi.o).1 (fun hHeld=>?_);clear hK K cx
        refine tK 3 ⟨some 121,.binOp .add 9 (.tmp 118) (.tmp 120) 9,9,"hoardref.go:377",#[⟨0,.data⟩,⟨2,.data⟩],none⟩ ?_ ?_ ?_
        rotate_left
        ·intro X a;try dsimp only at a
         go_simp
         first|(with_reducible rfl)|(rw[if_neg (by omega)])
        simp only[Act.put,Am6,Am8,Am9]
        refine tK 5 ⟨some 123,.binOp .add 9 (.tmp 121) (.tmp 122) 9,9,"hoardref.go:377",#[⟨3,.data⟩,⟨4,.data⟩],none⟩ ?_ ?_ ?_
        rotate_left
        ·intro X a;try dsimp only at a
         go_simp
         first|(with_reducible rfl)|(rw[if_neg (by omega)])
        simp only[Act.put,Am6,Am8,Am9];refine An1 (rs:=[9]) (by kernel_rfl) (by simp) ?_
        refine AllReadyH.cons (o := ⟨some 127,.call ⟨.value (.func 46),#[.tmp 125,.tmp 126],#[9,113]⟩,9,"hoardref.go:377",#[⟨7,.data⟩,⟨8,.data⟩,⟨2,.chain⟩],none⟩) rfl (fun K hK => ?_) AllReadyH.nil
        go_simp;refine(ch.o _).mono ?_;rintro e wb ⟨rfl,ac⟩;have bj:Aside (Ara wr wb):=bi.o.trans ac (fun _ _ h=>h);refine hK.o _ _ (HX.o _ bj.o).1 (fun hHeld=>?_);clear hK K ac;refine An1 (rs:=[10]) (by kernel_rfl) (by simp) ?_
        refine AllReadyH.cons (o := ⟨some 128,.call ⟨.value (.func 42),#[.tmp 127],#[9]⟩,9,"hoardref.go:377",#[⟨9,.data⟩,⟨9,.chain⟩],none⟩) rfl (fun K hK => ?_) AllReadyH.nil
        go_simp;refine(bY.o _).mono ?_;rintro e wc ⟨rfl,cy⟩;have af:Aside (Ara wr wc):=bj.o.trans cy (fun _ _ h=>h);refine hK.o _ _ (HX.o _ af.o).1 (fun hHeld=>?_);clear hK K cy
        refine tK 11 ⟨some 129,.binOp .add 9 (.tmp 123) (.tmp 128) 9,9,"hoardref.go:377",#[⟨5,.data⟩,⟨10,.data⟩],none⟩ ?_ ?_ ?_
        rotate_left
        ·intro X a;try dsimp only at a
         go_simp
         first|(with_reducible rfl)|(rw[if_neg (by omega)])
        simp only[Act.put,Am6,Am8,Am9];refine An1 (rs:=[13]) (by kernel_rfl) (by simp) ?_
        refine AllReadyH.cons (o := ⟨some 131,.call ⟨.value (.func 47),#[.tmp 130],#[64]⟩,9,"hoardref.go:377",#[⟨12,.data⟩,⟨10,.chain⟩],none⟩) rfl (fun K hK => ?_) AllReadyH.nil
        go_simp;refine(cf.o _ (HX.o _ af.o).2).mono ?_;rintro e wd ⟨rfl,aX⟩;obtain⟨nq,rfl⟩:=aX;have bk:Aside (Ara wr (wc.drewN nq)):=af.o.drewN nq;refine hK.o _ _ (HX.o _ bk.o).1 (fun hHeld=>?_);clear hK K;refine An1 (rs:=[14]) (by kernel_rfl) (by simp) ?_
        refine AllReadyH.cons (o := ⟨some 132,.call ⟨.value (.func 42),#[.tmp 131],#[9]⟩,9,"hoardref.go:377",#[⟨13,.data⟩,⟨13,.chain⟩],none⟩) rfl (fun K hK => ?_) AllReadyH.nil
        go_simp;refine(bX.o _).mono ?_;rintro e we ⟨rfl,au⟩;have U:Aside (Ara wr we):=bk.o.trans au (fun _ _ h=>h);refine hK.o _ _ (HX.o _ U.o).1 (fun hHeld=>?_);clear hK K au
        refine tK 15 ⟨some 133,.binOp .add 9 (.tmp 129) (.tmp 132) 9,9,"hoardref.go:377",#[⟨11,.data⟩,⟨14,.data⟩],none⟩ ?_ ?_ ?_
        rotate_left
        ·intro X a;try dsimp only at a
         go_simp
         first|(with_reducible rfl)|(rw[if_neg (by omega)])
        simp only[Act.put,Am6,Am8,Am9];refine An1 (rs:=[16]) (by kernel_rfl) (by simp) ?_
        refine AllReadyH.cons (o := ⟨some 11,.assign (.tmp 133),9,"hoardref.go:377",#[⟨15,.data⟩,⟨14,.chain⟩,⟨0,.phase⟩,⟨1,.phase⟩,⟨2,.phase⟩,⟨3,.phase⟩,⟨4,.phase⟩,⟨5,.phase⟩,⟨6,.phase⟩,⟨7,.phase⟩,⟨8,.phase⟩,⟨9,.phase⟩,⟨10,.phase⟩,⟨11,.phase⟩,⟨12,.phase⟩,⟨13,.phase⟩,⟨14,.phase⟩,⟨15,.phase⟩],none⟩) rfl (fun K hK => ?_) AllReadyH.nil
        go_simp;refine hK.o _ _ (HX.o _ U.o).1 (fun hHeld=>?_);clear hK K;refine Apn (by kernel_rfl) ?_ _;clear hHeld HX bY bX cf ch bU;rw[HT.o];obtain⟨BD,aI⟩: ∃l,l=Cz fs ps (D5 (Hm.lens (Ac fs)) N (Al (Ac fs) ps)):=⟨_,rfl⟩;have ak:BD.length≤1000000:=by
         have h1:(S1++sE++KB++PS++sT++sS).size=BD.length:=by rw[HT.o,←aI];show BD.toArray.size=_;simp
         simp only[ByteArray.size_append]at h1;omega
        rw[←aI];have bc:=fun W=>Aiq ⟨BD.toArray⟩ W (by show BD.toArray.size≤_;rw[Anq];exact ak);have dc:Hm.crc BD≤4294967296:=by have:=To BD;omega
        have b7:=fun W=>Gp (Hm.crc BD) 4 W (by omega) (by omega) dc;obtain⟨BA,ag⟩: ∃B,B=(⟨BD.toArray⟩:ByteArray):=⟨_,rfl⟩;have cj:BA.data.toList=BD:=by rw[ag]
        have d7:BA.size≤1000000:=by rw[ag];show BD.toArray.size≤_;rw[Anq];exact ak
        rw[←ag]at bc⊢;rw[cj]at bc;obtain⟨C4,aJ⟩: ∃B,B=(⟨(Hm.leBytes (Hm.crc BD) 4).toArray⟩:ByteArray):=⟨_,rfl⟩;rw[←aJ]at b7;have dw:C4.size=4:=by rw[aJ];rfl
        have bW:Aside (BA++C4=(⟨(K9 fs ps (D5 (Hm.lens (Ac fs)) N (Al (Ac fs) ps))).toArray⟩:ByteArray)):=by
         show _=_;unfold K9;rw[←aI,ag,aJ];apply Aqg;simp[ByteArray.data_append]
        clear ag cj aJ aI ak HT;generalize Hm.crc BD=cr at*;go_wp2_with fail;refine(bc _).mono ?_;rintro e wf ⟨rfl,rfl⟩;clear bc;go_wp2_with fail;refine(b7 _).mono ?_;rintro e wg ⟨rfl,c8⟩;have cP:Aside (Ara w wg):=by
         have h1:=F.o.1.trans R.o.1 (fun _ _ h=>h);have h2:=(h1.trans s.o (fun _ _ h=>h)).trans U.o (fun _ _ h=>h);exact h2.trans c8 (fun _ _ h=>h)
        clear b7 c8 U;go_wp2_with fail;go_ret2;exact⟨.inr ⟨HF.o.2.2.2.2.2,_,⟨ps,N,H4.o.1,HF.o.2.2.2.1,HF.o.2.2.2.2.1,rfl⟩,by rw[←bW.o];rfl⟩,cP.o⟩
 ·have hb:(Cq fs !=0)=true:=by rw[bne_iff_ne];exact he
  have HE:Aside (Cq fs≠0):=he;clear hf bS he hl;obtain⟨e0,bF⟩: ∃e0,e0=Cq fs:=⟨_,rfl⟩;rw[←bF]at an hb;have cM:Aside (e0=Cq fs):=bF;clear bF
  go_enter func16,ntmps16
  go_wp2_with(go_at_call 38;refine an.mono ?_;rintro e w2 ⟨rfl,hk⟩)
  go_ret2;exact⟨.inl ⟨HE.o,by rw[←cM.o];rfl⟩,hk⟩
theorem Amt{w0 w:World}{pg m:Nat}{xs:Are}{v:Value}{rs:List Rec}{q:Qn}(a:Iz w0 w pg xs v rs)(c:q.Ok)(b:m≤1000000000000):
  Calls prog 24 #[.pointer (some ⟨pg,0,none⟩),.agg q.cells.toArray,.int .i64 (m:Nat)] w fun e w'=>My w0 pg xs rs e w':=by
 by_cases h1:q.k=1
 ·exact Alu a c b h1
 by_cases h2:q.k=2
 ·exact Alv a c b h2
 by_cases d:q.k=3
 ·exact Alx a c b d
 by_cases f:q.k=4
 ·exact Aly a c b f
 by_cases g:q.k=5
 ·exact Alz a c b g
 exact Alw a c b h1 h2 d f g
theorem M6.of{B:Nat}{w':World}{fs:List Hm.Fl}{s:Arc}{e:Ending}(b:Cq fs=0)(c:Ia fs s)(f:Ado B w' s e): ∃pa,e= .returned (.tuple #[.pointer (some ⟨pa,0,none⟩),.int .i64 0])∧M6 B w' pa fs:=by
 obtain⟨l6',L',l8',st',d,a⟩:=Ajz b c;rcases f with⟨pa,l6,L,l8,st,g,hP,hA,_,_,rfl⟩|⟨hno,_⟩
 ·obtain⟨ps,hI⟩:=Aia b c hP;obtain⟨rfl,_,rfl,rfl⟩:=Cy.unique d hP;exact⟨pa,rfl,g,b,s,_,L,_,_,ps,hP,hA,hI,a⟩
 ·exact absurd (by rw[a];exact c) (hno l6' L' l8' st' d (by rw[a];exact b))
def Hm.Nt:List Hm.Fl:=[(⟨#[97]⟩,⟨#[98,97,110,97,110,97]⟩)]
theorem Hm.Aai:Cq Nt=0:=by decide+kernel
def Rs(ao:Arf)(fs:List Hm.Fl)(w w':World)(e:Ending):Prop:=Ara w w'∧ ∃B pa yo d gs,e= .returned (.tuple #[.pointer (some ⟨pa,0,none⟩),.slice yo (List.length gs) d])∧w.heap.size≤B∧M6 B w' pa gs∧Ba w' yo gs∧((yo=ao∧gs=fs)∨ ∀a,yo=some a→w.heap.size≤a.block)
set_option maxRecDepth 20000 in
theorem Ya(ao:Arf)(c:Nat)(fs:List Hm.Fl)(w:World)(u:Ba w ao fs)(G:fs.length≤140737488355328)(y: ∀f∈fs,f.1.size≤140737488355328∧f.2.size≤140737488355328):
  Calls prog 23 #[.slice ao fs.length c] w fun e w'=>Rs ao fs w w' e:=by
 have m:=Vp ao c fs w u G y;have A:Hid (∀(gs:List Hm.Fl) s W,Cq gs=0→Ia gs s→Calls prog 12 #[.string ⟨s.toArray⟩] W fun e w'=>(∃pa,e= .returned (.tuple #[.pointer (some ⟨pa,0,none⟩),.int .i64 0])∧Hid (M6 W.heap.size w' pa gs))∧Ara W w'):=fun gs s W h1 h2=>by
  have:=(Af0 h1 h2).1;exact(Ali Gk O8 s W (by omega)).mono fun e w' h=>⟨M6.of h1 h2 h.2,h.1⟩
 have D:Hid (Ba w ao fs):=u;clear u y
 go_enter func23,ntmps23
 go_wp2_with fail;refine m.mono ?_;rintro e w1 ⟨n,g⟩;rcases n with⟨v,rfl⟩|⟨t,s,d,rfl⟩
 ·have E: ¬(Cq fs:Int)=0:=by simpa using v
  have q:D2 (w1.alloc (.cells #[.string ⟨#[97]⟩,.string ⟨#[98,97,110,97,110,97]⟩] 38)) w1.heap.size Nt:=Anj w1 _;have k:Ba (w1.alloc (.cells #[.string ⟨#[97]⟩,.string ⟨#[98,97,110,97,110,97]⟩] 38)) (some ⟨w1.heap.size,0,none⟩) Nt:=D2.at (r:=[]) (by rw[Aow];exact q);have x:Calls prog 16 #[.slice (some ⟨w1.heap.size,0,none⟩) 1 1] _ _:=Vp (some ⟨w1.heap.size,0,none⟩) 1 Nt _ k (by show 1≤_;omega) (fun f u=>by
   rw[List.mem_singleton.1 u];exact⟨show 1≤_ by omega,show 6≤_ by omega⟩)
  have z:Hid (Ara w (w1.alloc (.cells #[.string ⟨#[97]⟩,.string ⟨#[98,97,110,97,110,97]⟩] 38))∧w.heap.size≤w1.heap.size∧Ba (w1.alloc (.cells #[.string ⟨#[97]⟩,.string ⟨#[98,97,110,97,110,97]⟩] 38)) (some ⟨w1.heap.size,0,none⟩) Nt):=⟨g.alloc _,g.size,k⟩;clear m g q k v D;go_wp2_with fail;refine x.mono ?_;rintro e w2 ⟨n,l⟩;rcases n with⟨C,_⟩|⟨_,s,d,rfl⟩
  ·exact absurd Aai C
  have i:=A.o _ s w2 Aai d;have j:Hid (Ara w w2∧w.heap.size≤w1.heap.size∧Ba w2 (some ⟨w1.heap.size,0,none⟩) Nt):=⟨z.o.1.trans l (fun _ _ h=>h),z.o.2.1,z.o.2.2.kept l (fun _ _=>id)⟩;generalize(⟨s.toArray⟩:ByteArray)=S at*;clear x l z d A;go_wp2_with fail;refine i.mono ?_;rintro e w3 ⟨⟨pa,rfl,B⟩,b⟩;have p:Hid (Ara w w3∧Ba w3 (some ⟨w1.heap.size,0,none⟩) Nt∧w.heap.size≤w2.heap.size):=⟨j.o.1.trans b (fun _ _ h=>h),j.o.2.2.kept b (fun _ _=>id),j.o.1.size⟩;clear i b;go_wp2_with fail;go_ret2;exact⟨p.o.1,w2.heap.size,pa,_,_,Nt,rfl,p.o.2.2,B.o,p.o.2.1,.inr fun a F=>by cases F;exact j.o.2.1⟩
 ·have i:=A.o _ s w1 t d;have j:Hid (Ara w w1):=g;generalize(⟨s.toArray⟩:ByteArray)=S at*;clear m g d A t;go_wp2_with fail;refine i.mono ?_;rintro e w3 ⟨⟨pa,rfl,B⟩,b⟩;have p:Hid (Ara w w3∧Ba w3 ao fs):=by
   have h:=j.o.trans b (fun _ _ h=>h);exact⟨h,D.o.kept h (fun _ _=>id)⟩
  clear i b;go_wp2_with fail;go_ret2;exact⟨p.o.1,w1.heap.size,pa,_,_,fs,rfl,j.o.size,B.o,p.o.2,.inl ⟨rfl,rfl⟩⟩
def K2(V:World)(pg:Nat)(x:Value)(yo:Arf)(fs:List Hm.Fl):Prop:= ∀W,Aa (fun j=>j=pg) V W→Sub false W x fs∧Ba W yo fs∧Cq fs=0
theorem K2.step{V V':World}{pg:Nat}{x:Value}{yo:Arf}{fs:List Hm.Fl}(h:K2 V pg x yo fs)(hk:Aa (fun j=>j=pg) V V'):K2 V' pg x yo fs:=fun W a=>h W (hk.trans a (fun _ _ h=>h))
theorem K2.of{w W w':World}{pg B pa:Nat}{ao yo:Arf}{fs gs:List Hm.Fl}(i:w.heap.size=pg)(hk:Ara w w')(_hW:Ara w W)(f:Ba w ao fs∧pg<W.heap.size)(k:W.heap.size≤B)(d:M6 B w' pa gs)(hF:Ba w' yo gs)(c:(yo=ao∧gs=fs)∨ ∀a,yo=some a→W.heap.size≤a.block):K2 w' pg (.pointer (some ⟨pa,0,none⟩)) yo gs:=fun V b=>by
 have h:=f.2;refine⟨.inr ⟨rfl,B,pa,rfl,d.kept b (fun j l e=>by omega)⟩,?_,d.ck⟩;rcases c with⟨rfl,rfl⟩|c
 ·exact f.1.kept (hk.trans b (fun j h1 h2=>by omega)) (fun _ _=>id)
 ·exact hF.kept b (fun a g e=>by have:=c a g;omega)
theorem K2.turn{V w:World}{pg k:Nat}{xs:Are}{v:Value}{rs:List Rec}{x:Value}{yo:Arf}{c:Nat}{fs:List Hm.Fl}(h:K2 V pg x yo fs)(e:Cv V pg xs v rs w)(d:pg<V.heap.size)(i:xs.length=8)(m:rs.length≤2000000)(hk:k<4)(b: ¬k=2)(n:xs[k]?=some x)(o:xs[4+k]?=some (.slice yo fs.length c)): ∃x yo c fs,Mv V w pg k xs v rs (decide (k=2)) x yo c fs:=by
 obtain⟨h1,h2,g⟩:=h w e.kept;obtain⟨l,a,_⟩:=Li g;refine⟨x,yo,c,fs,e,d,i,m,hk,n,o,?_,h2,l,fun f j=>(a f j).2⟩;rw[Anc b];exact h1
set_option maxRecDepth 20000 in
theorem Al9(ao bo so:Arf)(c d sc:Nat)(fs gs:List Hm.Fl)(qs:List Qn)(w:World)(hf:Ba w ao fs)(hg:Ba w bo gs)(hq:Um w so qs)(hl:fs.length≤140737488355328)(ah:gs.length≤140737488355328)
  (al: ∀f∈fs,f.1.size≤140737488355328∧f.2.size≤140737488355328) (J: ∀f∈gs,f.1.size≤140737488355328∧f.2.size≤140737488355328) (a9:qs.length≤1048576) (ak: ∀q∈qs,q.Ok):
  Calls prog 7 #[.slice ao fs.length c,.slice bo gs.length d,.slice so qs.length sc] w fun e w'=>e= .returned (.bool true)∧Ara w w':=by
 have K:Hid (∀W,Ara w W→Calls prog 23 #[.slice ao fs.length c] W fun e w'=>Rs ao fs W w' e):=fun W hW=>Ya ao c fs W (hf.kept hW (fun _ _=>id)) hl al;have T:Hid (∀W,Ara w W→Calls prog 23 #[.slice bo gs.length d] W fun e w'=>Rs bo gs W w' e):=fun W hW=>Ya bo d gs W (hg.kept hW (fun _ _=>id)) ah J;have HQ:Hid (Um w so qs∧ ∀q∈qs,q.Ok):=⟨hq,ak⟩;have E:Hid (Ba w ao fs∧Ba w bo gs):=⟨hf,hg⟩;clear hf hg hq al J ak
 go_enter func7,ntmps7
 go_wp2_with fail;have N:=Anj w (.cells #[.pointer none,.pointer none,.pointer none,.pointer none,.slice none 0 0,.slice none 0 0,.slice none 0 0,.slice none 0 0,.slice none 0 0] 57);have ag:Ara w (w.alloc (.cells #[.pointer none,.pointer none,.pointer none,.pointer none,.slice none 0 0,.slice none 0 0,.slice none 0 0,.slice none 0 0,.slice none 0 0] 57)):=(Aa.refl _ _).alloc _;generalize w.alloc (.cells #[.pointer none,.pointer none,.pointer none,.pointer none,.slice none 0 0,.slice none 0 0,.slice none 0 0,.slice none 0 0,.slice none 0 0] 57)=W0 at*;obtain⟨pg,G⟩: ∃p,w.heap.size=p:=⟨_,rfl⟩;rw[G]at N⊢;have l:Hid (Ara w W0∧W0.heap[pg]?=some (.cells #[.pointer none,.pointer none,.pointer none,.pointer none,.slice none 0 0,.slice none 0 0,.slice none 0 0,.slice none 0 0,.slice none 0 0] 57 (0,0))):=⟨ag,N⟩;clear N ag
 go_region_with (first
  |(go_at_call 23;refine(K.o _ l.o.1.drew).mono ?_;rintro e u1 ⟨F,B1,pa1,y1,d1,fs1,rfl,U,ac,Y,am⟩;have r1:=F.row (g:=pg) l.o.2 id;have a1:u1.cell? ⟨pg,0,none⟩=some (.pointer none):=Am7 _ _ 0 _ _ _ r1;have f1:u1.frozen? ⟨pg,0,none⟩=false:=Ang _ _ 0 _ _ r1;have r1':(u1.setCell ⟨pg,0,none⟩ (.pointer (some ⟨pa1,0,none⟩))).heap[pg]?=some (.cells #[.pointer (some ⟨pa1,0,none⟩),.pointer none,.pointer none,.pointer none,.slice none 0 0,.slice none 0 0,.slice none 0 0,.slice none 0 0,.slice none 0 0] 57 (0,0)):=Anb _ pg 0 _ _ _ r1;have b1:(u1.setCell ⟨pg,0,none⟩ (.pointer (some ⟨pa1,0,none⟩))).cell? ⟨pg,4,none⟩=some (.slice none 0 0):=Am7 _ _ 4 _ _ _ r1';have g1:(u1.setCell ⟨pg,0,none⟩ (.pointer (some ⟨pa1,0,none⟩))).frozen? ⟨pg,4,none⟩=false:=Ang _ _ 4 _ _ r1'))
 have O:Aa (fun j=>j=pg) u1 ((u1.setCell ⟨pg,0,none⟩ (.pointer (some ⟨pa1,0,none⟩))).setCell ⟨pg,4,none⟩ (.slice y1 fs1.length d1)):=((Aa.refl (fun j=>j=pg) u1).setCell (p:=⟨pg,0,none⟩) (.inr rfl) _).setCell (p:=⟨pg,4,none⟩) (.inr rfl) _;have q1:((u1.setCell ⟨pg,0,none⟩ (.pointer (some ⟨pa1,0,none⟩))).setCell ⟨pg,4,none⟩ (.slice y1 fs1.length d1)).heap[pg]?=some (.cells #[.pointer (some ⟨pa1,0,none⟩),.pointer none,.pointer none,.pointer none,.slice y1 fs1.length d1,.slice none 0 0,.slice none 0 0,.slice none 0 0,.slice none 0 0] 57 (0,0)):=Anb _ pg 4 _ _ _ r1';generalize(u1.setCell ⟨pg,0,none⟩ (.pointer (some ⟨pa1,0,none⟩))).setCell ⟨pg,4,none⟩ (.slice y1 fs1.length d1)=V1 at*;have n:Hid (Ara w V1∧V1.heap[pg]?=some (.cells #[.pointer (some ⟨pa1,0,none⟩),.pointer none,.pointer none,.pointer none,.slice y1 fs1.length d1,.slice none 0 0,.slice none 0 0,.slice none 0 0,.slice none 0 0] 57 (0,0))):=⟨(l.o.1.drew.trans F (fun _ _ h=>h)).trans O (fun j h1 h2=>by omega),q1⟩;have P:Hid (K2 V1 pg (.pointer (some ⟨pa1,0,none⟩)) y1 fs1):=(K2.of G (l.o.1.drew.trans F (fun _ _ h=>h)) l.o.1.drew ⟨E.o.1,Anu l.o.2⟩ U ac Y am).step O;clear F U ac Y am r1 a1 f1 r1' b1 g1 O q1 l;go_wp2_with fail
 go_region_with (first
  |(go_at_call 23;refine(T.o _ n.o.1.drew).mono ?_;rintro e u2 ⟨C,B2,pa2,y2,d2,fs2,rfl,V,ad,Z,an⟩;have r2:=C.row (g:=pg) n.o.2 id;have a2:u2.cell? ⟨pg,1,none⟩=some (.pointer none):=Am7 _ _ 1 _ _ _ r2;have f2:u2.frozen? ⟨pg,1,none⟩=false:=Ang _ _ 1 _ _ r2;have r2':(u2.setCell ⟨pg,1,none⟩ (.pointer (some ⟨pa2,0,none⟩))).heap[pg]?=some (.cells #[.pointer (some ⟨pa1,0,none⟩),.pointer (some ⟨pa2,0,none⟩),.pointer none,.pointer none,.slice y1 fs1.length d1,.slice none 0 0,.slice none 0 0,.slice none 0 0,.slice none 0 0] 57 (0,0)):=Anb _ pg 1 _ _ _ r2;have b2:(u2.setCell ⟨pg,1,none⟩ (.pointer (some ⟨pa2,0,none⟩))).cell? ⟨pg,5,none⟩=some (.slice none 0 0):=Am7 _ _ 5 _ _ _ r2';have g2:(u2.setCell ⟨pg,1,none⟩ (.pointer (some ⟨pa2,0,none⟩))).frozen? ⟨pg,5,none⟩=false:=Ang _ _ 5 _ _ r2'))
 have H:Aa (fun j=>j=pg) u2 ((u2.setCell ⟨pg,1,none⟩ (.pointer (some ⟨pa2,0,none⟩))).setCell ⟨pg,5,none⟩ (.slice y2 fs2.length d2)):=((Aa.refl (fun j=>j=pg) u2).setCell (p:=⟨pg,1,none⟩) (.inr rfl) _).setCell (p:=⟨pg,5,none⟩) (.inr rfl) _;have q2:((u2.setCell ⟨pg,1,none⟩ (.pointer (some ⟨pa2,0,none⟩))).setCell ⟨pg,5,none⟩ (.slice y2 fs2.length d2)).heap[pg]?=some (.cells #[.pointer (some ⟨pa1,0,none⟩),.pointer (some ⟨pa2,0,none⟩),.pointer none,.pointer none,.slice y1 fs1.length d1,.slice y2 fs2.length d2,.slice none 0 0,.slice none 0 0,.slice none 0 0] 57 (0,0)):=Anb _ pg 5 _ _ _ r2';generalize(u2.setCell ⟨pg,1,none⟩ (.pointer (some ⟨pa2,0,none⟩))).setCell ⟨pg,5,none⟩ (.slice y2 fs2.length d2)=V2 at*;have s:Hid (Ara w V2∧V2.heap[pg]?=some (.cells #[.pointer (some ⟨pa1,0,none⟩),.pointer (some ⟨pa2,0,none⟩),.pointer none,.pointer none,.slice y1 fs1.length d1,.slice y2 fs2.length d2,.slice none 0 0,.slice none 0 0,.slice none 0 0] 57 (0,0))):=⟨(n.o.1.drew.trans C (fun _ _ h=>h)).trans H (fun j h1 h2=>by omega),q2⟩;have Q:Hid (K2 V2 pg (.pointer (some ⟨pa2,0,none⟩)) y2 fs2):=(K2.of G (n.o.1.drew.trans C (fun _ _ h=>h)) n.o.1.drew ⟨E.o.2,Anu n.o.2⟩ V ad Z an).step H;have y:Hid (K2 V2 pg (.pointer (some ⟨pa1,0,none⟩)) y1 fs1):=(P.o.step ((Aa.refl (fun j=>j=pg) V1).drew.trans C (fun _ _ h=>h.elim))).step H;clear C V ad Z an r2 a2 f2 r2' b2 g2 H q2 n P;go_wp2_with fail
 go_region_with (first
  |(go_at_call 23;refine(K.o _ s.o.1.drew).mono ?_;rintro e u3 ⟨x,B3,pa3,y3,d3,fs3,rfl,X,ae,aa,ap⟩;have r3:=x.row (g:=pg) s.o.2 id;have a3:u3.cell? ⟨pg,3,none⟩=some (.pointer none):=Am7 _ _ 3 _ _ _ r3;have f3:u3.frozen? ⟨pg,3,none⟩=false:=Ang _ _ 3 _ _ r3;have r3':(u3.setCell ⟨pg,3,none⟩ (.pointer (some ⟨pa3,0,none⟩))).heap[pg]?=some (.cells #[.pointer (some ⟨pa1,0,none⟩),.pointer (some ⟨pa2,0,none⟩),.pointer none,.pointer (some ⟨pa3,0,none⟩),.slice y1 fs1.length d1,.slice y2 fs2.length d2,.slice none 0 0,.slice none 0 0,.slice none 0 0] 57 (0,0)):=Anb _ pg 3 _ _ _ r3;have b3:(u3.setCell ⟨pg,3,none⟩ (.pointer (some ⟨pa3,0,none⟩))).cell? ⟨pg,7,none⟩=some (.slice none 0 0):=Am7 _ _ 7 _ _ _ r3';have g3:(u3.setCell ⟨pg,3,none⟩ (.pointer (some ⟨pa3,0,none⟩))).frozen? ⟨pg,7,none⟩=false:=Ang _ _ 7 _ _ r3'))
 have D:Aa (fun j=>j=pg) u3 ((u3.setCell ⟨pg,3,none⟩ (.pointer (some ⟨pa3,0,none⟩))).setCell ⟨pg,7,none⟩ (.slice y3 fs3.length d3)):=((Aa.refl (fun j=>j=pg) u3).setCell (p:=⟨pg,3,none⟩) (.inr rfl) _).setCell (p:=⟨pg,7,none⟩) (.inr rfl) _;have q3:((u3.setCell ⟨pg,3,none⟩ (.pointer (some ⟨pa3,0,none⟩))).setCell ⟨pg,7,none⟩ (.slice y3 fs3.length d3)).heap[pg]?=some (.cells #[.pointer (some ⟨pa1,0,none⟩),.pointer (some ⟨pa2,0,none⟩),.pointer none,.pointer (some ⟨pa3,0,none⟩),.slice y1 fs1.length d1,.slice y2 fs2.length d2,.slice none 0 0,.slice y3 fs3.length d3,.slice none 0 0] 57 (0,0)):=Anb _ pg 7 _ _ _ r3';generalize(u3.setCell ⟨pg,3,none⟩ (.pointer (some ⟨pa3,0,none⟩))).setCell ⟨pg,7,none⟩ (.slice y3 fs3.length d3)=V3 at*;have t:Hid (Ara w V3∧V3.heap[pg]?=some (.cells #[.pointer (some ⟨pa1,0,none⟩),.pointer (some ⟨pa2,0,none⟩),.pointer none,.pointer (some ⟨pa3,0,none⟩),.slice y1 fs1.length d1,.slice y2 fs2.length d2,.slice none 0 0,.slice y3 fs3.length d3,.slice none 0 0] 57 (0,0))):=⟨(s.o.1.drew.trans x (fun _ _ h=>h)).trans D (fun j h1 h2=>by omega),q3⟩;have R:Hid (K2 V3 pg (.pointer (some ⟨pa3,0,none⟩)) y3 fs3):=(K2.of G (s.o.1.drew.trans x (fun _ _ h=>h)) s.o.1.drew ⟨E.o.1,Anu s.o.2⟩ X ae aa ap).step D;have z:Hid (K2 V3 pg (.pointer (some ⟨pa1,0,none⟩)) y1 fs1):=(y.o.step ((Aa.refl (fun j=>j=pg) V2).drew.trans x (fun _ _ h=>h.elim))).step D;have A:Hid (K2 V3 pg (.pointer (some ⟨pa2,0,none⟩)) y2 fs2):=(Q.o.step ((Aa.refl (fun j=>j=pg) V2).drew.trans x (fun _ _ h=>h.elim))).step D;clear x X ae aa ap r3 a3 f3 r3' b3 g3 D q3 s y Q;obtain⟨xs,a⟩: ∃xs:Are,xs=[.pointer (some ⟨pa1,0,none⟩),.pointer (some ⟨pa2,0,none⟩),.pointer none,.pointer (some ⟨pa3,0,none⟩),.slice y1 fs1.length d1,.slice y2 fs2.length d2,.slice none 0 0,.slice y3 fs3.length d3]:=⟨_,rfl⟩;have au:Hid (Cv V3 pg xs (.slice none 0 0) [] V3):=⟨Aa.refl _ _,by rw[a];exact t.o.2,⟨rfl,.inl ⟨rfl,rfl⟩⟩,fun r I=>(by cases I),fun r I=>(by cases I)⟩;have ax:Hid (∀v rs W,Cv V3 pg xs v rs W→rs.length≤2000000→Iz V3 W pg xs v rs):=fun v rs W hG I k hk=>by
  have u:=Anu t.o.2;have h8:xs.length=8:=by rw[a];rfl
  match k,hk with
  |0,_=>exact z.o.turn hG u h8 I (by decide) (by decide) (by rw[a];rfl) (by rw[a];rfl)
  |1,_=>exact A.o.turn hG u h8 I (by decide) (by decide) (by rw[a];rfl) (by rw[a];rfl)
  |2,_=>exact⟨.pointer none,none,0,[],hG,u,h8,I,by decide,by rw[a];rfl,by rw[a];rfl,.inl ⟨rfl,rfl,rfl⟩,fun i hi=>by simp at hi,Ann _,fun f hf=>by cases hf⟩
  |3,_=>exact R.o.turn hG u h8 I (by decide) (by decide) (by rw[a];rfl) (by rw[a];rfl)
 have k0:V3.cell? ⟨pg,0,none⟩=some (.pointer (some ⟨pa1,0,none⟩)):=Am7 _ _ 0 _ _ _ t.o.2;have k1:V3.cell? ⟨pg,1,none⟩=some (.pointer (some ⟨pa2,0,none⟩)):=Am7 _ _ 1 _ _ _ t.o.2;have k3:V3.cell? ⟨pg,3,none⟩=some (.pointer (some ⟨pa3,0,none⟩)):=Am7 _ _ 3 _ _ _ t.o.2;have aw:Hid (Ara w V3):=t.o.1;clear a t z A R K T E hl ah;go_wp2_with fail
 go_loopw[8] (fun vi wr=> ∃(i:Nat) (v:Value) (rs:List Rec),i≤qs.length∧vi= .int .i64 i∧rs.length≤i∧Hid (Cv V3 pg xs v rs wr)) (fun vi _=>qs.length-(intOf vi).toNat)
 case atStart=>exact⟨0,_,[],Ann _,rfl,Ane _,au.o⟩
 case round=>
  obtain⟨i,v,rs,a7,rfl,aA,HG⟩:=hrel;have S:Hid (Ara w wr):=aw.o.trans HG.o.kept (fun j h1 h2=>by omega)
  by_cases u:i<qs.length
  ·have M:(i:Int)<(qs.length:Int):=by omega
   have hd:decide ((i:Int)<(qs.length:Int))=true:=Ana M;obtain⟨b,o,rfl,_,L⟩:=(HQ.o.1.kept S.o (fun _ _=>id)) i u;have aj:=HQ.o.2 _ (Anm u);have B:=Amt (m:=1000+i) (ax.o v rs wr HG.o (by omega)) aj (by omega);have ai:((1000+i:Nat):Int)=1000+(i:Int):=by omega
   rw[ai]at B;generalize qs[i]=q at*;obtain⟨q0,q1,q2,q3,q4,q5⟩:=q;have e0:wr.cell? ⟨b,o+i*6,none⟩=some (.int .i64 q0):=L 0 _ rfl;have e1:wr.cell? ⟨b,o+i*6+1,none⟩=some (.int .i64 q1):=L 1 _ rfl;have e2:wr.cell? ⟨b,o+i*6+2,none⟩=some (.int .i64 q2):=L 2 _ rfl;have e3:wr.cell? ⟨b,o+i*6+3,none⟩=some (.int .i64 q3):=L 3 _ rfl;have e4:wr.cell? ⟨b,o+i*6+4,none⟩=some (.int .i64 q4):=L 4 _ rfl;have e5:wr.cell? ⟨b,o+i*6+5,none⟩=some (.string q5):=L 5 _ rfl;clear L ai aj k0 k1 k3;go_wp2_with fail;refine B.mono ?_;rintro e w9 ⟨rfl,v9,rs9,ab,a8⟩;have av:Hid (Cv V3 pg xs v9 rs9 w9):=ab;clear B ab e0 e1 e2 e3 e4 e5;go_wp2_with fail;go_roundw
   case rel=>exact⟨i+1,v9,rs9,by omega,by go_num,by omega,av⟩
   case measure=>simp[intOf];omega
  ·have M: ¬(i:Int)<(qs.length:Int):=by omega
   have hd:decide ((i:Int)<(qs.length:Int))=false:=Anc M;go_wp2_with fail;go_ret;exact⟨rfl,S.o⟩
end Go.Proofs.YtegnkfdbmmndaaaGreat
