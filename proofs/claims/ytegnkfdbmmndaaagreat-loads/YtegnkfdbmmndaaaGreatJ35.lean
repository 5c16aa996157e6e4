import Derived.Test.YtegnkfdbmmndaaaGreatJ00
import Derived.Test.YtegnkfdbmmndaaaGreatJ34
import Derived.Test.YtegnkfdbmmndaaaGreatJ24

namespace Go.Proofs.YtegnkfdbmmndaaaGreat
open Hm
open Go.RowKit
theorem Yg{P:Program}{ρ:Operand→Value}{o:Oper}(w:World)(a b:TypeId)(x:Operand)(ho:o.op= .convert a b x)(v r:Value)(hx:ρ x=v)(h:(convert a b v).run P w= .ok r w):(execOp ρ o).run P w= .ok (.value r) w:=by
 unfold execOp;simp only[ho,hx,Sem.run_bind,h,Result.andThen_ok,Sem.run_pure]
set_option maxRecDepth 100000 in
set_option maxHeartbeats 8000000 in
theorem Ut(ao:Option Addr)(c:Nat)(fs:List (ByteArray×ByteArray))(w:World)(hf:Cx w ao fs)(hl:fs.length≤140737488355328)(hsz: ∀f∈fs,f.1.size≤140737488355328∧f.2.size≤140737488355328):
  Calls Tryz.prog 16 #[.slice ao fs.length c] w fun e w'=>Ab7 fs e∧Apd w w':=by
 have hck:=Ab9 ao c fs w hf hl hsz
 by_cases he:Bl fs=0
 ·obtain⟨hm,h32,hn⟩:=K3 he;have HT:Aside (E8 fs=Ae fs):=rfl;have hC:=Hp (Ae fs) hn;obtain⟨N,h0,hE⟩:=hC.ends;obtain⟨i0,hi,hz0,hz1,hz2⟩:=Amz Ft;have HF:Aside (Cx w ao fs∧(∀f∈fs,f.1.size≤32∧f.2.size≤3000)∧Bj (Hm.lens (Ae fs))∧0<N∧Hm.Ends 32 (Hm.lnB (Hm.lens (Ae fs))) (Af (Hm.lens (Ae fs))) N∧Bl fs=0):=⟨hf,h32,hC,h0,hE,he⟩;have htx:=fun W (hk:Apd w W)=>Ad2 ao c fs W (hf.kept hk (fun _ _=>id)) hm (fun f hf=>(h32 f hf).2);have HTX:Aside _:=htx;rw[he]at hck;clear hf hsz hl h32 hC h0 hE he htx;obtain⟨tx,htx⟩: ∃tx,tx=(⟨(E8 fs).toArray⟩:ByteArray):=⟨_,rfl⟩;have htz:tx.size=(Ae fs).length:=by rw[htx];show(E8 fs).toArray.size=_;rw[Alq];rfl
  have HTD:Aside (tx.data.toList=Ae fs∧tx=(⟨(E8 fs).toArray⟩:ByteArray)):=⟨by rw[htx];rfl,htx⟩;have hn6:tx.size≤6000:=by omega
  have HPL:Aside (∀W,Calls Tryz.prog 40 #[.string tx,.int .i64 0,.int .i64 ((tx.size:Int)+1)] W fun e w'=> ∃v ps,e= .returned v∧I0 tx.data.toList 0 (tx.size+1) ps∧w'.ownsRow W.heap.size 3 1 v ps.length (Ac ps)∧Apd W w'):=fun W=>by
   have h:=Qw tx hn6 (tx.size+1) 0 (tx.size+1) W (by omega) (by omega) (Ale _);rw[show((tx.size+1:Nat):Int)=(tx.size:Int)+1 from by omega]at h;exact h
  clear htx htz hn
  go_enter Tryz.func16,Tryz.ntmps16
  go_wp2_with fail;refine hck.mono ?_;rintro e w2 ⟨rfl,hk2⟩;have htx2:=HTX.out w2 hk2;rw[←HTD.out.2]at htx2;clear hck;go_wp2_with fail;refine htx2.mono ?_;rintro e w3 ⟨rfl,hw3⟩;subst w3;clear htx2;go_wp2_with fail;refine(HPL.out _).mono ?_;rintro e w4 ⟨v,ps,rfl,hpart,hown,hk4⟩;have hpl:ps.length=tx.size+1:=by have:=hpart.len;omega
  obtain⟨gp,cp,hv,_,_⟩:=Cf hown (by omega);subst hv;have hk04:Apd w w4:=hk2.trans hk4 (fun _ _ h=>h);have hsrt:Dr (Ae fs) ps:=by
   have h:=hpart;have e1:tx.size=tx.data.toList.length:=by simp
   rw[e1]at h;have h2:=h.sorted;rwa[HTD.out.1]at h2
  have hpx: ∀x∈ps,x≤tx.size:=fun x hx=>by have:=(hpart.mem x hx).2;omega
  have H4:Aside (Dr (Ae fs) ps∧w4.ownsRow w2.heap.size 3 1 (.slice (some ⟨gp,0,none⟩) ps.length cp) ps.length (Ac ps)∧Apd w w4∧ ∀x∈ps,x≤tx.size):=⟨hsrt,hown,hk04,hpx⟩;clear hpart hown hk4 hk2 hk04 hsrt hpx HPL
  go_wp2_with(at_make;refine wpList_make_own _ rfl _ _ 79 rfl w4.heap.size 5 i0 (.int .u8 0) 1 Tryz.underlying79 hi hz0 hz1 .i64 .i64 _ tx.size rfl rfl rfl (by rw[hz2];omega) (by unfold maxLen;omega) (Ale _) ?_;intro w5 ho5 hg5)
  have hk5:Apd w4 w5:=(Aa.refl _ _).grown hg5 (fun k hk=>by cases hk);clear hg5
  go_loopw[8,9,10] (fun vr vc vi wr=> ∃i:Nat,i≤tx.size+1∧vi= .int .i64 i∧vr= .int .i64 (Is ps i:Nat)∧Aside (wr.ownsRow w4.heap.size 5 1 vc (Ap (Ae fs) (ps.take i)).length (Ag (Ap (Ae fs) (ps.take i))))∧Apd w4 wr) (fun _ _ vi _=>tx.size+1-(intOf vi).toNat)
  case atStart=>exact⟨0,by omega,rfl,rfl,ho5,hk5⟩
  case round=>
   clear ho5 hk5;obtain⟨i,hil,rfl,rfl,HO,hkr⟩:=hrel;have hop:=hkr.owns H4.out.2.1 (fun _ _ h=>h);have HKR:Aside (Apd w4 wr):=hkr;obtain⟨ab,cb,hvb,_⟩:=Ay HO.out;subst hvb
   by_cases hlt:i<tx.size+1
   ·have hdec:decide ((i:Int)≤(tx.size:Int))=true:=Alb (by omega);have hip:i<ps.length:=by omega
    have hiI:(i:Int)<(ps.length:Int):=by omega
    have hci:wr.cell? ⟨gp,i,none⟩=some (.int .i64 (ps[i]:Nat)):=by
     rw[hop.cellAt i (by omega)];simp[Ac,hip]
    have hxi:ps[i]≤tx.size:=H4.out.2.2.2 _ (Alo _);have HRT:=Aei (n:=(Ae fs).length) H4.out.1.perm i hip;have HCT:=Wh (Ae fs) ps i hip;have hcz:(Ap (Ae fs) (ps.take i)).length≤6001:=by
     unfold Ap;rw[Al6];have h1:=Ao2 (fun p=>decide (0<p)) (ps.take i);rw[Aln]at h1;omega
    have HST:Aside (Is ps (i+1)=(if ps[i]=0 then i else Is ps i)∧Ap (Ae fs) (ps.take (i+1))=Ap (Ae fs) (ps.take i)++if 0<ps[i]then [(Ae fs).getD (ps[i]-1) 0]else []):=⟨HRT,HCT⟩;clear HRT HCT hop hkr;obtain⟨x,hx⟩: ∃x,x=ps[i]:=⟨_,rfl⟩;rw[←hx]at hci hxi HST;clear hx
    by_cases hx0:x=0
    ·subst hx0;have HE:Aside (Is ps (i+1)=i∧Ap (Ae fs) (ps.take (i+1))=Ap (Ae fs) (ps.take i)):=⟨by rw[HST.out.1,if_pos rfl],by rw[HST.out.2];simp⟩;clear HST;go_wp2_with fail;go_roundw
     case rel=>
      refine⟨i+1,by omega,by go_num,by rw[HE.out.1],?_,HKR.out⟩;show World.ownsRow _ _ _ _ _ _ _;rw[HE.out.2];exact HO.out
     case measure=>simp[intOf];omega
    ·obtain⟨y,hy⟩: ∃y,x=y+1:=⟨x-1,by omega⟩;have hq:((x:Int)==0)=false:=by rw[Al5];omega
     have hwr:IntKind.i64.wrap ((x:Int)-1)=(y:Int):=by rw[Al9];omega
     have hys:y<tx.size:=by omega
     have hyI:(y:Int)<(tx.size:Int):=by omega
     have HE:Aside (Is ps (i+1)=Is ps i∧(Ap (Ae fs) (ps.take (i+1))).length=(Ap (Ae fs) (ps.take i)).length+1∧Ag (Ap (Ae fs) (ps.take (i+1)))=Ag (Ap (Ae fs) (ps.take i))++[.int .u8 ((tx[y]'hys).toNat:Nat)]):=by
      have hyl:y<tx.data.toList.length:=by simpa using hys
      have e1:(Ae fs).getD (x-1) 0=tx[y]'hys:=by
       rw[hy,An0,←HTD.out.1,Ak6,Ak7 hyl];rfl
      refine⟨by rw[HST.out.1,if_neg hx0],?_,?_⟩
      ·rw[HST.out.2,if_pos (by omega)];simp
      ·rw[HST.out.2,if_pos (by omega),e1];simp[Ag]
     clear HST hy hx0;generalize Is ps i=rt at*
     go_wp2_with(at_builtin;refine A7 _ rfl (.tmp 45) (.tmp 53) 79 rfl w4.heap.size 5 i0 (.int .u8 0) 1 1 Tryz.underlying79 hi hz0 hz1 hz2 rfl (by decide) _ _ _ rfl (HO.out.alloc _) ⟨wr.heap.size,0,none⟩ 1 1 [.int .u8 ((tx[y]'hys).toNat:Nat)] rfl rfl ?c1 ?c2 ?c3 ?c4 ?c5 ?_)
     case c1=>exact An9 _ _ _
     case c2=>intro u hu;simp at hu;subst hu;rfl
     case c3=>unfold maxLen;omega
     case c4=>omega
     case c5=>have:=HKR.out.size;simp;omega
     intro v6 w6 ho6 hg6 hm6;have hk6:Apd w4 w6:=(HKR.out.alloc _).grown hg6 (fun j hj=> .inl (HO.out.lt j hj).1);have HO6:Aside (w6.ownsRow w4.heap.size 5 1 v6 ((Ap (Ae fs) (ps.take i)).length+1) (Ag (Ap (Ae fs) (ps.take i))++[.int .u8 ((tx[y]'hys).toNat:Nat)])):=ho6;clear ho6 hg6 hm6 HO;go_wp2_with fail;go_roundw
     case rel=>
      refine⟨i+1,by omega,by go_num,by rw[HE.out.1],?_,hk6⟩;show World.ownsRow _ _ _ _ _ _ _;rw[HE.out.2.1,HE.out.2.2];exact HO6.out
     case measure=>simp[intOf];omega
   ·have hie:i=tx.size+1:=by omega
    have hdec:decide ((i:Int)≤(tx.size:Int))=false:=Ald (by omega);have htl:tx.size=(Ae fs).length:=by rw[←HTD.out.1];simp
    have HR:Aside (Is ps i=Bn ps∧Bn ps≤tx.size∧ps.take i=ps):=⟨by rw[hie,htl];exact Aej H4.out.1.perm,by rw[htl];exact(Kg H4.out.1.perm).2,by rw[Al8 (by omega)]⟩;have HCO:Aside (wr.ownsRow w4.heap.size 5 1 (.slice ab (Ap (Ae fs) ps).length cb) (Ap (Ae fs) ps).length (Ag (Ap (Ae fs) ps))):=by
     have h:=HO.out;rwa[HR.out.2.2]at h
    rw[HR.out.1,HR.out.2.2];have hrt:=HR.out.2.1;clear hop hkr HO hie htl;obtain⟨rt,hrte⟩: ∃rt,rt=Bn ps:=⟨_,rfl⟩;have HRT:Aside (rt=Bn ps):=hrte;rw[←hrte]at hrt⊢;clear hrte HR;have HKR6:Aside (Apd w4 wr):=HKR.out;clear HKR;obtain⟨B1,hB1⟩: ∃B,B=(⟨(Hm.leBytes fs.length 1).toArray⟩:ByteArray):=⟨_,rfl⟩;obtain⟨B2,hB2⟩: ∃B,B=(⟨(Hm.leBytes tx.size 2).toArray⟩:ByteArray):=⟨_,rfl⟩;obtain⟨B3,hB3⟩: ∃B,B=(⟨(Hm.leBytes rt 2).toArray⟩:ByteArray):=⟨_,rfl⟩;have hb1:=fun W=>F8 fs.length 1 W (by omega) (by omega) (by omega);have hb2:=fun W=>F8 tx.size 2 W (by omega) (by omega) (by omega);have hb3:=fun W=>F8 rt 2 W (by omega) (by omega) (by omega);rw[←hB1]at hb1;rw[←hB2]at hb2;rw[←hB3]at hb3;have hz1':B1.size=1:=by rw[hB1];rfl
    have hz2':B2.size=2:=by rw[hB2];rfl
    have hz3':B3.size=2:=by rw[hB3];rfl
    have HBB:Aside (B1=(⟨(Hm.leBytes fs.length 1).toArray⟩:ByteArray)∧B2=(⟨(Hm.leBytes tx.size 2).toArray⟩:ByteArray)∧B3=(⟨(Hm.leBytes rt 2).toArray⟩:ByteArray)):=⟨hB1,hB2,hB3⟩;clear hB1 hB2 hB3;go_wp2_with fail;refine(hb1 _).mono ?_;rintro e w7 ⟨rfl,hk7⟩;have HK7:Aside (Apd wr w7):=hk7;clear hk7;go_wp2_with fail;refine(hb2 _).mono ?_;rintro e w8 ⟨rfl,hk8⟩;have HK8:Aside (Apd wr w8):=HK7.out.trans hk8 (fun _ _ h=>h);clear hk8 HK7;go_wp2_with fail;refine(hb3 _).mono ?_;rintro e w9 ⟨rfl,hk9⟩;have HK9:Aside (Apd wr w9):=HK8.out.trans hk9 (fun _ _ h=>h);clear hk9 HK8 hb1 hb2 hb3;go_upto_region 16 with fail
    obtain⟨P0,hP0⟩: ∃P:List UInt8,P=[72,79,65,82,68,49,UInt8.ofNat fs.length]++Hm.leBytes tx.size 2++Hm.leBytes rt 2:=⟨_,rfl⟩;obtain⟨S0,hS0⟩: ∃S,S=(⟨#[72,79,65,82,68,49]⟩:ByteArray)++B1++B2++B3:=⟨_,rfl⟩;rw[←hS0];have HP0:Aside (S0=(⟨P0.toArray⟩:ByteArray)∧P0=[72,79,65,82,68,49,UInt8.ofNat fs.length]++Hm.leBytes tx.size 2++Hm.leBytes rt 2∧P0.length=11):=by
     refine⟨?_,hP0,by rw[hP0];rfl⟩;rw[hS0,HBB.out.1,HBB.out.2.1,HBB.out.2.2,hP0];apply An1;simp[ByteArray.data_append,Hm.leBytes]
    clear hP0 hS0;have HK10:Aside (Apd w w9∧Apd w4 w9∧Cx w9 ao fs∧w9.ownsRow w4.heap.size 5 1 (.slice ab (Ap (Ae fs) ps).length cb) (Ap (Ae fs) ps).length (Ag (Ap (Ae fs) ps))∧w9.ownsRow w2.heap.size 3 1 (.slice (some ⟨gp,0,none⟩) ps.length cp) ps.length (Ac ps)):=by
     have h49:Apd w4 w9:=HKR6.out.trans HK9.out (fun _ _ h=>h);have h09:Apd w w9:=H4.out.2.2.1.trans h49 (fun _ _ h=>h);exact⟨h09,h49,HF.out.1.kept h09 (fun _ _=>id),HK9.out.owns HCO.out (fun _ _ h=>h),h49.owns H4.out.2.1 (fun _ _ h=>h)⟩
    clear HKR6 HK9 HCO HBB hz1' hz2' hz3';go_wp2_with fail
    go_loopw[11,12] (fun vs vi wx=> ∃i:Nat,i≤fs.length∧vi= .int .i64 i∧vs= .string ⟨(P0++Hm.nameBytes (fs.take i)).toArray⟩∧Apd w9 wx) (fun _ vi _=>fs.length-(intOf vi).toNat)
    case atStart=>exact⟨0,by omega,rfl,by rw[HP0.out.1];simp[Hm.nameBytes],Aa.refl _ _⟩
    case round=>
     obtain⟨k,hkl,rfl,rfl,hkr⟩:=hrel;have HKR:Aside (Apd w9 wr):=hkr
     by_cases hlk:k<fs.length
     ·have hdec:decide ((k:Int)<(fs.length:Int))=true:=Alb (by omega);have hkI:(k:Int)<(fs.length:Int):=by omega
      obtain⟨bb,oo,hao,hbb,hc1,_⟩:=(HK10.out.2.2.1.kept hkr (fun _ _=>id)) k hlk;subst hao;have hnm:fs[k].1.size≤32:=(HF.out.2.1 _ (Alo _)).1;obtain⟨nm,hnme⟩: ∃n,n=fs[k].1:=⟨_,rfl⟩;rw[←hnme]at hc1 hnm;have HNM:Aside (Hm.nameBytes (fs.take (k+1))=Hm.nameBytes (fs.take k)++(UInt8.ofNat nm.size::nm.data.toList)):=by rw[hnme];exact Pb fs k hlk
      clear hnme hkr;obtain⟨SS,hSS⟩: ∃S,S=(⟨(P0++Hm.nameBytes (fs.take k)).toArray⟩:ByteArray):=⟨_,rfl⟩;rw[←hSS];have HSS:Aside (SS=(⟨(P0++Hm.nameBytes (fs.take k)).toArray⟩:ByteArray)):=hSS;clear hSS;have hnl:=Js (fs.take k) (fun f hf=>(HF.out.2.1 f (List.mem_of_mem_take hf)).1);have hssz:SS.size≤2000:=by
       have h1:SS.size=P0.length+(Hm.nameBytes (fs.take k)).length:=by rw[HSS.out];show(P0++Hm.nameBytes (fs.take k)).toArray.size=_;simp
       rw[Aln]at hnl;have:=HP0.out.2.2;omega
      obtain⟨NB,hNB⟩: ∃B,B=(⟨(Hm.leBytes nm.size 1).toArray⟩:ByteArray):=⟨_,rfl⟩;have hbn:=fun W=>F8 nm.size 1 W (by omega) (by omega) (by omega);rw[←hNB]at hbn;have hnbz:NB.size=1:=by rw[hNB];rfl
      have HNB:Aside (SS++NB++nm=(⟨(P0++Hm.nameBytes (fs.take (k+1))).toArray⟩:ByteArray)):=by
       show _=_;rw[HNM.out,HSS.out,hNB];apply An1;simp[ByteArray.data_append,Hm.leBytes]
      clear hNB hnl;go_wp2_with fail
      go_region_held(fun X=>X.cell? ⟨bb,oo+k*2,none⟩=some (.string nm)) (first|exact hc1|exact k0)
       (first|(go_at_call 41;(refine(hbn _).mono ?_;rintro e w6 ⟨rfl,hk6⟩;have k0:=(hk6.cell (p:=⟨bb,oo+k*2,none⟩) (Aly _ _ hc1) id).trans hc1)))
      have HK6:Aside (Apd w9 w6):=HKR.out.drew.trans hk6 (fun _ _ h=>h);clear hk6 k0 hbn hc1;go_wp2_with fail;go_roundw
      case rel=>exact⟨k+1,by omega,by go_num,by rw[HNB.out],HK6.out⟩
      case measure=>simp[intOf];omega
     ·have hke:k=fs.length:=by omega
      have hdec:decide ((k:Int)<(fs.length:Int))=false:=Ald (by omega);have HTK:Aside (fs.take k=fs):=by show _=_;rw[hke,Ama]
      rw[HTK.out];have htl:tx.size=(Ae fs).length:=by rw[←HTD.out.1];simp
      have HFW:Aside (Cx wr ao fs):=HK10.out.2.2.1.kept hkr (fun _ _=>id);have hen:=Ad6 ao c fs tx.size wr HFW.out hm htl hn6;obtain⟨EB,hEB⟩: ∃l,l=Bf (Az fs) tx.size:=⟨_,rfl⟩;have hEBl:EB.length≤10000:=by
       rw[hEB,Lq,Ds];have h1:=Ni fs.length tx.size (by omega);have h2:fs.length*By fs.length tx.size≤40*20:=Amk hm (by omega);have h3:tx.size/2^By fs.length tx.size≤tx.size:=Anu _ _;omega
      rw[←hEB]at hen;have hfe:=fun W=>M4 EB W (by omega);have hle:=fun W=>Ya tx W hn6;rw[HTD.out.1]at hle;obtain⟨L,hL⟩: ∃L,L=Hm.lens (Ae fs):=⟨_,rfl⟩;rw[←hL]at hle;have hC:Bj L:=by rw[hL];exact HF.out.2.2.1
      have hLx: ∀x∈L,x≤100000:=fun x hx=>by
       obtain⟨j,hj,rfl⟩:=Aml hx;have h1:=hC.short (UInt8.ofNat j);have h2:(UInt8.ofNat j).toNat=j:=by rw[Ame];have:=hC.len;omega
       rw[Td,h2,Ak6,Ak7 hj]at h1;simp only[Anr]at h1;omega
      have hcd:=fun W=>Sk L W hC.len hLx;have HL:Aside (L=Hm.lens (Ae fs)∧Bj L):=⟨hL,hC⟩;obtain⟨LA,hLA⟩: ∃A,A=(Ac L).toArray:=⟨_,rfl⟩;have hLs:LA.size=256:=by rw[hLA,A2,hC.len]
      have hL1:LA.all (·.oneCell')=true:=by rw[hLA];exact Eb _
      have HLA:Aside (LA=(Ac L).toArray):=hLA;rw[←hLA]at hle hcd;clear hL hC hLx hLA;obtain⟨S1,hS1⟩: ∃S,S=(⟨(P0++Hm.nameBytes fs).toArray⟩:ByteArray):=⟨_,rfl⟩;rw[←hS1];have hs1z:S1.size≤2000:=by
       have hnl:=Js fs (fun f hf=>(HF.out.2.1 f hf).1);have h1:S1.size=P0.length+(Hm.nameBytes fs).length:=by rw[hS1];show(P0++Hm.nameBytes fs).toArray.size=_;simp
       have:=HP0.out.2.2;omega
      obtain⟨sE,hsE⟩: ∃sE,sE=(⟨(Ah EB).toArray⟩:ByteArray):=⟨_,rfl⟩;have hsEz:sE.size≤2000:=by rw[hsE];show(Ah EB).toArray.size≤_;rw[Alq,A1];omega
      rw[←hsE]at hfe;have HE2:Aside (S1=(⟨(P0++Hm.nameBytes fs).toArray⟩:ByteArray)∧EB=Bf (Az fs) tx.size∧sE=(⟨(Ah EB).toArray⟩:ByteArray)):=⟨hS1,hEB,hsE⟩;clear hS1 hEB hsE hke hkr htl;go_wp2_with fail;refine hen.mono ?_;rintro e w10 ⟨rfl,hk10⟩;have HK11:Aside (Apd w9 w10):=HKR.out.trans hk10 (fun _ _ h=>h);clear hk10 hen;go_wp2_with fail;refine(hfe _).mono ?_;rintro e w11 ⟨rfl,hk11⟩;have HK12:Aside (Apd w9 w11):=HK11.out.trans hk11 (fun _ _ h=>h);clear hk11 hfe HK11;go_wp2_with fail;refine(hle _).mono ?_;rintro e w12 ⟨rfl,hk12⟩;have HK13:Aside (Apd w9 w12):=HK12.out.trans hk12 (fun _ _ h=>h);clear hk12 hle HK12
      go_wp2_with(first
       |(refine wpList_store_row _ rfl 94 _ _ rfl w12.heap.size 94 Tryz.zeroCells94 LA rfl rfl (All w12 _) (by rw[hLs];exact Dp) (by rw[hLs,Si,A2,Alj]) hL1 ?_;intro w13 hw13 hk13)
       |(refine Amd rfl 94 _ rfl w12.heap.size rfl 94 LA (0,0) _ hw13 Tryz.underlying94 rfl (by rw[hLs];exact Dp) ?_))
      refine(hcd _).mono ?_;rintro e w14 ⟨⟨o,ok,hol,rfl,hca⟩,hk14⟩;obtain⟨bL,hbL⟩: ∃b,b=w12.heap.size:=⟨_,rfl⟩;have hrL:w14.heap[bL]?=some (.cells LA 94 (0,0)):=by rw[hbL];exact hk14.row hw13 id
      rw[←hbL];have hk1314:Apd w9 w14:=((HK13.out.alloc _).trans hk13 (fun j h1 h2=>by have:=HK13.out.size;omega)).trans hk14 (fun _ _ h=>h);have HK14:Aside (Apd w9 w14∧w9.heap.size≤bL):=⟨hk1314,by rw[hbL];exact HK13.out.size⟩;obtain⟨OA,hOA⟩: ∃A,A=(An o).toArray:=⟨_,rfl⟩;have hOs:OA.size=256:=by rw[hOA,Alq,Bh,hol]
      have hO1:OA.all (·.oneCell')=true:=by rw[hOA];exact Kh _
      have HOA:Aside (OA=(An o).toArray∧o.length=256∧Ch L o ok):=⟨hOA,hol,hca⟩;rw[←hOA];clear hOA hol hca hk14 hk13 hw13 hk1314 hbL hcd HK13
      go_wp2_with(first
       |(refine wpList_store_row _ rfl 113 _ _ rfl w14.heap.size 113 Tryz.zeroCells113 OA rfl rfl (All w14 _) (by rw[hOs];exact Cv) (by rw[hOs,Ou,Alq,Bh,Alj]) hO1 ?_;intro w15 hw15 hk15))
      have hbl14:bL<w14.heap.size:=Alw hrL;have hrL15:w15.heap[bL]?=some (.cells LA 94 (0,0)):=hk15.row (((Aa.refl (fun _=>False) w14).alloc _).row hrL id) (by omega);have HK15:Aside (Apd w9 w15∧w15.heap[bL]?=some (.cells LA 94 (0,0))∧w15.heap[w14.heap.size]?=some (.cells OA 113 (0,0))∧bL<w14.heap.size):=⟨(HK14.out.1.alloc _).trans hk15 (fun j h1 h2=>by have:=HK14.out.1.size;omega),hrL15,hw15,hbl14⟩;clear hk15 hw15 hrL15 hrL hbl14;generalize w14.heap.size=bO at*
      go_loopw[16,17,18] (fun vk vp vc wx=> ∃q:Nat,q≤256∧vc= .int .i64 q∧vk= .int .i64 ((Bi L q).length:Nat)∧vp= .string ⟨(Bo L (Bi L q)).toArray⟩∧Apd w15 wx) (fun _ _ vc _=>256-(intOf vc).toNat)
      case atStart=>exact⟨0,by omega,rfl,rfl,rfl,Aa.refl _ _⟩
      case round=>
       obtain⟨q,hq,rfl,rfl,rfl,hkr⟩:=hrel;have HKR3:Aside (Apd w15 wr):=hkr;have hle:=E0 L q
       by_cases hlq:q<256
       ·have hdec:decide ((q:Int)<256)=true:=Alb (by omega);have hqI:(q:Int)<256:=by omega
        have hcc:wr.cell? ⟨bL,q,none⟩=some (.int .i64 (L.getD q 0:Nat)):=by
         rw[Alc _ _ q _ _ _ (hkr.row HK15.out.2.1 id),HLA.out];simp[Ac,List.getD_eq_getElem?_getD,List.getElem?_eq_getElem (show q<L.length from by rw[HL.out.2.len];exact hlq)]
        have hx32:L.getD q 0≤32:=by
         have h1:=HL.out.2.short (UInt8.ofNat q);have h2:(UInt8.ofNat q).toNat=q:=by rw[Ame];omega
         rwa[Td,h2]at h1
        have HT2:Aside (Bi L (q+1)=Bi L q++if 0<L.getD q 0 then [UInt8.ofNat q]else []):=Nq L q;clear hkr
        by_cases hp:0<L.getD q 0
        ·obtain⟨x,hx⟩: ∃x,x=L.getD q 0:=⟨_,rfl⟩;rw[←hx]at hcc hx32 hp;obtain⟨cl,hcl⟩: ∃n,n=(Bi L q).length:=⟨_,rfl⟩;obtain⟨PS,hPS⟩: ∃S,S=(⟨(Bo L (Bi L q)).toArray⟩:ByteArray):=⟨_,rfl⟩;rw[←hPS];rw[←hcl]at hle⊢;have hpz:PS.size=2*cl:=by rw[hPS,hcl];show(Bo L (Bi L q)).toArray.size=_;rw[Alq,Jl]
         obtain⟨Q1,hQ1⟩: ∃B,B=(⟨(Hm.leBytes q 1).toArray⟩:ByteArray):=⟨_,rfl⟩;obtain⟨Q2,hQ2⟩: ∃B,B=(⟨(Hm.leBytes x 1).toArray⟩:ByteArray):=⟨_,rfl⟩;have hbq:=fun W=>F8 q 1 W (by omega) (by omega) (by omega);have hbx:=fun W=>F8 x 1 W (by omega) (by omega) (by omega);rw[←hQ1]at hbq;rw[←hQ2]at hbx;have hq1z:Q1.size=1:=by rw[hQ1];rfl
         have hq2z:Q2.size=1:=by rw[hQ2];rfl
         have hpx:decide (0<x)=true:=Alb hp;have HE3:Aside ((Bi L (q+1)).length=cl+1∧PS++Q1++Q2=(⟨(Bo L (Bi L (q+1))).toArray⟩:ByteArray)):=by
          have hp2:0<L.getD q 0:=by rw[←hx];exact hp
          have e:Bi L (q+1)=Bi L q++[UInt8.ofNat q]:=by rw[HT2.out,if_pos hp2]
          have h2:(UInt8.ofNat q).toNat=q:=by rw[Ame];omega
          refine⟨by rw[e,Alg,←hcl];rfl,?_⟩;rw[e,hPS,hQ1,hQ2,hx];apply An1;unfold Bo;rw[Ana];simp[ByteArray.data_append,Hm.leBytes,h2]
         clear hx hcl hPS hQ1 hQ2 HT2;go_wp2_with fail
         go_region_held(fun X=>X.cell? ⟨bL,q,none⟩=some (.int .i64 (x:Nat))) (first|exact k1|exact k0|exact hcc)
          (first
           |(go_at_call_of 41 (Value.int .i64 (q:Int));(refine(hbq _).mono ?_;rintro e w16 ⟨rfl,hk16⟩;have k0:=(hk16.cell (p:=⟨bL,q,none⟩) (Aly _ _ hcc) id).trans hcc))
           |(go_at_call_of 41 (Value.int .i64 (x:Int));(refine(hbx _).mono ?_;rintro e w17 ⟨rfl,hk17⟩;have k1:=(hk17.cell (p:=⟨bL,q,none⟩) (Aly _ _ k0) id).trans k0)))
         have HK17:Aside (Apd w15 w17):=(HKR3.out.drew.trans hk16 (fun _ _ h=>h)).trans hk17 (fun _ _ h=>h);clear hk16 hk17 k0 k1 hbq hbx hcc;go_wp2_with fail;go_roundw
         case rel=>exact⟨q+1,by omega,by go_num,by rw[HE3.out.1];go_num,by rw[HE3.out.2],HK17.out⟩
         case measure=>simp[intOf];omega
         case roundEnd=>exact⟨⟨q+1,by omega,by go_num,by rw[HE3.out.1];go_num,by rw[HE3.out.2],(HKR3.out.drew.trans hk16 (fun _ _ h=>h)).trans hk17 (fun _ _ h=>h)⟩,by simp[intOf];omega⟩
        ·have hx0:L.getD q 0=0:=by omega
         have HE3:Aside (Bi L (q+1)=Bi L q):=by show _=_;rw[HT2.out,if_neg hp,Am4]
         rw[hx0]at hcc;clear hp hx0 HT2 hx32;obtain⟨cl,hcl⟩: ∃n,n=(Bi L q).length:=⟨_,rfl⟩;rw[←hcl]at hle⊢;have HCL:Aside (cl=(Bi L q).length):=hcl;clear hcl;go_wp2_with fail;go_roundw
         case rel=>exact⟨q+1,by omega,by go_num,by rw[HE3.out,HCL.out],by rw[HE3.out],HKR3.out⟩
         case measure=>simp[intOf];omega
       ·have hqe:q=256:=by omega
        have hdec:decide ((q:Int)<256)=false:=Ald (by omega);have HCT:Aside (Bi L q=Ai L):=by show _=_;rw[hqe];rfl
        rw[HCT.out]at hle⊢;obtain⟨cl,hcl⟩: ∃n,n=(Ai L).length:=⟨_,rfl⟩;obtain⟨PS,hPS⟩: ∃S,S=(⟨(Bo L (Ai L)).toArray⟩:ByteArray):=⟨_,rfl⟩;rw[←hPS];rw[←hcl]at hle⊢;have hpz:PS.size=2*cl:=by rw[hPS,hcl];show(Bo L (Ai L)).toArray.size=_;rw[Alq,Jl]
        obtain⟨KB,hKB⟩: ∃B,B=(⟨(Hm.leBytes cl 2).toArray⟩:ByteArray):=⟨_,rfl⟩;have hbk:=fun W=>F8 cl 2 W (by omega) (by omega) (by omega);rw[←hKB]at hbk;have hkz:KB.size=2:=by rw[hKB];rfl
        have htl:tx.size=(Ae fs).length:=by rw[←HTD.out.1];simp
        have hperm:=H4.out.1.perm;obtain⟨col,hcol⟩: ∃col,col=Ap (Ae fs) ps:=⟨_,rfl⟩;rw[←hcol];have hcz:col.length=tx.size:=by rw[hcol,F7 hperm,htl]
        have hcm: ∀b∈col,b∈Af L:=fun b hb=>by
         rw[HL.out.1];rw[hcol]at hb;exact(Nx _ (by omega) b).2 (Mr hperm b hb)
        obtain⟨CS,hCS⟩: ∃C,C=(⟨col.toArray⟩:ByteArray):=⟨_,rfl⟩;have hCSl:CS.data.toList=col:=by rw[hCS]
        have hEL:Hm.Ends 32 (Hm.lnB L) (Af L) N:=by rw[HL.out.1];exact HF.out.2.2.2.2.1
        have htr:=fun W=>Aac CS L o ok N W HL.out.2 hEL HOA.out.2.1 HOA.out.2.2 (by rw[hCS];show col.toArray.size≤_;rw[Alq];omega) (by rw[hCSl];exact hcm);rw[hCSl,←HOA.out.1]at htr;obtain⟨TB,hTB⟩: ∃T,T=Dt L N col:=⟨_,rfl⟩;rw[←hTB]at htr;have hTBl:TB.length≤2000000:=by
         rw[hTB];unfold Dt;rw[Al6];have h1:=Mc (Hm.lnB L) (Bm L) (Al (Hm.lnB L) (Af L) (2*N)).1 col N;have h3:N≤255:=by have h4:=hEL.len;have h5:=hEL.few (2*N) (Ale _);omega
         have h2:N*col.length≤255*6000:=Amk h3 (by omega);omega
        have hft:=fun W=>M4 TB W (by omega);obtain⟨TT,hTT⟩: ∃S,S=(⟨(Ad TB).toArray⟩:ByteArray):=⟨_,rfl⟩;obtain⟨sT,hsT⟩: ∃S,S=(⟨(Ah TB).toArray⟩:ByteArray):=⟨_,rfl⟩;rw[←hTT]at htr hft;rw[←hsT]at hft;have hsTz:sT.size≤260000:=by rw[hsT];show(Ah TB).toArray.size≤_;rw[Alq,A1];omega
        have hsm:=fun W (h:Jn W (some ⟨gp,0,none⟩) ps)=>X4 (some ⟨gp,0,none⟩) cp ps W h (by omega) (by omega) (fun p hp=>by have:=H4.out.2.2.2 p hp;omega);obtain⟨SB,hSB⟩: ∃SB,SB=Da ps:=⟨_,rfl⟩;have hSBl:SB.length≤100000:=by
         rw[hSB,Kf (n:=tx.size) (by rw[htl];exact hperm)];have hbl:Lib.bitLen (tx.size/8)≤10:=Lib.bitLen_le _ 10 (by omega) (by omega);have:(tx.size/8+1)*Lib.bitLen (tx.size/8)≤751*10:=Amk (by omega) hbl;omega
        rw[←hSB]at hsm;have hfs:=fun W=>M4 SB W (by omega);obtain⟨ST,hST⟩: ∃S,S=(⟨(Ad SB).toArray⟩:ByteArray):=⟨_,rfl⟩;obtain⟨sS,hsS⟩: ∃S,S=(⟨(Ah SB).toArray⟩:ByteArray):=⟨_,rfl⟩;rw[←hST]at hsm hfs;rw[←hsS]at hfs;have hsSz:sS.size≤20000:=by rw[hsS];show(Ah SB).toArray.size≤_;rw[Alq,A1];omega
        have HX:Aside (∀X,Apd wr X→(X.ownsRow w4.heap.size 5 1 (.slice ab col.length cb) col.length (Ag col)∧X.heap[bO]?=some (.cells OA 113 (0,0)))∧Jn X (some ⟨gp,0,none⟩) ps):=fun X hk=>by
         have h1:Apd w9 X:=(HK15.out.1.trans HKR3.out (fun _ _ h=>h)).trans hk (fun _ _ h=>h);have h2:Apd w15 X:=HKR3.out.trans hk (fun _ _ h=>h);have hop:=h1.owns HK10.out.2.2.2.2 (fun _ _ h=>h);refine⟨⟨by rw[hcol];exact h1.owns HK10.out.2.2.2.1 (fun _ _ h=>h),h2.row HK15.out.2.2.1 id⟩,fun i hi=>⟨gp,0,rfl,(hop.lt gp rfl).2,?_⟩⟩;rw[Al7,hop.cellAt i (by omega)];simp[Ac,hi]
        have HT:Aside (S1++sE++KB++PS++sT++sS=(⟨(D0 fs ps (Dt (Hm.lens (Ae fs)) N (Ap (Ae fs) ps))).toArray⟩:ByteArray)):=by
         show _=_;rw[HE2.out.1,HE2.out.2.2,HE2.out.2.1,hKB,hPS,hsT,hsS,hTB,hSB,hcl,hcol,HP0.out.2.1,HL.out.1];unfold D0;apply An1;rw[←htl,HRT.out];simp[ByteArray.data_append]
        simp only[hpl]at hsm;have HPL2:Aside (ps.length=tx.size+1∧col.length=tx.size):=⟨hpl,hcz⟩;have HFT:Aside _:=hft;have HFS:Aside _:=hfs;have HSM:Aside _:=hsm;have HTR:Aside _:=htr;have HBK:Aside _:=hbk;have hCE:(⟨col.toArray⟩:ByteArray)=CS:=hCS.symm;clear hqe hcl hPS hKB htl hperm hcol hcm hCS hCSl hEL htr hTB hTBl hft hTT hsT hsm hSB hSBl hfs hST hsS hbk hpl hcz;go_wp2_with fail;refine Ank (S:=fun X=>X.ownsRow w4.heap.size 5 1 (.slice ab col.length cb) col.length (Ag col)∧X.heap[bO]?=some (.cells OA 113 (0,0))) (by kernel_rfl) ?_ (fun hHeld=>?_)
        ·exact(HX.out _ (Aa.refl _ wr).drew).1
        refine wpAnyH_take (i := 0) (oi := { dst := some 118, op := Op.move (Operand.tmp 11), type := 9, pos := "hoardref.go:377", after := #[], guard := none }) (v := ?_) rfl (by kernel_rfl) (by kernel_rfl) (by kernel_rfl) (fun _ _ _ h => h) (Or.inl ⟨by kernel_rfl, ?_⟩) (by assumption) ?_
        rotate_left
        ·intro X hSw;try dsimp only at hSw
         go_simp
         first|(with_reducible rfl)|(rw[if_neg (by omega)])
        simp only[Act.put,Ak8,Ak9,Ala]
        refine wpAnyH_take (i := 1) (oi := { dst := some 119, op := Op.move (Operand.tmp 16), type := 3, pos := "hoardref.go:377", after := #[], guard := none }) (v := ?_) rfl (by kernel_rfl) (by kernel_rfl) (by kernel_rfl) (fun _ _ _ h => h) (Or.inl ⟨by kernel_rfl, ?_⟩) (by assumption) ?_
        rotate_left
        ·intro X hSw;try dsimp only at hSw
         go_simp
         first|(with_reducible rfl)|(rw[if_neg (by omega)])
        simp only[Act.put,Ak8,Ak9,Ala]
        refine wpAnyH_take (i := 4) (oi := { dst := some 122, op := Op.move (Operand.tmp 17), type := 9, pos := "hoardref.go:377", after := #[], guard := none }) (v := ?_) rfl (by kernel_rfl) (by kernel_rfl) (by kernel_rfl) (fun _ _ _ h => h) (Or.inl ⟨by kernel_rfl, ?_⟩) (by assumption) ?_
        rotate_left
        ·intro X hSw;try dsimp only at hSw
         go_simp
         first|(with_reducible rfl)|(rw[if_neg (by omega)])
        simp only[Act.put,Ak8,Ak9,Ala]
        refine wpAnyH_take (i := 6) (oi := { dst := some 124, op := Op.move (Operand.tmp 9), type := 79, pos := "hoardref.go:377", after := #[], guard := none }) (v := ?_) rfl (by kernel_rfl) (by kernel_rfl) (by kernel_rfl) (fun _ _ _ h => h) (Or.inl ⟨by kernel_rfl, ?_⟩) (by assumption) ?_
        rotate_left
        ·intro X hSw;try dsimp only at hSw
         go_simp
         first|(with_reducible rfl)|(rw[if_neg (by omega)])
        simp only[Act.put,Ak8,Ak9,Ala]
        refine wpAnyH_take (i := 7) (oi := { dst := some 125, op := Op.convert 79 9 (Operand.tmp 124), type := 9, pos := "hoardref.go:377", after := #[{ on := 6, ground := Ground.data }], guard := none }) (v := .string CS) rfl (by kernel_rfl) (by kernel_rfl) (by kernel_rfl) (fun _ _ _ h => h) (Or.inl ⟨by kernel_rfl, fun X hX => Yg X 79 9 (.tmp 124) rfl _ _ rfl ((Gr hX.1).trans (by rw [hCE]))⟩) (by assumption) ?_
        simp only[Act.put,Ak8,Ak9,Ala]
        refine wpAnyH_take (i := 8) (oi := { dst := some 126, op := Op.load 113 (Operand.tmp 14), type := 113, pos := "hoardref.go:377", after := #[], guard := none }) (v := .agg OA) rfl (by kernel_rfl) (by kernel_rfl) (by kernel_rfl) (fun _ _ _ h => h) (Or.inl ⟨by kernel_rfl, fun X hX => Ev X 113 (.tmp 14) rfl bO rfl 113 OA (0, 0) _ hX.2 Tryz.underlying113 rfl (by rw [hOs]; exact Cv)⟩) (by assumption) ?_
        simp only[Act.put,Ak8,Ak9,Ala]
        refine wpAnyH_take (i := 12) (oi := { dst := some 130, op := Op.move (Operand.tmp 7), type := 64, pos := "hoardref.go:377", after := #[], guard := none }) (v := ?_) rfl (by kernel_rfl) (by kernel_rfl) (by kernel_rfl) (fun _ _ _ h => h) (Or.inl ⟨by kernel_rfl, ?_⟩) (by assumption) ?_
        rotate_left
        ·intro X hSw;try dsimp only at hSw
         go_simp
         first|(with_reducible rfl)|(rw[if_neg (by omega)])
        simp only[Act.put,Ak8,Ak9,Ala];refine Al0 (rs:=[2]) (by kernel_rfl) (by simp) ?_
        refine AllReadyH.cons (o := { dst := some 120, op := Op.call { callee := Callee.value (Operand.func 41), args := #[Operand.tmp 119, Operand.const (Value.int IntKind.i64 2)], argTypes := #[3, 3] }, type := 9, pos := "hoardref.go:377", after := #[{ on := 1, ground := Ground.data }], guard := none }) rfl (fun K hK => ?_) AllReadyH.nil
        go_simp;refine(HBK.out _).mono ?_;rintro e wa ⟨rfl,hk1⟩;have HKa1:Aside (Apd wr wa):=(Aa.refl _ wr).drew.trans hk1 (fun _ _ h=>h);refine hK.out _ _ (HX.out _ HKa1.out).1 (fun hHeld=>?_);clear hK K hk1
        refine wpAnyH_take (i := 3) (oi := { dst := some 121, op := Op.binOp BinOp.add 9 (Operand.tmp 118) (Operand.tmp 120) 9, type := 9, pos := "hoardref.go:377", after := #[{ on := 0, ground := Ground.data }, { on := 2, ground := Ground.data }], guard := none }) (v := ?_) rfl (by kernel_rfl) (by kernel_rfl) (by kernel_rfl) (fun _ _ _ h => h) (Or.inl ⟨by kernel_rfl, ?_⟩) (by assumption) ?_
        rotate_left
        ·intro X hSw;try dsimp only at hSw
         go_simp
         first|(with_reducible rfl)|(rw[if_neg (by omega)])
        simp only[Act.put,Ak8,Ak9,Ala]
        refine wpAnyH_take (i := 5) (oi := { dst := some 123, op := Op.binOp BinOp.add 9 (Operand.tmp 121) (Operand.tmp 122) 9, type := 9, pos := "hoardref.go:377", after := #[{ on := 3, ground := Ground.data }, { on := 4, ground := Ground.data }], guard := none }) (v := ?_) rfl (by kernel_rfl) (by kernel_rfl) (by kernel_rfl) (fun _ _ _ h => h) (Or.inl ⟨by kernel_rfl, ?_⟩) (by assumption) ?_
        rotate_left
        ·intro X hSw;try dsimp only at hSw
         go_simp
         first|(with_reducible rfl)|(rw[if_neg (by omega)])
        simp only[Act.put,Ak8,Ak9,Ala];refine Al0 (rs:=[9]) (by kernel_rfl) (by simp) ?_
        refine AllReadyH.cons (o := { dst := some 127, op := Op.call { callee := Callee.value (Operand.func 46), args := #[Operand.tmp 125, Operand.tmp 126], argTypes := #[9, 113] }, type := 9, pos := "hoardref.go:377", after := #[{ on := 7, ground := Ground.data }, { on := 8, ground := Ground.data }, { on := 2, ground := Ground.chain }], guard := none }) rfl (fun K hK => ?_) AllReadyH.nil
        go_simp;refine(HTR.out _).mono ?_;rintro e wb ⟨rfl,hk2⟩;have HKa2:Aside (Apd wr wb):=HKa1.out.trans hk2 (fun _ _ h=>h);refine hK.out _ _ (HX.out _ HKa2.out).1 (fun hHeld=>?_);clear hK K hk2;refine Al0 (rs:=[10]) (by kernel_rfl) (by simp) ?_
        refine AllReadyH.cons (o := { dst := some 128, op := Op.call { callee := Callee.value (Operand.func 42), args := #[Operand.tmp 127], argTypes := #[9] }, type := 9, pos := "hoardref.go:377", after := #[{ on := 9, ground := Ground.data }, { on := 9, ground := Ground.chain }], guard := none }) rfl (fun K hK => ?_) AllReadyH.nil
        go_simp;refine(HFT.out _).mono ?_;rintro e wc ⟨rfl,hk3⟩;have HKa3:Aside (Apd wr wc):=HKa2.out.trans hk3 (fun _ _ h=>h);refine hK.out _ _ (HX.out _ HKa3.out).1 (fun hHeld=>?_);clear hK K hk3
        refine wpAnyH_take (i := 11) (oi := { dst := some 129, op := Op.binOp BinOp.add 9 (Operand.tmp 123) (Operand.tmp 128) 9, type := 9, pos := "hoardref.go:377", after := #[{ on := 5, ground := Ground.data }, { on := 10, ground := Ground.data }], guard := none }) (v := ?_) rfl (by kernel_rfl) (by kernel_rfl) (by kernel_rfl) (fun _ _ _ h => h) (Or.inl ⟨by kernel_rfl, ?_⟩) (by assumption) ?_
        rotate_left
        ·intro X hSw;try dsimp only at hSw
         go_simp
         first|(with_reducible rfl)|(rw[if_neg (by omega)])
        simp only[Act.put,Ak8,Ak9,Ala];refine Al0 (rs:=[13]) (by kernel_rfl) (by simp) ?_
        refine AllReadyH.cons (o := { dst := some 131, op := Op.call { callee := Callee.value (Operand.func 47), args := #[Operand.tmp 130], argTypes := #[64] }, type := 9, pos := "hoardref.go:377", after := #[{ on := 12, ground := Ground.data }, { on := 10, ground := Ground.chain }], guard := none }) rfl (fun K hK => ?_) AllReadyH.nil
        go_simp;refine(HSM.out _ (HX.out _ HKa3.out).2).mono ?_;rintro e wd ⟨rfl,hk4⟩;obtain⟨nq,rfl⟩:=hk4;have HKa4:Aside (Apd wr (wc.drewN nq)):=HKa3.out.drewN nq;refine hK.out _ _ (HX.out _ HKa4.out).1 (fun hHeld=>?_);clear hK K;refine Al0 (rs:=[14]) (by kernel_rfl) (by simp) ?_
        refine AllReadyH.cons (o := { dst := some 132, op := Op.call { callee := Callee.value (Operand.func 42), args := #[Operand.tmp 131], argTypes := #[9] }, type := 9, pos := "hoardref.go:377", after := #[{ on := 13, ground := Ground.data }, { on := 13, ground := Ground.chain }], guard := none }) rfl (fun K hK => ?_) AllReadyH.nil
        go_simp;refine(HFS.out _).mono ?_;rintro e we ⟨rfl,hk5⟩;have HKa5:Aside (Apd wr we):=HKa4.out.trans hk5 (fun _ _ h=>h);refine hK.out _ _ (HX.out _ HKa5.out).1 (fun hHeld=>?_);clear hK K hk5
        refine wpAnyH_take (i := 15) (oi := { dst := some 133, op := Op.binOp BinOp.add 9 (Operand.tmp 129) (Operand.tmp 132) 9, type := 9, pos := "hoardref.go:377", after := #[{ on := 11, ground := Ground.data }, { on := 14, ground := Ground.data }], guard := none }) (v := ?_) rfl (by kernel_rfl) (by kernel_rfl) (by kernel_rfl) (fun _ _ _ h => h) (Or.inl ⟨by kernel_rfl, ?_⟩) (by assumption) ?_
        rotate_left
        ·intro X hSw;try dsimp only at hSw
         go_simp
         first|(with_reducible rfl)|(rw[if_neg (by omega)])
        simp only[Act.put,Ak8,Ak9,Ala];refine Al0 (rs:=[16]) (by kernel_rfl) (by simp) ?_
        refine AllReadyH.cons (o := { dst := some 11, op := Op.assign (Operand.tmp 133), type := 9, pos := "hoardref.go:377", after := #[{ on := 15, ground := Ground.data }, { on := 14, ground := Ground.chain }, { on := 0, ground := Ground.phase }, { on := 1, ground := Ground.phase }, { on := 2, ground := Ground.phase }, { on := 3, ground := Ground.phase }, { on := 4, ground := Ground.phase }, { on := 5, ground := Ground.phase }, { on := 6, ground := Ground.phase }, { on := 7, ground := Ground.phase }, { on := 8, ground := Ground.phase }, { on := 9, ground := Ground.phase }, { on := 10, ground := Ground.phase }, { on := 11, ground := Ground.phase }, { on := 12, ground := Ground.phase }, { on := 13, ground := Ground.phase }, { on := 14, ground := Ground.phase }, { on := 15, ground := Ground.phase }], guard := none }) rfl (fun K hK => ?_) AllReadyH.nil
        go_simp;refine hK.out _ _ (HX.out _ HKa5.out).1 (fun hHeld=>?_);clear hK K;refine Anp (by kernel_rfl) ?_ _;clear hHeld HX HFT HFS HSM HTR HBK;rw[HT.out];obtain⟨BD,hBD⟩: ∃l,l=D0 fs ps (Dt (Hm.lens (Ae fs)) N (Ap (Ae fs) ps)):=⟨_,rfl⟩;have hbl:BD.length≤1000000:=by
         have h1:(S1++sE++KB++PS++sT++sS).size=BD.length:=by rw[HT.out,←hBD];show BD.toArray.size=_;simp
         simp only[ByteArray.size_append]at h1;omega
        rw[←hBD];have hsu:=fun W=>Afc ⟨BD.toArray⟩ W (by show BD.toArray.size≤_;rw[Alq];exact hbl);have hcr:Hm.crc BD≤4294967296:=by have:=Vj BD;omega
        have hb4:=fun W=>F8 (Hm.crc BD) 4 W (by omega) (by omega) hcr;obtain⟨BA,hBA⟩: ∃B,B=(⟨BD.toArray⟩:ByteArray):=⟨_,rfl⟩;have hBl:BA.data.toList=BD:=by rw[hBA]
        have hBz:BA.size≤1000000:=by rw[hBA];show BD.toArray.size≤_;rw[Alq];exact hbl
        rw[←hBA]at hsu⊢;rw[hBl]at hsu;obtain⟨C4,hC4⟩: ∃B,B=(⟨(Hm.leBytes (Hm.crc BD) 4).toArray⟩:ByteArray):=⟨_,rfl⟩;rw[←hC4]at hb4;have hcz4:C4.size=4:=by rw[hC4];rfl
        have HEND:Aside (BA++C4=(⟨(Kr fs ps (Dt (Hm.lens (Ae fs)) N (Ap (Ae fs) ps))).toArray⟩:ByteArray)):=by
         show _=_;unfold Kr;rw[←hBD,hBA,hC4];apply An1;simp[ByteArray.data_append]
        clear hBA hBl hC4 hBD hbl HT;generalize Hm.crc BD=cr at*;go_wp2_with fail;refine(hsu _).mono ?_;rintro e wf ⟨rfl,rfl⟩;clear hsu;go_wp2_with fail;refine(hb4 _).mono ?_;rintro e wg ⟨rfl,hkg⟩;have HKG:Aside (Apd w wg):=by
         have h1:=HK10.out.1.trans HK15.out.1 (fun _ _ h=>h);have h2:=(h1.trans HKR3.out (fun _ _ h=>h)).trans HKa5.out (fun _ _ h=>h);exact h2.trans hkg (fun _ _ h=>h)
        clear hb4 hkg HKa5;go_wp2_with fail;go_ret2;exact⟨.inr ⟨HF.out.2.2.2.2.2,_,⟨ps,N,H4.out.1,HF.out.2.2.2.1,HF.out.2.2.2.2.1,rfl⟩,by rw[←HEND.out];rfl⟩,HKG.out⟩
 ·have hb:(Bl fs !=0)=true:=by rw[bne_iff_ne];exact he
  have HE:Aside (Bl fs≠0):=he;clear hf hsz he hl;obtain⟨e0,he0⟩: ∃e0,e0=Bl fs:=⟨_,rfl⟩;rw[←he0]at hck hb;have HE0:Aside (e0=Bl fs):=he0;clear he0
  go_enter Tryz.func16,Tryz.ntmps16
  go_wp2_with(go_at_call 38;refine hck.mono ?_;rintro e w2 ⟨rfl,hk⟩)
  go_ret2;exact⟨.inl ⟨HE.out,by rw[←HE0.out];rfl⟩,hk⟩
end Go.Proofs.YtegnkfdbmmndaaaGreat
