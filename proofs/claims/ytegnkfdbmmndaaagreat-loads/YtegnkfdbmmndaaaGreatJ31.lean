import Derived.Test.YtegnkfdbmmndaaaGreatJ00
import Derived.Test.YtegnkfdbmmndaaaGreatJ30

namespace Go.Proofs.YtegnkfdbmmndaaaGreat
open Hm
open Go.RowKit
namespace Hm
theorem Uk(s:List UInt8)(fr n:Nat)(hd:List (List Bool))(i:Nat)(h:G3 s fr n hd i=none): ∀m,G3 s fr n hd (i+m)=none
 |0=>h
 |m+1=>by
  rw[←Anc,G3,Uk s fr n hd i h m]
theorem Ae0(hd:List (List Bool))(i ones C1:Nat)(sz:List Nat)(b:Nat)(h1:ones≤b)(h0:C1≤b)(hz: ∀x∈sz,x≤b): ∀j,∀x∈E3 hd i ones C1 sz j,x≤b
 |0=>hz
 |j+1=>by
  have ih:=Ae0 hd i ones C1 sz b h1 h0 hz j;intro x hx;rw[E3]at hx;split at hx
  ·rcases An6 hx with h|h
   ·exact ih x h
   ·omega
  ·split at hx
   ·rcases An6 hx with h|h
    ·exact ih x h
    ·omega
   ·exact ih x hx
theorem Ul(x y:List Bool)(b:Bool):((⟨(Ad x).toArray⟩:ByteArray).toList==((⟨(Ad y).toArray⟩:ByteArray)++⟨#[if b then 49 else 48]⟩).toList)=decide (x=y++[b]):=by
 have e:(⟨(Ad y).toArray⟩:ByteArray)++⟨#[if b then 49 else 48]⟩=⟨(Ad (y++[b])).toArray⟩:=by
  apply An1;rw[An5];simp[Ad]
 rw[e,Amq,Amq]
 by_cases h:x=y++[b]
 ·rw[h,Alb rfl,Aoi]
 ·rw[Ald h,Al5];exact fun e2=>h (Lt _ _ e2)
theorem Ags(s:List UInt8)(fr n:Nat)(h:(Cr s (fr,false) n).2.2=false):fr+(n+7)/8≤s.length:=by
 unfold Cr at h;split at h
 ·rename_i hc;rw[hc]at h;cases h
 ·rename_i hc;apply Nat.le_of_not_lt;intro hlt;apply hc;unfold D4;rw[if_pos (.inr hlt)]
end Hm
structure Ef(w wx:World)(p b ch gr gs:Nat)(ah:Option Addr)(s:List UInt8)(st:Hm.RS)(o hd rows:List (List Bool))(sz:List Nat):Prop where
 own:wx.ownsRow b 9 1 (.slice ah hd.length ch) hd.length (An hd)
 tr:TR wx w.heap.size o
 kept:Aa (fun j=>j=p) w wx
 rdr:Cg wx p s st
 rows:wx.heap[gr]?=some (.cells (An rows).toArray 9 (0,0))
 sizes:wx.heap[gs]?=some (.cells (Ac sz).toArray 3 (0,0))
 ord:p<w.heap.size∧w.heap.size<gr∧gr<gs
 apart: ∀k,(Value.slice ah hd.length ch).ownBlock=some k→w.heap.size<k∧k<gr
theorem Ef.setSz{w wx:World}{p b ch gr gs:Nat}{ah:Option Addr}{s:List UInt8}{st:Hm.RS}{o hd rows:List (List Bool)}{sz:List Nat}(h:Ef w wx p b ch gr gs ah s st o hd rows sz)(i x:Nat):
  Ef w (wx.setCell ⟨gs,i,none⟩ (.int .i64 (x:Nat))) p b ch gr gs ah s st o hd rows (sz.set i x):=by
 have ho:=h.ord;have hk:Aa (fun j=>j=gs) wx (wx.setCell ⟨gs,i,none⟩ (.int .i64 (x:Nat))):=(Aa.refl (fun j=>j=gs) wx).setCell (p:=⟨gs,i,none⟩) (.inr rfl) _;refine⟨hk.owns h.own (fun k hk e=>by have:=h.apart k hk;omega),hk.row h.tr (by omega),h.kept.setCell (p:=⟨gs,i,none⟩) (.inl (by show w.heap.size≤gs;omega)) _,hk.row h.rdr (by omega),hk.row h.rows (by omega),?_,ho,h.apart⟩;rw[Alf wx gs i _ _ _ h.sizes];congr 2;simp[Ac,List.map_set]
theorem Ef.setRow{w wx:World}{p b ch gr gs:Nat}{ah:Option Addr}{s:List UInt8}{st:Hm.RS}{o hd rows:List (List Bool)}{sz:List Nat}(h:Ef w wx p b ch gr gs ah s st o hd rows sz)(i:Nat)(x:List Bool):
  Ef w (wx.setCell ⟨gr,i,none⟩ (.string ⟨(Ad x).toArray⟩)) p b ch gr gs ah s st o hd (rows.set i x) sz:=by
 have ho:=h.ord;have hk:Aa (fun j=>j=gr) wx (wx.setCell ⟨gr,i,none⟩ (.string ⟨(Ad x).toArray⟩)):=(Aa.refl (fun j=>j=gr) wx).setCell (p:=⟨gr,i,none⟩) (.inr rfl) _;refine⟨hk.owns h.own (fun k hk e=>by have:=h.apart k hk;omega),hk.row h.tr (by omega),h.kept.setCell (p:=⟨gr,i,none⟩) (.inl (by show w.heap.size≤gr;omega)) _,hk.row h.rdr (by omega),?_,hk.row h.sizes (by omega),ho,h.apart⟩;rw[Alf wx gr i _ _ _ h.rows];congr 2;simp[An,List.map_set]
theorem Ef.drew{w wx:World}{p b ch gr gs:Nat}{ah:Option Addr}{s:List UInt8}{st:Hm.RS}{o hd rows:List (List Bool)}{sz:List Nat}(h:Ef w wx p b ch gr gs ah s st o hd rows sz):
  Ef w wx.drew p b ch gr gs ah s st o hd rows sz:=⟨h.own,h.tr,h.kept.drew,h.rdr,h.rows,h.sizes,h.ord,h.apart⟩
theorem Ef.call{w wx wy:World}{p b ch gr gs:Nat}{ah:Option Addr}{s:List UInt8}{st st':Hm.RS}{o hd rows:List (List Bool)}{sz:List Nat}(h:Ef w wx p b ch gr gs ah s st o hd rows sz)(hk:Aa (fun j=>j=p) wx wy)(hr:Cg wy p s st'):
  Ef w wy p b ch gr gs ah s st' o hd rows sz:=by
 have ho:=h.ord;exact⟨hk.owns h.own (fun k hk e=>by have:=h.apart k hk;omega),hk.row h.tr (by omega),h.kept.trans hk (fun _ _ h=>h),hr,hk.row h.rows (by omega),hk.row h.sizes (by omega),ho,h.apart⟩
set_option maxRecDepth 20000 in
set_option maxHeartbeats 2000000 in
theorem Aec(p n fr:Nat)(o:List (List Bool))(s:List UInt8)(w:World)(h:Cg w p s (fr,false))(hol:o.length=256)(hox: ∀x∈o,x.length≤255)(hn:n≤6000)(hst:fr≤s.length)(hs:s.length≤30000):
  Calls Tryz.prog 77 #[.pointer (some ⟨p,0,none⟩),.int .i64 n,.agg (An o).toArray] w fun e w'=> ∃(hd:List (List Bool)) (a:Nat),Er (Hm.cdL o) hd∧Aa (fun j=>j=p) w w'∧
   ((Ji s fr n hd o=none∧e= .returned (.string ⟨#[]⟩)∧Cg w' p s (a,true))∨ ∃t,Ji s fr n hd o=some t∧e= .returned (.string ⟨t.toArray⟩)∧Cg w' p s (a,false)):=by
 obtain⟨i0,hi,hz0,hz1,hz2⟩:=Amz Jo;obtain⟨j0,hj,hy0,hy1,hy2⟩:=Amz Acj;obtain⟨k0,hk,hx0,hx1,hx2⟩:=Amz Ot;have hpw:p<w.heap.size:=Alw h;have HOL:Hid (o.length=256):=hol;have HHE:Hid _:=fun W=>Sn o W hol hox;have HRD:Hid (Cg w p s (fr,false)):=h;have HOX:Hid (∀x∈o,x.length≤255):=hox;clear hox hol h
 go_enter Tryz.func77,Tryz.ntmps77
 go_upto_region 1 with fail
 have g0:TR (w.alloc (.cells (An o).toArray 113)) w.heap.size o:=All w _;have hk0:Apd w (w.alloc (.cells (An o).toArray 113)):=(Aa.refl _ _).alloc _;generalize w.alloc (.cells (An o).toArray 113)=W at*;have HW:Hid (TR W w.heap.size o∧Apd w W):=⟨g0,hk0⟩;obtain⟨TT,hTT⟩: ∃a,a=(An o).toArray:=⟨_,rfl⟩;have hts:TT.size=256:=by rw[hTT,Alq,Bh];exact HOL.out
 have hrow:W.heap[w.heap.size]?=some (.cells TT 113 (0,0)):=by rw[hTT];exact g0
 have hhe:=HHE.out W;rw[←hTT]at hhe⊢;clear g0 hk0 hTT
 go_wp2_with(first
  |(refine Amd rfl 113 _ rfl w.heap.size rfl 113 TT (0,0) _ hrow Tryz.underlying113 rfl (by rw[hts];exact Cv) ?_))
 refine hhe.mono ?_;rintro e W2 ⟨v,hd,rfl,hho,hhl,hown,hkh⟩;obtain⟨ah,ch,hv,_⟩:=Ay hown;subst hv;have hk2:Apd w W2:=HW.out.2.trans hkh (fun _ _ h=>h);have H2:Hid (Er (Hm.cdL o) hd∧W2.ownsRow W.heap.size 9 1 (.slice ah hd.length ch) hd.length (An hd)∧TR W2 w.heap.size o∧Apd w W2∧Cg W2 p s (fr,false)):=⟨hho,hown,HW.out.1.kept hkh id,hk2,hk2.row HRD.out id⟩;have hW0:w.heap.size<W.heap.size:=Alw HW.out.1;have hW2:w.heap.size<W2.heap.size:=Amp hW0 hkh.size;have hap: ∀k,(Value.slice ah hd.length ch).ownBlock=some k→w.heap.size<k∧k<W2.heap.size:=fun k hk=>by have:=hown.lt k hk;omega
 clear hho hown hkh hhe hrow hts hk2 HRD HW HHE;go_upto_region 3 with(at_make;refine Ane _ rfl _ _ 26 rfl W2.heap.size 9 j0 (.string ⟨#[]⟩) 1 Tryz.underlying26 hj hy0 hy1 .i64 .i64 _ _ hd.length rfl rfl rfl rfl (by rw[hy2];omega) (by unfold maxLen;omega) (Ale _) ?_;intro w3 ho3 hg3)
 have hk3:Apd W2 w3:=(Aa.refl _ _).grown hg3 (fun k hk=>by cases hk);have hr3:w3.heap[W2.heap.size]?=some (.cells (An (List.replicate hd.length [])).toArray 9 (0,0)):=by
  rw[An3,show(Value.string ⟨#[]⟩).cells= #[Value.string ⟨#[]⟩]from rfl,An7]at ho3;rcases ho3.2 with⟨h1,_⟩|⟨g2,cap,cur,h1,_,hg,_,_,hs,ht⟩
  ·cases h1
  ·cases h1;have e:cur.toList.take (hd.length*1)=cur.toList:=Al8 (by simp;omega);have e2:cur=(An (List.replicate hd.length [])).toArray:=by
    apply Am6;rw[←e,ht];simp[An,Ad]
   rw[hg,e2]
 have H3:Hid (Apd W2 w3∧w3.heap[W2.heap.size]?=some (.cells (An (List.replicate hd.length [])).toArray 9 (0,0))):=⟨hk3,hr3⟩;have hW3:=Alw hr3;clear ho3 hg3 hk3 hr3;go_upto_region 4 with(at_make;refine Ane _ rfl _ _ 64 rfl w3.heap.size 3 i0 (.int .i64 0) 1 Tryz.underlying64 hi hz0 hz1 .i64 .i64 _ _ hd.length rfl rfl rfl rfl (by rw[hz2];omega) (by unfold maxLen;omega) (Ale _) ?_;intro w4 ho4 hg4)
 have hk4:Apd w3 w4:=(Aa.refl _ _).grown hg4 (fun k hk=>by cases hk);have hr4:w4.heap[w3.heap.size]?=some (.cells (Ac (List.replicate hd.length 0)).toArray 3 (0,0)):=by
  rw[An3,show(Value.int .i64 0).cells= #[Value.int .i64 0]from rfl,An7]at ho4;rcases ho4.2 with⟨h1,_⟩|⟨g2,cap,cur,h1,_,hg,_,_,hs,ht⟩
  ·cases h1
  ·cases h1;have e:cur.toList.take (hd.length*1)=cur.toList:=Al8 (by simp;omega);have e2:cur=(Ac (List.replicate hd.length 0)).toArray:=by
    apply Am6;rw[←e,ht];simp[Ac]
   rw[hg,e2]
 have hk24:Apd W2 w4:=H3.out.1.trans hk4 (fun _ _ h=>h);have H4:Hid (Ef w w4 p W.heap.size ch W2.heap.size w3.heap.size ah s (fr,false) o hd (List.replicate hd.length []) (List.replicate hd.length 0)):=
  ⟨hk24.owns H2.out.2.1 (fun _ _ h=>h),H2.out.2.2.1.kept hk24 id,(H2.out.2.2.2.1.trans hk24 (fun _ _ h=>h)).wider (T:=fun j=>j=p) (fun _ _ h=>h.elim),hk24.row H2.out.2.2.2.2 id,hk4.row H3.out.2 id,hr4,⟨hpw,hW2,hW3⟩,hap⟩
 have HHO:Hid (Er (Hm.cdL o) hd):=H2.out.1;have HHL:Hid (∀r,r<hd.length→(hd.getD r []).length≤254):=fun r hr=>by
  obtain⟨b',hb1,_⟩:=(HHO.out.mem _).1 (Sm hr);have hb:(Hm.cdL o b').length≤255:=by
   unfold Hm.cdL;rw[Ak6,Ak7 (show b'.toNat<o.length from by have:=HOL.out;have:=b'.toNat_lt;omega)];exact HOX.out _ (Alo _)
  omega
 obtain⟨gr,hgr⟩: ∃g,g=W2.heap.size:=⟨_,rfl⟩;obtain⟨gs,hgs⟩: ∃g,g=w3.heap.size:=⟨_,rfl⟩;clear hap;rw[←hgr]at H4 hW2 hW3⊢;rw[←hgs]at H4 hW3⊢;clear ho4 hg4 hk4 hr4 hk24 H2 H3 hgr hgs;generalize W.heap.size=bb at*;go_upto_if 32 with fail
 go_cut[9]from 30 to 35 (fun v wx=>v= .slice (some ⟨gs,0,none⟩) hd.length hd.length∧Ef w wx p bb ch gr gs ah s (fr,false) o hd (List.replicate hd.length []) ((List.replicate hd.length 0).set 0 n))
 case first=>
  by_cases h0:0<hd.length
  ·have h0d:decide ((0:Int)<(hd.length:Int))=true:=Alb (by omega);have c0:w4.cell? ⟨gs,0,none⟩=some (.int .i64 0):=by
    rw[Alc _ _ 0 _ _ _ H4.out.sizes];simp[Ac,h0]
   have f0:w4.frozen? ⟨gs,0,none⟩=false:=Alk _ _ 0 _ _ H4.out.sizes;go_wp2_with fail;go_meet
   case rel=>exact⟨rfl,H4.out.setSz 0 n⟩
  ·have h0d:decide ((0:Int)<(hd.length:Int))=false:=Ald (by omega);go_wp2_with fail;go_meet
   case rel=>
    refine⟨rfl,?_⟩;have e:hd.length=0:=by omega
    have:=H4.out;rw[e]at this⊢;exact this
 case rest=>
  obtain⟨rfl,hcol⟩:=hcut;have hr':wc.heap[p]?=some (.cells #[.string ⟨s.toArray⟩,.int .i64 (fr:Nat),.bool false] 145 (0,0)):=hcol.rdr;have c1:wc.cell? ⟨p,1,none⟩=some (.int .i64 (fr:Nat)):=Alc _ _ 1 _ _ _ hr';have HC:Hid (Ef w wc p bb ch gr gs ah s (fr,false) o hd (List.replicate hd.length []) ((List.replicate hd.length 0).set 0 n)):=hcol;clear hr' hcol H4;go_wp2_with fail
  go_loopw[11,12] (fun va vi wr=> ∃(i a ap:Nat) (rows:List (List Bool)) (sz:List Nat),i≤hd.length∧vi= .int .i64 i∧va= .int .i64 a∧Hid (G3 s fr n hd i=some (rows,sz,a))∧rows.length=i∧sz.length=hd.length∧(∀x∈sz,x≤6000)∧a≤240000∧Hid (Ef w wr p bb ch gr gs ah s (ap,false) o hd (rows++List.replicate (hd.length-i) []) sz)) (fun _ vi _=>hd.length-(intOf vi).toNat)
  case atStart=>
   refine⟨0,0,fr,[],(List.replicate hd.length 0).set 0 n,Alr _,rfl,rfl,rfl,rfl,by simp,fun x hx=>?_,Alr _,HC.out⟩;rcases An6 hx with h|h
   ·rw[Aod h];omega
   ·omega
  case round=>
   obtain⟨i,a,ap,rows,sz,hil,rfl,rfl,HR,hrl,hzl,hz6,ha,HCR⟩:=hrel;have hr':wr.heap[p]?=some (.cells #[.string ⟨s.toArray⟩,.int .i64 (ap:Nat),.bool false] 145 (0,0)):=HCR.out.rdr;have c1:wr.cell? ⟨p,1,none⟩=some (.int .i64 (ap:Nat)):=Alc _ _ 1 _ _ _ hr';have c2:wr.cell? ⟨p,2,none⟩=some (.bool false):=Alc _ _ 2 _ _ _ hr';have f1:wr.frozen? ⟨p,1,none⟩=false:=Alk _ _ 1 _ _ hr';clear hr'
   by_cases hlt:i<hd.length
   ·have hltI:(i:Int)<(hd.length:Int):=by omega
    have hdl:decide ((i:Int)<(hd.length:Int))=true:=Alb hltI;obtain⟨z,hz⟩: ∃z,z=sz.getD i 0:=⟨_,rfl⟩;have hzm:z≤6000:=by
     rw[hz,Ak6,Ak7 (show i<sz.length from by omega)];exact hz6 _ (Alo _)
    have cz:wr.cell? ⟨gs,i,none⟩=some (.int .i64 (z:Nat)):=by
     rw[Alc _ _ i _ _ _ HCR.out.sizes,hz];simp[Ac,List.getD_eq_getElem?_getD,List.getElem?_eq_getElem (show i<sz.length from by omega)]
    have hk1:Aa (fun j=>j=p) wr (wr.setCell ⟨p,1,none⟩ (.int .i64 (fr:Nat))):=(Aa.refl (fun j=>j=p) wr).setCell (p:=⟨p,1,none⟩) (.inr rfl) _;have hrd1:Cg (wr.setCell ⟨p,1,none⟩ (.int .i64 (fr:Nat))) p s (fr,false):=by
     have:=Alf wr p 1 _ _ (.int .i64 (fr:Nat)) HCR.out.rdr;exact this
    have HC1:Hid (Ef w (wr.setCell ⟨p,1,none⟩ (.int .i64 (fr:Nat))) p bb ch gr gs ah s (fr,false) o hd (rows++List.replicate (hd.length-i) []) sz):=HCR.out.call hk1 hrd1;have hbits:=Y0 p (a+z) s (fr,false) _ hrd1 (by omega) hst hs;have HL:Hid ((Cr s (fr,false) (a+z)).2.2=false→(Cr s (fr,false) (a+z)).1.length=a+z):=N8 s (fr,false) (a+z);have HNX:Hid (G3 s fr n hd (i+1)=if(Cr s (fr,false) (a+z)).2.2=true then none else some (rows++[(Cr s (fr,false) (a+z)).1.drop a],E3 hd i (((Cr s (fr,false) (a+z)).1.drop a).count true) (((Cr s (fr,false) (a+z)).1.drop a).length-((Cr s (fr,false) (a+z)).1.drop a).count true) sz (hd.length-(i+1)),a+z)):=by
     show _=_;rw[G3,HR.out];simp only;rw[←hz]
    have cz1:(wr.setCell ⟨p,1,none⟩ (.int .i64 (fr:Nat))).cell? ⟨gs,i,none⟩=some (.int .i64 (z:Nat)):=by
     rw[Alc _ _ i _ _ _ HC1.out.sizes,hz];simp[Ac,List.getD_eq_getElem?_getD,List.getElem?_eq_getElem (show i<sz.length from by omega)]
    have HFT:Hid ((Cr s (fr,false) (a+z)).2.2=false→fr+(a+z+7)/8≤s.length):=Ags s fr (a+z);generalize Cr s (fr,false) (a+z)=RB at*;obtain⟨bs,ap2,bad⟩:=RB;obtain⟨az,haz⟩: ∃x,x=a+z:=⟨_,rfl⟩;have zaz:(a:Int)+(z:Int)=(az:Int):=by omega
    rw[←haz]at hbits HL HNX;have HAZ:Hid (az=a+z∧z=sz.getD i 0):=⟨haz,hz⟩;have hazb:az≤246000:=by omega
    clear haz hz hk1 hrd1 cz;generalize hW1:wr.setCell ⟨p,1,none⟩ (.int .i64 (fr:Nat))=W1 at*;go_upto_region 12 with fail
    clear hW1 c1 c2 f1;go_wp2_with fail;refine hbits.mono ?_;rintro e W5 ⟨rfl,hrd5,hk5⟩;have HC5:Hid (Ef w W5 p bb ch gr gs ah s (ap2,bad) o hd (rows++List.replicate (hd.length-i) []) sz):=HC1.out.call hk5 hrd5;have hr5:W5.heap[p]?=some (.cells #[.string ⟨s.toArray⟩,.int .i64 (ap2:Nat),.bool bad] 145 (0,0)):=hrd5;have c5:W5.cell? ⟨p,2,none⟩=some (.bool bad):=Alc _ _ 2 _ _ _ hr5;obtain⟨S,hS⟩: ∃S,S=(⟨(Ad bs).toArray⟩:ByteArray):=⟨_,rfl⟩;have HS:Hid (S=(⟨(Ad bs).toArray⟩:ByteArray)∧S.size=bs.length):=⟨hS,by rw[hS];show(Ad bs).toArray.size=_;simp[Ad]⟩;rw[←hS];clear hbits hrd5 hk5 hr5 hS cz1 HC1 HCR;cases bad with
    |true=>
     have HNO:Hid (Ji s fr n hd o=none):=by
      show _=_;have h1:G3 s fr n hd (i+1)=none:=by rw[HNX.out,if_pos rfl]
      unfold Ji;rw[show hd.length=i+1+(hd.length-(i+1))from by omega,Uk _ _ _ _ _ h1]
     go_wp2_with fail;go_ret;exact⟨hd,ap2,HHO.out,HC5.out.kept,.inl ⟨HNO.out,rfl,HC5.out.rdr⟩⟩
    |false=>
     rw[if_neg (by simp)]at HNX;have hbl:=HL.out rfl;have hazm:az≤240000:=by have:=HFT.out rfl;have:=HAZ.out.1;omega
     obtain⟨row,hrow⟩: ∃x,x=bs.drop a:=⟨_,rfl⟩;rw[←hrow]at HNX;have hrz:row.length=z:=by rw[hrow,Amb];have:=HAZ.out.1;omega
     have haS:(a:Int)≤(S.size:Int):=by have:=HS.out.2;have:=HAZ.out.1;omega
     have haN:a≤S.size:=by omega
     have hSb:S.size≤246000:=by rw[HS.out.2];omega
     have hEx:S.extract a S.size=⟨(Ad row).toArray⟩:=by
      rw[hrow,show S.size=a+(S.size-a)from by omega,HS.out.1,O7,Al8];rw[Amb];show bs.length-a≤(Ad bs).toArray.size-a;simp[Ad]
     have cr:W5.cell? ⟨gr,i,none⟩=some (.string ⟨#[]⟩):=by
      rw[Alc _ _ i _ _ _ HC5.out.rows,Alz,An,Alu,Alt (by omega),Aov,if_pos (by omega)];rfl
     have fr5:W5.frozen? ⟨gr,i,none⟩=false:=Alk _ _ i _ _ HC5.out.rows;clear hrow;have HC6:Hid (Ef w (W5.setCell ⟨gr,i,none⟩ (.string ⟨(Ad row).toArray⟩)) p bb ch gr gs ah s (ap2,false) o hd (rows++[row]++List.replicate (hd.length-(i+1)) []) sz):=by
      have h1:=HC5.out.setRow i row;have e:(rows++List.replicate (hd.length-i) ([]:List Bool)).set i row=rows++[row]++List.replicate (hd.length-(i+1)) []:=by
       rw[Amt _ _ (by omega),hrl,Amr,show hd.length-i=(hd.length-(i+1))+1 from by omega,Anf,Ak9,Alx];rfl
      rw[e]at h1;exact h1
     go_upto_region 16 with fail
     generalize W5.setCell ⟨gr,i,none⟩ (.string ⟨(Ad row).toArray⟩)=W6 at*;obtain⟨S2,hS2⟩: ∃S2,S2=(⟨(Ad row).toArray⟩:ByteArray):=⟨_,rfl⟩;have hS2s:S2.size=z:=by rw[hS2,←hrz];show(Ad row).toArray.size=_;simp[Ad]
     have HG:Hid (∀k,(h:k<row.length)→ ∃hi:k<S2.size,S2[k]=if row[k]then 49 else 48):=fun k hk=>by
      have h1:k<S2.size:=by omega
      refine⟨h1,?_⟩;subst hS2;show(Ad row).toArray[k]'_=_;simp[Ad]
     have cz6:W6.cell? ⟨gs,i,none⟩=some (.int .i64 (z:Nat)):=by
      rw[Alc _ _ i _ _ _ HC6.out.sizes,HAZ.out.2];simp[Ac,List.getD_eq_getElem?_getD,List.getElem?_eq_getElem (show i<sz.length from by omega)]
     have cr6:W6.cell? ⟨gr,i,none⟩=some (.string S2):=by
      rw[Alc _ _ i _ _ _ HC6.out.rows,Alz,An,Alu,Alx,Alt (by omega),hrl,Amr,hS2];rfl
     rw[←hS2];have HS2:Hid (S2=(⟨(Ad row).toArray⟩:ByteArray)):=hS2;clear hS2 cr fr5 c5 HC5 hEx haS haN hSb HS;go_wp2_with fail
     go_loopw[14,15] (fun vo vk wq=> ∃k:Nat,k≤z∧vk= .int .i64 k∧vo= .int .i64 ((row.take k).count true:Nat)∧wq=W6) (fun _ vk _=>z-(intOf vk).toNat)
     case atStart=>exact⟨0,Alr _,rfl,rfl,rfl⟩
     case round=>
      obtain⟨k,hkz,rfl,rfl,rfl⟩:=hrel;have hcl:(row.take k).count true≤k:=Al2 List.count_le_length (by rw[Aln];omega)
      by_cases hkl:k<z
      ·have hkI:(k:Int)<(z:Int):=by omega
       have hkd:decide ((k:Int)<(z:Int))=true:=Alb hkI;obtain⟨hkS,hSk⟩:=HG.out k (by omega);have hkSI:(k:Int)<(S2.size:Int):=by omega
       have HCT:Hid ((row.take (k+1)).count true=(row.take k).count true+if row[k]then 1 else 0):=by
        show _=_;rw[Ali (by omega),List.count_append];cases row[k]<;>rfl
       generalize(row.take k).count true=ct at*;generalize row[k]=bk at*;cases bk with
       |true=>
        have hS49:S2[k]=49:=hSk;clear hSk;go_wp2_with fail;go_roundw
        case rel=>exact⟨k+1,by omega,by go_num,by rw[HCT.out];go_num,trivial⟩
        case measure=>simp[intOf];omega
       |false=>
        have hS48:S2[k]=48:=hSk;clear hSk;go_wp2_with fail;go_roundw
        case rel=>exact⟨k+1,by omega,by go_num,by rw[HCT.out];rfl,trivial⟩
        case measure=>simp[intOf];omega
      ·have hkI: ¬(k:Int)<(z:Int):=by omega
       have hkd:decide ((k:Int)<(z:Int))=false:=Ald hkI;have hkk:k=z:=by omega
       subst hkk;have htk:row.take k=row:=Al8 (by omega);rw[htk]at hcl⊢;generalize row.count true=ct at*;obtain⟨zr,hzr⟩: ∃x,x=k-ct:=⟨_,rfl⟩;have zct:(k:Int)-(ct:Int)=(zr:Int):=by omega
       have hzrb:zr≤6000:=by omega
       have HZR:Hid (zr=k-ct):=hzr;clear hzr;obtain⟨g,hg⟩: ∃g,ah=some ⟨g,0,none⟩:=by
        rcases HC6.out.own.2 with⟨e,h0⟩|⟨g,cap,cur,e,_⟩
        ·omega
        ·exact⟨g,(Value.slice.inj e).1⟩
       subst hg;go_wp2_with fail
       go_loopw[16] (fun vk wq=> ∃j:Nat,i+1+j≤hd.length∧vk= .int .i64 ((i+1+j:Nat):Int)∧Hid (Ef w wq p bb ch gr gs (some ⟨g,0,none⟩) s (ap2,false) o hd (rows++[row]++List.replicate (hd.length-(i+1)) []) (E3 hd i ct zr sz j))) (fun vk _=>hd.length-(intOf vk).toNat)
       case atStart=>exact⟨0,by omega,by first|rfl|go_num,HC6.out⟩
       case round=>
        obtain⟨j,hjl,rfl,HCQ⟩:=hrel;obtain⟨q,hq⟩: ∃q,q=i+1+j:=⟨_,rfl⟩;rw[←hq]at hjl⊢
        by_cases hqd:q<hd.length
        ·have hqI:(q:Int)<(hd.length:Int):=by omega
         have hqD:decide ((q:Int)<(hd.length:Int))=true:=Alb hqI;have HHC:Hid (∀(W7:World) (r:Nat),W7.ownsRow bb 9 1 (.slice (some ⟨g,0,none⟩) hd.length ch) hd.length (An hd)→r<hd.length→W7.cell? ⟨g,r,none⟩=some (.string ⟨(Ad (hd.getD r [])).toArray⟩)):=fun W7 r ho hr=>by
          rw[ho.cellAt r (by omega)];simp[An,List.getD_eq_getElem?_getD,List.getElem?_eq_getElem hr]
         have HSZ:Hid (E3 hd i ct zr sz (j+1)=if hd.getD q []=hd.getD i []++[true]then(E3 hd i ct zr sz j).set q ct else if hd.getD q []=hd.getD i []++[false]then(E3 hd i ct zr sz j).set q zr else E3 hd i ct zr sz j):=by
          show _=_;rw[E3,←hq]
         have cq:=HHC.out wr q HCQ.out.own hqd;have ci:=HHC.out wr i HCQ.out.own hlt;have crr:wr.cell? ⟨gr,i,none⟩=some (.string S2):=by
          rw[Alc _ _ i _ _ _ HCQ.out.rows,Alz,An,Alu,Alx,Alt (by omega),hrl,Amr,HS2.out];rfl
         have hq1:((⟨(Ad (hd.getD q [])).toArray⟩:ByteArray).toList==((⟨(Ad (hd.getD i [])).toArray⟩:ByteArray)++⟨#[49]⟩).toList)=decide (hd.getD q []=hd.getD i []++[true]):=Ul _ _ true;have hq0:((⟨(Ad (hd.getD q [])).toArray⟩:ByteArray).toList==((⟨(Ad (hd.getD i [])).toArray⟩:ByteArray)++⟨#[48]⟩).toList)=decide (hd.getD q []=hd.getD i []++[false]):=Ul _ _ false;have HCS:Hid (∀x:Nat,Ef w (wr.setCell ⟨gs,q,none⟩ (.int .i64 (x:Nat))) p bb ch gr gs (some ⟨g,0,none⟩) s (ap2,false) o hd (rows++[row]++List.replicate (hd.length-(i+1)) []) ((E3 hd i ct zr sz j).set q x)):=fun x=>HCQ.out.setSz q x;have cq1:=HHC.out _ q (HCS.out ct).own hqd;have ci1:=HHC.out _ i (HCS.out ct).own hlt;have hszl:q<(E3 hd i ct zr sz j).length:=by rw[Ks];omega
         have cs:wr.cell? ⟨gs,q,none⟩=some (.int .i64 ((E3 hd i ct zr sz j)[q]:Nat)):=by
          rw[Alc _ _ q _ _ _ HCQ.out.sizes];simp[Ac,List.getElem?_eq_getElem hszl]
         have fs:wr.frozen? ⟨gs,q,none⟩=false:=Alk _ _ q _ _ HCQ.out.sizes;have HLI:Hid ((⟨(Ad (hd.getD i [])).toArray⟩:ByteArray).size=(hd.getD i []).length):=by show(Ad _).toArray.size=_;simp[Ad]
         have HSM:Hid (∀x,hd.getD q []=hd.getD i []++[true]→hd.getD q []=hd.getD i []++[false]→x):=fun x e1 e2=>by rw[e1]at e2;simp at e2
         have hiI2:(i:Int)<(hd.length:Int):=hltI;generalize(E3 hd i ct zr sz j)[q]=old at*;obtain⟨Hq,hHq⟩: ∃x,x=(⟨(Ad (hd.getD q [])).toArray⟩:ByteArray):=⟨_,rfl⟩;obtain⟨Hi,hHi⟩: ∃x,x=(⟨(Ad (hd.getD i [])).toArray⟩:ByteArray):=⟨_,rfl⟩;rw[←hHq]at cq cq1 hq1 hq0;rw[←hHi]at ci ci1 hq1 hq0 HLI;have hHz:Hi.size≤254:=by rw[HLI.out];exact HHL.out i hlt
         have HQ:Hid (q=i+1+j):=hq;clear hHq hHi hq
         by_cases e1:hd.getD q []=hd.getD i []++[true]
         ·rw[Alb e1]at hq1;rw[Ald (fun e2=>HSM.out False e1 e2)]at hq0;rw[if_pos e1]at HSZ;have HN:Hid (Ef w (wr.setCell ⟨gs,q,none⟩ (.int .i64 (ct:Nat))).drew.drew p bb ch gr gs (some ⟨g,0,none⟩) s (ap2,false) o hd (rows++[row]++List.replicate (hd.length-(i+1)) []) (E3 hd i ct zr sz (j+1))):=by rw[HSZ.out];exact(HCS.out ct).drew.drew
          clear e1 HSM HCS HSZ;go_wp2_with fail
          go_region
          go_wp2_with fail
          go_region
          go_wp2_with fail;go_roundw
          case rel=>exact⟨j+1,by have:=HQ.out;omega,by have:=HQ.out;go_num,HN⟩
          case measure=>simp[intOf];omega
         ·by_cases e2:hd.getD q []=hd.getD i []++[false]
          ·rw[Ald e1]at hq1;rw[Alb e2]at hq0;rw[if_neg e1,if_pos e2]at HSZ;have HN:Hid (Ef w (wr.setCell ⟨gs,q,none⟩ (.int .i64 (zr:Nat))).drew.drew p bb ch gr gs (some ⟨g,0,none⟩) s (ap2,false) o hd (rows++[row]++List.replicate (hd.length-(i+1)) []) (E3 hd i ct zr sz (j+1))):=by rw[HSZ.out];exact(HCS.out zr).drew.drew
           clear e1 e2 HSM HCS HSZ;go_wp2_with fail
           go_region
           go_wp2_with fail
           go_region
           go_wp2_with fail;go_roundw
           case rel=>exact⟨j+1,by have:=HQ.out;omega,by have:=HQ.out;go_num,HN⟩
           case measure=>simp[intOf];omega
          ·rw[Ald e1]at hq1;rw[Ald e2]at hq0;rw[if_neg e1,if_neg e2]at HSZ;have HN:Hid (Ef w wr.drew.drew p bb ch gr gs (some ⟨g,0,none⟩) s (ap2,false) o hd (rows++[row]++List.replicate (hd.length-(i+1)) []) (E3 hd i ct zr sz (j+1))):=by rw[HSZ.out];exact HCQ.out.drew.drew
           clear e1 e2 HSM HCS HSZ;go_wp2_with fail
           go_region
           go_wp2_with fail
           go_region
           go_wp2_with fail;go_roundw
           case rel=>exact⟨j+1,by have:=HQ.out;omega,by have:=HQ.out;go_num,HN⟩
           case measure=>simp[intOf];omega
        ·have hqI: ¬(q:Int)<(hd.length:Int):=by omega
         have hqD:decide ((q:Int)<(hd.length:Int))=false:=Ald hqI;have hjj:j=hd.length-(i+1):=by omega
         have HNX2:Hid (G3 s fr n hd (i+1)=some (rows++[row],E3 hd i ct zr sz j,az)):=by
          show _=_;rw[HNX.out,hrz,hjj,HZR.out]
         clear HNX;go_wp2_with fail;go_roundw
         case rel=>
          exact⟨i+1,az,ap2,rows++[row],E3 hd i ct zr sz j,by omega,by go_num,rfl,HNX2,by rw[Alg,hrl];rfl,by rw[Ks,hzl],Ae0 hd i ct zr sz 6000 (by omega) (by omega) hz6 j,hazm,HCQ⟩
         case measure=>simp[intOf];omega
   ·have hltI: ¬(i:Int)<(hd.length:Int):=by omega
    have hdl:decide ((i:Int)<(hd.length:Int))=false:=Ald hltI;have hii:i=hd.length:=by omega
    have HRR:Hid (Ji s fr n hd o=(Jh hd rows o n).map (·.1)):=by
     show _=_;unfold Ji;rw[←hii,HR.out]
    have HCE:Hid (Ef w wr p bb ch gr gs ah s (ap,false) o hd rows sz):=by
     have:=HCR.out;rw[show hd.length-i=0 from by omega,Ao9,Am4]at this;exact this
    have hrl2:rows.length=hd.length:=by omega
    have HRS:Hid (∀r∈rows,r.length≤240000):=fun r hr=>by have:=Sp s fr n hd i rows sz a HR.out r hr;omega
    clear HCR HR hii hz6 ha HC c1 c2 f1;go_upto_region 31 with(at_make;refine Ane _ rfl _ _ 64 rfl wr.heap.size 3 i0 (.int .i64 0) 1 Tryz.underlying64 hi hz0 hz1 .i64 .i64 _ _ hd.length rfl rfl rfl rfl (by rw[hz2];omega) (by unfold maxLen;omega) (Ale _) ?_;intro w5 ho5 hg5)
    have hk5:Apd wr w5:=(Aa.refl _ _).grown hg5 (fun k hk=>by cases hk);have hr5:w5.heap[wr.heap.size]?=some (.cells (Ac (List.replicate hd.length 0)).toArray 3 (0,0)):=by
     rw[An3,show(Value.int .i64 0).cells= #[Value.int .i64 0]from rfl,An7]at ho5;rcases ho5.2 with⟨h1,_⟩|⟨g2,cap,cur,h1,_,hg,_,_,hs,ht⟩
     ·cases h1
     ·cases h1;have e:cur.toList.take (hd.length*1)=cur.toList:=Al8 (by simp;omega);have e2:cur=(Ac (List.replicate hd.length 0)).toArray:=by
       apply Am6;rw[←e,ht];simp[Ac]
      rw[hg,e2]
    have h5lt:=Alw hr5;obtain⟨gn,hgn⟩: ∃g,g=wr.heap.size:=⟨_,rfl⟩;have H5:Hid (w5.heap[gn]?=some (.cells (Ac (List.replicate hd.length 0)).toArray 3 (0,0))∧Apd wr w5∧gn=wr.heap.size):=⟨by rw[hgn];exact hr5,hk5,hgn⟩;rw[←hgn]at h5lt⊢;clear ho5 hg5 hk5 hr5 hgn;go_upto_region 32 with(at_make;refine wpList_make_own _ rfl _ _ 79 rfl w5.heap.size 5 k0 (.int .u8 0) 1 Tryz.underlying79 hk hx0 hx1 .i64 .i64 _ n rfl rfl rfl (by rw[hx2];omega) (by unfold maxLen;omega) (Ale _) ?_;intro w6 ho6 hg6)
    have hk6:Apd w5 w6:=(Aa.refl _ _).grown hg6 (fun k hk=>by cases hk);have H6:Hid (w6.heap[gn]?=some (.cells (Ac (List.replicate hd.length 0)).toArray 3 (0,0))∧Apd wr w6∧w6.ownsRow w5.heap.size 5 1 (.slice (some ⟨w5.heap.size,0,none⟩) 0 n) 0 []∧gn=wr.heap.size∧w5.heap.size≤w6.heap.size):=⟨hk6.row H5.out.1 id,H5.out.2.1.trans hk6 (fun _ _ h=>h),ho6,H5.out.2.2,hk6.size⟩;obtain⟨g5,hg5⟩: ∃g,g=w5.heap.size:=⟨_,rfl⟩;rw[←hg5]at H6 h5lt⊢;clear hk6 ho6 hg6 H5 hg5;obtain⟨M,hM⟩: ∃M,M=wr:=⟨_,rfl⟩;rw[←hM]at HCE H6;clear hM
    go_loopw[18] (fun vb wx=> ∃(b:List UInt8) (nx:List Nat),b.length≤n∧Hid (Jh hd rows o b.length=some (b,nx))∧nx.length=hd.length∧Hid (wx.heap[gn]?=some (.cells (Ac nx).toArray 3 (0,0)))∧Apd M wx∧wx.ownsRow g5 5 1 vb b.length (Ag b)∧g5≤wx.heap.size) (fun vb _=>n-Ak4 vb)
    case atStart=>exact⟨[],List.replicate hd.length 0,Alr _,rfl,by simp,H6.out.1,H6.out.2.1,H6.out.2.2.1,H6.out.2.2.2.2⟩
    case round=>
     obtain⟨b,nx,hbn,HB,hnl,HN0,hkM,hob,hg5w⟩:=hrel;obtain⟨ab,cb,hvb,_⟩:=Ay hob;subst hvb;have HOB:Hid (wr.ownsRow g5 5 1 (.slice ab b.length cb) b.length (Ag b)∧Apd M wr):=⟨hob,hkM⟩;have HGN:Hid (gn=M.heap.size):=H6.out.2.2.2.1;clear hob hkM H6
     by_cases hbl:b.length<n
     ·have hbI:(b.length:Int)<(n:Int):=by omega
      have hbd:decide ((b.length:Int)<(n:Int))=true:=Alb hbI;generalize wr=W7 at*;go_wp2_with fail
      go_loopw[19,20] (fun vh vc wy=> ∃(f:Nat) (h:List Bool) (ny:List Nat) (c:Int),vh= .string ⟨(Ad h).toArray⟩∧vc= .int .i64 c∧h.length≤255∧ny.length=hd.length∧Hid (wy.heap[gn]?=some (.cells (Ac ny).toArray 3 (0,0)))∧Hid (Aa (fun j=>j=gn) W7 wy)∧Hid ((c= -1∧f+h.length=256∧F9 hd rows o 256 nx []=F9 hd rows o f ny h)∨ ∃k:Nat,c=k∧k<256∧F9 hd rows o 256 nx []=some (k,ny))) (fun vh _ _=>300-Ak0 vh)
      case atStart=>exact⟨256,[],nx,-1,rfl,rfl,by simp,hnl,HN0,Aa.refl _ _,.inl ⟨rfl,rfl,rfl⟩⟩
      case round=>
       obtain⟨f,h,ny,c,rfl,rfl,hh5,hyl,HNY,HKI,HIN⟩:=hrel;have HKM:Hid (Apd M wr):=HOB.out.2.trans HKI.out (fun j hj e=>by have:=HGN.out;omega);have HC7:Hid (Ef w wr p bb ch gr gs ah s (ap,false) o hd rows sz):=HCE.out.call (HKM.out.wider (fun _ _ h=>h.elim)) (HKM.out.row HCE.out.rdr id);rcases HIN.out with⟨rfl,hf,he⟩|⟨k,rfl,hk256,he⟩
       ·obtain⟨f',rfl⟩: ∃f',f=f'+1:=⟨f-1,by omega⟩;have HE:Hid (F9 hd rows o 256 nx []=F9 hd rows o (f'+1) ny h):=he;have HBAD:Hid (F9 hd rows o (f'+1) ny h=none→Ji s fr n hd o=none):=fun e=>by
         have h1:Jh hd rows o (b.length+1)=none:=by
          rw[Jh,HB.out];simp only;rw[HE.out,e]
         rw[HRR.out,show n=b.length+1+(n-(b.length+1))from by omega,Y9 _ _ _ _ h1];rfl
        have hfind:=So ah ch hd h wr (Aik HC7.out.own) (by omega);clear he HIN;go_wp2_with fail;refine hfind.mono ?_;rintro e W8 ⟨rfl,rfl⟩;clear hfind;have hr':W8.heap[p]?=some (.cells #[.string ⟨s.toArray⟩,.int .i64 (ap:Nat),.bool false] 145 (0,0)):=HC7.out.rdr;have c2:W8.cell? ⟨p,2,none⟩=some (.bool false):=Alc _ _ 2 _ _ _ hr';have f2:W8.frozen? ⟨p,2,none⟩=false:=Alk _ _ 2 _ _ hr';clear hr';cases hfd:G6 hd h with
        |none=>
         have hfi:Lu hd h= -1:=by unfold Lu;rw[hfd]
         have HNO:Hid (Ji s fr n hd o=none):=HBAD.out (by rw[F9,hfd]);rw[hfi];clear hfi hfd HBAD;go_wp2_with fail;go_quiet(fail);go_wp2_with fail;go_ret;have hb:=Alf (W8.drewN nq) p 2 _ _ (.bool true) HC7.out.rdr;exact⟨hd,ap,HHO.out,(HC7.out.kept.drewN nq).setCell (p:=⟨p,2,none⟩) (.inr rfl) _,.inl ⟨HNO.out,rfl,hb⟩⟩
        |some i1=>
         have hfi:Lu hd h=(i1:Int):=by unfold Lu;rw[hfd]
         obtain⟨hi1,hhi⟩:=Ack hfd;have hh4:h.length≤254:=by
          have:=HHL.out i1 hi1;rw[Ak6,Ak7 hi1]at this;simp only[Anr]at this;rw[hhi]at this;exact this
         obtain⟨row,hrow⟩: ∃r,r=rows.getD i1 []:=⟨_,rfl⟩;obtain⟨x,hx⟩: ∃x,x=ny.getD i1 0:=⟨_,rfl⟩;obtain⟨R,hR⟩: ∃R,R=(⟨(Ad row).toArray⟩:ByteArray):=⟨_,rfl⟩;have hRs:R.size=row.length:=by rw[hR];show(Ad row).toArray.size=_;simp[Ad]
         have hRb:row.length≤240000:=by
          rw[hrow,Ak6,Ak7 (show i1<rows.length by omega)];exact HRS.out _ (Alo _)
         have cR:W8.cell? ⟨gr,i1,none⟩=some (.string R):=by
          rw[Alc _ _ i1 _ _ _ HC7.out.rows,Alz,An,Alu,Ak7 (show i1<rows.length by omega),hR,hrow,Ak6,Ak7 (show i1<rows.length by omega)];rfl
         have cX:W8.cell? ⟨gn,i1,none⟩=some (.int .i64 (x:Nat)):=by
          rw[Alc _ _ i1 _ _ _ HNY.out,hx];simp[Ac,List.getD_eq_getElem?_getD,List.getElem?_eq_getElem (show i1<ny.length by omega)]
         have fX:W8.frozen? ⟨gn,i1,none⟩=false:=Alk _ _ i1 _ _ HNY.out;have HST:Hid (F9 hd rows o (f'+1) ny h=if row.length≤x then none else match G6 o (h++[row.getD x false])with
           |some c=>some (c,ny.set i1 (x+1))
           |none=>F9 hd rows o f' (ny.set i1 (x+1)) (h++[row.getD x false])):=by
          show _=_;rw[F9,hfd];simp only;rw[←hrow,←hx];cases G6 o (h++[row.getD x false])<;>rfl
         have HRW:Hid (R=(⟨(Ad row).toArray⟩:ByteArray)∧x=ny.getD i1 0):=⟨hR,hx⟩;have hi1I:(i1:Int)<(hd.length:Int):=by omega
         have hi1R:(i1:Int)<(rows.length:Int):=by omega
         have hi0:decide ((i1:Int)<0)=false:=Ald (by omega);rw[hfi];clear hfi hfd hrow hx hR
         by_cases hxr:row.length≤x
         ·have HNO:Hid (Ji s fr n hd o=none):=HBAD.out (by rw[HST.out,if_pos hxr]);have hxd:decide ((row.length:Int)≤(x:Int))=true:=Alb (by omega);clear HBAD HST;go_wp2_with fail;go_quiet(fail);go_wp2_with fail;go_ret;have hb:=Alf (W8.drewN nq) p 2 _ _ (.bool true) HC7.out.rdr;exact⟨hd,ap,HHO.out,(HC7.out.kept.drewN nq).setCell (p:=⟨p,2,none⟩) (.inr rfl) _,.inl ⟨HNO.out,rfl,hb⟩⟩
         ·have hxd:decide ((row.length:Int)≤(x:Int))=false:=Ald (by omega);rw[if_neg hxr]at HST;obtain⟨q,hq⟩: ∃q,q=x+1:=⟨_,rfl⟩;have zq:(x:Int)+1=(q:Int):=by omega
          obtain⟨h',hh'⟩: ∃h',h'=h++[row.getD x false]:=⟨_,rfl⟩;obtain⟨H,hH⟩: ∃H,H=(⟨(Ad h).toArray⟩:ByteArray):=⟨_,rfl⟩;obtain⟨E,hE⟩: ∃E,E=(⟨(Ad [row.getD x false]).toArray⟩:ByteArray):=⟨_,rfl⟩;have hEx:R.extract x q=E:=by
           rw[hq,HRW.out.1,O7,hE];congr 3;rw[Al4 (show x<row.length by omega),Ak6,Ak7 (show x<row.length by omega)];rfl
          have hEs:E.size=1:=by rw[hE];rfl
          have hHs:H.size=h.length:=by rw[hH];show(Ad h).toArray.size=_;simp[Ad]
          have HHE:Hid (H++E=(⟨(Ad h').toArray⟩:ByteArray)∧h'.length=h.length+1):=by
           refine⟨?_,by rw[hh',Alg];rfl⟩;rw[hH,hE,hh'];apply An1;rw[An5];simp[Ad]
          have hsm: ¬9223372036854775807<H.size+E.size:=by omega
          have hxq:(x:Int)≤(q:Int):=by omega
          have hqR:(q:Int)≤(row.length:Int):=by omega
          have HQ:Hid (q=x+1∧H=(⟨(Ad h).toArray⟩:ByteArray)):=⟨hq,hH⟩;rw[←hh',←hq]at HST;rw[←hH];clear hq hh' hH hE HBAD;go_wp2_with fail;go_quiet(fail);generalize nq=n1 at*;go_wp2_with fail;go_quiet(fail);go_wp2_with fail;have hk9:Aa (fun j=>j=gn) W8 ((W8.drewN (n1+nq)).setCell ⟨gn,i1,none⟩ (.int .i64 (q:Nat))):=((Aa.refl (fun j=>j=gn) W8).drewN _).setCell (p:=⟨gn,i1,none⟩) (.inr rfl) _;have HN9:Hid (((W8.drewN (n1+nq)).setCell ⟨gn,i1,none⟩ (.int .i64 (q:Nat))).heap[gn]?=some (.cells (Ac (ny.set i1 q)).toArray 3 (0,0))):=by
           show _=_;rw[Alf (W8.drewN (n1+nq)) gn i1 _ _ _ HNY.out];congr 2;simp[Ac,List.map_set]
          generalize(W8.drewN (n1+nq)).setCell ⟨gn,i1,none⟩ (.int .i64 (q:Nat))=W9 at*;have HK9:Hid (Aa (fun j=>j=gn) W7 W9):=HKI.out.trans hk9 (fun _ _ h=>h);have hwg:w.heap.size<gn:=by rw[HGN.out];exact Alw HCE.out.tr
          have hfind:=So (some ⟨w.heap.size,0,none⟩) 256 o h' W9 (Akr (hk9.row HC7.out.tr (by omega))) (by rw[HOL.out];omega);rw[HOL.out]at hfind;rw[HHE.out.1];clear hk9 cX cR c2 f2 fX hsm hEx;refine hfind.mono ?_;rintro e W10 ⟨rfl,rfl⟩;clear hfind;have hszE:H.size+1=(⟨(Ad h').toArray⟩:ByteArray).size:=by
           rw[←HHE.out.1,ByteArray.size_append,hEs]
          cases hfc:G6 o h' with
          |none=>
           have hfi:Lu o h'= -1:=by unfold Lu;rw[hfc]
           have HIN2:Hid (F9 hd rows o 256 nx []=F9 hd rows o f' (ny.set i1 q) h'):=by
            show _=_;rw[HE.out,HST.out,hfc]
           rw[hfi];clear hfi hfc HST;go_wp2_with fail;go_roundw
           case rel=>exact⟨f',h',ny.set i1 q,-1,rfl,rfl,by have:=HHE.out.2;omega,by rw[Amn];exact hyl,HN9,HK9,.inl ⟨rfl,by have:=HHE.out.2;omega,HIN2.out⟩⟩
           case measure=>
            rw[←HQ.out.2];show 300-(⟨(Ad h').toArray⟩:ByteArray).size<300-H.size;omega
          |some c3=>
           have hfi:Lu o h'=(c3:Int):=by unfold Lu;rw[hfc]
           have hc3:c3<256:=by
            obtain⟨h1,_⟩:=Ack hfc;rw[HOL.out]at h1;exact h1
           have HIN2:Hid (F9 hd rows o 256 nx []=some (c3,ny.set i1 q)):=by
            show _=_;rw[HE.out,HST.out,hfc]
           rw[hfi];clear hfi hfc HST;go_wp2_with fail;go_roundw
           case rel=>exact⟨f',h',ny.set i1 q,(c3:Int),rfl,rfl,by have:=HHE.out.2;omega,by rw[Amn];exact hyl,HN9,HK9,.inr ⟨c3,rfl,hc3,HIN2.out⟩⟩
           case measure=>
            rw[←HQ.out.2];show 300-(⟨(Ad h').toArray⟩:ByteArray).size<300-H.size;omega
       ·have hk0:decide ((k:Int)<0)=false:=Ald (by omega);have hw8:IntKind.u8.wrap (k:Int)=(k:Int):=by rw[IntKind.wrap_u8];omega
        have HNB:Hid (Jh hd rows o (b.length+1)=some (b++[UInt8.ofNat k],ny)):=by
         show _=_;rw[Jh,HB.out];simp only;rw[he]
        have ho:=HKI.out.owns HOB.out.1 (fun j hj e=>by have:=(HOB.out.1.lt j hj).1;omega);have hg5w2:g5≤wr.heap.size:=Al2 hg5w HKI.out.size;clear he HIN
        go_wp2_with(at_builtin;refine A7 _ rfl (.tmp 197) (.tmp 200) 79 rfl g5 5 k0 (.int .u8 0) 1 1 Tryz.underlying79 hk hx0 hx1 hx2 rfl (by decide) _ _ _ rfl (ho.alloc _) ⟨wr.heap.size,0,none⟩ 1 1 [.int .u8 (k:Nat)] rfl rfl ?c1 ?c2 ?c3 ?c4 ?c5 ?_)
        case c1=>exact An9 _ _ _
        case c2=>intro u hu;simp at hu;subst hu;rfl
        case c3=>unfold maxLen;omega
        case c4=>omega
        case c5=>simp only[World.alloc,Array.size_push];omega
        intro v9 w9 ho9 hg9 hm9;have hk9:Aa (fun j=>g5≤j) wr w9:=((Aa.refl _ wr).alloc _).grown hg9 (fun j hj=> .inr (ho.lt j hj).1);have HN9:Hid (w9.heap[gn]?=some (.cells (Ac ny).toArray 3 (0,0))):=hk9.row HNY.out (by omega);have HK9:Hid (Apd M w9):=HKM.out.trans hk9 (fun j hj e=>by have:=HGN.out;omega);have ho10:w9.ownsRow g5 5 1 v9 (b++[UInt8.ofNat k]).length (Ag (b++[UInt8.ofNat k])):=by
         have e1:Ag (b++[UInt8.ofNat k])=Ag b++[.int .u8 (k:Nat)]:=by
          simp[Ag];omega
         rw[e1,Alg];exact ho9
        obtain⟨a9,c9,hv9,_⟩:=Ay ho10;subst hv9;have HO10:Hid _:=ho10;have hg9w:g5≤w9.heap.size:=Al2 hg5w2 hk9.size;clear ho9 hg9 hm9 ho10 hk9 ho;go_wp2_with fail;go_roundw
        case rel=>exact⟨b++[UInt8.ofNat k],ny,by rw[Alg];exact hbl,by rw[Alg];exact HNB,hyl,HN9,HK9.out,HO10.out,hg9w⟩
        case measure=>
         show n-(b++[UInt8.ofNat k]).length<n-b.length;rw[Alg,List.length_singleton];omega
     ·have hbI: ¬(b.length:Int)<(n:Int):=by omega
      have hbd:decide ((b.length:Int)<(n:Int))=false:=Ald hbI;have hcv:=Gr HOB.out.1;have HCO:Hid (Ji s fr n hd o=some b):=by
       show _=_;rw[HRR.out,show n=b.length from by omega,HB.out];rfl
      have HK9:Hid (Ef w wr p bb ch gr gs ah s (ap,false) o hd rows sz):=HCE.out.call (HOB.out.2.wider (fun _ _ h=>h.elim)) (HOB.out.2.row HCE.out.rdr id);go_wp2_with fail;go_ret;exact⟨hd,HHO.out,HK9.out.kept,ap,.inr ⟨b,HCO.out,rfl,HK9.out.rdr⟩⟩
end Go.Proofs.YtegnkfdbmmndaaaGreat
namespace Go.Proofs.YtegnkfdbmmndaaaGreat
open Hm
namespace Hm
theorem Bj.prefixes{L:List Nat}(hC:Bj L){b:UInt8}(hb:b∈Af L){b':UInt8}{h:List Bool}(h1:h.length<(G9 (lnB L) (Bm L) b').length)(h2:(G9 (lnB L) (Bm L) b').take h.length=h)(hg:Ea (G9 (lnB L) (Bm L) b) h=true):h.length<(G9 (lnB L) (Bm L) b).length:=by
 obtain⟨N,_,hE⟩:=hC.ends;have h0:Af L≠[]:=fun e=>by rw[e]at hb;simp at hb
 have hsh:=hE.nodes;have hlen:=hE.len;have hz:=hE.side0 h0;have hk:=hC.numk;have hh:=hsh.heads hk (fun j hj=>hz j (by rw[hlen]at hj;exact hj)) hC.num_lt (fun b hb=>(hC.mem b).2 hb);have hm:=(hh.mem h).2 ⟨b',h1,h2⟩;unfold Pc at hm;obtain⟨j,hj,rfl⟩:=List.mem_map.1 hm;have hj':j<(Al (lnB L) (Af L) (2*N)).1.length:=by simpa using hj
 rw[hsh.begins hk hC.num_lt hj' hb (hC.pos b hb)]at hg;have:=(Amm hg).1;rw[Bs];show _<(C7 _ _).length;rw[Bs];exact this
theorem Ov{L:List Nat}(hC:Bj L){o:List (List Bool)}{ok:Bool}(h:Ch L o ok):cdL o=G9 (lnB L) (Bm L):=funext (Uj hC h).2
theorem Ail{L:List Nat}(hC:Bj L){o:List (List Bool)}{ok:Bool}(h:Ch L o ok)(ho:o.length=256): ∀x∈o,x.length≤255:=by
 intro x hx;obtain⟨i,hi,rfl⟩:=Aml hx;have h1:=congrFun (Ov hC h) (UInt8.ofNat i);have h2:(UInt8.ofNat i).toNat=i:=by rw[Ame];omega
 unfold cdL at h1;rw[h2,Ak6,Ak7 hi]at h1;simp only[Anr]at h1;rw[h1];show(C7 _ _).length≤255;rw[Bs];exact hC.le255 _
theorem Aim(c h:List Bool)(k:Ea c h=true):h.length≤c.length∧c.take h.length=h:=Amm k
end Hm
open Go.RowKit
theorem Aac(s:ByteArray)(L:List Nat)(o:List (List Bool))(ok:Bool)(N:Nat)(w:World)(hC:Bj L)(hE:Hm.Ends 32 (Hm.lnB L) (Af L) N)(ho:o.length=256)(h:Ch L o ok)(hs:s.size≤6001)(hm: ∀b∈s.data.toList,b∈Af L):
  Calls Tryz.prog 46 #[.string s,.agg (An o).toArray] w fun e w'=>e= .returned (.string ⟨(Ad (Dt L N s.data.toList)).toArray⟩)∧Apd w w':=by
 have e:=Ov hC h;refine(Aeb s o w ho (Ail hC h ho) hs ?_).mono ?_
 ·intro b hb b' hd h1 h2 h3;rw[e]at h1 h2 h3⊢;exact hC.prefixes (hm b hb) h1 h2 h3
 ·rintro en w' ⟨hd,hh,rfl,hk⟩;rw[e]at hh⊢;rw[Ma hC hE hm hh];exact⟨rfl,hk⟩
end Go.Proofs.YtegnkfdbmmndaaaGreat
