import Derived.Test.YtegnkfdbmmndaaaGreatJ00
import Derived.Test.YtegnkfdbmmndaaaGreatJ30

namespace Go.Proofs.YtegnkfdbmmndaaaGreat
open Hm
open Go.RowKit
namespace Hm
theorem Un(s:List UInt8)(fr n:Nat)(hd:List(List Bool))(i:Nat)(h:G5 s fr n hd i=none): ∀m,G5 s fr n hd(i+m)=none
 |0=>h
 |m+1=>by
  rw[←Ams,G5,Un s fr n hd i h m]
theorem Ae1(hd:List(List Bool))(i ones C5:Nat)(sz:List Nat)(b:Nat)(h1:ones≤b)(h0:C5≤b)(hz: ∀x∈sz,x≤b): ∀j,∀x∈E7 hd i ones C5 sz j,x≤b
 |0=>hz
 |j+1=>by
  have ih:=Ae1 hd i ones C5 sz b h1 h0 hz j;intro x hx;rw[E7]at hx;split at hx
  ·rcases Ane hx with h|h
   ·exact ih x h
   ·omega
  ·split at hx
   ·rcases Ane hx with h|h
    ·exact ih x h
    ·omega
   ·exact ih x hx
theorem Uo(x y:List Bool)(b:Bool):((⟨(Ad x).toArray⟩:ByteArray).toList==((⟨(Ad y).toArray⟩:ByteArray)++⟨#[if b then 49 else 48]⟩).toList)=decide(x=y++[b]):=by
 have e:(⟨(Ad y).toArray⟩:ByteArray)++⟨#[if b then 49 else 48]⟩=⟨(Ad(y++[b])).toArray⟩:=by
  apply Am8;rw[Anc];simp[Ad]
 rw[e,ByteArray.toList_eq,ByteArray.toList_eq]
 by_cases h:x=y++[b]
 ·rw[h,decide_eq_true rfl,beq_self_eq_true]
 ·rw[decide_eq_false h,beq_eq_false_iff_ne];exact fun e2=>h(Lx _ _ e2)
theorem Agt(s:List UInt8)(fr n:Nat)(h:(Cu s(fr,false)n).2.2=false):fr+(n+7)/8≤s.length:=by
 unfold Cu at h;split at h
 ·rename_i hc;rw[hc]at h;cases h
 ·rename_i hc;apply Nat.le_of_not_lt;intro hlt;apply hc;unfold D8;rw[if_pos(.inr hlt)]
end Hm
structure Ej(w wx:World)(p b ch gr gs:Nat)(ah:Option Addr)(s:List UInt8)(st:Hm.RS)(o hd rows:List(List Bool))(sz:List Nat):Prop where
 own:wx.ownsRow b 9 1(.slice ah hd.length ch)hd.length(Ao hd)
 tr:TR wx w.heap.size o
 kept:Aa(fun j=>j=p)w wx
 rdr:Cj wx p s st
 rows:wx.heap[gr]?=some(.cells(Ao rows).toArray 9(0,0))
 sizes:wx.heap[gs]?=some(.cells(Ac sz).toArray 3(0,0))
 ord:p<w.heap.size∧w.heap.size<gr∧gr<gs
 apart: ∀k,(Value.slice ah hd.length ch).ownBlock=some k→w.heap.size<k∧k<gr
theorem Ej.setSz{w wx:World}{p b ch gr gs:Nat}{ah:Option Addr}{s:List UInt8}{st:Hm.RS}{o hd rows:List(List Bool)}{sz:List Nat}(h:Ej w wx p b ch gr gs ah s st o hd rows sz)(i x:Nat):
  Ej w(wx.setCell⟨gs,i,none⟩(.int .i64(x:Nat)))p b ch gr gs ah s st o hd rows(sz.set i x):=by
 have ho:=h.ord;have hk:Aa(fun j=>j=gs)wx(wx.setCell⟨gs,i,none⟩(.int .i64(x:Nat))):=(Aa.refl(fun j=>j=gs)wx).setCell(p:=⟨gs,i,none⟩)(.inr rfl)_;refine⟨hk.owns h.own(fun k hk e=>by have:=h.apart k hk;omega),hk.row h.tr(by omega),h.kept.setCell(p:=⟨gs,i,none⟩)(.inl(by show w.heap.size≤gs;omega))_,hk.row h.rdr(by omega),hk.row h.rows(by omega),?_,ho,h.apart⟩;rw[heap_setCell_same wx gs i _ _ _ h.sizes];congr 2;simp[Ac,List.map_set]
theorem Ej.setRow{w wx:World}{p b ch gr gs:Nat}{ah:Option Addr}{s:List UInt8}{st:Hm.RS}{o hd rows:List(List Bool)}{sz:List Nat}(h:Ej w wx p b ch gr gs ah s st o hd rows sz)(i:Nat)(x:List Bool):
  Ej w(wx.setCell⟨gr,i,none⟩(.string⟨(Ad x).toArray⟩))p b ch gr gs ah s st o hd(rows.set i x)sz:=by
 have ho:=h.ord;have hk:Aa(fun j=>j=gr)wx(wx.setCell⟨gr,i,none⟩(.string⟨(Ad x).toArray⟩)):=(Aa.refl(fun j=>j=gr)wx).setCell(p:=⟨gr,i,none⟩)(.inr rfl)_;refine⟨hk.owns h.own(fun k hk e=>by have:=h.apart k hk;omega),hk.row h.tr(by omega),h.kept.setCell(p:=⟨gr,i,none⟩)(.inl(by show w.heap.size≤gr;omega))_,hk.row h.rdr(by omega),?_,hk.row h.sizes(by omega),ho,h.apart⟩;rw[heap_setCell_same wx gr i _ _ _ h.rows];congr 2;simp[Ao,List.map_set]
theorem Ej.drew{w wx:World}{p b ch gr gs:Nat}{ah:Option Addr}{s:List UInt8}{st:Hm.RS}{o hd rows:List(List Bool)}{sz:List Nat}(h:Ej w wx p b ch gr gs ah s st o hd rows sz):
  Ej w wx.drew p b ch gr gs ah s st o hd rows sz:=⟨h.own,h.tr,h.kept.drew,h.rdr,h.rows,h.sizes,h.ord,h.apart⟩
theorem Ej.call{w wx wy:World}{p b ch gr gs:Nat}{ah:Option Addr}{s:List UInt8}{st st':Hm.RS}{o hd rows:List(List Bool)}{sz:List Nat}(h:Ej w wx p b ch gr gs ah s st o hd rows sz)(hk:Aa(fun j=>j=p)wx wy)(hr:Cj wy p s st'):
  Ej w wy p b ch gr gs ah s st' o hd rows sz:=by
 have ho:=h.ord;exact⟨hk.owns h.own(fun k hk e=>by have:=h.apart k hk;omega),hk.row h.tr(by omega),h.kept.trans hk(fun _ _ h=>h),hr,hk.row h.rows(by omega),hk.row h.sizes(by omega),ho,h.apart⟩
set_option maxRecDepth 20000 in
set_option maxHeartbeats 2000000 in
theorem Aed(p n fr:Nat)(o:List(List Bool))(s:List UInt8)(w:World)(h:Cj w p s(fr,false))(hol:o.length=256)(hox: ∀x∈o,x.length≤255)(hn:n≤6000)(hst:fr≤s.length)(hs:s.length≤30000):
  Calls Tryz.prog 77#[.pointer(some⟨p,0,none⟩),.int .i64 n,.agg(Ao o).toArray]w fun e w'=> ∃(hd:List(List Bool))(a:Nat),Ev(Hm.cdL o)hd∧Aa(fun j=>j=p)w w'∧
   ((Jl s fr n hd o=none∧e= .returned(.string⟨#[]⟩)∧Cj w' p s(a,true))∨ ∃t,Jl s fr n hd o=some t∧e= .returned(.string⟨t.toArray⟩)∧Cj w' p s(a,false)):=by
 obtain⟨i0,hi,hz0,hz1,hz2⟩:=info_parts Jr;obtain⟨j0,hj,hy0,hy1,hy2⟩:=info_parts Acl;obtain⟨k0,hk,hx0,hx1,hx2⟩:=info_parts Ow;have hpw:p<w.heap.size:=lt_of_block h;have HOL:Hid(o.length=256):=hol;have HHE:Hid _:=fun W=>Sq o W hol hox;have HRD:Hid(Cj w p s(fr,false)):=h;have HOX:Hid(∀x∈o,x.length≤255):=hox;clear hox hol h
 go_enter Tryz.func77,Tryz.ntmps77
 go_upto_region 1 with fail;have g0:TR(w.alloc(.cells(Ao o).toArray 113))w.heap.size o:=heap_alloc_new w _;have hk0:Aa(fun _=>False)w(w.alloc(.cells(Ao o).toArray 113)):=(Aa.refl _ _).alloc _;generalize w.alloc(.cells(Ao o).toArray 113)=W at*;have HW:Hid(TR W w.heap.size o∧Aa(fun _=>False)w W):=⟨g0,hk0⟩;obtain⟨TT,hTT⟩: ∃a,a=(Ao o).toArray:=⟨_,rfl⟩;have hts:TT.size=256:=by rw[hTT,Alj,Bl];exact HOL.out
 have hrow:W.heap[w.heap.size]?=some(.cells TT 113(0,0)):=by rw[hTT];exact g0
 have hhe:=HHE.out W;rw[←hTT]at hhe⊢;clear g0 hk0 hTT
 go_wp2_with(first
  |(refine wpList_load_row rfl 113 _ rfl w.heap.size rfl 113 TT(0,0)_ hrow Tryz.underlying113 rfl(by rw[hts];exact Cy)?_))
 refine hhe.mono ?_;rintro e W2⟨v,hd,rfl,hho,hhl,hown,hkh⟩;obtain⟨ah,ch,hv,_⟩:=A0 hown;subst hv;have hk2:Aa(fun _=>False)w W2:=HW.out.2.trans hkh(fun _ _ h=>h);have H2:Hid(Ev(Hm.cdL o)hd∧W2.ownsRow W.heap.size 9 1(.slice ah hd.length ch)hd.length(Ao hd)∧TR W2 w.heap.size o∧Aa(fun _=>False)w W2∧Cj W2 p s(fr,false)):=⟨hho,hown,HW.out.1.kept hkh id,hk2,hk2.row HRD.out id⟩;have hW0:w.heap.size<W.heap.size:=lt_of_block HW.out.1;have hW2:w.heap.size<W2.heap.size:=Al9 hW0 hkh.size;have hap: ∀k,(Value.slice ah hd.length ch).ownBlock=some k→w.heap.size<k∧k<W2.heap.size:=fun k hk=>by have:=hown.lt k hk;omega
 clear hho hown hkh hhe hrow hts hk2 HRD HW HHE;go_upto_region 3 with(at_make;refine wpList_make_full _ rfl _ _ 26 rfl W2.heap.size 9 j0(.string⟨#[]⟩)1 Tryz.underlying26 hj hy0 hy1 .i64 .i64 _ _ hd.length rfl rfl rfl rfl(by rw[hy2];omega)(by unfold maxLen;omega)(Alc _)?_;intro w3 ho3 hg3);have hk3:Aa(fun _=>False)W2 w3:=(Aa.refl _ _).grown hg3(fun k hk=>by cases hk);have hr3:w3.heap[W2.heap.size]?=some(.cells(Ao(List.replicate hd.length [])).toArray 9(0,0)):=by
  rw[Ana,show(Value.string⟨#[]⟩).cells= #[Value.string⟨#[]⟩]from rfl,toList_madeCells_one]at ho3;rcases ho3.2 with⟨h1,_⟩|⟨g2,cap,cur,h1,_,hg,_,_,hs,ht⟩
  ·cases h1
  ·cases h1;have e:cur.toList.take(hd.length*1)=cur.toList:=Alw(by simp;omega);have e2:cur=(Ao(List.replicate hd.length [])).toArray:=by
    apply Amm;rw[←e,ht];simp[Ao,Ad]
   rw[hg,e2]
 have H3:Hid(Aa(fun _=>False)W2 w3∧w3.heap[W2.heap.size]?=some(.cells(Ao(List.replicate hd.length [])).toArray 9(0,0))):=⟨hk3,hr3⟩;have hW3:=lt_of_block hr3;clear ho3 hg3 hk3 hr3;go_upto_region 4 with(at_make;refine wpList_make_full _ rfl _ _ 64 rfl w3.heap.size 3 i0(.int .i64 0)1 Tryz.underlying64 hi hz0 hz1 .i64 .i64 _ _ hd.length rfl rfl rfl rfl(by rw[hz2];omega)(by unfold maxLen;omega)(Alc _)?_;intro w4 ho4 hg4);have hk4:Aa(fun _=>False)w3 w4:=(Aa.refl _ _).grown hg4(fun k hk=>by cases hk);have hr4:w4.heap[w3.heap.size]?=some(.cells(Ac(List.replicate hd.length 0)).toArray 3(0,0)):=by
  rw[Ana,show(Value.int .i64 0).cells= #[Value.int .i64 0]from rfl,toList_madeCells_one]at ho4;rcases ho4.2 with⟨h1,_⟩|⟨g2,cap,cur,h1,_,hg,_,_,hs,ht⟩
  ·cases h1
  ·cases h1;have e:cur.toList.take(hd.length*1)=cur.toList:=Alw(by simp;omega);have e2:cur=(Ac(List.replicate hd.length 0)).toArray:=by
    apply Amm;rw[←e,ht];simp[Ac]
   rw[hg,e2]
 have hk24:Aa(fun _=>False)W2 w4:=H3.out.1.trans hk4(fun _ _ h=>h);have H4:Hid(Ej w w4 p W.heap.size ch W2.heap.size w3.heap.size ah s(fr,false)o hd(List.replicate hd.length [])(List.replicate hd.length 0)):=
  ⟨hk24.owns H2.out.2.1(fun _ _ h=>h),H2.out.2.2.1.kept hk24 id,(H2.out.2.2.2.1.trans hk24(fun _ _ h=>h)).wider(T:=fun j=>j=p)(fun _ _ h=>h.elim),hk24.row H2.out.2.2.2.2 id,hk4.row H3.out.2 id,hr4,⟨hpw,hW2,hW3⟩,hap⟩
 have HHO:Hid(Ev(Hm.cdL o)hd):=H2.out.1;have HHL:Hid(∀r,r<hd.length→(hd.getD r []).length≤254):=fun r hr=>by
  obtain⟨b',hb1,_⟩:=(HHO.out.mem _).1(Sp hr);have hb:(Hm.cdL o b').length≤255:=by
   unfold Hm.cdL;rw[Ak7,Ak8(show b'.toNat<o.length from by have:=HOL.out;have:=b'.toNat_lt;omega)];exact HOX.out _(Alh _)
  omega
 obtain⟨gr,hgr⟩: ∃g,g=W2.heap.size:=⟨_,rfl⟩;obtain⟨gs,hgs⟩: ∃g,g=w3.heap.size:=⟨_,rfl⟩;clear hap;rw[←hgr]at H4 hW2 hW3⊢;rw[←hgs]at H4 hW3⊢;clear ho4 hg4 hk4 hr4 hk24 H2 H3 hgr hgs;generalize W.heap.size=bb at*;go_upto_if 32 with fail
 go_cut [9]from 30 to 35(fun v wx=>v= .slice(some⟨gs,0,none⟩)hd.length hd.length∧Ej w wx p bb ch gr gs ah s(fr,false)o hd(List.replicate hd.length [])((List.replicate hd.length 0).set 0 n))
 case first=>
  by_cases h0:0<hd.length
  ·have h0d:decide((0:Int)<(hd.length:Int))=true:=decide_eq_true(by omega);have c0:w4.cell?⟨gs,0,none⟩=some(.int .i64 0):=by
    rw[cell_of_row _ _ 0 _ _ _ H4.out.sizes];simp[Ac,h0]
   have f0:w4.frozen?⟨gs,0,none⟩=false:=frozen_of_row _ _ 0 _ _ H4.out.sizes;go_wp2_with fail;go_meet
   case rel=>exact⟨rfl,H4.out.setSz 0 n⟩
  ·have h0d:decide((0:Int)<(hd.length:Int))=false:=decide_eq_false(by omega);go_wp2_with fail;go_meet
   case rel=>
    refine⟨rfl,?_⟩;have e:hd.length=0:=by omega
    have:=H4.out;rw[e]at this⊢;exact this
 case rest=>
  obtain⟨rfl,hcol⟩:=hcut;have hr':wc.heap[p]?=some(.cells#[.string⟨s.toArray⟩,.int .i64(fr:Nat),.bool false]145(0,0)):=hcol.rdr;have c1:wc.cell?⟨p,1,none⟩=some(.int .i64(fr:Nat)):=cell_of_row _ _ 1 _ _ _ hr';have HC:Hid(Ej w wc p bb ch gr gs ah s(fr,false)o hd(List.replicate hd.length [])((List.replicate hd.length 0).set 0 n)):=hcol;clear hr' hcol H4;go_wp2_with fail
  go_loopw [11,12](fun va vi wr=> ∃(i a ap:Nat)(rows:List(List Bool))(sz:List Nat),i≤hd.length∧vi= .int .i64 i∧va= .int .i64 a∧Hid(G5 s fr n hd i=some(rows,sz,a))∧rows.length=i∧sz.length=hd.length∧(∀x∈sz,x≤6000)∧a≤240000∧Hid(Ej w wr p bb ch gr gs ah s(ap,false)o hd(rows++List.replicate(hd.length-i) [])sz))(fun _ vi _=>hd.length-(intOf vi).toNat)
  case atStart=>
   refine⟨0,0,fr,[],(List.replicate hd.length 0).set 0 n,Alk _,rfl,rfl,rfl,rfl,by simp,fun x hx=>?_,Alk _,HC.out⟩;rcases Ane hx with h|h
   ·rw[Anj h];omega
   ·omega
  case round=>
   obtain⟨i,a,ap,rows,sz,hil,rfl,rfl,HR,hrl,hzl,hz6,ha,HCR⟩:=hrel;have hr':wr.heap[p]?=some(.cells#[.string⟨s.toArray⟩,.int .i64(ap:Nat),.bool false]145(0,0)):=HCR.out.rdr;have c1:wr.cell?⟨p,1,none⟩=some(.int .i64(ap:Nat)):=cell_of_row _ _ 1 _ _ _ hr';have c2:wr.cell?⟨p,2,none⟩=some(.bool false):=cell_of_row _ _ 2 _ _ _ hr';have f1:wr.frozen?⟨p,1,none⟩=false:=frozen_of_row _ _ 1 _ _ hr';clear hr'
   by_cases hlt:i<hd.length
   ·have hltI:(i:Int)<(hd.length:Int):=by omega
    have hdl:decide((i:Int)<(hd.length:Int))=true:=decide_eq_true hltI;obtain⟨z,hz⟩: ∃z,z=sz.getD i 0:=⟨_,rfl⟩;have hzm:z≤6000:=by
     rw[hz,Ak7,Ak8(show i<sz.length from by omega)];exact hz6 _(Alh _)
    have cz:wr.cell?⟨gs,i,none⟩=some(.int .i64(z:Nat)):=by
     rw[cell_of_row _ _ i _ _ _ HCR.out.sizes,hz];simp[Ac,List.getD_eq_getElem?_getD,List.getElem?_eq_getElem(show i<sz.length from by omega)]
    have hk1:Aa(fun j=>j=p)wr(wr.setCell⟨p,1,none⟩(.int .i64(fr:Nat))):=(Aa.refl(fun j=>j=p)wr).setCell(p:=⟨p,1,none⟩)(.inr rfl)_;have hrd1:Cj(wr.setCell⟨p,1,none⟩(.int .i64(fr:Nat)))p s(fr,false):=by
     have:=heap_setCell_same wr p 1 _ _(.int .i64(fr:Nat))HCR.out.rdr;exact this
    have HC1:Hid(Ej w(wr.setCell⟨p,1,none⟩(.int .i64(fr:Nat)))p bb ch gr gs ah s(fr,false)o hd(rows++List.replicate(hd.length-i) [])sz):=HCR.out.call hk1 hrd1;have hbits:=Y3 p(a+z)s(fr,false)_ hrd1(by omega)hst hs;have HL:Hid((Cu s(fr,false)(a+z)).2.2=false→(Cu s(fr,false)(a+z)).1.length=a+z):=Ob s(fr,false)(a+z);have HNX:Hid(G5 s fr n hd(i+1)=if(Cu s(fr,false)(a+z)).2.2=true then none else some(rows++[(Cu s(fr,false)(a+z)).1.drop a],E7 hd i(((Cu s(fr,false)(a+z)).1.drop a).count true)(((Cu s(fr,false)(a+z)).1.drop a).length-((Cu s(fr,false)(a+z)).1.drop a).count true)sz(hd.length-(i+1)),a+z)):=by
     show _=_;rw[G5,HR.out];simp only;rw[←hz]
    have cz1:(wr.setCell⟨p,1,none⟩(.int .i64(fr:Nat))).cell?⟨gs,i,none⟩=some(.int .i64(z:Nat)):=by
     rw[cell_of_row _ _ i _ _ _ HC1.out.sizes,hz];simp[Ac,List.getD_eq_getElem?_getD,List.getElem?_eq_getElem(show i<sz.length from by omega)]
    have HFT:Hid((Cu s(fr,false)(a+z)).2.2=false→fr+(a+z+7)/8≤s.length):=Agt s fr(a+z);generalize Cu s(fr,false)(a+z)=RB at*;obtain⟨bs,ap2,bad⟩:=RB;obtain⟨az,haz⟩: ∃x,x=a+z:=⟨_,rfl⟩;have zaz:(a:Int)+(z:Int)=(az:Int):=by omega
    rw[←haz]at hbits HL HNX;have HAZ:Hid(az=a+z∧z=sz.getD i 0):=⟨haz,hz⟩;have hazb:az≤246000:=by omega
    clear haz hz hk1 hrd1 cz;generalize hW1:wr.setCell⟨p,1,none⟩(.int .i64(fr:Nat))=W1 at*;go_upto_region 12 with fail;clear hW1 c1 c2 f1;go_wp2_with fail;refine hbits.mono ?_;rintro e W5⟨rfl,hrd5,hk5⟩;have HC5:Hid(Ej w W5 p bb ch gr gs ah s(ap2,bad)o hd(rows++List.replicate(hd.length-i) [])sz):=HC1.out.call hk5 hrd5;have hr5:W5.heap[p]?=some(.cells#[.string⟨s.toArray⟩,.int .i64(ap2:Nat),.bool bad]145(0,0)):=hrd5;have c5:W5.cell?⟨p,2,none⟩=some(.bool bad):=cell_of_row _ _ 2 _ _ _ hr5;obtain⟨S,hS⟩: ∃S,S=(⟨(Ad bs).toArray⟩:ByteArray):=⟨_,rfl⟩;have HS:Hid(S=(⟨(Ad bs).toArray⟩:ByteArray)∧S.size=bs.length):=⟨hS,by rw[hS];show(Ad bs).toArray.size=_;simp[Ad]⟩;rw[←hS];clear hbits hrd5 hk5 hr5 hS cz1 HC1 HCR;cases bad with
    |true=>
     have HNO:Hid(Jl s fr n hd o=none):=by
      show _=_;have h1:G5 s fr n hd(i+1)=none:=by rw[HNX.out,if_pos rfl]
      unfold Jl;rw[show hd.length=i+1+(hd.length-(i+1))from by omega,Un _ _ _ _ _ h1]
     go_wp2_with fail;go_ret;exact⟨hd,ap2,HHO.out,HC5.out.kept,.inl⟨HNO.out,rfl,HC5.out.rdr⟩⟩
    |false=>
     rw[if_neg(by simp)]at HNX;have hbl:=HL.out rfl;have hazm:az≤240000:=by have:=HFT.out rfl;have:=HAZ.out.1;omega
     obtain⟨row,hrow⟩: ∃x,x=bs.drop a:=⟨_,rfl⟩;rw[←hrow]at HNX;have hrz:row.length=z:=by rw[hrow,Aly];have:=HAZ.out.1;omega
     have haS:(a:Int)≤(S.size:Int):=by have:=HS.out.2;have:=HAZ.out.1;omega
     have haN:a≤S.size:=by omega
     have hSb:S.size≤246000:=by rw[HS.out.2];omega
     have hEx:S.extract a S.size=⟨(Ad row).toArray⟩:=by
      rw[hrow,show S.size=a+(S.size-a)from by omega,HS.out.1,Pa,Alw];rw[Aly];show bs.length-a≤(Ad bs).toArray.size-a;simp[Ad]
     have cr:W5.cell?⟨gr,i,none⟩=some(.string⟨#[]⟩):=by
      rw[cell_of_row _ _ i _ _ _ HC5.out.rows,Alp,Ao,Aln,Alm(by omega),An0,if_pos(by omega)];rfl
     have fr5:W5.frozen?⟨gr,i,none⟩=false:=frozen_of_row _ _ i _ _ HC5.out.rows;clear hrow;have HC6:Hid(Ej w(W5.setCell⟨gr,i,none⟩(.string⟨(Ad row).toArray⟩))p bb ch gr gs ah s(ap2,false)o hd(rows++[row]++List.replicate(hd.length-(i+1)) [])sz):=by
      have h1:=HC5.out.setRow i row;have e:(rows++List.replicate(hd.length-i)([]:List Bool)).set i row=rows++[row]++List.replicate(hd.length-(i+1)) []:=by
       rw[Amb _ _(by omega),hrl,Ama,show hd.length-i=(hd.length-(i+1))+1 from by omega,Amt,Ala,Alo];rfl
      rw[e]at h1;exact h1
     go_upto_region 16 with fail;generalize W5.setCell⟨gr,i,none⟩(.string⟨(Ad row).toArray⟩)=W6 at*;obtain⟨S2,hS2⟩: ∃S2,S2=(⟨(Ad row).toArray⟩:ByteArray):=⟨_,rfl⟩;have hS2s:S2.size=z:=by rw[hS2,←hrz];show(Ad row).toArray.size=_;simp[Ad]
     have HG:Hid(∀k,(h:k<row.length)→ ∃hi:k<S2.size,S2[k]=if row[k]then 49 else 48):=fun k hk=>by
      have h1:k<S2.size:=by omega
      refine⟨h1,?_⟩;subst hS2;show(Ad row).toArray[k]'_=_;simp[Ad]
     have cz6:W6.cell?⟨gs,i,none⟩=some(.int .i64(z:Nat)):=by
      rw[cell_of_row _ _ i _ _ _ HC6.out.sizes,HAZ.out.2];simp[Ac,List.getD_eq_getElem?_getD,List.getElem?_eq_getElem(show i<sz.length from by omega)]
     have cr6:W6.cell?⟨gr,i,none⟩=some(.string S2):=by
      rw[cell_of_row _ _ i _ _ _ HC6.out.rows,Alp,Ao,Aln,Alo,Alm(by omega),hrl,Ama,hS2];rfl
     rw[←hS2];have HS2:Hid(S2=(⟨(Ad row).toArray⟩:ByteArray)):=hS2;clear hS2 cr fr5 c5 HC5 hEx haS haN hSb HS;go_wp2_with fail
     go_loopw [14,15](fun vo vk wq=> ∃k:Nat,k≤z∧vk= .int .i64 k∧vo= .int .i64((row.take k).count true:Nat)∧wq=W6)(fun _ vk _=>z-(intOf vk).toNat)
     case atStart=>exact⟨0,Alk _,rfl,rfl,rfl⟩
     case round=>
      obtain⟨k,hkz,rfl,rfl,rfl⟩:=hrel;have hcl:(row.take k).count true≤k:=Alr List.count_le_length(by rw[Alg];omega)
      by_cases hkl:k<z
      ·have hkI:(k:Int)<(z:Int):=by omega
       have hkd:decide((k:Int)<(z:Int))=true:=decide_eq_true hkI;obtain⟨hkS,hSk⟩:=HG.out k(by omega);have hkSI:(k:Int)<(S2.size:Int):=by omega
       have HCT:Hid((row.take(k+1)).count true=(row.take k).count true+if row[k]then 1 else 0):=by
        show _=_;rw[Ale(by omega),List.count_append];cases row[k]<;>rfl
       generalize(row.take k).count true=ct at*;generalize row[k]=bk at*;cases bk with
       |true=>
        have hS49:S2[k]=49:=hSk;clear hSk;go_wp2_with fail;go_roundw
        case rel=>exact⟨k+1,by omega,by go_num,by rw[HCT.out];go_num,trivial⟩
        case measure=>simp[intOf];omega
       |false=>
        have hS48:S2[k]=48:=hSk;clear hSk;go_wp2_with fail;go_roundw
        case rel=>exact⟨k+1,by omega,by go_num,by rw[HCT.out];rfl,trivial⟩
        case measure=>simp[intOf];omega
      ·have hkI: ¬(k:Int)<(z:Int):=by omega
       have hkd:decide((k:Int)<(z:Int))=false:=decide_eq_false hkI;have hkk:k=z:=by omega
       subst hkk;have htk:row.take k=row:=Alw(by omega);rw[htk]at hcl⊢;generalize row.count true=ct at*;obtain⟨zr,hzr⟩: ∃x,x=k-ct:=⟨_,rfl⟩;have zct:(k:Int)-(ct:Int)=(zr:Int):=by omega
       have hzrb:zr≤6000:=by omega
       have HZR:Hid(zr=k-ct):=hzr;clear hzr;obtain⟨g,hg⟩: ∃g,ah=some⟨g,0,none⟩:=by
        rcases HC6.out.own.2 with⟨e,h0⟩|⟨g,cap,cur,e,_⟩
        ·omega
        ·exact⟨g,(Value.slice.inj e).1⟩
       subst hg;go_wp2_with fail
       go_loopw [16](fun vk wq=> ∃j:Nat,i+1+j≤hd.length∧vk= .int .i64((i+1+j:Nat):Int)∧Hid(Ej w wq p bb ch gr gs(some⟨g,0,none⟩)s(ap2,false)o hd(rows++[row]++List.replicate(hd.length-(i+1)) [])(E7 hd i ct zr sz j)))(fun vk _=>hd.length-(intOf vk).toNat)
       case atStart=>exact⟨0,by omega,by first|rfl|go_num,HC6.out⟩
       case round=>
        obtain⟨j,hjl,rfl,HCQ⟩:=hrel;obtain⟨q,hq⟩: ∃q,q=i+1+j:=⟨_,rfl⟩;rw[←hq]at hjl⊢
        by_cases hqd:q<hd.length
        ·have hqI:(q:Int)<(hd.length:Int):=by omega
         have hqD:decide((q:Int)<(hd.length:Int))=true:=decide_eq_true hqI;have HHC:Hid(∀(W7:World)(r:Nat),W7.ownsRow bb 9 1(.slice(some⟨g,0,none⟩)hd.length ch)hd.length(Ao hd)→r<hd.length→W7.cell?⟨g,r,none⟩=some(.string⟨(Ad(hd.getD r [])).toArray⟩)):=fun W7 r ho hr=>by
          rw[ho.cellAt r(by omega)];simp[Ao,List.getD_eq_getElem?_getD,List.getElem?_eq_getElem hr]
         have HSZ:Hid(E7 hd i ct zr sz(j+1)=if hd.getD q []=hd.getD i []++[true]then(E7 hd i ct zr sz j).set q ct else if hd.getD q []=hd.getD i []++[false]then(E7 hd i ct zr sz j).set q zr else E7 hd i ct zr sz j):=by
          show _=_;rw[E7,←hq]
         have cq:=HHC.out wr q HCQ.out.own hqd;have ci:=HHC.out wr i HCQ.out.own hlt;have crr:wr.cell?⟨gr,i,none⟩=some(.string S2):=by
          rw[cell_of_row _ _ i _ _ _ HCQ.out.rows,Alp,Ao,Aln,Alo,Alm(by omega),hrl,Ama,HS2.out];rfl
         have hq1:((⟨(Ad(hd.getD q [])).toArray⟩:ByteArray).toList==((⟨(Ad(hd.getD i [])).toArray⟩:ByteArray)++⟨#[49]⟩).toList)=decide(hd.getD q []=hd.getD i []++[true]):=Uo _ _ true;have hq0:((⟨(Ad(hd.getD q [])).toArray⟩:ByteArray).toList==((⟨(Ad(hd.getD i [])).toArray⟩:ByteArray)++⟨#[48]⟩).toList)=decide(hd.getD q []=hd.getD i []++[false]):=Uo _ _ false;have HCS:Hid(∀x:Nat,Ej w(wr.setCell⟨gs,q,none⟩(.int .i64(x:Nat)))p bb ch gr gs(some⟨g,0,none⟩)s(ap2,false)o hd(rows++[row]++List.replicate(hd.length-(i+1)) [])((E7 hd i ct zr sz j).set q x)):=fun x=>HCQ.out.setSz q x;have cq1:=HHC.out _ q(HCS.out ct).own hqd;have ci1:=HHC.out _ i(HCS.out ct).own hlt;have hszl:q<(E7 hd i ct zr sz j).length:=by rw[Kw];omega
         have cs:wr.cell?⟨gs,q,none⟩=some(.int .i64((E7 hd i ct zr sz j)[q]:Nat)):=by
          rw[cell_of_row _ _ q _ _ _ HCQ.out.sizes];simp[Ac,List.getElem?_eq_getElem hszl]
         have fs:wr.frozen?⟨gs,q,none⟩=false:=frozen_of_row _ _ q _ _ HCQ.out.sizes;have HLI:Hid((⟨(Ad(hd.getD i [])).toArray⟩:ByteArray).size=(hd.getD i []).length):=by show(Ad _).toArray.size=_;simp[Ad]
         have HSM:Hid(∀x,hd.getD q []=hd.getD i []++[true]→hd.getD q []=hd.getD i []++[false]→x):=fun x e1 e2=>by rw[e1]at e2;simp at e2
         have hiI2:(i:Int)<(hd.length:Int):=hltI;generalize(E7 hd i ct zr sz j)[q]=old at*;obtain⟨Hq,hHq⟩: ∃x,x=(⟨(Ad(hd.getD q [])).toArray⟩:ByteArray):=⟨_,rfl⟩;obtain⟨Hi,hHi⟩: ∃x,x=(⟨(Ad(hd.getD i [])).toArray⟩:ByteArray):=⟨_,rfl⟩;rw[←hHq]at cq cq1 hq1 hq0;rw[←hHi]at ci ci1 hq1 hq0 HLI;have hHz:Hi.size≤254:=by rw[HLI.out];exact HHL.out i hlt
         have HQ:Hid(q=i+1+j):=hq;clear hHq hHi hq
         by_cases e1:hd.getD q []=hd.getD i []++[true]
         ·rw[decide_eq_true e1]at hq1;rw[decide_eq_false(fun e2=>HSM.out False e1 e2)]at hq0;rw[if_pos e1]at HSZ;have HN:Hid(Ej w(wr.setCell⟨gs,q,none⟩(.int .i64(ct:Nat))).drew.drew p bb ch gr gs(some⟨g,0,none⟩)s(ap2,false)o hd(rows++[row]++List.replicate(hd.length-(i+1)) [])(E7 hd i ct zr sz(j+1))):=by rw[HSZ.out];exact(HCS.out ct).drew.drew
          clear e1 HSM HCS HSZ;go_wp2_with fail
          go_region
          go_wp2_with fail
          go_region
          go_wp2_with fail;go_roundw
          case rel=>exact⟨j+1,by have:=HQ.out;omega,by have:=HQ.out;go_num,HN⟩
          case measure=>simp[intOf];omega
         ·by_cases e2:hd.getD q []=hd.getD i []++[false]
          ·rw[decide_eq_false e1]at hq1;rw[decide_eq_true e2]at hq0;rw[if_neg e1,if_pos e2]at HSZ;have HN:Hid(Ej w(wr.setCell⟨gs,q,none⟩(.int .i64(zr:Nat))).drew.drew p bb ch gr gs(some⟨g,0,none⟩)s(ap2,false)o hd(rows++[row]++List.replicate(hd.length-(i+1)) [])(E7 hd i ct zr sz(j+1))):=by rw[HSZ.out];exact(HCS.out zr).drew.drew
           clear e1 e2 HSM HCS HSZ;go_wp2_with fail
           go_region
           go_wp2_with fail
           go_region
           go_wp2_with fail;go_roundw
           case rel=>exact⟨j+1,by have:=HQ.out;omega,by have:=HQ.out;go_num,HN⟩
           case measure=>simp[intOf];omega
          ·rw[decide_eq_false e1]at hq1;rw[decide_eq_false e2]at hq0;rw[if_neg e1,if_neg e2]at HSZ;have HN:Hid(Ej w wr.drew.drew p bb ch gr gs(some⟨g,0,none⟩)s(ap2,false)o hd(rows++[row]++List.replicate(hd.length-(i+1)) [])(E7 hd i ct zr sz(j+1))):=by rw[HSZ.out];exact HCQ.out.drew.drew
           clear e1 e2 HSM HCS HSZ;go_wp2_with fail
           go_region
           go_wp2_with fail
           go_region
           go_wp2_with fail;go_roundw
           case rel=>exact⟨j+1,by have:=HQ.out;omega,by have:=HQ.out;go_num,HN⟩
           case measure=>simp[intOf];omega
        ·have hqI: ¬(q:Int)<(hd.length:Int):=by omega
         have hqD:decide((q:Int)<(hd.length:Int))=false:=decide_eq_false hqI;have hjj:j=hd.length-(i+1):=by omega
         have HNX2:Hid(G5 s fr n hd(i+1)=some(rows++[row],E7 hd i ct zr sz j,az)):=by
          show _=_;rw[HNX.out,hrz,hjj,HZR.out]
         clear HNX;go_wp2_with fail;go_roundw
         case rel=>
          exact⟨i+1,az,ap2,rows++[row],E7 hd i ct zr sz j,by omega,by go_num,rfl,HNX2,by rw[Ald,hrl];rfl,by rw[Kw,hzl],Ae1 hd i ct zr sz 6000(by omega)(by omega)hz6 j,hazm,HCQ⟩
         case measure=>simp[intOf];omega
   ·have hltI: ¬(i:Int)<(hd.length:Int):=by omega
    have hdl:decide((i:Int)<(hd.length:Int))=false:=decide_eq_false hltI;have hii:i=hd.length:=by omega
    have HRR:Hid(Jl s fr n hd o=(Jk hd rows o n).map(·.1)):=by
     show _=_;unfold Jl;rw[←hii,HR.out]
    have HCE:Hid(Ej w wr p bb ch gr gs ah s(ap,false)o hd rows sz):=by
     have:=HCR.out;rw[show hd.length-i=0 from by omega,Aoc,Amk]at this;exact this
    have hrl2:rows.length=hd.length:=by omega
    have HRS:Hid(∀r∈rows,r.length≤240000):=fun r hr=>by have:=Ss s fr n hd i rows sz a HR.out r hr;omega
    clear HCR HR hii hz6 ha HC c1 c2 f1;go_upto_region 31 with(at_make;refine wpList_make_full _ rfl _ _ 64 rfl wr.heap.size 3 i0(.int .i64 0)1 Tryz.underlying64 hi hz0 hz1 .i64 .i64 _ _ hd.length rfl rfl rfl rfl(by rw[hz2];omega)(by unfold maxLen;omega)(Alc _)?_;intro w5 ho5 hg5);have hk5:Aa(fun _=>False)wr w5:=(Aa.refl _ _).grown hg5(fun k hk=>by cases hk);have hr5:w5.heap[wr.heap.size]?=some(.cells(Ac(List.replicate hd.length 0)).toArray 3(0,0)):=by
     rw[Ana,show(Value.int .i64 0).cells= #[Value.int .i64 0]from rfl,toList_madeCells_one]at ho5;rcases ho5.2 with⟨h1,_⟩|⟨g2,cap,cur,h1,_,hg,_,_,hs,ht⟩
     ·cases h1
     ·cases h1;have e:cur.toList.take(hd.length*1)=cur.toList:=Alw(by simp;omega);have e2:cur=(Ac(List.replicate hd.length 0)).toArray:=by
       apply Amm;rw[←e,ht];simp[Ac]
      rw[hg,e2]
    have h5lt:=lt_of_block hr5;obtain⟨gn,hgn⟩: ∃g,g=wr.heap.size:=⟨_,rfl⟩;have H5:Hid(w5.heap[gn]?=some(.cells(Ac(List.replicate hd.length 0)).toArray 3(0,0))∧Aa(fun _=>False)wr w5∧gn=wr.heap.size):=⟨by rw[hgn];exact hr5,hk5,hgn⟩;rw[←hgn]at h5lt⊢;clear ho5 hg5 hk5 hr5 hgn;go_upto_region 32 with(at_make;refine wpList_make_own _ rfl _ _ 79 rfl w5.heap.size 5 k0(.int .u8 0)1 Tryz.underlying79 hk hx0 hx1 .i64 .i64 _ n rfl rfl rfl(by rw[hx2];omega)(by unfold maxLen;omega)(Alc _)?_;intro w6 ho6 hg6);have hk6:Aa(fun _=>False)w5 w6:=(Aa.refl _ _).grown hg6(fun k hk=>by cases hk);have H6:Hid(w6.heap[gn]?=some(.cells(Ac(List.replicate hd.length 0)).toArray 3(0,0))∧Aa(fun _=>False)wr w6∧w6.ownsRow w5.heap.size 5 1(.slice(some⟨w5.heap.size,0,none⟩)0 n)0 []∧gn=wr.heap.size∧w5.heap.size≤w6.heap.size):=⟨hk6.row H5.out.1 id,H5.out.2.1.trans hk6(fun _ _ h=>h),ho6,H5.out.2.2,hk6.size⟩;obtain⟨g5,hg5⟩: ∃g,g=w5.heap.size:=⟨_,rfl⟩;rw[←hg5]at H6 h5lt⊢;clear hk6 ho6 hg6 H5 hg5;obtain⟨M,hM⟩: ∃M,M=wr:=⟨_,rfl⟩;rw[←hM]at HCE H6;clear hM
    go_loopw [18](fun vb wx=> ∃(b:List UInt8)(nx:List Nat),b.length≤n∧Hid(Jk hd rows o b.length=some(b,nx))∧nx.length=hd.length∧Hid(wx.heap[gn]?=some(.cells(Ac nx).toArray 3(0,0)))∧Aa(fun _=>False)M wx∧wx.ownsRow g5 5 1 vb b.length(Ag b)∧g5≤wx.heap.size)(fun vb _=>n-Ak5 vb)
    case atStart=>exact⟨[],List.replicate hd.length 0,Alk _,rfl,by simp,H6.out.1,H6.out.2.1,H6.out.2.2.1,H6.out.2.2.2.2⟩
    case round=>
     obtain⟨b,nx,hbn,HB,hnl,HN0,hkM,hob,hg5w⟩:=hrel;obtain⟨ab,cb,hvb,_⟩:=A0 hob;subst hvb;have HOB:Hid(wr.ownsRow g5 5 1(.slice ab b.length cb)b.length(Ag b)∧Aa(fun _=>False)M wr):=⟨hob,hkM⟩;have HGN:Hid(gn=M.heap.size):=H6.out.2.2.2.1;clear hob hkM H6
     by_cases hbl:b.length<n
     ·have hbI:(b.length:Int)<(n:Int):=by omega
      have hbd:decide((b.length:Int)<(n:Int))=true:=decide_eq_true hbI;generalize wr=W7 at*;go_wp2_with fail
      go_loopw [19,20](fun vh vc wy=> ∃(f:Nat)(h:List Bool)(ny:List Nat)(c:Int),vh= .string⟨(Ad h).toArray⟩∧vc= .int .i64 c∧h.length≤255∧ny.length=hd.length∧Hid(wy.heap[gn]?=some(.cells(Ac ny).toArray 3(0,0)))∧Hid(Aa(fun j=>j=gn)W7 wy)∧Hid((c= -1∧f+h.length=256∧Gb hd rows o 256 nx []=Gb hd rows o f ny h)∨ ∃k:Nat,c=k∧k<256∧Gb hd rows o 256 nx []=some(k,ny)))(fun vh _ _=>300-Ak1 vh)
      case atStart=>exact⟨256,[],nx,-1,rfl,rfl,by simp,hnl,HN0,Aa.refl _ _,.inl⟨rfl,rfl,rfl⟩⟩
      case round=>
       obtain⟨f,h,ny,c,rfl,rfl,hh5,hyl,HNY,HKI,HIN⟩:=hrel;have HKM:Hid(Aa(fun _=>False)M wr):=HOB.out.2.trans HKI.out(fun j hj e=>by have:=HGN.out;omega);have HC7:Hid(Ej w wr p bb ch gr gs ah s(ap,false)o hd rows sz):=HCE.out.call(HKM.out.wider(fun _ _ h=>h.elim))(HKM.out.row HCE.out.rdr id);rcases HIN.out with⟨rfl,hf,he⟩|⟨k,rfl,hk256,he⟩
       ·obtain⟨f',rfl⟩: ∃f',f=f'+1:=⟨f-1,by omega⟩;have HE:Hid(Gb hd rows o 256 nx []=Gb hd rows o(f'+1)ny h):=he;have HBAD:Hid(Gb hd rows o(f'+1)ny h=none→Jl s fr n hd o=none):=fun e=>by
         have h1:Jk hd rows o(b.length+1)=none:=by
          rw[Jk,HB.out];simp only;rw[HE.out,e]
         rw[HRR.out,show n=b.length+1+(n-(b.length+1))from by omega,Zc _ _ _ _ h1];rfl
        have hfind:=Sr ah ch hd h wr(Ail HC7.out.own)(by omega);clear he HIN;go_wp2_with fail;refine hfind.mono ?_;rintro e W8⟨rfl,rfl⟩;clear hfind;have hr':W8.heap[p]?=some(.cells#[.string⟨s.toArray⟩,.int .i64(ap:Nat),.bool false]145(0,0)):=HC7.out.rdr;have c2:W8.cell?⟨p,2,none⟩=some(.bool false):=cell_of_row _ _ 2 _ _ _ hr';have f2:W8.frozen?⟨p,2,none⟩=false:=frozen_of_row _ _ 2 _ _ hr';clear hr';cases hfd:G9 hd h with
        |none=>
         have hfi:Ly hd h= -1:=by unfold Ly;rw[hfd]
         have HNO:Hid(Jl s fr n hd o=none):=HBAD.out(by rw[Gb,hfd]);rw[hfi];clear hfi hfd HBAD;go_wp2_with fail;go_quiet(fail);go_wp2_with fail;go_ret;have hb:=heap_setCell_same(W8.drewN nq)p 2 _ _(.bool true)HC7.out.rdr;exact⟨hd,ap,HHO.out,(HC7.out.kept.drewN nq).setCell(p:=⟨p,2,none⟩)(.inr rfl)_,.inl⟨HNO.out,rfl,hb⟩⟩
        |some i1=>
         have hfi:Ly hd h=(i1:Int):=by unfold Ly;rw[hfd]
         obtain⟨hi1,hhi⟩:=Acm hfd;have hh4:h.length≤254:=by
          have:=HHL.out i1 hi1;rw[Ak7,Ak8 hi1]at this;simp only[Am1]at this;rw[hhi]at this;exact this
         obtain⟨row,hrow⟩: ∃r,r=rows.getD i1 []:=⟨_,rfl⟩;obtain⟨x,hx⟩: ∃x,x=ny.getD i1 0:=⟨_,rfl⟩;obtain⟨R,hR⟩: ∃R,R=(⟨(Ad row).toArray⟩:ByteArray):=⟨_,rfl⟩;have hRs:R.size=row.length:=by rw[hR];show(Ad row).toArray.size=_;simp[Ad]
         have hRb:row.length≤240000:=by
          rw[hrow,Ak7,Ak8(show i1<rows.length by omega)];exact HRS.out _(Alh _)
         have cR:W8.cell?⟨gr,i1,none⟩=some(.string R):=by
          rw[cell_of_row _ _ i1 _ _ _ HC7.out.rows,Alp,Ao,Aln,Ak8(show i1<rows.length by omega),hR,hrow,Ak7,Ak8(show i1<rows.length by omega)];rfl
         have cX:W8.cell?⟨gn,i1,none⟩=some(.int .i64(x:Nat)):=by
          rw[cell_of_row _ _ i1 _ _ _ HNY.out,hx];simp[Ac,List.getD_eq_getElem?_getD,List.getElem?_eq_getElem(show i1<ny.length by omega)]
         have fX:W8.frozen?⟨gn,i1,none⟩=false:=frozen_of_row _ _ i1 _ _ HNY.out;have HST:Hid(Gb hd rows o(f'+1)ny h=if row.length≤x then none else match G9 o(h++[row.getD x false])with
           |some c=>some(c,ny.set i1(x+1))
           |none=>Gb hd rows o f'(ny.set i1(x+1))(h++[row.getD x false])):=by
          show _=_;rw[Gb,hfd];simp only;rw[←hrow,←hx];cases G9 o(h++[row.getD x false])<;>rfl
         have HRW:Hid(R=(⟨(Ad row).toArray⟩:ByteArray)∧x=ny.getD i1 0):=⟨hR,hx⟩;have hi1I:(i1:Int)<(hd.length:Int):=by omega
         have hi1R:(i1:Int)<(rows.length:Int):=by omega
         have hi0:decide((i1:Int)<0)=false:=decide_eq_false(by omega);rw[hfi];clear hfi hfd hrow hx hR
         by_cases hxr:row.length≤x
         ·have HNO:Hid(Jl s fr n hd o=none):=HBAD.out(by rw[HST.out,if_pos hxr]);have hxd:decide((row.length:Int)≤(x:Int))=true:=decide_eq_true(by omega);clear HBAD HST;go_wp2_with fail;go_quiet(fail);go_wp2_with fail;go_ret;have hb:=heap_setCell_same(W8.drewN nq)p 2 _ _(.bool true)HC7.out.rdr;exact⟨hd,ap,HHO.out,(HC7.out.kept.drewN nq).setCell(p:=⟨p,2,none⟩)(.inr rfl)_,.inl⟨HNO.out,rfl,hb⟩⟩
         ·have hxd:decide((row.length:Int)≤(x:Int))=false:=decide_eq_false(by omega);rw[if_neg hxr]at HST;obtain⟨q,hq⟩: ∃q,q=x+1:=⟨_,rfl⟩;have zq:(x:Int)+1=(q:Int):=by omega
          obtain⟨h',hh'⟩: ∃h',h'=h++[row.getD x false]:=⟨_,rfl⟩;obtain⟨H,hH⟩: ∃H,H=(⟨(Ad h).toArray⟩:ByteArray):=⟨_,rfl⟩;obtain⟨E,hE⟩: ∃E,E=(⟨(Ad [row.getD x false]).toArray⟩:ByteArray):=⟨_,rfl⟩;have hEx:R.extract x q=E:=by
           rw[hq,HRW.out.1,Pa,hE];congr 3;rw[Alt(show x<row.length by omega),Ak7,Ak8(show x<row.length by omega)];rfl
          have hEs:E.size=1:=by rw[hE];rfl
          have hHs:H.size=h.length:=by rw[hH];show(Ad h).toArray.size=_;simp[Ad]
          have HHE:Hid(H++E=(⟨(Ad h').toArray⟩:ByteArray)∧h'.length=h.length+1):=by
           refine⟨?_,by rw[hh',Ald];rfl⟩;rw[hH,hE,hh'];apply Am8;rw[Anc];simp[Ad]
          have hsm: ¬9223372036854775807<H.size+E.size:=by omega
          have hxq:(x:Int)≤(q:Int):=by omega
          have hqR:(q:Int)≤(row.length:Int):=by omega
          have HQ:Hid(q=x+1∧H=(⟨(Ad h).toArray⟩:ByteArray)):=⟨hq,hH⟩;rw[←hh',←hq]at HST;rw[←hH];clear hq hh' hH hE HBAD;go_wp2_with fail;go_quiet(fail);generalize nq=n1 at*;go_wp2_with fail;go_quiet(fail);go_wp2_with fail;have hk9:Aa(fun j=>j=gn)W8((W8.drewN(n1+nq)).setCell⟨gn,i1,none⟩(.int .i64(q:Nat))):=((Aa.refl(fun j=>j=gn)W8).drewN _).setCell(p:=⟨gn,i1,none⟩)(.inr rfl)_;have HN9:Hid(((W8.drewN(n1+nq)).setCell⟨gn,i1,none⟩(.int .i64(q:Nat))).heap[gn]?=some(.cells(Ac(ny.set i1 q)).toArray 3(0,0))):=by
           show _=_;rw[heap_setCell_same(W8.drewN(n1+nq))gn i1 _ _ _ HNY.out];congr 2;simp[Ac,List.map_set]
          generalize(W8.drewN(n1+nq)).setCell⟨gn,i1,none⟩(.int .i64(q:Nat))=W9 at*;have HK9:Hid(Aa(fun j=>j=gn)W7 W9):=HKI.out.trans hk9(fun _ _ h=>h);have hwg:w.heap.size<gn:=by rw[HGN.out];exact lt_of_block HCE.out.tr
          have hfind:=Sr(some⟨w.heap.size,0,none⟩)256 o h' W9(Aks(hk9.row HC7.out.tr(by omega)))(by rw[HOL.out];omega);rw[HOL.out]at hfind;rw[HHE.out.1];clear hk9 cX cR c2 f2 fX hsm hEx;refine hfind.mono ?_;rintro e W10⟨rfl,rfl⟩;clear hfind;have hszE:H.size+1=(⟨(Ad h').toArray⟩:ByteArray).size:=by
           rw[←HHE.out.1,ByteArray.size_append,hEs]
          cases hfc:G9 o h' with
          |none=>
           have hfi:Ly o h'= -1:=by unfold Ly;rw[hfc]
           have HIN2:Hid(Gb hd rows o 256 nx []=Gb hd rows o f'(ny.set i1 q)h'):=by
            show _=_;rw[HE.out,HST.out,hfc]
           rw[hfi];clear hfi hfc HST;go_wp2_with fail;go_roundw
           case rel=>exact⟨f',h',ny.set i1 q,-1,rfl,rfl,by have:=HHE.out.2;omega,by rw[Al8];exact hyl,HN9,HK9,.inl⟨rfl,by have:=HHE.out.2;omega,HIN2.out⟩⟩
           case measure=>
            rw[←HQ.out.2];show 300-(⟨(Ad h').toArray⟩:ByteArray).size<300-H.size;omega
          |some c3=>
           have hfi:Ly o h'=(c3:Int):=by unfold Ly;rw[hfc]
           have hc3:c3<256:=by
            obtain⟨h1,_⟩:=Acm hfc;rw[HOL.out]at h1;exact h1
           have HIN2:Hid(Gb hd rows o 256 nx []=some(c3,ny.set i1 q)):=by
            show _=_;rw[HE.out,HST.out,hfc]
           rw[hfi];clear hfi hfc HST;go_wp2_with fail;go_roundw
           case rel=>exact⟨f',h',ny.set i1 q,(c3:Int),rfl,rfl,by have:=HHE.out.2;omega,by rw[Al8];exact hyl,HN9,HK9,.inr⟨c3,rfl,hc3,HIN2.out⟩⟩
           case measure=>
            rw[←HQ.out.2];show 300-(⟨(Ad h').toArray⟩:ByteArray).size<300-H.size;omega
       ·have hk0:decide((k:Int)<0)=false:=decide_eq_false(by omega);have hw8:IntKind.u8.wrap(k:Int)=(k:Int):=by rw[IntKind.wrap_u8];omega
        have HNB:Hid(Jk hd rows o(b.length+1)=some(b++[UInt8.ofNat k],ny)):=by
         show _=_;rw[Jk,HB.out];simp only;rw[he]
        have ho:=HKI.out.owns HOB.out.1(fun j hj e=>by have:=(HOB.out.1.lt j hj).1;omega);have hg5w2:g5≤wr.heap.size:=Alr hg5w HKI.out.size;clear he HIN
        go_wp2_with(at_builtin;refine Ba _ rfl(.tmp 197)(.tmp 200)79 rfl g5 5 k0(.int .u8 0)1 1 Tryz.underlying79 hk hx0 hx1 hx2 rfl(by decide)_ _ _ rfl(ho.alloc _)⟨wr.heap.size,0,none⟩1 1 [.int .u8(k:Nat)]rfl rfl ?c1 ?c2 ?c3 ?c4 ?c5 ?_)
        case c1=>exact cell_one_new _ _ _
        case c2=>intro u hu;simp at hu;subst hu;rfl
        case c3=>unfold maxLen;omega
        case c4=>omega
        case c5=>simp only[World.alloc,Array.size_push];omega
        intro v9 w9 ho9 hg9 hm9;have hk9:Aa(fun j=>g5≤j)wr w9:=((Aa.refl _ wr).alloc _).grown hg9(fun j hj=> .inr(ho.lt j hj).1);have HN9:Hid(w9.heap[gn]?=some(.cells(Ac ny).toArray 3(0,0))):=hk9.row HNY.out(by omega);have HK9:Hid(Aa(fun _=>False)M w9):=HKM.out.trans hk9(fun j hj e=>by have:=HGN.out;omega);have ho10:w9.ownsRow g5 5 1 v9(b++[UInt8.ofNat k]).length(Ag(b++[UInt8.ofNat k])):=by
         have e1:Ag(b++[UInt8.ofNat k])=Ag b++[.int .u8(k:Nat)]:=by
          simp[Ag];omega
         rw[e1,Ald];exact ho9
        obtain⟨a9,c9,hv9,_⟩:=A0 ho10;subst hv9;have HO10:Hid _:=ho10;have hg9w:g5≤w9.heap.size:=Alr hg5w2 hk9.size;clear ho9 hg9 hm9 ho10 hk9 ho;go_wp2_with fail;go_roundw
        case rel=>exact⟨b++[UInt8.ofNat k],ny,by rw[Ald];exact hbl,by rw[Ald];exact HNB,hyl,HN9,HK9.out,HO10.out,hg9w⟩
        case measure=>
         show n-(b++[UInt8.ofNat k]).length<n-b.length;rw[Ald,List.length_singleton];omega
     ·have hbI: ¬(b.length:Int)<(n:Int):=by omega
      have hbd:decide((b.length:Int)<(n:Int))=false:=decide_eq_false hbI;have hcv:=Gt HOB.out.1;have HCO:Hid(Jl s fr n hd o=some b):=by
       show _=_;rw[HRR.out,show n=b.length from by omega,HB.out];rfl
      have HK9:Hid(Ej w wr p bb ch gr gs ah s(ap,false)o hd rows sz):=HCE.out.call(HOB.out.2.wider(fun _ _ h=>h.elim))(HOB.out.2.row HCE.out.rdr id);go_wp2_with fail;go_ret;exact⟨hd,HHO.out,HK9.out.kept,ap,.inr⟨b,HCO.out,rfl,HK9.out.rdr⟩⟩
end Go.Proofs.YtegnkfdbmmndaaaGreat
namespace Go.Proofs.YtegnkfdbmmndaaaGreat
open Hm
namespace Hm
theorem Bn.prefixes{L:List Nat}(hC:Bn L){b:UInt8}(hb:b∈Af L){b':UInt8}{h:List Bool}(h1:h.length<(Hb(lnB L)(Bp L)b').length)(h2:(Hb(lnB L)(Bp L)b').take h.length=h)(hg:Ee(Hb(lnB L)(Bp L)b)h=true):h.length<(Hb(lnB L)(Bp L)b).length:=by
 obtain⟨N,_,hE⟩:=hC.ends;have h0:Af L≠[]:=fun e=>by rw[e]at hb;simp at hb
 have hsh:=hE.nodes;have hlen:=hE.len;have hz:=hE.side0 h0;have hk:=hC.numk;have hh:=hsh.heads hk(fun j hj=>hz j(by rw[hlen]at hj;exact hj))hC.num_lt(fun b hb=>(hC.mem b).2 hb);have hm:=(hh.mem h).2⟨b',h1,h2⟩;unfold Pf at hm;obtain⟨j,hj,rfl⟩:=List.mem_map.1 hm;have hj':j<(Am(lnB L)(Af L)(2*N)).1.length:=by simpa using hj
 rw[hsh.begins hk hC.num_lt hj' hb(hC.pos b hb)]at hg;have:=(of_decide_eq_true hg).1;rw[Bv];show _<(Da _ _).length;rw[Bv];exact this
theorem Oy{L:List Nat}(hC:Bn L){o:List(List Bool)}{ok:Bool}(h:Ck L o ok):cdL o=Hb(lnB L)(Bp L):=funext(Um hC h).2
theorem Aim{L:List Nat}(hC:Bn L){o:List(List Bool)}{ok:Bool}(h:Ck L o ok)(ho:o.length=256): ∀x∈o,x.length≤255:=by
 intro x hx;obtain⟨i,hi,rfl⟩:=Al7 hx;have h1:=congrFun(Oy hC h)(UInt8.ofNat i);have h2:(UInt8.ofNat i).toNat=i:=by rw[Al0];omega
 unfold cdL at h1;rw[h2,Ak7,Ak8 hi]at h1;simp only[Am1]at h1;rw[h1];show(Da _ _).length≤255;rw[Bv];exact hC.le255 _
theorem Ain(c h:List Bool)(k:Ee c h=true):h.length≤c.length∧c.take h.length=h:=of_decide_eq_true k
end Hm
open Go.RowKit
theorem Aaf(s:ByteArray)(L:List Nat)(o:List(List Bool))(ok:Bool)(N:Nat)(w:World)(hC:Bn L)(hE:Id 32(Hm.lnB L)(Af L)N)(ho:o.length=256)(h:Ck L o ok)(hs:s.size≤6001)(hm: ∀b∈s.data.toList,b∈Af L):
  Calls Tryz.prog 46#[.string s,.agg(Ao o).toArray]w fun e w'=>e= .returned(.string⟨(Ad(Dw L N s.data.toList)).toArray⟩)∧Aa(fun _=>False)w w':=by
 have e:=Oy hC h;refine(Aec s o w ho(Aim hC h ho)hs ?_).mono ?_
 ·intro b hb b' hd h1 h2 h3;rw[e]at h1 h2 h3⊢;exact hC.prefixes(hm b hb)h1 h2 h3
 ·rintro en w'⟨hd,hh,rfl,hk⟩;rw[e]at hh⊢;rw[Me hC hE hm hh];exact⟨rfl,hk⟩
end Go.Proofs.YtegnkfdbmmndaaaGreat
