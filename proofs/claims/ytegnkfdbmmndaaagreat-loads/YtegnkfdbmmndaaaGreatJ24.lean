import Derived.Test.YtegnkfdbmmndaaaGreatJ00
import Derived.Test.YtegnkfdbmmndaaaGreatJ03
import Derived.Test.YtegnkfdbmmndaaaGreatJ23
import Derived.Test.YtegnkfdbmmndaaaGreatJ18
import Derived.Test.YtegnkfdbmmndaaaGreatJ22
import Derived.Test.YtegnkfdbmmndaaaGreatJ20

namespace Go.Proofs.YtegnkfdbmmndaaaGreat
open Hm
open Go.RowKit
namespace Hm
def leB(a b:ByteArray):Bool:=Op.bytesLess a.toList b.toList||a.toList==b.toList
def Cj(nm ct ahead:ByteArray):Int:=
 if nm.size=0∨32<nm.size then 2 else if leB nm ahead then 3 else if 3000<ct.size then 4 else 0
def Fx(ah:ByteArray)(tot:Nat):List (ByteArray×ByteArray)→Int
 |[]=>if 6000<tot then 5 else 0
 |f::r=>if Cj f.1 f.2 ah=0 then Fx f.1 (tot+f.2.size) r else Cj f.1 f.2 ah
def Bl(fs:List (ByteArray×ByteArray)):Int:=if 40<fs.length then 1 else Fx ⟨#[]⟩ 0 fs
theorem Ue(fs:List (ByteArray×ByteArray))(k:Nat)(h:k<fs.length)(ah:ByteArray)(tot:Nat):
  Fx ah tot (fs.drop k)=if Cj fs[k].1 fs[k].2 ah=0 then Fx fs[k].1 (tot+fs[k].2.size) (fs.drop (k+1))else Cj fs[k].1 fs[k].2 ah:=by
 rw[Al4 h];rfl
theorem Sg{nm ct ah:ByteArray}(h:Cj nm ct ah=0):ct.size≤3000∧nm.size≤32∧nm.size≠0∧leB nm ah=false:=by
 unfold Cj at h;split at h
 ·omega
 split at h
 ·omega
 split at h
 ·omega
 rename_i h1 h2 h3;exact⟨by omega,by omega,by omega,by simpa using h2⟩
theorem Ab6(nm ct ah:ByteArray):0≤Cj nm ct ah∧Cj nm ct ah≤4:=by
 unfold Cj;split
 ·omega
 split
 ·omega
 split<;>omega
end Hm
theorem Pl(s:ByteArray):s.toList.isEmpty=decide (s.size=0):=by
 have hl:s.data.toList.length=s.size:=by simp
 rw[Amq,←hl];cases s.data.toList<;>simp
theorem X2{nm ct ah:ByteArray}(h:nm.size=0∨32<nm.size):Cj nm ct ah=2:=by rw[Cj,if_pos h]
theorem Ajo{nm ct ah:ByteArray}(h0: ¬nm.size=0)(h:(nm.size:Int)≤32)(h2:Op.bytesLess nm.toList ah.toList=true∨(nm.toList==ah.toList)=true):Cj nm ct ah=3:=by
 rw[Cj,if_neg (by omega),if_pos (by simpa[Hm.leB]using h2)]
theorem Akz{nm ct ah:ByteArray}(h0: ¬nm.size=0)(h:(nm.size:Int)≤32)(h2:Op.bytesLess nm.toList ah.toList=false∧(nm.toList==ah.toList)=false)(h3:3000<(ct.size:Int)):Cj nm ct ah=4:=by
 rw[Cj,if_neg (by omega),if_neg (by simp[Hm.leB,h2.1];simpa using h2.2),if_pos (by omega)]
theorem Ak3{nm ct ah:ByteArray}(h0: ¬nm.size=0)(h:(nm.size:Int)≤32)(h2:Op.bytesLess nm.toList ah.toList=false∧(nm.toList==ah.toList)=false)(h3:(ct.size:Int)≤3000):Cj nm ct ah=0:=by
 rw[Cj,if_neg (by omega),if_neg (by simp[Hm.leB,h2.1];simpa using h2.2),if_neg (by omega)]
theorem E7{k:IntKind}{a b:Int}(h:a=b):Ending.returned (.int k a)= .returned (.int k b):=by rw[h]
set_option maxHeartbeats 400000 in
theorem Qt(nm ct ah:ByteArray)(w:World)(h1:nm.size≤140737488355328)(_h2:ct.size≤140737488355328):
  Calls Tryz.prog 93 #[.agg #[.string nm,.string ct],.string ah] w fun e w'=>e= .returned (.int .i64 (Cj nm ct ah))∧Apd w w':=by
 by_cases a0:nm.size=0
 ·have hE:nm.toList.isEmpty=true:=by rw[Pl];simpa using a0
  go_enter Tryz.func93,Tryz.ntmps93
  go_wp2;go_ret;exact⟨E7 (X2 (.inl a0)).symm,(Aa.refl _ _).alloc _⟩
 ·have hE:nm.toList.isEmpty=false:=by rw[Pl];simpa using a0
  go_enter Tryz.func93,Tryz.ntmps93
  go_wp2
  all_goals go_ret
  ·exact⟨E7 (X2 (.inr (by omega))).symm,(Aa.refl _ _).alloc _⟩
  ·exact⟨E7 (Ajo a0 ‹_› ‹_›).symm,(Aa.refl _ _).alloc _⟩
  ·exact⟨E7 (Akz a0 ‹_› ‹_› ‹_›).symm,(Aa.refl _ _).alloc _⟩
  ·exact⟨E7 (Ak3 a0 ‹_› ‹_› ‹_›).symm,(Aa.refl _ _).alloc _⟩
set_option maxHeartbeats 400000 in
theorem Ah5(ao:Option Addr)(c:Nat)(fs:List (ByteArray×ByteArray))(w:World)(hf:Cx w ao fs)(hl:fs.length≤140737488355328)(hsz: ∀f∈fs,f.1.size≤140737488355328∧f.2.size≤140737488355328):
  Calls Tryz.prog 50 #[.slice ao fs.length c] w fun e w'=>e= .returned (.int .i64 (Bl fs))∧Apd w w':=by
 by_cases h40:40<fs.length
 ·clear hf
  go_enter Tryz.func50,Tryz.ntmps50
  go_wp2;go_ret;exact⟨E7 (by rw[Bl,if_pos h40]),Aa.refl _ _⟩
 have HE:Hid (Bl fs=Fx ⟨#[]⟩ 0 (fs.drop 0)):=by rw[Bl,if_neg h40];rfl
 generalize Bl fs=E at HE⊢
 go_enter Tryz.func50,Tryz.ntmps50
 go_wp2
 go_loopw[3,4,13] (fun t a i wr=> ∃(k:Nat) (tot:Nat) (ah:ByteArray),k≤fs.length∧i= .int .i64 k∧t= .int .i64 tot∧a= .string ah∧tot≤3000*k∧E=Fx ah tot (fs.drop k)∧Apd w wr) (fun _ _ i _=>fs.length-(intOf i).toNat)
 case atStart=>exact⟨0,0,_,Alr _,rfl,rfl,rfl,by omega,HE.out,Aa.refl _ _⟩
 case round=>
  clear HE;obtain⟨k,tot,ah,hk,rfl,rfl,rfl,ht,hE,hkr⟩:=hrel;have HE:Hid (E=Fx ah tot (fs.drop k)):=hE;clear hE
  by_cases hlt:k<fs.length
  ·obtain⟨b,o,hao,hbw,hc1,hc2⟩:=(hf.kept hkr (fun a ha=>id)) k hlt;have hs:=hsz fs[k] (Alo _);obtain⟨hs1,hs2⟩:=hs;have HT:Hid (E=if Cj fs[k].1 fs[k].2 ah=0 then Fx fs[k].1 (tot+fs[k].2.size) (fs.drop (k+1))else Cj fs[k].1 fs[k].2 ah):=HE.out.trans (Ue fs k hlt ah tot);generalize fs[k].1=nm at*;generalize fs[k].2=ct at*;rw[hao];clear hao hf HE hsz
   by_cases h0:Cj nm ct ah=0
   ·have hsm:=(Sg h0).1;have hcon:=Qt nm ct ah (wr.alloc (.cells #[.string nm,.string ct] 38)) hs1 hs2;rw[h0]at hcon;have HT2:Hid (E=Fx nm (tot+ct.size) (fs.drop (k+1))):=by rw[HT.out,if_pos h0];rfl
    clear h0 HT
    go_wp2_with(go_at_call 93;refine hcon.mono ?_;rintro e w1 ⟨rfl,hk1⟩;have hx0:=hk1.cell (p:=⟨wr.heap.size,0,none⟩) (by simp) id;have hx1:=hk1.cell (p:=⟨wr.heap.size,1,none⟩) (by simp) id;simp at hx0 hx1)
    go_roundw
    case rel=>exact⟨k+1,tot+ct.size,nm,by omega,by go_num,by go_num,rfl,by omega,HT2.out,(hkr.alloc _).trans hk1 (fun _ _ h=>h)⟩
    case measure=>simp[intOf];omega
   ·have hcon:=Qt nm ct ah (wr.alloc (.cells #[.string nm,.string ct] 38)) hs1 hs2;have hrg:=Ab6 nm ct ah;have HT2:Hid (E=Cj nm ct ah):=by rw[HT.out,if_neg h0];rfl
    clear HT;generalize Cj nm ct ah=r at*;have h0':(r !=0)=true:=by rw[bne_iff_ne];exact h0
    go_wp2_with(go_at_call 93;refine hcon.mono ?_;rintro e w1 ⟨rfl,hk1⟩)
    go_ret;exact⟨E7 HT2.out.symm,(hkr.alloc _).trans hk1 (fun _ _ h=>h)⟩
  ·obtain rfl:k=fs.length:=by omega
   have HT2:Hid (E=if 6000<tot then 5 else 0):=by have h:=HE.out;rw[Anl]at h;exact h
   clear HE hf
   by_cases h6:6000<tot
   ·go_wp2;go_ret;exact⟨E7 (by rw[HT2.out,if_pos h6]),hkr⟩
   ·go_wp2;go_ret;exact⟨E7 (by rw[HT2.out,if_neg h6]),hkr⟩
set_option maxHeartbeats 4000000 in
set_option maxRecDepth 100000 in
theorem Ad0(ao:Option Addr)(c:Nat)(fs:List (ByteArray×ByteArray))(N:Nat)(w:World)(hf:Cx w ao fs)(hfb: ∀a,ao=some a→a.block<w.heap.size)(hm:fs.length≤40)(h32: ∀f∈fs,f.1.size≤32)
  (hn:(Ae fs).length≤6000) (h0:0<N) (hE:Hm.Ends 32 (Hm.lnB (Hm.lens (Ae fs))) (Af (Hm.lens (Ae fs))) N):
  Calls Tryz.prog 51 #[.slice ao fs.length c] w fun e w'=> ∃ps:List Nat,Dr (Ae fs) ps∧e= .returned (.string ⟨(Kr fs ps (Dt (Hm.lens (Ae fs)) N (Ap (Ae fs) ps))).toArray⟩)∧Apd w w':=by
 have hjf:=Z7 ao c fs w hf hm hn;obtain⟨st,hst⟩: ∃st,st=(⟨(Ae fs).toArray⟩:ByteArray):=⟨_,rfl⟩;have hsl:st.data.toList=Ae fs:=by rw[hst]
 have hsz:st.size=(Ae fs).length:=by rw[hst];rfl
 rw[←hst]at hjf;obtain⟨n,hnn⟩: ∃n,n=(Ae fs).length:=⟨_,rfl⟩;rw[←hnn]at hn hsz;have hC:=Hp (Ae fs) (by omega);have hLm:=Nx (Ae fs) (by omega);have hes: ∀e∈Az fs,e≤n:=fun e he=>by rw[hnn];exact Ah3 fs e he
 have HF:Aside (Cx w ao fs∧(∀a,ao=some a→a.block<w.heap.size)∧(∀f∈fs,f.1.size≤32)∧st.data.toList=Ae fs∧n=(Ae fs).length∧Bj (Hm.lens (Ae fs))∧(∀b,b∈Af (Hm.lens (Ae fs))↔b∈Ae fs)∧Hm.Ends 32 (Hm.lnB (Hm.lens (Ae fs))) (Af (Hm.lens (Ae fs))) N∧ ∀e∈Az fs,e≤n):=⟨hf,hfb,h32,hsl,hnn,hC,hLm,hE,hes⟩;clear hf hfb h32 hsl hnn hC hLm hE hes hst
 go_enter Tryz.func51,Tryz.ntmps51
 go_wp2_with fail;refine hjf.mono ?_;rintro e w1 ⟨rfl,he1,hk1⟩;clear hjf;have hso:=Ai9 st w1 (by omega);go_wp2_with fail;refine hso.mono ?_;rintro e w2 ⟨ps,rfl,hpl2,hp2,hk2⟩;clear hso;have hsrt:=hpl2.sorted;rw[HF.out.2.2.2.1]at hsrt;clear hpl2;have hme:=Adz st w2 (by omega);rw[HF.out.2.2.2.1]at hme;have he2:=he1.kept hk2 id;have hk02:Apd w w2:=hk1.trans hk2 (fun _ _ h=>h);clear hk1 hk2 he1;go_wp2_with fail;refine hme.mono ?_;rintro e w3 ⟨rfl,hk3⟩;clear hme;have he3:=he2.kept hk3 id;have hp3:=hp2.kept hk3 id;have hk03:=hk02.trans hk3 (fun _ _ h=>h);clear hk02 hk3 he2 hp2;obtain⟨L,hLe⟩: ∃L,L=Hm.lens (Ae fs):=⟨_,rfl⟩;rw[←hLe];have HLE:Aside (L=Hm.lens (Ae fs)):=hLe;have hL256:L.length=256:=by rw[hLe];exact HF.out.2.2.2.2.2.1.len
 have hasz:(Ac L).toArray.size=256:=by rw[A2,hL256]
 have hall:=Eb L;have hzs:Tryz.zeroCells139.size=(Ac L).toArray.size:=by rw[hasz,Ju,A2,Alj]
 clear hLe;obtain⟨arr,harr⟩: ∃arr,arr=(Ac L).toArray:=⟨_,rfl⟩;rw[←harr]at hasz hall hzs⊢;have HA:Aside (arr=(Ac L).toArray∧arr.all (·.oneCell')=true∧Tryz.zeroCells139.size=arr.size):=⟨harr,hall,hzs⟩;clear harr hall hzs;have HP:Aside (IntRow w3 (w.heap.size+1) (Az fs)∧IntRow w3 w1.heap.size ps∧Apd w w3∧Dr (Ae fs) ps):=⟨he3,hp3,hk03,hsrt⟩;clear he3 hp3 hk03 hsrt
 go_wp2_with(first
  |(refine wpList_store_row _ rfl 139 _ _ rfl w3.heap.size 139 Tryz.zeroCells139 arr rfl rfl (All w3 _) (by rw[hasz];exact B9) HA.out.2.2 HA.out.2.1 ?_;intro w4 hw4 hk4))
 obtain⟨he3,hp3,hk03,hsrt⟩:=HP.out;have hk34:Apd w3 w4:=((Aa.refl (fun _=>False) w3).alloc _).trans hk4 (fun j h1 h2=>by omega);have he4:=he3.kept hk34 id;have hp4:=hp3.kept hk34 id;have hk04:=hk03.trans hk34 (fun _ _ h=>h);clear he3 hp3 hk03 HP hk4 hk34;obtain⟨b6,hb6⟩: ∃b,b=w3.heap.size:=⟨_,rfl⟩;rw[←hb6]at hw4⊢;clear hb6;have hen:=Aa8 Jx (some ⟨w.heap.size+1,0,none⟩) fs.length (Az fs) n w4 he4.at (by rw[Ds];exact hm) hn HF.out.2.2.2.2.2.2.2.2;rw[Ds]at hen;obtain⟨EB,hEB⟩: ∃EB,EB=Bf (Az fs) n:=⟨_,rfl⟩;rw[←hEB]at hen;have hEBl:EB.length≤100000:=by
  rw[hEB,Lq,Ds];have h1:=Ni fs.length n hn;have h2:fs.length*By fs.length n≤40*12:=Amk hm h1;have h3:n/2^By fs.length n≤n:=Anu _ _;omega
 obtain⟨sE,hsE⟩: ∃sE,sE=(⟨(Ah EB).toArray⟩:ByteArray):=⟨_,rfl⟩;have hsEz:sE.size=(EB.length+7)/8:=by rw[hsE];show(Ah EB).toArray.size=_;rw[Alq,A1]
 rw[←hsE]at hen;have HEB:Aside (EB=Bf (Az fs) n∧sE=(⟨(Ah EB).toArray⟩:ByteArray)∧sE.size≤20000):=⟨hEB,hsE,by omega⟩;have HP:Aside (IntRow w4 w1.heap.size ps∧Apd w w4∧Dr (Ae fs) ps∧w4.heap[b6]?=some (.cells arr 139 (0,0))):=⟨hp4,hk04,hsrt,hw4⟩;clear hp4 hk04 hsrt hw4 he4 hEB hEBl hsE hsEz;generalize(Ah EB).length=lE at*;generalize By fs.length n=lw at*;refine hen.mono ?_;rintro e w5 ⟨gE,hgE,rfl,hrE,hk5⟩;clear hen hgE hrE;obtain⟨hp4,hk04,hsrt,hw4⟩:=HP.out;have hp5:=hp4.kept hk5 id;have hk05:=hk04.trans hk5 (fun _ _ h=>h);have hw5:=hk5.row hw4 id;have HP5:Aside (IntRow w5 w1.heap.size ps∧Apd w w5∧Dr (Ae fs) ps∧w5.heap[b6]?=some (.cells arr 139 (0,0))):=⟨hp5,hk05,hsrt,hw5⟩;clear hp4 hk04 hsrt hw4 hp5 hk05 hw5 HP hk5;go_wp2_with fail;have hbE0:(w5.alloc (.cells #[.string sE,.int .i64 (EB.length:Nat),.slice (some ⟨gE,0,none⟩) (lE+1) (lE+1),.int .i64 (fs.length:Nat),.int .i64 (lw:Nat)] 87)).cell? ⟨w5.heap.size,0,none⟩=some (.string sE):=Alc _ _ 0 _ _ _ (All w5 _);have hk56:Apd w5 (w5.alloc (.cells #[.string sE,.int .i64 (EB.length:Nat),.slice (some ⟨gE,0,none⟩) (lE+1) (lE+1),.int .i64 (fs.length:Nat),.int .i64 (lw:Nat)] 87)):=(Aa.refl _ _).alloc _;generalize w5.alloc (.cells #[.string sE,.int .i64 (EB.length:Nat),.slice (some ⟨gE,0,none⟩) (lE+1) (lE+1),.int .i64 (fs.length:Nat),.int .i64 (lw:Nat)] 87)=w6 at*;obtain⟨bE,hbEe⟩: ∃b,b=w5.heap.size:=⟨_,rfl⟩;rw[←hbEe]at hbE0⊢;clear hbEe;obtain⟨hp5,hk05,hsrt,hw5⟩:=HP5.out;have hp6:=hp5.kept hk56 id;have hk06:=hk05.trans hk56 (fun _ _ h=>h);have hw6:=hk56.row hw5 id;have hperm:=hsrt.perm;have hpsl:ps.length=n+1:=by have:=hperm.length_eq;rw[←HF.out.2.2.2.2.1]at this;simpa using this
 have hpx: ∀x∈ps,x≤n:=fun x hx=>by have:=hperm.subset hx;rw[←HF.out.2.2.2.2.1]at this;have:=List.mem_range.1 this;omega
 have hco:=fun(X:World) (hX:IntRow X w1.heap.size ps)=>Agi w1.heap.size (n+1) st ps X hX (by omega) (by omega) (fun x hx=>by have:=hpx x hx;omega);rw[HF.out.2.2.2.1,hpsl]at hco;have hcl:(Ap (Ae fs) ps).length=n:=by rw[F7 hperm];exact HF.out.2.2.2.2.1.symm
 have hcm: ∀b∈Ap (Ae fs) ps,b∈Af L:=fun b hb=>by rw[HLE.out];exact(HF.out.2.2.2.2.2.2.1 b).2 (Mr hperm b hb)
 obtain⟨col,hcol⟩: ∃col,col=Ap (Ae fs) ps:=⟨_,rfl⟩;rw[←hcol]at hco hcl hcm;rw[hcl]at hco;have hmt:=fun(ca:Option Addr) (cc:Nat) (X:World) (hX:X.ownsRow 0 5 1 (.slice ca col.length cc) col.length (Ag col))=>Abw L N col ca cc X (by rw[HLE.out];exact HF.out.2.2.2.2.2.1) (by rw[HLE.out];exact HF.out.2.2.2.2.2.2.2.1) h0 hX (by omega) hcm;rw[hcl,←HA.out.1]at hmt;obtain⟨tbits,htbits⟩: ∃x,x=A0 (Hm.lnB L) (Bm L) (Al (Hm.lnB L) (Af L) (2*N)).1 col N:=⟨_,rfl⟩;have htle:tbits.length≤2000000:=by
  rw[htbits];have h1:=Mc (Hm.lnB L) (Bm L) (Al (Hm.lnB L) (Af L) (2*N)).1 col N;have h3:N≤255:=by have h4:=HF.out.2.2.2.2.2.2.2.1.len;have h5:=HF.out.2.2.2.2.2.2.2.1.few (2*N) (Ale _);omega
  have h2:N*col.length≤255*6000:=Amk h3 (by omega);omega
 rw[←htbits]at hmt;obtain⟨sT,hsT⟩: ∃sT,sT=(⟨(Ah (tbits.map fun x=>decide (x=1))).toArray⟩:ByteArray):=⟨_,rfl⟩;have hsTz:sT.size≤260000:=by rw[hsT];show(Ah _).toArray.size≤_;rw[Alq,A1,Al6];omega
 rw[←hsT]at hmt;have HTR:Aside (sT=(⟨(Ah (Dt L N (Ap (Ae fs) ps))).toArray⟩:ByteArray)∧sT.size≤260000):=⟨by rw[hsT,htbits,hcol];rfl,hsTz⟩;have HMT:Aside _:=hmt;have HCO:Aside _:=hco;have H6:Aside (IntRow w6 w1.heap.size ps∧Apd w w6∧Dr (Ae fs) ps∧w6.cell? ⟨bE,0,none⟩=some (.string sE)∧w6.heap[b6]?=some (.cells arr 139 (0,0))∧ps.length=n+1∧ ∀x∈ps,x≤n):=⟨hp6,hk06,hsrt,hbE0,hw6,hpsl,hpx⟩;clear hp5 hk05 hsrt hw5 hp6 hk06 hbE0 HP5 hk56 hperm hpx hpsl hco hcl hcm hcol hmt htbits hsT htle hsTz;generalize tbits.length=tl at*
 go_cut[8]from 11 (fun v8 wz=> ∃(tb:Nat) (TA:Array Value),v8= .pointer (some ⟨tb,0,none⟩)∧Aside (wz.heap[tb]?=some (.cells TA 96 (0,0))∧TA[0]?=some (.string sT)∧Apd w6 wz))
 case first=>
  refine Ank (S:=fun X=>X.heap[b6]?=some (.cells arr 139 (0,0))) (by kernel_rfl) ?_ (fun hHeld=>?_)
  ·exact hw6
  refine wpAnyH_take (i := 0) (oi := { dst := some 24, op := Op.move (Operand.tmp 3), type := 9, pos := "archive.go:21", after := #[], guard := none }) (v := ?_) rfl (by kernel_rfl) (by kernel_rfl) (by kernel_rfl) (fun _ _ _ h => h) (Or.inl ⟨by kernel_rfl, ?_⟩) (by assumption) ?_
  rotate_left
  ·intro X hSw;try dsimp only at hSw
   go_simp
   with_reducible rfl
  simp only[Act.put,Ak8,Ak9,Ala]
  refine wpAnyH_take (i := 1) (oi := { dst := some 25, op := Op.move (Operand.tmp 5), type := 64, pos := "archive.go:21", after := #[], guard := none }) (v := ?_) rfl (by kernel_rfl) (by kernel_rfl) (by kernel_rfl) (fun _ _ _ h => h) (Or.inl ⟨by kernel_rfl, ?_⟩) (by assumption) ?_
  rotate_left
  ·intro X hSw;try dsimp only at hSw
   go_simp
   with_reducible rfl
  simp only[Act.put,Ak8,Ak9,Ala]
  refine wpAnyH_take (i := 3) (oi := { dst := some 27, op := Op.load 139 (Operand.tmp 6), type := 139, pos := "archive.go:21", after := #[], guard := none }) (v := .agg arr) rfl (by kernel_rfl) (by kernel_rfl) (by kernel_rfl) (fun _ _ _ h => h) (Or.inl ⟨by kernel_rfl, fun X hX => Ev X 139 (.tmp 6) rfl b6 rfl 139 arr (0, 0) _ hX Tryz.underlying139 rfl (by rw [hasz]; exact B9)⟩) (by assumption) ?_
  simp only[Act.put,Ak8,Ak9,Ala];refine Al0 (rs:=[2,5]) (by kernel_rfl) (by simp) ?_
  refine AllReadyH.cons (o := { dst := some 26, op := Op.call { callee := Callee.value (Operand.func 99), args := #[Operand.tmp 24, Operand.tmp 25], argTypes := #[9, 64] }, type := 79, pos := "archive.go:21", after := #[{ on := 0, ground := Ground.data }, { on := 1, ground := Ground.data }], guard := none }) rfl (fun K hK => ?_) (AllReadyH.cons (o := { dst := some 8, op := Op.alloc 96, type := 0, pos := "archive.go:21", after := #[], guard := none }) rfl (fun K hK => ?_) AllReadyH.nil)
  ·go_simp;refine(HCO.out _ (H6.out.1.kept (Aa.refl (fun _=>False) w6).drew id)).mono ?_;rintro e wa ⟨vc,rfl,hoc,hka⟩;have hkA:Apd w6 wa:=(Aa.refl (fun _=>False) w6).drew.trans hka (fun _ _ h=>h);have hoc0:=Gq hoc;obtain⟨ca,cc,hvc,_⟩:=Ay hoc0;subst hvc;refine hK.out _ _ (hkA.row H6.out.2.2.2.2.1 id) (fun hHeld=>?_);clear hK K hka hoc;refine Al0 (rs:=[4,5]) (by kernel_rfl) (by simp) ?_
   refine AllReadyH.cons (o := { dst := some 28, op := Op.call { callee := Callee.value (Operand.func 98), args := #[Operand.tmp 26, Operand.tmp 27], argTypes := #[79, 139] }, type := 96, pos := "archive.go:21", after := #[{ on := 2, ground := Ground.data }, { on := 3, ground := Ground.data }, { on := 2, ground := Ground.chain }], guard := none }) rfl (fun K hK => ?_) (AllReadyH.cons (o := { dst := some 8, op := Op.alloc 96, type := 0, pos := "archive.go:21", after := #[], guard := none }) rfl (fun K hK => ?_) AllReadyH.nil)
   ·go_simp;refine(HMT.out ca cc wa hoc0).mono ?_;rintro e wb ⟨g,v,ws,rfl,hwl,hv1,hkb⟩;have hkB:Apd w6 wb:=hkA.trans hkb (fun _ _ h=>h);obtain⟨TA,hTAe⟩: ∃TA,TA=(Ba sT tl g (Bc L) v ws n).toArray:=⟨_,rfl⟩;have hTAs0:TA.size=773:=by rw[hTAe,Alq,Cz sT tl g (Bc L) v ws n (A3 _ _ _ _) hwl]
    have hTA1:TA.all (·.oneCell')=true:=by rw[hTAe];exact D9 sT tl g n (Bc L) v ws hv1
    have hTA0:TA[0]?=some (.string sT):=by rw[hTAe,Alz];rfl
    rw[←hTAe];clear hTAe;refine hK.out _ _ (hkB.row H6.out.2.2.2.2.1 id) (fun hHeld=>?_);clear hK K hkb;refine Al0 (rs:=[5]) (by kernel_rfl) (by simp) ?_
    refine AllReadyH.cons (o := { dst := some 8, op := Op.alloc 96, type := 0, pos := "archive.go:21", after := #[], guard := none }) rfl (fun K hK => ?_) AllReadyH.nil
    go_simp;have hkX:Apd w6 (wb.alloc (.cells Tryz.zeroCells96 96)):=hkB.alloc _;have htb:=All wb (.cells Tryz.zeroCells96 96);have htw:w6.heap.size≤wb.heap.size:=hkB.size;refine hK.out _ _ (hkX.row H6.out.2.2.2.2.1 id) (fun hHeld=>?_);clear hK K hkB hkA hoc0;generalize wb.alloc (.cells Tryz.zeroCells96 96)=X at*;generalize wb.heap.size=tb at*;have hTAs:TA.size=773:=hTAs0;refine Al0 (rs:=[6]) (by kernel_rfl) (by simp) ?_
    refine AllReadyH.cons (o := { dst := none, op := Op.store 96 (Operand.tmp 8) (Operand.tmp 28), type := 0, pos := "archive.go:21", after := #[{ on := 5, ground := Ground.data }, { on := 4, ground := Ground.data }, { on := 4, ground := Ground.chain }, { on := 0, ground := Ground.phase }, { on := 1, ground := Ground.phase }, { on := 2, ground := Ground.phase }, { on := 3, ground := Ground.phase }, { on := 4, ground := Ground.phase }, { on := 5, ground := Ground.phase }], guard := none }) rfl (fun K hK => ?_) AllReadyH.nil
    refine B5 X (op := { dst := none, op := Op.store 96 (Operand.tmp 8) (Operand.tmp 28), type := 0, pos := "archive.go:21", after := #[{ on := 5, ground := Ground.data }, { on := 4, ground := Ground.data }, { on := 4, ground := Ground.chain }, { on := 0, ground := Ground.phase }, { on := 1, ground := Ground.phase }, { on := 2, ground := Ground.phase }, { on := 3, ground := Ground.phase }, { on := 4, ground := Ground.phase }, { on := 5, ground := Ground.phase }], guard := none }) rfl 96 (.tmp 8) (.tmp 28) rfl tb 96 Tryz.zeroCells96 TA rfl rfl htb (by rw [hTAs]; exact B6) (by rw [hTAs]; exact F0) hTA1 ?_
    intro wz hwz hkz;have hb6l:b6<w6.heap.size:=Alw H6.out.2.2.2.2.1;refine hK.out _ _ (hkz.row (hkX.row H6.out.2.2.2.2.1 id) (by omega)) (fun hHeld=>?_);clear hK K;refine Anp (by kernel_rfl) ?_ _;have H4:Aside (wz.heap[tb]?=some (.cells TA 96 (0,0))∧TA[0]?=some (.string sT)∧Apd w6 wz):=⟨hwz,hTA0,hkX.trans hkz (fun j h1 h2=>by omega)⟩;go_wp2_with fail;go_meet
    case rel=>exact⟨tb,TA,rfl,H4⟩
   ·go_simp;have hkY:Apd w6 (wa.alloc (.cells Tryz.zeroCells96 96)):=hkA.alloc _;have htbY:=All wa (.cells Tryz.zeroCells96 96);have htw:w6.heap.size≤wa.heap.size:=hkA.size;refine hK.out _ _ (hkY.row H6.out.2.2.2.2.1 id) (fun hHeld=>?_);clear hK K;refine Al0 (rs:=[4]) (by kernel_rfl) (by simp) ?_
    refine AllReadyH.cons (o := { dst := some 28, op := Op.call { callee := Callee.value (Operand.func 98), args := #[Operand.tmp 26, Operand.tmp 27], argTypes := #[79, 139] }, type := 96, pos := "archive.go:21", after := #[{ on := 2, ground := Ground.data }, { on := 3, ground := Ground.data }, { on := 2, ground := Ground.chain }], guard := none }) rfl (fun K hK => ?_) AllReadyH.nil
    go_simp;refine(HMT.out ca cc _ (hoc0.alloc _)).mono ?_;rintro e X ⟨g,v,ws,rfl,hwl,hv1,hkb⟩;have hkX:Apd w6 X:=hkY.trans hkb (fun _ _ h=>h);have htb:=hkb.row htbY id;obtain⟨TA,hTAe⟩: ∃TA,TA=(Ba sT tl g (Bc L) v ws n).toArray:=⟨_,rfl⟩;have hTAs0:TA.size=773:=by rw[hTAe,Alq,Cz sT tl g (Bc L) v ws n (A3 _ _ _ _) hwl]
    have hTA1:TA.all (·.oneCell')=true:=by rw[hTAe];exact D9 sT tl g n (Bc L) v ws hv1
    have hTA0:TA[0]?=some (.string sT):=by rw[hTAe,Alz];rfl
    rw[←hTAe];clear hTAe;refine hK.out _ _ (hkX.row H6.out.2.2.2.2.1 id) (fun hHeld=>?_);clear hK K hkb hkY htbY hkA hoc0;generalize wa.heap.size=tb at*;have hTAs:TA.size=773:=hTAs0;refine Al0 (rs:=[6]) (by kernel_rfl) (by simp) ?_
    refine AllReadyH.cons (o := { dst := none, op := Op.store 96 (Operand.tmp 8) (Operand.tmp 28), type := 0, pos := "archive.go:21", after := #[{ on := 5, ground := Ground.data }, { on := 4, ground := Ground.data }, { on := 4, ground := Ground.chain }, { on := 0, ground := Ground.phase }, { on := 1, ground := Ground.phase }, { on := 2, ground := Ground.phase }, { on := 3, ground := Ground.phase }, { on := 4, ground := Ground.phase }, { on := 5, ground := Ground.phase }], guard := none }) rfl (fun K hK => ?_) AllReadyH.nil
    refine B5 X (op := { dst := none, op := Op.store 96 (Operand.tmp 8) (Operand.tmp 28), type := 0, pos := "archive.go:21", after := #[{ on := 5, ground := Ground.data }, { on := 4, ground := Ground.data }, { on := 4, ground := Ground.chain }, { on := 0, ground := Ground.phase }, { on := 1, ground := Ground.phase }, { on := 2, ground := Ground.phase }, { on := 3, ground := Ground.phase }, { on := 4, ground := Ground.phase }, { on := 5, ground := Ground.phase }], guard := none }) rfl 96 (.tmp 8) (.tmp 28) rfl tb 96 Tryz.zeroCells96 TA rfl rfl htb (by rw [hTAs]; exact B6) (by rw [hTAs]; exact F0) hTA1 ?_
    intro wz hwz hkz;have hb6l:b6<w6.heap.size:=Alw H6.out.2.2.2.2.1;refine hK.out _ _ (hkz.row (hkX.row H6.out.2.2.2.2.1 id) (by omega)) (fun hHeld=>?_);clear hK K;refine Anp (by kernel_rfl) ?_ _;have H4:Aside (wz.heap[tb]?=some (.cells TA 96 (0,0))∧TA[0]?=some (.string sT)∧Apd w6 wz):=⟨hwz,hTA0,hkX.trans hkz (fun j h1 h2=>by omega)⟩;go_wp2_with fail;go_meet
    case rel=>exact⟨tb,TA,rfl,H4⟩
  ·go_simp;have hkY:Apd w6 (w6.alloc (.cells Tryz.zeroCells96 96)).drew:=((Aa.refl (fun _=>False) w6).alloc _).drew;have htbY:(w6.alloc (.cells Tryz.zeroCells96 96)).drew.heap[w6.heap.size]?=some (.cells Tryz.zeroCells96 96 (0,0)):=All w6 _;refine hK.out _ _ (hkY.row H6.out.2.2.2.2.1 id) (fun hHeld=>?_);clear hK K;refine Al0 (rs:=[2]) (by kernel_rfl) (by simp) ?_
   refine AllReadyH.cons (o := { dst := some 26, op := Op.call { callee := Callee.value (Operand.func 99), args := #[Operand.tmp 24, Operand.tmp 25], argTypes := #[9, 64] }, type := 79, pos := "archive.go:21", after := #[{ on := 0, ground := Ground.data }, { on := 1, ground := Ground.data }], guard := none }) rfl (fun K hK => ?_) AllReadyH.nil
   go_simp;refine(HCO.out _ (H6.out.1.kept hkY id)).mono ?_;rintro e wa ⟨vc,rfl,hoc,hka⟩;have hkA:Apd w6 wa:=hkY.trans hka (fun _ _ h=>h);have htbA:=hka.row htbY id;have hoc0:=Gq hoc;obtain⟨ca,cc,hvc,_⟩:=Ay hoc0;subst hvc;refine hK.out _ _ (hkA.row H6.out.2.2.2.2.1 id) (fun hHeld=>?_);clear hK K hka hoc htbY hkY;refine Al0 (rs:=[4]) (by kernel_rfl) (by simp) ?_
   refine AllReadyH.cons (o := { dst := some 28, op := Op.call { callee := Callee.value (Operand.func 98), args := #[Operand.tmp 26, Operand.tmp 27], argTypes := #[79, 139] }, type := 96, pos := "archive.go:21", after := #[{ on := 2, ground := Ground.data }, { on := 3, ground := Ground.data }, { on := 2, ground := Ground.chain }], guard := none }) rfl (fun K hK => ?_) AllReadyH.nil
   go_simp;refine(HMT.out ca cc wa hoc0).mono ?_;rintro e X ⟨g,v,ws,rfl,hwl,hv1,hkb⟩;have hkX:Apd w6 X:=hkA.trans hkb (fun _ _ h=>h);have htb:=hkb.row htbA id;obtain⟨TA,hTAe⟩: ∃TA,TA=(Ba sT tl g (Bc L) v ws n).toArray:=⟨_,rfl⟩;have hTAs0:TA.size=773:=by rw[hTAe,Alq,Cz sT tl g (Bc L) v ws n (A3 _ _ _ _) hwl]
   have hTA1:TA.all (·.oneCell')=true:=by rw[hTAe];exact D9 sT tl g n (Bc L) v ws hv1
   have hTA0:TA[0]?=some (.string sT):=by rw[hTAe,Alz];rfl
   rw[←hTAe];clear hTAe;refine hK.out _ _ (hkX.row H6.out.2.2.2.2.1 id) (fun hHeld=>?_);clear hK K hkb htbA hkA hoc0;obtain⟨tb,htbe⟩: ∃tb,tb=w6.heap.size:=⟨_,rfl⟩;rw[←htbe]at htb⊢;have htw:w6.heap.size≤tb:=by omega
   have hTAs:TA.size=773:=hTAs0;refine Al0 (rs:=[6]) (by kernel_rfl) (by simp) ?_
   refine AllReadyH.cons (o := { dst := none, op := Op.store 96 (Operand.tmp 8) (Operand.tmp 28), type := 0, pos := "archive.go:21", after := #[{ on := 5, ground := Ground.data }, { on := 4, ground := Ground.data }, { on := 4, ground := Ground.chain }, { on := 0, ground := Ground.phase }, { on := 1, ground := Ground.phase }, { on := 2, ground := Ground.phase }, { on := 3, ground := Ground.phase }, { on := 4, ground := Ground.phase }, { on := 5, ground := Ground.phase }], guard := none }) rfl (fun K hK => ?_) AllReadyH.nil
   refine B5 X (op := { dst := none, op := Op.store 96 (Operand.tmp 8) (Operand.tmp 28), type := 0, pos := "archive.go:21", after := #[{ on := 5, ground := Ground.data }, { on := 4, ground := Ground.data }, { on := 4, ground := Ground.chain }, { on := 0, ground := Ground.phase }, { on := 1, ground := Ground.phase }, { on := 2, ground := Ground.phase }, { on := 3, ground := Ground.phase }, { on := 4, ground := Ground.phase }, { on := 5, ground := Ground.phase }], guard := none }) rfl 96 (.tmp 8) (.tmp 28) rfl tb 96 Tryz.zeroCells96 TA rfl rfl htb (by rw [hTAs]; exact B6) (by rw [hTAs]; exact F0) hTA1 ?_
   intro wz hwz hkz;have hb6l:b6<w6.heap.size:=Alw H6.out.2.2.2.2.1;refine hK.out _ _ (hkz.row (hkX.row H6.out.2.2.2.2.1 id) (by omega)) (fun hHeld=>?_);clear hK K;refine Anp (by kernel_rfl) ?_ _;have H4:Aside (wz.heap[tb]?=some (.cells TA 96 (0,0))∧TA[0]?=some (.string sT)∧Apd w6 wz):=⟨hwz,hTA0,hkX.trans hkz (fun j h1 h2=>by omega)⟩;go_wp2_with fail;go_meet
   case rel=>exact⟨tb,TA,rfl,H4⟩
 case rest=>
  obtain⟨tb,TA,rfl,H7⟩:=hcut;clear HMT HCO hw6;obtain⟨hwt,hTA0,hk67⟩:=H7.out;obtain⟨hp6,hk06,hsrt,hbE0,hw6,hpsl,hpx⟩:=H6.out;have hp7:=hp6.kept hk67 id;have hk07:=hk06.trans hk67 (fun _ _ h=>h);have hw7:=hk67.row hw6 id;have hbE7:=(hk67.cell (p:=⟨bE,0,none⟩) (Aly _ _ hbE0) id).trans hbE0;have hbT7:wc.cell? ⟨tb,0,none⟩=some (.string sT):=(Alc _ _ 0 _ _ _ hwt).trans hTA0;have hsm:=Wb Jx Abv (some ⟨w1.heap.size,0,none⟩) (n+1) ps wc hp7.at (by omega) (by omega) (fun x hx=>by have:=hpx x hx;omega);rw[hpsl,An0]at hsm;obtain⟨SB,hSB⟩: ∃SB,SB=Da ps:=⟨_,rfl⟩;have hSBl:SB.length≤100000:=by
   rw[hSB,Kf (n:=n) (by have h2:=hsrt.perm;rw[←HF.out.2.2.2.2.1]at h2;exact h2)];have hbl:Lib.bitLen (n/8)≤10:=Lib.bitLen_le _ 10 (by omega) (by omega);have:(n/8+1)*Lib.bitLen (n/8)≤751*10:=Amk (by omega) hbl;omega
  obtain⟨sS,hsS⟩: ∃sS,sS=(⟨(Ah SB).toArray⟩:ByteArray):=⟨_,rfl⟩;have hsSz:sS.size≤20000:=by rw[hsS];show(Ah SB).toArray.size≤_;rw[Alq,A1];omega
  rw[←hSB,←hsS]at hsm;have HSB:Aside (SB=Da ps∧sS=(⟨(Ah SB).toArray⟩:ByteArray)∧sS.size≤20000):=⟨hSB,hsS,hsSz⟩;have H8:Aside (IntRow wc w1.heap.size ps∧Apd w wc∧wc.cell? ⟨bE,0,none⟩=some (.string sE)∧wc.cell? ⟨tb,0,none⟩=some (.string sT)∧wc.heap[b6]?=some (.cells arr 139 (0,0))∧Dr (Ae fs) ps∧ps.length=n+1):=⟨hp7,hk07,hbE7,hbT7,hw7,hsrt,hpsl⟩;clear hwt hTA0 hk67 hp6 hk06 hsrt hbE0 hw6 hpsl hpx hp7 hk07 hw7 hbE7 hbT7 H7 H6 hSB hSBl hsS hsSz;generalize(Ah SB).length=lS at*;generalize SB.length=lSB at*;go_wp2_with fail;refine hsm.mono ?_;rintro e w12 ⟨gS,hgS,rfl,hrS,hk12⟩;clear hsm hgS hrS;have hal:Apd wc (w12.alloc (.cells #[.string sS,.int .i64 (lSB:Nat),.slice (some ⟨gS,0,none⟩) (lS+1) (lS+1),.int .i64 (n:Nat)] 100)):=hk12.alloc _;have hbS:(w12.alloc (.cells #[.string sS,.int .i64 (lSB:Nat),.slice (some ⟨gS,0,none⟩) (lS+1) (lS+1),.int .i64 (n:Nat)] 100)).cell? ⟨w12.heap.size,0,none⟩=some (.string sS):=Alc _ _ 0 _ _ _ (All w12 _);go_upto_region 7 with fail
  generalize w12.alloc (.cells #[.string sS,.int .i64 (lSB:Nat),.slice (some ⟨gS,0,none⟩) (lS+1) (lS+1),.int .i64 (n:Nat)] 100)=W at*;obtain⟨bS,hbSe⟩: ∃b,b=w12.heap.size:=⟨_,rfl⟩;rw[←hbSe]at hbS⊢;clear hbSe hk12;obtain⟨hp8,hk08,hbE8,hbT8,hw8,hsrt,hpsl⟩:=H8.out;have HB:Aside (IntRow W w1.heap.size ps∧Apd w W∧W.cell? ⟨bE,0,none⟩=some (.string sE)∧W.cell? ⟨tb,0,none⟩=some (.string sT)∧W.cell? ⟨bS,0,none⟩=some (.string sS)∧W.heap[b6]?=some (.cells arr 139 (0,0))∧Dr (Ae fs) ps∧ps.length=n+1):=
   ⟨hp8.kept hal id,hk08.trans hal (fun _ _ h=>h),(hal.cell (p:=⟨bE,0,none⟩) (Aly _ _ hbE8) id).trans hbE8,(hal.cell (p:=⟨tb,0,none⟩) (Aly _ _ hbT8) id).trans hbT8,hbS,hal.row hw8 id,hsrt,hpsl⟩
  clear hp8 hk08 hbE8 hbT8 hw8 hsrt hpsl H8 hal hbS;obtain⟨i0,hi,hz0,hz1,hz2⟩:=Amz Ft;have kc:=fun(C:Array Value) (n c:Nat)=>Lib.run_convert_bytes_const (P:=Tryz.prog) W 79 5 C n c Tryz.underlying79 Tryz.underlying5
  go_wp2_with(at_builtin;refine wpList_append_grows _ rfl (.tmp 33) (.tmp 37) 79 rfl 5 i0 (.int .u8 0) 1 1 Tryz.underlying79 hi hz0 hz1 hz2 rfl (by decide) (some ⟨W.heap.size,0,none⟩) 6 6 [.int .u8 72,.int .u8 79,.int .u8 65,.int .u8 82,.int .u8 68,.int .u8 49] rfl (fun h=>by cases h) rfl ?d1 ⟨W.heap.size+1,0,none⟩ 1 1 [.int .u8 (fs.length:Int)] rfl rfl ?d2 ?d3 (by decide) (by unfold maxLen;decide) (by decide) ?_)
  case d1=>
   intro b hb j u hj;cases hb;have hz:=Anw W (.cells #[.int .u8 72,.int .u8 79,.int .u8 65,.int .u8 82,.int .u8 68,.int .u8 49] 5 (6,7)) (.cells #[.int .u8 (fs.length:Int)] 5);rw[Addr.add_lit,Al7,Alc _ _ j _ _ _ hz];simpa using hj
  case d2=>
   intro j u hj;have hz:=All (W.alloc (.cells #[.int .u8 72,.int .u8 79,.int .u8 65,.int .u8 82,.int .u8 68,.int .u8 49] 5 (6,7))) (.cells #[.int .u8 (fs.length:Int)] 5);rw[show(W.alloc (.cells #[.int .u8 72,.int .u8 79,.int .u8 65,.int .u8 82,.int .u8 68,.int .u8 49] 5 (6,7))).heap.size=W.heap.size+1 from by simp]at hz;rw[Addr.add_lit,Al7,Alc _ _ j _ _ _ hz];simpa using hj
  case d3=>intro u hu;simp at hu;subst hu;rfl
  intro v14 w14 ho14 hg14;clear kc;have hkW14:Apd W w14:=(((Aa.refl (fun _=>False) W).alloc _).alloc _).grown hg14 (fun k hk=>by cases hk);obtain⟨BB,hBB⟩: ∃BB,BB=W.heap.size:=⟨_,rfl⟩;have hB14:BB+1+1≤w14.heap.size:=by have:=hg14.size;simp at this;omega
  obtain⟨hp13,hk013,hE13,hT13,hS13,hlen13,hsrt,hpsl⟩:=HB.out;have hbp:w1.heap.size<BB:=by rw[hBB];exact hp13.lt
  have hbb6:b6<BB:=by rw[hBB];exact Alw hlen13
  have hbbE:bE<BB:=by rw[hBB];exact Aly _ _ hE13
  have hbbT:tb<BB:=by rw[hBB];exact Aly _ _ hT13
  have hbbS:bS<BB:=by rw[hBB];exact Aly _ _ hS13
  have hbw:w.heap.size≤BB:=by rw[hBB];exact hk013.size
  have hK14:Aa (fun j=>BB≤j) W w14:=hkW14.wider (fun _ _ h=>h.elim);have ho14':w14.ownsRow BB 5 1 v14 7 (Ag [72,79,65,82,68,49,UInt8.ofNat fs.length]):=by
   have e:Ag [72,79,65,82,68,49,UInt8.ofNat fs.length]=[.int .u8 72,.int .u8 79,.int .u8 65,.int .u8 82,.int .u8 68,.int .u8 49,.int .u8 (fs.length:Int)]:=by
    unfold Ag;simp only[Amu,Ao1];rw[Q8 (by omega)];rfl
   rw[e];exact E4 ho14 (fun k hk=>by have:=ho14.lt k hk;omega)
  have HK:Aside (∀X,Aa (fun j=>BB≤j) W X→IntRow X w1.heap.size ps∧Apd w X∧X.cell? ⟨bE,0,none⟩=some (.string sE)∧X.cell? ⟨tb,0,none⟩=some (.string sT)∧X.cell? ⟨bS,0,none⟩=some (.string sS)∧X.heap[b6]?=some (.cells arr 139 (0,0))):=fun X hX=>
   ⟨hp13.kept hX (by omega),hk013.trans hX (fun j h1 h2=>by omega),(hX.cell (p:=⟨bE,0,none⟩) (Aly _ _ hE13) (by show¬BB≤bE;omega)).trans hE13,(hX.cell (p:=⟨tb,0,none⟩) (Aly _ _ hT13) (by show¬BB≤tb;omega)).trans hT13,(hX.cell (p:=⟨bS,0,none⟩) (Aly _ _ hS13) (by show¬BB≤bS;omega)).trans hS13,hX.row hlen13 (by omega)⟩
  have HSR:Aside (Dr (Ae fs) ps∧ps.length=n+1):=⟨hsrt,hpsl⟩;clear hp13 hk013 hE13 hT13 hS13 hlen13 hsrt hpsl HB ho14 hg14 hkW14 hBB;generalize hl14:[72,79,65,82,68,49,UInt8.ofNat fs.length]=l14 at ho14';have hll14:l14.length=7:=by rw[←hl14];rfl
  have HL14:Aside ([72,79,65,82,68,49,UInt8.ofNat fs.length]=l14):=hl14;clear hl14;have ha1:=Kw BB v14 7 n 2 l14 w14 ho14' (by omega) (by omega) (by omega) (by omega);go_wp2_with fail;refine ha1.mono ?_;rintro e w15 ⟨v15,rfl,ho15,hk15,hm15⟩;clear ha1;have hK15:Aa (fun j=>BB≤j) W w15:=hK14.trans hk15 (fun j _ hj=>(ho14'.lt j hj).1);have hs15:BB+1+1≤w15.heap.size:=by have:=hk15.size;omega
  clear ho14' hk15 hm15 hK14 hB14;obtain⟨hre,hrn⟩:=Kg (n:=n) (ps:=ps) (by have h2:=HSR.out.1.perm;rw[←HF.out.2.2.2.2.1]at h2;exact h2);have hro:=Ajn w1.heap.size (n+1) ps w15 (HK.out w15 hK15).1 (by have:=HSR.out.2;omega);rw[hre,HSR.out.2]at hro;obtain⟨r,hr⟩: ∃r,r=Bn ps:=⟨_,rfl⟩;rw[←hr]at hro hrn;have HR:Aside (r=Bn ps):=hr;have ha2:=Kw BB v15 9 r 2 (l14++Hm.leBytes n 2) w15 ho15 (by omega) (by omega) (by omega) (by omega);clear hre hr;go_wp2_with fail;refine hro.mono ?_;rintro e w16 ⟨rfl,rfl⟩;clear hro;go_wp2_with fail;refine ha2.mono ?_;rintro e w17 ⟨v17,rfl,ho17,hk17,hm17⟩;clear ha2;have hK17:Aa (fun j=>BB≤j) W w17:=hK15.trans hk17 (fun j _ hj=>(ho15.lt j hj).1);have hs17:BB+1+1≤w17.heap.size:=by have:=hk17.size;omega
  clear ho15 hk17 hm17 hK15 hs15;obtain⟨l17,hl17⟩: ∃l,l=l14++Hm.leBytes n 2++Hm.leBytes r 2:=⟨_,rfl⟩;rw[←hl17]at ho17;have hll17:l17.length=11:=by rw[hl17,Alg,Alg,hll14,Cw,Cw]
  have HL17:Aside (l17=l14++Hm.leBytes n 2++Hm.leBytes r 2):=hl17;clear hl17 hll14;have ha3:=Aav BB v17 11 c ao fs l17 w17 ho17 (by omega) (HF.out.1.kept (HK.out w17 hK17).2.1 (fun _ _=>id)) (fun a ha h=>by have h2:=(ho17.lt _ h).1;have:=HF.out.2.1 a ha;omega) hm HF.out.2.2.1 (by omega);have hnb:=Js fs HF.out.2.2.1;go_wp2_with fail;refine ha3.mono ?_;rintro e w18 ⟨v18,rfl,ho18,hk18,hm18⟩;clear ha3;have hK18:Aa (fun j=>BB≤j) W w18:=hK17.trans hk18 (fun j _ hj=>(ho17.lt j hj).1);have hs18:BB+1+1≤w18.heap.size:=by have:=hk18.size;omega
  clear ho17 hk18 hm18 hK17 hs17;obtain⟨NB,hNB⟩: ∃NB,NB=(Hm.nameBytes fs).length:=⟨_,rfl⟩;obtain⟨l18,hl18⟩: ∃l,l=l17++Hm.nameBytes fs:=⟨_,rfl⟩;rw[←hl18,←hNB]at ho18;rw[←hNB]at hnb;have hll18:l18.length=11+NB:=by rw[hl18,Alg,hll17,hNB]
  have HL18:Aside (l18=l17++Hm.nameBytes fs):=hl18;clear hl18 hll17 hNB;have hpk1:=J5 bE 0 sE w18 (HK.out w18 hK18).2.2.1;have hsEl:=HEB.out.2.2;go_upto_region 13 with(first
   |(go_at_call 104;refine hpk1.mono ?_;rintro e w19 ⟨rfl,rfl⟩)
   |(at_builtin;refine Eg _ rfl (.tmp 50) (.tmp 53) 79 9 rfl BB 5 i0 Tryz.underlying79 Tryz.underlying9 hi hz0 hz1 hz2 _ _ _ rfl ho18 sE rfl (by unfold maxLen;omega) (by omega) (by omega) ?_;intro v20 w20 ho20 hg20 hm20 _))
  have hK20:Aa (fun j=>BB≤j) W w20:=hK18.trans ((Aa.refl (fun j=>v18.ownBlock=some j) _).grown hg20 (fun k hk=> .inr hk)) (fun j _ hj=>(ho18.lt j hj).1);have eb20:Ag l18++Lib.strCells sE=Ag (l18++sE.data.toList):=by simp[Ag,Lib.strCells]
  rw[eb20]at ho20;obtain⟨l20,hl20⟩: ∃l,l=l18++sE.data.toList:=⟨_,rfl⟩;rw[←hl20]at ho20;have hll20:l20.length=11+NB+sE.size:=by rw[hl20,Alg,hll18];simp
  have HL20:Aside (l20=l18++sE.data.toList):=hl20;have hs20:BB+1+1≤w20.heap.size:=by have:=hg20.size;omega
  clear ho18 hl20 hll18 hg20 hm20 hK18 hpk1 eb20 hs18;have hrow20:=(HK.out w20 hK20).2.2.2.2.2;have hx255: ∀x∈L,x≤255:=fun x hx=>by
   obtain⟨k,hk,e⟩:=Aml hx;have h1:Bj L:=by rw[HLE.out];exact HF.out.2.2.2.2.2.1
   have:=h1.short (UInt8.ofNat k);have e1:(UInt8.ofNat k).toNat=k:=by rw[Ame,Anb (by omega)]
   rw[Hm.lnB,e1,Ak6,Ak7 hk]at this;have e2:L[k]≤32:=this;omega
  have ha4:=Xi BB v20 (11+NB+sE.size) l20 L w20 ho20 (by omega) hL256 hx255 (by omega);rw[←HA.out.1]at ha4;have hcdl:(Ai L).length≤256:=E0 L 256
  go_wp2_with(first
   |(refine Amd rfl 139 _ rfl b6 rfl 139 arr (0,0) _ hrow20 Tryz.underlying139 rfl (by rw[hasz];exact B9) ?_))
  refine ha4.mono ?_;rintro e w21 ⟨v21,rfl,ho21,hk21,hm21⟩;clear ha4 hrow20 hx255;have hK21:Aa (fun j=>BB≤j) W w21:=hK20.trans hk21 (fun j _ hj=>(ho20.lt j hj).1);have hs21:BB+1+1≤w21.heap.size:=by have:=hk21.size;omega
  obtain⟨cl,hcle⟩: ∃cl,cl=(Ai L).length:=⟨_,rfl⟩;obtain⟨l21,hl21⟩: ∃l,l=l20++Hm.leBytes (Ai L).length 2++Bo L (Ai L):=⟨_,rfl⟩;rw[←hl21,←hcle]at ho21;rw[←hcle]at hcdl;have hll21:l21.length=11+NB+sE.size+2+2*cl:=by
   rw[hl21,Alg,Alg,hll20,Cw,Jl,hcle]
  have HL21:Aside (l21=l20++Hm.leBytes (Ai L).length 2++Bo L (Ai L)):=hl21;clear ho20 hl21 hll20 hk21 hm21 hK20 hs20 hcle;obtain⟨N21,hN21⟩: ∃x,x=11+NB+sE.size+2+2*cl:=⟨_,rfl⟩;rw[←hN21]at ho21 hll21;have hN21l:N21≤30000:=by omega
  clear hN21;have hpk2:=J5 tb 0 sT w21 (HK.out w21 hK21).2.2.2.1;have hsTl:=HTR.out.2;go_upto_region 15 with(first
   |(go_at_call 104;refine hpk2.mono ?_;rintro e w22 ⟨rfl,rfl⟩)
   |(at_builtin;refine Eg _ rfl (.tmp 58) (.tmp 61) 79 9 rfl BB 5 i0 Tryz.underlying79 Tryz.underlying9 hi hz0 hz1 hz2 _ _ _ rfl ho21 sT rfl (by unfold maxLen;omega) (by omega) (by omega) ?_;intro v23 w23 ho23 hg23 hm23 _))
  have hK23:Aa (fun j=>BB≤j) W w23:=hK21.trans ((Aa.refl (fun j=>v21.ownBlock=some j) _).grown hg23 (fun k hk=> .inr hk)) (fun j _ hj=>(ho21.lt j hj).1);have eb23:Ag l21++Lib.strCells sT=Ag (l21++sT.data.toList):=by simp[Ag,Lib.strCells]
  rw[eb23]at ho23;obtain⟨l23,hl23⟩: ∃l,l=l21++sT.data.toList:=⟨_,rfl⟩;rw[←hl23]at ho23;have hll23:l23.length=N21+sT.size:=by rw[hl23,Alg,hll21];simp
  have HL23:Aside (l23=l21++sT.data.toList):=hl23;have hs23:BB+1+1≤w23.heap.size:=by have:=hg23.size;omega
  clear ho21 hl23 hll21 hg23 hm23 hK21 hpk2 eb23 hs21;have hpk3:=J5 bS 0 sS w23 (HK.out w23 hK23).2.2.2.2.1;have hsSl:=HSB.out.2.2;go_upto_region 16 with(first
   |(go_at_call 104;refine hpk3.mono ?_;rintro e w24 ⟨rfl,rfl⟩)
   |(at_builtin;refine Eg _ rfl (.tmp 63) (.tmp 66) 79 9 rfl BB 5 i0 Tryz.underlying79 Tryz.underlying9 hi hz0 hz1 hz2 _ _ _ rfl ho23 sS rfl (by unfold maxLen;omega) (by omega) (by omega) ?_;intro v25 w25 ho25 hg25 hm25 _))
  have hK25:Aa (fun j=>BB≤j) W w25:=hK23.trans ((Aa.refl (fun j=>v23.ownBlock=some j) _).grown hg25 (fun k hk=> .inr hk)) (fun j _ hj=>(ho23.lt j hj).1);have eb25:Ag l23++Lib.strCells sS=Ag (l23++sS.data.toList):=by simp[Ag,Lib.strCells]
  rw[eb25]at ho25;obtain⟨l25,hl25⟩: ∃l,l=l23++sS.data.toList:=⟨_,rfl⟩;rw[←hl25]at ho25;have hll25:l25.length=N21+sT.size+sS.size:=by rw[hl25,Alg,hll23];simp
  have HL25:Aside (l25=l23++sS.data.toList):=hl25;have hs25:BB+1+1≤w25.heap.size:=by have:=hg25.size;omega
  clear ho23 hl25 hll23 hg25 hm25 hK23 hpk3 eb25 hs23;obtain⟨N25,hN25⟩: ∃x,x=N21+sT.size+sS.size:=⟨_,rfl⟩;rw[←hN25]at ho25 hll25;have hN25l:N25≤400000:=by omega
  have hN25p:0<N25:=by
   have h1:=HL25.out;have h2:=HL23.out;have h3:=HL21.out;have h4:=HL20.out;have h5:=HL18.out;have h6:=HL17.out;have h7:=HL14.out;rw[←hll25,h1,h2,h3,h4,h5,h6,←h7];simp
  clear hN25;obtain⟨g25,c25,hv25,_,_⟩:=Cf ho25 hN25p;subst hv25;have hsu:=Aep g25 0 N25 c25 l25 w25 hll25.symm (by omega) (fun j hj=>by
   have hjl:j<l25.length:=by omega
   rw[Al7,ho25.cellAt j (by omega),Ag,Alu,Ak7 hjl,Ak6,Ak7 hjl];rfl)
  have hcr:=Vj l25;obtain⟨cr,hcre⟩: ∃cr,cr=Hm.crc l25:=⟨_,rfl⟩;rw[←hcre]at hsu hcr;have HCR:Aside (cr=Hm.crc l25):=hcre;have ha5:=Kw BB _ N25 cr 4 l25 w25 ho25 (by omega) hcr (by omega) (by omega);have hll:Aside (l25.length=N25):=hll25;clear hcre hll25;go_wp2_with fail;refine hsu.mono ?_;rintro e w26 ⟨rfl,hw26⟩;subst hw26;clear hsu;go_wp2_with fail;refine ha5.mono ?_;rintro e w27 ⟨v27,rfl,ho27,hk27,hm27⟩;clear ha5;have hK27:Aa (fun j=>BB≤j) W w27:=hK25.trans hk27 (fun j _ hj=>(ho25.lt j hj).1);have hcv:=Gr ho27;have hF27:Aside (Apd w w27):=(HK.out w27 hK27).2.1;have hR27:Aside (l25++Hm.leBytes cr 4=Kr fs ps (Dt L N (Ap (Ae fs) ps))):=by
   have hbody:l25=D0 fs ps (Dt L N (Ap (Ae fs) ps)):=by
    rw[HL25.out,HL23.out,HL21.out,HL20.out,HL18.out,HL17.out,←HL14.out,HR.out,HEB.out.2.1,HEB.out.1,HTR.out.1,HSB.out.2.1,HSB.out.1,HF.out.2.2.2.2.1];unfold D0;rw[←HLE.out]
   show _=_;unfold Kr;rw[←hbody,HCR.out]
  obtain⟨s27,hs27⟩: ∃s,s=(⟨(l25++Hm.leBytes cr 4).toArray⟩:ByteArray):=⟨_,rfl⟩;rw[←hs27]at hcv;have HS27:Aside (s27=(⟨(l25++Hm.leBytes cr 4).toArray⟩:ByteArray)):=hs27;clear ho25 ho27 hK25 hK27 hk27 hm27 hs27;go_wp2;go_ret;refine⟨ps,HSR.out.1,?_,hF27.out⟩;rw[←HLE.out,←hR27.out,←HS27.out];rfl
namespace Hm
theorem Y4: ∀(fs:List (ByteArray×ByteArray)) (ah:ByteArray) (tot:Nat),Fx ah tot fs=0→(∀f∈fs,f.1.size≤32∧f.2.size≤3000)∧tot+(Ae fs).length≤6000
 |[],ah,tot,h=>by
  unfold Fx at h;split at h
  ·omega
  ·exact⟨fun f hf=>(by simp at hf),by simp[Ae];omega⟩
 |f::r,ah,tot,h=>by
  rw[Fx]at h;split at h
  ·rename_i h1;have h2:=Sg h1;obtain⟨h3,h4⟩:=Y4 r f.1 (tot+f.2.size) h;refine⟨fun g hg=>?_,?_⟩
   ·rcases List.mem_cons.1 hg with e|e
    ·subst e;exact⟨h2.2.1,h2.1⟩
    ·exact h3 g e
   ·have e:(Ae (f::r)).length=f.2.size+(Ae r).length:=by
     unfold Ae;rw[Amg,Alg];simp
    omega
  ·omega
theorem K3{fs:List (ByteArray×ByteArray)}(h:Bl fs=0):fs.length≤40∧(∀f∈fs,f.1.size≤32∧f.2.size≤3000)∧(Ae fs).length≤6000:=by
 unfold Bl at h;split at h
 ·omega
 ·have:=Y4 fs _ 0 h;exact⟨by omega,this.1,by omega⟩
structure Cn(fs:List (ByteArray×ByteArray))(s:List UInt8):Prop where
 is: ∃ps N,Dr (Ae fs) ps∧0<N∧Ends 32 (lnB (lens (Ae fs))) (Af (lens (Ae fs))) N∧s=Kr fs ps (Dt (lens (Ae fs)) N (Ap (Ae fs) ps))
def Ab7(fs:List (ByteArray×ByteArray))(e:Ending):Prop:=
 (Bl fs≠0∧e= .returned (.tuple #[.string ⟨#[]⟩,.int .i64 (Bl fs)]))∨(Bl fs=0∧ ∃s:List UInt8,Cn fs s∧e= .returned (.tuple #[.string ⟨s.toArray⟩,.int .i64 0]))
end Hm
set_option maxHeartbeats 1000000 in
theorem Ajp(ao:Option Addr)(c:Nat)(fs:List (ByteArray×ByteArray))(w:World)(hf:Cx w ao fs)(hfb: ∀a,ao=some a→a.block<w.heap.size)(hl:fs.length≤140737488355328)(hsz: ∀f∈fs,f.1.size≤140737488355328∧f.2.size≤140737488355328):
  Calls Tryz.prog 20 #[.slice ao fs.length c] w fun e w'=>Ab7 fs e∧Apd w w':=by
 have hck:=Ah5 ao c fs w hf hl hsz
 by_cases he:Bl fs=0
 ·obtain⟨hm,h32,hn⟩:=K3 he;obtain⟨N,h0,hE⟩:=(Hp (Ae fs) hn).ends;have har:=fun W (hk:Apd w W)=>Ad0 ao c fs N W (hf.kept hk (fun _ _=>id)) (fun a ha=>by have:=hfb a ha;have:=hk.size;omega) hm (fun f hf=>(h32 f hf).1) hn h0 hE;have HAR:Aside _:=har;have HE:Aside (Bl fs=0∧0<N∧Hm.Ends 32 (Hm.lnB (Hm.lens (Ae fs))) (Af (Hm.lens (Ae fs))) N):=⟨he,h0,hE⟩;rw[he]at hck;clear hf hfb hsz h32 hn hE har he hl
  go_enter Tryz.func20,Tryz.ntmps20
  go_wp2_with fail;refine hck.mono ?_;rintro e w2 ⟨rfl,hk⟩;clear hck;go_wp2_with fail;refine(HAR.out w2 hk).mono ?_;rintro e w3 ⟨ps,hps,rfl,hk3⟩;have hk03:=hk.trans hk3 (fun _ _ h=>h);obtain⟨s,hs⟩: ∃s,s=(⟨(Kr fs ps (Dt (Hm.lens (Ae fs)) N (Ap (Ae fs) ps))).toArray⟩:ByteArray):=⟨_,rfl⟩;rw[←hs];have HS:Aside _:=hs;have HPS:Aside _:=hps;clear hs hk3 HAR hps;go_wp2;go_ret2;exact⟨.inr ⟨HE.out.1,_,⟨ps,N,HPS.out,HE.out.2.1,HE.out.2.2,rfl⟩,by rw[←HS.out];rfl⟩,hk03⟩
 ·have hb:(Bl fs !=0)=true:=by rw[bne_iff_ne];exact he
  have HE:Aside (Bl fs≠0):=he;clear hf hfb hsz he hl;obtain⟨e0,he0⟩: ∃e0,e0=Bl fs:=⟨_,rfl⟩;rw[←he0]at hck hb;have HE0:Aside (e0=Bl fs):=he0;clear he0
  go_enter Tryz.func20,Tryz.ntmps20
  go_wp2_with(go_at_call 50;refine hck.mono ?_;rintro e w2 ⟨rfl,hk⟩)
  go_ret2;exact⟨.inl ⟨HE.out,by rw[←HE0.out];rfl⟩,hk⟩
def Ms(w:World)(ao:Option Addr)(raw:List ByteArray):Prop:=
 ∀i,(h:i<raw.length)→ ∃b o,ao=some ⟨b,o,none⟩∧b<w.heap.size∧w.cell? ⟨b,o+i,none⟩=some (.string raw[i])
namespace Hm
end Hm
namespace Hm
def Hb:List Bool→Nat
 |[]=>0
 |b::r=>b.toNat+2*Hb r
theorem X3: ∀l:List Bool,Hb l<2^l.length
 |[]=>by simp[Hb]
 |b::r=>by
  have:=X3 r;have:=Jq b;rw[Hb,Amc,Amv];omega
theorem Ah6(l:List Bool)(i:Nat)(h:i<l.length):Hb (l.drop i)=l[i].toNat+2*Hb (l.drop (i+1)):=by
 rw[Al4 h];rfl
end Hm
set_option maxRecDepth 20000 in
set_option maxHeartbeats 1000000 in
theorem Ab8(bs:List Bool)(w:World)(hb:bs.length≤30):
  Calls Tryz.prog 121 #[.string ⟨(Ad bs).toArray⟩] w fun e w'=>e= .returned (.int .i64 (Hb bs:Nat))∧w'=w:=by
 obtain⟨S,hS⟩: ∃S,S=(⟨(Ad bs).toArray⟩:ByteArray):=⟨_,rfl⟩;have hSs:S.size=bs.length:=by rw[hS];show(Ad bs).toArray.size=_;simp[Ad]
 have HG:Hid (∀i,(h:i<bs.length)→ ∃hi:i<S.size,(S[i].toNat:Int)=48+((bs[i].toNat:Nat):Int)):=fun i hi=>by
  have h1:i<S.size:=by omega
  refine⟨h1,?_⟩;have e:S[i]=if bs[i]then 49 else 48:=by
   subst hS;show(Ad bs).toArray[i]'_=_;simp[Ad]
  rw[e];cases bs[i]<;>rfl
 rw[←hS];clear hS
 go_enter Tryz.func121,Tryz.ntmps121
 go_wp2_with fail
 go_loopw[3,4] (fun v3 v4 wr=> ∃j:Nat,j≤bs.length∧v4= .int .i64 ((j:Int)-1)∧v3= .int .i64 (Hb (bs.drop j):Nat)∧wr=w) (fun _ v4 _=>(intOf v4+1).toNat)
 case atStart=>exact⟨bs.length,Ale _,by first|rfl|go_num,by rw[Anl];rfl,rfl⟩
 case round=>
  obtain⟨j,hj,rfl,rfl,rfl⟩:=hrel;cases j with
  |zero=>
   have hv:((0:Nat):Int)-1= -1:=rfl;rw[hv,List.drop_zero];go_wp2_with fail;go_ret;exact⟨rfl,rfl⟩
  |succ i=>
   have hv:((i+1:Nat):Int)-1=(i:Int):=by omega
   rw[hv];obtain⟨hi,hg⟩:=HG.out i (by omega);have HNX:Hid (Hb (bs.drop i)=bs[i].toNat+2*Hb (bs.drop (i+1))):=Ah6 bs i (by omega);have hvb:Hb (bs.drop (i+1))<2^30:=by
    have h1:=X3 (bs.drop (i+1));rw[Amb]at h1;have h2:2^(bs.length-(i+1))≤2^30:=Am2 (by omega) (by omega);omega
   have hb1:=Jq bs[i];generalize bs[i].toNat=d at*;generalize Hb (bs.drop (i+1))=v at*;have hiI:(i:Int)<(S.size:Int):=by omega
   have hiB:(i:Int)<(bs.length:Int):=by omega
   have hd0:decide ((0:Int)≤(i:Int))=true:=Alb (by omega);go_wp2_with fail;go_roundw
   case rel=>exact⟨i,by omega,rfl,by rw[HNX.out];congr 1;omega,trivial⟩
   case measure=>simp[intOf]
set_option maxHeartbeats 1000000 in
theorem Ad1(ao:Option Addr)(c:Nat)(l:List ByteArray)(t:ByteArray)(w:World)(h:Ms w ao l)(hl:l.length≤1000000):
  Calls Tryz.prog 122 #[.slice ao l.length c,.string t] w fun e w'=>((∃i:Nat,e= .returned (.int .i64 (i:Nat))∧ ∃hi:i<l.length,l[i]=t∧ ∀j,(hj:j<i)→l[j]≠t)∨(e= .returned (.int .i64 (-1))∧ ∀j,(hj:j<l.length)→l[j]≠t))∧w'=w:=by
 have HS:Hid (Ms w ao l):=h;clear h
 go_enter Tryz.func122,Tryz.ntmps122
 go_wp2_with fail
 go_loopw[5] (fun vi wr=> ∃i:Nat,i≤l.length∧vi= .int .i64 i∧Hid (∀j,(hj:j<l.length)→j<i→l[j]≠t)∧wr=w) (fun vi _=>l.length-(intOf vi).toNat)
 case atStart=>exact⟨0,Alr _,rfl,fun j _ h=>by omega,rfl⟩
 case round=>
  obtain⟨i,hi,rfl,HN,rfl⟩:=hrel
  by_cases hlt:i<l.length
  ·have hltI:(i:Int)<(l.length:Int):=by omega
   obtain⟨b,o,rfl,hb,hc⟩:=HS.out i hlt
   by_cases he:l[i]=t
   ·have hE:(l[i].toList==t.toList)=true:=by rw[he];simp
    have HE:Hid (l[i]=t):=he;clear he;obtain⟨x,hx⟩: ∃x,x=l[i]:=⟨_,rfl⟩;rw[←hx]at hc hE;clear hx;go_wp2_with fail;go_ret;exact⟨.inl ⟨i,rfl,hlt,HE.out,fun j hj=>HN.out j (by omega) hj⟩,rfl⟩
   ·have hE:(l[i].toList==t.toList)=false:=by
     rw[Al5,Amq,Amq];exact fun e=>he (by apply An1;exact Am6 e)
    have HE:Hid (∀j,(hj:j<l.length)→j<i+1→l[j]≠t):=fun j hj h2=>by
     rcases Nat.lt_or_eq_of_le (show j≤i by omega)with h3|h3
     ·exact HN.out j hj h3
     ·subst h3;exact he
    clear he;generalize l[i]=x at*;go_wp2_with fail;go_roundw
    case rel=>exact⟨i+1,by omega,by go_num,HE,trivial⟩
    case measure=>simp[intOf];omega
  ·have hltI: ¬(i:Int)<(l.length:Int):=by omega
   go_wp2_with fail;go_ret;exact⟨.inr ⟨rfl,fun j hj=>HN.out j hj (by omega)⟩,rfl⟩
end Go.Proofs.YtegnkfdbmmndaaaGreat
