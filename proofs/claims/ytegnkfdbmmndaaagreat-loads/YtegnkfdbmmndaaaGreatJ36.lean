import Derived.Test.YtegnkfdbmmndaaaGreatJ00
import Derived.Test.YtegnkfdbmmndaaaGreatJ22
import Derived.Test.YtegnkfdbmmndaaaGreatJ24
import Derived.Test.YtegnkfdbmmndaaaGreatJ32
import Derived.Test.YtegnkfdbmmndaaaGreatJ35
import Derived.Test.YtegnkfdbmmndaaaGreatJ33
import Derived.Test.YtegnkfdbmmndaaaGreatJ34

namespace Go.Proofs.YtegnkfdbmmndaaaGreat
open Hm
open Go.RowKit
namespace Hm
def Gc(fs:List Fl)(m k:Nat):List Fl:=fs.take k++List.replicate (m-k) (⟨#[]⟩,⟨#[]⟩)
theorem Acw{f:Nat→Bool}{len m low n:Nat}(h:M8 f len m low n)(i:Nat)(hi:i<m):Fb f m low i≤n:=by
 have key: ∀d j,j+d=m→Et f m low j≤n:=by
  intro d;induction d with
  |zero=>intro j e;rw[show j=m by omega,h.all];exact Ale _
  |succ d ih=>
   intro j e;have h1:=ih (j+1) (by omega);have h2:=h.asc j (by omega);have h3:Et f m low (j+1)=Fb f m low j:=rfl;omega
 have h1:=key (m-(i+1)) (i+1) (by omega);exact h1
theorem Lv(st:Rd): ∀m k,((As m st).1.getD k ⟨#[]⟩).size≤255
 |0,k=>by show(([]:List ByteArray).getD k ⟨#[]⟩).size≤255;rw[List.getD_nil];exact Alr _
 |m+1,k=>by
  have ih:=Lv st m k;show(((As m st).1++[_]).getD k ⟨#[]⟩).size≤255;rw[Ak6]at ih⊢
  by_cases h:k<(As m st).1.length
  ·rw[Amh h];exact ih
  ·rw[Alt (by omega)]
   by_cases h2:k-(As m st).1.length=0
   ·rw[h2];have hx:(Bu (As m st).2 1).1<256:=by have:=Hd (As m st).2 1;simpa using this
    have hl:=Lg (Bu (As m st).2 1).2 (Bu (As m st).2 1).1;show(A5 _ _).1.toArray.size≤255;rw[Alq];omega
   ·rw[Al3 (by simp;omega)];exact Alr _
theorem Yh(fs:List Fl)(m k:Nat)(hf:fs.length=m)(hk:k≤m):(Gc fs m k).length=m:=by
 unfold Gc;rw[Alg,Aln,Alj];omega
theorem Acx(fs:List Fl)(m k:Nat)(hf:fs.length=m)(hk:k<m)(x:Fl)(hx:fs[k]?=some x):(Gc fs m k).set k x=Gc fs m (k+1):=by
 have e:List.replicate (m-k) ((⟨#[]⟩,⟨#[]⟩):Fl)=(⟨#[]⟩,⟨#[]⟩)::List.replicate (m-(k+1)) (⟨#[]⟩,⟨#[]⟩):=by rw[show m-k=(m-(k+1))+1 from by omega,Anf]
 unfold Gc;rw[e,Amt _ _ (by rw[Aln];omega),Aln,Ant (by omega),Amr,Ak9,List.take_add_one,hx,Alx];rfl
theorem Aek(fs:List Fl)(m:Nat)(hf:fs.length=m):Gc fs m m=fs:=by
 unfold Gc;rw[Amr,Al8 (by omega)];simp
end Hm
theorem Xa(hones:Cd)(pa ge k:Nat)(s l6:List UInt8)(W:World)(h:D3 W pa 1 ⟨(l6.take (Hm.szB (Am (Hm.rdF s).1 (Hm.rdN s).1))).toArray⟩ (Am (Hm.rdF s).1 (Hm.rdN s).1) ge (Hm.rdF s).1 (Cy (Hm.rdF s).1 (Hm.rdN s).1))(ho:F6 l6 (Hm.rdF s).1 (Hm.rdN s).1)(hk:k<(Hm.rdF s).1):
  Calls Tryz.prog 36 #[.pointer (some ⟨pa,1,none⟩),.int .i64 (k:Nat)] W fun e w'=>e= .returned (.tuple #[.int .i64 (Iq s l6 k:Nat),.int .i64 (Ii s l6 k:Nat)])∧Apd W w':=by
 have hF:=Pk s;have hN:=N7 s;have hel:=ho.fits;have hco:=ho.cover.ones;have hes:(⟨(l6.take (Hm.szB (Am (Hm.rdF s).1 (Hm.rdN s).1))).toArray⟩:ByteArray).size=Hm.szB (Am (Hm.rdF s).1 (Hm.rdN s).1):=by
  show(l6.take _).toArray.size=_;rw[Alq,Aln];omega
 have hle:=Wf _ _ hF hN;have hlo:=Xh (Hm.rdF s).1 (Hm.rdN s).1 hN;have hml:(Hm.rdF s).1*Cy (Hm.rdF s).1 (Hm.rdN s).1≤Am (Hm.rdF s).1 (Hm.rdN s).1:=Apa _ _;have e1:Iq s l6 k=Et (Ak (l6.take (Hm.szB (Am (Hm.rdF s).1 (Hm.rdN s).1)))) (Hm.rdF s).1 (Cy (Hm.rdF s).1 (Hm.rdN s).1) k:=rfl;have e2:Ii s l6 k=Fb (Ak (l6.take (Hm.szB (Am (Hm.rdF s).1 (Hm.rdN s).1)))) (Hm.rdF s).1 (Cy (Hm.rdF s).1 (Hm.rdN s).1) k:=rfl;have e3:l6.take (Hm.szB (Am (Hm.rdF s).1 (Hm.rdN s).1))=(⟨(l6.take (Hm.szB (Am (Hm.rdF s).1 (Hm.rdN s).1))).toArray⟩:ByteArray).data.toList:=rfl;rw[e1,e2];generalize Cy (Hm.rdF s).1 (Hm.rdN s).1=lo at*;generalize Am (Hm.rdF s).1 (Hm.rdN s).1=el at*;rw[e3]at hco⊢;generalize(⟨(l6.take (Hm.szB el)).toArray⟩:ByteArray)=E at*;have h8:el≤8*E.size:=by rw[hes];unfold Hm.szB;omega
 exact Aa7 hones pa 1 el ge (Hm.rdF s).1 lo k E W h (by omega) (by omega) hk hml h8 hco (by rw[hes];omega)
set_option maxRecDepth 20000 in
set_option maxHeartbeats 2000000 in
theorem Xb(hones:Cd)(B pa:Nat)(s l6:List UInt8)(L:List Nat)(l8:List UInt8)(st:B0)(w:World)(hp:Fe s l6 L l8 st)(h:Hu B w pa s l6 L l8 st):
  Calls Tryz.prog 14 #[.pointer (some ⟨pa,0,none⟩)] w fun e w'=> ∃gf,e= .returned (.slice (some ⟨gf,0,none⟩) (Hm.rdF s).1 (Hm.rdF s).1)∧w.heap.size≤gf∧Dl w' gf (A8 s l6 l8 st)∧Apd w w':=by
 obtain⟨gn,ge,g,ng,nc,gs,P⟩:=h.parts hp;obtain⟨hcl,hct,hcw⟩:=U9 hp.tree;have hN:=N7 s;have hF:=Pk s;have hroot:=(Aew hp.names).2;have htl:=Ng hp.tree hN;have hts:(⟨(l8.take (Hm.szB st.len)).toArray⟩:ByteArray).size≤1000000:=by show(l8.take _).toArray.size≤_;rw[Alq,Aln];omega
 have HBK:Hid (∀W,E2 W pa 6 ⟨(l8.take (Hm.szB st.len)).toArray⟩ st.len g ng nc st.nds (Hm.rdR s).1 st.ws→Calls Tryz.prog 33 #[.func (.func 34) #[.pointer (some ⟨pa,6,none⟩)] #[],.int .i64 0,.int .i64 ((Hm.rdN s).1:Nat)] W fun e w'=>e= .returned (.slice (some ⟨W.heap.size,0,none⟩) (Hm.rdN s).1 (Hm.rdN s).1)∧
   w'.heap[W.heap.size]?=some (.cells (Ag (Fp s l8 st)).toArray 5 (0,0))∧Apd W w'):=fun W hW=>
  Ajj hones pa 6 st.len g ng nc (Hm.rdR s).1 0 (Hm.rdN s).1 _ st.nds st.ws (Tb l8 (Hm.rdN s).1 st) W hW hct hcw (by omega) (Alr _) hts (by omega) (by omega)
 have HP:Hid (Se w pa s l6 L l8 st gn ge g ng nc gs):=P;have hpw:pa<w.heap.size:=Aly _ _ P.total;have hgw:gn<w.heap.size:=Alw P.nblock;obtain⟨n,hn⟩: ∃n,n=(Hm.rdN s).1:=⟨_,rfl⟩;rw[←hn]at HBK hN;have htot:=fun W (hW:W.cell? ⟨pa,778,none⟩=some (.int .i64 (n:Nat)))=>Ah2 pa 6 n W hW;have HT:Hid _:=htot;have HPT:Hid (w.cell? ⟨pa,778,none⟩=some (.int .i64 (n:Nat))∧E2 w pa 6 ⟨(l8.take (Hm.szB st.len)).toArray⟩ st.len g ng nc st.nds (Hm.rdR s).1 st.ws):=⟨by rw[hn];exact P.total,P.rows⟩;have HN:Hid (n=(Hm.rdN s).1):=hn;have HFI:Hid (∀k W,k<(Hm.rdF s).1→Apd w W→Calls Tryz.prog 36 #[.pointer (some ⟨pa,1,none⟩),.int .i64 (k:Nat)] W fun e w'=>e= .returned (.tuple #[.int .i64 (Iq s l6 k:Nat),.int .i64 (Ii s l6 k:Nat)])∧Apd W w'):=fun k W hk hW=>Xa hones pa ge k s l6 W (P.ends.kept hW id id) hp.ends hk;have HFT:Hid (∀k,k<(Hm.rdF s).1→Iq s l6 k≤Ii s l6 k∧Ii s l6 k≤n):=fun k hk=>⟨hp.ends.cover.asc k hk,by rw[hn];exact Acw hp.ends.cover k hk⟩;have HNS:Hid (∀k nm,nm=(Hm.rdM s).1.getD k ⟨#[]⟩→k<(Hm.rdF s).1→nm.size≤281474976710656):=fun k nm h1 h2=>by
  rw[h1];have:=Lv (Hm.rdB s) (Hm.rdF s).1 k;exact Al2 this (by omega)
 clear P h hcl hct hcw htl hts htot hn hroot
 go_enter Tryz.func14,Tryz.ntmps14
 go_wp2_with fail
 go_cut[3]from 11 (fun v3 wz=> ∃gt:Nat,v3= .slice (some ⟨gt,0,none⟩) n n∧w.heap.size≤gt∧Hid (wz.heap[gt]?=some (.cells (Ag (Fp s l8 st)).toArray 5 (0,0))∧Apd w wz))
 case first=>
  go_region_held(fun X=>Hid (Apd w X)) (first|exact k2|exact k1|exact(Aa.refl (fun _=>False) w).drew)
   (first
    |(go_at_call 35;(refine(HT.out _ ?_).mono ?_;(exact((Aa.refl (fun _=>False) w).drew.cell hpw id).trans HPT.out.1);rintro e w1 ⟨rfl,hq1⟩;have k1:Hid (Apd w w1):=(by rw[hq1];exact(Aa.refl (fun _=>False) w).drew);clear hq1))
    |(go_at_call 33;(refine(HBK.out _ (HPT.out.2.kept k1.out id id id)).mono ?_;rintro e w2 ⟨rfl,hg2,hq2⟩;have k2:Hid (Apd w w2):=k1.out.trans hq2 (fun _ _ h=>h);clear hq2)))
  all_goals(go_wp2_with fail;go_meet;case rel=>exact⟨_,rfl,k1.out.size,hg2,k2.out⟩)
 case rest=>
  obtain⟨gt,rfl,hgt,HG⟩:=hcut;have c0:wc.cell? ⟨pa,0,none⟩=some (.slice (some ⟨gn,0,none⟩) (Hm.rdF s).1 (Hm.rdF s).1):=(HG.out.2.cell (p:=⟨pa,0,none⟩) hpw id).trans HP.out.names;obtain⟨i0,hi,hz0,hz1,hz2⟩:=Amz Y3;obtain⟨m,hm⟩: ∃m,m=(Hm.rdF s).1:=⟨_,rfl⟩;rw[←hm]at c0 hF;have HM:Hid (m=(Hm.rdF s).1):=hm;rw[←hm]at HFI HFT HNS;clear hm HBK HT HPT;have hpc:pa<wc.heap.size:=by have:=HG.out.2.size;omega
  have hgsz:gt<wc.heap.size:=Alw HG.out.1
  go_wp2_with(at_make;refine Ane _ rfl (.tmp 25) (.tmp 25) 22 rfl wc.heap.size 38 i0 (.agg #[.string ⟨#[]⟩,.string ⟨#[]⟩]) 2 Tryz.underlying22 hi hz0 hz1 .i64 .i64 _ _ m rfl rfl rfl rfl (by rw[hz2];omega) (by unfold maxLen;omega) (Ale _) ?_;intro w3 ho3 hg3;have hk3:Apd wc w3:=(Aa.refl _ _).grown hg3 (fun k hk=>by cases hk);have c03:w3.cell? ⟨pa,0,none⟩=some (.slice (some ⟨gn,0,none⟩) m m):=(hk3.cell (p:=⟨pa,0,none⟩) hpc id).trans c0)
  have hr3:=Dl.made ho3;obtain⟨gf,hgf⟩: ∃x,x=wc.heap.size:=⟨_,rfl⟩;rw[←hgf]at hr3⊢;have H3:Hid (Dl w3 gf (List.replicate m (⟨#[]⟩,⟨#[]⟩))∧Apd w w3∧w3.heap[gt]?=some (.cells (Ag (Fp s l8 st)).toArray 5 (0,0))):=⟨hr3,HG.out.2.trans hk3 (fun _ _ h=>h),hk3.row HG.out.1 id⟩;have hwg:w.heap.size≤gf:=by rw[hgf];exact HG.out.2.size
  have hgg:gt<gf:=by omega
  clear ho3 hg3 hk3 hr3 HG c0 hgsz hgf
  go_loopw[32] (fun vi wr=> ∃k:Nat,k≤m∧vi= .int .i64 k∧Dl wr gf (Gc (A8 s l6 l8 st) m k)∧Apd w wr∧wr.heap[gt]?=some (.cells (Ag (Fp s l8 st)).toArray 5 (0,0))) (fun vi _=>m-(intOf vi).toNat)
  case atStart=>exact⟨0,Alr _,rfl,by simpa[Gc]using H3.out.1,H3.out.2.1,H3.out.2.2⟩
  case round=>
   obtain⟨k,hk,rfl,hrow,hkr,htx⟩:=hrel
   by_cases hlt:k<m
   ·obtain⟨nm,hnm⟩: ∃x,x=(Hm.rdM s).1.getD k ⟨#[]⟩:=⟨_,rfl⟩;have hnl:(Hm.rdM s).1.length=m:=by rw[HM.out];exact E5 _ _
    have cnm:wr.cell? ⟨gn,k,none⟩=some (.string nm):=by
     rw[hkr.cell (p:=⟨gn,k,none⟩) hgw id,Alc _ _ k _ _ _ HP.out.nblock,Alz,hnm];unfold Fo;rw[Alu,Ak6,Ak7 (show k<(Hm.rdM s).1.length by omega)];rfl
    have hfi:=HFI.out k wr hlt hkr;have hft:=HFT.out k hlt;have hcl:=fun W=>Oj nm W (HNS.out k nm hnm hlt);have HFX:Hid ((A8 s l6 l8 st)[k]?=some (nm,⟨(Hm.part (Fp s l8 st) (Iq s l6 k) (Ii s l6 k)).toArray⟩)):=by
     show _=_;unfold A8;rw[Alu,Amw (by rw[←HM.out];exact hlt),hnm];rfl
    generalize Iq s l6 k=fr at hfi hft HFX;generalize Ii s l6 k=tz at hfi hft HFX;have H4:Hid (Dl wr gf (Gc (A8 s l6 l8 st) m k)∧Apd w wr∧wr.heap[gt]?=some (.cells (Ag (Fp s l8 st)).toArray 5 (0,0))):=⟨hrow,hkr,htx⟩;have hkI:(k:Int)<(m:Int):=by omega
    clear hrow hkr htx hnm hnl;go_wp2_with fail;refine hfi.mono ?_;rintro e w4 ⟨rfl,hk4⟩;have H5:Hid (Dl w4 gf (Gc (A8 s l6 l8 st) m k)∧Apd w w4∧w4.heap[gt]?=some (.cells (Ag (Fp s l8 st)).toArray 5 (0,0))):=⟨H4.out.1.kept hk4 id,H4.out.2.1.trans hk4 (fun _ _ h=>h),hk4.row H4.out.2.2 id⟩;clear hfi hk4 H4;go_wp2_with fail;refine Ank (S:=fun X=>X.heap[gt]?=some (.cells (Ag (Fp s l8 st)).toArray 5 (0,0))) (by kernel_rfl) H5.out.2.2 (fun hHeld=>?_)
    refine wpAnyH_take (i := 0) (oi := { dst := some 45, op := Op.move (Operand.tmp 4), type := 22, pos := "hoard.go:66", after := #[], guard := none }) (v := ?_) rfl (by kernel_rfl) (by kernel_rfl) (by kernel_rfl) (fun _ _ _ h => h) (Or.inl ⟨by kernel_rfl, ?_⟩) (by assumption) ?_
    rotate_left
    ·intro X hSw;try dsimp only at hSw
     go_simp
     with_reducible rfl
    simp only[Act.put,Ak8,Ak9,Ala]
    refine wpAnyH_take (i := 1) (oi := { dst := some 46, op := Op.move (Operand.tmp 5), type := 3, pos := "hoard.go:66", after := #[], guard := none }) (v := ?_) rfl (by kernel_rfl) (by kernel_rfl) (by kernel_rfl) (fun _ _ _ h => h) (Or.inl ⟨by kernel_rfl, ?_⟩) (by assumption) ?_
    rotate_left
    ·intro X hSw;try dsimp only at hSw
     go_simp
     with_reducible rfl
    simp only[Act.put,Ak8,Ak9,Ala]
    refine wpAnyH_take (i := 2) (oi := { dst := some 47, op := Op.move (Operand.tmp 6), type := 9, pos := "hoard.go:66", after := #[], guard := none }) (v := ?_) rfl (by kernel_rfl) (by kernel_rfl) (by kernel_rfl) (fun _ _ _ h => h) (Or.inl ⟨by kernel_rfl, ?_⟩) (by assumption) ?_
    rotate_left
    ·intro X hSw;try dsimp only at hSw
     go_simp
     with_reducible rfl
    simp only[Act.put,Ak8,Ak9,Ala]
    refine wpAnyH_take (i := 4) (oi := { dst := some 49, op := Op.move (Operand.tmp 3), type := 79, pos := "hoard.go:66", after := #[], guard := none }) (v := ?_) rfl (by kernel_rfl) (by kernel_rfl) (by kernel_rfl) (fun _ _ _ h => h) (Or.inl ⟨by kernel_rfl, ?_⟩) (by assumption) ?_
    rotate_left
    ·intro X hSw;try dsimp only at hSw
     go_simp
     with_reducible rfl
    simp only[Act.put,Ak8,Ak9,Ala]
    refine wpAnyH_take (i := 5) (oi := { dst := some 50, op := Op.move (Operand.tmp 7), type := 3, pos := "hoard.go:66", after := #[], guard := none }) (v := ?_) rfl (by kernel_rfl) (by kernel_rfl) (by kernel_rfl) (fun _ _ _ h => h) (Or.inl ⟨by kernel_rfl, ?_⟩) (by assumption) ?_
    rotate_left
    ·intro X hSw;try dsimp only at hSw
     go_simp
     with_reducible rfl
    simp only[Act.put,Ak8,Ak9,Ala]
    refine wpAnyH_take (i := 6) (oi := { dst := some 51, op := Op.move (Operand.tmp 8), type := 3, pos := "hoard.go:66", after := #[], guard := none }) (v := ?_) rfl (by kernel_rfl) (by kernel_rfl) (by kernel_rfl) (fun _ _ _ h => h) (Or.inl ⟨by kernel_rfl, ?_⟩) (by assumption) ?_
    rotate_left
    ·intro X hSw;try dsimp only at hSw
     go_simp
     with_reducible rfl
    simp only[Act.put,Ak8,Ak9,Ala];obtain⟨hf1,hf2⟩:=hft;have hfI:(fr:Int)≤(tz:Int):=by omega
    have htI:(tz:Int)≤(n:Int):=by omega
    refine wpAnyH_take (i := 7) (oi := { dst := some 52, op := Op.slice 79 (Operand.tmp 49) (some (Operand.tmp 50)) (some (Operand.tmp 51)) none, type := 79, pos := "hoard.go:66", after := #[{ on := 4, ground := Ground.data }, { on := 5, ground := Ground.data }, { on := 6, ground := Ground.data }], guard := none }) (v := .slice (if n = fr then some ⟨gt, 0, none⟩ else some ⟨gt, fr, none⟩) (tz - fr) (n - fr)) rfl (by kernel_rfl) (by kernel_rfl) (by kernel_rfl) (fun _ _ _ h => h) (Or.inl ⟨by kernel_rfl, ?_⟩) (by assumption) ?_
    ·intro X hSw;try dsimp only at hSw
     go_simp
    simp only[Act.put,Ak8,Ak9,Ala];obtain⟨PT,hPT⟩: ∃x,x=(⟨(Hm.part (Fp s l8 st) fr tz).toArray⟩:ByteArray):=⟨_,rfl⟩;have HPT:Hid (PT=(⟨(Hm.part (Fp s l8 st) fr tz).toArray⟩:ByteArray)):=hPT;clear hPT;have htl:(Fp s l8 st).length=n:=by rw[HN.out];exact M3 s l8 st
    have HCV:Hid (∀X:World,X.heap[gt]?=some (.cells (Ag (Fp s l8 st)).toArray 5 (0,0))→(convert 79 9 (.slice (if n=fr then some ⟨gt,0,none⟩else some ⟨gt,fr,none⟩) (tz-fr) (n-fr))).run Tryz.prog X= .ok (.string PT) X):=fun X hX=>by
     rw[HPT.out]
     by_cases c:n=fr
     ·rw[if_pos c,show tz-fr=0 by omega];have:=Sf hX 0 0 (n-fr) (by omega);rw[this];unfold Hm.part;rw[show tz-fr=0 by omega,Apb,Apb]
     ·rw[if_neg c];exact Sf hX fr (tz-fr) (n-fr) (by omega)
    refine wpAnyH_take (i := 8) (oi := { dst := some 53, op := Op.convert 79 9 (Operand.tmp 52), type := 9, pos := "hoard.go:66", after := #[{ on := 7, ground := Ground.data }], guard := none }) (v := .string PT) rfl (by kernel_rfl) (by kernel_rfl) (by kernel_rfl) (fun _ _ _ h => h) (Or.inl ⟨by kernel_rfl, fun X hX => Adw X 79 9 (.tmp 52) rfl _ _ rfl (HCV.out X hX)⟩) (by assumption) ?_
    simp only[Act.put,Ak8,Ak9,Ala];clear HCV;refine Al0 (rs:=[3]) (by kernel_rfl) (by simp) ?_;refine Alm rfl (fun K hK=>?_) Alv;go_simp;refine(hcl _).mono ?_;rintro e w5 ⟨rfl,hk5⟩;have hk45:Apd w4 w5:=(Aa.refl (fun _=>False) w4).drew.trans hk5 (fun _ _ h=>h);have hR:=Yh (A8 s l6 l8 st) m k (by rw[HM.out];exact F3 s l6 l8 st) hk;have HRS:=Acx (A8 s l6 l8 st) m k (by rw[HM.out];exact F3 s l6 l8 st) hlt _ HFX.out;rw[←HPT.out]at HRS;generalize Gc (A8 s l6 l8 st) m k=R at H5 hR HRS;have HRS':Hid (R.set k (nm,PT)=Gc (A8 s l6 l8 st) m (k+1)):=HRS;have hF5:=H5.out.1.kept hk45 id;have q1:=hF5.fst (i:=k) (by omega);have q2:=hF5.snd (i:=k) (by omega);have fz1:=hF5.free (k*2);have fz2:=hF5.free (k*2+1);have H6:Hid (Dl w5 gf R∧Apd w w5∧w5.heap[gt]?=some (.cells (Ag (Fp s l8 st)).toArray 5 (0,0))):=⟨hF5,H5.out.2.1.trans hk45 (fun _ _ h=>h),hk45.row H5.out.2.2 id⟩;refine hK.out _ _ H6.out.2.2 (fun hHeld=>?_);clear hK K hk5 hk45 hF5 H5 HRS hcl htl HPT HFX
    refine wpAnyH_take (i := 9) (oi := { dst := some 54, op := Op.build 38 #[(0, Operand.tmp 48), (1, Operand.tmp 53)], type := 38, pos := "hoard.go:66", after := #[{ on := 3, ground := Ground.data }, { on := 8, ground := Ground.data }], guard := none }) (v := ?_) rfl (by kernel_rfl) (by kernel_rfl) (by kernel_rfl) (fun _ _ _ h => h) (Or.inl ⟨by kernel_rfl, ?_⟩) (by assumption) ?_
    rotate_left
    ·intro X hSw;try dsimp only at hSw
     go_simp
     with_reducible rfl
    simp only[Act.put,Ak8,Ak9,Ala]
    refine wpAnyH_take (i := 10) (oi := { dst := some 55, op := Op.indexAddr 22 (Operand.tmp 45) (Operand.tmp 46), type := 0, pos := "hoard.go:66", after := #[{ on := 0, ground := Ground.data }, { on := 1, ground := Ground.data }, { on := 0, ground := Ground.phase }, { on := 1, ground := Ground.phase }, { on := 2, ground := Ground.phase }, { on := 3, ground := Ground.phase }, { on := 4, ground := Ground.phase }, { on := 5, ground := Ground.phase }, { on := 6, ground := Ground.phase }, { on := 7, ground := Ground.phase }, { on := 8, ground := Ground.phase }, { on := 9, ground := Ground.phase }], guard := none }) (v := ?_) rfl (by kernel_rfl) (by kernel_rfl) (by kernel_rfl) (fun _ _ _ h => h) (Or.inl ⟨by kernel_rfl, ?_⟩) (by assumption) ?_
    rotate_left
    ·intro X hSw;try dsimp only at hSw
     go_simp
     with_reducible rfl
    simp only[Act.put,Ak8,Ak9,Ala];refine Al0 (rs:=[11]) (by kernel_rfl) (by simp) ?_;refine Alm rfl (fun K hK=>?_) Alv;go_simp;have hne:gt≠gf:=by omega
    have hkz:Aa (fun j=>j=gf) w5 ((w5.setCell ⟨gf,k*2,none⟩ (.string nm)).setCell ⟨gf,k*2+1,none⟩ (.string PT)):=((Aa.refl (fun j=>j=gf) w5).setCell (p:=⟨gf,k*2,none⟩) (.inr rfl) _).setCell (p:=⟨gf,k*2+1,none⟩) (.inr rfl) _;have H7:Hid (Dl ((w5.setCell ⟨gf,k*2,none⟩ (.string nm)).setCell ⟨gf,k*2+1,none⟩ (.string PT)) gf (Gc (A8 s l6 l8 st) m (k+1))∧Apd w ((w5.setCell ⟨gf,k*2,none⟩ (.string nm)).setCell ⟨gf,k*2+1,none⟩ (.string PT))∧((w5.setCell ⟨gf,k*2,none⟩ (.string nm)).setCell ⟨gf,k*2+1,none⟩ (.string PT)).heap[gt]?=some (.cells (Ag (Fp s l8 st)).toArray 5 (0,0))):=
     ⟨by rw[←HRS'.out];exact H6.out.1.put k nm PT (by omega),H6.out.2.1.trans hkz (fun j h1 h2=>by omega),hkz.row H6.out.2.2 hne⟩
    generalize(w5.setCell ⟨gf,k*2,none⟩ (.string nm)).setCell ⟨gf,k*2+1,none⟩ (.string PT)=wz at H7⊢;refine hK.out _ _ H7.out.2.2 (fun hHeld=>?_);clear hK K hkz H6 q1 q2 fz1 fz2;refine Anp (by kernel_rfl) ?_ _;go_wp2_with fail;go_roundw
    case rel=>exact⟨k+1,by omega,by go_num,H7.out.1,H7.out.2.1,H7.out.2.2⟩
    case measure=>simp[intOf];omega
   ·obtain rfl:k=m:=by omega
    have H4:Hid (Dl wr gf (A8 s l6 l8 st)∧Apd w wr):=⟨by rw[Aek _ _ (by rw[HM.out];exact F3 s l6 l8 st)]at hrow;exact hrow,hkr⟩;clear hrow hkr htx;go_wp2_with fail;go_ret;exact⟨gf,by rw[←HM.out];rfl,hwg,H4.out.1,H4.out.2⟩
def Qg(B:Nat)(w':World)(s:List UInt8)(e:Ending):Prop:=
 (∃pa l6 L l8 st,B≤pa∧Fe s l6 L l8 st∧Hu B w' pa s l6 L l8 st∧Bl (A8 s l6 l8 st)=0∧Cn (A8 s l6 l8 st) s∧e= .returned (.tuple #[.pointer (some ⟨pa,0,none⟩),.int .i64 0]))∨
 ((∀l6 L l8 st,Fe s l6 L l8 st→Bl (A8 s l6 l8 st)=0→ ¬Cn (A8 s l6 l8 st) s)∧e= .returned (.tuple #[.pointer none,.int .i64 6]))
namespace Hm
theorem Fe.unique{s l6 l6':List UInt8}{L L':List Nat}{l8 l8':List UInt8}{st st':B0}(h:Fe s l6 L l8 st)(h':Fe s l6' L' l8' st'):l6=l6'∧L=L'∧l8=l8'∧st=st':=by
 have e1:l6=l6':=Al1 (h.names.symm.trans h'.names);subst e1;have e2:=h.lens.symm.trans h'.lens;injection e2 with e3 e4;injection e4 with e4;subst e3 e4;exact⟨rfl,rfl,rfl,Al1 (h.tree.2.symm.trans h'.tree.2)⟩
theorem Aag(s l6 l8:List UInt8)(st:B0): ∀f∈A8 s l6 l8 st,f.1.size≤140737488355328∧f.2.size≤140737488355328:=by
 intro f hf;obtain⟨i,hi,rfl⟩:=List.mem_map.1 hf;constructor
 ·exact Al2 (Lv (rdB s) (rdF s).1 i) (by omega)
 ·show(part _ _ _).toArray.size≤_;rw[Alq];unfold part;have h1:=M3 s l8 st;have h2:=N7 s;rw[Aln,Amb];omega
end Hm
theorem Aj8(hones:Cd)(hLn:Lb)(s:List UInt8)(w:World)(hs:s.length≤281474976710656):
  Calls Tryz.prog 12 #[.string ⟨s.toArray⟩] w fun e w'=>Apd w w'∧Qg w.heap.size w' s e:=by
 have hrd:=Ajl hones hLn s w hs;obtain⟨S,hS⟩: ∃S,S=(⟨s.toArray⟩:ByteArray):=⟨_,rfl⟩;rw[←hS]at hrd⊢;have HS:Hid (S=(⟨s.toArray⟩:ByteArray)):=hS;clear hS
 go_enter Tryz.func12,Tryz.ntmps12
 go_wp2_with fail;refine hrd.mono ?_;rintro e w1 ⟨hk1,pa,ok,hpa,rfl,hgot⟩;rcases hgot.arch with⟨rfl,l6,L,l8,st,hP,hA⟩|⟨rfl,hno⟩;rotate_left
 ·clear hrd;have H:Hid (Apd w w1):=hk1;have HN:Hid (∀l6 L l8 st,¬Fe s l6 L l8 st):=hno;clear hk1 hgot hno;go_wp2_with fail;go_ret2;exact⟨H.out,.inr ⟨fun l6 L l8 st h=>absurd h (HN.out l6 L l8 st),rfl⟩⟩
 ·have hun:=Xb hones w.heap.size pa s l6 L l8 st w1 hP hA;have H1:Hid (Apd w w1∧Fe s l6 L l8 st∧Hu w.heap.size w1 pa s l6 L l8 st):=⟨hk1,hP,hA⟩;have hfl:=F3 s l6 l8 st;have hF:=Pk s;have hsz:=Aag s l6 l8 st;rw[←hfl]at hun;have HSZ:Hid ((A8 s l6 l8 st).length≤255∧ ∀f∈A8 s l6 l8 st,f.1.size≤140737488355328∧f.2.size≤140737488355328):=⟨by omega,hsz⟩;have HU:Hid (∀l6' L' l8' st',Fe s l6' L' l8' st'→A8 s l6' l8' st'=A8 s l6 l8 st):=fun l6' L' l8' st' h=>by
   obtain⟨e1,_,e3,e4⟩:=Fe.unique h hP;rw[e1,e3,e4]
  generalize hfs:A8 s l6 l8 st=fs at hun HSZ HU;have HFS:Hid (A8 s l6 l8 st=fs):=hfs;clear hk1 hP hA hgot hrd hfl hF hsz hfs;go_wp2_with fail;refine hun.mono ?_;rintro e w2 ⟨gf,rfl,hgf,hrow,hk2⟩;have hat:Cx w2 (some ⟨gf,0,none⟩) fs:=Dl.at (r:=[]) (by rw[Am4];exact hrow);have hpk:=Ajp (some ⟨gf,0,none⟩) fs.length fs w2 hat (fun a ha=>by injection ha with ha;rw[←ha];exact hrow.lt) (by have:=HSZ.out.1;omega) HSZ.out.2;have H2:Hid (Apd w w2∧Fe s l6 L l8 st∧Hu w.heap.size w2 pa s l6 L l8 st):=⟨H1.out.1.trans hk2 (fun _ _ h=>h),H1.out.2.1,H1.out.2.2.kept hk2 (fun _ _ _=>id) id⟩;clear hat hrow hk2 H1 hun;go_wp2_with fail;refine hpk.mono ?_;rintro e w3 ⟨hps,hk3⟩;have H3:Hid (Apd w w3∧Fe s l6 L l8 st∧Hu w.heap.size w3 pa s l6 L l8 st):=⟨H2.out.1.trans hk3 (fun _ _ h=>h),H2.out.2.1,H2.out.2.2.kept hk3 (fun _ _ _=>id) id⟩;clear hpk H2 hk3;rcases hps with⟨hck,rfl⟩|⟨hck,s',hIs,rfl⟩
  ·have HC:Hid (Bl fs≠0):=hck;have hne:=hck;clear hck;generalize Bl fs=c at hne⊢;have hd:(c==0)=false:=by simpa using hne
   have hd2:(c !=0)=true:=by simpa using hne
   clear hne;go_wp2_with fail;go_ret2;exact⟨H3.out.1,.inr ⟨fun l6' L' l8' st' h h0=>by rw[HU.out _ _ _ _ h]at h0;exact absurd h0 HC.out,rfl⟩⟩
  ·obtain⟨S',hS'⟩: ∃x,x=(⟨s'.toArray⟩:ByteArray):=⟨_,rfl⟩;rw[←hS'];have HI:Hid (Bl fs=0∧Cn fs s'∧S'=(⟨s'.toArray⟩:ByteArray)):=⟨hck,hIs,hS'⟩
   by_cases hse:s'=s
   ·have hSS:S'=S:=by rw[hS',HS.out,hse]
    rw[hSS];have HSE:Hid (s'=s):=hse;clear hck hIs hS' hse hSS;go_wp2_with fail;go_ret2;refine⟨H3.out.1,.inl ⟨pa,l6,L,l8,st,hpa,H3.out.2.1,H3.out.2.2,by rw[HFS.out];exact HI.out.1,?_,rfl⟩⟩;have:=HI.out.2.1;rw[HSE.out]at this;rw[HFS.out];exact this
   ·have hSS:(S'.toList==S.toList)=false:=by
     rw[hS',HS.out,Amq,Amq,Al5];exact hse
    have HSE:Hid (¬s'=s):=hse;clear hck hIs hS' hse;go_wp2_with fail;go_ret2;refine⟨H3.out.1,.inr ⟨fun l6' L' l8' st' h h0 h1=>?_,rfl⟩⟩;rw[HU.out _ _ _ _ h]at h1;exact HSE.out (Cn.unique (K3 HI.out.1).2.2 HI.out.2.1 h1)
theorem Q5{w:World}{base:Nat}{v:Value}{fs:List Hm.Fl}(h:w.ownsRow base 38 2 v fs.length (Bx fs)): ∃ao c,v= .slice ao fs.length c∧Cx w ao fs∧ ∀a,ao=some a→a.block<w.heap.size:=by
 rcases h.2 with⟨rfl,h0⟩|⟨g,cap,cur,rfl,_,hb,_⟩
 ·exact⟨none,0,by rw[h0],fun i hi=>by omega,by simp⟩
 ·have hlt:g<w.heap.size:=(h.lt g rfl).2;refine⟨_,cap,rfl,fun i hi=>⟨g,0,rfl,hlt,?_,?_⟩,fun a ha=>by cases ha;exact hlt⟩
  ·rw[Al7,h.cellAt _ (by omega)];exact P8 fs i hi
  ·rw[Al7,h.cellAt _ (by omega)];exact Nh fs i hi
set_option maxHeartbeats 1000000 in
theorem Ael(s:List UInt8)(w:World)(hs:s.length≤140737488355328):
  Calls Tryz.prog 13 #[.string ⟨s.toArray⟩] w fun e w'=>Apd w w'∧ ∃(v:Value) (l:List Hm.Fl) (ok:Bool),e= .returned (.tuple #[v,.bool ok])∧w'.ownsRow w.heap.size 38 2 v l.length (Bx l)∧(ok=true→Bl l=0∧Cn l s)∧ ∀fs,Bl fs=0→Cn fs s→ok=true∧l=fs:=by
 have hfi:=Acv s w hs;obtain⟨S,hS⟩: ∃S,S=(⟨s.toArray⟩:ByteArray):=⟨_,rfl⟩;have HS:Hid (S=(⟨s.toArray⟩:ByteArray)):=hS;rw[←hS]at hfi⊢;clear hS
 go_enter Tryz.func13,Tryz.ntmps13
 go_wp2_with fail;refine hfi.mono ?_;rintro e w1 ⟨hk1,v,l,ok,rfl,ho1,hl4,hsm,hfs⟩;obtain⟨ao,c,hv,hf,hfb⟩:=Q5 ho1;subst hv;clear hfi;have H1:Hid (Apd w w1∧w1.ownsRow w.heap.size 38 2 (.slice ao l.length c) l.length (Bx l)∧ ∀fs,Bl fs=0→Cn fs s→ok=true∧l=fs):=⟨hk1,ho1,hfs⟩;have hpk:=Ut ao c l w1 hf (by omega) (fun f hf=>by have:=hsm f hf;omega);clear hk1 ho1 hfs hf hfb hsm;cases ok with
 |false=>
  go_wp2_with fail;go_ret2;refine⟨H1.out.1,_,[],false,rfl,Aoe _ _ _ _,by simp,fun fs h1 h2=>?_⟩;have:=(H1.out.2.2 fs h1 h2).1;cases this
 |true=>
  go_wp2_with fail;refine hpk.mono ?_;rintro e w2 ⟨hps,hk2⟩;have H2:Hid (Apd w w2∧w2.ownsRow w.heap.size 38 2 (.slice ao l.length c) l.length (Bx l)∧ ∀fs,Bl fs=0→Cn fs s→l=fs):=⟨H1.out.1.trans hk2 (fun _ _ h=>h),hk2.owns H1.out.2.1 (fun _ _ h=>h),fun fs h1 h2=>(H1.out.2.2 fs h1 h2).2⟩;clear hpk hk2 H1;rcases hps with⟨hne,rfl⟩|⟨hck,t,hIs,rfl⟩
  ·have hE:((Bl l)==(0:Int))=false:=by rw[Al5];exact hne
   have HNE:Hid (Bl l≠0):=hne;generalize hcc:Bl l=cc at*;go_wp2_with fail;go_ret2;refine⟨H2.out.1,_,l,false,rfl,H2.out.2.1,by simp,fun fs h1 h2=>?_⟩;have:=H2.out.2.2 fs h1 h2;subst this;rw[h1]at hcc;exact absurd hcc.symm HNE.out
  ·obtain⟨T,hT⟩: ∃T,T=(⟨t.toArray⟩:ByteArray):=⟨_,rfl⟩;have HT:Hid (T=(⟨t.toArray⟩:ByteArray)):=hT;have HC:Hid (Bl l=0∧Cn l t):=⟨hck,hIs⟩;rw[←hT];clear hT hck hIs;have HQ:Hid ((T.toList==S.toList)=decide (t=s)):=by
    show _=_;rw[HT.out,HS.out,Amq,Amq]
    by_cases c:t=s
    ·rw[c,Alb rfl];simp
    ·rw[Ald c,Al5];exact c
   go_wp2_with fail;go_ret2;refine⟨H2.out.1,.slice ao l.length c,l,(T.toList==S.toList),rfl,H2.out.2.1,fun h=>?_,fun fs h1 h2=>?_⟩
   ·rw[HQ.out]at h;have:=Amm h;subst this;exact HC.out
   ·have e:=H2.out.2.2 fs h1 h2;subst e;exact⟨by rw[HQ.out];exact Alb (Cn.unique (K3 h1).2.2 HC.out.2 h2),rfl⟩
namespace Hm
abbrev En:=ByteArray×Nat
def Kv:List En→List Value
 |[]=>[]
 |p::r=> .string p.1:: .int .i64 (p.2:Nat)::Kv r
theorem Q6(l:List En):(Kv l).length=l.length*2:=by
 induction l with
 |nil=>rfl
 |cons p r ih=>simp[Kv,ih];omega
theorem Qh(l:List En): ∀i,(h:i<l.length)→(Kv l)[i*2]?=some (.string l[i].1)∧(Kv l)[i*2+1]?=some (.int .i64 (l[i].2:Nat)):=by
 induction l with
 |nil=>intro i h;simp at h
 |cons p r ih=>
  intro i h;cases i with
  |zero=>exact⟨rfl,rfl⟩
  |succ i=>
   have:=ih i (by simpa using h);rw[show(i+1)*2=i*2+1+1 from by omega];simpa[Kv]using this
theorem Ag2(l:List En)(x:ByteArray)(y:Nat): ∀i,i<l.length→((Kv l).set (i*2) (.string x)).set (i*2+1) (.int .i64 (y:Nat))=Kv (l.set i (x,y)):=by
 induction l with
 |nil=>intro i h;simp at h
 |cons p r ih=>
  intro i h;cases i with
  |zero=>rfl
  |succ i=>
   have:=ih i (by simpa using h);rw[show(i+1)*2=i*2+1+1 from by omega];simp[Kv,this]
def Fs(fs:List Fl):List En:=fs.map fun f=>(f.1,f.2.size)
def Fa(es:List En)(m k:Nat):List En:=es.take k++List.replicate (m-k) (⟨#[]⟩,0)
theorem Aah(es:List En)(m k:Nat)(hf:es.length=m)(hk:k≤m):(Fa es m k).length=m:=by
 unfold Fa;rw[Alg,Aln,Alj];omega
theorem Aem(es:List En)(m k:Nat)(hf:es.length=m)(hk:k<m)(x:En)(hx:es[k]?=some x):(Fa es m k).set k x=Fa es m (k+1):=by
 have e:List.replicate (m-k) ((⟨#[]⟩,0):En)=(⟨#[]⟩,0)::List.replicate (m-(k+1)) (⟨#[]⟩,0):=by rw[show m-k=(m-(k+1))+1 from by omega,Anf]
 unfold Fa;rw[e,Amt _ _ (by rw[Aln];omega),Aln,Ant (by omega),Amr,Ak9,List.take_add_one,hx,Alx];rfl
end Hm
def J4(w:World)(g:Nat)(l:List Hm.En):Prop:=w.heap[g]?=some (.cells (Kv l).toArray 42 (0,0))
theorem Ag3:(Tryz.prog.info? 42).map (fun i=>(i.zero,i.size,i.bytes))=some (some (.agg #[.string ⟨#[]⟩,.int .i64 0]),2,24):=by kernel_rfl
theorem J4.put{w:World}{g:Nat}{l:List Hm.En}(h:J4 w g l)(i:Nat)(x:ByteArray)(y:Nat)(hi:i<l.length):J4 ((w.setCell ⟨g,i*2,none⟩ (.string x)).setCell ⟨g,i*2+1,none⟩ (.int .i64 (y:Nat))) g (l.set i (x,y)):=by
 have h2:=Alf w g (i*2) _ _ (.string x) h;have h3:=Alf _ g (i*2+1) _ _ (.int .i64 (y:Nat)) h2;unfold J4;rw[h3,←Ag2 l x y i hi];congr 2;apply Am6;simp
theorem J4.made{w':World}{g n:Nat}{base:Nat}(h:w'.ownsRow base 42 2 (.slice (some ⟨g,0,none⟩) n n) n (madeCells (Value.agg #[.string ⟨#[]⟩,.int .i64 0]).cells (n*2)).toList):J4 w' g (List.replicate n (⟨#[]⟩,0)):=by
 rcases h.2 with⟨h1,_⟩|⟨g2,cap,cur,h1,_,hg,_,_,hs,ht⟩
 ·cases h1
 ·cases h1;unfold J4;rw[hg];congr 2;apply Am6;have e:cur.toList.take (n*2)=cur.toList:=Al8 (by simp;omega);rw[←e,ht];apply Amf
  ·rw[Q6];simp[madeCells]
  ·intro i h1 h2;have h2':i<n*2:=by rw[Q6]at h2;simpa using h2
   obtain⟨h3,h4⟩:=Qh (List.replicate n (⟨#[]⟩,0)) (i/2) (by simp;omega);have hz:(Value.agg #[.string ⟨#[]⟩,.int .i64 0]).cells= #[.string ⟨#[]⟩,.int .i64 0]:=rfl;rcases Aoy i with c|c
   ·rw[show i/2*2=i from by omega,Ak7 h2]at h3;simp at h3;rw[h3];simp[madeCells,hz,c]
   ·rw[show i/2*2+1=i from by omega,Ak7 h2]at h4;simp at h4;rw[h4];simp[madeCells,hz,c]
set_option maxRecDepth 20000 in
set_option maxHeartbeats 2000000 in
theorem Aj9(hones:Cd)(B pa:Nat)(s l6:List UInt8)(L:List Nat)(l8:List UInt8)(st:B0)(w:World)(hp:Fe s l6 L l8 st)(h:Hu B w pa s l6 L l8 st):
  Calls Tryz.prog 17 #[.pointer (some ⟨pa,0,none⟩)] w fun e w'=> ∃gf,e= .returned (.slice (some ⟨gf,0,none⟩) (Hm.rdF s).1 (Hm.rdF s).1)∧w.heap.size≤gf∧J4 w' gf (Fs (A8 s l6 l8 st))∧Apd w w':=by
 obtain⟨gn,ge,g,ng,nc,gs,P⟩:=h.parts hp;have hN:=N7 s;have hF:=Pk s;have HP:Hid (Se w pa s l6 L l8 st gn ge g ng nc gs):=P;have hpw:pa<w.heap.size:=Aly _ _ P.total;have hgw:gn<w.heap.size:=Alw P.nblock;have HFI:Hid (∀k W,k<(Hm.rdF s).1→Apd w W→Calls Tryz.prog 36 #[.pointer (some ⟨pa,1,none⟩),.int .i64 (k:Nat)] W fun e w'=>e= .returned (.tuple #[.int .i64 (Iq s l6 k:Nat),.int .i64 (Ii s l6 k:Nat)])∧Apd W w'):=fun k W hk hW=>Xa hones pa ge k s l6 W (P.ends.kept hW id id) hp.ends hk;have HFT:Hid (∀k,k<(Hm.rdF s).1→Iq s l6 k≤Ii s l6 k∧Ii s l6 k≤(Hm.rdN s).1):=fun k hk=>⟨hp.ends.cover.asc k hk,Acw hp.ends.cover k hk⟩;have HNS:Hid (∀k nm,nm=(Hm.rdM s).1.getD k ⟨#[]⟩→k<(Hm.rdF s).1→nm.size≤281474976710656):=fun k nm h1 h2=>by
  rw[h1];have:=Lv (Hm.rdB s) (Hm.rdF s).1 k;exact Al2 this (by omega)
 have c0:w.cell? ⟨pa,0,none⟩=some (.slice (some ⟨gn,0,none⟩) (Hm.rdF s).1 (Hm.rdF s).1):=P.names;obtain⟨i0,hi,hz0,hz1,hz2⟩:=Amz Ag3;obtain⟨m,hm⟩: ∃m,m=(Hm.rdF s).1:=⟨_,rfl⟩;rw[←hm]at c0 hF;have HM:Hid (m=(Hm.rdF s).1):=hm;rw[←hm]at HFI HFT HNS;have hel:(Fs (A8 s l6 l8 st)).length=m:=by unfold Fs;rw[Al6,F3,hm]
 clear hm P h
 go_enter Tryz.func17,Tryz.ntmps17
 go_wp2_with(at_make;refine Ane _ rfl (.tmp 14) (.tmp 14) 39 rfl w.heap.size 42 i0 (.agg #[.string ⟨#[]⟩,.int .i64 0]) 2 Tryz.underlying39 hi hz0 hz1 .i64 .i64 _ _ m rfl rfl rfl rfl (by rw[hz2];omega) (by unfold maxLen;omega) (Ale _) ?_;intro w3 ho3 hg3;have hk3:Apd w w3:=(Aa.refl _ _).grown hg3 (fun k hk=>by cases hk);have c03:w3.cell? ⟨pa,0,none⟩=some (.slice (some ⟨gn,0,none⟩) m m):=(hk3.cell (p:=⟨pa,0,none⟩) hpw id).trans c0)
 have hr3:=J4.made ho3;obtain⟨gf,hgf⟩: ∃x,x=w.heap.size:=⟨_,rfl⟩;rw[←hgf]at hr3⊢;have H3:Hid (J4 w3 gf (List.replicate m (⟨#[]⟩,0))∧Apd w w3∧w.heap.size≤gf):=⟨hr3,hk3,by omega⟩;clear ho3 hg3 hk3 hr3 c0 hgf
 go_loopw[21] (fun vi wr=> ∃k:Nat,k≤m∧vi= .int .i64 k∧J4 wr gf (Fa (Fs (A8 s l6 l8 st)) m k)∧Apd w wr) (fun vi _=>m-(intOf vi).toNat)
 case atStart=>exact⟨0,Alr _,rfl,by simpa[Fa]using H3.out.1,H3.out.2.1⟩
 case round=>
  obtain⟨k,hk,rfl,hrow,hkr⟩:=hrel
  by_cases hlt:k<m
  ·obtain⟨nm,hnm⟩: ∃x,x=(Hm.rdM s).1.getD k ⟨#[]⟩:=⟨_,rfl⟩;have hnl:(Hm.rdM s).1.length=m:=by rw[HM.out];exact E5 _ _
   have cnm:wr.cell? ⟨gn,k,none⟩=some (.string nm):=by
    rw[hkr.cell (p:=⟨gn,k,none⟩) hgw id,Alc _ _ k _ _ _ HP.out.nblock,Alz,hnm];unfold Fo;rw[Alu,Ak6,Ak7 (show k<(Hm.rdM s).1.length by omega)];rfl
   have hfi:=HFI.out k wr hlt hkr;have hft:=HFT.out k hlt;have hcl:=fun W=>Oj nm W (HNS.out k nm hnm hlt);have HFX:Hid ((Fs (A8 s l6 l8 st))[k]?=some (nm,Ii s l6 k-Iq s l6 k)):=by
    show _=_;unfold Fs A8;rw[Alu,Alu,Amw (by rw[←HM.out];exact hlt),hnm];show some (_,(Hm.part (Fp s l8 st) (Iq s l6 k) (Ii s l6 k)).toArray.size)=_;rw[Alq];unfold Hm.part;rw[Aln,Amb,M3,Ant (by omega)];rfl
   generalize Iq s l6 k=fr at hfi hft HFX;generalize Ii s l6 k=tz at hfi hft HFX;obtain⟨z,hz⟩: ∃z,z=tz-fr:=⟨_,rfl⟩;rw[←hz]at HFX;have zz:(tz:Int)-(fr:Int)=(z:Int):=by omega
   have HRS:Hid ((Fa (Fs (A8 s l6 l8 st)) m k).set k (nm,z)=Fa (Fs (A8 s l6 l8 st)) m (k+1)∧k<(Fa (Fs (A8 s l6 l8 st)) m k).length):=⟨Aem _ _ _ hel hlt _ HFX.out,by rw[Aah _ _ _ hel hk];exact hlt⟩;have H4:Hid (J4 wr gf (Fa (Fs (A8 s l6 l8 st)) m k)∧Apd w wr):=⟨hrow,hkr⟩;have hkI:(k:Int)<(m:Int):=by omega
   clear hrow hkr hnm hnl HFX hz;go_wp2_with fail;refine hfi.mono ?_;rintro e w4 ⟨rfl,hk4⟩;have H5:Hid (J4 w4 gf (Fa (Fs (A8 s l6 l8 st)) m k)∧Apd w w4):=⟨hk4.row H4.out.1 id,H4.out.2.trans hk4 (fun _ _ h=>h)⟩;clear hfi hk4 H4 cnm;go_wp2_with fail;refine(hcl _).mono ?_;rintro e w5 ⟨rfl,hk5⟩;have hE5:J4 w5 gf (Fa (Fs (A8 s l6 l8 st)) m k):=hk5.row H5.out.1 id;have q1:w5.cell? ⟨gf,k*2,none⟩=some (.string ((Fa (Fs (A8 s l6 l8 st)) m k)[k]'HRS.out.2).1):=by
    rw[Alc _ _ _ _ _ _ hE5,Alz];exact(Qh _ k HRS.out.2).1
   have q2:w5.cell? ⟨gf,k*2+1,none⟩=some (.int .i64 (((Fa (Fs (A8 s l6 l8 st)) m k)[k]'HRS.out.2).2:Nat)):=by
    rw[Alc _ _ _ _ _ _ hE5,Alz];exact(Qh _ k HRS.out.2).2
   have fz1:w5.frozen? ⟨gf,k*2,none⟩=false:=Alk _ _ _ _ _ hE5;have fz2:w5.frozen? ⟨gf,k*2+1,none⟩=false:=Alk _ _ _ _ _ hE5;have H6:Hid (J4 w5 gf (Fa (Fs (A8 s l6 l8 st)) m k)∧Apd w w5):=⟨hE5,H5.out.2.trans hk5 (fun _ _ h=>h)⟩;generalize((Fa (Fs (A8 s l6 l8 st)) m k)[k]'HRS.out.2).1=o1 at q1;generalize((Fa (Fs (A8 s l6 l8 st)) m k)[k]'HRS.out.2).2=o2 at q2;clear hcl hk5 H5 hE5;have H7:Hid (J4 ((w5.setCell ⟨gf,k*2,none⟩ (.string nm)).setCell ⟨gf,k*2+1,none⟩ (.int .i64 (z:Nat))) gf (Fa (Fs (A8 s l6 l8 st)) m (k+1))∧Apd w ((w5.setCell ⟨gf,k*2,none⟩ (.string nm)).setCell ⟨gf,k*2+1,none⟩ (.int .i64 (z:Nat)))):=
    ⟨by rw[←HRS.out.1];exact H6.out.1.put k nm z HRS.out.2,(H6.out.2.setCell (p:=⟨gf,k*2,none⟩) (.inl H3.out.2.2) _).setCell (p:=⟨gf,k*2+1,none⟩) (.inl H3.out.2.2) _⟩
   go_wp2_with fail;go_roundw
   case rel=>exact⟨k+1,by omega,by go_num,H7.out.1,H7.out.2⟩
   case measure=>simp[intOf];omega
  ·obtain rfl:k=m:=by omega
   have H4:Hid (J4 wr gf (Fs (A8 s l6 l8 st))∧Apd w wr):=⟨by unfold Fa at hrow;rw[Amr,Al8 (by omega),Ao9,Am4]at hrow;exact hrow,hkr⟩;clear hrow hkr;go_wp2_with fail;go_ret;exact⟨gf,by rw[←HM.out];rfl,H3.out.2.2,H4.out.1,H4.out.2⟩
set_option maxHeartbeats 1000000 in
theorem Aai(ao bo:Option Addr)(c d:Nat)(fs:List Hm.Fl)(w:World)(ha:Cx w ao fs)(hb:Cx w bo fs)(hl:fs.length≤1000000):
  Calls Tryz.prog 15 #[.slice ao fs.length c,.slice bo fs.length d] w fun e w'=>e= .returned (.bool true)∧Apd w w':=by
 have HF:Hid (Cx w ao fs∧Cx w bo fs):=⟨ha,hb⟩;clear ha hb
 go_enter Tryz.func15,Tryz.ntmps15
 go_wp2_with fail
 go_loopw[5] (fun vi wr=> ∃k:Nat,k≤fs.length∧vi= .int .i64 k∧Hid (Apd w wr)) (fun vi _=>fs.length-(intOf vi).toNat)
 case atStart=>exact⟨0,by omega,rfl,Aa.refl _ _⟩
 case round=>
  obtain⟨k,hk,rfl,HK⟩:=hrel
  by_cases hlt:k<fs.length
  ·have hkI:(k:Int)<(fs.length:Int):=by omega
   have hdec:decide ((k:Int)<(fs.length:Int))=true:=Alb hkI;obtain⟨b,o,hb,_,c1,c2⟩:=(HF.out.1.kept HK.out (fun _ _=>id)) k hlt;obtain⟨b',o',hb',_,c3,c4⟩:=(HF.out.2.kept HK.out (fun _ _=>id)) k hlt;cases hb;cases hb';generalize fs[k]=p at*;obtain⟨p1,p2⟩:=p;go_wp2_with fail;go_quiet(fail);go_wp2_with fail;go_roundw
   case rel=>exact⟨k+1,by omega,by go_num,HK.out.drewN _⟩
   case measure=>simp[intOf];omega
  ·have hkI: ¬(k:Int)<(fs.length:Int):=by omega
   have hdec:decide ((k:Int)<(fs.length:Int))=false:=Ald hkI;go_wp2_with fail;go_ret;exact⟨rfl,HK.out⟩
def Hm.Acy:List Hm.Fl:=[(⟨#[97]⟩,⟨#[97,98]⟩)]
theorem Hm.Akt:Bl Acy=0:=by decide+kernel
set_option maxRecDepth 20000 in
set_option maxHeartbeats 2000000 in
theorem Ait(ao:Option Addr)(c:Nat)(raw:List ByteArray)(w:World)(h:Ms w ao raw)(hl:raw.length≤140737488355328)(hsz: ∀x∈raw,x.size≤140737488355328):
  Calls Tryz.prog 4 #[.slice ao raw.length c] w fun e w'=>e= .returned (.bool true)∧Apd w w':=by
 have HL:Hid (∀(C:ByteArray) W,C.size≤140737488355328→Calls Tryz.prog 12 #[.string C] W fun e w'=>Apd W w'∧Qg W.heap.size w' C.data.toList e):=fun C W hC=>Aj8 Jx Abv C.data.toList W (by rw[show C.data.toList.length=C.size from by simp];omega);have HR:Hid (∀(C:ByteArray) W,C.size≤140737488355328→Calls Tryz.prog 13 #[.string C] W fun e w'=>Apd W w'∧ ∃(v:Value) (l:List Hm.Fl) (ok:Bool),e= .returned (.tuple #[v,.bool ok])∧w'.ownsRow W.heap.size 38 2 v l.length (Bx l)∧(ok=true→Bl l=0∧Cn l C.data.toList)∧ ∀fs,Bl fs=0→Cn fs C.data.toList→ok=true∧l=fs):=fun C W hC=>Ael C.data.toList W (by rw[show C.data.toList.length=C.size from by simp];omega);have HS:Hid (Ms w ao raw∧ ∀x∈raw,x.size≤140737488355328):=⟨h,hsz⟩;clear h hsz
 go_enter Tryz.func4,Tryz.ntmps4
 go_wp2_with fail
 go_loopw[3] (fun vi wr=> ∃k:Nat,k≤raw.length∧vi= .int .i64 k∧Hid (Apd w wr)) (fun vi _=>raw.length-(intOf vi).toNat)
 case atStart=>exact⟨0,by omega,rfl,Aa.refl _ _⟩
 case round=>
  obtain⟨k,hk,rfl,HK⟩:=hrel
  by_cases hlt:k<raw.length
  ·have hkI:(k:Int)<(raw.length:Int):=by omega
   have hdec:decide ((k:Int)<(raw.length:Int))=true:=Alb hkI;obtain⟨b,o,rfl,hb,hc⟩:=HS.out.1 k hlt;have hcs:=HS.out.2 _ (Alo hlt);have c1:=(HK.out.cell (p:=⟨b,o+k,none⟩) hb id).trans hc;have HC0:Hid (b<w.heap.size∧w.cell? ⟨b,o+k,none⟩=some (.string raw[k])):=⟨hb,hc⟩;generalize raw[k]=C at hc hcs c1 HC0;have hld:=HL.out C wr hcs;clear hc;go_wp2_with fail;refine hld.mono ?_;rintro e w1 ⟨hk1,hsay⟩;have HK1:Hid (Apd w w1∧Qg wr.heap.size w1 C.data.toList e):=⟨HK.out.trans hk1 (fun _ _ h=>h),hsay⟩;have c2:=(HK1.out.1.cell (p:=⟨b,o+k,none⟩) HC0.out.1 id).trans HC0.out.2;have hrl:=HR.out C w1 hcs;rcases hsay with⟨pa,l6,L,l8,st,hpa,hP,hA,hck,hI,rfl⟩|⟨hno,rfl⟩
   ·have H1:Hid (Fe C.data.toList l6 L l8 st∧Hu wr.heap.size w1 pa C.data.toList l6 L l8 st∧Bl (A8 C.data.toList l6 l8 st)=0∧Cn (A8 C.data.toList l6 l8 st) C.data.toList):=⟨hP,hA,hck,hI⟩;clear hP hA hck hI hld hk1 c1;go_wp2_with fail;refine hrl.mono ?_;rintro e w2 ⟨hk2,v,l,ok,rfl,ho2,_,hfs⟩;obtain⟨rfl,rfl⟩:=hfs _ H1.out.2.2.1 H1.out.2.2.2;obtain⟨bo,d,hv,hfa,_⟩:=Q5 ho2;subst hv;have HA2:Hid (Fe C.data.toList l6 L l8 st∧Hu wr.heap.size w2 pa C.data.toList l6 L l8 st):=⟨H1.out.1,H1.out.2.1.kept hk2 (fun _ _ _=>id) id⟩;have hun:=Xb Jx wr.heap.size pa C.data.toList l6 L l8 st w2 HA2.out.1 HA2.out.2;have hfl:=F3 C.data.toList l6 l8 st;have hF:=Pk C.data.toList;rw[←hfl]at hun hF;have H2:Hid (Apd w w2∧Cx w2 bo (A8 C.data.toList l6 l8 st)):=⟨HK1.out.1.trans hk2 (fun _ _ h=>h),hfa⟩;clear hrl hk2 ho2 hfs hfa HK1 H1 c2 hfl HA2 HK;generalize A8 C.data.toList l6 l8 st=fu at*;go_wp2_with fail;refine hun.mono ?_;rintro e w3 ⟨gf,rfl,hgf,hrow,hk3⟩;have hat:Cx w3 (some ⟨gf,0,none⟩) fu:=Dl.at (r:=[]) (by rw[Am4];exact hrow);have hsf:=Aai (some ⟨gf,0,none⟩) bo fu.length d fu w3 hat (H2.out.2.kept hk3 (fun _ _=>id)) (by omega);have HK3:Hid (Apd w w3):=H2.out.1.trans hk3 (fun _ _ h=>h);clear hun hgf hrow hk3 hat H2;go_wp2_with fail;refine hsf.mono ?_;rintro e w4 ⟨rfl,hk4⟩;have HK4:Hid (Apd w w4):=HK3.out.trans hk4 (fun _ _ h=>h);clear hsf hk4 HK3;go_wp2_with fail;go_roundw
    case rel=>exact⟨k+1,by omega,by go_num,HK4⟩
    case measure=>simp[intOf];omega
   ·have HNO:Hid (∀l6 L l8 st,Fe C.data.toList l6 L l8 st→Bl (A8 C.data.toList l6 l8 st)=0→ ¬Cn (A8 C.data.toList l6 l8 st) C.data.toList):=hno;clear hno hld hk1 c1;go_wp2_with fail;refine hrl.mono ?_;rintro e w2 ⟨hk2,v,l,ok,rfl,ho2,hok,_⟩;have HK2:Hid (Apd w w2):=HK1.out.1.trans hk2 (fun _ _ h=>h);cases ok with
    |true=>
     exfalso;obtain⟨h1,h2⟩:=hok rfl;obtain⟨l6,L,l8,st,hP,hfs⟩:=Zh h1 h2;exact HNO.out l6 L l8 st hP (by rw[hfs];exact h1) (by rw[hfs];exact h2)
    |false=>
     clear hrl hk2 ho2 hok HK1 c2 HK;go_wp2_with fail;go_roundw
     case rel=>exact⟨k+1,by omega,by go_num,HK2⟩
     case measure=>simp[intOf];omega
  ·have hkI: ¬(k:Int)<(raw.length:Int):=by omega
   have hdec:decide ((k:Int)<(raw.length:Int))=false:=Ald hkI;clear HR HS;go_wp2_with fail;have hF0:Dl (wr.alloc (.cells #[.string ⟨#[97]⟩,.string ⟨#[97,98]⟩] 38)) wr.heap.size Acy:=All wr _;have hat:Cx (wr.alloc (.cells #[.string ⟨#[97]⟩,.string ⟨#[97,98]⟩] 38)) (some ⟨wr.heap.size,0,none⟩) Acy:=Dl.at (r:=[]) (by rw[Am4];exact hF0);have hck:=Akt;have hpk:=Ut (some ⟨wr.heap.size,0,none⟩) 1 Acy _ hat (by show 1≤_;omega) (fun f hf=>by
    rw[List.mem_singleton.1 hf];exact⟨show 1≤_ by omega,show 2≤_ by omega⟩)
   have HK0:Hid (Apd w (wr.alloc (.cells #[.string ⟨#[97]⟩,.string ⟨#[97,98]⟩] 38))):=HK.out.alloc _;clear hF0 hat HK;refine hpk.mono ?_;rintro e w1 ⟨hps,hk1⟩;rcases hps with⟨hne,_⟩|⟨_,s,hIs,rfl⟩
   ·exact absurd hck hne
   have hln:=(Wz hck hIs).2;have hld:Calls Tryz.prog 12 #[.string ⟨s.toArray⟩] w1 fun e w'=>Apd w1 w'∧Qg w1.heap.size w' s e:=HL.out ⟨s.toArray⟩ w1 (by show s.toArray.size≤_;rw[Alq];omega);obtain⟨S,hS⟩: ∃S,S=(⟨s.toArray⟩:ByteArray):=⟨_,rfl⟩;rw[←hS]at hld⊢;have H1:Hid (Apd w w1∧Cn Acy s):=⟨HK0.out.trans hk1 (fun _ _ h=>h),hIs⟩;clear hpk hk1 HK0 hIs hS HL;go_wp2_with fail;refine hld.mono ?_;rintro e w2 ⟨hk2,hsay⟩;obtain⟨l6',L',l8',st',hP',hfs'⟩:=Zh hck H1.out.2;rcases hsay with⟨pa,l6,L,l8,st,hpa,hP,hA,_,_,rfl⟩|⟨hno,_⟩
   ·obtain⟨rfl,_,rfl,rfl⟩:=Fe.unique hP' hP;have hls:=Aj9 Jx w1.heap.size pa s l6' L l8' st' w2 hP hA;have hfl:=F3 s l6' l8' st';rw[hfs']at hfl hls;have hf1:(Hm.rdF s).1=1:=hfl.symm;rw[hf1]at hls;have H2:Hid (Apd w w2):=H1.out.1.trans hk2 (fun _ _ h=>h);clear hld hk2 hP hA hP' hfs' hpa H1 hfl hf1;go_wp2_with fail;refine hls.mono ?_;rintro e w3 ⟨gf,rfl,_,hrow,hk3⟩;have q1:w3.cell? ⟨gf,0,none⟩=some (.string ⟨#[97]⟩):=Alc _ _ 0 _ _ _ hrow;have q2:w3.cell? ⟨gf,1,none⟩=some (.int .i64 2):=Alc _ _ 1 _ _ _ hrow;have H3:Hid (Apd w w3):=H2.out.trans hk3 (fun _ _ h=>h);clear hls hrow hk3 H2;go_wp2_with fail;go_ret;exact⟨rfl,H3.out⟩
   ·exact absurd (by rw[hfs'];exact H1.out.2) (hno l6' L' l8' st' hP' (by rw[hfs'];exact hck))
end Go.Proofs.YtegnkfdbmmndaaaGreat
namespace Go.Proofs.YtegnkfdbmmndaaaGreat
open Hm
open Go.ChangeShapes Go.WideShapes Go.ChangeAt Go.RowKit Go.Deep
theorem Ps{H:Type}{P:Program}{e:TypeId}: ∀{l:List (DataW H)} {d:DataW H},d∈l→ ∀n∈d.weights P e,n∈DataW.weightsAll P e l
 |x::r,d,h,n,hn=>by
  simp only[DataW.weightsAll,Ao7];rcases List.mem_cons.1 h with rfl|h
  ·exact .inl hn
  ·exact .inr (Ps h n hn)
set_option maxRecDepth 100000 in
theorem Aka{H:Type}{enc:TypeId×Value→H}{W:World}{base:Nat}{v:Value}{d:DataW H}{ps:List MemPlace}(hv:Value.okWide Tryz.prog W .any base 26 v)
  (h:DataW.Trod enc Tryz.prog W 0 (fun _=>true) true 26 v d ps):
  ∃(ao:Option Addr) (c:Nat) (raw:List ByteArray),v= .slice ao raw.length c∧Ms W ao raw∧
   ((∀n∈d.weights Tryz.prog 26,n≤reachBytes)→raw.length≤140737488355328∧ ∀x∈raw,x.size≤140737488355328):=by
 obtain⟨a0,l0,c0,rfl⟩:=okWide_slice Tryz.underlying26 hv;obtain⟨fuel,hf⟩:=h;rcases open_strings Tryz.underlying26 Tryz.underlying9 (by kernel_rfl) hf with⟨hcs,_⟩|⟨a,len,cap,ss,hcs,_,hl,_,hz,hx,hc,_⟩
 ·refine⟨none,0,[],by simpa[Value.cells]using hcs,fun i hi=>by simp at hi,fun _=>⟨Alr _,fun x hx=>by cases hx⟩⟩
 ·have hz':ss.length=cap:=by simpa using hz
  have hlen:(ss.take len).length=len:=by rw[Aln];omega
  refine⟨some a,cap,ss.take len,by rw[hlen];simpa[Value.cells]using hcs,fun i hi=>?_,fun hw=>?_⟩
  ·have hi':i<ss.length:=by omega
   have k0:=hc i hi';obtain⟨b,off,spot⟩:=a;have hspot:spot=none:=by
    have z0:=hc 0 (by omega);simpa[Addr.add]using World.cell?_spot z0
   subst hspot;rw[add_plain]at k0;refine⟨b,off,rfl,Aly _ _ k0,?_⟩;rw[k0,List.getElem_take,Ak6,Ak7 hi'];rfl
  ·obtain⟨hd,_⟩:=Prod.mk.inj hx;subst hd;rw[DataW.weights,Tryz.underlying26]at hw;have hb:Tryz.prog.bytesOf 9=16:=by kernel_rfl
   have h1:=hw _ (Alp ..);rw[hb]at h1;unfold reachBytes at h1 hw;simp only[strs,Al6,Aln,Amb]at h1;refine⟨by omega,fun x hxm=>?_⟩;have hin:(DataW.lit (.string x.data.toList):DataW H)∈strs (ss.take len):=List.mem_map.2 ⟨x,hxm,rfl⟩;have hsw:=hw x.size (Als _ (Ao5 _ (Ps hin _ (by simp[DataW.weights]))));omega
end Go.Proofs.YtegnkfdbmmndaaaGreat
