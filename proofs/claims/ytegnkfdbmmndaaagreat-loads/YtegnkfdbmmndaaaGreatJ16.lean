import Derived.Test.YtegnkfdbmmndaaaGreatJ00
import Derived.Test.YtegnkfdbmmndaaaGreatJ15
import Derived.Test.YtegnkfdbmmndaaaGreatJ02
import Derived.Test.YtegnkfdbmmndaaaGreatJ05
import Derived.Test.YtegnkfdbmmndaaaGreatJ08
import Derived.Test.YtegnkfdbmmndaaaGreatJ11

namespace Go.Proofs.YtegnkfdbmmndaaaGreat
open Hm
open Go.RowKit
namespace Hm
theorem Nf{f:Nat→Bool}{LB:Nat}{nds:List Nd}{total:Nat}{ws:List Nat}{i:Nat}(h:Hj f LB nds total ws i=none): ∀m,i≤m→Hj f LB nds total ws m=none
 |0,hm=>by
  obtain rfl:i=0:=by omega
  exact h
 |m+1,hm=>by
  by_cases e:i=m+1
  ·subst e;exact h
  ·rw[Hj,Nf h m (by omega)];rfl
def Pi(nds:List Nd):Prop:= ∀j,(Ab nds j).b0.node<nds.length∧(Ab nds j).b1.node<nds.length∧((Ab nds j).b0.node=0∨j<(Ab nds j).b0.node)∧((Ab nds j).b1.node=0∨j<(Ab nds j).b1.node)
theorem Pi.like{a b:List Nd}(h:Pi b)(hl:Iw a b):Pi a:=fun j=>by
 rw[(hl.2 j).2.2.1,(hl.2 j).2.2.2,hl.1];exact h j
theorem Bg.inside{M:Nat}{ln:UInt8→Nat}{o:List UInt8}{nds:List Nd}(h:Bg M ln o nds):Pi nds:=fun j=>by
 by_cases hj:j<nds.length
 ·have key: ∀u,u<2→((Ab nds j).br u).node<nds.length:=fun u hu=>by
   cases h.good j u hj hu with
   |leaf k hk e=>rw[e];exact h.more
   |node n e h1 h2=>rw[e];exact h2
   |none e=>rw[e];exact h.more
  refine⟨key 0 (by omega),key 1 (by omega),?_⟩;have: ∀u,u<2→((Ab nds j).br u).node=0∨j<((Ab nds j).br u).node:=fun u hu=>by
   cases h.good j u hj hu with
   |leaf k hk e=>rw[e];exact .inl rfl
   |node n e h1 h2=>rw[e];exact .inr h1
   |none e=>rw[e];exact .inl rfl
  exact⟨this 0 (by omega),this 1 (by omega)⟩
 ·unfold Ab;rw[Ak6,Al3 (by omega)];exact⟨h.more,h.more,.inl rfl,.inl rfl⟩
end Hm
def Nj(r:Option B0)(e:Ending)(nds:List Hm.Nd)(ws:List Nat):Prop:=match r with
 |some st=>e= .returned (.tuple #[.int .i64 (st.len:Nat),.bool true])∧nds=st.nds∧ws=st.ws
 |none=>e= .returned (.tuple #[.int .i64 0,.bool false])
set_option maxHeartbeats 2000000 in
theorem Aev(hones:Cd)(tb g LB total n cap ng:Nat)(s:ByteArray)(T:List (Nat×Nat))(nds:List Hm.Nd)(ws:List Nat)(w:World)(h:A4 w tb s LB g T (.slice (some ⟨ng,0,none⟩) n cap) nds ws total)
  (hn:n=nds.length) (h0:0<n) (hnl:n≤255) (hin:Pi nds) (hsz: ∀j,(Ab nds j).siz≤total) (ht:total≤65535) (hLB:LB≤8*s.size) (hs:s.size≤100000000):
  Calls Tryz.prog 153 #[.pointer (some ⟨tb,0,none⟩)] w fun e w'=> ∃nds' ws',Nj (Nn (Ak s.data.toList) LB nds total ws) e nds' ws'∧nds'.length=n∧ws'.length=256∧A4 w' tb s LB g T (.slice (some ⟨ng,0,none⟩) n cap) nds' ws' total∧Aa (Tk tb (.slice (some ⟨ng,0,none⟩) n cap)) w w':=by
 have HON:Aside _:=hones;obtain⟨f,hf⟩: ∃f,f=Ak s.data.toList:=⟨_,rfl⟩;have hon: ∀(W:World) (p:Nat),C2 W tb 0 s LB g→p≤8*s.size→Calls Tryz.prog 126 #[.pointer (some ⟨tb,0,none⟩),.int .i64 p] W fun e w'=>e= .returned (.int .i64 (Hm.rk f p:Nat))∧w'=W:=fun W p hc hp=>by
  rw[hf];exact Jr HON.out tb 0 g LB p s W hc hp hs
 rw[←hf];have hst0:A4 (w.setCell ⟨ng,2,none⟩ (.int .i64 (total:Nat))) tb s LB g T (.slice (some ⟨ng,0,none⟩) n cap) (Es nds 0 total) ws total:=by
  have:=h.setN rfl (0*9+2) _ (Mx nds 0 total) (Vq nds 0 total (by omega));simpa using this
 have hk0:Aa (Tk tb (.slice (some ⟨ng,0,none⟩) n cap)) w (w.setCell ⟨ng,2,none⟩ (.int .i64 (total:Nat))):=(Aa.refl _ w).setCell (p:=⟨ng,2,none⟩) (.inr (.inr rfl)) _;have hno:=h.nod;rw[←hn]at hno;have c1:=h.nodes;have c2:=h.tot;obtain⟨old,hold⟩: ∃old,w.cell? ⟨ng,2,none⟩=some old:=by
  have:=U0 hno hn (i:=0) (by omega);rw[show 0*9+2=2 from rfl]at this;exact⟨_,this⟩
 have hf0:=hno.frozenAt 2;have hnI:(0:Int)<(n:Int):=by omega
 have HH:Aside _:=And.intro hst0 hk0;have HO:Aside _:=hon;have HI:Aside _:=And.intro hin (And.intro hsz (And.intro hn hf));have hc1:(w.setCell ⟨ng,2,none⟩ (.int .i64 (total:Nat))).cell? ⟨tb,515,none⟩=some (.slice (some ⟨ng,0,none⟩) n cap):=hst0.nodes;have hne:ng≠tb:=fun e=>h.n1 (by rw[e];rfl);clear hst0 hk0 hno hon hin hsz hn h hf
 go_enter Tryz.func153,Tryz.ntmps153
 go_wp2_with fail
 go_region
 go_wp2_with fail;clear c1 c2 hold hf0 hc1
 go_loopw[22,2] (fun vi vl wr=> ∃(i:Nat) (st:B0),i≤n∧vi= .int .i64 i∧Hj f LB nds total ws i=some st∧vl= .int .i64 (st.len:Nat)∧A4 wr tb s LB g T (.slice (some ⟨ng,0,none⟩) n cap) st.nds st.ws total∧Aa (Tk tb (.slice (some ⟨ng,0,none⟩) n cap)) w wr) (fun vi _ _=>n-(intOf vi).toNat)
 case atStart=>exact⟨0,_,Alr _,rfl,rfl,rfl,HH.out.1.drew,HH.out.2.drew⟩
 case round=>
  clear HH;obtain⟨i,st,hi,rfl,hla,rfl,hT,hkr⟩:=hrel;have hlk:=Lk hla;have hin2:=HI.out.1.like hlk.1;have hsz2:=Yl HI.out.2.1 hla;have hlen:=K8 hla;have hnn:n=st.nds.length:=by rw[hlk.1.1];exact HI.out.2.2.1
  by_cases hlt:i<n
  ·have hiN:i<st.nds.length:=by omega
   have hno:=hT.nod;rw[←hnn]at hno;have c0:=hT.nodes;have c2:=U0 hno hnn hiN;obtain⟨old,hold⟩: ∃old,wr.cell? ⟨ng,i*9+1,none⟩=some old:=⟨_,Uz hno hnn hiN⟩;have hf1:=hno.frozenAt (i*9+1);have hT1:=hT.setN rfl (i*9+1) _ (Ge st.nds i st.len) (Afj st.nds i st.len hiN);have hk1:Aa (Tk tb (.slice (some ⟨ng,0,none⟩) n cap)) w (wr.setCell ⟨ng,i*9+1,none⟩ (.int .i64 (st.len:Nat))):=hkr.setCell (p:=⟨ng,i*9+1,none⟩) (.inr (.inr rfl)) _;have hzl:=hsz2 i;have hon:=Ri f st i;have hinb:=hin2 i;obtain⟨z,hz⟩: ∃z,z=(Ab st.nds i).siz:=⟨_,rfl⟩;obtain⟨l,hl⟩: ∃l,l=st.len:=⟨_,rfl⟩;have hoI:I5 f st i=Hm.rk f (l+z)-Hm.rk f l:=by rw[hl,hz];rfl
   have hmono:=J7 f (Apa l z);have hrkl:=Px f (l+z);obtain⟨q,hq⟩: ∃q,q=I5 f st i:=⟨_,rfl⟩;rw[←hq]at hoI hon;rw[←hz]at c2 hzl hon;rw[←hl]at hT1 hk1 hlen;have hlI:(i:Int)<(n:Int):=by omega
   have hdec:decide ((i:Int)<(n:Int))=true:=Alb hlI;have hstep:Hj f LB nds total ws (i+1)=He f LB i st:=by rw[Hj,hla];rfl
   have hlay:He f LB i st=if LB<l+z then none else(Dm (Ab st.nds i).b0 (z-q) ⟨l+z,D2 st.nds i l,st.ws⟩).bind (Dm (Ab st.nds i).b1 q):=by
    rw[hz,hl,hq];rfl
   have hlen1:=Tm tb 0 LB (wr.setCell ⟨ng,i*9+1,none⟩ (.int .i64 (l:Nat))) hT1.counted.len;have hcell1:(wr.setCell ⟨ng,i*9+1,none⟩ (.int .i64 (l:Nat))).cell? ⟨ng,i*9+1,none⟩=some (.int .i64 (l:Nat)):=World.cell?_setCell_same _ _ _ hold;have hcell2:(wr.setCell ⟨ng,i*9+1,none⟩ (.int .i64 (l:Nat))).cell? ⟨ng,i*9+2,none⟩=some (.int .i64 (z:Nat)):=by
    rw[Anq _ _ _ _ (by intro e';simp only[Addr.mk.injEq]at e';omega)];exact c2
   have HS:Aside (A4 (wr.setCell ⟨ng,i*9+1,none⟩ (.int .i64 (l:Nat))) tb s LB g T (.slice (some ⟨ng,0,none⟩) n cap) (D2 st.nds i l) st.ws total∧Aa (Tk tb (.slice (some ⟨ng,0,none⟩) n cap)) w (wr.setCell ⟨ng,i*9+1,none⟩ (.int .i64 (l:Nat)))∧Hj f LB nds total ws (i+1)=(if LB<l+z then none else(Dm (Ab st.nds i).b0 (z-q) ⟨l+z,D2 st.nds i l,st.ws⟩).bind (Dm (Ab st.nds i).b1 q))∧i<st.nds.length∧n=st.nds.length∧q=Hm.rk f (l+z)-Hm.rk f l∧Hm.rk f l≤Hm.rk f (l+z)):=⟨hT1,hk1,hstep.trans hlay,hiN,hnn,hoI,hmono⟩;have HZ:Aside (z=(Ab st.nds i).siz):=hz;rw[←hl];clear hz hl hq hstep hlay hT1 hk1 hT hkr hno hla hlk hin2 hsz2 hoI hmono hnn hiN;go_wp2_with fail;refine hlen1.mono ?_;rintro e w2 ⟨rfl,rfl⟩;clear hlen1 hold hf1 c0 c2
   by_cases hfit:LB<l+z
   ·have hd:decide ((l:Int)+(z:Int)>(LB:Int))=true:=Alb (by omega);have hd':(LB:Int)<(l:Int)+(z:Int):=by omega
    obtain⟨hT1,hk1,hs1,hiN,hnn,_⟩:=HS.out;have HL:Aside (n=st.nds.length):=hnn;have HN:Aside (Nn f LB nds total ws=none):=by
     rw[if_pos hfit]at hs1;have:=Nf hs1 n (by omega);rw[HI.out.2.2.1]at this;exact this
    have H9:Aside _:=And.intro hT1 hk1;clear hT1 hk1 hs1 hnn hiN HS hcell1 hcell2;go_wp2;go_ret2;refine⟨_,_,?_,?_,H9.out.1.wl,H9.out.1,H9.out.2⟩
    ·unfold Nj;rw[HN.out];rfl
    ·rw[Ge];exact HL.out.symm
   ·have hd:decide ((l:Int)+(z:Int)>(LB:Int))=false:=Ald (by omega);have hd': ¬(LB:Int)<(l:Int)+(z:Int):=by omega
    generalize wr.setCell ⟨ng,i*9+1,none⟩ (.int .i64 (l:Nat))=W at*;have hca:=HS.out.1.counted;have hO1: ∀k,Calls Tryz.prog 126 #[.pointer (some ⟨tb,0,none⟩),.int .i64 ((l:Int)+(z:Int))] (W.drewN k) fun e w'=>e= .returned (.int .i64 (Hm.rk f (l+z):Nat))∧w'=W.drewN k:=fun k=>by
     have:=HO.out (W.drewN k) (l+z) ⟨hca.str,hca.len,hca.cnt,hca.row⟩ (by omega);rwa[show((l+z:Nat):Int)=(l:Int)+(z:Int)from by omega]at this
    have hO2: ∀k,Calls Tryz.prog 126 #[.pointer (some ⟨tb,0,none⟩),.int .i64 (l:Nat)] (W.drewN k) fun e w'=>e= .returned (.int .i64 (Hm.rk f l:Nat))∧w'=W.drewN k:=fun k=>
     HO.out (W.drewN k) l ⟨hca.str,hca.len,hca.cnt,hca.row⟩ (by omega)
    obtain⟨hT1,hk1,hs1,hiN,hnn,hqq,hmono⟩:=HS.out;rw[if_neg hfit]at hs1;obtain⟨r1,hr1⟩: ∃r,r=Hm.rk f (l+z):=⟨_,rfl⟩;obtain⟨r2,hr2⟩: ∃r,r=Hm.rk f l:=⟨_,rfl⟩;rw[←hr1]at hO1 hqq hmono hrkl;rw[←hr2]at hO2 hqq hmono;have zq:(r1:Int)-(r2:Int)=(q:Int):=by omega
    have zq':IntKind.i64.wrap ((r1:Int)-(r2:Int))=(q:Int):=by rw[Al9];omega
    have H1:Aside _:=And.intro hT1 (And.intro hk1 (And.intro hs1 (And.intro hiN hnn)));clear hT1 hk1 hs1 hiN hnn hr1 hr2 hqq hmono HS hca;go_wp2_with fail;go_quiet(first|(go_at_call_of 126 (Value.int .i64 ((l:Int)+(z:Int)));refine Ams (hO1 _))|(go_at_call_of 126 (Value.int .i64 (l:Int));refine Ams (hO2 _)));go_wp2_with fail;have hca:=H1.out.1.drewN nq;have hk2:=H1.out.2.1.drewN nq;obtain⟨_,_,hs1,hiN,hnn⟩:=H1.out;clear hO1 hO2 H1 hcell1 hcell2;generalize W.drewN nq=W2 at*;have hlk1:=No st.nds i l;have hli:=hlk1.2 i;obtain⟨b0,hb0⟩: ∃b,b=(Ab st.nds i).b0:=⟨_,rfl⟩;obtain⟨b1,hb1⟩: ∃b,b=(Ab st.nds i).b1:=⟨_,rfl⟩;have e0:(Ab (D2 st.nds i l) i).b0=b0:=by rw[hb0];exact hli.2.2.1
    have e1:(Ab (D2 st.nds i l) i).b1=b1:=by rw[hb1];exact hli.2.2.2
    have e2:(Ab (D2 st.nds i l) i).siz=(Ab st.nds i).siz:=by rw[Mk _ _ _ _ hiN];split<;>rfl
    rw[←hb0,←hb1]at hs1;rw[←hb0,←hb1,←hnn]at hinb;have hn1:n=(D2 st.nds i l).length:=by rw[Ge];exact hnn
    obtain⟨nds1,hnds1⟩: ∃x,x=D2 st.nds i l:=⟨_,rfl⟩;rw[←hnds1]at hca e0 e1 e2 hn1 hs1;have hiN1:i<nds1.length:=by omega
    have e3:(Ab nds1 i).siz=z:=by rw[e2];exact HZ.out.symm
    have cells: ∀X (nn:List Hm.Nd) (xs:List Nat),A4 X tb s LB g T (.slice (some ⟨ng,0,none⟩) n cap) nn xs total→n=nn.length→(Ab nn i).b0=b0→(Ab nn i).b1=b1→(Ab nn i).siz=z→X.cell? ⟨ng,i*9+2,none⟩=some (.int .i64 (z:Nat))∧X.cell? ⟨ng,i*9+3,none⟩=some (.bool b0.whole)∧X.cell? ⟨ng,i*9+3+1,none⟩=some (.int .u8 (b0.val.toNat:Nat))∧X.cell? ⟨ng,i*9+3+2,none⟩=some (.int .i64 (b0.node:Nat))∧X.cell? ⟨ng,i*9+6,none⟩=some (.bool b1.whole)∧X.cell? ⟨ng,i*9+6+1,none⟩=some (.int .u8 (b1.val.toNat:Nat))∧X.cell? ⟨ng,i*9+6+2,none⟩=some (.int .i64 (b1.node:Nat)):=by
     intro X nn xs hX hl0 q0 q1 q2;have hx:=hX.nod;rw[←hl0]at hx;have:=fun j hj=>Hl hx hl0 (i:=i) (by omega) j hj;refine⟨(this 2 (by omega)).trans ?_,(this 3 (by omega)).trans ?_,(this 4 (by omega)).trans ?_,(this 5 (by omega)).trans ?_,(this 6 (by omega)).trans ?_,(this 7 (by omega)).trans ?_,(this 8 (by omega)).trans ?_⟩
     ·show some (Value.int .i64 ((Ab nn i).siz:Nat))=_;rw[q2]
     ·show some (Value.bool (Ab nn i).b0.whole)=_;rw[q0]
     ·show some (Value.int .u8 ((Ab nn i).b0.val.toNat:Nat))=_;rw[q0]
     ·show some (Value.int .i64 ((Ab nn i).b0.node:Nat))=_;rw[q0]
     ·show some (Value.bool (Ab nn i).b1.whole)=_;rw[q1]
     ·show some (Value.int .u8 ((Ab nn i).b1.val.toNat:Nat))=_;rw[q1]
     ·show some (Value.int .i64 ((Ab nn i).b1.node:Nat))=_;rw[q1]
    obtain⟨hzc,d0,d1,d2,d3,d4,d5⟩:=cells W2 nds1 st.ws hca hn1 e0 e1 e3;obtain⟨z0,hz0⟩: ∃z0,z0=z-q:=⟨_,rfl⟩;have zz:(z:Int)-(q:Int)=(z0:Int):=by omega
    have zz':IntKind.i64.wrap (z0:Int)=(z0:Int):=by rw[Al9];omega
    rw[←hz0]at hs1;have hsh0:=Yx tb g LB total z0 (l+z) n cap ng s T nds1 st.ws b0 W2.drew hca.drew hn1 hnl hinb.1 (by omega);have hsh0':Calls Tryz.prog 183 #[.pointer (some ⟨tb,0,none⟩),.agg #[.bool b0.whole,.int .u8 (b0.val.toNat:Nat),.int .i64 (b0.node:Nat)],.int .i64 z0] W2.drew _:=hsh0;clear hsh0;have HCE:Aside _:=cells;cases hR:Dm b0 z0 ⟨l+z,nds1,st.ws⟩with
    |none=>
     rw[hR]at hsh0' hs1;have HN:Aside (Nn f LB nds total ws=none):=by
      have:=Nf hs1 n (by omega);rw[HI.out.2.2.1]at this;exact this
     have hsh:Calls Tryz.prog 183 #[.pointer (some ⟨tb,0,none⟩),.agg #[.bool b0.whole,.int .u8 (b0.val.toNat:Nat),.int .i64 (b0.node:Nat)],.int .i64 z0] W2.drew fun e w'=>e= .returned (.bool false)∧A4 w' tb s LB g T (.slice (some ⟨ng,0,none⟩) n cap) nds1 st.ws total∧Aa (Tk tb (.slice (some ⟨ng,0,none⟩) n cap)) W2.drew w':=hsh0';have H3:Aside _:=And.intro hk2 (And.intro hn1 (And.intro e0 (And.intro e1 e3)));clear hsh0' hk2 hn1 hs1 hca cells e0 e1 e2 e3 hb0 hb1 hli hlk1 hnds1 hiN hnn hR hz0 hiN1;obtain⟨b0w,b0v,b0n⟩:=b0;refine Ank (S:=fun X=>X.cell? ⟨ng,i*9+2,none⟩=some (.int .i64 (z:Nat))∧X.cell? ⟨ng,i*9+3,none⟩=some (.bool b0w)∧X.cell? ⟨ng,i*9+3+1,none⟩=some (.int .u8 (b0v.toNat:Nat))∧X.cell? ⟨ng,i*9+3+2,none⟩=some (.int .i64 (b0n:Nat))) (by kernel_rfl) ?_ (fun hHeld=>?_)
     ·exact⟨hzc,d0,d1,d2⟩
     refine wpAnyH_take (i := 0) (oi := { dst := some 62, op := Op.move (Operand.tmp 0), type := 153, pos := "tree.go:109", after := #[], guard := none }) (v := ?_) rfl (by kernel_rfl) (by kernel_rfl) (by kernel_rfl) (fun _ _ _ h => h) (Or.inl ⟨by kernel_rfl, ?_⟩) (by assumption) ?_
     rotate_left
     ·intro X hSw;try dsimp only at hSw
      go_simp
      with_reducible rfl
     simp only[Act.put,Ak8,Ak9,Ala]
     refine wpAnyH_take (i := 1) (oi := { dst := some 63, op := Op.move (Operand.tmp 5), type := 255, pos := "tree.go:109", after := #[], guard := none }) (v := ?_) rfl (by kernel_rfl) (by kernel_rfl) (by kernel_rfl) (fun _ _ _ h => h) (Or.inl ⟨by kernel_rfl, ?_⟩) (by assumption) ?_
     rotate_left
     ·intro X hSw;try dsimp only at hSw
      go_simp
      with_reducible rfl
     simp only[Act.put,Ak8,Ak9,Ala]
     refine wpAnyH_take (i := 2) (oi := { dst := some 64, op := Op.nilCheck (Operand.tmp 63), type := 0, pos := "tree.go:109", after := #[{ on := 1, ground := Ground.data }], guard := none }) (v := ?_) rfl (by kernel_rfl) (by kernel_rfl) (by kernel_rfl) (fun _ _ _ h => h) (Or.inl ⟨by kernel_rfl, ?_⟩) (by assumption) ?_
     rotate_left
     ·intro X hSw;try dsimp only at hSw
      go_simp
      with_reducible rfl
     simp only[Act.put,Ak8,Ak9,Ala]
     refine wpAnyH_take (i := 3) (oi := { dst := some 65, op := Op.fieldAddr 195 (Operand.tmp 64) 3, type := 0, pos := "tree.go:109", after := #[{ on := 2, ground := Ground.data }], guard := none }) (v := ?_) rfl (by kernel_rfl) (by kernel_rfl) (by kernel_rfl) (fun _ _ _ h => h) (Or.inl ⟨by kernel_rfl, ?_⟩) (by assumption) ?_
     rotate_left
     ·intro X hSw;try dsimp only at hSw
      go_simp
      with_reducible rfl
     simp only[Act.put,Ak8,Ak9,Ala]
     refine wpAnyH_take (i := 4) (oi := { dst := some 66, op := Op.indexAddr 193 (Operand.tmp 65) (Operand.const (Value.int IntKind.i64 0)), type := 0, pos := "tree.go:109", after := #[{ on := 3, ground := Ground.data }], guard := none }) (v := ?_) rfl (by kernel_rfl) (by kernel_rfl) (by kernel_rfl) (fun _ _ _ h => h) (Or.inl ⟨by kernel_rfl, ?_⟩) (by assumption) ?_
     rotate_left
     ·intro X hSw;try dsimp only at hSw
      go_simp
      with_reducible rfl
     simp only[Act.put,Ak8,Ak9,Ala]
     refine wpAnyH_take (i := 5) (oi := { dst := some 67, op := Op.load 192 (Operand.tmp 66), type := 192, pos := "tree.go:109", after := #[{ on := 4, ground := Ground.data }], guard := none }) (v := ?_) rfl (by kernel_rfl) (by kernel_rfl) (by kernel_rfl) (fun _ _ _ h => h) (Or.inl ⟨by kernel_rfl, ?_⟩) (by assumption) ?_
     rotate_left
     ·intro X hSw;try dsimp only at hSw
      go_simp
      with_reducible rfl
     simp only[Act.put,Ak8,Ak9,Ala]
     refine wpAnyH_take (i := 6) (oi := { dst := some 68, op := Op.move (Operand.tmp 5), type := 255, pos := "tree.go:109", after := #[], guard := none }) (v := ?_) rfl (by kernel_rfl) (by kernel_rfl) (by kernel_rfl) (fun _ _ _ h => h) (Or.inl ⟨by kernel_rfl, ?_⟩) (by assumption) ?_
     rotate_left
     ·intro X hSw;try dsimp only at hSw
      go_simp
      with_reducible rfl
     simp only[Act.put,Ak8,Ak9,Ala]
     refine wpAnyH_take (i := 7) (oi := { dst := some 69, op := Op.nilCheck (Operand.tmp 68), type := 0, pos := "tree.go:109", after := #[{ on := 6, ground := Ground.data }], guard := none }) (v := ?_) rfl (by kernel_rfl) (by kernel_rfl) (by kernel_rfl) (fun _ _ _ h => h) (Or.inl ⟨by kernel_rfl, ?_⟩) (by assumption) ?_
     rotate_left
     ·intro X hSw;try dsimp only at hSw
      go_simp
      with_reducible rfl
     simp only[Act.put,Ak8,Ak9,Ala]
     refine wpAnyH_take (i := 8) (oi := { dst := some 70, op := Op.fieldAddr 195 (Operand.tmp 69) 2, type := 0, pos := "tree.go:109", after := #[{ on := 7, ground := Ground.data }], guard := none }) (v := ?_) rfl (by kernel_rfl) (by kernel_rfl) (by kernel_rfl) (fun _ _ _ h => h) (Or.inl ⟨by kernel_rfl, ?_⟩) (by assumption) ?_
     rotate_left
     ·intro X hSw;try dsimp only at hSw
      go_simp
      with_reducible rfl
     simp only[Act.put,Ak8,Ak9,Ala]
     refine wpAnyH_take (i := 9) (oi := { dst := some 71, op := Op.load 3 (Operand.tmp 70), type := 3, pos := "tree.go:109", after := #[{ on := 8, ground := Ground.data }], guard := none }) (v := ?_) rfl (by kernel_rfl) (by kernel_rfl) (by kernel_rfl) (fun _ _ _ h => h) (Or.inl ⟨by kernel_rfl, ?_⟩) (by assumption) ?_
     rotate_left
     ·intro X hSw;try dsimp only at hSw
      go_simp
      with_reducible rfl
     simp only[Act.put,Ak8,Ak9,Ala]
     refine wpAnyH_take (i := 10) (oi := { dst := some 72, op := Op.move (Operand.tmp 6), type := 3, pos := "tree.go:109", after := #[], guard := none }) (v := ?_) rfl (by kernel_rfl) (by kernel_rfl) (by kernel_rfl) (fun _ _ _ h => h) (Or.inl ⟨by kernel_rfl, ?_⟩) (by assumption) ?_
     rotate_left
     ·intro X hSw;try dsimp only at hSw
      go_simp
      with_reducible rfl
     simp only[Act.put,Ak8,Ak9,Ala]
     refine wpAnyH_take (i := 11) (oi := { dst := some 73, op := Op.binOp BinOp.sub 3 (Operand.tmp 71) (Operand.tmp 72) 3, type := 3, pos := "tree.go:109", after := #[{ on := 9, ground := Ground.data }, { on := 10, ground := Ground.data }], guard := none }) (v := ?_) rfl (by kernel_rfl) (by kernel_rfl) (by kernel_rfl) (fun _ _ _ h => h) (Or.inl ⟨by kernel_rfl, ?_⟩) (by assumption) ?_
     rotate_left
     ·intro X hSw;try dsimp only at hSw
      go_simp
      with_reducible rfl
     simp only[Act.put,Ak8,Ak9,Ala];refine Al0 (rs:=[12]) (by kernel_rfl) (by simp) ?_;refine Alm rfl (fun K hK=>?_) Alv;go_simp;refine hsh.mono ?_;rintro e w1 ⟨rfl,hT3,hk3⟩;obtain⟨k0,k1,k2,k3,k4,k5,k6⟩:=HCE.out w1 nds1 st.ws hT3 H3.out.2.1 H3.out.2.2.1 H3.out.2.2.2.1 H3.out.2.2.2.2;clear hHeld;refine hK.out _ _ ⟨k0,k1,k2,k3⟩ (fun hHeld=>?_);clear hK K
     refine wpAnyH_take (i := 13) (oi := { dst := some 75, op := Op.unOp UnOp.not 4 (Operand.tmp 74), type := 4, pos := "tree.go:109", after := #[{ on := 12, ground := Ground.data }], guard := none }) (v := ?_) rfl (by kernel_rfl) (by kernel_rfl) (by kernel_rfl) (fun _ _ _ h => h) (Or.inl ⟨by kernel_rfl, ?_⟩) (by assumption) ?_
     rotate_left
     ·intro X hSw;try dsimp only at hSw
      go_simp
      with_reducible rfl
     simp only[Act.put,Ak8,Ak9,Ala]
     refine wpAnyH_take (i := 14) (oi := { dst := some 76, op := Op.move (Operand.tmp 75), type := 4, pos := "tree.go:109", after := #[{ on := 13, ground := Ground.data }, { on := 12, ground := Ground.chain }], guard := none }) (v := ?_) rfl (by kernel_rfl) (by kernel_rfl) (by kernel_rfl) (fun _ _ _ h => h) (Or.inl ⟨by kernel_rfl, ?_⟩) (by assumption) ?_
     rotate_left
     ·intro X hSw;try dsimp only at hSw
      go_simp
      with_reducible rfl
     simp only[Act.put,Ak8,Ak9,Ala]
     refine wpAnyH_take (i := 15) (oi := { dst := some 77, op := Op.move (Operand.tmp 0), type := 153, pos := "tree.go:109", after := #[{ on := 14, ground := Ground.guard }], guard := some (14, false) }) (v := undef) rfl (by kernel_rfl) (by kernel_rfl) (by kernel_rfl) (fun _ _ _ h => h) (Or.inr ⟨by kernel_rfl, rfl⟩) (by assumption) ?_
     simp only[Act.put,Ak8,Ak9,Ala]
     refine wpAnyH_take (i := 16) (oi := { dst := some 78, op := Op.move (Operand.tmp 5), type := 255, pos := "tree.go:109", after := #[{ on := 14, ground := Ground.guard }], guard := some (14, false) }) (v := undef) rfl (by kernel_rfl) (by kernel_rfl) (by kernel_rfl) (fun _ _ _ h => h) (Or.inr ⟨by kernel_rfl, rfl⟩) (by assumption) ?_
     simp only[Act.put,Ak8,Ak9,Ala]
     refine wpAnyH_take (i := 17) (oi := { dst := some 79, op := Op.nilCheck (Operand.tmp 78), type := 0, pos := "tree.go:109", after := #[{ on := 16, ground := Ground.data }, { on := 14, ground := Ground.guard }], guard := some (14, false) }) (v := undef) rfl (by kernel_rfl) (by kernel_rfl) (by kernel_rfl) (fun _ _ _ h => h) (Or.inr ⟨by kernel_rfl, rfl⟩) (by assumption) ?_
     simp only[Act.put,Ak8,Ak9,Ala]
     refine wpAnyH_take (i := 18) (oi := { dst := some 80, op := Op.fieldAddr 195 (Operand.tmp 79) 3, type := 0, pos := "tree.go:109", after := #[{ on := 17, ground := Ground.data }, { on := 14, ground := Ground.guard }], guard := some (14, false) }) (v := undef) rfl (by kernel_rfl) (by kernel_rfl) (by kernel_rfl) (fun _ _ _ h => h) (Or.inr ⟨by kernel_rfl, rfl⟩) (by assumption) ?_
     simp only[Act.put,Ak8,Ak9,Ala]
     refine wpAnyH_take (i := 19) (oi := { dst := some 81, op := Op.indexAddr 193 (Operand.tmp 80) (Operand.const (Value.int IntKind.i64 1)), type := 0, pos := "tree.go:109", after := #[{ on := 18, ground := Ground.data }, { on := 14, ground := Ground.guard }], guard := some (14, false) }) (v := undef) rfl (by kernel_rfl) (by kernel_rfl) (by kernel_rfl) (fun _ _ _ h => h) (Or.inr ⟨by kernel_rfl, rfl⟩) (by assumption) ?_
     simp only[Act.put,Ak8,Ak9,Ala]
     refine wpAnyH_take (i := 20) (oi := { dst := some 82, op := Op.load 192 (Operand.tmp 81), type := 192, pos := "tree.go:109", after := #[{ on := 19, ground := Ground.data }, { on := 14, ground := Ground.guard }], guard := some (14, false) }) (v := undef) rfl (by kernel_rfl) (by kernel_rfl) (by kernel_rfl) (fun _ _ _ h => h) (Or.inr ⟨by kernel_rfl, rfl⟩) (by assumption) ?_
     simp only[Act.put,Ak8,Ak9,Ala]
     refine wpAnyH_take (i := 21) (oi := { dst := some 83, op := Op.move (Operand.tmp 6), type := 3, pos := "tree.go:109", after := #[{ on := 14, ground := Ground.guard }], guard := some (14, false) }) (v := undef) rfl (by kernel_rfl) (by kernel_rfl) (by kernel_rfl) (fun _ _ _ h => h) (Or.inr ⟨by kernel_rfl, rfl⟩) (by assumption) ?_
     simp only[Act.put,Ak8,Ak9,Ala]
     refine wpAnyH_take (i := 22) (oi := { dst := some 84, op := Op.call { callee := Callee.value (Operand.func 183), args := #[Operand.tmp 77, Operand.tmp 82, Operand.tmp 83], argTypes := #[153, 192, 3] }, type := 4, pos := "tree.go:109", after := #[{ on := 15, ground := Ground.data }, { on := 20, ground := Ground.data }, { on := 21, ground := Ground.data }, { on := 14, ground := Ground.chain }, { on := 14, ground := Ground.guard }], guard := some (14, false) }) (v := undef) rfl (by kernel_rfl) (by kernel_rfl) (by kernel_rfl) (fun _ _ _ h => h) (Or.inr ⟨by kernel_rfl, rfl⟩) (by assumption) ?_
     simp only[Act.put,Ak8,Ak9,Ala]
     refine wpAnyH_take (i := 23) (oi := { dst := some 85, op := Op.unOp UnOp.not 4 (Operand.tmp 84), type := 4, pos := "tree.go:109", after := #[{ on := 22, ground := Ground.data }, { on := 14, ground := Ground.guard }], guard := some (14, false) }) (v := undef) rfl (by kernel_rfl) (by kernel_rfl) (by kernel_rfl) (fun _ _ _ h => h) (Or.inr ⟨by kernel_rfl, rfl⟩) (by assumption) ?_
     simp only[Act.put,Ak8,Ak9,Ala]
     refine wpAnyH_take (i := 24) (oi := { dst := some 86, op := Op.pick (Operand.tmp 76) (Operand.const (Value.bool true)) (Operand.tmp 85), type := 4, pos := "tree.go:109", after := #[{ on := 14, ground := Ground.data }, { on := 23, ground := Ground.data }], guard := none }) (v := ?_) rfl (by kernel_rfl) (by kernel_rfl) (by kernel_rfl) (fun _ _ _ h => h) (Or.inl ⟨by kernel_rfl, ?_⟩) (by assumption) ?_
     rotate_left
     ·intro X hSw;try dsimp only at hSw
      go_simp
      with_reducible rfl
     simp only[Act.put,Ak8,Ak9,Ala];refine Anp (by kernel_rfl) ?_ _;have H9:Aside _:=And.intro hT3 (And.intro (H3.out.1.drew.trans hk3 (fun _ _ h=>h)) H3.out.2.1);clear hT3 hk3 k0 k1 k2 k3 k4 k5 k6 H3 HCE hsh hHeld hzc d0 d1 d2 d3 d4 d5;go_wp2;go_ret2;refine⟨nds1,st.ws,?_,H9.out.2.2.symm,H9.out.1.wl,H9.out.1,H9.out.2.1⟩;unfold Nj;rw[HN.out];rfl
    |some s1=>
     rw[hR]at hsh0' hs1;have hs1':Hj f LB nds total ws (i+1)=Dm b1 q s1:=hs1;have hl1:=Ib hR;have hn2:n=s1.nds.length:=by rw[hl1.1.1];exact hn1
     have heff:=Kb hR;have hot:Ab s1.nds i=Ab nds1 i:=by
      refine heff.other i ?_;rcases hinb.2.2.1 with c|c
      ·exact .inr (.inr c)
      ·exact .inr (.inl (by omega))
     have f0:(Ab s1.nds i).b0=b0:=by rw[hot];exact e0
     have f1:(Ab s1.nds i).b1=b1:=by rw[hot];exact e1
     have f3:(Ab s1.nds i).siz=z:=by rw[hot];exact e3
     have hsA:Calls Tryz.prog 183 #[.pointer (some ⟨tb,0,none⟩),.agg #[.bool b0.whole,.int .u8 (b0.val.toNat:Nat),.int .i64 (b0.node:Nat)],.int .i64 z0] W2.drew fun e w'=>e= .returned (.bool true)∧A4 w' tb s LB g T (.slice (some ⟨ng,0,none⟩) n cap) s1.nds s1.ws total∧Aa (Tk tb (.slice (some ⟨ng,0,none⟩) n cap)) W2.drew w':=hsh0';have hsB:=fun(X:World) (hX:A4 X tb s LB g T (.slice (some ⟨ng,0,none⟩) n cap) s1.nds s1.ws total)=>Yx tb g LB total q s1.len n cap ng s T s1.nds s1.ws b1 X hX hn2 hnl hinb.2.1 (by omega);have HL1:Aside (s1.len=l+z):=hl1.2.1;have H3:Aside _:=And.intro hk2 (And.intro hn2 (And.intro f0 (And.intro f1 f3)));cases hR1:Dm b1 q s1 with
     |none=>
      have hsC: ∀(X:World),A4 X tb s LB g T (.slice (some ⟨ng,0,none⟩) n cap) s1.nds s1.ws total→Calls Tryz.prog 183 #[.pointer (some ⟨tb,0,none⟩),.agg #[.bool b1.whole,.int .u8 (b1.val.toNat:Nat),.int .i64 (b1.node:Nat)],.int .i64 q] X fun e w'=>e= .returned (.bool false)∧A4 w' tb s LB g T (.slice (some ⟨ng,0,none⟩) n cap) s1.nds s1.ws total∧Aa (Tk tb (.slice (some ⟨ng,0,none⟩) n cap)) X w':=fun X hX=>by
       have:=hsB X hX;rw[show(⟨s1.len,s1.nds,s1.ws⟩:B0)=s1 from rfl,hR1]at this;exact this
      have HN:Aside (Nn f LB nds total ws=none):=by
       rw[hR1]at hs1';have:=Nf hs1' n (by omega);rw[HI.out.2.2.1]at this;exact this
      have HSC:Aside _:=hsC;clear hsh0' hk2 hn1 hs1 hs1' hca cells e0 e1 e2 e3 hb0 hb1 hli hlk1 hnds1 hiN hnn hR hz0 hiN1 hsB hsC hl1 hn2 heff hot f0 f1 f3 hR1;obtain⟨b0w,b0v,b0n⟩:=b0;obtain⟨b1w,b1v,b1n⟩:=b1
      go_region_held(fun X=>X.cell? ⟨ng,i*9+2,none⟩=some (.int .i64 (z:Nat))∧X.cell? ⟨ng,i*9+3,none⟩=some (.bool b0w)∧X.cell? ⟨ng,i*9+3+1,none⟩=some (.int .u8 (b0v.toNat:Nat))∧X.cell? ⟨ng,i*9+3+2,none⟩=some (.int .i64 (b0n:Nat))∧X.cell? ⟨ng,i*9+3+3,none⟩=some (.bool b1w)∧X.cell? ⟨ng,i*9+3+3+1,none⟩=some (.int .u8 (b1v.toNat:Nat))∧X.cell? ⟨ng,i*9+3+3+2,none⟩=some (.int .i64 (b1n:Nat))) (first|exact⟨hzc,d0,d1,d2,d3,d4,d5⟩|exact⟨k0,k1,k2,k3,k4,k5,k6⟩|exact⟨m0,m1,m2,m3,m4,m5,m6⟩)
       (first
       |(go_at_call_of 183 (Value.int .i64 (z0:Int));refine hsA.mono ?_;rintro e w1 ⟨rfl,hT3,hk3⟩;obtain⟨k0,k1,k2,k3,k4,k5,k6⟩:=HCE.out w1 s1.nds s1.ws hT3 H3.out.2.1 H3.out.2.2.1 H3.out.2.2.2.1 H3.out.2.2.2.2)
       |(go_at_call_of 183 (Value.int .i64 (q:Int));refine(HSC.out _ hT3).mono ?_;rintro e w2 ⟨rfl,hT4,hk4⟩;obtain⟨m0,m1,m2,m3,m4,m5,m6⟩:=HCE.out w2 s1.nds s1.ws hT4 H3.out.2.1 H3.out.2.2.1 H3.out.2.2.2.1 H3.out.2.2.2.2))
      have H9:Aside _:=And.intro hT4 (And.intro ((H3.out.1.drew.trans hk3 (fun _ _ h=>h)).trans hk4 (fun _ _ h=>h)) H3.out.2.1);clear hT3 hT4 hk3 hk4 k0 k1 k2 k3 k4 k5 k6 m0 m1 m2 m3 m4 m5 m6 H3 HCE hsA HSC hzc d0 d1 d2 d3 d4 d5;go_wp2;go_ret2;refine⟨s1.nds,s1.ws,?_,H9.out.2.2.symm,H9.out.1.wl,H9.out.1,H9.out.2.1⟩;unfold Nj;rw[HN.out];rfl
     |some s2=>
      have hl2:=Ib hR1;have heff2:=Kb hR1;have hn3:n=s2.nds.length:=by rw[hl2.1.1];exact hn2
      have g0:(Ab s2.nds i).b0=b0:=by rw[(hl2.1.2 i).2.2.1];exact f0
      have g1:(Ab s2.nds i).b1=b1:=by rw[(hl2.1.2 i).2.2.2];exact f1
      have g3:(Ab s2.nds i).siz=z:=by
       rw[heff2.other i ?_]
       ·exact f3
       ·rcases hinb.2.2.2 with c|c
        ·exact .inr (.inr c)
        ·exact .inr (.inl (by omega))
      have hsC: ∀(X:World),A4 X tb s LB g T (.slice (some ⟨ng,0,none⟩) n cap) s1.nds s1.ws total→Calls Tryz.prog 183 #[.pointer (some ⟨tb,0,none⟩),.agg #[.bool b1.whole,.int .u8 (b1.val.toNat:Nat),.int .i64 (b1.node:Nat)],.int .i64 q] X fun e w'=>e= .returned (.bool true)∧A4 w' tb s LB g T (.slice (some ⟨ng,0,none⟩) n cap) s2.nds s2.ws total∧Aa (Tk tb (.slice (some ⟨ng,0,none⟩) n cap)) X w':=fun X hX=>by
       have:=hsB X hX;rw[show(⟨s1.len,s1.nds,s1.ws⟩:B0)=s1 from rfl,hR1]at this;exact this
      have HN:Aside (Hj f LB nds total ws (i+1)=some s2∧s2.len=l+z):=⟨by rw[hs1',hR1],hl2.2.1.trans hl1.2.1⟩;have H4:Aside _:=And.intro hn3 (And.intro g0 (And.intro g1 g3));have HSC:Aside _:=hsC;clear hsh0' hk2 hn1 hs1 hs1' hca cells e0 e1 e2 e3 hb0 hb1 hli hlk1 hnds1 hiN hnn hR hz0 hiN1 hsB hsC hl1 hn2 heff hot f0 f1 f3 hR1 hl2 heff2 hn3 g0 g1 g3;obtain⟨b0w,b0v,b0n⟩:=b0;obtain⟨b1w,b1v,b1n⟩:=b1
      go_region_held(fun X=>X.cell? ⟨ng,i*9+2,none⟩=some (.int .i64 (z:Nat))∧X.cell? ⟨ng,i*9+3,none⟩=some (.bool b0w)∧X.cell? ⟨ng,i*9+3+1,none⟩=some (.int .u8 (b0v.toNat:Nat))∧X.cell? ⟨ng,i*9+3+2,none⟩=some (.int .i64 (b0n:Nat))∧X.cell? ⟨ng,i*9+3+3,none⟩=some (.bool b1w)∧X.cell? ⟨ng,i*9+3+3+1,none⟩=some (.int .u8 (b1v.toNat:Nat))∧X.cell? ⟨ng,i*9+3+3+2,none⟩=some (.int .i64 (b1n:Nat))) (first|exact⟨hzc,d0,d1,d2,d3,d4,d5⟩|exact⟨k0,k1,k2,k3,k4,k5,k6⟩|exact⟨m0,m1,m2,m3,m4,m5,m6⟩)
       (first
       |(go_at_call_of 183 (Value.int .i64 (z0:Int));refine hsA.mono ?_;rintro e w1 ⟨rfl,hT3,hk3⟩;obtain⟨k0,k1,k2,k3,k4,k5,k6⟩:=HCE.out w1 s1.nds s1.ws hT3 H3.out.2.1 H3.out.2.2.1 H3.out.2.2.2.1 H3.out.2.2.2.2)
       |(go_at_call_of 183 (Value.int .i64 (q:Int));refine(HSC.out _ hT3).mono ?_;rintro e w2 ⟨rfl,hT4,hk4⟩;obtain⟨m0,m1,m2,m3,m4,m5,m6⟩:=HCE.out w2 s2.nds s2.ws hT4 H4.out.1 H4.out.2.1 H4.out.2.2.1 H4.out.2.2.2))
      have H9:Aside _:=And.intro hT4 ((H3.out.1.drew.trans hk3 (fun _ _ h=>h)).trans hk4 (fun _ _ h=>h));clear hT3 hT4 hk3 hk4 k0 k1 k2 k3 k4 k5 k6 m0 m1 m2 m3 m4 m5 m6 H3 H4 HCE hsA HSC hzc d0 d1 d2 d3 d4 d5;go_wp2;go_roundw
      case rel=>exact⟨i+1,s2,by omega,by go_num,HN.out.1,by rw[HN.out.2];go_num,H9.out.1,H9.out.2⟩
      case measure=>simp[intOf];omega
  ·obtain rfl:i=n:=by omega
   have hdec:decide ((i:Int)<(i:Int))=false:=Ald (by omega);have HN:Aside (Nn f LB nds total ws=some st∧i=st.nds.length):=by
    refine⟨?_,hnn⟩;unfold Nn;rw[←HI.out.2.2.1];exact hla
   have H9:Aside _:=And.intro hT hkr;clear hT hkr hla hlk hin2 hsz2 hnn;go_wp2;go_ret2;refine⟨st.nds,st.ws,?_,HN.out.2.symm,H9.out.1.wl,H9.out.1,H9.out.2⟩;unfold Nj;rw[HN.out.1];exact⟨rfl,rfl,rfl⟩
namespace Hm
theorem I8(ln:UInt8→Nat)(i s:Nat)(nds:List Nd)(b:UInt8)(r:List UInt8):Fi ln i s nds (b::r)=if ln b=(Ab nds i).depth+1 then(Bz nds i s {whole:=true,val:=b},r)else(Bz nds i s {node:=nds.length}++[{depth:=(Ab nds i).depth+1,num:=2*(Ab nds i).num+s}],b::r):=rfl
theorem Abt(ln:UInt8→Nat)(o:List UInt8)(k s:Nat)(hs:s<2):Al ln o (2*k+s+1)=Fi ln k s (Al ln o (2*k+s)).1 (Al ln o (2*k+s)).2:=by
 show Fi ln ((2*k+s)/2) ((2*k+s)%2) _ _=_;rw[show(2*k+s)/2=k from by omega,show(2*k+s)%2=s from by omega]
theorem Abu(ln:UInt8→Nat)(i s:Nat)(nds:List Nd)(l:List UInt8):nds.length≤(Fi ln i s nds l).1.length∧(Fi ln i s nds l).1.length≤nds.length+1:=by
 cases l with
 |nil=>exact⟨Ale _,Nat.le_succ _⟩
 |cons b r=>
  rw[I8];split
  ·show _≤(Bz nds i s _).length∧(Bz nds i s _).length≤_;rw[B8];omega
  ·show _≤(Bz nds i s _++_).length∧(Bz nds i s _++_).length≤_;rw[Alg,B8];exact⟨Apa _ _,Ale _⟩
theorem Xu(ln:UInt8→Nat)(i s:Nat)(nds:List Nd)(l:List UInt8)(hi:i<nds.length)(j:Nat)(hj:j<nds.length):(Ab (Fi ln i s nds l).1 j).depth=(Ab nds j).depth:=by
 cases l with
 |nil=>rfl
 |cons b r=>
  rw[I8];split
  ·exact Fg _ _ _ _ hi j
  ·show(Ab (Bz nds i s _++_) j).depth=_;rw[J9 _ _ _ (by rw[B8];exact hj),Fg _ _ _ _ hi]
theorem Qq(ln:UInt8→Nat)(o:List UInt8): ∀t j,(Ab (Al ln o t).1 j).depth≤t
 |0,j=>by
  show(Ab [{}] j).depth≤0;cases j<;>exact Ale _
 |t+1,j=>by
  have ih:=Qq ln o t;show(Ab (Fi ln (t/2) (t%2) (Al ln o t).1 (Al ln o t).2).1 j).depth≤t+1;generalize(Al ln o t).1=nds at*;generalize(Al ln o t).2=l at*;have pb: ∀b j,(Ab (Bz nds (t/2) (t%2) b) j).depth≤t:=fun b j=>by
   by_cases hi:t/2<nds.length
   ·rw[Fg _ _ _ _ hi];exact ih j
   ·unfold Bz;rw[Aoq (by omega)];exact ih j
  cases l with
  |nil=>exact Nat.le_succ_of_le (ih j)
  |cons b r=>
   rw[I8];split
   ·exact Nat.le_succ_of_le (pb _ j)
   ·show(Ab (Bz nds (t/2) (t%2) _++[_]) j).depth≤t+1;rcases Ami j (Bz nds (t/2) (t%2) {node:=nds.length}).length with c|c|c
    ·rw[J9 _ _ _ c];exact Nat.le_succ_of_le (pb _ j)
    ·rw[c,Lh];exact Nat.succ_le_succ (ih _)
    ·unfold Ab;rw[Ak6,Al3 (by rw[Alg];exact c)];exact Alr _
end Hm
def Ta(o:List UInt8)(g cp:Nat)(v:Value)(p:Nat):Prop:= ∃a c,v= .slice a (o.length-p) c∧(p<o.length→a=some ⟨g,p,none⟩∧c=cp-p)
set_option maxHeartbeats 2000000 in
theorem Yy(M:Nat)(L:List Nat)(N:Nat)(w:World)(hL:L.length=256)(hx: ∀x∈L,x≤255)(hE:Hm.Ends M (Hm.lnB L) (Af L) N)
  (hor: ∀W:World,Calls Tryz.prog 181 #[.agg (Ac L).toArray] W fun e w'=> ∃v,e= .returned v∧w'.ownsRow W.heap.size 5 1 v (Af L).length (Ag (Af L))∧Apd W w'):
  Calls Tryz.prog 150 #[.agg (Ac L).toArray] w fun e w'=> ∃v,e= .returned v∧w'.ownsRow w.heap.size 195 9 v N (A9 (Al (Hm.lnB L) (Af L) (2*N)).1)∧Apd w w':=by
 obtain⟨i0,hi,hz0,hz1,hz2⟩:=Amz Ahf;have hasz:(Ac L).toArray.size=256:=by rw[A2,hL]
 have hbox:(w.alloc (.cells (Ac L).toArray 139)).heap[w.heap.size]?=some (.cells (Ac L).toArray 139 (0,0)):=All w _;have hcell: ∀W:World,W.heap[w.heap.size]?=some (.cells (Ac L).toArray 139 (0,0))→ ∀b:UInt8,W.cell? ⟨w.heap.size,b.toNat,none⟩=some (.int .i64 (Hm.lnB L b:Nat)):=by
  intro W hW b;have hb:=b.toNat_lt;rw[Alc _ _ b.toNat _ _ _ hW];simp[Ac,Hm.lnB,List.getD_eq_getElem?_getD,List.getElem?_eq_getElem (show b.toNat<L.length from by omega)]
 have hxb: ∀b:UInt8,Hm.lnB L b≤255:=fun b=>by
  have hb:=b.toNat_lt;rw[Hm.lnB,Ak6,Ak7 (show b.toNat<L.length from by omega)];exact hx _ (Alo _)
 have hor1:=hor (w.alloc (.cells (Ac L).toArray 139));have HC:Aside _:=hcell;have HE:Aside _:=hE;have HXB:Aside _:=hxb;have hN:N≤255:=by have h1:=hE.len;have h2:=hE.few (2*N) (Ale _);omega
 clear hcell hE hxb hor;generalize(Ac L).toArray=arr at*
 go_enter Tryz.func150,Tryz.ntmps150
 go_wp2_with(first
  |(refine Amd rfl 139 _ rfl w.heap.size rfl 139 arr (0,0) _ hbox Tryz.underlying139 rfl (by rw[hasz];exact B9) ?_))
 refine hor1.mono ?_;rintro e w2 ⟨v,rfl,ho,hk2⟩;have hbx2:=hk2.row hbox id;have hkw2:Apd w w2:=((Aa.refl (fun _=>False) w).alloc _).trans hk2 (fun _ _ h=>h);have hbs:w.heap.size<w2.heap.size:=Alw hbx2;clear hor1 hbox;generalize hO:Af L=o at*;obtain⟨g,cp,hv⟩: ∃g cp,Ta o g cp v 0∧(0<o.length→v= .slice (some ⟨g,0,none⟩) o.length cp∧o.length≤cp):=by
  by_cases h0:0<o.length
  ·obtain⟨g,cap,hv,hnc,_⟩:=Cf ho h0;exact⟨g,cap,⟨some ⟨g,0,none⟩,cap,hv,fun _=>⟨rfl,rfl⟩⟩,fun _=>⟨hv,hnc⟩⟩
  ·obtain⟨ao,c,hv,_⟩:=Ay ho;exact⟨0,0,⟨ao,c,hv,fun h=>by omega⟩,fun h=>by omega⟩
 obtain⟨ao,c,hv2,_⟩:=Ay ho;have HV:Aside (Ta o g cp v 0∧(0<o.length→v= .slice (some ⟨g,0,none⟩) o.length cp∧o.length≤cp)∧w2.ownsRow (w.alloc (.cells arr 139)).heap.size 5 1 v o.length (Ag o)):=⟨hv.1,hv.2,ho⟩;rw[hv2];rw[hv2]at HV;clear ho hv hv2;have HW2:Aside (w2.heap[w.heap.size]?=some (.cells arr 139 (0,0))∧Apd w w2):=⟨hbx2,hkw2⟩;clear hbx2 hkw2 hk2;obtain⟨B,hB⟩: ∃B,B=w2.heap.size:=⟨_,rfl⟩;have hgB:0<o.length→g<B:=fun h=>by have h1:=(HV.out.2.1 h).1;have h2:=HV.out.2.2;rw[h1]at h2;have:=h2.lt g rfl;omega
 have HB:Aside (B=w2.heap.size):=hB;have hst0:(w2.alloc (.cells (Ce {}).toArray 195)).ownsRow B 195 9 (.slice (some ⟨w2.heap.size,0,none⟩) 1 1) 1 (A9 (Al (Hm.lnB L) o (2*0)).1):=by
  have:=World.ownsRow_lit (e:=195) (base:=B) (size:=9) w2 (Ce {}).toArray 1 (by omega) (by unfold maxLen;omega) rfl;exact this
 have hkp0:Aa (fun j=>B≤j) w2 (w2.alloc (.cells (Ce {}).toArray 195)):=(Aa.refl _ _).alloc _;have H0:Aside _:=And.intro hst0 hkp0;clear hst0 hkp0 hB;go_wp2_with fail
 go_loopw[5,4,3] (fun vi nv lv wr=> ∃(k p n:Nat),k≤N∧vi= .int .i64 k∧n=(Al (Hm.lnB L) o (2*k)).1.length∧wr.ownsRow B 195 9 nv n (A9 (Al (Hm.lnB L) o (2*k)).1)∧p≤o.length∧(Al (Hm.lnB L) o (2*k)).2=o.drop p∧Ta o g cp lv p∧Aa (fun j=>B≤j) w2 wr) (fun vi _ _ _=>N-(intOf vi).toNat)
 case atStart=>exact⟨0,0,1,Alr _,rfl,rfl,H0.out.1,Alr _,rfl,HV.out.1,H0.out.2⟩
 case round=>
  clear H0;obtain⟨k,p,n,hk,rfl,hn,hr,hp,hlf,hlv,hkr⟩:=hrel
  by_cases hlt:k<N
  ·have hmore:=HE.out.more k hlt;obtain⟨ng,nc,hnv,hnc,hngw⟩:=Cf hr (by omega);subst hnv;obtain⟨la,lc,hlv1,hlv2⟩:=hlv;subst hlv1;have hd:=Afk hr hn hmore;have hdle:=Qq (Hm.lnB L) o (2*k) k;obtain⟨d,hdd⟩: ∃d,d=(Ab (Al (Hm.lnB L) o (2*k)).1 k).depth:=⟨_,rfl⟩;rw[←hdd]at hd hdle;have hkn:(k:Int)<(n:Int):=by omega
   have hdec:decide ((k:Int)<(n:Int))=true:=Alb hkn;have HS:Aside (n=(Al (Hm.lnB L) o (2*k)).1.length∧wr.ownsRow B 195 9 (.slice (some ⟨ng,0,none⟩) n nc) n (A9 (Al (Hm.lnB L) o (2*k)).1)∧p≤o.length∧(Al (Hm.lnB L) o (2*k)).2=o.drop p∧Ta o g cp (.slice la (o.length-p) lc) p∧Aa (fun j=>B≤j) w2 wr∧d=(Ab (Al (Hm.lnB L) o (2*k)).1 k).depth∧k<(Al (Hm.lnB L) o (2*k)).1.length):=⟨hn,hr,hp,hlf,⟨la,lc,rfl,hlv2⟩,hkr,hdd,hmore⟩;clear hn hr hp hlf hlv2 hkr hdd hmore hnc;go_wp2_with fail
   go_loopw[24,4,3] (fun vs nv lv wr=> ∃(s p n:Nat),s≤2∧vs= .int .i64 s∧n=(Al (Hm.lnB L) o (2*k+s)).1.length∧wr.ownsRow B 195 9 nv n (A9 (Al (Hm.lnB L) o (2*k+s)).1)∧p≤o.length∧(Al (Hm.lnB L) o (2*k+s)).2=o.drop p∧Ta o g cp lv p∧Aa (fun j=>B≤j) w2 wr∧d=(Ab (Al (Hm.lnB L) o (2*k+s)).1 k).depth∧k<(Al (Hm.lnB L) o (2*k+s)).1.length) (fun vs _ _ _=>2-(intOf vs).toNat)
   case atStart=>
    obtain⟨q1,q2,q3,q4,q5,q6,q7,q8⟩:=HS.out;exact⟨0,p,n,by omega,rfl,q1,q2,q3,q4,q5,q6,q7,q8⟩
   case round=>
    clear HS hd hkn hdec;obtain⟨s,p,n,hs,rfl,hn,hr,hp,hlf,hlv,hkr,hdd,hkl⟩:=hrel;obtain⟨W1,rfl⟩: ∃X,X=wr:=⟨_,rfl⟩
    by_cases hs2:s<2
    ·have hX:=Abt (Hm.lnB L) o k s hs2;have hfew:=HE.out.few (2*k+s) (by omega);have hsl:=Abu (Hm.lnB L) k s (Al (Hm.lnB L) o (2*k+s)).1 (Al (Hm.lnB L) o (2*k+s)).2;have hsd:=Xu (Hm.lnB L) k s (Al (Hm.lnB L) o (2*k+s)).1 (Al (Hm.lnB L) o (2*k+s)).2 hkl k hkl;rw[←hdd]at hsd;rw[hlf]at hX hsl hsd;obtain⟨nds,hnds⟩: ∃nds,nds=(Al (Hm.lnB L) o (2*k+s)).1:=⟨_,rfl⟩;rw[←hnds]at hX hfew hsl hsd hn hr hdd hkl;obtain⟨la,lc,hlv1,hlv2⟩:=hlv;subst hlv1;obtain⟨ng,nc,hnv,hnc,hngw⟩:=Cf hr (by omega);subst hnv;have hBg:B≤ng:=(hr.lt ng rfl).1;have hsI:decide ((s:Int)<2)=true:=Alb (by omega);clear hnds hlf
     by_cases hpl:p<o.length
     ·obtain⟨hla,hlc⟩:=hlv2 hpl;subst hla;obtain⟨m,hm⟩: ∃m,m=o.length-p:=⟨_,rfl⟩;obtain⟨b,hb⟩: ∃b,b=o.getD p 0:=⟨_,rfl⟩;rw[Lz o p hpl,←hb]at hX hsl hsd;rw[I8]at hX hsl hsd;have ho0:=HV.out.2.1 (by omega);have hcpl:=ho0.2;have how:=HV.out.2.2;rw[ho0.1]at how;have howr:=hkr.owns how (fun j hj=>by have e:g=j:=Al1 hj;have:=hgB (by omega);omega);have hcb:W1.cell? ⟨g,p,none⟩=some (.int .u8 (b.toNat:Nat)):=by
       rw[howr.cellAt p (by omega),hb];simp[Ag,hpl]
      have hcl:=HC.out W1 (hkr.row HW2.out.1 (by have:=HB.out;omega)) b;have hlb:=HXB.out b;have hbn:=b.toNat_lt;have hgng:g≠ng:=by have:=hgB (by omega);omega
      have hbng:w.heap.size≠ng:=by have:=HB.out;omega
      have hm0:(0:Int)<(m:Int):=by omega
      have hm0':((m:Int)==0)=false:=by rw[Al5];omega
      have hm1:(1:Int)≤(m:Int):=by omega
      have hkn:(k:Int)<(n:Int):=by omega
      obtain⟨x0,t0⟩: ∃x,W1.cell? ⟨ng,k*9+3+s*3,none⟩=some x:=by
       have:=Hl hr hn hkl (3+s*3) (by omega);rw[←Anc]at this;exact⟨_,this.trans (Ak7 (by show _<9;omega))⟩
      obtain⟨x1,t1⟩: ∃x,W1.cell? ⟨ng,k*9+3+s*3+1,none⟩=some x:=by
       have:=Hl hr hn hkl (3+s*3+1) (by omega);rw[←Anc,←Anc]at this;exact⟨_,this.trans (Ak7 (by show _<9;omega))⟩
      obtain⟨x2,t2⟩: ∃x,W1.cell? ⟨ng,k*9+3+s*3+2,none⟩=some x:=by
       have:=Hl hr hn hkl (3+s*3+2) (by omega);rw[←Anc,←Anc]at this;exact⟨_,this.trans (Ak7 (by show _<9;omega))⟩
      have f0:W1.frozen? ⟨ng,k*9+3+s*3,none⟩=false:=hr.frozenAt _;have f1:W1.frozen? ⟨ng,k*9+3+s*3+1,none⟩=false:=hr.frozenAt _;have f2:W1.frozen? ⟨ng,k*9+3+s*3+2,none⟩=false:=hr.frozenAt _;rw[←hm]
      by_cases hleaf:Hm.lnB L b=d+1
      ·rw[if_pos (by rw[←hdd];exact hleaf)]at hX hsl hsd;have htest:((Hm.lnB L b:Int)==(d:Int)+1)=true:=by rw[beq_iff_eq];omega
       have hst:=((((hr.stored (k*9+3+s*3) (.bool true)).1).stored (k*9+3+s*3+1) (.int .u8 (b.toNat:Nat))).1.stored (k*9+3+s*3+2) (.int .i64 0)).1;have hbr:=Yo nds k s hkl hs2 {whole:=true,val:=b};have HR:Aside ((((W1.setCell ⟨ng,k*9+3+s*3,none⟩ (.bool true)).setCell ⟨ng,k*9+3+s*3+1,none⟩ (.int .u8 (b.toNat:Nat))).setCell ⟨ng,k*9+3+s*3+2,none⟩ (.int .i64 0)).ownsRow B 195 9 (.slice (some ⟨ng,0,none⟩) n nc) n (A9 (Bz nds k s {whole:=true,val:=b}))∧Aa (fun j=>B≤j) w2 (((W1.setCell ⟨ng,k*9+3+s*3,none⟩ (.bool true)).setCell ⟨ng,k*9+3+s*3+1,none⟩ (.int .u8 (b.toNat:Nat))).setCell ⟨ng,k*9+3+s*3+2,none⟩ (.int .i64 0))):=by
        refine⟨by rw[←hbr];exact hst,?_⟩;exact((hkr.setCell (p:=⟨ng,_,none⟩) (.inr hBg) _).setCell (p:=⟨ng,_,none⟩) (.inr hBg) _).setCell (p:=⟨ng,_,none⟩) (.inr hBg) _
       have HX:Aside (Al (Hm.lnB L) o (2*k+s+1)=(Bz nds k s {whole:=true,val:=b},o.drop (p+1))∧(Ab (Bz nds k s {whole:=true,val:=b}) k).depth=d∧n=nds.length∧k<nds.length∧m=o.length-p∧lc=cp-p):=⟨hX,hsd,hn,hkl,hm,hlc⟩;have hlcm:(m:Int)≤(lc:Int):=by omega
       obtain⟨lb,hlbe⟩: ∃lb,lb=Hm.lnB L b:=⟨_,rfl⟩;obtain⟨bn,hbe⟩: ∃bn,bn=b.toNat:=⟨_,rfl⟩;rw[←hlbe]at htest hcl hlb;rw[←hbe]at hcl hcb hbn HR;have hbnI:(bn:Int)<256:=by omega
       clear hX hsl hsd hn hr hdd hkl hst hbr hlv2 how howr hkr hm hb hleaf hlbe hbe ho0 hlc hcpl hnc;go_wp2_with fail
       go_region
       go_wp2;go_roundw
       case rel=>
        obtain⟨e,ed,en,ekl,em,elc⟩:=HX.out;have e1:(Al (Hm.lnB L) o (2*k+(s+1))).1=Bz nds k s {whole:=true,val:=b}:=by rw[←Anc,e]
        have e2:(Al (Hm.lnB L) o (2*k+(s+1))).2=o.drop (p+1):=by rw[←Anc,e]
        refine⟨s+1,p+1,n,by omega,by go_num,by rw[e1,B8];exact en,by rw[e1];exact HR.out.1,by omega,e2,⟨_,_,by rw[show m-1=o.length-(p+1)from by omega],fun h=>⟨if_neg (by have:=hlcm;omega),by omega⟩⟩,HR.out.2.drew,by rw[e1,ed],by rw[e1,B8];exact ekl⟩
       case measure=>simp[intOf];omega
      ·rw[if_neg (by rw[←hdd];exact hleaf)]at hX hsl hsd;have htest:((Hm.lnB L b:Int)==(d:Int)+1)=false:=by rw[Al5];omega
       have hst:=((((hr.stored (k*9+3+s*3) (.bool false)).1).stored (k*9+3+s*3+1) (.int .u8 0)).1.stored (k*9+3+s*3+2) (.int .i64 (n:Nat))).1;have hbr:=Yo nds k s hkl hs2 {node:=nds.length};rw[←hn]at hbr hX hsd;have hK3:Aa (fun j=>B≤j) w2 (((W1.setCell ⟨ng,k*9+3+s*3,none⟩ (.bool false)).setCell ⟨ng,k*9+3+s*3+1,none⟩ (.int .u8 0)).setCell ⟨ng,k*9+3+s*3+2,none⟩ (.int .i64 (n:Nat))):=
        ((hkr.setCell (p:=⟨ng,_,none⟩) (.inr hBg) _).setCell (p:=⟨ng,_,none⟩) (.inr hBg) _).setCell (p:=⟨ng,_,none⟩) (.inr hBg) _
       have hR3:(((W1.setCell ⟨ng,k*9+3+s*3,none⟩ (.bool false)).setCell ⟨ng,k*9+3+s*3+1,none⟩ (.int .u8 0)).setCell ⟨ng,k*9+3+s*3+2,none⟩ (.int .i64 (n:Nat))).ownsRow B 195 9 (.slice (some ⟨ng,0,none⟩) n nc) n (A9 (Bz nds k s {node:=n})):=by
        rw[←hbr];exact hst
       rw[←hdd]at hX hsd;have HX:Aside (Al (Hm.lnB L) o (2*k+s+1)=(Bz nds k s {node:=n}++[{depth:=d+1,num:=2*(Ab nds k).num+s}],b::o.drop (p+1))∧(Ab (Bz nds k s {node:=n}++[{depth:=d+1,num:=2*(Ab nds k).num+s}]) k).depth=d∧n=nds.length∧k<nds.length∧m=o.length-p∧b=o.getD p 0∧lc=cp-p):=⟨hX,hsd,hn,hkl,hm,hb,hlc⟩;have hszW:(((W1.setCell ⟨ng,k*9+3+s*3,none⟩ (.bool false)).setCell ⟨ng,k*9+3+s*3+1,none⟩ (.int .u8 0)).setCell ⟨ng,k*9+3+s*3+2,none⟩ (.int .i64 (n:Nat))).heap.size=W1.heap.size:=by simp
       have HR:Aside _:=And.intro hR3 (And.intro hK3 hszW);have hn255:n≤255:=by omega
       obtain⟨lb,hlbe⟩: ∃lb,lb=Hm.lnB L b:=⟨_,rfl⟩;obtain⟨bn,hbe⟩: ∃bn,bn=b.toNat:=⟨_,rfl⟩;rw[←hlbe]at htest hcl hlb;rw[←hbe]at hcl hcb hbn;have hbnI:(bn:Int)<256:=by omega
       clear hX hsl hsd hn hr hdd hkl hst hbr hlv2 how howr hkr hm hb hleaf hlbe hbe ho0 hlc hcpl hnc hR3 hK3 hszW
       go_wp2_with(at_builtin;refine A7 _ rfl (.tmp 36) (.tmp 39) 93 rfl B 195 i0 _ 9 56 Tryz.underlying93 hi hz0 hz1 hz2 rfl (by decide) _ n (A9 (Bz nds k s {node:=n})) rfl (by exact HR.out.1.alloc _) ⟨W1.heap.size,0,none⟩ 1 1 (Ce {depth:=d+1}) rfl rfl ?c1 ?c2 ?c3 ?c4 ?c5 ?_)
       case c1=>
        intro j u hj;have hnw:=All (((W1.setCell ⟨ng,k*9+3+s*3,none⟩ (.bool false)).setCell ⟨ng,k*9+3+s*3+1,none⟩ (.int .u8 0)).setCell ⟨ng,k*9+3+s*3+2,none⟩ (.int .i64 (n:Nat))) (.cells (Ce {depth:=d+1}).toArray 195);rw[HR.out.2.2]at hnw;rw[Addr.add_lit,Al7];exact(Alc _ _ j _ _ _ hnw).trans (by rw[Alz];exact hj)
       case c2=>exact fun u hu=>Afh [{depth:=d+1}] u (by simpa[A9]using hu)
       case c3=>unfold maxLen;omega
       case c4=>omega
       case c5=>have h1:=HR.out.1.lt ng rfl;simp only[World.alloc,Array.size_push];omega
       intro v4 w4 ho4 hg4 hm4;have hk4:Aa (fun j=>B≤j) w2 w4:=(HR.out.2.1.alloc _).grown hg4 (fun j hj=> .inr (by have e:ng=j:=Al1 hj;omega));have ho5:w4.ownsRow B 195 9 v4 (n+1) (A9 (Bz nds k s {node:=n}++[{depth:=d+1,num:=2*(Ab nds k).num+s}])):=by
        rw[My];exact ho4
       obtain⟨a4,c4,hv4,_⟩:=Ay ho5;subst hv4;have H4:Aside _:=And.intro ho5 hk4;clear ho4 hg4 hm4 ho5 hk4 HR;go_wp2;go_roundw
       case rel=>
        obtain⟨e,ed,en,ekl,em,eb,elc⟩:=HX.out;have e1:(Al (Hm.lnB L) o (2*k+(s+1))).1=Bz nds k s {node:=n}++[{depth:=d+1,num:=2*(Ab nds k).num+s}]:=by rw[←Anc,e]
        have e2:(Al (Hm.lnB L) o (2*k+(s+1))).2=o.drop p:=by rw[←Anc,e,eb,←Lz o p hpl]
        refine⟨s+1,p,n+1,by omega,by go_num,by rw[e1,Alg,B8,en];rfl,by rw[e1];exact H4.out.1,by omega,e2,⟨_,_,by rw[em],fun h=>⟨rfl,elc⟩⟩,H4.out.2,by rw[e1,ed],by rw[e1,Alg,B8];omega⟩
       case measure=>simp[intOf];omega
     ·have hp0:o.length-p=0:=by omega
      rw[List.drop_eq_nil_of_le (by omega)]at hX;have HX:Aside (Al (Hm.lnB L) o (2*k+s+1)=(nds,[])∧n=nds.length∧W1.ownsRow B 195 9 (.slice (some ⟨ng,0,none⟩) n nc) n (A9 nds)∧Aa (fun j=>B≤j) w2 W1∧d=(Ab nds k).depth∧k<nds.length):=⟨hX,hn,hr,hkr,hdd,hkl⟩;rw[hp0];clear hX hsl hsd hn hr hdd hkl hlv2 hkr hnc;go_wp2;go_roundw
      case rel=>
       obtain⟨e,q1,q2,q3,q4,q5⟩:=HX.out;have e1:(Al (Hm.lnB L) o (2*k+(s+1))).1=nds:=by rw[←Anc,e]
       have e2:(Al (Hm.lnB L) o (2*k+(s+1))).2=o.drop p:=by rw[←Anc,e,List.drop_eq_nil_of_le (by omega)]
       exact⟨s+1,p,n,by omega,by go_num,by rw[e1];exact q1,by rw[e1];exact q2,hp,e2,⟨la,lc,by rw[hp0],fun h=>by omega⟩,q3,by rw[e1];exact q4,by rw[e1];exact q5⟩
      case measure=>simp[intOf];omega
    ·obtain rfl:s=2:=by omega
     have hsI:decide (((2:Nat):Int)<2)=false:=by decide
     obtain⟨la,lc,hlv1,hlv2⟩:=hlv;subst hlv1;obtain⟨ng,nc,hnv,hnc,hngw⟩:=Cf hr (by omega);subst hnv;have HX:Aside (n=(Al (Hm.lnB L) o (2*(k+1))).1.length∧W1.ownsRow B 195 9 (.slice (some ⟨ng,0,none⟩) n nc) n (A9 (Al (Hm.lnB L) o (2*(k+1))).1)∧p≤o.length∧(Al (Hm.lnB L) o (2*(k+1))).2=o.drop p∧Ta o g cp (.slice la (o.length-p) lc) p∧Aa (fun j=>B≤j) w2 W1):=⟨hn,hr,hp,hlf,⟨la,lc,rfl,hlv2⟩,hkr⟩;clear hn hr hp hlf hlv2 hkr hdd hkl hnc;go_wp2;go_roundw
     case rel=>
      obtain⟨q1,q2,q3,q4,q5,q6⟩:=HX.out;exact⟨k+1,p,n,by omega,by go_num,q1,q2,q3,q4,q5,q6⟩
     case measure=>simp[intOf];omega
  ·obtain rfl:k=N:=by omega
   have hnN:n=k:=by rw[hn];exact HE.out.len
   subst hnN;obtain⟨la,lc,hlv1,hlv2⟩:=hlv;subst hlv1;obtain⟨na,nc,hnv,_⟩:=Ay hr;subst hnv;have hdec:decide ((n:Int)<(n:Int))=false:=Ald (by omega);have HX:Aside (wr.ownsRow w.heap.size 195 9 (.slice na n nc) n (A9 (Al (Hm.lnB L) o (2*n)).1)∧Apd w wr):=
    ⟨E4 hr (fun j hj=>by have:=hr.lt j hj;have:=HB.out;omega),HW2.out.2.trans hkr (fun j h1 h2=>by have:=HB.out;omega)⟩
   clear hn hr hp hlf hlv2 hkr;go_wp2;go_ret;exact⟨.slice na n nc,rfl,by rw[hO];exact HX.out.1,HX.out.2⟩
end Go.Proofs.YtegnkfdbmmndaaaGreat
