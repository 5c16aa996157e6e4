import Derived.Test.YtegnkfdbmmndaaaGreatK11

set_option maxHeartbeats 8000000
set_option maxRecDepth 100000
namespace Go.Proofs.YtegnkfdbmmndaaaGreat
open Hm Go.Proofs.Tryz
variable{gc:Nat}{P:Program}{vals:Aei}{cs:List Aeg}
section
open Go.RowKit
namespace Hm
theorem P3{f:Nat->Bool}{a:Nat}{nds:List Nd}{total:Nat}{ws:Aeh}{i:Nat}(h:Ji f a nds total ws i=none): ∀m,i<=m->Ji f a nds total ws m=none
 |0,b=>by
  obtain rfl:i=0:=by omega
  exact h
 |m+1,b=>by
  by_cases e:i=m+1
  ·subst e;exact h
  ·rw[Ji,P3 h m (by omega)];rfl
def Sl(nds:List Nd):Prop:= ∀j,(Ab nds j).b0.node<nds.length/\(Ab nds j).b1.node<nds.length/\((Ab nds j).b0.node=0\/j<(Ab nds j).b0.node)/\((Ab nds j).b1.node=0\/j<(Ab nds j).b1.node)
theorem Sl.like{a b:List Nd}(h:Sl b)(c:Jw a b):Sl a:=fun j=>by
 rw[(c.2 j).2.2.1,(c.2 j).2.2.2,c.1];exact h j
theorem Bn.inside{M:Nat}{ln:UInt8->Nat}{o:Aeg}{nds:List Nd}(h:Bn M ln o nds):Sl nds:=fun j=>by
 by_cases b:j<nds.length
 ·have key: ∀u,u<2->((Ab nds j).br u).node<nds.length:=fun u a=>by
   cases h.good j u b a with
   |leaf k hk e=>rw[e];exact h.more
   |node n e h1 h2=>rw[e];exact h2
   |none e=>rw[e];exact h.more
  refine⟨key 0 (by omega),key 1 (by omega),?_⟩;have: ∀u,u<2->((Ab nds j).br u).node=0\/j<((Ab nds j).br u).node:=fun u a=>by
   cases h.good j u b a with
   |leaf k hk e=>rw[e];exact .inl rfl
   |node n e h1 h2=>rw[e];exact .inr h1
   |none e=>rw[e];exact .inl rfl
  exact⟨this 0 (by omega),this 1 (by omega)⟩
 ·unfold Ab;rw[zG,Aam (by omega)];exact⟨h.more,h.more,.inl rfl,.inl rfl⟩
end Hm
def Qb(r:Option Bl)(e:Ending)(nds:List Nd)(ws:Aeh):Prop:=match r with
 |some st=>e= .returned (.tuple #[.int .i64 st.len,.bool true])/\nds=st.nds/\ws=st.ws
 |none=>e= .returned (.tuple #[.int .i64 0,.bool false])
theorem pA(hones:Bc)(tb g t total n a ng:Nat)(s:ByteArray)(T:List (Nat×Nat))(nds:List Nd)(ws:Aeh)(w:World)(h:Bg w tb s t g T (.slice (some ⟨ng,0,none⟩) n a) nds ws total)
  (hn:n=nds.length) (h0:0<n) (bq:n<=255) (bk:Sl nds) (bv: ∀j,(Ab nds j).siz<=total) (ht:total<=65535) (bZ:t<=8*s.size) (hs:s.size<=100000000):
  Calls prog 153 #[.pointer (some ⟨tb,0,none⟩)] w fun e w'=> ∃a3 aY,Qb (Qf (Al s.data.toList) t nds total ws) e a3 aY/\a3.length=n/\aY.length=256/\Bg w' tb s t g T (.slice (some ⟨ng,0,none⟩) n a) a3 aY total/\Aa (Tk tb (.slice (some ⟨ng,0,none⟩) n a)) w w':=by
 have bD:Aside _:=hones;obtain⟨f,hf⟩:=gx (Al s.data.toList);have ax: ∀(W:World) (p:Nat),Dh W tb 0 s t g->p<=8*s.size->Calls prog 126 #[.pointer (some ⟨tb,0,none⟩),.int .i64 p] W fun e w'=>e= .returned (.int .i64 (rk f p:Nat))/\w'=W:=fun W p hc hp=>by
  rw[hf];exact Jc bD.o tb 0 g t p s W hc hp hs
 rw[<-hf];have a0:Bg (w.setCell ⟨ng,2,none⟩ (.int .i64 total)) tb s t g T (.slice (some ⟨ng,0,none⟩) n a) (Ff nds 0 total) ws total:=by
  have:=h.setN rfl (0*9+2) _ (Pb nds 0 total) (Zt nds 0 total (by omega));simpa using this
 have bl:Aa (Tk tb (.slice (some ⟨ng,0,none⟩) n a)) w (w.setCell ⟨ng,2,none⟩ (.int .i64 total)):=(Aa.refl _ w).setCell (p:=⟨ng,2,none⟩) (.inr (.inr rfl)) _;have hno:=h.nod;rw[<-hn]at hno;have c1:=h.nodes;have c2:=h.tot;obtain⟨a4,aa⟩: ∃a4,w.cell? ⟨ng,2,none⟩=some a4:=by
  have:=Y3 hno hn (i:=0) (by omega);rw[show 0*9+2=2 from rfl]at this;exact⟨_,this⟩
 have bG:=hno.frozenAt 2;have ce:(0:Int)<(n:Int):=by omega
 have HH:Aside _:=aI a0 bl;have HO:Aside _:=ax;have HI:Aside _:=aI bk (aI bv (aI hn hf));have bE:=a0.nodes;have cf:ng≠tb:=fun e=>h.n1 (by rw[e];rfl);clear a0 bl hno ax bk bv hn h hf
 go_enter func153,ntmps153
 go_wp2_with fail
 go_region
 go_wp2_with fail;clear c1 c2 aa bG bE
 go_loopw[22,2] (fun vi vl wr=> ∃(i:Nat) (st:Bl),i<=n/\vi= .int .i64 i/\Ji f t nds total ws i=some st/\vl= .int .i64 st.len/\Bg wr tb s t g T (.slice (some ⟨ng,0,none⟩) n a) st.nds st.ws total/\Aa (Tk tb (.slice (some ⟨ng,0,none⟩) n a)) w wr) (fun vi _ _=>n-(intOf vi).toNat)
 case atStart=>exact⟨0,_,zZ _,rfl,rfl,rfl,HH.o.1.drew,HH.o.2.drew⟩
 case round=>
  clear HH;obtain⟨i,st,hi,rfl,U,rfl,hT,a6⟩:=hrel;have a7:=Lq U;have an:=HI.o.1.like a7.1;have a2:=dV HI.o.2.1 U;have bo:=Lc U;have d:n=st.nds.length:=by rw[a7.1.1];exact HI.o.2.2.1
  by_cases cd:i<n
  ·have v:i<st.nds.length:=by omega
   have hno:=hT.nod;rw[<-d]at hno;have c0:=hT.nodes;have c2:=Y3 hno d v;obtain⟨a4,aa⟩: ∃a4,wr.cell? ⟨ng,i*9+1,none⟩=some a4:=⟨_,Y2 hno d v⟩;have bH:=hno.frozenAt (i*9+1);have E:=hT.setN rfl (i*9+1) _ (Ha st.nds i st.len) (pV st.nds i st.len v);have G:Aa (Tk tb (.slice (some ⟨ng,0,none⟩) n a)) w (wr.setCell ⟨ng,i*9+1,none⟩ (.int .i64 st.len)):=a6.setCell (p:=⟨ng,i*9+1,none⟩) (.inr (.inr rfl)) _;have bJ:=a2 i;have ax:=Uy f st i;have N:=an i;obtain⟨z,hz⟩:=gx ((Ab st.nds i).siz);obtain⟨l,hl⟩:=gx st.len;have aT:Ke f st i=rk f (l+z)-rk f l:=by rw[hl,hz];rfl
   have B:=Kn f (Adz l z);have bt:=Sx f (l+z);obtain⟨q,hq⟩:=gx (Ke f st i);rw[<-hq]at aT ax;rw[<-hz]at c2 bJ ax;rw[<-hl]at E G bo;obtain⟨cc,bj⟩:=dT i n;have a1:Ji f t nds total ws (i+1)=Ik f t i st:=by rw[Ji,U];rfl
   have aC:Ik f t i st=if t<l+z then none else(Ef (Ab st.nds i).b0 (z-q) ⟨l+z,E1 st.nds i l,st.ws⟩).bind (Ef (Ab st.nds i).b1 q):=by
    rw[hz,hl,hq];rfl
   have au:=Xo tb 0 t (wr.setCell ⟨ng,i*9+1,none⟩ (.int .i64 l)) E.counted.len;have V:(wr.setCell ⟨ng,i*9+1,none⟩ (.int .i64 l)).cell? ⟨ng,i*9+1,none⟩=some (.int .i64 l):=World.cell?_setCell_same _ _ _ aa;have Y:(wr.setCell ⟨ng,i*9+1,none⟩ (.int .i64 l)).cell? ⟨ng,i*9+2,none⟩=some (.int .i64 z):=by
    rw[Aci _ _ _ _ (by intro e';simp only[Addr.mk.injEq]at e';omega)];exact c2
   have HS:=aZ (aI E (aI G (aI (a1.trans aC) (aI v (aI d (aI aT B))))));have HZ:=aZ hz;rw[<-hl];clear hz hl hq a1 aC E G hT a6 hno U a7 an a2 aT B d v;go_wp2_with fail;refine au.mono ?_;rintro e w2 ⟨rfl,rfl⟩;clear au aa bH c0 c2
   by_cases aB:t<l+z
   ·have hd:decide ((l:Int)+(z:Int)>(t:Int))=true:=zJ (by omega);have bF:(t:Int)<(l:Int)+(z:Int):=by omega
    obtain⟨E,G,m,v,d,_⟩:=HS.o;have HL:=aZ d;have HN:Aside (Qf f t nds total ws=none):=by
     rw[if_pos aB]at m;have:=P3 m n (by omega);rw[HI.o.2.2.1]at this;exact this
    have F:Aside _:=aI E G;clear E G m d v HS V Y;go_wp2;go_ret2;refine⟨_,_,?_,?_,F.o.1.wl,F.o.1,F.o.2⟩
    ·unfold Qb;rw[HN.o];rfl
    ·rw[Ha];exact HL.o.symm
   ·have hd:decide ((l:Int)+(z:Int)>(t:Int))=false:=zM (by omega);have bF: ¬(t:Int)<(l:Int)+(z:Int):=by omega
    generalize wr.setCell ⟨ng,i*9+1,none⟩ (.int .i64 l)=W at*;have u:=HS.o.1.counted;have aP: ∀k,Calls prog 126 #[.pointer (some ⟨tb,0,none⟩),.int .i64 ((l:Int)+(z:Int))] (W.drewN k) fun e w'=>e= .returned (.int .i64 (rk f (l+z):Nat))/\w'=W.drewN k:=fun k=>by
     have:=HO.o (W.drewN k) (l+z) ⟨u.str,u.len,u.cnt,u.row⟩ (by omega);rwa[show((l+z:Nat):Int)=(l:Int)+(z:Int)from by omega]at this
    have aQ: ∀k,Calls prog 126 #[.pointer (some ⟨tb,0,none⟩),.int .i64 l] (W.drewN k) fun e w'=>e= .returned (.int .i64 (rk f l:Nat))/\w'=W.drewN k:=fun k=>
     HO.o (W.drewN k) l ⟨u.str,u.len,u.cnt,u.row⟩ (by omega)
    obtain⟨E,G,m,v,d,aU,B⟩:=HS.o;rw[if_neg aB]at m;obtain⟨r1,br⟩: ∃r,r=rk f (l+z):=⟨_,rfl⟩;obtain⟨r2,bs⟩: ∃r,r=rk f l:=⟨_,rfl⟩;rw[<-br]at aP aU B bt;rw[<-bs]at aQ aU B;have zq:(r1:Int)-(r2:Int)=(q:Int):=by omega
    have cj:IntKind.i64.wrap ((r1:Int)-(r2:Int))=(q:Int):=by rw[Aar];omega
    have H1:Aside _:=aI E (aI G (aI m (aI v d)));clear E G m v d br bs aU B HS u;go_wp2_with fail;go_quiet(first|(go_at_call_of 126 (Value.int .i64 ((l:Int)+(z:Int)));refine Abc (aP _))|(go_at_call_of 126 (Value.int .i64 (l:Int));refine Abc (aQ _)));go_wp2_with fail;have u:=H1.o.1.drewN nq;have ao:=H1.o.2.1.drewN nq;obtain⟨_,_,m,v,d⟩:=H1.o;clear aP aQ H1 V Y;generalize W.drewN nq=W2 at*;have Z:=Qg st.nds i l;have av:=Z.2 i;obtain⟨b0,ab⟩: ∃b,b=(Ab st.nds i).b0:=⟨_,rfl⟩;obtain⟨b1,ac⟩: ∃b,b=(Ab st.nds i).b1:=⟨_,rfl⟩;have e0:(Ab (E1 st.nds i l) i).b0=b0:=by rw[ab];exact av.2.2.1
    have e1:(Ab (E1 st.nds i l) i).b1=b1:=by rw[ac];exact av.2.2.2
    have e2:(Ab (E1 st.nds i l) i).siz=(Ab st.nds i).siz:=by rw[Ou _ _ _ _ v];split<;>rfl
    rw[<-ab,<-ac]at m;rw[<-ab,<-ac,<-d]at N;have P:n=(E1 st.nds i l).length:=by rw[Ha];exact d
    obtain⟨A,H⟩: ∃x,x=E1 st.nds i l:=⟨_,rfl⟩;rw[<-H]at u e0 e1 e2 P m;have am:i<A.length:=by omega
    have e3:(Ab A i).siz=z:=by rw[e2];exact HZ.o.symm
    have cells: ∀X (nn:List Nd) (xs:Aeh),Bg X tb s t g T (.slice (some ⟨ng,0,none⟩) n a) nn xs total->n=nn.length->(Ab nn i).b0=b0->(Ab nn i).b1=b1->(Ab nn i).siz=z->X.cell? ⟨ng,i*9+2,none⟩=some (.int .i64 z)/\X.cell? ⟨ng,i*9+3,none⟩=some (.bool b0.whole)/\X.cell? ⟨ng,i*9+3+1,none⟩=some (.int .u8 b0.val.toNat)/\X.cell? ⟨ng,i*9+3+2,none⟩=some (.int .i64 b0.node)/\X.cell? ⟨ng,i*9+6,none⟩=some (.bool b1.whole)/\X.cell? ⟨ng,i*9+6+1,none⟩=some (.int .u8 b1.val.toNat)/\X.cell? ⟨ng,i*9+6+2,none⟩=some (.int .i64 b1.node):=by
     intro X nn xs hX bn q0 q1 q2;have hx:=hX.nod;rw[<-bn]at hx;have:=fun j hj=>It hx bn (i:=i) (by omega) j hj;refine⟨(this 2 (by omega)).trans ?_,(this 3 (by omega)).trans ?_,(this 4 (by omega)).trans ?_,(this 5 (by omega)).trans ?_,(this 6 (by omega)).trans ?_,(this 7 (by omega)).trans ?_,(this 8 (by omega)).trans ?_⟩
     ·show some (Value.int .i64 ((Ab nn i).siz:Nat))=_;rw[q2]
     ·show some (Value.bool (Ab nn i).b0.whole)=_;rw[q0]
     ·show some (Value.int .u8 ((Ab nn i).b0.val.toNat:Nat))=_;rw[q0]
     ·show some (Value.int .i64 ((Ab nn i).b0.node:Nat))=_;rw[q0]
     ·show some (Value.bool (Ab nn i).b1.whole)=_;rw[q1]
     ·show some (Value.int .u8 ((Ab nn i).b1.val.toNat:Nat))=_;rw[q1]
     ·show some (Value.int .i64 ((Ab nn i).b1.node:Nat))=_;rw[q1]
    obtain⟨ad,d0,d1,d2,d3,d4,d5⟩:=cells W2 A st.ws u P e0 e1 e3;obtain⟨z0,aA⟩:=gx (z-q);have zz:(z:Int)-(q:Int)=(z0:Int):=by omega
    have ck:IntKind.i64.wrap (z0:Int)=(z0:Int):=by rw[Aar];omega
    rw[<-aA]at m;have aD:=eJ tb g t total z0 (l+z) n a ng s T A st.ws b0 W2.drew u.drew P bq N.1 (by omega);have y:Calls prog 183 #[.pointer (some ⟨tb,0,none⟩),.agg #[.bool b0.whole,.int .u8 b0.val.toNat,.int .i64 b0.node],.int .i64 z0] W2.drew _:=aD;clear aD;have L:Aside _:=cells;cases hR:Ef b0 z0 ⟨l+z,A,st.ws⟩with
    |none=>
     rw[hR]at y m;have HN:Aside (Qf f t nds total ws=none):=by
      have:=P3 m n (by omega);rw[HI.o.2.2.1]at this;exact this
     have bu:Calls prog 183 #[.pointer (some ⟨tb,0,none⟩),.agg #[.bool b0.whole,.int .u8 b0.val.toNat,.int .i64 b0.node],.int .i64 z0] W2.drew fun e w'=>e= .returned (.bool false)/\Bg w' tb s t g T (.slice (some ⟨ng,0,none⟩) n a) A st.ws total/\Aa (Tk tb (.slice (some ⟨ng,0,none⟩) n a)) W2.drew w':=y;have C:Aside _:=aI ao (aI P (aI e0 (aI e1 e3)));clear y ao P m u cells e0 e1 e2 e3 ab ac av Z H v d hR aA am;obtain⟨aj,ai,ah⟩:=b0;refine Aca (S:=fun X=>X.cell? ⟨ng,i*9+2,none⟩=some (.int .i64 z)/\X.cell? ⟨ng,i*9+3,none⟩=some (.bool aj)/\X.cell? ⟨ng,i*9+3+1,none⟩=some (.int .u8 ai.toNat)/\X.cell? ⟨ng,i*9+3+2,none⟩=some (.int .i64 ah)) (by kernel_rfl) ?_ (fun hHeld=>?_)
     ·exact⟨ad,d0,d1,d2⟩
     refine tW 0 ⟨some 62,.move (.tmp 0),153,"tree.go:109",#[],none⟩ _ ?_
     refine tW 1 ⟨some 63,.move (.tmp 5),255,"tree.go:109",#[],none⟩ _ ?_
     refine tW 2 ⟨some 64,.nilCheck (.tmp 63),0,"tree.go:109",#[⟨1,.data⟩],none⟩ _ ?_
     refine tW 3 ⟨some 65,.fieldAddr 195 (.tmp 64) 3,0,"tree.go:109",#[⟨2,.data⟩],none⟩ _ ?_
     refine tW 4 ⟨some 66,.indexAddr 193 (.tmp 65) (.const (.int .i64 0)),0,"tree.go:109",#[⟨3,.data⟩],none⟩ _ ?_
     refine tW 5 ⟨some 67,.load 192 (.tmp 66),192,"tree.go:109",#[⟨4,.data⟩],none⟩ _ ?_
     refine tW 6 ⟨some 68,.move (.tmp 5),255,"tree.go:109",#[],none⟩ _ ?_
     refine tW 7 ⟨some 69,.nilCheck (.tmp 68),0,"tree.go:109",#[⟨6,.data⟩],none⟩ _ ?_
     refine tW 8 ⟨some 70,.fieldAddr 195 (.tmp 69) 2,0,"tree.go:109",#[⟨7,.data⟩],none⟩ _ ?_
     refine tW 9 ⟨some 71,.load 3 (.tmp 70),3,"tree.go:109",#[⟨8,.data⟩],none⟩ _ ?_
     refine tW 10 ⟨some 72,.move (.tmp 6),3,"tree.go:109",#[],none⟩ _ ?_
     refine tW 11 ⟨some 73,.binOp .sub 3 (.tmp 71) (.tmp 72) 3,3,"tree.go:109",#[⟨9,.data⟩,⟨10,.data⟩],none⟩ _ ?_
     refine Aaq (rs:=[12]) (by kernel_rfl) (by simp) ?_;refine Aad rfl (fun K hK=>?_) Aal;go_simp;refine bu.mono ?_;rintro e w1 ⟨rfl,D,O⟩;obtain⟨k0,k1,k2,k3,k4,k5,k6⟩:=L.o w1 A st.ws D C.o.2.1 C.o.2.2.1 C.o.2.2.2.1 C.o.2.2.2.2;clear hHeld;refine hK.o _ _ ⟨k0,k1,k2,k3⟩ (fun hHeld=>?_);clear hK K
     refine tW 13 ⟨some 75,.unOp .not 4 (.tmp 74),4,"tree.go:109",#[⟨12,.data⟩],none⟩ _ ?_
     refine tW 14 ⟨some 76,.move (.tmp 75),4,"tree.go:109",#[⟨13,.data⟩,⟨12,.chain⟩],none⟩ _ ?_
     refine tU 15 ⟨some 77,.move (.tmp 0),153,"tree.go:109",#[⟨14,.guard⟩],some (14,false)⟩ ?_
     simp only[Act.put,zO,zW,z5]
     refine tU 16 ⟨some 78,.move (.tmp 5),255,"tree.go:109",#[⟨14,.guard⟩],some (14,false)⟩ ?_
     simp only[Act.put,zO,zW,z5]
     refine tU 17 ⟨some 79,.nilCheck (.tmp 78),0,"tree.go:109",#[⟨16,.data⟩,⟨14,.guard⟩],some (14,false)⟩ ?_
     simp only[Act.put,zO,zW,z5]
     refine tU 18 ⟨some 80,.fieldAddr 195 (.tmp 79) 3,0,"tree.go:109",#[⟨17,.data⟩,⟨14,.guard⟩],some (14,false)⟩ ?_
     simp only[Act.put,zO,zW,z5]
     refine tU 19 ⟨some 81,.indexAddr 193 (.tmp 80) (.const (.int .i64 1)),0,"tree.go:109",#[⟨18,.data⟩,⟨14,.guard⟩],some (14,false)⟩ ?_
     simp only[Act.put,zO,zW,z5]
     refine tU 20 ⟨some 82,.load 192 (.tmp 81),192,"tree.go:109",#[⟨19,.data⟩,⟨14,.guard⟩],some (14,false)⟩ ?_
     simp only[Act.put,zO,zW,z5]
     refine tU 21 ⟨some 83,.move (.tmp 6),3,"tree.go:109",#[⟨14,.guard⟩],some (14,false)⟩ ?_
     simp only[Act.put,zO,zW,z5]
     refine tU 22 ⟨some 84,.call ⟨.value (.func 183),#[.tmp 77,.tmp 82,.tmp 83],#[153,192,3]⟩,4,"tree.go:109",#[⟨15,.data⟩,⟨20,.data⟩,⟨21,.data⟩,⟨14,.chain⟩,⟨14,.guard⟩],some (14,false)⟩ ?_
     simp only[Act.put,zO,zW,z5]
     refine tU 23 ⟨some 85,.unOp .not 4 (.tmp 84),4,"tree.go:109",#[⟨22,.data⟩,⟨14,.guard⟩],some (14,false)⟩ ?_
     simp only[Act.put,zO,zW,z5]
     refine tW 24 ⟨some 86,.pick (.tmp 76) (.const (.bool true)) (.tmp 85),4,"tree.go:109",#[⟨14,.data⟩,⟨23,.data⟩],none⟩ _ ?_
     refine Ach (by kernel_rfl) ?_ _;have F:Aside _:=aI D (aI (C.o.1.drew.tr O) C.o.2.1);clear D O k0 k1 k2 k3 k4 k5 k6 C L bu hHeld ad d0 d1 d2 d3 d4 d5;go_wp2;go_ret2;refine⟨A,st.ws,?_,F.o.2.2.symm,F.o.1.wl,F.o.1,F.o.2.1⟩;unfold Qb;rw[HN.o];rfl
    |some s1=>
     rw[hR]at y m;have Q:Ji f t nds total ws (i+1)=Ef b1 q s1:=m;have aq:=Jb hR;have aw:n=s1.nds.length:=by rw[aq.1.1];exact P
     have ak:=Lr hR;have ay:Ab s1.nds i=Ab A i:=by
      refine ak.other i ?_;rcases N.2.2.1 with c|c
      ·exact .inr (.inr c)
      ·exact .inr (.inl (by omega))
     have f0:(Ab s1.nds i).b0=b0:=by rw[ay];exact e0
     have f1:(Ab s1.nds i).b1=b1:=by rw[ay];exact e1
     have f3:(Ab s1.nds i).siz=z:=by rw[ay];exact e3
     have a8:Calls prog 183 #[.pointer (some ⟨tb,0,none⟩),.agg #[.bool b0.whole,.int .u8 b0.val.toNat,.int .i64 b0.node],.int .i64 z0] W2.drew fun e w'=>e= .returned (.bool true)/\Bg w' tb s t g T (.slice (some ⟨ng,0,none⟩) n a) s1.nds s1.ws total/\Aa (Tk tb (.slice (some ⟨ng,0,none⟩) n a)) W2.drew w':=y;have a9:=fun(X:World) (hX:Bg X tb s t g T (.slice (some ⟨ng,0,none⟩) n a) s1.nds s1.ws total)=>eJ tb g t total q s1.len n a ng s T s1.nds s1.ws b1 X hX aw bq N.2.1 (by omega);have bU:=aZ aq.2.1;have C:Aside _:=aI ao (aI aw (aI f0 (aI f1 f3)));cases M:Ef b1 q s1 with
     |none=>
      have az: ∀(X:World),Bg X tb s t g T (.slice (some ⟨ng,0,none⟩) n a) s1.nds s1.ws total->Calls prog 183 #[.pointer (some ⟨tb,0,none⟩),.agg #[.bool b1.whole,.int .u8 b1.val.toNat,.int .i64 b1.node],.int .i64 q] X fun e w'=>e= .returned (.bool false)/\Bg w' tb s t g T (.slice (some ⟨ng,0,none⟩) n a) s1.nds s1.ws total/\Aa (Tk tb (.slice (some ⟨ng,0,none⟩) n a)) X w':=fun X hX=>by
       have:=a9 X hX;rw[show(⟨s1.len,s1.nds,s1.ws⟩:Bl)=s1 from rfl,M]at this;exact this
      have HN:Aside (Qf f t nds total ws=none):=by
       rw[M]at Q;have:=P3 Q n (by omega);rw[HI.o.2.2.1]at this;exact this
      have ag:Aside _:=az;clear y ao P m Q u cells e0 e1 e2 e3 ab ac av Z H v d hR aA am a9 az aq aw ak ay f0 f1 f3 M;obtain⟨aj,ai,ah⟩:=b0;obtain⟨aM,aL,aK⟩:=b1
      go_region_held(fun X=>X.cell? ⟨ng,i*9+2,none⟩=some (.int .i64 z)/\X.cell? ⟨ng,i*9+3,none⟩=some (.bool aj)/\X.cell? ⟨ng,i*9+3+1,none⟩=some (.int .u8 ai.toNat)/\X.cell? ⟨ng,i*9+3+2,none⟩=some (.int .i64 ah)/\X.cell? ⟨ng,i*9+3+3,none⟩=some (.bool aM)/\X.cell? ⟨ng,i*9+3+3+1,none⟩=some (.int .u8 aL.toNat)/\X.cell? ⟨ng,i*9+3+3+2,none⟩=some (.int .i64 aK)) (first|exact⟨ad,d0,d1,d2,d3,d4,d5⟩|exact⟨k0,k1,k2,k3,k4,k5,k6⟩|exact⟨m0,m1,m2,m3,m4,m5,m6⟩)
       (first
       |(go_at_call_of 183 (Value.int .i64 (z0:Int));refine a8.mono ?_;rintro e w1 ⟨rfl,D,O⟩;obtain⟨k0,k1,k2,k3,k4,k5,k6⟩:=L.o w1 s1.nds s1.ws D C.o.2.1 C.o.2.2.1 C.o.2.2.2.1 C.o.2.2.2.2)
       |(go_at_call_of 183 (Value.int .i64 (q:Int));refine(ag.o _ D).mono ?_;rintro e w2 ⟨rfl,R,ap⟩;obtain⟨m0,m1,m2,m3,m4,m5,m6⟩:=L.o w2 s1.nds s1.ws R C.o.2.1 C.o.2.2.1 C.o.2.2.2.1 C.o.2.2.2.2))
      have F:Aside _:=aI R (aI ((C.o.1.drew.tr O).tr ap) C.o.2.1);clear D R O ap k0 k1 k2 k3 k4 k5 k6 m0 m1 m2 m3 m4 m5 m6 C L a8 ag ad d0 d1 d2 d3 d4 d5;go_wp2;go_ret2;refine⟨s1.nds,s1.ws,?_,F.o.2.2.symm,F.o.1.wl,F.o.1,F.o.2.1⟩;unfold Qb;rw[HN.o];rfl
     |some s2=>
      have ar:=Jb M;have al:=Lr M;have bp:n=s2.nds.length:=by rw[ar.1.1];exact aw
      have g0:(Ab s2.nds i).b0=b0:=by rw[(ar.1.2 i).2.2.1];exact f0
      have g1:(Ab s2.nds i).b1=b1:=by rw[(ar.1.2 i).2.2.2];exact f1
      have g3:(Ab s2.nds i).siz=z:=by
       rw[al.other i ?_]
       ·exact f3
       ·rcases N.2.2.2 with c|c
        ·exact .inr (.inr c)
        ·exact .inr (.inl (by omega))
      have az: ∀(X:World),Bg X tb s t g T (.slice (some ⟨ng,0,none⟩) n a) s1.nds s1.ws total->Calls prog 183 #[.pointer (some ⟨tb,0,none⟩),.agg #[.bool b1.whole,.int .u8 b1.val.toNat,.int .i64 b1.node],.int .i64 q] X fun e w'=>e= .returned (.bool true)/\Bg w' tb s t g T (.slice (some ⟨ng,0,none⟩) n a) s2.nds s2.ws total/\Aa (Tk tb (.slice (some ⟨ng,0,none⟩) n a)) X w':=fun X hX=>by
       have:=a9 X hX;rw[show(⟨s1.len,s1.nds,s1.ws⟩:Bl)=s1 from rfl,M]at this;exact this
      have HN:Aside (Ji f t nds total ws (i+1)=some s2/\s2.len=l+z):=⟨by rw[Q,M],ar.2.1.trans aq.2.1⟩;have H4:Aside _:=aI bp (aI g0 (aI g1 g3));have ag:Aside _:=az;clear y ao P m Q u cells e0 e1 e2 e3 ab ac av Z H v d hR aA am a9 az aq aw ak ay f0 f1 f3 M ar al bp g0 g1 g3;obtain⟨aj,ai,ah⟩:=b0;obtain⟨aM,aL,aK⟩:=b1
      go_region_held(fun X=>X.cell? ⟨ng,i*9+2,none⟩=some (.int .i64 z)/\X.cell? ⟨ng,i*9+3,none⟩=some (.bool aj)/\X.cell? ⟨ng,i*9+3+1,none⟩=some (.int .u8 ai.toNat)/\X.cell? ⟨ng,i*9+3+2,none⟩=some (.int .i64 ah)/\X.cell? ⟨ng,i*9+3+3,none⟩=some (.bool aM)/\X.cell? ⟨ng,i*9+3+3+1,none⟩=some (.int .u8 aL.toNat)/\X.cell? ⟨ng,i*9+3+3+2,none⟩=some (.int .i64 aK)) (first|exact⟨ad,d0,d1,d2,d3,d4,d5⟩|exact⟨k0,k1,k2,k3,k4,k5,k6⟩|exact⟨m0,m1,m2,m3,m4,m5,m6⟩)
       (first
       |(go_at_call_of 183 (Value.int .i64 (z0:Int));refine a8.mono ?_;rintro e w1 ⟨rfl,D,O⟩;obtain⟨k0,k1,k2,k3,k4,k5,k6⟩:=L.o w1 s1.nds s1.ws D C.o.2.1 C.o.2.2.1 C.o.2.2.2.1 C.o.2.2.2.2)
       |(go_at_call_of 183 (Value.int .i64 (q:Int));refine(ag.o _ D).mono ?_;rintro e w2 ⟨rfl,R,ap⟩;obtain⟨m0,m1,m2,m3,m4,m5,m6⟩:=L.o w2 s2.nds s2.ws R H4.o.1 H4.o.2.1 H4.o.2.2.1 H4.o.2.2.2))
      have F:Aside _:=aI R ((C.o.1.drew.tr O).tr ap);clear D R O ap k0 k1 k2 k3 k4 k5 k6 m0 m1 m2 m3 m4 m5 m6 C H4 L a8 ag ad d0 d1 d2 d3 d4 d5;go_wp2;go_roundw
      case rel=>exact⟨i+1,s2,by omega,by go_num,HN.o.1,by rw[HN.o.2];go_num,F.o.1,F.o.2⟩
      case measure=>simp[intOf];omega
  ·obtain rfl:i=n:=by omega
   have bj:=(dF i i).2;have HN:Aside (Qf f t nds total ws=some st/\i=st.nds.length):=by
    refine⟨?_,d⟩;unfold Qf;rw[<-HI.o.2.2.1];exact U
   have F:Aside _:=aI hT a6;clear hT a6 U a7 an a2 d;go_wp2;go_ret2;refine⟨st.nds,st.ws,?_,HN.o.2.symm,F.o.1.wl,F.o.1,F.o.2⟩;unfold Qb;rw[HN.o.1];exact⟨rfl,rfl,rfl⟩
namespace Hm
theorem Ki(ln:UInt8->Nat)(i s:Nat)(nds:List Nd)(b:UInt8)(r:Aeg):F6 ln i s nds (b::r)=if ln b=(Ab nds i).depth+1 then(Cc nds i s {whole:=true,val:=b},r)else(Cc nds i s {node:=nds.length}++[{depth:=(Ab nds i).depth+1,num:=2*(Ab nds i).num+s}],b::r):=rfl
theorem jW(ln:UInt8->Nat)(o:Aeg)(k s:Nat)(hs:s<2):Ao ln o (2*k+s+1)=F6 ln k s (Ao ln o (2*k+s)).1 (Ao ln o (2*k+s)).2:=by
 show F6 ln ((2*k+s)/2) ((2*k+s)%2) _ _=_;rw[show(2*k+s)/2=k from by omega,show(2*k+s)%2=s from by omega]
theorem jX(ln:UInt8->Nat)(i s:Nat)(nds:List Nd)(l:Aeg):nds.length<=(F6 ln i s nds l).1.length/\(F6 ln i s nds l).1.length<=nds.length+1:=by
 cases l with
 |nil=>exact⟨zK _,Nat.le_succ _⟩
 |cons b r=>
  rw[Ki];split
  ·show _<=(Cc nds i s _).length/\(Cc nds i s _).length<=_;rw[Ch];omega
  ·show _<=(Cc nds i s _++_).length/\(Cc nds i s _++_).length<=_;rw[zL,Ch];exact⟨Adz _ _,zK _⟩
theorem cL(ln:UInt8->Nat)(i s:Nat)(nds:List Nd)(l:Aeg)(hi:i<nds.length)(j:Nat)(a:j<nds.length):(Ab (F6 ln i s nds l).1 j).depth=(Ab nds j).depth:=by
 cases l with
 |nil=>rfl
 |cons b r=>
  rw[Ki];split
  ·exact F5 _ _ _ _ hi j
  ·show(Ab (Cc nds i s _++_) j).depth=_;rw[Lp _ _ _ (by rw[Ch];exact a),F5 _ _ _ _ hi]
theorem Ud(ln:UInt8->Nat)(o:Aeg): ∀t j,(Ab (Ao ln o t).1 j).depth<=t
 |0,j=>by
  show(Ab [{}] j).depth<=0;cases j<;>exact zK _
 |t+1,j=>by
  have a:=Ud ln o t;show(Ab (F6 ln (t/2) (t%2) (Ao ln o t).1 (Ao ln o t).2).1 j).depth<=t+1;generalize(Ao ln o t).1=nds at*;generalize(Ao ln o t).2=l at*;have pb: ∀b j,(Ab (Cc nds (t/2) (t%2) b) j).depth<=t:=fun b j=>by
   by_cases hi:t/2<nds.length
   ·rw[F5 _ _ _ _ hi];exact a j
   ·unfold Cc;rw[Ado (by omega)];exact a j
  cases l with
  |nil=>exact Nat.le_succ_of_le (a j)
  |cons b r=>
   rw[Ki];split
   ·exact Nat.le_succ_of_le (pb _ j)
   ·show(Ab (Cc nds (t/2) (t%2) _++[_]) j).depth<=t+1;rcases Aa7 j (Cc nds (t/2) (t%2) {node:=nds.length}).length with c|c|c
    ·rw[Lp _ _ _ c];exact Nat.le_succ_of_le (pb _ j)
    ·rw[c,M8];exact Nat.succ_le_succ (a _)
    ·unfold Ab;rw[zG,Aam (by rw[zL];exact c)];exact zZ _
end Hm
def Wz(o:Aeg)(g b:Nat)(v:Value)(p:Nat):Prop:= ∃a c,v= .slice a (o.length-p) c/\(p<o.length->a=some ⟨g,p,none⟩/\c=b-p)
theorem eK(M:Nat)(L:Aeh)(N:Nat)(w:World)(hL:L.length=256)(hx: ∀x∈L,x<=255)(hE:Hm.Ends M (lnB L) (Af L) N)
  (aS: ∀W:World,Calls prog 181 #[.agg (Ad L).toArray] W fun e w'=> ∃v,e= .returned v/\w'.ownsRow W.heap.size 5 1 v (Af L).length (Ag (Af L))/\Aee W w'):
  Calls prog 150 #[.agg (Ad L).toArray] w fun e w'=> ∃v,e= .returned v/\w'.ownsRow w.heap.size 195 9 v N (Bj (Ao (lnB L) (Af L) (2*N)).1)/\Aee w w':=by
 obtain⟨i0,hi,bq,br,bs⟩:=Aa6 tE;have aB:(Ad L).toArray.size=256:=by rw[Ba,hL]
 have T:(w.alloc (.cells (Ad L).toArray 139)).heap[w.heap.size]?=some (.cells (Ad L).toArray 139 (0,0)):=zY w _;have V: ∀W:World,W.heap[w.heap.size]?=some (.cells (Ad L).toArray 139 (0,0))-> ∀b:UInt8,W.cell? ⟨w.heap.size,b.toNat,none⟩=some (.int .i64 (lnB L b:Nat)):=by
  intro W hW b;have hb:=b.toNat_lt;rw[zP _ _ b.toNat _ _ _ hW];simp[Ad,lnB,List.getD_eq_getElem?_getD,List.getElem?_eq_getElem (show b.toNat<L.length from by omega)]
 have aU: ∀b:UInt8,lnB L b<=255:=fun b=>by
  have hb:=b.toNat_lt;rw[lnB,zG,zH (show b.toNat<L.length from by omega)];exact hx _ (z6 _)
 have aq:=aS (w.alloc (.cells (Ad L).toArray 139));have HC:Aside _:=V;have HE:Aside _:=hE;have be:Aside _:=aU;have hN:N<=255:=by have h1:=hE.len;have h2:=hE.few (2*N) (zK _);omega
 clear V hE aU aS;generalize(Ad L).toArray=arr at*
 go_enter func150,ntmps150
 go_wp2_with(first
  |(refine Aa0 rfl 139 _ rfl w.heap.size rfl 139 arr (0,0) _ T underlying139 rfl (by rw[aB];exact Ci) ?_))
 refine aq.mono ?_;rintro e w2 ⟨v,rfl,ho,ax⟩;have U:=ax.row T id;have am:Aee w w2:=((Aa.refl (fun _=>False) w).alloc _).tr ax;have bC:w.heap.size<w2.heap.size:=Aac U;clear aq T;generalize hO:Af L=o at*;obtain⟨g,P,hv⟩: ∃g P,Wz o g P v 0/\(0<o.length->v= .slice (some ⟨g,0,none⟩) o.length P/\o.length<=P):=by
  by_cases h0:0<o.length
  ·obtain⟨g,a5,hv,A,_⟩:=Co ho h0;exact⟨g,a5,⟨some ⟨g,0,none⟩,a5,hv,fun _=>⟨rfl,rfl⟩⟩,fun _=>⟨hv,A⟩⟩
  ·obtain⟨ao,c,hv,_⟩:=An ho;exact⟨0,0,⟨ao,c,hv,fun h=>by omega⟩,fun h=>by omega⟩
 obtain⟨ao,c,a1,_⟩:=An ho;have HV:Aside (Wz o g P v 0/\(0<o.length->v= .slice (some ⟨g,0,none⟩) o.length P/\o.length<=P)/\w2.ownsRow (w.alloc (.cells arr 139)).heap.size 5 1 v o.length (Ag o)):=⟨hv.1,hv.2,ho⟩;rw[a1];rw[a1]at HV;clear ho hv a1;have a3:Aside (w2.heap[w.heap.size]?=some (.cells arr 139 (0,0))/\Aee w w2):=⟨U,am⟩;clear U am ax;obtain⟨B,hB⟩:=gx w2.heap.size;have aJ:0<o.length->g<B:=fun h=>by have h1:=(HV.o.2.1 h).1;have h2:=HV.o.2.2;rw[h1]at h2;have:=h2.lt g rfl;omega
 have HB:Aside (B=w2.heap.size):=hB;have ar:(w2.alloc (.cells (Cw {}).toArray 195)).ownsRow B 195 9 (.slice (some ⟨w2.heap.size,0,none⟩) 1 1) 1 (Bj (Ao (lnB L) o (2*0)).1):=by
  have:=World.ownsRow_lit (e:=195) (base:=B) (size:=9) w2 (Cw {}).toArray 1 (by omega) (by unfold maxLen;omega) rfl;exact this
 have al:Aa (fun j=>B<=j) w2 (w2.alloc (.cells (Cw {}).toArray 195)):=(Aa.refl _ _).alloc _;have H0:Aside _:=aI ar al;clear ar al hB;go_wp2_with fail
 go_loopw[5,4,3] (fun vi nv lv wr=> ∃(k p n:Nat),k<=N/\vi= .int .i64 k/\n=(Ao (lnB L) o (2*k)).1.length/\wr.ownsRow B 195 9 nv n (Bj (Ao (lnB L) o (2*k)).1)/\p<=o.length/\(Ao (lnB L) o (2*k)).2=o.drop p/\Wz o g P lv p/\Aa (fun j=>B<=j) w2 wr) (fun vi _ _ _=>N-(intOf vi).toNat)
 case atStart=>exact⟨0,0,1,zZ _,rfl,rfl,H0.o.1,zZ _,rfl,HV.o.1,H0.o.2⟩
 case round=>
  clear H0;obtain⟨k,p,n,hk,rfl,hn,r,hp,E,Y,i⟩:=hrel
  by_cases bj:k<N
  ·have G:=HE.o.more k bj;obtain⟨ng,nc,H,A,ap⟩:=Co r (by omega);subst H;obtain⟨la,lc,t,a⟩:=Y;subst t;have hd:=pW r hn G;have aF:=Ud (lnB L) o (2*k) k;obtain⟨d,l⟩:=gx ((Ab (Ao (lnB L) o (2*k)).1 k).depth);rw[<-l]at hd aF;obtain⟨aL,ak⟩:=dT k n;have HS:Aside (n=(Ao (lnB L) o (2*k)).1.length/\wr.ownsRow B 195 9 (.slice (some ⟨ng,0,none⟩) n nc) n (Bj (Ao (lnB L) o (2*k)).1)/\p<=o.length/\(Ao (lnB L) o (2*k)).2=o.drop p/\Wz o g P (.slice la (o.length-p) lc) p/\Aa (fun j=>B<=j) w2 wr/\d=(Ab (Ao (lnB L) o (2*k)).1 k).depth/\k<(Ao (lnB L) o (2*k)).1.length):=⟨hn,r,hp,E,⟨la,lc,rfl,a⟩,i,l,G⟩;clear hn r hp E a i l G A;go_wp2_with fail
   go_loopw[24,4,3] (fun vs nv lv wr=> ∃(s p n:Nat),s<=2/\vs= .int .i64 s/\n=(Ao (lnB L) o (2*k+s)).1.length/\wr.ownsRow B 195 9 nv n (Bj (Ao (lnB L) o (2*k+s)).1)/\p<=o.length/\(Ao (lnB L) o (2*k+s)).2=o.drop p/\Wz o g P lv p/\Aa (fun j=>B<=j) w2 wr/\d=(Ab (Ao (lnB L) o (2*k+s)).1 k).depth/\k<(Ao (lnB L) o (2*k+s)).1.length) (fun vs _ _ _=>2-(intOf vs).toNat)
   case atStart=>
    obtain⟨q1,q2,q3,q4,q5,q6,q7,q8⟩:=HS.o;exact⟨0,p,n,by omega,rfl,q1,q2,q3,q4,q5,q6,q7,q8⟩
   case round=>
    clear HS hd aL ak;obtain⟨s,p,n,hs,rfl,hn,r,hp,E,Y,i,l,f⟩:=hrel;obtain⟨y,rfl⟩: ∃X,X=wr:=⟨_,rfl⟩
    by_cases a0:s<2
    ·have F:=jW (lnB L) o k s a0;have aG:=HE.o.few (2*k+s) (by omega);have C:=jX (lnB L) k s (Ao (lnB L) o (2*k+s)).1 (Ao (lnB L) o (2*k+s)).2;have q:=cL (lnB L) k s (Ao (lnB L) o (2*k+s)).1 (Ao (lnB L) o (2*k+s)).2 f k f;rw[<-l]at q;rw[E]at F C q;obtain⟨nds,an⟩:=gx ((Ao (lnB L) o (2*k+s)).1);rw[<-an]at F aG C q hn r l f;obtain⟨la,lc,t,a⟩:=Y;subst t;obtain⟨ng,nc,H,A,ap⟩:=Co r (by omega);subst H;have Q:B<=ng:=(r.lt ng rfl).1;have bo:decide ((s:Int)<2)=true:=zJ (by omega);clear an E
     by_cases ai:p<o.length
     ·obtain⟨bi,af⟩:=a ai;subst bi;obtain⟨m,hm⟩:=gx (o.length-p);obtain⟨b,hb⟩:=gx (o.getD p 0);rw[Ns o p ai,<-hb]at F C q;rw[Ki]at F C q;have ag:=HV.o.2.1 (by omega);have aj:=ag.2;have ah:=HV.o.2.2;rw[ag.1]at ah;have Z:=i.owns ah (fun j hj=>by have e:g=j:=Aak hj;have:=aJ (by omega);omega);have aE:y.cell? ⟨g,p,none⟩=some (.int .u8 b.toNat):=by
       rw[Z.cellAt p (by omega),hb];simp[Ag,ai]
      have ae:=HC.o y (i.row a3.o.1 (by have:=HB.o;omega)) b;have aM:=be.o b;have aC:=b.toNat_lt;have b2:g≠ng:=by have:=aJ (by omega);omega
      have b1:w.heap.size≠ng:=by have:=HB.o;omega
      have bD:(0:Int)<(m:Int):=by omega
      have b3:((m:Int)==0)=false:=by rw[Aat];omega
      have bE:(1:Int)<=(m:Int):=by omega
      have aL:(k:Int)<(n:Int):=by omega
      obtain⟨x0,t0⟩: ∃x,y.cell? ⟨ng,k*9+3+s*3,none⟩=some x:=by
       have:=It r hn f (3+s*3) (by omega);rw[<-Abw]at this;exact⟨_,this.trans (zH (by show _<9;omega))⟩
      obtain⟨x1,t1⟩: ∃x,y.cell? ⟨ng,k*9+3+s*3+1,none⟩=some x:=by
       have:=It r hn f (3+s*3+1) (by omega);rw[<-Abw,<-Abw]at this;exact⟨_,this.trans (zH (by show _<9;omega))⟩
      obtain⟨x2,t2⟩: ∃x,y.cell? ⟨ng,k*9+3+s*3+2,none⟩=some x:=by
       have:=It r hn f (3+s*3+2) (by omega);rw[<-Abw,<-Abw]at this;exact⟨_,this.trans (zH (by show _<9;omega))⟩
      have f0:y.frozen? ⟨ng,k*9+3+s*3,none⟩=false:=r.frozenAt _;have f1:y.frozen? ⟨ng,k*9+3+s*3+1,none⟩=false:=r.frozenAt _;have f2:y.frozen? ⟨ng,k*9+3+s*3+2,none⟩=false:=r.frozenAt _;rw[<-hm]
      by_cases z:lnB L b=d+1
      ·rw[if_pos (by rw[<-l];exact z)]at F C q;have K:((lnB L b:Int)==(d:Int)+1)=true:=by rw[beq_iff_eq];omega
       have aa:=((((r.stored (k*9+3+s*3) (.bool true)).1).stored (k*9+3+s*3+1) (.int .u8 b.toNat)).1.stored (k*9+3+s*3+2) (.int .i64 0)).1;have R:=dZ nds k s f a0 {whole:=true,val:=b};have HR:Aside ((((y.setCell ⟨ng,k*9+3+s*3,none⟩ (.bool true)).setCell ⟨ng,k*9+3+s*3+1,none⟩ (.int .u8 b.toNat)).setCell ⟨ng,k*9+3+s*3+2,none⟩ (.int .i64 0)).ownsRow B 195 9 (.slice (some ⟨ng,0,none⟩) n nc) n (Bj (Cc nds k s {whole:=true,val:=b}))/\Aa (fun j=>B<=j) w2 (((y.setCell ⟨ng,k*9+3+s*3,none⟩ (.bool true)).setCell ⟨ng,k*9+3+s*3+1,none⟩ (.int .u8 b.toNat)).setCell ⟨ng,k*9+3+s*3+2,none⟩ (.int .i64 0))):=by
        refine⟨by rw[<-R];exact aa,?_⟩;exact((i.setCell (p:=⟨ng,_,none⟩) (.inr Q) _).setCell (p:=⟨ng,_,none⟩) (.inr Q) _).setCell (p:=⟨ng,_,none⟩) (.inr Q) _
       have HX:Aside (Ao (lnB L) o (2*k+s+1)=(Cc nds k s {whole:=true,val:=b},o.drop (p+1))/\(Ab (Cc nds k s {whole:=true,val:=b}) k).depth=d/\n=nds.length/\k<nds.length/\m=o.length-p/\lc=P-p):=⟨F,q,hn,f,hm,af⟩;have aN:(m:Int)<=(lc:Int):=by omega
       obtain⟨lb,D⟩:=gx (lnB L b);obtain⟨bn,S⟩:=gx b.toNat;rw[<-D]at K ae aM;rw[<-S]at ae aE aC HR;have aD:(bn:Int)<256:=by omega
       clear F C q hn r l f aa R a ah Z i hm hb z D S ag af aj A;go_wp2_with fail
       go_region
       go_wp2;go_roundw
       case rel=>
        obtain⟨e,ed,en,a7,em,a8⟩:=HX.o;have O:(Ao (lnB L) o (2*k+(s+1))).1=Cc nds k s {whole:=true,val:=b}:=by rw[<-Abw,e]
        have e2:(Ao (lnB L) o (2*k+(s+1))).2=o.drop (p+1):=by rw[<-Abw,e]
        refine⟨s+1,p+1,n,by omega,by go_num,by rw[O,Ch];exact en,by rw[O];exact HR.o.1,by omega,e2,⟨_,_,by rw[show m-1=o.length-(p+1)from by omega],fun h=>⟨if_neg (by have:=aN;omega),by omega⟩⟩,HR.o.2.drew,by rw[O,ed],by rw[O,Ch];exact a7⟩
       case measure=>simp[intOf];omega
      ·rw[if_neg (by rw[<-l];exact z)]at F C q;have K:((lnB L b:Int)==(d:Int)+1)=false:=by rw[Aat];omega
       have aa:=((((r.stored (k*9+3+s*3) (.bool false)).1).stored (k*9+3+s*3+1) (.int .u8 0)).1.stored (k*9+3+s*3+2) (.int .i64 n)).1;have R:=dZ nds k s f a0 {node:=nds.length};rw[<-hn]at R F q;have a9:Aa (fun j=>B<=j) w2 (((y.setCell ⟨ng,k*9+3+s*3,none⟩ (.bool false)).setCell ⟨ng,k*9+3+s*3+1,none⟩ (.int .u8 0)).setCell ⟨ng,k*9+3+s*3+2,none⟩ (.int .i64 n)):=
        ((i.setCell (p:=⟨ng,_,none⟩) (.inr Q) _).setCell (p:=⟨ng,_,none⟩) (.inr Q) _).setCell (p:=⟨ng,_,none⟩) (.inr Q) _
       have aA:(((y.setCell ⟨ng,k*9+3+s*3,none⟩ (.bool false)).setCell ⟨ng,k*9+3+s*3+1,none⟩ (.int .u8 0)).setCell ⟨ng,k*9+3+s*3+2,none⟩ (.int .i64 n)).ownsRow B 195 9 (.slice (some ⟨ng,0,none⟩) n nc) n (Bj (Cc nds k s {node:=n})):=by
        rw[<-R];exact aa
       rw[<-l]at F q;have HX:Aside (Ao (lnB L) o (2*k+s+1)=(Cc nds k s {node:=n}++[{depth:=d+1,num:=2*(Ab nds k).num+s}],b::o.drop (p+1))/\(Ab (Cc nds k s {node:=n}++[{depth:=d+1,num:=2*(Ab nds k).num+s}]) k).depth=d/\n=nds.length/\k<nds.length/\m=o.length-p/\b=o.getD p 0/\lc=P-p):=⟨F,q,hn,f,hm,hb,af⟩;have au:(((y.setCell ⟨ng,k*9+3+s*3,none⟩ (.bool false)).setCell ⟨ng,k*9+3+s*3+1,none⟩ (.int .u8 0)).setCell ⟨ng,k*9+3+s*3+2,none⟩ (.int .i64 n)).heap.size=y.heap.size:=by simp
       have HR:Aside _:=aI aA (aI a9 au);have bl:n<=255:=by omega
       obtain⟨lb,D⟩:=gx (lnB L b);obtain⟨bn,S⟩:=gx b.toNat;rw[<-D]at K ae aM;rw[<-S]at ae aE aC;have aD:(bn:Int)<256:=by omega
       clear F C q hn r l f aa R a ah Z i hm hb z D S ag af aj A aA a9 au
       go_wp2_with(at_builtin;refine Ay _ rfl (.tmp 36) (.tmp 39) 93 rfl B 195 i0 _ 9 56 underlying93 hi bq br bs rfl (by decide) _ n (Bj (Cc nds k s {node:=n})) rfl (by exact HR.o.1.alloc _) ⟨y.heap.size,0,none⟩ 1 1 (Cw {depth:=d+1}) rfl rfl ?c1 ?c2 ?c3 ?c4 ?c5 ?_)
       case c1=>
        intro j u hj;have aP:=zY (((y.setCell ⟨ng,k*9+3+s*3,none⟩ (.bool false)).setCell ⟨ng,k*9+3+s*3+1,none⟩ (.int .u8 0)).setCell ⟨ng,k*9+3+s*3+2,none⟩ (.int .i64 n)) (.cells (Cw {depth:=d+1}).toArray 195);rw[HR.o.2.2]at aP;rw[Addr.add_lit,Aao];exact(zP _ _ j _ _ _ aP).trans (by rw[Aag];exact hj)
       case c2=>exact fun u hu=>pT [{depth:=d+1}] u (by simpa[Bj]using hu)
       case c3=>unfold maxLen;omega
       case c4=>omega
       case c5=>have h1:=HR.o.1.lt ng rfl;simp only[World.alloc,Array.size_push];omega
       intro v4 w4 aR aH bk;have aK:Aa (fun j=>B<=j) w2 w4:=(HR.o.2.1.alloc _).grown aH (fun j hj=> .inr (by have e:ng=j:=Aak hj;omega));have ay:w4.ownsRow B 195 9 v4 (n+1) (Bj (Cc nds k s {node:=n}++[{depth:=d+1,num:=2*(Ab nds k).num+s}])):=by
        rw[Pc];exact aR
       obtain⟨a4,c4,bp,_⟩:=An ay;subst bp;have H4:Aside _:=aI ay aK;clear aR aH bk ay aK HR;go_wp2;go_roundw
       case rel=>
        obtain⟨e,ed,en,a7,em,eb,a8⟩:=HX.o;have O:(Ao (lnB L) o (2*k+(s+1))).1=Cc nds k s {node:=n}++[{depth:=d+1,num:=2*(Ab nds k).num+s}]:=by rw[<-Abw,e]
        have e2:(Ao (lnB L) o (2*k+(s+1))).2=o.drop p:=by rw[<-Abw,e,eb,<-Ns o p ai]
        refine⟨s+1,p,n+1,by omega,by go_num,by rw[O,zL,Ch,en];rfl,by rw[O];exact H4.o.1,by omega,e2,⟨_,_,by rw[em],fun h=>⟨rfl,a8⟩⟩,H4.o.2,by rw[O,ed],by rw[O,zL,Ch];omega⟩
       case measure=>simp[intOf];omega
     ·have aT:o.length-p=0:=by omega
      rw[Adh (by omega)]at F;have HX:Aside (Ao (lnB L) o (2*k+s+1)=(nds,[])/\n=nds.length/\y.ownsRow B 195 9 (.slice (some ⟨ng,0,none⟩) n nc) n (Bj nds)/\Aa (fun j=>B<=j) w2 y/\d=(Ab nds k).depth/\k<nds.length):=⟨F,hn,r,i,l,f⟩;rw[aT];clear F C q hn r l f a i A;go_wp2;go_roundw
      case rel=>
       obtain⟨e,q1,q2,q3,q4,q5⟩:=HX.o;have O:(Ao (lnB L) o (2*k+(s+1))).1=nds:=by rw[<-Abw,e]
       have e2:(Ao (lnB L) o (2*k+(s+1))).2=o.drop p:=by rw[<-Abw,e,Adh (by omega)]
       exact⟨s+1,p,n,by omega,by go_num,by rw[O];exact q1,by rw[O];exact q2,hp,e2,⟨la,lc,by rw[aT],fun h=>by omega⟩,q3,by rw[O];exact q4,by rw[O];exact q5⟩
      case measure=>simp[intOf];omega
    ·obtain rfl:s=2:=by omega
     have bo:decide (((2:Nat):Int)<2)=false:=by decide
     obtain⟨la,lc,t,a⟩:=Y;subst t;obtain⟨ng,nc,H,A,ap⟩:=Co r (by omega);subst H;have HX:Aside (n=(Ao (lnB L) o (2*(k+1))).1.length/\y.ownsRow B 195 9 (.slice (some ⟨ng,0,none⟩) n nc) n (Bj (Ao (lnB L) o (2*(k+1))).1)/\p<=o.length/\(Ao (lnB L) o (2*(k+1))).2=o.drop p/\Wz o g P (.slice la (o.length-p) lc) p/\Aa (fun j=>B<=j) w2 y):=⟨hn,r,hp,E,⟨la,lc,rfl,a⟩,i⟩;clear hn r hp E a i l f A;go_wp2;go_roundw
     case rel=>
      obtain⟨q1,q2,q3,q4,q5,q6⟩:=HX.o;exact⟨k+1,p,n,by omega,by go_num,q1,q2,q3,q4,q5,q6⟩
     case measure=>simp[intOf];omega
  ·obtain rfl:k=N:=by omega
   have bm:n=k:=by rw[hn];exact HE.o.len
   subst bm;obtain⟨la,lc,t,a⟩:=Y;subst t;obtain⟨na,nc,H,_⟩:=An r;subst H;have ak:=(dF n n).2;have HX:Aside (wr.ownsRow w.heap.size 195 9 (.slice na n nc) n (Bj (Ao (lnB L) o (2*n)).1)/\Aee w wr):=
    ⟨Fs r (fun j hj=>by have:=r.lt j hj;have:=HB.o;omega),a3.o.2.trans i (fun j h1 h2=>by have:=HB.o;omega)⟩
   clear hn r hp E a i;go_wp2;go_ret;exact⟨.slice na n nc,rfl,by rw[hO];exact HX.o.1,HX.o.2⟩
theorem qI(vs:Aei): ∀(k:Nat) (A B C:Aei),B.length=vs.length->((vs.zipIdx k).foldl (fun(cs:Array Value) (x:Value×Nat)=>cs.setIfInBounds (A.length-k+x.2) x.1) (A++(B++C)).toArray)=(A++(vs++C)).toArray\/A.length<k:=by
 induction vs with
 |nil=>
  intro k A B C h;left;have:B=[]:=Aaz h;subst this;rfl
 |cons v r ih=>
  intro k A B C h
  by_cases hk:A.length<k
  ·exact .inr hk
  cases B with
  |nil=>simp at h
  |cons b B=>
   left;rw[List.zipIdx_cons,Ad8];have a:A.length-k+k=A.length:=by omega
   have c:(A++(b::B++C)).toArray.setIfInBounds (A.length-k+k) v=((A++[v])++(B++C)).toArray:=by
    rw[a];simp
   show List.foldl _ ((A++(b::B++C)).toArray.setIfInBounds (A.length-k+k) v) _=_;rw[c];have h2:=ih (k+1) (A++[v]) B C (by simpa using h);rw[show(A++[v]).length-(k+1)=A.length-k from by simp]at h2;rcases h2 with h2|h2
   ·rw[h2];simp
   ·simp at h2;omega
theorem M2(a:Nat->Option (Nat×Nat))(i b size:Nat)(v:Value)(rest:List (Nat×Value))(A B C vs:Aei)(e:a i=some (b,size))(c:v.cells=vs.toArray)(d:vs.length=size)(hA:A.length=b)(f:B.length=size):
  Instr.fill a (A++(B++C)).toArray ((i,v)::rest)=Instr.fill a (A++(vs++C)).toArray rest:=by
 rw[Instr.fill,e];simp only;have hs:v.cells.size=size:=by rw[c];simpa using d
 rw[if_neg (by simp[hs,hA];omega)];congr 1;rw[c];have h:=qI vs 0 A B C (by omega);rcases h with h|h
 ·rw[Adj,hA]at h;rw[<-h,<-Array.foldl_toList];simp
 ·omega
def N5:Aei:=[.string ⟨#[]⟩,.int .i64 0,.slice none 0 0]++(Qq 256++(.slice none 0 0::(List.replicate 256 (.int .i64 0)++[.int .i64 0])))
theorem tO:((prog.info? 96).bind (·.zero))=some (.agg N5.toArray):=by kernel_rfl
theorem mS:(prog.underlying 96).bind (fun d=>match d with| .struct fields=>fields.toList.mapM (fun f=>(prog.info? f.type).map fun i=>(f.offset,i.size))|_=>none)=some [(0,3),(3,512),(515,1),(516,256),(772,1)]:=by kernel_rfl
theorem aB(s:ByteArray)(len g total:Nat)(T:List (Nat×Nat))(a:Aej)(n c:Nat)(u:T.length=256):
  prog.built 96 [(0,.agg #[.string s,.int .i64 len,.slice (some ⟨g,0,none⟩) (s.size+1) (s.size+1)]),(1,.agg (C8 T).toArray),(2,.slice a n c),(4,.int .i64 total)]=some (A6 s len g T (.slice a n c) (List.replicate 256 0) total).toArray:=by
 unfold Program.built;have h:=tO;have e:=mS;cases h1:prog.info? 96 with
 |none=>rw[h1]at h;cases h
 |some it=>
  cases h2:prog.underlying 96 with
  |none=>rw[h2]at e;cases e
  |some d=>
   rw[h1]at h;rw[h2]at e;have m:it.zero=some (.agg N5.toArray):=h;cases d<;>try(cases e;done)
   rename_i fields;have j:fields.toList.mapM (fun f=>(prog.info? f.type).map fun i=>(f.offset,i.size))=some [(0,3),(3,512),(515,1),(516,256),(772,1)]:=e;simp only[m,j];have o:(Value.agg N5.toArray).cells=N5.toArray:=rfl;rw[o];have k:(Qq 256).length=512:=by rw[<-X3,Db,zV]
   have l:(List.replicate 256 (Value.int .i64 0)).length=256:=zV;have b:(C8 T).length=512:=by rw[Db,u]
   have r:[Value.string ⟨#[]⟩,I 0,.slice none 0 0]++(Qq 256++(.slice none 0 0::(List.replicate 256 (I 0)++[I 0])))=N5:=rfl;have t:Ad (List.replicate 256 0)=List.replicate 256 (Value.int .i64 0):=by unfold Ad;rw[List.map_replicate];rfl
   unfold A6;rw[t];generalize N5=ZT at*;generalize List.replicate 256 (Value.int .i64 0)=R at*;generalize Qq 256=PZ at*;generalize C8 T=TT at*;have s1:=M2 ([(0,3),(3,512),(515,1),(516,256),(772,1)].toArray[·]?) 0 0 3 (.agg #[.string s,I len,S0 g (s.size+1) (s.size+1)]) [(1,.agg TT.toArray),(2,.slice a n c),(4,I total)] [] [.string ⟨#[]⟩,I 0,.slice none 0 0] (PZ++(.slice none 0 0::(R++[I 0]))) [.string s,I len,S0 g (s.size+1) (s.size+1)] rfl rfl rfl rfl rfl;have s2:=M2 ([(0,3),(3,512),(515,1),(516,256),(772,1)].toArray[·]?) 1 3 512 (.agg TT.toArray) [(2,.slice a n c),(4,I total)] [.string s,I len,S0 g (s.size+1) (s.size+1)] (PZ) (.slice none 0 0::(R++[I 0])) TT rfl rfl b rfl k;have s3:=M2 ([(0,3),(3,512),(515,1),(516,256),(772,1)].toArray[·]?) 2 515 1 (.slice a n c) [(4,I total)] ([.string s,I len,S0 g (s.size+1) (s.size+1)]++TT) [.slice none 0 0] (R++[I 0]) [.slice a n c] rfl rfl rfl (by rw[zL,b];rfl) rfl;have s4:=M2 ([(0,3),(3,512),(515,1),(516,256),(772,1)].toArray[·]?) 4 772 1 (I total) [] ([.string s,I len,S0 g (s.size+1) (s.size+1)]++TT++[.slice a n c]++R) [I 0] [] [I total] rfl rfl rfl (by simp only[zL,b,l];rfl) rfl;rw[Adk,Adk,r]at s1;rw[s1,s2];have p:[Value.string s,I len,S0 g (s.size+1) (s.size+1)]++(TT++(.slice none 0 0::(R++[I 0])))=([Value.string s,I len,S0 g (s.size+1) (s.size+1)]++TT)++([.slice none 0 0]++(R++[I 0])):=by simp only[Adf,Adk]
   rw[p,s3];have q:([Value.string s,I len,S0 g (s.size+1) (s.size+1)]++TT)++([.slice a n c]++(R++[I 0]))=([Value.string s,I len,S0 g (s.size+1) (s.size+1)]++TT++[.slice a n c]++R)++([I 0]++[]):=by simp only[Aaj,Abe]
   rw[q,s4];rw[Instr.fill];simp only[Aaj,Abe,Adf,Adk]
theorem Fi{ρ:Operand->Value}{o:Oper}(w:World)(a:TypeId)(x:Operand)(c:o.op= .load a x)(g:Nat)(f:ρ x= .pointer (some ⟨g,0,none⟩))(t:TypeId)(cs:Array Value)(fr:Nat×Nat)(d:TypeDesc)(b:w.heap[g]?=some (.cells cs t fr))
  (e:P.underlying a=some d) (hd:(match d with| .struct _| .array _ _=>true|_=>false)=true) (hi:(P.info? a).map (·.size)=some cs.size):(execOp ρ o).run P w= .ok (.value (.agg cs)) w:=by
 unfold execOp;simp only[c,f,Instr.loadAt,Instr.sureAddr,Sem.run_bind,Sem.run_pure,Ac9,run_loadVar_row w g t a cs fr d b e hd hi]
theorem Qt{ρ:Operand->Value}{o:Oper}(w:World)(t:TypeId)(a:Array (Nat×Operand))(b:o.op= .build t a)(cells:Array Value)(h:P.built t (a.map fun(i,x)=>(i,ρ x)).toList=some cells):(execOp ρ o).run P w= .ok (.value (.agg cells)) w:=by
 unfold execOp;simp only[b,Sem.run_bind,run_build w t _ cells h,Ac9,Sem.run_pure]
theorem Iy{ρ:Operand->Value}{o:Oper}(w:World)(t:TypeId)(a b c d:Nat)(j k l m:Operand)(q:o.op= .build t #[(a,j),(b,k),(c,l),(d,m)])(e f g i:Value)(n:ρ j=e)(h1:ρ k=f)(h2:ρ l=g)(p:ρ m=i)(cells:Array Value)(h:P.built t [(a,e),(b,f),(c,g),(d,i)]=some cells):(execOp ρ o).run P w= .ok (.value (.agg cells)) w:=by
 refine Qt w t _ q cells ?_;simp only[List.map_toArray,Abg,Adv,n,h1,h2,p];exact h
theorem Cd(w:World){ops:Array Oper}{op:Oper}{a:Act}{K:Act->World->Prop}{Q:Exit->Act->World->Prop}{E:Prop}(c:op.guard=none)(d:TypeId)(x y:Operand)(f:op.op= .store d x y)
  (g:Nat) (t:TypeId) (b cells:Array Value) (k:a.eval x= .pointer (some ⟨g,0,none⟩)) (l:a.eval y= .agg cells) (e:w.heap[g]?=some (.cells b t (0,0)))
  (hi:(P.info? d).map (·.size)=some cells.size) (hs:b.size=cells.size) (h1:cells.all (·.oneCell')=true)
  (h: ∀w',w'.heap[g]?=some (.cells cells t (0,0))->Aa (fun j=>j=g) w w'->K (a.put op.dst undef) w'):if Region.wanted op (yielded ops a.tmps)=true then Oper.wp P op a w K Q else E:=by
 have i:Region.wanted op (yielded ops a.tmps)=true:=by simp[Region.wanted,c]
 rw[if_pos i];unfold Oper.wp execOp;simp only[f,k,l,Instr.storeAt,Instr.sureAddr,Sem.run_bind,Sem.run_pure,Ac9,run_storeVar_row w g t d b cells e hi hs h1];exact h _ (setRow_heap w g b cells t _ e) ((Aa.refl (fun j=>j=g) w).setRow (g:=g) (.inr rfl) _)
theorem Ce:(prog.info? 96).map (·.size)=some 773:=by kernel_rfl
theorem Eu(s:ByteArray)(len g total:Nat)(T:List (Nat×Nat))(v:Value)(ws:Aeh)(b:v.oneCell'=true):(A6 s len g T v ws total).toArray.all (·.oneCell')=true:=by
 have h1:=Te T;have h2:=Ew ws;rw[Acv]at*;intro x c;have a:x∈A6 s len g T v ws total:=by simpa using c
 unfold A6 at a;simp only[Ad7,List.mem_cons,List.not_mem_nil,or_false]at a;rcases a with(rfl|rfl|rfl)|h|rfl|h|rfl
 ·rfl
 ·rfl
 ·rfl
 ·exact h1 x (by simpa using h)
 ·exact b
 ·exact h2 x (by simpa using h)
 ·rfl
theorem aC:prog.built 96 []=some Tryz.zeroCells96:=by kernel_rfl
theorem In:Tryz.zeroCells96.size=773:=by kernel_rfl
theorem Vp:Tryz.zeroCells96.all (·.oneCell')=true:=by kernel_rfl
theorem tP{w:World}{base g n:Nat}{e:TypeId}{xs:Aei}(h:w.ownsRow base e 1 (.slice (some ⟨g,0,none⟩) n n) n xs):w.heap[g]?=some (.cells xs.toArray e (0,0)):=by
 rcases h.2 with⟨h1,_⟩|⟨g2,cap,cur,h1,_,a,_,_,hs,ht⟩
 ·cases h1
 ·cases h1;rw[a];congr 2;apply Abr;have e:cur.toList.take (n*1)=cur.toList:=Aap (by simp;omega);rw[<-e,ht]
theorem Iz(l:Aei)(i j:Nat)(x:Value)(h:i<l.length):(l.set i x).getD j undef=if i=j then x else l.getD j undef:=by
 rw[zG,List.getElem?_set]
 by_cases e:i=j
 ·rw[if_pos e,if_pos e,if_pos h];rfl
 ·rw[if_neg e,if_neg e,<-zG]
structure Qu(w:World)(gc:Nat)(vals:Aei)(cs:List Aeg):Prop where
 blk:w.heap[gc]?=some (.cells vals.toArray 79 (0,0))
 len:vals.length=cs.length
 own: ∀n,n<cs.length->w.ownsRow 0 5 1 (vals.getD n undef) (cs.getD n []).length (Ag (cs.getD n []))
 sep: ∀n m k,0<n->n<cs.length->m<cs.length->(vals.getD n undef).ownBlock=some k->(vals.getD m undef).ownBlock=some k->n=m
 ne: ∀n k,n<cs.length->(vals.getD n undef).ownBlock=some k->k≠gc
theorem Qu.kept{S:Nat->Prop}{w w':World}(h:Qu w gc vals cs)(hk:Aa S w w')(h1: ¬S gc)(h2: ∀n k,n<cs.length->(vals.getD n undef).ownBlock=some k-> ¬S k):Qu w' gc vals cs:=
 ⟨hk.row h.blk h1,h.len,fun n hn=>hk.owns (h.own n hn) (h2 n · hn),h.sep,h.ne⟩
theorem Qu.app{w q:World}(h:Qu w gc vals cs){n:Nat}(s:0<n)(hn:n<cs.length){v':Value}{l:Aeg}(hk:Aa (fun j=>(vals.getD n undef).ownBlock=some j) w q)(v:q.ownsRow 0 5 1 v' l.length (Ag l))(i:Ck w (vals.getD n undef) v'):
  Qu (q.setCell ⟨gc,n,none⟩ v') gc (vals.set n v') (cs.set n l):=by
 have u:gc<w.heap.size:=Aac h.blk;have o:n<vals.length:=by rw[h.len];exact hn
 have r:=hk.row h.blk (fun e=>h.ne n gc hn e rfl);have p: ∀k,v'.ownBlock=some k->k≠gc:=fun k e=>by
  rcases i k e with c|c
  ·exact h.ne n k hn c
  ·omega
 refine⟨?_,by rw[Abb,Abb];exact h.len,fun m g=>?_,fun a b k t h1 h2 f d=>?_,fun m k g e=>?_⟩
 ·have:=zI q gc n _ _ v' r;rw[this];simp
 ·rw[Abb]at g;rw[Iz _ _ _ _ o,Pv _ _ _ _ hn]
  by_cases c:n=m
  ·rw[if_pos c,if_pos c];exact ownsRow_setCell_other v (fun e=>p gc e rfl) _
  ·rw[if_neg c,if_neg c];refine ownsRow_setCell_other (hk.owns (h.own m g) (fun k e d=>c (h.sep n m k s hn g d e))) (fun e=>h.ne m gc g e rfl) _
 ·rw[Abb]at h1 h2;rw[Iz _ _ _ _ o]at f d
  by_cases c1:n=a
  ·by_cases c2:n=b
   ·omega
   ·rw[if_pos c1]at f;rw[if_neg c2]at d;rcases i k f with c|c
    ·have:=h.sep n b k s hn h2 c d;omega
    ·have:=(h.own b h2).lt k d;omega
  ·by_cases c2:n=b
   ·rw[if_neg c1]at f;rw[if_pos c2]at d;rcases i k d with c|c
    ·have:=h.sep a n k t h1 hn f c;omega
    ·have:=(h.own a h1).lt k f;omega
   ·rw[if_neg c1]at f;rw[if_neg c2]at d;exact h.sep a b k t h1 h2 f d
 ·rw[Abb]at g;rw[Iz _ _ _ _ o]at e
  by_cases c:n=m
  ·rw[if_pos c]at e;exact p k e
  ·rw[if_neg c]at e;exact h.ne m k g e
structure TSt(W0 wr:World)(gc b8:Nat)(vals:Aei)(cs:List Aeg)(v8:Value)(bits:List Bool):Prop where
 cols:Qu wr gc vals cs
 bat:Em wr 221 b8 v8 bits
 kept:Aa (fun j=>j=b8\/j=gc) W0 wr
 new: ∀n k,0<n->n<cs.length->(vals.getD n undef).ownBlock=some k->W0.heap.size<=k
 sepv: ∀n k,n<cs.length->(vals.getD n undef).ownBlock=some k->v8.ownBlock≠some k
 row: ∀k,v8.ownBlock=some k->W0.heap.size<=k
 zero: ∀k,(vals.getD 0 undef).ownBlock=some k->k<W0.heap.size/\k≠b8
 gB:gc<W0.heap.size
 bB:b8<W0.heap.size
 gb:gc≠b8
def O0(hb gc b8:Nat)(vals:Aei)(v8:Value):Prop:=(∀n k,n<vals.length->(vals.getD n undef).ownBlock=some k->k≠hb)/\v8.ownBlock≠some hb/\hb≠gc/\hb≠b8
section
variable {W0 wr w2:World} {gc b8:Nat} {vals:Aei} {cs:List Aeg} {v8 v':Value} {bits bits':List Bool} {hb:Nat}
theorem TSt.grew(h:TSt W0 wr gc b8 vals cs v8 bits)(hk:Aee wr w2):TSt W0 w2 gc b8 vals cs v8 bits:=
 ⟨h.cols.kept hk id (fun _ _ _ _=>id),h.bat.kept hk id (fun _ _=>id),h.kept.trans hk (fun _ _ h=>h.elim),h.new,h.sepv,h.row,h.zero,h.gB,h.bB,h.gb⟩
theorem TSt.add(h:TSt W0 wr gc b8 vals cs v8 bits)(hb:Em w2 221 b8 v' bits')(hk:Aa (Bk b8 v8) wr w2)(b:Ck wr v8 v'):TSt W0 w2 gc b8 vals cs v' bits':=by
 have d:=h.kept.size;refine⟨h.cols.kept hk (fun e=>?_) (fun n k hn e a=>?_),hb,h.kept.trans hk (fun j f e=>?_),h.new,fun n k hn e a=>?_,fun k e=>?_,h.zero,h.gB,h.bB,h.gb⟩
 ·rcases e with e|e
  ·exact h.gb e
  ·have:=h.row gc e;have:=h.gB;omega
 ·rcases a with a|a
  ·subst a
   by_cases c:n=0
   ·subst c;exact(h.zero k e).2 rfl
   ·have:=h.new n k (by omega) hn e;have:=h.bB;omega
  ·exact h.sepv n k hn e a
 ·rcases e with e|e
  ·exact .inl e
  ·have:=h.row j e;omega
 ·rcases b k a with c|c
  ·exact h.sepv n k hn e c
  ·have:=(h.cols.own n hn).lt k e;omega
 ·rcases b k e with c|c
  ·exact h.row k c
  ·omega
theorem TSt.app(h:TSt W0 wr gc b8 vals cs v8 bits){n:Nat}(i:0<n)(hn:n<cs.length){l:Aeg}(hk:Aa (fun j=>(vals.getD n undef).ownBlock=some j) wr w2)(s:w2.ownsRow 0 5 1 v' l.length (Ag l))(a:Ck wr (vals.getD n undef) v'):
  TSt W0 (w2.setCell ⟨gc,n,none⟩ v') gc b8 (vals.set n v') (cs.set n l) v8 bits:=by
 have t:=h.kept.size;have b:n<vals.length:=by rw[h.cols.len];exact hn
 have f:Aa (fun j=>(vals.getD n undef).ownBlock=some j\/j=gc) wr (w2.setCell (J gc n) v'):=(hk.wider (fun _ _ h=> .inl h)).setCell (p:=(J gc n)) (.inr (.inr rfl)) _;refine⟨h.cols.app i hn hk s a,h.bat.kept f (fun e=>?_) (fun j q e=>?_),h.kept.trans f (fun j q e=>?_),fun m k r g e=>?_,fun m k g e o=>?_,h.row,fun k e=>?_,h.gB,h.bB,h.gb⟩
 ·rcases e with e|e
  ·have:=h.new n b8 i hn e;have:=h.bB;omega
  ·exact h.gb e.symm
 ·rcases e with e|e
  ·exact h.sepv n j hn e q
  ·subst e;have:=h.row j q;have:=h.gB;omega
 ·rcases e with e|e
  ·have:=h.new n j i hn e;omega
  ·exact .inr e
 ·rw[Abb]at g;rw[Iz _ _ _ _ b]at e
  by_cases c:n=m
  ·rw[if_pos c]at e;rcases a k e with d|d
   ·exact h.new n k i hn d
   ·omega
  ·rw[if_neg c]at e;exact h.new m k r g e
 ·rw[Abb]at g;rw[Iz _ _ _ _ b]at e
  by_cases c:n=m
  ·rw[if_pos c]at e;rcases a k e with d|d
   ·exact h.sepv n k hn d o
   ·have:=(h.bat.own.lt k o).2;omega
  ·rw[if_neg c]at e;exact h.sepv m k g e o
 ·rw[Iz _ _ _ _ b,iN]at e;exact h.zero k e
theorem O0.add(h:O0 hb gc b8 vals v8)(b:hb<wr.heap.size)(a:Ck wr v8 v'):O0 hb gc b8 vals v':=by
 refine⟨h.1,fun e=>?_,h.2.2⟩;rcases a hb e with c|c
 ·exact h.2.1 c
 ·omega
theorem O0.app(h:O0 hb gc b8 vals v8){n:Nat}(hn:n<vals.length)(f:hb<wr.heap.size)(b:Ck wr (vals.getD n undef) v'):O0 hb gc b8 (vals.set n v') v8:=by
 refine⟨fun m k a e=>?_,h.2⟩;rw[Abb]at a;rw[Iz _ _ _ _ hn]at e
 by_cases c:n=m
 ·rw[if_pos c]at e;rcases b k e with d|d
  ·exact h.1 n k hn d
  ·omega
 ·rw[if_neg c]at e;exact h.1 m k a e
theorem TSt.fresh(h:TSt W0 wr gc b8 vals cs v8 bits):O0 wr.heap.size gc b8 vals v8:=by
 have:=h.kept.size;have h1:=h.gB;have h2:=h.bB;refine⟨fun n k hn e=>?_,fun e=>?_,by omega,by omega⟩
 ·have:=(h.cols.own n (by rw[<-h.cols.len];exact hn)).lt k e;omega
 ·have:=(h.bat.own.lt _ e).2;omega
end
theorem mT(y:Nat)(a:y<4294967296):Go.bits .and .u64 (y:Int) 1=((y%2:Nat):Int):=by
 show IntKind.u64.wrap ((BitVec.ofInt 64 (y:Int)&&&BitVec.ofInt 64 1).toNat:Int)=_;rw[BitVec.toNat_and,Ad6,BitVec.toNat_ofNat,Aby (by omega:y<2^64),show(BitVec.ofInt 64 1).toNat=1 from rfl,Nat.and_one_is_mod];have:=Nat.mod_lt y (y:=2) (by omega);rw[IntKind.wrap_u64];omega
theorem X4(c l d:Nat)(w:World)(i:c<4294967296)(m:l<=32)(hd:d<l):
  Calls prog 151 #[.agg #[.int .u64 c,.int .i64 l],.int .i64 d] w fun e w'=>e= .returned (.int .i64 ((c/2^(l-1-d)%2:Nat):Int))/\Aee w w':=by
 obtain⟨n,hn⟩:=gx (l-1-d);have q:(l:Int)-1-(d:Int)=(n:Int):=by omega
 obtain⟨y,p,j,g⟩: ∃y:Nat,y<4294967296/\(c:Int)/2^n=(y:Int)/\Hid (y=c/2^n):=
  ⟨c/2^n,Abm (Acd _ _) i,by simp,rfl⟩
 have a:=mT y (by omega);obtain⟨z,b⟩: ∃z,y%2=z:=⟨_,rfl⟩;rw[b]at a;have k:z<=1:=by omega
 have f:n<=32:=by omega
 have h:Aside (c/2^(l-1-d)%2=z):=by show _=_;rw[<-hn,<-g.o];exact b
 have hk:Aee w (w.alloc (.cells #[.int .u64 c,I l] 90)):=(Aa.refl _ _).alloc _;clear hn b
 go_enter func151,ntmps151
 go_wp2;go_ret;exact⟨by rw[h.o];rfl,hk⟩
namespace Hm
def Cm(ps:Aeh)(a:Nat):List Bool:=(ps.filter fun p=>decide (p%8=0)).flatMap fun p=>A7 (p/8) a
def Bb(ps:Aeh):List Bool:=(ps.map fun p=>decide (p%8=0))++Cm ps (Lib.bitLen ((ps.length-1)/8))
theorem Ue(ps:Aeh)(a k:Nat)(h:k<ps.length):Cm (ps.take (k+1)) a=Cm (ps.take k) a++if ps[k]%8=0 then A7 (ps[k]/8) a else []:=by
 rw[zQ h];unfold Cm;rw[Abz,Abo];congr 1
 by_cases e:ps[k]%8=0<;>simp[e]
theorem R3(ps:Aeh)(a:Nat):(Cm ps a).length<=ps.length*a:=by
 unfold Cm;induction ps with
 |nil=>simp
 |cons p r ih=>
  rw[Abq,Aau,Ab4];split
  ·rw[Aa3,zL,Dx];omega
  ·omega
end Hm
def Ez:Prop:= ∀(x:Int) (W:World),0<=x->x<=18446744073709551615->Calls prog 175 #[.int .u64 x] W fun e w'=>e= .returned (.int .i64 (Lib.bitLen x.toNat:Nat))/\W=w'
theorem X5(p:Nat)(w:World)(a:p<=1000000):Calls prog 154 #[.int .i64 p] w fun e w'=>e= .returned (.bool (decide (p%8=0)))/\w=w':=by
 by_cases h:p%8=0
 ·have hb:((p:Int)%8==0)=true:=by simp;omega
  go_enter func154,ntmps154
  go_wp2;go_ret;simp[h]
 ·have hb:((p:Int)%8==0)=false:=by simp;omega
  go_enter func154,ntmps154
  go_wp2;go_ret;simp[h]
theorem N6(b:Ez)(n:Nat)(w:World)(hn:n<=1000000):Calls prog 155 #[.int .i64 n] w fun e w'=>e= .returned (.int .i64 (Lib.bitLen (n/8):Nat))/\w=w':=by
 have a:=b ((n/8:Nat):Int) w (by omega) (by omega);rw[Int.toNat_natCast]at a;have e:((n/8:Nat):Int)=(n:Int)/8:=by omega
 rw[e]at a;generalize Lib.bitLen (n/8)=r at*
 go_enter func155,ntmps155
 go_wp2_with(go_at_call 175;refine a.mono ?_;rintro e w2 ⟨rfl,rfl⟩)
 go_ret;exact⟨rfl,rfl⟩
theorem M3(w:World)(b:Nat)(x y z u:Value):Aa (fun j=>j=b) w ((((w.setCell ⟨b,0,none⟩ x).setCell ⟨b,1,none⟩ y).setCell ⟨b,2,none⟩ z).setCell ⟨b,3,none⟩ u):=
 (Nc w b x y z).setCell (p:=(J b 3)) (.inr rfl) u
theorem aD(hones:Bc)(hLn:Ez)(ao:Aej)(c:Nat)(ps:Aeh)(w:World)(hi:Na w ao ps)(a4:1<=ps.length)(hm:ps.length<=6001)(Q: ∀p∈ps,p<=6000):
  Calls prog 100 #[.slice ao ps.length c] w fun e w'=> ∃g,w.heap.size<=g/\e= .returned (.agg #[.string ⟨(Ah (Bb ps)).toArray⟩,.int .i64 ((Bb ps).length:Nat),.slice (some ⟨g,0,none⟩) ((Ah (Bb ps)).length+1) ((Ah (Bb ps)).length+1),.int .i64 ((ps.length-1:Nat):Int)])/\
   IntRow w' g (B8 (Ah (Bb ps)))/\Aee w w':=by
 have ag:Aside _:=hones;clear hones;have Z:Hid (Bb ps=(ps.map fun p=>decide (p%8=0))++Cm ps (Lib.bitLen ((ps.length-1)/8))):=rfl;generalize Bb ps=R at Z|-;have F:Lib.bitLen ((ps.length-1)/8)<=10:=Lib.bitLen_le _ 10 (by omega) (by omega);obtain⟨T,hT⟩:=gx (ps.length-1);have zT:(ps.length:Int)-1=(T:Int):=by omega
 have az:T<=6000:=by omega
 rw[<-hT]at Z F|-;clear hT
 go_enter func100,ntmps100
 go_wp2
 go_loopw[12] (fun i wr=> ∃(k:Nat) (v':Value),k<=ps.length/\i=I k/\Em wr 221 (w.heap.size+1) v' ((ps.take k).map fun p=>decide (p%8=0))/\Aa (fun j=>w.heap.size+1<=j) ((w.alloc (.cells #[.string ⟨#[]⟩,I 0,.slice none 0 0,I 0] 100)).alloc (.cells #[.slice none 0 0,I 0] 221)) wr/\(∀j,v'.ownBlock=some j->w.heap.size+2<=j)) (fun i _=>ps.length-(intOf i).toNat)
 case atStart=>exact⟨0,.slice none 0 0,zZ _,rfl,by simpa using iV w _ _,Aa.refl _ _,fun j h=>by cases h⟩
 case round=>
  obtain⟨k,v',hk,rfl,hb,d,n⟩:=hrel;have u:Aee w wr:=(((Aa.refl (fun _=>False) w).alloc _).alloc _).trans d (fun j h1 h2=>by omega)
  by_cases y:k<ps.length
  ·obtain⟨b,o,r,aj,ak⟩:=(hi.kept u (fun a ha=>id)) k y;have al:=Q ps[k] (z6 _);have N:Hid (((ps.take (k+1)).map fun p=>decide (p%8=0))=((ps.take k).map fun p=>decide (p%8=0))++[decide (ps[k]%8=0)]):=by
    show _=_;rw[zQ y,Abt];rfl
   generalize ps[k]=x at*;have t:=X5 x wr (by omega)
   by_cases f:x%8=0
   ·have l:=Wt 221 (w.heap.size+1) v' _ 1 wr hb (by simp;omega) (by omega);rw[show decide (1=1)=decide (x%8=0)from by simp[f]]at l;rw[show decide (x%8=0)=true from by simp[f]]at t;rw[r];clear r hi hb Q f
    go_wp2_with(first|(go_at_call 154;refine t.mono ?_;rintro e w2 ⟨rfl,rfl⟩)|(go_at_call 152;refine l.mono ?_;rintro e w2 ⟨v2,rfl,z,A,D⟩))
    go_roundw
    case rel=>
     refine⟨k+1,v2,by omega,by go_num,by rw[N.o];exact z,d.trans A (fun j h1 h2=>?_),fun j h=>?_⟩
     ·rcases h2 with h2|h2
      ·omega
      ·have:=n j h2;omega
     ·rcases D j h with h2|h2
      ·exact n j h2
      ·have:=d.size;simp at this;omega
    case measure=>simp[intOf];omega
   ·have l:=Wt 221 (w.heap.size+1) v' _ 0 wr hb (by simp;omega) (by omega);rw[show decide (0=1)=decide (x%8=0)from by simp[f]]at l;rw[show decide (x%8=0)=false from by simp[f]]at t;rw[r];clear r hi hb Q f
    go_wp2_with(first|(go_at_call 154;refine t.mono ?_;rintro e w2 ⟨rfl,rfl⟩)|(go_at_call 152;refine l.mono ?_;rintro e w2 ⟨v2,rfl,z,A,D⟩))
    go_roundw
    case rel=>
     refine⟨k+1,v2,by omega,by go_num,by rw[N.o];exact z,d.trans A (fun j h1 h2=>?_),fun j h=>?_⟩
     ·rcases h2 with h2|h2
      ·omega
      ·have:=n j h2;omega
     ·rcases D j h with h2|h2
      ·exact n j h2
      ·have:=d.size;simp at this;omega
    case measure=>simp[intOf];omega
  ·obtain rfl:k=ps.length:=by omega
   rw[Aaw]at hb;have ac:=N6 hLn T wr (by omega);generalize Lib.bitLen (T/8)=L at*;generalize hB:(ps.map fun p=>decide (p%8=0))=B at*;have aa:B.length=ps.length:=by rw[<-hB];simp
   have aw:=hZ aa;have au:B.length<=6001:=by omega
   have X:=hZ hb;have HI:=hZ hi;clear hi hb y hk hB aa
   go_wp2_with(go_at_call 155;refine ac.mono ?_;rintro e w2 ⟨rfl,rfl⟩)
   clear ac
   go_loopw[28] (fun i wr=> ∃(k:Nat) (v':Value),k<=ps.length/\i=I k/\Em wr 221 (w.heap.size+1) v' (B++Cm (ps.take k) L)/\Aa (fun j=>w.heap.size+1<=j) ((w.alloc (.cells #[.string ⟨#[]⟩,I 0,.slice none 0 0,I 0] 100)).alloc (.cells #[.slice none 0 0,I 0] 221)) wr/\(∀j,v'.ownBlock=some j->w.heap.size+2<=j)) (fun i _=>ps.length-(intOf i).toNat)
   case atStart=>exact⟨0,v',zZ _,rfl,by simpa[Cm]using X.o,d,n⟩
   case round=>
    clear d n u X;obtain⟨k,v3,hk,rfl,hb,d,n⟩:=hrel;have u:Aee w wr:=(((Aa.refl (fun _=>False) w).alloc _).alloc _).trans d (fun j h1 h2=>by omega)
    by_cases y:k<ps.length
    ·obtain⟨b,o,r,aj,ak⟩:=(HI.o.kept u (fun a ha=>id)) k y;have al:=Q ps[k] (z6 _);have N:=hZ (Ue ps L k y);have a5:(B++Cm (ps.take k) L).length<=70000:=by
      have h1:=R3 (ps.take k) L;have h2:(ps.take k).length*L<=6001*10:=Aa4 (by simp;omega) F;simp only[zL];omega
     generalize ps[k]=x at*;have t:=X5 x wr (by omega)
     by_cases f:x%8=0
     ·rw[show decide (x%8=0)=true from by simp[f]]at t;have l:=Zq 221 (w.heap.size+1) v3 _ (x/8) L wr hb (by omega) (by omega) (by omega);rw[show((x/8:Nat):Int)=(x:Int)/8 from by omega]at l;have O:Hid (Cm (ps.take (k+1)) L=Cm (ps.take k) L++A7 (x/8) L):=by
       show _=_;rw[N.o,if_pos f]
      rw[r];clear r hb Q f N
      go_wp2_with(first|(go_at_call 154;refine t.mono ?_;rintro e w2 ⟨rfl,rfl⟩)|(go_at_call 142;refine l.mono ?_;rintro e w2 ⟨v2,rfl,z,A,D⟩))
      go_roundw
      case rel=>
       refine⟨k+1,v2,by omega,by go_num,by rw[O.o,<-Aaj];exact z,d.trans A (fun j h1 h2=>?_),fun j h=>?_⟩
       ·rcases h2 with h2|h2
        ·omega
        ·have:=n j h2;omega
       ·rcases D j h with h2|h2
        ·exact n j h2
        ·have:=d.size;simp at this;omega
      case measure=>simp[intOf];omega
     ·rw[show decide (x%8=0)=false from by simp[f]]at t;have O:Hid (Cm (ps.take (k+1)) L=Cm (ps.take k) L):=by
       show _=_;rw[N.o,if_neg f,Abe]
      rw[r];clear r Q f N
      go_wp2_with(first|(go_at_call 154;refine t.mono ?_;rintro e w2 ⟨rfl,rfl⟩))
      go_roundw
      case rel=>
       exact⟨k+1,v3,by omega,by go_num,by rw[O.o];exact hb,d,n⟩
      case measure=>simp[intOf];omega
    ·obtain rfl:k=ps.length:=by omega
     rw[Aaw,<-Z.o]at hb;have E:=bU 221 (w.heap.size+1) v3 R wr hb;have U:(⟨(Ah R).toArray⟩:ByteArray).size=(Ah R).length:=by show(Ah R).toArray.size=_;simp
     have ai:R.length<=100000:=by
      rw[Z.o];have h1:=R3 ps L;have h2:=Aa4 hm F;simp only[zL];omega
     have H:=A8 R;have q:=fun W=>Ld ag.o ⟨(Ah R).toArray⟩ R.length W (by rw[U,H];omega);have e3:(⟨(Ah R).toArray⟩:ByteArray).data.toList=Ah R:=rfl;rw[e3,U]at q;have V:wr.heap[w.heap.size]?=some (.cells #[.string ⟨#[]⟩,I 0,.slice none 0 0,I 0] 100 (0,0)):=d.row (Ab2 w _ _) (by omega);have HX:=aZ (aI V u);have a6:w.heap.size<wr.heap.size:=Aac V;have HC:Aside _:=q;obtain⟨s,hS⟩:=gx (⟨(Ah R).toArray⟩:ByteArray);obtain⟨P,hP⟩:=gx (Ah R);have M:=aZ (aI hS hP);have K:=HC.o;rw[<-hS,<-hP]at K;rw[<-hS]at E;have Y:Aside _:=K;clear K HC hS hP U;clear hb Q Z V u d H e3 q ai;go_wp2_with fail;refine E.mono ?_;rintro e w5 ⟨rfl,S⟩;have q:=Y.o w5;clear E Y;go_wp2_with fail;refine q.mono ?_;rintro e w6 ⟨g,hg,rfl,G,ab⟩;have C:=S.tr ab;have m:=C.row HX.o.1 id;have p0:=cO 0 m;have p1:=cO 1 m;have p2:=cO 2 m;have f0:=zR _ _ 0 _ _ m;have f1:=zR _ _ 1 _ _ m;have f2:=zR _ _ 2 _ _ m;have p3:=cO 3 m;have f3:=zR _ _ 3 _ _ m;have HZ:Aside (w6.heap[w.heap.size]?=some (.cells #[.string ⟨#[]⟩,I 0,.slice none 0 0,I 0] 100 (0,0))/\Aee w w6/\IntRow w6 g (B8 P)/\w.heap.size<g):=⟨m,HX.o.2.tr C,G,by have:=S.size;omega⟩;clear q S ab C m G hg HX;go_wp2;obtain⟨m,u,G,a2⟩:=HZ.o;have h2:=zI _ _ 3 _ _ (I T) (zI _ _ 2 _ _ (S0 g (P.length+1) (P.length+1)) (zI _ _ 1 _ _ (I R.length) (zI _ _ 0 _ _ (.string s) m)));refine Aa8 (v:= .agg #[.string s,I R.length,S0 g (P.length+1) (P.length+1),I T]) (Abj results100 _ _ w.heap.size 100 _ (0,0) _ rfl h2 underlying100 rfl (by kernel_rfl)) rfl ⟨g,by omega,by rw[M.o.1,M.o.2],?_,?_⟩
     ·rw[<-M.o.2];exact G.kept (M3 w6 w.heap.size _ _ _ _) (fun e=>by omega)
     ·exact u.trans (M3 w6 w.heap.size _ _ _ _) (fun j h1 h2=>by omega)
theorem Fa:Bc:=fun b W=>by
 have h:=Tryz.bits_OnesCount8 (b.toNat:Nat) W (by omega) (by have:=b.toNat_lt;omega);rw[Int.toNat_natCast,<-Zr]at h;exact h
theorem N7:Ez:=fun x W a h1=>(Tryz.bits_Len x W a h1).mono fun _ _ h=>⟨h.1,h.2.symm⟩
end
end Go.Proofs.YtegnkfdbmmndaaaGreat
