import Derived.Test.YtegnkfdbmmndaaaGreatJ00
import Derived.Test.YtegnkfdbmmndaaaGreatJ20
import Derived.Test.YtegnkfdbmmndaaaGreatJ21
import Derived.Test.YtegnkfdbmmndaaaGreatJ03
import Derived.Test.YtegnkfdbmmndaaaGreatJ02
import Derived.Test.YtegnkfdbmmndaaaGreatJ11

namespace Go.Proofs.YtegnkfdbmmndaaaGreat
open Hm
open Go.RowKit
namespace Hm
def rdA(s:List UInt8):Rd:=C6 (A5 (some s) 6).2 ((⟨(A5 (some s) 6).1.toArray⟩:ByteArray).toList==[72,79,65,82,68,49])
def rdF(s:List UInt8):Nat×Rd:=Bu (rdA s) 1
def rdN(s:List UInt8):Nat×Rd:=Bu (rdF s).2 2
def rdR(s:List UInt8):Nat×Rd:=Bu (rdN s).2 2
def rdB(s:List UInt8):Rd:=C6 (rdR s).2 (decide ((rdR s).1≤(rdN s).1))
def rdM(s:List UInt8):List ByteArray×Rd:=As (rdF s).1 (rdB s)
def rdL(st:Rd):List Nat×Rd:=Bp (Bu st 2).2 (Bu st 2).1
structure Fe(s l6:List UInt8)(L:List Nat)(l8:List UInt8)(st:B0):Prop where
 names:(rdM s).2=some l6
 ends:F6 l6 (rdF s).1 (rdN s).1
 lens:rdL (some (l6.drop (szB (Am (rdF s).1 (rdN s).1))))=(L,some l8)
 tree:Fm l8 (rdN s).1 L st
 samp:Gk (l8.drop (szB st.len)) (rdN s).1
 sum:N6 s (some ((l8.drop (szB st.len)).drop (szB (Aw (rdN s).1))))=some []
theorem Eo{st:Rd}{k:Nat}{l:List UInt8}(h:(A5 st k).2=some l): ∃l0,st=some l0∧k≤l0.length∧l=l0.drop k∧(A5 st k).1=l0.take k:=by
 cases st with
 |none=>cases h
 |some l0=>
  by_cases hk:k≤l0.length
  ·rw[F4 hk]at h;injection h with h;exact⟨l0,rfl,hk,h.symm,by rw[F4 hk]⟩
  ·rw[Ko hk]at h;cases h
theorem Mp{st:Rd}{b:Bool}{l:List UInt8}(h:C6 st b=some l):b=true∧st=some l:=by
 unfold C6 at h;split at h
 ·rename_i hb;exact⟨hb,h⟩
 ·cases h
theorem O5{st:Rd}: ∀{k:Nat} {l:List UInt8},(As k st).2=some l→ ∃l0,st=some l0∧l0.length≤l.length+256*k
 |0,l,h=>⟨l,h,Ale _⟩
 |k+1,l,h=>by
  have h':(A5 (Bu (As k st).2 1).2 (Bu (As k st).2 1).1).2=some l:=h;obtain⟨l1,h1,h2,h3,-⟩:=Eo h';have h1':(A5 (As k st).2 1).2=some l1:=h1;obtain⟨l2,h4,h5,h6,h7⟩:=Eo h1';obtain⟨l0,h8,h9⟩:=O5 h4;refine⟨l0,h8,?_⟩;have hx:(Bu (As k st).2 1).1<256:=by have:=Hd (As k st).2 1;simpa using this
  rw[h3,Amb];rw[h6,Amb]at h2⊢;omega
theorem We{st:Rd}: ∀{k:Nat} {l:List UInt8},(Bp st k).2=some l→ ∃l0,st=some l0∧l0.length=l.length+2*k
 |0,l,h=>⟨l,h,rfl⟩
 |k+1,l,h=>by
  have h':(Gw (Bp st k)).2=some l:=h;unfold Gw at h';split at h'
  ·rename_i l1 h1;injection h' with h';subst h';obtain⟨l2,h4,h5,h6,-⟩:=Eo h1;obtain⟨l0,h8,h9⟩:=We h4;refine⟨l0,h8,?_⟩;rw[h6,Amb];omega
  ·cases h'
theorem Akn{st:Rd}{l:List UInt8}(h:(rdL st).2=some l): ∃l0,st=some l0∧l0.length≤l.length+131072:=by
 obtain⟨l1,h1,h2⟩:=We h;have h1':(A5 st 2).2=some l1:=h1;obtain⟨l0,h3,h4,h5,-⟩:=Eo h1';have hx:(Bu st 2).1<65536:=by have:=Hd st 2;simpa using this
 refine⟨l0,h3,?_⟩;rw[h5,Amb]at h2;omega
theorem Aew{s l:List UInt8}(h:(rdM s).2=some l):s.length≤l.length+65536∧(rdR s).1≤(rdN s).1:=by
 obtain⟨l0,h1,h2⟩:=O5 h;obtain⟨h3,h4⟩:=Mp h1;obtain⟨l1,h5,h6,h7,-⟩:=Eo (show(A5 (rdN s).2 2).2=some l0 from h4);obtain⟨l2,h8,h9,h10,-⟩:=Eo (show(A5 (rdF s).2 2).2=some l1 from h5);obtain⟨l3,h11,h12,h13,-⟩:=Eo (show(A5 (rdA s) 1).2=some l2 from h8);obtain⟨_,h14⟩:=Mp h11;obtain⟨l4,h15,h16,h17,-⟩:=Eo h14;injection h15 with h15;subst h15;have hx:(rdF s).1<256:=by have:=Hd (rdA s) 1;simpa[rdF]using this
 refine⟨?_,Amm h3⟩;rw[h7,h10,h13,h17]at h2;rw[h13,h17]at h9;rw[h10,h13,h17]at h6;rw[h17]at h12;simp only[Amb]at*;omega
theorem N7(s:List UInt8):(rdN s).1≤65535:=by have:=Hd (rdF s).2 2;simp at this;unfold rdN;omega
theorem Pk(s:List UInt8):(rdF s).1≤255:=by have:=Hd (rdA s) 1;simp at this;unfold rdF;omega
theorem Wf(m n:Nat)(hm:m≤255)(hn:n≤65535):szB (Am m n)≤10000:=by
 have h1:=Xh m n hn;have h2:m*Cy m n≤255*16:=Amk hm h1;have h3:n/2^Cy m n≤n:=Anu _ _;unfold szB Am;omega
theorem Aga(n:Nat)(hn:n≤65535):szB (Aw n)≤22000:=by
 obtain⟨td,bl,tb,_,_,_,h4,_,_,h7⟩:=Y1 n hn;unfold szB;omega
theorem Wg{L:List Nat}(h:Bj L):Gh L≤32:=by
 rcases Nat.eq_zero_or_pos (Gh L)with e|e
 ·omega
 ·obtain⟨i,hi,he⟩:=Aml (S9 L e);have h1:=h.short (UInt8.ofNat i);have hi2:=h.len;rw[show lnB L (UInt8.ofNat i)=L.getD (UInt8.ofNat i).toNat 0 from rfl,show(UInt8.ofNat i).toNat=i from by simp;omega,Ak6,Ak7 hi,Anr,he]at h1;exact h1
theorem Ng{l:List UInt8}{n:Nat}{L:List Nat}{st:B0}(h:Fm l n L st)(hn:n≤65535):szB st.len≤262141∧szB st.len≤l.length:=by
 have h1:=K8 h.2;have h2:=Wg h.1;have h3:n*Gh L≤65535*32:=Amk hn h2;unfold Fk at h1;unfold szB;omega
theorem Ajk{st:Rd}(h:(Bu st 4).2=some []): ∃l,st=some l∧l.length=4:=by
 obtain⟨l,h1,h2,h3,-⟩:=Eo (show(A5 st 4).2=some []from h);refine⟨l,h1,?_⟩;have:=congrArg List.length h3;rw[Amb]at this;simp at this;omega
end Hm
structure E6(B:Nat)(w':World)(st:Hm.Rd)(m n:Nat)(EV:List Value)(st':Hm.Rd):Prop where
 len:EV.length=5
 one:EV.toArray.all (·.oneCell')=true
 rest:Bb st'≤Bb st
 said:(∃l,st=some l∧F6 l m n∧st'=some (l.drop (Hm.szB (Am m n)))∧ ∃g,B≤g∧EV=Gs l m n g∧IntRow w' g (Bt (l.take (Hm.szB (Am m n)))))∨((∀l,st=some l→ ¬F6 l m n)∧st'=none)
theorem E6.kept{B:Nat}{w' w2:World}{st:Hm.Rd}{m n:Nat}{EV:List Value}{st':Hm.Rd}(h:E6 B w' st m n EV st'){S:Nat→Prop}(hk:Aa S w' w2)(hn: ∀j,B≤j→j<w'.heap.size→ ¬S j):E6 B w2 st m n EV st':=by
 refine⟨h.len,h.one,h.rest,?_⟩;rcases h.said with⟨l,a1,a2,a3,g,a4,a5,a6⟩|h1
 ·exact .inl ⟨l,a1,a2,a3,g,a4,a5,a6.kept hk (hn g a4 a6.lt)⟩
 ·exact .inr h1
theorem E6.le{B B':Nat}{w':World}{st:Hm.Rd}{m n:Nat}{EV:List Value}{st':Hm.Rd}(h:E6 B w' st m n EV st')(hb:B'≤B):E6 B' w' st m n EV st':=by
 refine⟨h.len,h.one,h.rest,?_⟩;rcases h.said with⟨l,a1,a2,a3,g,a4,a5⟩|h1
 ·exact .inl ⟨l,a1,a2,a3,g,Al2 hb a4,a5⟩
 ·exact .inr h1
theorem Agb(hones:Cd)(p:Nat)(st:Hm.Rd)(m n:Nat)(w:World)(hr:Au w p st)(hm:m≤255)(hn:n≤65535)(hll:Bb st≤4611686018427387904):
  Calls Tryz.prog 67 #[.pointer (some ⟨p,0,none⟩),.int .i64 m,.int .i64 n] w fun e w'=>Aa (fun j=>j=p) w w'∧ ∃EV st',e= .returned (.agg EV.toArray)∧E6 w.heap.size w' st m n EV st'∧Au w' p st':=by
 refine(Af9 hones p st m n w hr hm hn hll).mono ?_;rintro e w' ⟨hk,⟨l,rfl,a2,a3,g,a4,rfl,a6⟩|⟨h1,h2,rfl⟩⟩
 ·exact⟨hk,_,_,rfl,⟨rfl,by simp[Gs,Value.oneCell'],by show(l.drop _).length≤l.length;rw[Amb];omega,.inl ⟨l,rfl,a2,rfl,g,a4,rfl,a6⟩⟩,a3⟩
 ·exact⟨hk,_,_,rfl,⟨rfl,by simp[Gf,Value.oneCell'],Alr _,.inr ⟨h1,rfl⟩⟩,h2⟩
structure Ip(B:Nat)(w':World)(st:Hm.Rd)(n:Nat)(EV:List Value)(st':Hm.Rd):Prop where
 len:EV.length=4
 one:EV.toArray.all (·.oneCell')=true
 rest:Bb st'≤Bb st
 said:(∃l,st=some l∧Gk l n∧st'=some (l.drop (Hm.szB (Aw n)))∧ ∃g,B≤g∧EV=Ht l n g∧IntRow w' g (Bt (l.take (Hm.szB (Aw n)))))∨((∀l,st=some l→ ¬Gk l n)∧st'=none)
theorem Ip.kept{B:Nat}{w' w2:World}{st:Hm.Rd}{n:Nat}{EV:List Value}{st':Hm.Rd}(h:Ip B w' st n EV st'){S:Nat→Prop}(hk:Aa S w' w2)(hn: ∀j,B≤j→j<w'.heap.size→ ¬S j):Ip B w2 st n EV st':=by
 refine⟨h.len,h.one,h.rest,?_⟩;rcases h.said with⟨l,a1,a2,a3,g,a4,a5,a6⟩|h1
 ·exact .inl ⟨l,a1,a2,a3,g,a4,a5,a6.kept hk (hn g a4 a6.lt)⟩
 ·exact .inr h1
theorem Ip.le{B B':Nat}{w':World}{st:Hm.Rd}{n:Nat}{EV:List Value}{st':Hm.Rd}(h:Ip B w' st n EV st')(hb:B'≤B):Ip B' w' st n EV st':=by
 refine⟨h.len,h.one,h.rest,?_⟩;rcases h.said with⟨l,a1,a2,a3,g,a4,a5⟩|h1
 ·exact .inl ⟨l,a1,a2,a3,g,Al2 hb a4,a5⟩
 ·exact .inr h1
theorem Agc(hones:Cd)(hLn:Lb)(p:Nat)(st:Hm.Rd)(n:Nat)(w:World)(hr:Au w p st)(hn:n≤65535)(hll:Bb st≤4611686018427387904):
  Calls Tryz.prog 71 #[.pointer (some ⟨p,0,none⟩),.int .i64 n] w fun e w'=>Aa (fun j=>j=p) w w'∧ ∃EV st',e= .returned (.agg EV.toArray)∧Ip w.heap.size w' st n EV st'∧Au w' p st':=by
 refine(Z2 hones hLn p st n w hr hn hll).mono ?_;rintro e w' ⟨hk,⟨l,rfl,a2,a3,g,a4,rfl,a6⟩|⟨h1,h2,rfl⟩⟩
 ·exact⟨hk,_,_,rfl,⟨rfl,by simp[Ht,Value.oneCell'],by show(l.drop _).length≤l.length;rw[Amb];omega,.inl ⟨l,rfl,a2,rfl,g,a4,rfl,a6⟩⟩,a3⟩
 ·exact⟨hk,_,_,rfl,⟨rfl,by simp[Dj,Value.oneCell'],Alr _,.inr ⟨h1,rfl⟩⟩,h2⟩
theorem Adt:(Tryz.zeroCells96.toList.drop 516).take 256=Ac (List.replicate 256 0):=by kernel_rfl
theorem Db.weights{B:Nat}{w':World}{l:List UInt8}{n:Nat}{L:List Nat}{VA:Array Value}{T:ByteArray}{ok:Bool}(h:Db B w' l n L VA T ok)(hn:n≤65535):
  ∃ws:List Nat,ws.length=256∧(∀b,b<256→VA[516+b]?=some (.int .i64 (ws.getD b 0:Nat)))∧ ∀x∈ws,x≤1000000:=by
 rcases h.said with⟨_,st,g,ng,nc,a1,_,_,_,_,rfl,a6,_⟩|⟨_,_,rfl⟩
 ·refine⟨st.ws,a6,fun b hb=>?_,fun x hx=>?_⟩
  ·rw[Alz];exact N0 _ _ _ _ _ _ _ b (A3 _ _ _ _) (by omega)
  ·have:=Ahx a1 x hx;omega
 ·refine⟨List.replicate 256 0,Alj,fun b hb=>?_,fun x hx=>?_⟩
  ·have e:=congrArg (fun l=>l[b]?) Adt;rw[Ani hb,List.getElem?_drop,Array.getElem?_toList]at e;rw[e];unfold Ac;rw[Alu,Aov,if_pos hb,Ak6,Aov,if_pos hb];rfl
  ·rw[Aod hx];omega
theorem Agd(v v':Value)(E R S:List Value):(Ke v E R S).toArray.setIfInBounds 0 v'=(Ke v' E R S).toArray:=by
 rw[Ak8];rfl
def Ld(B:Nat)(w':World)(s:List UInt8)(pa:Nat)(ok:Bool):Prop:=
 (ok=true∧ ∃l6 L l8 st gn ge g ng nc gs,Fe s l6 L l8 st∧B≤gn∧B≤ge∧B≤g∧B≤ng∧B≤gs∧
   w'.heap[pa]?=some (.cells (Ke (.slice (some ⟨gn,0,none⟩) (Hm.rdF s).1 (Hm.rdF s).1) (Gs l6 (Hm.rdF s).1 (Hm.rdN s).1 ge)
    (B7 (Ba ⟨(l8.take (Hm.szB st.len)).toArray⟩ st.len g (Bc L) (.slice (some ⟨ng,0,none⟩) st.nds.length nc) st.ws (Hm.rdN s).1).toArray (Hm.rdR s).1 (Hm.firsts st.ws))
    (Ht (l8.drop (Hm.szB st.len)) (Hm.rdN s).1 gs)).toArray 102 (0,0))∧
   w'.heap[gn]?=some (.cells (Fo (Hm.rdM s).1).toArray 9 (0,0))∧
   IntRow w' ge (Bt (l6.take (Hm.szB (Am (Hm.rdF s).1 (Hm.rdN s).1))))∧IntRow w' g (Bt (l8.take (Hm.szB st.len)))∧
   w'.ownsRow 0 195 9 (.slice (some ⟨ng,0,none⟩) st.nds.length nc) st.nds.length (A9 st.nds)∧
   IntRow w' gs (Bt ((l8.drop (Hm.szB st.len)).take (Hm.szB (Aw (Hm.rdN s).1)))))∨
 (ok=false∧ ∀l6 L l8 st,¬Fe s l6 L l8 st)
theorem Ld.kept{B:Nat}{w' w2:World}{s:List UInt8}{pa:Nat}{ok:Bool}(h:Ld B w' s pa ok){S:Nat→Prop}(hk:Aa S w' w2)(hn: ∀j,B≤j→j<w'.heap.size→ ¬S j)(hp: ¬S pa):Ld B w2 s pa ok:=by
 rcases h with⟨h1,l6,L,l8,st,gn,ge,g,ng,nc,gs,a1,b1,b2,b3,b4,b5,a2,a3,a4,a5,a6,a7⟩|h1
 ·exact .inl ⟨h1,l6,L,l8,st,gn,ge,g,ng,nc,gs,a1,b1,b2,b3,b4,b5,hk.row a2 hp,hk.row a3 (hn gn b1 (Alw a3)),a4.kept hk (hn ge b2 a4.lt),a5.kept hk (hn g b3 a5.lt),hk.owns a6 (fun j hj=>by have e1:ng=j:=Al1 hj;rw[←e1];exact hn ng b4 (a6.lt ng rfl).2),a7.kept hk (hn gs b5 a7.lt)⟩
 ·exact .inr h1
theorem Adu{VA:Array Value}{ws ws':List Nat}(h1:ws.length=256)(h2:ws'.length=256)(a: ∀b,b<256→VA[516+b]?=some (.int .i64 (ws.getD b 0:Nat)))(b: ∀b,b<256→VA[516+b]?=some (.int .i64 (ws'.getD b 0:Nat))):ws=ws':=by
 apply Amf (by omega);intro i h3 h4;have e:=(a i (by omega)).symm.trans (b i (by omega));injection e with e;injection e with _ e;rw[Ak6,Ak7 h3,Ak6,Ak7 h4]at e;exact Int.ofNat.inj e
theorem Ub{B:Nat}{w':World}{s:List UInt8}{EV SV:List Value}{st7 st8 st9 st10:Hm.Rd}{L:List Nat}{VA:Array Value}{T:ByteArray}{ok:Bool}
  (hE:E6 B w' (Hm.rdM s).2 (Hm.rdF s).1 (Hm.rdN s).1 EV st7) (hL:L=(Hm.rdL st7).1∧st8=(Hm.rdL st7).2) (hT:Db B w' (st8.getD []) (Hm.rdN s).1 L VA T ok) (h9:st9=(A5 (C6 st8 ok) T.size).2)
  (hS:Ip B w' st9 (Hm.rdN s).1 SV st10) (hx:(Bu st10 4).2=some []):
  (4≤s.length∧s.length≤1000000)∧ ∃l6 l8 st gE g ng nc gS,(Hm.rdM s).2=some l6∧F6 l6 (Hm.rdF s).1 (Hm.rdN s).1∧Hm.rdL (some (l6.drop (Hm.szB (Am (Hm.rdF s).1 (Hm.rdN s).1))))=(L,some l8)∧Fm l8 (Hm.rdN s).1 L st∧Gk (l8.drop (Hm.szB st.len)) (Hm.rdN s).1∧
   st10=some ((l8.drop (Hm.szB st.len)).drop (Hm.szB (Aw (Hm.rdN s).1)))∧B≤gE∧B≤g∧B≤ng∧B≤gS∧EV=Gs l6 (Hm.rdF s).1 (Hm.rdN s).1 gE∧VA=(Ba ⟨(l8.take (Hm.szB st.len)).toArray⟩ st.len g (Bc L) (.slice (some ⟨ng,0,none⟩) st.nds.length nc) st.ws (Hm.rdN s).1).toArray∧st.ws.length=256∧SV=Ht (l8.drop (Hm.szB st.len)) (Hm.rdN s).1 gS∧
   IntRow w' gE (Bt (l6.take (Hm.szB (Am (Hm.rdF s).1 (Hm.rdN s).1))))∧IntRow w' g (Bt (l8.take (Hm.szB st.len)))∧w'.ownsRow 0 195 9 (.slice (some ⟨ng,0,none⟩) st.nds.length nc) st.nds.length (A9 st.nds)∧IntRow w' gS (Bt ((l8.drop (Hm.szB st.len)).take (Hm.szB (Aw (Hm.rdN s).1)))):=by
 obtain⟨l10,e10,n10⟩:=Ajk hx;have hF:=Pk s;have hN:=N7 s;rcases hS.said with⟨l9,e9,s1,s2,gS,s3,s4,s5⟩|⟨_,s2⟩;rotate_left
 ·rw[s2]at e10;cases e10
 rw[e9]at h9;obtain⟨l8',f1,f2,f3,-⟩:=Eo h9.symm;obtain⟨hok,e8⟩:=Mp f1;obtain⟨hL1,hL2⟩:=hL;rw[e8]at hL2 hT;obtain⟨l7,e7,n7⟩:=Akn hL2.symm;rcases hE.said with⟨l6,e6,a1,a2,gE,a3,a4,a5⟩|⟨_,a2⟩;rotate_left
 ·rw[a2]at e7;cases e7
 rcases hT.said with⟨_,st,g,ng,nc,t1,t2,t3,t4,t5,t6,t7,t8,t9⟩|⟨t1,_⟩;rotate_left
 ·rw[t1]at hok;cases hok
 replace t1:Fm l8' (Hm.rdN s).1 L st:=t1
 replace t6:VA=(Ba ⟨(l8'.take (Hm.szB st.len)).toArray⟩ st.len g (Bc L) (.slice (some ⟨ng,0,none⟩) st.nds.length nc) st.ws (Hm.rdN s).1).toArray:=t6
 have hlen:=Ng t1 hN;have hel:=Wf _ _ hF hN;have hsl:=Aga _ hN;have hM:=(Aew e6).1;rw[t5]at f3 f2;subst f3;have hfit:=s1.fits;have hfit2:=a1.fits;refine⟨?_,l6,l8',st,gE,g,ng,nc,gS,e6,a1,?_,t1,s1,s2,a3,t2,t3,s3,a4,t6,t7,s4,a5,t8,t9,s5⟩
 ·rw[s2]at e10;injection e10 with e10;rw[a2]at e7;injection e7 with e7;have n10':=congrArg List.length e10;have n7':=congrArg List.length e7;rw[Amb,Amb]at n10';rw[Amb]at n7' hfit;refine⟨?_,by omega⟩;obtain⟨l0,q1,q2⟩:=O5 e6;obtain⟨q3,q4⟩:=Mp q1;obtain⟨l1,q5,q6,q7,-⟩:=Eo (show(A5 (Hm.rdN s).2 2).2=some l0 from q4);obtain⟨l2,q8,q9,q10,-⟩:=Eo (show(A5 (Hm.rdF s).2 2).2=some l1 from q5);obtain⟨l3,q11,q12,q13,-⟩:=Eo (show(A5 (Hm.rdA s) 1).2=some l2 from q8);obtain⟨_,q14⟩:=Mp q11;obtain⟨l4,q15,q16,q17,-⟩:=Eo q14;injection q15 with q15;have:=congrArg List.length q15;omega
 ·rw[←a2,hL1,hL2]
theorem Age{B:Nat}{w':World}{s:List UInt8}{pa gn:Nat}{EV SV:List Value}{st7 st8 st9 st10:Hm.Rd}{L ws:List Nat}{VA:Array Value}{T:ByteArray}{ok:Bool}
  (hE:E6 B w' (Hm.rdM s).2 (Hm.rdF s).1 (Hm.rdN s).1 EV st7) (hL:L=(Hm.rdL st7).1∧st8=(Hm.rdL st7).2) (hT:Db B w' (st8.getD []) (Hm.rdN s).1 L VA T ok) (h9:st9=(A5 (C6 st8 ok) T.size).2)
  (hS:Ip B w' st9 (Hm.rdN s).1 SV st10) (hw:ws.length=256∧ ∀b,b<256→VA[516+b]?=some (.int .i64 (ws.getD b 0:Nat)))
  (hr:w'.heap[pa]?=some (.cells (Ke (.slice (some ⟨gn,0,none⟩) (Hm.rdF s).1 (Hm.rdF s).1) EV (B7 VA (Hm.rdR s).1 (Hm.firsts ws)) SV).toArray 102 (0,0)))
  (hg:w'.heap[gn]?=some (.cells (Fo (Hm.rdM s).1).toArray 9 (0,0))) (hB:B≤gn):Ld B w' s pa (!(N6 s st10).isNone):=by
 by_cases hx:(Bu st10 4).2=some []∧(Bu st10 4).1=Hm.crc (s.take (s.length-4))
 ·have e:N6 s st10=some []:=if_pos hx;obtain⟨_,l6,l8,st,gE,g,ng,nc,gS,x1,x2,x3,x4,x5,x6,x7,x8,x9,x10,x11,x12,x13,x14,x15⟩:=Ub hE hL hT h9 hS hx.1;rw[e];have ew:ws=st.ws:=Adu hw.1 x13 hw.2 (fun b hb=>by rw[x12,Alz];exact N0 _ _ _ _ _ _ _ b (A3 _ _ _ _) (by omega));refine .inl ⟨rfl,l6,L,l8,st,gn,gE,g,ng,nc,gS,⟨x1,x2,x3,x4,x5,by rw[←x6];exact e⟩,hB,x7,x8,x9,x10,?_,hg,x15⟩;rw[hr,x11,x12,x14,ew]
 ·have e:N6 s st10=none:=if_neg hx;rw[e];refine .inr ⟨rfl,fun l6 L' l8 st hp=>?_⟩;rcases hE.said with⟨l6',e6,a1,a2,_⟩|⟨a1,_⟩;rotate_left
  ·exact a1 _ hp.names hp.ends
  have e66:l6'=l6:=Al1 (e6.symm.trans hp.names);subst e66;have h3:=hp.lens;rw[←a2]at h3;have e8:st8=some l8:=by rw[hL.2,h3]
  have eL:L=L':=by rw[hL.1,h3]
  subst eL;rw[e8]at hT h9;rcases hT.said with⟨hok,st',g,ng,nc,t1,t2,t3,t4,t5,_⟩|⟨_,t1,_⟩;rotate_left
  ·exact t1 st hp.tree
  have est:st'=st:=Al1 (t1.2.symm.trans hp.tree.2);subst est;rw[hok,t5,show C6 (some l8) true=some l8 from rfl,F4 (Ng hp.tree (N7 s)).2]at h9;rcases hS.said with⟨l9,e9,s1,s2,_⟩|⟨s1,_⟩;rotate_left
  ·exact s1 _ h9 hp.samp
  rw[h9]at e9;injection e9 with e9;rw[s2,←e9]at e;have:=hp.sum;rw[e]at this;cases this
theorem Ajl(hones:Cd)(hLn:Lb)(s:List UInt8)(w:World)(hs:s.length≤281474976710656):
  Calls Tryz.prog 31 #[.string ⟨s.toArray⟩] w fun e w'=>Apd w w'∧ ∃pa ok,w.heap.size≤pa∧e= .returned (.tuple #[.pointer (some ⟨pa,0,none⟩),.bool ok])∧Ld w.heap.size w' s pa ok:=by
 obtain⟨S,hS⟩: ∃S,S=(⟨s.toArray⟩:ByteArray):=⟨_,rfl⟩;rw[←hS];have HS:Hid (S=(⟨s.toArray⟩:ByteArray)):=hS;clear hS
 go_enter Tryz.func31,Tryz.ntmps31
 go_wp2_with fail;have hr0:Au (w.alloc (.cells #[.string S,.bool false] 132)) w.heap.size (some s):=by rw[HS.out];exact All w _
 refine(K0 w.heap.size (some s) 6 _ hr0 (by show s.length≤_;omega) (by omega)).mono ?_;rintro e w1 ⟨rfl,hr1,hk1⟩;have H1:Hid (Au w1 w.heap.size (A5 (some s) 6).2∧Apd w w1):=⟨hr1,((Aa.refl (fun _=>False) w).alloc _).trans hk1 (fun j h1 h2=>by omega)⟩;clear hr0 hr1 hk1;have HRA:Hid (Hm.rdA s=C6 (A5 (some s) 6).2 ((⟨(A5 (some s) 6).1.toArray⟩:ByteArray).toList==[72,79,65,82,68,49])):=rfl;generalize(⟨(A5 (some s) 6).1.toArray⟩:ByteArray)=T1 at*;have hl1:Bb (Hm.rdA s)≤s.length:=by rw[HRA.out];exact Al2 (Ij _ _) (D6 _ _)
 go_wp2_with fail;refine(Hy w.heap.size _ _ w1 H1.out.1).mono ?_;rintro e w2 ⟨rfl,hr2,hk2⟩;rw[←HRA.out]at hr2;have H2:Hid (Au w2 w.heap.size (Hm.rdA s)∧Apd w w2):=⟨hr2,H1.out.2.trans hk2 (fun j h1 h2=>by omega)⟩;clear hr2 hk2 H1 HRA;go_wp2_with fail;refine(J8 w.heap.size (Hm.rdA s) 1 w2 H2.out.1 (by omega) (by omega)).mono ?_;rintro e w3 ⟨rfl,hr3,hk3⟩;have hfm:=Hd (Hm.rdA s) 1;have hl3:Bb (Hm.rdF s).2≤s.length:=Al2 (D6 _ _) hl1;have H3:Hid (Au w3 w.heap.size (Hm.rdF s).2∧Apd w w3):=⟨hr3,H2.out.2.trans hk3 (fun j h1 h2=>by omega)⟩;rw[show Bu (Hm.rdA s) 1=Hm.rdF s from rfl]at hfm⊢;clear hr3 hk3 H2;go_wp2_with fail;refine(J8 w.heap.size (Hm.rdF s).2 2 w3 H3.out.1 (by omega) (by omega)).mono ?_;rintro e w4 ⟨rfl,hr4,hk4⟩;have hnm:=Hd (Hm.rdF s).2 2;have hl4:Bb (Hm.rdN s).2≤s.length:=Al2 (D6 _ _) hl3;have H4:Hid (Au w4 w.heap.size (Hm.rdN s).2∧Apd w w4):=⟨hr4,H3.out.2.trans hk4 (fun j h1 h2=>by omega)⟩;rw[show Bu (Hm.rdF s).2 2=Hm.rdN s from rfl]at hnm⊢;clear hr4 hk4 H3;go_wp2_with fail;refine(J8 w.heap.size (Hm.rdN s).2 2 w4 H4.out.1 (by omega) (by omega)).mono ?_;rintro e w5 ⟨rfl,hr5,hk5⟩;have hrm:=Hd (Hm.rdN s).2 2;have hl5:Bb (Hm.rdR s).2≤s.length:=Al2 (D6 _ _) hl4;have H5:Hid (Au w5 w.heap.size (Hm.rdR s).2∧Apd w w5):=⟨hr5,H4.out.2.trans hk5 (fun j h1 h2=>by omega)⟩;rw[show Bu (Hm.rdN s).2 2=Hm.rdR s from rfl]at hrm⊢;have HRB:Hid (Hm.rdB s=C6 (Hm.rdR s).2 (decide ((Hm.rdR s).1≤(Hm.rdN s).1))):=rfl;have hl6:Bb (Hm.rdB s)≤s.length:=by rw[HRB.out];exact Al2 (Ij _ _) hl5
 have HRM:Hid (Hm.rdM s=As (Hm.rdF s).1 (Hm.rdB s)):=rfl;clear hr5 hk5 H4 hl1 hl3 hl4 hl5;obtain⟨m,hm⟩: ∃m,m=(Hm.rdF s).1:=⟨_,rfl⟩;obtain⟨n,hn⟩: ∃n,n=(Hm.rdN s).1:=⟨_,rfl⟩;obtain⟨root,hroot⟩: ∃r,r=(Hm.rdR s).1:=⟨_,rfl⟩;rw[←hm]at hfm HRM⊢;rw[←hn]at hnm HRB⊢;rw[←hroot]at hrm HRB⊢;have hmb:m≤255:=by simp at hfm;omega
 have hnb:n≤65535:=by simp at hnm;omega
 have hrb:root≤65535:=by simp at hrm;omega
 have HV:Hid (m=(Hm.rdF s).1∧n=(Hm.rdN s).1∧root=(Hm.rdR s).1):=⟨hm,hn,hroot⟩;clear hfm hnm hrm hm hn hroot;go_wp2_with fail;refine(Hy w.heap.size (Hm.rdR s).2 (decide (root≤n)) w5 H5.out.1).mono ?_;rintro e w6 ⟨rfl,hr6,hk6⟩;rw[←HRB.out]at hr6;have H6:Hid (Au w6 w.heap.size (Hm.rdB s)∧Apd w w6):=⟨hr6,H5.out.2.trans hk6 (fun j h1 h2=>by omega)⟩;clear hr6 hk6 H5;go_wp2_with fail;have hpa:=Alw H6.out.1;generalize hpe:w6.heap.size=pa at hpa⊢;have H7:Hid (Au (w6.alloc (.cells Tryz.zeroCells102 102)) w.heap.size (Hm.rdB s)∧Apd w (w6.alloc (.cells Tryz.zeroCells102 102))∧(w6.alloc (.cells Tryz.zeroCells102 102)).heap[pa]?=some (.cells (Ke (.slice none 0 0) Gf (B7 Tryz.zeroCells96 0 (List.replicate 256 0)) Dj).toArray 102 (0,0))∧pa<(w6.alloc (.cells Tryz.zeroCells102 102)).heap.size):=by
  refine⟨H6.out.1.kept ((Aa.refl (fun _=>False) w6).alloc _) id,H6.out.2.alloc _,?_,?_⟩
  ·rw[←Adq,←hpe];exact All w6 _
  ·rw[←hpe];simp
 generalize w6.alloc (.cells Tryz.zeroCells102 102)=W7 at H7⊢;obtain⟨R0,hR0⟩: ∃R0,R0=B7 Tryz.zeroCells96 0 (List.replicate 256 0):=⟨_,rfl⟩;have hR0l:R0.length=1030:=by rw[hR0];exact Io _ 0 _ Hf Alj
 rw[←hR0]at H7;clear hpe H6 hR0;refine(Ahv w.heap.size (Hm.rdB s) m W7 H7.out.1 hmb (by omega)).mono ?_;rintro e w8 ⟨rfl,hg8,hr8,hk8⟩;rw[←HRM.out]at hg8 hr8;have hga:pa<W7.heap.size:=H7.out.2.2.2;generalize W7.heap.size=gn at hg8 hga⊢;have hrow8:=hk8.row H7.out.2.2.1 (fun h=>by omega);have c0:w8.cell? ⟨pa,0,none⟩=some (.slice none 0 0):=Alc _ _ 0 _ _ _ hrow8;have f0:w8.frozen? ⟨pa,0,none⟩=false:=Alk _ _ 0 _ _ hrow8;have hl8:Bb (Hm.rdM s).2≤s.length:=by rw[HRM.out];exact Al2 (N4 _ _) hl6
 have H8:Hid (Au w8 w.heap.size (Hm.rdM s).2∧Apd w w8∧w8.heap[pa]?=some (.cells (Ke (.slice none 0 0) Gf R0 Dj).toArray 102 (0,0))∧w8.heap[gn]?=some (.cells (Fo (Hm.rdM s).1).toArray 9 (0,0))):=⟨hr8,H7.out.2.1.trans hk8 (fun j h1 h2=>by omega),hrow8,hg8⟩;clear hr8 hk8 hg8 hrow8 H7 hl6;go_wp2_with fail;have hk9:Aa (fun j=>j=pa) w8 (w8.setCell ⟨pa,0,none⟩ (.slice (some ⟨gn,0,none⟩) m m)):=(Aa.refl (fun j=>j=pa) w8).setCell (p:=⟨pa,0,none⟩) (.inr rfl) _;have hrow9:=Alf _ _ 0 _ _ (.slice (some ⟨gn,0,none⟩) m m) H8.out.2.2.1;rw[Agd]at hrow9;have H9:Hid (Au (w8.setCell ⟨pa,0,none⟩ (.slice (some ⟨gn,0,none⟩) m m)) w.heap.size (Hm.rdM s).2∧Apd w (w8.setCell ⟨pa,0,none⟩ (.slice (some ⟨gn,0,none⟩) m m))∧(w8.setCell ⟨pa,0,none⟩ (.slice (some ⟨gn,0,none⟩) m m)).heap[pa]?=some (.cells (Ke (.slice (some ⟨gn,0,none⟩) m m) Gf R0 Dj).toArray 102 (0,0))∧(w8.setCell ⟨pa,0,none⟩ (.slice (some ⟨gn,0,none⟩) m m)).heap[gn]?=some (.cells (Fo (Hm.rdM s).1).toArray 9 (0,0))):=
  ⟨H8.out.1.kept hk9 (fun h=>by omega),H8.out.2.1.trans hk9 (fun j h1 h2=>by omega),hrow9,hk9.row H8.out.2.2.2 (fun h=>by omega)⟩
 generalize w8.setCell ⟨pa,0,none⟩ (.slice (some ⟨gn,0,none⟩) m m)=W9 at H9⊢;obtain⟨NV,hNV⟩: ∃x,x=(Value.slice (some ⟨gn,0,none⟩) m m):=⟨_,rfl⟩;rw[←hNV]at H9⊢;have HNV:Hid (NV=(Value.slice (some ⟨gn,0,none⟩) m m)):=hNV;clear hNV;clear hk9 hrow9 H8 c0 f0;refine(Agb hones w.heap.size (Hm.rdM s).2 m n W9 H9.out.1 hmb hnb (by omega)).mono ?_;rintro e w10 ⟨hk10,EV,st7,rfl,hE,hr10⟩;have hB9:gn<W9.heap.size:=Alw H9.out.2.2.2;have hrow10:=hk10.row H9.out.2.2.1 (fun h=>by omega);have hl10:Bb st7≤s.length:=Al2 hE.rest hl8;have H10:Hid (Au w10 w.heap.size st7∧Apd w w10∧w10.heap[gn]?=some (.cells (Fo (Hm.rdM s).1).toArray 9 (0,0))∧E6 (gn+1) w10 (Hm.rdM s).2 m n EV st7):=⟨hr10,H9.out.2.1.trans hk10 (fun j h1 h2=>by omega),hk10.row H9.out.2.2.2 (fun h=>by omega),hE.le hB9⟩;have hEs:EV.toArray.size=5:=hE.len;have hE1:=hE.one;have hrw:w10.heap[pa]?=some (.cells ([NV]++(Gf++(R0++Dj))).toArray 102 (0,0)):=hrow10;obtain⟨EA,hEA⟩: ∃EA,EA=EV.toArray:=⟨_,rfl⟩;rw[←hEA]at hEs hE1⊢;have HEA:Hid (EA=EV.toArray):=hEA;clear hr10 hk10 hE hrow10 H9 hl8 hEA
 go_wp2_with(first
  |(refine K2 _ rfl 87 _ _ rfl pa 1 102 [NV] Gf (R0++Dj) EA rfl rfl hrw rfl hEs.symm (by rw[hEs];exact Af6) hE1 ?_;intro w11 hw11 hk11))
 have H11:Hid (Au w11 w.heap.size st7∧Apd w w11∧w11.heap[gn]?=some (.cells (Fo (Hm.rdM s).1).toArray 9 (0,0))∧E6 (gn+1) w11 (Hm.rdM s).2 m n EV st7∧w11.heap[pa]?=some (.cells ([NV]++(EA.toList++(R0++Dj))).toArray 102 (0,0))):=
  ⟨H10.out.1.kept hk11 (fun h=>by omega),H10.out.2.1.trans hk11 (fun j h1 h2=>by omega),hk11.row H10.out.2.2.1 (fun h=>by omega),H10.out.2.2.2.kept hk11 (fun j h1 h2 h3=>by omega),hw11⟩
 clear hw11 hk11 H10 hrw;obtain⟨L,hL⟩: ∃L,L=(Hm.rdL st7).1:=⟨_,rfl⟩;obtain⟨st8,hst8⟩: ∃x,x=(Hm.rdL st7).2:=⟨_,rfl⟩;have hLl:L.length=256:=by rw[hL];exact I9 _ _
 have hLx: ∀x∈L,x≤255:=by rw[hL];exact Y2 _ _
 have hl12:Bb st8≤s.length:=by rw[hst8];exact Al2 (O4 _ _) (Al2 (D6 _ _) hl10)
 refine(Ads w.heap.size st7 w11 H11.out.1 (by omega)).mono ?_;rintro e w12 ⟨rfl,hr12,hk12⟩
 replace hr12:Au w12 w.heap.size (Hm.rdL st7).2:=hr12
 rw[show Bp (Bu st7 2).2 (Bu st7 2).1=Hm.rdL st7 from rfl];rw[←hst8]at hr12;rw[←hL];have HL:Hid (L=(Hm.rdL st7).1∧st8=(Hm.rdL st7).2):=⟨hL,hst8⟩;have H12:Hid (Au w12 w.heap.size st8∧Apd w w12∧w12.heap[gn]?=some (.cells (Fo (Hm.rdM s).1).toArray 9 (0,0))∧E6 (gn+1) w12 (Hm.rdM s).2 m n EV st7∧w12.heap[pa]?=some (.cells ([NV]++(EA.toList++(R0++Dj))).toArray 102 (0,0))):=
  ⟨hr12,H11.out.2.1.trans hk12 (fun j h1 h2=>by omega),hk12.row H11.out.2.2.1 (fun h=>by omega),H11.out.2.2.2.1.kept hk12 (fun j h1 h2 h3=>by omega),hk12.row H11.out.2.2.2.2 (fun h=>by omega)⟩
 clear hr12 hk12 H11 hL hst8 hl10;have hrt:=Af0 hones w.heap.size st8 n L w12 H12.out.1 hnb hLl hLx (by omega);obtain⟨LA,hLA⟩: ∃x,x=(Ac L).toArray:=⟨_,rfl⟩;rw[←hLA]at hrt⊢;clear hLA hLx;go_wp2_with fail;refine hrt.mono ?_;rintro e w13 ⟨hk13,VA,T,ok,rfl,hT,hr13⟩;obtain⟨st9,hst9⟩: ∃x,x=(A5 (C6 st8 ok) T.size).2:=⟨_,rfl⟩;rw[←hst9]at hr13;have hl13:Bb st9≤s.length:=by rw[hst9];exact Al2 (D6 _ _) (Al2 (Ij _ _) hl12)
 obtain⟨ws,hws1,hws2,hws3⟩:=hT.weights hnb;have hB12:gn<w12.heap.size:=Alw H12.out.2.2.1;have hmk:=fun W=>Ab2 VA root ws W hT.size hT.one hws1 hws2 hws3;have hRs:(B7 VA root (Hm.firsts ws)).toArray.size=1030:=by rw[Alq];exact Io VA root _ hT.size (by unfold Hm.firsts;rw[Al6,Aoc])
 have hR1:=Sb VA root (Hm.firsts ws) hT.one;obtain⟨RA,hRA⟩: ∃x,x=(B7 VA root (Hm.firsts ws)).toArray:=⟨_,rfl⟩;rw[←hRA]at hmk hRs hR1;have HRA:Hid (RA=(B7 VA root (Hm.firsts ws)).toArray∧ws.length=256∧(∀b,b<256→VA[516+b]?=some (.int .i64 (ws.getD b 0:Nat)))∧st9=(A5 (C6 st8 ok) T.size).2):=⟨hRA,hws1,hws2,hst9⟩;have H13:Hid (Au w13 w.heap.size st9∧Apd w w13∧w13.heap[gn]?=some (.cells (Fo (Hm.rdM s).1).toArray 9 (0,0))∧E6 (gn+1) w13 (Hm.rdM s).2 m n EV st7∧w13.heap[pa]?=some (.cells ([NV]++(EA.toList++(R0++Dj))).toArray 102 (0,0))∧Db (gn+1) w13 (st8.getD []) n L VA T ok):=
  ⟨hr13,H12.out.2.1.trans hk13 (fun j h1 h2=>by omega),hk13.row H12.out.2.2.1 (fun h=>by omega),H12.out.2.2.2.1.kept hk13 (fun j h1 h2 h3=>by omega),hk13.row H12.out.2.2.2.2 (fun h=>by omega),hT.le hB12⟩
 clear hr13 hk13 H12 hrt hT hst9 hRA hws1 hws2 hws3 hl12 hB12;go_wp2_with fail;refine(hmk _).mono ?_;rintro e w14 ⟨rfl,hk14⟩;have hrw:w14.heap[pa]?=some (.cells (([NV]++EA.toList)++(R0++Dj)).toArray 102 (0,0)):=by rw[Alx];exact hk14.row H13.out.2.2.2.2.1 id
 have H14:Hid (Au w14 w.heap.size st9∧Apd w w14∧w14.heap[gn]?=some (.cells (Fo (Hm.rdM s).1).toArray 9 (0,0))∧E6 (gn+1) w14 (Hm.rdM s).2 m n EV st7∧Db (gn+1) w14 (st8.getD []) n L VA T ok):=
  ⟨H13.out.1.kept hk14 id,H13.out.2.1.trans hk14 (fun _ _ h=>h),hk14.row H13.out.2.2.1 id,H13.out.2.2.2.1.kept hk14 (fun _ _ _=>id),H13.out.2.2.2.2.2.kept hk14 (fun _ _ _=>id)⟩
 have hAl:([NV]++EA.toList).length=6:=by simp[hEs]
 clear hk14 H13 hmk
 go_wp2_with(first
  |(refine K2 _ rfl 98 _ _ rfl pa 6 102 ([NV]++EA.toList) R0 Dj RA rfl rfl hrw hAl (by rw[hRs];exact hR0l) (by rw[hRs];exact Mo) hR1 ?_;intro w15 hw15 hk15))
 have H15:Hid (Au w15 w.heap.size st9∧Apd w w15∧w15.heap[gn]?=some (.cells (Fo (Hm.rdM s).1).toArray 9 (0,0))∧E6 (gn+1) w15 (Hm.rdM s).2 m n EV st7∧Db (gn+1) w15 (st8.getD []) n L VA T ok∧w15.heap[pa]?=some (.cells (([NV]++EA.toList)++(RA.toList++Dj)).toArray 102 (0,0))):=
  ⟨H14.out.1.kept hk15 (fun h=>by omega),H14.out.2.1.trans hk15 (fun j h1 h2=>by omega),hk15.row H14.out.2.2.1 (fun h=>by omega),H14.out.2.2.2.1.kept hk15 (fun j h1 h2 h3=>by omega),H14.out.2.2.2.2.kept hk15 (fun j h1 h2 h3=>by omega),hw15⟩
 clear hw15 hk15 H14 hrw;refine(Agc hones hLn w.heap.size st9 n w15 H15.out.1 hnb (by omega)).mono ?_;rintro e w16 ⟨hk16,SV,st10,rfl,hSg,hr16⟩;have hB15:gn<w15.heap.size:=Alw H15.out.2.2.1;have hl16:Bb st10≤s.length:=Al2 hSg.rest hl13;have hSs:SV.toArray.size=4:=hSg.len;have hS1:=hSg.one;have hrw:w16.heap[pa]?=some (.cells ((([NV]++EA.toList)++RA.toList)++(Dj++[])).toArray 102 (0,0)):=by rw[Am4,Alx ([NV]++EA.toList)];exact hk16.row H15.out.2.2.2.2.2 (fun h=>by omega)
 have H16:Hid (Au w16 w.heap.size st10∧Apd w w16∧w16.heap[gn]?=some (.cells (Fo (Hm.rdM s).1).toArray 9 (0,0))∧E6 (gn+1) w16 (Hm.rdM s).2 m n EV st7∧Db (gn+1) w16 (st8.getD []) n L VA T ok∧Ip (gn+1) w16 st9 n SV st10):=
  ⟨hr16,H15.out.2.1.trans hk16 (fun j h1 h2=>by omega),hk16.row H15.out.2.2.1 (fun h=>by omega),H15.out.2.2.2.1.kept hk16 (fun j h1 h2 h3=>by omega),H15.out.2.2.2.2.1.kept hk16 (fun j h1 h2 h3=>by omega),hSg.le hB15⟩
 obtain⟨SA,hSA⟩: ∃x,x=SV.toArray:=⟨_,rfl⟩;rw[←hSA]at hSs hS1⊢;have HSA:Hid (SA=SV.toArray):=hSA;have hAl2:(([NV]++EA.toList)++RA.toList).length=1036:=by simp[hEs,hRs]
 clear hr16 hk16 H15 hSg hl13 hSA hB15
 go_wp2_with(first
  |(refine K2 _ rfl 100 _ _ rfl pa 1036 102 (([NV]++EA.toList)++RA.toList) Dj [] SA rfl rfl hrw hAl2 hSs.symm (by rw[hSs];exact Ahz) hS1 ?_;intro w17 hw17 hk17))
 have hga2:w.heap.size≤gn+1:=by omega
 have H17:Hid (Au w17 w.heap.size st10∧Apd w w17∧w17.heap[gn]?=some (.cells (Fo (Hm.rdM s).1).toArray 9 (0,0))∧E6 (gn+1) w17 (Hm.rdM s).2 m n EV st7∧Db (gn+1) w17 (st8.getD []) n L VA T ok∧Ip (gn+1) w17 st9 n SV st10∧w17.heap[pa]?=some (.cells (Ke NV EV (B7 VA root (Hm.firsts ws)) SV).toArray 102 (0,0))):=
  ⟨H16.out.1.kept hk17 (fun h=>by omega),H16.out.2.1.trans hk17 (fun j h1 h2=>by omega),hk17.row H16.out.2.2.1 (fun h=>by omega),H16.out.2.2.2.1.kept hk17 (fun j h1 h2 h3=>by omega),H16.out.2.2.2.2.1.kept hk17 (fun j h1 h2 h3=>by omega),H16.out.2.2.2.2.2.kept hk17 (fun j h1 h2 h3=>by omega),by
   rw[hw17,HEA.out,HRA.out.1,HSA.out];unfold Ke;simp only[Am4,Alx,Aok,Aoo]⟩
 clear hw17 hk17 H16 hrw;have hfin:(Bu st10 4).2=some []→4≤s.length∧s.length≤1000000:=fun hx=>by
  obtain⟨v1,v2,v3⟩:=HV.out;have hE:=H17.out.2.2.2.1;have hT:=H17.out.2.2.2.2.1;have hSg:=H17.out.2.2.2.2.2.1;rw[v1,v2]at hE;rw[v2]at hT hSg;exact(Ub hE HL.out hT HRA.out.2.2.2 hSg hx).1
 have hsum:=Ah0 w.heap.size st10 s w17 H17.out.1 (by omega) hfin (by omega);rw[←HS.out]at hsum;clear hfin;refine hsum.mono ?_;rintro e w18 ⟨rfl,hr18,hk18⟩;have cb:=hr18.bad;have H18:Hid (Apd w w18∧Ld w.heap.size w18 s pa (!(N6 s st10).isNone)):=by
  obtain⟨v1,v2,v3⟩:=HV.out;refine⟨H17.out.2.1.trans hk18 (fun j h1 h2=>by omega),?_⟩;have hE:=(H17.out.2.2.2.1.kept hk18 (fun j h1 h2 h3=>by omega)).le (show w.heap.size≤_ from hga2);have hT:=(H17.out.2.2.2.2.1.kept hk18 (fun j h1 h2 h3=>by omega)).le (show w.heap.size≤_ from hga2);have hSg:=(H17.out.2.2.2.2.2.1.kept hk18 (fun j h1 h2 h3=>by omega)).le (show w.heap.size≤_ from hga2);have hrow:=hk18.row H17.out.2.2.2.2.2.2 (fun h=>by omega);rw[HNV.out,v1,v3]at hrow;rw[v1,v2]at hE;rw[v2]at hT hSg;exact Age hE HL.out hT HRA.out.2.2.2 hSg ⟨HRA.out.2.1,HRA.out.2.2.1⟩ hrow (hk18.row H17.out.2.2.1 (fun h=>by omega)) (by omega)
 generalize(N6 s st10).isNone=bad at cb H18;clear hr18 hk18 hsum H17;go_wp2_with fail;go_quiet(fail);go_wp2_with fail;go_ret2;exact⟨H18.out.1.drewN _,pa,_,by omega,rfl,H18.out.2.kept ((Aa.refl (fun _=>False) w18).drewN _) (fun _ _ _=>id) id⟩
def Hu(B:Nat)(w:World)(pa:Nat)(s l6:List UInt8)(L:List Nat)(l8:List UInt8)(st:B0):Prop:=
 ∃gn ge g ng nc gs,B≤gn∧B≤ge∧B≤g∧B≤ng∧B≤gs∧
   w.heap[pa]?=some (.cells (Ke (.slice (some ⟨gn,0,none⟩) (Hm.rdF s).1 (Hm.rdF s).1) (Gs l6 (Hm.rdF s).1 (Hm.rdN s).1 ge)
    (B7 (Ba ⟨(l8.take (Hm.szB st.len)).toArray⟩ st.len g (Bc L) (.slice (some ⟨ng,0,none⟩) st.nds.length nc) st.ws (Hm.rdN s).1).toArray (Hm.rdR s).1 (Hm.firsts st.ws))
    (Ht (l8.drop (Hm.szB st.len)) (Hm.rdN s).1 gs)).toArray 102 (0,0))∧
   w.heap[gn]?=some (.cells (Fo (Hm.rdM s).1).toArray 9 (0,0))∧
   IntRow w ge (Bt (l6.take (Hm.szB (Am (Hm.rdF s).1 (Hm.rdN s).1))))∧IntRow w g (Bt (l8.take (Hm.szB st.len)))∧
   w.ownsRow 0 195 9 (.slice (some ⟨ng,0,none⟩) st.nds.length nc) st.nds.length (A9 st.nds)∧
   IntRow w gs (Bt ((l8.drop (Hm.szB st.len)).take (Hm.szB (Aw (Hm.rdN s).1))))
theorem Ld.arch{B:Nat}{w':World}{s:List UInt8}{pa:Nat}{ok:Bool}(h:Ld B w' s pa ok):(ok=true∧ ∃l6 L l8 st,Fe s l6 L l8 st∧Hu B w' pa s l6 L l8 st)∨(ok=false∧ ∀l6 L l8 st,¬Fe s l6 L l8 st):=by
 rcases h with⟨h1,l6,L,l8,st,gn,ge,g,ng,nc,gs,a1,b⟩|h1
 ·exact .inl ⟨h1,l6,L,l8,st,a1,gn,ge,g,ng,nc,gs,b⟩
 ·exact .inr h1
theorem Hu.kept{B:Nat}{w' w2:World}{pa:Nat}{s l6:List UInt8}{L:List Nat}{l8:List UInt8}{st:B0}(h:Hu B w' pa s l6 L l8 st){S:Nat→Prop}(hk:Aa S w' w2)(hn: ∀j,B≤j→j<w'.heap.size→ ¬S j)(hp: ¬S pa):Hu B w2 pa s l6 L l8 st:=by
 obtain⟨gn,ge,g,ng,nc,gs,b1,b2,b3,b4,b5,a2,a3,a4,a5,a6,a7⟩:=h;exact⟨gn,ge,g,ng,nc,gs,b1,b2,b3,b4,b5,hk.row a2 hp,hk.row a3 (hn gn b1 (Alw a3)),a4.kept hk (hn ge b2 a4.lt),a5.kept hk (hn g b3 a5.lt),hk.owns a6 (fun j hj=>by have e1:ng=j:=Al1 hj;rw[←e1];exact hn ng b4 (a6.lt ng rfl).2),a7.kept hk (hn gs b5 a7.lt)⟩
theorem P7(nv:Value)(E R S:List Value)(hE:E.length=5)(j:Nat)(hj:j<R.length):(Ke nv E R S)[6+j]?=R[j]?:=by
 unfold Ke;rw[show 6+j=(5+j)+1 from by omega,Aog,Alt (by omega),hE,show 5+j-5=j from by omega,Amh hj]
theorem Agf(VA:Array Value)(root:Nat)(fs:List Nat)(hv:VA.size=773)(j:Nat)(hj:j<773):(B7 VA root fs)[j]?=VA[j]?:=by
 unfold B7;rw[Amh (by rw[Anh];omega),Array.getElem?_toList]
theorem Agg(VA:Array Value)(root:Nat)(fs:List Nat)(hv:VA.size=773):(B7 VA root fs)[773]?=some (.int .i64 (root:Nat)):=by
 unfold B7;rw[Alt (by rw[Anh];omega),Anh,hv,Amr];rfl
theorem Ab3(VA:Array Value)(root:Nat)(ws:List Nat)(hv:VA.size=773)(b:Nat)(hb:b<256):(B7 VA root (Hm.firsts ws))[774+b]?=some (.int .i64 (C5 ws b:Nat)):=by
 unfold B7;rw[Alt (by rw[Anh];omega),Anh,hv,show 774+b-773=b+1 from by omega,Aog];unfold Ac Hm.firsts;rw[Alu,Alu,Amw hb];rfl
structure Se(w:World)(pa:Nat)(s l6:List UInt8)(L:List Nat)(l8:List UInt8)(st:B0)(gn ge g ng nc gs:Nat):Prop where
 names:w.cell? ⟨pa,0,none⟩=some (.slice (some ⟨gn,0,none⟩) (Hm.rdF s).1 (Hm.rdF s).1)
 nblock:w.heap[gn]?=some (.cells (Fo (Hm.rdM s).1).toArray 9 (0,0))
 ends:D3 w pa 1 ⟨(l6.take (Hm.szB (Am (Hm.rdF s).1 (Hm.rdN s).1))).toArray⟩ (Am (Hm.rdF s).1 (Hm.rdN s).1) ge (Hm.rdF s).1 (Cy (Hm.rdF s).1 (Hm.rdN s).1)
 rows:E2 w pa 6 ⟨(l8.take (Hm.szB st.len)).toArray⟩ st.len g ng nc st.nds (Hm.rdR s).1 st.ws
 total:w.cell? ⟨pa,778,none⟩=some (.int .i64 ((Hm.rdN s).1:Nat))
theorem Hu.parts{B:Nat}{w:World}{pa:Nat}{s l6:List UInt8}{L:List Nat}{l8:List UInt8}{st:B0}(h:Hu B w pa s l6 L l8 st)(hp:Fe s l6 L l8 st): ∃gn ge g ng nc gs,Se w pa s l6 L l8 st gn ge g ng nc gs:=by
 obtain⟨gn,ge,g,ng,nc,gs,b1,b2,b3,b4,b5,a2,a3,a4,a5,a6,a7⟩:=h;refine⟨gn,ge,g,ng,nc,gs,?_⟩;have hel:=hp.ends.fits;have hse:(⟨(l6.take (Hm.szB (Am (Hm.rdF s).1 (Hm.rdN s).1))).toArray⟩:ByteArray).size=Hm.szB (Am (Hm.rdF s).1 (Hm.rdN s).1):=by
  show(l6.take _).toArray.size=_;rw[Alq,Aln];omega
 have htl:=Ng hp.tree (N7 s);obtain⟨col,c1,c2,cw⟩:=N5 hp.tree;have hvs:(Ba ⟨(l8.take (Hm.szB st.len)).toArray⟩ st.len g (Bc L) (.slice (some ⟨ng,0,none⟩) st.nds.length nc) st.ws (Hm.rdN s).1).toArray.size=773:=by
  rw[Alq];exact Cz _ _ _ _ _ _ _ (A3 _ _ _ _) cw.1
 have hel5:(Gs l6 (Hm.rdF s).1 (Hm.rdN s).1 ge).length=5:=rfl;have hrl:=Io (Ba ⟨(l8.take (Hm.szB st.len)).toArray⟩ st.len g (Bc L) (.slice (some ⟨ng,0,none⟩) st.nds.length nc) st.ws (Hm.rdN s).1).toArray (Hm.rdR s).1 (Hm.firsts st.ws) hvs (by unfold Hm.firsts;rw[Al6,Aoc]);have hc: ∀j,j<773→w.cell? ⟨pa,6+j,none⟩=(Ba ⟨(l8.take (Hm.szB st.len)).toArray⟩ st.len g (Bc L) (.slice (some ⟨ng,0,none⟩) st.nds.length nc) st.ws (Hm.rdN s).1)[j]?:=fun j hj=>by
  rw[Alc _ _ (6+j) _ _ _ a2,Alz,P7 _ _ _ _ hel5 j (by omega),Agf _ _ _ hvs j hj,Alz]
 refine⟨Alc _ _ 0 _ _ _ a2,a3,⟨⟨Alc _ _ 1 _ _ _ a2,Alc _ _ 2 _ _ _ a2,?_,?_⟩,Alc _ _ 4 _ _ _ a2,Alc _ _ 5 _ _ _ a2⟩,⟨⟨⟨hc 0 (by omega),hc 1 (by omega),hc 2 (by omega),?_⟩,?_,a6⟩,?_,fun b hb=>?_⟩,?_⟩
 ·rw[hse];exact Alc _ _ 3 _ _ _ a2
 ·exact a4
 ·exact a5
 ·rw[show 6+515=6+515 from rfl,hc 515 (by omega)];exact On _ _ _ _ _ _ _ (A3 _ _ _ _)
 ·rw[Alc _ _ (6+773) _ _ _ a2,Alz,P7 _ _ _ _ hel5 773 (by omega),Agg _ _ _ hvs]
 ·rw[Alc _ _ (6+774+b) _ _ _ a2,Alz,show 6+774+b=6+(774+b)from by omega,P7 _ _ _ _ hel5 (774+b) (by omega),Ab3 _ _ _ hvs b hb]
 ·rw[show(778:Nat)=6+772 from rfl,hc 772 (by omega)];exact Oo _ _ _ _ _ _ _ (A3 _ _ _ _) cw.1
theorem Y3:(Tryz.prog.info? 38).map (fun i=>(i.zero,i.size,i.bytes))=some (some (.agg #[.string ⟨#[]⟩,.string ⟨#[]⟩]),2,32):=by kernel_rfl
section
variable {P:Program}
end
namespace Hm
abbrev Fl:=ByteArray×ByteArray
def Bx:List Fl→List Value
 |[]=>[]
 |p::r=> .string p.1:: .string p.2::Bx r
theorem Z3(l:List Fl):(Bx l).length=l.length*2:=by
 induction l with
 |nil=>rfl
 |cons p r ih=>simp[Bx,ih];omega
theorem Z4(l r:List Fl):Bx (l++r)=Bx l++Bx r:=by
 induction l with
 |nil=>rfl
 |cons p t ih=>simp[Bx,ih]
theorem P8(l:List Fl): ∀i,(h:i<l.length)→(Bx l)[i*2]?=some (.string l[i].1):=by
 induction l with
 |nil=>intro i h;simp at h
 |cons p r ih=>
  intro i h;cases i with
  |zero=>rfl
  |succ i=>
   have:=ih i (by simpa using h);rw[show(i+1)*2=i*2+1+1 from by omega];simpa[Bx]using this
theorem Nh(l:List Fl): ∀i,(h:i<l.length)→(Bx l)[i*2+1]?=some (.string l[i].2):=by
 induction l with
 |nil=>intro i h;simp at h
 |cons p r ih=>
  intro i h;cases i with
  |zero=>rfl
  |succ i=>
   have:=ih i (by simpa using h);rw[show(i+1)*2+1=i*2+1+1+1 from by omega];simpa[Bx]using this
theorem Adv(l:List Fl)(x:ByteArray): ∀i,(h:i<l.length)→(Bx l).set (i*2) (.string x)=Bx (l.set i (x,l[i].2)):=by
 induction l with
 |nil=>intro i h;simp at h
 |cons p r ih=>
  intro i h;cases i with
  |zero=>rfl
  |succ i=>
   have:=ih i (by simpa using h);rw[show(i+1)*2=i*2+1+1 from by omega];simp[Bx,this]
end Hm
def Dl(w:World)(g:Nat)(l:List Hm.Fl):Prop:=w.heap[g]?=some (.cells (Bx l).toArray 38 (0,0))
theorem Dl.fst{w:World}{g:Nat}{l:List Hm.Fl}(h:Dl w g l){i:Nat}(hi:i<l.length):w.cell? ⟨g,i*2,none⟩=some (.string l[i].1):=by
 rw[Alc _ _ _ _ _ _ h];simpa using P8 l i hi
theorem Dl.snd{w:World}{g:Nat}{l:List Hm.Fl}(h:Dl w g l){i:Nat}(hi:i<l.length):w.cell? ⟨g,i*2+1,none⟩=some (.string l[i].2):=by
 rw[Alc _ _ _ _ _ _ h];simpa using Nh l i hi
theorem Dl.free{w:World}{g:Nat}{l:List Hm.Fl}(h:Dl w g l)(i:Nat):w.frozen? ⟨g,i,none⟩=false:=Alk _ _ i _ _ h
theorem Dl.set1{w:World}{g:Nat}{l:List Hm.Fl}(h:Dl w g l)(i:Nat)(x:ByteArray)(hi:i<l.length):Dl (w.setCell ⟨g,i*2,none⟩ (.string x)) g (l.set i (x,l[i].2)):=by
 have h2:=Alf w g (i*2) _ _ (.string x) h;unfold Dl;rw[h2,←Adv l x i hi];congr 2;apply Am6;simp
theorem Dl.lt{w:World}{g:Nat}{l:List Hm.Fl}(h:Dl w g l):g<w.heap.size:=Alw h
theorem Dl.kept{S:Nat→Prop}{w w':World}{g:Nat}{l:List Hm.Fl}(h:Dl w g l)(hk:Aa S w w')(hn: ¬S g):Dl w' g l:=hk.row h hn
theorem Dl.at{w:World}{g:Nat}{l r:List Hm.Fl}(h:Dl w g (l++r)):Cx w (some ⟨g,0,none⟩) l:=fun i hi=>by
 have h1:=h.fst (i:=i) (by simp;omega);have h2:=h.snd (i:=i) (by simp;omega);rw[List.getElem_append_left hi]at h1 h2;exact⟨g,0,rfl,h.lt,by rw[Al7];exact h1,by rw[Al7];exact h2⟩
theorem Agh(n:Nat):(madeCells (Value.agg #[.string ⟨#[]⟩,.string ⟨#[]⟩]).cells (n*2)).toList=Bx (List.replicate n (⟨#[]⟩,⟨#[]⟩)):=by
 have hl:(Bx (List.replicate n (⟨#[]⟩,⟨#[]⟩))).length=n*2:=by rw[Z3];simp
 apply Amf
 ·rw[hl];simp[madeCells]
 ·intro i h1 h2;have hz:(Value.agg #[.string ⟨#[]⟩,.string ⟨#[]⟩]).cells= #[.string ⟨#[]⟩,.string ⟨#[]⟩]:=rfl;have e1:(madeCells (Value.agg #[.string ⟨#[]⟩,.string ⟨#[]⟩]).cells (n*2)).toList[i]= .string ⟨#[]⟩:=by
   simp[madeCells,hz];rcases Aoy i with h|h<;>simp[h]
  rw[e1];have hil:i<n*2:=by omega
  rcases Aoy i with h|h
  ·have h3:=P8 (List.replicate n (⟨#[]⟩,⟨#[]⟩)) (i/2) (by simp;omega);rw[show i/2*2=i from by omega,Ak7 h2]at h3;simp at h3;exact h3.symm
  ·have h3:=Nh (List.replicate n (⟨#[]⟩,⟨#[]⟩)) (i/2) (by simp;omega);rw[show i/2*2+1=i from by omega,Ak7 h2]at h3;simp at h3;exact h3.symm
theorem Dl.made{w':World}{g n:Nat}{base:Nat}(h:w'.ownsRow base 38 2 (.slice (some ⟨g,0,none⟩) n n) n (madeCells (Value.agg #[.string ⟨#[]⟩,.string ⟨#[]⟩]).cells (n*2)).toList):Dl w' g (List.replicate n (⟨#[]⟩,⟨#[]⟩)):=by
 rcases h.2 with⟨h1,_⟩|⟨g2,cap,cur,h1,_,hg,_,_,hs,ht⟩
 ·cases h1
 ·cases h1;unfold Dl;rw[hg];congr 2;apply Am6;have e:cur.toList.take (n*2)=cur.toList:=Al8 (by simp;omega);rw[←e,ht,Agh]
namespace Hm
end Hm
namespace Hm
noncomputable def Tb(l8:List UInt8)(n:Nat)(st:B0):List UInt8:=Classical.epsilon fun col=>col.length=n∧Kx (l8.take (szB st.len)) st.nds col∧Gj st.ws col
theorem U9{l8:List UInt8}{n:Nat}{L:List Nat}{st:B0}(h:Fm l8 n L st):(Tb l8 n st).length=n∧Kx (l8.take (szB st.len)) st.nds (Tb l8 n st)∧Gj st.ws (Tb l8 n st):=
 Classical.epsilon_spec (p:=fun col=>col.length=n∧Kx (l8.take (szB st.len)) st.nds col∧Gj st.ws col) (N5 h)
def part(t:List UInt8)(a b:Nat):List UInt8:=(t.drop a).take (b-a)
noncomputable def Fp(s l8:List UInt8)(st:B0):List UInt8:=(Cm (Dn (Tb l8 (rdN s).1 st) st.ws (rdR s).1) 0 (rdN s).1).1
theorem M3(s l8:List UInt8)(st:B0):(Fp s l8 st).length=(rdN s).1:=Qs _ _ _
noncomputable def Iq(s l6:List UInt8)(i:Nat):Nat:=Et (Ak (l6.take (szB (Am (rdF s).1 (rdN s).1)))) (rdF s).1 (Cy (rdF s).1 (rdN s).1) i
noncomputable def Ii(s l6:List UInt8)(i:Nat):Nat:=Fb (Ak (l6.take (szB (Am (rdF s).1 (rdN s).1)))) (rdF s).1 (Cy (rdF s).1 (rdN s).1) i
noncomputable def Ah1(s l6 l8:List UInt8)(st:B0)(i:Nat):ByteArray×ByteArray:=((rdM s).1.getD i ⟨#[]⟩,⟨(part (Fp s l8 st) (Iq s l6 i) (Ii s l6 i)).toArray⟩)
noncomputable def A8(s l6 l8:List UInt8)(st:B0):List (ByteArray×ByteArray):=(List.range (rdF s).1).map (Ah1 s l6 l8 st)
theorem F3(s l6 l8:List UInt8)(st:B0):(A8 s l6 l8 st).length=(rdF s).1:=by unfold A8;rw[Al6,Aoc]
theorem Uc(l:List Fl)(x:ByteArray): ∀i,(h:i<l.length)→(Bx l).set (i*2+1) (.string x)=Bx (l.set i (l[i].1,x)):=by
 induction l with
 |nil=>intro i h;simp at h
 |cons p r ih=>
  intro i h;cases i with
  |zero=>simp[Bx]
  |succ i=>
   have:=ih i (by simpa using h);rw[show(i+1)*2+1=(i*2+1)+1+1 from by omega];simp[Bx,this]
end Hm
theorem Dl.set2{w:World}{g:Nat}{l:List Hm.Fl}(h:Dl w g l)(i:Nat)(x:ByteArray)(hi:i<l.length):Dl (w.setCell ⟨g,i*2+1,none⟩ (.string x)) g (l.set i (l[i].1,x)):=by
 have h2:=Alf w g (i*2+1) _ _ (.string x) h;unfold Dl;rw[h2,←Uc l x i hi];congr 2;apply Am6;simp
theorem Dl.put{w:World}{g:Nat}{l:List Hm.Fl}(h:Dl w g l)(i:Nat)(x y:ByteArray)(hi:i<l.length):Dl ((w.setCell ⟨g,i*2,none⟩ (.string x)).setCell ⟨g,i*2+1,none⟩ (.string y)) g (l.set i (x,y)):=by
 have h2:=(h.set1 i x hi).set2 i y (by simpa using hi);simpa using h2
theorem Sf{w:World}{g:Nat}{t:List UInt8}(h:w.heap[g]?=some (.cells (Ag t).toArray 5 (0,0)))(o k c:Nat)(hk:o+k≤t.length):
  (convert 79 9 (.slice (some ⟨g,o,none⟩) k c)).run Tryz.prog w= .ok (.string ⟨((t.drop o).take k).toArray⟩) w:=by
 have hll:((t.drop o).take k).length=k:=by rw[Aln,Amb];omega
 have hr:=run_convert_bytes_arg w _ _ Tryz.underlying79 Tryz.underlying5 g o k c (((t.drop o).take k).map fun b=>(b.toNat:Int)) (by rw[Al6];exact hll) (fun i hi=>by
  have hil:i<((t.drop o).take k).length:=by omega
  rw[Alc _ _ (o+i) _ _ _ h,Alz,Ag,Alu,Ak6,Alu,Ak7 hil,Ak7 (show o+i<t.length by omega),List.getElem_take,List.getElem_drop];rfl) _ Tryz.underlying9
 have e:strOfNums (((t.drop o).take k).map fun b=>(b.toNat:Int))=⟨((t.drop o).take k).toArray⟩:=by
  unfold strOfNums;rw[List.map_map];have e2:((fun n:Int=>UInt8.ofNat n.toNat)∘fun b:UInt8=>(b.toNat:Int))=id:=by funext b;simp
  rw[e2,List.map_id]
 rw[e]at hr;exact hr
theorem Adw{P:Program}{ρ:Operand→Value}{o:Oper}(w:World)(a b:TypeId)(x:Operand)(ho:o.op= .convert a b x)(v r:Value)(hx:ρ x=v)(h:(convert a b v).run P w= .ok r w):(execOp ρ o).run P w= .ok (.value r) w:=by
 unfold execOp;simp only[ho,hx,Sem.run_bind,h,Result.andThen_ok,Sem.run_pure]
theorem Ah2(pb o n:Nat)(w:World)(h:w.cell? ⟨pb,o+772,none⟩=some (.int .i64 (n:Nat))):
  Calls Tryz.prog 35 #[.pointer (some ⟨pb,o,none⟩)] w fun e w'=>e= .returned (.int .i64 (n:Nat))∧w'=w:=by
 go_enter Tryz.func35,Tryz.ntmps35
 go_wp2;go_ret;exact⟨rfl,rfl⟩
namespace Hm
end Hm
namespace Hm
def Ap(s:List UInt8)(ps:List Nat):List UInt8:=(ps.filter fun p=>decide (0<p)).map fun p=>s.getD (p-1) 0
theorem Wh(s:List UInt8)(ps:List Nat)(k:Nat)(h:k<ps.length):Ap s (ps.take (k+1))=Ap s (ps.take k)++if 0<ps[k]then [s.getD (ps[k]-1) 0]else []:=by
 rw[Ali h];unfold Ap;rw[Ang,Am9];congr 1
 by_cases e:0<ps[k]<;>simp[e]
theorem Ajm(s:List UInt8)(ps:List Nat):(Ap s ps).length≤ps.length:=by
 unfold Ap;rw[Al6];exact Ao2 _ _
end Hm
set_option maxHeartbeats 1000000 in
theorem Agi(gp cp:Nat)(s:ByteArray)(ps:List Nat)(w:World)(hp:IntRow w gp ps)(hs:s.size≤6000)(hl:ps.length≤6001)(hx: ∀x∈ps,x≤s.size):
  Calls Tryz.prog 99 #[.string s,.slice (some ⟨gp,0,none⟩) ps.length cp] w fun e w'=> ∃v',e= .returned v'∧w'.ownsRow w.heap.size 5 1 v' (Ap s.data.toList ps).length (Ag (Ap s.data.toList ps))∧Apd w w':=by
 obtain⟨i0,hi,hz0,hz1,hz2⟩:=Amz Ft;have hgp:=hp.lt
 go_enter Tryz.func99,Tryz.ntmps99
 go_wp2_with(at_make;refine wpList_make_own _ rfl _ _ 79 rfl w.heap.size 5 i0 (.int .u8 0) 1 Tryz.underlying79 hi hz0 hz1 .i64 .i64 _ s.size rfl rfl rfl (by rw[hz2];omega) (by unfold maxLen;omega) (Ale _) ?_;intro w1 ho1 hg1)
 have hk1:Apd w w1:=(Aa.refl _ _).grown hg1 (fun k hk=>by cases hk);clear hg1
 go_loopw[5,13] (fun u i wr=> ∃k:Nat,k≤ps.length∧i= .int .i64 k∧wr.ownsRow w.heap.size 5 1 u (Ap s.data.toList (ps.take k)).length (Ag (Ap s.data.toList (ps.take k)))∧Apd w wr) (fun _ i _=>ps.length-(intOf i).toNat)
 case atStart=>exact⟨0,Alr _,rfl,by simpa[Ap,Ag]using ho1,hk1⟩
 case round=>
  clear ho1 hk1;obtain⟨k,hk,rfl,hor,hkr⟩:=hrel;have hcl:=Ajm s.data.toList (ps.take k);have hcl2:(ps.take k).length≤6001:=by simp;omega
  by_cases hlt:k<ps.length
  ·have hc:=(hp.kept hkr id).cell hlt;have hpx:=hx ps[k] (Alo _);have HT:Hid (Ap s.data.toList (ps.take (k+1))=Ap s.data.toList (ps.take k)++if 0<ps[k]then [s.data.toList.getD (ps[k]-1) 0]else []):=Wh _ ps k hlt;generalize ps[k]=p at*;generalize hC:Ap s.data.toList (ps.take k)=C at*
   by_cases hpos:0<p
   ·obtain⟨q,hq⟩: ∃q,p=q+1:=⟨p-1,by omega⟩;subst hq;have hq2:q<s.size:=by omega
    have HT2:Hid (Ap s.data.toList (ps.take (k+1))=C++[s[q]]):=by
     show _=_;have e:s.data.toList.getD (q+1-1) 0=s[q]:=by
      rw[An0,Ak6,Ak7 (by simpa using hq2)];rfl
     rw[HT.out,if_pos hpos,e]
    clear HT hp hx hC
    go_wp2_with(at_builtin;refine A7 _ rfl (.tmp 19) (.tmp 24) 79 rfl w.heap.size 5 i0 (.int .u8 0) 1 1 Tryz.underlying79 hi hz0 hz1 hz2 rfl (by decide) _ _ _ rfl (hor.alloc _) ⟨wr.heap.size,0,none⟩ 1 1 [.int .u8 (s[q].toNat:Int)] rfl rfl ?c1 ?c2 ?c3 ?c4 ?c5 ?_)
    case c1=>exact An9 _ _ _
    case c2=>intro u hu;simp at hu;subst hu;rfl
    case c3=>unfold maxLen;omega
    case c4=>omega
    case c5=>have:=hkr.size;simp;omega
    intro v' w2 ho2 hg2 hm2;have hk2:Apd w w2:=(hkr.alloc _).grown hg2 (fun j hj=> .inl (hor.lt j hj).1);clear hg2 hm2 hor hkr;go_wp2;go_roundw
    case rel=>
     refine⟨k+1,by omega,by go_num,?_,hk2⟩;rw[HT2.out];simpa[Ag]using ho2
    case measure=>simp[intOf];omega
   ·obtain rfl:p=0:=by omega
    have HT2:Hid (Ap s.data.toList (ps.take (k+1))=C):=by
     show _=_;rw[HT.out,if_neg hpos,Am4]
    clear HT hp hx hC;go_wp2;go_roundw
    case rel=>exact⟨k+1,by omega,by go_num,by rw[HT2.out];exact hor,hkr⟩
    case measure=>simp[intOf];omega
  ·go_wp2;go_ret;obtain rfl:k=ps.length:=by omega
   rw[Ama]at hor;exact⟨_,rfl,hor,hkr⟩
set_option maxHeartbeats 400000 in
theorem Ajn(gp c:Nat)(ps:List Nat)(w:World)(hp:IntRow w gp ps)(hl:ps.length≤6001):
  Calls Tryz.prog 102 #[.slice (some ⟨gp,0,none⟩) ps.length c] w fun e w'=>e= .returned (.int .i64 (Lib.idxOf (ps.map fun x:Nat=>(x:Int)) 0))∧w=w':=by
 have hc:=Tryz.slices_Index_int gp 0 ps.length c (ps.map fun x:Nat=>(x:Int)) 0 w (by simp) (by omega) (fun j hj=>by
  have hjl:j<ps.length:=by simpa using hj
  rw[Al7,hp.cell hjl];simp[List.getD_eq_getElem?_getD,hjl])
 rw[show(ps.map fun x:Nat=>(x:Int)).take ps.length=ps.map fun x:Nat=>(x:Int)from Al8 (by simp)]at hc;generalize Lib.idxOf (ps.map fun x:Nat=>(x:Int)) 0=r at*;clear hp
 go_enter Tryz.func102,Tryz.ntmps102
 go_wp2_with(go_at_call 156;refine hc.mono ?_;rintro e w2 ⟨rfl,rfl⟩)
 go_ret;exact⟨rfl,rfl⟩
end Go.Proofs.YtegnkfdbmmndaaaGreat
