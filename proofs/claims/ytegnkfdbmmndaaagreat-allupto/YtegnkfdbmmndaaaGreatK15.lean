import Derived.Test.YtegnkfdbmmndaaaGreatK14

set_option maxHeartbeats 8000000
set_option maxRecDepth 100000
namespace Go.Proofs.YtegnkfdbmmndaaaGreat
open Hm Go.Proofs.Tryz
variable{B m n pa pb:Nat}{l s:Aeg}{T a ah b:ByteArray}{L ps ws:Aeh}{w w' w2 wr:World}{EV vs:Aei}{VA:Array Value}{ok:Bool}{v:Value}
section
open Go.RowKit
theorem qR: ¬Gp [] m n:=fun h=>by
 have h1:=h.fits;have h2:1<=Ak m n:=Aaf (Nat.le_add_left 1 _) (Nat.le_add_left _ _);unfold szB at h1;simp at h1;omega
theorem qS(hones:Bc)(p:Nat)(st:Rd)(m n:Nat)(w:World)(hr:A9 w p st)(hm:m<=255)(hn:n<=65535)(O:Bt st<=4611686018427387904):
  Calls prog 67 #[.pointer (some ⟨p,0,none⟩),.int .i64 m,.int .i64 n] w fun e w'=>Aa (fun j=>j=p) w w'/\
   ((∃l,st=some l/\Gp l m n/\A9 w' p (some (l.drop (szB (Ak m n))))/\ ∃g,w.heap.size<=g/\e= .returned (.agg (Gj l m n g).toArray)/\IntRow w' g (B8 (l.take (szB (Ak m n)))))\/
    ((∀l,st=some l-> ¬Gp l m n)/\A9 w' p none/\e= .returned (.agg Hb.toArray))):=by
 obtain⟨l,hl⟩:=gx (st.getD []);have Q:=fun W=>jB hones l m n W hm hn (by rw[hl];exact O);obtain⟨S,hS⟩:=gx (⟨l.toArray⟩:ByteArray);rw[<-hS]at Q;have f:=hr.rest;rw[<-hl,<-hS]at f;have hp:=hr.lt;have D:=hZ (aI hr (aI hl O));have au:(w.alloc (.cells #[.string ⟨#[]⟩,I 0,.slice none 0 0,I 0,I 0] 87)).cell? (J p 0)=some (.string S):=(((Aa.refl (fun _=>False) w).alloc _).cell (p:=(J p 0)) hp id).trans f;clear hS hl hr O f
 go_enter func67,ntmps67
 go_wp2_with fail;refine(Q _).mono ?_;rintro e k ⟨L,h1⟩;clear Q au;have A:=L.row (zY w (.cells #[.string ⟨#[]⟩,I 0,.slice none 0 0,I 0,I 0] 87)) id;have r:Aee w k:=((Aa.refl (fun _=>False) w).alloc _).tr L;have U:w.heap.size<k.heap.size:=Aac A;have Z: ∃(T:ByteArray) (x:Nat) (u:Aej) (b C lw:Nat) (ok:Bool),e= .returned (.tuple #[.agg #[.string T,I x,.slice u b b,I C,I lw],.bool ok])/\T.size<=4611686018427387904/\
   ((ok=true/\ ∃l,st=some l/\Gp l m n/\T.size=szB (Ak m n)/\ ∃g,w.heap.size<g/\Gj l m n g=[.string T,I x,.slice u b b,I C,I lw]/\IntRow k g (B8 (l.take (szB (Ak m n)))))\/
    (ok=false/\(∀l,st=some l-> ¬Gp l m n)/\Hb=[.string T,I x,.slice u b b,I C,I lw])):=by
  rcases h1 with⟨d,g,hg,rfl,K⟩|⟨hno,rfl⟩
  ·obtain⟨V,R⟩: ∃V,st=some V:=by
    cases st with
    |none=>rw[D.o.2.1]at d;exact absurd d qR
    |some V=>exact⟨V,rfl⟩
   have s:l=V:=by rw[D.o.2.1,R];rfl
   subst s;have y:(⟨(l.take (szB (Ak m n))).toArray⟩:ByteArray).size=szB (Ak m n):=by have:=d.fits;show(l.take _).toArray.size=_;simp;omega
   have av:l.length<=4611686018427387904:=by have:=D.o.2.2;rw[R]at this;exact this
   exact⟨_,_,_,_,_,_,_,rfl,by rw[y];exact Aaf d.fits av,.inl ⟨rfl,l,R,d,y,g,by simp at hg;omega,rfl,K⟩⟩
  ·refine⟨_,0,_,_,0,0,_,rfl,by show(0:Nat)<=_;omega,.inr ⟨rfl,fun V h=>?_,rfl⟩⟩;have s:l=V:=by rw[D.o.2.1,h];rfl
   rw[<-s];exact hno
 obtain⟨T,x,u,b,C,lw,ok,rfl,y,HP⟩:=Z;have aq:Hid _:=HP;have ac:=fun W (h:A9 W p st)=>Jd p st ok W h;have aj:=fun W (h:A9 W p (Dk st ok))=>Mr p (Dk st ok) T.size W h (Aaf (Jl st ok) D.o.2.2) y;have H1:Hid (k.heap[w.heap.size]?=some (.cells #[.string ⟨#[]⟩,I 0,.slice none 0 0,I 0,I 0] 87 (0,0))/\Aee w k/\A9 k p st/\w.heap.size<k.heap.size):=
  ⟨A,r,D.o.1.kept r id,U⟩
 have X:Hid _:=ac;have Y:Hid _:=aj;obtain⟨B,hB⟩:=gx k.heap.size;obtain⟨G,z⟩:=gx (k.alloc (.cells #[.string T,I x,.slice u b b,I C,I lw] 87));have q:Aee k G:=by rw[z];exact(Aa.refl _ _).alloc _
 have t:Hid (G.heap[B]?=some (.cells #[.string T,I x,.slice u b b,I C,I lw] 87 (0,0))/\G.heap[w.heap.size]?=some (.cells #[.string ⟨#[]⟩,I 0,.slice none 0 0,I 0,I 0] 87 (0,0))/\Aee w G/\A9 G p st/\w.heap.size<B/\Aee k G):=
  ⟨by rw[z,hB];exact zY k _,q.row A id,r.tr q,(D.o.1.kept r id).kept q id,by rw[hB];exact U,q⟩
 have F:=hZ (aI z.symm hB.symm);clear HP ac aj A r U L D z hB q h1 H1;go_upto_region 2 with fail
 rw[F.o.1,F.o.2];clear F;have ab:=X.o G t.o.2.2.2.1;go_wp2_with fail;refine ab.mono ?_;rintro e w2 ⟨rfl,ag,M⟩;have ad:p≠B:=by have:=t.o.2.2.2.2.1;omega
 have ae:p≠w.heap.size:=by omega
 have c0:w2.cell? (J B 0)=some (.string T):=(M.cell (p:=(J B 0)) (Aac t.o.1) (fun h=>ad h.symm)).trans (zP _ _ 0 _ _ _ t.o.1);have ai:=Y.o w2 ag;have af:=fun W (h:W.cell? (J B 0)=some (.string T))=>Ls B 0 T W h;have E:=af w2 c0;have H3:=hZ M;clear ab ag M X af;go_wp2_with fail;refine E.mono ?_;rintro e w3 ⟨rfl,aw⟩;subst aw;clear E;go_wp2_with fail;refine ai.mono ?_;rintro e w4 ⟨rfl,ah,aa⟩;have c:=H3.o.tr aa;have i:=c.row t.o.1 (fun h=>ad h.symm);have a:=c.row t.o.2.1 (fun h=>ae h.symm);have p0:=cO 0 i;have p1:=cO 1 i;have p2:=cO 2 i;have p3:=cO 3 i;have p4:=cO 4 i;have q0:=cO 0 a;have q1:=cO 1 a;have q2:=cO 2 a;have q3:=cO 3 a;have q4:=cO 4 a;have f0:=zR _ _ 0 _ _ a;have f1:=zR _ _ 1 _ _ a;have f2:=zR _ _ 2 _ _ a;have f3:=zR _ _ 3 _ _ a;have f4:=zR _ _ 4 _ _ a;have a0:w.heap.size≠B:=by have:=t.o.2.2.2.2.1;omega
 have H4:Hid (w4.heap[w.heap.size]?=some (.cells #[.string ⟨#[]⟩,I 0,.slice none 0 0,I 0,I 0] 87 (0,0))/\Aa (fun j=>j=p) w w4/\A9 w4 p (Be (Dk st ok) T.size).2/\Aa (fun j=>j=p) k w4):=
  ⟨a,(t.o.2.2.1.wider (fun _ _ h=>h.elim)).tr c,ah,(t.o.2.2.2.2.2.wider (fun _ _ h=>h.elim)).tr c⟩
 clear a i c aa ah ai H3 t c0 Y;go_wp2_with fail;have h2:=zI _ _ 4 _ _ (I lw) (zI _ _ 3 _ _ (I C) (zI _ _ 2 _ _ (.slice u b b) (zI _ _ 1 _ _ (I x) (zI _ _ 0 _ _ (.string T) H4.o.1))));have N:=M1 w4 w.heap.size (.string T) (I x) (.slice u b b) (I C) (I lw);refine Aa8 (v:= .agg #[.string T,I x,.slice u b b,I C,I lw]) (Abj results67 _ _ w.heap.size 87 _ (0,0) _ rfl h2 underlying87 rfl (by kernel_rfl)) rfl ⟨?_,?_⟩
 ·exact H4.o.2.1.trans N (fun j h1 h2=>by omega)
 ·have P:=H4.o.2.2.1.kept N (fun h=>ae h);rcases aq.o with⟨rfl,l,rfl,d,hz,g,hg,H,K⟩|⟨rfl,hno,H⟩
  ·have e1:(Be (Dk (some l) true) T.size).2=some (l.drop (szB (Ak m n))):=by
    show(Be (some l) T.size).2=_;rw[hz,Gx d.fits]
   rw[e1]at P;exact .inl ⟨l,rfl,d,P,g,by omega,by rw[H],(K.kept H4.o.2.2.2 (fun h=>by omega)).kept N (fun h=>by omega)⟩
  ·exact .inr ⟨hno,P,by rw[H]⟩
namespace Hm
def rdA(s:Aeg):Rd:=Dk (Be (some s) 6).2 ((⟨(Be (some s) 6).1.toArray⟩:ByteArray).toList==[72,79,65,82,68,49])
def rdF(s:Aeg):Nat×Rd:=B7 (rdA s) 1
def rdN(s:Aeg):Nat×Rd:=B7 (rdF s).2 2
def rdR(s:Aeg):Nat×Rd:=B7 (rdN s).2 2
def rdB(s:Aeg):Rd:=Dk (rdR s).2 (decide ((rdR s).1<=(rdN s).1))
def rdM(s:Aeg):List ByteArray×Rd:=At (rdF s).1 (rdB s)
def rdL(st:Rd):Aeh×Rd:=B6 (B7 st 2).2 (B7 st 2).1
structure C5(s l6:Aeg)(L:Aeh)(l8:Aeg)(st:Bl):Prop where
 names:(rdM s).2=some l6
 ends:Gp l6 (rdF s).1 (rdN s).1
 lens:rdL (some (l6.drop (szB (Ak (rdF s).1 (rdN s).1))))=(L,some l8)
 tree:Fj l8 (rdN s).1 L st
 samp:Hz (l8.drop (szB st.len)) (rdN s).1
 sum:Ph s (some ((l8.drop (szB st.len)).drop (szB (Ap (rdN s).1))))=some []
theorem Fb{st:Rd}{k:Nat}(h:(Be st k).2=some l): ∃a,st=some a/\k<=a.length/\l=a.drop k/\(Be st k).1=a.take k:=by
 cases st with
 |none=>cases h
 |some a=>
  by_cases hk:k<=a.length
  ·rw[Gx hk]at h;injection h with h;exact⟨a,rfl,hk,h.symm,by rw[Gx hk]⟩
  ·rw[Md hk]at h;cases h
theorem O3{st:Rd}{b:Bool}(h:Dk st b=some l):b=true/\st=some l:=by
 unfold Dk at h;split at h
 ·rename_i hb;exact⟨hb,h⟩
 ·cases h
theorem R8{st:Rd}: ∀{k:Nat} {l:Aeg},(At k st).2=some l-> ∃a,st=some a/\a.length<=l.length+256*k
 |0,l,h=>⟨l,h,zK _⟩
 |k+1,l,h=>by
  have c:(Be (B7 (At k st).2 1).2 (B7 (At k st).2 1).1).2=some l:=h;obtain⟨i,h1,h2,d,-⟩:=Fb c;have b:(Be (At k st).2 1).2=some i:=h1;obtain⟨p,e,j,f,m⟩:=Fb b;obtain⟨a,g,n⟩:=R8 e;refine⟨a,g,?_⟩;have o:(B7 (At k st).2 1).1<256:=by have:=Im (At k st).2 1;simpa using this
  rw[d,Aas];rw[f,Aas]at h2|-;omega
theorem aG{st:Rd}: ∀{k:Nat} {l:Aeg},(B6 st k).2=some l-> ∃b,st=some b/\b.length=l.length+2*k
 |0,l,h=>⟨l,h,rfl⟩
 |k+1,l,h=>by
  have a:(Hu (B6 st k)).2=some l:=h;unfold Hu at a;split at a
  ·rename_i l1 h1;injection a with a;subst a;obtain⟨i,c,f,d,-⟩:=Fb h1;obtain⟨b,e,g⟩:=aG c;refine⟨b,e,?_⟩;rw[d,Aas];omega
  ·cases a
theorem yM{st:Rd}(h:(rdL st).2=some l): ∃a,st=some a/\a.length<=l.length+131072:=by
 obtain⟨e,h1,h2⟩:=aG h;have b:(Be st 2).2=some e:=h1;obtain⟨a,c,f,d,-⟩:=Fb b;have g:(B7 st 2).1<65536:=by have:=Im st 2;simpa using this
 refine⟨a,c,?_⟩;rw[d,Aas]at h2;omega
theorem Qc(h:(rdM s).2=some l):s.length<=l.length+65536/\(rdR s).1<=(rdN s).1:=by
 obtain⟨r,h1,h2⟩:=R8 h;obtain⟨j,k⟩:=O3 h1;obtain⟨t,m,n,o,-⟩:=Fb (show(Be (rdN s).2 2).2=some r from k);obtain⟨u,p,q,d,-⟩:=Fb (show(Be (rdF s).2 2).2=some t from m);obtain⟨w,e,f,b,-⟩:=Fb (show(Be (rdA s) 1).2=some u from p);obtain⟨_,g⟩:=O3 e;obtain⟨x,c,i,a,-⟩:=Fb g;injection c with c;subst c;have v:(rdF s).1<256:=by have:=Im (rdA s) 1;simpa[rdF]using this
 refine⟨?_,Aay j⟩;rw[o,d,b,a]at h2;rw[b,a]at q;rw[d,b,a]at n;rw[a]at f;simp only[Aas]at*;omega
theorem Kk(s:Aeg):(rdN s).1<=65535:=by have:=Im (rdF s).2 2;simp at this;unfold rdN;omega
theorem Qz(s:Aeg):(rdF s).1<=255:=by have:=Im (rdA s) 1;simp at this;unfold rdF;omega
theorem Tg(m n:Nat)(a:m<=255)(hn:n<=65535):szB (Ak m n)<=10000:=by
 have h1:=Wv m n hn;have h2:=Aa4 a h1;have b:n/2^Cz m n<=n:=Acd _ _;unfold szB Ak;omega
theorem qT(n:Nat)(hn:n<=65535):szB (Ap n)<=22000:=by
 obtain⟨d,a,tb,_,_,_,b,_,_,c⟩:=eP n hn;unfold szB;omega
theorem aH(h:Bz L):Hk L<=32:=by
 rcases Adn (Hk L)with e|e
 ·omega
 ·obtain⟨i,hi,a⟩:=Aa5 (Wy L e);have h1:=h.short (UInt8.ofNat i);have b:=h.len;rw[show lnB L (UInt8.ofNat i)=L.getD (UInt8.ofNat i).toNat 0 from rfl,show(UInt8.ofNat i).toNat=i from by simp;omega,zG,zH hi,Ack,a]at h1;exact h1
theorem I1{st:Bl}(h:Fj l n L st)(hn:n<=65535):szB st.len<=262141/\szB st.len<=l.length:=by
 have h1:=Lc h.2;have h2:=aH h.1;have a:=Aa4 hn h2;unfold Fv at h1;unfold szB;omega
theorem wN{st:Rd}(h:(B7 st 4).2=some []): ∃l,st=some l/\l.length=4:=by
 obtain⟨l,h1,h2,a,-⟩:=Fb (show(Be st 4).2=some []from h);refine⟨l,h1,?_⟩;have:=congrArg List.length a;rw[Aas]at this;simp at this;omega
end Hm
structure Fy(B:Nat)(w':World)(st:Rd)(m n:Nat)(EV:Aei)(st':Rd):Prop where
 len:EV.length=5
 one:EV.toArray.all (·.oneCell')=true
 rest:Bt st'<=Bt st
 said:(∃l,st=some l/\Gp l m n/\st'=some (l.drop (szB (Ak m n)))/\ ∃g,B<=g/\EV=Gj l m n g/\IntRow w' g (B8 (l.take (szB (Ak m n)))))\/((∀l,st=some l-> ¬Gp l m n)/\st'=none)
theorem Fy.kept{st:Rd}{st':Rd}(h:Fy B w' st m n EV st'){S:Nat->Prop}(hk:Aa S w' w2)(hn: ∀j,B<=j->j<w'.heap.size-> ¬S j):Fy B w2 st m n EV st':=by
 refine⟨h.len,h.one,h.rest,?_⟩;rcases h.said with⟨l,a1,a2,a3,g,a4,a5,a6⟩|h1
 ·exact .inl ⟨l,a1,a2,a3,g,a4,a5,a6.kept hk (hn g a4 a6.lt)⟩
 ·exact .inr h1
theorem Fy.le{a:Nat}{st:Rd}{st':Rd}(h:Fy B w' st m n EV st')(hb:a<=B):Fy a w' st m n EV st':=by
 refine⟨h.len,h.one,h.rest,?_⟩;rcases h.said with⟨l,a1,a2,a3,g,a4,a5⟩|h1
 ·exact .inl ⟨l,a1,a2,a3,g,Aaf hb a4,a5⟩
 ·exact .inr h1
theorem qU(hones:Bc)(p:Nat)(st:Rd)(m n:Nat)(w:World)(f:A9 w p st)(d:m<=255)(hn:n<=65535)(a:Bt st<=4611686018427387904):
  Calls prog 67 #[.pointer (some ⟨p,0,none⟩),.int .i64 m,.int .i64 n] w fun e w'=>Aa (fun j=>j=p) w w'/\ ∃EV st',e= .returned (.agg EV.toArray)/\Fy w.heap.size w' st m n EV st'/\A9 w' p st':=by
 refine(qS hones p st m n w f d hn a).mono ?_;rintro e w' ⟨hk,⟨l,rfl,a2,a3,g,b,rfl,c⟩|⟨h1,h2,rfl⟩⟩
 ·exact⟨hk,_,_,rfl,⟨rfl,by simp[Gj,Value.oneCell'],by show(l.drop _).length<=l.length;rw[Aas];omega,.inl ⟨l,rfl,a2,rfl,g,b,rfl,c⟩⟩,a3⟩
 ·exact⟨hk,_,_,rfl,⟨rfl,by simp[Hb,Value.oneCell'],zZ _,.inr ⟨h1,rfl⟩⟩,h2⟩
structure Jo(B:Nat)(w':World)(st:Rd)(n:Nat)(EV:Aei)(st':Rd):Prop where
 len:EV.length=4
 one:EV.toArray.all (·.oneCell')=true
 rest:Bt st'<=Bt st
 said:(∃l,st=some l/\Hz l n/\st'=some (l.drop (szB (Ap n)))/\ ∃g,B<=g/\EV=Hp l n g/\IntRow w' g (B8 (l.take (szB (Ap n)))))\/((∀l,st=some l-> ¬Hz l n)/\st'=none)
theorem Jo.kept{st:Rd}{st':Rd}(h:Jo B w' st n EV st'){S:Nat->Prop}(hk:Aa S w' w2)(hn: ∀j,B<=j->j<w'.heap.size-> ¬S j):Jo B w2 st n EV st':=by
 refine⟨h.len,h.one,h.rest,?_⟩;rcases h.said with⟨l,a1,a2,a3,g,a4,a5,a6⟩|h1
 ·exact .inl ⟨l,a1,a2,a3,g,a4,a5,a6.kept hk (hn g a4 a6.lt)⟩
 ·exact .inr h1
theorem Jo.le{a:Nat}{st:Rd}{st':Rd}(h:Jo B w' st n EV st')(hb:a<=B):Jo a w' st n EV st':=by
 refine⟨h.len,h.one,h.rest,?_⟩;rcases h.said with⟨l,a1,a2,a3,g,a4,a5⟩|h1
 ·exact .inl ⟨l,a1,a2,a3,g,Aaf hb a4,a5⟩
 ·exact .inr h1
theorem qV(hones:Bc)(hLn:Ez)(p:Nat)(st:Rd)(n:Nat)(w:World)(d:A9 w p st)(hn:n<=65535)(a:Bt st<=4611686018427387904):
  Calls prog 71 #[.pointer (some ⟨p,0,none⟩),.int .i64 n] w fun e w'=>Aa (fun j=>j=p) w w'/\ ∃EV st',e= .returned (.agg EV.toArray)/\Jo w.heap.size w' st n EV st'/\A9 w' p st':=by
 refine(gJ hones hLn p st n w d hn a).mono ?_;rintro e w' ⟨hk,⟨l,rfl,a2,a3,g,b,rfl,c⟩|⟨h1,h2,rfl⟩⟩
 ·exact⟨hk,_,_,rfl,⟨rfl,by simp[Hp,Value.oneCell'],by show(l.drop _).length<=l.length;rw[Aas];omega,.inl ⟨l,rfl,a2,rfl,g,b,rfl,c⟩⟩,a3⟩
 ·exact⟨hk,_,_,rfl,⟨rfl,by simp[Dz,Value.oneCell'],zZ _,.inr ⟨h1,rfl⟩⟩,h2⟩
theorem nA:(Tryz.zeroCells96.toList.drop 516).take 256=Ad (List.replicate 256 0):=by kernel_rfl
theorem Do.weights(h:Do B w' l n L VA T ok)(hn:n<=65535):
  ∃ws:Aeh,ws.length=256/\(∀b,b<256->VA[516+b]?=some (.int .i64 (ws.getD b 0:Nat)))/\ ∀x∈ws,x<=1000000:=by
 rcases h.said with⟨_,st,g,ng,nc,a1,_,_,_,_,rfl,a6,_⟩|⟨_,_,rfl⟩
 ·refine⟨st.ws,a6,fun b hb=>?_,fun x a=>?_⟩
  ·rw[Aag];exact Qs _ _ _ _ _ _ _ b (A5 _ _ _ _) (by omega)
  ·have:=tZ a1 x a;omega
 ·refine⟨List.replicate 256 0,zV,fun b hb=>?_,fun x a=>?_⟩
  ·have e:=congrArg (fun l=>l[b]?) nA;rw[Ab9 hb,Adq,Array.getElem?_toList]at e;rw[e];unfold Ad;rw[Aah,Ada,if_pos hb,zG,Ada,if_pos hb];rfl
  ·rw[Ac8 a];omega
theorem qW(v v':Value)(E R S:Aei):(J1 v E R S).toArray.setIfInBounds 0 v'=(J1 v' E R S).toArray:=by
 rw[zO];rfl
def M4(B:Nat)(w':World)(s:Aeg)(pa:Nat)(ok:Bool):Prop:=
 (ok=true/\ ∃l6 L l8 st gn ge g ng nc gs,C5 s l6 L l8 st/\B<=gn/\B<=ge/\B<=g/\B<=ng/\B<=gs/\
   w'.heap[pa]?=some (.cells (J1 (S0 gn (rdF s).1 (rdF s).1) (Gj l6 (rdF s).1 (rdN s).1 ge)
    (Cl (A6 ⟨(l8.take (szB st.len)).toArray⟩ st.len g (Bf L) (S0 ng st.nds.length nc) st.ws (rdN s).1).toArray (rdR s).1 (firsts st.ws))
    (Hp (l8.drop (szB st.len)) (rdN s).1 gs)).toArray 102 (0,0))/\
   w'.heap[gn]?=some (.cells (F8 (rdM s).1).toArray 9 (0,0))/\
   IntRow w' ge (B8 (l6.take (szB (Ak (rdF s).1 (rdN s).1))))/\IntRow w' g (B8 (l8.take (szB st.len)))/\
   w'.ownsRow 0 195 9 (S0 ng st.nds.length nc) st.nds.length (Bj st.nds)/\
   IntRow w' gs (B8 ((l8.drop (szB st.len)).take (szB (Ap (rdN s).1)))))\/
 (ok=false/\ ∀l6 L l8 st,¬C5 s l6 L l8 st)
theorem M4.kept(h:M4 B w' s pa ok){S:Nat->Prop}(hk:Aa S w' w2)(hn: ∀j,B<=j->j<w'.heap.size-> ¬S j)(c: ¬S pa):M4 B w2 s pa ok:=by
 rcases h with⟨h1,l6,L,l8,st,gn,ge,g,ng,nc,gs,a1,b1,b2,b3,b4,b5,a2,a3,a4,a5,a6,a7⟩|h1
 ·exact .inl ⟨h1,l6,L,l8,st,gn,ge,g,ng,nc,gs,a1,b1,b2,b3,b4,b5,hk.row a2 c,hk.row a3 (hn gn b1 (Aac a3)),a4.kept hk (hn ge b2 a4.lt),a5.kept hk (hn g b3 a5.lt),hk.owns a6 (fun j b=>by have a:ng=j:=Aak b;rw[<-a];exact hn ng b4 (a6.lt ng rfl).2),a7.kept hk (hn gs b5 a7.lt)⟩
 ·exact .inr h1
theorem nB{c:Aeh}(h1:ws.length=256)(h2:c.length=256)(a: ∀b,b<256->VA[516+b]?=some (.int .i64 (ws.getD b 0:Nat)))(b: ∀b,b<256->VA[516+b]?=some (.int .i64 (c.getD b 0:Nat))):ws=c:=by
 apply Aa1 (by omega);intro i d f;have e:=(a i (by omega)).symm.trans (b i (by omega));injection e with e;injection e with _ e;rw[zG,zH d,zG,zH f]at e;exact Int.ofNat.inj e
theorem Yd{w:Aei}{f h o b:Rd}
  (D:Fy B w' (rdM s).2 (rdF s).1 (rdN s).1 EV f) (E:L=(rdL f).1/\h=(rdL f).2) (z:Do B w' (h.getD []) (rdN s).1 L VA T ok) (y:o=(Be (Dk h ok) T.size).2)
  (F:Jo B w' o (rdN s).1 w b) (K:(B7 b 4).2=some []):
  (4<=s.length/\s.length<=1000000)/\ ∃l6 l8 st j g ng nc k,(rdM s).2=some l6/\Gp l6 (rdF s).1 (rdN s).1/\rdL (some (l6.drop (szB (Ak (rdF s).1 (rdN s).1))))=(L,some l8)/\Fj l8 (rdN s).1 L st/\Hz (l8.drop (szB st.len)) (rdN s).1/\
   b=some ((l8.drop (szB st.len)).drop (szB (Ap (rdN s).1)))/\B<=j/\B<=g/\B<=ng/\B<=k/\EV=Gj l6 (rdF s).1 (rdN s).1 j/\VA=(A6 ⟨(l8.take (szB st.len)).toArray⟩ st.len g (Bf L) (.slice (some ⟨ng,0,none⟩) st.nds.length nc) st.ws (rdN s).1).toArray/\st.ws.length=256/\w=Hp (l8.drop (szB st.len)) (rdN s).1 k/\
   IntRow w' j (B8 (l6.take (szB (Ak (rdF s).1 (rdN s).1))))/\IntRow w' g (B8 (l8.take (szB st.len)))/\w'.ownsRow 0 195 9 (.slice (some ⟨ng,0,none⟩) st.nds.length nc) st.nds.length (Bj st.nds)/\IntRow w' k (B8 ((l8.drop (szB st.len)).take (szB (Ap (rdN s).1)))):=by
 obtain⟨O,a,Q⟩:=wN K;have hF:=Qz s;have q:=Kk s;rcases F.said with⟨l9,e9,s1,s2,k,s3,s4,s5⟩|⟨_,s2⟩;rotate_left
 ·rw[s2]at a;cases a
 rw[e9]at y;obtain⟨d,f1,f2,x,-⟩:=Fb y.symm;obtain⟨m,C⟩:=O3 f1;obtain⟨p,c⟩:=E;rw[C]at c z;obtain⟨l7,i,n7⟩:=yM c.symm;rcases D.said with⟨l6,e6,a1,a2,j,a3,a4,a5⟩|⟨_,a2⟩;rotate_left
 ·rw[a2]at i;cases i
 rcases z.said with⟨_,st,g,ng,nc,t1,t2,t3,t4,t5,t6,t7,t8,t9⟩|⟨t1,_⟩;rotate_left
 ·rw[t1]at m;cases m
 replace t1:Fj d (rdN s).1 L st:=t1
 replace t6:VA=(A6 ⟨(d.take (szB st.len)).toArray⟩ st.len g (Bf L) (S0 ng st.nds.length nc) st.ws (rdN s).1).toArray:=t6
 have A:=I1 t1 q;have G:=Tg _ _ hF q;have H:=qT _ q;have hM:=(Qc e6).1;rw[t5]at x f2;subst x;have l:=s1.fits;have r:=a1.fits;refine⟨?_,l6,d,st,j,g,ng,nc,k,e6,a1,?_,t1,s1,s2,a3,t2,t3,s3,a4,t6,t7,s4,a5,t8,t9,s5⟩
 ·rw[s2]at a;injection a with a;rw[a2]at i;injection i with i;have n:=congrArg List.length a;have t:=congrArg List.length i;rw[Aas,Aas]at n;rw[Aas]at t l;refine⟨?_,by omega⟩;obtain⟨M,R,q2⟩:=R8 e6;obtain⟨q3,Y⟩:=O3 R;obtain⟨N,Z,q6,q7,-⟩:=Fb (show(Be (rdN s).2 2).2=some M from Y);obtain⟨P,q8,q9,S,-⟩:=Fb (show(Be (rdF s).2 2).2=some N from Z);obtain⟨l3,u,U,V,-⟩:=Fb (show(Be (rdA s) 1).2=some P from q8);obtain⟨_,v⟩:=O3 u;obtain⟨l4,e,W,X,-⟩:=Fb v;injection e with e;have:=congrArg List.length e;omega
 ·rw[<-a2,p,c]
theorem qX{gn:Nat}{x:Aei}{f d i a:Rd}
  (y:Fy B w' (rdM s).2 (rdF s).1 (rdN s).1 EV f) (n:L=(rdL f).1/\d=(rdL f).2) (o:Do B w' (d.getD []) (rdN s).1 L VA T ok) (h:i=(Be (Dk d ok) T.size).2)
  (z:Jo B w' i (rdN s).1 x a) (A:ws.length=256/\ ∀b,b<256->VA[516+b]?=some (.int .i64 (ws.getD b 0:Nat)))
  (N:w'.heap[pa]?=some (.cells (J1 (.slice (some ⟨gn,0,none⟩) (rdF s).1 (rdF s).1) EV (Cl VA (rdR s).1 (firsts ws)) x).toArray 102 (0,0)))
  (M:w'.heap[gn]?=some (.cells (F8 (rdM s).1).toArray 9 (0,0))) (K:B<=gn):M4 B w' s pa (!(Ph s a).isNone):=by
 by_cases q:(B7 a 4).2=some []/\(B7 a 4).1=crc (s.take (s.length-4))
 ·have e:Ph s a=some []:=if_pos q;obtain⟨_,l6,l8,st,G,g,ng,nc,H,O,P,Q,R,S,U,V,W,X,r,t,j,u,v,w⟩:=Yd y n o h z q.1;rw[e];have F:ws=st.ws:=nB A.1 u A.2 (fun b hb=>by rw[j,Aag];exact Qs _ _ _ _ _ _ _ b (A5 _ _ _ _) (by omega));refine .inl ⟨rfl,l6,L,l8,st,gn,G,g,ng,nc,H,⟨O,P,Q,R,S,by rw[<-U];exact e⟩,K,V,W,X,r,?_,M,w⟩;rw[N,t,j,v,F]
 ·have e:Ph s a=none:=if_neg q;rw[e];refine .inr ⟨rfl,fun l6 C l8 st c=>?_⟩;rcases y.said with⟨l6',e6,a1,a2,_⟩|⟨a1,_⟩;rotate_left
  ·exact a1 _ c.names c.ends
  have k:=Aak (e6.symm.trans c.names);subst k;have m:=c.lens;rw[<-a2]at m;have D:d=some l8:=by rw[n.2,m]
  have E:L=C:=by rw[n.1,m]
  subst E;rw[D]at o h;rcases o.said with⟨p,st',g,ng,nc,t1,t2,t3,t4,t5,_⟩|⟨_,t1,_⟩;rotate_left
  ·exact t1 st c.tree
  have l:=Aak (t1.2.symm.trans c.tree.2);subst l;rw[p,t5,show Dk (some l8) true=some l8 from rfl,Gx (I1 c.tree (Kk s)).2]at h;rcases z.said with⟨l9,e9,s1,s2,_⟩|⟨s1,_⟩;rotate_left
  ·exact s1 _ h c.samp
  rw[h]at e9;injection e9 with e9;rw[s2,<-e9]at e;have:=c.sum;rw[e]at this;cases this
namespace Hm
def Am(s:Aeg)(ps:Aeh):Aeg:=(ps.filter fun p=>decide (0<p)).map fun p=>s.getD (p-1) 0
theorem aJ(s:Aeg)(ps:Aeh)(k:Nat)(h:k<ps.length):Am s (ps.take (k+1))=Am s (ps.take k)++if 0<ps[k]then [s.getD (ps[k]-1) 0]else []:=by
 rw[zQ h];unfold Am;rw[Abz,Abt];congr 1
 by_cases e:0<ps[k]<;>simp[e]
theorem wO(s:Aeg)(ps:Aeh):(Am s ps).length<=ps.length:=by
 unfold Am;rw[Aai];exact Ac7 _ _
end Hm
theorem qY(F M:Nat)(s:ByteArray)(ps:Aeh)(w:World)(y:IntRow w F ps)(hs:s.size<=6000)(U:ps.length<=6001)(E: ∀x∈ps,x<=s.size):
  Calls prog 99 #[.string s,.slice (some ⟨F,0,none⟩) ps.length M] w fun e w'=> ∃v',e= .returned v'/\w'.ownsRow w.heap.size 5 1 v' (Am s.data.toList ps).length (Ag (Am s.data.toList ps))/\Aee w w':=by
 obtain⟨L,hi,n,r,t⟩:=Aa6 Ft;have O:=y.lt
 go_enter func99,ntmps99
 go_wp2_with(at_make;refine wpList_make_own _ rfl _ _ 79 rfl w.heap.size 5 L (.int .u8 0) 1 underlying79 hi n r .i64 .i64 _ s.size rfl rfl rfl (by rw[t];omega) (by unfold maxLen;omega) (zK _) ?_;intro S m f)
 have h:Aee w S:=(Aa.refl _ _).grown f (fun k hk=>by cases hk);clear f
 go_loopw[5,13] (fun u i wr=> ∃k:Nat,k<=ps.length/\i=I k/\wr.ownsRow w.heap.size 5 1 u (Am s.data.toList (ps.take k)).length (Ag (Am s.data.toList (ps.take k)))/\Aee w wr) (fun _ i _=>ps.length-(intOf i).toNat)
 case atStart=>exact⟨0,zZ _,rfl,by simpa[Am,Ag]using m,h⟩
 case round=>
  clear m h;obtain⟨k,hk,rfl,b,a⟩:=hrel;have N:=wO s.data.toList (ps.take k);have H:(ps.take k).length<=6001:=by simp;omega
  by_cases l:k<ps.length
  ·have T:=(y.kept a id).cell l;have Q:=E ps[k] (z6 _);have v:Hid (Am s.data.toList (ps.take (k+1))=Am s.data.toList (ps.take k)++if 0<ps[k]then [s.data.toList.getD (ps[k]-1) 0]else []):=aJ _ ps k l;generalize ps[k]=p at*;generalize G:Am s.data.toList (ps.take k)=C at*
   by_cases c:0<p
   ·obtain⟨q,R⟩: ∃q,p=q+1:=⟨p-1,by omega⟩;subst R;have D:q<s.size:=by omega
    have d:Hid (Am s.data.toList (ps.take (k+1))=C++[s[q]]):=by
     show _=_;have e:s.data.toList.getD (q+1-1) 0=s[q]:=by
      rw[Acn,zG,zH (by simpa using D)];rfl
     rw[v.o,if_pos c,e]
    clear v y E G
    go_wp2_with(at_builtin;refine Ay _ rfl (.tmp 19) (.tmp 24) 79 rfl w.heap.size 5 L (.int .u8 0) 1 1 underlying79 hi n r t rfl (by decide) _ _ _ rfl (b.alloc _) (J wr.heap.size 0) 1 1 [.int .u8 (s[q].toNat:Int)] rfl rfl ?c1 ?c2 ?c3 ?c4 ?c5 ?_)
    case c1=>exact Ac6 _ _ _
    case c2=>intro u K;simp at K;subst K;rfl
    case c3=>unfold maxLen;omega
    case c4=>omega
    case c5=>have:=a.size;simp;omega
    intro v' w2 B g A;have z:Aee w w2:=(a.alloc _).grown g (fun j P=> .inl (b.lt j P).1);clear g A b a;go_wp2;go_roundw
    case rel=>
     refine⟨k+1,by omega,by go_num,?_,z⟩;rw[d.o];simpa[Ag]using B
    case measure=>simp[intOf];omega
   ·obtain rfl:p=0:=by omega
    have d:Hid (Am s.data.toList (ps.take (k+1))=C):=by
     show _=_;rw[v.o,if_neg c,Abe]
    clear v y E G;go_wp2;go_roundw
    case rel=>exact⟨k+1,by omega,by go_num,by rw[d.o];exact b,a⟩
    case measure=>simp[intOf];omega
  ·go_wp2;go_ret;obtain rfl:k=ps.length:=by omega
   rw[Aaw]at b;exact⟨_,rfl,b,a⟩
theorem wP(b c:Nat)(ps:Aeh)(w:World)(f:IntRow w b ps)(h:ps.length<=6001):
  Calls prog 102 #[.slice (some ⟨b,0,none⟩) ps.length c] w fun e w'=>e= .returned (.int .i64 (Lib.idxOf (ps.map fun x:Nat=>(x:Int)) 0))/\w=w':=by
 have d:=Tryz.slices_Index_int b 0 ps.length c (ps.map fun x:Nat=>(x:Int)) 0 w (by simp) (by omega) (fun j g=>by
  have a:j<ps.length:=by simpa using g
  rw[Aao,f.cell a];simp[List.getD_eq_getElem?_getD,a])
 rw[show(ps.map fun x:Nat=>(x:Int)).take ps.length=ps.map fun x:Nat=>(x:Int)from Aap (by simp)]at d;generalize Lib.idxOf (ps.map fun x:Nat=>(x:Int)) 0=r at*;clear f
 go_enter func102,ntmps102
 go_wp2_with(go_at_call 156;refine d.mono ?_;rintro e w2 ⟨rfl,rfl⟩)
 go_ret;exact⟨rfl,rfl⟩
structure G0(w:World)(b:Nat)(p v:Value)(l:Aeg):Prop where
 blk:w.heap[b]?=some (.cells #[p,v] 201 (0,0))
 own:w.ownsRow 0 5 1 v l.length (Ag l)
 ne:v.ownBlock≠some b
 adr:p= .pointer none\/p= .pointer (some ⟨b,0,none⟩)
 nil:l=[]->v= .slice none 0 0
theorem gK(b:Nat)(p v:Value)(l:Aeg)(w:World)(h:G0 w b p v l):
  Calls prog 173 #[.pointer (some ⟨b,0,none⟩)] w fun e w'=>e= .returned (.tuple #[])/\G0 w' b (.pointer (some ⟨b,0,none⟩)) v l/\Aa (fun j=>j=b) w w':=by
 have c: ∃j,prog.info? 201=some j/\j.size=2:=by
  have h1:(prog.info? 201).map (·.size)=some 2:=by kernel_rfl
  obtain⟨j,c,hs⟩:=Option.map_eq_some_iff.1 h1;exact⟨j,c,hs⟩
 obtain⟨j,c,f⟩:=c;have i:=cO 0 h.blk;have k:=zR _ _ 0 _ _ h.blk;have d:w.shape? b=some (201,2):=by simp[World.shape?,h.blk]
 rcases h.adr with g|g
 ·subst g;have a:G0 (w.setCell (J b 0) (.pointer (some (J b 0)))) b (.pointer (some (J b 0))) v l:=
   ⟨by have:=zI w b 0 _ _ (.pointer (some (J b 0))) h.blk;simpa using this,ownsRow_setCell_other h.own h.ne _,h.ne,.inr rfl,h.nil⟩
  have HS:=hZ a;clear h a
  go_enter func173,ntmps173
  go_wp2;rw[Lib.run_to_unsafe w (J b 0) underlying199 underlying262 c (by rw[f];decide) d (Nat.zero_lt_succ 1)];simp only[Result.andThen];rw[Oper.upon_value];go_wp2;rw[run_callFunc_extern func187 (by kernel_rfl) (by kernel_rfl) (by kernel_rfl) (e:=Extern.AbiNoEscape.same) (by kernel_rfl)];rw[Lib.run_noEscape];simp only[Result.andThen];rw[Oper.upon_value];go_wp2;rw[Lib.run_from_unsafe w (J b 0) underlying262 underlying199 c d (by kernel_rfl)];simp only[Result.andThen];rw[Oper.upon_value];go_wp2
  go_end0
  exact⟨rfl,HS.o,(Aa.refl (fun j=>j=b) w).setCell (p:=(J b 0)) (.inr rfl) _⟩
 ·subst g;have HS:=hZ h;clear h
  go_enter func173,ntmps173
  go_wp2;rw[Lib.run_neq_ptr_same w _ underlying199 c];go_wp2
  go_end0
  exact⟨rfl,HS.o,Aa.refl _ _⟩
theorem aK(b:Nat)(p v:Value)(l:Aeg)(s:ByteArray)(w:World)(h:G0 w b p v l)(Q:l.length+s.size<=1000000):
  Calls prog 129 #[.pointer (some ⟨b,0,none⟩),.string s] w fun e w'=> ∃v',e= .returned (.tuple #[.int .i64 s.size,.nilIface])/\G0 w' b (.pointer (some ⟨b,0,none⟩)) v' (l++s.data.toList)/\Aa (Bk b v) w w'/\Ck w v v':=by
 obtain⟨P,hi,D,E,F⟩:=Aa6 Ft;have r:=gK b p v l w h;clear h
 go_enter func129,ntmps129
 go_wp2_with fail;refine r.mono ?_;rintro e R ⟨rfl,h1,g⟩;clear r;obtain⟨a1,G,B,_⟩:=An h1.own;subst B;have y:=cO 1 h1.blk;have u:=h1.own
 go_wp2_with(at_builtin;refine E3 _ rfl (.tmp 12) (.tmp 13) 79 9 rfl 0 5 P underlying79 underlying9 hi D E F _ _ _ rfl u s rfl ?c6 ?c7 ?c8 ?_)
 case c6=>unfold maxLen;omega
 case c7=>omega
 case c8=>exact zZ _
 intro H w2 m f i d;have a:w2.heap[b]?=some (.cells #[.pointer (some (J b 0)),.slice a1 l.length G] 201 (0,0)):=by
  rw[f.block b (Aac h1.blk) (fun e=>h1.ne e.symm)];exact h1.blk
 have c:H.ownBlock≠some b:=fun e=>by
  rcases i b e with h|h
  ·exact h1.ne h
  ·have:=Aac h1.blk;omega
 have z:Aa (Bk b (.slice a1 l.length G)) w w2:=(g.wider (fun j _ h=> .inl h)).grown f (fun k hk=> .inr (.inr hk));have t:=(Ck.refl w _).trans i g.size;obtain⟨a2,x,C,_⟩:=An m;have K:Hid (l++s.data.toList=[]->H= .slice none 0 0):=fun e=>by
  have q:=List.append_eq_nil_iff.1 e;have A:s=ByteArray.empty:=by
   apply Acj;apply Abr;rw[q.2];rfl
  have n:=h1.nil q.1;simp only[Value.slice.injEq]at n;exact d.2 ⟨by simpa using⟨n.1,q.1,n.2.2⟩,A⟩
 subst C;have O:=zR _ _ 1 _ _ a;have N:=cO 1 a;have L:Hid (G0 (w2.setCell (J b 1) (.slice a2 (l.length+s.size) x)) b (.pointer (some (J b 0))) (.slice a2 (l.length+s.size) x) (l++s.data.toList)):=by
  refine⟨?_,?_,c,.inr rfl,K.o⟩
  ·have:=zI w2 b 1 _ _ (.slice a2 (l.length+s.size) x) a;simpa using this
  ·have q:(l++s.data.toList).length=l.length+s.size:=by simp
   have M:Ag (l++s.data.toList)=Ag l++Lib.strCells s:=by simp[Ag,Lib.strCells]
   rw[q,M];exact ownsRow_setCell_other m c _
 clear m f i d a h1 g u y c;go_wp2;go_ret2;exact⟨_,rfl,L.o,z.setCell (.inr (.inl rfl)) _,t⟩
theorem cT(b:Nat)(p v:Value)(l:Aeg)(w:World)(h:G0 w b p v l):
  Calls prog 130 #[.pointer (some ⟨b,0,none⟩)] w fun e w'=>e= .returned (.int .i64 l.length)/\w=w':=by
 obtain⟨a1,d,a,_⟩:=An h.own;subst a;have c:=cO 1 h.blk;clear h
 go_enter func130,ntmps130
 go_wp2;go_ret;exact⟨rfl,rfl⟩
theorem Aa.freeze{S:Nat->Prop}{a b:World}(h:Aa S a b){p:Addr}(d:a.heap.size<=p.block\/S p.block)(n:Nat):Aa S a (b.freeze p n):=by
 have c:=Lib.below_freeze (Below.refl 0 b) (p:=p) (zZ _) n;refine⟨c.os.trans h.os,c.tape.trans h.tape,c.output.trans h.output,Aaf h.size c.size,fun j f hn=>?_⟩;have e:p.block≠j:=by
  rintro rfl;rcases d with d|d
  ·omega
  ·exact hn d
 refine Eq.trans ?_ (h.block j f hn);unfold World.freeze;split
 ·rfl
 ·simp only[Array.getElem?_modify];rw[if_neg e]
theorem Xm(b:Nat)(p v:Value)(l:Aeg)(w:World)(h:G0 w b p v l)(z:l.length<=1000000):
  Calls prog 131 #[.pointer (some ⟨b,0,none⟩)] w fun e w'=>e= .returned (.string ⟨l.toArray⟩)/\Aa (Bk b v) w w':=by
 by_cases d:l=[]
 ·have q:=h.nil d;subst q;subst d;have m:=cO 1 h.blk;have i:(Builtin.unsafeSliceData_ #[79] 198 #[.slice none 0 0]).run prog w.drew= .ok (.pointer none) w.drew:=rfl;have k: ∀W,(Builtin.unsafeString_ #[198,3] 9 #[.pointer none,I 0]).run prog W= .ok (.string .empty) W:=fun W=>Lib.run_unsafeString_none W _ _ _ none;clear h
  go_enter func131,ntmps131
  go_wp2
  go_region
  all_goals(go_wp2;go_ret;exact⟨rfl,(Aa.refl _ _).drew⟩)
 ·have o:=List.length_pos_iff.2 d;obtain⟨g,f,q,y,u⟩:=Co h.own o;subst q;have a:=h.own;have m:=cO 1 h.blk;have i:(Builtin.unsafeSliceData_ #[79] 198 #[S0 g l.length f]).run prog w.drew= .ok (.pointer (some (J g 0))) w.drew:=Lib.run_unsafeSliceData_row _ _ _ _ _ _ (by omega);have k:(Builtin.unsafeString_ #[198,3] 9 #[.pointer (some (J g 0)),I l.length]).run prog w.drew= .ok (.string ⟨l.toArray⟩) (w.drew.freeze (J g 0) l.length):=by
   rcases a.2 with⟨c,_⟩|⟨g2,cap2,cur,c,_,t,_,r,s,ht⟩
   ·cases c
   ·cases c;refine Lib.run_unsafeString_row w.drew 198 3 9 5 underlying198 (by kernel_rfl) g cur.size (by have n:w.drew.heap[g]?=some (.cells cur 5 (0,0)):=t;simp[World.shape?,n]) l d (by omega) (by omega) ?_;intro j x c;exact a.cells (g:=g) rfl j (.int .u8 x.toNat) (by simp[Ag,c])
  clear h a
  go_enter func131,ntmps131
  go_wp2
  go_region
  all_goals(go_wp2;go_ret;exact⟨rfl,(Aa.refl _ _).drew.freeze (p:=(J g 0)) (.inr (.inr rfl)) _⟩)
namespace Hm
def Ac(fs:Aef):Aeg:=fs.flatMap fun f=>f.2.data.toList
def Ga(fs:Aef)(k:Nat):Aeh:=(List.range fs.length).map fun i=>if i<k then(Ac (fs.take (i+1))).length else 0
def Aw(fs:Aef):Aeh:=(List.range fs.length).map fun i=>(Ac (fs.take (i+1))).length
theorem Ye(fs:Aef)(k:Nat)(h:k<fs.length):Ac (fs.take (k+1))=Ac (fs.take k)++fs[k].2.data.toList:=by
 rw[zQ h];unfold Ac;rw[Abo];congr 1;simp
theorem O4(fs:Aef)(k:Nat):(Ac (fs.take k)).length<=(Ac fs).length:=by
 have e:Ac fs=Ac (fs.take k)++Ac (fs.drop k):=by
  unfold Ac;rw[<-Abo,Abh]
 rw[e,zL];omega
theorem gL(fs:Aef)(k:Nat):(Ga fs k).length=fs.length:=by simp[Ga]
theorem Dp(fs:Aef):(Aw fs).length=fs.length:=by simp[Aw]
theorem nC(fs:Aef):Ga fs 0=List.replicate fs.length 0:=by
 apply Aa1<;>simp[Ga]
theorem qZ(fs:Aef):Ga fs fs.length=Aw fs:=by
 apply Aa1
 ·simp[Ga,Aw]
 ·intro i h1 h2;have:i<fs.length:=by simpa[Ga]using h1
  simp[Ga,Aw,this]
theorem aL(fs:Aef)(k i:Nat)(h:i<(Ga fs k).length):(Ga fs k)[i]=if i<k then(Ac (fs.take (i+1))).length else 0:=by simp[Ga]
theorem nD(fs:Aef)(k:Nat)(_h:k<fs.length):Ga fs (k+1)=(Ga fs k).set k (Ac (fs.take (k+1))).length:=by
 apply Aa1
 ·simp[Ga]
 ·intro i h1 h2;rw[Ac5,aL,aL]
  by_cases e:k=i
  ·subst e;simp
  ·rw[if_neg e]
   by_cases a:i<k
   ·rw[if_pos a,iP]
   ·rw[if_neg a,iN]
theorem uD(fs:Aef): ∀e∈Aw fs,e<=(Ac fs).length:=by
 intro e a;obtain⟨i,_,rfl⟩:=List.mem_map.1 a;exact O4 fs _
end Hm
theorem gM(S:Aej)(c:Nat)(fs:Aef)(w:World)(N:Az w S fs)(hm:fs.length<=40)(ht:(Ac fs).length<=6000):
  Calls prog 94 #[.slice S fs.length c] w fun e w'=>e= .returned (.tuple #[.string ⟨(Ac fs).toArray⟩,.slice (some ⟨w.heap.size+1,0,none⟩) fs.length fs.length])/\IntRow w' (w.heap.size+1) (Aw fs)/\Aee w w':=by
 obtain⟨i0,hi,O,P,Q⟩:=Aa6 Jy
 go_enter func94,ntmps94
 go_wp2_with(at_make;refine Abv _ rfl (.tmp 9) (.tmp 9) 64 rfl w.heap.size 3 i0 (I 0) 1 underlying64 hi O P .i64 .i64 _ _ fs.length rfl rfl rfl rfl (by rw[Q];omega) (by unfold maxLen;omega) (by simp) ?_;intro K s q)
 have F:(w.alloc (.cells #[.pointer none,.slice none 0 0] 201)).heap.size=w.heap.size+1:=by simp
 try rw[F]at s
 have D:IntRow K (w.heap.size+1) (Ga fs 0):=by rw[nC];exact IntRow.made s
 have x:G0 K w.heap.size (.pointer none) (.slice none 0 0) (Ac (fs.take 0)):=
  ⟨by rw[q.block _ (by simp) (by simp)];exact zY w _,by simpa[Ac,Ag]using Aco K 0 5 1,by simp[Value.ownBlock],.inl rfl,fun _=>rfl⟩
 have z:Aee w K:=((Aa.refl (fun _=>False) w).alloc _).grown q (fun k hk=>by cases hk);clear s q
 go_loopw[13] (fun i wr=> ∃(k:Nat) (p v:Value),k<=fs.length/\i=I k/\G0 wr w.heap.size p v (Ac (fs.take k))/\IntRow wr (w.heap.size+1) (Ga fs k)/\Aee w wr/\(∀j,v.ownBlock=some j->w.heap.size+1<j)) (fun i _=>fs.length-(intOf i).toNat)
 case atStart=>exact⟨0,_,_,zZ _,rfl,x,D,z,fun j h=>by cases h⟩
 case round=>
  clear D x z;obtain⟨k,p,v,hk,rfl,hb,t,l,f⟩:=hrel;have U:=O4 fs k
  by_cases r:k<fs.length
  ·obtain⟨b,o,u,aa,ab,ac⟩:=(N.kept l (fun a ha=>id)) k r;have V:=O4 fs (k+1);have R:=hZ (Ye fs k r);have ad:(Ac (fs.take k)).length+fs[k].2.size<=6000:=by
    have:=congrArg List.length R.o;have Z:fs[k].2.data.toList.length=fs[k].2.size:=by simp
    rw[zL,Z]at this;omega
   have X:=hZ (nD fs k r);have T:=gL fs k;generalize fs[k].1=nm at*;generalize fs[k].2=ct at*;have y:G0 (wr.alloc (.cells #[.string nm,.string ct] 38)) w.heap.size p v (Ac (fs.take k)):=
    ⟨by rw[Below.heap_alloc _ _ _ (Aac hb.blk)];exact hb.blk,hb.own.alloc _,hb.ne,hb.adr,hb.nil⟩
   have H:=aK w.heap.size p v _ ct _ y (by omega);rw[u];clear u N hb y;go_wp2_with fail;refine H.mono ?_;rintro e w2 ⟨W,rfl,g,d,C⟩;have B:=cT _ _ _ _ w2 g;rw[<-R.o]at g B;have m:IntRow w2 (w.heap.size+1) (Ga fs k):=by
    refine IntRow.kept (w:=wr.alloc (.cells #[.string nm,.string ct] 38)) ?_ d ?_
    ·unfold IntRow;rw[Below.heap_alloc _ _ _ t.lt];exact t
    ·rintro(h|h)
     ·omega
     ·have:=f _ h;omega
   have hd:=m.cell (i:=k) (by omega);have ae:=m.free k;have M:Hid (IntRow (w2.setCell (J (w.heap.size+1) k) (I ((Ac (fs.take (k+1))).length:Nat))) (w.heap.size+1) (Ga fs (k+1))):=by
    show IntRow _ _ _;rw[X.o];exact m.set k _
   have A:Aee w w2:=(l.alloc _).trans d (fun j h1 h2=>by
    rcases h2 with h2|h2
    ·omega
    ·have:=f _ h2;omega)
   have n: ∀j,W.ownBlock=some j->w.heap.size+1<j:=fun j h=>by
    rcases C j h with h2|h2
    ·exact f j h2
    ·have:=Aac t;simp at h2;omega
   generalize(Ga fs k)[k]'(by omega)=old at hd;have L:=hZ g;clear H t m g d C l f;generalize(Ac (fs.take (k+1))).length=el at*
   go_wp2_with(go_at_call 130;refine B.mono ?_;rintro e w3 ⟨rfl,rfl⟩)
   go_roundw
   case rel=>
    have hb:=L.o;refine⟨k+1,_,W,by omega,by go_num,⟨?_,?_,hb.ne,hb.adr,hb.nil⟩,M.o,A.setCell (.inl (by simp)) _,n⟩
    ·rw[Acg _ _ _ _ (by simp)];exact hb.blk
    ·exact ownsRow_setCell_other hb.own (fun e=>by have:=n _ e;simp at this) _
   case measure=>simp[intOf];omega
  ·obtain rfl:k=fs.length:=by omega
   rw[Aaw]at hb;rw[qZ]at t;have E:=Xm _ _ _ _ wr hb (by omega);have M:=hZ t;clear N hb t;generalize G:(⟨(Ac fs).toArray⟩:ByteArray)=txt at E;have Y:=hZ G;clear G
   go_wp2_with(go_at_call 131;refine E.mono ?_;rintro e w2 ⟨rfl,d⟩)
   go_ret2;rw[Y.o];refine⟨rfl,M.o.kept d ?_,l.trans d (fun j h1 h2=>?_)⟩
   ·rintro(h|h)
    ·omega
    ·have:=f _ h;omega
   ·rcases h2 with h2|h2
    ·omega
    ·have:=f _ h2;omega
end
namespace Hm
theorem uE(n:Nat):((List.range (n+1)).filter fun p=>decide (0<p)).length=n:=by
 induction n with
 |zero=>rfl
 |succ n ih=>rw[Acm,Abz,zL,ih];simp
theorem j7(n:Nat):((List.range (n+1)).filter fun p=>decide (p%8=0)).length=n/8+1:=by
 induction n with
 |zero=>rfl
 |succ n ih=>
  rw[Acm,Abz,zL,ih]
  by_cases h:(n+1)%8=0
  ·simp[h];omega
  ·simp[h];omega
theorem D8(h:ps.Perm (List.range (s.length+1))):(Am s ps).length=s.length:=by
 unfold Am;rw[Aai,(h.filter _).length_eq,uE]
theorem aM(ps:Aeh)(a:Nat):(Cm ps a).length=(ps.filter fun p=>decide (p%8=0)).length*a:=by
 unfold Cm;generalize(ps.filter fun p=>decide (p%8=0))=l;induction l with
 |nil=>simp
 |cons p r ih=>rw[Aa3,zL,Dx,ih,Aau,Ab4];omega
theorem E0(h:ps.Perm (List.range (n+1))):(Bb ps).length=n+1+(n/8+1)*Lib.bitLen (n/8):=by
 have a:ps.length=n+1:=by have:=h.length_eq;simpa using this
 unfold Bb;rw[zL,Aai,aM,(h.filter _).length_eq,j7,a,Acn]
theorem K7(es:Aeh)(n:Nat):(Bo es n).length=es.length*Ca es.length n+(es.length+n/2^Ca es.length n+1):=by
 unfold Bo;rw[Lt,zL,Il,zV]
end Hm
namespace Hm
def Av(ps:Aeh):Nat:=ps.findIdx fun x=>x==0
def Cf(cd:UInt8->List Bool)(hs:List (List Bool))(col:Aeg):List Bool:=hs.flatMap fun h=>(col.filter fun b=>Ev (cd b) h).map fun b=>(cd b).getD h.length false
def D2(L:Aeh)(N:Nat)(col:Aeg):List Bool:=(Ax (lnB L) (Bq L) (Ao (lnB L) (Af L) (2*N)).1 col N).map fun x=>decide (x=1)
def Cr(fs:Aef)(ps:Aeh)(tr:List Bool):Aeg:=
 [72,79,65,82,68,49,UInt8.ofNat fs.length]++leBytes (Ac fs).length 2++leBytes (Av ps) 2++nameBytes fs++Ah (Bo (Aw fs) (Ac fs).length)++leBytes (Aj (lens (Ac fs))).length 2++B4 (lens (Ac fs)) (Aj (lens (Ac fs)))++Ah tr++Ah (Bb ps)
def Kl(fs:Aef)(ps:Aeh)(tr:List Bool):Aeg:=Cr fs ps tr++leBytes (crc (Cr fs ps tr)) 4
theorem I2(h:ps.Perm (List.range (n+1))):Lib.idxOf (ps.map fun x:Nat=>(x:Int)) 0=(Av ps:Int)/\Av ps<=n:=by
 have g:ps.length=n+1:=by have:=h.length_eq;simpa using this
 have a:0∈ps:=h.symm.subset (by simp);have hk:ps.findIdx (fun x=>x==0)<ps.length:=List.findIdx_lt_length_of_exists ⟨0,a,by simp⟩;have f:ps[ps.findIdx (fun x=>x==0)]=0:=by
  have:=List.findIdx_getElem (p:=fun x:Nat=>x==0) (xs:=ps) (w:=hk);simpa using this
 refine⟨?_,by unfold Av;omega⟩;have d:=Lib.idxOf_hit (ps.map fun x:Nat=>(x:Int)) ps.length (ps.findIdx (fun x=>x==0)) 0 hk (by simp)
  (by simp[List.getD_eq_getElem?_getD,hk,f])
  (fun j e=>by
   have b:j<ps.length:=by omega
   have c:=List.not_of_lt_findIdx e;simp[List.getD_eq_getElem?_getD,b];simpa using c)
 rw[Aap (by simp)]at d;exact d
theorem M5(h:ps.Perm (List.range (s.length+1))): ∀b∈Am s ps,b∈s:=by
 intro b hb;unfold Am at hb;obtain⟨p,c,rfl⟩:=List.mem_map.1 hb;have a:=List.mem_filter.1 c;have d:0<p:=by simpa using a.2
 have h1:=h.subset a.1;have h2:p<s.length+1:=by simpa using h1
 rw[zG,zH (by omega)];exact z6 _
theorem j8(ln num:UInt8->Nat)(nds:List Nd)(n:Nat):Hx ln num nds [] n=[]:=rfl
theorem Jp(ln num:UInt8->Nat)(nds:List Nd)(N:Nat):Ax ln num nds [] N=[]:=by
 induction N with
 |zero=>rfl
 |succ N ih=>rw[Fm,ih,j8];rfl
theorem Oa{N:Nat}{col:Aeg}{hs:List (List Bool)}(c:Bz L)(f:Ends 32 (lnB L) (Af L) N)(i: ∀b∈col,b∈Af L)(n:Gf (Ih (lnB L) (Bq L)) hs):D2 L N col=Cf (Ih (lnB L) (Bq L)) hs col:=by
 by_cases k:Af L=[]
 ·have m:col=[]:=by
   cases col with
   |nil=>rfl
   |cons b r=>have:=i b (Aab ..);rw[k]at this;simp at this
  subst m;unfold D2 Cf;rw[Jp];simp
 ·have d:=f.nodes;have a:=f.len;have p:=f.side0 k;have hk:=c.numk;have o:=n.unique (d.heads hk (fun j e=>p j (by rw[a]at e;exact e)) c.num_lt (fun b hb=>(c.mem b).2 hb));rw[o];unfold D2 Cf Sf;generalize(Ao (lnB L) (Af L) (2*N)).1=nds at*;rw[<-a];unfold Ax;rw[List.map_flatMap,List.flatMap_map];rw[List.flatMap_def,List.flatMap_def];congr 1;refine Acy fun j e=>?_;have h:j<nds.length:=by simpa using e
  unfold Hx Aq;rw[List.map_map];have l:(col.filter fun b=>Ev (Ih (lnB L) (Bq L) b) (Dl (Ab nds j).depth (Ab nds j).num))=col.filter (Ee (lnB L) (Bq L) (Ab nds j)):=
   List.filter_congr fun b hb=>d.begins hk c.num_lt h (i b hb) (c.pos b (i b hb))
  rw[l,By];refine Acy fun b hb=>?_;have g:=List.mem_filter.1 hb;exact(s8 b _ (Aay g.2).1).symm
end Hm
section
open Go.RowKit
structure Gr(w wr:World)(pb:Nat)(gs:List Grp)(L:Aeh)(v:Value)(vs:Aei):Prop where
 grp:Dm wr (w.heap.size+1) v gs vs
 row:wr.heap[pb]?=some (.cells #[v] 213 (0,0))
 len:E4 wr 139 (pb+1) L
 res:wr.heap[w.heap.size]?=some (.cells Tryz.zeroCells139 139 (0,0))
 kept:Aee w wr
 own: ∀k,v.ownBlock=some k->k≠pb/\k≠pb+1
 mem: ∀m,(h:m<vs.length)-> ∀k,vs[m].ownBlock=some k->k≠pb/\k≠pb+1
 hpb:w.heap.size<pb
theorem Gr.grew{a:World}{gs:List Grp}(h:Gr w wr pb gs L v vs)(hk:Aee wr a):Gr w a pb gs L v vs:=
 ⟨⟨h.grp.len,hk.owns h.grp.own (fun _ _=>id),fun i h1 h2=>⟨(h.grp.mem i h1 h2).1.kept hk (fun _ _=>id),(h.grp.mem i h1 h2).2⟩⟩,hk.row h.row id,h.len.kept hk id,hk.row h.res id,h.kept.tr hk,h.own,h.mem,h.hpb⟩
theorem Gr.take{gs:List Grp}{d:Value}(h:Gr w wr pb gs L v vs)(l:0<gs.length)
  (o:w2.heap[pb]?=some (.cells #[d] 213 (0,0))) (n:Dm w2 (w.heap.size+1) d (gs.eraseIdx (first gs)) (vs.eraseIdx (first gs))) (i:d.ownBlock=v.ownBlock) (hk:Aa (fun k=>k=pb\/v.ownBlock=some k) wr w2):
  Gr w w2 pb (left gs) L d (vs.eraseIdx (first gs))/\Gn w2 (vs.getD (first gs) undef) (Au gs).2.2/\ ∀k,(vs.getD (first gs) undef).ownBlock=some k->k≠pb/\k≠pb+1/\d.ownBlock≠some k:=by
 have f:=Hd gs l;have p:=h.grp.len;have hM:=h.grp.memD f;have b: ∀k,(vs.getD (first gs) undef).ownBlock=some k->k≠pb/\k≠pb+1:=fun k a=>by
  rw[zG,zH (by omega)]at a;exact h.mem _ _ k a
 have g:pb+1≠pb:=by omega
 refine⟨⟨n,o,h.len.kept hk ?_,hk.row h.res ?_,h.kept.trans hk ?_,fun k a=>h.own k (by rw[<-i];exact a),?_,h.hpb⟩,hM.1.kept hk ?_,fun k a=>⟨(b k a).1,(b k a).2,by rw[i];exact hM.2 k a⟩⟩
 ·rintro(e|e)
  ·omega
  ·exact(h.own _ e).2 rfl
 ·rintro(e|e)
  ·have:=h.hpb;omega
  ·have:=(h.grp.own.lt _ e).1;omega
 ·rintro j q (e|e)
  ·have:=h.hpb;omega
  ·have:=(h.grp.own.lt _ e).1;omega
 ·intro m r k a;rw[List.getElem_eraseIdx]at a
  by_cases c:m<first gs
  ·rw[dif_pos c]at a;exact h.mem _ _ k a
  ·rw[dif_neg c]at a;exact h.mem _ _ k a
 ·rintro k a (e|e)
  ·exact(b k a).1 e
  ·exact hM.2 k a e
theorem Gr.bump{gs:List Grp}(h:Gr w wr pb gs L v vs)(i x:Nat):Gr w (wr.setCell ⟨pb+1,i,none⟩ (.int .i64 x)) pb gs (L.set i x) v vs:=by
 have hk:Aa (fun k=>k=pb+1) wr (wr.setCell (J (pb+1) i) (I x)):=(Aa.refl (fun k=>k=pb+1) wr).setCell (p:=(J (pb+1) i)) (.inr rfl) _;have b:=h.hpb;exact⟨⟨h.grp.len,hk.owns h.grp.own (fun k a e=>(h.own k a).2 e),fun m h1 h2=>⟨(h.grp.mem m h1 h2).1.kept hk (fun k a e=>(h.mem m h2 k a).2 e),(h.grp.mem m h1 h2).2⟩⟩,hk.row h.row (by omega),h.len.set i x,hk.row h.res (by omega),h.kept.setCell (.inl (show w.heap.size<=pb+1 by omega)) _,h.own,h.mem,h.hpb⟩
theorem Gr.app{o f:World}{gs:List Grp}{v8 mv:Value}{g:Grp}(h:Gr w wr pb gs L v vs)(a:Aee wr o)(z:Gn o mv g.2.2)
  (i: ∀k,mv.ownBlock=some k->v.ownBlock≠some k/\k≠pb/\k≠pb+1) (B:f.ownsRow (w.heap.size+1) 216 3 v8 (gs.length+1) (Dc gs vs++Dc [g] [mv])) (t:o.grownBy f v.ownBlock) (n:Ck o v v8):
  Gr w (f.setCell ⟨pb,0,none⟩ v8) pb (gs++[g]) L v8 (vs++[mv]):=by
 have C:=h.hpb;have x:=h.len.lt;have D:=a.size;have q:=h.grp.append a (by omega) z (fun k hk=>(i k hk).1) B t n;have r:Aa (fun k=>v.ownBlock=some k) o f:=(Aa.refl _ _).grown t (fun j u=> .inr u);have s:Aa (fun k=>k=pb) f (f.setCell (J pb 0) v8):=(Aa.refl (fun k=>k=pb) f).setCell (p:=(J pb 0)) (.inr rfl) _;have d: ∀k,v8.ownBlock=some k->k≠pb/\k≠pb+1:=fun k hk=>by
  rcases n k hk with y|y
  ·exact h.own k y
  ·omega
 have c: ∀m,(z:m<(vs++[mv]).length)-> ∀k,(vs++[mv])[m].ownBlock=some k->k≠pb/\k≠pb+1:=by
  intro m A k hk
  by_cases l:m<vs.length
  ·rw[List.getElem_append_left l]at hk;exact h.mem m l k hk
  ·rw[List.getElem_append_right (by omega)]at hk;simp at hk;exact⟨(i k hk).2.1,(i k hk).2.2⟩
 have E:f.heap[pb]?=some (.cells #[v] 213 (0,0)):=r.row (a.row h.row id) (fun e=>(h.own _ e).1 rfl);have b: ∀k,v.ownBlock=some k->w.heap.size+1<=k:=fun k hk=>(h.grp.own.lt k hk).1;refine⟨⟨q.len,s.owns q.own (fun k hk e=>(d k hk).1 e),fun m h1 h2=>⟨(q.mem m h1 h2).1.kept s (fun k hk e=>(c m h2 k hk).1 e),(q.mem m h1 h2).2⟩⟩,zI _ _ 0 _ _ _ E,((h.len.kept a id).kept r (fun e=>(h.own _ e).2 rfl)).kept s (by omega),s.row (r.row (a.row h.res id) (fun e=>by have:=b _ e;omega)) (by omega),?_,d,c,C⟩;exact((h.kept.tr a).trans r (fun j u e=>by have:=b _ e;omega)).setCell (.inl (show w.heap.size<=pb by omega)) _
theorem cU(s:ByteArray)(f:Nat)(w:World)(hs:s.size<=6000)(gs:List Grp)(x:Ai s.data.toList 256=gs)(h1:gs.length=1)(F:f<256)(D:(gs.getD 0 (0,0,[])).2.1.toNat=f):
  Calls prog 96 #[.string s] w fun e w'=>e= .returned (.agg (Ad (G4 256 f 1)).toArray)/\Aee w w':=by
 have t:=Xw s (w.alloc (.cells Tryz.zeroCells139 139)) hs;rw[x]at t
 go_enter func96,ntmps96
 go_wp2_with fail;refine t.mono ?_;rintro e d ⟨v,vs,rfl,A,n⟩;clear t x;have p:=A.own;rw[h1]at p;obtain⟨g,a,N,L,H⟩:=Co p (by omega);subst N;have M:w.heap.size+1<=d.heap.size:=by have:=n.size;simpa using this
 have G:w.heap.size<g:=by have:=p.lt g rfl;simp at this;omega
 have K:d.cell? (J g 1)=some (.int .u8 f):=by
  have h2:=(A.cellsD (i:=0) (by omega)).2.1;rw[D,Nat.zero_mul]at h2;exact h2
 have m:d.heap[w.heap.size]?=some (.cells Tryz.zeroCells139 139 (0,0)):=n.row (zY w _) id;have q:Aee w d:=((Aa.refl (fun _=>False) w).alloc _).tr n;clear p n A D h1;have r:((d.alloc (.cells #[S0 g 1 a] 213)).alloc (.cells (Ad (G4 256 f 1)).toArray 139)).cell? (J d.heap.size 0)=some (S0 g 1 a):=zP _ _ 0 _ _ _ (Ab2 d _ _);have b:((d.alloc (.cells #[S0 g 1 a] 213)).alloc (.cells (Ad (G4 256 f 1)).toArray 139)).heap[d.heap.size+1]?=some (.cells (Ad (G4 256 f 1)).toArray 139 (0,0)):=Ab3 d _ _;have c:((d.alloc (.cells #[S0 g 1 a] 213)).alloc (.cells (Ad (G4 256 f 1)).toArray 139)).heap[w.heap.size]?=some (.cells Tryz.zeroCells139 139 (0,0)):=by
  rw[Below.heap_alloc _ _ _ (by simp;omega),Below.heap_alloc _ _ _ (by omega)];exact m
 have k:Aee w ((d.alloc (.cells #[S0 g 1 a] 213)).alloc (.cells (Ad (G4 256 f 1)).toArray 139)):=(q.alloc _).alloc _;have z:Hid (((d.alloc (.cells #[S0 g 1 a] 213)).alloc (.cells (Ad (G4 256 f 1)).toArray 139)).cell? (J d.heap.size 0)=some (S0 g 1 a)/\
  ((d.alloc (.cells #[S0 g 1 a] 213)).alloc (.cells (Ad (G4 256 f 1)).toArray 139)).heap[d.heap.size+1]?=some (.cells (Ad (G4 256 f 1)).toArray 139 (0,0))/\
  ((d.alloc (.cells #[S0 g 1 a] 213)).alloc (.cells (Ad (G4 256 f 1)).toArray 139)).heap[w.heap.size]?=some (.cells Tryz.zeroCells139 139 (0,0))/\
  Aee w ((d.alloc (.cells #[S0 g 1 a] 213)).alloc (.cells (Ad (G4 256 f 1)).toArray 139))):=⟨r,b,c,k⟩
 clear r b c k q m;have y:Tryz.zeroCells139.size=256:=by rw[Le,Ba,zV]
 go_wp2_with fail;rw[vZ];generalize(d.alloc (.cells #[S0 g 1 a] 213)).alloc (.cells (Ad (G4 256 f 1)).toArray 139)=W at z|-;have h:(Ad (G4 256 f 1)).toArray.size=256:=by rw[Ba,jD]
 have l:=Ew (G4 256 f 1);generalize hA:(Ad (G4 256 f 1)).toArray=arr at z h l;have E:=hZ hA;clear hA;obtain⟨r,b,c,k⟩:=z.o;have u:Hid (W.heap[d.heap.size+1]?=some (.cells arr 139 (0,0))/\W.heap[w.heap.size]?=some (.cells Tryz.zeroCells139 139 (0,0))/\arr.all (·.oneCell')=true/\Aee w W/\Tryz.zeroCells139.size=arr.size):=⟨b,c,l,k,by rw[y,h]⟩;clear b c l k z y;refine wp_loop_rounds 1 ?_;rw[rounds_succ]
 go_wp2_with(first
  |(refine Aa0 rfl 139 _ rfl (d.heap.size+1) rfl 139 arr (0,0) _ u.o.1 underlying139 rfl (by rw[h];exact Ci) ?_)
  |(refine wpList_store_row _ rfl 139 _ _ rfl w.heap.size 139 _ arr rfl rfl u.o.2.1 (by rw[h];exact Ci) u.o.2.2.2.2 u.o.2.2.1 ?_;intro O C B))
 refine Aa8 (v:= .agg arr) (Abj results96 _ O w.heap.size 139 arr (0,0) _ rfl C underlying139 rfl (by rw[h];exact Ci)) rfl ⟨by rw[E.o],?_⟩;exact u.o.2.2.2.1.trans B (fun j h1 h2=>by omega)
theorem nE(s:ByteArray)(w:World)(hs:s.size<=6000):
  Calls prog 96 #[.string s] w fun e w'=>e= .returned (.agg (Ad (lens s.data.toList)).toArray)/\Aee w w':=by
 have aV:=Xw s (w.alloc (.cells Tryz.zeroCells139 139)) hs;have N:=Qm s.data.toList (by simpa using hs)
 by_cases h1:(Ai s.data.toList 256).length=1
 ·have hL:lens s.data.toList=G4 256 ((Ai s.data.toList 256).getD 0 (0,0,[])).2.1.toNat 1:=by
   unfold lens;simp only[];rw[if_pos h1];rfl
  rw[hL];exact cU s _ w hs _ rfl h1 (UInt8.toNat_lt _) rfl
 have hL:lens s.data.toList=(Bv (Ai s.data.toList 256) (List.replicate 256 0) ((Ai s.data.toList 256).length-1)).2:=by
  unfold lens;simp only[];rw[if_neg h1]
 rw[hL];generalize Ai s.data.toList 256=gs at*;clear hL;have cg:=N.len;have b4: ¬((gs.length:Int)=1):=by omega
 go_enter func96,ntmps96
 go_wp2_with fail;refine aV.mono ?_;rintro e f ⟨v,vs,rfl,U,ab⟩;clear aV;have A:v.oneCell'=true/\ ∃a c,v= .slice a gs.length c:=by
  rcases U.own.2 with⟨rfl,h0⟩|⟨g,cap,cur,rfl,_⟩
  ·exact⟨rfl,none,0,by rw[h0]⟩
  ·exact⟨rfl,_,_,rfl⟩
 obtain⟨_,av,cv,ev⟩:=A;subst ev;have cm:w.heap.size+1<=f.heap.size:=by have:=ab.size;simpa using this
 have HS:Hid (Gr w ((f.alloc (.cells #[.slice av gs.length cv] 213)).alloc (.cells Tryz.zeroCells139 139)) f.heap.size gs (List.replicate 256 0) (.slice av gs.length cv) vs):=by
  have ad:Aee f ((f.alloc (.cells #[.slice av gs.length cv] 213)).alloc (.cells Tryz.zeroCells139 139)):=((Aa.refl _ _).alloc _).alloc _;have hb:(w.alloc (.cells Tryz.zeroCells139 139)).heap.size=w.heap.size+1:=by simp
  rw[hb]at U;refine⟨⟨U.len,ad.owns U.own (fun _ _=>id),fun i h1 h2=>⟨(U.mem i h1 h2).1.kept ad (fun _ _=>id),(U.mem i h1 h2).2⟩⟩,Ab2 f _ _,?_,ad.row (ab.row (zY w _) id) id,(((Aa.refl _ w).alloc _).tr ab).tr ad,fun k hk=>?_,fun m hm k hk=>?_,by omega⟩
  ·unfold E4;rw[Ab3 f _ _,Le]
  ·have:=(U.own.lt k hk).2;omega
  ·obtain⟨gg,cc,ee,_,_,bF,_⟩:=(U.mem m (by have:=U.len;omega) hm).1;rw[ee]at hk;cases hk;show gg≠_/\gg≠_;omega
 clear U ab;go_wp2_with fail;have d:=HS.o;clear HS;have aF:((gs.length:Int)==1)=false:=by rw[Aat];exact b4
 rw[aF];clear aF;generalize(f.alloc (.cells #[.slice av gs.length cv] 213)).alloc (.cells Tryz.zeroCells139 139)=W0 at*
 go_loopg [20] (gs.length-1) (fun k _ wr=> ∃(j:Nat) (v':Value) (F:Aei),j+k=gs.length-1/\Gr w wr f.heap.size (Bv gs (List.replicate 256 0) j).1 (Bv gs (List.replicate 256 0) j).2 v' F/\Ms (Bv gs (List.replicate 256 0) j).1/\(Bv gs (List.replicate 256 0) j).1.length+j=gs.length/\(∀x∈(Bv gs (List.replicate 256 0) j).2,x<=256*j)/\(Bv gs (List.replicate 256 0) j).2.length=256)
 case atStart=>exact⟨0,_,vs,by omega,d,N,rfl,fun x hx=>by rw[Ac8 hx];omega,zV⟩
 case round=>
  clear d;obtain⟨j,v',F,b2,d,aa,b3,au,ak⟩:=hrel;have HN:Hid (Bv gs (List.replicate 256 0) (j+1)=(Hm.step (Bv gs (List.replicate 256 0) j).1,bump (Bv gs (List.replicate 256 0) j).2 (L6 (Bv gs (List.replicate 256 0) j).1).2.2)):=rfl;have HZ:Hid (Bv gs (List.replicate 256 0) j=((Bv gs (List.replicate 256 0) j).1,(Bv gs (List.replicate 256 0) j).2)):=rfl;generalize(Bv gs (List.replicate 256 0) j).1=g1 at*;generalize(Bv gs (List.replicate 256 0) j).2=L1 at*;have A: ∃a c,v'= .slice a g1.length c:=by
   rcases d.grp.own.2 with⟨rfl,h0⟩|⟨g,cap,cur,rfl,_⟩
   ·exact⟨none,0,by rw[h0]⟩
   ·exact⟨_,_,rfl⟩
  obtain⟨a',c',ev⟩:=A;subst ev;have bv:=cO 0 d.row
  by_cases aN:1<g1.length
  ·have aJ:decide (1<g1.length)=true:=by simp;omega
   have an:decide ((1:Int)<(g1.length:Int))=true:=by simp;omega
   have aK:=aa.len;have hleft:=Et g1 (by omega);have aX:=T9 (w.heap.size+1) f.heap.size _ g1 F wr d.grp d.row (fun e=>(d.own _ e).1 rfl) (fun m hm e=>(d.mem m hm _ e).1 rfl) aK (by omega);have a9:=hZ d;have X:=hZ (aI aa au);clear d aa au;go_wp2_with fail;refine aX.mono ?_;rintro e w2 ⟨v2,gw,gl,gv,rfl,ap,O,P,aT,aC,aR,aL⟩;obtain⟨ae,Y,al⟩:=a9.o.take (by omega) aT aC aR aL;clear aX aT aC aR aL;rw[<-P]at Y al;obtain⟨V,cA,eA,-⟩:=id Y;subst eA;obtain rfl:gw=(Au g1).1:=ap;obtain rfl:gl=(Au g1).2.1.toNat:=O;clear P;have a4:=hZ Y;have aH:=al V rfl;clear Y al a9 bv;have r:=ae.grew (((Aa.refl (fun _=>False) w2).alloc (.cells #[I ((Au g1).1:Nat),.int .u8 ((Au g1).2.1.toNat:Nat),S0 V (Au g1).2.2.length cA] 216)));have aY:=T9 (w.heap.size+1) f.heap.size _ (left g1) _ _ r.grp r.row (fun e=>(r.own _ e).1 rfl) (fun m hm e=>(r.mem m hm _ e).1 rfl) (by omega) (by omega);have Q:=zY w2 (.cells #[I ((Au g1).1:Nat),.int .u8 ((Au g1).2.1.toNat:Nat),S0 V (Au g1).2.2.length cA] 216);have aM:Aee w2 (w2.alloc (.cells #[I ((Au g1).1:Nat),.int .u8 ((Au g1).2.1.toNat:Nat),S0 V (Au g1).2.2.length cA] 216)):=(Aa.refl _ _).alloc _;have a6:Hid (Gr w (w2.alloc (.cells #[I ((Au g1).1:Nat),.int .u8 ((Au g1).2.1.toNat:Nat),S0 V (Au g1).2.2.length cA] 216)) f.heap.size (left g1) L1 v2 (F.eraseIdx (Hm.first g1))/\(∀k,v2.ownBlock=some k->k<w2.heap.size)/\
    (w2.alloc (.cells #[I ((Au g1).1:Nat),.int .u8 ((Au g1).2.1.toNat:Nat),S0 V (Au g1).2.2.length cA] 216)).heap[w2.heap.size]?=some (.cells #[I ((Au g1).1:Nat),.int .u8 ((Au g1).2.1.toNat:Nat),S0 V (Au g1).2.2.length cA] 216 (0,0))/\
    Gn (w2.alloc (.cells #[I ((Au g1).1:Nat),.int .u8 ((Au g1).2.1.toNat:Nat),S0 V (Au g1).2.2.length cA] 216)) (S0 V (Au g1).2.2.length cA) (Au g1).2.2/\v2.ownBlock≠some V/\f.heap.size<w2.heap.size):=
    ⟨r,fun k hk=>(ae.grp.own.lt k hk).2,Q,a4.o.kept aM (fun _ _=>id),aH.2.2,Aac ae.row⟩
   clear ae r Q aM a4;go_wp2_with fail;refine aY.mono ?_;rintro e w3 ⟨v3,gw,gl,gv,rfl,ap,O,P,aU,aD,aS,E⟩;obtain⟨sA,aj,Q,aE,ba,bH⟩:=a6.o;obtain⟨bc,Z,am⟩:=sA.take (by omega) aU aD aS E;rw[<-P]at Z am;obtain⟨mB,cB,eB,-⟩:=id Z;subst eB;obtain rfl:gw=(Au (left g1)).1:=ap;obtain rfl:gl=(Au (left g1)).2.1.toNat:=O;have ce:=am mB rfl;have L:=E.row Q (by
    rintro(e|e)
    ·omega
    ·have:=aj _ e;omega)
   have ag:=aE.kept E (by
    rintro k hk (e|e)
    ·cases hk;exact aH.1 e
    ·cases hk;exact ba e)
   clear aY P aU aD aS E am sA aj Q aE ba a6;have ac:Aee w3 (w3.alloc (.cells #[I ((Au (left g1)).1:Nat),.int .u8 ((Au (left g1)).2.1.toNat:Nat),S0 mB (Au (left g1)).2.2.length cB] 216)):=(Aa.refl _ _).alloc _;have bu:=o6 X.o.1 aN;have hj:=tM (Au g1) (Au (left g1)) _ _ _ (ag.kept ac (fun _ _=>id)) (Z.kept ac (fun _ _=>id)) bu.2.2.1 (by omega) (by omega);have f0:=cO 0 L;have f1:=cO 1 L;have f2:=cO 2 L;have bJ:w2.heap.size<w3.heap.size:=Aac L;have G:=hZ (bc.grew ac);clear bc Z L ag ac;have HJ:Hid (L6 g1=E9 (Au g1) (Au (left g1))):=rfl;have K:Hid (Hm.step g1=left (left g1)++[L6 g1]/\(left (left g1)).length+1=(left g1).length):=⟨rfl,Et _ (by omega)⟩;go_wp2_with fail;refine hj.mono ?_;rintro e W ⟨v5,rfl,z,aG,aq⟩;rw[<-HJ.o]at z|-;have cd:(L6 g1).2.2.length<=256:=by rw[HJ.o,E9];simp only[zL];omega
   generalize L6 g1=C at*;obtain⟨q,t,eC,-⟩:=id z;subst eC;have bs:=aG q rfl;have T:=(G.o.grew aq).grew (((Aa.refl (fun _=>False) W).alloc (.cells #[I C.1,.int .u8 C.2.1.toNat,S0 q C.2.2.length t] 216)));have bG:f.heap.size+1<q:=by
    have h2:=G.o.len.lt;omega
   have a7:Hid (Gr w (W.alloc (.cells #[I C.1,.int .u8 C.2.1.toNat,S0 q C.2.2.length t] 216)) f.heap.size (left (left g1)) L1 v3 ((F.eraseIdx (Hm.first g1)).eraseIdx (Hm.first (left g1)))/\
    (W.alloc (.cells #[I C.1,.int .u8 C.2.1.toNat,S0 q C.2.2.length t] 216)).heap[W.heap.size]?=some (.cells #[I C.1,.int .u8 C.2.1.toNat,S0 q C.2.2.length t] 216 (0,0))/\
    Gn (W.alloc (.cells #[I C.1,.int .u8 C.2.1.toNat,S0 q C.2.2.length t] 216)) (S0 q C.2.2.length t) C.2.2/\f.heap.size+1<W.heap.size/\(∀k,v3.ownBlock=some k->k<q)):=
    ⟨T,zY _ _,z.kept ((Aa.refl (fun _=>False) W).alloc _) (fun _ _=>id),(G.o.grew aq).len.lt,fun k hk=>Aa9 (G.o.grp.own.lt k hk).2 bs⟩
   clear hj z aG aq T G f0 f1 f2;go_wp2_with fail;obtain⟨T,aB,z,cl,aZ⟩:=a7.o;clear a7;generalize W.alloc (.cells #[I C.1,.int .u8 C.2.1.toNat,S0 q C.2.2.length t] 216)=W5 at*;generalize(F.eraseIdx (Hm.first g1)).eraseIdx (Hm.first (left g1))=VS at*;have bk:=hZ aZ;clear aZ
   go_loopw[31] (fun i ay=> ∃b:Nat,b<=C.2.2.length/\i=I b/\Gr w ay f.heap.size (left (left g1)) (bump L1 (C.2.2.take b)) v3 VS/\ay.heap[W.heap.size]?=some (.cells #[I C.1,.int .u8 C.2.1.toNat,S0 q C.2.2.length t] 216 (0,0))/\Gn ay (S0 q C.2.2.length t) C.2.2) (fun i _=>C.2.2.length-(intOf i).toNat)
   case atStart=>exact⟨0,zZ _,rfl,by rw[Aed];exact T,aB,z⟩
   case round=>
    clear T aB z;obtain⟨b,hb,rfl,h,D,M⟩:=hrel
    by_cases ai:b<C.2.2.length
    ·have bz:decide ((b:Int)<(C.2.2.length:Int))=true:=by simp;omega
     have bE:=Me (C.2.2.take b) L1;have cp:C.2.2[b].toNat<256:=UInt8.toNat_lt _;have bx:wr.cell? (J q b)=some (.int .u8 (C.2.2[b].toNat:Nat)):=by
      obtain⟨g',bR,e',_,_,_,bw⟩:=M;cases e';exact bw b ai
     have cj:=h.len.cell (i:=C.2.2[b].toNat) (by omega);have ck:=h.len.free C.2.2[b].toNat;have cf:(bump L1 (C.2.2.take b))[C.2.2[b].toNat]'(by omega)<=256*j+256:=by
      have h3:=cD (C.2.2.take b) L1 (256*j) X.o.2 _ (z6 (l:=bump L1 (C.2.2.take b)) (n:=C.2.2[b].toNat) (by omega));rw[zS]at h3;omega
     have aW:bump L1 (C.2.2.take (b+1))=(bump L1 (C.2.2.take b)).set C.2.2[b].toNat ((bump L1 (C.2.2.take b))[C.2.2[b].toNat]'(by omega)+1):=by
      rw[zQ ai,eE,zG,zH (by omega)];rfl
     have ax:=h.bump C.2.2[b].toNat ((bump L1 (C.2.2.take b))[C.2.2[b].toNat]'(by omega)+1);rw[<-aW]at ax;have ar:Aa (fun k=>k=f.heap.size+1) wr (wr.setCell (J (f.heap.size+1) (C.2.2[b].toNat)) (I (((bump L1 (C.2.2.take b))[C.2.2[b].toNat]'(by omega)+1:Nat):Nat))):=(Aa.refl (fun k=>k=f.heap.size+1) wr).setCell (p:=(J (f.heap.size+1) (C.2.2[b].toNat))) (.inr rfl) _;have H7:Hid (Gr w (wr.setCell (J (f.heap.size+1) (C.2.2[b].toNat)) (I (((bump L1 (C.2.2.take b))[C.2.2[b].toNat]'(by omega)+1:Nat):Nat))) f.heap.size (left (left g1)) (bump L1 (C.2.2.take (b+1))) v3 VS/\
      (wr.setCell (J (f.heap.size+1) (C.2.2[b].toNat)) (I (((bump L1 (C.2.2.take b))[C.2.2[b].toNat]'(by omega)+1:Nat):Nat))).heap[W.heap.size]?=some (.cells #[I C.1,.int .u8 C.2.1.toNat,S0 q C.2.2.length t] 216 (0,0))/\
      Gn (wr.setCell (J (f.heap.size+1) (C.2.2[b].toNat)) (I (((bump L1 (C.2.2.take b))[C.2.2[b].toNat]'(by omega)+1:Nat):Nat))) (S0 q C.2.2.length t) C.2.2):=⟨ax,ar.row D (by omega),M.kept ar (fun k hk e=>by cases hk;exact absurd (show q=f.heap.size+1 from e) (by omega))⟩
     clear aW ax ar h D M;generalize(bump L1 (C.2.2.take b))[C.2.2[b].toNat]'(by omega)=y at*;generalize C.2.2[b].toNat=x at*;go_wp2;go_roundw
     case rel=>exact⟨b+1,by omega,by go_num,H7.o.1,H7.o.2.1,H7.o.2.2⟩
     case measure=>simp[intOf];omega
    ·have bz:decide ((C.2.2.length:Int)<(C.2.2.length:Int))=false:=by simp
     have bt:b=C.2.2.length:=by omega
     subst bt;rw[Aaw]at h;obtain⟨a3,c3,bo⟩: ∃a3 c3,v3= .slice a3 (left (left g1)).length c3:=by
      rcases h.grp.own.2 with⟨rfl,h0⟩|⟨g,cap,cur,rfl,_⟩
      ·exact⟨none,0,by rw[h0]⟩
      ·exact⟨_,_,rfl⟩
     subst bo;have c0:=cO 0 h.row;have d0:=cO 0 D;have d1:=cO 1 D;have d2:=cO 2 D;have H:=hZ (aI h M);have co:=h.len.lt;have ch:=h.kept.size;clear h M D hb;obtain⟨i0,hi,b7,b8,b9⟩:=Aa6 Px;have ci:(left (left g1)).length<=256:=by have:=K.o.2;omega
     generalize aQ:(left (left g1)).length=n3 at*;have a5:=hZ aQ;clear aQ
     go_wp2_with(at_builtin;refine Ay _ rfl (.tmp 41) (.tmp 43) 213 rfl (w.heap.size+1) 216 i0 _ 3 40 underlying213 hi b7 b8 b9 rfl (by decide) _ n3 (Dc (left (left g1)) VS) rfl ?c0 (J wr.heap.size 0) 1 1 [I C.1,.int .u8 C.2.1.toNat,S0 q C.2.2.length t] rfl rfl ?c1 ?c2 ?c3 ?c4 ?c5 ?_)
     case c0=>
      have:=H.o.1.grp.own;rw[a5.o]at this;exact((Aa.refl (fun _=>False) wr).alloc _).owns this (fun _ _=>id)
     case c1=>
      intro j u hj;rw[Addr.add_lit,Aao,zP _ _ j _ _ _ (zY wr _)];simpa using hj
     case c2=>first|exact⟨rfl,rfl,rfl⟩|(intro u hu;simp at hu;rcases hu with rfl|rfl|rfl<;>rfl)
     case c3=>unfold maxLen;omega
     case c4=>omega
     case c5=>simp;omega
     intro v8 w8 aw ao aP;obtain⟨a8,c8,bp⟩: ∃a8 c8,v8= .slice a8 (n3+1) c8:=by
      rcases aw.2 with⟨rfl,h0⟩|⟨g,cap,cur,rfl,_⟩
      ·omega
      ·exact⟨_,_,rfl⟩
     subst bp;have bd:=H.o.1.app ((Aa.refl (fun _=>False) wr).alloc (.cells #[I C.1,.int .u8 C.2.1.toNat,S0 q C.2.2.length t] 216)) (g:=C) (mv:=S0 q C.2.2.length t) (H.o.2.kept ((Aa.refl (fun _=>False) wr).alloc _) (fun _ _=>id))
      (fun k hk=>by
       cases hk;refine⟨fun e=>Nat.lt_irrefl _ (bk.o _ e),?_,?_⟩
       ·show q≠_;omega
       ·show q≠_;omega) (by rw[a5.o];exact aw) ao aP
     have k8:Aa (fun k=>(Value.slice a3 n3 c3).ownBlock=some k) _ w8:=(Aa.refl _ _).grown ao (fun j hj=> .inr hj);have S:=k8.row (((Aa.refl (fun _=>False) wr).alloc _).row H.o.1.row id) (fun e=>(H.o.1.own _ e).1 rfl);have r8:=cO 0 S;have q8:=zR _ _ 0 _ _ S;have H9:=hZ bd;clear bd aw ao aP c0 d0 d1 d2 k8 S;have a2:=hZ (aI b2 (aI b3 (aI aN ak)));go_wp2
     go_roundg (gk-1)
     case rel=>
      obtain⟨p1,p2,p3,p4⟩:=a2.o;have b0:=X.o.1.step p3;have cn:=Xz g1 p3;refine⟨j+1,.slice a8 (n3+1) c8,VS++[S0 q C.2.2.length t],by omega,?_,?_,?_,?_,?_⟩
      ·rw[HN.o,K.o.1];exact H9.o
      ·rw[HN.o];exact b0
      ·rw[HN.o];show(Hm.step g1).length+(j+1)=_;omega
      ·rw[HN.o];intro x hx;have:=cD C.2.2 L1 (256*j) X.o.2 x hx;omega
      ·rw[HN.o];show(bump L1 C.2.2).length=256;rw[Me];exact p4
     case measure=>have:=a2.o;omega
  ·have aJ:decide (1<g1.length)=false:=by simp;omega
   have an:decide ((1:Int)<(g1.length:Int))=false:=by simp;omega
   have b1:gs.length-1=j:=by omega
   have HL:Hid ((Bv gs (List.replicate 256 0) (gs.length-1)).2=L1):=by show _=_;rw[b1,HZ.o]
   have B:(Ad L1).toArray.size=256:=by rw[Ba];exact ak
   have bb:Tryz.zeroCells139.size=256:=by rw[Le,Ba,zV]
   have ah:=Ew L1;have R:=d.len;unfold E4 at R;have HX:Hid (wr.heap[f.heap.size+1]?=some (.cells (Ad L1).toArray 139 (0,0))/\wr.heap[w.heap.size]?=some (.cells Tryz.zeroCells139 139 (0,0))/\(Ad L1).toArray.all (·.oneCell')=true/\Aee w wr/\Tryz.zeroCells139.size=(Ad L1).toArray.size):=⟨R,d.res,ah,d.kept,by rw[bb,B]⟩;clear d aa au HN HZ R ah bb ak;generalize hA:(Ad L1).toArray=arr at*;have HA:=hZ hA;clear hA
   go_wp2_with(first
    |(refine Aa0 rfl 139 _ rfl (f.heap.size+1) rfl 139 arr (0,0) _ HX.o.1 underlying139 rfl (by rw[B];exact Ci) ?_)
    |(refine wpList_store_row _ rfl 139 _ _ rfl w.heap.size 139 _ arr rfl rfl HX.o.2.1 (by rw[B];exact Ci) HX.o.2.2.2.2 HX.o.2.2.1 ?_;intro w3 b5 E))
   refine Aa8 (v:= .agg arr) (Abj results96 _ w3 w.heap.size 139 arr (0,0) _ rfl b5 underlying139 rfl (by rw[B];exact Ci)) rfl ⟨by rw[HL.o,HA.o],?_⟩;exact HX.o.2.2.2.1.trans E (fun j h1 h2=>by omega)
namespace Hm
def leB(a b:ByteArray):Bool:=Op.bytesLess a.toList b.toList||a.toList==b.toList
def Dd(a b ahead:ByteArray):Int:=
 if a.size=0\/32<a.size then 2 else if leB a ahead then 3 else if 3000<b.size then 4 else 0
def I3(ah:ByteArray)(a:Nat):Aef->Int
 |[]=>if 6000<a then 5 else 0
 |f::r=>if Dd f.1 f.2 ah=0 then I3 f.1 (a+f.2.size) r else Dd f.1 f.2 ah
def Bu(fs:Aef):Int:=if 40<fs.length then 1 else I3 ⟨#[]⟩ 0 fs
theorem Yf(fs:Aef)(k:Nat)(h:k<fs.length)(ah:ByteArray)(a:Nat):
  I3 ah a (fs.drop k)=if Dd fs[k].1 fs[k].2 ah=0 then I3 fs[k].1 (a+fs[k].2.size) (fs.drop (k+1))else Dd fs[k].1 fs[k].2 ah:=by
 rw[Aan h];rfl
theorem Vu(h:Dd a b ah=0):b.size<=3000/\a.size<=32/\a.size≠0/\leB a ah=false:=by
 unfold Dd at h;split at h
 ·omega
 split at h
 ·omega
 split at h
 ·omega
 rename_i h1 h2 c;exact⟨by omega,by omega,by omega,by simpa using h2⟩
theorem j9(b a ah:ByteArray):0<=Dd b a ah/\Dd b a ah<=4:=by
 unfold Dd;split
 ·omega
 split
 ·omega
 split<;>omega
end Hm
theorem Lx(s:ByteArray):s.toList.isEmpty=decide (s.size=0):=by
 have a:s.data.toList.length=s.size:=by simp
 rw[Aa2,<-a];cases s.data.toList<;>simp
theorem cV(h:a.size=0\/32<a.size):Dd a b ah=2:=by rw[Dd,if_pos h]
theorem wQ(c: ¬a.size=0)(h:(a.size:Int)<=32)(h2:Op.bytesLess a.toList ah.toList=true\/(a.toList==ah.toList)=true):Dd a b ah=3:=by
 rw[Dd,iN,if_pos (by simpa[leB]using h2)]
theorem y8(c: ¬a.size=0)(h:(a.size:Int)<=32)(h2:Op.bytesLess a.toList ah.toList=false/\(a.toList==ah.toList)=false)(d:3000<(b.size:Int)):Dd a b ah=4:=by
 rw[Dd,iN,if_neg (by simp[leB,h2.1];simpa using h2.2),iP]
theorem zC(c: ¬a.size=0)(h:(a.size:Int)<=32)(h2:Op.bytesLess a.toList ah.toList=false/\(a.toList==ah.toList)=false)(d:(b.size:Int)<=3000):Dd a b ah=0:=by
 rw[Dd,iN,if_neg (by simp[leB,h2.1];simpa using h2.2),iN]
theorem Fe{k:IntKind}{a b:Int}(h:a=b):Ending.returned (.int k a)= .returned (.int k b):=by rw[h]
theorem Ug(a b ah:ByteArray)(w:World)(h1:a.size<=140737488355328)(_h2:b.size<=140737488355328):
  Calls prog 93 #[.agg #[.string a,.string b],.string ah] w fun e w'=>e= .returned (.int .i64 (Dd a b ah))/\Aee w w':=by
 by_cases a0:a.size=0
 ·have c:a.toList.isEmpty=true:=by rw[Lx];simpa using a0
  go_enter func93,ntmps93
  go_wp2;go_ret;exact⟨Fe (cV (.inl a0)).symm,(Aa.refl _ _).alloc _⟩
 ·have c:a.toList.isEmpty=false:=by rw[Lx];simpa using a0
  go_enter func93,ntmps93
  go_wp2
  all_goals go_ret
  ·exact⟨Fe (cV (.inr (by omega))).symm,(Aa.refl _ _).alloc _⟩
  ·exact⟨Fe (wQ a0 ‹_› ‹_›).symm,(Aa.refl _ _).alloc _⟩
  ·exact⟨Fe (y8 a0 ‹_› ‹_› ‹_›).symm,(Aa.refl _ _).alloc _⟩
  ·exact⟨Fe (zC a0 ‹_› ‹_› ‹_›).symm,(Aa.refl _ _).alloc _⟩
theorem uF(F:Aej)(c:Nat)(fs:Aef)(w:World)(B:Az w F fs)(S:fs.length<=140737488355328)(z: ∀f∈fs,f.1.size<=140737488355328/\f.2.size<=140737488355328):
  Calls prog 50 #[.slice F fs.length c] w fun e w'=>e= .returned (.int .i64 (Bu fs))/\Aee w w':=by
 by_cases s:40<fs.length
 ·clear B
  go_enter func50,ntmps50
  go_wp2;go_ret;exact⟨Fe (by rw[Bu,if_pos s]),Aa.refl _ _⟩
 have n:Hid (Bu fs=I3 ⟨#[]⟩ 0 (fs.drop 0)):=by rw[Bu,if_neg s];rfl
 generalize Bu fs=E at n|-
 go_enter func50,ntmps50
 go_wp2
 go_loopw[3,4,13] (fun t a i wr=> ∃(k:Nat) (d:Nat) (ah:ByteArray),k<=fs.length/\i=I k/\t=I d/\a= .string ah/\d<=3000*k/\E=I3 ah d (fs.drop k)/\Aee w wr) (fun _ _ i _=>fs.length-(intOf i).toNat)
 case atStart=>exact⟨0,0,_,zZ _,rfl,rfl,rfl,by omega,n.o,Aa.refl _ _⟩
 case round=>
  clear n;obtain⟨k,d,ah,hk,rfl,rfl,rfl,ht,H,m⟩:=hrel;have n:=hZ H;clear H
  by_cases v:k<fs.length
  ·obtain⟨b,o,u,L,M,N⟩:=(B.kept m (fun a R=>id)) k v;have hs:=z fs[k] (z6 _);obtain⟨x,y⟩:=hs;have A:=hZ (n.o.trans (Yf fs k v ah d));generalize fs[k].1=nm at*;generalize fs[k].2=ct at*;rw[u];clear u B n z
   by_cases q:Dd nm ct ah=0
   ·have P:=(Vu q).1;have g:=Ug nm ct ah (wr.alloc (.cells #[.string nm,.string ct] 38)) x y;rw[q]at g;have j:Hid (E=I3 nm (d+ct.size) (fs.drop (k+1))):=by rw[A.o,if_pos q];rfl
    clear q A
    go_wp2_with(go_at_call 93;refine g.mono ?_;rintro e Q ⟨rfl,l⟩;have C:=l.cell (p:=(J wr.heap.size 0)) (by simp) id;have D:=l.cell (p:=(J wr.heap.size 1)) (by simp) id;simp at C D)
    go_roundw
    case rel=>exact⟨k+1,d+ct.size,nm,by omega,by go_num,by go_num,rfl,by omega,j.o,(m.alloc _).tr l⟩
    case measure=>simp[intOf];omega
   ·have g:=Ug nm ct ah (wr.alloc (.cells #[.string nm,.string ct] 38)) x y;have O:=j9 nm ct ah;have j:Hid (E=Dd nm ct ah):=by rw[A.o,if_neg q];rfl
    clear A;generalize Dd nm ct ah=r at*;have K:(r !=0)=true:=by rw[bne_iff_ne];exact q
    go_wp2_with(go_at_call 93;refine g.mono ?_;rintro e Q ⟨rfl,l⟩)
    go_ret;exact⟨Fe j.o.symm,(m.alloc _).tr l⟩
  ·obtain rfl:k=fs.length:=by omega
   have j:Hid (E=if 6000<d then 5 else 0):=by have h:=n.o;rw[Ab7]at h;exact h
   clear n B
   by_cases G:6000<d
   ·go_wp2;go_ret;exact⟨Fe (by rw[j.o,if_pos G]),m⟩
   ·go_wp2;go_ret;exact⟨Fe (by rw[j.o,if_neg G]),m⟩
end
end Go.Proofs.YtegnkfdbmmndaaaGreat
