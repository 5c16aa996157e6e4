import Derived.Test.YtegnkfdbmmndaaaGreatJ23

set_option maxHeartbeats 8000000
namespace Go.Proofs.YtegnkfdbmmndaaaGreat
open Hm Go.Proofs.Tryz Go.RowKit
namespace Hm
def Gs(fs:List Fl)(m k:Nat):List Fl:=fs.take k++List.replicate (m-k) (⟨#[]⟩,⟨#[]⟩)
theorem Adm{f:Nat→Bool}{len m low n:Nat}(h:N9 f len m low n)(i:Nat)(hi:i<m):Fu f m low i≤n:=by
 have key: ∀d j,j+d=m→E5 f m low j≤n:=by
  intro d;induction d with
  |zero=>intro j e;rw[show j=m by omega,h.all];exact Ane _
  |succ d ih=>
   intro j e;have h1:=ih (j+1) (by omega);have h2:=h.asc j (by omega);have a:E5 f m low (j+1)=Fu f m low j:=rfl;omega
 have h1:=key (m-(i+1)) (i+1) (by omega);exact h1
theorem L9(st:Rd): ∀m k,((Au m st).1.getD k ⟨#[]⟩).size≤255
 |0,k=>by show(([]:List ByteArray).getD k ⟨#[]⟩).size≤255;rw[List.getD_nil];exact Ann _
 |m+1,k=>by
  have ih:=L9 st m k;show(((Au m st).1++[_]).getD k ⟨#[]⟩).size≤255;rw[Am4]at ih⊢
  by_cases h:k<(Au m st).1.length
  ·rw[An6 h];exact ih
  ·rw[Ans (by omega)]
   by_cases h2:k-(Au m st).1.length=0
   ·rw[h2];have b:(B5 (Au m st).2 1).1<256:=by have:=Ho (Au m st).2 1;simpa using this
    have a:=L2 (B5 (Au m st).2 1).2 (B5 (Au m st).2 1).1;show(Bb _ _).1.toArray.size≤255;rw[Anq];omega
   ·rw[Anx (by simp;omega)];exact Ann _
theorem Y0(fs:List Fl)(m k:Nat)(a:fs.length=m)(hk:k≤m):(Gs fs m k).length=m:=by
 unfold Gs;rw[Anf,Anp,Ani];omega
theorem Adn(fs:List Fl)(m k:Nat)(b:fs.length=m)(hk:k<m)(x:Fl)(a:fs[k]?=some x):(Gs fs m k).set k x=Gs fs m (k+1):=by
 have e:List.replicate (m-k) ((⟨#[]⟩,⟨#[]⟩):Fl)=(⟨#[]⟩,⟨#[]⟩)::List.replicate (m-(k+1)) (⟨#[]⟩,⟨#[]⟩):=by rw[show m-k=(m-(k+1))+1 from by omega,Apf]
 unfold Gs;rw[e,Aot _ _ (by rw[Anp];omega),Anp,Ap7 (by omega),Aoy,Am8,List.take_add_one,a,An4];rfl
theorem Afm(fs:List Fl)(m:Nat)(a:fs.length=m):Gs fs m m=fs:=by
 unfold Gs;rw[Aoy,An5 (by omega)];simp
end Hm
theorem Rg(hones:Bd)(pa ge k:Nat)(s l6:Arc)(W:World)(h:D4 W pa 1 ⟨(l6.take (Hm.szB (Ak (Hm.rdF s).1 (Hm.rdN s).1))).toArray⟩ (Ak (Hm.rdF s).1 (Hm.rdN s).1) ge (Hm.rdF s).1 (Cr (Hm.rdF s).1 (Hm.rdN s).1))(f:Ga l6 (Hm.rdF s).1 (Hm.rdN s).1)(hk:k<(Hm.rdF s).1):
  Calls prog 36 #[.pointer (some ⟨pa,1,none⟩),.int .i64 (k:Nat)] W fun e w'=>e= .returned (.tuple #[.int .i64 (Hg s l6 k:Nat),.int .i64 (Gi s l6 k:Nat)])∧Ara W w':=by
 have hF:=Qi s;have d:=Jp s;have i:=f.fits;have a:=f.cover.ones;have b:(⟨(l6.take (Hm.szB (Ak (Hm.rdF s).1 (Hm.rdN s).1))).toArray⟩:ByteArray).size=Hm.szB (Ak (Hm.rdF s).1 (Hm.rdN s).1):=by
  show(l6.take _).toArray.size=_;rw[Anq,Anp];omega
 have j:=Q8 _ _ hF d;have l:=Ud (Hm.rdF s).1 (Hm.rdN s).1 d;have c:(Hm.rdF s).1*Cr (Hm.rdF s).1 (Hm.rdN s).1≤Ak (Hm.rdF s).1 (Hm.rdN s).1:=Aqv _ _;have e1:Hg s l6 k=E5 (Am (l6.take (Hm.szB (Ak (Hm.rdF s).1 (Hm.rdN s).1)))) (Hm.rdF s).1 (Cr (Hm.rdF s).1 (Hm.rdN s).1) k:=rfl;have e2:Gi s l6 k=Fu (Am (l6.take (Hm.szB (Ak (Hm.rdF s).1 (Hm.rdN s).1)))) (Hm.rdF s).1 (Cr (Hm.rdF s).1 (Hm.rdN s).1) k:=rfl;have e3:l6.take (Hm.szB (Ak (Hm.rdF s).1 (Hm.rdN s).1))=(⟨(l6.take (Hm.szB (Ak (Hm.rdF s).1 (Hm.rdN s).1))).toArray⟩:ByteArray).data.toList:=rfl;rw[e1,e2];generalize Cr (Hm.rdF s).1 (Hm.rdN s).1=lo at*;generalize Ak (Hm.rdF s).1 (Hm.rdN s).1=el at*;rw[e3]at a⊢;generalize(⟨(l6.take (Hm.szB el)).toArray⟩:ByteArray)=E at*;have g:el≤8*E.size:=by rw[b];unfold Hm.szB;omega
 exact Acd hones pa 1 el ge (Hm.rdF s).1 lo k E W h (by omega) (by omega) hk c g a (by rw[b];omega)
set_option maxRecDepth 20000 in
theorem Xt(hones:Bd)(B pa:Nat)(s l6:Arc)(L:Ard)(l8:Arc)(st:Bl)(w:World)(M:Cy s l6 L l8 st)(h:Dl B w pa s l6 L l8 st):
  Calls prog 14 #[.pointer (some ⟨pa,0,none⟩)] w fun e w'=> ∃gf,e= .returned (.slice (some ⟨gf,0,none⟩) (Hm.rdF s).1 (Hm.rdF s).1)∧w.heap.size≤gf∧D2 w' gf (Bn s l6 l8 st)∧Ara w w':=by
 obtain⟨gn,ge,g,ng,nc,gs,P⟩:=h.parts M;obtain⟨v,ah,ai⟩:=I9 M.tree;have hN:=Jp s;have hF:=Qi s;have O:=(Om M.names).2;have Q:=Hz M.tree hN;have aq:(⟨(l8.take (Hm.szB st.len)).toArray⟩:ByteArray).size≤1000000:=by show(l8.take _).toArray.size≤_;rw[Anq,Anp];omega
 have F:Hid (∀W,Dd W pa 6 ⟨(l8.take (Hm.szB st.len)).toArray⟩ st.len g ng nc st.nds (Hm.rdR s).1 st.ws→Calls prog 33 #[.func (.func 34) #[.pointer (some ⟨pa,6,none⟩)] #[],.int .i64 0,.int .i64 ((Hm.rdN s).1:Nat)] W fun e w'=>e= .returned (.slice (some ⟨W.heap.size,0,none⟩) (Hm.rdN s).1 (Hm.rdN s).1)∧
   w'.heap[W.heap.size]?=some (.cells (Ah (F0 s l8 st)).toArray 5 (0,0))∧Ara W w'):=fun W hW=>
  Ac8 hones pa 6 st.len g ng nc (Hm.rdR s).1 0 (Hm.rdN s).1 _ st.nds st.ws (M3 l8 (Hm.rdN s).1 st) W hW ah ai (by omega) (Ann _) aq (by omega) (by omega)
 have HP:Hid (Tx w pa s l6 L l8 st gn ge g ng nc gs):=P;have an:pa<w.heap.size:=Ank _ _ P.total;have ax:gn<w.heap.size:=Anu P.nblock;obtain⟨n,hn⟩: ∃n,n=(Hm.rdN s).1:=⟨_,rfl⟩;rw[←hn]at F hN;have D:=fun W (hW:W.cell? ⟨pa,778,none⟩=some (.int .i64 (n:Nat)))=>Z0 pa 6 n W hW;have HT:Hid _:=D;have d:Hid (w.cell? ⟨pa,778,none⟩=some (.int .i64 (n:Nat))∧Dd w pa 6 ⟨(l8.take (Hm.szB st.len)).toArray⟩ st.len g ng nc st.nds (Hm.rdR s).1 st.ws):=⟨by rw[hn];exact P.total,P.rows⟩;have HN:Hid (n=(Hm.rdN s).1):=hn;have ab:Hid (∀k W,k<(Hm.rdF s).1→Ara w W→Calls prog 36 #[.pointer (some ⟨pa,1,none⟩),.int .i64 (k:Nat)] W fun e w'=>e= .returned (.tuple #[.int .i64 (Hg s l6 k:Nat),.int .i64 (Gi s l6 k:Nat)])∧Ara W w'):=fun k W hk hW=>Rg hones pa ge k s l6 W (P.ends.kept hW id id) M.ends hk;have ac:Hid (∀k,k<(Hm.rdF s).1→Hg s l6 k≤Gi s l6 k∧Gi s l6 k≤n):=fun k hk=>⟨M.ends.cover.asc k hk,by rw[hn];exact Adm M.ends.cover k hk⟩;have ad:Hid (∀k nm,nm=(Hm.rdM s).1.getD k ⟨#[]⟩→k<(Hm.rdF s).1→nm.size≤281474976710656):=fun k nm h1 h2=>by
  rw[h1];have:=L9 (Hm.rdB s) (Hm.rdF s).1 k;exact Ant this (by omega)
 clear P h v ah ai Q aq D hn O
 go_enter func14,ntmps14
 go_wp2_with fail
 go_cut[3]from 11 (fun v3 wz=> ∃gt:Nat,v3= .slice (some ⟨gt,0,none⟩) n n∧w.heap.size≤gt∧Hid (wz.heap[gt]?=some (.cells (Ah (F0 s l8 st)).toArray 5 (0,0))∧Ara w wz))
 case first=>
  go_region_held(fun X=>Hid (Ara w X)) (first|exact k2|exact k1|exact(Aa.refl (fun _=>False) w).drew)
   (first
    |(go_at_call 35;(refine(HT.o _ ?_).mono ?_;(exact((Aa.refl (fun _=>False) w).drew.cell an id).trans d.o.1);rintro e w1 ⟨rfl,ao⟩;have k1:Hid (Ara w w1):=(by rw[ao];exact(Aa.refl (fun _=>False) w).drew);clear ao))
    |(go_at_call 33;(refine(F.o _ (d.o.2.kept k1.o id id id)).mono ?_;rintro e w2 ⟨rfl,aw,ap⟩;have k2:Hid (Ara w w2):=k1.o.trans ap (fun _ _ h=>h);clear ap)))
  all_goals(go_wp2_with fail;go_meet;case rel=>exact⟨_,rfl,k1.o.size,aw,k2.o⟩)
 case rest=>
  obtain⟨gt,rfl,aE,G⟩:=hcut;have c0:wc.cell? ⟨pa,0,none⟩=some (.slice (some ⟨gn,0,none⟩) (Hm.rdF s).1 (Hm.rdF s).1):=(G.o.2.cell (p:=⟨pa,0,none⟩) an id).trans HP.o.names;obtain⟨i0,hi,a2,a3,a4⟩:=Aoo Zz;obtain⟨m,hm⟩: ∃m,m=(Hm.rdF s).1:=⟨_,rfl⟩;rw[←hm]at c0 hF;have V:Hid (m=(Hm.rdF s).1):=hm;rw[←hm]at ab ac ad;clear hm F HT d;have a0:pa<wc.heap.size:=by have:=G.o.2.size;omega
  have ak:gt<wc.heap.size:=Anu G.o.1
  go_wp2_with(at_make;refine Apr _ rfl (.tmp 25) (.tmp 25) 22 rfl wc.heap.size 38 i0 (.agg #[.string ⟨#[]⟩,.string ⟨#[]⟩]) 2 underlying22 hi a2 a3 .i64 .i64 _ _ m rfl rfl rfl rfl (by rw[a4];omega) (by unfold maxLen;omega) (Ane _) ?_;intro w3 am aj;have z:Ara wc w3:=(Aa.refl _ _).grown aj (fun k hk=>by cases hk);have c03:w3.cell? ⟨pa,0,none⟩=some (.slice (some ⟨gn,0,none⟩) m m):=(z.cell (p:=⟨pa,0,none⟩) a0 id).trans c0)
  have N:=D2.made am;obtain⟨gf,I⟩: ∃x,x=wc.heap.size:=⟨_,rfl⟩;rw[←I]at N⊢;have H3:Hid (D2 w3 gf (List.replicate m (⟨#[]⟩,⟨#[]⟩))∧Ara w w3∧w3.heap[gt]?=some (.cells (Ah (F0 s l8 st)).toArray 5 (0,0))):=⟨N,G.o.2.trans z (fun _ _ h=>h),z.row G.o.1 id⟩;have a1:w.heap.size≤gf:=by rw[I];exact G.o.2.size
  have aD:gt<gf:=by omega
  clear am aj z N G c0 ak I
  go_loopw[32] (fun vi wr=> ∃k:Nat,k≤m∧vi= .int .i64 k∧D2 wr gf (Gs (Bn s l6 l8 st) m k)∧Ara w wr∧wr.heap[gt]?=some (.cells (Ah (F0 s l8 st)).toArray 5 (0,0))) (fun vi _=>m-(intOf vi).toNat)
  case atStart=>exact⟨0,Ann _,rfl,by simpa[Gs]using H3.o.1,H3.o.2.1,H3.o.2.2⟩
  case round=>
   obtain⟨k,hk,rfl,b,q,T⟩:=hrel
   by_cases r:k<m
   ·obtain⟨nm,C⟩: ∃x,x=(Hm.rdM s).1.getD k ⟨#[]⟩:=⟨_,rfl⟩;have az:(Hm.rdM s).1.length=m:=by rw[V.o];exact Fi _ _
    have cnm:wr.cell? ⟨gn,k,none⟩=some (.string nm):=by
     rw[q.cell (p:=⟨gn,k,none⟩) ax id,Am7 _ _ k _ _ _ HP.o.nblock,Anw,C];unfold Fx;rw[An2,Am4,Am5 (show k<(Hm.rdM s).1.length by omega)];rfl
    have y:=ab.o k wr r q;have H:=ac.o k r;have v:=fun W=>Pk nm W (ad.o k nm C r);have t:Hid ((Bn s l6 l8 st)[k]?=some (nm,⟨(Hm.part (F0 s l8 st) (Hg s l6 k) (Gi s l6 k)).toArray⟩)):=by
     show _=_;unfold Bn;rw[An2,Ao2 (by rw[←V.o];exact r),C];rfl
    generalize Hg s l6 k=fr at y H t;generalize Gi s l6 k=tz at y H t;have E:Hid (D2 wr gf (Gs (Bn s l6 l8 st) m k)∧Ara w wr∧wr.heap[gt]?=some (.cells (Ah (F0 s l8 st)).toArray 5 (0,0))):=⟨b,q,T⟩;have aF:(k:Int)<(m:Int):=by omega
    clear b q T C az;go_wp2_with fail;refine y.mono ?_;rintro e w4 ⟨rfl,A⟩;have U:Hid (D2 w4 gf (Gs (Bn s l6 l8 st) m k)∧Ara w w4∧w4.heap[gt]?=some (.cells (Ah (F0 s l8 st)).toArray 5 (0,0))):=⟨E.o.1.kept A id,E.o.2.1.trans A (fun _ _ h=>h),A.row E.o.2.2 id⟩;clear y A E;go_wp2_with fail;refine Aph (S:=fun X=>X.heap[gt]?=some (.cells (Ah (F0 s l8 st)).toArray 5 (0,0))) (by kernel_rfl) U.o.2.2 (fun hHeld=>?_)
    refine tK 0 ⟨some 45,.move (.tmp 4),22,"hoard.go:66",#[],none⟩ ?_ ?_ ?_
    rotate_left
    ·intro X a;try dsimp only at a
     go_simp
     with_reducible rfl
    simp only[Act.put,Am6,Am8,Am9]
    refine tK 1 ⟨some 46,.move (.tmp 5),3,"hoard.go:66",#[],none⟩ ?_ ?_ ?_
    rotate_left
    ·intro X a;try dsimp only at a
     go_simp
     with_reducible rfl
    simp only[Act.put,Am6,Am8,Am9]
    refine tK 2 ⟨some 47,.move (.tmp 6),9,"hoard.go:66",#[],none⟩ ?_ ?_ ?_
    rotate_left
    ·intro X a;try dsimp only at a
     go_simp
     with_reducible rfl
    simp only[Act.put,Am6,Am8,Am9]
    refine tK 4 ⟨some 49,.move (.tmp 3),79,"hoard.go:66",#[],none⟩ ?_ ?_ ?_
    rotate_left
    ·intro X a;try dsimp only at a
     go_simp
     with_reducible rfl
    simp only[Act.put,Am6,Am8,Am9]
    refine tK 5 ⟨some 50,.move (.tmp 7),3,"hoard.go:66",#[],none⟩ ?_ ?_ ?_
    rotate_left
    ·intro X a;try dsimp only at a
     go_simp
     with_reducible rfl
    simp only[Act.put,Am6,Am8,Am9]
    refine tK 6 ⟨some 51,.move (.tmp 8),3,"hoard.go:66",#[],none⟩ ?_ ?_ ?_
    rotate_left
    ·intro X a;try dsimp only at a
     go_simp
     with_reducible rfl
    simp only[Act.put,Am6,Am8,Am9];obtain⟨aA,aB⟩:=H;have aC:(fr:Int)≤(tz:Int):=by omega
    have aG:(tz:Int)≤(n:Int):=by omega
    refine tK 7 ⟨some 52,.slice 79 (.tmp 49) (some (.tmp 50)) (some (.tmp 51)) none,79,"hoard.go:66",#[⟨4,.data⟩,⟨5,.data⟩,⟨6,.data⟩],none⟩ (.slice (if n = fr then some ⟨gt, 0, none⟩ else some ⟨gt, fr, none⟩) (tz - fr) (n - fr)) ?_ ?_
    ·intro X a;try dsimp only at a
     go_simp
    simp only[Act.put,Am6,Am8,Am9];obtain⟨PT,af⟩: ∃x,x=(⟨(Hm.part (F0 s l8 st) fr tz).toArray⟩:ByteArray):=⟨_,rfl⟩;have d:Hid (PT=(⟨(Hm.part (F0 s l8 st) fr tz).toArray⟩:ByteArray)):=af;clear af;have Q:(F0 s l8 st).length=n:=by rw[HN.o];exact N2 s l8 st
    have aa:Hid (∀X:World,X.heap[gt]?=some (.cells (Ah (F0 s l8 st)).toArray 5 (0,0))→(convert 79 9 (.slice (if n=fr then some ⟨gt,0,none⟩else some ⟨gt,fr,none⟩) (tz-fr) (n-fr))).run prog X= .ok (.string PT) X):=fun X hX=>by
     rw[d.o]
     by_cases c:n=fr
     ·rw[if_pos c,show tz-fr=0 by omega];have:=L8 hX 0 0 (n-fr) (by omega);rw[this];unfold Hm.part;rw[show tz-fr=0 by omega,List.take_zero,List.take_zero]
     ·rw[if_neg c];exact L8 hX fr (tz-fr) (n-fr) (by omega)
    refine tK 8 ⟨some 53,.convert 79 9 (.tmp 52),9,"hoard.go:66",#[⟨7,.data⟩],none⟩ (.string PT) (fun X hX => Afl X 79 9 (.tmp 52) rfl _ _ rfl (aa.o X hX)) ?_
    simp only[Act.put,Am6,Am8,Am9];clear aa;refine An1 (rs:=[3]) (by kernel_rfl) (by simp) ?_;refine Ano rfl (fun K hK=>?_) Anv;go_simp;refine(v _).mono ?_;rintro e w5 ⟨rfl,al⟩;have f:Ara w4 w5:=(Aa.refl (fun _=>False) w4).drew.trans al (fun _ _ h=>h);have hR:=Y0 (Bn s l6 l8 st) m k (by rw[V.o];exact Iw s l6 l8 st) hk;have u:=Adn (Bn s l6 l8 st) m k (by rw[V.o];exact Iw s l6 l8 st) r _ t.o;rw[←d.o]at u;generalize Gs (Bn s l6 l8 st) m k=R at U hR u;have ae:Hid (R.set k (nm,PT)=Gs (Bn s l6 l8 st) m (k+1)):=u;have l:=U.o.1.kept f id;have q1:=l.fst (i:=k) (by omega);have q2:=l.snd (i:=k) (by omega);have fz1:=l.free (k*2);have fz2:=l.free (k*2+1);have Y:Hid (D2 w5 gf R∧Ara w w5∧w5.heap[gt]?=some (.cells (Ah (F0 s l8 st)).toArray 5 (0,0))):=⟨l,U.o.2.1.trans f (fun _ _ h=>h),f.row U.o.2.2 id⟩;refine hK.o _ _ Y.o.2.2 (fun hHeld=>?_);clear hK K al f l U u v Q d t
    refine tK 9 ⟨some 54,.build 38 #[(0, .tmp 48), (1, .tmp 53)],38,"hoard.go:66",#[⟨3,.data⟩,⟨8,.data⟩],none⟩ ?_ ?_ ?_
    rotate_left
    ·intro X a;try dsimp only at a
     go_simp
     with_reducible rfl
    simp only[Act.put,Am6,Am8,Am9]
    refine tK 10 ⟨some 55,.indexAddr 22 (.tmp 45) (.tmp 46),0,"hoard.go:66",#[⟨0,.data⟩,⟨1,.data⟩,⟨0,.phase⟩,⟨1,.phase⟩,⟨2,.phase⟩,⟨3,.phase⟩,⟨4,.phase⟩,⟨5,.phase⟩,⟨6,.phase⟩,⟨7,.phase⟩,⟨8,.phase⟩,⟨9,.phase⟩],none⟩ ?_ ?_ ?_
    rotate_left
    ·intro X a;try dsimp only at a
     go_simp
     with_reducible rfl
    simp only[Act.put,Am6,Am8,Am9];refine An1 (rs:=[11]) (by kernel_rfl) (by simp) ?_;refine Ano rfl (fun K hK=>?_) Anv;go_simp;have ay:gt≠gf:=by omega
    have J:Aa (fun j=>j=gf) w5 ((w5.setCell ⟨gf,k*2,none⟩ (.string nm)).setCell ⟨gf,k*2+1,none⟩ (.string PT)):=((Aa.refl (fun j=>j=gf) w5).setCell (p:=⟨gf,k*2,none⟩) (.inr rfl) _).setCell (p:=⟨gf,k*2+1,none⟩) (.inr rfl) _;have Z:Hid (D2 ((w5.setCell ⟨gf,k*2,none⟩ (.string nm)).setCell ⟨gf,k*2+1,none⟩ (.string PT)) gf (Gs (Bn s l6 l8 st) m (k+1))∧Ara w ((w5.setCell ⟨gf,k*2,none⟩ (.string nm)).setCell ⟨gf,k*2+1,none⟩ (.string PT))∧((w5.setCell ⟨gf,k*2,none⟩ (.string nm)).setCell ⟨gf,k*2+1,none⟩ (.string PT)).heap[gt]?=some (.cells (Ah (F0 s l8 st)).toArray 5 (0,0))):=
     ⟨by rw[←ae.o];exact Y.o.1.put k nm PT (by omega),Y.o.2.1.trans J (fun j h1 h2=>by omega),J.row Y.o.2.2 ay⟩
    generalize(w5.setCell ⟨gf,k*2,none⟩ (.string nm)).setCell ⟨gf,k*2+1,none⟩ (.string PT)=wz at Z⊢;refine hK.o _ _ Z.o.2.2 (fun hHeld=>?_);clear hK K J Y q1 q2 fz1 fz2;refine Apn (by kernel_rfl) ?_ _;go_wp2_with fail;go_roundw
    case rel=>exact⟨k+1,by omega,by go_num,Z.o.1,Z.o.2.1,Z.o.2.2⟩
    case measure=>simp[intOf];omega
   ·obtain rfl:k=m:=by omega
    have E:Hid (D2 wr gf (Bn s l6 l8 st)∧Ara w wr):=⟨by rw[Afm _ _ (by rw[V.o];exact Iw s l6 l8 st)]at b;exact b,q⟩;clear b q T;go_wp2_with fail;go_ret;exact⟨gf,by rw[←V.o];rfl,a1,E.o.1,E.o.2⟩
def Ado(B:Nat)(w':World)(s:Arc)(e:Ending):Prop:=
 (∃pa l6 L l8 st,B≤pa∧Cy s l6 L l8 st∧Dl B w' pa s l6 L l8 st∧Cq (Bn s l6 l8 st)=0∧Ia (Bn s l6 l8 st) s∧e= .returned (.tuple #[.pointer (some ⟨pa,0,none⟩),.int .i64 0]))∨
 ((∀l6 L l8 st,Cy s l6 L l8 st→Cq (Bn s l6 l8 st)=0→ ¬Ia (Bn s l6 l8 st) s)∧e= .returned (.tuple #[.pointer none,.int .i64 6]))
namespace Hm
theorem Cy.unique{s l6 l6':Arc}{L L':Ard}{l8 l8':Arc}{st st':Bl}(h:Cy s l6 L l8 st)(a:Cy s l6' L' l8' st'):l6=l6'∧L=L'∧l8=l8'∧st=st':=by
 have e1:l6=l6':=An0 (h.names.symm.trans a.names);subst e1;have e2:=h.lens.symm.trans a.lens;injection e2 with e3 e4;injection e4 with e4;subst e3 e4;exact⟨rfl,rfl,rfl,An0 (h.tree.2.symm.trans a.tree.2)⟩
theorem Aa5(s l6 l8:Arc)(st:Bl): ∀f∈Bn s l6 l8 st,f.1.size≤140737488355328∧f.2.size≤140737488355328:=by
 intro f a;obtain⟨i,hi,rfl⟩:=List.mem_map.1 a;constructor
 ·exact Ant (L9 (rdB s) (rdF s).1 i) (by omega)
 ·show(part _ _ _).toArray.size≤_;rw[Anq];unfold part;have h1:=N2 s l8 st;have h2:=Jp s;rw[Anp,Aoi];omega
end Hm
theorem Ali(hones:Bd)(hLn:El)(s:Arc)(w:World)(hs:s.length≤281474976710656):
  Calls prog 12 #[.string ⟨s.toArray⟩] w fun e w'=>Ara w w'∧Ado w.heap.size w' s e:=by
 have m:=Alh hones hLn s w hs;obtain⟨S,N⟩: ∃S,S=(⟨s.toArray⟩:ByteArray):=⟨_,rfl⟩;rw[←N]at m⊢;have HS:Hid (S=(⟨s.toArray⟩:ByteArray)):=N;clear N
 go_enter func12,ntmps12
 go_wp2_with fail;refine m.mono ?_;rintro e w1 ⟨k,pa,ok,P,rfl,i⟩;rcases i.arch with⟨rfl,l6,L,l8,st,hP,hA⟩|⟨rfl,hno⟩;rotate_left
 ·clear m;have H:Hid (Ara w w1):=k;have T:Hid (∀l6 L l8 st,¬Cy s l6 L l8 st):=hno;clear k i hno;go_wp2_with fail;go_ret2;exact⟨H.o,.inr ⟨fun l6 L l8 st h=>absurd h (T.o l6 L l8 st),rfl⟩⟩
 ·have n:=Xt hones w.heap.size pa s l6 L l8 st w1 hP hA;have G:Hid (Ara w w1∧Cy s l6 L l8 st∧Dl w.heap.size w1 pa s l6 L l8 st):=⟨k,hP,hA⟩;have C:=Iw s l6 l8 st;have hF:=Qi s;have F:=Aa5 s l6 l8 st;rw[←C]at n;have q:Hid ((Bn s l6 l8 st).length≤255∧ ∀f∈Bn s l6 l8 st,f.1.size≤140737488355328∧f.2.size≤140737488355328):=⟨by omega,F⟩;have K:Hid (∀l6' L' l8' st',Cy s l6' L' l8' st'→Bn s l6' l8' st'=Bn s l6 l8 st):=fun l6' L' l8' st' h=>by
   obtain⟨e1,_,e3,e4⟩:=Cy.unique h hP;rw[e1,e3,e4]
  generalize D:Bn s l6 l8 st=fs at n q K;have A:Hid (Bn s l6 l8 st=fs):=D;clear k hP hA i m C hF F D;go_wp2_with fail;refine n.mono ?_;rintro e w2 ⟨gf,rfl,V,j,v⟩;have B:Ba w2 (some ⟨gf,0,none⟩) fs:=D2.at (r:=[]) (by rw[Aow];exact j);have E:=Alc (some ⟨gf,0,none⟩) fs.length fs w2 B (fun a O=>by injection O with O;rw[←O];exact j.lt) (by have:=q.o.1;omega) q.o.2;have I:Hid (Ara w w2∧Cy s l6 L l8 st∧Dl w.heap.size w2 pa s l6 L l8 st):=⟨G.o.1.trans v (fun _ _ h=>h),G.o.2.1,G.o.2.2.kept v (fun _ _ _=>id) id⟩;clear B j v G n;go_wp2_with fail;refine E.mono ?_;rintro e w3 ⟨Q,y⟩;have z:Hid (Ara w w3∧Cy s l6 L l8 st∧Dl w.heap.size w3 pa s l6 L l8 st):=⟨I.o.1.trans y (fun _ _ h=>h),I.o.2.1,I.o.2.2.kept y (fun _ _ _=>id) id⟩;clear E I y;rcases Q with⟨b,rfl⟩|⟨b,s',t,rfl⟩
  ·have R:Hid (Cq fs≠0):=b;have l:=b;clear b;generalize Cq fs=c at l⊢;have hd:(c==0)=false:=by simpa using l
   have U:(c !=0)=true:=by simpa using l
   clear l;go_wp2_with fail;go_ret2;exact⟨z.o.1,.inr ⟨fun l6' L' l8' st' h M=>by rw[K.o _ _ _ _ h]at M;exact absurd M R.o,rfl⟩⟩
  ·obtain⟨S',d⟩: ∃x,x=(⟨s'.toArray⟩:ByteArray):=⟨_,rfl⟩;rw[←d];have J:Hid (Cq fs=0∧Ia fs s'∧S'=(⟨s'.toArray⟩:ByteArray)):=⟨b,t,d⟩
   by_cases g:s'=s
   ·have u:S'=S:=by rw[d,HS.o,g]
    rw[u];have p:Hid (s'=s):=g;clear b t d g u;go_wp2_with fail;go_ret2;refine⟨z.o.1,.inl ⟨pa,l6,L,l8,st,P,z.o.2.1,z.o.2.2,by rw[A.o];exact J.o.1,?_,rfl⟩⟩;have:=J.o.2.1;rw[p.o]at this;rw[A.o];exact this
   ·have u:(S'.toList==S.toList)=false:=by
     rw[d,HS.o,Aor,Aor,Aod];exact g
    have p:Hid (¬s'=s):=g;clear b t d g;go_wp2_with fail;go_ret2;refine⟨z.o.1,.inr ⟨fun l6' L' l8' st' h M h1=>?_,rfl⟩⟩;rw[K.o _ _ _ _ h]at h1;exact p.o (Ia.unique (Li J.o.1).2.2 J.o.2.1 h1)
end Go.Proofs.YtegnkfdbmmndaaaGreat
namespace Go.Proofs.YtegnkfdbmmndaaaGreat
open Hm Go.Proofs.Tryz
namespace Hm
structure Ib(fs:Arb)(s l6 l8:Arc)(st:Bl)(ps:Ard):Prop where
 sorted:C5 (Ac fs) ps
 few:fs.length≤40
 small:(Ac fs).length≤6000
 nF:(rdF s).1=fs.length
 nN:(rdN s).1=(Ac fs).length
 nR:(rdR s).1=A8 ps
 col:M3 l8 (Ac fs).length st=Al (Ac fs) ps
 samp: ∃X,l8.drop (szB st.len)=Ag (A7 ps)++X
 ends: ∀j,j<fs.length→Gi s l6 j=(Ac (fs.take (j+1))).length
 froms: ∀i,i<fs.length→Hg s l6 i=(Ac (fs.take i)).length
theorem Afn{fs:Arb}{s:Arc}(D:Cq fs=0)(hA:Ia fs s): ∃l6 L l8 st ps,Cy s l6 L l8 st∧Ib fs s l6 l8 st ps:=by
 obtain⟨I,A,hn⟩:=Li D;obtain⟨ps,N,e,_,F,es⟩:=hA.is;have B:=I6 (Ac fs) hn;have z: ∀b∈Al (Ac fs) ps,b∈Ae (lens (Ac fs)):=fun b hb=>(O2 _ hn b).2 (No e.perm b hb);have p:=(Kw e.perm).2;have v:=Gm e.perm;obtain⟨t,ht⟩: ∃t,t=Ac fs:=⟨_,rfl⟩;obtain⟨tr,g⟩: ∃tr,tr=D5 (lens (Ac fs)) N (Al (Ac fs) ps):=⟨_,rfl⟩;obtain⟨SB,h⟩: ∃x,x=leBytes (crc (Cz fs ps tr)) 4:=⟨_,rfl⟩;have C:SB.length=4:=by rw[h,Dn]
 obtain⟨X9,m⟩: ∃x,x=Ag (A7 ps)++SB:=⟨_,rfl⟩;obtain⟨X8,k⟩: ∃x,x=Ag tr++X9:=⟨_,rfl⟩;obtain⟨X7,u⟩: ∃x,x=leBytes (Ai (lens (Ac fs))).length 2++(Cc (lens (Ac fs)) (Ai (lens (Ac fs)))++X8):=⟨_,rfl⟩;obtain⟨X6,r⟩: ∃x,x=Ag (B4 (Bf fs) (Ac fs).length)++X7:=⟨_,rfl⟩;have hs:s=[72,79,65,82,68,49,UInt8.ofNat fs.length]++(leBytes (Ac fs).length 2++(leBytes (A8 ps) 2++(nameBytes fs++X6))):=by
  rw[es,←g,r,u,k,m,h];unfold K9 Cz;simp only[An4]
 have d:s=Cz fs ps tr++SB:=by rw[es,←g,h];rfl
 have a:=Adh fs (Ac fs).length (A8 ps) X6 (by omega) (by omega) p (fun f G=>(A f G).1);simp only at a;rw[←hs]at a;obtain⟨eF,eN,eR,eM⟩:=a;have E:=Ej fs;obtain⟨q1,q2,q3⟩:=Xq (Bf fs) (Ac fs).length hn (Z1 fs) X7;rw[←r,E]at q1 q2 q3;obtain⟨st,t1,t2,t3⟩:=Xp B F z X9;rw[←g,←k,v]at t1;rw[←g]at t2;rw[←g,←k]at t3;obtain⟨s1,s2⟩:=Xo e.perm SB;rw[←m]at s1 s2;have n:X8.drop (szB st.len)=X9:=by rw[t2,k,List.drop_left]
 have hP:Cy s X6 (lens (Ac fs)) X8 st:=by
  refine⟨by rw[eM],by rw[eF,eN];exact q1,?_,by rw[eN];exact t1,by rw[eN,n];exact s1,?_⟩
  ·rw[eF,eN,q2,u];exact Agp _ _ B.len (Xs B)
  ·rw[eN,n,s2];have y:s.length-4=(Cz fs ps tr).length:=by rw[d,Anf,C];omega
   have q:s.take (s.length-4)=Cz fs ps tr:=by rw[y,d,Aqq]
   unfold N0;rw[q,show B5 (some SB) 4=(crc (Cz fs ps tr),some [])from by
    have:=Lj (crc (Cz fs ps tr)) 4 [] (by have:=To (Cz fs ps tr);omega);rwa[Aow,←h]at this]
   exact if_pos ⟨rfl,rfl⟩
 refine⟨X6,lens (Ac fs),X8,st,ps,hP,?_⟩;have w:M3 X8 (Ac fs).length st=Al (Ac fs) ps:=by
  obtain⟨c1,c2,_⟩:=I9 t1;exact c2.unique t3 (by rw[c1,v])
 have l: ∀j,j<fs.length→Gi s X6 j=(Ac (fs.take (j+1))).length:=fun j H=>by
  unfold Gi;rw[eF,eN,q3 j (by omega),Jv fs j H]
 have o: ∀i,i<fs.length→Hg s X6 i=(Ac (fs.take i)).length:=fun i hi=>by
  show(if i=0 then 0 else _)=_
  by_cases c:i=0
  ·rw[if_pos c,c];rfl
  ·rw[if_neg c];have:=l (i-1) (by omega);rw[show i-1+1=i from by omega]at this;exact this
 exact⟨e,I,hn,eF,eN,eR,w,⟨SB,by rw[n,m]⟩,l,o⟩
theorem Aia{fs:Arb}{s l6:Arc}{L:Ard}{l8:Arc}{st:Bl}(e:Cq fs=0)(hA:Ia fs s)(hP:Cy s l6 L l8 st): ∃ps,Ib fs s l6 l8 st ps:=by
 obtain⟨a,b,c,d,ps,h,f⟩:=Afn e hA;obtain⟨rfl,_,rfl,rfl⟩:=Cy.unique h hP;exact⟨ps,f⟩
theorem M4{t:Arc}{ps ws:Ard}(h:C5 t ps)(f:Et ws (Al t ps))(row q:Nat)(d:row<ps.length)(e:ps[row]=q)(i:q≤t.length): ∀k,k≤q→(A5 (Bw (Al t ps) ws (A8 ps)) row k).1=part t (q-k) q∧ ∃c:(A5 (Bw (Al t ps) ws (A8 ps)) row k).2<ps.length,ps[(A5 (Bw (Al t ps) ws (A8 ps)) row k).2]=q-k
 |0,_=>by
  refine⟨?_,d,e⟩;unfold part;rw[Aqp,Aoy];rfl
 |k+1,hk=>by
  obtain⟨h1,c,h2⟩:=M4 h f row q d e i k (by omega);obtain⟨j,a,e2⟩:=Pe h (q-(k+1)) (by omega);have g:=Tw h f _ j (q-(k+1)) c a (by rw[h2];omega) e2;have e1:A5 (Bw (Al t ps) ws (A8 ps)) row (k+1)=(t.getD (q-(k+1)) 0::(A5 (Bw (Al t ps) ws (A8 ps)) row k).1,j):=by
   rw[A5,g]
  rw[e1];refine⟨?_,a,e2⟩;show _::_=_;rw[h1];unfold part;have b:q-(k+1)<t.length:=by omega
  rw[An7 b,Am4,Am5 b,show q-(k+1)+1=q-k from by omega,show q-(q-(k+1))=k+1 from by omega,show q-(q-k)=k from by omega,Aqr];rfl
end Hm
namespace Hm
theorem Y1{l:Arc}{n:Nat}{L:Ard}{st:Bl}(h:E9 l n L st):
  ∃col:Arc,col.length=n∧Lr 32 (lnB L) (Bh L) (Ae L) (l.take (szB st.len)) st.nds col∧Et st.ws col:=by
 obtain⟨b,i⟩:=h;obtain⟨t,m⟩:=O9 b;have g:=m.nodes;have d:=Kp i;have a:=Ng g b.nodup rfl (Ane _) i;have q:=J7 i;have f:=g.like d.1;have e:(Dr L).length=st.nds.length:=d.1.1.symm
 replace a:K5 (Am (l.take (szB (E8 l n L)))) n (Dr L).length st:=a
 rw[e]at a;obtain⟨col,c1,c2,c3,c4⟩:=Vs a rfl f b.numk b.num_lt b.pos;have u:E8 l n L≤8*l.length:=Nat.min_le_left _ _;have s:st.len≤8*szB st.len:=by unfold szB;omega
 have k:(l.take (szB st.len)).length=szB st.len:=by rw[Anp];unfold szB;omega
 have fits: ∀j,j<st.nds.length→(Ab st.nds j).frm+(Ab st.nds j).siz≤st.len:=fun j c=>by
  rw[c3.frm j c,a.len];exact Pc st.nds (show j+1≤st.nds.length by omega)
 refine⟨col,c1,⟨⟨c3.siz,c3.frm,fun j p c r=>?_⟩,f,b.numk,c2,b.pos,b.num_lt,fun j c=>?_⟩,a.wl,c4⟩
 ·have o:=fits j c;rw[←c3.bit j p c r,Ke l _ _ (by omega),Ke l _ _ (by unfold szB;omega)]
 ·rw[k];have o:=fits j c;omega
theorem Alj{l:Arc}{n:Nat}{L:Ard}{st:Bl}(h:E9 l n L st):Lr 32 (lnB L) (Bh L) (Ae L) (l.take (szB st.len)) st.nds (M3 l n st):=by
 obtain⟨col,c1,c2,_⟩:=Y1 h;obtain⟨e1,e2,_⟩:=I9 h;have e:M3 l n st=col:=e2.unique ⟨_,_,_,_,c2⟩ (by rw[e1,c1]);rw[e];exact c2
section
variable {M:Nat} {ln num:UInt8→Nat} {o:Arc} {nds:List Nd} {f:Nat→Bool} {col:Arc}
structure Ma(ln num:UInt8→Nat)(nds:List Nd)(col:Arc)(b:UInt8)(a d n q:Nat):Prop where
 lt:n<nds.length
 dep:(Ab nds n).depth=d
 und:D9 ln num (Ab nds n) b=true
 cnt:q=(Ap ln num nds (col.take a) n).length
theorem Ma.start(h:Bo M ln o nds)(g: ∀b∈col,b∈o)(d: ∀b∈o,0<ln b)(c: ∀b∈o,num b<2^ln b){b:UInt8}(hb:b∈o){a:Nat}(i:a≤col.length):Ma ln num nds col b a 0 0 a:=by
 have f: ∀x∈o,D9 ln num (Ab nds 0) x=true:=fun x e=>Ana ⟨by rw[h.root.1];exact d x e,by rw[h.root.1,h.root.2,Aqp];exact Nat.div_eq_of_lt (c x e)⟩;refine⟨h.more,h.root.1,f b hb,?_⟩;unfold Ap;rw[List.filter_eq_self.2 fun x e=>f x (g x (Aqm e)),Anp];omega
theorem Aj0(p:UInt8→Bool)(col:Arc)(a:Nat):(col.filter p).take ((col.take a).filter p).length=(col.take a).filter p:=by
 rw[←Apv];exact N6 p col a
theorem Ma.le{b:UInt8}{a d n q:Nat}(g:Ma ln num nds col b a d n q)(c:Rep ln num f nds col):q≤(Ab nds n).siz:=by
 rw[c.siz n g.lt,g.cnt];exact((List.take_sublist a col).filter _).length_le
theorem Ma.step(t:Rep ln num f nds col)(h:Bo M ln o nds)(hk:Hc M ln num o)(v: ∀b∈col,b∈o){b:UInt8}(hb:b∈o){a d n q:Nat}(g:Ma ln num nds col b a d n q):
  (((Ab nds n).br (At ln num d b)={whole:=true,val:=b}∧d+1=ln b∧F6 f nds n (At ln num d b) q=(col.take a).count b)∨
    ∃m,(Ab nds n).br (At ln num d b)={node:=m}∧d+1<ln b∧Ma ln num nds col b a (d+1) m (F6 f nds n (At ln num d b) q)):=by
 have j: ∀x∈col.take a,x∈o:=fun x r=>v x (Aqm r);have l:=Fg ln num d b;have ea:=t.ahead g.lt (g.le t) l;rw[g.dep]at ea;have epre:(Ap ln num nds col n).take q=Ap ln num nds (col.take a) n:=by
  rw[g.cnt];exact Aj0 _ col a
 rw[epre]at ea;obtain⟨u,e⟩: ∃u,u=At ln num d b:=⟨_,rfl⟩;rw[←e]at l ea⊢;have c:u=At ln num (Ab nds n).depth b:=by rw[g.dep];exact e
 cases h.good n u g.lt l with
 |leaf kk k e1 e2 e3=>
  have ev:b=o.getD kk 0:=I1 hk hb g.und k e2 (by rw[←c];exact e3);refine .inl ⟨by rw[ev];exact e1,by rw[ev,e2,g.dep],?_⟩;have e4:(col.take a).count b=(Ap ln num nds (col.take a) n).count b:=by
   unfold Ap;rw[List.count_filter g.und]
  rw[ea,e4,List.count];refine List.countP_congr fun x r=>?_;obtain⟨q1,q2⟩:=List.mem_filter.1 r;constructor
  ·intro s;have i:At ln num (Ab nds n).depth x=u:=by rw[g.dep];simpa using s
   have:=I1 hk (j _ q1) q2 k e2 (by rw[i];exact e3);rw[this,ev];exact Aqa _
  ·intro s;have i:x=b:=by simpa using s
   rw[i,e];exact Aqa _
 |node m e1 q1 q2 q3 q4=>
  have ec:=h.col_child hk j g.lt l (by omega) e1;have eb:=h.col_child (col:=[b]) hk (by simpa using hb) g.lt l (by omega) e1;have p:D9 ln num (Ab nds m) b=true:=by
   have e5:Ap ln num nds [b] n=[b]:=Aq9 g.und;rw[e5,Aq9 (by rw[←c];exact Aqa _)]at eb;have w:b∈Ap ln num nds [b] m:=by rw[eb];exact Anl ..
   exact(List.mem_filter.1 w).2
  refine .inr ⟨m,e1,?_,q2,by rw[q3,g.dep],p,?_⟩
  ·have:=(Aoc p).1;rw[q3,g.dep]at this;exact this
  ·rw[ec,ea,Apv,g.dep]
 |none e1 q1=>
  exact(I2 hk hb g.und (by rw[←c];exact q1)).elim
end
end Hm
end Go.Proofs.YtegnkfdbmmndaaaGreat
namespace Go.Proofs.YtegnkfdbmmndaaaGreat
open Hm Go.Proofs.Tryz Go.RowKit
set_option maxRecDepth 20000 in
theorem Aj1(hones:Bd)(pb o len g ng nc a cn cl:Nat)(b:UInt8)(s:ByteArray)(nds:List Hm.Nd)(col:Arc)(L:Ard)(w:World)(h:Ew w pb o s len g ng nc nds)(hC:Bu L)(ht:Lr 32 (Hm.lnB L) (Bh L) (Ae L) s.data.toList nds col)(ha:a≤col.length)(hs:s.size≤1000000)(a0:col.length≤1000000)
  (t0:w.cell? ⟨pb,o+3+b.toNat*2,none⟩=some (.int .u64 (cn:Nat))) (t1:w.cell? ⟨pb,o+3+b.toNat*2+1,none⟩=some (.int .i64 (cl:Nat))) (y:cn=Bh L b) (c:cl=(Jm L b).2):
  Calls prog 184 #[.pointer (some ⟨pb,o,none⟩),.int .u8 (b.toNat:Nat),.int .i64 a] w fun e w'=>e= .returned (.int .i64 (((col.take a).count b:Nat):Nat))∧Ara w w':=by
 have ai:=b.toNat_lt;obtain⟨bn,F⟩: ∃bn,bn=b.toNat:=⟨_,rfl⟩;rw[←F]at t0 t1 ai⊢;have az:(bn:Int)<256:=by omega
 have aw:Hid (bn=b.toNat):=F;clear F
 by_cases l:b∈Ae L
 rotate_left
 ·rw[Zr L b l]at c;have v:cl=0:=c;have hz:(col.take a).count b=0:=List.count_eq_zero.2 fun hm=>l (ht.mem b (Aqm hm));rw[hz];subst v;clear h ht y c
  go_enter func184,ntmps184
  go_wp2_with fail;go_ret;exact⟨rfl,(Aa.refl _ _).alloc _⟩
 ·have B:cl=Hm.lnB L b:=by rw[c];exact Q4 L (fun x=>hC.le255 x) b
  have V:=ht.pos b l;have K:=hC.short b;have U:=ht.num b l;have ao:s.data.toList.length=s.size:=by simp
  have Q:=Ma.start ht.shp ht.mem ht.pos ht.num l ha;have J:=fun d n q (x:Ma (Hm.lnB L) (Bh L) nds col b a d n q)=>x.step ht.rep ht.shp ht.numk ht.mem l;have T:=fun d n q (x:Ma (Hm.lnB L) (Bh L) nds col b a d n q)=>x.le ht.rep;have N:=fun d (hd:d<cl) W=>U7 cn cl d W (by rw[y];exact Aom U (Ao9 (by omega) K)) (by omega) hd;have Z:Hid (∀d,d<cl→ ∀W,Calls prog 151 #[.agg #[.int .u64 cn,.int .i64 cl],.int .i64 d] W fun e w'=>e= .returned (.int .i64 ((At (Hm.lnB L) (Bh L) d b:Nat):Int))∧Ara W w'):=fun d hd W=>by
   have:=N d hd W;rw[y,B]at this;rw[y,B];exact this
  have ak:cl≤32:=by omega
  have v:0<cl:=by omega
  obtain⟨R,hR⟩: ∃R,R=(col.take a).count b:=⟨_,rfl⟩;rw[←B,←hR]at J;rw[←hR];have ae:Hid _:=J;have ac:Hid _:=T;have HT:Hid (Lr 32 (Hm.lnB L) (Bh L) (Ae L) s.data.toList nds col):=ht;have HH:Hid (Ew w pb o s len g ng nc nds):=h;have ab:Hid (Ma (Hm.lnB L) (Bh L) nds col b a 0 0 a):=Q;have au:(cl:Int)≤32:=by omega
  have av:((cl:Int)==0)=false:=by rw[Aod];omega
  clear h ht J T Q N B y c hR V K U
  go_enter func184,ntmps184
  go_wp2_with fail
  go_loopw[2,9,21] (fun v2 _ v21 wr=> ∃(br:Hm.Br) (d q:Nat),v2= .int .i64 q∧v21= .int .i64 d∧wr.heap[w.heap.size]?=some (.cells #[.int .u64 cn,.int .i64 cl] 90 (0,0))∧wr.heap[w.heap.size+1]?=some (.cells (Dz br).toArray 192 (0,0))∧Ara w wr∧((d<cl∧br.whole=false∧Ma (Hm.lnB L) (Bh L) nds col b a d br.node q)∨(d=cl∧q=R))) (fun _ _ vi _=>cl-(intOf vi).toNat)
  case atStart=>exact⟨{},0,a,rfl,rfl,Apb w _ _,Apc w _ _,((Aa.refl _ _).alloc _).alloc _,.inl ⟨v,rfl,ab.o⟩⟩
  case round=>
   obtain⟨br,d,q,rfl,rfl,t,k,A,G⟩:=hrel;rcases G with⟨O,aj,i⟩|⟨rfl,rfl⟩
   ·have al:(d:Int)<(cl:Int):=by omega
    have a1:decide (d<cl)=true:=Ana O;obtain⟨bw,bv,bn2⟩:=br;obtain rfl:bw=false:=aj
    replace i:Ma (Hm.lnB L) (Bh L) nds col b a d bn2 q:=i
    have I:=ae.o d bn2 q i;have hq:=ac.o d bn2 q i;have z:=HT.o.fits bn2 i.lt;have a4:q≤1000000:=by
     have h3:=HT.o.rep.siz bn2 i.lt;have h4:=Mh (Hm.lnB L) (Bh L) nds col bn2;omega
    rw[ao]at z;obtain⟨u,hu⟩: ∃u,u=At (Hm.lnB L) (Bh L) d b:=⟨_,rfl⟩;have aq:u<2:=by rw[hu];exact Fg _ _ _ _
    have r:=Z.o d O;rw[←hu]at I r;have f:=Wm hones pb o len g ng nc s nds ⟨false,bv,bn2⟩ u q
    replace f: ∀W,Ew W pb o s len g ng nc nds→_:=fun W M=>f W M i.lt aq (by show(Ab nds bn2).frm+q≤_;omega) hs HT.o.shp.few
    have E:Hid (Ara w wr):=A;have X:Hid (wr.heap[w.heap.size]?=some (.cells #[.int .u64 cn,.int .i64 cl] 90 (0,0))∧wr.heap[w.heap.size+1]?=some (.cells #[.bool false,.int .u8 (bv.toNat:Nat),.int .i64 (bn2:Nat)] 192 (0,0))):=⟨t,k⟩;have e0:wr.cell? ⟨w.heap.size,0,none⟩=some (.int .u64 (cn:Nat)):=Am7 _ _ 0 _ _ _ t;have e1:wr.cell? ⟨w.heap.size,1,none⟩=some (.int .i64 (cl:Nat)):=Am7 _ _ 1 _ _ _ t;have c0:wr.cell? ⟨w.heap.size+1,0,none⟩=some (.bool false):=Am7 _ _ 0 _ _ _ k;have c1:wr.cell? ⟨w.heap.size+1,1,none⟩=some (.int .u8 (bv.toNat:Nat)):=Am7 _ _ 1 _ _ _ k;have c2:wr.cell? ⟨w.heap.size+1,2,none⟩=some (.int .i64 (bn2:Nat)):=Am7 _ _ 2 _ _ _ k;have ag:Hid (Ew wr pb o s len g ng nc nds):=HH.o.kept A id id id;obtain⟨bw',bv',bn',q',C,D⟩: ∃(bw':Bool) (bv':UInt8) (bn' q':Nat),(∀W,Ew W pb o s len g ng nc nds→Calls prog 124 #[.pointer (some ⟨pb,o,none⟩),.agg #[.bool false,.int .u8 (bv.toNat:Nat),.int .i64 (bn2:Nat)],.int .i64 u,.int .i64 q] W fun e w'=>e= .returned (.tuple #[.agg #[.bool bw',.int .u8 (bv'.toNat:Nat),.int .i64 (bn':Nat)],.int .i64 (q':Nat)])∧Ara W w')∧
      ((d+1<cl∧bw'=false∧Ma (Hm.lnB L) (Bh L) nds col b a (d+1) bn' q')∨(d+1=cl∧q'=R)):=by
     rcases I with⟨x1,x2,x3⟩|⟨m,x1,x2,x3⟩
     ·refine⟨true,b,0,R,fun W M=>?_,.inr ⟨x2,rfl⟩⟩;have P:=f W M;rw[x1,show F6 (Am s.data.toList) nds (Hm.Br.mk false bv bn2).node u q=R from x3]at P;exact P
     ·refine⟨false,0,m,_,fun W M=>?_,.inl ⟨x2,rfl,x3⟩⟩;have P:=f W M;rw[x1]at P;exact P
    have aa:Hid _:=C;have Y:Hid _:=r;have ad:Hid _:=D;clear t k A i I hq z hu r f C D;go_wp2_with fail
    go_region_with (first
     |(go_at_call 151;(refine(Y.o _).mono ?_;rintro e w6 ⟨rfl,H⟩;have k6:Hid (Ara wr w6):=(Aa.refl (fun _=>False) wr).drew.trans H (fun _ _ h=>h);have r6:=H.row X.o.2 id;have c3:w6.cell? ⟨w.heap.size+1,0,none⟩=some (.bool false):=Am7 _ _ 0 _ _ _ r6;have c4:w6.cell? ⟨w.heap.size+1,1,none⟩=some (.int .u8 (bv.toNat:Nat)):=Am7 _ _ 1 _ _ _ r6;have c5:w6.cell? ⟨w.heap.size+1,2,none⟩=some (.int .i64 (bn2:Nat)):=Am7 _ _ 2 _ _ _ r6;clear r6 H))
     |(go_at_call 124;(refine(aa.o _ (ag.o.kept k6.o id id id)).mono ?_;rintro e w7 ⟨rfl,S⟩;have k7:Hid (Ara wr w7):=k6.o.trans S (fun _ _ h=>h);have r7:=k7.o.row X.o.2 id;have f0:w7.frozen? ⟨w.heap.size+1,0,none⟩=false:=Ang _ _ 0 _ _ r7;have f1:w7.frozen? ⟨w.heap.size+1,1,none⟩=false:=Ang _ _ 1 _ _ r7;have f2:w7.frozen? ⟨w.heap.size+1,2,none⟩=false:=Ang _ _ 2 _ _ r7;have d0:w7.cell? ⟨w.heap.size+1,0,none⟩=some (.bool false):=Am7 _ _ 0 _ _ _ r7;have d1:w7.cell? ⟨w.heap.size+1,1,none⟩=some (.int .u8 (bv.toNat:Nat)):=Am7 _ _ 1 _ _ _ r7;have d2:w7.cell? ⟨w.heap.size+1,2,none⟩=some (.int .i64 (bn2:Nat)):=Am7 _ _ 2 _ _ _ r7;clear r7 S)))
    all_goals(
     go_wp2_with fail;go_roundw
     case rel=>
      have an:Aa (fun j=>j=w.heap.size+1) w7 (((w7.setCell ⟨w.heap.size+1,0,none⟩ (.bool bw')).setCell ⟨w.heap.size+1,1,none⟩ (.int .u8 (bv'.toNat:Nat))).setCell ⟨w.heap.size+1,2,none⟩ (.int .i64 (bn':Nat))):=(((Aa.refl (fun j=>j=w.heap.size+1) w7).setCell (p:=⟨w.heap.size+1,0,none⟩) (.inr rfl) _).setCell (p:=⟨w.heap.size+1,1,none⟩) (.inr rfl) _).setCell (p:=⟨w.heap.size+1,2,none⟩) (.inr rfl) _;have am:Ara w w7:=E.o.trans k7.o (fun _ _ h=>h);exact⟨⟨bw',bv',bn'⟩,d+1,q',rfl,by go_num,an.row (k7.o.row X.o.1 id) (by omega),Anb _ _ 2 _ _ (.int .i64 (bn':Nat)) (Anb _ _ 1 _ _ (.int .u8 (bv'.toNat:Nat)) (Anb _ _ 0 _ _ (.bool bw') (k7.o.row X.o.2 id))),((am.setCell (p:=⟨w.heap.size+1,0,none⟩) (.inl (Nat.le_succ _)) _).setCell (p:=⟨w.heap.size+1,1,none⟩) (.inl (Nat.le_succ _)) _).setCell (p:=⟨w.heap.size+1,2,none⟩) (.inl (Nat.le_succ _)) _,ad.o⟩
     case measure=>simp[intOf];omega)
   ·have al: ¬(d:Int)<(d:Int):=by omega
    have E:Hid (Ara w wr):=A;clear t k A;go_wp2_with fail;go_ret;exact⟨rfl,E.o⟩
namespace Hm
def bnd(col:Arc)(ws:Ard)(root:Nat)(b:UInt8)(r:Nat):Nat:=Ci ws b.toNat+(col.take (Cl root r)).count b
end Hm
theorem Aib(pb o len g ng nc root r1 r2:Nat)(b:UInt8)(s:ByteArray)(nds:List Hm.Nd)(ws:Ard)(col:Arc)(w:World)(h:Dd w pb o s len g ng nc nds root ws)(F:root≤col.length)(h1:r1≤col.length+1)(h2:r2≤col.length+1)(B:col.length≤100000)(n: ∀b,b<256→Ci ws b≤1000000000)
  (ahead: ∀W a,Ara w W→a≤col.length→Calls prog 184 #[.pointer (some ⟨pb,o,none⟩),.int .u8 (b.toNat:Nat),.int .i64 a] W fun e w'=>e= .returned (.int .i64 (((col.take a).count b:Nat):Nat))∧Ara W w'):
  Calls prog 160 #[.pointer (some ⟨pb,o,none⟩),.int .u8 (b.toNat:Nat),.int .i64 r1,.int .i64 r2] w fun e w'=>e= .returned (.tuple #[.int .i64 (Hm.bnd col ws root b r1:Nat),.int .i64 (Hm.bnd col ws root b r2:Nat)])∧Ara w w':=by
 have k:=b.toNat_lt;have C:=n b.toNat k;have D:=h.firsts b.toNat k;have v:pb<w.heap.size:=Ank _ _ h.root;have z: ∀r,r≤col.length+1→Cl root r≤col.length:=fun r E=>by unfold Cl;split<;>omega
 have c: ∀r,(col.take (Cl root r)).count b≤100000:=fun r=>Ant List.count_le_length (by rw[Anp];omega);have u:Hid (∀W r,Ara w W→r≤col.length+1→Calls prog 80 #[.pointer (some ⟨pb,o,none⟩),.int .i64 (r:Nat)] W fun e w'=>e= .returned (.int .i64 (Cl root r:Nat))∧w'=W):=fun W r hk E=>Qh pb o root r W ((hk.cell (p:=⟨pb,o+773,none⟩) v id).trans h.root) (by omega);have l:=fun W hk=>u.o W r1 hk h1;have m:=fun W hk=>u.o W r2 hk h2;have i:=fun W hk=>ahead W (Cl root r1) hk (z r1 h1);have j:=fun W hk=>ahead W (Cl root r2) hk (z r2 h2);have n1:=c r1;have n2:=c r2;unfold Hm.bnd;generalize(col.take (Cl root r1)).count b=q1 at*;generalize(col.take (Cl root r2)).count b=q2 at*;generalize Cl root r1=x1 at*;generalize Cl root r2=x2 at*;generalize Ci ws b.toNat=fb at*;generalize b.toNat=bn at*;have A:(bn:Int)<256:=by omega
 have x:IntKind.i64.wrap ((fb:Int)+(q1:Int))=((fb+q1:Nat):Int):=by rw[An9];omega
 have y:IntKind.i64.wrap ((fb:Int)+(q2:Int))=((fb+q2:Nat):Int):=by rw[An9];omega
 have C1:Hid _:=l;have C2:Hid _:=m;have A1:Hid _:=i;have A2:Hid _:=j;clear l m i j u z c ahead h n h1 h2
 go_enter func160,ntmps160
 go_wp2_with fail
 go_region_held(fun X=>Hid (Ara w X)) (first|exact k4|exact k3|exact k2|exact k1|exact(Aa.refl (fun _=>False) w).drew)
  (first
   |(go_at_call_of 80 (Value.int .i64 (r1:Int));(refine(C1.o _ (by first|exact k2.o|exact k1.o|exact(Aa.refl (fun _=>False) w).drew)).mono ?_;rintro e w1 ⟨rfl,q⟩;have k1:Hid (Ara w w1):=(by rw[q];first|exact k2.o|exact k1.o|exact(Aa.refl (fun _=>False) w).drew);clear q))
   |(go_at_call_of 80 (Value.int .i64 (r2:Int));(refine(C2.o _ (by first|exact k2.o|exact k1.o|exact(Aa.refl (fun _=>False) w).drew)).mono ?_;rintro e w3 ⟨rfl,t⟩;have k3:Hid (Ara w w3):=(by rw[t];first|exact k2.o|exact k1.o|exact(Aa.refl (fun _=>False) w).drew);clear t))
   |(go_at_call_of 184 (Value.int .i64 (x1:Int));(refine(A1.o _ (by first|exact k3.o|exact k1.o)).mono ?_;rintro e w2 ⟨rfl,d⟩;have k2:Hid (Ara w w2):=(by first|exact k3.o.trans d (fun _ _ h=>h)|exact k1.o.trans d (fun _ _ h=>h));clear d))
   |(go_at_call_of 184 (Value.int .i64 (x2:Int));(refine(A2.o _ (by first|exact k3.o|exact k2.o)).mono ?_;rintro e w4 ⟨rfl,f⟩;have k4:Hid (Ara w w4):=(by first|exact k3.o.trans f (fun _ _ h=>h)|exact k2.o.trans f (fun _ _ h=>h));clear f)))
 all_goals(
  go_wp2_with fail;go_ret2;exact⟨by first|rfl|(rw[x,y];rfl)|go_num,k4.o⟩)
end Go.Proofs.YtegnkfdbmmndaaaGreat
namespace Go.Proofs.YtegnkfdbmmndaaaGreat
open Hm Go.Proofs.Tryz
namespace Hm
def N3(t:Arc)(b:UInt8)(p:Nat):Bool:=decide (0<p)&&(t.getD (p-1) 0==b)
theorem P5(t:Arc)(b:UInt8)(qs:Ard):(Al t qs).count b=qs.countP (N3 t b):=by
 unfold Al;rw[List.count,List.countP_map,List.countP_filter];refine List.countP_congr fun p _=>?_;unfold N3;simp only[Function.comp,Bool.and_eq_true,decide_eq_true_eq];exact And.comm
theorem Ql{t:Arc}{ps:Ard}(h:ps.Perm (List.range (t.length+1)))(r:Nat)(b:r≤ps.length):(Al t ps).take (Cl (A8 ps) r)=Al t (ps.take r):=by
 rcases Nat.lt_or_eq_of_le b with h1|h1
 ·exact N1 h r h1
 ·have e:ps.length=t.length+1:=by have:=h.length_eq;simpa using this
  have a:=(Kw h).2;have d:=Gm h;have c:Cl (A8 ps) r=t.length:=by unfold Cl;rw[if_pos (by omega)];omega
  rw[c,An5 (by omega),h1,Aof]
theorem Aj2{t:Arc}{ps ws:Ard}(h:ps.Perm (List.range (t.length+1)))(b:UInt8)(r:Nat)(a:r≤ps.length):bnd (Al t ps) ws (A8 ps) b r=Ci ws b.toNat+(ps.take r).countP (N3 t b):=by
 unfold bnd;rw[Ql h r a,P5]
theorem Ja(g:Nat→Bool)(l:Ard){i j:Nat}(h:i≤j):(l.take i).countP g≤(l.take j).countP g:=by
 have:l.take i=(l.take j).take i:=by rw[List.take_take,Ap7 h]
 rw[this];exact(List.take_sublist i (l.take j)).countP_le
theorem Ty(g:Nat→Bool)(l:Ard)(c:Nat): ∀n,n≤l.length→c<(l.take n).countP g→ ∃j,∃b:j<l.length,j<n∧g l[j]=true∧(l.take j).countP g=c
 |0,_,h=>by simp at h
 |n+1,hn,h=>by
  by_cases d:c<(l.take n).countP g
  ·obtain⟨j,b,h1,h2⟩:=Ty g l c n (by omega) d;exact⟨j,b,by omega,h2⟩
  ·rw[Anh (by omega),Apd,Aox,Aq5]at h;cases a:g l[n]with
   |false=>rw[a]at h;simp at h;omega
   |true=>
    rw[a,if_pos rfl]at h;exact⟨n,by omega,by omega,a,by omega⟩
structure Gn(t:Arc)(ps:Ard)(u:Arc)(lo hi:Nat):Prop where
 le:lo≤hi
 in':hi≤ps.length
 iff: ∀i,(h:i<ps.length)→((lo≤i∧i<hi)↔u<+:t.drop ps[i])
theorem Gn.start{t:Arc}{ps:Ard}:Gn t ps [] 0 ps.length:=
 ⟨Ann _,Ane _,fun _ h=>⟨fun _=>List.nil_prefix,fun _=>⟨Ann _,h⟩⟩⟩
theorem Z3{t:Arc}{ps ws:Ard}(h:C5 t ps)(d:Et ws (Al t ps))(i j q:Nat)(hi:i<ps.length)(c:j<ps.length)(e1:ps[i]=q+1)(e2:ps[j]=q):j=Ci ws (t.getD q 0).toNat+(ps.take i).countP (N3 t (t.getD q 0)):=by
 have a:=Tw h d i j q hi c e1 e2;have b:i≠A8 ps:=fun x=>by have:=(Q9 h.perm i hi).2 x;omega
 unfold Bw at a;rw[if_neg b]at a;obtain⟨a1,a2⟩:=Prod.mk.inj a;rw[a1,Ql h.perm i (by omega),P5]at a2;exact a2.symm
theorem Gn.step{t:Arc}{ps ws:Ard}{p:Arc}{lo hi:Nat}(h:C5 t ps)(z:Et ws (Al t ps))(b:UInt8)(g:Gn t ps p lo hi):Gn t ps (b::p) (bnd (Al t ps) ws (A8 ps) b lo) (bnd (Al t ps) ws (A8 ps) b hi):=by
 have F:ps.length=t.length+1:=by have:=h.perm.length_eq;simpa using this
 have B:=Gm h.perm;rw[Aj2 h.perm b lo (Ant g.le g.in'),Aj2 h.perm b hi g.in'];refine⟨Nat.add_le_add_left (Ja _ _ g.le) _,?_,fun i o=>?_⟩
 ·have h1:(ps.take hi).countP (N3 t b)≤(Al t ps).count b:=by
   rw[P5];exact(List.take_sublist hi ps).countP_le
  have h2:=z.first b.toNat (by have:=b.toNat_lt;omega);have D:(Al t ps).countP (fun x=>decide (x.toNat<b.toNat))+(Al t ps).count b≤(Al t ps).length:=by
   generalize Al t ps=l;induction l with
   |nil=>simp
   |cons x r ih=>
    rw[Aox,List.count_cons,An8]
    by_cases e:x=b
    ·subst e;simp;omega
    ·have:(x==b)=false:=by simpa using e
     rw[this];split<;>simp<;>omega
  omega
 ·constructor
  ·rintro⟨h1,h2⟩;obtain⟨j,d,u,m,E⟩:=Ty (N3 t b) ps (i-Ci ws b.toNat) hi g.in' (by omega);have v:lo≤j:=by
    rcases Aoq j lo with c|c
    ·have:=Ja (N3 t b) ps (show j+1≤lo from c);rw[Anh d,Apd,Aox,Aq5,m,if_pos rfl]at this;omega
    ·exact c
   have k:=(g.iff j d).1 ⟨v,u⟩;unfold N3 at m;obtain⟨g1,g2⟩:=Bool.and_eq_true_iff.1 m;have g1:0<ps[j]:=Aoc g1;have g2:t.getD (ps[j]-1) 0=b:=by simpa using g2
   have A:ps[j]≤t.length:=by have:=h.perm.subset (Anm d);have:=List.mem_range.1 this;omega
   obtain⟨i2,q,e2⟩:=Pe h (ps[j]-1) (by omega);have f:=Z3 h z j i2 (ps[j]-1) d q (by omega) e2;rw[g2]at f;have s:i2=i:=by omega
   subst s;have a:ps[j]-1<t.length:=by omega
   rw[e2,An7 a];rw[Am4,Am5 a]at g2;have g3:t[ps[j]-1]=b:=g2;rw[g3,show ps[j]-1+1=ps[j]from by omega];exact List.cons_prefix_cons.2 ⟨rfl,k⟩
  ·intro k;have a:ps[i]<t.length:=by
    rcases Aoq ps[i] t.length with c|c
    ·exact c
    ·rw[Aqd c]at k;have:=k.length_le;simp at this
   rw[An7 a]at k;obtain⟨e1,y⟩:=List.cons_prefix_cons.1 k;obtain⟨j,d,ej⟩:=Pe h (ps[i]+1) (by omega);have n:=(g.iff j d).2 (by rw[ej];exact y);have f:=Z3 h z j i ps[i] d o ej rfl;have hb:t.getD ps[i] 0=b:=by rw[Am4,Am5 a];exact e1.symm
   rw[hb]at f;have C:=Ja (N3 t b) ps n.1;have w:=Ja (N3 t b) ps (show j+1≤hi from n.2);have m:N3 t b ps[j]=true:=by
    unfold N3;rw[ej,Ap1,hb];simp
   rw[Anh d,Apd,Aox,Aq5,m,if_pos rfl]at w;omega
theorem Gn.none{t:Arc}{ps:Ard}{v u:Arc}{lo hi:Nat}(h:C5 t ps)(f:Gn t ps u lo hi)(m:hi≤lo):Gn t ps (v++u) lo hi:=by
 refine⟨f.le,f.in',fun i e=>⟨fun⟨a,b⟩=>by omega,fun l=>?_⟩⟩;exfalso;obtain⟨z,g⟩:=l;have d:ps[i]+v.length≤t.length:=by
  have:=congrArg List.length g;rw[Anf,Anf,Aoi]at this;rcases Aoq t.length ps[i]with c|c
  ·have:=h.perm.subset (Anm e);have:=List.mem_range.1 this;omega
  ·omega
 obtain⟨j,k,ej⟩:=Pe h (ps[i]+v.length) d;have:=(f.iff j k).2 (by
  rw[ej,←List.drop_drop,←g,An4,List.drop_left];exact List.prefix_append _ _)
 omega
end Hm
end Go.Proofs.YtegnkfdbmmndaaaGreat
namespace Go.Proofs.YtegnkfdbmmndaaaGreat
open Hm Go.Proofs.Tryz Go.RowKit
theorem Alk(pb o:Nat)(P:Arc)(t:Arc)(ps ws:Ard)(w:World)(l:C5 t ps)(H:Et ws (Al t ps))(hn:t.length≤6000)(hP:P.length≤281474976710656)
  (bounds: ∀W b r1 r2,Ara w W→r1≤ps.length→r2≤ps.length→Calls prog 160 #[.pointer (some ⟨pb,o,none⟩),.int .u8 (b.toNat:Nat),.int .i64 (r1:Nat),.int .i64 (r2:Nat)] W fun e w'=>e= .returned (.tuple #[.int .i64 (Hm.bnd (Al t ps) ws (A8 ps) b r1:Nat),.int .i64 (Hm.bnd (Al t ps) ws (A8 ps) b r2:Nat)])∧Ara W w'):
  Calls prog 159 #[.func (.func 160) #[.pointer (some ⟨pb,o,none⟩)] #[],.int .i64 (ps.length:Nat),.string ⟨P.toArray⟩] w fun e w'=>(∃lo hi:Nat,e= .returned (.tuple #[.int .i64 (lo:Nat),.int .i64 (hi:Nat)])∧Gn t ps P lo hi)∧Ara w w':=by
 obtain⟨S,y⟩: ∃S,S=(⟨P.toArray⟩:ByteArray):=⟨_,rfl⟩;have K:S.size=P.length:=by rw[y];show P.toArray.size=_;simp
 have m:S.data.toList=P:=by rw[y]
 rw[←y];have F:ps.length=t.length+1:=by have:=l.perm.length_eq;simpa using this
 have I:Hid _:=bounds;have g:Hid (C5 t ps∧Et ws (Al t ps)):=⟨l,H⟩;obtain⟨N,B⟩: ∃N,N=ps.length:=⟨_,rfl⟩;rw[←B];have J:N≤6001:=by omega
 have x:Hid (N=ps.length):=B;have A:Hid (S.data.toList=P):=m;clear bounds l H y m F B
 go_enter func159,ntmps159
 go_wp2_with fail
 go_loopw[6,7,8] (fun vf vt vi wr=> ∃k lo hi:Nat,k≤P.length∧vi= .int .i64 ((k:Int)-1)∧vf= .int .i64 lo∧vt= .int .i64 hi∧hi≤N∧lo≤hi∧Hid (Gn t ps (P.drop k) lo hi)∧Ara w wr) (fun _ _ vi _=>(intOf vi+1).toNat)
 case atStart=>exact⟨P.length,0,N,Ane _,rfl,rfl,rfl,Ane _,Ann _,by rw[Apy,x.o];exact Gn.start,Aa.refl _ _⟩
 case round=>
  obtain⟨k,lo,hi,hk,rfl,rfl,rfl,L,O,f,c⟩:=hrel;have d:Hid (Ara w wr):=c;cases k with
  |zero=>
   have G:((0:Nat):Int)-1= -1:=rfl;rw[G];clear c;go_wp2_with fail;go_ret2;exact⟨⟨lo,hi,rfl,by have:=f.o;rwa[List.drop_zero]at this⟩,d.o⟩
  |succ j=>
   have G:((j+1:Nat):Int)-1=(j:Int):=by omega
   rw[G]
   by_cases s:lo<hi
   ·have u:(lo:Int)<(hi:Int):=by omega
    have hd:decide (lo<hi)=true:=Ana s;have E:j<S.size:=by omega
    have M:(j:Int)<(S.size:Int):=by omega
    have q:j<P.length:=by omega
    have i:=I.o wr P[j] lo hi c (by have:=x.o;omega) (by have:=x.o;omega);have a:Hid (Gn t ps (P.drop j) (Hm.bnd (Al t ps) ws (A8 ps) P[j] lo) (Hm.bnd (Al t ps) ws (A8 ps) P[j] hi)):=by
     have:=f.o.step g.o.1 g.o.2 P[j];rwa[←An7 q]at this
    have n:S[j]=P[j]:=by
     have e:S.data.toList[j]?=P[j]?:=by rw[A.o]
     rw[Am5 q,Array.getElem?_toList,Apl (show j<S.data.size from E)]at e;exact An0 e
    rw[←n]at i a;have p:=a.o.in';have C:=a.o.le;rw[←x.o]at p;generalize Hm.bnd (Al t ps) ws (A8 ps) S[j] lo=lo2 at*;generalize Hm.bnd (Al t ps) ws (A8 ps) S[j] hi=D at*;clear c n;go_wp2_with fail;refine i.mono ?_;rintro e w2 ⟨rfl,r⟩;have z:Hid (Ara w w2):=d.o.trans r (fun _ _ h=>h);clear i r;go_wp2_with fail;go_roundw
    case rel=>exact⟨j,lo2,D,by omega,rfl,rfl,rfl,p,C,a,z.o⟩
    case measure=>simp[intOf]
   ·have u: ¬(lo:Int)<(hi:Int):=by omega
    have hd:decide (lo<hi)=false:=Anc s;have a:Hid (Gn t ps P lo hi):=by
     have:=f.o.none (v:=P.take (j+1)) g.o.1 (by omega);rwa[Ao5]at this
    clear c;go_wp2_with fail;go_ret2;exact⟨⟨lo,hi,rfl,a.o⟩,d.o⟩
end Go.Proofs.YtegnkfdbmmndaaaGreat
namespace Go.Proofs.YtegnkfdbmmndaaaGreat
open Hm Go.Proofs.Tryz
namespace Hm
theorem Z4(g:Nat→Bool): ∀(ps:Ard) (p:Nat) (h:p<ps.length),g ps[p]=true→(ps.filter g).getD ((ps.take p).countP g) 0=ps[p]∧(ps.take p).countP g<(ps.filter g).length
 |[],p,h,_=>by simp at h
 |x::r,0,_,b=>by
  have a:g x=true:=b;rw[Aq9 a];exact⟨rfl,by simp⟩
 |x::r,p+1,h,b=>by
  have c:p<r.length:=by simpa using h
  obtain⟨h1,h2⟩:=Z4 g r p c b;rw[Aqr,Aox]
  by_cases a:g x=true
  ·rw[Aq9 a,if_pos a,Aq8];exact⟨h1,by rw[An8];omega⟩
  ·rw[List.filter_cons_of_neg a,if_neg a,Ap3];exact⟨h1,h2⟩
theorem Aic(x:Nat):x<18446744073709551616→x<2^Lib.bitLen x:=by
 induction x using Nat.strongRecOn with
 |ind x ih=>
  intro b
  by_cases a:x=0
  ·subst a;exact Nat.pow_pos (by omega)
  ·rw[Lib.bitLen_half x a (by omega),Nat.add_comm,Aoz];have:=ih (x/2) (by omega) (by omega);omega
theorem Z5{n:Nat}{ps:Ard}(hn:n≤6000)(h:ps.Perm (List.range (n+1)))(f:Nat→Bool)(o: ∀p,p<(A7 ps).length→f p=(A7 ps).getD p false)(j p:Nat)(B:p<n+1)(u:Hh f j p):
  ∃a:p<ps.length,Gg f (n+1+j*Lib.bitLen (n/8)) (Lib.bitLen (n/8))*8=ps[p]:=by
 have x:ps.length=n+1:=by have:=h.length_eq;simpa using this
 have hs:(A7 ps).length=An n:=Fk h;have a:p<ps.length:=by omega
 refine⟨a,?_⟩;have k: ∀q,q<ps.length→(A7 ps).getD q false=decide (ps.getD q 0%8=0):=fun q m=>by
  unfold A7;rw[Am4,An6 (by rw[Anz];exact m),An2,Am4,Am5 m];rfl
 have d:=u.is;have z:ps.length≤(A7 ps).length:=by rw[hs];unfold An;omega
 rw[o p (by omega),k p a,Am4,Am5 a]at d;have v:ps[p]%8=0:=Aoc d;have b:=u.nr;rw[Yz f ((A7 ps).take ps.length) (fun q m=>by
  rw[Anp]at m;rw[o q (by omega),Am4,Am4,List.getElem?_take,if_pos (by omega)]) p (by rw[Anp];omega)]at b
 have e1:(A7 ps).take ps.length=ps.map fun p=>decide (p%8=0):=by
  unfold A7;rw[List.take_left' (by rw[Anz])]
 rw[e1,←List.map_take,List.countP_map]at b;have b:(ps.take p).countP (fun p=>decide (p%8=0))=j:=b;obtain⟨g1,g2⟩:=Z4 (fun p=>decide (p%8=0)) ps p a (Ana v);rw[b]at g1 g2;obtain⟨wd,c⟩: ∃wd,wd=Lib.bitLen (n/8):=⟨_,rfl⟩;rw[←c];have y:ps[p]<n+1:=by have:=h.subset (Anm a);simpa using this
 have A:ps[p]/8<2^wd:=by
  rw[c];refine Aov ?_ (Aic (n/8) (by omega));exact Nat.div_le_div_right (by omega)
 have g:Bx ps wd=Co ((ps.filter fun p=>decide (p%8=0)).map (· /8)) wd:=by
  unfold Bx Co;rw[List.flatMap_map]
 have l:Gg f (n+1+j*wd) wd=ps[p]/8:=by
  rw[Tt f (n+1+j*wd) (ps[p]/8) wd ?_,Ao7 A];intro i hi;have t:=Rb wd ((ps.filter fun p=>decide (p%8=0)).map (· /8)) j i (by rw[Anz];exact g2) hi;have r:((ps.filter fun p=>decide (p%8=0)).map (· /8)).getD j 0=ps[p]/8:=by
   rw[Am4,An2];rw[Am4,Am5 g2]at g1;rw[Am5 g2];show _/8=_;rw[show(ps.filter fun p=>decide (p%8=0))[j]=ps[p]from g1]
  rw[r,←g]at t;have e:((ps.map fun p=>decide (p%8=0)):List Bool).length=n+1:=by rw[Anz,x]
  have w:(ps.filter fun p=>decide (p%8=0)).length=n/8+1:=by rw[←Apv,h.countP_eq,Tq]
  have s:n+1+j*wd+i<(A7 ps).length:=by
   rw[hs];unfold An;rw[←c];have:(j+1)*wd≤(n/8+1)*wd:=Apa _ (by omega);rw[Ape,Nat.one_mul]at this;omega
  rw[o _ s,←t];unfold A7;rw[Am4,Ans (by rw[e];omega),e,show ps.length-1=n from by omega,←c,show n+1+j*wd+i-(n+1)=j*wd+i from by omega,←Am4]
 rw[l];omega
end Hm
end Go.Proofs.YtegnkfdbmmndaaaGreat
