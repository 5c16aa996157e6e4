import Derived.Test.YtegnkfdbmmndaaaGreatJ00
import Derived.Test.YtegnkfdbmmndaaaGreatJ31
import Derived.Test.YtegnkfdbmmndaaaGreatJ33
import Derived.Test.YtegnkfdbmmndaaaGreatJ24
import Derived.Test.YtegnkfdbmmndaaaGreatJ32

namespace Go.Proofs.YtegnkfdbmmndaaaGreat
open Hm
open Go.RowKit
namespace Hm
def Ff(nm:List (List UInt8))(t:List UInt8)(es:List Nat)(i:Nat):List Fl:=(List.range nm.length).map fun j=>(⟨(nm.getD j []).toArray⟩,if j<i then⟨(part t (if j=0 then 0 else es.getD (j-1) 0) (es.getD j 0)).toArray⟩else⟨#[]⟩)
theorem Pa(nm:List (List UInt8))(t:List UInt8)(es:List Nat)(i:Nat):(Ff nm t es i).length=nm.length:=by simp[Ff]
theorem Air(nm:List (List UInt8))(t:List UInt8)(es:List Nat):Ff nm t es 0=nm.map fun x=>(⟨x.toArray⟩,⟨#[]⟩):=by
 apply Amf (by simp[Ff]);intro j h1 h2;have:j<nm.length:=by simpa using h2
 simp[Ff,List.getD_eq_getElem?_getD,this]
theorem Aj4(nm:List (List UInt8))(t:List UInt8)(es:List Nat)(i:Nat)(h:i<(Ff nm t es i).length):(Ff nm t es i).set i ((Ff nm t es i)[i].1,⟨(part t (if i=0 then 0 else es.getD (i-1) 0) (es.getD i 0)).toArray⟩)=Ff nm t es (i+1):=by
 apply Amf (by simp[Ff]);intro j h1 h2;rw[An8];simp only[Ff,Am5,Aor]
 by_cases c:i=j
 ·subst c;simp
 ·rw[if_neg c];congr 1
  by_cases d:j<i
  ·have d2:j<i+1:=by omega
   rw[if_pos d,if_pos d2]
  ·have d2: ¬j<i+1:=by omega
   rw[if_neg d,if_neg d2]
theorem Ais(fs:List Fl):Ff (fs.map fun f=>f.1.data.toList) (Ae fs) (Az fs) fs.length=fs:=by
 apply Amf (by simp[Ff]);intro i h1 h2;simp only[Ff,Am5,Aor];have hi:i<fs.length:=h2;rw[if_pos hi,Ig fs i hi];have e:(if i=0 then 0 else(Az fs).getD (i-1) 0)=(Ae (fs.take i)).length:=by
  by_cases c:i=0
  ·rw[if_pos c,c];rfl
  ·rw[if_neg c,Ig fs (i-1) (by omega),show i-1+1=i from by omega]
 rw[e,Zg fs i hi];have e2:(fs.map fun f=>f.1.data.toList).getD i []=fs[i].1.data.toList:=by
  rw[Ak6,Alu,Ak7 hi];rfl
 rw[e2]
theorem Ag1(nm:List (List UInt8))(t:List UInt8)(es:List Nat)(i:Nat)(hn: ∀x∈nm,x.length≤30000)(ht:t.length≤30000): ∀f∈Ff nm t es i,f.1.size≤30000∧f.2.size≤30000:=by
 intro f hf;unfold Ff at hf;obtain⟨j,hj,rfl⟩:=List.mem_map.1 hf;have hj':j<nm.length:=by simpa using hj
 refine⟨?_,?_⟩
 ·show(nm.getD j []).toArray.size≤_;rw[Alq,Ak6,Ak7 hj'];exact hn _ (Alo _)
 ·show(if j<i then(⟨(part t _ _).toArray⟩:ByteArray)else⟨#[]⟩).size≤_;split
  ·show(part t _ _).toArray.size≤_;rw[Alq];unfold part;rw[Aln,Amb];omega
  ·exact Alr _
theorem Yf{s:List UInt8}{a k:Nat}(h:a+k≤s.length):(Cb s (a,false) k).2=(a+k,false)∧(Cb s (a,false) k).1<256^k:=by
 unfold Cb;rw[if_neg (by show¬_<a+k;omega)];refine⟨rfl,?_⟩;have:=Lw ((s.drop a).take k);rwa[Aln,Amb,Ant (by omega)]at this
theorem Aj5(s:List UInt8)(st:RS)(n:Nat)(h:st.1≤s.length):(Cr s st n).2.1≤s.length:=by
 unfold Cr;split
 ·exact Uw s st _ h
 ·exact Uw s st _ h
theorem Aj6(s:List UInt8)(st:RS)(m n:Nat)(h:st.1≤s.length):(Iz s st m n).2.1≤s.length∧(Iz s st m n).1.length≤m:=by
 refine⟨Aj5 s st _ h,?_⟩;unfold Iz;dsimp only;split
 ·exact Alr _
 ·exact(O6 _ _ _ _).2
theorem Aj7(s:List UInt8)(st:RS)(h:st.1≤s.length):(Kj s st).2.1≤s.length:=Te s _ (Lx s st 2 h) _
theorem Qf(s:List UInt8)(st:RS): ∀i,∀x∈(Cs s st i).1,x≤255
 |0,x,hx=>by
  rw[Cs]at hx;rw[Aod hx];omega
 |i+1,x,hx=>by
  rw[Cs]at hx;split at hx
  ·exact Qf s st i x hx
  ·rcases An6 hx with h|h
   ·exact Qf s st i x h
   ·rw[h];have:=Tf s (Cb s (Cs s st i).2 1).2;omega
theorem Us(hd rows o:List (List Bool)): ∀k b nx,Jh hd rows o k=some (b,nx)→b.length=k
 |0,b,nx,h=>by
  rw[Jh]at h;injection h with h;injection h with h1 _;rw[←h1];rfl
 |k+1,b,nx,h=>by
  rw[Jh]at h;split at h
  ·cases h
  ·rename_i b0 nx0 h0;split at h
   ·cases h
   ·injection h with h;injection h with h1 _;rw[←h1,Alg,Us hd rows o k b0 nx0 h0];rfl
theorem Aeh{s:List UInt8}{fr n:Nat}{hd o:List (List Bool)}{t:List UInt8}(h:Ji s fr n hd o=some t):t.length=n:=by
 unfold Ji at h;split at h
 ·cases h
 ·rename_i rows _ _ _;cases h0:Jh hd rows o n with
  |none=>rw[h0]at h;cases h
  |some x=>
   obtain⟨b,nx⟩:=x;rw[h0]at h;injection h with h;rw[←h];exact Us hd rows o n b nx h0
theorem Sx(s:List UInt8)(st:RS): ∀i,∀x∈(Ck s st i).1,x.length≤s.length
 |0,x,hx=>by cases hx
 |i+1,x,hx=>by
  rw[Ck]at hx;rcases Ao7.1 hx with h|h
  ·exact Sx s st i x h
  ·rw[List.mem_singleton.1 h];unfold D4;split
   ·exact Alr _
   ·show((s.drop _).take _).length≤_;rw[Aln,Amb];omega
end Hm
def D7(s:List UInt8)(w w':World)(e:Ending):Prop:=Apd w w'∧ ∃(v:Value) (l:List Hm.Fl) (ok:Bool),e= .returned (.tuple #[v,.bool ok])∧w'.ownsRow w.heap.size 38 2 v l.length (Bx l)∧l.length≤40∧(∀f∈l,f.1.size≤30000∧f.2.size≤30000)∧ ∀fs,Bl fs=0→Cn fs s→ok=true∧l=fs
theorem D7.no{s:List UInt8}{w w':World}(hk:Apd w w')(h: ∀fs,Bl fs=0→ ¬Cn fs s):D7 s w w' (.returned (.tuple #[.slice none 0 0,.bool false])):=
 ⟨hk,_,[],false,rfl,Aoe _ _ _ _,by simp,by simp,fun fs h1 h2=>absurd h2 (h fs h1)⟩
set_option maxRecDepth 20000 in
set_option maxHeartbeats 4000000 in
theorem Acv(s:List UInt8)(w:World)(hs:s.length≤140737488355328):
  Calls Tryz.prog 32 #[.string ⟨s.toArray⟩] w fun e w'=>D7 s w w' e:=by
 obtain⟨i0,hi,hz0,hz1,hz2⟩:=Amz Y3;have HA:Hid (∀fs,Bl fs=0→Cn fs s→ ∃a1 a2 a3 root col,Th s fs a1 a2 a3 root col):=fun fs h1 h2=>Ag0 h1 h2;obtain⟨S,hS⟩: ∃S,S=(⟨s.toArray⟩:ByteArray):=⟨_,rfl⟩;have hSs:S.size=s.length:=by rw[hS];show s.toArray.size=_;simp
 have HS:Hid (S=(⟨s.toArray⟩:ByteArray)):=hS;rw[←hS];clear hS
 go_enter Tryz.func32,Tryz.ntmps32
 by_cases h11:s.length<11
 ·have hd:decide ((s.length:Int)<11)=true:=Alb (by omega);go_wp2_with fail;go_ret2;exact D7.no (Aa.refl _ _) (fun fs h1 h2=>by obtain⟨_,_,_,_,_,R⟩:=HA.out fs h1 h2;have:=R.len;omega)
 ·have hd:decide ((s.length:Int)<11)=false:=Ald (by omega);have hX:((S.extract 0 6).toList==[72,79,65,82,68,49])=decide (s.take 6=[72,79,65,82,68,49]):=by
   have e:(S.extract 0 6).toList=s.take 6:=by
    rw[Amq,HS.out,Aom,Aos,Anz];simp
   rw[e]
   by_cases c:s.take 6=[72,79,65,82,68,49]
   ·rw[c,Alb rfl];rfl
   ·rw[Ald c,Al5];exact c
  by_cases hm:s.take 6=[72,79,65,82,68,49]
  ·rw[Alb hm]at hX
   by_cases h30:30000<s.length
   ·have hd2:decide ((30000:Int)<(s.length:Int))=true:=Alb (by omega);clear hm;go_wp2_with fail;go_ret2;exact D7.no (Aa.refl _ _) (fun fs h1 h2=>by obtain⟨_,_,_,_,_,R⟩:=HA.out fs h1 h2;have:=R.len;omega)
   ·have hd2:decide ((30000:Int)<(s.length:Int))=false:=Ald (by omega);clear hm;go_wp2_with fail;clear hX hd hd2;have g0:Cg (w.alloc (.cells #[.string S,.int .i64 6,.bool false] 145)) w.heap.size s (6,false):=by
     unfold Cg;rw[←HS.out];exact All w _
    have hk0:Apd w (w.alloc (.cells #[.string S,.int .i64 6,.bool false] 145)):=(Aa.refl _ _).alloc _;generalize w.alloc (.cells #[.string S,.int .i64 6,.bool false] 145)=W0 at*;obtain⟨p,hp⟩: ∃p,p=w.heap.size:=⟨_,rfl⟩;have HP:Hid (p=w.heap.size):=hp;rw[←hp]at g0⊢;clear hp;have hn1:=Hz p 1 s (6,false) W0 g0 (by omega) (by show 6≤_;omega) (by omega);obtain⟨q1,q2⟩:=Yf (s:=s) (a:=6) (k:=1) (by omega);obtain⟨m,hm⟩: ∃m,m=(Cb s (6,false) 1).1:=⟨_,rfl⟩;rw[q1,←hm]at hn1;rw[←hm]at q2;have HE1:Hid (m=(Cb s (6,false) 1).1):=hm;clear hm q1 g0;refine hn1.mono ?_;rintro e W1 ⟨rfl,g1,hk1⟩;have hk01:Apd w W1:=hk0.trans hk1 (fun j hj e=>by have:=HP.out;omega);clear hn1 hk0 hk1;have hn2:=Hz p 2 s (7,false) W1 g1 (by omega) (by show 7≤_;omega) (by omega);obtain⟨q1,q3⟩:=Yf (s:=s) (a:=7) (k:=2) (by omega);obtain⟨n,hn⟩: ∃n,n=(Cb s (7,false) 2).1:=⟨_,rfl⟩;rw[q1,←hn]at hn2;rw[←hn]at q3;have HE2:Hid (n=(Cb s (7,false) 2).1):=hn;clear hn q1 g1;go_wp2_with fail;refine hn2.mono ?_;rintro e W2 ⟨rfl,g2,hk2⟩;have hk02:Apd w W2:=hk01.trans hk2 (fun j hj e=>by have:=HP.out;omega);clear hn2 hk01 hk2;have hn3:=Hz p 2 s (9,false) W2 g2 (by omega) (by show 9≤_;omega) (by omega);obtain⟨q1,q4⟩:=Yf (s:=s) (a:=9) (k:=2) (by omega);obtain⟨rt,hrt⟩: ∃n,n=(Cb s (9,false) 2).1:=⟨_,rfl⟩;rw[q1,←hrt]at hn3;rw[←hrt]at q4;have HE3:Hid (rt=(Cb s (9,false) 2).1):=hrt;clear hrt q1 g2;go_wp2_with fail;refine hn3.mono ?_;rintro e W3 ⟨rfl,g3,hk3⟩;have hk03:Apd w W3:=hk02.trans hk3 (fun j hj e=>by have:=HP.out;omega);clear hn3 hk02 hk3;have HRD:Hid (∀fs,Bl fs=0→Cn fs s→ ∃a1 a2 a3 col,Th s fs a1 a2 a3 rt col∧m=fs.length∧n=(Ae fs).length):=fun fs h1 h2=>by
     obtain⟨a1,a2,a3,r,col,R⟩:=HA.out fs h1 h2;have e1:=HE1.out;have e2:=HE2.out;have e3:=HE3.out;rw[R.m]at e1;rw[R.n]at e2;rw[R.root]at e3;simp only at e1 e2 e3;subst e3;exact⟨a1,a2,a3,col,R,e1,e2⟩
    clear HA HE1 HE2 HE3;have hq2:m<256:=q2;have hq3:n<65536:=q3;have hq4:rt<65536:=q4;clear q2 q3 q4;have HK3:Hid (Apd w W3∧Cg W3 p s (11,false)):=⟨hk03,g3⟩;clear hk03 g3
    by_cases hm4:40<m
    ·have d1:decide ((40:Int)<(m:Int))=true:=Alb (by omega);go_wp2_with fail;go_ret2;exact D7.no HK3.out.1 (fun fs h1 h2=>by obtain⟨_,_,_,_,R,e,_⟩:=HRD.out fs h1 h2;have:=R.le;omega)
    ·have d1:decide ((40:Int)<(m:Int))=false:=Ald (by omega)
     by_cases hn6:6000<n
     ·have d2:decide ((6000:Int)<(n:Int))=true:=Alb (by omega);go_wp2_with fail;go_ret2;exact D7.no HK3.out.1 (fun fs h1 h2=>by obtain⟨_,_,_,_,R,e,e2⟩:=HRD.out fs h1 h2;have:=R.le;omega)
     ·have d2:decide ((6000:Int)<(n:Int))=false:=Ald (by omega)
      by_cases hrn:n<rt
      ·have d3:decide ((n:Int)<(rt:Int))=true:=Alb (by omega);go_wp2_with fail;go_ret2;exact D7.no HK3.out.1 (fun fs h1 h2=>by obtain⟨_,_,_,_,R,e,e2⟩:=HRD.out fs h1 h2;have:=R.le;omega)
      ·have d3:decide ((n:Int)<(rt:Int))=false:=Ald (by omega);go_wp2_with fail;clear d1 d2 d3;have hpw:p<W3.heap.size:=Alw HK3.out.2
       go_loopw[8,9] (fun vo vi wr=> ∃i:Nat,i≤m∧vi= .int .i64 i∧wr.ownsRow (p+1) 38 2 vo i (Bx ((Ck s (11,false) i).1.map fun x=>(⟨x.toArray⟩,⟨#[]⟩)))∧Hid (Cg wr p s (Ck s (11,false) i).2)∧Hid (Apd w wr)∧p+1≤wr.heap.size) (fun _ vi _=>m-(intOf vi).toNat)
       case atStart=>exact⟨0,Alr _,rfl,Aoe _ _ _ _,HK3.out.2,HK3.out.1,hpw⟩
       case round=>
        obtain⟨i,him,rfl,hown,HR,HK,hsz⟩:=hrel;obtain⟨ao,co,hv,_⟩:=Ay hown;subst hv;have hat:=Zi s (11,false) (by show 11≤_;omega) i
        by_cases hlt:i<m
        ·have hltI:(i:Int)<(m:Int):=by omega
         have hltd:decide ((i:Int)<(m:Int))=true:=Alb hltI;have hc1:=Hz p 1 s (Ck s (11,false) i).2 wr HR.out (by omega) hat (by omega);have hx:=Tf s (Ck s (11,false) i).2;have hat2:=Lx s (Ck s (11,false) i).2 1 hat;have HNX:Hid (Ck s (11,false) (i+1)=((Ck s (11,false) i).1++[(D4 s (Cb s (Ck s (11,false) i).2 1).2 (Cb s (Ck s (11,false) i).2 1).1).1],(D4 s (Cb s (Ck s (11,false) i).2 1).2 (Cb s (Ck s (11,false) i).2 1).1).2)):=rfl;have HO:Hid (wr.ownsRow (p+1) 38 2 (.slice ao i co) i (Bx ((Ck s (11,false) i).1.map fun x=>(⟨x.toArray⟩,⟨#[]⟩)))):=hown;generalize Ck s (11,false) i=NI at*;obtain⟨nm,st⟩:=NI;generalize Cb s st 1=NU at*;obtain⟨x,st2⟩:=NU;try dsimp only at hc1
         clear hown;go_wp2_with fail;refine hc1.mono ?_;rintro e W4 ⟨rfl,g4,hk4⟩;have hc2:=Yk p x s st2 W4 g4 (by omega) hat2 (by omega);have HO4:Hid (W4.ownsRow (p+1) 38 2 (.slice ao i co) i (Bx (nm.map fun x=>(⟨x.toArray⟩,⟨#[]⟩)))):=hk4.owns HO.out (fun j hj e=>by have:=(HO.out.lt j hj).1;omega);have HK4:Hid (Apd w W4∧p+1≤W4.heap.size):=⟨HK.out.trans hk4 (fun j hj e=>by have:=HP.out;omega),Al2 hsz hk4.size⟩;clear hc1 g4 hk4 HO HR HK;try dsimp only at HNX
         generalize D4 s st2 x=PA at*;obtain⟨y,st3⟩:=PA;try dsimp only at hc2
         go_wp2_with fail;refine hc2.mono ?_;rintro e W5 ⟨rfl,g5,hk5⟩;have ho5:=hk5.owns HO4.out (fun j hj e=>by have:=(HO4.out.lt j hj).1;omega);have HK5:Hid (Apd w W5∧p+1≤W5.heap.size∧Cg W5 p s st3):=⟨HK4.out.1.trans hk5 (fun j hj e=>by have:=HP.out;omega),Al2 HK4.out.2 hk5.size,g5⟩;obtain⟨Y,hY⟩: ∃Y,Y=(⟨y.toArray⟩:ByteArray):=⟨_,rfl⟩;have HY:Hid (Y=(⟨y.toArray⟩:ByteArray)):=hY;rw[←hY];clear hY hc2 g5 hk5 HO4 HK4
         go_wp2_with(at_builtin;refine A7 _ rfl (.tmp 61) (.tmp 64) 22 rfl (p+1) 38 i0 (.agg #[.string ⟨#[]⟩,.string ⟨#[]⟩]) 2 32 Tryz.underlying22 hi hz0 hz1 hz2 rfl (by decide) _ _ _ rfl (ho5.alloc _) ⟨W5.heap.size,0,none⟩ 1 1 [.string Y,.string ⟨#[]⟩] rfl rfl ?c1 ?c2 ?c3 ?c4 ?c5 ?_)
         case c1=>
          intro j u hj;rw[Addr.add_lit,Al7];exact(Alc _ _ j _ _ _ (All W5 _)).trans (by rw[Alz];exact hj)
         case c2=>intro u hu;simp at hu;rcases hu with rfl|rfl<;>rfl
         case c3=>unfold maxLen;omega
         case c4=>omega
         case c5=>have:=HK5.out.2.1;simp only[World.alloc,Array.size_push];omega
         intro v6 w6 ho6 hg6 hm6;have hk6:Aa (fun j=>p+1≤j) W5 w6:=((Aa.refl _ W5).alloc _).grown hg6 (fun j hj=> .inr (ho5.lt j hj).1);have HK6:Hid (Apd w w6∧Cg w6 p s st3∧p+1≤w6.heap.size):=⟨HK5.out.1.trans hk6 (fun j hj e=>by have:=HP.out;omega),hk6.row HK5.out.2.2 (by omega),Al2 HK5.out.2.1 hk6.size⟩;have ho7:w6.ownsRow (p+1) 38 2 v6 (i+1) (Bx ((nm++[y]).map fun x=>(⟨x.toArray⟩,⟨#[]⟩))):=by
          rw[Am9,Z4,Amu,Ao1,←HY.out];exact ho6
         obtain⟨a7,c7,hv7,_⟩:=Ay ho7;subst hv7;have HO7:Hid _:=ho7;clear ho6 hg6 hm6 ho7 hk6 ho5;go_wp2_with fail;go_roundw
         case rel=>exact⟨i+1,by omega,by go_num,by rw[HNX.out];exact HO7.out,by rw[HNX.out];exact HK6.out.2.1,HK6.out.1,HK6.out.2.2⟩
         case measure=>simp[intOf];omega
        ·have hltI: ¬(i:Int)<(m:Int):=by omega
         have hltd:decide ((i:Int)<(m:Int))=false:=Ald hltI;have hie:m=i:=by omega
         subst hie;have hee:=Ah7 p m n s (Ck s (11,false) m).2 wr HR.out (by omega) (by omega) hat (by omega);obtain⟨hat2,hlen⟩:=Aj6 s (Ck s (11,false) m).2 m n hat;have HNM:Hid (∀x∈(Ck s (11,false) m).1,x.length≤s.length):=Sx s (11,false) m;have hnl:=Q4 s (11,false) m;have HO:Hid (wr.ownsRow (p+1) 38 2 (.slice ao m co) m (Bx ((Ck s (11,false) m).1.map fun x=>(⟨x.toArray⟩,⟨#[]⟩)))):=hown;have HD1:Hid (∀fs,Bl fs=0→Cn fs s→ ∃a2 a3 col,Th s fs (Ck s (11,false) m).2.1 a2 a3 rt col∧m=fs.length∧n=(Ae fs).length∧Ck s (11,false) m=(fs.map (fun f=>f.1.data.toList),((Ck s (11,false) m).2.1,false))):=fun fs h1 h2=>by
          obtain⟨a1,a2,a3,col,R,e1,e2⟩:=HRD.out fs h1 h2;have e3:=R.names;rw[←e1]at e3;rw[e3];exact⟨a2,a3,col,R,e1,e2,rfl⟩
         clear hown hltI HRD;generalize Ck s (11,false) m=NI at*;obtain⟨nm,a1,bad1⟩:=NI;try dsimp only at hee
         try dsimp only at hnl
         try dsimp only at hat
         have HD2:Hid (∀fs,Bl fs=0→Cn fs s→ ∃a3 col,Th s fs a1 (Iz s (a1,bad1) m n).2.1 a3 rt col∧m=fs.length∧n=(Ae fs).length∧nm=fs.map (fun f=>f.1.data.toList)∧Iz s (a1,bad1) m n=(Az fs,((Iz s (a1,bad1) m n).2.1,false))):=fun fs h1 h2=>by
          obtain⟨a2,a3,col,R,e1,e2,e3⟩:=HD1.out fs h1 h2;injection e3 with e3 e4;injection e4 with _ e5;try dsimp only at R
          subst e5;have e6:=R.ends;rw[←e1,←e2]at e6;rw[e6];exact⟨a3,col,R,e1,e2,e3,rfl⟩
         clear HD1;try dsimp only at HO
         try dsimp only at HNM
         generalize Iz s (a1,bad1) m n=EN at*;obtain⟨es,a2,bad2⟩:=EN;try dsimp only at hee
         try dsimp only at hat2
         try dsimp only at hlen
         go_wp2_with fail;refine hee.mono ?_;rintro e W4 ⟨v4,rfl,ho4,g4,hk4⟩;obtain⟨ae,ce,hv4,_⟩:=Ay ho4;subst hv4;have H4:Hid (W4.ownsRow (p+1) 38 2 (.slice ao m co) m (Bx (nm.map fun x=>(⟨x.toArray⟩,⟨#[]⟩)))∧W4.ownsRow wr.heap.size 3 1 (.slice ae es.length ce) es.length (Ac es)∧Apd w W4):=⟨hk4.owns HO.out (fun j hj e=>by have:=(HO.out.lt j hj).1;omega),ho4,HK.out.trans hk4 (fun j hj e=>by have:=HP.out;omega)⟩;have HBL:Hid (∀k,(Value.slice ao m co).ownBlock=some k→p<k∧k<wr.heap.size):=fun k hk=>by have:=HO.out.lt k hk;omega
         have hpr:p<wr.heap.size:=by omega
         have hll:=Aco p s (a2,bad2) W4 g4 hat2 (by omega);have hat3:=Aj7 s (a2,bad2) hat2;have HLL:Hid ((Kj s (a2,bad2)).1.length=256∧ ∀x∈(Kj s (a2,bad2)).1,x≤255):=⟨Kt _ _ _,Qf _ _ _⟩;have HD3:Hid (∀fs,Bl fs=0→Cn fs s→ ∃col,Th s fs a1 a2 (Kj s (a2,bad2)).2.1 rt col∧m=fs.length∧n=(Ae fs).length∧nm=fs.map (fun f=>f.1.data.toList)∧es=Az fs∧Kj s (a2,bad2)=(Hm.lens (Ae fs),((Kj s (a2,bad2)).2.1,false))):=fun fs h1 h2=>by
          obtain⟨a3,col,R,e1,e2,e3,e4⟩:=HD2.out fs h1 h2;injection e4 with e4 e5;injection e5 with _ e6;try dsimp only at R
          subst e6;have e7:=R.lens;rw[e7];exact⟨col,R,e1,e2,e3,e4,rfl⟩
         clear HD2 hee ho4 g4 hk4 HO HR HK;generalize Kj s (a2,bad2)=LN at*;obtain⟨L,a3,bad3⟩:=LN;try dsimp only at hll
         try dsimp only at hat3
         try dsimp only at HLL
         have hcd:=fun W=>Sk L W HLL.out.1 (fun x hx=>by have:=HLL.out.2 x hx;omega);obtain⟨LA,hLA⟩: ∃A,A=(Ac L).toArray:=⟨_,rfl⟩;have hLs:LA.size=256:=by rw[hLA,A2,HLL.out.1]
         have hL1:LA.all (·.oneCell')=true:=by rw[hLA];exact Eb _
         rw[←hLA]at hll hcd;clear hLA;generalize wr=WR at*;go_wp2_with fail;refine hll.mono ?_;rintro e W5 ⟨rfl,g5,hk5⟩;have H5:Hid (W5.ownsRow (p+1) 38 2 (.slice ao m co) m (Bx (nm.map fun x=>(⟨x.toArray⟩,⟨#[]⟩)))∧W5.ownsRow WR.heap.size 3 1 (.slice ae es.length ce) es.length (Ac es)∧Apd w W5∧Cg W5 p s (a3,bad3)):=⟨hk5.owns H4.out.1 (fun j hj e=>by have:=HBL.out j hj;omega),hk5.owns H4.out.2.1 (fun j hj e=>by have:=(H4.out.2.1.lt j hj).1;omega),H4.out.2.2.trans hk5 (fun j hj e=>by have:=HP.out;omega),g5⟩;clear hll g5 hk5 H4
         go_wp2_with(first
          |(refine wpList_store_row _ rfl 94 _ _ rfl W5.heap.size 94 Tryz.zeroCells94 LA rfl rfl (All W5 _) (by rw[hLs];exact Dp) (by rw[hLs,Si,A2,Alj]) hL1 ?_;intro w6 hw6 hk6)
          |(refine Amd rfl 94 _ rfl W5.heap.size rfl 94 LA (0,0) _ hw6 Tryz.underlying94 rfl (by rw[hLs];exact Dp) ?_))
         refine(hcd _).mono ?_;rintro e W7 ⟨⟨o,ok,hol,rfl,hca⟩,hk7⟩;have hk57:Apd W5 W7:=(((Aa.refl _ W5).alloc _).trans hk6 (fun j h1 h2=>by omega)).trans hk7 (fun _ _ h=>h);have H7:Hid (W7.ownsRow (p+1) 38 2 (.slice ao m co) m (Bx (nm.map fun x=>(⟨x.toArray⟩,⟨#[]⟩)))∧W7.ownsRow WR.heap.size 3 1 (.slice ae es.length ce) es.length (Ac es)∧Apd w W7∧Cg W7 p s (a3,bad3)):=⟨hk57.owns H5.out.1 (fun _ _ h=>h),hk57.owns H5.out.2.1 (fun _ _ h=>h),H5.out.2.2.1.trans hk57 (fun _ _ h=>h),hk57.row H5.out.2.2.2 id⟩;obtain⟨OA,hOA⟩: ∃A,A=(An o).toArray:=⟨_,rfl⟩;have hOs:OA.size=256:=by rw[hOA,Alq,Bh,hol]
         have hO1:OA.all (·.oneCell')=true:=by rw[hOA];exact Kh _
         have HOA:Hid (OA=(An o).toArray∧o.length=256∧Ch L o ok):=⟨hOA,hol,hca⟩;rw[←hOA];clear hOA hol hca hk7 hk6 hw6 hk57 hcd H5;generalize W5.heap.size=bL at*;go_upto_region 18 with(first
          |(refine wpList_store_row _ rfl 113 _ _ rfl W7.heap.size 113 Tryz.zeroCells113 OA rfl rfl (All W7 _) (by rw[hOs];exact Cv) (by rw[hOs,Ou,Alq,Bh,Alj]) hO1 ?_;intro w8 hw8 hk8))
         have hk78:Apd W7 w8:=((Aa.refl _ W7).alloc _).trans hk8 (fun j h1 h2=>by omega);have H8:Hid (w8.ownsRow (p+1) 38 2 (.slice ao m co) m (Bx (nm.map fun x=>(⟨x.toArray⟩,⟨#[]⟩)))∧w8.ownsRow WR.heap.size 3 1 (.slice ae es.length ce) es.length (Ac es)∧Apd w w8∧Cg w8 p s (a3,bad3)):=⟨hk78.owns H7.out.1 (fun _ _ h=>h),hk78.owns H7.out.2.1 (fun _ _ h=>h),H7.out.2.2.1.trans hk78 (fun _ _ h=>h),hk78.row H7.out.2.2.2 id⟩;have hr':w8.heap[p]?=some (.cells #[.string ⟨s.toArray⟩,.int .i64 (a3:Nat),.bool bad3] 145 (0,0)):=H8.out.2.2.2;have c2:w8.cell? ⟨p,2,none⟩=some (.bool bad3):=Alc _ _ 2 _ _ _ hr';clear hr' hk8 hk78 H7;cases bad3 with
         |true=>
          go_wp2_with fail;go_ret2;exact D7.no H8.out.2.2.1 (fun fs h1 h2=>by
           obtain⟨_,_,_,_,_,_,e⟩:=HD3.out fs h1 h2;injection e with _ e;injection e with _ e;cases e)
         |false=>
          cases ok with
          |false=>
           go_wp2_with fail;go_ret2;exact D7.no H8.out.2.2.1 (fun fs h1 h2=>by
            obtain⟨_,R,_,_,_,_,e⟩:=HD3.out fs h1 h2;injection e with e _;have h3:=HOA.out.2.2;rw[e]at h3;have:=R.codes _ _ h3;cases this)
          |true=>
           by_cases hl:es.length=m
           ·have hlm:decide ((es.length:Int)=(m:Int))=true:=Alb (by omega);have hco:=Aec p n a3 o s w8 H8.out.2.2.2 HOA.out.2.1 HOA.out.2.2.short (by omega) hat3 (by omega);rw[←HOA.out.1]at hco
            go_wp2_with(first|(refine Amd rfl 113 _ rfl W7.heap.size rfl 113 OA (0,0) _ hw8 Tryz.underlying113 rfl (by rw[hOs];exact Cv) ?_))
            refine hco.mono ?_;rintro e W9 ⟨hd,a9,hho,hk9,hres⟩;have H9:Hid (W9.ownsRow (p+1) 38 2 (.slice ao m co) m (Bx (nm.map fun x=>(⟨x.toArray⟩,⟨#[]⟩)))∧W9.ownsRow WR.heap.size 3 1 (.slice ae es.length ce) es.length (Ac es)∧Apd w W9):=⟨hk9.owns H8.out.1 (fun j hj e=>by have:=HBL.out j hj;omega),hk9.owns H8.out.2.1 (fun j hj e=>by have:=(H8.out.2.1.lt j hj).1;omega),H8.out.2.2.1.trans hk9 (fun j hj e=>by have:=HP.out;omega)⟩;have HD4:Hid (∀fs,Bl fs=0→Cn fs s→ ∃col,Ji s a3 n hd o=some col∧G4 col rt col.length=some (Ae fs,rt)∧m=fs.length∧n=(Ae fs).length∧nm=fs.map (fun f=>f.1.data.toList)∧es=Az fs):=fun fs h1 h2=>by
             obtain⟨col,R,e1,e2,e3,e4,e5⟩:=HD3.out fs h1 h2;injection e5 with e5 _;have h3:=HOA.out.2.2;rw[e5]at h3;have h4:=R.col o true hd h3 HOA.out.2.1 hho;rw[←e2]at h4;exact⟨col,h4,R.back.2,e1,e2,e3,e4⟩
            clear hco hk9 H8 HD3 hho hw8 c2 hlm;rcases hres with⟨hno,rfl,g9⟩|⟨t,hco,rfl,g9⟩
            ·have hr':W9.heap[p]?=some (.cells #[.string ⟨s.toArray⟩,.int .i64 (a9:Nat),.bool true] 145 (0,0)):=g9;have c2:W9.cell? ⟨p,2,none⟩=some (.bool true):=Alc _ _ 2 _ _ _ hr';have HNO:Hid (Ji s a3 n hd o=none):=hno;clear hr' g9 hno;go_wp2_with fail;go_ret2;exact D7.no H9.out.2.2 (fun fs h1 h2=>by
              obtain⟨_,e,_⟩:=HD4.out fs h1 h2;rw[HNO.out]at e;cases e)
            ·have hr':W9.heap[p]?=some (.cells #[.string ⟨s.toArray⟩,.int .i64 (a9:Nat),.bool false] 145 (0,0)):=g9;have c2:W9.cell? ⟨p,2,none⟩=some (.bool false):=Alc _ _ 2 _ _ _ hr';have htl:=Aeh hco;have HCO:Hid (Ji s a3 n hd o=some t):=hco;have hbk:=Aef t rt W9 (by omega) (by omega);have HBL2:=Tg t rt (by omega) t.length;have HD5:Hid (∀fs,Bl fs=0→Cn fs s→G4 t rt t.length=some (Ae fs,rt)∧m=fs.length∧n=(Ae fs).length∧nm=fs.map (fun f=>f.1.data.toList)∧es=Az fs):=fun fs h1 h2=>by
              obtain⟨col,e,e2,e3⟩:=HD4.out fs h1 h2;rw[HCO.out]at e;injection e with e;subst e;exact⟨e2,e3⟩
             obtain⟨T,hT⟩: ∃T,T=(⟨t.toArray⟩:ByteArray):=⟨_,rfl⟩;unfold Pp at hbk;rw[←hT]at hbk⊢;clear hr' g9 hco hT HCO HD4;cases hrb:G4 t rt t.length with
             |none=>
              rw[hrb]at hbk;have HRB:Hid (G4 t rt t.length=none):=hrb;try dsimp only at hbk
              clear hrb HBL2;go_wp2_with fail;refine hbk.mono ?_;rintro e W10 ⟨rfl,hk10⟩;have HK10:Hid (Apd w W10):=H9.out.2.2.trans hk10 (fun _ _ h=>h);clear hbk;go_wp2_with fail;go_ret2;exact D7.no HK10.out (fun fs h1 h2=>by
               have e:=(HD5.out fs h1 h2).1;rw[HRB.out]at e;cases e)
             |some tr=>
              obtain⟨tx,rw'⟩:=tr;rw[hrb]at hbk;have hxl:=(HBL2 tx rw' hrb).2;have HRB:Hid (G4 t rt t.length=some (tx,rw')):=hrb;try dsimp only at hbk
              clear hrb HBL2;go_wp2_with fail;refine hbk.mono ?_;rintro e W10 ⟨rfl,hk10⟩;have H10:Hid (W10.ownsRow (p+1) 38 2 (.slice ao m co) m (Bx (nm.map fun x=>(⟨x.toArray⟩,⟨#[]⟩)))∧W10.ownsRow WR.heap.size 3 1 (.slice ae es.length ce) es.length (Ac es)∧Apd w W10):=⟨hk10.owns H9.out.1 (fun _ _ h=>h),hk10.owns H9.out.2.1 (fun _ _ h=>h),H9.out.2.2.trans hk10 (fun _ _ h=>h)⟩;clear hbk hk10 H9 c2
              by_cases hrr:rw'=rt
              ·have hrd:decide (rw'=rt)=true:=Alb hrr;rw[hrd];clear hrd;obtain⟨X,hX⟩: ∃X,X=(⟨tx.toArray⟩:ByteArray):=⟨_,rfl⟩;have hXs:X.size=n:=by rw[hX];show tx.toArray.size=_;rw[Alq];omega
               have HX:Hid (X=(⟨tx.toArray⟩:ByteArray)):=hX;have HD6:Hid (∀fs,Bl fs=0→Cn fs s→tx=Ae fs∧m=fs.length∧n=(Ae fs).length∧nm=fs.map (fun f=>f.1.data.toList)∧es=Az fs):=fun fs h1 h2=>by
                obtain⟨e,e2⟩:=HD5.out fs h1 h2;rw[HRB.out]at e;injection e with e;injection e with e _;exact⟨e,e2⟩
               have HUP:Hid (∀fs,Bl fs=0→Cn fs s→St es n):=fun fs h1 h2=>by
                obtain⟨_,_,e3,_,e5⟩:=HD6.out fs h1 h2;rw[e3,e5];exact Sw fs
               rw[←hX];clear hX HD5 HRB hrr;have H11:Hid (W10.ownsRow (p+1) 38 2 (.slice ao m co) m (Bx (Ff nm tx es 0))):=by
                rw[Air];exact H10.out.1
               go_wp2_with fail
               go_loopw[17,18] (fun vf vi wq=> ∃i:Nat,i≤m∧vi= .int .i64 i∧vf= .int .i64 ((if i=0 then 0 else es.getD (i-1) 0:Nat):Int)∧(if i=0 then 0 else es.getD (i-1) 0)≤n∧wq.ownsRow (p+1) 38 2 (.slice ao m co) m (Bx (Ff nm tx es i))∧wq.ownsRow WR.heap.size 3 1 (.slice ae es.length ce) es.length (Ac es)∧Hid (Apd w wq)) (fun _ vi _=>m-(intOf vi).toNat)
               case atStart=>exact⟨0,Alr _,rfl,rfl,Alr _,H11.out,H10.out.2.1,H10.out.2.2⟩
               case round=>
                obtain⟨i,him2,rfl,rfl,hfn,ho,hoe,HKW⟩:=hrel;clear H11 H10;obtain⟨fr,hfr⟩: ∃fr,fr=if i=0 then 0 else es.getD (i-1) 0:=⟨_,rfl⟩;rw[←hfr]at hfn⊢;have HFR:Hid (fr=if i=0 then 0 else es.getD (i-1) 0):=hfr;clear hfr
                by_cases hl2:i<m
                ·have hlI:(i:Int)<(m:Int):=by omega
                 have hld:decide ((i:Int)<(m:Int))=true:=Alb hlI;have hlE:(i:Int)<(es.length:Int):=by omega
                 obtain⟨ge,hge⟩: ∃g,ae=some ⟨g,0,none⟩:=by
                  rcases hoe.2 with⟨e,h0⟩|⟨g,cap,cur,e,_⟩
                  ·omega
                  ·exact⟨g,(Value.slice.inj e).1⟩
                 obtain⟨gf,hgf⟩: ∃g,ao=some ⟨g,0,none⟩:=by
                  rcases ho.2 with⟨e,h0⟩|⟨g,cap,cur,e,_⟩
                  ·omega
                  ·exact⟨g,(Value.slice.inj e).1⟩
                 subst hge;subst hgf;obtain⟨x,hx⟩: ∃x,x=es.getD i 0:=⟨_,rfl⟩;have cE:wr.cell? ⟨ge,i,none⟩=some (.int .i64 (x:Nat)):=by
                  rw[hoe.cellAt i (by omega),hx];simp[Ac,List.getD_eq_getElem?_getD,List.getElem?_eq_getElem (show i<es.length by omega)]
                 have HX2:Hid (x=es.getD i 0):=hx;have HOE:Hid (wr.ownsRow WR.heap.size 3 1 (.slice (some ⟨ge,0,none⟩) es.length ce) es.length (Ac es)):=hoe;have HOF:Hid (wr.ownsRow (p+1) 38 2 (.slice (some ⟨gf,0,none⟩) m co) m (Bx (Ff nm tx es i))):=ho;clear hx hoe ho
                 by_cases hxf:x<fr
                 ·have d1:decide ((x:Int)<(fr:Int))=true:=Alb (by omega);go_wp2_with fail;go_ret2;exact D7.no HKW.out (fun fs h1 h2=>by
                   have hu:=HUP.out fs h1 h2;have h3:=HX2.out;have h4:=HFR.out
                   by_cases c:i=0
                   ·rw[if_pos c]at h4;omega
                   ·rw[if_neg c]at h4;have:=hu.asc (i-1) i (by omega) (by omega);omega)
                 ·have d1:decide ((x:Int)<(fr:Int))=false:=Ald (by omega)
                  by_cases hxn:n<x
                  ·have d2:decide ((n:Int)<(x:Int))=true:=Alb (by omega);go_wp2_with fail;go_ret2;exact D7.no HKW.out (fun fs h1 h2=>by
                    have hu:=(HUP.out fs h1 h2).le i (by omega);have h3:=HX2.out;omega)
                  ·have d2:decide ((n:Int)<(x:Int))=false:=Ald (by omega);have hcl:i<(Ff nm tx es i).length:=by rw[Pa];omega
                   have cO:wr.cell? ⟨gf,i*2+1,none⟩=some (.string (Ff nm tx es i)[i].2):=by
                    rw[HOF.out.cellAt _ (by omega)];exact Nh _ i hcl
                   have fO:wr.frozen? ⟨gf,i*2+1,none⟩=false:=HOF.out.frozenAt _;obtain⟨E,hE⟩: ∃E,E=X.extract fr x:=⟨_,rfl⟩;have HE:Hid (E=(⟨(Hm.part tx fr x).toArray⟩:ByteArray)):=by
                    show _=_;rw[hE,HX.out];apply An1;rw[Aom];apply Am6;rw[Aos,Anz];rfl
                   have hE2:X.extract fr x=E:=hE.symm;have hfx:(fr:Int)≤(x:Int):=by omega
                   have hxX:(x:Int)≤(n:Int):=by omega
                   clear hE;have HSET:Hid ((Ff nm tx es i).set i ((Ff nm tx es i)[i].1,E)=Ff nm tx es (i+1)):=by
                    show _=_;rw[HE.out,HX2.out,HFR.out,Aj4 _ _ _ _ hcl]
                   have hgg:gf≠ge:=by
                    have h1:=HBL.out gf rfl;have h2:=(HOE.out.lt ge rfl).1;omega
                   have hgw:w.heap.size≤gf:=by
                    have h1:=HBL.out gf rfl;have h2:=HP.out;omega
                   go_wp2_with fail;go_roundw
                   case rel=>
                    refine⟨i+1,by omega,by go_num,?_,?_,?_,?_,?_⟩
                    ·rw[if_neg (by omega),An0,HX2.out]
                    ·rw[if_neg (by omega),An0,←HX2.out];omega
                    ·have h1:=(HOF.out.stored (i*2+1) (.string E)).1;rw[Uc _ _ i hcl,HSET.out]at h1;exact h1
                    ·exact ownsRow_setCell_other HOE.out (fun e=>hgg (Al1 e).symm) _
                    ·exact HKW.out.setCell (p:=⟨gf,i*2+1,none⟩) (.inl hgw) _
                   case measure=>simp[intOf];omega
                ·have hlI: ¬(i:Int)<(m:Int):=by omega
                 have hld:decide ((i:Int)<(m:Int))=false:=Ald hlI;have hie:i=m:=by omega
                 have HF:Hid (wr.ownsRow w.heap.size 38 2 (.slice ao m co) (Ff nm tx es m).length (Bx (Ff nm tx es m))∧(Ff nm tx es m).length≤40∧(∀f∈Ff nm tx es m,f.1.size≤30000∧f.2.size≤30000)∧ ∀fs,Bl fs=0→Cn fs s→fr=n∧Ff nm tx es m=fs):=by
                  rw[hie]at ho;refine⟨?_,by rw[Pa];omega,Ag1 _ _ _ _ (fun x hx=>by have:=HNM.out x hx;omega) (by omega),fun fs h1 h2=>?_⟩
                  ·rw[Pa,hnl];exact E4 ho (fun k hk=>by have:=(ho.lt k hk).1;have:=HP.out;omega)
                  ·have hu:=(HUP.out fs h1 h2).last;obtain⟨e1,e2,e3,e4,e5⟩:=HD6.out fs h1 h2;refine⟨?_,?_⟩
                   ·rw[HFR.out,hie,←hl];exact hu
                   ·rw[e1,e2,e4,e5];exact Ais fs
                 clear ho hoe hie;go_wp2_with fail;go_ret2;exact⟨HKW.out,.slice ao m co,Ff nm tx es m,((fr:Int)==(n:Int)),rfl,HF.out.1,HF.out.2.1,HF.out.2.2.1,fun fs h1 h2=>⟨by rw[beq_iff_eq];have:=(HF.out.2.2.2 fs h1 h2).1;omega,(HF.out.2.2.2 fs h1 h2).2⟩⟩
              ·have hrd:decide (rw'=rt)=false:=Ald hrr;rw[hrd];clear hrd;go_wp2_with fail;go_ret2;exact D7.no H10.out.2.2 (fun fs h1 h2=>by
                have e:=(HD5.out fs h1 h2).1;rw[HRB.out]at e;injection e with e;injection e with _ e;exact hrr e)
           ·have hlm:decide ((es.length:Int)=(m:Int))=false:=Ald (by omega);have hlI: ¬(es.length:Int)=(m:Int):=by omega
            go_wp2_with fail;go_ret2;exact D7.no H8.out.2.2.1 (fun fs h1 h2=>by
             obtain⟨_,_,e1,_,_,e4,_⟩:=HD3.out fs h1 h2;exact hl (by rw[e4,Ds,e1]))
  ·rw[Ald hm]at hX;have HM:Hid (¬s.take 6=[72,79,65,82,68,49]):=hm;clear hm;go_wp2_with fail;go_ret2;exact D7.no (Aa.refl _ _) (fun fs h1 h2=>by obtain⟨_,_,_,_,_,R⟩:=HA.out fs h1 h2;exact HM.out R.magic)
end Go.Proofs.YtegnkfdbmmndaaaGreat
namespace Go.Proofs.YtegnkfdbmmndaaaGreat
open Hm
namespace Hm
def Is(ps:List Nat)(i:Nat):Nat:=if Bn ps<i then Bn ps else 0
theorem Aei{n:Nat}{ps:List Nat}(h:ps.Perm (List.range (n+1)))(i:Nat)(hi:i<ps.length):Is ps (i+1)=if ps[i]=0 then i else Is ps i:=by
 have:=Od h i hi;unfold Is
 by_cases e:ps[i]=0
 ·have:=this.1 e;rw[if_pos e,if_pos (by omega)];omega
 ·have hne: ¬i=Bn ps:=fun k=>e (this.2 k);rw[if_neg e]
  by_cases q:Bn ps<i
  ·rw[if_pos (by omega),if_pos q]
  ·rw[if_neg (by omega),if_neg q]
theorem Aej{n:Nat}{ps:List Nat}(h:ps.Perm (List.range (n+1))):Is ps (n+1)=Bn ps:=by
 have hmem:0∈ps:=h.symm.subset (by simp);have hr:Bn ps<ps.length:=List.findIdx_lt_length_of_exists ⟨0,hmem,by simp⟩;have hl:ps.length=n+1:=by have:=h.length_eq;simpa using this
 unfold Is;rw[if_pos (by omega)]
end Hm
end Go.Proofs.YtegnkfdbmmndaaaGreat
