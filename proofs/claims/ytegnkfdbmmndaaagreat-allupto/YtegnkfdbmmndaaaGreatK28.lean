import Derived.Test.YtegnkfdbmmndaaaGreatK27

set_option maxHeartbeats 8000000
set_option maxRecDepth 100000
namespace Go.Proofs.YtegnkfdbmmndaaaGreat
open Hm Go.Proofs.Tryz
variable{L:Aeh}{s:Aeg}
namespace Hm
theorem Bz.cd_inj(f:Bz L){b b':UInt8}(hb:b∈Af L)(a:b'∈Af L)(e:Ih (lnB L) (Bq L) b=Ih (lnB L) (Bq L) b'):b=b':=by
 have hk:=f.numk;have d:=congrArg List.length e;unfold Ih at e d;rw[By,By]at d;rw[<-d]at e;have hn:=Ux (f.num_lt b hb) (by rw[d];exact f.num_lt b' a) e;obtain⟨i,hi,rfl⟩:=Jr hb;obtain⟨j,g,rfl⟩:=Jr a;have h1:=hk.num i hi;have h2:=hk.num j g;rw[hn,d,h2]at h1;rcases Aa7 i j with c|c|c
 ·have:=Ut 32 (lnB L) (Af L) c hi;omega
 ·rw[c]
 ·have:=Ut 32 (lnB L) (Af L) c g;omega
theorem Bz.colCd(d:Bz L){o hd:List (List Bool)}{ok:Bool}{col:Aeg}(h:Cx L o ok)(k:o.length=256)(i:Gf (cdL o) hd)(j: ∀b∈col,b∈Af L):G7 o hd col:=by
 have e:=Rw d h;have a: ∀b,cdL o b≠[]↔b∈Af L:=fun b=>by
  rw[d.mem b,e,<-List.length_pos_iff];unfold Ih;rw[By]
 refine⟨k,i,fun b hb x l g=>?_,fun b b' hb c=>?_,fun b=>?_,fun b hb=>(a b).2 (j b hb)⟩
 ·obtain⟨b',h1,h2⟩:=(i.mem x).1 l;rw[e]at h1 h2 g|-;exact d.prefixes ((a b).1 hb) h1 h2 g
 ·have f:cdL o b'≠[]:=by rw[<-c];exact hb
  rw[e]at c;exact d.cd_inj ((a b).1 hb) ((a b').1 f) c
 ·rw[e];unfold Ih;rw[By];exact d.le255 b
theorem bR{fs:List Fl}(e:Bu fs=0)(hA:Cy fs s):11<=s.length/\s.length<=30000:=by
 obtain⟨x,c,hn⟩:=Ia e;obtain⟨ps,N,a,_,i,es⟩:=hA.is;have m:=Hj (Ac fs) hn;have g:=D8 a.perm;have w:(D2 (lens (Ac fs)) N (Am (Ac fs) ps)).length<=6000*32:=by
  unfold D2;rw[Aai];have:=Q4 (lnB (lens (Ac fs))) (Bq (lens (Ac fs))) (Ao (lnB (lens (Ac fs))) (Af (lens (Ac fs))) (2*N)).1 N 32 (fun b=>by
   refine Aaf (Rp i.nodes b _ (by rw[i.len];exact zK _) (lnB (lens (Ac fs)) b) (fun j _ q=>(Aay q).1)) (m.short b)) (Am (Ac fs) ps)
  rw[g]at this;exact Aaf this (Abs _ hn)
 have v:=E0 a.perm;have d:Lib.bitLen ((Ac fs).length/8)<=10:=Lib.bitLen_le _ 10 (by omega) (by omega);have l:((Ac fs).length/8+1)*Lib.bitLen ((Ac fs).length/8)<=751*10:=Aa4 (by omega) d;have o:=K7 (Aw fs) (Ac fs).length;have h:=Nw (Aw fs).length (Ac fs).length hn;have y:(Ac fs).length/2^Ca (Aw fs).length (Ac fs).length<=(Ac fs).length:=Acd _ _;have k:=Dp fs;have t:(Aw fs).length*Ca (Aw fs).length (Ac fs).length<=40*12:=Aa4 (by omega) h;have u:=Jk fs (fun f p=>(c f p).1);have n:(Aj (lens (Ac fs))).length<=256:=Ex _ 256;have r:=Iv (lens (Ac fs)) (Aj (lens (Ac fs)));rw[es];unfold Kl Cr;simp only[zL,Aau,List.length_nil,Cp,A8];omega
structure Xk(s:Aeg)(fs:List Fl)(a1 a2 a3 rt:Nat)(cl:Aeg):Prop where
 len:11<=s.length/\s.length<=30000
 magic:s.take 6=[72,79,65,82,68,49]
 m:Cs s (6,false) 1=(fs.length,(7,false))
 n:Cs s (7,false) 2=((Ac fs).length,(9,false))
 root:Cs s (9,false) 2=(rt,(11,false))
 le:fs.length<=40/\(Ac fs).length<=6000/\rt<=(Ac fs).length
 names:Da s (11,false) fs.length=(fs.map (fun f=>f.1.data.toList),(a1,false))
 ends:Kb s (a1,false) fs.length (Ac fs).length=(Aw fs,(a2,false))
 lens:L3 s (a2,false)=(lens (Ac fs),(a3,false))
 codes: ∀o ok,Cx (Hm.lens (Ac fs)) o ok->ok=true
 col: ∀o ok hd,Cx (Hm.lens (Ac fs)) o ok->o.length=256->Gf (cdL o) hd->Ma s a3 (Ac fs).length hd o=some cl
 back:cl.length=(Ac fs).length/\Jh cl rt cl.length=some (Ac fs,rt)
theorem sP{fs:List Fl}(i:Bu fs=0)(hA:Cy fs s): ∃a1 a2 a3 root col,Xk s fs a1 a2 a3 root col:=by
 have k:=bR i hA;obtain⟨p,q,hn⟩:=Ia i;obtain⟨ps,N,a,_,L,es⟩:=hA.is;have g:=Hj (Ac fs) hn;have c: ∀b∈Am (Ac fs) ps,b∈Af (lens (Ac fs)):=fun b hb=>(N4 _ hn b).2 (M5 a.perm b hb);have d:=(I2 a.perm).2;have j:=D8 a.perm;obtain⟨tr,n⟩:=gx (D2 (lens (Ac fs)) N (Am (Ac fs) ps));obtain⟨u,r⟩: ∃x,x=Ah (Bb ps)++leBytes (crc (Cr fs ps tr)) 4:=⟨_,rfl⟩;have hs:s=[72,79,65,82,68,49]++(leBytes fs.length 1++(leBytes (Ac fs).length 2++(leBytes (Av ps) 2++(nameBytes fs++(Ah (Bo (Aw fs) (Ac fs).length)++(leBytes (Aj (lens (Ac fs))).length 2++(B4 (lens (Ac fs)) (Aj (lens (Ac fs)))++(Ah tr++u)))))))):=by
  rw[es,<-n,r,Kr];unfold Kl Cr;simp only[Aaj,Adf,Adk]
 have d0:s.drop 6=leBytes fs.length 1++(leBytes (Ac fs).length 2++(leBytes (Av ps) 2++(nameBytes fs++(Ah (Bo (Aw fs) (Ac fs).length)++(leBytes (Aj (lens (Ac fs))).length 2++(B4 (lens (Ac fs)) (Aj (lens (Ac fs)))++(Ah tr++u))))))):=by
  rw[hs];exact List.drop_left' rfl
 have l:s.take 6=[72,79,65,82,68,49]:=by rw[hs];exact List.take_left' rfl
 clear hs;obtain⟨C,d1,P⟩:=Lo (bad:=false) d0 (by omega) (by omega);obtain⟨D,w,Q⟩:=Lo (bad:=false) d1 P (by omega);obtain⟨E,y,R⟩:=Lo (bad:=false) w Q (by omega);obtain⟨a1,F,z,S⟩:=Yx y R (fun f M=>(q f M).1) fs.length (zK _);rw[Ab7,Aaw]at*;obtain⟨a2,v,A,T⟩:=sO hn (Rt fs) z S;rw[Dp]at v;obtain⟨a3,G,B,l6⟩:=vJ g.len (Tl g) A T;refine⟨a1,a2,a3,Av ps,Am (Ac fs) ps,k,l,C,D,E,⟨p,hn,d⟩,F,v,G,fun o ok h=>(Yt g h).1,fun o ok hd h O t=>?_,j,xW a⟩;have H:=g.colCd h O t c;have K:Cf (cdL o) hd (Am (Ac fs) ps)=tr:=by
  have e:=Rw g h;rw[n,e];rw[e]at t;exact(Oa g L c t).symm
 rw[<-j];refine H.col_is fun m p=>?_;rw[K]at p|-;exact⟨_,bP B l6 m p⟩
end Hm
section
open Go.RowKit
namespace Hm
def Ge(a:List Aeg)(t:Aeg)(es:Aeh)(i:Nat):List Fl:=(List.range a.length).map fun j=>(⟨(a.getD j []).toArray⟩,if j<i then⟨(part t (if j=0 then 0 else es.getD (j-1) 0) (es.getD j 0)).toArray⟩else⟨#[]⟩)
theorem Se(a:List Aeg)(t:Aeg)(es:Aeh)(i:Nat):(Ge a t es i).length=a.length:=by simp[Ge]
theorem vK(a:List Aeg)(t:Aeg)(es:Aeh):Ge a t es 0=a.map fun x=>(⟨x.toArray⟩,⟨#[]⟩):=by
 apply Aa1 (by simp[Ge]);intro j h1 h2;have:j<a.length:=by simpa using h2
 simp[Ge,List.getD_eq_getElem?_getD,this]
theorem xX(a:List Aeg)(t:Aeg)(es:Aeh)(i:Nat)(h:i<(Ge a t es i).length):(Ge a t es i).set i ((Ge a t es i)[i].1,⟨(part t (if i=0 then 0 else es.getD (i-1) 0) (es.getD i 0)).toArray⟩)=Ge a t es (i+1):=by
 apply Aa1 (by simp[Ge]);intro j h1 h2;rw[Ac5];simp only[Ge,Abu,Adp]
 by_cases c:i=j
 ·subst c;simp
 ·rw[if_neg c];congr 1
  by_cases d:j<i
  ·have b:j<i+1:=by omega
   rw[if_pos d,if_pos b]
  ·have b: ¬j<i+1:=by omega
   rw[if_neg d,if_neg b]
theorem vL(fs:List Fl):Ge (fs.map fun f=>f.1.data.toList) (Ac fs) (Aw fs) fs.length=fs:=by
 apply Aa1 (by simp[Ge]);intro i h1 h2;simp only[Ge,Abu,Adp];have hi:i<fs.length:=h2;rw[if_pos hi,Hr fs i hi];have e:(if i=0 then 0 else(Aw fs).getD (i-1) 0)=(Ac (fs.take i)).length:=by
  by_cases c:i=0
  ·rw[if_pos c,c];rfl
  ·rw[if_neg c,Hr fs (i-1) (by omega),show i-1+1=i from by omega]
 rw[e,V7 fs i hi];have a:(fs.map fun f=>f.1.data.toList).getD i []=fs[i].1.data.toList:=by
  rw[zG,Aah,zH hi];rfl
 rw[a]
theorem sQ(a:List Aeg)(t:Aeg)(es:Aeh)(i:Nat)(hn: ∀x∈a,x.length<=30000)(ht:t.length<=30000): ∀f∈Ge a t es i,f.1.size<=30000/\f.2.size<=30000:=by
 intro f c;unfold Ge at c;obtain⟨j,d,rfl⟩:=List.mem_map.1 c;have b:j<a.length:=by simpa using d
 refine⟨?_,?_⟩
 ·show(a.getD j []).toArray.size<=_;rw[Aaa,zG,zH b];exact hn _ (z6 _)
 ·show(if j<i then(⟨(part t _ _).toArray⟩:ByteArray)else⟨#[]⟩).size<=_;split
  ·show(part t _ _).toArray.size<=_;rw[Aaa];unfold part;rw[zS,Aas];omega
  ·exact zZ _
theorem dS{a k:Nat}(h:a+k<=s.length):(Cs s (a,false) k).2=(a+k,false)/\(Cs s (a,false) k).1<256^k:=by
 unfold Cs;rw[if_neg (by show¬_<a+k;omega)];refine⟨rfl,?_⟩;have:=Nx ((s.drop a).take k);rwa[zS,Aas,Ab8 (by omega)]at this
theorem xY(s:Aeg)(st:RS)(n:Nat)(h:st.1<=s.length):(Dv s st n).2.1<=s.length:=by
 unfold Dv;split
 ·exact Zi s st _ h
 ·exact Zi s st _ h
theorem xZ(s:Aeg)(st:RS)(m n:Nat)(h:st.1<=s.length):(Kb s st m n).2.1<=s.length/\(Kb s st m n).1.length<=m:=by
 refine⟨xY s st _ h,?_⟩;unfold Kb;dsimp only;split
 ·exact zZ _
 ·exact(Sc _ _ _ _).2
theorem yA(s:Aeg)(st:RS)(h:st.1<=s.length):(L3 s st).2.1<=s.length:=Xh s _ (Og s st 2 h) _
theorem Tz(s:Aeg)(st:RS): ∀i,∀x∈(Dt s st i).1,x<=255
 |0,x,a=>by
  rw[Dt]at a;rw[Ac8 a];omega
 |i+1,x,a=>by
  rw[Dt]at a;split at a
  ·exact Tz s st i x a
  ·rcases Ac3 a with h|h
   ·exact Tz s st i x h
   ·rw[h];have:=Xi s (Cs s (Dt s st i).2 1).2;omega
theorem Yy(hd rows o:List (List Bool)): ∀k b a,Kx hd rows o k=some (b,a)->b.length=k
 |0,b,a,h=>by
  rw[Kx]at h;injection h with h;injection h with h1 _;rw[<-h1];rfl
 |k+1,b,a,h=>by
  rw[Kx]at h;split at h
  ·cases h
  ·rename_i b0 nx0 c;split at h
   ·cases h
   ·injection h with h;injection h with h1 _;rw[<-h1,zL,Yy hd rows o k b0 nx0 c];rfl
theorem oW{fr n:Nat}{hd o:List (List Bool)}{t:Aeg}(h:Ma s fr n hd o=some t):t.length=n:=by
 unfold Ma at h;split at h
 ·cases h
 ·rename_i rows _ _ _;cases a:Kx hd rows o n with
  |none=>rw[a]at h;cases h
  |some x=>
   obtain⟨b,c⟩:=x;rw[a]at h;injection h with h;rw[<-h];exact Yy hd rows o n b c a
theorem Wr(s:Aeg)(st:RS): ∀i,∀x∈(Da s st i).1,x.length<=s.length
 |0,x,a=>by cases a
 |i+1,x,a=>by
  rw[Da]at a;rcases Ad7.1 a with h|h
  ·exact Wr s st i x h
  ·rw[List.mem_singleton.1 h];unfold El;split
   ·exact zZ _
   ·show((s.drop _).take _).length<=_;rw[zS,Aas];omega
end Hm
def Es(s:Aeg)(w w':World)(e:Ending):Prop:=Aee w w'/\ ∃(v:Value) (l:List Fl) (ok:Bool),e= .returned (.tuple #[v,.bool ok])/\w'.ownsRow w.heap.size 38 2 v l.length (Cb l)/\l.length<=40/\(∀f∈l,f.1.size<=30000/\f.2.size<=30000)/\ ∀fs,Bu fs=0->Cy fs s->ok=true/\l=fs
theorem Es.no{w w':World}(hk:Aee w w')(h: ∀fs,Bu fs=0-> ¬Cy fs s):Es s w w' (.returned (.tuple #[.slice none 0 0,.bool false])):=
 ⟨hk,_,[],false,rfl,Aco _ _ _ _,by simp,by simp,fun fs h1 h2=>absurd h2 (h fs h1)⟩
theorem lX(s:Aeg)(w:World)(hs:s.length<=140737488355328):
  Calls prog 32 #[.string ⟨s.toArray⟩] w fun e w'=>Es s w w' e:=by
 obtain⟨i0,hi,cG,cH,cI⟩:=Aa6 Rr;have HA:Hid (∀fs,Bu fs=0->Cy fs s-> ∃a1 a2 a3 root col,Xk s fs a1 a2 a3 root col):=fun fs h1 h2=>sP h1 h2;obtain⟨S,hS⟩:=gx (⟨s.toArray⟩:ByteArray);have di:S.size=s.length:=by rw[hS];show s.toArray.size=_;simp
 have HS:=hZ hS;rw[<-hS];clear hS
 go_enter func32,ntmps32
 by_cases df:s.length<11
 ·have hd:decide ((s.length:Int)<11)=true:=zJ (by omega);go_wp2_with fail;go_ret2;exact Es.no (Aa.refl _ _) (fun fs h1 h2=>by obtain⟨_,_,_,_,_,R⟩:=HA.o fs h1 h2;have:=R.len;omega)
 ·have hd:decide ((s.length:Int)<11)=false:=zM (by omega);have hX:((S.extract 0 6).toList==[72,79,65,82,68,49])=decide (s.take 6=[72,79,65,82,68,49]):=by
   have e:(S.extract 0 6).toList=s.take 6:=by
    rw[Aa2,HS.o,Acu,Ac1,Ab5];simp
   rw[e]
   by_cases c:s.take 6=[72,79,65,82,68,49]
   ·rw[c,zJ rfl];rfl
   ·rw[zM c,Aat];exact c
  by_cases hm:s.take 6=[72,79,65,82,68,49]
  ·rw[zJ hm]at hX
   by_cases dg:30000<s.length
   ·have bK:decide ((30000:Int)<(s.length:Int))=true:=zJ (by omega);clear hm;go_wp2_with fail;go_ret2;exact Es.no (Aa.refl _ _) (fun fs h1 h2=>by obtain⟨_,_,_,_,_,R⟩:=HA.o fs h1 h2;have:=R.len;omega)
   ·have bK:decide ((30000:Int)<(s.length:Int))=false:=zM (by omega);clear hm;go_wp2_with fail;clear hX hd bK;have g0:C6 (w.alloc (.cells #[.string S,I 6,.bool false] 145)) w.heap.size s (6,false):=by
     unfold C6;rw[<-HS.o];exact zY w _
    have bO:Aee w (w.alloc (.cells #[.string S,I 6,.bool false] 145)):=(Aa.refl _ _).alloc _;generalize w.alloc (.cells #[.string S,I 6,.bool false] 145)=W0 at*;obtain⟨p,hp⟩:=gx w.heap.size;have HP:=hZ hp;rw[<-hp]at g0|-;clear hp;have bl:=Jg p 1 s (6,false) W0 g0 (by omega) (by show 6<=_;omega) (by omega);obtain⟨q1,q2⟩:=dS (s:=s) (a:=6) (k:=1) (by omega);obtain⟨m,hm⟩:=gx ((Cs s (6,false) 1).1);rw[q1,<-hm]at bl;rw[<-hm]at q2;have b8:=hZ hm;clear hm q1 g0;refine bl.mono ?_;rintro e W1 ⟨rfl,g1,bP⟩;have aN:Aee w W1:=bO.trans bP (fun j l e=>by have:=HP.o;omega);clear bl bO bP;have bm:=Jg p 2 s (7,false) W1 g1 (by omega) (by show 7<=_;omega) (by omega);obtain⟨q1,q3⟩:=dS (s:=s) (a:=7) (k:=2) (by omega);obtain⟨n,hn⟩:=gx ((Cs s (7,false) 2).1);rw[q1,<-hn]at bm;rw[<-hn]at q3;have b9:=hZ hn;clear hn q1 g1;go_wp2_with fail;refine bm.mono ?_;rintro e W2 ⟨rfl,g2,bQ⟩;have aO:Aee w W2:=aN.trans bQ (fun j l e=>by have:=HP.o;omega);clear bm aN bQ;have bn:=Jg p 2 s (9,false) W2 g2 (by omega) (by show 9<=_;omega) (by omega);obtain⟨q1,q4⟩:=dS (s:=s) (a:=9) (k:=2) (by omega);obtain⟨rt,aJ⟩: ∃n,n=(Cs s (9,false) 2).1:=⟨_,rfl⟩;rw[q1,<-aJ]at bn;rw[<-aJ]at q4;have bA:=hZ aJ;clear aJ q1 g2;go_wp2_with fail;refine bn.mono ?_;rintro e W3 ⟨rfl,g3,bR⟩;have aP:Aee w W3:=aO.trans bR (fun j l e=>by have:=HP.o;omega);clear bn aO bR;have al:Hid (∀fs,Bu fs=0->Cy fs s-> ∃a1 a2 a3 col,Xk s fs a1 a2 a3 rt col/\m=fs.length/\n=(Ac fs).length):=fun fs h1 h2=>by
     obtain⟨a1,a2,a3,r,col,R⟩:=HA.o fs h1 h2;have G:=b8.o;have q:=b9.o;have B:=bA.o;rw[R.m]at G;rw[R.n]at q;rw[R.root]at B;simp only at G q B;subst B;exact⟨a1,a2,a3,col,R,G,q⟩
    clear HA b8 b9 bA;have dt:m<256:=q2;have du:n<65536:=q3;have dv:rt<65536:=q4;clear q2 q3 q4;have ab:=hZ (aI aP g3);clear aP g3
    by_cases dq:40<m
    ·have d1:decide ((40:Int)<(m:Int))=true:=zJ (by omega);go_wp2_with fail;go_ret2;exact Es.no ab.o.1 (fun fs h1 h2=>by obtain⟨_,_,_,_,R,e,_⟩:=al.o fs h1 h2;have:=R.le;omega)
    ·have d1:decide ((40:Int)<(m:Int))=false:=zM (by omega)
     by_cases dr:6000<n
     ·have d2:decide ((6000:Int)<(n:Int))=true:=zJ (by omega);go_wp2_with fail;go_ret2;exact Es.no ab.o.1 (fun fs h1 h2=>by obtain⟨_,_,_,_,R,e,q⟩:=al.o fs h1 h2;have:=R.le;omega)
     ·have d2:decide ((6000:Int)<(n:Int))=false:=zM (by omega)
      by_cases dw:n<rt
      ·have d3:=(dT n rt).2;go_wp2_with fail;go_ret2;exact Es.no ab.o.1 (fun fs h1 h2=>by obtain⟨_,_,_,_,R,e,q⟩:=al.o fs h1 h2;have:=R.le;omega)
      ·have d3:=(dF n rt).2;go_wp2_with fail;clear d1 d2 d3;have cB:p<W3.heap.size:=Aac ab.o.2
       go_loopw[8,9] (fun vo vi wr=> ∃i:Nat,i<=m/\vi=I i/\wr.ownsRow (p+1) 38 2 vo i (Cb ((Da s (11,false) i).1.map fun x=>(⟨x.toArray⟩,⟨#[]⟩)))/\Hid (C6 wr p s (Da s (11,false) i).2)/\Hid (Aee w wr)/\p+1<=wr.heap.size) (fun _ vi _=>m-(intOf vi).toNat)
       case atStart=>exact⟨0,zZ _,rfl,Aco _ _ _ _,ab.o.2,ab.o.1,cB⟩
       case round=>
        obtain⟨i,dl,rfl,O,HR,HK,cC⟩:=hrel;obtain⟨ao,co,hv,_⟩:=An O;subst hv;have au:=fP s (11,false) (by show 11<=_;omega) i
        by_cases dp:i<m
        ·obtain⟨aQ,bX⟩:=dT i m;have bg:=Jg p 1 s (Da s (11,false) i).2 wr HR.o (by omega) au (by omega);have hx:=Xi s (Da s (11,false) i).2;have H:=Og s (Da s (11,false) i).2 1 au;have aX:Hid (Da s (11,false) (i+1)=((Da s (11,false) i).1++[(El s (Cs s (Da s (11,false) i).2 1).2 (Cs s (Da s (11,false) i).2 1).1).1],(El s (Cs s (Da s (11,false) i).2 1).2 (Cs s (Da s (11,false) i).2 1).1).2)):=rfl;have HO:=hZ O;generalize Da s (11,false) i=NI at*;obtain⟨b,st⟩:=NI;generalize Cs s st 1=NU at*;obtain⟨x,cf⟩:=NU;try dsimp only at bg
         clear O;go_wp2_with fail;refine bg.mono ?_;rintro e W4 ⟨rfl,g4,K⟩;have bh:=fI p x s cf W4 g4 (by omega) H (by omega);have aY:Hid (W4.ownsRow (p+1) 38 2 (.slice ao i co) i (Cb (b.map fun x=>(⟨x.toArray⟩,⟨#[]⟩)))):=K.owns HO.o (fun j l e=>by have:=(HO.o.lt j l).1;omega);have aV:Hid (Aee w W4/\p+1<=W4.heap.size):=⟨HK.o.trans K (fun j l e=>by have:=HP.o;omega),Aaf cC K.size⟩;clear bg g4 K HO HR HK;try dsimp only at aX
         generalize El s cf x=PA at*;obtain⟨y,cg⟩:=PA;try dsimp only at bh
         go_wp2_with fail;refine bh.mono ?_;rintro e D ⟨rfl,g5,C⟩;have bq:=C.owns aY.o (fun j l e=>by have:=(aY.o.lt j l).1;omega);have a6:Hid (Aee w D/\p+1<=D.heap.size/\C6 D p s cg):=⟨aV.o.1.trans C (fun j l e=>by have:=HP.o;omega),Aaf aV.o.2 C.size,g5⟩;obtain⟨Y,hY⟩:=gx (⟨y.toArray⟩:ByteArray);have HY:=hZ hY;rw[<-hY];clear hY bh g5 C aY aV
         go_wp2_with(at_builtin;refine Ay _ rfl (.tmp 61) (.tmp 64) 22 rfl (p+1) 38 i0 (.agg #[.string ⟨#[]⟩,.string ⟨#[]⟩]) 2 32 underlying22 hi cG cH cI rfl (by decide) _ _ _ rfl (bq.alloc _) (J D.heap.size 0) 1 1 [.string Y,.string ⟨#[]⟩] rfl rfl ?c1 ?c2 ?c3 ?c4 ?c5 ?_)
         case c1=>
          intro j u l;rw[Addr.add_lit,Aao];exact(zP _ _ j _ _ _ (zY D _)).trans (by rw[Aag];exact l)
         case c2=>intro u hu;simp at hu;rcases hu with rfl|rfl<;>rfl
         case c3=>unfold maxLen;omega
         case c4=>omega
         case c5=>have:=a6.o.2.1;simp only[World.alloc,Array.size_push];omega
         intro v6 w6 bZ bM c9;have U:Aa (fun j=>p+1<=j) D w6:=((Aa.refl _ D).alloc _).grown bM (fun j l=> .inr (bq.lt j l).1);have aW:Hid (Aee w w6/\C6 w6 p s cg/\p+1<=w6.heap.size):=⟨a6.o.1.trans U (fun j l e=>by have:=HP.o;omega),U.row a6.o.2.2 (by omega),Aaf a6.o.2.1 U.size⟩;have br:w6.ownsRow (p+1) 38 2 v6 (i+1) (Cb ((b++[y]).map fun x=>(⟨x.toArray⟩,⟨#[]⟩))):=by
          rw[Abt,Pj,Abg,Adv,<-HY.o];exact bZ
         obtain⟨a7,c7,cF,_⟩:=An br;subst cF;have cq:Hid _:=br;clear bZ bM c9 br U bq;go_wp2_with fail;go_roundw
         case rel=>exact⟨i+1,by omega,by go_num,by rw[aX.o];exact cq.o,by rw[aX.o];exact aW.o.2.1,aW.o.1,aW.o.2.2⟩
         case measure=>simp[intOf];omega
        ·obtain⟨aQ,bX⟩:=dF i m;have av:m=i:=by omega
         subst av;have aE:=vF p m n s (Da s (11,false) m).2 wr HR.o (by omega) (by omega) au (by omega);obtain⟨H,bV⟩:=xZ s (Da s (11,false) m).2 m n au;have bD:=hZ (Wr s (11,false) m);have bY:=Ur s (11,false) m;have HO:=hZ O;have b5:Hid (∀fs,Bu fs=0->Cy fs s-> ∃a2 a3 col,Xk s fs (Da s (11,false) m).2.1 a2 a3 rt col/\m=fs.length/\n=(Ac fs).length/\Da s (11,false) m=(fs.map (fun f=>f.1.data.toList),((Da s (11,false) m).2.1,false))):=fun fs h1 h2=>by
          obtain⟨a1,a2,a3,col,R,G,q⟩:=al.o fs h1 h2;have B:=R.names;rw[<-G]at B;rw[B];exact⟨a2,a3,col,R,G,q,rfl⟩
         clear O aQ al;generalize Da s (11,false) m=NI at*;obtain⟨b,a1,Z⟩:=NI;try dsimp only at aE
         try dsimp only at bY
         try dsimp only at au
         have b6:Hid (∀fs,Bu fs=0->Cy fs s-> ∃a3 col,Xk s fs a1 (Kb s (a1,Z) m n).2.1 a3 rt col/\m=fs.length/\n=(Ac fs).length/\b=fs.map (fun f=>f.1.data.toList)/\Kb s (a1,Z) m n=(Aw fs,((Kb s (a1,Z) m n).2.1,false))):=fun fs h1 h2=>by
          obtain⟨a2,a3,col,R,G,q,B⟩:=b5.o fs h1 h2;injection B with B e4;injection e4 with _ e5;try dsimp only at R
          subst e5;have e6:=R.ends;rw[<-G,<-q]at e6;rw[e6];exact⟨a3,col,R,G,q,B,rfl⟩
         clear b5;try dsimp only at HO
         try dsimp only at bD
         generalize Kb s (a1,Z) m n=EN at*;obtain⟨es,a2,d⟩:=EN;try dsimp only at aE
         try dsimp only at H
         try dsimp only at bV
         go_wp2_with fail;refine aE.mono ?_;rintro e W4 ⟨v4,rfl,bp,g4,K⟩;obtain⟨ae,ce,cD,_⟩:=An bp;subst cD;have H4:Hid (W4.ownsRow (p+1) 38 2 (.slice ao m co) m (Cb (b.map fun x=>(⟨x.toArray⟩,⟨#[]⟩)))/\W4.ownsRow wr.heap.size 3 1 (.slice ae es.length ce) es.length (Ad es)/\Aee w W4):=⟨K.owns HO.o (fun j l e=>by have:=(HO.o.lt j l).1;omega),bp,HK.o.trans K (fun j l e=>by have:=HP.o;omega)⟩;have a4:Hid (∀k,(Value.slice ao m co).ownBlock=some k->p<k/\k<wr.heap.size):=fun k hk=>by have:=HO.o.lt k hk;omega
         have ds:p<wr.heap.size:=by omega
         have aG:=lV p s (a2,d) W4 g4 H (by omega);have aM:=yA s (a2,d) H;have aA:Hid ((L3 s (a2,d)).1.length=256/\ ∀x∈(L3 s (a2,d)).1,x<=255):=⟨Mk _ _ _,Tz _ _ _⟩;have ai:Hid (∀fs,Bu fs=0->Cy fs s-> ∃col,Xk s fs a1 a2 (L3 s (a2,d)).2.1 rt col/\m=fs.length/\n=(Ac fs).length/\b=fs.map (fun f=>f.1.data.toList)/\es=Aw fs/\L3 s (a2,d)=(lens (Ac fs),((L3 s (a2,d)).2.1,false))):=fun fs h1 h2=>by
          obtain⟨a3,col,R,G,q,B,e4⟩:=b6.o fs h1 h2;injection e4 with e4 e5;injection e5 with _ e6;try dsimp only at R
          subst e6;have e7:=R.lens;rw[e7];exact⟨col,R,G,q,B,e4,rfl⟩
         clear b6 aE bp g4 K HO HR HK;generalize L3 s (a2,d)=LN at*;obtain⟨L,a3,aa⟩:=LN;try dsimp only at aG
         try dsimp only at aM
         try dsimp only at aA
         have bi:=fun W=>Wk L W aA.o.1 (fun x hx=>by have:=aA.o.2 x hx;omega);obtain⟨LA,aD⟩: ∃A,A=(Ad L).toArray:=⟨_,rfl⟩;have be:LA.size=256:=by rw[aD,Ba,aA.o.1]
         have cu:LA.all (·.oneCell')=true:=by rw[aD];exact Ew _
         rw[<-aD]at aG bi;clear aD;generalize wr=WR at*;go_wp2_with fail;refine aG.mono ?_;rintro e D ⟨rfl,g5,C⟩;have H5:Hid (D.ownsRow (p+1) 38 2 (.slice ao m co) m (Cb (b.map fun x=>(⟨x.toArray⟩,⟨#[]⟩)))/\D.ownsRow WR.heap.size 3 1 (.slice ae es.length ce) es.length (Ad es)/\Aee w D/\C6 D p s (a3,aa)):=⟨C.owns H4.o.1 (fun j l e=>by have:=a4.o j l;omega),C.owns H4.o.2.1 (fun j l e=>by have:=(H4.o.2.1.lt j l).1;omega),H4.o.2.2.trans C (fun j l e=>by have:=HP.o;omega),g5⟩;clear aG g5 C H4
         go_wp2_with(first
          |(refine wpList_store_row _ rfl 94 _ _ rfl D.heap.size 94 Tryz.zeroCells94 LA rfl rfl (zY D _) (by rw[be];exact D7) (by rw[be,Wi,Ba,zV]) cu ?_;intro w6 cb U)
          |(refine Aa0 rfl 94 _ rfl D.heap.size rfl 94 LA (0,0) _ cb underlying94 rfl (by rw[be];exact D7) ?_))
         refine(bi _).mono ?_;rintro e W7 ⟨⟨o,ok,bs,rfl,bJ⟩,bS⟩;have M:Aee D W7:=(((Aa.refl _ D).alloc _).trans U (fun j h1 h2=>by omega)).tr bS;have H7:Hid (W7.ownsRow (p+1) 38 2 (.slice ao m co) m (Cb (b.map fun x=>(⟨x.toArray⟩,⟨#[]⟩)))/\W7.ownsRow WR.heap.size 3 1 (.slice ae es.length ce) es.length (Ad es)/\Aee w W7/\C6 W7 p s (a3,aa)):=⟨M.owns H5.o.1 (fun _ _ h=>h),M.owns H5.o.2.1 (fun _ _ h=>h),H5.o.2.2.1.tr M,M.row H5.o.2.2.2 id⟩;obtain⟨OA,ar⟩: ∃A,A=(Ar o).toArray:=⟨_,rfl⟩;have bf:OA.size=256:=by rw[ar,Aaa,Bp,bs]
         have cv:OA.all (·.oneCell')=true:=by rw[ar];exact L0 _
         have ac:=hZ (aI ar (aI bs bJ));rw[<-ar];clear ar bs bJ bS U cb M bi H5;generalize D.heap.size=bL at*;go_upto_region 18 with(first
          |(refine wpList_store_row _ rfl 113 _ _ rfl W7.heap.size 113 Tryz.zeroCells113 OA rfl rfl (zY W7 _) (by rw[bf];exact C9) (by rw[bf,Rv,Aaa,Bp,zV]) cv ?_;intro w8 cc bT))
         have N:Aee W7 w8:=((Aa.refl _ W7).alloc _).trans bT (fun j h1 h2=>by omega);have H8:Hid (w8.ownsRow (p+1) 38 2 (.slice ao m co) m (Cb (b.map fun x=>(⟨x.toArray⟩,⟨#[]⟩)))/\w8.ownsRow WR.heap.size 3 1 (.slice ae es.length ce) es.length (Ad es)/\Aee w w8/\C6 w8 p s (a3,aa)):=⟨N.owns H7.o.1 (fun _ _ h=>h),N.owns H7.o.2.1 (fun _ _ h=>h),H7.o.2.2.1.tr N,N.row H7.o.2.2.2 id⟩;have P:=H8.o.2.2.2;have c2:=cO 2 P;clear P bT N H7;cases aa with
         |true=>
          go_wp2_with fail;go_ret2;exact Es.no H8.o.2.2.1 (fun fs h1 h2=>by
           obtain⟨_,_,_,_,_,_,e⟩:=ai.o fs h1 h2;injection e with _ e;injection e with _ e;cases e)
         |false=>
          cases ok with
          |false=>
           go_wp2_with fail;go_ret2;exact Es.no H8.o.2.2.1 (fun fs h1 h2=>by
            obtain⟨_,R,_,_,_,_,e⟩:=ai.o fs h1 h2;injection e with e _;have h3:=ac.o.2.2;rw[e]at h3;have:=R.codes _ _ h3;cases this)
          |true=>
           by_cases hl:es.length=m
           ·have bW:decide ((es.length:Int)=(m:Int))=true:=zJ (by omega);have Q:=oR p n a3 o s w8 H8.o.2.2.2 ac.o.2.1 ac.o.2.2.short (by omega) aM (by omega);rw[<-ac.o.1]at Q
            go_wp2_with(first|(refine Aa0 rfl 113 _ rfl W7.heap.size rfl 113 OA (0,0) _ cc underlying113 rfl (by rw[bf];exact C9) ?_))
            refine Q.mono ?_;rintro e W9 ⟨hd,a9,bN,aF,ca⟩;have H9:Hid (W9.ownsRow (p+1) 38 2 (.slice ao m co) m (Cb (b.map fun x=>(⟨x.toArray⟩,⟨#[]⟩)))/\W9.ownsRow WR.heap.size 3 1 (.slice ae es.length ce) es.length (Ad es)/\Aee w W9):=⟨aF.owns H8.o.1 (fun j l e=>by have:=a4.o j l;omega),aF.owns H8.o.2.1 (fun j l e=>by have:=(H8.o.2.1.lt j l).1;omega),H8.o.2.2.1.trans aF (fun j l e=>by have:=HP.o;omega)⟩;have aT:Hid (∀fs,Bu fs=0->Cy fs s-> ∃col,Ma s a3 n hd o=some col/\Jh col rt col.length=some (Ac fs,rt)/\m=fs.length/\n=(Ac fs).length/\b=fs.map (fun f=>f.1.data.toList)/\es=Aw fs):=fun fs h1 h2=>by
             obtain⟨col,R,G,q,B,e4,e5⟩:=ai.o fs h1 h2;injection e5 with e5 _;have h3:=ac.o.2.2;rw[e5]at h3;have h4:=R.col o true hd h3 ac.o.2.1 bN;rw[<-q]at h4;exact⟨col,h4,R.back.2,G,q,B,e4⟩
            clear Q aF H8 ai bN cc c2 bW;rcases ca with⟨hno,rfl,g9⟩|⟨t,Q,rfl,g9⟩
            ·have P:W9.heap[p]?=some (.cells #[.string ⟨s.toArray⟩,I a9,.bool true] 145 (0,0)):=g9;have c2:=cO 2 P;have cp:=hZ hno;clear P g9 hno;go_wp2_with fail;go_ret2;exact Es.no H9.o.2.2 (fun fs h1 h2=>by
              obtain⟨_,e,_⟩:=aT.o fs h1 h2;rw[cp.o]at e;cases e)
            ·have P:W9.heap[p]?=some (.cells #[.string ⟨s.toArray⟩,I a9,.bool false] 145 (0,0)):=g9;have c2:=cO 2 P;have dx:=oW Q;have b4:=hZ Q;have v:=oU t rt W9 (by omega) (by omega);have ah:=Xj t rt (by omega) t.length;have a5:Hid (∀fs,Bu fs=0->Cy fs s->Jh t rt t.length=some (Ac fs,rt)/\m=fs.length/\n=(Ac fs).length/\b=fs.map (fun f=>f.1.data.toList)/\es=Aw fs):=fun fs h1 h2=>by
              obtain⟨col,e,q,B⟩:=aT.o fs h1 h2;rw[b4.o]at e;injection e with e;subst e;exact⟨q,B⟩
             obtain⟨T,hT⟩:=gx (⟨t.toArray⟩:ByteArray);unfold Sv at v;rw[<-hT]at v|-;clear P g9 Q hT b4 aT;cases V:Jh t rt t.length with
             |none=>
              rw[V]at v;have ak:=hZ V;try dsimp only at v
              clear V ah;go_wp2_with fail;refine v.mono ?_;rintro e an ⟨rfl,z⟩;have bC:=hZ (H9.o.2.2.tr z);clear v;go_wp2_with fail;go_ret2;exact Es.no bC.o (fun fs h1 h2=>by
               have e:=(a5.o fs h1 h2).1;rw[ak.o]at e;cases e)
             |some tr=>
              obtain⟨F,cd⟩:=tr;rw[V]at v;have d4:=(ah F cd V).2;have ak:=hZ V;try dsimp only at v
              clear V ah;go_wp2_with fail;refine v.mono ?_;rintro e an ⟨rfl,z⟩;have ag:Hid (an.ownsRow (p+1) 38 2 (.slice ao m co) m (Cb (b.map fun x=>(⟨x.toArray⟩,⟨#[]⟩)))/\an.ownsRow WR.heap.size 3 1 (.slice ae es.length ce) es.length (Ad es)/\Aee w an):=⟨z.owns H9.o.1 (fun _ _ h=>h),z.owns H9.o.2.1 (fun _ _ h=>h),H9.o.2.2.tr z⟩;clear v z H9 c2
              by_cases aH:cd=rt
              ·have ay:=zJ aH;rw[ay];clear ay;obtain⟨X,hX⟩:=gx (⟨F.toArray⟩:ByteArray);have dj:X.size=n:=by rw[hX];show F.toArray.size=_;rw[Aaa];omega
               have HX:=hZ hX;have b7:Hid (∀fs,Bu fs=0->Cy fs s->F=Ac fs/\m=fs.length/\n=(Ac fs).length/\b=fs.map (fun f=>f.1.data.toList)/\es=Aw fs):=fun fs h1 h2=>by
                obtain⟨e,q⟩:=a5.o fs h1 h2;rw[ak.o]at e;injection e with e;injection e with e _;exact⟨e,q⟩
               have ba:Hid (∀fs,Bu fs=0->Cy fs s->Vz es n):=fun fs h1 h2=>by
                obtain⟨_,_,B,_,e5⟩:=b7.o fs h1 h2;rw[B,e5];exact Rt fs
               rw[<-hX];clear hX a5 ak aH;have bz:Hid (an.ownsRow (p+1) 38 2 (.slice ao m co) m (Cb (Ge b F es 0))):=by
                rw[vK];exact ag.o.1
               go_wp2_with fail
               go_loopw[17,18] (fun vf vi wq=> ∃i:Nat,i<=m/\vi=I i/\vf=I ((if i=0 then 0 else es.getD (i-1) 0:Nat):Int)/\(if i=0 then 0 else es.getD (i-1) 0)<=n/\wq.ownsRow (p+1) 38 2 (.slice ao m co) m (Cb (Ge b F es i))/\wq.ownsRow WR.heap.size 3 1 (.slice ae es.length ce) es.length (Ad es)/\Hid (Aee w wq)) (fun _ vi _=>m-(intOf vi).toNat)
               case atStart=>exact⟨0,zZ _,rfl,rfl,zZ _,bz.o,ag.o.2.1,ag.o.2.2⟩
               case round=>
                obtain⟨i,cX,rfl,rfl,cx,ho,ax,a8⟩:=hrel;clear bz ag;obtain⟨fr,bk⟩:=gx (if i=0 then 0 else es.getD (i-1) 0);rw[<-bk]at cx|-;have aU:=hZ bk;clear bk
                by_cases dm:i<m
                ·obtain⟨bU,c8⟩:=dT i m;have dn:(i:Int)<(es.length:Int):=by omega
                 obtain⟨ge,cy⟩: ∃g,ae=some (J g 0):=by
                  rcases ax.2 with⟨e,h0⟩|⟨g,cap,cur,e,_⟩
                  ·omega
                  ·exact⟨g,(Value.slice.inj e).1⟩
                 obtain⟨gf,cz⟩: ∃g,ao=some (J g 0):=by
                  rcases ho.2 with⟨e,h0⟩|⟨g,cap,cur,e,_⟩
                  ·omega
                  ·exact⟨g,(Value.slice.inj e).1⟩
                 subst cy;subst cz;obtain⟨x,hx⟩:=gx (es.getD i 0);have cE:wr.cell? (J ge i)=some (I x):=by
                  rw[ax.cellAt i (by omega),hx];simp[Ad,List.getD_eq_getElem?_getD,List.getElem?_eq_getElem (show i<es.length by omega)]
                 have am:=hZ hx;have bE:=hZ ax;have aZ:=hZ ho;clear hx ax ho
                 by_cases d0:x<fr
                 ·have d1:=(dT x fr).2;go_wp2_with fail;go_ret2;exact Es.no a8.o (fun fs h1 h2=>by
                   have hu:=ba.o fs h1 h2;have h3:=am.o;have h4:=aU.o
                   by_cases c:i=0
                   ·rw[if_pos c]at h4;omega
                   ·rw[if_neg c]at h4;have:=hu.asc (i-1) i (by omega) (by omega);omega)
                 ·have d1:=(dF x fr).2
                  by_cases d5:n<x
                  ·have d2:=(dT n x).2;go_wp2_with fail;go_ret2;exact Es.no a8.o (fun fs h1 h2=>by
                    have hu:=(ba.o fs h1 h2).le i (by omega);have h3:=am.o;omega)
                  ·have d2:=(dF n x).2;have bj:i<(Ge b F es i).length:=by rw[Se];omega
                   have cO:wr.cell? (J gf (i*2+1))=some (.string (Ge b F es i)[i].2):=by
                    rw[aZ.o.cellAt _ (by omega)];exact Nj _ i bj
                   have fO:wr.frozen? (J gf (i*2+1))=false:=aZ.o.frozenAt _;obtain⟨E,hE⟩:=gx (X.extract fr x);have HE:Hid (E=(⟨(Hm.part F fr x).toArray⟩:ByteArray)):=by
                    show _=_;rw[hE,HX.o];apply Acj;rw[Acu];apply Abr;rw[Ac1,Ab5];rfl
                   have dh:=hE.symm;have dk:(fr:Int)<=(x:Int):=by omega
                   have dz:(x:Int)<=(n:Int):=by omega
                   clear hE;have bF:Hid ((Ge b F es i).set i ((Ge b F es i)[i].1,E)=Ge b F es (i+1)):=by
                    show _=_;rw[HE.o,am.o,aU.o,xX _ _ _ _ bj]
                   have c0:gf≠ge:=by
                    have h1:=a4.o gf rfl;have h2:=(bE.o.lt ge rfl).1;omega
                   have c6:w.heap.size<=gf:=by
                    have h1:=a4.o gf rfl;have h2:=HP.o;omega
                   go_wp2_with fail;go_roundw
                   case rel=>
                    refine⟨i+1,by omega,by go_num,?_,?_,?_,?_,?_⟩
                    ·rw[iN,Acn,am.o]
                    ·rw[iN,Acn,<-am.o];omega
                    ·have h1:=(aZ.o.stored (i*2+1) (.string E)).1;rw[Yl _ _ i bj,bF.o]at h1;exact h1
                    ·exact ownsRow_setCell_other bE.o (fun e=>c0 (Aak e).symm) _
                    ·exact a8.o.setCell (p:=(J gf (i*2+1))) (.inl c6) _
                   case measure=>simp[intOf];omega
                ·obtain⟨bU,c8⟩:=dF i m;have av:i=m:=by omega
                 have HF:Hid (wr.ownsRow w.heap.size 38 2 (.slice ao m co) (Ge b F es m).length (Cb (Ge b F es m))/\(Ge b F es m).length<=40/\(∀f∈Ge b F es m,f.1.size<=30000/\f.2.size<=30000)/\ ∀fs,Bu fs=0->Cy fs s->fr=n/\Ge b F es m=fs):=by
                  rw[av]at ho;refine⟨?_,by rw[Se];omega,sQ _ _ _ _ (fun x hx=>by have:=bD.o x hx;omega) (by omega),fun fs h1 h2=>?_⟩
                  ·rw[Se,bY];exact Fs ho (fun k hk=>by have:=(ho.lt k hk).1;have:=HP.o;omega)
                  ·have hu:=(ba.o fs h1 h2).last;obtain⟨G,q,B,e4,e5⟩:=b7.o fs h1 h2;refine⟨?_,?_⟩
                   ·rw[aU.o,av,<-hl];exact hu
                   ·rw[G,q,e4,e5];exact vL fs
                 clear ho ax av;go_wp2_with fail;go_ret2;exact⟨a8.o,.slice ao m co,Ge b F es m,((fr:Int)==(n:Int)),rfl,HF.o.1,HF.o.2.1,HF.o.2.2.1,fun fs h1 h2=>⟨by rw[beq_iff_eq];have:=(HF.o.2.2.2 fs h1 h2).1;omega,(HF.o.2.2.2 fs h1 h2).2⟩⟩
              ·have ay:=zM aH;rw[ay];clear ay;go_wp2_with fail;go_ret2;exact Es.no ag.o.2.2 (fun fs h1 h2=>by
                have e:=(a5.o fs h1 h2).1;rw[ak.o]at e;injection e with e;injection e with _ e;exact aH e)
           ·have bW:decide ((es.length:Int)=(m:Int))=false:=zM (by omega);have bU: ¬(es.length:Int)=(m:Int):=by omega
            go_wp2_with fail;go_ret2;exact Es.no H8.o.2.2.1 (fun fs h1 h2=>by
             obtain⟨_,_,G,_,_,e4,_⟩:=ai.o fs h1 h2;exact hl (by rw[e4,Dp,G]))
  ·rw[zM hm]at hX;have HM:=hZ hm;clear hm;go_wp2_with fail;go_ret2;exact Es.no (Aa.refl _ _) (fun fs h1 h2=>by obtain⟨_,_,_,_,_,R⟩:=HA.o fs h1 h2;exact HM.o R.magic)
theorem oX(s:Aeg)(w:World)(hs:s.length<=140737488355328):
  Calls prog 13 #[.string ⟨s.toArray⟩] w fun e w'=>Aee w w'/\ ∃(v:Value) (l:List Fl) (ok:Bool),e= .returned (.tuple #[v,.bool ok])/\w'.ownsRow w.heap.size 38 2 v l.length (Cb l)/\(ok=true->Bu l=0/\Cy l s)/\ ∀fs,Bu fs=0->Cy fs s->ok=true/\l=fs:=by
 have a:=lX s w hs;obtain⟨S,A⟩:=gx (⟨s.toArray⟩:ByteArray);have HS:=hZ A;rw[<-A]at a|-;clear A
 go_enter func13,ntmps13
 go_wp2_with fail;refine a.mono ?_;rintro e L ⟨p,v,l,ok,rfl,d,H,u,n⟩;obtain⟨z,c,K,x,C⟩:=Po d;subst K;clear a;have g:=hZ (aI p (aI d n));have r:=Kt z c l L x (by omega) (fun f x=>by have:=u f x;omega);clear p d n x C u;cases ok with
 |false=>
  go_wp2_with fail;go_ret2;refine⟨g.o.1,_,[],false,rfl,Aco _ _ _ _,by simp,fun fs h1 h2=>?_⟩;have:=(g.o.2.2 fs h1 h2).1;cases this
 |true=>
  go_wp2_with fail;refine r.mono ?_;rintro e w2 ⟨D,b⟩;have i:Hid (Aee w w2/\w2.ownsRow w.heap.size 38 2 (.slice z l.length c) l.length (Cb l)/\ ∀fs,Bu fs=0->Cy fs s->l=fs):=⟨g.o.1.tr b,b.owns g.o.2.1 (fun _ _ h=>h),fun fs h1 h2=>(g.o.2.2 fs h1 h2).2⟩;clear r b g;rcases D with⟨q,rfl⟩|⟨m,t,j,rfl⟩
  ·have M:((Bu l)==(0:Int))=false:=by rw[Aat];exact q
   have y:=hZ q;generalize k:Bu l=cc at*;go_wp2_with fail;go_ret2;refine⟨i.o.1,_,l,false,rfl,i.o.2.1,by simp,fun fs h1 h2=>?_⟩;have:=i.o.2.2 fs h1 h2;subst this;rw[h1]at k;exact absurd k.symm y.o
  ·obtain⟨T,B⟩:=gx (⟨t.toArray⟩:ByteArray);have G:=hZ B;have E:=hZ (aI m j);rw[<-B];clear B m j;have F:Hid ((T.toList==S.toList)=decide (t=s)):=by
    show _=_;rw[G.o,HS.o,Aa2,Aa2]
    by_cases c:t=s
    ·rw[c,zJ rfl];simp
    ·rw[zM c,Aat];exact c
   go_wp2_with fail;go_ret2;refine⟨i.o.1,.slice z l.length c,l,(T.toList==S.toList),rfl,i.o.2.1,fun h=>?_,fun fs h1 h2=>?_⟩
   ·rw[F.o]at h;have:=Aay h;subst this;exact E.o
   ·have e:=i.o.2.2 fs h1 h2;subst e;exact⟨by rw[F.o];exact zJ (Cy.unique (Ia h1).2.2 E.o.2 h2),rfl⟩
def Hm.sR:List Fl:=[(⟨#[97]⟩,⟨#[97,98]⟩)]
theorem Hm.yW:Bu sR=0:=by decide+kernel
theorem vM(ao:Aej)(c:Nat)(a:List ByteArray)(w:World)(h:Mi w ao a)(hl:a.length<=140737488355328)(ak: ∀x∈a,x.size<=140737488355328):
  Calls prog 4 #[.slice ao a.length c] w fun e w'=>e= .returned (.bool true)/\Aee w w':=by
 have HL:Hid (∀(C:ByteArray) W,C.size<=140737488355328->Calls prog 12 #[.string C] W fun e w'=>Aee W w'/\To W.heap.size w' C.data.toList e):=fun C W hC=>kK Fa N7 C.data.toList W (by rw[show C.data.toList.length=C.size from by simp];omega);have HR:Hid (∀(C:ByteArray) W,C.size<=140737488355328->Calls prog 13 #[.string C] W fun e w'=>Aee W w'/\ ∃(v:Value) (l:List Fl) (ok:Bool),e= .returned (.tuple #[v,.bool ok])/\w'.ownsRow W.heap.size 38 2 v l.length (Cb l)/\(ok=true->Bu l=0/\Cy l C.data.toList)/\ ∀fs,Bu fs=0->Cy fs C.data.toList->ok=true/\l=fs):=fun C W hC=>oX C.data.toList W (by rw[show C.data.toList.length=C.size from by simp];omega);have HS:=hZ (aI h ak);clear h ak
 go_enter func4,ntmps4
 go_wp2_with fail
 go_loopw[3] (fun vi wr=> ∃k:Nat,k<=a.length/\vi= .int .i64 k/\Hid (Aee w wr)) (fun vi _=>a.length-(intOf vi).toNat)
 case atStart=>exact⟨0,by omega,rfl,Aa.refl _ _⟩
 case round=>
  obtain⟨k,hk,rfl,V⟩:=hrel
  by_cases af:k<a.length
  ·obtain⟨aw,ab⟩:=dT k a.length;obtain⟨b,o,rfl,hb,hc⟩:=HS.o.1 k af;have O:=HS.o.2 _ (z6 af);have c1:=(V.o.cell (p:=⟨b,o+k,none⟩) hb id).trans hc;have K:=hZ (aI hb hc);generalize a[k]=C at hc O c1 K;have m:=HL.o C wr O;clear hc;go_wp2_with fail;refine m.mono ?_;rintro e T ⟨u,q⟩;have z:=hZ (aI (V.o.tr u) q);have c2:=(z.o.1.cell (p:=⟨b,o+k,none⟩) K.o.1 id).trans K.o.2;have G:=HR.o C T O;rcases q with⟨pa,l6,L,l8,st,ah,hP,hA,j,hI,rfl⟩|⟨hno,rfl⟩
   ·have D:=hZ (aI hP (aI hA (aI j hI)));clear hP hA j hI m u c1;go_wp2_with fail;refine G.mono ?_;rintro e w2 ⟨i,v,l,ok,rfl,F,_,B⟩;obtain⟨rfl,rfl⟩:=B _ D.o.2.2.1 D.o.2.2.2;obtain⟨bo,d,hv,ad,_⟩:=Po F;subst hv;have H:Hid (C5 C.data.toList l6 L l8 st/\Dw wr.heap.size w2 pa C.data.toList l6 L l8 st):=⟨D.o.1,D.o.2.1.kept i (fun _ _ _=>id) id⟩;have P:=Tn Fa wr.heap.size pa C.data.toList l6 L l8 st w2 H.o.1 H.o.2;have t:=Gw C.data.toList l6 l8 st;have hF:=Qz C.data.toList;rw[<-t]at P hF;have U:=hZ (aI (z.o.1.tr i) ad);clear G i F B ad z D c2 t H V;generalize Bs C.data.toList l6 l8 st=fu at*;go_wp2_with fail;refine P.mono ?_;rintro e w3 ⟨Z,rfl,av,g,y⟩;have A:Az w3 (some ⟨Z,0,none⟩) fu:=Cv.at (r:=[]) (by rw[Abe];exact g);have aj:=Uj (some ⟨Z,0,none⟩) bo fu.length d fu w3 A (U.o.2.kept y (fun _ _=>id)) (by omega);have Y:=hZ (U.o.1.tr y);clear P av g y A U;go_wp2_with fail;refine aj.mono ?_;rintro e w4 ⟨rfl,ae⟩;have ap:=hZ (Y.o.tr ae);clear aj ae Y;go_wp2_with fail;go_roundw
    case rel=>exact⟨k+1,by omega,by go_num,ap⟩
    case measure=>simp[intOf];omega
   ·have ar:=hZ hno;clear hno m u c1;go_wp2_with fail;refine G.mono ?_;rintro e w2 ⟨i,v,l,ok,rfl,F,ag,_⟩;have an:=hZ (z.o.1.tr i);cases ok with
    |true=>
     exfalso;obtain⟨h1,h2⟩:=ag rfl;obtain⟨l6,L,l8,st,hP,B⟩:=V8 h1 h2;exact ar.o l6 L l8 st hP (by rw[B];exact h1) (by rw[B];exact h2)
    |false=>
     clear G i F ag z c2 V;go_wp2_with fail;go_roundw
     case rel=>exact⟨k+1,by omega,by go_num,an⟩
     case measure=>simp[intOf];omega
  ·obtain⟨aw,ab⟩:=dF k a.length;clear HR HS;go_wp2_with fail;have aa:Cv (wr.alloc (.cells #[.string ⟨#[97]⟩,.string ⟨#[97,98]⟩] 38)) wr.heap.size sR:=zY wr _;have A:Az (wr.alloc (.cells #[.string ⟨#[97]⟩,.string ⟨#[97,98]⟩] 38)) (some ⟨wr.heap.size,0,none⟩) sR:=Cv.at (r:=[]) (by rw[Abe];exact aa);have j:=yW;have ai:=Kt (some ⟨wr.heap.size,0,none⟩) 1 sR _ A (by show 1<=_;omega) (fun f hf=>by
    rw[List.mem_singleton.1 hf];exact⟨show 1<=_ by omega,show 2<=_ by omega⟩)
   have X:Hid (Aee w (wr.alloc (.cells #[.string ⟨#[97]⟩,.string ⟨#[97,98]⟩] 38))):=V.o.alloc _;clear aa A V;refine ai.mono ?_;rintro e T ⟨ay,u⟩;rcases ay with⟨ax,_⟩|⟨_,s,M,rfl⟩
   ·exact absurd j ax
   have a8:=(bR j M).2;have m:Calls prog 12 #[.string ⟨s.toArray⟩] T fun e w'=>Aee T w'/\To T.heap.size w' s e:=HL.o ⟨s.toArray⟩ T (by show s.toArray.size<=_;rw[Aaa];omega);obtain⟨S,hS⟩:=gx (⟨s.toArray⟩:ByteArray);rw[<-hS]at m|-;have D:=hZ (aI (X.o.tr u) M);clear ai u X M hS HL;go_wp2_with fail;refine m.mono ?_;rintro e w2 ⟨i,q⟩;obtain⟨Q,L',R,st',N,n⟩:=V8 j D.o.2;rcases q with⟨pa,l6,L,l8,st,ah,hP,hA,_,_,rfl⟩|⟨hno,_⟩
   ·obtain⟨rfl,_,rfl,rfl⟩:=C5.unique N hP;have E:=kV Fa T.heap.size pa s Q L R st' w2 hP hA;have t:=Gw s Q R st';rw[n]at t E;have ac:=t.symm;rw[ac]at E;have U:=hZ (D.o.1.tr i);clear m i hP hA N n ah D t ac;go_wp2_with fail;refine E.mono ?_;rintro e w3 ⟨Z,rfl,_,g,y⟩;have q1:w3.cell? ⟨Z,0,none⟩=some (.string ⟨#[97]⟩):=zP _ _ 0 _ _ _ g;have q2:w3.cell? ⟨Z,1,none⟩=some (.int .i64 2):=zP _ _ 1 _ _ _ g;have H3:=hZ (U.o.tr y);clear E g y U;go_wp2_with fail;go_ret;exact⟨rfl,H3.o⟩
   ·exact absurd (by rw[n];exact D.o.2) (hno Q L' R st' N (by rw[n];exact j))
theorem vN(w:World):Calls prog 30 #[.slice none 0 0,.slice none 0 0] w fun e w'=>e= .returned (.bool true)/\w'=w:=by
 have a:=fun W=>Rs W none 0 0
 go_enter func30,ntmps30
 go_wp2;go_ret;exact⟨rfl,rfl⟩
theorem vO(g:Nat)(a:Addr)(c:Nat)(fs:List Fl)(w:World)(u:Cv w g (Ei fs 8))(s:Az w (some a) fs)(C:fs.length<=4398046511103):
  Calls prog 30 #[.slice (some ⟨g,0,none⟩) fs.length (fs.length+8),.slice (some a) fs.length c] w fun e w'=>e= .returned (.bool true)/\Aee w w':=by
 have t:=fun W=>Rs W (some a) fs.length c;have v:=hZ s;have r:=hZ u;have m:=Ui fs 8 (zK _);clear s u
 go_enter func30,ntmps30
 go_wp2
 go_loopw[7] (fun vi wr=> ∃k:Nat,k<=fs.length+8/\vi=I k/\Aee w wr) (fun vi _=>fs.length+8-(intOf vi).toNat)
 case atStart=>exact⟨0,by omega,rfl,Aa.refl _ _⟩
 case round=>
  obtain⟨k,hk,rfl,d⟩:=hrel
  by_cases z:k<fs.length+8
  ·have l:decide ((k:Int)<(fs.length:Int)+8)=true:=zJ (by omega);have x:(k:Int)<(fs.length:Int)+8:=by omega
   have h1:=(r.o.kept d id).fst (i:=k) (by omega);have h2:=(r.o.kept d id).snd (i:=k) (by omega);have h:=hZ d
   by_cases f:k<fs.length
   ·obtain⟨b,o,hb,_,A,B⟩:=(v.o.kept d (fun _ _=>id)) k f;cases hb;have y:(k:Int)<(fs.length:Int):=by omega
    have n:decide (k<fs.length)=true:=zJ (by omega);have q:decide (fs.length<=k)=false:=zM (by omega);have e:(Ei fs 8)[k]'(by omega)=fs[k]:=by
     have j:(Ei fs 8)[k]?=some fs[k]:=by
      unfold Ei;rw[Aav f,zH f]
     rw[zH (by omega)]at j;exact Aak j
    rw[e]at h1 h2;generalize fs[k]=p at*;obtain⟨p1,D⟩:=p;clear e d m;go_wp2;go_quiet(fail);go_wp2;go_roundw
    case rel=>exact⟨k+1,by omega,by go_num,h.o.drewN _⟩
    case measure=>simp[intOf];omega
   ·have n:decide (k<fs.length)=false:=zM (by omega);have q:decide (fs.length<=k)=true:=zJ (by omega);have e:(Ei fs 8)[k]'(by omega)=(Q5,⟨#[]⟩):=by
     have j:(Ei fs 8)[k]?=some (Q5,⟨#[]⟩):=by
      unfold Ei;rw[z7 (by omega),Aav (by simp;omega),Ada,iP]
     rw[zH (by omega)]at j;exact Aak j
    rw[e]at h1 h2;have hb:Q5=(⟨#[98,101,121,111,110,100]⟩:ByteArray):=rfl;rw[hb]at h1 h2;clear e d m hb;go_wp2;go_quiet(fail);go_wp2;go_roundw
    case rel=>exact⟨k+1,by omega,by go_num,h.o.drewN _⟩
    case measure=>simp[intOf];omega
  ·have l:decide ((k:Int)<(fs.length:Int)+8)=false:=zM (by omega);go_wp2;go_ret;exact⟨rfl,d⟩
namespace Hm
theorem J3.same{fs:List Fl}{e b:Ending}(h:J3 fs e)(c:J3 fs b): ∃(s:ByteArray) (k:Int),e= .returned (.tuple #[.string s,.int .i64 k])/\b= .returned (.tuple #[.string s,.int .i64 k]):=by
 rcases h with⟨a,h1⟩|⟨a,s,h1,h2⟩
 ·rcases c with⟨g0,g1⟩|⟨g0,_⟩
  ·exact⟨_,_,h1,g1⟩
  ·exact absurd g0 a
 ·rcases c with⟨g0,_⟩|⟨g0,t,g1,g2⟩
  ·exact absurd a g0
  ·have e:=h1.unique (Ia a).2.2 g1;subst e;exact⟨_,_,h2,g2⟩
end Hm
theorem iD(w:World)(m: ∀W,Calls prog 16 #[.slice none 0 0] W fun e w'=>J3 [] e/\Aee W w'):
  Calls prog 11 #[.slice none 0 0] w fun e w'=>(∃s,e= .returned (.tuple #[.string s,.bool true]))/\Aee w w':=by
 have j:=fun W=>uJ W;have g:=fun W=>Zd none 0 [] W (fun i hi=>by simp at hi) (fun a p=>by cases p) (by simp) (fun f q=>by cases q);have l:=fun W=>vN W
 go_enter func11,ntmps11
 go_wp2_with fail;refine(j _).mono ?_;rintro e u ⟨rfl,rfl⟩;clear j;go_wp2_with fail;refine(g _).mono ?_;rintro e w2 ⟨hs,c⟩;obtain⟨s,b⟩: ∃s k,e= .returned (.tuple #[.string s,I k]):=by obtain⟨s,k,h,_⟩:=hs.same hs;exact⟨s,k,h⟩
 obtain⟨k,b⟩:=b;subst b;have HS:=hZ hs;clear hs g;go_wp2_with fail;refine(m _).mono ?_;rintro e v ⟨ht,d⟩;obtain⟨t,r,h1,h2⟩:=HS.o.same ht;cases h1;subst h2;have n:=hZ (c.tr d);clear m ht HS c d;go_wp2_with fail;refine(l _).mono ?_;rintro e x ⟨rfl,rfl⟩;clear l;go_wp2_with fail;go_ret2;exact⟨⟨s,rfl⟩,n.o⟩
theorem iE(a:Addr)(c:Nat)(fs:List Fl)(w:World)(y:Az w (some a) fs)(F:fs.length<=4398046511103)(t: ∀f∈fs,f.1.size<=140737488355328/\f.2.size<=140737488355328)
  (E: ∀W,Az W (some a) fs->Calls prog 16 #[.slice (some a) fs.length c] W fun e w'=>J3 fs e/\Aee W w'):
  Calls prog 11 #[.slice (some a) fs.length c] w fun e w'=>(∃s,e= .returned (.tuple #[.string s,.bool true]))/\Aee w w':=by
 have q:=uK a c fs w y F;have B:=hZ y;have C:Hid (∀(g:Nat) (W:World),Cv W g (Ei fs 8)->Calls prog 20 #[S0 g fs.length (fs.length+8)] W fun e w'=>J3 fs e/\Aee W w'):=
  fun g W h=>Zd (some (J g 0)) (fs.length+8) fs W h.at (fun a H=>by cases H;exact h.lt) (by omega) t
 have D:Hid (∀(g:Nat) (W:World),Cv W g (Ei fs 8)->Az W (some a) fs->Calls prog 30 #[S0 g fs.length (fs.length+8),.slice (some a) fs.length c] W fun e w'=>e= .returned (.bool true)/\Aee W w'):=
  fun g W h h2=>vO g a c fs W h h2 F
 have l:=hZ E;clear y t E
 go_enter func11,ntmps11
 go_wp2_with fail;refine q.mono ?_;rintro e M ⟨rfl,i,m⟩;have p:=C.o _ _ i;have v:=hZ (aI i m);clear q i m C;go_wp2_with fail;refine p.mono ?_;rintro e w2 ⟨hs,b⟩;obtain⟨s,k,z⟩: ∃s k,e= .returned (.tuple #[.string s,I k]):=by obtain⟨s,k,h,_⟩:=hs.same hs;exact⟨s,k,h⟩
 subst z;have j:Hid (J3 fs (.returned (.tuple #[.string s,I k]))/\Cv w2 w.heap.size (Ei fs 8)/\Aee w w2):=⟨hs,v.o.1.kept b id,v.o.2.tr b⟩;have r:=l.o w2 (B.o.kept j.o.2.2 (fun _ _=>id));clear hs p b l v;go_wp2_with fail;refine r.mono ?_;rintro e A ⟨ht,d⟩;obtain⟨L,K,h1,h2⟩:=j.o.1.same ht;cases h1;subst h2;have x:Hid (Cv A w.heap.size (Ei fs 8)/\Aee w A):=⟨j.o.2.1.kept d id,j.o.2.2.tr d⟩;have u:=D.o _ A x.o.1 (B.o.kept x.o.2 (fun _ _=>id));clear ht r d j D;go_wp2_with fail;refine u.mono ?_;rintro e N ⟨rfl,n⟩;have G:=hZ (x.o.2.tr n);clear u n;go_wp2_with fail;go_ret2;exact⟨⟨s,rfl⟩,G.o⟩
theorem lY(v:Value)(w:World)(h:Calls prog 11 #[v] w fun e w'=>(∃s,e= .returned (.tuple #[.string s,.bool true]))/\Aee w w'):
  Calls prog 3 #[v] w fun e w'=>e= .returned (.bool true)/\Aee w w':=by
 go_enter func3,ntmps3
 go_wp2_with fail;refine h.mono ?_;rintro e a ⟨⟨s,rfl⟩,hk⟩;go_wp2_with fail;go_ret;exact⟨rfl,hk⟩
theorem sU(w:World):Calls prog 3 #[.slice none 0 0] w fun e w'=>e= .returned (.bool true)/\Aee w w':=
 lY _ w (iD w fun W=>Kt none 0 [] W (fun i hi=>by simp at hi) (by simp) (fun f a=>by cases a))
theorem sV(a:Addr)(c:Nat)(fs:List Fl)(w:World)(d:Az w (some a) fs)(g:fs.length<=4398046511103)(b: ∀f∈fs,f.1.size<=140737488355328/\f.2.size<=140737488355328):
  Calls prog 3 #[.slice (some a) fs.length c] w fun e w'=>e= .returned (.bool true)/\Aee w w':=
 lY _ w (iE a c fs w d g b fun W h=>Kt (some a) c fs W h (by omega) b)
def Hm.sW:List Fl:=[(⟨#[120]⟩,⟨#[97,98,97,98]⟩),(⟨#[121]⟩,⟨#[97,98]⟩)]
theorem pM(g lo p:Aej)(c d v:Nat)(fs:List Fl)(a:List ByteArray)(b:List Qn)(w:World)(hP: ∀W,Aee w W->Calls prog 3 #[.slice g fs.length c] W fun e w'=>e= .returned (.bool true)/\Aee W w')
  (D:Az w g fs) (P:fs.length<=140737488355328) (l: ∀f∈fs,f.1.size<=140737488355328/\f.2.size<=140737488355328) (F:Mi w lo a) (t:a.length<=140737488355328) (k: ∀x∈a,x.size<=140737488355328) (E:Xe w p b) (s:b.length<=1048576) (j: ∀q∈b,q.Ok):
  Calls prog 10 #[.slice g fs.length c,.slice lo a.length d,.slice p b.length v] w fun e w'=>e= .returned (.bool true)/\Aee w w':=by
 have y:=hZ hP;have M:Hid (∀W,Aee w W->Calls prog 4 #[.slice lo a.length d] W fun e w'=>e= .returned (.bool true)/\Aee W w'):=fun W n=>vM lo d a W (F.kept n (fun _ _=>id)) t k;have L:Hid (∀W,Aee w W-> ∀m,Az W m sW->Calls prog 7 #[.slice g fs.length c,.slice m 2 2,.slice p b.length v] W fun e w'=>e= .returned (.bool true)/\Aee W w'):=fun W n m hb=>xU g m p c 2 v fs sW b W (D.kept n (fun _ _=>id)) hb (E.kept n (fun _ _=>id)) P (by show 2<=_;omega) l (fun f h=>by
  unfold sW at h;simp only[List.mem_cons,List.not_mem_nil,or_false]at h;rcases h with rfl|rfl
  ·exact⟨show 1<=_ by omega,show 4<=_ by omega⟩
  ·exact⟨show 1<=_ by omega,show 2<=_ by omega⟩) s j
 clear hP D l F k E j;have h1:=y.o w (Aa.refl _ _)
 go_enter func10,ntmps10
 go_wp2_with fail;refine h1.mono ?_;rintro e Q ⟨rfl,u⟩;have h2:=M.o Q u;have N:=hZ u;clear h1 u;go_wp2_with fail;refine h2.mono ?_;rintro e w2 ⟨rfl,G⟩;have i:Cv (w2.alloc (.cells #[.string ⟨#[120]⟩,.string ⟨#[97,98,97,98]⟩,.string ⟨#[121]⟩,.string ⟨#[97,98]⟩] 38)) w2.heap.size sW:=zY w2 _;have z:Hid (Aee w (w2.alloc (.cells #[.string ⟨#[120]⟩,.string ⟨#[97,98,97,98]⟩,.string ⟨#[121]⟩,.string ⟨#[97,98]⟩] 38))):=(N.o.tr G).alloc _;have B:=L.o _ z.o (some (J w2.heap.size 0)) (Cv.at (r:=[]) (by rw[Abe];exact i));clear h2 G i;go_wp2_with fail;refine B.mono ?_;rintro e R ⟨rfl,H⟩;have A:=hZ (z.o.tr H);have C:=y.o R A.o;clear B H;go_wp2_with fail;refine C.mono ?_;rintro e S ⟨rfl,K⟩;have O:=hZ (A.o.tr K);clear C K;go_wp2_with fail;go_ret;exact⟨rfl,O.o⟩
end
section
open Go.ChangeShapes Go.WideShapes Go.ChangeAt Go.RowKit Go.Deep
theorem yB{H:Type}{enc:TypeId×Value->H}{W:World}{base:Nat}{v:Value}{d:DataW H}{ps:List MemPlace}(A:Value.okWide prog W .any base 26 v)
  (h:DataW.Trod enc prog W 0 (fun _=>true) true 26 v d ps):
  ∃(t:Aej) (c:Nat) (e:List ByteArray),v= .slice t e.length c/\Mi W t e/\
   ((∀n∈d.weights prog 26,n<=reachBytes)->e.length<=140737488355328/\ ∀x∈e,x.size<=140737488355328):=by
 obtain⟨E,K,F,rfl⟩:=okWide_slice underlying26 A;obtain⟨u,y⟩:=h;rcases open_strings underlying26 underlying9 (by kernel_rfl) y with⟨f,_⟩|⟨a,len,cap,ss,f,_,G,_,B,p,w,_⟩
 ·refine⟨none,0,[],by simpa[Value.cells]using f,fun i hi=>by simp at hi,fun _=>⟨zZ _,fun x p=>by cases p⟩⟩
 ·have C:ss.length=cap:=by simpa using B
  have k:(ss.take len).length=len:=by rw[zS];omega
  refine⟨some a,cap,ss.take len,by rw[k];simpa[Value.cells]using f,fun i hi=>?_,fun m=>?_⟩
  ·have j:i<ss.length:=by omega
   have r:=w i j;obtain⟨b,s,l⟩:=a;have g:l=none:=by
    have D:=w 0 (by omega);simpa[Addr.add]using World.cell?_spot D
   subst g;rw[add_plain]at r;refine⟨b,s,rfl,z9 _ _ r,?_⟩;rw[r,List.getElem_take,zG,zH j];rfl
  ·obtain⟨hd,_⟩:=Prod.mk.inj p;subst hd;rw[DataW.weights,underlying26]at m;have hb:prog.bytesOf 9=16:=by kernel_rfl
   have h1:=m _ (Aab ..);rw[hb]at h1;unfold reachBytes at h1 m;simp only[strs,Aai,zS,Aas]at h1;refine⟨by omega,fun x q=>?_⟩;have o:(DataW.lit (.string x.data.toList):DataW H)∈strs (ss.take len):=List.mem_map.2 ⟨x,q,rfl⟩;have z:=m x.size (Aae _ (Acs _ (Ly o _ (by simp[DataW.weights]))));omega
end
end Go.Proofs.YtegnkfdbmmndaaaGreat
