import Derived.Test.YtegnkfdbmmndaaaGreatJ35

set_option maxHeartbeats 8000000
namespace Go.Proofs.YtegnkfdbmmndaaaGreat
open Hm Go.Proofs.Tryz
namespace Hm
theorem Al7(l:List Bool): ∀x:Nat,l.foldl (fun a b=>2*a+b.toNat) x=x*2^l.length+Ev l:=by
 induction l with
 |nil=>intro x;simp[Ev]
 |cons b t ih=>
  intro x;rw[Aq4,ih,An8,Aoz];unfold Ev;rw[Aq4,ih (2*0+b.toNat)];unfold Ev;rw[Ape,Nat.mul_zero,An3,Apj];congr 1;rw[Aqn,Nat.mul_left_comm,Aqh 2]
theorem Ns(b:Bool)(t:List Bool):Ev (b::t)=b.toNat*2^t.length+Ev t:=by
 show List.foldl _ (2*0+b.toNat) t=_;rw[Al7,Nat.mul_zero,An3]
theorem Qr: ∀l:List Bool,Ev l<2^l.length
 |[]=>by decide
 |b::t=>by
  have:=Qr t;rw[Ns,An8,Aoz];cases b
  ·simp;omega
  ·simp;omega
theorem Wb: ∀a b:List Bool,a.length=b.length→Ev a=Ev b→a=b
 |[],[],_,_=>rfl
 |[],_::_,h,_=>by simp at h
 |_::_,[],h,_=>by simp at h
 |x::a,y::b,h,e=>by
  have c:a.length=b.length:=by simpa using h
  have h1:=Qr a;have h2:=Qr b;rw[Ns,Ns,c]at e;rw[c]at h1;cases x<;>cases y
  ·rw[Wb a b c (by simpa using e)]
  ·simp at e;omega
  ·simp at e;omega
  ·rw[Wb a b c (by simpa using e)]
theorem Aaf: ∀a b:List Bool,a.length=b.length→Op.bytesLess (Af a) (Af b)=decide (Ev a<Ev b)
 |[],[],_=>rfl
 |[],_::_,h=>by simp at h
 |_::_,[],h=>by simp at h
 |x::a,y::b,h=>by
  have c:a.length=b.length:=by simpa using h
  have h1:=Qr a;have h2:=Qr b;have ih:=Aaf a b c;have e:Op.bytesLess (Af (x::a)) (Af (y::b))=(decide ((if x then(49:UInt8)else 48)<(if y then 49 else 48))||((if x then(49:UInt8)else 48)==(if y then 49 else 48)&&Op.bytesLess (Af a) (Af b))):=rfl;rw[e,ih,Ns,Ns,c];rw[c]at h1;cases x<;>cases y
  ·simp
  ·simp;omega
  ·simp;omega
  ·simp
structure HS(cd:UInt8→List Bool)(n c fr:Nat)(out:List (List Bool)):Prop where
 srt:out.Pairwise Pv
 le:fr≤out.length
 low: ∀i,i<fr→(out.getD i []).length<n
 high: ∀i,fr≤i→i<out.length→(out.getD i []).length=n
 mem: ∀h,h∈out↔ ∃b:UInt8,h.length<(cd b).length∧(cd b).take h.length=h∧(h.length<n∨(h.length=n∧b.toNat<c))
 few:out.length≤n*256+c
section
variable {cd:UInt8→List Bool} {n c fr:Nat} {out:List (List Bool)}
theorem HS.start:HS cd 0 0 0 []:=⟨List.Pairwise.nil,Ane _,fun i h=>by omega,fun i _ h=>by simp at h,fun h=>by simp,Ann _⟩
theorem HS.skip(h:HS cd n c fr out)(b:UInt8)(hb:b.toNat=c)(e:(cd b).length≤n):HS cd n (c+1) fr out:=by
 refine⟨h.srt,h.le,h.low,h.high,fun x=>?_,by have:=h.few;omega⟩;rw[h.mem];constructor
 ·rintro⟨b',h1,h2,a⟩;exact⟨b',h1,h2,by omega⟩
 ·rintro⟨b',h1,h2,a⟩;refine⟨b',h1,h2,?_⟩;rcases a with a|⟨a,d⟩
  ·exact .inl a
  ·rcases Aoq b'.toNat c with k|k
   ·exact .inr ⟨a,k⟩
   ·have:b'=b:=UInt8.toNat_inj.1 (by omega);subst this;omega
theorem HS.next(h:HS cd n 256 fr out):HS cd (n+1) 0 out.length out:=by
 refine⟨h.srt,Ane _,fun i hi=>?_,fun i h1 h2=>by omega,fun x=>?_,by have:=h.few;omega⟩
 ·rcases Aoq i fr with k|k
  ·have:=h.low i k;omega
  ·have:=h.high i k hi;omega
 ·rw[h.mem];constructor
  ·rintro⟨b',h1,h2,a⟩;exact⟨b',h1,h2,by omega⟩
  ·rintro⟨b',h1,h2,a⟩;have:=b'.toNat_lt;exact⟨b',h1,h2,by omega⟩
theorem HS.last(h:HS cd n 0 fr out)(a: ∀b,(cd b).length≤n):Hk cd out:=by
 refine⟨h.srt,fun x=>?_⟩;rw[h.mem];constructor
 ·rintro⟨b',h1,h2,_⟩;exact⟨b',h1,h2⟩
 ·rintro⟨b',h1,h2⟩;have:=a b';exact⟨b',h1,h2,by omega⟩
theorem Aag{l:List (List Bool)}{i:Nat}(h:i<l.length):l.getD i []∈l:=by
 rw[Am4,Am5 h];exact Anm _
theorem HS.stop(h:HS cd n 256 fr out)(d:out.length=fr):Hk cd out:=by
 have hs: ∀b,(cd b).length≤n:=by
  intro b;rcases Aoq n (cd b).length with k|k
  ·exfalso;have a:((cd b).take n).length=n:=by rw[Anp];omega
   have c:(cd b).take n∈out:=(h.mem _).2 ⟨b,by omega,by rw[a],.inr ⟨a,b.toNat_lt⟩⟩;obtain⟨i,hi,e⟩:=Aog c;have h1:=h.low i (by omega);rw[Am4,Am5 hi]at h1;simp only[Aps]at h1;rw[e,a]at h1;omega
  ·exact k
 refine⟨h.srt,fun x=>?_⟩;rw[h.mem];constructor
 ·rintro⟨b',h1,h2,_⟩;exact⟨b',h1,h2⟩
 ·rintro⟨b',h1,h2⟩;have:=hs b';exact⟨b',h1,h2,by omega⟩
theorem HS.same(h:HS cd n c fr out)(b:UInt8)(hb:b.toNat=c)(g:n<(cd b).length)(d:(cd b).take n∈out):HS cd n (c+1) fr out:=by
 refine⟨h.srt,h.le,h.low,h.high,fun x=>?_,by have:=h.few;omega⟩;constructor
 ·intro e;obtain⟨b',h1,h2,a⟩:=(h.mem x).1 e;exact⟨b',h1,h2,by omega⟩
 ·rintro⟨b',h1,h2,a⟩;rcases a with a|⟨a,f⟩
  ·exact(h.mem x).2 ⟨b',h1,h2,.inl a⟩
  ·rcases Aoq b'.toNat c with k|k
   ·exact(h.mem x).2 ⟨b',h1,h2,.inr ⟨a,k⟩⟩
   ·have:b'=b:=UInt8.toNat_inj.1 (by omega);subst this;rw[←h2,a];exact d
theorem HS.put(h:HS cd n c fr out)(b:UInt8)(hb:b.toNat=c)(F:n<(cd b).length){a:Nat}(C:fr≤a)(v:a≤out.length)(r: ∀i,fr≤i→i<a→Ev (out.getD i [])<Ev ((cd b).take n))(q:a<out.length→ ¬Ev (out.getD a [])<Ev ((cd b).take n)∧out.getD a []≠(cd b).take n):
  HS cd n (c+1) fr (out.take a++(cd b).take n::out.drop a):=by
 have l:((cd b).take n).length=n:=by rw[Anp];omega
 obtain⟨x,o⟩: ∃x,x=(cd b).take n:=⟨_,rfl⟩;rw[←o]at l r q⊢;have w: ∀i,i<out.length→out[i]?=some (out.getD i []):=fun i hi=>by rw[Am4,Am5 hi];rfl
 have g: ∀y∈out.take a,Pv y x:=by
  intro y p;obtain⟨i,hi,rfl⟩:=Aog p;have s:i<a:=by rw[Anp]at hi;omega
  have e:(out.take a)[i]=out.getD i []:=by
   rw[List.getElem_take,Am4,Am5 (by omega)];rfl
  rw[e];rcases Aoq i fr with k|k
  ·exact .inl (by rw[l];exact h.low i k)
  ·exact .inr ⟨by rw[l];exact h.high i k (by omega),r i k s⟩
 have d: ∀y∈out.drop a,Pv x y:=by
  intro y p;obtain⟨i,hi,rfl⟩:=Aog p;have f:a+i<out.length:=by rw[Aoi]at hi;omega
  have e:(out.drop a)[i]=out.getD (a+i) []:=by
   rw[List.getElem_drop,Am4,Am5 f];rfl
  rw[e];have h1:=h.high (a+i) (by omega) f;obtain⟨q1,q2⟩:=q (by omega);have B:=h.high a C (by omega);have t:Ev x<Ev (out.getD a []):=by
   rcases Aop (Ev (out.getD a [])) (Ev x)with k|k|k
   ·exact absurd k q1
   ·exact absurd (Wb _ _ (by rw[B,l]) k) q2
   ·exact k
  refine .inr ⟨by rw[l,h1],?_⟩;rcases Aqi i with k|k
  ·subst k;exact t
  ·have A:=List.pairwise_iff_getElem.1 h.srt a (a+i) (by omega) f (by omega);have e1:out[a]=out.getD a []:=by rw[Am4,Am5 (by omega)];rfl
   have e2:out[a+i]=out.getD (a+i) []:=by rw[Am4,Am5 f];rfl
   rw[e1,e2]at A;unfold Pv at A;omega
 refine⟨?_,?_,fun i hi=>?_,fun i h1 h2=>?_,fun y=>?_,?_⟩
 ·rw[List.pairwise_append,Aqx];refine⟨h.srt.sublist (List.take_sublist _ _),⟨d,h.srt.sublist (List.drop_sublist _ _)⟩,fun y p z u=>?_⟩;rcases List.mem_cons.1 u with rfl|u
  ·exact g y p
  ·have q1:=g y p;have q2:=d z u;unfold Pv at*;omega
 ·simp;have:=h.le;omega
 ·have e:(out.take a++x::out.drop a).getD i []=out.getD i []:=by
   rw[Am4,An6 (by rw[Anp];have:=h.le;omega),Apg (by omega),←Am4]
  rw[e];exact h.low i hi
 ·have D:i<out.length+1:=by simp at h2;omega
  rcases Aop i a with k|k|k
  ·have e:(out.take a++x::out.drop a).getD i []=out.getD i []:=by
    rw[Am4,An6 (by rw[Anp];omega),Apg k,←Am4]
   rw[e];exact h.high i h1 (by omega)
  ·subst k;rw[Am4,Ans (by rw[Anp];omega),Anp,Ap7 v,Aoy];exact l
  ·obtain⟨j,rfl⟩: ∃j,i=a+j+1:=⟨i-a-1,by omega⟩;rw[Am4,Ans (by rw[Anp];omega),Anp,Ap7 v,show a+j+1-a=j+1 from by omega,Apz,Aqz,←Am4];exact h.high (a+j) (by omega) (by omega)
 ·have e:y∈out.take a++x::out.drop a↔y=x∨y∈out:=by
   rw[Aq3,List.mem_cons];constructor
   ·rintro(k|k|k)
    ·exact .inr (Aqm k)
    ·exact .inl k
    ·exact .inr (List.mem_of_mem_drop k)
   ·rintro(k|k)
    ·exact .inr (.inl k)
    ·rw[←Ao5 a out,Aq3]at k;rcases k with k|k
     ·exact .inl k
     ·exact .inr (.inr k)
  rw[e];constructor
  ·rintro(rfl|k)
   ·exact⟨b,by omega,by rw[l,o],.inr ⟨l,by omega⟩⟩
   ·obtain⟨b',h1,h2,m⟩:=(h.mem y).1 k;exact⟨b',h1,h2,by omega⟩
  ·rintro⟨b',h1,h2,m⟩;rcases m with m|⟨m,E⟩
   ·exact .inr ((h.mem y).2 ⟨b',h1,h2,.inl m⟩)
   ·rcases Aoq b'.toNat c with k|k
    ·exact .inr ((h.mem y).2 ⟨b',h1,h2,.inr ⟨m,k⟩⟩)
    ·have:b'=b:=UInt8.toNat_inj.1 (by omega);subst this;exact .inl (by rw[o,←h2,m])
 ·simp;have:=h.few;omega
end
end Hm
end Go.Proofs.YtegnkfdbmmndaaaGreat
namespace Go.Proofs.YtegnkfdbmmndaaaGreat
open Hm Go.Proofs.Tryz Go.RowKit
theorem Al8:(prog.info? 9).map (fun i=>(i.zero,i.size,i.bytes))=some (some (.string ⟨#[]⟩),1,16):=by kernel_rfl
theorem Agv(cur xs:Are)(e H:Value)(m a:Nat)(h:xs.length=m)(l:a≤m)(g:cur.take (m+1)=xs++[e])(n:m+1≤cur.length):((splice cur (a+1) (xs.drop a)).set a H).take (m+1)=xs.take a++H::xs.drop a:=by
 have c: ∀i,i<m→cur[i]?=xs[i]?:=fun i hi=>by
  have h1:(cur.take (m+1))[i]?=cur[i]?:=Apg (by omega);rw[←h1,g,An6 (by omega)]
 have d:(xs.drop a).length=m-a:=by rw[Aoi,h]
 have f:(cur.take (a+1)).length=a+1:=by rw[Anp];omega
 have b:(xs.take a).length=a:=by rw[Anp];omega
 apply List.ext_getElem?;intro i;rcases Aoq i (m+1)with k|k
 ·rw[Apg k];rcases Aop i a with q|q|q
  ·rw[Ap9 (by omega),splice,An6 (by omega),Apg (by omega),c i (by omega),An6 (by omega),Apg q]
  ·subst q;rw[Aqu (by rw[length_splice _ _ _ (by rw[d];omega)];omega),Ans (by omega),b,Aoy];rfl
  ·obtain⟨j,rfl⟩: ∃j,i=a+1+j:=⟨i-a-1,by omega⟩;rw[Ap9 (by omega),splice,Ans (by omega),f,show a+1+j-(a+1)=j from by omega,An6 (by omega),Ans (by omega),b,show a+1+j-a=j+1 from by omega,Apz]
 ·rw[Anx (by rw[Anp];omega),Anx (by rw[Anf,An8,d,b];omega)]
namespace Hm
def cdL(o:List (List Bool))(b:UInt8):List Bool:=o.getD b.toNat []
theorem Zb(x:List Bool)(n:Nat):(⟨(Af x).toArray⟩:ByteArray).extract 0 n=⟨(Af (x.take n)).toArray⟩:=by
 apply Aqg;rw[ByteArray.data_extract];apply Api;rw[Array.toList_extract,Aqf];simp[Af,List.map_take]
theorem Rr: ∀x y:List Bool,Af x=Af y→x=y
 |[],[],_=>rfl
 |[],_::_,h=>by simp[Af]at h
 |_::_,[],h=>by simp[Af]at h
 |a::x,b::y,h=>by
  have h1:(if a then(49:UInt8)else 48)=(if b then 49 else 48)∧Af x=Af y:=by
   have:=List.cons.inj h;exact this
  rw[Rr x y h1.2];have h2:=h1.1;cases a<;>cases b<;>first|rfl|simp at h2
end Hm
set_option maxRecDepth 20000 in
theorem Aeh(o:List (List Bool))(w:World)(aI:o.length=256)(aJ: ∀x∈o,x.length≤255):
  Calls prog 90 #[.agg (Av o).toArray] w fun e w'=> ∃(v:Value) (hs:List (List Bool)),e= .returned v∧Hk (Hm.cdL o) hs∧hs.length≤65792∧w'.ownsRow w.heap.size 9 1 v hs.length (Av hs)∧Ara w w':=by
 obtain⟨i0,hi,aM,ak,aN⟩:=Aoo Al8;have aD: ∀b:Nat,b<256→(o.getD b []).length≤255:=fun b hb=>by
  rw[Am4,Am5 (show b<o.length from by omega)];exact aJ _ (Anm _)
 have HG:Aside (∀b:Nat,b<256→(o.getD b []).length≤255):=aD;have aU:Aside (o.length=256):=aI;clear aD aJ aI
 go_enter func90,ntmps90
 go_upto_region 1 with fail
 have g0:TR (w.alloc (.cells (Av o).toArray 113)) w.heap.size o:=Anj w _;have aE:Ara w (w.alloc (.cells (Av o).toArray 113)):=(Aa.refl _ _).alloc _;have hB:w.heap.size<(w.alloc (.cells (Av o).toArray 113)).heap.size:=by simp
 generalize w.alloc (.cells (Av o).toArray 113)=W at*;have HW:Aside (TR W w.heap.size o∧Ara w W∧w.heap.size<W.heap.size):=⟨g0,aE,hB⟩;clear g0 aE hB;go_wp2_with fail
 go_loopw[3,4] (fun vo vn wr=> ∃(n:Nat) (out:List (List Bool)),n≤256∧vn= .int .i64 n∧Hid (Hm.HS (Hm.cdL o) n 0 out.length out)∧Aside (wr.ownsRow W.heap.size 9 1 vo out.length (Av out))∧Ara W wr) (fun _ vn _=>256-(intOf vn).toNat)
 case atStart=>exact⟨0,[],by omega,rfl,Hm.HS.start,⟨rfl,.inl ⟨rfl,rfl⟩⟩,Aa.refl _ _⟩
 case round=>
  obtain⟨n,out,hn,rfl,HS,HO,aF⟩:=hrel;have aC:out.length≤65792:=by have:=HS.o.few;omega
  have a7:Aside (Ara W wr):=aF;clear aF
  by_cases bl:n<256
  ·have Y:decide ((n:Int)<256)=true:=Ana (by omega);obtain⟨ao,co,a3,_⟩:=Aq HO.o;subst a3;go_wp2_with fail;obtain⟨fr,aw⟩: ∃fr,fr=out.length:=⟨_,rfl⟩;rw[←aw];have a6:Aside (fr=out.length):=aw;clear aw
   go_loopw[3,6] (fun vo vc wx=> ∃(c:Nat) (out2:List (List Bool)),c≤256∧vc= .int .i64 c∧Hid (Hm.HS (Hm.cdL o) n c fr out2)∧Aside (wx.ownsRow W.heap.size 9 1 vo out2.length (Av out2))∧Ara W wx) (fun _ vc _=>256-(intOf vc).toNat)
   case atStart=>exact⟨0,out,by omega,rfl,by rw[a6.o];exact HS.o,by rw[a6.o];exact HO,a7.o⟩
   case round=>
    obtain⟨c,out2,hc,rfl,C,q,L⟩:=hrel;have av:out2.length≤65792:=by have:=C.o.few;omega
    have m:Aside (Ara W wr):=L;obtain⟨ao2,co2,aL,_⟩:=Aq q.o;subst aL;clear HO
    by_cases aG:c<256
    ·have Y:decide ((c:Int)<256)=true:=Ana (by omega);have bi:(c:Int)<256:=by omega
     have ar:=(HW.o.1.kept L id).cell (i:=c) (by rw[aU.o];exact aG);clear L;obtain⟨b,hb⟩: ∃b:UInt8,b.toNat=c:=⟨UInt8.ofNat c,by rw[Aoa];omega⟩;obtain⟨x,hx⟩: ∃x,x=o.getD c []:=⟨_,rfl⟩;have J:Aside (Hm.cdL o b=x∧b.toNat=c):=⟨by rw[hx];unfold Hm.cdL;rw[hb],hb⟩;rw[←hx]at ar;have bo:x.length≤255:=by rw[hx];exact HG.o c aG
     obtain⟨S,hS⟩: ∃S,S=(⟨(Af x).toArray⟩:ByteArray):=⟨_,rfl⟩;rw[←hS]at ar;have bn:S.size=x.length:=by rw[hS];show(Af x).toArray.size=_;simp[Af]
     have aW:Aside (S=(⟨(Af x).toArray⟩:ByteArray)):=hS;clear hx hS hb
     by_cases bb:x.length≤n
     ·have s:decide ((S.size:Int)≤(n:Int))=true:=Ana (by omega);have F:Aside (Hm.HS (Hm.cdL o) n (c+1) fr out2):=C.o.skip b J.o.2 (by rw[J.o.1];exact bb);go_wp2_with fail;go_roundw
      case rel=>exact⟨c+1,out2,by omega,by go_num,F.o,q,m.o⟩
      case measure=>simp[intOf];omega
     ·have s:decide ((S.size:Int)≤(n:Int))=false:=Anc (by omega);have bm:(n:Int)≤(S.size:Int):=by omega
      go_wp2_with fail;obtain⟨H,hH⟩: ∃H,H=S.extract 0 n:=⟨_,rfl⟩;rw[←hH];obtain⟨y,hy⟩: ∃y,y=x.take n:=⟨_,rfl⟩;have r:Aside (H=(⟨(Af y).toArray⟩:ByteArray)∧y=x.take n∧y.length=n):=⟨by rw[hH,aW.o,hy];exact Zb x n,hy,by rw[hy,Anp];omega⟩;clear hH hy ar
      go_loopw[8] (fun va wy=> ∃a:Nat,va= .int .i64 a∧fr≤a∧a≤out2.length∧Hid (∀i,fr≤i→i<a→Ev (out2.getD i [])<Ev y)∧wr=wy) (fun va _=>out2.length-(intOf va).toNat)
      case atStart=>exact⟨fr,rfl,Ane _,C.o.le,fun i h1 h2=>by omega,rfl⟩
      case round=>
       obtain⟨a,rfl,au,aj,an,rfl⟩:=hrel
       by_cases ai:a<out2.length
       ·have ba:decide ((a:Int)<(out2.length:Int))=true:=Ana (by omega);have bh:(a:Int)<(out2.length:Int):=by omega
        obtain⟨g,hg⟩: ∃g,ao2=some ⟨g,0,none⟩:=by
         rcases q.o.2 with⟨e,h0⟩|⟨g,cap,cur,e,_⟩
         ·omega
         ·exact⟨g,(Value.slice.inj e).1⟩
        subst hg;obtain⟨Z,hZ⟩: ∃Z,Z=(⟨(Af (out2.getD a [])).toArray⟩:ByteArray):=⟨_,rfl⟩;have bj:wr.cell? ⟨g,a,none⟩=some (.string Z):=by
         rw[q.o.cellAt a (by omega),hZ];simp[Av,List.getD_eq_getElem?_getD,List.getElem?_eq_getElem ai]
        have aO:(out2.getD a []).length=n:=C.o.high a au ai;have aB:Op.bytesLess Z.toList H.toList=decide (Ev (out2.getD a [])<Ev y):=by
         rw[hZ,r.o.1,Aor,Aor];exact Aaf _ _ (by rw[aO,r.o.2.2])
        have a0:(Z.toList==H.toList)=decide (out2.getD a []=y):=by
         rw[hZ,r.o.1,Aor,Aor]
         by_cases e:out2.getD a []=y
         ·rw[Ana e,e];simp
         ·rw[Anc e,Aod];exact fun k=>e (Rr _ _ k)
        clear hZ aO
        by_cases d:Ev (out2.getD a [])<Ev y
        ·rw[Ana d]at aB;have aT:Aside (∀i,fr≤i→i<a+1→Ev (out2.getD i [])<Ev y):=fun i h1 h2=>by
          rcases Aoq i a with k|k
          ·exact an.o i h1 k
          ·obtain rfl:i=a:=by omega
           exact d
         clear d a0;go_wp2_with fail;go_roundw
         case rel=>exact⟨a+1,by go_num,by omega,by omega,aT.o,by first|rfl|trivial⟩
         case measure=>simp[intOf];omega
        ·rw[Anc d]at aB
         by_cases M:out2.getD a []=y
         ·rw[Ana M]at a0;have F:Aside (Hm.HS (Hm.cdL o) n (c+1) fr out2):=C.o.same b J.o.2 (by rw[J.o.1];omega) (by rw[J.o.1,←r.o.2.1,←M];exact Aag ai);clear M d;go_wp2_with fail;go_roundw
          case rel=>exact⟨c+1,out2,by omega,by go_num,F.o,q,m.o⟩
          case measure=>simp[intOf];omega
         ·rw[Anc M]at a0;have F:Aside (Hm.HS (Hm.cdL o) n (c+1) fr (out2.take a++y::out2.drop a)):=by
           have:=C.o.put b J.o.2 (by rw[J.o.1];omega) au aj (by rw[J.o.1,←r.o.2.1];exact an.o) (fun _=>by rw[J.o.1,←r.o.2.1];exact⟨d,M⟩);rwa[J.o.1,←r.o.2.1]at this
          clear M d
          go_wp2_with(at_builtin;refine Bg _ rfl (.tmp 57) (.tmp 58) 26 rfl W.heap.size 9 i0 (.string ⟨#[]⟩) 1 16 underlying26 hi aM ak aN rfl (by decide) _ _ _ rfl (q.o.alloc _) ⟨wr.heap.size,0,none⟩ 1 1 [.string ⟨#[]⟩] rfl rfl ?c1 ?c2 ?c3 ?c4 ?c5 ?_)
          case c1=>exact cell_one_new _ _ _
          case c2=>intro u hu;simp at hu;subst hu;rfl
          case c3=>unfold maxLen;omega
          case c4=>omega
          case c5=>have:=m.o.size;simp;omega
          intro v5 w5 af aa ay;have ac:Ara W w5:=(m.o.alloc _).grown aa (fun j hj=> .inl (q.o.lt j hj).1);obtain⟨g5,cap,cur,a2,O,G,az,U,A,B⟩: ∃g cap cur,v5= .slice (some ⟨g,0,none⟩) (out2.length+1) cap∧W.heap.size≤g∧w5.heap[g]?=some (.cells cur 9 (0,0))∧out2.length+1≤cap∧cap≤maxLen∧cur.size=cap*1∧cur.toList.take ((out2.length+1)*1)=Av out2++[.string ⟨#[]⟩]:=by
           rcases af.2 with⟨_,h⟩|h
           ·omega
           ·exact h
          subst a2;rw[Aqk]at A B;obtain⟨cl,T⟩: ∃cl:Are,cl=cur.toList:=⟨_,rfl⟩;have V:cur=cl.toArray:=by rw[T]
          rw[V]at G A B;rw[Anq]at A;clear aa ay af T V;have t:Aside (W.heap.size≤g5∧w5.heap[g5]?=some (.cells cl.toArray 9 (0,0))∧Ara W w5∧cap≤maxLen∧cl.take (out2.length+1)=Av out2++[.string ⟨#[]⟩]):=⟨O,G,ac,U,by simpa using B⟩;clear O G ac U B;have aY:(a:Int)≤(out2.length:Int):=by omega
          have aH:(out2.length:Int)+1≤(cap:Int):=by omega
          go_wp2_with fail;have a4:IntKind.i64.wrap ((a:Int)+1)=(a:Int)+1:=by rw[An9];omega
          have a1:((a:Int)+1).toNat=a+1:=by omega
          have Q: ¬cap=a:=by omega
          refine Aph (S:=fun _=>True) (by kernel_rfl) trivial (fun hHeld=>?_)
          refine tK 0 ⟨some 60,.move (.tmp 3),26,"hoardref.go:202",#[],none⟩ ?_ ?_ ?_
          rotate_left
          ·intro X f;go_simp
           with_reducible rfl
          simp only[Act.put,Am6,Am8,Am9]
          refine tK 1 ⟨some 61,.move (.tmp 8),3,"hoardref.go:202",#[],none⟩ ?_ ?_ ?_
          rotate_left
          ·intro X f;go_simp
           with_reducible rfl
          simp only[Act.put,Am6,Am8,Am9]
          refine tK 2 ⟨some 62,.binOp .add 3 (.tmp 61) (.const (.int .i64 1)) 3,3,"hoardref.go:202",#[⟨1,.data⟩],none⟩ (.int .i64 ((a : Int) + 1)) ?_ ?_
          ·intro X f;go_simp
           all_goals(try rw[a4])
           all_goals(try rfl)
          simp only[Act.put,Am6,Am8,Am9]
          refine tK 3 ⟨some 63,.slice 26 (.tmp 60) (some (.tmp 62)) none none,26,"hoardref.go:202",#[⟨0,.data⟩,⟨2,.data⟩],none⟩ (.slice (if cap = a + 1 then some ⟨g5, 0, none⟩ else some ⟨g5, a + 1, none⟩) (out2.length + 1 - (a + 1)) (cap - (a + 1))) ?_ ?_
          ·intro X f;go_simp
           all_goals(try rw[if_pos (by omega)])
           all_goals(try simp only[a1])
           all_goals(try rfl)
           all_goals(try(intro ae;exfalso;omega))
          simp only[Act.put,Am6,Am8,Am9]
          refine tK 4 ⟨some 64,.move (.tmp 3),26,"hoardref.go:202",#[],none⟩ ?_ ?_ ?_
          rotate_left
          ·intro X f;go_simp
           with_reducible rfl
          simp only[Act.put,Am6,Am8,Am9]
          refine tK 5 ⟨some 65,.move (.tmp 8),3,"hoardref.go:202",#[],none⟩ ?_ ?_ ?_
          rotate_left
          ·intro X f;go_simp
           with_reducible rfl
          simp only[Act.put,Am6,Am8,Am9]
          refine tK 6 ⟨some 66,.slice 26 (.tmp 64) (some (.tmp 65)) none none,26,"hoardref.go:202",#[⟨4,.data⟩,⟨5,.data⟩],none⟩ (.slice (some ⟨g5, a, none⟩) (out2.length + 1 - a) (cap - a)) ?_ ?_
          ·intro X f;go_simp
           all_goals(try rw[if_pos (by omega)])
           all_goals(try rw[if_neg Q])
           all_goals(try rfl)
           all_goals(try(intro ae;exfalso;omega))
          simp only[Act.put,Am6,Am8,Am9];refine An1 (rs:=[7]) (by kernel_rfl) (by simp) ?_
          refine AllReadyH.cons (o := ⟨some 67,.call ⟨.builtin .copy,#[.tmp 63,.tmp 66],#[26,26]⟩,3,"hoardref.go:202",#[⟨3,.data⟩,⟨6,.data⟩],none⟩) rfl (fun K hK => ?_) AllReadyH.nil
          have s:((Av out2).drop a).length=out2.length-a:=by rw[Aoi,Bz]
          have R: ∀i,i<out2.length→cl[i]?=(Av out2)[i]?:=fun i hi=>by
           have h1:(cl.take (out2.length+1))[i]?=cl[i]?:=Apg (by omega);rw[←h1,t.o.2.2.2.2,An6 (by rw[Bz];omega)]
          refine step_copy_splice (o := ⟨some 67,.call ⟨.builtin .copy,#[.tmp 63,.tmp 66],#[26,26]⟩,3,"hoardref.go:202",#[⟨3,.data⟩,⟨6,.data⟩],none⟩) rfl (.tmp 63) (.tmp 66) 26 26 rfl 9 underlying26 (by rw [hi]; simp [ak]) _ _ _ _ _ _ rfl rfl g5 (a + 1) cl 9 t.o.2.1 ((Av out2).drop a) ?d1 ?d2 ?d3 ?d4 g5 w5.drew (Below.refl _ _) (Nat.le_refl _) ?d5
          case d1=>rw[s];show _=min (out2.length+1-a) (out2.length+1-(a+1));omega
          case d2=>
           intro hp;rw[s]at hp;refine⟨by rw[if_neg (by omega)],_,rfl,fun j v hj=>?_⟩;rw[Aqz]at hj;have ax:a+j<out2.length:=by
            have:=(List.getElem?_eq_some_iff.1 hj).1;rw[Bz]at this;exact this
           have aq:(⟨g5,a,none⟩:Addr).add j=⟨g5,a+j,none⟩:=by cases j<;>simp[Addr.add]
           rw[aq];rw[Am7 _ _ (a+j) _ _ _ (show w5.drew.heap[g5]?=_ from t.o.2.1),Anw,R _ ax,hj]
          case d3=>rw[s];omega
          case d4=>
           intro v hv;have h1:=Mf out2;rw[Apw]at h1;exact h1 v (by simpa using List.mem_of_mem_drop hv)
          case d5=>
           intro w6 ah l;refine hK.o _ _ trivial (fun hHeld=>?_);clear hK K;refine Apn (by kernel_rfl) ?_ _;have ag:(splice cl (a+1) ((Av out2).drop a)).length=cap:=by rw[length_splice _ _ _ (by rw[s];omega)];exact A
           have ad:Aa (fun j=>g5≤j) w5.drew w6:=⟨l.os,l.tape,l.output,l.size,fun j _ hn=>l.block j (by omega)⟩;have N:Ara W w6:=(t.o.2.2.1.drew).trans ad (fun j h1 h2=>by have:=t.o.1;omega);have z:Aside (w6.heap[g5]?=some (.cells (splice cl (a+1) ((Av out2).drop a)).toArray 9 (0,0))∧Ara W w6):=⟨ah.o,N⟩;obtain⟨old,E⟩: ∃old,(splice cl (a+1) ((Av out2).drop a))[a]?=some old:=⟨_,Am5 (by rw[ag];omega)⟩;have co6:w6.cell? ⟨g5,a,none⟩=some old:=by rw[Am7 _ _ a _ _ _ z.o.1,Anw,E]
           have fo6:w6.frozen? ⟨g5,a,none⟩=false:=Ang _ _ a _ _ z.o.1;have aA:(a:Int)<(out2.length:Int)+1:=by omega
           have al:Aside (((splice cl (a+1) ((Av out2).drop a)).set a (.string H)).take (out2.length+1)=(Av out2).take a++ .string H::(Av out2).drop a):=Agv cl (Av out2) _ (.string H) out2.length a (Bz _) aj t.o.2.2.2.2 (by omega);clear l ad N ah E R;go_wp2_with fail;go_roundw
           case rel=>
            have D:(out2.take a++y::out2.drop a).length=out2.length+1:=by rw[Anf,An8,Anp,Aoi];omega
            refine⟨c+1,out2.take a++y::out2.drop a,by omega,by go_num,F.o,?_,?_⟩
            ·show World.ownsRow _ _ _ _ _ _ _;rw[D];refine⟨by rw[Bz,D,Aqk],.inr ⟨g5,cap,((splice cl (a+1) ((Av out2).drop a)).set a (.string H)).toArray,rfl,t.o.1,?_,az,t.o.2.2.2.1,?_,?_⟩⟩
             ·rw[Anb _ g5 a _ _ (.string H) z.o.1];congr 2;apply Api;simp
             ·rw[Anq,Aou,ag,Aqk]
             ·rw[Aqk,al.o,r.o.1];simp[Av,List.map_take,List.map_drop]
            ·exact z.o.2.setCell (p:=⟨g5,a,none⟩) (.inl t.o.1) _
           case measure=>simp[intOf];omega
       ·have ba:decide ((a:Int)<(out2.length:Int))=false:=Anc (by omega);have F:Aside (Hm.HS (Hm.cdL o) n (c+1) fr (out2.take a++y::out2.drop a)):=by
         have:=C.o.put b J.o.2 (by rw[J.o.1];omega) au aj (by rw[J.o.1,←r.o.2.1];exact an.o) (fun k=>absurd k ai);rwa[J.o.1,←r.o.2.1]at this
        go_wp2_with(at_builtin;refine Bg _ rfl (.tmp 57) (.tmp 58) 26 rfl W.heap.size 9 i0 (.string ⟨#[]⟩) 1 16 underlying26 hi aM ak aN rfl (by decide) _ _ _ rfl (q.o.alloc _) ⟨wr.heap.size,0,none⟩ 1 1 [.string ⟨#[]⟩] rfl rfl ?c1 ?c2 ?c3 ?c4 ?c5 ?_)
        case c1=>exact cell_one_new _ _ _
        case c2=>intro u hu;simp at hu;subst hu;rfl
        case c3=>unfold maxLen;omega
        case c4=>omega
        case c5=>have:=m.o.size;simp;omega
        intro v5 w5 af aa ay;have ac:Ara W w5:=(m.o.alloc _).grown aa (fun j hj=> .inl (q.o.lt j hj).1);obtain⟨g5,cap,cur,a2,O,G,az,U,A,B⟩: ∃g cap cur,v5= .slice (some ⟨g,0,none⟩) (out2.length+1) cap∧W.heap.size≤g∧w5.heap[g]?=some (.cells cur 9 (0,0))∧out2.length+1≤cap∧cap≤maxLen∧cur.size=cap*1∧cur.toList.take ((out2.length+1)*1)=Av out2++[.string ⟨#[]⟩]:=by
         rcases af.2 with⟨_,h⟩|h
         ·omega
         ·exact h
        subst a2;rw[Aqk]at A B;obtain⟨cl,T⟩: ∃cl:Are,cl=cur.toList:=⟨_,rfl⟩;have V:cur=cl.toArray:=by rw[T]
        rw[V]at G A B;rw[Anq]at A;clear aa ay af T V;have t:Aside (W.heap.size≤g5∧w5.heap[g5]?=some (.cells cl.toArray 9 (0,0))∧Ara W w5∧cap≤maxLen∧cl.take (out2.length+1)=Av out2++[.string ⟨#[]⟩]):=⟨O,G,ac,U,by simpa using B⟩;clear O G ac U B;have aY:(a:Int)≤(out2.length:Int):=by omega
        have aH:(out2.length:Int)+1≤(cap:Int):=by omega
        go_wp2_with fail;have a4:IntKind.i64.wrap ((a:Int)+1)=(a:Int)+1:=by rw[An9];omega
        have a1:((a:Int)+1).toNat=a+1:=by omega
        have Q: ¬cap=a:=by omega
        refine Aph (S:=fun _=>True) (by kernel_rfl) trivial (fun hHeld=>?_)
        refine tK 0 ⟨some 60,.move (.tmp 3),26,"hoardref.go:202",#[],none⟩ ?_ ?_ ?_
        rotate_left
        ·intro X f;go_simp
         with_reducible rfl
        simp only[Act.put,Am6,Am8,Am9]
        refine tK 1 ⟨some 61,.move (.tmp 8),3,"hoardref.go:202",#[],none⟩ ?_ ?_ ?_
        rotate_left
        ·intro X f;go_simp
         with_reducible rfl
        simp only[Act.put,Am6,Am8,Am9]
        refine tK 2 ⟨some 62,.binOp .add 3 (.tmp 61) (.const (.int .i64 1)) 3,3,"hoardref.go:202",#[⟨1,.data⟩],none⟩ (.int .i64 ((a : Int) + 1)) ?_ ?_
        ·intro X f;go_simp
         all_goals(try rw[a4])
         all_goals(try rfl)
        simp only[Act.put,Am6,Am8,Am9]
        refine tK 3 ⟨some 63,.slice 26 (.tmp 60) (some (.tmp 62)) none none,26,"hoardref.go:202",#[⟨0,.data⟩,⟨2,.data⟩],none⟩ (.slice (if cap = a + 1 then some ⟨g5, 0, none⟩ else some ⟨g5, a + 1, none⟩) (out2.length + 1 - (a + 1)) (cap - (a + 1))) ?_ ?_
        ·intro X f;go_simp
         all_goals(try rw[if_pos (by omega)])
         all_goals(try simp only[a1])
         all_goals(try rfl)
         all_goals(try(intro ae;exfalso;omega))
        simp only[Act.put,Am6,Am8,Am9]
        refine tK 4 ⟨some 64,.move (.tmp 3),26,"hoardref.go:202",#[],none⟩ ?_ ?_ ?_
        rotate_left
        ·intro X f;go_simp
         with_reducible rfl
        simp only[Act.put,Am6,Am8,Am9]
        refine tK 5 ⟨some 65,.move (.tmp 8),3,"hoardref.go:202",#[],none⟩ ?_ ?_ ?_
        rotate_left
        ·intro X f;go_simp
         with_reducible rfl
        simp only[Act.put,Am6,Am8,Am9]
        refine tK 6 ⟨some 66,.slice 26 (.tmp 64) (some (.tmp 65)) none none,26,"hoardref.go:202",#[⟨4,.data⟩,⟨5,.data⟩],none⟩ (.slice (some ⟨g5, a, none⟩) (out2.length + 1 - a) (cap - a)) ?_ ?_
        ·intro X f;go_simp
         all_goals(try rw[if_pos (by omega)])
         all_goals(try rw[if_neg Q])
         all_goals(try rfl)
         all_goals(try(intro ae;exfalso;omega))
        simp only[Act.put,Am6,Am8,Am9];refine An1 (rs:=[7]) (by kernel_rfl) (by simp) ?_
        refine AllReadyH.cons (o := ⟨some 67,.call ⟨.builtin .copy,#[.tmp 63,.tmp 66],#[26,26]⟩,3,"hoardref.go:202",#[⟨3,.data⟩,⟨6,.data⟩],none⟩) rfl (fun K hK => ?_) AllReadyH.nil
        have s:((Av out2).drop a).length=out2.length-a:=by rw[Aoi,Bz]
        have R: ∀i,i<out2.length→cl[i]?=(Av out2)[i]?:=fun i hi=>by
         have h1:(cl.take (out2.length+1))[i]?=cl[i]?:=Apg (by omega);rw[←h1,t.o.2.2.2.2,An6 (by rw[Bz];omega)]
        refine step_copy_splice (o := ⟨some 67,.call ⟨.builtin .copy,#[.tmp 63,.tmp 66],#[26,26]⟩,3,"hoardref.go:202",#[⟨3,.data⟩,⟨6,.data⟩],none⟩) rfl (.tmp 63) (.tmp 66) 26 26 rfl 9 underlying26 (by rw [hi]; simp [ak]) _ _ _ _ _ _ rfl rfl g5 (a + 1) cl 9 t.o.2.1 ((Av out2).drop a) ?d1 ?d2 ?d3 ?d4 g5 w5.drew (Below.refl _ _) (Nat.le_refl _) ?d5
        case d1=>rw[s];show _=min (out2.length+1-a) (out2.length+1-(a+1));omega
        case d2=>
         intro hp;rw[s]at hp;refine⟨by rw[if_neg (by omega)],_,rfl,fun j v hj=>?_⟩;rw[Aqz]at hj;have ax:a+j<out2.length:=by
          have:=(List.getElem?_eq_some_iff.1 hj).1;rw[Bz]at this;exact this
         have aq:(⟨g5,a,none⟩:Addr).add j=⟨g5,a+j,none⟩:=by cases j<;>simp[Addr.add]
         rw[aq];rw[Am7 _ _ (a+j) _ _ _ (show w5.drew.heap[g5]?=_ from t.o.2.1),Anw,R _ ax,hj]
        case d3=>rw[s];omega
        case d4=>
         intro v hv;have h1:=Mf out2;rw[Apw]at h1;exact h1 v (by simpa using List.mem_of_mem_drop hv)
        case d5=>
         intro w6 ah l;refine hK.o _ _ trivial (fun hHeld=>?_);clear hK K;refine Apn (by kernel_rfl) ?_ _;have ag:(splice cl (a+1) ((Av out2).drop a)).length=cap:=by rw[length_splice _ _ _ (by rw[s];omega)];exact A
         have ad:Aa (fun j=>g5≤j) w5.drew w6:=⟨l.os,l.tape,l.output,l.size,fun j _ hn=>l.block j (by omega)⟩;have N:Ara W w6:=(t.o.2.2.1.drew).trans ad (fun j h1 h2=>by have:=t.o.1;omega);have z:Aside (w6.heap[g5]?=some (.cells (splice cl (a+1) ((Av out2).drop a)).toArray 9 (0,0))∧Ara W w6):=⟨ah.o,N⟩;obtain⟨old,E⟩: ∃old,(splice cl (a+1) ((Av out2).drop a))[a]?=some old:=⟨_,Am5 (by rw[ag];omega)⟩;have co6:w6.cell? ⟨g5,a,none⟩=some old:=by rw[Am7 _ _ a _ _ _ z.o.1,Anw,E]
         have fo6:w6.frozen? ⟨g5,a,none⟩=false:=Ang _ _ a _ _ z.o.1;have aA:(a:Int)<(out2.length:Int)+1:=by omega
         have al:Aside (((splice cl (a+1) ((Av out2).drop a)).set a (.string H)).take (out2.length+1)=(Av out2).take a++ .string H::(Av out2).drop a):=Agv cl (Av out2) _ (.string H) out2.length a (Bz _) aj t.o.2.2.2.2 (by omega);clear l ad N ah E R;go_wp2_with fail;go_roundw
         case rel=>
          have D:(out2.take a++y::out2.drop a).length=out2.length+1:=by rw[Anf,An8,Anp,Aoi];omega
          refine⟨c+1,out2.take a++y::out2.drop a,by omega,by go_num,F.o,?_,?_⟩
          ·show World.ownsRow _ _ _ _ _ _ _;rw[D];refine⟨by rw[Bz,D,Aqk],.inr ⟨g5,cap,((splice cl (a+1) ((Av out2).drop a)).set a (.string H)).toArray,rfl,t.o.1,?_,az,t.o.2.2.2.1,?_,?_⟩⟩
           ·rw[Anb _ g5 a _ _ (.string H) z.o.1];congr 2;apply Api;simp
           ·rw[Anq,Aou,ag,Aqk]
           ·rw[Aqk,al.o,r.o.1];simp[Av,List.map_take,List.map_drop]
          ·exact z.o.2.setCell (p:=⟨g5,a,none⟩) (.inl t.o.1) _
         case measure=>simp[intOf];omega
    ·have P:c=256:=by omega
     have Y:decide ((c:Int)<256)=false:=Anc (by omega);have a8:Aside (Hm.HS (Hm.cdL o) n 256 fr out2):=by rw[←P];exact C.o
     clear L P
     by_cases I:out2.length=fr
     ·have aZ:((out2.length:Int)==(fr:Int))=true:=by rw[I];simp
      have HH:Aside (Hk (Hm.cdL o) out2):=a8.o.stop I;have ap:Aside (wr.ownsRow w.heap.size 9 1 (.slice ao2 out2.length co2) out2.length (Av out2)):=Gj q.o fun k hk=>by
       have h1:=(q.o.lt k hk).1;have h2:=HW.o.2.2;omega
      have am:Aside (Ara w wr):=HW.o.2.1.trans m.o (fun _ _ h=>h);clear I;go_wp2_with fail;go_ret;exact⟨_,out2,rfl,HH.o,av,ap.o,am.o⟩
     ·have aZ:((out2.length:Int)==(fr:Int))=false:=by rw[Aod];omega
      have aV:Aside (Hm.HS (Hm.cdL o) (n+1) 0 out2.length out2):=a8.o.next;go_wp2_with fail;go_roundw
      case rel=>exact⟨n+1,out2,by omega,by go_num,aV.o,q,m.o⟩
      case measure=>simp[intOf];omega
  ·have bc:n=256:=by omega
   have Y:decide ((n:Int)<256)=false:=Anc (by omega);have HH:Aside (Hk (Hm.cdL o) out):=HS.o.last fun b=>by
    have:=HG.o b.toNat b.toNat_lt;show(o.getD b.toNat []).length≤n;omega
   obtain⟨ao,co,a3,_⟩:=Aq HO.o;subst a3;have ap:Aside (wr.ownsRow w.heap.size 9 1 (.slice ao out.length co) out.length (Av out)):=Gj HO.o fun k hk=>by
    have h1:=(HO.o.lt k hk).1;have h2:=HW.o.2.2;omega
   have am:Aside (Ara w wr):=HW.o.2.1.trans a7.o (fun _ _ h=>h);go_wp2_with fail;go_ret;exact⟨_,out,rfl,HH.o,aC,ap.o,am.o⟩
namespace Hm
def Cw(cd:UInt8→List Bool)(h:List Bool)(col:Arc):List Bool:=(col.filter fun b=>Le (cd b) h).map fun b=>(cd b).getD h.length false
theorem Aei(cd:UInt8→List Bool)(h:List Bool)(col:Arc)(b:UInt8):Cw cd h (col++[b])=Cw cd h col++if Le (cd b) h then [(cd b).getD h.length false]else []:=by
 unfold Cw;rw[Ao8,Apk];congr 1;cases e:Le (cd b) h<;>simp[e]
theorem X4(cd:UInt8→List Bool)(h:List Bool)(col:Arc):(Cw cd h col).length≤col.length:=by
 unfold Cw;rw[Anz];exact Ap4 _ _
theorem T9(cd:UInt8→List Bool)(hs:List (List Bool))(col:Arc)(i:Nat)(hi:i<hs.length):F7 cd (hs.take (i+1)) col=F7 cd (hs.take i) col++Cw cd (hs.getD i []) col:=by
 unfold F7 Cw;rw[Anh hi,Ao4,Am4,Am5 hi];simp
theorem X5(cd:UInt8→List Bool)(hs:List (List Bool))(col:Arc): ∀i,i≤hs.length→(F7 cd (hs.take i) col).length≤i*col.length
 |0,_=>by simp[F7]
 |i+1,h=>by
  have h1:=X5 cd hs col i (by omega);have h2:=X4 cd (hs.getD i []) col;rw[T9 cd hs col i h,Anf,Ape];omega
theorem Ams(c h:List Bool):pre (Af h) (Af c)=Le c h:=by
 unfold pre Le;have e1:(Af h).length=h.length:=by simp[Af]
 have e2:(Af c).length=c.length:=by simp[Af]
 have e3:(Af c).take h.length=Af (c.take h.length):=by simp[Af,List.map_take]
 rw[e1,e2,e3]
 by_cases k:h.length≤c.length
 ·by_cases q:c.take h.length=h
  ·rw[Ana k,Ana ⟨k,q⟩,q];simp
  ·rw[Ana k,Anc (fun z=>q z.2),Bool.true_and,Aod];exact fun z=>q (Rr _ _ z)
 ·rw[Anc k,Anc (fun z=>k z.1)];rfl
end Hm
set_option maxRecDepth 20000 in
theorem Agb(s:ByteArray)(o:List (List Bool))(w:World)(S:o.length=256)(T: ∀x∈o,x.length≤255)(hs:s.size≤6001)
  (av: ∀b∈s.data.toList,∀b' h,h.length<(Hm.cdL o b').length→(Hm.cdL o b').take h.length=h→Le (Hm.cdL o b) h=true→h.length<(Hm.cdL o b).length):
  Calls prog 46 #[.string s,.agg (Av o).toArray] w fun e w'=> ∃hs:List (List Bool),Hk (Hm.cdL o) hs∧e= .returned (.string ⟨(Af (F7 (Hm.cdL o) hs s.data.toList)).toArray⟩)∧Ara w w':=by
 obtain⟨i0,hi,aw,ax,ay⟩:=Aoo Fh;have z:Aside (s.data.toList.length=s.size):=by show _=_;simp
 have ak: ∀b:Nat,b<256→(o.getD b []).length≤255:=fun b hb=>by
  rw[Am4,Am5 (show b<o.length from by omega)];exact T _ (Anm _)
 have HG:Aside (∀b:Nat,b<256→(o.getD b []).length≤255):=ak;have aa:Aside (o.length=256):=S;have a6:Aside _:=av;have Y:=fun W=>Aeh o W S T;have a3:Aside _:=Y;clear ak T S av Y
 go_enter func46,ntmps46
 go_upto_region 2 with fail
 have g0:TR (w.alloc (.cells (Av o).toArray 113)) w.heap.size o:=Anj w _;have ao:Ara w (w.alloc (.cells (Av o).toArray 113)):=(Aa.refl _ _).alloc _;generalize w.alloc (.cells (Av o).toArray 113)=W at*;have HW:Aside (TR W w.heap.size o∧Ara w W):=⟨g0,ao⟩;obtain⟨TT,D⟩: ∃a,a=(Av o).toArray:=⟨_,rfl⟩;have l:TT.size=256:=by rw[D,Anq,Bz];exact aa.o
 have I:W.heap[w.heap.size]?=some (.cells TT 113 (0,0)):=by rw[D];exact g0
 have O:=a3.o W;rw[←D]at O⊢;clear g0 ao D
 go_wp2_with(first
  |(refine Aoh rfl 113 _ rfl w.heap.size rfl 113 TT (0,0) _ I underlying113 rfl (by rw[l];exact Dm) ?_))
 refine O.mono ?_;rintro e W2 ⟨v,hd,rfl,am,aV,y,P⟩;obtain⟨ah,ch,hv,_⟩:=Aq y;subst hv;have V:Aside (Hk (Hm.cdL o) hd∧W2.ownsRow W.heap.size 9 1 (.slice ah hd.length ch) hd.length (Av hd)∧TR W2 w.heap.size o∧Ara w W2):=⟨am,y,HW.o.1.kept P id,HW.o.2.trans P (fun _ _ h=>h)⟩;clear am y P O I l;go_wp2_with fail
 go_loopw[5,7] (fun vs vi wr=> ∃i:Nat,i≤hd.length∧vi= .int .i64 i∧vs= .string ⟨(Af (F7 (Hm.cdL o) (hd.take i) s.data.toList)).toArray⟩∧Ara W2 wr) (fun _ vi _=>hd.length-(intOf vi).toNat)
 case atStart=>exact⟨0,by omega,rfl,by simp[F7,Af],Aa.refl _ _⟩
 case round=>
  obtain⟨i,aB,rfl,rfl,t⟩:=hrel;have Z:Aside (Ara W2 wr):=t;have a8:Aside (∀i,i≤hd.length→(F7 (Hm.cdL o) (hd.take i) s.data.toList).length≤i*s.data.toList.length):=X5 _ _ _
  by_cases R:i<hd.length
  ·have p:decide ((i:Int)<(hd.length:Int))=true:=Ana (by omega);have aW:(i:Int)<(hd.length:Int):=by omega
   obtain⟨g,hg⟩: ∃g,ah=some ⟨g,0,none⟩:=by
    rcases V.o.2.1.2 with⟨e,h0⟩|⟨g,cap,cur,e,_⟩
    ·omega
    ·exact⟨g,(Value.slice.inj e).1⟩
   subst hg;obtain⟨h,hh⟩: ∃h,h=hd.getD i []:=⟨_,rfl⟩;obtain⟨H,hH⟩: ∃H,H=(⟨(Af h).toArray⟩:ByteArray):=⟨_,rfl⟩;have aR:wr.cell? ⟨g,i,none⟩=some (.string H):=by
    have ho:=t.owns V.o.2.1 (fun _ _ h=>h);rw[ho.cellAt i (by omega),hH,hh];simp[Av,List.getD_eq_getElem?_getD,List.getElem?_eq_getElem R]
   have al:h∈hd:=by rw[hh];exact Aag R
   obtain⟨b',ad,ae⟩:=(V.o.1.mem h).1 al;have M:(Hm.cdL o b').length≤255:=HG.o b'.toNat b'.toNat_lt;have HH:Aside (H=(⟨(Af h).toArray⟩:ByteArray)∧h=hd.getD i []∧h.length<(Hm.cdL o b').length∧(Hm.cdL o b').take h.length=h):=⟨hH,hh,ad,ae⟩;have aO:H.size=h.length:=by rw[hH];show(Af h).toArray.size=_;simp[Af]
   have aN:h.length≤255:=by omega
   clear hH hh al ad ae M t;obtain⟨ts,l⟩: ∃ts,ts=(⟨(Af (F7 (Hm.cdL o) (hd.take i) s.data.toList)).toArray⟩:ByteArray):=⟨_,rfl⟩;rw[←l];have a9:Aside (ts=(⟨(Af (F7 (Hm.cdL o) (hd.take i) s.data.toList)).toArray⟩:ByteArray)):=l;have bb:ts.size≤400000000:=by
    have h1:=a8.o i aB;have h2:ts.size=(F7 (Hm.cdL o) (hd.take i) s.data.toList).length:=by rw[l];show(Af _).toArray.size=_;simp[Af]
    rw[z.o]at h1;have h3:i*s.size≤65792*6001:=Aoj (by omega) hs;omega
   clear l
   go_wp2_with(at_make;refine wpList_make_own _ rfl _ _ 79 rfl W2.heap.size 5 i0 (.int .u8 0) 1 underlying79 hi aw ax .i64 .i64 _ s.size rfl rfl rfl (by rw[ay];omega) (by unfold maxLen;omega) Z.o.size ?_;intro w3 ar ai)
   have ap:Ara W2 w3:=Z.o.grown ai (fun k hk=>by cases hk);clear ai
   go_loopw[9,10] (fun vb vk wx=> ∃k:Nat,k≤s.size∧vk= .int .i64 k∧Aside (wx.ownsRow W2.heap.size 5 1 vb (Cw (Hm.cdL o) h (s.data.toList.take k)).length (Ah (Af (Cw (Hm.cdL o) h (s.data.toList.take k)))))∧Ara W2 wx) (fun _ vk _=>s.size-(intOf vk).toNat)
   case atStart=>exact⟨0,by omega,rfl,ar,ap⟩
   case round=>
    clear ar ap;obtain⟨k,hk,rfl,m,E⟩:=hrel;have J:Aside (Ara W2 wr):=E;obtain⟨ab,cb,aF,_⟩:=Aq m.o;subst aF;have aT:(Cw (Hm.cdL o) h (s.data.toList.take k)).length≤6001:=by
     have h1:=X4 (Hm.cdL o) h (s.data.toList.take k);rw[Anp,z.o]at h1;omega
    by_cases f:k<s.size
    ·have p:decide ((k:Int)<(s.size:Int))=true:=Ana (by omega);have h8:=(s[k]'f).toNat_lt;have aQ:((s[k]'f).toNat:Int)<256:=by omega
     have Q:k<s.data.toList.length:=by rw[z.o];exact f
     have N:s.data.toList[k]'Q=s[k]'f:=rfl;have G:s[k]'f∈s.data.toList:=by rw[←N];exact Anm _
     obtain⟨c,hc⟩: ∃c,c=Hm.cdL o (s[k]'f):=⟨_,rfl⟩;obtain⟨C,L⟩: ∃C,C=(⟨(Af c).toArray⟩:ByteArray):=⟨_,rfl⟩;have ag:wr.cell? ⟨w.heap.size,(s[k]'f).toNat,none⟩=some (.string C):=by
      rw[(V.o.2.2.1.kept E id).cell (by rw[aa.o];exact h8),L,hc];rfl
     have aS:c.length≤255:=by rw[hc];exact HG.o _ h8
     have aM:C.size=c.length:=by rw[L];show(Af c).toArray.size=_;simp[Af]
     have d:=fun W=>Abj C H W (by omega) (by omega);have hpb:Hm.pre H.data.toList C.data.toList=Le c h:=by rw[HH.o.1,L];exact Ams c h
     rw[hpb]at d;have A:Aside (Cw (Hm.cdL o) h (s.data.toList.take (k+1))=Cw (Hm.cdL o) h (s.data.toList.take k)++if Le c h then [c.getD h.length false]else []):=by
      show _=_;rw[Anh Q,Aei,N,←hc]
     have K:Aside (Le c h=true→h.length<c.length):=fun hb=>by
      rw[hc]at hb⊢;exact a6.o _ G b' h HH.o.2.2.1 HH.o.2.2.2 hb
     have HC:Aside (C=(⟨(Af c).toArray⟩:ByteArray)):=L;clear E hpb N G Q L hc;cases hb:Le c h with
     |true=>
      rw[hb]at d;have aq:h.length<c.length:=K.o hb;have F:h.length<C.size:=by omega
      have aY:(h.length:Int)<(C.size:Int):=by omega
      have X:Aside (Ah (Af (Cw (Hm.cdL o) h (s.data.toList.take (k+1))))=Ah (Af (Cw (Hm.cdL o) h (s.data.toList.take k)))++[.int .u8 ((C[h.length]'F).toNat:Nat)]∧(Cw (Hm.cdL o) h (s.data.toList.take (k+1))).length=(Cw (Hm.cdL o) h (s.data.toList.take k)).length+1):=by
       have e:=A.o;rw[hb,if_pos rfl]at e;rw[e];refine⟨?_,by simp⟩;have e2:C[h.length]'F=if c.getD h.length false then 49 else 48:=by
        have L:=HC.o;subst L;show(Af c).toArray[h.length]'_=_;rw[List.getElem_toArray];simp[Af,List.getD_eq_getElem?_getD,List.getElem?_eq_getElem aq]
       rw[e2];simp[Ah,Af]
      clear A K hb aq;go_wp2_with fail;refine(d _).mono ?_;rintro e w4 ⟨rfl,U⟩;have n:Aside (w4.ownsRow W2.heap.size 5 1 (.slice ab (Cw (Hm.cdL o) h (s.data.toList.take k)).length cb) (Cw (Hm.cdL o) h (s.data.toList.take k)).length (Ah (Af (Cw (Hm.cdL o) h (s.data.toList.take k))))):=by
       obtain⟨q,rfl⟩:=U;exact m.o
      have r:Ara W2 w4:=by
       obtain⟨q,rfl⟩:=U;exact J.o.drewN q
      clear U d m ag
      go_wp2_with(at_builtin;refine Bg _ rfl (.tmp 43) (.tmp 48) 79 rfl W2.heap.size 5 i0 (.int .u8 0) 1 1 underlying79 hi aw ax ay rfl (by decide) _ _ _ rfl (n.o.alloc _) ⟨w4.heap.size,0,none⟩ 1 1 [.int .u8 ((C[h.length]'F).toNat:Nat)] rfl rfl ?c1 ?c2 ?c3 ?c4 ?c5 ?_)
      case c1=>exact cell_one_new _ _ _
      case c2=>intro u hu;simp at hu;subst hu;rfl
      case c3=>unfold maxLen;omega
      case c4=>omega
      case c5=>have:=r.size;simp;omega
      intro v5 w5 au aj aE;have aC:Ara W2 w5:=(r.alloc _).grown aj (fun j hj=> .inl (n.o.lt j hj).1);have a5:Aside (w5.ownsRow W2.heap.size 5 1 v5 ((Cw (Hm.cdL o) h (s.data.toList.take k)).length+1) (Ah (Af (Cw (Hm.cdL o) h (s.data.toList.take k)))++[.int .u8 ((C[h.length]'F).toNat:Nat)])):=au;clear au aj aE n r;go_wp2_with fail;go_roundw
      case rel=>
       refine⟨k+1,by omega,by go_num,?_,aC⟩;show World.ownsRow _ _ _ _ _ _ _;rw[X.o.1,X.o.2];exact a5.o
      case measure=>simp[intOf];omega
     |false=>
      rw[hb]at d;have ac:Aside (Cw (Hm.cdL o) h (s.data.toList.take (k+1))=Cw (Hm.cdL o) h (s.data.toList.take k)):=by
       show _=_;rw[A.o,hb];simp
      clear A K hb;go_wp2_with fail;refine(d _).mono ?_;rintro e w4 ⟨rfl,U⟩;have n:Aside (w4.ownsRow W2.heap.size 5 1 (.slice ab (Cw (Hm.cdL o) h (s.data.toList.take k)).length cb) (Cw (Hm.cdL o) h (s.data.toList.take k)).length (Ah (Af (Cw (Hm.cdL o) h (s.data.toList.take k))))):=by
       obtain⟨q,rfl⟩:=U;exact m.o
      have r:Ara W2 w4:=by
       obtain⟨q,rfl⟩:=U;exact J.o.drewN q
      clear U d m ag;go_wp2_with fail;go_roundw
      case rel=>
       refine⟨k+1,by omega,by go_num,?_,r⟩;show World.ownsRow _ _ _ _ _ _ _;rw[ac.o];exact n.o
      case measure=>simp[intOf];omega
    ·have aD:k=s.size:=by omega
     have p:decide ((k:Int)<(s.size:Int))=false:=Anc (by omega);have aA:=Ii m.o;obtain⟨B,hB⟩: ∃B,B=(⟨(Af (Cw (Hm.cdL o) h (s.data.toList.take k))).toArray⟩:ByteArray):=⟨_,rfl⟩;have aL:B.size≤6001:=by
      have:B.size=(Cw (Hm.cdL o) h (s.data.toList.take k)).length:=by rw[hB];show(Af _).toArray.size=_;simp[Af]
      omega
     rw[←hB]at aA;have HR:Aside (ts++B=(⟨(Af (F7 (Hm.cdL o) (hd.take (i+1)) s.data.toList)).toArray⟩:ByteArray)):=by
      show _=_;have hT:s.data.toList.take k=s.data.toList:=An5 (by rw[z.o];omega);rw[a9.o,hB,hT,Qp,T9 _ _ _ _ R,Hr,←HH.o.2.1]
     have ba: ¬9223372036854775807<ts.size+B.size:=by omega
     clear hB E aD;go_wp2_with fail;go_roundw
     case rel=>exact⟨i+1,by omega,by go_num,by rw[HR.o],J.o⟩
     case measure=>simp[intOf];omega
  ·have an:i=hd.length:=by omega
   have p:decide ((i:Int)<(hd.length:Int))=false:=Anc (by omega);have HR:Aside (hd.take i=hd):=by show _=_;rw[an,Aof]
   have a4:Aside (Ara w wr):=V.o.2.2.2.trans t (fun _ _ h=>h);clear an t;go_wp2_with fail;go_ret;exact⟨hd,V.o.1,by rw[HR.o];rfl,a4.o⟩
end Go.Proofs.YtegnkfdbmmndaaaGreat
namespace Go.Proofs.YtegnkfdbmmndaaaGreat
open Hm Go.Proofs.Tryz
namespace Hm
theorem Bu.prefixes{L:Ard}(a:Bu L){b:UInt8}(hb:b∈Ae L){b':UInt8}{h:List Bool}(h1:h.length<(J6 (lnB L) (Bh L) b').length)(h2:(J6 (lnB L) (Bh L) b').take h.length=h)(k:Le (J6 (lnB L) (Bh L) b) h=true):h.length<(J6 (lnB L) (Bh L) b).length:=by
 obtain⟨N,_,g⟩:=a.ends;have m:Ae L≠[]:=fun e=>by rw[e]at hb;simp at hb
 have d:=g.nodes;have c:=g.len;have o:=g.side0 m;have hk:=a.numk;have n:=d.heads hk (fun j f=>o j (by rw[c]at f;exact f)) a.num_lt (fun b hb=>(a.mem b).2 hb);have l:=(n.mem h).2 ⟨b',h1,h2⟩;unfold P9 at l;obtain⟨j,f,rfl⟩:=List.mem_map.1 l;have i:j<(Ao (lnB L) (Ae L) (2*N)).1.length:=by simpa using f
 rw[d.begins hk a.num_lt i hb (a.pos b hb)]at k;have:=(Aoc k).1;rw[Cj];show _<(Db _ _).length;rw[Cj];exact this
theorem Aah{L:Ard}(a:Bu L){o:List (List Bool)}{ok:Bool}(h:Du L o ok):cdL o=J6 (lnB L) (Bh L):=funext (Aga a h).2
theorem Akk{L:Ard}(a:Bu L){o:List (List Bool)}{ok:Bool}(h:Du L o ok)(c:o.length=256): ∀x∈o,x.length≤255:=by
 intro x b;obtain⟨i,hi,rfl⟩:=Aog b;have h1:=congrFun (Aah a h) (UInt8.ofNat i);have h2:(UInt8.ofNat i).toNat=i:=by rw[Aoa];omega
 unfold cdL at h1;rw[h2,Am4,Am5 hi]at h1;simp only[Aps]at h1;rw[h1];show(Db _ _).length≤255;rw[Cj];exact a.le255 _
end Hm
open Go.RowKit
theorem Abk(s:ByteArray)(L:Ard)(o:List (List Bool))(ok:Bool)(N:Nat)(w:World)(a:Bu L)(i:Hm.Ends 32 (Hm.lnB L) (Ae L) N)(g:o.length=256)(h:Du L o ok)(hs:s.size≤6001)(f: ∀b∈s.data.toList,b∈Ae L):
  Calls prog 46 #[.string s,.agg (Av o).toArray] w fun e w'=>e= .returned (.string ⟨(Af (D5 L N s.data.toList)).toArray⟩)∧Ara w w':=by
 have e:=Aah a h;refine(Agb s o w g (Akk a h g) hs ?_).mono ?_
 ·intro b hb b' hd h1 h2 c;rw[e]at h1 h2 c⊢;exact a.prefixes (f b hb) h1 h2 c
 ·rintro en w' ⟨hd,d,rfl,hk⟩;rw[e]at d⊢;rw[Pd a i f d];exact⟨rfl,hk⟩
end Go.Proofs.YtegnkfdbmmndaaaGreat
namespace Go.Proofs.YtegnkfdbmmndaaaGreat
open Hm Go.Proofs.Tryz
namespace Hm
def Iy(ps:Ard)(i:Nat):Nat:=if A8 ps<i then A8 ps else 0
theorem Agc{n:Nat}{ps:Ard}(h:ps.Perm (List.range (n+1)))(i:Nat)(hi:i<ps.length):Iy ps (i+1)=if ps[i]=0 then i else Iy ps i:=by
 have:=Q9 h i hi;unfold Iy
 by_cases e:ps[i]=0
 ·have:=this.1 e;rw[if_pos e,if_pos (by omega)];omega
 ·have a: ¬i=A8 ps:=fun k=>e (this.2 k);rw[if_neg e]
  by_cases q:A8 ps<i
  ·rw[if_pos (by omega),if_pos q]
  ·rw[if_neg (by omega),if_neg q]
theorem Agd{n:Nat}{ps:Ard}(h:ps.Perm (List.range (n+1))):Iy ps (n+1)=A8 ps:=by
 have a:0∈ps:=h.symm.subset (by simp);have c:A8 ps<ps.length:=List.findIdx_lt_length_of_exists ⟨0,a,by simp⟩;have b:ps.length=n+1:=by have:=h.length_eq;simpa using this
 unfold Iy;rw[if_pos (by omega)]
end Hm
end Go.Proofs.YtegnkfdbmmndaaaGreat
