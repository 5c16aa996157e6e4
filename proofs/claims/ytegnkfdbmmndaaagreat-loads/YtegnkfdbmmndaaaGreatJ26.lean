import Derived.Test.YtegnkfdbmmndaaaGreatJ00
import Derived.Test.YtegnkfdbmmndaaaGreatJ25
import Derived.Test.YtegnkfdbmmndaaaGreatJ13
import Derived.Test.YtegnkfdbmmndaaaGreatJ08

namespace Go.Proofs.YtegnkfdbmmndaaaGreat
open Hm
open Go.RowKit
theorem Ace(s:ByteArray)(x y:Nat):Op.bytesLess (s.extract x s.size).toList (s.extract y s.size).toList=true↔Hm.lt s.data.toList x y:=by
 have e: ∀a,(s.extract a s.size).data.toList=s.data.toList.drop a:=fun a=>by
  rw[Aom,Aos,Anz];exact Al8 (by simp)
 rw[Amq,Amq,e,e,Qv]
set_option maxHeartbeats 400000 in
theorem Z9(s:ByteArray)(f:Nat)(w:World)(_hf:f≤6000):
  Calls Tryz.prog 40 #[.string s,.int .i64 f,.int .i64 ((f+1:Nat):Int)] w fun e w'=> ∃v,e= .returned v∧w'.ownsRow w.heap.size 3 1 v 1 (Ac [f])∧Apd w w':=by
 obtain⟨t,ht⟩: ∃t,t=f+1:=⟨_,rfl⟩;have hz:(t:Int)-(f:Int)=1:=by omega
 rw[←ht];clear ht
 go_enter Tryz.func40,Tryz.ntmps40
 go_wp2;go_ret;refine⟨_,rfl,?_,(Aa.refl _ _).alloc _⟩;exact⟨by simp[Ac],.inr ⟨w.heap.size,1,#[.int .i64 (f:Nat)],rfl,Ale _,All w _,Ale _,by unfold maxLen;omega,rfl,by simp[Ac]⟩⟩
set_option maxHeartbeats 1000000 in
theorem Aaa(s:ByteArray)(f m t:Nat)(w:World)(hs:s.size≤6000)(hfm:f<m)(hmt:m<t)(ht:t≤s.size+1)(hm:m=(f+t)/2)
  (IH: ∀f' t' W,f'<t'→t'≤s.size+1→t'-f'<t-f→Calls Tryz.prog 40 #[.string s,.int .i64 (f':Nat),.int .i64 (t':Nat)] W fun e w'=> ∃v ps,e= .returned v∧I0 s.data.toList f' t' ps∧w'.ownsRow W.heap.size 3 1 v ps.length (Ac ps)∧Apd W w'):
  Calls Tryz.prog 40 #[.string s,.int .i64 f,.int .i64 t] w fun e w'=> ∃v ps,e= .returned v∧I0 s.data.toList f t ps∧w'.ownsRow w.heap.size 3 1 v ps.length (Ac ps)∧Apd w w':=by
 obtain⟨i0,hi,hz0,hz1,hz2⟩:=Amz Jo;have hz:(((t:Int)-(f:Int))==1)=false:=by simp;omega
 have zm:((f:Int)+(t:Int))/2=(m:Int):=by omega
 have h1:=fun W=>IH f m W hfm (by omega) (by omega);have h2:=fun W=>IH m t W hmt ht (by omega);obtain⟨d,hd⟩: ∃d,d=t-f:=⟨_,rfl⟩;have zd:(t:Int)-(f:Int)=(d:Int):=by omega
 have hd2:d≤6001:=by omega
 have hz':((d:Int)==1)=false:=by simp;omega
 have HA:Aside (m=(f+t)/2∧d=t-f):=⟨hm,hd⟩;clear IH hm hd hz
 go_enter Tryz.func40,Tryz.ntmps40
 go_wp2_with fail;refine(h1 _).mono ?_;rintro e w1 ⟨va,a,rfl,hpa,hoa,hk1⟩;obtain⟨ga,ca,hva,_,hga⟩:=Cf hoa (by rw[hpa.len];omega);subst hva;have hga0:=(hoa.lt ga rfl).1;go_wp2_with fail;refine(h2 _).mono ?_;rintro e w2 ⟨vb,b,rfl,hpb,hob,hk2⟩;obtain⟨gb,cb,hvb,_,hgb⟩:=Cf hob (by rw[hpb.len];omega);subst hvb;have hgb0:=(hob.lt gb rfl).1;have hoa2:=hk2.owns hoa (fun _ _ h=>h);have hkw2:=hk1.trans hk2 (fun _ _ h=>h);have hla:=hpa.len;have hlb:=hpb.len;have HX:Aside (I0 s.data.toList f m a∧I0 s.data.toList m t b∧w2.ownsRow w.heap.size 3 1 (.slice (some ⟨ga,0,none⟩) a.length ca) a.length (Ac a)∧w2.ownsRow w1.heap.size 3 1 (.slice (some ⟨gb,0,none⟩) b.length cb) b.length (Ac b)∧Apd w w2∧a.length+b.length=d):=⟨hpa,hpb,hoa2,hob,hkw2,by have:=HA.out;omega⟩;have hga2:ga<w2.heap.size:=by have:=hk2.size;omega
 clear h1 h2 hpa hpb hoa hob hk1 hk2 hoa2 hkw2 hga hga0 hgb0;have hA1:a.length≤6001:=by omega
 have hB1:b.length≤6001:=by omega
 have HL:Aside (a.length=m-f∧b.length=t-m):=⟨hla,hlb⟩;clear hla hlb
 go_wp2_with(at_make;refine wpList_make_own _ rfl _ _ 64 rfl w2.heap.size 3 i0 (.int .i64 0) 1 Tryz.underlying64 hi hz0 hz1 .i64 .i64 _ d rfl rfl rfl (by rw[hz2];omega) (by unfold maxLen;omega) (Ale _) ?_;intro w3 ho3 hg3)
 have hk3:Apd w2 w3:=(Aa.refl _ _).grown hg3 (fun k hk=>by cases hk);clear hg3
 go_loopw[10,11,12] (fun vo vi vk wr=> ∃(i k:Nat) (out:List Nat),vi= .int .i64 i∧vk= .int .i64 k∧i≤a.length∧k≤b.length∧Hid (Gl s.data.toList a b i k out)∧Aside (wr.ownsRow w2.heap.size 3 1 vo out.length (Ac out))∧Apd w2 wr) (fun _ i k _=>a.length-(intOf i).toNat+(b.length-(intOf k).toNat))
 case atStart=>exact⟨0,0,[],rfl,rfl,Alr _,Alr _,Gl.none _ _ _,ho3,hk3⟩
 case round=>
  clear ho3 hk3;obtain⟨i,k,out,rfl,rfl,hi1,hk1,HM,HO,hkr⟩:=hrel;have hoa:=hkr.owns HX.out.2.2.1 (fun _ _ h=>h);have hob:=hkr.owns HX.out.2.2.2.1 (fun _ _ h=>h);have hol:out.length≤13000:=by have:=HM.out.perm.length_eq;simp at this;omega
  by_cases hia:i<a.length
  ·have hca:wr.cell? ⟨ga,i,none⟩=some (.int .i64 (a[i]:Nat)):=by
    rw[hoa.cellAt i (by omega)];simp[Ac,hia]
   have dA:decide ((i:Int)<(a.length:Int))=true:=Alb (by omega);have hma:=(HX.out.1.mem a[i] (Alo _));have hiI:(i:Int)<(a.length:Int):=by omega
   by_cases hkb:k<b.length
   ·have hcb:wr.cell? ⟨gb,k,none⟩=some (.int .i64 (b[k]:Nat)):=by
     rw[hob.cellAt k (by omega)];simp[Ac,hkb]
    have hmb:=(HX.out.2.1.mem b[k] (Alo _));have dB:decide ((k:Int)<(b.length:Int))=true:=Alb (by omega);have dE:((k:Int)==(b.length:Int))=false:=by simp;omega
    have hx1:a[i]≤s.size:=by omega
    have hy1:b[k]≤s.size:=by omega
    have hkI:(k:Int)<(b.length:Int):=by omega
    by_cases hless:Hm.lt s.data.toList a[i] b[k]
    ·have HN:Hid (Gl s.data.toList a b (i+1) k (out++[a[i]])):=HM.out.left HX.out.1.srt hia (Aex HX.out.2.1.srt hkb hless);have hbl:Op.bytesLess (s.extract a[i] s.size).toList (s.extract b[k] s.size).toList=true:=(Ace s _ _).2 hless;clear hless HM hoa hob hma hmb;generalize a[i]=x at*;generalize b[k]=y at*;have hxI:(x:Int)≤(s.size:Int):=by omega
     have hyI:(y:Int)≤(s.size:Int):=by omega
     have HOD:Aside (wr.drew.ownsRow w2.heap.size 3 1 u10 out.length (Ac out)):=HO.out;obtain⟨ao,co,hvo,_⟩:=Ay HO.out;subst hvo;go_wp2_with fail
     go_region
     go_wp2_with(at_builtin;refine A7 _ rfl (.tmp 70) (.tmp 75) 64 rfl w2.heap.size 3 i0 (.int .i64 0) 1 8 Tryz.underlying64 hi hz0 hz1 hz2 rfl (by decide) _ _ _ rfl (HOD.out.alloc _) ⟨wr.heap.size,0,none⟩ 1 1 [.int .i64 (x:Nat)] rfl rfl ?c1 ?c2 ?c3 ?c4 ?c5 ?_)
     case c1=>exact An9 _ _ _
     case c2=>intro u hu;simp at hu;subst hu;rfl
     case c3=>unfold maxLen;omega
     case c4=>omega
     case c5=>have:=hkr.size;simp;omega
     intro v5 w5 ho5 hg5 hm5;have hk5:Apd w2 w5:=(hkr.drew.alloc _).grown hg5 (fun j hj=> .inl (HO.out.lt j hj).1);have HO5:Aside (w5.ownsRow w2.heap.size 3 1 v5 (out.length+1) (Ac out++[.int .i64 (x:Nat)])):=ho5;clear ho5 hg5 hm5 HO HOD;go_wp2;go_roundw
     case rel=>
      refine⟨i+1,k,out++[x],by go_num,rfl,by omega,hk1,HN,?_,hk5⟩;have e1:Ac (out++[x])=Ac out++[.int .i64 (x:Nat)]:=by simp[Ac]
      show World.ownsRow _ _ _ _ _ _ _;rw[e1,Alg];exact HO5.out
     case measure=>simp[intOf];omega
    ·have hne:b[k]≠a[i]:=by omega
     have hsl:s.data.toList.length=s.size:=by simp
     have hgt:Hm.lt s.data.toList b[k] a[i]:=by
      rcases Ajq s.data.toList (by rw[hsl];exact hy1) (by rw[hsl];exact hx1) hne with h|h
      ·exact h
      ·exact absurd h hless
     have HN:Hid (Gl s.data.toList a b i (k+1) (out++[b[k]])):=HM.out.right HX.out.2.1.srt hkb (Aex HX.out.1.srt hia hgt);have hbl:Op.bytesLess (s.extract a[i] s.size).toList (s.extract b[k] s.size).toList=false:=by
      have:=mt (Ace s a[i] b[k]).1 hless;simpa using this
     clear hless HM hoa hob hma hmb hgt hne hsl;generalize a[i]=x at*;generalize b[k]=y at*;have hxI:(x:Int)≤(s.size:Int):=by omega
     have hyI:(y:Int)≤(s.size:Int):=by omega
     have HOD:Aside (wr.drew.ownsRow w2.heap.size 3 1 u10 out.length (Ac out)):=HO.out;obtain⟨ao,co,hvo,_⟩:=Ay HO.out;subst hvo;go_wp2_with fail
     go_region
     go_wp2_with(at_builtin;refine A7 _ rfl (.tmp 79) (.tmp 84) 64 rfl w2.heap.size 3 i0 (.int .i64 0) 1 8 Tryz.underlying64 hi hz0 hz1 hz2 rfl (by decide) _ _ _ rfl (HOD.out.alloc _) ⟨wr.heap.size,0,none⟩ 1 1 [.int .i64 (y:Nat)] rfl rfl ?c1 ?c2 ?c3 ?c4 ?c5 ?_)
     case c1=>exact An9 _ _ _
     case c2=>intro u hu;simp at hu;subst hu;rfl
     case c3=>unfold maxLen;omega
     case c4=>omega
     case c5=>have:=hkr.size;simp;omega
     intro v5 w5 ho5 hg5 hm5;have hk5:Apd w2 w5:=(hkr.drew.alloc _).grown hg5 (fun j hj=> .inl (HO.out.lt j hj).1);have HO5:Aside (w5.ownsRow w2.heap.size 3 1 v5 (out.length+1) (Ac out++[.int .i64 (y:Nat)])):=ho5;clear ho5 hg5 hm5 HO HOD;go_wp2;go_roundw
     case rel=>
      refine⟨i,k+1,out++[y],rfl,by go_num,hi1,by omega,HN,?_,hk5⟩;have e1:Ac (out++[y])=Ac out++[.int .i64 (y:Nat)]:=by simp[Ac]
      show World.ownsRow _ _ _ _ _ _ _;rw[e1,Alg];exact HO5.out
     case measure=>simp[intOf];omega
   ·have hke:b.length=k:=by omega
    have HN:Hid (Gl s.data.toList a b (i+1) k (out++[a[i]])):=HM.out.left HX.out.1.srt hia (by rw[←hke,Anl];intro y hy;simp at hy);have dE:((b.length:Int)==(b.length:Int))=true:=by simp
    clear HM hoa hob hma;generalize a[i]=x at*;subst hke;have HOD:Aside (wr.drew.ownsRow w2.heap.size 3 1 u10 out.length (Ac out)):=HO.out;obtain⟨ao,co,hvo,_⟩:=Ay HO.out;subst hvo;go_wp2_with fail
    go_region
    go_wp2_with(at_builtin;refine A7 _ rfl (.tmp 70) (.tmp 75) 64 rfl w2.heap.size 3 i0 (.int .i64 0) 1 8 Tryz.underlying64 hi hz0 hz1 hz2 rfl (by decide) _ _ _ rfl (HOD.out.alloc _) ⟨wr.heap.size,0,none⟩ 1 1 [.int .i64 (x:Nat)] rfl rfl ?c1 ?c2 ?c3 ?c4 ?c5 ?_)
    case c1=>exact An9 _ _ _
    case c2=>intro u hu;simp at hu;subst hu;rfl
    case c3=>unfold maxLen;omega
    case c4=>omega
    case c5=>have:=hkr.size;simp;omega
    intro v5 w5 ho5 hg5 hm5;have hk5:Apd w2 w5:=(hkr.drew.alloc _).grown hg5 (fun j hj=> .inl (HO.out.lt j hj).1);have HO5:Aside (w5.ownsRow w2.heap.size 3 1 v5 (out.length+1) (Ac out++[.int .i64 (x:Nat)])):=ho5;clear ho5 hg5 hm5 HO HOD;go_wp2;go_roundw
    case rel=>
     refine⟨i+1,b.length,out++[x],by go_num,rfl,by omega,hk1,HN,?_,hk5⟩;have e1:Ac (out++[x])=Ac out++[.int .i64 (x:Nat)]:=by simp[Ac]
     show World.ownsRow _ _ _ _ _ _ _;rw[e1,Alg];exact HO5.out
    case measure=>simp[intOf];omega
  ·have hie:a.length=i:=by omega
   by_cases hkb:k<b.length
   ·have hcb:wr.cell? ⟨gb,k,none⟩=some (.int .i64 (b[k]:Nat)):=by
     rw[hob.cellAt k (by omega)];simp[Ac,hkb]
    have HN:Hid (Gl s.data.toList a b i (k+1) (out++[b[k]])):=HM.out.right HX.out.2.1.srt hkb (by rw[←hie,Anl];intro y hy;simp at hy);have dA:decide ((a.length:Int)<(a.length:Int))=false:=Ald (by omega);have dB:decide ((k:Int)<(b.length:Int))=true:=Alb (by omega);have dE:((k:Int)==(b.length:Int))=false:=by simp;omega
    have hkI:(k:Int)<(b.length:Int):=by omega
    clear HM hoa hob;generalize b[k]=y at*;subst hie;have HOD:Aside (wr.drew.ownsRow w2.heap.size 3 1 u10 out.length (Ac out)):=HO.out;obtain⟨ao,co,hvo,_⟩:=Ay HO.out;subst hvo;go_wp2_with fail
    go_region
    go_wp2_with(at_builtin;refine A7 _ rfl (.tmp 79) (.tmp 84) 64 rfl w2.heap.size 3 i0 (.int .i64 0) 1 8 Tryz.underlying64 hi hz0 hz1 hz2 rfl (by decide) _ _ _ rfl (HOD.out.alloc _) ⟨wr.heap.size,0,none⟩ 1 1 [.int .i64 (y:Nat)] rfl rfl ?c1 ?c2 ?c3 ?c4 ?c5 ?_)
    case c1=>exact An9 _ _ _
    case c2=>intro u hu;simp at hu;subst hu;rfl
    case c3=>unfold maxLen;omega
    case c4=>omega
    case c5=>have:=hkr.size;simp;omega
    intro v5 w5 ho5 hg5 hm5;have hk5:Apd w2 w5:=(hkr.drew.alloc _).grown hg5 (fun j hj=> .inl (HO.out.lt j hj).1);have HO5:Aside (w5.ownsRow w2.heap.size 3 1 v5 (out.length+1) (Ac out++[.int .i64 (y:Nat)])):=ho5;clear ho5 hg5 hm5 HO HOD;go_wp2;go_roundw
    case rel=>
     refine⟨a.length,k+1,out++[y],rfl,by go_num,hi1,by omega,HN,?_,hk5⟩;have e1:Ac (out++[y])=Ac out++[.int .i64 (y:Nat)]:=by simp[Ac]
     show World.ownsRow _ _ _ _ _ _ _;rw[e1,Alg];exact HO5.out
    case measure=>simp[intOf];omega
   ·have hke:b.length=k:=by omega
    subst hie;subst hke;have dA:decide ((a.length:Int)<(a.length:Int))=false:=Ald (by omega);have dB:decide ((b.length:Int)<(b.length:Int))=false:=Ald (by omega);have HP:Aside (I0 s.data.toList f t out):=HM.out.done HX.out.1 HX.out.2.1 (by omega) (by omega);clear hoa hob HM;go_wp2;go_ret;refine⟨_,out,rfl,HP.out,E4 HO.out (fun j hj=>?_),HX.out.2.2.2.2.1.trans hkr (fun _ _ h=>h)⟩;have h1:=(HO.out.lt j hj).1;have h2:=HX.out.2.2.2.2.1.size;omega
theorem Qw(s:ByteArray)(hs:s.size≤6000): ∀(N f t:Nat) (w:World),t-f≤N→f<t→t≤s.size+1→
  Calls Tryz.prog 40 #[.string s,.int .i64 (f:Nat),.int .i64 (t:Nat)] w fun e w'=> ∃v ps,e= .returned v∧I0 s.data.toList f t ps∧w'.ownsRow w.heap.size 3 1 v ps.length (Ac ps)∧Apd w w'
 |0,f,t,w,h,hft,ht=>by omega
 |N+1,f,t,w,h,hft,ht=>by
  have ih:=Qw s hs N
  by_cases e:t=f+1
  ·subst e;refine(Z9 s f w (by omega)).mono ?_;rintro e w' ⟨v,he,ho,hk⟩;exact⟨v,[f],he,I0.one _ f,ho,hk⟩
  ·exact Aaa s f ((f+t)/2) t w hs (by omega) (by omega) ht rfl (fun f' t' W h1 h2 h3=>ih f' t' W (by omega) h1 h2)
namespace Hm
def K5(l:List UInt8)(c:Nat):Bool:=l.any fun b=>b.toNat==c
theorem Aib(l:List UInt8)(c k:Nat)(h:k<l.length):K5 (l.take (k+1)) c=(K5 (l.take k) c||l[k].toNat==c):=by
 rw[Ali h];unfold K5;rw[List.any_append];simp only[List.any_cons,List.any_nil,Bool.or_false]
def N9:Option Nat→Int
 |none=> -1
 |some j=>j
def Ca(wt:List Nat)(but:Int):Nat→Option Nat
 |0=>none
 |c+1=>if(c:Int)≠but∧0<wt.getD c 0∧(∀j,Ca wt but c=some j→wt.getD c 0<wt.getD j 0)then some c else Ca wt but c
theorem P9(wt:List Nat)(but:Int): ∀c j,Ca wt but c=some j→j<c
 |0,j,h=>by simp[Ca]at h
 |c+1,j,h=>by
  rw[Ca]at h;split at h
  ·cases h;omega
  ·have:=P9 wt but c j h;omega
theorem Lr(wt:List Nat)(but:Int): ∀c,(∀j,Ca wt but c=some j→(j:Int)≠but∧0<wt.getD j 0∧ ∀i,i<c→(i:Int)≠but→0<wt.getD i 0→wt.getD j 0<wt.getD i 0∨(wt.getD j 0=wt.getD i 0∧j≤i))∧(Ca wt but c=none→ ∀i,i<c→(i:Int)≠but→wt.getD i 0=0)
 |0=>⟨fun j h=>by simp[Ca]at h,fun _ i h=>by omega⟩
 |c+1=>by
  obtain⟨h1,h2⟩:=Lr wt but c;have hlt:=P9 wt but c;rw[Ca]
  by_cases cd:(c:Int)≠but∧0<wt.getD c 0∧(∀j,Ca wt but c=some j→wt.getD c 0<wt.getD j 0)
  ·rw[if_pos cd];refine⟨fun j hj=>?_,fun h=>by cases h⟩;cases hj;refine⟨cd.1,cd.2.1,fun i hi hb hp=>?_⟩
   by_cases e:i=c
   ·subst e;exact .inr ⟨rfl,Ale _⟩
   ·cases hL:Ca wt but c with
    |none=>have:=h2 hL i (by omega) hb;omega
    |some j=>
     have a1:=(h1 j hL).2.2 i (by omega) hb hp;have a2:=cd.2.2 j hL;omega
  ·rw[if_neg cd];refine⟨fun j hj=>?_,fun hN i hi hb=>?_⟩
   ·obtain⟨b1,b2,b3⟩:=h1 j hj;refine⟨b1,b2,fun i hi hb hp=>?_⟩
    by_cases e:i=c
    ·subst e;have: ¬wt.getD i 0<wt.getD j 0:=fun k=>cd ⟨hb,hp,fun j' hj'=>by rw[hj]at hj';cases hj';exact k⟩;have:=hlt j hj;omega
    ·exact b3 i (by omega) hb hp
   ·by_cases e:i=c
    ·subst e;apply Ao3;intro hp;exact cd ⟨hb,by omega,fun j hj=>by rw[hN]at hj;cases hj⟩
    ·exact h2 hN i (by omega) hb
end Hm
set_option maxHeartbeats 400000 in
theorem Qx(s:ByteArray)(c:Nat)(w:World)(hs:s.size≤6000)(_hc:c<256):
  Calls Tryz.prog 87 #[.string s,.int .i64 c] w fun e w'=>e= .returned (.bool (K5 s.data.toList c))∧w'=w:=by
 have HSL:Aside (s.data.toList.length=s.size):=by show _=_;simp
 go_enter Tryz.func87,Tryz.ntmps87
 go_wp2
 go_loop [5] (fun i=> ∃k:Nat,k≤s.size∧i= .int .i64 k∧K5 (s.data.toList.take k) c=false) (fun i=>s.size-(intOf i).toNat)
 case atStart=>exact⟨0,Alr _,rfl,rfl⟩
 case round=>
  obtain⟨k,hk,rfl,hm⟩:=hrel;have HM:Aside (K5 (s.data.toList.take k) c=false):=hm;clear hm
  by_cases hlt:k<s.size
  ·have hdec:decide ((k:Int)<(s.size:Int))=true:=Alb (by omega);have hkl:k<s.data.toList.length:=by rw[HSL.out];exact hlt
   have HT:Aside (K5 (s.data.toList.take (k+1)) c=(K5 (s.data.toList.take k) c||s.data.toList[k].toNat==c)):=Aib _ c k hkl;have hge:s.data.toList[k]'hkl=s[k]'hlt:=rfl;rw[hge]at HT;have h8:=(s[k]'hlt).toNat_lt
   by_cases he:(s[k]'hlt).toNat=c
   ·have hb:(((s[k]'hlt).toNat:Int)==(c:Int))=true:=by simp;omega
    have HR:Aside (K5 s.data.toList c=true):=by
     show _=_;unfold K5;rw[List.any_eq_true];exact⟨s[k]'hlt,by rw[←hge];exact Alo _,beq_iff_eq.2 he⟩
    clear HT hge hkl he;go_wp2;go_ret;exact⟨by rw[HR.out];rfl,rfl⟩
   ·have hb:(((s[k]'hlt).toNat:Int)==(c:Int))=false:=by simp;omega
    have HN:Aside (K5 (s.data.toList.take (k+1)) c=false):=by
     show _=_;rw[HT.out,HM.out,Bool.false_or,Al5];exact he
    clear HT hge hkl he;go_wp2
    go_round
    case rel=>exact⟨k+1,by omega,by go_num,HN.out⟩
    case measure=>simp[intOf];omega
  ·obtain rfl:s.size=k:=by omega
   have hdec:decide ((s.size:Int)<(s.size:Int))=false:=Ald (by omega);have HR:Aside (K5 s.data.toList c=false):=by
    have:=HM.out;rw[←HSL.out,Ama]at this;exact this
   go_wp2;go_ret;exact⟨by rw[HR.out];rfl,rfl⟩
theorem Dp:(Tryz.prog.info? 94).map (·.size)=some 256:=by kernel_rfl
set_option maxHeartbeats 1000000 in
theorem Oa(wt:List Nat)(but:Int)(w:World)(hL:wt.length=256)(hx: ∀x∈wt,x≤100000)(_hb: -1≤but)(_hb2:but≤256):
  Calls Tryz.prog 86 #[.agg (Ac wt).toArray,.int .i64 but] w fun e w'=>e= .returned (.int .i64 (N9 (Ca wt but 256)))∧Apd w w':=by
 have hbox:(w.alloc (.cells (Ac wt).toArray 94)).heap[w.heap.size]?=some (.cells (Ac wt).toArray 94 (0,0)):=All w _;have hcell: ∀W:World,W.heap[w.heap.size]?=some (.cells (Ac wt).toArray 94 (0,0))→ ∀b:Nat,b<256→W.cell? ⟨w.heap.size,b,none⟩=some (.int .i64 (wt.getD b 0:Nat)):=by
  intro W hW b hb;rw[Alc _ _ b _ _ _ hW];simp[Ac,List.getD_eq_getElem?_getD,List.getElem?_eq_getElem (show b<wt.length from by omega)]
 have hgx: ∀b:Nat,wt.getD b 0≤100000:=fun b=>by
  rw[Ak6]
  by_cases h:b<wt.length
  ·rw[Ak7 h];exact hx _ (Alo _)
  ·rw[Al3 (by omega)];simp
 have HC:Aside _:=hcell;have HG:Aside _:=hgx;have HB:Aside _:=hbox;clear hcell hgx hx hL hbox;generalize(Ac wt).toArray=arr at*
 go_enter Tryz.func86,Tryz.ntmps86
 go_wp2_with fail;have hk0:Apd (w.alloc (.cells arr 94)) (w.alloc (.cells arr 94)):=Aa.refl _ _
 go_loopw[5,6] (fun b i wr=> ∃c:Nat,c≤256∧i= .int .i64 c∧b= .int .i64 (N9 (Ca wt but c))∧Apd (w.alloc (.cells arr 94)) wr) (fun _ i _=>256-(intOf i).toNat)
 case atStart=>exact⟨0,by omega,rfl,rfl,hk0⟩
 case round=>
  clear hk0;obtain⟨c,hc,rfl,rfl,hkr⟩:=hrel;have hbx:=hkr.row HB.out id
  by_cases hlt:c<256
  ·have hdec:decide ((c:Int)<256)=true:=Alb (by omega);have hcc:=HC.out wr hbx c hlt;have hgc:=HG.out c;have HS:Aside (Ca wt but (c+1)=if(c:Int)≠but∧0<wt.getD c 0∧(∀j,Ca wt but c=some j→wt.getD c 0<wt.getD j 0)then some c else Ca wt but c):=rfl;have hcI:(c:Int)<256:=by omega
   by_cases h1:(c:Int)=but
   ·have hn:((c:Int) !=but)=false:=by simp[h1]
    have HN:Aside (Ca wt but (c+1)=Ca wt but c):=by show _=_;rw[HS.out,if_neg (fun h=>h.1 h1)]
    clear HS hbx h1;generalize hbb:N9 (Ca wt but c)=bb at*;go_wp2_with fail
    go_region
    go_wp2;go_roundw
    case rel=>exact⟨c+1,by omega,by go_num,by rw[HN.out,hbb],hkr.drew⟩
    case measure=>simp[intOf];omega
   ·have hn:((c:Int) !=but)=true:=by simpa using h1
    by_cases h2:0<wt.getD c 0
    ·cases hL:Ca wt but c with
     |none=>
      have HN:Aside (Ca wt but (c+1)=some c):=by show _=_;rw[HS.out,if_pos ⟨h1,h2,fun j hj=>by rw[hL]at hj;cases hj⟩]
      have hd2:decide (0<wt.getD c 0)=true:=Alb h2;generalize wt.getD c 0=x at*;clear HS hbx h1 hL h2;rw[show N9 none= -1 from rfl];go_wp2_with fail
      go_region
      go_wp2;go_roundw
      case rel=>exact⟨c+1,by omega,by go_num,by rw[HN.out];go_num,hkr.drew⟩
      case measure=>simp[intOf];omega
     |some j=>
      have hjc:=P9 wt but c j hL;have hcj:=HC.out wr hbx j (by omega);have hgj:=HG.out j;have hjI:(j:Int)<256:=by omega
      have hd2:decide (0<wt.getD c 0)=true:=Alb h2;rw[show N9 (some j)=(j:Int)from rfl];have hj0:decide ((j:Int)<0)=false:=Ald (by omega)
      by_cases h3:wt.getD c 0<wt.getD j 0
      ·have HN:Aside (Ca wt but (c+1)=some c):=by show _=_;rw[HS.out,if_pos ⟨h1,h2,fun j' hj'=>by rw[hL]at hj';cases hj';exact h3⟩]
       have hd3:decide ((wt.getD c 0:Int)<(wt.getD j 0:Int))=true:=Alb (by omega);have hd4:decide (wt.getD c 0<wt.getD j 0)=true:=Alb h3;generalize wt.getD c 0=x at*;generalize wt.getD j 0=y at*;clear HS hbx h1 hL h2 h3;go_wp2_with fail
       go_region
       go_wp2;go_roundw
       case rel=>exact⟨c+1,by omega,by go_num,by rw[HN.out];go_num,hkr.drew⟩
       case measure=>simp[intOf];omega
      ·have HN:Aside (Ca wt but (c+1)=some j):=by show _=_;rw[HS.out,if_neg (fun h=>h3 (h.2.2 j hL)),hL]
       have hd3:decide ((wt.getD c 0:Int)<(wt.getD j 0:Int))=false:=Ald (by omega);have hd4:decide (wt.getD c 0<wt.getD j 0)=false:=Ald h3;generalize wt.getD c 0=x at*;generalize wt.getD j 0=y at*;clear HS hbx h1 hL h2 h3;go_wp2_with fail
       go_region
       go_wp2;go_roundw
       case rel=>exact⟨c+1,by omega,by go_num,by rw[HN.out];rfl,hkr.drew⟩
       case measure=>simp[intOf];omega
    ·have HN:Aside (Ca wt but (c+1)=Ca wt but c):=by show _=_;rw[HS.out,if_neg (fun h=>h2 h.2.1)]
     have hx0:wt.getD c 0=0:=by omega
     rw[hx0]at hcc;clear HS hbx h1 h2 hx0 hgc;generalize hbb:N9 (Ca wt but c)=bb at*;go_wp2_with fail
     go_region
     go_wp2;go_roundw
     case rel=>exact⟨c+1,by omega,by go_num,by rw[HN.out,hbb],hkr.drew⟩
     case measure=>simp[intOf];omega
  ·obtain rfl:256=c:=by omega
   have hdec:decide ((256:Int)<256)=false:=by decide
   clear hbx;go_wp2;go_ret;exact⟨rfl,((Aa.refl (fun _=>False) w).alloc _).trans hkr (fun _ _ h=>h)⟩
end Go.Proofs.YtegnkfdbmmndaaaGreat
namespace Go.Proofs.YtegnkfdbmmndaaaGreat
open Hm
namespace Hm
theorem Qy(gs:List Grp): ∀k,k≤gs.length→ ∀i,i<k→(gs.getD (Ci gs k) (0,0,[])).1<(gs.getD i (0,0,[])).1∨((gs.getD (Ci gs k) (0,0,[])).1=(gs.getD i (0,0,[])).1∧(gs.getD (Ci gs k) (0,0,[])).2.1.toNat≤(gs.getD i (0,0,[])).2.1.toNat)
 |0,_,i,h=>by omega
 |k+1,hk,i,h=>by
  have ih:=Qy gs k (by omega);rw[Ci];have neg: ∀g h:Grp,L4 g h<0↔ltP (g.1,g.2.1.toNat) (h.1,h.2.1.toNat):=fun g h=>Nr (g.1,g.2.1.toNat) (h.1,h.2.1.toNat)
  by_cases c:L4 (gs.getD k (0,0,[])) (gs.getD (Ci gs k) (0,0,[]))<0
  ·rw[if_pos c];have c':=(neg _ _).1 c;unfold ltP at c';simp only at c'
   by_cases e:i=k
   ·subst e;exact .inr ⟨rfl,Ale _⟩
   ·have:=ih i (by omega);omega
  ·rw[if_neg c];have c':=mt (neg _ _).2 c;unfold ltP at c';simp only at c'
   by_cases e:i=k
   ·subst e;omega
   ·exact ih i (by omega)
theorem Uf(gs:List Grp)(g:Grp)(hg:g∈gs):(Aq gs).1<g.1∨((Aq gs).1=g.1∧(Aq gs).2.1.toNat≤g.2.1.toNat):=by
 obtain⟨i,hi,rfl⟩:=Aml hg;have:=Qy gs gs.length (Ale _) i hi;rw[Ak6 (i:=i),Ak7 hi]at this;exact this
structure Sim(gs:List Grp)(wt inn:List Nat):Prop where
 lw:wt.length=256
 li:inn.length=256
 name: ∀g∈gs,g.2.1∈g.2.2
 pos: ∀g∈gs,0<g.1
 wi: ∀g∈gs,wt.getD g.2.1.toNat 0=g.1
 wo: ∀c,(∀g∈gs,g.2.1.toNat≠c)→wt.getD c 0=0
 ii: ∀g∈gs,∀b∈g.2.2,inn.getD b.toNat 0=g.2.1.toNat
 io: ∀b:UInt8,b∉Bd gs→inn.getD b.toNat 0=b.toNat
theorem Sim.perm{gs hs:List Grp}{wt inn:List Nat}(h:Sim gs wt inn)(p:gs.Perm hs):Sim hs wt inn:=
 ⟨h.lw,h.li,fun g hg=>h.name g (p.mem_iff.2 hg),fun g hg=>h.pos g (p.mem_iff.2 hg),fun g hg=>h.wi g (p.mem_iff.2 hg),fun c hc=>h.wo c fun g hg=>hc g (p.mem_iff.1 hg),fun g hg=>h.ii g (p.mem_iff.2 hg),fun b hb=>h.io b fun k=>hb ((p.flatMap_right (fun g:Grp=>g.2.2)).mem_iff.1 k)⟩
theorem Jz{x y:Grp}{gs:List Grp}(hn:(Bd (x::gs)).Nodup)(hx:x.2.1∈x.2.2)(hy:y∈gs)(hyn:y.2.1∈y.2.2):x.2.1.toNat≠y.2.1.toNat:=fun e=>by
 have e':x.2.1=y.2.1:=UInt8.toNat_inj.1 e;unfold Bd at hn;rw[Amg,List.nodup_append]at hn;exact hn.2.2 _ hx _ (List.mem_flatMap.2 ⟨y,hy,hyn⟩) e'
theorem Sim.first{gs:List Grp}{wt inn:List Nat}(h:Sim gs wt inn)(h0:0<gs.length):Ca wt (-1) 256=some (Aq gs).2.1.toNat:=by
 obtain⟨s1,s2⟩:=Lr wt (-1) 256;have ht:=Yw gs h0;cases hL:Ca wt (-1) 256 with
 |none=>
  have:=s2 hL (Aq gs).2.1.toNat (Aq gs).2.1.toNat_lt (by omega);rw[h.wi _ ht]at this;have:=h.pos _ ht;omega
 |some j=>
  obtain⟨_,a2,a3⟩:=s1 j hL;have hex: ∃g∈gs,g.2.1.toNat=j:=by
   apply Ao3;intro hc;have:=h.wo j fun g hg e=>hc ⟨g,hg,e⟩;omega
  obtain⟨g,hg,rfl⟩:=hex;have b1:=a3 (Aq gs).2.1.toNat (Aq gs).2.1.toNat_lt (by omega) (by rw[h.wi _ ht];exact h.pos _ ht);rw[h.wi _ ht,h.wi _ hg]at b1;have b2:=Uf gs g hg;congr 1;omega
theorem Sim.second{x:Grp}{gs:List Grp}{wt inn:List Nat}(h:Sim (x::gs) wt inn)(hn:(Bd (x::gs)).Nodup):Ca wt (x.2.1.toNat:Int) 256=if 0<gs.length then some (Aq gs).2.1.toNat else none:=by
 obtain⟨s1,s2⟩:=Lr wt (x.2.1.toNat:Int) 256;have hxm:x.2.1∈x.2.2:=h.name x Alp;have hne: ∀g∈gs,x.2.1.toNat≠g.2.1.toNat:=fun g hg=>Jz hn hxm hg (h.name g (Als _ hg))
 by_cases h0:0<gs.length
 ·rw[if_pos h0];have ht:=Yw gs h0;have ht':Aq gs∈x::gs:=Als _ ht;have hnt:=hne _ ht;cases hL:Ca wt (x.2.1.toNat:Int) 256 with
  |none=>
   have:=s2 hL (Aq gs).2.1.toNat (Aq gs).2.1.toNat_lt (by omega);rw[h.wi _ ht']at this;have:=h.pos _ ht';omega
  |some j=>
   obtain⟨a1,a2,a3⟩:=s1 j hL;have hex: ∃g∈x::gs,g.2.1.toNat=j:=by
    apply Ao3;intro hc;have:=h.wo j fun g hg e=>hc ⟨g,hg,e⟩;omega
   obtain⟨g,hg,rfl⟩:=hex;have hg':g∈gs:=by
    rcases List.mem_cons.1 hg with e|k
    ·subst e;exact absurd rfl a1
    ·exact k
   have b1:=a3 (Aq gs).2.1.toNat (Aq gs).2.1.toNat_lt (by omega) (by rw[h.wi _ ht'];exact h.pos _ ht');rw[h.wi _ ht',h.wi _ hg]at b1;have b2:=Uf gs g hg';congr 1;omega
 ·rw[if_neg h0];cases hL:Ca wt (x.2.1.toNat:Int) 256 with
  |none=>rfl
  |some j=>
   exfalso;obtain⟨a1,a2,a3⟩:=s1 j hL;have hgs:gs=[]:=Amj (by omega);subst hgs;have:=h.wo j fun g hg e=>by
    rw[List.mem_singleton.1 hg]at e;exact a1 (by omega)
   omega
def Pn(inn:List Nat)(x y:Nat):List Nat:=inn.map fun v=>if v=x∨v=y then x else v
def Mt(wt:List Nat)(x y:Nat):List Nat:=(wt.set x (wt.getD x 0+wt.getD y 0)).set y 0
theorem O9(inn:List Nat)(x y c:Nat)(h:c<inn.length):(Pn inn x y).getD c 0=if inn.getD c 0=x∨inn.getD c 0=y then x else inn.getD c 0:=by
 unfold Pn;rw[Ak6,Alu,Ak6,Ak7 h];rfl
theorem Ug(wt:List Nat)(x y c:Nat)(hl:x<wt.length)(hy:y<wt.length):(Mt wt x y).getD c 0=if c=y then 0 else if c=x then wt.getD x 0+wt.getD y 0 else wt.getD c 0:=by
 unfold Mt
 by_cases h1:c=y
 ·rw[if_pos h1,h1,I7 _ _ _ (by simpa using hy)]
 ·rw[if_neg h1,getD_set_ne _ _ _ _ (fun e=>h1 e.symm)]
  by_cases h2:c=x
  ·rw[if_pos h2,h2,I7 _ _ _ hl]
  ·rw[if_neg h2,getD_set_ne _ _ _ _ (fun e=>h2 e.symm)]
theorem Qa(x y:Grp):(Em x y).2.1.toNat=min x.2.1.toNat y.2.1.toNat:=by
 show(UInt8.ofNat (min x.2.1.toNat y.2.1.toNat)).toNat=_;rw[Ame];have:=x.2.1.toNat_lt;omega
theorem Sim.either{x y:Grp}{gs:List Grp}{wt inn:List Nat}(h:Sim (x::y::gs) wt inn)(hn:(Bd (x::y::gs)).Nodup)(b:UInt8):(inn.getD b.toNat 0=x.2.1.toNat∨inn.getD b.toNat 0=y.2.1.toNat)↔b∈x.2.2++y.2.2:=by
 have hx:=h.name x Alp;have hy:=h.name y (Als _ Alp);have hxy:x.2.1.toNat≠y.2.1.toNat:=Jz hn hx Alp hy;constructor
 ·intro e
  by_cases hm:b∈Bd (x::y::gs)
  ·obtain⟨g,hg,hb⟩:=List.mem_flatMap.1 hm;have hi:=h.ii g hg b hb;rw[hi]at e;rcases List.mem_cons.1 hg with rfl|hg
   ·exact Ao5 _ hb
   ·rcases List.mem_cons.1 hg with rfl|hg
    ·exact List.mem_append_right _ hb
    ·exfalso;have hgn:=h.name g (Als _ (Als _ hg));have n1:x.2.1.toNat≠g.2.1.toNat:=Jz hn hx (Als _ hg) hgn;have hn2:(Bd (y::gs)).Nodup:=by
      unfold Bd at hn⊢;rw[Amg,List.nodup_append]at hn;exact hn.2.1
     have n2:y.2.1.toNat≠g.2.1.toNat:=Jz hn2 hy hg hgn;omega
  ·exfalso;rw[h.io b hm]at e;rcases e with e|e
   ·exact hm (List.mem_flatMap.2 ⟨x,Alp,by rw[UInt8.toNat_inj.1 e];exact hx⟩)
   ·exact hm (List.mem_flatMap.2 ⟨y,Als _ Alp,by rw[UInt8.toNat_inj.1 e];exact hy⟩)
 ·intro hb;rcases Ao7.1 hb with hb|hb
  ·exact .inl (h.ii x Alp b hb)
  ·exact .inr (h.ii y (Als _ Alp) b hb)
theorem Sim.merge{x y:Grp}{gs:List Grp}{wt inn:List Nat}(h:Sim (x::y::gs) wt inn)(hn:(Bd (x::y::gs)).Nodup):Sim (Em x y::gs) (Mt wt (min x.2.1.toNat y.2.1.toNat) (max x.2.1.toNat y.2.1.toNat)) (Pn inn (min x.2.1.toNat y.2.1.toNat) (max x.2.1.toNat y.2.1.toNat)):=by
 have hx:=h.name x Alp;have hy:=h.name y (Als _ Alp);have hxy:x.2.1.toNat≠y.2.1.toNat:=Jz hn hx Alp hy;have hx8:=x.2.1.toNat_lt;have hy8:=y.2.1.toNat_lt;have hwx:=h.wi x Alp;have hwy:=h.wi y (Als _ Alp);have old: ∀g∈gs,g∈x::y::gs:=fun g hg=>Als _ (Als _ hg);have hn2:(Bd (y::gs)).Nodup:=by
  unfold Bd at hn⊢;rw[Amg,List.nodup_append]at hn;exact hn.2.1
 have n1: ∀g∈gs,x.2.1.toNat≠g.2.1.toNat:=fun g hg=>Jz hn hx (Als _ hg) (h.name g (old g hg));have n2: ∀g∈gs,y.2.1.toNat≠g.2.1.toNat:=fun g hg=>Jz hn2 hy hg (h.name g (old g hg));have hlw:=h.lw;have hli:=h.li;have hmm:(x.2.1.toNat=min x.2.1.toNat y.2.1.toNat∧y.2.1.toNat=max x.2.1.toNat y.2.1.toNat)∨(y.2.1.toNat=min x.2.1.toNat y.2.1.toNat∧x.2.1.toNat=max x.2.1.toNat y.2.1.toNat):=by omega
 have hsum:wt.getD (min x.2.1.toNat y.2.1.toNat) 0+wt.getD (max x.2.1.toNat y.2.1.toNat) 0=x.1+y.1:=by
  rcases hmm with⟨a,b⟩|⟨a,b⟩
  ·rw[←a,←b,hwx,hwy]
  ·rw[←a,←b,hwx,hwy];omega
 have eith: ∀v:Nat,(v=min x.2.1.toNat y.2.1.toNat∨v=max x.2.1.toNat y.2.1.toNat)↔(v=x.2.1.toNat∨v=y.2.1.toNat):=fun v=>by omega
 refine⟨by simp[Mt,hlw],by simp[Pn,hli],fun g hg=>?_,fun g hg=>?_,fun g hg=>?_,fun c hc=>?_,fun g hg b hb=>?_,fun b hb=>?_⟩
 ·rcases List.mem_cons.1 hg with rfl|hg
  ·show UInt8.ofNat (min x.2.1.toNat y.2.1.toNat)∈x.2.2++y.2.2;rcases Nat.le_total x.2.1.toNat y.2.1.toNat with e|e
   ·rw[Ant e];simp only[UInt8.ofNat_toNat];exact Ao5 _ hx
   ·rw[Nat.min_eq_right e];simp only[UInt8.ofNat_toNat];exact List.mem_append_right _ hy
  ·exact h.name g (old g hg)
 ·rcases List.mem_cons.1 hg with rfl|hg
  ·have:=h.pos x Alp;show 0<x.1+y.1;omega
  ·exact h.pos g (old g hg)
 ·rw[Ug _ _ _ _ (by omega) (by omega)];rcases List.mem_cons.1 hg with rfl|hg
  ·rw[Qa,if_neg (by omega),if_pos rfl,hsum];rfl
  ·have:=n1 g hg;have:=n2 g hg;rw[if_neg (by omega),if_neg (by omega)];exact h.wi g (old g hg)
 ·rw[Ug _ _ _ _ (by omega) (by omega)];have hj:=hc _ Alp;rw[Qa]at hj
  by_cases e:c=max x.2.1.toNat y.2.1.toNat
  ·rw[if_pos e]
  ·rw[if_neg e,if_neg (fun k=>hj k.symm)];refine h.wo c fun g hg=>?_;rcases List.mem_cons.1 hg with rfl|hg
   ·omega
   ·rcases List.mem_cons.1 hg with rfl|hg
    ·omega
    ·exact hc g (Als _ hg)
 ·have hb8:=b.toNat_lt;rw[O9 _ _ _ _ (by omega)];rcases List.mem_cons.1 hg with rfl|hg
  ·rw[if_pos ((eith _).2 ((h.either hn b).2 hb)),Qa]
  ·have hi:=h.ii g (old g hg) b hb;have:=n1 g hg;have:=n2 g hg;rw[hi,if_neg (by omega)]
 ·have hb8:=b.toNat_lt;have hb':b∉Bd (x::y::gs):=by
   intro k;refine hb ?_;unfold Bd at k⊢;rw[Amg,Amg,←Alx]at k;rw[Amg];exact k
  rw[O9 _ _ _ _ (by omega),if_neg (fun k=>?_)]
  ·exact h.io b hb'
  ·have:=(h.either hn b).1 ((eith _).1 k);refine hb' (List.mem_flatMap.2 ?_);rcases Ao7.1 this with k|k
   ·exact⟨x,Alp,k⟩
   ·exact⟨y,Als _ Alp,k⟩
end Hm
end Go.Proofs.YtegnkfdbmmndaaaGreat
namespace Go.Proofs.YtegnkfdbmmndaaaGreat
open Hm
open Go.RowKit
def AR(w:World)(g:Nat)(l:List Nat):Prop:=w.heap[g]?=some (.cells (Ac l).toArray 94 (0,0))
theorem AR.cell{w:World}{g:Nat}{l:List Nat}(h:AR w g l){i:Nat}(hi:i<l.length):w.cell? ⟨g,i,none⟩=some (.int .i64 (l.getD i 0:Nat)):=by
 rw[Alc _ _ i _ _ _ h];simp[Ac,hi,List.getD_eq_getElem?_getD]
theorem AR.free{w:World}{g:Nat}{l:List Nat}(h:AR w g l)(i:Nat):w.frozen? ⟨g,i,none⟩=false:=Alk _ _ i _ _ h
theorem AR.set{w:World}{g:Nat}{l:List Nat}(h:AR w g l)(i x:Nat):AR (w.setCell ⟨g,i,none⟩ (.int .i64 (x:Nat))) g (l.set i x):=by
 have h2:=Alf w g i _ _ (.int .i64 (x:Nat)) h;unfold AR;rw[h2];congr 2;apply Am6;simp[Ac,List.map_set]
theorem AR.other{w:World}{g h:Nat}{l:List Nat}(k:AR w g l)(i:Nat)(v:Value)(hne:g≠h):AR (w.setCell ⟨h,i,none⟩ v) g l:=(Ano _ _ _ _ hne).trans k
theorem AR.lt{w:World}{g:Nat}{l:List Nat}(h:AR w g l):g<w.heap.size:=Alw h
theorem AR.kept{S:Nat→Prop}{w w':World}{g:Nat}{l:List Nat}(h:AR w g l)(hk:Aa S w w')(hn: ¬S g):AR w' g l:=hk.row h hn
theorem Si:Tryz.zeroCells94=(Ac (List.replicate 256 0)).toArray:=by kernel_rfl
namespace Hm
def J0(inn:List Nat)(x y k:Nat):List Nat:=(List.range 256).map fun i=>if i<k∧(inn.getD i 0=x∨inn.getD i 0=y)then x else inn.getD i 0
def I1(inn L:List Nat)(x y k:Nat):List Nat:=(List.range 256).map fun i=>if i<k∧(inn.getD i 0=x∨inn.getD i 0=y)then L.getD i 0+1 else L.getD i 0
theorem Gt(inn:List Nat)(x y k:Nat):(J0 inn x y k).length=256:=by unfold J0;rw[Al6,Aoc]
theorem Fq(inn L:List Nat)(x y k:Nat):(I1 inn L x y k).length=256:=by unfold I1;rw[Al6,Aoc]
theorem J1(inn:List Nat)(x y k i:Nat)(h:i<256):(J0 inn x y k).getD i 0=if i<k∧(inn.getD i 0=x∨inn.getD i 0=y)then x else inn.getD i 0:=by
 unfold J0;rw[Ak6,Alu,Amw h];rfl
theorem Hv(inn L:List Nat)(x y k i:Nat)(h:i<256):(I1 inn L x y k).getD i 0=if i<k∧(inn.getD i 0=x∨inn.getD i 0=y)then L.getD i 0+1 else L.getD i 0:=by
 unfold I1;rw[Ak6,Alu,Amw h];rfl
theorem J2{a b:List Nat}(h:a.length=256)(k:b.length=256)(e: ∀i,i<256→a.getD i 0=b.getD i 0):a=b:=by
 apply Amf
 ·omega
 ·intro i h1 h2;have:=e i (by omega);rw[Ak6,Ak7 h1,Ak6,Ak7 h2]at this;exact this
theorem Aic(inn:List Nat)(x y:Nat)(h:inn.length=256):J0 inn x y 0=inn:=J2 (Gt ..) h fun i hi=>by rw[J1 _ _ _ _ _ hi,if_neg (by omega)]
theorem Agm(inn L:List Nat)(x y:Nat)(h:L.length=256):I1 inn L x y 0=L:=J2 (Fq ..) h fun i hi=>by rw[Hv _ _ _ _ _ _ hi,if_neg (by omega)]
theorem Acf(inn:List Nat)(x y k:Nat)(hk:k<256)(h:inn.getD k 0=x∨inn.getD k 0=y):J0 inn x y (k+1)=(J0 inn x y k).set k x:=J2 (Gt ..) (by rw[Amn,Gt]) fun i hi=>by
 rw[J1 _ _ _ _ _ hi]
 by_cases e:i=k
 ·subst e;rw[I7 _ _ _ (by rw[Gt];exact hi),if_pos ⟨by omega,h⟩]
 ·rw[getD_set_ne _ _ _ _ (fun c=>e c.symm),J1 _ _ _ _ _ hi]
  by_cases c:i<k∧(inn.getD i 0=x∨inn.getD i 0=y)
  ·rw[if_pos c,if_pos ⟨by omega,c.2⟩]
  ·rw[if_neg c,if_neg (fun q=>c ⟨by omega,q.2⟩)]
theorem Aid(inn:List Nat)(x y k:Nat)(h: ¬(inn.getD k 0=x∨inn.getD k 0=y)):J0 inn x y (k+1)=J0 inn x y k:=J2 (Gt ..) (Gt ..) fun i hi=>by
 rw[J1 _ _ _ _ _ hi,J1 _ _ _ _ _ hi]
 by_cases e:i=k
 ·subst e;rw[if_neg (fun q=>h q.2),if_neg (fun q=>h q.2)]
 ·by_cases c:i<k∧(inn.getD i 0=x∨inn.getD i 0=y)
  ·rw[if_pos c,if_pos ⟨by omega,c.2⟩]
  ·rw[if_neg c,if_neg (fun q=>c ⟨by omega,q.2⟩)]
theorem Y7(inn L:List Nat)(x y k:Nat)(hk:k<256)(h:inn.getD k 0=x∨inn.getD k 0=y):I1 inn L x y (k+1)=(I1 inn L x y k).set k (L.getD k 0+1):=J2 (Fq ..) (by rw[Amn,Fq]) fun i hi=>by
 rw[Hv _ _ _ _ _ _ hi]
 by_cases e:i=k
 ·subst e;rw[I7 _ _ _ (by rw[Fq];exact hi),if_pos ⟨by omega,h⟩]
 ·rw[getD_set_ne _ _ _ _ (fun c=>e c.symm),Hv _ _ _ _ _ _ hi]
  by_cases c:i<k∧(inn.getD i 0=x∨inn.getD i 0=y)
  ·rw[if_pos c,if_pos ⟨by omega,c.2⟩]
  ·rw[if_neg c,if_neg (fun q=>c ⟨by omega,q.2⟩)]
theorem Agn(inn L:List Nat)(x y k:Nat)(h: ¬(inn.getD k 0=x∨inn.getD k 0=y)):I1 inn L x y (k+1)=I1 inn L x y k:=J2 (Fq ..) (Fq ..) fun i hi=>by
 rw[Hv _ _ _ _ _ _ hi,Hv _ _ _ _ _ _ hi]
 by_cases e:i=k
 ·subst e;rw[if_neg (fun q=>h q.2),if_neg (fun q=>h q.2)]
 ·by_cases c:i<k∧(inn.getD i 0=x∨inn.getD i 0=y)
  ·rw[if_pos c,if_pos ⟨by omega,c.2⟩]
  ·rw[if_neg c,if_neg (fun q=>c ⟨by omega,q.2⟩)]
theorem Ajr(inn:List Nat)(x y:Nat)(h:inn.length=256):J0 inn x y 256=Pn inn x y:=J2 (Gt ..) (by unfold Pn;rw[Al6,h]) fun i hi=>by
 rw[J1 _ _ _ _ _ hi,O9 _ _ _ _ (by omega)]
 by_cases c:inn.getD i 0=x∨inn.getD i 0=y
 ·rw[if_pos ⟨hi,c⟩,if_pos c]
 ·rw[if_neg (fun q=>c q.2),if_neg c]
theorem Aie{x y:Grp}{gs:List Grp}{wt inn L:List Nat}(h:Sim (x::y::gs) wt inn)(hn:(Bd (x::y::gs)).Nodup)(hL:L.length=256):I1 inn L (min x.2.1.toNat y.2.1.toNat) (max x.2.1.toNat y.2.1.toNat) 256=bump L (Em x y).2.2:=by
 have hnd:(x.2.2++y.2.2).Nodup:=by
  unfold Bd at hn;rw[Amg,Amg,←Alx,List.nodup_append]at hn;exact hn.1
 refine J2 (Fq ..) (by rw[Kp];exact hL) fun i hi=>?_;rw[Hv _ _ _ _ _ _ hi];have hb:(UInt8.ofNat i).toNat=i:=by rw[Ame];omega
 have he:=h.either hn (UInt8.ofNat i);rw[hb]at he;have eith:(inn.getD i 0=min x.2.1.toNat y.2.1.toNat∨inn.getD i 0=max x.2.1.toNat y.2.1.toNat)↔(inn.getD i 0=x.2.1.toNat∨inn.getD i 0=y.2.1.toNat):=by omega
 by_cases c:inn.getD i 0=x.2.1.toNat∨inn.getD i 0=y.2.1.toNat
 ·have hin:=S7 (L:=L) hL hnd (he.1 c);rw[ln,ln,hb]at hin;rw[if_pos ⟨hi,eith.2 c⟩];exact hin.symm
 ·have hout:=U6 (L:=L) (bs:=x.2.2++y.2.2) hL (fun k=>c (he.2 k));rw[ln,ln,hb]at hout;rw[if_neg (fun q=>c (eith.1 q.2))];exact hout.symm
theorem Ad7(t:List UInt8):Sim (Aj t 256) (weights t) (List.range 256):=by
 have hg: ∀g∈Aj t 256,∃x,x<256∧0<cnt t x∧g=(cnt t x,UInt8.ofNat x,[UInt8.ofNat x]):=fun g hg=>by
  unfold Aj at hg;obtain⟨x,hx,rfl⟩:=List.mem_map.1 hg;exact⟨x,List.mem_range.1 (List.mem_filter.1 hx).1,by simpa using(List.mem_filter.1 hx).2,rfl⟩
 have hw: ∀c,c<256→(weights t).getD c 0=cnt t c:=fun c hc=>by
  unfold weights;rw[Ak6,Alu,Amw hc];rfl
 have hr: ∀c,c<256→(List.range 256).getD c 0=c:=fun c hc=>by
  rw[Ak6,Amw hc];rfl
 have hu: ∀x,x<256→(UInt8.ofNat x).toNat=x:=fun x hx=>by rw[Ame];omega
 refine⟨Fz t,Aoc,fun g h=>?_,fun g h=>?_,fun g h=>?_,fun c hc=>?_,fun g h b hb=>?_,fun b _=>hr _ b.toNat_lt⟩
 ·obtain⟨x,_,_,rfl⟩:=hg g h;exact List.mem_singleton.2 rfl
 ·obtain⟨x,_,h2,rfl⟩:=hg g h;exact h2
 ·obtain⟨x,h1,_,rfl⟩:=hg g h;show(weights t).getD (UInt8.ofNat x).toNat 0=cnt t x;rw[hu x h1,hw x h1]
 ·by_cases h1:c<256
  ·rw[hw c h1];apply Ao3;intro h2;refine hc (cnt t c,UInt8.ofNat c,[UInt8.ofNat c]) ?_ (hu c h1);unfold Aj;exact List.mem_map.2 ⟨c,List.mem_filter.2 ⟨List.mem_range.2 h1,by simp;omega⟩,rfl⟩
  ·rw[Ak6,Al3 (by rw[Fz];omega)];rfl
 ·obtain⟨x,h1,_,rfl⟩:=hg g h;have e:b=UInt8.ofNat x:=List.mem_singleton.1 hb;subst e;show(List.range 256).getD (UInt8.ofNat x).toNat 0=(UInt8.ofNat x).toNat;rw[hr _ (UInt8.ofNat x).toNat_lt]
theorem Aif{t:List UInt8}{c:Nat}{b:UInt8}(h:b∈t)(e:b.toNat=c):K5 t c=true:=by
 unfold K5;rw[List.any_eq_true];exact⟨b,h,by simpa using e⟩
end Hm
end Go.Proofs.YtegnkfdbmmndaaaGreat
