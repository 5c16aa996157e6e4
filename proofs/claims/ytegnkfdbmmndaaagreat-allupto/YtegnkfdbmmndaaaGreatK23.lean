import Derived.Test.YtegnkfdbmmndaaaGreatK22

set_option maxHeartbeats 8000000
set_option maxRecDepth 100000
namespace Go.Proofs.YtegnkfdbmmndaaaGreat
open Hm Go.Proofs.Tryz
variable{s:Aeg}{a b inn l out ps wt:Aeh}{f g i k t:Nat}{w:World}
section
open Go.RowKit
namespace Hm
theorem Ir(a b:List Bool):Ae (a++b)=Ae a++Ae b:=by simp[Ae]
theorem Fp(a:List Bool):(Ae a).length=a.length:=by simp[Ae]
end Hm
theorem Ss(a b:Aeg):(⟨a.toArray⟩:ByteArray)++⟨b.toArray⟩=⟨(a++b).toArray⟩:=by
 apply Acj;simp[ByteArray.data_append]
theorem dJ(N:Aej)(c:Nat)(ps:Aeh)(w:World)(hi:Na w N ps)(T:1<=ps.length)(V:ps.length<=6001)(E: ∀p∈ps,p<=6000):
  Calls prog 47 #[.slice N ps.length c] w fun e w'=>e= .returned (.string ⟨(Ae (Bb ps)).toArray⟩)/\ ∃q,w'=w.drewN q:=by
 have j:Lib.bitLen ((ps.length-1)/8)<=10:=Lib.bitLen_le _ 10 (by omega) (by omega);have M:Hid (Bb ps=(ps.map fun p=>decide (p%8=0))++Cm ps (Lib.bitLen ((ps.length-1)/8))):=rfl;rw[M.o,Ir,<-Ss];have t:=fun W=>oD (ps.length-1) W (by omega);rw[show((ps.length-1:Nat):Int)=(ps.length:Int)-1 from by omega]at t;generalize Lib.bitLen ((ps.length-1)/8)=L at*;clear M
 go_enter func47,ntmps47
 go_wp2_with fail
 go_loopw[4,5,6] (fun ms rs i wr=> ∃k:Nat,k<=ps.length/\i=I k/\ms= .string ⟨(Ae ((ps.take k).map fun p=>decide (p%8=0))).toArray⟩/\rs= .string ⟨(Ae (Cm (ps.take k) L)).toArray⟩/\ ∃q,wr=w.drewN q) (fun _ _ i _=>ps.length-(intOf i).toNat)
 case atStart=>exact⟨0,zZ _,rfl,rfl,rfl,0,rfl⟩
 case round=>
  obtain⟨k,hk,rfl,rfl,rfl,G⟩:=hrel;have z:=aZ G;have l: ∀p,wr.cell? p=w.cell? p:=fun p=>by obtain⟨q,e⟩:=G;rw[e];rfl
  clear G;have d:(Ae ((ps.take k).map fun p=>decide (p%8=0))).length<=6001:=by rw[Fp];simp;omega
  have f:(Ae (Cm (ps.take k) L)).length<=60010:=by
   rw[Fp];have h1:=R3 (ps.take k) L;have h2:(ps.take k).length*L<=6001*10:=Aa4 (by simp;omega) j;omega
  by_cases m:k<ps.length
  ·obtain⟨b,o,D,R,r⟩:=hi k m;have S:=E ps[k] (z6 _);have v:Hid (Ae ((ps.take (k+1)).map fun p=>decide (p%8=0))=Ae ((ps.take k).map fun p=>decide (p%8=0))++[if ps[k]%8=0 then 49 else 48]):=by
    show _=_;rw[zQ m,Abt,Ir]
    by_cases e:ps[k]%8=0<;>simp[Ae,e]
   have a:=hZ (Ue ps L k m);have s:=(dT k ps.length).2;generalize ps[k]=x at*;subst D;have U:wr.cell? (J b (o+k))=some (I x):=by rw[l];exact r
   clear r l;have O: ¬9223372036854775807<(Ae ((ps.take k).map fun p=>decide (p%8=0))).length+1:=by omega
   clear hi E
   by_cases u:x%8=0
   ·have h:=fun W=>Uk (x/8) L W (by omega) (by omega);rw[show((x/8:Nat):Int)=(x:Int)/8 from by omega]at h;have K:((x:Int)%8==0)=true:=by simp;omega
    rw[if_pos u]at v a;have y:Hid (Ae (Cm (ps.take (k+1)) L)=Ae (Cm (ps.take k) L)++Ae (A7 (x/8) L)):=by
     show _=_;rw[a.o,Ir]
    have F:(Ae (A7 (x/8) L)).length<=10:=by rw[Fp,Dx];exact j
    have P: ¬9223372036854775807<(Ae (Cm (ps.take k) L)).length+(Ae (A7 (x/8) L)).length:=by omega
    clear a d f F;generalize Ae ((ps.take k).map fun p=>decide (p%8=0))=A at*;generalize Ae (Cm (ps.take k) L)=B at*;generalize Ae (A7 (x/8) L)=C at*;go_wp2_with fail;go_quiet(first|(refine Abc (t _))|(refine Abc (h _)));go_wp2;go_roundw
    case rel=>
     obtain⟨q,e⟩:=z.o;exact⟨k+1,by omega,by go_num,by rw[v.o,Tt],by rw[y.o,Ss],q+nq,by rw[e,World.drewN_drewN]⟩
    case measure=>simp[intOf];omega
   ·have K:((x:Int)%8==0)=false:=by simp;omega
    rw[if_neg u]at v a;rw[Abe]at a;clear d f;generalize Ae ((ps.take k).map fun p=>decide (p%8=0))=A at*;obtain⟨B,g⟩:=gx (Ae (Cm (ps.take k) L));rw[<-g];have Q:=aZ g;clear g;go_wp2;go_roundw
    case rel=>exact⟨k+1,by omega,by go_num,by rw[v.o,Tt],by rw[a.o,Q.o],z.o⟩
    case measure=>simp[intOf];omega
  ·obtain rfl:k=ps.length:=by omega
   have s:=(dF ps.length ps.length).2;rw[Aaw]at d f|-;have H: ¬9223372036854775807<(Ae (ps.map fun p=>decide (p%8=0))).length+(Ae (Cm ps L)).length:=by omega
   obtain⟨A,hA⟩:=gx (Ae (ps.map fun p=>decide (p%8=0)));obtain⟨B,g⟩:=gx (Ae (Cm ps L));rw[<-hA,<-g]at H;rw[<-hA,<-g];have n:=aZ (aI hA g);clear hA g d f hi E l;go_wp2;go_ret;exact⟨by rw[<-n.o.1,<-n.o.2];rfl,z.o⟩
namespace Hm
def Gt(es:Aeh)(l:Nat)(R:List Bool):Nat->List Bool
 |0=>R
 |k+1=>(Gt es l R k).set (es.getD k 0/2^l+k) true
theorem Ul(es:Aeh)(l:Nat)(R:List Bool)(k:Nat):(Gt es l R k).length=R.length:=by
 induction k with
 |zero=>rfl
 |succ k ih=>simp[Gt,ih]
theorem gZ(es:Aeh)(l:Nat)(B R:List Bool)(k:Nat):Gg es l B.length (B++R) k=B++Gt es l R k:=by
 induction k with
 |zero=>rfl
 |succ k ih=>
  rw[Gg,ih,Gt,Abw,Aba _ _ (Adz _ _),Acq]
theorem dK(es:Aeh)(n:Nat):Bo es n=C7 es (Ca es.length n)++Gt es (Ca es.length n) (List.replicate (es.length+n/2^Ca es.length n+1) false) es.length:=gZ _ _ _ _ _
theorem oF(x k:Nat):A7 (x%2^k) k=A7 x k:=by
 unfold A7;refine Acy fun i hi=>?_;have h:i<k:=by simpa using hi
 rw[<-Nat.testBit_eq_decide_div_mod_eq,<-Nat.testBit_eq_decide_div_mod_eq,Nat.testBit_mod_two_pow];simp[h]
theorem bF(l:List Bool)(i:Nat):Ae (l.set i true)=(Ae l).set i 49:=by
 unfold Ae;rw[Ace];rfl
theorem bG(fs:Aef)(k:Nat)(h:k<fs.length):(Aw fs).getD k 0=(Ac (fs.take (k+1))).length:=by
 unfold Aw;rw[zG,Aah,Abn h];rfl
theorem oG(fs:Aef)(k:Nat)(h:k<fs.length):(Ac (fs.take (k+1))).length=(Ac (fs.take k)).length+fs[k].2.size:=by
 rw[zQ h];unfold Ac;rw[Abo,zL];simp
theorem oH(fs:Aef)(k:Nat):(Ac (fs.take k)).length<=(Ac fs).length:=by
 conv=>rhs;rw[<-Abh k fs]
 unfold Ac;rw[Abo,zL];omega
end Hm
theorem oI(ao:Aej)(c:Nat)(fs:Aef)(n:Nat)(w:World)(hf:Az w ao fs)(hm:fs.length<=40)(hn:n=(Ac fs).length)(V:n<=6000):
  Calls prog 43 #[.slice ao fs.length c,.int .i64 n] w fun e w'=>e= .returned (.string ⟨(Ae (Bo (Aw fs) n)).toArray⟩)/\Aee w w':=by
 obtain⟨i0,hi,aq,ar,au⟩:=Aa6 Ft;have D:=fun W=>bA fs.length n W (by omega) V;have hL:=Nw fs.length n V;have M:=fun W=>Wg (Ca fs.length n) W (by omega);have HR:Aside (Ae (Bo (Aw fs) n)=Ae (C7 (Aw fs) (Ca fs.length n))++Ae (Gt (Aw fs) (Ca fs.length n) (List.replicate (fs.length+n/2^Ca fs.length n+1) false) fs.length)):=by
  show _=_;rw[dK,Ir,Dp]
 generalize Ca fs.length n=L at*;obtain⟨p,hp⟩:=gx (2^L);rw[<-hp]at M HR;have K:1<=p:=by rw[hp];exact Acl _
 have HP:=aZ hp;have HN:=aZ hn;have HF:Aside _:=hf;clear hn hf hp;obtain⟨q,hq⟩:=gx (n/p);have aJ:q<=n:=by rw[hq];exact Acd _ _
 have zq:(n:Int)/(p:Int)=(q:Int):=by rw[hq];simp
 have HQ:=aZ hq;clear hq;obtain⟨a,E⟩: ∃N,N=fs.length+q+1:=⟨_,rfl⟩;have a6:=aZ E;have zN:(fs.length:Int)+(q:Int)+1=(a:Int):=by omega
 have a8:fs.length+q<a:=by omega
 have a9:a<=6100:=by omega
 rw[<-HQ.o,<-E]at HR;clear E;have aK:IntKind.i64.wrap (q:Int)=(q:Int):=by rw[Aar];omega
 have ah:=aZ K;have a5: ¬p=0:=by omega
 go_enter func43,ntmps43
 go_wp2_with fail;refine(D _).mono ?_;rintro e w1 ⟨rfl,ap⟩;subst w1;go_wp2_with fail;refine(M _).mono ?_;rintro e w1 ⟨rfl,ap⟩;subst w1;clear D M K
 go_wp2_with(at_make;refine Abv _ rfl (.tmp 25) (.tmp 25) 79 rfl w.heap.size 5 i0 (.int .u8 0) 1 underlying79 hi aq ar .i64 .i64 _ _ a rfl rfl (by omega) (by omega) (by rw[au];omega) (by unfold maxLen;omega) (zK _) ?_;intro w2 X T)
 have Y:w2.ownsRow w.heap.size 5 1 (S0 w.heap.size a a) a (Ag (List.replicate 0 48++List.replicate (a-0) 0)):=by
  rw[Adx,Adk,Adj,<-Sa];exact X
 have U:Aee w w2:=(Aa.refl _ _).grown T (fun k hk=>by cases hk);clear X T
 go_loopw[10] (fun i wr=> ∃k:Nat,k<=a/\i=I k/\wr.ownsRow w.heap.size 5 1 (S0 w.heap.size a a) a (Ag (List.replicate k 48++List.replicate (a-k) 0))/\Aee w wr) (fun i _=>a-(intOf i).toNat)
 case atStart=>exact⟨0,zZ _,rfl,Y,U⟩
 case round=>
  clear Y U;obtain⟨k,hk,rfl,l,j⟩:=hrel
  by_cases t:k<a
  ·have m:=(dT k a).2;obtain⟨x,hc⟩: ∃x,wr.cell? (J w.heap.size k)=some x:=⟨_,(l.cellAt k (by omega)).trans (zH (by simp[Ag];omega))⟩;have hf:wr.frozen? (J w.heap.size k)=false:=l.frozenAt _;have g:=(l.stored k (.int .u8 48)).1;have Q:(Ag (List.replicate k 48++List.replicate (a-k) 0)).set k (.int .u8 48)=Ag (List.replicate (k+1) 48++List.replicate (a-(k+1)) 0):=by
    have e3:(List.replicate k (48:UInt8)++List.replicate (a-k) 0).set k 48=List.replicate (k+1) 48++List.replicate (a-(k+1)) 0:=by
     have hl:(List.replicate k (48:UInt8)).length=k:=by simp
     rw[Aba _ _ (by omega),hl,Abd,show a-k=(a-(k+1))+1 from by omega,Abx (n:=a-(k+1)),Adr (n:=k),Aaj];rfl
    rw[<-e3,Ag,Ag,Ace];rfl
   rw[Q]at g;have H2:=hZ g;clear g l Q;go_wp2;go_roundw
   case rel=>exact⟨k+1,by omega,by go_num,H2.o,j.setCell (.inl (zK _)) _⟩
   case measure=>simp[intOf];omega
  ·obtain rfl:a=k:=by omega
   have m:=(dF a a).2;rw[Abd,Adx,Abe]at l;have Z:List.replicate a (48:UInt8)=Ae (Gt (Aw fs) L (List.replicate a false) 0):=by simp[Gt,Ae]
   rw[Z]at l;have aA:(Ac fs).length<=6000:=by have:=HN.o;omega
   go_wp2
   go_loopw[8,11,12] (fun s e i wr=> ∃k:Nat,k<=fs.length/\i=I k/\e=I ((Ac (fs.take k)).length:Nat)/\s= .string ⟨(Ae (C7 ((Aw fs).take k) L)).toArray⟩/\wr.ownsRow w.heap.size 5 1 (S0 w.heap.size a a) a (Ag (Ae (Gt (Aw fs) L (List.replicate a false) k)))/\Aee w wr) (fun _ _ i _=>fs.length-(intOf i).toNat)
   case atStart=>exact⟨0,zZ _,rfl,rfl,rfl,l,j⟩
   case round=>
    clear l j Z m hk t;obtain⟨k,hk,rfl,rfl,rfl,l,j⟩:=hrel;have v:=Dp fs;have z:(Ae (C7 ((Aw fs).take k) L)).length<=480:=by
     rw[Fp,Il];have:((Aw fs).take k).length*L<=40*12:=Aa4 (by simp;omega) hL;omega
    by_cases t:k<fs.length
    ·obtain⟨b,o,R,aC,_,aE⟩:=(Az.kept HF.o j (fun _ _ h=>h)) k t;have O:=oG fs k t;have C:=oH fs (k+1);have S:(Aw fs)[k]'(by omega)=(Ac (fs.take (k+1))).length:=by
      have:=bG fs k t;rw[zG,zH (by omega)]at this;simpa using this
     have HT:Aside (Ae (C7 ((Aw fs).take (k+1)) L)=Ae (C7 ((Aw fs).take k) L)++Ae (A7 (Ac (fs.take (k+1))).length L)):=by
      show _=_;rw[Xp _ _ _ (by omega),S,Ir]
     have HH:Aside (Ae (Gt (Aw fs) L (List.replicate a false) (k+1))=(Ae (Gt (Aw fs) L (List.replicate a false) k)).set ((Ac (fs.take (k+1))).length/p+k) 49):=by
      show _=_;rw[Gt,bF,bG fs k t,HP.o]
     rw[<-HN.o]at C;generalize fs[k].2=ct at*;obtain⟨d,G⟩: ∃e,e=(Ac (fs.take (k+1))).length:=⟨_,rfl⟩;have af:=aZ G;rw[<-G]at O C HT HH;obtain⟨Z,F⟩: ∃e,e=(Ac (fs.take k)).length:=⟨_,rfl⟩;rw[<-F]at O;rw[<-F];clear F G S;have zs:(Z:Int)+(ct.size:Int)=(d:Int):=by omega
     have f:=fun W=>Uk (d%p) L W (by omega) (by have:=Nat.mod_le d p;omega);have al:Aside (A7 (d%p) L=A7 d L):=by show _=_;rw[HP.o];exact oF d L
     rw[al.o]at f;rw[show((d%p:Nat):Int)=(d:Int)%(p:Int)from by simp]at f;obtain⟨r,y⟩:=gx (d/p);have aL:r<=q:=by rw[y,HQ.o];exact Nat.div_le_div_right C
     have zr:(d:Int)/(p:Int)=(r:Int):=by rw[y];simp
     rw[<-y]at HH;clear y;obtain⟨md,H⟩:=gx (d%p);have zm:(d:Int)%(p:Int)=(md:Int):=by rw[H];simp
     have a4:md<=6000:=by rw[H];have:=Nat.mod_le d p;omega
     rw[zm]at f;clear H;have aH:IntKind.i64.wrap (md:Int)=(md:Int):=by rw[Aar];omega
     have aM:IntKind.i64.wrap (r:Int)=(r:Int):=by rw[Aar];omega
     have am:(Ae (A7 d L)).length<=12:=by rw[Fp,Dx];exact hL
     have an: ¬9223372036854775807<(Ae (C7 ((Aw fs).take k) L)).length+(Ae (A7 d L)).length:=by omega
     have u:(Ae (Gt (Aw fs) L (List.replicate a false) k)).length=a:=by rw[Fp,Ul];simp
     obtain⟨x,hc⟩: ∃x,wr.cell? (J w.heap.size (r+k))=some x:=⟨_,(l.cellAt (r+k) (by omega)).trans (zH (by simp only[Ag,Aai,u];omega))⟩;have hf:wr.frozen? (J w.heap.size (r+k))=false:=l.frozenAt _;have g:=(l.stored (r+k) (.int .u8 49)).1;have Q:(Ag (Ae (Gt (Aw fs) L (List.replicate a false) k))).set (r+k) (.int .u8 49)=Ag (Ae (Gt (Aw fs) L (List.replicate a false) (k+1))):=by
      rw[HH.o,Ag,Ag,Ace];rfl
     rw[Q]at g;have H2:=hZ g;have aB:(r:Int)+(k:Int)<(a:Int):=by omega
     have m:=(dT k fs.length).2;have aF:d<=6000:=by omega
     have K:=ah.o;rw[R];clear g l Q u R z v O am HF C;generalize Ae (C7 ((Aw fs).take k) L)=A at*;generalize Ae (A7 d L)=B at*;go_wp2_with fail;refine(f _).mono ?_;rintro e w3 ⟨rfl,aN⟩;subst w3;clear f;go_wp2;go_roundw
     case rel=>exact⟨k+1,by omega,by go_num,by rw[af.o],by rw[HT.o,Ss],H2.o,j.setCell (.inl (zK _)) _⟩
     case measure=>simp[intOf];omega
    ·obtain rfl:fs.length=k:=by omega
     have m:=(dF fs.length fs.length).2;rw[<-v,Aaw]at z;have eT:(Aw fs).take fs.length=Aw fs:=by rw[<-v,Aaw]
     rw[eT];have ak:=Ho l;have u:(Ae (Gt (Aw fs) L (List.replicate a false) fs.length)).length=a:=by rw[Fp,Ul];simp
     obtain⟨A,hA⟩:=gx (Ae (C7 (Aw fs) L));obtain⟨B,hB⟩:=gx (Ae (Gt (Aw fs) L (List.replicate a false) fs.length));have P:=aZ (aI hA hB);rw[<-hA]at z;rw[<-hA];rw[<-hB]at ak u;have an: ¬9223372036854775807<A.length+B.length:=by omega
     clear hA hB l u eT v z;generalize(Ac (fs.take fs.length)).length=te at*;go_wp2;go_ret;exact⟨by rw[HR.o,<-P.o.1,<-P.o.2,<-Ss];rfl,j⟩
namespace Hm
theorem Um: ∀(a b:Aeg),Op.bytesLess a b=true↔Ds a b
 |[],[]=>by simp[Op.bytesLess,Ds]
 |[],_::_=>by simp[Op.bytesLess,Ds]
 |_::_,[]=>by simp[Op.bytesLess,Ds]
 |a::l,b::m=>by
  have d:=Um l m;simp only[Op.bytesLess,Ds]
  by_cases h:a<b
  ·have c:=UInt8.lt_iff_toNat_lt.1 h;simp[h,c]
  ·have c: ¬a.toNat<b.toNat:=fun k=>h (UInt8.lt_iff_toNat_lt.2 k)
   by_cases e:a=b
   ·subst e;simp[d]
   ·simp[h,c,e]
abbrev lt(s:Aeg)(i j:Nat):Prop:=Ds (s.drop i) (s.drop j)
theorem xN(s:Aeg){i j:Nat}(hi:i<=s.length)(a:j<=s.length)(h:i≠j):lt s i j\/lt s j i:=by
 rcases Oi (s.drop i) (s.drop j)with c|c|c
 ·exact .inl c
 ·have e:=congrArg List.length c;simp at e;omega
 ·exact .inr c
structure I6(s:Aeg)(a b:Aeh)(i k:Nat)(out:Aeh):Prop where
 perm:out.Perm (a.take i++b.take k)
 srt:out.Pairwise (lt s)
 la: ∀x∈out,∀y∈a.drop i,lt s x y
 lb: ∀x∈out,∀y∈b.drop k,lt s x y
theorem I6.none(s:Aeg)(a b:Aeh):I6 s a b 0 0 []:=⟨by simp,List.Pairwise.nil,fun x h=>by simp at h,fun x h=>by simp at h⟩
theorem I6.left(h:I6 s a b i k out)(f:a.Pairwise (lt s))(hi:i<a.length)(hb: ∀y∈b.drop k,lt s a[i] y):I6 s a b (i+1) k (out++[a[i]]):=by
 have hd:=Aan hi;have e:=(f.sublist (List.drop_sublist i a));rw[hd,Ad0]at e;refine⟨?_,?_,fun x c y d=>?_,fun x c y d=>?_⟩
 ·rw[zQ hi];refine(h.perm.append_right [a[i]]).trans ?_;rw[Aaj,Aaj];exact List.Perm.append_left _ (List.perm_append_comm)
 ·rw[List.pairwise_append];exact⟨h.srt,List.pairwise_singleton _ _,fun x c y d=>by rw[List.mem_singleton.1 d];exact h.la x c _ (by rw[hd];exact Aab)⟩
 ·rcases Ad7.1 c with c|c
  ·exact h.la x c y (by rw[hd];exact Aae _ d)
  ·rw[List.mem_singleton.1 c];exact e.1 y d
 ·rcases Ad7.1 c with c|c
  ·exact h.lb x c y d
  ·rw[List.mem_singleton.1 c];exact hb y d
theorem I6.right(h:I6 s a b i k out)(hb:b.Pairwise (lt s))(hk:k<b.length)(f: ∀y∈a.drop i,lt s b[k] y):I6 s a b i (k+1) (out++[b[k]]):=by
 have hd:=Aan hk;have e:=(hb.sublist (List.drop_sublist k b));rw[hd,Ad0]at e;refine⟨?_,?_,fun x c y d=>?_,fun x c y d=>?_⟩
 ·rw[zQ hk,<-Aaj];exact h.perm.append_right _
 ·rw[List.pairwise_append];exact⟨h.srt,List.pairwise_singleton _ _,fun x c y d=>by rw[List.mem_singleton.1 d];exact h.lb x c _ (by rw[hd];exact Aab)⟩
 ·rcases Ad7.1 c with c|c
  ·exact h.la x c y d
  ·rw[List.mem_singleton.1 c];exact f y d
 ·rcases Ad7.1 c with c|c
  ·exact h.lb x c y (by rw[hd];exact Aae _ d)
  ·rw[List.mem_singleton.1 c];exact e.1 y d
theorem pH{x:Nat}(hb:b.Pairwise (lt s))(hk:k<b.length)(h:lt s x b[k]): ∀y∈b.drop k,lt s x y:=fun y a=>by
 have hd:=Aan hk;have c:=(hb.sublist (List.drop_sublist k b));rw[hd,Ad0]at c;rw[hd]at a;rcases List.mem_cons.1 a with rfl|a
 ·exact h
 ·exact Oh h (c.1 y a)
structure J8(s:Aeg)(f t:Nat)(ps:Aeh):Prop where
 perm:ps.Perm (List.range' f (t-f))
 srt:ps.Pairwise (lt s)
theorem J8.mem(h:J8 s f t ps)(x:Nat)(a:x∈ps):f<=x/\x<t:=by
 have:=h.perm.mem_iff.1 a;rw[List.mem_range'_1]at this;omega
theorem J8.len(h:J8 s f t ps):ps.length=t-f:=by have:=h.perm.length_eq;simpa using this
theorem J8.one(s:Aeg)(f:Nat):J8 s f (f+1) [f]:=⟨by rw[Acq];exact List.Perm.refl _,List.pairwise_singleton _ _⟩
theorem I6.done{m:Nat}(h:I6 s a b a.length b.length out)(c:J8 s f m a)(hb:J8 s m t b)(h1:f<=m)(h2:m<=t):J8 s f t out:=by
 refine⟨?_,h.srt⟩;have:=h.perm;rw[Aaw,Aaw]at this;refine this.trans ((c.perm.append hb.perm).trans ?_);have e:List.range' f (t-f)=List.range' f (m-f)++List.range' m (t-m):=by
  rw[show t-f=(m-f)+(t-m)from by omega,<-List.range'_append_1,show f+(m-f)=m from by omega]
 rw[e]
theorem J8.sorted(h:J8 s 0 (s.length+1) ps):D4 s ps:=⟨by have:=h.perm;rw[Adj,<-List.range_eq_range']at this;exact this,h.srt⟩
end Hm
theorem lJ(s:ByteArray)(x y:Nat):Op.bytesLess (s.extract x s.size).toList (s.extract y s.size).toList=true↔lt s.data.toList x y:=by
 have e: ∀a,(s.extract a s.size).data.toList=s.data.toList.drop a:=fun a=>by
  rw[Acu,Ac1,Ab5];exact Aap (by simp)
 rw[Aa2,Aa2,e,e,Um]
theorem g6(s:ByteArray)(f:Nat)(w:World)(_hf:f<=6000):
  Calls prog 40 #[.string s,.int .i64 f,.int .i64 ((f+1:Nat):Int)] w fun e w'=> ∃v,e= .returned v/\w'.ownsRow w.heap.size 3 1 v 1 (Ad [f])/\Aee w w':=by
 obtain⟨t,ht⟩:=gx (f+1);have a:(t:Int)-(f:Int)=1:=by omega
 rw[<-ht];clear ht
 go_enter func40,ntmps40
 go_wp2;go_ret;refine⟨_,rfl,?_,(Aa.refl _ _).alloc _⟩;exact⟨by simp[Ad],.inr ⟨w.heap.size,1,#[I f],rfl,zK _,zY w _,zK _,by unfold maxLen;omega,rfl,by simp[Ad]⟩⟩
theorem g7(s:ByteArray)(f m t:Nat)(w:World)(hs:s.size<=6000)(az:f<m)(a2:m<t)(ht:t<=s.size+1)(hm:m=(f+t)/2)
  (IH: ∀f' t' W,f'<t'->t'<=s.size+1->t'-f'<t-f->Calls prog 40 #[.string s,.int .i64 f',.int .i64 t'] W fun e w'=> ∃v ps,e= .returned v/\J8 s.data.toList f' t' ps/\w'.ownsRow W.heap.size 3 1 v ps.length (Ad ps)/\Aee W w'):
  Calls prog 40 #[.string s,.int .i64 f,.int .i64 t] w fun e w'=> ∃v ps,e= .returned v/\J8 s.data.toList f t ps/\w'.ownsRow w.heap.size 3 1 v ps.length (Ad ps)/\Aee w w':=by
 obtain⟨i0,hi,L,M,N⟩:=Aa6 Jy;have hz:(((t:Int)-(f:Int))==1)=false:=by simp;omega
 have zm:((f:Int)+(t:Int))/2=(m:Int):=by omega
 have h1:=fun W=>IH f m W az (by omega) (by omega);have h2:=fun W=>IH m t W a2 ht (by omega);obtain⟨d,hd⟩:=gx (t-f);have zd:(t:Int)-(f:Int)=(d:Int):=by omega
 have aO:d<=6001:=by omega
 have aT:((d:Int)==1)=false:=by simp;omega
 have HA:=aZ (aI hm hd);clear IH hm hd hz
 go_enter func40,ntmps40
 go_wp2_with fail;refine(h1 _).mono ?_;rintro e w1 ⟨va,a,rfl,S,r,H⟩;obtain⟨ga,ca,a3,_,a0⟩:=Co r (by rw[S.len];omega);subst a3;have ad:=(r.lt ga rfl).1;go_wp2_with fail;refine(h2 _).mono ?_;rintro e w2 ⟨vb,b,rfl,hpb,g,Q⟩;obtain⟨gb,cb,a4,_,aP⟩:=Co g (by rw[hpb.len];omega);subst a4;have ae:=(g.lt gb rfl).1;have U:=Q.owns r (fun _ _ h=>h);have T:=H.tr Q;have ai:=S.len;have aj:=hpb.len;have E:Aside (J8 s.data.toList f m a/\J8 s.data.toList m t b/\w2.ownsRow w.heap.size 3 1 (S0 ga a.length ca) a.length (Ad a)/\w2.ownsRow w1.heap.size 3 1 (S0 gb b.length cb) b.length (Ad b)/\Aee w w2/\a.length+b.length=d):=⟨S,hpb,U,g,T,by have:=HA.o;omega⟩;have aE:ga<w2.heap.size:=by have:=Q.size;omega
 clear h1 h2 S hpb r g H Q U T a0 ad ae;have aL:a.length<=6001:=by omega
 have aM:b.length<=6001:=by omega
 have HL:=aZ (aI ai aj);clear ai aj
 go_wp2_with(at_make;refine wpList_make_own _ rfl _ _ 64 rfl w2.heap.size 3 i0 (I 0) 1 underlying64 hi L M .i64 .i64 _ d rfl rfl rfl (by rw[N];omega) (by unfold maxLen;omega) (zK _) ?_;intro w3 am ac)
 have ah:Aee w2 w3:=(Aa.refl _ _).grown ac (fun k hk=>by cases hk);clear ac
 go_loopw[10,11,12] (fun vo vi vk wr=> ∃(i k:Nat) (out:Aeh),vi=I i/\vk=I k/\i<=a.length/\k<=b.length/\Hid (I6 s.data.toList a b i k out)/\Aside (wr.ownsRow w2.heap.size 3 1 vo out.length (Ad out))/\Aee w2 wr) (fun _ i k _=>a.length-(intOf i).toNat+(b.length-(intOf k).toNat))
 case atStart=>exact⟨0,0,[],rfl,rfl,zZ _,zZ _,I6.none _ _ _,am,ah⟩
 case round=>
  clear am ah;obtain⟨i,k,out,rfl,rfl,ag,H,G,z,p⟩:=hrel;have r:=p.owns E.o.2.2.1 (fun _ _ h=>h);have g:=p.owns E.o.2.2.2.1 (fun _ _ h=>h);have aR:out.length<=13000:=by have:=G.o.perm.length_eq;simp at this;omega
  by_cases O:i<a.length
  ·have aN:wr.cell? (J ga i)=some (I (a[i]:Nat)):=by
    rw[r.cellAt i (by omega)];simp[Ad,O]
   have dA:=(dT i a.length).2;have Z:=(E.o.1.mem a[i] (z6 _));have aQ:(i:Int)<(a.length:Int):=by omega
   by_cases F:k<b.length
   ·have ay:wr.cell? (J gb k)=some (I (b[k]:Nat)):=by
     rw[g.cellAt k (by omega)];simp[Ad,F]
    have ak:=(E.o.2.1.mem b[k] (z6 _));have dB:=(dT k b.length).2;have dE:((k:Int)==(b.length:Int))=false:=by simp;omega
    have a5:a[i]<=s.size:=by omega
    have a8:b[k]<=s.size:=by omega
    have a1:(k:Int)<(b.length:Int):=by omega
    by_cases c:lt s.data.toList a[i] b[k]
    ·have V:=hZ (G.o.left E.o.1.srt O (pH E.o.2.1.srt F c));have ax:=(lJ s _ _).2 c;clear c G r g Z ak;generalize a[i]=x at*;generalize b[k]=y at*;have a6:(x:Int)<=(s.size:Int):=by omega
     have a9:(y:Int)<=(s.size:Int):=by omega
     have l:=aZ z.o;obtain⟨ao,co,D,_⟩:=An z.o;subst D;go_wp2_with fail
     go_region
     go_wp2_with(at_builtin;refine Ay _ rfl (.tmp 70) (.tmp 75) 64 rfl w2.heap.size 3 i0 (I 0) 1 8 underlying64 hi L M N rfl (by decide) _ _ _ rfl (l.o.alloc _) (J wr.heap.size 0) 1 1 [I x] rfl rfl ?c1 ?c2 ?c3 ?c4 ?c5 ?_)
     case c1=>exact Ac6 _ _ _
     case c2=>intro u K;simp at K;subst K;rfl
     case c3=>unfold maxLen;omega
     case c4=>omega
     case c5=>have:=p.size;simp;omega
     intro v5 w5 q n C;have B:Aee w2 w5:=(p.drew.alloc _).grown n (fun j P=> .inl (z.o.lt j P).1);have A:=aZ q;clear q n C z l;go_wp2;go_roundw
     case rel=>
      refine⟨i+1,k,out++[x],by go_num,rfl,by omega,H,V,?_,B⟩;have X:Ad (out++[x])=Ad out++[I x]:=by simp[Ad]
      show World.ownsRow _ _ _ _ _ _ _;rw[X,zL];exact A.o
     case measure=>simp[intOf];omega
    ·have al:b[k]≠a[i]:=by omega
     have aa:s.data.toList.length=s.size:=by simp
     have af:lt s.data.toList b[k] a[i]:=by
      rcases xN s.data.toList (by rw[aa];exact a8) (by rw[aa];exact a5) al with h|h
      ·exact h
      ·exact absurd h c
     have V:=hZ (G.o.right E.o.2.1.srt F (pH E.o.1.srt O af));have ax:Op.bytesLess (s.extract a[i] s.size).toList (s.extract b[k] s.size).toList=false:=by
      have:=mt (lJ s a[i] b[k]).1 c;simpa using this
     clear c G r g Z ak af al aa;generalize a[i]=x at*;generalize b[k]=y at*;have a6:(x:Int)<=(s.size:Int):=by omega
     have a9:(y:Int)<=(s.size:Int):=by omega
     have l:=aZ z.o;obtain⟨ao,co,D,_⟩:=An z.o;subst D;go_wp2_with fail
     go_region
     go_wp2_with(at_builtin;refine Ay _ rfl (.tmp 79) (.tmp 84) 64 rfl w2.heap.size 3 i0 (I 0) 1 8 underlying64 hi L M N rfl (by decide) _ _ _ rfl (l.o.alloc _) (J wr.heap.size 0) 1 1 [I y] rfl rfl ?c1 ?c2 ?c3 ?c4 ?c5 ?_)
     case c1=>exact Ac6 _ _ _
     case c2=>intro u K;simp at K;subst K;rfl
     case c3=>unfold maxLen;omega
     case c4=>omega
     case c5=>have:=p.size;simp;omega
     intro v5 w5 q n C;have B:Aee w2 w5:=(p.drew.alloc _).grown n (fun j P=> .inl (z.o.lt j P).1);have A:=aZ q;clear q n C z l;go_wp2;go_roundw
     case rel=>
      refine⟨i,k+1,out++[y],rfl,by go_num,ag,by omega,V,?_,B⟩;have X:Ad (out++[y])=Ad out++[I y]:=by simp[Ad]
      show World.ownsRow _ _ _ _ _ _ _;rw[X,zL];exact A.o
     case measure=>simp[intOf];omega
   ·have R:b.length=k:=by omega
    have V:Hid (I6 s.data.toList a b (i+1) k (out++[a[i]])):=G.o.left E.o.1.srt O (by rw[<-R,Ab7];intro y hy;simp at hy);have dE:((b.length:Int)==(b.length:Int))=true:=by simp
    clear G r g Z;generalize a[i]=x at*;subst R;have l:=aZ z.o;obtain⟨ao,co,D,_⟩:=An z.o;subst D;go_wp2_with fail
    go_region
    go_wp2_with(at_builtin;refine Ay _ rfl (.tmp 70) (.tmp 75) 64 rfl w2.heap.size 3 i0 (I 0) 1 8 underlying64 hi L M N rfl (by decide) _ _ _ rfl (l.o.alloc _) (J wr.heap.size 0) 1 1 [I x] rfl rfl ?c1 ?c2 ?c3 ?c4 ?c5 ?_)
    case c1=>exact Ac6 _ _ _
    case c2=>intro u K;simp at K;subst K;rfl
    case c3=>unfold maxLen;omega
    case c4=>omega
    case c5=>have:=p.size;simp;omega
    intro v5 w5 q n C;have B:Aee w2 w5:=(p.drew.alloc _).grown n (fun j P=> .inl (z.o.lt j P).1);have A:=aZ q;clear q n C z l;go_wp2;go_roundw
    case rel=>
     refine⟨i+1,b.length,out++[x],by go_num,rfl,by omega,H,V,?_,B⟩;have X:Ad (out++[x])=Ad out++[I x]:=by simp[Ad]
     show World.ownsRow _ _ _ _ _ _ _;rw[X,zL];exact A.o
    case measure=>simp[intOf];omega
  ·have Y:a.length=i:=by omega
   by_cases F:k<b.length
   ·have ay:wr.cell? (J gb k)=some (I (b[k]:Nat)):=by
     rw[g.cellAt k (by omega)];simp[Ad,F]
    have V:Hid (I6 s.data.toList a b i (k+1) (out++[b[k]])):=G.o.right E.o.2.1.srt F (by rw[<-Y,Ab7];intro y hy;simp at hy);have dA:=(dF a.length a.length).2;have dB:=(dT k b.length).2;have dE:((k:Int)==(b.length:Int))=false:=by simp;omega
    have a1:(k:Int)<(b.length:Int):=by omega
    clear G r g;generalize b[k]=y at*;subst Y;have l:=aZ z.o;obtain⟨ao,co,D,_⟩:=An z.o;subst D;go_wp2_with fail
    go_region
    go_wp2_with(at_builtin;refine Ay _ rfl (.tmp 79) (.tmp 84) 64 rfl w2.heap.size 3 i0 (I 0) 1 8 underlying64 hi L M N rfl (by decide) _ _ _ rfl (l.o.alloc _) (J wr.heap.size 0) 1 1 [I y] rfl rfl ?c1 ?c2 ?c3 ?c4 ?c5 ?_)
    case c1=>exact Ac6 _ _ _
    case c2=>intro u K;simp at K;subst K;rfl
    case c3=>unfold maxLen;omega
    case c4=>omega
    case c5=>have:=p.size;simp;omega
    intro v5 w5 q n C;have B:Aee w2 w5:=(p.drew.alloc _).grown n (fun j P=> .inl (z.o.lt j P).1);have A:=aZ q;clear q n C z l;go_wp2;go_roundw
    case rel=>
     refine⟨a.length,k+1,out++[y],rfl,by go_num,ag,by omega,V,?_,B⟩;have X:Ad (out++[y])=Ad out++[I y]:=by simp[Ad]
     show World.ownsRow _ _ _ _ _ _ _;rw[X,zL];exact A.o
    case measure=>simp[intOf];omega
   ·have R:b.length=k:=by omega
    subst Y;subst R;have dA:=(dF a.length a.length).2;have dB:=(dF b.length b.length).2;have HP:Aside (J8 s.data.toList f t out):=G.o.done E.o.1 E.o.2.1 (by omega) (by omega);clear r g G;go_wp2;go_ret;refine⟨_,out,rfl,HP.o,Fs z.o (fun j P=>?_),E.o.2.2.2.2.1.tr p⟩;have h1:=(z.o.lt j P).1;have h2:=E.o.2.2.2.2.1.size;omega
theorem Un(s:ByteArray)(hs:s.size<=6000): ∀(N f t:Nat) (w:World),t-f<=N->f<t->t<=s.size+1->
  Calls prog 40 #[.string s,.int .i64 f,.int .i64 t] w fun e w'=> ∃v ps,e= .returned v/\J8 s.data.toList f t ps/\w'.ownsRow w.heap.size 3 1 v ps.length (Ad ps)/\Aee w w'
 |0,f,t,w,h,a,ht=>by omega
 |N+1,f,t,w,h,a,ht=>by
  have g:=Un s hs N
  by_cases e:t=f+1
  ·subst e;refine(g6 s f w (by omega)).mono ?_;rintro e w' ⟨v,c,d,hk⟩;exact⟨v,[f],c,J8.one _ f,d,hk⟩
  ·exact g7 s f ((f+t)/2) t w hs (by omega) (by omega) ht rfl (fun b i W h1 h2 j=>g b i W (by omega) h1 h2)
namespace Hm
def Pq(l:Aeg)(c:Nat):Bool:=l.any fun b=>b.toNat==c
theorem uX(l:Aeg)(c k:Nat)(h:k<l.length):Pq (l.take (k+1)) c=(Pq (l.take k) c||l[k].toNat==c):=by
 rw[zQ h];unfold Pq;rw[List.any_append];simp only[List.any_cons,List.any_nil,Bool.or_false]
def Q7:Option Nat->Int
 |none=> -1
 |some j=>j
def Cj(wt:Aeh)(a:Int):Nat->Option Nat
 |0=>none
 |c+1=>if(c:Int)≠a/\0<wt.getD c 0/\(∀j,Cj wt a c=some j->wt.getD c 0<wt.getD j 0)then some c else Cj wt a c
theorem Tu(wt:Aeh)(a:Int): ∀c j,Cj wt a c=some j->j<c
 |0,j,h=>by simp[Cj]at h
 |c+1,j,h=>by
  rw[Cj]at h;split at h
  ·cases h;omega
  ·have:=Tu wt a c j h;omega
theorem No(wt:Aeh)(a:Int): ∀c,(∀j,Cj wt a c=some j->(j:Int)≠a/\0<wt.getD j 0/\ ∀i,i<c->(i:Int)≠a->0<wt.getD i 0->wt.getD j 0<wt.getD i 0\/(wt.getD j 0=wt.getD i 0/\j<=i))/\(Cj wt a c=none-> ∀i,i<c->(i:Int)≠a->wt.getD i 0=0)
 |0=>⟨fun j h=>by simp[Cj]at h,fun _ i h=>by omega⟩
 |c+1=>by
  obtain⟨h1,h2⟩:=No wt a c;have l:=Tu wt a c;rw[Cj]
  by_cases cd:(c:Int)≠a/\0<wt.getD c 0/\(∀j,Cj wt a c=some j->wt.getD c 0<wt.getD j 0)
  ·rw[if_pos cd];refine⟨fun j b=>?_,fun h=>by cases h⟩;cases b;refine⟨cd.1,cd.2.1,fun i hi hb f=>?_⟩
   by_cases e:i=c
   ·subst e;exact .inr ⟨rfl,zK _⟩
   ·cases g:Cj wt a c with
    |none=>have:=h2 g i (by omega) hb;omega
    |some j=>
     have a1:=(h1 j g).2.2 i (by omega) hb f;have a2:=cd.2.2 j g;omega
  ·rw[if_neg cd];refine⟨fun j b=>?_,fun m i hi hb=>?_⟩
   ·obtain⟨b1,b2,b3⟩:=h1 j b;refine⟨b1,b2,fun i hi hb f=>?_⟩
    by_cases e:i=c
    ·subst e;have: ¬wt.getD i 0<wt.getD j 0:=fun k=>cd ⟨hb,f,fun j' d=>by rw[b]at d;cases d;exact k⟩;have:=l j b;omega
    ·exact b3 i (by omega) hb f
   ·by_cases e:i=c
    ·subst e;apply Ad5;intro f;exact cd ⟨hb,by omega,fun j b=>by rw[m]at b;cases b⟩
    ·exact h2 m i (by omega) hb
end Hm
theorem Uo(s:ByteArray)(c:Nat)(w:World)(hs:s.size<=6000)(_hc:c<256):
  Calls prog 87 #[.string s,.int .i64 c] w fun e w'=>e= .returned (.bool (Pq s.data.toList c))/\w'=w:=by
 have f:Aside (s.data.toList.length=s.size):=by show _=_;simp
 go_enter func87,ntmps87
 go_wp2
 go_loop [5] (fun i=> ∃k:Nat,k<=s.size/\i=I k/\Pq (s.data.toList.take k) c=false) (fun i=>s.size-(intOf i).toNat)
 case atStart=>exact⟨0,zZ _,rfl,rfl⟩
 case round=>
  obtain⟨k,hk,rfl,n⟩:=hrel;have m:=aZ n;clear n
  by_cases a:k<s.size
  ·have g:=(dT k s.size).2;have d:k<s.data.toList.length:=by rw[f.o];exact a
   have h:=aZ (uX _ c k d);have b:s.data.toList[k]'d=s[k]'a:=rfl;rw[b]at h;have q:=(s[k]'a).toNat_lt
   by_cases j:(s[k]'a).toNat=c
   ·have hb:(((s[k]'a).toNat:Int)==(c:Int))=true:=by simp;omega
    have l:Aside (Pq s.data.toList c=true):=by
     show _=_;unfold Pq;rw[List.any_eq_true];exact⟨s[k]'a,by rw[<-b];exact z6 _,beq_iff_eq.2 j⟩
    clear h b d j;go_wp2;go_ret;exact⟨by rw[l.o];rfl,rfl⟩
   ·have hb:(((s[k]'a).toNat:Int)==(c:Int))=false:=by simp;omega
    have p:Aside (Pq (s.data.toList.take (k+1)) c=false):=by
     show _=_;rw[h.o,m.o,Bool.false_or,Aat];exact j
    clear h b d j;go_wp2
    go_round
    case rel=>exact⟨k+1,by omega,by go_num,p.o⟩
    case measure=>simp[intOf];omega
  ·obtain rfl:s.size=k:=by omega
   have g:=(dF s.size s.size).2;have l:Aside (Pq s.data.toList c=false):=by
    have:=m.o;rw[<-f.o,Aaw]at this;exact this
   go_wp2;go_ret;exact⟨by rw[l.o];rfl,rfl⟩
theorem D7:(prog.info? 94).map (·.size)=some 256:=by kernel_rfl
theorem Q8(wt:Aeh)(a:Int)(w:World)(k:wt.length=256)(H: ∀x∈wt,x<=100000)(_hb: -1<=a)(_hb2:a<=256):
  Calls prog 86 #[.agg (Ad wt).toArray,.int .i64 a] w fun e w'=>e= .returned (.int .i64 (Q7 (Cj wt a 256)))/\Aee w w':=by
 have m:(w.alloc (.cells (Ad wt).toArray 94)).heap[w.heap.size]?=some (.cells (Ad wt).toArray 94 (0,0)):=zY w _;have g: ∀W:World,W.heap[w.heap.size]?=some (.cells (Ad wt).toArray 94 (0,0))-> ∀b:Nat,b<256->W.cell? (J w.heap.size b)=some (I (wt.getD b 0:Nat)):=by
  intro W L b hb;rw[zP _ _ b _ _ _ L];simp[Ad,List.getD_eq_getElem?_getD,List.getElem?_eq_getElem (show b<wt.length from by omega)]
 have r: ∀b:Nat,wt.getD b 0<=100000:=fun b=>by
  rw[zG]
  by_cases h:b<wt.length
  ·rw[zH h];exact H _ (z6 _)
  ·rw[Aam (by omega)];simp
 have E:Aside _:=g;have F:Aside _:=r;have K:Aside _:=m;clear g r H k m;generalize(Ad wt).toArray=arr at*
 go_enter func86,ntmps86
 go_wp2_with fail;have t:Aee (w.alloc (.cells arr 94)) (w.alloc (.cells arr 94)):=Aa.refl _ _
 go_loopw[5,6] (fun b i wr=> ∃c:Nat,c<=256/\i=I c/\b=I (Q7 (Cj wt a c))/\Aee (w.alloc (.cells arr 94)) wr) (fun _ i _=>256-(intOf i).toNat)
 case atStart=>exact⟨0,by omega,rfl,rfl,t⟩
 case round=>
  clear t;obtain⟨c,S,rfl,rfl,f⟩:=hrel;have d:=f.row K.o id
  by_cases D:c<256
  ·have q:decide ((c:Int)<256)=true:=zJ (by omega);have v:=E.o wr d c D;have C:=F.o c;have HS:Aside (Cj wt a (c+1)=if(c:Int)≠a/\0<wt.getD c 0/\(∀j,Cj wt a c=some j->wt.getD c 0<wt.getD j 0)then some c else Cj wt a c):=rfl;have M:(c:Int)<256:=by omega
   by_cases h1:(c:Int)=a
   ·have hn:((c:Int) !=a)=false:=by simp[h1]
    have l:Aside (Cj wt a (c+1)=Cj wt a c):=by show _=_;rw[HS.o,if_neg (fun h=>h.1 h1)]
    clear HS d h1;generalize n:Q7 (Cj wt a c)=bb at*;go_wp2_with fail
    go_region
    go_wp2;go_roundw
    case rel=>exact⟨c+1,by omega,by go_num,by rw[l.o,n],f.drew⟩
    case measure=>simp[intOf];omega
   ·have hn:((c:Int) !=a)=true:=by simpa using h1
    by_cases h2:0<wt.getD c 0
    ·cases k:Cj wt a c with
     |none=>
      have l:Aside (Cj wt a (c+1)=some c):=by show _=_;rw[HS.o,if_pos ⟨h1,h2,fun j G=>by rw[k]at G;cases G⟩]
      have z:=zJ h2;generalize wt.getD c 0=x at*;clear HS d h1 k h2;rw[show Q7 none= -1 from rfl];go_wp2_with fail
      go_region
      go_wp2;go_roundw
      case rel=>exact⟨c+1,by omega,by go_num,by rw[l.o];go_num,f.drew⟩
      case measure=>simp[intOf];omega
     |some j=>
      have R:=Tu wt a c j k;have N:=E.o wr d j (by omega);have O:=F.o j;have Q:(j:Int)<256:=by omega
      have z:=zJ h2;rw[show Q7 (some j)=(j:Int)from rfl];have P:decide ((j:Int)<0)=false:=zM (by omega)
      by_cases p:wt.getD c 0<wt.getD j 0
      ·have l:Aside (Cj wt a (c+1)=some c):=by show _=_;rw[HS.o,if_pos ⟨h1,h2,fun j' s=>by rw[k]at s;cases s;exact p⟩]
       have A:decide ((wt.getD c 0:Int)<(wt.getD j 0:Int))=true:=zJ (by omega);have B:=zJ p;generalize wt.getD c 0=x at*;generalize wt.getD j 0=y at*;clear HS d h1 k h2 p;go_wp2_with fail
       go_region
       go_wp2;go_roundw
       case rel=>exact⟨c+1,by omega,by go_num,by rw[l.o];go_num,f.drew⟩
       case measure=>simp[intOf];omega
      ·have l:Aside (Cj wt a (c+1)=some j):=by show _=_;rw[HS.o,if_neg (fun h=>p (h.2.2 j k)),k]
       have A:decide ((wt.getD c 0:Int)<(wt.getD j 0:Int))=false:=zM (by omega);have B:=zM p;generalize wt.getD c 0=x at*;generalize wt.getD j 0=y at*;clear HS d h1 k h2 p;go_wp2_with fail
       go_region
       go_wp2;go_roundw
       case rel=>exact⟨c+1,by omega,by go_num,by rw[l.o];rfl,f.drew⟩
       case measure=>simp[intOf];omega
    ·have l:Aside (Cj wt a (c+1)=Cj wt a c):=by show _=_;rw[HS.o,if_neg (fun h=>h2 h.2.1)]
     have u:wt.getD c 0=0:=by omega
     rw[u]at v;clear HS d h1 h2 u C;generalize n:Q7 (Cj wt a c)=bb at*;go_wp2_with fail
     go_region
     go_wp2;go_roundw
     case rel=>exact⟨c+1,by omega,by go_num,by rw[l.o,n],f.drew⟩
     case measure=>simp[intOf];omega
  ·obtain rfl:256=c:=by omega
   have q:decide ((256:Int)<256)=false:=by decide
   clear d;go_wp2;go_ret;exact⟨rfl,((Aa.refl (fun _=>False) w).alloc _).tr f⟩
end
namespace Hm
theorem Up(gs:List Grp): ∀k,k<=gs.length-> ∀i,i<k->(gs.getD (Ct gs k) (0,0,[])).1<(gs.getD i (0,0,[])).1\/((gs.getD (Ct gs k) (0,0,[])).1=(gs.getD i (0,0,[])).1/\(gs.getD (Ct gs k) (0,0,[])).2.1.toNat<=(gs.getD i (0,0,[])).2.1.toNat)
 |0,_,i,h=>by omega
 |k+1,hk,i,h=>by
  have d:=Up gs k (by omega);rw[Ct];have b: ∀g h:Grp,N0 g h<0↔ltP (g.1,g.2.1.toNat) (h.1,h.2.1.toNat):=fun g h=>Qk (g.1,g.2.1.toNat) (h.1,h.2.1.toNat)
  by_cases c:N0 (gs.getD k (0,0,[])) (gs.getD (Ct gs k) (0,0,[]))<0
  ·rw[if_pos c];have a:=(b _ _).1 c;unfold ltP at a;simp only at a
   by_cases e:i=k
   ·subst e;exact .inr ⟨rfl,zK _⟩
   ·have:=d i (by omega);omega
  ·rw[if_neg c];have a:=mt (b _ _).2 c;unfold ltP at a;simp only at a
   by_cases e:i=k
   ·subst e;omega
   ·exact d i (by omega)
theorem Yp(gs:List Grp)(g:Grp)(a:g∈gs):(Au gs).1<g.1\/((Au gs).1=g.1/\(Au gs).2.1.toNat<=g.2.1.toNat):=by
 obtain⟨i,hi,rfl⟩:=Aa5 a;have:=Up gs gs.length (zK _) i hi;rw[zG (i:=i),zH hi]at this;exact this
structure Sim(gs:List Grp)(wt inn:Aeh):Prop where
 lw:wt.length=256
 li:inn.length=256
 name: ∀g∈gs,g.2.1∈g.2.2
 pos: ∀g∈gs,0<g.1
 wi: ∀g∈gs,wt.getD g.2.1.toNat 0=g.1
 wo: ∀c,(∀g∈gs,g.2.1.toNat≠c)->wt.getD c 0=0
 ii: ∀g∈gs,∀b∈g.2.2,inn.getD b.toNat 0=g.2.1.toNat
 io: ∀b:UInt8,b∉Bm gs->inn.getD b.toNat 0=b.toNat
theorem Sim.perm{gs hs:List Grp}(h:Sim gs wt inn)(p:gs.Perm hs):Sim hs wt inn:=
 ⟨h.lw,h.li,fun g a=>h.name g (p.mem_iff.2 a),fun g a=>h.pos g (p.mem_iff.2 a),fun g a=>h.wi g (p.mem_iff.2 a),fun c d=>h.wo c fun g a=>d g (p.mem_iff.1 a),fun g a=>h.ii g (p.mem_iff.2 a),fun b hb=>h.io b fun k=>hb ((p.flatMap_right (fun g:Grp=>g.2.2)).mem_iff.1 k)⟩
theorem Lk{x y:Grp}{gs:List Grp}(hn:(Bm (x::gs)).Nodup)(c:x.2.1∈x.2.2)(d:y∈gs)(a:y.2.1∈y.2.2):x.2.1.toNat≠y.2.1.toNat:=fun e=>by
 have b:=UInt8.toNat_inj.1 e;unfold Bm at hn;rw[Aa3,List.nodup_append]at hn;exact hn.2.2 _ c _ (List.mem_flatMap.2 ⟨y,d,a⟩) b
theorem Sim.first{gs:List Grp}(h:Sim gs wt inn)(d:0<gs.length):Cj wt (-1) 256=some (Au gs).2.1.toNat:=by
 obtain⟨s1,s2⟩:=No wt (-1) 256;have ht:=eH gs d;cases c:Cj wt (-1) 256 with
 |none=>
  have:=s2 c (Au gs).2.1.toNat (Au gs).2.1.toNat_lt (by omega);rw[h.wi _ ht]at this;have:=h.pos _ ht;omega
 |some j=>
  obtain⟨_,a2,a3⟩:=s1 j c;have b: ∃g∈gs,g.2.1.toNat=j:=by
   apply Ad5;intro f;have:=h.wo j fun g a e=>f ⟨g,a,e⟩;omega
  obtain⟨g,a,rfl⟩:=b;have b1:=a3 (Au gs).2.1.toNat (Au gs).2.1.toNat_lt (by omega) (by rw[h.wi _ ht];exact h.pos _ ht);rw[h.wi _ ht,h.wi _ a]at b1;have b2:=Yp gs g a;congr 1;omega
theorem Sim.second{x:Grp}{gs:List Grp}(h:Sim (x::gs) wt inn)(hn:(Bm (x::gs)).Nodup):Cj wt (x.2.1.toNat:Int) 256=if 0<gs.length then some (Au gs).2.1.toNat else none:=by
 obtain⟨s1,s2⟩:=No wt (x.2.1.toNat:Int) 256;have n:=h.name x Aab;have m: ∀g∈gs,x.2.1.toNat≠g.2.1.toNat:=fun g b=>Lk hn n b (h.name g (Aae _ b))
 by_cases d:0<gs.length
 ·rw[if_pos d];have ht:=eH gs d;have a:Au gs∈x::gs:=Aae _ ht;have p:=m _ ht;cases c:Cj wt (x.2.1.toNat:Int) 256 with
  |none=>
   have:=s2 c (Au gs).2.1.toNat (Au gs).2.1.toNat_lt (by omega);rw[h.wi _ a]at this;have:=h.pos _ a;omega
  |some j=>
   obtain⟨a1,a2,a3⟩:=s1 j c;have f: ∃g∈x::gs,g.2.1.toNat=j:=by
    apply Ad5;intro o;have:=h.wo j fun g b e=>o ⟨g,b,e⟩;omega
   obtain⟨g,b,rfl⟩:=f;have i:g∈gs:=by
    rcases List.mem_cons.1 b with e|k
    ·subst e;exact absurd rfl a1
    ·exact k
   have b1:=a3 (Au gs).2.1.toNat (Au gs).2.1.toNat_lt (by omega) (by rw[h.wi _ a];exact h.pos _ a);rw[h.wi _ a,h.wi _ b]at b1;have b2:=Yp gs g i;congr 1;omega
 ·rw[if_neg d];cases c:Cj wt (x.2.1.toNat:Int) 256 with
  |none=>rfl
  |some j=>
   exfalso;obtain⟨a1,a2,a3⟩:=s1 j c;have l:gs=[]:=Aaz (by omega);subst l;have:=h.wo j fun g b e=>by
    rw[List.mem_singleton.1 b]at e;exact a1 (by omega)
   omega
def St(inn:Aeh)(x y:Nat):Aeh:=inn.map fun v=>if v=x\/v=y then x else v
def O7(wt:Aeh)(x y:Nat):Aeh:=(wt.set x (wt.getD x 0+wt.getD y 0)).set y 0
theorem Sb(inn:Aeh)(x y c:Nat)(h:c<inn.length):(St inn x y).getD c 0=if inn.getD c 0=x\/inn.getD c 0=y then x else inn.getD c 0:=by
 unfold St;rw[zG,Aah,zG,zH h];rfl
theorem Yq(wt:Aeh)(x y c:Nat)(a:x<wt.length)(b:y<wt.length):(O7 wt x y).getD c 0=if c=y then 0 else if c=x then wt.getD x 0+wt.getD y 0 else wt.getD c 0:=by
 unfold O7
 by_cases h1:c=y
 ·rw[if_pos h1,h1,Kg _ _ _ (by simpa using b)]
 ·rw[if_neg h1,getD_set_ne _ _ _ _ (fun e=>h1 e.symm)]
  by_cases h2:c=x
  ·rw[if_pos h2,h2,Kg _ _ _ a]
  ·rw[if_neg h2,getD_set_ne _ _ _ _ (fun e=>h2 e.symm)]
theorem Tv(x y:Grp):(E9 x y).2.1.toNat=min x.2.1.toNat y.2.1.toNat:=by
 show(UInt8.ofNat (min x.2.1.toNat y.2.1.toNat)).toNat=_;rw[Aax];have:=x.2.1.toNat_lt;omega
theorem Sim.either{x y:Grp}{gs:List Grp}(h:Sim (x::y::gs) wt inn)(hn:(Bm (x::y::gs)).Nodup)(b:UInt8):(inn.getD b.toNat 0=x.2.1.toNat\/inn.getD b.toNat 0=y.2.1.toNat)↔b∈x.2.2++y.2.2:=by
 have i:=h.name x Aab;have j:=h.name y (Aae _ Aab);have k:=Lk hn i Aab j;constructor
 ·intro e
  by_cases d:b∈Bm (x::y::gs)
  ·obtain⟨g,a,hb⟩:=List.mem_flatMap.1 d;have hi:=h.ii g a b hb;rw[hi]at e;rcases List.mem_cons.1 a with rfl|a
   ·exact Acs _ hb
   ·rcases List.mem_cons.1 a with rfl|a
    ·exact List.mem_append_right _ hb
    ·exfalso;have c:=h.name g (Aae _ (Aae _ a));have n1:=Lk hn i (Aae _ a) c;have f:(Bm (y::gs)).Nodup:=by
      unfold Bm at hn|-;rw[Aa3,List.nodup_append]at hn;exact hn.2.1
     have n2:=Lk f j a c;omega
  ·exfalso;rw[h.io b d]at e;rcases e with e|e
   ·exact d (List.mem_flatMap.2 ⟨x,Aab,by rw[UInt8.toNat_inj.1 e];exact i⟩)
   ·exact d (List.mem_flatMap.2 ⟨y,Aae _ Aab,by rw[UInt8.toNat_inj.1 e];exact j⟩)
 ·intro hb;rcases Ad7.1 hb with hb|hb
  ·exact .inl (h.ii x Aab b hb)
  ·exact .inr (h.ii y (Aae _ Aab) b hb)
theorem Sim.merge{x y:Grp}{gs:List Grp}(h:Sim (x::y::gs) wt inn)(hn:(Bm (x::y::gs)).Nodup):Sim (E9 x y::gs) (O7 wt (min x.2.1.toNat y.2.1.toNat) (max x.2.1.toNat y.2.1.toNat)) (St inn (min x.2.1.toNat y.2.1.toNat) (max x.2.1.toNat y.2.1.toNat)):=by
 have t:=h.name x Aab;have u:=h.name y (Aae _ Aab);have B:=Lk hn t Aab u;have A:=x.2.1.toNat_lt;have C:=y.2.1.toNat_lt;have m:=h.wi x Aab;have n:=h.wi y (Aae _ Aab);have f: ∀g∈gs,g∈x::y::gs:=fun g d=>Aae _ (Aae _ d);have s:(Bm (y::gs)).Nodup:=by
  unfold Bm at hn|-;rw[Aa3,List.nodup_append]at hn;exact hn.2.1
 have n1: ∀g∈gs,x.2.1.toNat≠g.2.1.toNat:=fun g d=>Lk hn t (Aae _ d) (h.name g (f g d));have n2: ∀g∈gs,y.2.1.toNat≠g.2.1.toNat:=fun g d=>Lk s u d (h.name g (f g d));have q:=h.lw;have p:=h.li;have r:(x.2.1.toNat=min x.2.1.toNat y.2.1.toNat/\y.2.1.toNat=max x.2.1.toNat y.2.1.toNat)\/(y.2.1.toNat=min x.2.1.toNat y.2.1.toNat/\x.2.1.toNat=max x.2.1.toNat y.2.1.toNat):=by omega
 have l:wt.getD (min x.2.1.toNat y.2.1.toNat) 0+wt.getD (max x.2.1.toNat y.2.1.toNat) 0=x.1+y.1:=by
  rcases r with⟨a,b⟩|⟨a,b⟩
  ·rw[<-a,<-b,m,n]
  ·rw[<-a,<-b,m,n];omega
 have i: ∀v:Nat,(v=min x.2.1.toNat y.2.1.toNat\/v=max x.2.1.toNat y.2.1.toNat)↔(v=x.2.1.toNat\/v=y.2.1.toNat):=fun v=>by omega
 refine⟨by simp[O7,q],by simp[St,p],fun g d=>?_,fun g d=>?_,fun g d=>?_,fun c w=>?_,fun g d b hb=>?_,fun b hb=>?_⟩
 ·rcases List.mem_cons.1 d with rfl|d
  ·show UInt8.ofNat (min x.2.1.toNat y.2.1.toNat)∈x.2.2++y.2.2;rcases Nat.le_total x.2.1.toNat y.2.1.toNat with e|e
   ·rw[Ab8 e];simp only[UInt8.ofNat_toNat];exact Acs _ t
   ·rw[Nat.min_eq_right e];simp only[UInt8.ofNat_toNat];exact List.mem_append_right _ u
  ·exact h.name g (f g d)
 ·rcases List.mem_cons.1 d with rfl|d
  ·have:=h.pos x Aab;show 0<x.1+y.1;omega
  ·exact h.pos g (f g d)
 ·rw[Yq _ _ _ _ (by omega) (by omega)];rcases List.mem_cons.1 d with rfl|d
  ·rw[Tv,iN,if_pos rfl,l];rfl
  ·have:=n1 g d;have:=n2 g d;rw[iN,iN];exact h.wi g (f g d)
 ·rw[Yq _ _ _ _ (by omega) (by omega)];have z:=w _ Aab;rw[Tv]at z
  by_cases e:c=max x.2.1.toNat y.2.1.toNat
  ·rw[if_pos e]
  ·rw[if_neg e,if_neg (fun k=>z k.symm)];refine h.wo c fun g d=>?_;rcases List.mem_cons.1 d with rfl|d
   ·omega
   ·rcases List.mem_cons.1 d with rfl|d
    ·omega
    ·exact w g (Aae _ d)
 ·have o:=b.toNat_lt;rw[Sb _ _ _ _ (by omega)];rcases List.mem_cons.1 d with rfl|d
  ·rw[if_pos ((i _).2 ((h.either hn b).2 hb)),Tv]
  ·have hi:=h.ii g (f g d) b hb;have:=n1 g d;have:=n2 g d;rw[hi,iN]
 ·have o:=b.toNat_lt;have j:b∉Bm (x::y::gs):=by
   intro k;refine hb ?_;unfold Bm at k|-;rw[Aa3,Aa3,<-Aaj]at k;rw[Aa3];exact k
  rw[Sb _ _ _ _ (by omega),if_neg (fun k=>?_)]
  ·exact h.io b j
  ·have:=(h.either hn b).1 ((i _).1 k);refine j (List.mem_flatMap.2 ?_);rcases Ad7.1 this with k|k
   ·exact⟨x,Aab,k⟩
   ·exact⟨y,Aae _ Aab,k⟩
end Hm
section
open Go.RowKit
def AR(w:World)(g:Nat)(l:Aeh):Prop:=w.heap[g]?=some (.cells (Ad l).toArray 94 (0,0))
theorem AR.cell(h:AR w g l){i:Nat}(hi:i<l.length):w.cell? ⟨g,i,none⟩=some (.int .i64 (l.getD i 0:Nat)):=by
 rw[zP _ _ i _ _ _ h];simp[Ad,hi,List.getD_eq_getElem?_getD]
theorem AR.free(h:AR w g l)(i:Nat):w.frozen? ⟨g,i,none⟩=false:=zR _ _ i _ _ h
theorem AR.set(h:AR w g l)(i x:Nat):AR (w.setCell ⟨g,i,none⟩ (.int .i64 x)) g (l.set i x):=by
 have h2:=zI w g i _ _ (I x) h;unfold AR;rw[h2];congr 2;apply Abr;simp[Ad,List.map_set]
theorem AR.other{h:Nat}(k:AR w g l)(i:Nat)(v:Value)(a:g≠h):AR (w.setCell ⟨h,i,none⟩ v) g l:=(Acg _ _ _ _ a).trans k
theorem AR.lt(h:AR w g l):g<w.heap.size:=Aac h
theorem AR.kept{S:Nat->Prop}{w':World}(h:AR w g l)(hk:Aa S w w')(hn: ¬S g):AR w' g l:=hk.row h hn
theorem Wi:Tryz.zeroCells94=(Ad (List.replicate 256 0)).toArray:=by kernel_rfl
namespace Hm
def L8(inn:Aeh)(x y k:Nat):Aeh:=(List.range 256).map fun i=>if i<k/\(inn.getD i 0=x\/inn.getD i 0=y)then x else inn.getD i 0
def K9(inn L:Aeh)(x y k:Nat):Aeh:=(List.range 256).map fun i=>if i<k/\(inn.getD i 0=x\/inn.getD i 0=y)then L.getD i 0+1 else L.getD i 0
theorem Hs(inn:Aeh)(x y k:Nat):(L8 inn x y k).length=256:=by unfold L8;rw[Aai,Acb]
theorem Gb(inn L:Aeh)(x y k:Nat):(K9 inn L x y k).length=256:=by unfold K9;rw[Aai,Acb]
theorem Ll(inn:Aeh)(x y k i:Nat)(h:i<256):(L8 inn x y k).getD i 0=if i<k/\(inn.getD i 0=x\/inn.getD i 0=y)then x else inn.getD i 0:=by
 unfold L8;rw[zG,Aah,Abn h];rfl
theorem I7(inn L:Aeh)(x y k i:Nat)(h:i<256):(K9 inn L x y k).getD i 0=if i<k/\(inn.getD i 0=x\/inn.getD i 0=y)then L.getD i 0+1 else L.getD i 0:=by
 unfold K9;rw[zG,Aah,Abn h];rfl
theorem Lm(h:a.length=256)(k:b.length=256)(e: ∀i,i<256->a.getD i 0=b.getD i 0):a=b:=by
 apply Aa1
 ·omega
 ·intro i h1 h2;have:=e i (by omega);rw[zG,zH h1,zG,zH h2]at this;exact this
theorem uY(inn:Aeh)(x y:Nat)(h:inn.length=256):L8 inn x y 0=inn:=Lm (Hs ..) h fun i hi=>by rw[Ll _ _ _ _ _ hi,iN]
theorem sD(inn L:Aeh)(x y:Nat)(h:L.length=256):K9 inn L x y 0=L:=Lm (Gb ..) h fun i hi=>by rw[I7 _ _ _ _ _ _ hi,iN]
theorem lK(inn:Aeh)(x y k:Nat)(hk:k<256)(h:inn.getD k 0=x\/inn.getD k 0=y):L8 inn x y (k+1)=(L8 inn x y k).set k x:=Lm (Hs ..) (by rw[Abb,Hs]) fun i hi=>by
 rw[Ll _ _ _ _ _ hi]
 by_cases e:i=k
 ·subst e;rw[Kg _ _ _ (by rw[Hs];exact hi),if_pos ⟨by omega,h⟩]
 ·rw[getD_set_ne _ _ _ _ (fun c=>e c.symm),Ll _ _ _ _ _ hi]
  by_cases c:i<k/\(inn.getD i 0=x\/inn.getD i 0=y)
  ·rw[if_pos c,if_pos ⟨by omega,c.2⟩]
  ·rw[if_neg c,if_neg (fun q=>c ⟨by omega,q.2⟩)]
theorem uZ(inn:Aeh)(x y k:Nat)(h: ¬(inn.getD k 0=x\/inn.getD k 0=y)):L8 inn x y (k+1)=L8 inn x y k:=Lm (Hs ..) (Hs ..) fun i hi=>by
 rw[Ll _ _ _ _ _ hi,Ll _ _ _ _ _ hi]
 by_cases e:i=k
 ·subst e;rw[if_neg (fun q=>h q.2),if_neg (fun q=>h q.2)]
 ·by_cases c:i<k/\(inn.getD i 0=x\/inn.getD i 0=y)
  ·rw[if_pos c,if_pos ⟨by omega,c.2⟩]
  ·rw[if_neg c,if_neg (fun q=>c ⟨by omega,q.2⟩)]
theorem fF(inn L:Aeh)(x y k:Nat)(hk:k<256)(h:inn.getD k 0=x\/inn.getD k 0=y):K9 inn L x y (k+1)=(K9 inn L x y k).set k (L.getD k 0+1):=Lm (Gb ..) (by rw[Abb,Gb]) fun i hi=>by
 rw[I7 _ _ _ _ _ _ hi]
 by_cases e:i=k
 ·subst e;rw[Kg _ _ _ (by rw[Gb];exact hi),if_pos ⟨by omega,h⟩]
 ·rw[getD_set_ne _ _ _ _ (fun c=>e c.symm),I7 _ _ _ _ _ _ hi]
  by_cases c:i<k/\(inn.getD i 0=x\/inn.getD i 0=y)
  ·rw[if_pos c,if_pos ⟨by omega,c.2⟩]
  ·rw[if_neg c,if_neg (fun q=>c ⟨by omega,q.2⟩)]
theorem sF(inn L:Aeh)(x y k:Nat)(h: ¬(inn.getD k 0=x\/inn.getD k 0=y)):K9 inn L x y (k+1)=K9 inn L x y k:=Lm (Gb ..) (Gb ..) fun i hi=>by
 rw[I7 _ _ _ _ _ _ hi,I7 _ _ _ _ _ _ hi]
 by_cases e:i=k
 ·subst e;rw[if_neg (fun q=>h q.2),if_neg (fun q=>h q.2)]
 ·by_cases c:i<k/\(inn.getD i 0=x\/inn.getD i 0=y)
  ·rw[if_pos c,if_pos ⟨by omega,c.2⟩]
  ·rw[if_neg c,if_neg (fun q=>c ⟨by omega,q.2⟩)]
theorem xO(inn:Aeh)(x y:Nat)(h:inn.length=256):L8 inn x y 256=St inn x y:=Lm (Hs ..) (by unfold St;rw[Aai,h]) fun i hi=>by
 rw[Ll _ _ _ _ _ hi,Sb _ _ _ _ (by omega)]
 by_cases c:inn.getD i 0=x\/inn.getD i 0=y
 ·rw[if_pos ⟨hi,c⟩,if_pos c]
 ·rw[if_neg (fun q=>c q.2),if_neg c]
theorem u4{x y:Grp}{gs:List Grp}{L:Aeh}(h:Sim (x::y::gs) wt inn)(hn:(Bm (x::y::gs)).Nodup)(e:L.length=256):K9 inn L (min x.2.1.toNat y.2.1.toNat) (max x.2.1.toNat y.2.1.toNat) 256=bump L (E9 x y).2.2:=by
 have g:(x.2.2++y.2.2).Nodup:=by
  unfold Bm at hn;rw[Aa3,Aa3,<-Aaj,List.nodup_append]at hn;exact hn.1
 refine Lm (Gb ..) (by rw[Me];exact e) fun i hi=>?_;rw[I7 _ _ _ _ _ _ hi];have hb:(UInt8.ofNat i).toNat=i:=by rw[Aax];omega
 have f:=h.either hn (UInt8.ofNat i);rw[hb]at f;have a:(inn.getD i 0=min x.2.1.toNat y.2.1.toNat\/inn.getD i 0=max x.2.1.toNat y.2.1.toNat)↔(inn.getD i 0=x.2.1.toNat\/inn.getD i 0=y.2.1.toNat):=by omega
 by_cases c:inn.getD i 0=x.2.1.toNat\/inn.getD i 0=y.2.1.toNat
 ·have d:=Ww (L:=L) e g (f.1 c);rw[ln,ln,hb]at d;rw[if_pos ⟨hi,a.2 c⟩];exact d.symm
 ·have b:=Za (L:=L) (bs:=x.2.2++y.2.2) e (fun k=>c (f.2 k));rw[ln,ln,hb]at b;rw[if_neg (fun q=>c (a.1 q.2))];exact b.symm
theorem oJ(t:Aeg):Sim (Ai t 256) (weights t) (List.range 256):=by
 have a: ∀g∈Ai t 256,∃x,x<256/\0<cnt t x/\g=(cnt t x,UInt8.ofNat x,[UInt8.ofNat x]):=fun g a=>by
  unfold Ai at a;obtain⟨x,f,rfl⟩:=List.mem_map.1 a;exact⟨x,List.mem_range.1 (List.mem_filter.1 f).1,by simpa using(List.mem_filter.1 f).2,rfl⟩
 have k: ∀c,c<256->(weights t).getD c 0=cnt t c:=fun c d=>by
  unfold weights;rw[zG,Aah,Abn d];rfl
 have i: ∀c,c<256->(List.range 256).getD c 0=c:=fun c d=>by
  rw[zG,Abn d];rfl
 have j: ∀x,x<256->(UInt8.ofNat x).toNat=x:=fun x f=>by rw[Aax];omega
 refine⟨Gu t,Acb,fun g h=>?_,fun g h=>?_,fun g h=>?_,fun c d=>?_,fun g h b hb=>?_,fun b _=>i _ b.toNat_lt⟩
 ·obtain⟨x,_,_,rfl⟩:=a g h;exact List.mem_singleton.2 rfl
 ·obtain⟨x,_,h2,rfl⟩:=a g h;exact h2
 ·obtain⟨x,h1,_,rfl⟩:=a g h;show(weights t).getD (UInt8.ofNat x).toNat 0=cnt t x;rw[j x h1,k x h1]
 ·by_cases h1:c<256
  ·rw[k c h1];apply Ad5;intro h2;refine d (cnt t c,UInt8.ofNat c,[UInt8.ofNat c]) ?_ (j c h1);unfold Ai;exact List.mem_map.2 ⟨c,List.mem_filter.2 ⟨List.mem_range.2 h1,by simp;omega⟩,rfl⟩
  ·rw[zG,Aam (by rw[Gu];omega)];rfl
 ·obtain⟨x,h1,_,rfl⟩:=a g h;have e:=List.mem_singleton.1 hb;subst e;show(List.range 256).getD (UInt8.ofNat x).toNat 0=(UInt8.ofNat x).toNat;rw[i _ (UInt8.ofNat x).toNat_lt]
theorem u6{t:Aeg}{c:Nat}{b:UInt8}(h:b∈t)(e:b.toNat=c):Pq t c=true:=by
 unfold Pq;rw[List.any_eq_true];exact⟨b,h,by simpa using e⟩
end Hm
end
end Go.Proofs.YtegnkfdbmmndaaaGreat
