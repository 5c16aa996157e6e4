import Derived.Test.YtegnkfdbmmndaaaGreatJ27

set_option maxHeartbeats 8000000
namespace Go.Proofs.YtegnkfdbmmndaaaGreat
open Hm Go.Proofs.Tryz Go.RowKit
namespace Hm
def Ee(c P:Arc)(k:Nat):Ard:=(List.range k).filter fun a=>decide ((c.drop a).take P.length=P)
theorem Aft(c P:Arc)(k:Nat):Ee c P (k+1)=Ee c P k++if(c.drop k).take P.length=P then [k]else []:=by
 unfold Ee;rw[Apu,Ao8];congr 1
 by_cases h:(c.drop k).take P.length=P
 ·rw[if_pos h];simp[h]
 ·rw[if_neg h];simp[h]
theorem Z8(c P:Arc)(k:Nat):(Ee c P k).length≤k:=by
 unfold Ee;exact Ant (Ap4 _ _) (by simp)
def Lb(c P:Arc):Nat:=c.length+1-P.length
def Dk(fs:Arb)(P:Arc)(i:Nat):List (Nat×Nat):=(List.range i).flatMap fun j=>(Ee (fs.getD j (⟨#[]⟩,⟨#[]⟩)).2.data.toList P (Lb (fs.getD j (⟨#[]⟩,⟨#[]⟩)).2.data.toList P)).map fun a=>(j,a)
theorem Rk(fs:Arb)(P:Arc)(i:Nat):Dk fs P (i+1)=Dk fs P i++(Ee (fs.getD i (⟨#[]⟩,⟨#[]⟩)).2.data.toList P (Lb (fs.getD i (⟨#[]⟩,⟨#[]⟩)).2.data.toList P)).map fun a=>(i,a):=by
 unfold Dk;rw[Apu,Ao4];simp
theorem Z9(fs:Arb)(P:Arc)(i k a:Nat):(k,a)∈Dk fs P i↔k<i∧a<Lb (fs.getD k (⟨#[]⟩,⟨#[]⟩)).2.data.toList P∧((fs.getD k (⟨#[]⟩,⟨#[]⟩)).2.data.toList.drop a).take P.length=P:=by
 unfold Dk Ee;simp only[List.mem_flatMap,List.mem_range,List.mem_map,List.mem_filter,decide_eq_true_eq,Prod.mk.injEq];constructor
 ·rintro⟨j,d,b,⟨h1,h2⟩,rfl,rfl⟩;exact⟨d,h1,h2⟩
 ·rintro⟨h1,h2,c⟩;exact⟨k,h1,a,⟨h2,c⟩,rfl,rfl⟩
theorem Aaa(fs:Arb)(P:Arc): ∀i,(Dk fs P i).Pairwise T3
 |0=>List.Pairwise.nil
 |i+1=>by
  rw[Rk,List.pairwise_append];refine⟨Aaa fs P i,?_,?_⟩
  ·rw[List.pairwise_map];unfold Ee;refine(List.Pairwise.filter _ (List.pairwise_lt_range)).imp fun{a b} h=>?_;exact .inr ⟨rfl,h⟩
  ·intro x c y d;obtain⟨k,a⟩:=x;have h1:=((Z9 fs P i k a).1 c).1;obtain⟨b,_,rfl⟩:=List.mem_map.1 d;exact .inl h1
theorem Adv(fs:Arb)(P:Arc)(hP:P≠[]):P6 fs P (Dk fs P fs.length):=by
 refine⟨Aaa fs P fs.length,fun k a=>?_⟩;rw[Z9];have d:0<P.length:=List.length_pos_iff.2 hP;have key: ∀c:Arc,(a<Lb c P∧(c.drop a).take P.length=P)↔P<+:c.drop a:=by
  intro c;rw[List.prefix_iff_eq_take];constructor
  ·rintro⟨_,h⟩;exact h.symm
  ·intro h;refine⟨?_,h.symm⟩;have b:=congrArg List.length h;rw[Anp,Aoi]at b;unfold Lb;omega
 constructor
 ·rintro⟨h1,h2⟩;refine⟨h1,?_⟩;have:=(key _).1 h2;rwa[Am4,Am5 h1]at this
 ·rintro⟨hk,h⟩;refine⟨hk,(key _).2 ?_⟩;rw[Am4,Am5 hk];exact h
theorem Adw(fs:Arb)(P:Arc)(b:Nat)(hb: ∀j,(fs.getD j (⟨#[]⟩,⟨#[]⟩)).2.data.toList.length≤b): ∀i,(Dk fs P i).length≤i*(b+1)
 |0=>by simp[Dk]
 |i+1=>by
  have ih:=Adw fs P b hb i;rw[Rk,Anf,Anz,Ape];have h1:=Z8 (fs.getD i (⟨#[]⟩,⟨#[]⟩)).2.data.toList P (Lb (fs.getD i (⟨#[]⟩,⟨#[]⟩)).2.data.toList P);have h2:=hb i;unfold Lb at h1⊢;omega
end Hm
theorem Xx(ao:Arf)(c:Nat)(fs:Arb)(P:Arc)(w:World)(hf:Ba w ao fs)(hl:fs.length≤40)(p: ∀f∈fs,f.2.size≤30000)(hP:P.length≤281474976710656):
  Calls prog 109 #[.slice ao fs.length c,.string ⟨P.toArray⟩] w fun e w'=> ∃v,e= .returned v∧w'.ownsRow w.heap.size 73 2 v (Dk fs P fs.length).length (By (Dk fs P fs.length))∧Ara w w':=by
 obtain⟨i0,hi,ad,ae,af⟩:=Aoo Oh;have HB:Hid (∀i,i≤40→(Dk fs P i).length≤1300000):=fun i hi=>by
  have:=Adw fs P 30000 (fun j=>by
   by_cases h:j<fs.length
   ·rw[Am4,Am5 h];have:=p _ (Anm h);show(fs[j].2.data.toList).length≤30000;rw[Ao6];exact this
   ·rw[Am4,Anx (by omega)];exact Ann _) i
  have h2:i*(30000+1)≤40*30001:=Apa _ hi;omega
 obtain⟨S,M⟩: ∃S,S=(⟨P.toArray⟩:ByteArray):=⟨_,rfl⟩;have am:S.size=P.length:=by rw[M];show P.toArray.size=_;simp
 have HS:Hid (S.toList=P):=by show _=_;rw[M,Aor]
 have HF:Hid (Ba w ao fs∧ ∀f∈fs,f.2.size≤30000):=⟨hf,p⟩;rw[←M];clear M hf p
 go_enter func109,ntmps109
 go_wp2_with fail
 go_loopw[5,6] (fun vl vi wr=> ∃i:Nat,i≤fs.length∧vi= .int .i64 i∧wr.ownsRow w.heap.size 73 2 vl (Dk fs P i).length (By (Dk fs P i))∧Hid (Ara w wr)) (fun _ vi _=>fs.length-(intOf vi).toNat)
 case atStart=>exact⟨0,Ann _,rfl,World.ownsRow_nil _ _ _ _,Aa.refl _ _⟩
 case round=>
  obtain⟨i,aq,rfl,d,N⟩:=hrel
  by_cases t:i<fs.length
  ·have m:(i:Int)<(fs.length:Int):=by omega
   have hd:decide ((i:Int)<(fs.length:Int))=true:=Ana m;obtain⟨b,o,rfl,_,_,c2⟩:=(HF.o.1.kept N.o (fun _ _=>id)) i t;have ap:=HF.o.2 _ (Anm t);have r:Hid (Dk fs P (i+1)=Dk fs P i++(Ee fs[i].2.data.toList P (Lb fs[i].2.data.toList P)).map fun a=>(i,a)):=by
    show _=_;rw[Rk,Am4,Am5 t];rfl
   have H:=HB.o (i+1) (by omega);rw[r.o,Anf,Anz]at H;generalize fs[i].2=C at*;have U:C.data.toList.length=C.size:=by rw[Ao6];rfl
   obtain⟨a0,b0,E,_⟩:=Aq d;subst E;have R:Hid (wr.ownsRow w.heap.size 73 2 (.slice a0 (Dk fs P i).length b0) (Dk fs P i).length (By (Dk fs P i))):=d;generalize Dk fs P i=A0 at*;clear d;have D:Lb C.data.toList P=C.size+1-P.length:=by unfold Lb;rw[U]
   rw[D]at H r;go_wp2_with fail;have O:Hid (Ara w wr):=N;generalize wr=WR at*
   go_loopw[5,8] (fun vl vk wq=> ∃k:Nat,k≤C.size+1-P.length∧vk= .int .i64 k∧wq.ownsRow w.heap.size 73 2 vl (A0++(Ee C.data.toList P k).map fun a=>(i,a)).length (By (A0++(Ee C.data.toList P k).map fun a=>(i,a)))∧Hid (Ara w wq)) (fun _ vk _=>C.size+1-P.length-(intOf vk).toNat)
   case atStart=>exact⟨0,Ann _,rfl,by simpa[Ee]using R.o,O⟩
   case round=>
    obtain⟨k,hk,rfl,d,n⟩:=hrel;obtain⟨a1,b1,ab,_⟩:=Aq d;subst ab;have J:=Z8 C.data.toList P k;have zk:(k:Int)+(P.length:Int)=((k+P.length:Nat):Int):=by omega
    obtain⟨q,hq⟩: ∃q,q=k+P.length:=⟨_,rfl⟩;rw[←hq]at zk;have T:Hid (q=k+P.length):=hq;have B:k<C.size+1-P.length↔q≤C.size:=by omega
    clear hq
    by_cases Y:q≤C.size
    ·have s:(q:Int)≤(C.size:Int):=by omega
     have W:decide ((q:Int)≤(C.size:Int))=true:=Ana s;have au:(k:Int)≤(q:Int):=by have:=T.o;omega
     have ar:k<C.size+1-P.length:=B.2 Y;clear B;have F:Hid (((C.extract k q).toList==S.toList)=decide ((C.data.toList.drop k).take P.length=P)):=by
      show _=_;have e:(C.extract k q).toList=(C.data.toList.drop k).take P.length:=by
       rw[Aor,ByteArray.data_extract,Array.toList_extract,Aqf,T.o,Ap8]
      rw[e,HS.o]
      by_cases h:(C.data.toList.drop k).take P.length=P
      ·rw[h,Ana rfl];simp
      ·rw[Anc h,Aod];exact h
     have l:Hid (Ee C.data.toList P (k+1)=Ee C.data.toList P k++if(C.data.toList.drop k).take P.length=P then [k]else []):=Aft _ _ _;have g:Hid (wr.ownsRow w.heap.size 73 2 (.slice a1 (A0++(Ee C.data.toList P k).map fun a=>(i,a)).length b1) (A0++(Ee C.data.toList P k).map fun a=>(i,a)).length (By (A0++(Ee C.data.toList P k).map fun a=>(i,a)))):=d;have an:(A0++(Ee C.data.toList P k).map fun a=>(i,a)).length≤1400000:=by
      rw[Anf,Anz];omega
     clear d
     by_cases G:(C.data.toList.drop k).take P.length=P
     ·rw[Ana G]at F;rw[if_pos G]at l;have hE:=F.o;have Q:Hid (A0++(Ee C.data.toList P (k+1)).map (fun a=>(i,a))=(A0++(Ee C.data.toList P k).map fun a=>(i,a))++[(i,k)]):=by
       show _=_;rw[l.o,Apk,An4];rfl
      clear G F l J;generalize(A0++(Ee C.data.toList P k).map fun a=>(i,a))=A1 at*;have z:=g.o;have p:=n.o.size
      go_wp2_with(at_builtin;refine Bg _ rfl (.tmp 38) (.tmp 42) 69 rfl w.heap.size 73 i0 (.agg #[.int .i64 0,.int .i64 0]) 2 16 underlying69 hi ad ae af rfl (by decide) _ _ _ rfl (z.alloc _) ⟨wr.heap.size,0,none⟩ 1 1 [.int .i64 (i:Nat),.int .i64 (k:Nat)] rfl rfl ?c1 ?c2 ?c3 ?c4 ?c5 ?_)
      case c1=>
       intro y u hy;rw[Addr.add_lit,An3];exact(Am7 _ _ y _ _ _ (Anj wr _)).trans (by rw[Anw];exact hy)
      case c2=>intro u hu;simp at hu;rcases hu with rfl|rfl<;>rfl
      case c3=>unfold maxLen;omega
      case c4=>omega
      case c5=>simp only[World.alloc,Array.size_push];omega
      intro v4 w4 L I Z;have K:Ara w w4:=(n.o.alloc _).grown I (fun x hx=> .inl (z.lt x hx).1);have A:w4.ownsRow w.heap.size 73 2 v4 (A1++[(i,k)]).length (By (A1++[(i,k)])):=by
       rw[Anf,Qo];exact L
      obtain⟨a4,c4,ac,_⟩:=Aq A;subst ac;have H4:Hid _:=And.intro A K;clear L I Z A K z g;go_wp2_with fail;go_roundw
      case rel=>exact⟨k+1,by omega,by go_num,by rw[Q.o];exact H4.o.1,H4.o.2⟩
      case measure=>simp[intOf];omega
     ·rw[Anc G]at F;rw[if_neg G,Aow]at l;have hE:=F.o;clear G F J;go_wp2_with fail;go_roundw
      case rel=>exact⟨k+1,by omega,by go_num,by rw[l.o];exact g.o,n⟩
      case measure=>simp[intOf];omega
    ·have s: ¬(q:Int)≤(C.size:Int):=by omega
     have W:decide ((q:Int)≤(C.size:Int))=false:=Anc s;have X:C.size+1-P.length=k:=by have:=T.o;omega
     clear B;have g:Hid (wr.ownsRow w.heap.size 73 2 (.slice a1 (A0++(Ee C.data.toList P k).map fun a=>(i,a)).length b1) (Dk fs P (i+1)).length (By (Dk fs P (i+1)))):=by
      rw[r.o,X];exact d
     clear d;go_wp2_with fail;go_roundw
     case rel=>exact⟨i+1,by omega,by go_num,g.o,n⟩
     case measure=>simp[intOf];omega
  ·have m: ¬(i:Int)<(fs.length:Int):=by omega
   have hd:decide ((i:Int)<(fs.length:Int))=false:=Anc m;have V:i=fs.length:=by omega
   subst V;obtain⟨a0,b0,E,_⟩:=Aq d;subst E;have R:Hid (wr.ownsRow w.heap.size 73 2 (.slice a0 (Dk fs P fs.length).length b0) (Dk fs P fs.length).length (By (Dk fs P fs.length))):=d;clear d;go_wp2_with fail;go_ret;exact⟨_,rfl,R.o,N.o⟩
def Jc(w:World)(ao:Arf)(pl:List (Nat×Nat)):Prop:=
 ∀i,(h:i<pl.length)→ ∃b o,ao=some ⟨b,o,none⟩∧b<w.heap.size∧w.cell? ⟨b,o+i*2,none⟩=some (.int .i64 (pl[i].1:Nat))∧w.cell? ⟨b,o+i*2+1,none⟩=some (.int .i64 (pl[i].2:Nat))
theorem Afu(l:List (Nat×Nat)): ∀i,(h:i<l.length)→(By l)[i*2]?=some (.int .i64 (l[i].1:Nat))∧(By l)[i*2+1]?=some (.int .i64 (l[i].2:Nat)):=by
 induction l with
 |nil=>intro i h;simp at h
 |cons p r ih=>
  intro i h;cases i with
  |zero=>exact⟨rfl,rfl⟩
  |succ i=>
   have:=ih i (by simpa using h);rw[show(i+1)*2=i*2+1+1 from by omega];simpa[By]using this
theorem Jc.owns{w:World}{b c:Nat}{ao:Arf}{n:Nat}{pl:List (Nat×Nat)}(h:w.ownsRow b 73 2 (.slice ao n c) pl.length (By pl)):Jc w ao pl:=fun i hi=>by
 rcases h.2 with⟨e,a⟩|⟨g,cap,cur,e,h1,h2,d⟩
 ·omega
 ·cases e;obtain⟨q1,q2⟩:=Afu pl i hi;exact⟨g,0,rfl,Anu h2,by rw[An3,h.cellAt _ (by omega)];exact q1,by rw[An3,h.cellAt _ (by omega)];exact q2⟩
theorem Jc.take{w:World}{ao:Arf}{pl:List (Nat×Nat)}(h:Jc w ao pl)(k:Nat):Jc w ao (pl.take k):=fun i hi=>by
 have a:i<pl.length:=by rw[Anp]at hi;omega
 obtain⟨b,o,e,h1,h2,c⟩:=h i a;exact⟨b,o,e,h1,by rw[List.getElem_take];exact h2,by rw[List.getElem_take];exact c⟩
theorem Jc.kept{S:Nat→Prop}{w w':World}{ao:Arf}{pl:List (Nat×Nat)}(h:Jc w ao pl)(hk:Aa S w w')(hn: ∀a,ao=some a→ ¬S a.block):Jc w' ao pl:=fun i hi=>by
 obtain⟨b,o,e,hb,h1,h2⟩:=h i hi;have hs:=hn _ e;exact⟨b,o,e,by have:=hk.size;omega,(hk.cell (p:=⟨b,o+i*2,none⟩) hb hs).trans h1,(hk.cell (p:=⟨b,o+i*2+1,none⟩) hb hs).trans h2⟩
theorem Adx(ao:Arf)(c:Nat)(fs:Arb)(P:Arc)(w:World)(k:Ba w ao fs)(m:fs.length≤40)(h: ∀f∈fs,f.2.size≤30000)(hP:P.length≤281474976710656):
  Calls prog 56 #[.slice ao fs.length c,.string ⟨P.toArray⟩] w fun e w'=>e= .returned (.tuple #[.int .i64 (if P=[]then 0 else((Dk fs P fs.length).length:Nat):Int),.int .i64 (if P=[]then 8 else 0)])∧Ara w w':=by
 have d:=Xx ao c fs P w k m h hP;obtain⟨S,i⟩: ∃S,S=(⟨P.toArray⟩:ByteArray):=⟨_,rfl⟩;have j:Hid (S.toList.isEmpty=decide (P=[])):=by
  show _=_;rw[i,Aor];cases P<;>simp
 have g:Hid ((S.toList==[])=decide (P=[])):=by
  show _=_;rw[i,Aor];cases P<;>simp
 rw[←i]at d⊢;clear i k h
 go_enter func56,ntmps56
 by_cases a:P=[]
 ·have h1:=j.o;have h2:=g.o;rw[Ana a]at h1 h2;rw[if_pos a,if_pos a];clear a;go_wp2_with fail;go_ret2;exact⟨rfl,Aa.refl _ _⟩
 ·have h1:=j.o;have h2:=g.o;rw[Anc a]at h1 h2;rw[if_neg a,if_neg a];clear a;go_wp2_with fail;refine d.mono ?_;rintro e w1 ⟨v,rfl,b,hk⟩;obtain⟨a1,c1,n,_⟩:=Aq b;subst n;have l:Hid (Ara w w1):=hk;clear d b hk;go_wp2_with fail;go_ret2;exact⟨rfl,l.o⟩
theorem Aa8(ao:Arf)(c:Nat)(fs:Arb)(P:Arc)(M:Int)(w:World)(C:Ba w ao fs)(D:fs.length≤40)(p: ∀f∈fs,f.2.size≤30000)(hP:P.length≤281474976710656):
  Calls prog 57 #[.slice ao fs.length c,.string ⟨P.toArray⟩,.int .i64 M] w fun e w'=>Ara w w'∧((P=[]∨M<0)∧e= .returned (.tuple #[.slice none 0 0,.int .i64 8])∨ ∃(m:Nat) (ap:Arf) (d:Nat),P≠[]∧M=m∧Jc w' ap ((Dk fs P fs.length).take m)∧e= .returned (.tuple #[.slice ap ((Dk fs P fs.length).take m).length d,.int .i64 0])):=by
 have l:=Xx ao c fs P w C D p hP;obtain⟨S,s⟩: ∃S,S=(⟨P.toArray⟩:ByteArray):=⟨_,rfl⟩;have x:Hid (S.toList.isEmpty=decide (P=[])):=by
  show _=_;rw[s,Aor];cases P<;>simp
 rw[←s]at l⊢;clear s C p
 go_enter func57,ntmps57
 by_cases j:P=[]
 ·have h1:=x.o;rw[Ana j]at h1;have r:Hid (P=[]):=j;clear j;go_wp2_with fail;go_ret2;exact⟨Aa.refl _ _,.inl ⟨.inl r.o,rfl⟩⟩
 ·have h1:=x.o;rw[Anc j]at h1;have r:Hid (P≠[]):=j;clear j
  by_cases hM:M<0
  ·have hd:decide (M<0)=true:=Ana hM;go_wp2_with fail;go_ret2;exact⟨Aa.refl _ _,.inl ⟨.inr hM,rfl⟩⟩
  ·have hd:decide (M<0)=false:=Anc hM;obtain⟨m,rfl⟩: ∃m:Nat,M=m:=⟨M.toNat,by omega⟩;go_wp2_with fail;refine l.mono ?_;rintro e w1 ⟨v,rfl,a,hk⟩;obtain⟨a1,c1,H,t⟩:=Aq a;subst H;have y:Hid (Ara w w1):=hk;have k:Hid (Jc w1 a1 (Dk fs P fs.length)):=Jc.owns a;have i:Hid ((Dk fs P fs.length).length=0∨ ∃g,a1=some ⟨g,0,none⟩):=by
    rcases a.2 with⟨e,j⟩|⟨g,cap,cur,e,_⟩
    ·exact .inl j
    ·exact .inr ⟨g,(Value.slice.inj e).1⟩
   obtain⟨A,hA⟩: ∃A,A=Dk fs P fs.length:=⟨_,rfl⟩;have b:Hid (Dk fs P fs.length=A):=hA.symm;rw[←hA]at k i t⊢;clear l a hk hA
   by_cases E:m<A.length
   ·have n:(m:Int)<(A.length:Int):=by omega
    have u:decide ((m:Int)<(A.length:Int))=true:=Ana n;obtain⟨g,rfl⟩: ∃g,a1=some ⟨g,0,none⟩:=by
     rcases i.o with h|h
     ·omega
     ·exact h
    have G:(m:Int)≤(c1:Int):=by omega
    have F:(0:Int)≤(m:Int):=by omega
    have q:(A.take m).length=m:=by rw[Anp];omega
    have z:Hid (Jc w1 (some ⟨g,0,none⟩) (A.take m)∧(A.take m).length=m):=⟨k.o.take m,q⟩;clear q i;go_wp2_with fail;go_ret2;exact⟨y.o,.inr ⟨m,some ⟨g,0,none⟩,c1,r.o,rfl,by rw[b.o];exact z.o.1,by rw[b.o,z.o.2];rfl⟩⟩
   ·have n: ¬(m:Int)<(A.length:Int):=by omega
    have u:decide ((m:Int)<(A.length:Int))=false:=Anc n;have B:Hid (A.take m=A):=An5 (by omega);clear i;go_wp2_with fail;go_ret2;exact⟨y.o,.inr ⟨m,a1,c1,r.o,rfl,by rw[b.o,B.o];exact k.o,by rw[b.o,B.o];rfl⟩⟩
def Amn(fs:Arb)(f a n:Int)(w w':World)(e:Ending):Prop:=w'=w∧((∃(i x y:Nat) (hi:i<fs.length),f=i∧a=x∧n=y∧x+y≤fs[i].2.size∧e= .returned (.tuple #[.string ⟨((fs[i].2.data.toList.drop x).take y).toArray⟩,.int .i64 0]))∨(∀i:Nat,f=(i:Int)→(hi:i<fs.length)→a<0∨n<0∨(fs[i].2.size:Int)-a<n)∧e= .returned (.tuple #[.string ⟨#[]⟩,.int .i64 7]))
theorem Y3(ao:Arf)(c:Nat)(fs:Arb)(f a n:Int)(w:World)(s:Ba w ao fs)(_hl:fs.length≤40)(d: ∀x∈fs,x.2.size≤30000)(H:a≤9223372036854775807)(hn:n≤9223372036854775807):
  Calls prog 55 #[.slice ao fs.length c,.int .i64 f,.int .i64 a,.int .i64 n] w fun e w'=>Amn fs f a n w w' e:=by
 have r:Hid (Ba w ao fs∧ ∀x∈fs,x.2.size≤30000):=⟨s,d⟩;clear s d
 go_enter func55,ntmps55
 by_cases h1:f<0
 ·have d1:decide (f<0)=true:=Ana h1;go_wp2_with fail;go_ret2;exact⟨rfl,.inr ⟨fun i e hi=>by omega,rfl⟩⟩
 ·have d1:decide (f<0)=false:=Anc h1;obtain⟨i,rfl⟩: ∃i:Nat,f=i:=⟨f.toNat,by omega⟩
  by_cases h2:i<fs.length
  ·have d2:decide ((fs.length:Int)≤(i:Int))=false:=Anc (by omega)
   by_cases h:a<0
   ·have d3:decide (a<0)=true:=Ana h;go_wp2_with fail;go_ret2;exact⟨rfl,.inr ⟨fun _ _ _=> .inl h,rfl⟩⟩
   ·have d3:decide (a<0)=false:=Anc h;obtain⟨x,rfl⟩: ∃x:Nat,a=x:=⟨a.toNat,by omega⟩
    by_cases k:n<0
    ·have d4:decide (n<0)=true:=Ana k;go_wp2_with fail;go_ret2;exact⟨rfl,.inr ⟨fun _ _ _=> .inr (.inl k),rfl⟩⟩
    ·have d4:decide (n<0)=false:=Anc k;obtain⟨y,rfl⟩: ∃y:Nat,n=y:=⟨n.toNat,by omega⟩;obtain⟨b,o,rfl,_,_,c2⟩:=r.o.1 i h2;have m:=r.o.2 _ (Anm h2);have E:Hid (∃C,C=fs[i].2):=⟨_,rfl⟩;have A:(i:Int)<(fs.length:Int):=by omega
     obtain⟨C,l⟩: ∃C,C=fs[i].2:=⟨_,rfl⟩;have g:Hid (C=fs[i].2):=l;rw[←l]at c2 m;clear l
     by_cases F:C.size<x
     ·have d5:decide ((C.size:Int)<(x:Int))=true:=Ana (by omega);go_wp2_with fail;go_ret2;refine⟨rfl,.inr ⟨fun j e t=>?_,rfl⟩⟩;have:j=i:=by omega
      subst this;rw[←g.o];right;right;omega
     ·have d5:decide ((C.size:Int)<(x:Int))=false:=Anc (by omega);obtain⟨z,v⟩: ∃z,z=C.size-x:=⟨_,rfl⟩;have zz:(C.size:Int)-(x:Int)=(z:Int):=by omega
      by_cases G:z<y
      ·have d6:decide ((z:Int)<(y:Int))=true:=Ana (by omega);clear v;go_wp2_with fail;go_ret2;refine⟨rfl,.inr ⟨fun j e t=>?_,rfl⟩⟩;have:j=i:=by omega
       subst this;rw[←g.o];right;right;omega
      ·have d6:decide ((z:Int)<(y:Int))=false:=Anc (by omega);obtain⟨q,u⟩: ∃q,q=x+y:=⟨_,rfl⟩;have zq:(x:Int)+(y:Int)=(q:Int):=by omega
       have D:(x:Int)≤(q:Int):=by omega
       have B:(q:Int)≤(C.size:Int):=by omega
       have p:Hid (C.extract x q=(⟨((C.data.toList.drop x).take y).toArray⟩:ByteArray)∧x+y≤C.size):=by
        refine⟨?_,by omega⟩;rw[u];apply Aqg;rw[ByteArray.data_extract];apply Api;rw[Array.toList_extract,Aqf,Ap8]
       clear v u;go_wp2_with fail;go_ret2;refine⟨rfl,.inl ⟨i,x,y,h2,rfl,rfl,rfl,by rw[←g.o];exact p.o.2,?_⟩⟩;rw[←g.o,←p.o.1];rfl
  ·have d2:decide ((fs.length:Int)≤(i:Int))=true:=Ana (by omega);go_wp2_with fail;go_ret2;exact⟨rfl,.inr ⟨fun j e t=>by omega,rfl⟩⟩
theorem Afv(w:World):Calls prog 17 #[.pointer none] w fun e w'=>e= .returned (.slice none 0 0)∧w'=w:=by
 go_enter func17,ntmps17
 go_wp2_with fail;go_ret;exact⟨rfl,rfl⟩
theorem Aa9(w:World):Calls prog 14 #[.pointer none] w fun e w'=>e= .returned (.slice none 0 0)∧w'=w:=by
 go_enter func14,ntmps14
 go_wp2_with fail;go_ret;exact⟨rfl,rfl⟩
theorem Y4(f a n:Int)(w:World):Calls prog 26 #[.pointer none,.int .i64 f,.int .i64 a,.int .i64 n] w fun e w'=>e= .returned (.tuple #[.string ⟨#[]⟩,.int .i64 9])∧w'=w:=by
 go_enter func26,ntmps26
 go_wp2_with fail;go_ret2;exact⟨rfl,rfl⟩
theorem Ady(P:ByteArray)(w:World):Calls prog 27 #[.pointer none,.string P] w fun e w'=>e= .returned (.tuple #[.int .i64 0,.int .i64 9])∧w'=w:=by
 go_enter func27,ntmps27
 go_wp2_with fail;go_ret2;exact⟨rfl,rfl⟩
theorem Aba(P:ByteArray)(M:Int)(w:World):Calls prog 28 #[.pointer none,.string P,.int .i64 M] w fun e w'=>e= .returned (.tuple #[.slice none 0 0,.int .i64 9])∧w'=w:=by
 go_enter func28,ntmps28
 go_wp2_with fail;go_ret2;exact⟨rfl,rfl⟩
theorem Abb(a:Addr)(w:World):Calls prog 27 #[.pointer (some a),.string ⟨#[]⟩] w fun e w'=>e= .returned (.tuple #[.int .i64 0,.int .i64 8])∧w'=w:=by
 go_enter func27,ntmps27
 go_wp2_with fail;go_ret2;exact⟨rfl,rfl⟩
theorem Y5(a:Addr)(P:Arc)(M:Int)(w:World)(h:P=[]∨M<0):Calls prog 28 #[.pointer (some a),.string ⟨P.toArray⟩,.int .i64 M] w fun e w'=>e= .returned (.tuple #[.slice none 0 0,.int .i64 8])∧w'=w:=by
 obtain⟨S,c⟩: ∃S,S=(⟨P.toArray⟩:ByteArray):=⟨_,rfl⟩;have d:Hid (S.toList.isEmpty=decide (P=[])):=by
  show _=_;rw[c,Aor];cases P<;>simp
 rw[←c];clear c
 go_enter func28,ntmps28
 by_cases b:P=[]
 ·have h1:=d.o;rw[Ana b]at h1;clear b h;go_wp2_with fail;go_ret2;exact⟨rfl,rfl⟩
 ·have h1:=d.o;rw[Anc b]at h1;have hM:M<0:=by
   rcases h with h|h
   ·exact absurd h b
   ·exact h
  have hd:decide (M<0)=true:=Ana hM;clear b h;go_wp2_with fail;go_ret2;exact⟨rfl,rfl⟩
namespace Hm
abbrev En:=ByteArray×Nat
def Jr:List En→Are
 |[]=>[]
 |p::r=> .string p.1:: .int .i64 (p.2:Nat)::Jr r
theorem N4(l:List En):(Jr l).length=l.length*2:=by
 induction l with
 |nil=>rfl
 |cons p r ih=>simp[Jr,ih];omega
theorem Oi(l:List En): ∀i,(h:i<l.length)→(Jr l)[i*2]?=some (.string l[i].1)∧(Jr l)[i*2+1]?=some (.int .i64 (l[i].2:Nat)):=by
 induction l with
 |nil=>intro i h;simp at h
 |cons p r ih=>
  intro i h;cases i with
  |zero=>exact⟨rfl,rfl⟩
  |succ i=>
   have:=ih i (by simpa using h);rw[show(i+1)*2=i*2+1+1 from by omega];simpa[Jr]using this
theorem Aik(l:List En)(x:ByteArray)(y:Nat): ∀i,i<l.length→((Jr l).set (i*2) (.string x)).set (i*2+1) (.int .i64 (y:Nat))=Jr (l.set i (x,y)):=by
 induction l with
 |nil=>intro i h;simp at h
 |cons p r ih=>
  intro i h;cases i with
  |zero=>rfl
  |succ i=>
   have:=ih i (by simpa using h);rw[show(i+1)*2=i*2+1+1 from by omega];simp[Jr,this]
def Dt(fs:List Fl):List En:=fs.map fun f=>(f.1,f.2.size)
def Fm(es:List En)(m k:Nat):List En:=es.take k++List.replicate (m-k) (⟨#[]⟩,0)
theorem Abc(es:List En)(m k:Nat)(a:es.length=m)(hk:k≤m):(Fm es m k).length=m:=by
 unfold Fm;rw[Anf,Anp,Ani];omega
theorem Afw(es:List En)(m k:Nat)(b:es.length=m)(hk:k<m)(x:En)(a:es[k]?=some x):(Fm es m k).set k x=Fm es m (k+1):=by
 have e:List.replicate (m-k) ((⟨#[]⟩,0):En)=(⟨#[]⟩,0)::List.replicate (m-(k+1)) (⟨#[]⟩,0):=by rw[show m-k=(m-(k+1))+1 from by omega,Apf]
 unfold Fm;rw[e,Aot _ _ (by rw[Anp];omega),Anp,Ap7 (by omega),Aoy,Am8,List.take_add_one,a,An4];rfl
end Hm
def Ki(w:World)(g:Nat)(l:List Hm.En):Prop:=w.heap[g]?=some (.cells (Jr l).toArray 42 (0,0))
theorem Xy:(prog.info? 42).map (fun i=>(i.zero,i.size,i.bytes))=some (some (.agg #[.string ⟨#[]⟩,.int .i64 0]),2,24):=by kernel_rfl
theorem Ki.put{w:World}{g:Nat}{l:List Hm.En}(h:Ki w g l)(i:Nat)(x:ByteArray)(y:Nat)(hi:i<l.length):Ki ((w.setCell ⟨g,i*2,none⟩ (.string x)).setCell ⟨g,i*2+1,none⟩ (.int .i64 (y:Nat))) g (l.set i (x,y)):=by
 have h2:=Anb w g (i*2) _ _ (.string x) h;have a:=Anb _ g (i*2+1) _ _ (.int .i64 (y:Nat)) h2;unfold Ki;rw[a,←Aik l x y i hi];congr 2;apply Api;simp
theorem Ki.made{w':World}{g n:Nat}{base:Nat}(h:w'.ownsRow base 42 2 (.slice (some ⟨g,0,none⟩) n n) n (madeCells (Value.agg #[.string ⟨#[]⟩,.int .i64 0]).cells (n*2)).toList):Ki w' g (List.replicate n (⟨#[]⟩,0)):=by
 rcases h.2 with⟨h1,_⟩|⟨g2,cap,cur,h1,_,j,_,_,hs,ht⟩
 ·cases h1
 ·cases h1;unfold Ki;rw[j];congr 2;apply Api;have e:cur.toList.take (n*2)=cur.toList:=An5 (by simp;omega);rw[←e,ht];apply Aon
  ·rw[N4];simp[madeCells]
  ·intro i h1 h2;have f:i<n*2:=by rw[N4]at h2;simpa using h2
   obtain⟨a,b⟩:=Oi (List.replicate n (⟨#[]⟩,0)) (i/2) (by simp;omega);have d:(Value.agg #[.string ⟨#[]⟩,.int .i64 0]).cells= #[.string ⟨#[]⟩,.int .i64 0]:=rfl;rcases Aqc i with c|c
   ·rw[show i/2*2=i from by omega,Am5 h2]at a;simp at a;rw[a];simp[madeCells,d,c]
   ·rw[show i/2*2+1=i from by omega,Am5 h2]at b;simp at b;rw[b];simp[madeCells,d,c]
set_option maxRecDepth 20000 in
theorem Alo(hones:Bd)(B pa:Nat)(s l6:Arc)(L:Ard)(l8:Arc)(st:Bl)(w:World)(K:Cy s l6 L l8 st)(h:Dl B w pa s l6 L l8 st):
  Calls prog 17 #[.pointer (some ⟨pa,0,none⟩)] w fun e w'=> ∃gf,e= .returned (.slice (some ⟨gf,0,none⟩) (Hm.rdF s).1 (Hm.rdF s).1)∧w.heap.size≤gf∧Ki w' gf (Dt (Bn s l6 l8 st))∧Ara w w':=by
 obtain⟨gn,ge,g,ng,nc,gs,P⟩:=h.parts K;have hN:=Jp s;have hF:=Qi s;have Z:Hid (Tx w pa s l6 L l8 st gn ge g ng nc gs):=P;have R:pa<w.heap.size:=Ank _ _ P.total;have O:gn<w.heap.size:=Anu P.nblock;have y:Hid (∀k W,k<(Hm.rdF s).1→Ara w W→Calls prog 36 #[.pointer (some ⟨pa,1,none⟩),.int .i64 (k:Nat)] W fun e w'=>e= .returned (.tuple #[.int .i64 (Hg s l6 k:Nat),.int .i64 (Gi s l6 k:Nat)])∧Ara W w'):=fun k W hk hW=>Rg hones pa ge k s l6 W (P.ends.kept hW id id) K.ends hk;have A:Hid (∀k,k<(Hm.rdF s).1→Hg s l6 k≤Gi s l6 k∧Gi s l6 k≤(Hm.rdN s).1):=fun k hk=>⟨K.ends.cover.asc k hk,Adm K.ends.cover k hk⟩;have C:Hid (∀k nm,nm=(Hm.rdM s).1.getD k ⟨#[]⟩→k<(Hm.rdF s).1→nm.size≤281474976710656):=fun k nm h1 h2=>by
  rw[h1];have:=L9 (Hm.rdB s) (Hm.rdF s).1 k;exact Ant this (by omega)
 have c0:w.cell? ⟨pa,0,none⟩=some (.slice (some ⟨gn,0,none⟩) (Hm.rdF s).1 (Hm.rdF s).1):=P.names;obtain⟨i0,hi,S,T,U⟩:=Aoo Xy;obtain⟨m,I⟩: ∃m,m=(Hm.rdF s).1:=⟨_,rfl⟩;rw[←I]at c0 hF;have N:Hid (m=(Hm.rdF s).1):=I;rw[←I]at y A C;have E:(Dt (Bn s l6 l8 st)).length=m:=by unfold Dt;rw[Anz,Iw,I]
 clear I P h
 go_enter func17,ntmps17
 go_wp2_with(at_make;refine Apr _ rfl (.tmp 14) (.tmp 14) 39 rfl w.heap.size 42 i0 (.agg #[.string ⟨#[]⟩,.int .i64 0]) 2 underlying39 hi S T .i64 .i64 _ _ m rfl rfl rfl rfl (by rw[U];omega) (by unfold maxLen;omega) (Ane _) ?_;intro w3 J G;have n:Ara w w3:=(Aa.refl _ _).grown G (fun k hk=>by cases hk);have c03:w3.cell? ⟨pa,0,none⟩=some (.slice (some ⟨gn,0,none⟩) m m):=(n.cell (p:=⟨pa,0,none⟩) R id).trans c0)
 have t:=Ki.made J;obtain⟨gf,H⟩: ∃x,x=w.heap.size:=⟨_,rfl⟩;rw[←H]at t⊢;have v:Hid (Ki w3 gf (List.replicate m (⟨#[]⟩,0))∧Ara w w3∧w.heap.size≤gf):=⟨t,n,by omega⟩;clear J G n t c0 H
 go_loopw[21] (fun vi wr=> ∃k:Nat,k≤m∧vi= .int .i64 k∧Ki wr gf (Fm (Dt (Bn s l6 l8 st)) m k)∧Ara w wr) (fun vi _=>m-(intOf vi).toNat)
 case atStart=>exact⟨0,Ann _,rfl,by simpa[Fm]using v.o.1,v.o.2.1⟩
 case round=>
  obtain⟨k,hk,rfl,a,d⟩:=hrel
  by_cases f:k<m
  ·obtain⟨nm,l⟩: ∃x,x=(Hm.rdM s).1.getD k ⟨#[]⟩:=⟨_,rfl⟩;have Q:(Hm.rdM s).1.length=m:=by rw[N.o];exact Fi _ _
   have cnm:wr.cell? ⟨gn,k,none⟩=some (.string nm):=by
    rw[d.cell (p:=⟨gn,k,none⟩) O id,Am7 _ _ k _ _ _ Z.o.nblock,Anw,l];unfold Fx;rw[An2,Am4,Am5 (show k<(Hm.rdM s).1.length by omega)];rfl
   have j:=y.o k wr f d;have F:=A.o k f;have D:=fun W=>Pk nm W (C.o k nm l f);have i:Hid ((Dt (Bn s l6 l8 st))[k]?=some (nm,Gi s l6 k-Hg s l6 k)):=by
    show _=_;unfold Dt Bn;rw[An2,An2,Ao2 (by rw[←N.o];exact f),l];show some (_,(Hm.part (F0 s l8 st) (Hg s l6 k) (Gi s l6 k)).toArray.size)=_;rw[Anq];unfold Hm.part;rw[Anp,Aoi,N2,Ap7 (by omega)];rfl
   generalize Hg s l6 k=fr at j F i;generalize Gi s l6 k=tz at j F i;obtain⟨z,Y⟩: ∃z,z=tz-fr:=⟨_,rfl⟩;rw[←Y]at i;have zz:(tz:Int)-(fr:Int)=(z:Int):=by omega
   have b:Hid ((Fm (Dt (Bn s l6 l8 st)) m k).set k (nm,z)=Fm (Dt (Bn s l6 l8 st)) m (k+1)∧k<(Fm (Dt (Bn s l6 l8 st)) m k).length):=⟨Afw _ _ _ E f _ i.o,by rw[Abc _ _ _ E hk];exact f⟩;have u:Hid (Ki wr gf (Fm (Dt (Bn s l6 l8 st)) m k)∧Ara w wr):=⟨a,d⟩;have ab:(k:Int)<(m:Int):=by omega
   clear a d l Q i Y;go_wp2_with fail;refine j.mono ?_;rintro e w4 ⟨rfl,q⟩;have M:Hid (Ki w4 gf (Fm (Dt (Bn s l6 l8 st)) m k)∧Ara w w4):=⟨q.row u.o.1 id,u.o.2.trans q (fun _ _ h=>h)⟩;clear j q u cnm;go_wp2_with fail;refine(D _).mono ?_;rintro e w5 ⟨rfl,r⟩;have c:Ki w5 gf (Fm (Dt (Bn s l6 l8 st)) m k):=r.row M.o.1 id;have q1:w5.cell? ⟨gf,k*2,none⟩=some (.string ((Fm (Dt (Bn s l6 l8 st)) m k)[k]'b.o.2).1):=by
    rw[Am7 _ _ _ _ _ _ c,Anw];exact(Oi _ k b.o.2).1
   have q2:w5.cell? ⟨gf,k*2+1,none⟩=some (.int .i64 (((Fm (Dt (Bn s l6 l8 st)) m k)[k]'b.o.2).2:Nat)):=by
    rw[Am7 _ _ _ _ _ _ c,Anw];exact(Oi _ k b.o.2).2
   have fz1:w5.frozen? ⟨gf,k*2,none⟩=false:=Ang _ _ _ _ _ c;have fz2:w5.frozen? ⟨gf,k*2+1,none⟩=false:=Ang _ _ _ _ _ c;have V:Hid (Ki w5 gf (Fm (Dt (Bn s l6 l8 st)) m k)∧Ara w w5):=⟨c,M.o.2.trans r (fun _ _ h=>h)⟩;generalize((Fm (Dt (Bn s l6 l8 st)) m k)[k]'b.o.2).1=o1 at q1;generalize((Fm (Dt (Bn s l6 l8 st)) m k)[k]'b.o.2).2=o2 at q2;clear D r M c;have X:Hid (Ki ((w5.setCell ⟨gf,k*2,none⟩ (.string nm)).setCell ⟨gf,k*2+1,none⟩ (.int .i64 (z:Nat))) gf (Fm (Dt (Bn s l6 l8 st)) m (k+1))∧Ara w ((w5.setCell ⟨gf,k*2,none⟩ (.string nm)).setCell ⟨gf,k*2+1,none⟩ (.int .i64 (z:Nat)))):=
    ⟨by rw[←b.o.1];exact V.o.1.put k nm z b.o.2,(V.o.2.setCell (p:=⟨gf,k*2,none⟩) (.inl v.o.2.2) _).setCell (p:=⟨gf,k*2+1,none⟩) (.inl v.o.2.2) _⟩
   go_wp2_with fail;go_roundw
   case rel=>exact⟨k+1,by omega,by go_num,X.o.1,X.o.2⟩
   case measure=>simp[intOf];omega
  ·obtain rfl:k=m:=by omega
   have u:Hid (Ki wr gf (Dt (Bn s l6 l8 st))∧Ara w wr):=⟨by unfold Fm at a;rw[Aoy,An5 (by omega),List.replicate_zero,Aow]at a;exact a,d⟩;clear a d;go_wp2_with fail;go_ret;exact⟨gf,by rw[←N.o];rfl,v.o.2.2,u.o.1,u.o.2⟩
namespace Hm
def M5(fs:List Fl)(f a n:Int):ByteArray×Nat:=
 if h:0≤f∧f.toNat<fs.length then
  if 0≤a∧0≤n∧a+n≤(fs[f.toNat]'h.2).2.size then(⟨(((fs[f.toNat]'h.2).2.data.toList.drop a.toNat).take n.toNat).toArray⟩,0)else(⟨#[]⟩,7)
 else(⟨#[]⟩,7)
theorem Adz(fs:List Fl)(i x y:Nat)(hi:i<fs.length)(h:x+y≤fs[i].2.size):M5 fs i x y=(⟨((fs[i].2.data.toList.drop x).take y).toArray⟩,0):=by
 unfold M5;rw[dif_pos ⟨by omega,by simpa using hi⟩,if_pos ⟨by omega,by omega,by simp;omega⟩];simp
theorem Ad0(fs:List Fl)(f a n:Int)(h: ∀i:Nat,f=(i:Int)→(hi:i<fs.length)→a<0∨n<0∨(fs[i].2.size:Int)-a<n):M5 fs f a n=(⟨#[]⟩,7):=by
 unfold M5;split
 ·rename_i b;have:=h f.toNat (by omega) b.2;rw[if_neg (by omega)]
 ·rfl
theorem Alp(fs:List Fl)(f a n:Int):(∃(i x y:Nat) (hi:i<fs.length),f=i∧a=x∧n=y∧x+y≤fs[i].2.size)∨ ∀i:Nat,f=(i:Int)→(hi:i<fs.length)→a<0∨n<0∨(fs[i].2.size:Int)-a<n:=by
 by_cases h: ∃(i x y:Nat) (hi:i<fs.length),f=i∧a=x∧n=y∧x+y≤fs[i].2.size
 ·exact .inl h
 ·refine .inr fun i b hi=>?_
  by_cases h1:a<0
  ·exact .inl h1
  ·by_cases h2:n<0
   ·exact .inr (.inl h2)
   ·refine .inr (.inr (Int.not_le.1 fun c=>h ⟨i,a.toNat,n.toNat,hi,b,by omega,by omega,by omega⟩))
def Uk(fs:List Fl)(P:Arc):Int×Int:=if P=[]then(0,8)else(((Dk fs P fs.length).length:Nat),0)
def Ul(fs:List Fl)(P:Arc)(M:Int):List (Nat×Nat)×Int:=if P=[]∨M<0 then([],8)else((Dk fs P fs.length).take M.toNat,0)
end Hm
structure M6(B:Nat)(w:World)(pa:Nat)(fs:List Hm.Fl):Prop where
 le:B≤pa
 ck:Cq fs=0
 is: ∃s l6 L l8 st ps,Cy s l6 L l8 st∧Dl B w pa s l6 L l8 st∧Ib fs s l6 l8 st ps∧Bn s l6 l8 st=fs
theorem M6.kept{B:Nat}{w w':World}{pa:Nat}{fs:List Hm.Fl}{S:Nat→Prop}(h:M6 B w pa fs)(hk:Aa S w w')(hn: ∀j,B≤j→ ¬S j):M6 B w' pa fs:=by
 obtain⟨s,l6,L,l8,st,ps,h1,h2,a⟩:=h.is;exact⟨h.le,h.ck,s,l6,L,l8,st,ps,h1,h2.kept hk (fun j b _=>hn j b) (hn _ h.le),a⟩
def Sub(o:Bool)(w:World)(x:Value)(fs:List Hm.Fl):Prop:=(o=true∧x= .pointer none∧fs=[])∨(o=false∧ ∃B pa,x= .pointer (some ⟨pa,0,none⟩)∧M6 B w pa fs)
theorem Sub.step{o:Bool}{w w':World}{x:Value}{fs:List Hm.Fl}(h:Sub o w x fs)(hk:Ara w w'):Sub o w' x fs:=by
 rcases h with h|⟨h1,B,pa,h2,a⟩
 ·exact .inl h
 ·exact .inr ⟨h1,B,pa,h2,a.kept hk (fun _ _=>id)⟩
theorem Ad1{w:World}{base g n:Nat}{e:TypeId}{xs:Are}(h:w.heap[g]?=some (.cells xs.toArray e (0,0)))(hb:base≤g)(a:xs.length=n*2)(hn:n≤1000000):w.ownsRow base e 2 (.slice (some ⟨g,0,none⟩) n n) n xs:=
 ⟨a,.inr ⟨g,n,_,rfl,hb,h,Ane _,by unfold maxLen;omega,by rw[Anq];exact a,by rw[List.toList_toArray,An5 (by omega)]⟩⟩
theorem Xz(w:World)(base:Nat)(e:TypeId):w.ownsRow base e 2 (.slice none 0 0) 0 []:=⟨rfl,.inl ⟨rfl,rfl⟩⟩
theorem Sub.list{o:Bool}{w:World}{x:Value}{fs:List Hm.Fl}(h:Sub o w x fs):Calls prog 17 #[x] w fun e w'=> ∃v,e= .returned v∧w'.ownsRow w.heap.size 42 2 v fs.length (Jr (Dt fs))∧Ara w w':=by
 rcases h with⟨_,rfl,rfl⟩|⟨_,B,pa,rfl,d⟩
 ·refine(Afv w).mono ?_;rintro e w' ⟨rfl,rfl⟩;exact⟨_,rfl,Xz _ _ _,Aa.refl _ _⟩
 ·obtain⟨s,l6,L,l8,st,ps,h1,h2,a,c⟩:=d.is;have b:=Alo Gk B pa s l6 L l8 st w h1 h2;rw[a.nF,c]at b;refine b.mono ?_;rintro e w' ⟨gf,rfl,f,g,hk⟩;exact⟨_,rfl,Ad1 g f (by rw[N4];unfold Dt;rw[Anz]) (by have:=a.few;omega),hk⟩
theorem Sub.unpack{o:Bool}{w:World}{x:Value}{fs:List Hm.Fl}(h:Sub o w x fs):Calls prog 14 #[x] w fun e w'=> ∃v,e= .returned v∧w'.ownsRow w.heap.size 38 2 v fs.length (Fz fs)∧Ara w w':=by
 rcases h with⟨_,rfl,rfl⟩|⟨_,B,pa,rfl,d⟩
 ·refine(Aa9 w).mono ?_;rintro e w' ⟨rfl,rfl⟩;exact⟨_,rfl,Xz _ _ _,Aa.refl _ _⟩
 ·obtain⟨s,l6,L,l8,st,ps,h1,h2,a,c⟩:=d.is;have b:=Xt Gk B pa s l6 L l8 st w h1 h2;rw[a.nF,c]at b;refine b.mono ?_;rintro e w' ⟨gf,rfl,f,g,hk⟩;exact⟨_,rfl,Ad1 g f (Sb _) (by have:=a.few;omega),hk⟩
theorem Sub.extract{o:Bool}{w:World}{x:Value}{fs:List Hm.Fl}(h:Sub o w x fs)(f a n:Int)(c: -9223372036854775808≤a)(d:a≤9223372036854775807):Calls prog 26 #[x,.int .i64 f,.int .i64 a,.int .i64 n] w fun e w'=>(∃S E,(S,E)=(if o=true then(⟨#[]⟩,9)else M5 fs f a n)∧e= .returned (.tuple #[.string S,.int .i64 (E:Nat)]))∧Ara w w':=by
 rcases h with⟨rfl,rfl,rfl⟩|⟨rfl,B,pa,rfl,j⟩
 ·refine(Y4 f a n w).mono ?_;rintro e w' ⟨rfl,rfl⟩;exact⟨⟨_,_,rfl,rfl⟩,Aa.refl _ _⟩
 ·obtain⟨s,l6,L,l8,st,ps,h1,h2,g,k⟩:=j.is;rcases Alp fs f a n with⟨i,p,q,hi,rfl,rfl,rfl,b⟩|hno
  ·refine(Aih Gk O8 B pa s l6 L l8 st fs ps w h1 h2 g i p q hi b).mono ?_;rintro e w' ⟨rfl,hk⟩;exact⟨⟨_,_,(Adz fs i p q hi b).symm,rfl⟩,hk⟩
  ·refine(Aii Gk B pa s l6 L l8 st fs ps w h1 h2 g f a n c d hno).mono ?_;rintro e w' ⟨rfl,hk⟩;exact⟨⟨_,_,(Ad0 fs f a n hno).symm,rfl⟩,hk⟩
theorem Sub.count{o:Bool}{w:World}{x:Value}{fs:List Hm.Fl}(h:Sub o w x fs)(P:Arc)(hP:P.length≤281474976710656):Calls prog 27 #[x,.string ⟨P.toArray⟩] w fun e w'=>(∃S E,(S,E)=(if o=true then(0,9)else Uk fs P)∧e= .returned (.tuple #[.int .i64 S,.int .i64 E]))∧Ara w w':=by
 rcases h with⟨rfl,rfl,rfl⟩|⟨rfl,B,pa,rfl,d⟩
 ·refine(Ady _ w).mono ?_;rintro e w' ⟨rfl,rfl⟩;exact⟨⟨_,_,rfl,rfl⟩,Aa.refl _ _⟩
 ·by_cases a:P=[]
  ·subst a;refine(Abb _ w).mono ?_;rintro e w' ⟨rfl,rfl⟩;exact⟨⟨_,_,rfl,rfl⟩,Aa.refl _ _⟩
  ·obtain⟨s,l6,L,l8,st,ps,h1,h2,c,f⟩:=d.is;refine(Aln Gk O8 B pa s l6 L l8 st fs ps w h1 h2 c P hP a).mono ?_;rintro e w' ⟨pl,rfl,_,b,hk⟩;rw[b.unique (Adv fs P a)];exact⟨⟨_,_,(if_neg a).symm,rfl⟩,hk⟩
theorem Sub.locate{o:Bool}{w:World}{x:Value}{fs:List Hm.Fl}(h:Sub o w x fs)(P:Arc)(M:Int)(hP:P.length≤281474976710656)(hM:M≤9223372036854775807):Calls prog 28 #[x,.string ⟨P.toArray⟩,.int .i64 M] w fun e w'=>(∃v S E,(S,E)=(if o=true then([],9)else Ul fs P M)∧e= .returned (.tuple #[v,.int .i64 E])∧S.length≤6001∧w'.ownsRow w.heap.size 73 2 v S.length (By S))∧Ara w w':=by
 rcases h with⟨rfl,rfl,rfl⟩|⟨rfl,B,pa,rfl,d⟩
 ·refine(Aba _ M w).mono ?_;rintro e w' ⟨rfl,rfl⟩;exact⟨⟨_,_,_,rfl,rfl,Ann _,Xz _ _ _⟩,Aa.refl _ _⟩
 ·by_cases a:P=[]∨M<0
  ·refine(Y5 _ P M w a).mono ?_;rintro e w' ⟨rfl,rfl⟩;exact⟨⟨_,_,_,(if_pos a).symm,rfl,Ann _,Xz _ _ _⟩,Aa.refl _ _⟩
  ·obtain⟨s,l6,L,l8,st,ps,h1,h2,c,g⟩:=d.is;obtain⟨m,rfl⟩: ∃m:Nat,M=m:=⟨M.toNat,by omega⟩;have hP0:P≠[]:=fun h=>a (.inl h);refine(Aj6 Gk O8 B pa s l6 L l8 st fs ps w h1 h2 c P hP hP0 m (by omega)).mono ?_;rintro e w' ⟨pl,v,rfl,f,i,b,hk⟩;refine⟨⟨v,pl.take m,0,?_,rfl,by rw[Anp];omega,f⟩,hk⟩;rw[b.unique (Adv fs P hP0)];exact(if_neg a).symm
theorem Abd(ao:Arf)(c:Nat)(fs:List Hm.Fl)(f a n:Int)(w:World)(h:Ba w ao fs)(j:fs.length≤40)(d: ∀x∈fs,x.2.size≤30000)(g:a≤9223372036854775807)(hn:n≤9223372036854775807):
  Calls prog 55 #[.slice ao fs.length c,.int .i64 f,.int .i64 a,.int .i64 n] w fun e w'=>(∃S E,(S,E)=M5 fs f a n∧e= .returned (.tuple #[.string S,.int .i64 (E:Nat)]))∧w'=w:=by
 refine(Y3 ao c fs f a n w h j d g hn).mono ?_;rintro e w' ⟨rfl,⟨i,p,q,hi,rfl,rfl,rfl,b,rfl⟩|⟨hno,rfl⟩⟩
 ·exact⟨⟨_,_,(Adz fs i p q hi b).symm,rfl⟩,rfl⟩
 ·exact⟨⟨_,_,(Ad0 fs f a n hno).symm,rfl⟩,rfl⟩
theorem Afx(ao:Arf)(c:Nat)(fs:List Hm.Fl)(P:Arc)(w:World)(d:Ba w ao fs)(g:fs.length≤40)(b: ∀f∈fs,f.2.size≤30000)(hP:P.length≤281474976710656):
  Calls prog 56 #[.slice ao fs.length c,.string ⟨P.toArray⟩] w fun e w'=>(∃S E,(S,E)=Uk fs P∧e= .returned (.tuple #[.int .i64 S,.int .i64 E]))∧Ara w w':=by
 refine(Adx ao c fs P w d g b hP).mono ?_;rintro e w' ⟨rfl,hk⟩;refine⟨?_,hk⟩
 by_cases a:P=[]
 ·exact⟨_,_,(if_pos a).symm,by simp[a]⟩
 ·exact⟨_,_,(if_neg a).symm,by simp[a]⟩
theorem Ad2(ao:Arf)(c:Nat)(fs:List Hm.Fl)(P:Arc)(M:Int)(w:World)(j:Ba w ao fs)(k:fs.length≤40)(a: ∀f∈fs,f.2.size≤30000)(hP:P.length≤281474976710656):
  Calls prog 57 #[.slice ao fs.length c,.string ⟨P.toArray⟩,.int .i64 M] w fun e w'=>(∃ap d S E,(S,E)=Ul fs P M∧Jc w' ap S∧e= .returned (.tuple #[.slice ap S.length d,.int .i64 E]))∧Ara w w':=by
 refine(Aa8 ao c fs P M w j k a hP).mono ?_;rintro e w' ⟨hk,⟨b,rfl⟩|⟨m,ap,d,h1,rfl,g,rfl⟩⟩
 ·exact⟨⟨none,0,[],8,(if_pos b).symm,fun i hi=>by simp at hi,rfl⟩,hk⟩
 ·refine⟨⟨ap,d,_,0,(if_neg ?_).symm,g,rfl⟩,hk⟩;rintro(h|h)
  ·exact h1 h
  ·omega
namespace Hm
end Hm
namespace Hm
def M7(m:Nat):ByteArray:=⟨#[109,97,114,107,UInt8.ofNat m,UInt8.ofNat (m/256)]⟩
end Hm
def F3(w:World)(ao:Arf)(n j:Nat)(v:Value):Prop:=
 ∀i,i<n→ ∃b o,ao=some ⟨b,o,none⟩∧b<w.heap.size∧w.cell? ⟨b,o+i*2+j,none⟩=some v
theorem F3.kept{S:Nat→Prop}{w w':World}{ao:Arf}{n j:Nat}{v:Value}(h:F3 w ao n j v)(hk:Aa S w w')(hn: ∀a,ao=some a→ ¬S a.block):F3 w' ao n j v:=fun i hi=>by
 obtain⟨b,o,e,hb,h1⟩:=h i hi;exact⟨b,o,e,by have:=hk.size;omega,(hk.cell (p:=⟨b,o+i*2+j,none⟩) hb (hn ⟨b,o,none⟩ e)).trans h1⟩
theorem F3.none(w:World)(j:Nat)(v:Value):F3 w none 0 j v:=fun i hi=>by omega
set_option maxRecDepth 20000 in
theorem T4(m:Nat)(w:World)(r:m≤1000000000000):
  Calls prog 108 #[.int .i64 m] w fun e w'=>e= .returned (.string (M7 m))∧Ara w w':=by
 obtain⟨i0,hi,l,n,p⟩:=Aoo Fh;have h1:IntKind.u8.wrap (m:Int)=((m%256:Nat):Int):=by rw[IntKind.wrap_u8];omega
 have h2:(m:Int).tdiv 256=((m/256:Nat):Int):=by
  rw[Int.tdiv_eq_ediv_of_nonneg (by omega)];omega
 have f:IntKind.u8.wrap ((m/256:Nat):Int)=((m/256%256:Nat):Int):=by rw[IntKind.wrap_u8];omega
 obtain⟨x,b⟩: ∃x,x=m%256:=⟨_,rfl⟩;obtain⟨y,a⟩: ∃y,y=m/256:=⟨_,rfl⟩;obtain⟨z,c⟩: ∃z,z=y%256:=⟨_,rfl⟩;rw[←b]at h1;rw[←a]at h2;rw[←a,←c]at f;have d:Hid ((⟨#[109,97,114,107]⟩:ByteArray)++⟨#[UInt8.ofNat x,UInt8.ofNat z]⟩=M7 m):=by
  show _=_;apply Aqg;rw[Ap5];unfold M7;have e1:UInt8.ofNat x=UInt8.ofNat m:=by rw[b];apply UInt8.toNat_inj.1;rw[Aoa,Aoa];omega
  have e2:UInt8.ofNat z=UInt8.ofNat (m/256):=by rw[c,a];apply UInt8.toNat_inj.1;rw[Aoa,Aoa];omega
  rw[e1,e2];rfl
 have i:x<256:=by omega
 have q:z<256:=by omega
 have j:y≤1000000000000:=by omega
 have k:(y:Int)%256=(z:Int):=by omega
 clear b a c
 go_enter func108,ntmps108
 have h:=L8 (w:=w.alloc (.cells #[.int .u8 (x:Int),.int .u8 (z:Int)] 5)) (g:=w.heap.size) (t:=[UInt8.ofNat x,UInt8.ofNat z]) (by
  have:=Anj w (.cells #[.int .u8 (x:Int),.int .u8 (z:Int)] 5);rw[this];have e1:(UInt8.ofNat x).toNat=x:=by simp;omega
  have e2:(UInt8.ofNat z).toNat=z:=by simp;omega
  show _=some (Obj.cells #[.int .u8 ((UInt8.ofNat x).toNat:Int),.int .u8 ((UInt8.ofNat z).toNat:Int)] _ _);rw[e1,e2]) 0 2 2 (by simp)
 go_wp2_with fail;go_ret;refine⟨?_,(Aa.refl _ _).alloc _⟩;rw[←d.o];rfl
theorem M8(ao:Arf)(n c m:Nat)(w:World)(h:F3 w ao n 0 (.string (M7 m)))(hn:n≤1000000000)(p:m≤1000000000000):
  Calls prog 110 #[.slice ao n c,.int .i64 m] w fun e w'=>e= .returned (.bool true)∧Ara w w':=by
 have j:Hid (F3 w ao n 0 (.string (M7 m))):=h;have g:=T4 m w p;generalize M7 m=N at*;clear h
 go_enter func110,ntmps110
 go_wp2_with fail;refine g.mono ?_;rintro e w1 ⟨rfl,f⟩;have d:Hid (Ara w w1):=f;clear g f;go_wp2_with fail
 go_loopw[6] (fun vi wr=> ∃k:Nat,k≤n∧vi= .int .i64 k∧wr=w1) (fun vi _=>n-(intOf vi).toNat)
 case atStart=>exact⟨0,Ann _,rfl,rfl⟩
 case round=>
  obtain⟨k,hk,rfl,rfl⟩:=hrel
  by_cases i:k<n
  ·have a:(k:Int)<(n:Int):=by omega
   have hd:decide ((k:Int)<(n:Int))=true:=Ana a;obtain⟨b,o,rfl,_,l⟩:=(j.o.kept d.o (fun _ _=>id)) k i;rw[Ap3]at l;go_wp2_with fail;go_roundw
   case rel=>exact⟨k+1,by omega,by go_num,trivial⟩
   case measure=>simp[intOf];omega
  ·have a: ¬(k:Int)<(n:Int):=by omega
   have hd:decide ((k:Int)<(n:Int))=false:=Anc a;go_wp2_with fail;go_ret;exact⟨rfl,d.o⟩
theorem M9(ao:Arf)(n c m:Nat)(w:World)(h:F3 w ao n 1 (.int .i64 (m:Nat)))(hn:n≤1000000000):
  Calls prog 111 #[.slice ao n c,.int .i64 m] w fun e w'=>e= .returned (.bool true)∧w'=w:=by
 have f:Hid (F3 w ao n 1 (.int .i64 (m:Nat))):=h;clear h
 go_enter func111,ntmps111
 go_wp2_with fail
 go_loopw[5] (fun vi wr=> ∃k:Nat,k≤n∧vi= .int .i64 k∧wr=w) (fun vi _=>n-(intOf vi).toNat)
 case atStart=>exact⟨0,Ann _,rfl,rfl⟩
 case round=>
  obtain⟨k,hk,rfl,rfl⟩:=hrel
  by_cases d:k<n
  ·have a:(k:Int)<(n:Int):=by omega
   have hd:decide ((k:Int)<(n:Int))=true:=Ana a;obtain⟨b,o,rfl,_,g⟩:=f.o k d;go_wp2_with fail;go_roundw
   case rel=>exact⟨k+1,by omega,by go_num,trivial⟩
   case measure=>simp[intOf];omega
  ·have a: ¬(k:Int)<(n:Int):=by omega
   have hd:decide ((k:Int)<(n:Int))=false:=Anc a;go_wp2_with fail;go_ret;exact⟨rfl,rfl⟩
theorem Na(ao:Arf)(n c m:Nat)(w:World)(h:F3 w ao n 1 (.int .i64 (m:Nat)))(hn:n≤1000000000):
  Calls prog 112 #[.slice ao n c,.int .i64 m] w fun e w'=>e= .returned (.bool true)∧w'=w:=by
 have f:Hid (F3 w ao n 1 (.int .i64 (m:Nat))):=h;clear h
 go_enter func112,ntmps112
 go_wp2_with fail
 go_loopw[5] (fun vi wr=> ∃k:Nat,k≤n∧vi= .int .i64 k∧wr=w) (fun vi _=>n-(intOf vi).toNat)
 case atStart=>exact⟨0,Ann _,rfl,rfl⟩
 case round=>
  obtain⟨k,hk,rfl,rfl⟩:=hrel
  by_cases d:k<n
  ·have a:(k:Int)<(n:Int):=by omega
   have hd:decide ((k:Int)<(n:Int))=true:=Ana a;obtain⟨b,o,rfl,_,g⟩:=f.o k d;go_wp2_with fail;go_roundw
   case rel=>exact⟨k+1,by omega,by go_num,trivial⟩
   case measure=>simp[intOf];omega
  ·have a: ¬(k:Int)<(n:Int):=by omega
   have hd:decide ((k:Int)<(n:Int))=false:=Anc a;go_wp2_with fail;go_ret;exact⟨rfl,rfl⟩
structure Rec where
 sl:Nat→Arf×Nat×Nat
 mark:Nat
def Rec.v(r:Rec)(j:Nat):Value:= .slice (r.sl j).1 (r.sl j).2.1 (r.sl j).2.2
def Rec.cells(r:Rec):Are:=[r.v 0,r.v 1,r.v 2,r.v 3,r.v 4,r.v 5,r.v 6,r.v 7,r.v 8,r.v 9,r.v 10,r.v 11,.int .i64 (r.mark:Nat)]
structure Jd(w:World)(r:Rec):Prop where
 mark:r.mark≤1000000000000
 len: ∀j,j<12→(r.sl j).2.1≤1000000000
 f: ∀j,j<4→F3 w (r.sl j).1 (r.sl j).2.1 0 (.string (M7 r.mark))
 e: ∀j,4≤j→j<12→F3 w (r.sl j).1 (r.sl j).2.1 1 (.int .i64 (r.mark:Nat))
theorem Jd.kept{S:Nat→Prop}{w w':World}{r:Rec}(h:Jd w r)(hk:Aa S w w')(hn: ∀j a,j<12→(r.sl j).1=some a→ ¬S a.block):Jd w' r:=
 ⟨h.mark,h.len,fun j b=>(h.f j b).kept hk (fun a e=>hn j a (by omega) e),fun j h1 h2=>(h.e j h1 h2).kept hk (fun a e=>hn j a h2 e)⟩
def Nq(w:World)(ao:Arf)(rs:List Rec):Prop:= ∀i,(h:i<rs.length)→ ∃b o,ao=some ⟨b,o,none⟩∧b<w.heap.size∧w.rangeAt b (o+i*13) rs[i].cells
theorem Nq.kept{S:Nat→Prop}{w w':World}{ao:Arf}{rs:List Rec}(h:Nq w ao rs)(hk:Aa S w w')(hn: ∀a,ao=some a→ ¬S a.block):Nq w' ao rs:=fun i hi=>by
 obtain⟨b,o,e,hb,h1⟩:=h i hi;refine⟨b,o,e,by have:=hk.size;omega,fun j v c=>?_⟩;rw[hk.cell (p:=⟨b,o+i*13+j,none⟩) hb (hn ⟨b,o,none⟩ e)];exact h1 j v c
theorem Mb:(prog.info? 122).map (·.size)=some 13:=by kernel_rfl
set_option maxRecDepth 20000 in
theorem Alq(ao:Arf)(c:Nat)(rs:List Rec)(w:World)(h:Nq w ao rs)(hr: ∀r∈rs,Jd w r)(hl:rs.length≤1000000000):
  Calls prog 59 #[.slice ao rs.length c] w fun e w'=>e= .returned (.bool true)∧Ara w w':=by
 have H0:Hid (Nq w ao rs∧ ∀r∈rs,Jd w r):=⟨h,hr⟩;clear h hr
 go_enter func59,ntmps59
 go_wp2_with fail
 go_loopw[3,4] (fun vb vi wr=> ∃k:Nat,k≤rs.length∧vi= .int .i64 k∧vb= .bool true∧Hid (Ara w wr)) (fun _ vi _=>rs.length-(intOf vi).toNat)
 case atStart=>exact⟨0,Ann _,rfl,rfl,Aa.refl _ _⟩
 case round=>
  obtain⟨k,hk,rfl,rfl,D⟩:=hrel
  by_cases K:k<rs.length
  ·have B:(k:Int)<(rs.length:Int):=by omega
   have hd:decide ((k:Int)<(rs.length:Int))=true:=Ana B;obtain⟨b,o,rfl,_,X⟩:=(H0.o.1.kept D.o (fun _ _=>id)) k K;have V:Hid (Jd wr rs[k]):=(H0.o.2 _ (Anm K)).kept D.o (fun _ _ _ _=>id);generalize rs[k]=r at X V;have Y:r.cells.toArray.size=13:=rfl;obtain⟨RA,s⟩: ∃A,A=r.cells.toArray:=⟨_,rfl⟩;have E:RA.all (·.oneCell')=true:=by
    rw[s];refine all_oneCell_toArray fun v Z=>?_;unfold Rec.cells Rec.v at Z;simp only[List.mem_cons,List.not_mem_nil,or_false]at Z;rcases Z with rfl|rfl|rfl|rfl|rfl|rfl|rfl|rfl|rfl|rfl|rfl|rfl|rfl<;>rfl
   have y:RA.size=13:=by rw[s];rfl
   have x:Hid (RA=r.cells.toArray):=s;clear s Y;go_upto_region 6 with(first
    |(refine wpList_load_mid rfl 122 _ rfl b _ rfl r.cells _ X underlying122 rfl (by rw[show r.cells.length=13 from rfl];exact Mb) ?_;rw[←x.o])
    |(refine wpList_store_row _ rfl 122 _ _ rfl wr.heap.size 122 _ RA rfl rfl (Anj wr _) (by rw[y];exact Mb) (by rw[y];rfl) E ?_;intro w6 C J))
   have z:Ara wr w6:=((Aa.refl _ wr).alloc _).trans J (fun j h1 h2=>by omega);have a:Hid (Jd w6 r∧Ara w w6):=⟨V.o.kept z (fun _ _ _ _=>id),D.o.trans z (fun _ _ h=>h)⟩;obtain⟨g,hg⟩: ∃g,g=wr.heap.size:=⟨_,rfl⟩;rw[←hg]at C⊢;have i:Hid (∀W,Ara w6 W→(∀j,j<12→W.cell? ⟨g,j,none⟩=some (.slice (r.sl j).1 (r.sl j).2.1 (r.sl j).2.2))∧W.cell? ⟨g,12,none⟩=some (.int .i64 (r.mark:Nat))):=fun W hW=>by
    have l:=hW.row C id;rw[x.o]at l;refine⟨fun j hj=>?_,Am7 _ _ 12 _ _ _ l⟩;rw[Am7 _ _ j _ _ _ l]
    match j,hj with
    |0,_|1,_|2,_|3,_|4,_|5,_|6,_|7,_|8,_|9,_|10,_|11,_=>rfl
   have m:Hid (Ara w6 w6):=Aa.refl _ _;clear J z C hg X E y x D V;have c0:=(i.o _ m.o).1 0 (by omega);have m0:=(i.o _ m.o).2;have L:=M8 _ _ (r.sl 0).2.2 _ _ ((a.o.1.f 0 (by omega)).kept m.o (fun _ _=>id)) (a.o.1.len 0 (by omega)) a.o.1.mark;go_wp2_with fail;refine L.mono ?_;rintro e W1 ⟨rfl,F⟩;have n:Hid (Ara w6 W1):=m.o.trans F (fun _ _ h=>h);clear c0 m0 L F;have c1:=(i.o _ n.o).1 1 (by omega);have m1:=(i.o _ n.o).2;have M:=M8 _ _ (r.sl 1).2.2 _ _ ((a.o.1.f 1 (by omega)).kept n.o (fun _ _=>id)) (a.o.1.len 1 (by omega)) a.o.1.mark;go_wp2_with fail;refine M.mono ?_;rintro e W2 ⟨rfl,G⟩;have p:Hid (Ara w6 W2):=n.o.trans G (fun _ _ h=>h);clear c1 m1 M G;have c2:=(i.o _ p.o).1 2 (by omega);have m2:=(i.o _ p.o).2;have N:=M8 _ _ (r.sl 2).2.2 _ _ ((a.o.1.f 2 (by omega)).kept p.o (fun _ _=>id)) (a.o.1.len 2 (by omega)) a.o.1.mark;go_wp2_with fail;refine N.mono ?_;rintro e W3 ⟨rfl,H⟩;have q:Hid (Ara w6 W3):=p.o.trans H (fun _ _ h=>h);clear c2 m2 N H;have c3:=(i.o _ q.o).1 3 (by omega);have m3:=(i.o _ q.o).2;have O:=M8 _ _ (r.sl 3).2.2 _ _ ((a.o.1.f 3 (by omega)).kept q.o (fun _ _=>id)) (a.o.1.len 3 (by omega)) a.o.1.mark;go_wp2_with fail;refine O.mono ?_;rintro e W4 ⟨rfl,I⟩;have d:Hid (Ara w6 W4):=q.o.trans I (fun _ _ h=>h);clear c3 m3 O I;have c4:=(i.o _ d.o).1 4 (by omega);have m4:=(i.o _ d.o).2;have P:=M9 _ _ (r.sl 4).2.2 _ _ ((a.o.1.e 4 (by omega) (by omega)).kept d.o (fun _ _=>id)) (a.o.1.len 4 (by omega));go_wp2_with fail;refine P.mono ?_;rintro e W5 ⟨rfl,rfl⟩;clear c4 m4 P;have c5:=(i.o _ d.o).1 5 (by omega);have m5:=(i.o _ d.o).2;have Q:=M9 _ _ (r.sl 5).2.2 _ _ ((a.o.1.e 5 (by omega) (by omega)).kept d.o (fun _ _=>id)) (a.o.1.len 5 (by omega));go_wp2_with fail;refine Q.mono ?_;rintro e W6 ⟨rfl,rfl⟩;clear c5 m5 Q;have c6:=(i.o _ d.o).1 6 (by omega);have m6:=(i.o _ d.o).2;have R:=M9 _ _ (r.sl 6).2.2 _ _ ((a.o.1.e 6 (by omega) (by omega)).kept d.o (fun _ _=>id)) (a.o.1.len 6 (by omega));go_wp2_with fail;refine R.mono ?_;rintro e W7 ⟨rfl,rfl⟩;clear c6 m6 R;have c7:=(i.o _ d.o).1 7 (by omega);have m7:=(i.o _ d.o).2;have S:=M9 _ _ (r.sl 7).2.2 _ _ ((a.o.1.e 7 (by omega) (by omega)).kept d.o (fun _ _=>id)) (a.o.1.len 7 (by omega));go_wp2_with fail;refine S.mono ?_;rintro e W8 ⟨rfl,rfl⟩;clear c7 m7 S;have c8:=(i.o _ d.o).1 8 (by omega);have m8:=(i.o _ d.o).2;have T:=Na _ _ (r.sl 8).2.2 _ _ ((a.o.1.e 8 (by omega) (by omega)).kept d.o (fun _ _=>id)) (a.o.1.len 8 (by omega));go_wp2_with fail;refine T.mono ?_;rintro e W9 ⟨rfl,rfl⟩;clear c8 m8 T;have c9:=(i.o _ d.o).1 9 (by omega);have m9:=(i.o _ d.o).2;have U:=Na _ _ (r.sl 9).2.2 _ _ ((a.o.1.e 9 (by omega) (by omega)).kept d.o (fun _ _=>id)) (a.o.1.len 9 (by omega));go_wp2_with fail;refine U.mono ?_;rintro e W10 ⟨rfl,rfl⟩;clear c9 m9 U;have c10:=(i.o _ d.o).1 10 (by omega);have m10:=(i.o _ d.o).2;have t:=Na _ _ (r.sl 10).2.2 _ _ ((a.o.1.e 10 (by omega) (by omega)).kept d.o (fun _ _=>id)) (a.o.1.len 10 (by omega));go_wp2_with fail;refine t.mono ?_;rintro e W11 ⟨rfl,rfl⟩;clear c10 m10 t;have c11:=(i.o _ d.o).1 11 (by omega);have m11:=(i.o _ d.o).2;have u:=Na _ _ (r.sl 11).2.2 _ _ ((a.o.1.e 11 (by omega) (by omega)).kept d.o (fun _ _=>id)) (a.o.1.len 11 (by omega));go_wp2_with fail;refine u.mono ?_;rintro e W12 ⟨rfl,rfl⟩;clear c11 m11 u;go_wp2_with fail;go_roundw
   case rel=>exact⟨k+1,by omega,by go_num,rfl,a.o.2.trans d.o (fun _ _ h=>h)⟩
   case measure=>simp[intOf];omega
  ·have B: ¬(k:Int)<(rs.length:Int):=by omega
   have hd:decide ((k:Int)<(rs.length:Int))=false:=Anc B;go_wp2_with fail;go_ret;exact⟨rfl,D.o⟩
end Go.Proofs.YtegnkfdbmmndaaaGreat
