import Derived.Test.YtegnkfdbmmndaaaGreatK01
import Derived.Test.YtegnkfdbmmndaaaGreatRows

set_option maxHeartbeats 8000000
set_option maxRecDepth 100000
namespace Go.Proofs.YtegnkfdbmmndaaaGreat
open Hm Go.Proofs.Tryz
variable{B base g n pb size:Nat}{S T:Nat->Prop}{a b c w w':World}{e:TypeId}{v v':Value}{xs:Aei}{l:Aeh}
namespace Hm
section
variable {M:Nat} {ln num:UInt8->Nat} {o:Aeg} {nds:List Nd} {f:Nat->Bool} {col:Aeg}
def Nv(ln num:UInt8->Nat)(nds:List Nd)(l:Aeg)(n u:Nat):Nat:=(l.filter fun b=>As ln num (Ab nds n).depth b==u).length
theorem iO(ln num:UInt8->Nat)(nds:List Nd)(n:Nat): ∀l:Aeg,Nv ln num nds l n 0+Nv ln num nds l n 1=l.length
 |[]=>rfl
 |b::r=>by
  have a:=iO ln num nds n r;have:=Fq ln num (Ab nds n).depth b;unfold Nv at*;rcases(show As ln num (Ab nds n).depth b=0\/As ln num (Ab nds n).depth b=1 by omega)with e|e
  ·rw[Abq,Abq,e];simp;omega
  ·rw[Abq,Abq,e];simp;omega
theorem vS(ln num:UInt8->Nat)(nds:List Nd)(n:Nat)(l:Aeg):ones (l.map fun b=>decide (As ln num (Ab nds n).depth b=1))=Nv ln num nds l n 1:=by
 unfold ones Nv;rw[List.countP_map,Acf];congr 1
theorem Xn(ln num:UInt8->Nat)(nds:List Nd)(col:Aeg){N i p:Nat}(hi:i<N)(a:p<(Aq ln num nds col i).length):
  (Ax ln num nds col N).getD ((Ax ln num nds col i).length+p) 0=As ln num (Ab nds i).depth ((Aq ln num nds col i).getD p 0)/\(Ax ln num nds col i).length+p<(Ax ln num nds col N).length:=by
 have key: ∃r,Ax ln num nds col N=Ax ln num nds col (i+1)++r:=by
  clear a;induction N with
  |zero=>omega
  |succ N ih=>
   by_cases e:i=N
   ·subst e;exact⟨[],by simp⟩
   ·obtain⟨r,b⟩:=ih (by omega);exact⟨r++Hx ln num nds col N,by rw[Fm,b,Aaj]⟩
 obtain⟨r,b⟩:=key;have c:(Hx ln num nds col i).length=(Aq ln num nds col i).length:=by simp[Hx]
 rw[b,Fm];constructor
 ·rw[zG,Aaj,z7 (by omega),Acq,Aav (by omega)];unfold Hx;rw[Aah,zH a,zG,zH a];rfl
 ·simp only[zL];omega
structure iQ(ln num:UInt8->Nat)(nds:List Nd)(col:Aeg)(i:Nat)(st:Bl):Prop where
 like:Jw st.nds nds
 len:st.len=(Ax ln num nds col i).length
 siz: ∀n,n<nds.length->(n=0\/ ∃j u,j<i/\u<2/\(Ab nds j).br u={node:=n})->(Ab st.nds n).siz=(Aq ln num nds col n).length
 st: ∀j,j<=i->Dg st.nds j=(Ax ln num nds col j).length
theorem vT{K i:Nat}{st:Bl}(h:Bn M ln o nds)(hk:Hw M ln num o)(W: ∀b∈col,b∈o)(hi:i<nds.length)(g:iQ ln num nds col i st)(hf: ∀k,k<(Ax ln num nds col nds.length).length->f k=decide ((Ax ln num nds col nds.length).getD k 0=1))(ab:(Ax ln num nds col nds.length).length<=K):
  ∃st',Ik f K i st=some st'/\iQ ln num nds col (i+1) st':=by
 have E:(Ab st.nds i).siz=(Aq ln num nds col i).length:=by
  refine g.siz i hi ?_
  by_cases e:i=0
  ·exact .inl e
  ·obtain⟨j,u,h1,h2,G⟩:=h.par i (by omega) hi;exact .inr ⟨j,u,h2,h1,G⟩
 have D:(Ax ln num nds col (i+1)).length=st.len+(Ab st.nds i).siz:=by
  rw[Fm,zL,<-g.len,E];simp[Hx]
 have ad:(Ax ln num nds col (i+1)).length<=(Ax ln num nds col nds.length).length:=by
  have: ∀m,i+1<=m->(Ax ln num nds col (i+1)).length<=(Ax ln num nds col m).length:=by
   intro m hm;induction m with
   |zero=>omega
   |succ m ih=>
    by_cases e:i=m
    ·subst e;exact zK _
    ·have:=ih (by omega);rw[Fm ln num nds col m,zL];omega
  exact this _ hi
 have hpb:Eb f st.len (Ab st.nds i).siz=(Aq ln num nds col i).map fun b=>decide (As ln num (Ab nds i).depth b=1):=by
  apply Aa1
  ·rw[Is,Aai,E]
  ·intro p h1 h2;rw[Is]at h1;have H:p<(Aq ln num nds col i).length:=by omega
   obtain⟨q1,S⟩:=Xn ln num nds col hi H;have T:(Eb f st.len (Ab st.nds i).siz)[p]?=some (f (st.len+p)):=by
    unfold Eb;rw[Aah,Abn h1];rfl
   rw[zH (by rw[Is];exact h1)]at T;rw[Aak T,Abu,g.len,hf _ S,q1,zG,zH H];rfl
 obtain⟨Z,o2⟩:=U1 f st.len (Ab st.nds i).siz;rw[hpb,vS]at Z;have O:Ke f st i=Nv ln num nds (Aq ln num nds col i) i 1:=Z.symm;have ae:=iO ln num nds i (Aq ln num nds col i);have P:(Ab st.nds i).siz-Ke f st i=Nv ln num nds (Aq ln num nds col i) i 0:=by omega
 have w: ∀u,u<2-> ∀s:Bl,Jw s.nds nds-> ∃s',Ef ((Ab nds i).br u) (Nv ln num nds (Aq ln num nds col i) i u) s=some s':=by
  intro u l s _;unfold Ef;cases h.good i u hi l with
  |leaf kk C e=>rw[e];exact⟨_,if_pos rfl⟩
  |node n e h1=>rw[e];exact⟨_,(if_neg (by simp)).trans (if_pos (by show 0<n;omega))⟩
  |none e h2=>
   rw[e];refine⟨s,(if_neg (by simp)).trans ((if_neg (by simp)).trans (if_pos ?_))⟩;unfold Nv;rw[List.length_eq_zero_iff,List.filter_eq_nil_iff];intro b hb hx;have A:=List.mem_filter.1 hb;have R:As ln num (Ab nds i).depth b=u:=by simpa using hx
   refine Jv hk (W b A.1) A.2 ?_;rw[R];exact h2
 have r:=g.like.2 i;have L:(Ab st.nds i).b0=(Ab nds i).br 0:=r.2.2.1;have N:(Ab st.nds i).b1=(Ab nds i).br 1:=r.2.2.2;obtain⟨s1,h1⟩:=w 0 (by omega) ⟨st.len+(Ab st.nds i).siz,E1 st.nds i st.len,st.ws⟩ ((Qg _ _ _).trans g.like);have X:=Jb h1;obtain⟨s2,h2⟩:=w 1 (by omega) s1 (X.1.trans ((Qg _ _ _).trans g.like));have l2:=Jb h2;have a:=Lr h1;have b:=Lr h2;have q:Ik f K i st=some s2:=by
  unfold Ik;rw[iN,P,O,L,N,h1];exact h2
 refine⟨s2,q,?_⟩;have Y:=M9 q;have Q:i<st.nds.length:=by rw[g.like.1];exact hi
 have ag:s1.nds.length=nds.length:=(X.1.trans ((Qg _ _ _).trans g.like)).1;have z: ∀j,(Ab (E1 st.nds i st.len) j).siz=(Ab st.nds j).siz:=fun j=>by rw[Ou _ _ _ _ Q];split<;>rfl
 have F: ∀n,n<nds.length->(∀u,u<2->(Ab nds i).br u≠{node:=n}\/n=0)->(Ab s2.nds n).siz=(Ab st.nds n).siz:=by
  intro n hn t;have other: ∀u,u<2->((Ab nds i).br u).whole=true\/n≠((Ab nds i).br u).node\/((Ab nds i).br u).node=0:=by
   intro u l;cases h.good i u hi l with
   |leaf kk C e=>rw[e];exact .inl rfl
   |node m e G=>
    rcases t u l with c|c
    ·rw[e]at c|-;right;left;intro x;subst x;exact c rfl
    ·rw[e];right;left;show n≠m;omega
   |none e=>rw[e];exact .inr (.inr rfl)
  rw[b.other n (other 1 (by omega)),a.other n (other 0 (by omega))];exact z n
 have hit: ∀u n,u<2->0<n->(Ab nds i).br u={node:=n}->(Ab s2.nds n).siz=(Aq ln num nds col n).length:=by
  intro u n l d e;obtain⟨q1,S,_⟩:=h.child hi l d e;have v:(Aq ln num nds col n).length=Nv ln num nds (Aq ln num nds col i) i u:=by rw[h.col_child hk W hi l d e];rfl
  rcases(show u=0\/u=1 by omega)with rfl|rfl
  ·have hb:((Ab nds i).br 1).whole=true\/n≠((Ab nds i).br 1).node\/((Ab nds i).br 1).node=0:=by
    cases h.good i 1 hi (by omega)with
    |leaf kk C e1=>rw[e1];exact .inl rfl
    |node m e1 G=>
     rw[e1];right;left;intro x;have x':n=m:=x;subst x';have:=h.parent hi (by omega) hi (by omega) d e e1;omega
    |none e1=>rw[e1];exact .inr (.inr rfl)
   rw[b.other n hb];have:=a.hit (by rw[e]) (by rw[e];exact d) (by rw[e];show n<(E1 st.nds i st.len).length;rw[Ha,g.like.1];exact S);rw[e]at this;rw[this,v]
  ·have:=b.hit (by rw[e]) (by rw[e];exact d) (by rw[e];show n<_;omega);rw[e]at this;rw[this,v]
 refine⟨Y.1.trans g.like,by rw[Y.2.1,D],fun n hn H=>?_,fun j hj=>?_⟩
 ·by_cases c: ∃u,u<2/\(Ab nds i).br u={node:=n}/\0<n
  ·obtain⟨u,l,e,d⟩:=c;exact hit u n l d e
  ·have t: ∀u,u<2->(Ab nds i).br u≠{node:=n}\/n=0:=fun u l=>by
    rcases Adn n with x|x
    ·exact .inr x
    ·exact .inl fun e=>c ⟨u,l,e,x⟩
   rw[F n hn t];refine g.siz n hn ?_;rcases H with x|⟨j,u,G,U,V⟩
   ·exact .inl x
   ·by_cases e:j=i
    ·subst e;rcases t u U with y|y
     ·exact absurd V y
     ·exact .inl y
    ·exact .inr ⟨j,u,by omega,U,V⟩
 ·have low: ∀k,k<i+1->(Ab s2.nds k).siz=(Ab st.nds k).siz:=fun k B=>F k (by omega) fun u l=>by
   rcases Adn k with x|x
   ·exact .inr x
   ·refine .inl fun e=>?_;have:=(h.child hi l x e).1;omega
  by_cases e:j=i+1
  ·subst e;rw[Dg,Kf (b:=st.nds) (fun k B=>low k (by omega)),low i (by omega),g.st i (zK _),<-g.len,D]
  ·rw[Kf (b:=st.nds) (fun k B=>low k (by omega))];exact g.st j (by omega)
theorem iR{g:Nat}{ws:Aeh}(h:Bn M ln o nds)(hk:Hw M ln num o)(e: ∀b∈col,b∈o)(c: ∀b∈o,0<ln b)(a: ∀b∈o,num b<2^ln b)(l: ∀k,k<(Ax ln num nds col nds.length).length->f k=decide ((Ax ln num nds col nds.length).getD k 0=1))(d:(Ax ln num nds col nds.length).length<=g):
  ∀i,i<=nds.length-> ∃st,Ji f g nds col.length ws i=some st/\iQ ln num nds col i st
 |0,_=>by
  refine⟨_,rfl,Y0 _ _ _,rfl,fun n hn q=>?_,fun j r=>?_⟩
  ·rcases q with x|⟨j,u,h1,_⟩
   ·subst x;show(Ab (Ff nds 0 col.length) 0).siz=_;rw[M0 _ _ _ _ h.more,if_pos rfl];unfold Aq;rw[List.filter_eq_self.2];intro b hb;refine zJ ⟨by rw[h.root.1];exact c b (e b hb),?_⟩;rw[h.root.1,h.root.2,Adj];exact Nat.div_eq_of_lt (a b (e b hb))
   ·omega
  ·obtain rfl:j=0:=by omega
   rfl
 |i+1,hi=>by
  obtain⟨st,h1,h2⟩:=iR (ws:=ws) h hk e c a l d i (by omega);obtain⟨st',m,p⟩:=vT h hk e (by omega) h2 l d;exact⟨st',by rw[Ji,h1];exact m,p⟩
theorem pR{a b:Nd}(h:Zn a b):Ee ln num a=Ee ln num b:=by
 funext x;unfold Ee;rw[h.1,h.2.1]
theorem Zp{a:List Nd}(h:Jw a nds)(n:Nat):Aq ln num a col n=Aq ln num nds col n:=by
 unfold Aq;rw[pR (h.2 n)]
theorem yE{LB:Nat}(h:Bn M ln o nds)(hn:o.Nodup)(hk:Hw M ln num o)(O: ∀b∈col,b∈o)(D: ∀b∈o,0<ln b)(C: ∀b∈o,num b<2^ln b)(hf: ∀k,k<(Ax ln num nds col nds.length).length->f k=decide ((Ax ln num nds col nds.length).getD k 0=1))(X:(Ax ln num nds col nds.length).length<=LB):
  ∃st,Qf f LB nds col.length (List.replicate 256 0)=some st/\st.len=(Ax ln num nds col nds.length).length/\Jw st.nds nds/\Rep ln num f st.nds col/\ ∀v:UInt8,st.ws.getD v.toNat 0=col.count v:=by
 obtain⟨st,h1,h2⟩:=iR (ws:=List.replicate 256 0) h hk O D C hf X nds.length (zK _);have hi:=Ov h hn rfl (zK _) h1;have i:=h2.like;have sizes: ∀n,n<nds.length->(Ab st.nds n).siz=(Aq ln num nds col n).length:=fun n B=>by
  refine h2.siz n B ?_
  by_cases e:n=0
  ·exact .inl e
  ·obtain⟨j,u,G,H,q3⟩:=h.par n (by omega) B;exact .inr ⟨j,u,by omega,G,q3⟩
 have A:=h.like i;have rep:Rep ln num f st.nds col:=by
  refine⟨fun n B=>?_,fun n B=>hi.frm n (by rw[i.1]at B;exact B),fun n p B Z=>?_⟩
  ·rw[i.1]at B;rw[Zp i,sizes n B]
  ·rw[i.1]at B;rw[sizes n B]at Z;obtain⟨G,H⟩:=Xn ln num nds col B Z;rw[hi.frm n B,h2.st n (by omega),hf _ H,G,Zp i,(i.2 n).1]
 refine⟨st,h1,h2.len,i,rep,fun v=>?_⟩;have V:Mc f col.length st.nds.length st:=by rw[i.1];exact hi
 obtain⟨d,c1,T,c3,c4⟩:=Y1 V rfl A hk C D;have same: ∀m n,nds.length-n<=m->n<nds.length->Aq ln num st.nds col n=Aq ln num st.nds d n:=by
  intro m;induction m with
  |zero=>intro n h3 h4;omega
  |succ m ih=>
   intro n h3 h4;have s:n<st.nds.length:=by rw[i.1];exact h4
   have lens:(Aq ln num st.nds col n).length=(Aq ln num st.nds d n).length:=by rw[<-rep.siz n s,<-c3.siz n s]
   have sub: ∀(c:Aeg) (_: ∀b∈c,b∈o) u,u<2->(∀F,0<F->(Ab st.nds n).br u={node:=F}->(Aq ln num st.nds c n).filter (fun b=>As ln num (Ab st.nds n).depth b==u)=Aq ln num st.nds c F)/\(∀v,(Ab st.nds n).br u={whole:=true,val:=v}-> ∀b∈(Aq ln num st.nds c n).filter (fun b=>As ln num (Ab st.nds n).depth b==u),b=v):=by
    intro c z u E;refine⟨fun F Y e=>(A.col_child hk z s E Y e).symm,fun v e b hb=>?_⟩;obtain⟨G,H⟩:=List.mem_filter.1 hb;obtain⟨q3,q4⟩:=List.mem_filter.1 G;have q5:As ln num (Ab st.nds n).depth b=u:=by simpa using H
    cases A.good n u s E with
    |leaf kk Q w K e3=>
     rw[w]at e;have ev:o.getD kk 0=v:=by injection e
     rw[<-ev];exact Ju hk (z b q3) q4 Q K (by rw[q5];exact e3)
    |node _ w=>rw[w]at e;cases e
    |none w=>rw[w]at e;cases e
   apply Aa1 lens;intro p h5 h6;have Z:p<(Ab st.nds n).siz:=by rw[rep.siz n s];exact h5
   have bits:(Aq ln num st.nds col n).map (fun b=>As ln num (Ab st.nds n).depth b)=(Aq ln num st.nds d n).map (fun b=>As ln num (Ab st.nds n).depth b):=by
    apply Aa1
    ·rw[Aai,Aai,lens]
    ·intro q W h8;rw[Aai]at W h8;have hq:q<(Ab st.nds n).siz:=by rw[rep.siz n s];exact W
     have w:=rep.bit n q s hq;have K:=c3.bit n q s hq;rw[w,decide_eq_decide,zG,zH W,zG,zH h8]at K;rw[Abu,Abu];have b1:=Fq ln num (Ab st.nds n).depth (Aq ln num st.nds col n)[q];have b2:=Fq ln num (Ab st.nds n).depth (Aq ln num st.nds d n)[q];have e3:As ln num (Ab st.nds n).depth (Aq ln num st.nds col n)[q]=1↔As ln num (Ab st.nds n).depth (Aq ln num st.nds d n)[q]=1:=K;omega
   have S: ∀(a b:Aeg) (g:UInt8->Nat),a.map g=b.map g->(∀u,a.filter (fun x=>g x==u)=b.filter (fun x=>g x==u))->a=b:=by
    intro a;induction a with
    |nil=>intro b g e _;cases b with
     |nil=>rfl
     |cons y t=>simp at e
    |cons x r ihr=>
     intro b g e P;cases b with
     |nil=>simp at e
     |cons y t=>
      rw[Abg,Abg]at e;injection e with w K;have h0:=P (g x);rw[Abq,Abq,w,if_pos (Acr _),if_pos (Acr _)]at h0;injection h0 with U _;subst U;congr 1;refine ihr t g K fun u=>?_;have h1:=P u;rw[Abq,Abq]at h1;split at h1
      ·injection h1
      ·exact h1
   have fl: ∀u,(Aq ln num st.nds col n).filter (fun b=>As ln num (Ab st.nds n).depth b==u)=(Aq ln num st.nds d n).filter (fun b=>As ln num (Ab st.nds n).depth b==u):=by
    intro u
    by_cases E:u<2
    ·have ab:((Aq ln num st.nds col n).filter (fun b=>As ln num (Ab st.nds n).depth b==u)).length=((Aq ln num st.nds d n).filter (fun b=>As ln num (Ab st.nds n).depth b==u)).length:=by
      have cp: ∀l:Aeg,(l.filter (fun b=>As ln num (Ab st.nds n).depth b==u)).length=(l.map (fun b=>As ln num (Ab st.nds n).depth b)).countP (· ==u):=fun l=>by
       rw[List.countP_map,Acf];rfl
      rw[cp,cp,bits]
     cases hg:A.good n u s E with
     |leaf kk Q w=>
      have r1:=(sub col O u E).2 _ w;have r2:=(sub d T u E).2 _ w;rw[List.eq_replicate_of_mem r1,List.eq_replicate_of_mem r2,ab]
     |node F w G H=>
      rw[(sub col O u E).1 F (by omega) w,(sub d T u E).1 F (by omega) w];rw[i.1]at H;exact ih F (by omega) H
     |none w G=>
      have L: ∀(c:Aeg) (_: ∀b∈c,b∈o),(Aq ln num st.nds c n).filter (fun b=>As ln num (Ab st.nds n).depth b==u)=[]:=by
       intro c z;rw[List.filter_eq_nil_iff];intro b hb hx;have N:=List.mem_filter.1 hb;have R:As ln num (Ab st.nds n).depth b=u:=by simpa using hx
       refine Jv hk (z b N.1) N.2 ?_;rw[R];exact G
      rw[L col O,L d T]
    ·have L: ∀l:Aeg,l.filter (fun b=>As ln num (Ab st.nds n).depth b==u)=[]:=fun l=>by
      rw[List.filter_eq_nil_iff];intro b _ hx;have R:As ln num (Ab st.nds n).depth b=u:=by simpa using hx
      have:=Fq ln num (Ab st.nds n).depth b;omega
     rw[L,L]
   have:=S _ _ _ bits fl;simp only[this]
 have root: ∀c:Aeg,(∀b∈c,b∈o)->Aq ln num st.nds c 0=c:=fun c z=>by
  unfold Aq;refine List.filter_eq_self.2 fun b hb=>zJ ⟨by rw[A.root.1];exact D b (z b hb),?_⟩;rw[A.root.1,A.root.2,Adj];exact Nat.div_eq_of_lt (C b (z b hb))
 have e:=same nds.length 0 (by omega) h.more;rw[root col O,root d T]at e;rw[c4 v,e]
end
end Hm
section
open Go.RowKit
structure Aa(S:Nat->Prop)(w w':World):Prop where
 os:w'.os=w.os
 tape:w'.tape=w.tape
 output:w'.output=w.output
 size:w.heap.size<=w'.heap.size
 block: ∀k,k<w.heap.size-> ¬S k->w'.heap[k]?=w.heap[k]?
abbrev Aee:=Aa fun _=>False
theorem Aa.refl(S:Nat->Prop)(w:World):Aa S w w:=⟨rfl,rfl,rfl,zK _,fun _ _ _=>rfl⟩
theorem Aa.trans(h:Aa S a b)(k:Aa T b c)(e: ∀j,j<a.heap.size->T j->S j):Aa S a c:=
 ⟨k.os.trans h.os,k.tape.trans h.tape,k.output.trans h.output,Aaf h.size k.size,fun j d hn=>(k.block j (Aa9 d h.size) (fun x=>hn (e j d x))).trans (h.block j d hn)⟩
theorem Aa.tr(h:Aa S a b)(k:Aa S b c):Aa S a c:=h.trans k fun _ _ h=>h
theorem Aa.wider(h:Aa S a b)(d: ∀j,j<a.heap.size->S j->T j):Aa T a b:=
 ⟨h.os,h.tape,h.output,h.size,fun j c hn=>h.block j c (fun x=>hn (d j c x))⟩
theorem Aa.drew(h:Aa S a b):Aa S a b.drew:=⟨h.os,h.tape,h.output,h.size,h.block⟩
theorem Aa.drewN(h:Aa S a b)(n:Nat):Aa S a (b.drewN n):=⟨h.os,h.tape,h.output,h.size,h.block⟩
theorem Aa.alloc(h:Aa S a b)(o:Obj):Aa S a (b.alloc o):=
 ⟨h.os,h.tape,h.output,by have:=h.size;simp;omega,fun j c hn=>(Below.heap_alloc b o j (by have:=h.size;omega)).trans (h.block j c hn)⟩
theorem Aa.setCell(h:Aa S a b){p:Addr}(c:a.heap.size<=p.block\/S p.block)(u:Value):Aa S a (b.setCell p u):=by
 have hb:=(Below.refl 0 b).setCell (p:=p) (zZ _) u;refine⟨hb.os.trans h.os,hb.tape.trans h.tape,hb.output.trans h.output,Aaf h.size hb.size,fun j e hn=>?_⟩;have d:j≠p.block:=by
  rintro rfl;rcases c with c|c
  ·omega
  ·exact hn c
 exact(Acg b p u j d).trans (h.block j e hn)
theorem Aa.grown{row:Option Nat}(h:Aa S a b)(d:b.grownBy c row)(g: ∀k,row=some k->a.heap.size<=k\/S k):Aa S a c:=
 ⟨d.os.trans h.os,d.tape.trans h.tape,d.output.trans h.output,Aaf h.size d.size,fun j f hn=>(d.block j (Aa9 f h.size) (fun e=>by
  rcases g j e.symm with x|x
  ·omega
  ·exact hn x)).trans (h.block j f hn)⟩
theorem Aa.ofBelow(h:Below B a b)(c: ∀j,j<a.heap.size->B<=j->S j):Aa S a b:=
 ⟨h.os,h.tape,h.output,h.size,fun j d hn=>h.block j (by
  rcases Abf j B with x|x
  ·exact x
  ·exact absurd (c j d x) hn)⟩
theorem Aa.below(h:Aa S a b)(e:B<=a.heap.size)(c: ∀j,j<B-> ¬S j):Below B a b:=
 ⟨h.os,h.tape,h.output,h.size,fun j d=>h.block j (by omega) (c j d)⟩
theorem Aa.cell(h:Aa S a b){p:Addr}(c:p.block<a.heap.size)(hn: ¬S p.block):b.cell? p=a.cell? p:=World.cell?_of_block (h.block _ c hn)
theorem Aa.frozen(h:Aa S a b){p:Addr}(c:p.block<a.heap.size)(hn: ¬S p.block):b.frozen? p=a.frozen? p:=World.frozen?_of_block (h.block _ c hn)
theorem Aa.row(h:Aa S a b){g:Nat}{o:Obj}(c:a.heap[g]?=some o)(hn: ¬S g):b.heap[g]?=some o:=(h.block g (Aac c) hn).trans c
theorem Aa.owns(h:Aa S a b){base:Nat}{e:TypeId}{size:Nat}{v:Value}{n:Nat}{xs:Aei}(m:a.ownsRow base e size v n xs)(hn: ∀k,v.ownBlock=some k-> ¬S k):b.ownsRow base e size v n xs:=by
 obtain⟨l,c⟩:=m;refine⟨l,?_⟩;rcases c with c|⟨g,cap,cur,rfl,h1,h2,d,f,i,j⟩
 ·exact .inl c
 ·exact .inr ⟨g,cap,cur,rfl,h1,h.row h2 (hn g rfl),d,f,i,j⟩
def Ck(w:World)(v v':Value):Prop:= ∀k,v'.ownBlock=some k->v.ownBlock=some k\/w.heap.size<=k
theorem Ck.refl(w:World)(v:Value):Ck w v v:=fun _ h=> .inl h
theorem Ck.trans{d:World}{a b c:Value}(h:Ck w a b)(k:Ck d b c)(hs:w.heap.size<=d.heap.size):Ck w a c:=fun j e=>by
 rcases k j e with x|x
 ·exact h j x
 ·exact .inr (by omega)
theorem S5(a:w'.ownsRow base e size v' n xs)(hb:base=w.heap.size):Ck w v v':=fun k hk=> .inr (by have:=a.lt k hk;omega)
theorem Fs{base':Nat}(c:w.ownsRow base e size v n xs)(hb: ∀k,v.ownBlock=some k->base'<=k):w.ownsRow base' e size v n xs:=by
 obtain⟨b,a⟩:=c;refine⟨b,?_⟩;rcases a with a|⟨g,cap,cur,rfl,h1,h2⟩
 ·exact .inl a
 ·exact .inr ⟨g,cap,cur,rfl,hb g rfl,h2⟩
theorem Hn(a:w.ownsRow base e size v n xs):w.ownsRow 0 e size v n xs:=Fs a fun _ _=>zZ _
variable {P:Program} (w:World)
theorem T5(base:Nat)(t C e:TypeId)(i:TypeInfo)(z:Value)(size bytes:Nat)(ht:P.underlying t=some (.slice e))(hi:P.info? e=some i)(H:i.zero=some z)
  (l:i.size=size) (x:i.bytes=bytes) (B:z.cells.size=size) (A:0<size)
  (v:Value) (n:Nat) (xs:Aei) (d:w.ownsRow base e size v n xs)
  (a:Addr) (m c:Nat) (b:Aei) (E:b.length=m*size) (h: ∀j u,b[j]?=some u->w.cell? (a.add j)=some u) (h1: ∀u∈b,u.oneCell'=true)
  (s:n+m<=maxLen) (o:(n+m)*bytes<=140737488355328) (D:base<=w.heap.size):
  ∃v' w',(Builtin.append_ #[t,t] C #[v,.slice (some a) m c]).run P w= .ok v' w'/\w'.ownsRow base e size v' (n+m) (xs++b)/\w.grownBy w' v.ownBlock/\Ck w v v':=by
 have q:=d.2;rcases q with⟨G,hn⟩|⟨g,cap,cur,G,K,O,N,L,M,F⟩
 ·obtain⟨v',w',y,p,f,_⟩:=run_append_own (P:=P) w w.heap.size t C e i z size bytes ht hi H l x B A v n xs (by rw[G,hn]at d|-;exact Fs d (fun k hk=>by cases hk)) a m c b E h h1 s o (zK _);exact⟨v',w',y,Fs p (fun k hk=>by have:=p.lt k hk;omega),f,S5 p rfl⟩
 ·subst G
  by_cases r:n+m<=cap
  ·obtain⟨w',y,p,f⟩:=run_append_fits (P:=P) w base t C e i size ht hi l g n cap xs d a m c b E h h1 r;exact⟨_,w',y,p,f,fun k hk=> .inl hk⟩
  ·obtain⟨v',w',y,p,f⟩:=run_append_arg_grows (P:=P) w t C e i z size bytes ht hi H l x B A (J g 0) n cap xs d.1 (d.cells (g:=g) rfl) a m c b E h (by omega) s o;exact⟨v',w',y,Fs p (fun k hk=>by have:=p.lt k hk;omega),⟨f.os,f.tape,f.output,f.size,fun k hk _=>f.block k hk (by simp)⟩,S5 p rfl⟩
theorem Ay{ops:Array Oper}{rest:List Oper}{o:Oper}{a:Act}{Q:Exit->Act->World->Prop}(y:o.guard=none)(s x:Operand)(t:TypeId)
  (F:o.op= .call {callee:= .builtin .append,args:= #[s,x],argTypes:= #[t,t]})
  (base:Nat) (e:TypeId) (i:TypeInfo) (z:Value) (size bytes:Nat) (ht:P.underlying t=some (.slice e)) (hi:P.info? e=some i) (L:i.zero=some z)
  (k:i.size=size) (r:i.bytes=bytes) (B:z.cells.size=size) (A:0<size)
  (v:Value) (n:Nat) (xs:Aei) (hs:a.eval s=v) (l:w.ownsRow base e size v n xs)
  (p:Addr) (m c:Nat) (b:Aei) (H:a.eval x= .slice (some p) m c) (E:b.length=m*size) (g: ∀j u,b[j]?=some u->w.cell? (p.add j)=some u) (h1: ∀u∈b,u.oneCell'=true)
  (q:n+m<=maxLen) (d:(n+m)*bytes<=140737488355328) (f:base<=w.heap.size)
  (h: ∀v' w',w'.ownsRow base e size v' (n+m) (xs++b)->w.grownBy w' v.ownBlock->Ck w v v'->wpList P ops Q rest (a.put o.dst v') w'):wpList P ops Q (o::rest) a w:=by
 refine wpList_plain y fun K hK=>?_;obtain⟨v',w',G,h2,C,D⟩:=T5 (P:=P) w base t o.type e i z size bytes ht hi L k r B A v n xs l p m c b E g h1 q d f;unfold Oper.wp execOp;simp only[F,resolve,invoke,builtin,Sem.run_bind,Sem.run_pure,Ac9,List.map_toArray,Abg,Adv,hs,H,G];exact hK _ _ (h v' w' h2 C D)
theorem S6(base:Nat)(t u p e:TypeId)(i:TypeInfo)(ht:P.underlying t=some (.slice e))(x:P.underlying u=some .string)(hi:P.info? e=some i)(D:i.zero=some (.int .u8 0))
  (b:i.size=1) (j:i.bytes=1)
  (v:Value) (n:Nat) (xs:Aei) (a:w.ownsRow base e 1 v n xs) (s:ByteArray)
  (f:n+s.size<=maxLen) (d:n+s.size<=140737488355328) (h:base<=w.heap.size):
  ∃v' w',(Builtin.append_ #[t,u] p #[v,.string s]).run P w= .ok v' w'/\w'.ownsRow base e 1 v' (n+s.size) (xs++Lib.strCells s)/\w.grownBy w' v.ownBlock/\Ck w v v'/\(v'= .slice none 0 0↔v= .slice none 0 0/\s.size=0):=by
 have r:n+s.size<=9223372036854775807:=by simp only[maxLen]at f;omega
 obtain⟨v',w',q,L,z,o⟩:=Lib.run_append_own_string (P:=P) w base t u p e i ht x hi D b j v n xs a s f d h;refine⟨v',w',q,L,z,?_,o⟩;have l:=a.2;rcases l with⟨C,hn⟩|⟨g,cap,cur,C,F,H,K,G,y,B⟩
 ·obtain⟨M,w2,c,A,_,_⟩:=Lib.run_append_own_string (P:=P) w w.heap.size t u p e i ht x hi D b j v n xs (by rw[C,hn]at a|-;exact Fs a (fun k hk=>by cases hk)) s f d (zK _);rw[q]at c;cases c;exact S5 A rfl
 ·subst C;have E:cur.size=cap:=by simpa using y
  by_cases m:n+s.size<=cap
  ·have c:=Lib.run_append_room_string (P:=P) w t u p e i ht x hi b g n cap cur H s m (by omega);rw[q]at c;cases c;exact fun k hk=> .inl hk
  ·have c:=Lib.run_append_grow_string (P:=P) w t u p e i (.int .u8 0) ht x hi D (J g 0) n cap xs (by rw[b];exact a.1) (a.cells (g:=g) rfl) s (by omega) (by omega) (by rw[j];exact growslice_fits (by omega) (by omega));rw[q]at c;cases c;exact fun k hk=> .inr (by simp[Value.ownBlock]at hk;omega)
theorem E3{ops:Array Oper}{rest:List Oper}{o:Oper}{a:Act}{Q:Exit->Act->World->Prop}(k:o.guard=none)(sl x:Operand)(t u:TypeId)
  (q:o.op= .call {callee:= .builtin .append,args:= #[sl,x],argTypes:= #[t,u]})
  (base:Nat) (e:TypeId) (i:TypeInfo) (ht:P.underlying t=some (.slice e)) (y:P.underlying u=some .string) (hi:P.info? e=some i) (A:i.zero=some (.int .u8 0))
  (d:i.size=1) (j:i.bytes=1)
  (v:Value) (n:Nat) (xs:Aei) (hs:a.eval sl=v) (f:w.ownsRow base e 1 v n xs) (s:ByteArray) (z:a.eval x= .string s)
  (g:n+s.size<=maxLen) (b:n+s.size<=140737488355328) (c:base<=w.heap.size)
  (h: ∀v' w',w'.ownsRow base e 1 v' (n+s.size) (xs++Lib.strCells s)->w.grownBy w' v.ownBlock->Ck w v v'->(v'= .slice none 0 0↔v= .slice none 0 0/\s.size=0)->wpList P ops Q rest (a.put o.dst v') w'):wpList P ops Q (o::rest) a w:=by
 refine wpList_plain k fun K hK=>?_;obtain⟨v',w',r,h2,l,m,p⟩:=S6 (P:=P) w base t u o.type e i ht y hi A d j v n xs f s g b c;unfold Oper.wp execOp;simp only[q,resolve,invoke,builtin,Sem.run_bind,Sem.run_pure,Ac9,List.map_toArray,Abg,Adv,hs,z,r];exact hK _ _ (h v' w' h2 l m p)
end
section
open Go.RowKit
theorem Ft:(prog.info? 5).map (fun i=>(i.zero,i.size,i.bytes))=some (some (.int .u8 0),1,1):=by kernel_rfl
namespace Hm
def Ag(l:Aeg):Aei:=l.map fun b=>Value.int .u8 (b.toNat:Int)
def leBytes(x:Nat):Nat->Aeg
 |0=>[]
 |k+1=>leBytes x k++[UInt8.ofNat (x/256^k)]
theorem Cp(x k:Nat):(leBytes x k).length=k:=by
 induction k with
 |zero=>rfl
 |succ k ih=>simp[leBytes,ih]
end Hm
theorem Mn(base:Nat)(v:Value)(n x k:Nat)(l:Aeg)(w:World)(A:w.ownsRow base 5 1 v n (Ag l))(hb:base<=w.heap.size)(C:x<4294967296)(hk:k<=4)(hn:n<=1000000):
  Calls prog 101 #[v,.int .i64 x,.int .i64 k] w fun e w'=> ∃v',e= .returned v'/\w'.ownsRow base 5 1 v' (n+k) (Ag (l++Hm.leBytes x k))/\Aa (fun j=>v.ownBlock=some j) w w'/\Ck w v v':=by
 obtain⟨D,hi,m,p,q⟩:=Aa6 Ft
 go_enter func101,ntmps101
 go_wp2
 go_loopw[0,9] (fun u i wr=> ∃j:Nat,j<=k/\i=I j/\wr.ownsRow base 5 1 u (n+j) (Ag (l++Hm.leBytes x j))/\Aa (fun j=>v.ownBlock=some j) w wr/\Ck w v u) (fun _ i _=>k-(intOf i).toNat)
 case atStart=>exact⟨0,zZ _,rfl,by simpa[Hm.leBytes]using A,Aa.refl _ _,Ck.refl _ _⟩
 case round=>
  obtain⟨j,E,rfl,c,a,b⟩:=hrel
  by_cases z:j<k
  ·obtain⟨y,F,B,s⟩: ∃y:Nat,y<4294967296/\(x:Int)/2^(8*j)=(y:Int)/\Hid (y=x/256^j):=by
    refine⟨x/256^j,Abm (Acd _ _) C,?_,rfl⟩;have t:(256:Nat)^j=2^(8*j):=by rw[Nat.pow_mul]
    rw[t];simp
   go_wp2_with(at_builtin;refine Ay _ rfl (.tmp 12) (.tmp 18) 79 rfl base 5 D (.int .u8 0) 1 1 underlying79 hi m p q rfl (by decide) _ _ _ rfl (c.alloc _) (J wr.heap.size 0) 1 1 [.int .u8 ((y:Int)%256)] rfl rfl ?c1 ?c2 ?c3 ?c4 ?c5 ?_)
   case c1=>exact Ac6 _ _ _
   case c2=>intro u r;simp at r;subst r;rfl
   case c3=>unfold maxLen;omega
   case c4=>omega
   case c5=>have:=a.size;simp;omega
   intro v' G g d f;go_wp2;go_roundw
   case rel=>
    have e:Ag (l++Hm.leBytes x (j+1))=Ag (l++Hm.leBytes x j)++[.int .u8 ((y:Int)%256)]:=by
     simp[Ag,Hm.leBytes,s.o]
    refine⟨j+1,by omega,by go_num,?_,?_,?_⟩
    ·rw[e];exact g
    ·exact(a.alloc _).grown d (fun k hk=>(b k hk).elim (fun h=> .inr h) .inl)
    ·exact b.trans f (by have:=a.size;simp;omega)
   case measure=>simp[intOf];omega
  ·go_wp2;go_ret;obtain rfl:j=k:=by omega
   exact⟨_,rfl,c,a,b⟩
structure Em(w:World)(T pb:Nat)(v:Value)(bits:List Bool):Prop where
 blk:w.heap[pb]?=some (.cells #[v,.int .i64 bits.length] T (0,0))
 own:w.ownsRow 0 5 1 v ((bits.length+7)/8) (Ag (Ah bits))
 ne:v.ownBlock≠some pb
theorem Em.kept{T:Nat}{bits:List Bool}(h:Em w T pb v bits)(hk:Aa S w w')(h1: ¬S pb)(h2: ∀j,v.ownBlock=some j-> ¬S j):Em w' T pb v bits:=
 ⟨hk.row h.blk h1,hk.owns h.own h2,h.ne⟩
abbrev Bk(pb:Nat)(v:Value):Nat->Prop:=fun j=>j=pb\/v.ownBlock=some j
theorem An(h:w.ownsRow base e size v n xs): ∃a c,v= .slice a n c/\n<=c:=by
 rcases h.2 with⟨rfl,rfl⟩|⟨g,cap,cur,rfl,_,_,b,d,_⟩
 ·exact⟨none,0,rfl,zK _⟩
 ·exact⟨_,cap,rfl,b⟩
theorem S7(n:Nat)(w:World)(hn:n<=100000000):Calls prog 166 #[.int .i64 n] w fun e w'=>e= .returned (.int .i64 ((n+7)/8:Nat))/\w'=w:=by
 go_enter func166,ntmps166
 go_wp2;go_ret;exact⟨by first|rfl|go_num,rfl⟩
theorem iS(T pb:Nat)(v:Value)(bits:List Bool)(c:Nat)(w:World)(h:Em w T pb v bits)(hl:bits.length<=10000000)(hc:c<=10000000):
  Calls prog 144 #[.pointer (some ⟨pb,0,none⟩),.int .i64 c] w fun e w'=> ∃v',e= .returned (.tuple #[])/\Em w' T pb v' (bits++List.replicate c false)/\Aa (Bk pb v) w w'/\Ck w v v':=by
 obtain⟨i0,hi,af,ag,ah⟩:=Aa6 Ft;have f:=h.blk;have Z:=cO 0 f;have aa:=cO 1 f;have ac:=zR _ _ 1 _ _ f;have O:=zI w pb 1 #[v,I bits.length] T (I ((bits.length:Int)+c)) f;have HB:Hid ((w.setCell (J pb 1) (I ((bits.length:Int)+c))).heap[pb]?=some (.cells #[v,I ((bits.length:Int)+c)] T (0,0))):=by
  show _=_;simpa using O
 clear f O;have s: ∀W,Calls prog 166 #[I ((bits.length:Int)+(c:Int))] W fun e w'=>e= .returned (I ((bits.length+c+7)/8:Nat))/\w'=W:=fun W=>by
  have:=S7 (bits.length+c) W (by omega);rw[show((bits.length+c:Nat):Int)=(bits.length:Int)+(c:Int)from by omega]at this;exact this
 generalize hK:(bits.length+c+7)/8=K at*
 go_enter func144,ntmps144
 go_wp2
 go_loopg [12] (K-(bits.length+7)/8) (fun k _ wr=> ∃(v':Value) (m:Nat),m+k=K/\(bits.length+7)/8<=m/\wr.heap[pb]?=some (.cells #[v',I ((bits.length:Int)+c)] T (0,0))/\
  wr.ownsRow 0 5 1 v' m (Ag (Ah bits++List.replicate (m-(bits.length+7)/8) 0))/\v'.ownBlock≠some pb/\Aa (Bk pb v) w wr/\Ck w v v')
 case atStart=>exact⟨v,(bits.length+7)/8,by omega,zK _,HB.o,by simpa using ownsRow_setCell_other h.own h.ne _,h.ne,(Aa.refl _ _).setCell (.inr (.inl rfl)) _,Ck.refl _ _⟩
 case round=>
  obtain⟨v',m,V,z,q,g,p,l,n⟩:=hrel;have ab:=cO 0 q;have aq:=cO 1 q;have au:=zR _ _ 0 _ _ q;obtain⟨M,N,G,ap⟩:=An g;have U:=hZ G;rw[G]at ab;have C:=hZ q;have am:m<=3000000:=by omega
  clear G Z aa ac HB h q
  by_cases y:0<gk
  ·have d:wr.ownsRow 0 5 1 (.slice M m N) m (Ag (Ah bits++List.replicate (m-(bits.length+7)/8) 0)):=by rw[<-U.o];exact g
   have A: ∀j,(Value.slice M m N).ownBlock=some j->j<wr.heap.size:=fun j hj=>(d.lt j hj).2;have b:(Value.slice M m N).ownBlock≠some pb:=by rw[<-U.o];exact p
   have a:Ck w v (.slice M m N):=by rw[<-U.o];exact n
   have ad:pb<wr.heap.size:=Aac C.o;have Y:=hZ (aI d (aI A (aI b a)));have Q:decide (m<K)=true:=zJ (by omega);have L:=hZ (aI V (aI z y));clear g n p d A b a V z y;clear hK;go_wp2_with fail;go_quiet(first|(refine Abc (s _)));obtain⟨d,A,b,a⟩:=Y.o;clear A
   go_wp2_with(at_builtin;refine Ay _ rfl (.tmp 27) (.tmp 28) 79 rfl 0 5 i0 (.int .u8 0) 1 1 underlying79 hi af ag ah rfl (by decide) _ _ _ rfl (by exact(d.alloc _)) (J wr.heap.size 0) 1 1 [.int .u8 0] rfl rfl ?c1 ?c2 ?c3 ?c4 ?c5 ?_)
   case c1=>exact Ac6 _ _ _
   case c2=>intro u hu;simp at hu;subst hu;rfl
   case c3=>unfold maxLen;omega
   case c4=>omega
   case c5=>exact zZ _
   intro v2 H F D E;have S:Aa (Bk pb v) w H:=((l.drewN nq).alloc _).grown D (fun k hk=>(a k hk).elim (fun h=> .inr (.inr h)) .inl);have B:Ck w v v2:=a.trans E (by have:=l.size;simp;omega);have i:H.heap[pb]?=some (.cells #[.slice M m N,I ((bits.length:Int)+c)] T (0,0)):=by
    rw[D.block pb (by simp;omega) (fun e=>b e.symm)];show((wr.alloc _).heap[pb]?)=_;rw[Below.heap_alloc _ _ _ ad,C.o,U.o]
   have r:v2.ownBlock≠some pb:=fun e=>by
    rcases E pb e with h|h
    ·exact b h
    ·simp at h;omega
   have ar:=cO 0 i;have al:=zR _ _ 0 _ _ i;have P:=zI H pb 0 _ T v2 i;obtain⟨t,x,ae,ak⟩:=An F;subst ae;have R:Hid (∃(v':Value) (X:Nat),X+(gk-1)=K/\(bits.length+7)/8<=X/\(H.setCell (J pb 0) (.slice t (m+1) x)).heap[pb]?=some (.cells #[v',I ((bits.length:Int)+c)] T (0,0))/\
     (H.setCell (J pb 0) (.slice t (m+1) x)).ownsRow 0 5 1 v' X (Ag (Ah bits++List.replicate (X-(bits.length+7)/8) 0))/\v'.ownBlock≠some pb/\Aa (Bk pb v) w (H.setCell (J pb 0) (.slice t (m+1) x))/\Ck w v v'):=by
    obtain⟨V,z,y⟩:=L.o;refine⟨.slice t (m+1) x,m+1,by omega,by omega,by simpa using P,?_,r,S.setCell (.inr (.inl rfl)) _,B⟩;have e:Ag (Ah bits++List.replicate (m+1-(bits.length+7)/8) 0)=Ag (Ah bits++List.replicate (m-(bits.length+7)/8) 0)++[.int .u8 0]:=by
     rw[show m+1-(bits.length+7)/8=m-(bits.length+7)/8+1 from by omega,Adr,<-Aaj];simp[Ag]
    rw[e];exact ownsRow_setCell_other F r _
   clear F D E S B i P d b a r;go_wp2
   go_roundg (gk-1)
   case measure=>have:=L.o;omega
   case rel=>exact R.o
  ·have L:Hid (m=K/\(bits.length+c+7)/8=K):=⟨by omega,hK⟩;have Q:decide (m<K)=false:=zM (by omega);clear y V z;have Y:=hZ (aI g (aI p (aI l n)));clear g n p l hK;go_wp2_with fail;go_quiet(first|(refine Abc (s _)));go_wp2
   go_end0
   obtain⟨g,p,l,n⟩:=Y.o;refine⟨v',rfl,⟨?_,?_,p⟩,l.drewN _,n⟩
   ·have e:((bits++List.replicate c false).length:Int)=(bits.length:Int)+c:=by simp
    rw[e];exact C.o
   ·rw[T3];have e:(bits++List.replicate c false).length=bits.length+c:=by simp
    rw[e,L.o.2,<-L.o.1];exact g
theorem Co(h:w.ownsRow base e size v n xs)(hn:0<n): ∃g a,v= .slice (some ⟨g,0,none⟩) n a/\n<=a/\g<w.heap.size:=by
 rcases h.2 with⟨rfl,rfl⟩|⟨g,a,cur,rfl,_,d,b,c,_⟩
 ·omega
 ·exact⟨g,a,rfl,b,Aac d⟩
theorem Hm.U2{x:Nat}(h:x<256):Value.int .u8 ((UInt8.ofNat x).toNat:Int)= .int .u8 (x:Int):=by
 rw[Aax];congr 2;omega
theorem oY(T pb:Nat)(v:Value)(bits:List Bool)(k:Nat)(w:World)(h:Em w T pb v bits)(B:bits.length<=20000000)(hk:k<bits.length):
  Calls prog 146 #[.pointer (some ⟨pb,0,none⟩),.int .i64 k] w fun e w'=>e= .returned (.tuple #[])/\Em w' T pb v (bits.set k true)/\Aa (Bk pb v) w w':=by
 have b:=h.own;obtain⟨g,i,A,z,u⟩:=Co b (by omega);subst A;have r:=cO 0 h.blk;have s:w.cell? (J g (k/8))=some (.int .u8 (Gm bits (k/8):Nat)):=by
  rw[b.cellAt (k/8) (by omega)];simp only[Ag,Aah];rw[zH (by rw[A8];omega),Hv];have:=Sw bits (k/8);simp;omega
 have t:w.frozen? (J g (k/8))=false:=b.frozenAt _;have j:=Sw bits (k/8);have HS:=b.stored (k/8) (.int .u8 (Gm bits (k/8)|||2^(k%8):Nat));generalize c:Gm bits (k/8)=y at*;generalize d:(bits.length+7)/8=n at*;have x:(k:Int)/8<(n:Int):=by omega
 have m:Hid (Go.bits .or .u8 (y:Int) ((2:Int)^(k%8)%256)=((y|||2^(k%8):Nat):Int)):=by
  have l:2^(k%8)<256:=Nat.pow_lt_pow_right (a:=2) (by omega) (by omega:k%8<8);have p:((2:Int)^(k%8)%256)=((2^(k%8):Nat):Int):=by
   have:((2^(k%8):Nat):Int)=(2:Int)^(k%8):=by simp
   rw[<-this];exact Int.emod_eq_of_lt (Int.natCast_nonneg _) (Int.ofNat_lt.2 l)
  show _=_;rw[p];exact u8_or_nat _ _ j l
 have f:Hid (Em (w.setCell (J g (k/8)) (.int .u8 (y|||2^(k%8):Nat))) T pb (S0 g n i) (bits.set k true)):=by
  refine⟨?_,?_,h.ne⟩
  ·have hb:=h.blk;rw[Acg _ _ _ _ (fun e=>h.ne (by rw[e];rfl)),hb];simp
  ·rw[Us _ _ hk,c];have e:(bits.set k true).length=bits.length:=by simp
   have q:Ag ((Ah bits).set (k/8) (UInt8.ofNat (y|||2^(k%8))))=(Ag (Ah bits)).set (k/8) (.int .u8 (y|||2^(k%8):Nat)):=by
    have l:2^(k%8)<256:=Nat.pow_lt_pow_right (a:=2) (by omega) (by omega:k%8<8);have C:y|||2^(k%8)<2^8:=Nat.or_lt_two_pow (by omega) (by omega);rw[Ag,Ace];rw[U2 (by omega)];rfl
   rw[e,d,q];exact HS.1
 clear h b HS c d
 go_enter func146,ntmps146
 go_wp2
 go_region
 go_end0
 rw[m.o];refine⟨rfl,?_,((Aa.refl _ _).setCell (.inr (.inr rfl)) _).drew⟩;exact⟨f.o.blk,f.o.own,f.o.ne⟩
theorem iT{w2:World}(h:Aa (Bk pb v) w a)(b:Ck w v v')(h2:Aa (Bk pb v') a w2):Aa (Bk pb v) w w2:=
 h.trans h2 fun j c hb=>by
  rcases hb with hb|hb
  ·exact .inl hb
  ·rcases b j hb with x|x
   ·exact .inr x
   ·omega
theorem yF(T pb:Nat)(v:Value)(bits:List Bool)(w:World)(h:Em w T pb v bits):
  Calls prog 143 #[.pointer (some ⟨pb,0,none⟩)] w fun e w'=>e= .returned (.int .i64 bits.length)/\w=w':=by
 have a:=cO 1 h.blk;clear h
 go_enter func143,ntmps143
 go_wp2;go_ret;exact⟨rfl,rfl⟩
theorem Wt(T pb:Nat)(v:Value)(bits:List Bool)(x:Nat)(w:World)(h:Em w T pb v bits)(l:bits.length<=9000000)(m:x<=1):
  Calls prog 152 #[.pointer (some ⟨pb,0,none⟩),.int .i64 x] w fun e w'=> ∃v',e= .returned (.tuple #[])/\Em w' T pb v' (bits++[decide (x=1)])/\Aa (Bk pb v) w w'/\Ck w v v':=by
 have d:=iS T pb v bits 1 w h (by omega) (by omega);clear h
 by_cases e:x=1
 ·subst e
  go_enter func152,ntmps152
  go_wp2_with fail;refine d.mono ?_;rintro e j ⟨f,rfl,a,c,b⟩;have hs:=oY T pb f (bits++List.replicate 1 false) bits.length j a (by simp;omega) (by simp);rw[show(bits++List.replicate 1 false).set bits.length true=bits++[true]from vP bits true]at hs;have k:j.cell? (J pb 1)=some (I ((bits.length:Int)+1)):=by
   rw[zP _ _ 1 _ _ _ a.blk];simp
  clear d;go_wp2_with fail;refine hs.mono ?_;rintro e w2 ⟨rfl,g,i⟩;go_wp2
  go_end0
  exact⟨f,rfl,g,iT c b i,b⟩
 ·obtain rfl:x=0:=by omega
  go_enter func152,ntmps152
  go_wp2_with fail;refine d.mono ?_;rintro e j ⟨f,rfl,a,c,b⟩;clear d;go_wp2
  go_end0
  exact⟨f,rfl,a,c,b⟩
namespace Hm
def A7(x k:Nat):List Bool:=(List.range k).map fun i=>decide (x/2^i%2=1)
theorem Dx(x k:Nat):(A7 x k).length=k:=by simp[A7]
theorem Qi(x k:Nat):A7 x (k+1)=A7 x k++[decide (x/2^k%2=1)]:=by simp[A7,List.range_succ]
theorem yG(y:Nat)(a:y<4294967296):Go.bits .and .i64 (y:Int) 1=((y%2:Nat):Int):=by
 show IntKind.i64.wrap ((BitVec.ofInt 64 (y:Int)&&&BitVec.ofInt 64 1).toNat:Int)=_;rw[BitVec.toNat_and,Ad6,BitVec.toNat_ofNat,Aby (by omega:y<2^64),show(BitVec.ofInt 64 1).toNat=1 from rfl,Nat.and_one_is_mod];have:=Nat.mod_lt y (y:=2) (by omega);rw[Aar];omega
end Hm
theorem Zq(T pb:Nat)(v:Value)(bits:List Bool)(x k:Nat)(w:World)(h:Em w T pb v bits)(C:bits.length<=8000000)(t:x<4294967296)(hk:k<=60):
  Calls prog 142 #[.pointer (some ⟨pb,0,none⟩),.int .i64 x,.int .i64 k] w fun e w'=> ∃v',e= .returned (.tuple #[])/\Em w' T pb v' (bits++A7 x k)/\Aa (Bk pb v) w w'/\Ck w v v':=by
 go_enter func142,ntmps142
 go_wp2
 go_loopw[8] (fun i wr=> ∃(j:Nat) (v':Value),j<=k/\i=I j/\Em wr T pb v' (bits++A7 x j)/\Aa (Bk pb v) w wr/\Ck w v v') (fun i _=>k-(intOf i).toNat)
 case atStart=>exact⟨0,v,zZ _,rfl,by simpa[A7]using h,Aa.refl _ _,Ck.refl _ _⟩
 case round=>
  obtain⟨j,v',B,rfl,hb,a,b⟩:=hrel;have g:(bits++A7 x j).length<=9000000:=by simp[Dx];omega
  by_cases r:j<k
  ·obtain⟨y,u,s,p⟩: ∃y:Nat,y<4294967296/\(x:Int)/2^j=(y:Int)/\Hid (y=x/2^j):=by
    refine⟨x/2^j,Abm (Acd _ _) t,?_,rfl⟩;simp
   obtain⟨z,m⟩: ∃z,y%2=z:=⟨_,rfl⟩;have c:=yG y u;rw[m]at c;have q:=hZ m;have n:z<=1:=by omega
   clear h m;go_wp2_with fail;refine(Wt T pb v' _ z wr hb g n).mono ?_;rintro e D ⟨A,rfl,d,f,l⟩;go_wp2;go_roundw
   case rel=>
    refine⟨j+1,A,by omega,by go_num,?_,iT a b f,b.trans l a.size⟩;rw[Qi,<-p.o,q.o,<-Aaj];exact d
   case measure=>simp[intOf];omega
  ·clear h;go_wp2
   go_end0
   obtain rfl:j=k:=by omega
   exact⟨v',rfl,hb,a,b⟩
theorem Ho{l:Aeg}(h:w.ownsRow base 5 1 v n (Ag l)):
  (convert 79 9 v).run prog w= .ok (.string ⟨l.toArray⟩) w:=by
 have c:l.length=n:=by have:=h.1;simpa[Ag]using this
 rcases h.2 with⟨rfl,rfl⟩|⟨g,cap,cur,rfl,_⟩
 ·have:l=[]:=Aaz c;subst this;exact run_convert_bytes_nil w _ _ underlying79 underlying5 0 0 _ underlying9
 ·have d:=run_convert_bytes_arg w _ _ underlying79 underlying5 g 0 n cap (l.map fun b=>(b.toNat:Int)) (by simpa using c) (fun i hi=>by
   have j:=h.cellAt i (by omega);have a:i<l.length:=by omega
   simp only[Aao];rw[j,Ag,Aah,zH a,zG,Aah,zH a];rfl) _ underlying9
  have e:strOfNums (l.map fun b=>(b.toNat:Int))=⟨l.toArray⟩:=by
   unfold strOfNums;rw[List.map_map];have f:((fun n:Int=>UInt8.ofNat n.toNat)∘fun b:UInt8=>(b.toNat:Int))=id:=by funext b;simp
   rw[f,List.map_id]
  rw[e]at d;exact d
theorem bU(T pb:Nat)(v:Value)(bits:List Bool)(w:World)(h:Em w T pb v bits):
  Calls prog 148 #[.pointer (some ⟨pb,0,none⟩)] w fun e w'=>e= .returned (.agg #[.string ⟨(Ah bits).toArray⟩,.int .i64 bits.length])/\Aee w w':=by
 have d:=cO 0 h.blk;have f:=cO 1 h.blk;have c: ∀W,Aee w W->(convert 79 9 v).run prog W= .ok (.string ⟨(Ah bits).toArray⟩) W:=fun W hk=>Ho (hk.owns h.own fun _ _ h=>h);have g:pb<w.heap.size:=Aac h.blk;clear h;generalize(⟨(Ah bits).toArray⟩:ByteArray)=s at*
 go_enter func148,ntmps148
 go_wp2;have a:Aee w (w.alloc (.cells #[.string ⟨#[]⟩,I 0] 83)):=(Aa.refl _ _).alloc _;have b:=zY w (.cells #[.string ⟨#[]⟩,I 0] 83);have l:pb≠w.heap.size:=by omega
 generalize w.alloc (.cells #[.string ⟨#[]⟩,I 0] 83)=W at*;have p0:W.cell? (J pb 0)=some v:=(a.cell (p:=(J pb 0)) g id).trans d;have p1:W.cell? (J pb 1)=some (I bits.length):=(a.cell (p:=(J pb 1)) g id).trans f;have n:=cO 0 b;have q:=cO 1 b;have f2:=zR _ _ 0 _ _ b;have m:=zR _ _ 1 _ _ b;have k:=c W a;have i:=c W.drew a.drew;have j:=hZ (aI a b);clear a b c d f
 go_region
 go_wp2;obtain⟨a,b⟩:=j.o;have h2:=zI _ _ 1 _ _ (I bits.length) (zI _ _ 0 _ _ (.string s) b);refine Aa8 (v:= .agg #[.string s,I bits.length]) (Abj results148 _ _ w.heap.size 83 _ (0,0) _ rfl h2 underlying83 rfl (by kernel_rfl)) rfl ⟨rfl,?_⟩;exact((a.setCell (.inl (zK _)) _).setCell (.inl (zK _)) _).drew
theorem Ls(pb o:Nat)(s:ByteArray)(w:World)(h:w.cell? ⟨pb,o,none⟩=some (.string s)):
  Calls prog 104 #[.pointer (some ⟨pb,o,none⟩)] w fun e w'=>e= .returned (.string s)/\w'=w:=by
 go_enter func104,ntmps104
 go_wp2;go_ret;exact⟨rfl,rfl⟩
theorem Xo(pb o n:Nat)(w:World)(h:w.cell? ⟨pb,o+1,none⟩=some (.int .i64 n)):
  Calls prog 182 #[.pointer (some ⟨pb,o,none⟩)] w fun e w'=>e= .returned (.int .i64 n)/\w'=w:=by
 go_enter func182,ntmps182
 go_wp2;go_ret;exact⟨rfl,rfl⟩
namespace Hm
def D5(m n:Nat):Nat->Nat->Nat
 |0,j=>j
 |f+1,j=>if m*2^(j+1)<=n then D5 m n f (j+1)else j
def Ca(m n:Nat):Nat:=if m=0 then 0 else D5 m n 14 0
def C7(es:Aeh)(l:Nat):List Bool:=es.flatMap fun e=>A7 e l
def Gg(es:Aeh)(l h:Nat)(R:List Bool):Nat->List Bool
 |0=>R
 |k+1=>(Gg es l h R k).set (h+es.getD k 0/2^l+k) true
def Bo(es:Aeh)(n:Nat):List Bool:=
 Gg es (Ca es.length n) (C7 es (Ca es.length n)).length (C7 es (Ca es.length n)++List.replicate (es.length+n/2^Ca es.length n+1) false) es.length
theorem Lt(es:Aeh)(l h:Nat)(R:List Bool)(k:Nat):(Gg es l h R k).length=R.length:=by
 induction k with
 |zero=>rfl
 |succ k ih=>simp[Gg,ih]
theorem Il(es:Aeh)(l:Nat):(C7 es l).length=es.length*l:=by
 induction es with
 |nil=>simp[C7]
 |cons e r ih=>simp only[C7,Aa3,zL,Dx,Aau]at ih|-;rw[ih,Ab4];omega
theorem Xp(es:Aeh)(l k:Nat)(h:k<es.length):C7 (es.take (k+1)) l=C7 (es.take k) l++A7 es[k] l:=by
 rw[zQ h];unfold C7;rw[Abo];congr 1;simp
theorem pS(m n:Nat)(b:1<=m)(hn:n<=6000): ∀f j,j<=12->D5 m n f j<=12:=by
 intro f;induction f with
 |zero=>intro j a;exact a
 |succ f ih=>
  intro j a;unfold D5;split
  ·rename_i h;refine ih (j+1) ?_;rcases Abf j 12 with h1|h1
   ·omega
   ·have:j=12:=by omega
    subst this;have:1*2^13<=m*2^13:=Abs _ b;omega
  ·exact a
theorem Nw(m n:Nat)(hn:n<=6000):Ca m n<=12:=by
 unfold Ca;split
 ·omega
 ·exact pS m n (by omega) hn 14 0 (by omega)
end Hm
theorem iU(m n:Nat)(w:World)(x:m<=1000)(hn:n<=6000):
  Calls prog 141 #[.int .i64 m,.int .i64 n] w fun e w'=>e= .returned (.int .i64 (Ca m n:Nat))/\w=w':=by
 by_cases k:m=0
 ·subst k
  go_enter func141,ntmps141
  go_wp2;go_ret;exact⟨rfl,rfl⟩
 have d:Hid (Ca m n=D5 m n (14-0) 0):=by unfold Ca;rw[if_neg k];rfl
 generalize Ca m n=L at d|-;have h1:1<=m:=by omega
 have t:((m:Int)==0)=false:=by simp;omega
 go_enter func141,ntmps141
 go_wp2
 go_loop [5] (fun i=> ∃j:Nat,j<=12/\i=I j/\m*2^j<=6000+m/\L=D5 m n (14-j) j) (fun i=>14-(intOf i).toNat)
 case atStart=>exact⟨0,by omega,rfl,by omega,d.o⟩
 case round=>
  clear d;obtain⟨j,v,rfl,q,l⟩:=hrel;have g:Hid (L=if m*2^(j+1)<=n then D5 m n (13-j) (j+1)else j):=by
   show _=_;rw[l,show 14-j=(13-j)+1 from by omega];rfl
  have s:m*2^(j+1)=m*2^j*2:=by rw[Abl,Adt]
  obtain⟨p,u,c⟩: ∃p:Nat,(m:Int)*2^(j+1)=(p:Int)/\Hid (p=m*2^(j+1)):=⟨m*2^(j+1),by simp,rfl⟩;have hpb:p<=14000:=by have:=c.o;omega
  have a:p<=n->j<12:=by
   intro b;rcases Abf j 12 with h|h
   ·exact h
   ·have:j=12:=by omega
    subst this;have f:=c.o;have:1*2^13<=m*2^13:=Abs _ h1;omega
  have r:=hZ (aI a q);clear l q s a
  by_cases b:p<=n
  ·go_wp2
   go_round
   case rel=>
    have f:=c.o;refine⟨j+1,by have:=r.o.1 b;omega,by go_num,by rw[<-f];omega,?_⟩;rw[g.o,iP];congr 1;omega
   case measure=>simp[intOf];omega
  ·go_wp2;go_ret;have f:=c.o;refine⟨?_,rfl⟩;have:L=j:=by rw[g.o,iN]
   rw[this];rfl
def Na(w:World)(a:Aej)(es:Aeh):Prop:=
 ∀i,(h:i<es.length)-> ∃b o,a=some (J b o)/\b<w.heap.size/\w.cell? (J b (o+i))=some (I (es[i]:Nat))
theorem Na.kept{c:Aej}{es:Aeh}(h:Na w c es)(hk:Aa S w w')(hn: ∀a,c=some a-> ¬S a.block):Na w' c es:=by
 intro i hi;obtain⟨b,o,e,hb,h1⟩:=h i hi;have hs:=hn _ e;exact⟨b,o,e,by have:=hk.size;omega,(hk.cell (p:=(J b (o+i))) hb hs).trans h1⟩
theorem iV(w:World)(T:Nat)(o:Obj):Em ((w.alloc o).alloc (.cells #[.slice none 0 0,.int .i64 0] T)) T (w.heap.size+1) (.slice none 0 0) []:=
 ⟨Ab3 w _ _,Aco _ _ _ _,by simp[Value.ownBlock]⟩
theorem Jy:(prog.info? 3).map (fun i=>(i.zero,i.size,i.bytes))=some (some (.int .i64 0),1,8):=by kernel_rfl
def Ad(l:Aeh):Aei:=l.map fun x=>Value.int .i64 (x:Nat)
def IntRow(w:World)(g:Nat)(l:Aeh):Prop:=w.heap[g]?=some (.cells (Ad l).toArray 3 (0,0))
theorem IntRow.cell(h:IntRow w g l){i:Nat}(hi:i<l.length):w.cell? ⟨g,i,none⟩=some (.int .i64 (l[i]:Nat)):=by
 rw[zP _ _ i _ _ _ h];simp[Ad,hi]
theorem IntRow.free(h:IntRow w g l)(i:Nat):w.frozen? ⟨g,i,none⟩=false:=zR _ _ i _ _ h
theorem IntRow.set(h:IntRow w g l)(i x:Nat):IntRow (w.setCell ⟨g,i,none⟩ (.int .i64 (x:Nat))) g (l.set i x):=by
 have h2:=zI w g i _ _ (.int .i64 (x:Nat)) h;unfold IntRow;rw[h2];congr 2;apply Abr;simp[Ad,List.map_set]
theorem IntRow.lt(h:IntRow w g l):g<w.heap.size:=Aac h
theorem IntRow.at(h:IntRow w g l):Na w (some ⟨g,0,none⟩) l:=fun i hi=>⟨g,0,rfl,h.lt,by rw[Aao];exact h.cell hi⟩
theorem IntRow.kept(h:IntRow w g l)(hk:Aa S w w')(hn: ¬S g):IntRow w' g l:=hk.row h hn
theorem IntRow.made(h:w'.ownsRow base 3 1 (.slice (some ⟨g,0,none⟩) n n) n (madeCells (Value.int .i64 0).cells (n*1)).toList):IntRow w' g (List.replicate n 0):=by
 rcases h.2 with⟨h1,_⟩|⟨g2,cap,cur,h1,_,a,_,_,hs,ht⟩
 ·cases h1
 ·cases h1;unfold IntRow;rw[a];congr 2;apply Abr;have e:cur.toList.take (n*1)=cur.toList:=Aap (by simp;omega);rw[<-e,ht,Acw,show(Value.int .i64 0).cells= #[Value.int .i64 0]from rfl,Ac4];simp[Ad]
namespace Hm
def Nb(s:Aeg):Aeh:=(s.map fun b=>b.toNat+1)++[0]
def Ht(s:Aeg)(k:Nat):Aeh:=((s.take k).map fun b=>b.toNat+1)++List.replicate (s.length+1-k) 0
theorem bV(s:Aeg)(k:Nat)(h:k<=s.length):(Ht s k).length=s.length+1:=by simp[Ht];omega
theorem iW(s:Aeg)(k:Nat)(h:k<s.length):Ht s (k+1)=(Ht s k).set k (s[k].toNat+1):=by
 have a:((s.take k).map fun b=>b.toNat+1).length=k:=by simp;omega
 rw[Ht,Ht,Aba _ _ (by omega),a,Abd,zQ h,Abt,Aaj];congr 1;rw[show s.length+1-k=(s.length+1-(k+1))+1 from by omega,Abx];rfl
theorem mF(s:Aeg):Ht s s.length=Nb s:=by simp[Ht,Nb]
end Hm
theorem bW(s:ByteArray)(w:World)(hs:s.size<=6000):
  Calls prog 132 #[.string s] w fun e w'=>e= .returned (.slice (some ⟨w.heap.size,0,none⟩) (s.size+1) (s.size+1))/\IntRow w' w.heap.size (Nb s.data.toList)/\Aee w w':=by
 obtain⟨u,hi,l,m,n⟩:=Aa6 Jy;have h:s.data.toList.length=s.size:=by simp
 go_enter func132,ntmps132
 go_wp2_with(at_make;refine Abv _ rfl (.tmp 7) (.tmp 7) 64 rfl w.heap.size 3 u (I 0) 1 underlying64 hi l m .i64 .i64 _ _ (s.size+1) rfl rfl (by omega) (by omega) (by rw[n];omega) (by unfold maxLen;omega) (zK _) ?_;intro p f b)
 have g:IntRow p w.heap.size (Ht s.data.toList 0):=by
  have:=IntRow.made f;simpa[Ht]using this
 have c:Aee w p:=(Aa.refl _ _).grown b (fun k hk=>by cases hk);clear f b
 go_loopw[11] (fun i wr=> ∃k:Nat,k<=s.size/\i=I k/\IntRow wr w.heap.size (Ht s.data.toList k)/\Aee w wr) (fun i _=>s.size-(intOf i).toNat)
 case atStart=>exact⟨0,zZ _,rfl,g,c⟩
 case round=>
  clear g c;obtain⟨k,hk,rfl,a,d⟩:=hrel
  by_cases t:k<s.size
  ·have j:=bV s.data.toList k (by omega);have r:=a.cell (i:=k) (by omega);have v:=a.free k;have HS:Hid (IntRow (wr.setCell (J w.heap.size k) (I ((s[k].toNat+1:Nat):Int))) w.heap.size (Ht s.data.toList (k+1))):=by
    show IntRow _ _ _;rw[iW _ _ (by omega)];exact a.set k _
   rw[show((s[k].toNat+1:Nat):Int)=(s[k].toNat:Int)+1 from by omega]at HS;have q:=s[k].toNat_lt;generalize(Ht s.data.toList k)[k]'(by omega)=old at r;clear a j h;go_wp2;go_roundw
   case rel=>exact⟨k+1,by omega,by go_num,HS.o,d.setCell (.inl (zK _)) _⟩
   case measure=>simp[intOf];omega
  ·go_wp2;go_ret;obtain rfl:k=s.size:=by omega
   refine⟨rfl,?_,d⟩;rw[<-h,mF]at a;exact a
namespace Hm
theorem tD: ∃f:UInt8->Nat,∀b,f b=Lib.onesCount b.toNat:=⟨fun b=>Lib.onesCount b.toNat,fun _=>rfl⟩
noncomputable def on8:UInt8->Nat:=Classical.choose tD
theorem Zr(b:UInt8):on8 b=Lib.onesCount b.toNat:=Classical.choose_spec tD b
theorem iX(b:UInt8):on8 b<=8:=by rw[Zr];exact Lib.onesCount_le8 ⟨b.toNat,b.toNat_lt⟩
noncomputable def Eg(s:Aeg):Nat->Nat
 |0=>0
 |k+1=>Eg s k+on8 (s.getD k 0)
noncomputable def B8(s:Aeg):Aeh:=(List.range (s.length+1)).map (Eg s)
noncomputable def E6(s:Aeg)(k:Nat):Aeh:=(List.range (s.length+1)).map fun i=>if i<=k then Eg s i else 0
theorem T6(s:Aeg):(B8 s).length=s.length+1:=by simp[B8]
theorem Zs(s:Aeg)(k:Nat):(E6 s k).length=s.length+1:=by simp[E6]
theorem iY(s:Aeg):E6 s s.length=B8 s:=by
 unfold E6 B8;refine Acy fun i hi=>?_;have:i<s.length+1:=by simpa using hi
 rw[iP]
theorem fU(s:Aeg):E6 s 0=List.replicate (s.length+1) 0:=by
 unfold E6;apply Aa1
 ·simp
 ·intro i h1 h2;simp only[Abu,Adp,List.getElem_replicate]
  by_cases h:i<=0
  ·obtain rfl:i=0:=by omega
   rfl
  ·rw[if_neg h]
theorem fV(s:Aeg)(k:Nat)(_h:k<s.length):(E6 s k).set (k+1) (Eg s (k+1))=E6 s (k+1):=by
 apply Aa1
 ·simp[E6]
 ·intro i h1 h2;rw[Ac5];simp only[E6,Abu,Adp]
  by_cases e:k+1=i
  ·subst e;simp
  ·rw[if_neg e]
   by_cases a:i<=k
   ·rw[if_pos a,iP]
   ·rw[if_neg a,iN]
theorem iZ(s:Aeg)(k i:Nat)(h:i<(E6 s k).length)(hi:i<=k):(E6 s k)[i]=Eg s i:=by
 simp only[E6,Abu,Adp];rw[if_pos hi]
theorem dX(s:Aeg)(k:Nat):Eg s k<=8*k:=by
 induction k with
 |zero=>exact zK _
 |succ k ih=>
  rw[Eg];have:=iX (s.getD k 0);omega
end Hm
def Bc:Prop:= ∀(b:UInt8) (W:World),Calls prog 172 #[.int .u8 b.toNat] W fun e w'=>e= .returned (.int .i64 (on8 b:Nat))/\w'=W
theorem Nc(w:World)(b:Nat)(x y z:Value):Aa (fun j=>j=b) w (((w.setCell ⟨b,0,none⟩ x).setCell ⟨b,1,none⟩ y).setCell ⟨b,2,none⟩ z):=
 ((((Aa.refl (fun j=>j=b) w).setCell (p:=(J b 0)) (.inr rfl) x).setCell (p:=(J b 1)) (.inr rfl) y).setCell (p:=(J b 2)) (.inr rfl) z)
theorem Ld(hones:Bc)(s:ByteArray)(L:Nat)(w:World)(hs:s.size<=1000000):
  Calls prog 147 #[.agg #[.string s,.int .i64 L]] w fun e w'=> ∃g,w.heap.size<=g/\e= .returned (.agg #[.string s,.int .i64 L,.slice (some ⟨g,0,none⟩) (s.size+1) (s.size+1)])/\IntRow w' g (B8 s.data.toList)/\Aee w w':=by
 obtain⟨i0,hi,M,N,O⟩:=Aa6 Jy;have f:Aside (s.data.toList.length=s.size):=by show _=_;simp
 have HO:Aside _:=hones;clear hones
 go_enter func147,ntmps147
 go_upto_region 1 with fail
 have b:((w.alloc (.cells #[.string s,I L] 83)).alloc (.cells #[.string ⟨#[]⟩,I 0,.slice none 0 0] 85)).heap[w.heap.size]?=some (.cells #[.string s,I L] 83 (0,0)):=Ab2 w _ _;have c:((w.alloc (.cells #[.string s,I L] 83)).alloc (.cells #[.string ⟨#[]⟩,I 0,.slice none 0 0] 85)).heap[w.heap.size+1]?=some (.cells #[.string ⟨#[]⟩,I 0,.slice none 0 0] 85 (0,0)):=Ab3 w _ _;have h:Aee w ((w.alloc (.cells #[.string s,I L] 83)).alloc (.cells #[.string ⟨#[]⟩,I 0,.slice none 0 0] 85)):=((Aa.refl _ _).alloc _).alloc _;have n:((w.alloc (.cells #[.string s,I L] 83)).alloc (.cells #[.string ⟨#[]⟩,I 0,.slice none 0 0] 85)).heap.size=w.heap.size+2:=by simp
 generalize((w.alloc (.cells #[.string s,I L] 83)).alloc (.cells #[.string ⟨#[]⟩,I 0,.slice none 0 0] 85))=W at*;have p0:=cO 0 b;have x:=aZ (aI b (aI c (aI h n)));clear b c h n;go_upto_region 2 with(at_make;refine Abv _ rfl (.tmp 8) (.tmp 8) 64 rfl W.heap.size 3 i0 (I 0) 1 underlying64 hi M N .i64 .i64 _ _ (s.size+1) rfl rfl (by omega) (by omega) (by rw[O];omega) (by unfold maxLen;omega) (zK _) ?_;intro Y C A)
 have D:=IntRow.made C;have t:Aee W Y:=(Aa.refl _ _).grown A (fun k hk=>by cases hk);have X:Y.cell? (J w.heap.size 0)=some (.string s):=(t.cell (p:=(J w.heap.size 0)) (by have:=x.o.2.2.2;show w.heap.size<_;omega) id).trans p0;have G:=aZ (aI D t);clear C A D t p0;go_wp2
 go_loopw[13] (fun i wr=> ∃k:Nat,k<=s.size/\i=I k/\IntRow wr W.heap.size (E6 s.data.toList k)/\Aee W wr) (fun i _=>s.size-(intOf i).toNat)
 case atStart=>exact⟨0,zZ _,rfl,by rw[fU,f.o];exact G.o.1,G.o.2⟩
 case round=>
  clear X G;obtain⟨k,hk,rfl,l,d⟩:=hrel;have K:w.heap.size<W.heap.size:=by have:=x.o.2.2.2;omega
  have X:wr.cell? (J w.heap.size 0)=some (.string s):=(d.cell (p:=(J w.heap.size 0)) K id).trans (zP _ _ 0 _ _ _ x.o.1)
  by_cases u:k<s.size
  ·have U:=Zs s.data.toList k;rw[f.o]at U;have Q:=l.cell (i:=k) (by omega);obtain⟨E,c2⟩: ∃E,wr.cell? (J W.heap.size (k+1))=some E:=⟨_,l.cell (i:=k+1) (by omega)⟩;rw[iZ _ _ _ _ (zK _)]at Q;have f2:=l.free (k+1);have m:=dX s.data.toList k;have HS:=l.set (k+1) (Eg s.data.toList (k+1));rw[fV _ _ (by rw[f.o];exact u)]at HS;have T:s.data.toList.getD k 0=s[k]:=by
    rw[zG,zH (by rw[f.o];exact u)];rfl
   obtain⟨z,F⟩:=gx (on8 s[k]);have S:Eg s.data.toList (k+1)=Eg s.data.toList k+z:=by
    rw[Eg,T,F]
   have q:=fun W=>HO.o s[k] W;have h8:z<=8:=by rw[F];exact iX _
   rw[<-F]at q;rw[S]at HS;clear F T;obtain⟨o,V⟩:=gx (Eg s.data.toList k);rw[<-V]at HS Q m;clear V;have P:=hZ HS;have B:w.heap.size≠W.heap.size:=by omega
   have y:=(dT k s.size).2;have ad:(k:Int)<(s.size:Int)+1:=by omega
   have r:(k:Int)+1<(s.size:Int)+1:=by omega
   have af:IntKind.i64.wrap ((k:Int)+1)=(k:Int)+1:=by rw[Aar];omega
   have ag:IntKind.i64.wrap ((o:Int)+(z:Int))=(o:Int)+(z:Int):=by rw[Aar];omega
   have ah:((k:Int)+1).toNat=k+1:=by omega
   have ai:(0:Int)<=(k:Int)+1:=by omega
   clear HS l U S x m h8 hs;have Z:Hid (IntRow (wr.setCell (J W.heap.size (k+1)) (I ((o:Int)+(z:Int)))).drew W.heap.size (E6 s.data.toList (k+1))):=by
    have:=P.o;rw[show((o+z:Nat):Int)=(o:Int)+(z:Int)from by omega]at this;exact this
   clear P;go_wp2_with fail
   go_region_with (first|(go_at_call 172;refine(q _).mono ?_;rintro e w' ⟨rfl,rfl⟩))
   all_goals
    go_wp2;go_roundw
    case rel=>exact⟨k+1,by omega,by go_num,Z.o,(d.setCell (.inl (zK _)) _).drew⟩
    case measure=>simp[intOf];omega
  ·obtain rfl:k=s.size:=by omega
   have y:=(dF s.size s.size).2;have R:E6 s.data.toList s.size=B8 s.data.toList:=by rw[<-iY,f.o]
   rw[R]at l;obtain⟨b,c,h,n⟩:=x.o;have r:=d.row b id;have a:=d.row c id;have B:w.heap.size+1≠W.heap.size:=by omega
   have ae:=cO 1 r;have p0:=cO 0 a;have p1:=cO 1 a;have p2:=cO 2 a;have f0:=zR _ _ 0 _ _ a;have f1:=zR _ _ 1 _ _ a;have f2:=zR _ _ 2 _ _ a;have HZ:Aside (wr.heap[w.heap.size+1]?=some (.cells #[.string ⟨#[]⟩,I 0,.slice none 0 0] 85 (0,0))/\Aee w wr/\IntRow wr W.heap.size (B8 s.data.toList)/\w.heap.size<=W.heap.size):=⟨a,h.tr d,l,by omega⟩;clear b c h n r a x l d R hk u hs;go_wp2;obtain⟨a,H,l,m⟩:=HZ.o;have h2:=zI _ _ 2 _ _ (S0 W.heap.size (s.size+1) (s.size+1)) (zI _ _ 1 _ _ (I L) (zI _ _ 0 _ _ (.string s) a));refine Aa8 (v:= .agg #[.string s,I L,S0 W.heap.size (s.size+1) (s.size+1)]) (Abj results147 _ _ (w.heap.size+1) 85 _ (0,0) _ rfl h2 underlying85 rfl (by kernel_rfl)) rfl ⟨W.heap.size,m,rfl,?_,?_⟩
   ·exact l.kept (Nc wr (w.heap.size+1) _ _ _) (fun e=>B e.symm)
   ·exact H.trans (Nc wr (w.heap.size+1) _ _ _) (fun j h1 h2=>by omega)
def Fu(b:Br):Aei:=[.bool b.whole,.int .u8 b.val.toNat,.int .i64 b.node]
def Cw(n:Nd):Aei:=[.int .i64 n.depth,.int .i64 n.frm,.int .i64 n.siz,.bool n.b0.whole,.int .u8 n.b0.val.toNat,.int .i64 n.b0.node,.bool n.b1.whole,.int .u8 n.b1.val.toNat,.int .i64 n.b1.node]
def Bj:List Nd->Aei
 |[]=>[]
 |n::r=>Cw n++Bj r
theorem Pc(a b:List Nd):Bj (a++b)=Bj a++Bj b:=by
 induction a with
 |nil=>rfl
 |cons n r ih=>show Cw n++Bj (r++b)=_;rw[ih,<-Aaj];rfl
theorem fW(l:List Nd):(Bj l).length=l.length*9:=by
 induction l with
 |nil=>rfl
 |cons n r ih=>show(Cw n++Bj r).length=_;rw[zL,ih,Aau];show 9+_=_;omega
theorem pT(l:List Nd): ∀v∈Bj l,v.oneCell'=true:=by
 induction l with
 |nil=>intro v a;simp[Bj]at a
 |cons n r ih=>
  intro v a;rcases Ad7.1 a with h|h
  ·simp only[Cw,List.mem_cons,List.not_mem_nil,or_false]at h;rcases h with rfl|rfl|rfl|rfl|rfl|rfl|rfl|rfl|rfl<;>rfl
  ·exact ih v h
theorem dY(l:List Nd)(i:Nat)(h:i<l.length)(n:Nd):l.set i n=l.take i++(n::l.drop (i+1)):=by
 rw[List.set_eq_take_append_cons_drop,if_pos h]
theorem vU(l:List Nd)(i:Nat)(h:i<l.length):l=l.take i++(Ab l i::l.drop (i+1)):=by
 rw[<-dY l i h];unfold Ab;rw[zG,zH h];exact(List.set_getElem_self h).symm
theorem U3(l:List Nd)(i:Nat)(h:i<l.length)(n:Nd):Bj (l.set i n)=Bj (l.take i)++(Cw n++Bj (l.drop (i+1))):=by
 rw[dY l i h,Pc];rfl
theorem Ry(l:List Nd)(i:Nat)(h:i<l.length):Bj l=Bj (l.take i)++(Cw (Ab l i)++Bj (l.drop (i+1))):=by
 conv=>lhs;rw[vU l i h]
 rw[Pc];rfl
theorem oZ(a b c:Aei)(j:Nat)(v:Value)(h:j<b.length):(a++(b++c)).set (a.length+j) v=a++(b.set j v++c):=by
 rw[Aba _ _ (by omega),Acq,List.set_append_left _ _ h]
theorem Jj(l:List Nd)(i:Nat)(h:i<l.length):(Bj (l.take i)).length=i*9:=by
 rw[fW,zS,Ab8 (by omega)]
theorem pU(l:List Nd)(i j:Nat)(h:i<l.length)(a:j<9):(Bj l)[i*9+j]?=(Cw (Ab l i))[j]?:=by
 rw[Ry l i h,z7 (by rw[Jj l i h];omega),Jj l i h,Acq,Aav (by show j<9;exact a)]
theorem Xq(l:List Nd)(i j:Nat)(h:i<l.length)(a:j<9)(v:Value)(n:Nd)(e:Cw n=(Cw (Ab l i)).set j v):(Bj l).set (i*9+j) v=Bj (l.set i n):=by
 rw[U3 l i h n,e,Ry l i h];have:=oZ (Bj (l.take i)) (Cw (Ab l i)) (Bj (l.drop (i+1))) j v (by show j<9;exact a);rw[Jj l i h]at this;exact this
theorem Zt(l:List Nd)(i s:Nat)(h:i<l.length):(Bj l).set (i*9+2) (.int .i64 s)=Bj (Ff l i s):=Xq l i 2 h (by omega) _ _ rfl
theorem pV(l:List Nd)(i s:Nat)(h:i<l.length):(Bj l).set (i*9+1) (.int .i64 s)=Bj (E1 l i s):=Xq l i 1 h (by omega) _ _ rfl
theorem dZ(l:List Nd)(i s:Nat)(h:i<l.length)(hs:s<2)(b:Br):(((Bj l).set (i*9+3+s*3) (.bool b.whole)).set (i*9+3+s*3+1) (.int .u8 b.val.toNat)).set (i*9+3+s*3+2) (.int .i64 b.node)=Bj (Cc l i s b):=by
 unfold Cc;rw[U3 l i h,Ry l i h];have tl:=Jj l i h;have a:=fun(B:Aei) (j:Nat) (v:Value) (c:j<B.length)=>oZ (Bj (l.take i)) B (Bj (l.drop (i+1))) j v c;rw[tl]at a;rcases(show s=0\/s=1 by omega)with rfl|rfl
 ·rw[show i*9+3+0*3=i*9+3 from by omega,show i*9+3+1=i*9+4 from by omega,show i*9+3+2=i*9+5 from by omega,a _ 3 _ (by show 3<9;omega),a _ 4 _ (by show 4<9;omega),a _ 5 _ (by show 5<9;omega)];rfl
 ·rw[show i*9+3+1*3=i*9+6 from by omega,show i*9+6+1=i*9+7 from by omega,show i*9+6+2=i*9+8 from by omega,a _ 6 _ (by show 6<9;omega),a _ 7 _ (by show 7<9;omega),a _ 8 _ (by show 8<9;omega)];rfl
theorem It{a:Nat}{nds:List Nd}(h:w.ownsRow base 195 9 (.slice (some ⟨g,0,none⟩) n a) n (Bj nds))(hn:n=nds.length){i:Nat}(hi:i<nds.length)(j:Nat)(b:j<9):w.cell? ⟨g,i*9+j,none⟩=(Cw (Ab nds i))[j]?:=by
 rw[h.cellAt (i*9+j) (by omega),pU _ _ _ hi b]
theorem pW{a:Nat}{nds:List Nd}(h:w.ownsRow base 195 9 (.slice (some ⟨g,0,none⟩) n a) n (Bj nds))(hn:n=nds.length){i:Nat}(hi:i<nds.length):w.cell? ⟨g,i*9,none⟩=some (.int .i64 ((Ab nds i).depth:Nat)):=It h hn hi 0 (by omega)
theorem Y2{a:Nat}{nds:List Nd}(h:w.ownsRow base 195 9 (.slice (some ⟨g,0,none⟩) n a) n (Bj nds))(hn:n=nds.length){i:Nat}(hi:i<nds.length):w.cell? ⟨g,i*9+1,none⟩=some (.int .i64 ((Ab nds i).frm:Nat)):=It h hn hi 1 (by omega)
theorem Y3{a:Nat}{nds:List Nd}(h:w.ownsRow base 195 9 (.slice (some ⟨g,0,none⟩) n a) n (Bj nds))(hn:n=nds.length){i:Nat}(hi:i<nds.length):w.cell? ⟨g,i*9+2,none⟩=some (.int .i64 ((Ab nds i).siz:Nat)):=It h hn hi 2 (by omega)
theorem tE:(prog.info? 195).map (fun i=>(i.zero,i.size,i.bytes))=some (some (.agg (Cw {}).toArray),9,56):=by kernel_rfl
end
namespace Hm
theorem vV: ∀(b:Fin 256) (r:Fin 9),Lib.onesCount (b.val*2^(8-r.val)%256)=rk (fun j=>decide (b.val/2^j%2=1)) r.val:=by decide+kernel
theorem o3(bs:Aeg)(k r:Nat)(b:r<=8):rk (Al bs) (8*k+r)=rk (Al bs) (8*k)+Lib.onesCount ((bs.getD k 0).toNat*2^(8-r)%256):=by
 rw[Zk,vV ⟨_,(bs.getD k 0).toNat_lt⟩ ⟨r,by omega⟩];congr 1;exact iI fun j a=>yC bs k j (by omega)
theorem Ow(bs:Aeg): ∀k,Eg bs k=rk (Al bs) (8*k)
 |0=>rfl
 |k+1=>by
  rw[Eg,Ow bs k,show 8*(k+1)=8*k+8 from by omega,o3 bs k 8 (zK _),Zr];have:=(bs.getD k 0).toNat_lt;rw[show 8-8=0 from rfl,Nat.pow_zero,Acw,Aby this]
theorem yH(bs:Aeg)(p:Nat):Eg bs (p/8)+Lib.onesCount ((bs.getD (p/8) 0).toNat*2^(8-p%8)%256)=rk (Al bs) p:=by
 have h:=o3 bs (p/8) (p%8) (by omega);rw[show 8*(p/8)+p%8=p from by omega]at h;rw[h,Ow]
end Hm
section
open Go.RowKit
structure Dh(w:World)(pb o:Nat)(s:ByteArray)(len g:Nat):Prop where
 str:w.cell? ⟨pb,o,none⟩=some (.string s)
 len:w.cell? ⟨pb,o+1,none⟩=some (.int .i64 len)
 cnt:w.cell? ⟨pb,o+2,none⟩=some (.slice (some ⟨g,0,none⟩) (s.size+1) (s.size+1))
 row:IntRow w g (B8 s.data.toList)
theorem Dh.kept{o len:Nat}{s:ByteArray}(h:Dh w pb o s len g)(hk:Aa S w w')(h1: ¬S pb)(h2: ¬S g):Dh w' pb o s len g:=
 have a:pb<w.heap.size:=z9 _ _ h.str
 ⟨(hk.cell (p:=(J pb o)) a h1).trans h.str,(hk.cell (p:=(J pb (o+1))) a h1).trans h.len,(hk.cell (p:=(J pb (o+2))) a h1).trans h.cnt,h.row.kept hk h2⟩
theorem Jc(hones:Bc)(pb o g len p:Nat)(s:ByteArray)(w:World)(h:Dh w pb o s len g)(S:p<=8*s.size)(hs:s.size<=100000000):
  Calls prog 126 #[.pointer (some ⟨pb,o,none⟩),.int .i64 p] w fun e w'=>e= .returned (.int .i64 (rk (Al s.data.toList) p:Nat))/\w'=w:=by
 obtain⟨q,A⟩:=gx (p/8);obtain⟨r,C⟩:=gx (p%8);have T:(p:Int)/8=(q:Int):=by omega
 have U:(p:Int)%8=(r:Int):=by omega
 have l:s.data.toList.length=s.size:=by simp
 have v:=T6 s.data.toList;have a:=yH s.data.toList p;have y:=dX s.data.toList q;rw[<-A,<-C]at a;have R:=h.str;have h2:=h.cnt;have O:w.cell? (J g q)=some (I (Eg s.data.toList q:Nat)):=by
  rw[h.row.cell (i:=q) (by omega)];simp[B8]
 have P:(q:Int)<(s.size:Int)+1:=by omega
 have k:Aside _:=a;have n:Aside _:=l;obtain⟨u,L⟩:=gx (Eg s.data.toList q);rw[<-L]at O y k;clear v a L h l
 by_cases j:r=0
 ·have M:Aside (rk (Al s.data.toList) p=u):=by
   show _=_;rw[<-k.o,j];have: ∀x:UInt8,Lib.onesCount (x.toNat*2^(8-0)%256)=0:=fun x=>by
    rw[show x.toNat*2^(8-0)%256=0 from by omega];rfl
   rw[this];rfl
  have D:decide (0<r)=false:=zM (by omega);clear k C j A
  go_enter func126,ntmps126
  go_wp2;go_ret;exact⟨by rw[M.o];rfl,rfl⟩
 ·have B:q<s.size:=by omega
  have D:decide (0<r)=true:=zJ (by omega);obtain⟨t,ht⟩:=gx (8-r);have V:(8:Int)-(r:Int)=(t:Int):=by omega
  have Q:t<=8:=by omega
  have H:s.data.toList.getD q 0=s[q]:=by
   rw[zG,zH (by rw[n.o];exact B)];rfl
  rw[H,<-ht]at k;obtain⟨z,E⟩:=gx (s[q].toNat*2^t%256);have X:(s[q].toNat:Int)*2^t%256=(z:Int):=by rw[E];simp
  have b:z<256:=by omega
  have f:=fun W=>hones (UInt8.ofNat z) W;have F:on8 (UInt8.ofNat z)=Lib.onesCount z:=by rw[Zr,Aax,Aby b]
  have G:(UInt8.ofNat z).toNat=z:=by rw[Aax,Aby b]
  have N:=iX (UInt8.ofNat z);rw[G]at f;obtain⟨c,d⟩:=gx (on8 (UInt8.ofNat z));rw[<-d]at f N;rw[<-E,<-F,<-d]at k;have K:(q:Int)<(s.size:Int):=by omega
  have m:Aside _:=f;clear E d F G H ht C j A
  go_enter func126,ntmps126
  go_wp2_with fail;refine(m.o _).mono ?_;rintro e w' ⟨rfl,rfl⟩;go_wp2;go_ret;exact⟨by rw[<-k.o];go_num,rfl⟩
def Az(w:World)(a:Aej)(fs:Aef):Prop:=
 ∀i,(h:i<fs.length)-> ∃b o,a=some (J b o)/\b<w.heap.size/\w.cell? (J b (o+i*2))=some (.string fs[i].1)/\w.cell? (J b (o+i*2+1))=some (.string fs[i].2)
theorem Az.kept{c:Aej}{fs:Aef}(h:Az w c fs)(hk:Aa S w w')(hn: ∀a,c=some a-> ¬S a.block):Az w' c fs:=by
 intro i hi;obtain⟨b,o,e,hb,h1,h2⟩:=h i hi;have hs:=hn _ e;exact⟨b,o,e,by have:=hk.size;omega,(hk.cell (p:=(J b (o+i*2))) hb hs).trans h1,(hk.cell (p:=(J b (o+i*2+1))) hb hs).trans h2⟩
namespace Hm
def nameBytes(fs:Aef):Aeg:=fs.flatMap fun f=>UInt8.ofNat f.1.size::f.1.data.toList
theorem Sg(fs:Aef)(k:Nat)(h:k<fs.length):nameBytes (fs.take (k+1))=nameBytes (fs.take k)++(UInt8.ofNat fs[k].1.size::fs[k].1.data.toList):=by
 rw[zQ h];unfold nameBytes;rw[Abo];congr 1;simp
theorem Jk(fs:Aef)(h: ∀f∈fs,f.1.size<=32):(nameBytes fs).length<=33*fs.length:=by
 induction fs with
 |nil=>simp[nameBytes]
 |cons f r ih=>
  have h1:=h f (by simp);have h2:=ih (fun x a=>h x (by simp[a]));have b:f.1.data.toList.length=f.1.size:=by simp
  simp only[nameBytes,Aa3,zL,Aau]at h2|-;omega
end Hm
theorem i4(base:Nat)(v:Value)(n c:Nat)(G:Aej)(fs:Aef)(l:Aeg)(w:World)(ho:w.ownsRow base 5 1 v n (Ag l))(hb:base<=w.heap.size)
  (y:Az w G fs) (M: ∀a,G=some a->v.ownBlock≠some a.block) (hm:fs.length<=40) (x: ∀f∈fs,f.1.size<=32) (hn:n<=1000000):
  Calls prog 103 #[v,.slice G fs.length c] w fun e w'=> ∃v',e= .returned v'/\w'.ownsRow base 5 1 v' (n+(Hm.nameBytes fs).length) (Ag (l++Hm.nameBytes fs))/\Aa (fun j=>v.ownBlock=some j) w w'/\Ck w v v':=by
 obtain⟨U,hi,C,D,E⟩:=Aa6 Ft
 go_enter func103,ntmps103
 go_wp2
 go_loopw[0,9] (fun u i wr=> ∃k:Nat,k<=fs.length/\i=I k/\wr.ownsRow base 5 1 u (n+(Hm.nameBytes (fs.take k)).length) (Ag (l++Hm.nameBytes (fs.take k)))/\Aa (fun j=>v.ownBlock=some j) w wr/\Ck w v u) (fun _ i _=>fs.length-(intOf i).toNat)
 case atStart=>exact⟨0,zZ _,rfl,by simpa[Hm.nameBytes]using ho,Aa.refl _ _,Ck.refl _ _⟩
 case round=>
  obtain⟨k,hk,rfl,g,d,p⟩:=hrel;have K:=Jk (fs.take k) (fun f y=>x f (Ads y));have S:(fs.take k).length<=40:=by simp;omega
  generalize q:(Hm.nameBytes (fs.take k)).length=nk at K g
  by_cases z:k<fs.length
  ·obtain⟨b,o,s,Y,aa,ab⟩:=(y.kept d (fun a X=>M a X)) k z;have R:=x fs[k] (z6 _);have Q:=hZ (Sg fs k z);generalize fs[k].1=nm at*;generalize fs[k].2=ct at*;rw[s];have HA:=hZ s;have F:=hZ q;clear s q y
   go_wp2_with(at_builtin;refine Ay _ rfl (.tmp 13) (.tmp 18) 79 rfl base 5 U (.int .u8 0) 1 1 underlying79 hi C D E rfl (by decide) _ _ _ rfl ((g.alloc _).alloc _) (J (wr.heap.size+1) 0) 1 1 [.int .u8 (nm.size:Int)] rfl rfl ?c1 ?c2 ?c3 ?c4 ?c5 ?_)
   case c1=>have h:=Ac6 (wr.alloc (.cells #[.string nm,.string ct] 38)) (.int .u8 (nm.size:Int)) 5;simpa using h
   case c2=>intro u T;simp at T;subst T;rfl
   case c3=>unfold maxLen;omega
   case c4=>omega
   case c5=>have:=d.size;simp;omega
   intro v' P N m A;have B: ∀j,u0.ownBlock=some j->j<wr.heap.size:=fun j hj=>(g.lt j hj).2;have Z:P.cell? (J wr.heap.size 0)=some (.string nm):=
    m.cell (zP _ _ 0 _ _ _ (Ab2 wr _ _)) (fun e=>by have:=B _ e.symm;simp at this)
   have hz:wr.heap.size+2<=P.heap.size:=by have:=m.size;simp at this;omega
   have t:Aa (fun j=>v.ownBlock=some j) w P:=((d.alloc _).alloc _).grown m (fun k hk=>(p k hk).elim (fun h=> .inr h) .inl);have r:Ck w v v':=p.trans A (by have:=d.size;simp;omega);clear m A g d p B
   go_wp2_with(at_builtin;refine E3 _ rfl (.tmp 20) (.tmp 22) 79 9 rfl base 5 U underlying79 underlying9 hi C D E _ _ _ rfl N nm rfl ?c6 ?c7 ?c8 ?_)
   case c6=>unfold maxLen;omega
   case c7=>omega
   case c8=>have:=t.size;omega
   intro v2 w2 O H L _;go_wp2;go_roundw
   case rel=>
    have e:Ag (l++Hm.nameBytes (fs.take (k+1)))=Ag (l++Hm.nameBytes (fs.take k))++[.int .u8 (nm.size:Int)]++Lib.strCells nm:=by
     rw[Q.o];simp[Ag,Lib.strCells];omega
    have V:n+(Hm.nameBytes (fs.take (k+1))).length=n+nk+1+nm.size:=by
     have W:nm.data.toList.length=nm.size:=by simp
     rw[Q.o,zL,F.o,Aau,W];omega
    refine⟨k+1,by omega,by go_num,?_,?_,?_⟩
    ·rw[e,V];simpa using O
    ·exact t.grown H (fun k hk=>(r k hk).elim (fun h=> .inr h) .inl)
    ·exact r.trans L (by have:=t.size;omega)
   case measure=>simp[intOf];omega
  ·clear y;go_wp2;go_ret;obtain rfl:k=fs.length:=by omega
   have e:fs.take fs.length=fs:=Aaw;rw[e]at g q;rw[q];exact⟨_,rfl,g,d,p⟩
end
end Go.Proofs.YtegnkfdbmmndaaaGreat
