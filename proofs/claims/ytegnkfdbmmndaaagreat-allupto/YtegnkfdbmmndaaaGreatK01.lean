import Derived.Test.YtegnkfdbmmndaaaGreatK00

set_option maxHeartbeats 8000000
set_option maxRecDepth 100000
namespace Go.Proofs.YtegnkfdbmmndaaaGreat
open Hm Go.Proofs.Tryz
variable{F M T a c d i j jp k s size t total u:Nat}{ln num:UInt8->Nat}{left o:Aeg}{b:UInt8}{f:Nat->Bool}
namespace Hm
def Ky(f:Nat->Bool):Nat:=(f 0).toNat+2*(f 1).toNat+4*(f 2).toNat+8*(f 3).toNat+16*(f 4).toNat+32*(f 5).toNat+64*(f 6).toNat+128*(f 7).toNat
theorem iF(f:Nat->Bool):Ky f<256:=by
 have h: ∀b:Bool,b.toNat<=1:=fun b=>by cases b<;>decide
 have:=h (f 0);have:=h (f 1);have:=h (f 2);have:=h (f 3);have:=h (f 4);have:=h (f 5);have:=h (f 6);have:=h (f 7);unfold Ky;omega
theorem pN(f:Nat->Bool)(h: ∀j,j<8->f j=false):Ky f=0:=by
 unfold Ky;rw[h 0 (by omega),h 1 (by omega),h 2 (by omega),h 3 (by omega),h 4 (by omega),h 5 (by omega),h 6 (by omega),h 7 (by omega)];rfl
theorem Rx(f g:Nat->Bool)(h: ∀j,j<8->f j=g j):Ky f=Ky g:=by
 unfold Ky;rw[h 0 (by omega),h 1 (by omega),h 2 (by omega),h 3 (by omega),h 4 (by omega),h 5 (by omega),h 6 (by omega),h 7 (by omega)]
def E8(a b c d e f g h:Bool):Nat:=a.toNat+2*b.toNat+4*c.toNat+8*d.toNat+16*e.toNat+32*f.toNat+64*g.toNat+128*h.toNat
theorem or0: ∀a b c d e f g h,E8 a b c d e f g h|||1=E8 true b c d e f g h:=by decide
theorem or1: ∀a b c d e f g h,E8 a b c d e f g h|||2=E8 a true c d e f g h:=by decide
theorem or2: ∀a b c d e f g h,E8 a b c d e f g h|||4=E8 a b true d e f g h:=by decide
theorem or3: ∀a b c d e f g h,E8 a b c d e f g h|||8=E8 a b c true e f g h:=by decide
theorem or4: ∀a b c d e f g h,E8 a b c d e f g h|||16=E8 a b c d true f g h:=by decide
theorem or5: ∀a b c d e f g h,E8 a b c d e f g h|||32=E8 a b c d e true g h:=by decide
theorem or6: ∀a b c d e f g h,E8 a b c d e f g h|||64=E8 a b c d e f true h:=by decide
theorem or7: ∀a b c d e f g h,E8 a b c d e f g h|||128=E8 a b c d e f g true:=by decide
theorem iG(f:Nat->Bool)(j:Nat)(a:j<8):Ky f|||2^j=Ky (fun k=>if k=j then true else f k):=by
 show E8 (f 0) (f 1) (f 2) (f 3) (f 4) (f 5) (f 6) (f 7)|||2^j=_
 match j,a with
 |0,_=>exact or0 _ _ _ _ _ _ _ _
 |1,_=>exact or1 _ _ _ _ _ _ _ _
 |2,_=>exact or2 _ _ _ _ _ _ _ _
 |3,_=>exact or3 _ _ _ _ _ _ _ _
 |4,_=>exact or4 _ _ _ _ _ _ _ _
 |5,_=>exact or5 _ _ _ _ _ _ _ _
 |6,_=>exact or6 _ _ _ _ _ _ _ _
 |7,_=>exact or7 _ _ _ _ _ _ _ _
def Gm(bits:List Bool)(i:Nat):Nat:=Ky fun j=>bits.getD (8*i+j) false
def Ah(bits:List Bool):Aeg:=(List.range ((bits.length+7)/8)).map fun i=>UInt8.ofNat (Gm bits i)
theorem A8(bits:List Bool):(Ah bits).length=(bits.length+7)/8:=by simp[Ah]
theorem Sw(bits:List Bool)(i:Nat):Gm bits i<256:=iF _
theorem Hv(bits:List Bool)(i:Nat)(h:i<(Ah bits).length):(Ah bits)[i]=UInt8.ofNat (Gm bits i):=by simp[Ah]
theorem dU(bits:List Bool)(c k:Nat):(bits++List.replicate c false).getD k false=bits.getD k false:=by
 simp only[zG]
 by_cases h:k<bits.length
 ·rw[Aav h]
 ·rw[z7 (by omega),Aam (by omega:bits.length<=k)]
  by_cases h2:k-bits.length<c
  ·rw[Abp h2];rfl
  ·rw[Aam (by simp;omega)]
theorem T3(bits:List Bool)(c:Nat):Ah (bits++List.replicate c false)=Ah bits++List.replicate ((bits.length+c+7)/8-(bits.length+7)/8) 0:=by
 apply Aa1
 ·simp[A8];omega
 ·intro i h1 h2;have b:i<(bits.length+c+7)/8:=by simpa[A8]using h1
  rw[Hv]
  by_cases h:i<(bits.length+7)/8
  ·rw[List.getElem_append_left (by rw[A8];exact h),Hv];congr 1;exact Rx _ _ fun j a=>dU bits c _
  ·rw[List.getElem_append_right (by rw[A8];omega),List.getElem_replicate];have:Gm (bits++List.replicate c false) i=0:=pN _ fun j a=>by
    rw[dU];simp only[zG];rw[Aam (by omega)];rfl
   rw[this];rfl
theorem iH(bits:List Bool)(at_ k:Nat)(h:at_<bits.length):(bits.set at_ true).getD k false=if k=at_ then true else bits.getD k false:=by
 simp only[zG,List.getElem?_set]
 by_cases e:at_=k
 ·subst e;simp[h]
 ·rw[if_neg e,if_neg (fun x=>e x.symm)]
theorem Us(bits:List Bool)(at_:Nat)(h:at_<bits.length):Ah (bits.set at_ true)=(Ah bits).set (at_/8) (UInt8.ofNat (Gm bits (at_/8)|||2^(at_%8))):=by
 apply Aa1
 ·simp[A8]
 ·intro i h1 h2;have b:i<(bits.length+7)/8:=by simpa[A8]using h1
  rw[Hv,Ac5]
  by_cases e:at_/8=i
  ·rw[if_pos e,e];congr 1;rw[Gm,Gm,iG _ _ (by omega)];refine Rx _ _ fun j a=>?_;rw[iH _ _ _ h]
   by_cases e2:j=at_%8
   ·rw[iP,if_pos e2]
   ·rw[iN,if_neg e2]
  ·rw[if_neg e,Hv];congr 1;refine Rx _ _ fun j a=>?_;rw[iH _ _ _ h,iN]
theorem vP(bits:List Bool)(b:Bool):(bits++[false]).set bits.length b=bits++[b]:=by
 simp
end Hm
namespace Hm
def Al(bs:Aeg)(k:Nat):Bool:=decide ((bs.getD (k/8) 0).toNat/2^(k%8)%2=1)
def rk(f:Nat->Bool):Nat->Nat
 |0=>0
 |k+1=>rk f k+(f k).toNat
theorem La(b:Bool):b.toNat<=1:=by cases b<;>decide
theorem Sx(f:Nat->Bool): ∀k,rk f k<=k
 |0=>zK _
 |k+1=>by have:=Sx f k;have:=La (f k);rw[rk];omega
theorem Zk(f:Nat->Bool)(a:Nat): ∀b,rk f (a+b)=rk f a+rk (fun j=>f (a+j)) b
 |0=>rfl
 |b+1=>by
  show rk f (a+b)+(f (a+b)).toNat=rk f a+(rk (fun j=>f (a+j)) b+(f (a+b)).toNat);rw[Zk f a b];omega
theorem Kn(f:Nat->Bool){a b:Nat}(h:a<=b):rk f a<=rk f b:=by
 obtain⟨c,rfl⟩:=Nat.le.dest h;rw[Zk];omega
theorem bT(f:Nat->Bool){a b:Nat}(h:a<=b):rk f b+a<=rk f a+b:=by
 obtain⟨c,rfl⟩:=Nat.le.dest h;rw[Zk];have:=Sx (fun j=>f (a+j)) c;omega
theorem iI{f g:Nat->Bool}: ∀{k:Nat},(∀j,j<k->f j=g j)->rk f k=rk g k
 |0,_=>rfl
 |k+1,h=>by rw[rk,rk,iI (fun j a=>h j (by omega)),h k (by omega)]
theorem yC(bs:Aeg)(k j:Nat)(a:j<8):Al bs (8*k+j)=decide ((bs.getD k 0).toNat/2^j%2=1):=by
 unfold Al;rw[show(8*k+j)/8=k from by omega,show(8*k+j)%8=j from by omega]
theorem bt0: ∀a b c d e f g h,decide (E8 a b c d e f g h/2^0%2=1)=a:=by decide
theorem bt1: ∀a b c d e f g h,decide (E8 a b c d e f g h/2^1%2=1)=b:=by decide
theorem bt2: ∀a b c d e f g h,decide (E8 a b c d e f g h/2^2%2=1)=c:=by decide
theorem bt3: ∀a b c d e f g h,decide (E8 a b c d e f g h/2^3%2=1)=d:=by decide
theorem bt4: ∀a b c d e f g h,decide (E8 a b c d e f g h/2^4%2=1)=e:=by decide
theorem bt5: ∀a b c d e f g h,decide (E8 a b c d e f g h/2^5%2=1)=f:=by decide
theorem bt6: ∀a b c d e f g h,decide (E8 a b c d e f g h/2^6%2=1)=g:=by decide
theorem bt7: ∀a b c d e f g h,decide (E8 a b c d e f g h/2^7%2=1)=h:=by decide
theorem sX(f:Nat->Bool)(j:Nat)(a:j<8):decide (Ky f/2^j%2=1)=f j:=by
 show decide (E8 (f 0) (f 1) (f 2) (f 3) (f 4) (f 5) (f 6) (f 7)/2^j%2=1)=_
 match j,a with
 |0,_=>exact bt0 _ _ _ _ _ _ _ _
 |1,_=>exact bt1 _ _ _ _ _ _ _ _
 |2,_=>exact bt2 _ _ _ _ _ _ _ _
 |3,_=>exact bt3 _ _ _ _ _ _ _ _
 |4,_=>exact bt4 _ _ _ _ _ _ _ _
 |5,_=>exact bt5 _ _ _ _ _ _ _ _
 |6,_=>exact bt6 _ _ _ _ _ _ _ _
 |7,_=>exact bt7 _ _ _ _ _ _ _ _
theorem Mz(bits:List Bool)(k:Nat):Al (Ah bits) k=bits.getD k false:=by
 unfold Al
 by_cases h:k/8<(Ah bits).length
 ·rw[zG,zH h];show decide (((Ah bits)[k/8]).toNat/2^(k%8)%2=1)=_;rw[Hv,Aax,Aby (Sw bits (k/8))];unfold Gm;rw[sX _ _ (by omega),show 8*(k/8)+k%8=k from by omega]
 ·rw[zG,Aam (by omega)];rw[A8]at h;rw[zG,Aam (by omega:bits.length<=k)];simp
end Hm
namespace Hm
structure Br where
 whole:Bool:=false
 val:UInt8:=0
 node:Nat:=0
structure Nd where
 depth:Nat:=0
 num:Nat:=0
 frm:Nat:=0
 siz:Nat:=0
 b0:Br:={}
 b1:Br:={}
def Nd.put(n:Nd)(s:Nat)(b:Br):Nd:=if s=0 then{n with b0:=b}else{n with b1:=b}
def Nd.br(n:Nd)(s:Nat):Br:=if s=0 then n.b0 else n.b1
def Ab(nds:List Nd)(i:Nat):Nd:=nds.getD i {}
def Cc(nds:List Nd)(i s:Nat)(b:Br):List Nd:=nds.set i ((Ab nds i).put s b)
def F6(ln:UInt8->Nat)(i s:Nat)(nds:List Nd):Aeg->List Nd×Aeg
 |[]=>(nds,[])
 |b::r=>if ln b=(Ab nds i).depth+1 then(Cc nds i s {whole:=true,val:=b},r)
  else(Cc nds i s {node:=nds.length}++[{depth:=(Ab nds i).depth+1,num:=2*(Ab nds i).num+s}],b::r)
def Ao(ln:UInt8->Nat)(o:Aeg):Nat->List Nd×Aeg
 |0=>([{}],o)
 |t+1=>F6 ln (t/2) (t%2) (Ao ln o t).1 (Ao ln o t).2
theorem Ja(nds:List Nd)(i j:Nat)(x:Nd)(h:i≠j):Ab (nds.set i x) j=Ab nds j:=by
 unfold Ab;rw[zG,Adc h,<-zG]
theorem G9(nds:List Nd)(i:Nat)(x:Nd)(h:i<nds.length):Ab (nds.set i x) i=x:=by
 unfold Ab;rw[zG,Adg h];rfl
theorem Lp(nds l:List Nd)(i:Nat)(h:i<nds.length):Ab (nds++l) i=Ab nds i:=by
 unfold Ab;rw[zG,Aav h,<-zG]
theorem M8(nds:List Nd)(x:Nd):Ab (nds++[x]) nds.length=x:=by
 unfold Ab;rw[zG,z7 (zK _)];simp
theorem Ch(nds:List Nd)(i s:Nat)(b:Br):(Cc nds i s b).length=nds.length:=by simp[Cc]
theorem sY(n:Nd)(s:Nat)(b:Br):(n.put s b).depth=n.depth:=by unfold Nd.put;split<;>rfl
theorem yD(n:Nd)(s:Nat)(b:Br):(n.put s b).num=n.num:=by unfold Nd.put;split<;>rfl
theorem lZ(n:Nd)(s:Nat)(b:Br):(n.put s b).br s=b:=by unfold Nd.put Nd.br;split<;>simp_all
theorem sZ(n:Nd)(s u:Nat)(b:Br)(hs:s<2)(a:u<2)(h:s≠u):(n.put s b).br u=n.br u:=by
 unfold Nd.put Nd.br;rcases(show s=0/\u=1\/s=1/\u=0 by omega)with⟨rfl,rfl⟩|⟨rfl,rfl⟩<;>rfl
theorem F5(nds:List Nd)(i s:Nat)(b:Br)(hi:i<nds.length)(j:Nat):(Ab (Cc nds i s b) j).depth=(Ab nds j).depth:=by
 unfold Cc
 by_cases e:i=j
 ·subst e;rw[G9 _ _ _ hi,sY]
 ·rw[Ja _ _ _ _ e]
theorem Lb(nds:List Nd)(i s:Nat)(b:Br)(hi:i<nds.length)(j:Nat):(Ab (Cc nds i s b) j).num=(Ab nds j).num:=by
 unfold Cc
 by_cases e:i=j
 ·subst e;rw[G9 _ _ _ hi,yD]
 ·rw[Ja _ _ _ _ e]
theorem Kc(nds:List Nd)(i s:Nat)(b:Br)(hi:i<nds.length):(Ab (Cc nds i s b) i).br s=b:=by
 unfold Cc;rw[G9 _ _ _ hi,lZ]
theorem Ko(nds:List Nd)(i s j u:Nat)(b:Br)(hi:i<nds.length)(hs:s<2)(a:u<2)(h: ¬(i=j/\s=u)):(Ab (Cc nds i s b) j).br u=(Ab nds j).br u:=by
 unfold Cc
 by_cases e:i=j
 ·subst e;rw[G9 _ _ _ hi,sZ _ _ _ _ hs a (fun e=>h ⟨rfl,e⟩)]
 ·rw[Ja _ _ _ _ e]
def krf(M:Nat)(ln:UInt8->Nat)(o:Aeg):Nat:=(o.map fun b=>2^(M-ln b)).sum
theorem Sy(M:Nat)(ln:UInt8->Nat)(a b:Aeg):krf M ln (a++b)=krf M ln a+krf M ln b:=by simp[krf]
theorem Yz(M:Nat)(ln:UInt8->Nat)(o:Aeg)(k:Nat)(h:k<o.length):krf M ln (o.take (k+1))=krf M ln (o.take k)+2^(M-ln (o.getD k 0)):=by
 rw[zQ h,Sy];congr 1;rw[zG,zH h];simp[krf]
theorem iJ(M:Nat)(ln:UInt8->Nat)(o:Aeg){k k':Nat}(h:k<=k'):krf M ln (o.take k)<=krf M ln (o.take k'):=by
 have e:o.take k=(o.take k').take k:=by rw[List.take_take,Ab8 h]
 rw[e]
 conv=>rhs;rw[<-Abh k (o.take k'),Sy]
 omega
theorem Ut(M:Nat)(ln:UInt8->Nat)(o:Aeg){k k':Nat}(h:k<k')(hk:k<o.length):krf M ln (o.take k)<krf M ln (o.take k'):=by
 have h1:=Yz M ln o k hk;have h2:=iJ M ln o (k:=k+1) (k':=k') h;have:=Acl (M-ln (o.getD k 0));omega
theorem vQ(M:Nat)(ln:UInt8->Nat)(o:Aeg)(k:Nat):krf M ln (o.take k)+krf M ln (o.drop k)=krf M ln o:=by
 rw[<-Sy,Abh]
theorem iK(M e:Nat)(ln:UInt8->Nat): ∀o:Aeg,(∀b∈o,e<=ln b)->krf M ln o<=o.length*2^(M-e)
 |[],_=>by simp[krf]
 |b::r,h=>by
  have h1:=iK M e ln r (fun x c=>h x (Aae _ c));have h2:=h b (Aab ..);have d:2^(M-ln b)<=2^(M-e):=Abk (by omega) (by omega);have a:krf M ln (b::r)=2^(M-ln b)+krf M ln r:=by simp[krf]
  rw[a,Aau,Ab4];omega
structure Ws(M:Nat)(ln:UInt8->Nat)(o:Aeg):Prop where
 asc:o.Pairwise fun a b=>ln a<=ln b
 pos: ∀b∈o,0<ln b
 short: ∀b∈o,ln b<=M
 sum:krf M ln o=2^M
inductive Zl (M:Nat) (ln:UInt8->Nat) (o:Aeg) (nds:List Nd) (j u:Nat):Prop
 |leaf (k:Nat) (hk:k<o.length) (h:(Ab nds j).br u={whole:=true,val:=o.getD k 0}) (hd:ln (o.getD k 0)=(Ab nds j).depth+1) (hn:(2*(Ab nds j).num+u)*2^(M-ln (o.getD k 0))=krf M ln (o.take k))
 |node (n:Nat) (h:(Ab nds j).br u={node:=n}) (h1:j<n) (h2:n<nds.length) (hd:(Ab nds n).depth=(Ab nds j).depth+1) (hn:(Ab nds n).num=2*(Ab nds j).num+u) (hno: ∀k,k<o.length->ln (o.getD k 0)=(Ab nds n).depth->krf M ln (o.take k)≠(Ab nds n).num*2^(M-(Ab nds n).depth)) (hM:(Ab nds n).depth<M)
 |none (h:(Ab nds j).br u={}) (hno: ∀k,k<o.length->(Ab nds j).depth+1<=ln (o.getD k 0)->(2*(Ab nds j).num+u)*2^(M-((Ab nds j).depth+1))<=krf M ln (o.take k)->(2*(Ab nds j).num+u+1)*2^(M-((Ab nds j).depth+1))<=krf M ln (o.take k))
def Ku(a b:Nd):Prop:=a.depth<b.depth\/a.depth=b.depth/\a.num<b.num
theorem Ku.trans{a b c:Nd}(h1:Ku a b)(h2:Ku b c):Ku a c:=by
 unfold Ku at*;omega
structure Jt(M:Nat)(ln:UInt8->Nat)(o:Aeg)(t:Nat)(nds:List Nd)(left:Aeg)(i s d jp k F:Nat):Prop where
 ht:t=2*i+s
 hs:s<2
 hleft:left=o.drop k
 hk:k<=o.length
 ij:i<=jp
 ij0:i=jp->s=0
 jn:jp<=nds.length
 lo: ∀j,i<=j->j<jp->(Ab nds j).depth=d/\(Ab nds j).num+(jp-j)=2^d
 hi: ∀j,jp<=j->j<nds.length->(Ab nds j).depth=d+1/\(Ab nds j).num=F+(j-jp)
 hF:F*2^(M-(d+1))=krf M ln (o.take k)
 dM:d+1<=M
 bal:2*2^d+s=F+(nds.length-jp)+2*(jp-i)
 deep: ∀b∈left,d<ln b
 deep2:jp<nds.length->d+2<=M/\ ∀b∈left,d+1<ln b
 count:2*i+s+1=k+nds.length
 good: ∀j u,u<2->2*j+u<t->Zl M ln o nds j u
 sorted: ∀j j',j<j'->j'<nds.length->Ku (Ab nds j) (Ab nds j')
 root:(Ab nds 0).depth=0/\(Ab nds 0).num=0
 more:0<nds.length
 par: ∀n,0<n->n<nds.length-> ∃j u,u<2/\2*j+u<t/\j<n/\(Ab nds j).br u={node:=n}
 full: ∀j u,u<2->2*j+u<t->(Ab nds j).br u≠{}
theorem Jt.start(h:Ws M ln o)(hM:1<=M):Jt M ln o 0 [{}] o 0 0 0 1 0 0 where
 ht:=rfl
 hs:=by omega
 hleft:=by simp
 hk:=zZ _
 ij:=by omega
 ij0:=by omega
 jn:=by simp
 lo:=fun j h1 h2=>by
  obtain rfl:j=0:=by omega
  exact⟨rfl,rfl⟩
 hi:=fun j h1 h2=>by simp at h2;omega
 hF:=by simp[krf]
 dM:=by omega
 bal:=by simp
 deep:=h.pos
 deep2:=fun h=>by simp at h
 count:=by simp
 good:=fun j u _ h=>by omega
 sorted:=fun j j' h1 h2=>by simp at h2;omega
 root:=⟨rfl,rfl⟩
 more:=by simp
 par:=fun n h1 h2=>by simp at h2;omega
 full:=fun j u _ h=>by omega
theorem Uu(h:d+1<=M):(2:Nat)^M=2*2^d*2^(M-(d+1)):=by
 rw[<-Nat.pow_succ',<-Nat.pow_add];congr 1;omega
theorem Jt.norm{nds:List Nd}(h:Jt M ln o t nds left i s d jp k F)(hi:i<nds.length): ∃d jp F,i<jp/\Jt M ln o t nds left i s d jp k F:=by
 by_cases e:i=jp
 ·have hs:=h.ij0 e;subst e hs;obtain⟨h1,h2⟩:=h.deep2 hi;have hb:=h.bal;refine⟨d+1,nds.length,2*F,hi,?_⟩;exact{h with
   ij:=Nat.le_of_lt hi
   ij0:=fun e=>by omega
   jn:=zK _
   lo:=fun j a b=>by
    obtain⟨c,f⟩:=h.hi j a b;refine⟨c,?_⟩;rw[f,Abl];omega
   hi:=fun j a b=>by omega
   hF:=by
    rw[<-h.hF,show M-(d+1)=(M-(d+1+1))+1 from by omega,Abl,Ade 2 F,Adt,Ade 2]
   dM:=h1
   bal:=by rw[Abl];omega
   deep:=h2
   deep2:=fun h=>by omega}
 ·exact⟨d,jp,F,by have:=h.ij;omega,h⟩
theorem Jt.left_ne{nds:List Nd}(h:Jt M ln o t nds left i s d jp k F)(a:Ws M ln o)(hi:i<jp):k<o.length:=by
 refine Nat.lt_of_le_of_ne h.hk fun e=>?_;have h1:=h.hF;rw[e,Aaw,a.sum,Uu h.dM]at h1;have h2:=Nat.eq_of_mul_eq_mul_right (Acl _) h1;have:=h.bal;have:=h.hs;omega
theorem Jt.bound{nds:List Nd}(h:Jt M ln o t nds left i s d jp k F)(j:Ws M ln o):nds.length+1<=o.length:=by
 have h1:=vQ M ln o k;rw[j.sum,<-h.hF,Uu h.dM]at h1;have a:(o.drop k).length=o.length-k:=Aas ..;have hb:=h.bal;have hk:=h.hk;have hs:=h.hs;have n:=h.count;have l:=h.ij;have m:=h.jn
 by_cases e:jp<nds.length
 ·obtain⟨hM,h2⟩:=h.deep2 e;rw[h.hleft]at h2;have b:=iK M (d+2) ln (o.drop k) h2;have f:2^(M-(d+1))=2*2^(M-(d+2)):=by rw[<-Nat.pow_succ'];congr 1;omega
  rw[f]at h1;have c:(2*2^d*2)*2^(M-(d+2))<=(F*2+(o.length-k))*2^(M-(d+2)):=by
   rw[Ab4,<-a]
   calc _=2*2^d*(2*2^(M-(d+2))):=by rw[Adt]
    _=F*(2*2^(M-(d+2)))+krf M ln (o.drop k):=h1.symm
    _<=_:=by rw[Adt F 2];exact Nat.add_le_add_left b _
  have g:=Nat.le_of_mul_le_mul_right c (Acl _);have:i=jp->s=0:=h.ij0;omega
 ·have h2:=h.deep;rw[h.hleft]at h2;have b:=iK M (d+1) ln (o.drop k) h2;have c:(2*2^d)*2^(M-(d+1))<=(F+(o.length-k))*2^(M-(d+1)):=by
   rw[Ab4,<-a,<-h1];exact Nat.add_le_add_left b _
  have g:=Nat.le_of_mul_le_mul_right c (Acl _);omega
theorem Ns(o:Aeg)(k:Nat)(h:k<o.length):o.drop k=o.getD k 0::o.drop (k+1):=by
 rw[Aan h,zG,zH h];rfl
theorem Zl.mono{nds a:List Nd}(hd: ∀j,j<nds.length->(Ab a j).depth=(Ab nds j).depth)(hn: ∀j,j<nds.length->(Ab a j).num=(Ab nds j).num)(hb:(Ab a j).br u=(Ab nds j).br u)(i:nds.length<=a.length)(c:j<nds.length)(h:Zl M ln o nds j u):Zl M ln o a j u:=by
 cases h with
 |leaf k hk h1 h2 b=>exact .leaf k hk (hb.trans h1) (by rw[hd j c];exact h2) (by rw[hn j c];exact b)
 |node n h1 h2 b d e f g=>exact .node n (hb.trans h1) h2 (by omega) (by rw[hd j c,hd n b];exact d) (by rw[hn j c,hn n b];exact e) (by rw[hd n b,hn n b];exact f) (by rw[hd n b];exact g)
 |none h1 h2=>exact .none (hb.trans h1) (by rw[hd j c,hn j c];exact h2)
theorem iL(h:o.Pairwise fun a b=>ln a<=ln b){i j:Nat}(e:i<=j)(d:j<o.length):ln (o.getD i 0)<=ln (o.getD j 0):=by
 rcases Abf i j with c|c
 ·rw[zG,zH (by omega:i<o.length),zG,zH d];exact List.pairwise_iff_getElem.1 h i j (by omega) d c
 ·obtain rfl:i=j:=by omega
  exact zK _
theorem mD(h:b∈o.drop k): ∃a,k<=a/\a<o.length/\b=o.getD a 0:=by
 obtain⟨n,hn,e⟩:=Aa5 h;rw[Aas]at hn;refine⟨k+n,by omega,by omega,?_⟩;rw[zG,zH (by omega)];rw[List.getElem_drop]at e;exact e.symm
theorem Rc(h:k<o.length):o.getD k 0∈o:=by
 rw[zG,zH h];exact z6 _
theorem Jt.step{nds:List Nd}(h:Jt M ln o t nds left i s d jp k F)(B:Ws M ln o)(hi:i<jp):
  ∃m V,Jt M ln o (t+1) (F6 ln i s nds left).1 (F6 ln i s nds left).2 (i+(s+1)/2) ((s+1)%2) d jp m V:=by
 have hk:=h.left_ne B hi;have hs:=h.hs;have a:i<nds.length:=by have:=h.jn;omega
 obtain⟨hd,S⟩:=h.lo i (zK _) hi;have r:left=o.getD k 0::o.drop (k+1):=by rw[h.hleft];exact Ns o k hk
 have v:o.getD k 0∈left:=by rw[r];exact Aab ..
 have L:=h.deep _ v;have C:=B.short _ (Rc hk);have Q:=h.bal;have A:=h.count;have X:=h.ij;have Y:=h.jn;have W:F6 ln i s nds left=if ln (o.getD k 0)=(Ab nds i).depth+1 then(Cc nds i s {whole:=true,val:=o.getD k 0},o.drop (k+1))
  else(Cc nds i s {node:=nds.length}++[{depth:=(Ab nds i).depth+1,num:=2*(Ab nds i).num+s}],o.getD k 0::o.drop (k+1)):=by rw[r];rfl
 rw[W]
 by_cases c:ln (o.getD k 0)=d+1
 ·rw[if_pos (by rw[hd];exact c)];have Z:jp=nds.length:=by
   rcases Abf jp nds.length with x|x
   ·have:=(h.deep2 x).2 _ v;omega
   ·omega
  have hF:krf M ln (o.take (k+1))=(F+1)*2^(M-(d+1)):=by
   rw[Yz M ln o k hk,<-h.hF,c,Ab4,Nat.one_mul]
  have N:2*(Ab nds i).num+s=F:=by omega
  refine⟨k+1,F+1,?_⟩;exact{
   ht:=by have:=h.ht;omega
   hs:=by omega
   hleft:=rfl
   hk:=hk
   ij:=by omega
   ij0:=by omega
   jn:=by rw[Ch];omega
   lo:=fun j h1 h2=>by
    rw[F5 _ _ _ _ a,Lb _ _ _ _ a];exact h.lo j (by omega) h2
   hi:=fun j h1 h2=>by rw[Ch]at h2;omega
   hF:=hF.symm
   dM:=h.dM
   bal:=by rw[Ch];omega
   deep:=fun b hb=>h.deep b (by rw[r];exact Aae _ hb)
   deep2:=fun x=>by rw[Ch]at x;omega
   count:=by rw[Ch];omega
   good:=fun j u g q=>by
    by_cases e:j=i/\u=s
    ·obtain⟨rfl,rfl⟩:=e;refine .leaf k hk (Kc _ _ _ _ a) (by rw[F5 _ _ _ _ a,hd];exact c) ?_;rw[Lb _ _ _ _ a,N,c,h.hF]
    ·have ht:=h.ht;refine(h.good j u g (by omega)).mono (fun j _=>F5 _ _ _ _ a j) (fun j _=>Lb _ _ _ _ a j) (Ko _ _ _ _ _ _ a hs g (fun x=>e ⟨x.1.symm,x.2.symm⟩)) (by rw[Ch];omega) (by omega)
   sorted:=fun j j' h1 h2=>by
    rw[Ch]at h2;unfold Ku;rw[F5 _ _ _ _ a,Lb _ _ _ _ a,F5 _ _ _ _ a,Lb _ _ _ _ a];exact h.sorted j j' h1 h2
   root:=by rw[F5 _ _ _ _ a,Lb _ _ _ _ a];exact h.root
   more:=by rw[Ch];exact h.more
   par:=fun n h1 h2=>by
    rw[Ch]at h2;obtain⟨j,u,p,E,H,K⟩:=h.par n h1 h2;have ht:=h.ht;exact⟨j,u,p,by omega,H,(Ko _ _ _ _ _ _ a hs p (by omega)).trans K⟩
   full:=fun j u g q=>by
    have ht:=h.ht
    by_cases e:j=i/\u=s
    ·obtain⟨rfl,rfl⟩:=e;rw[Kc _ _ _ _ a];intro c;cases c
    ·rw[Ko _ _ _ _ _ _ a hs g (fun x=>e ⟨x.1.symm,x.2.symm⟩)];exact h.full j u g (by omega)}
 ·rw[if_neg (by rw[hd];exact c)];obtain⟨x,D⟩:=gx ({depth:=(Ab nds i).depth+1,num:=2*(Ab nds i).num+s}:Nd);have O:x.depth=d+1:=by rw[D,<-hd]
  have U:x.num=F+(nds.length-jp):=by rw[D];show 2*(Ab nds i).num+s=_;omega
  have P:x.num=2*(Ab nds i).num+s:=by rw[D]
  rw[<-D];have R:(Cc nds i s {node:=nds.length}++[x]).length=nds.length+1:=by rw[zL,Ch];rfl
  have f: ∀j,j<nds.length->Ab (Cc nds i s {node:=nds.length}++[x]) j=Ab (Cc nds i s {node:=nds.length}) j:=fun j w=>Lp _ _ _ (by rw[Ch];exact w);have new:Ab (Cc nds i s {node:=nds.length}++[x]) nds.length=x:=by
   have:=M8 (Cc nds i s {node:=nds.length}) x;rwa[Ch]at this
  have l: ∀j,j<nds.length->(Ab (Cc nds i s {node:=nds.length}++[x]) j).depth=(Ab nds j).depth:=fun j w=>by rw[f j w,F5 _ _ _ _ a]
  have on: ∀j,j<nds.length->(Ab (Cc nds i s {node:=nds.length}++[x]) j).num=(Ab nds j).num:=fun j w=>by rw[f j w,Lb _ _ _ _ a]
  have hno: ∀m,m<o.length->ln (o.getD m 0)=x.depth->krf M ln (o.take m)≠x.num*2^(M-x.depth):=by
   intro m z aa e;rcases Abf m k with y|y
   ·have h1:=Ut M ln o y z;rw[e,<-h.hF,O,U]at h1;have:=Abs (2^(M-(d+1))) (show F<=F+(nds.length-jp) by omega);omega
   ·have:=iL B.asc y z;omega
  refine⟨k,F,?_⟩;generalize hG:Cc nds i s {node:=nds.length}++[x]=G at*;show Jt M ln o (t+1) G (o.getD k 0::o.drop (k+1)) (i+(s+1)/2) ((s+1)%2) d jp k F;exact{
   ht:=by have:=h.ht;omega
   hs:=by omega
   hleft:=by rw[<-r,h.hleft]
   hk:=h.hk
   ij:=by omega
   ij0:=by omega
   jn:=by omega
   lo:=fun j h1 h2=>by
    rw[l j (by omega),on j (by omega)];exact h.lo j (by omega) h2
   hi:=fun j h1 h2=>by
    by_cases e:j=nds.length
    ·subst e;rw[new];exact⟨O,U⟩
    ·rw[l j (by omega),on j (by omega)];exact h.hi j h1 (by omega)
   hF:=h.hF
   dM:=h.dM
   bal:=by omega
   deep:=by rw[<-r];exact h.deep
   deep2:=fun _=>by
    refine⟨by omega,fun b hb=>?_⟩;rw[<-r,h.hleft]at hb;obtain⟨m,h1,h2,rfl⟩:=mD hb;have:=iL B.asc h1 h2;omega
   count:=by omega
   good:=fun j u g q=>by
    by_cases e:j=i/\u=s
    ·obtain⟨rfl,rfl⟩:=e;refine .node nds.length ?_ a (by omega) (by rw[new,l j a,O,hd]) (by rw[new,on j a,P]) (by rw[new];exact hno) (by rw[new];omega);rw[f j a];exact Kc _ _ _ _ a
    ·have ht:=h.ht;refine(h.good j u g (by omega)).mono l on ?_ (by omega) (by omega);rw[f j (by omega)];exact Ko _ _ _ _ _ _ a hs g (fun x=>e ⟨x.1.symm,x.2.symm⟩)
   sorted:=fun j j' h1 h2=>by
    by_cases e:j'=nds.length
    ·subst e;rw[new];have last:Ku (Ab nds (nds.length-1)) x:=by
      unfold Ku;rcases Abf jp nds.length with y|y
      ·obtain⟨p,E⟩:=h.hi (nds.length-1) (by omega) (by omega);omega
      ·obtain⟨p,E⟩:=h.lo (nds.length-1) (by omega) (by omega);omega
     have T:Ku (Ab G (nds.length-1)) x:=by
      unfold Ku at*;rw[l _ (by omega),on _ (by omega)];exact last
     by_cases e2:j=nds.length-1
     ·rw[e2];exact T
     ·refine Ku.trans ?_ T;unfold Ku;rw[l _ (by omega),on _ (by omega),l _ (by omega),on _ (by omega)];exact h.sorted j _ (by omega) (by omega)
    ·unfold Ku;rw[l _ (by omega),on _ (by omega),l _ (by omega),on _ (by omega)];exact h.sorted j j' h1 (by omega)
   root:=by rw[l 0 h.more,on 0 h.more];exact h.root
   more:=by omega
   par:=fun n h1 h2=>by
    have ht:=h.ht
    by_cases e:n=nds.length
    ·refine⟨i,s,hs,by omega,by omega,?_⟩;rw[f i a,Kc _ _ _ _ a,e]
    ·obtain⟨j,u,p,E,H,K⟩:=h.par n h1 (by omega);refine⟨j,u,p,by omega,H,?_⟩;rw[f j (by omega)];exact(Ko _ _ _ _ _ _ a hs p (by omega)).trans K
   full:=fun j u g q=>by
    have ht:=h.ht
    by_cases e:j=i/\u=s
    ·obtain⟨rfl,rfl⟩:=e;rw[f j a,Kc _ _ _ _ a];intro c;injection c with _ _ c;omega
    ·rw[f j (by omega),Ko _ _ _ _ _ _ a hs g (fun x=>e ⟨x.1.symm,x.2.symm⟩)];exact h.full j u g (by omega)}
structure Bn(M:Nat)(ln:UInt8->Nat)(o:Aeg)(nds:List Nd):Prop where
 more:0<nds.length
 few:nds.length<=255
 root:(Ab nds 0).depth=0/\(Ab nds 0).num=0
 good: ∀j u,j<nds.length->u<2->Zl M ln o nds j u
 sorted: ∀j j',j<j'->j'<nds.length->Ku (Ab nds j) (Ab nds j')
 par: ∀n,0<n->n<nds.length-> ∃j u,u<2/\j<n/\(Ab nds j).br u={node:=n}
structure Ends(M:Nat)(ln:UInt8->Nat)(o:Aeg)(N:Nat):Prop where
 len:(Ao ln o (2*N)).1.length=N
 more: ∀i,i<N->i<(Ao ln o (2*i)).1.length
 few: ∀t,t<=2*N->(Ao ln o t).1.length<=255
 left:(Ao ln o (2*N)).2=[]
 nodes:Bn M ln o (Ao ln o (2*N)).1
 side0:o≠[]-> ∀j,j<N->(Ab (Ao ln o (2*N)).1 j).br 0≠{}
theorem Uv{M:Nat}{ln:UInt8->Nat}{o:Aeg}(b:Ws M ln o)(hM:1<=M)(N:Nat)(h: ∀i,i<N->i<(Ao ln o (2*i)).1.length): ∀t,t<=2*N-> ∃d jp k F,Jt M ln o t (Ao ln o t).1 (Ao ln o t).2 (t/2) (t%2) d jp k F
 |0,_=>⟨0,1,0,0,Jt.start b hM⟩
 |t+1,ht=>by
  obtain⟨d,jp,k,F,a⟩:=Uv b hM N h t (by omega);have hi:t/2<(Ao ln o t).1.length:=by
   rcases(show t%2=0\/t%2=1 by omega)with c|c
   ·have:=h (t/2) (by omega);rwa[show 2*(t/2)=t from by omega]at this
   ·have h1:=a.ij0;have h2:=a.ij;have f:=a.jn;omega
  obtain⟨d',e,l,h1,h2⟩:=a.norm hi;obtain⟨j,g,f⟩:=h2.step b h1;refine⟨d',e,j,g,?_⟩;rw[show(t+1)/2=t/2+(t%2+1)/2 from by omega,show(t+1)%2=(t%2+1)%2 from by omega];exact f
theorem pO(f:Ws M ln o)(hM:1<=M)(K:o.length<=256): ∃N,0<N/\Ends M ln o N:=by
 have key: ∃N,(Ao ln o (2*N)).1.length<=N/\ ∀i,i<N->i<(Ao ln o (2*i)).1.length:=by
  have: ∀m,(∃N,(Ao ln o (2*N)).1.length<=N/\ ∀i,i<N->i<(Ao ln o (2*i)).1.length)\/ ∀i,i<m->i<(Ao ln o (2*i)).1.length:=by
   intro m;induction m with
   |zero=>exact .inr fun i h=>by omega
   |succ m ih=>
    rcases ih with ih|ih
    ·exact .inl ih
    ·rcases Abf m (Ao ln o (2*m)).1.length with c|c
     ·refine .inr fun i hi=>?_
      by_cases e:i=m
      ·rw[e];exact c
      ·exact ih i (by omega)
     ·exact .inl ⟨m,c,ih⟩
  rcases this 257 with h|h
  ·exact h
  ·exfalso;obtain⟨d,jp,k,F,h1⟩:=Uv f hM 257 h (2*256) (by omega);have h2:=h1.bound f;have a:=h 256 (by omega);omega
 obtain⟨N,h1,h2⟩:=key;have p:=Uv f hM N h2;obtain⟨d,jp,k,F,a⟩:=p (2*N) (zK _);have A:(Ao ln o (2*N)).1.length=N:=by
  have:=a.ij;have:=a.jn;omega
 have l:0<N:=by have:=a.more;omega
 have b:=a.bal;have w:2*N/2=N:=by omega
 have x:2*N%2=0:=by omega
 have s:=a.ij;have C:=a.jn;rw[w]at b s;rw[x]at b;have hk:k=o.length:=by
  refine Ad5 fun c=>?_;have g:k<o.length:=by have:=a.hk;omega
  have q:=Ut M ln o (k:=k) (k':=o.length) g g;rw[<-a.hF,Aaw,f.sum,Uu a.dM]at q;have v:=Nat.lt_of_mul_lt_mul_right q;omega
 refine⟨N,l,A,h2,fun t ht=>?_,?_,⟨a.more,?_,a.root,fun j u B D=>a.good j u D (by omega),a.sorted,fun n q v=>?_⟩,fun _ j B=>a.full j 0 (by omega) (by omega)⟩
 ·obtain⟨d',E,G,H,r⟩:=p t ht;have:=r.bound f;omega
 ·rw[a.hleft,hk,Ab7]
 ·have:=a.bound f;omega
 ·obtain⟨j,u,r,_,y,z⟩:=a.par n q v;exact⟨j,u,r,y,z⟩
theorem pP(M:Nat)(ln:UInt8->Nat):Ends M ln [] 1:=by
 refine⟨rfl,fun i hi=>?_,fun t ht=>?_,rfl,?_,fun c=>absurd rfl c⟩
 ·obtain rfl:i=0:=by omega
  exact Nat.zero_lt_one
 ·have: ∀t,(Ao ln [] t)=([{}],[]):=fun t=>by
   induction t with
   |zero=>rfl
   |succ t ih=>rw[Ao,ih];rfl
  rw[this];exact(by decide:1<=255)
 ·refine⟨Nat.zero_lt_one,(by decide:1<=255),⟨rfl,rfl⟩,fun j u a d=>?_,fun j j' h1 h2=>?_,fun n h1 h2=>?_⟩
  ·have b:j<1:=a;obtain rfl:j=0:=by omega
   refine .none ?_ fun k hk=>by simp at hk
   rcases(show u=0\/u=1 by omega)with rfl|rfl<;>rfl
  ·have:j'<1:=h2;omega
  ·have:n<1:=h2;omega
theorem s6(M:Nat)(ln:UInt8->Nat)(b:UInt8)(hb:ln b=1):Ends M ln [b] 1:=by
 have d:Ao ln [b] 1=([{b0:={whole:=true,val:=b}}],[]):=by
  show F6 ln 0 0 [{}] [b]=_;show(if ln b=(Ab [{}] 0).depth+1 then(Cc [{}] 0 0 {whole:=true,val:=b},([]:Aeg))else _)=_;rw[if_pos (by exact hb)];rfl
 have a:Ao ln [b] 2=([{b0:={whole:=true,val:=b}}],[]):=by
  show F6 ln 0 1 (Ao ln [b] 1).1 (Ao ln [b] 1).2=_;rw[d];rfl
 refine⟨by rw[a];rfl,fun i hi=>?_,fun t ht=>?_,by rw[a],?_,fun _ j e=>?_⟩
 ·obtain rfl:i=0:=by omega
  exact Nat.zero_lt_one
 ·rcases(show t=0\/t=1\/t=2 by omega)with rfl|rfl|rfl
  ·exact(by decide:1<=255)
  ·rw[d];exact(by decide:1<=255)
  ·rw[a];exact(by decide:1<=255)
 ·rw[show 2*1=2 from rfl,a];refine⟨Nat.zero_lt_one,(by decide:1<=255),⟨rfl,rfl⟩,fun j u e m=>?_,fun j j' h1 h2=>?_,fun n h1 h2=>?_⟩
  ·have f:j<1:=e;obtain rfl:j=0:=by omega
   rcases(show u=0\/u=1 by omega)with rfl|rfl
   ·refine .leaf 0 (by simp) rfl hb ?_;show(2*0+0)*_=_;simp[krf]
   ·refine .none rfl fun k hk h1 h2=>?_;have g:k<1:=hk;obtain rfl:k=0:=by omega
    exfalso;have h:(2*0+1)*2^(M-(0+1))<=krf M ln []:=h2;have l:krf M ln []=0:=rfl;have:=Acl (M-(0+1));omega
  ·have:j'<1:=h2;omega
  ·have:n<1:=h2;omega
 ·rw[show 2*1=2 from rfl,a];obtain rfl:j=0:=by omega
  intro c;cases c
end Hm
namespace Hm
structure Hw(M:Nat)(ln num:UInt8->Nat)(o:Aeg):Prop where
 num: ∀k,k<o.length->num (o.getD k 0)*2^(M-ln (o.getD k 0))=krf M ln (o.take k)
 short: ∀b∈o,ln b<=M
def Ee(ln num:UInt8->Nat)(nd:Nd)(b:UInt8):Bool:=decide (nd.depth<ln b/\num b/2^(ln b-nd.depth)=nd.num)
def As(ln num:UInt8->Nat)(d:Nat)(b:UInt8):Nat:=num b/2^(ln b-1-d)%2
theorem Fq(ln num:UInt8->Nat)(d:Nat)(b:UInt8):As ln num d b<2:=Nat.mod_lt _ (by omega)
theorem Re{nd:Nd}(h:Ee ln num nd b=true):num b/2^(ln b-(nd.depth+1))=2*nd.num+As ln num nd.depth b:=by
 obtain⟨h1,h2⟩:=Aay h;unfold As;rw[show ln b-1-nd.depth=ln b-(nd.depth+1)from by omega];rw[show ln b-nd.depth=(ln b-(nd.depth+1))+1 from by omega,Abl,<-Ady]at h2;omega
theorem Jr(h:b∈o): ∃k,k<o.length/\o.getD k 0=b:=by
 obtain⟨k,hk,e⟩:=Aa5 h;exact⟨k,hk,by rw[zG,zH hk];exact e⟩
theorem Hw.span(h:Hw M ln num o){k e y:Nat}(hk:k<o.length)(f:e<=ln (o.getD k 0))(a:num (o.getD k 0)/2^(ln (o.getD k 0)-e)=y):y*2^(M-e)<=krf M ln (o.take k)/\krf M ln (o.take k)<(y+1)*2^(M-e):=by
 have hs:=h.short _ (Rc hk);rw[<-h.num k hk];generalize ln (o.getD k 0)=l at*;generalize num (o.getD k 0)=x at*;have b:(2:Nat)^(M-e)=2^(l-e)*2^(M-l):=by rw[<-Nat.pow_add];congr 1;omega
 have c:=Acl (l-e);have d:=Acl (M-l);rw[b,<-Adt,<-Adt];constructor
 ·exact Abs _ (by rw[<-a];exact Nat.div_mul_le_self _ _)
 ·refine Nat.mul_lt_mul_of_pos_right ?_ d;rw[<-a];exact(Nat.div_lt_iff_lt_mul c).1 (Nat.lt_succ_self _)
theorem Ju(h:Hw M ln num o){nd:Nd}{b:UInt8}(hb:b∈o)(f:Ee ln num nd b=true){k:Nat}(hk:k<o.length)(hd:ln (o.getD k 0)=nd.depth+1)(hn:(2*nd.num+As ln num nd.depth b)*2^(M-ln (o.getD k 0))=krf M ln (o.take k)):b=o.getD k 0:=by
 obtain⟨d,a,rfl⟩:=Jr hb;have h1:=(Aay f).1;have hs:=h.span a (e:=nd.depth+1) h1 (Re f);rw[hd]at hn;rw[hn]at hs;have h2:=Yz M ln o k hk;rw[hd]at h2;have g:krf M ln (o.take d)<krf M ln (o.take (k+1)):=by
  rw[h2,<-hn];have:=hs.2;rw[Ab4,Nat.one_mul,hn]at this;rw[hn];exact this
 have:d=k:=by
  rcases Aa7 d k with c|c|c
  ·have:=Ut M ln o c a;omega
  ·exact c
  ·have:=iJ M ln o (k:=k+1) (k':=d) c;omega
 rw[this]
theorem Zm(h:Hw M ln num o){nd nc:Nd}{b:UInt8}(hb:b∈o)(c:Ee ln num nd b=true)(hd:nc.depth=nd.depth+1)(hn:nc.num=2*nd.num+As ln num nd.depth b)
  (hno: ∀k,k<o.length->ln (o.getD k 0)=nc.depth->krf M ln (o.take k)≠nc.num*2^(M-nc.depth)):Ee ln num nc b=true:=by
 have h1:=(Aay c).1;have h2:=Re c;refine zJ ⟨?_,by rw[hd,hn];exact h2⟩;rw[hd];refine Nat.lt_of_le_of_ne h1 fun e=>?_;obtain⟨d,a,rfl⟩:=Jr hb;refine hno d a (by omega) ?_;rw[<-h.num d a,hn,<-h2,hd,<-e];simp
theorem Jv(h:Hw M ln num o){nd:Nd}{b:UInt8}(hb:b∈o)(c:Ee ln num nd b=true)
  (hno: ∀k,k<o.length->nd.depth+1<=ln (o.getD k 0)->(2*nd.num+As ln num nd.depth b)*2^(M-(nd.depth+1))<=krf M ln (o.take k)->(2*nd.num+As ln num nd.depth b+1)*2^(M-(nd.depth+1))<=krf M ln (o.take k)):False:=by
 have h1:=(Aay c).1;obtain⟨d,a,rfl⟩:=Jr hb;have hs:=h.span a (e:=nd.depth+1) h1 (Re c);have:=hno d a h1 hs.1;omega
theorem Qe{nd nc:Nd}(a:u<2)(hd:nc.depth=nd.depth+1)(hn:nc.num=2*nd.num+u)(h:Ee ln num nc b=true):Ee ln num nd b=true/\As ln num nd.depth b=u:=by
 obtain⟨h1,h2⟩:=Aay h;rw[hd]at h1 h2;rw[hn]at h2;have e:num b/2^(ln b-nd.depth)=nd.num:=by
  rw[show ln b-nd.depth=(ln b-(nd.depth+1))+1 from by omega,Abl,<-Ady,h2];omega
 refine⟨zJ ⟨by omega,e⟩,?_⟩;unfold As;rw[show ln b-1-nd.depth=ln b-(nd.depth+1)from by omega,h2];omega
def Aq(ln num:UInt8->Nat)(nds:List Nd)(col:Aeg)(n:Nat):Aeg:=col.filter (Ee ln num (Ab nds n))
def Hx(ln num:UInt8->Nat)(nds:List Nd)(col:Aeg)(n:Nat):Aeh:=(Aq ln num nds col n).map (As ln num (Ab nds n).depth)
def Ax(ln num:UInt8->Nat)(nds:List Nd)(col:Aeg)(N:Nat):Aeh:=(List.range N).flatMap (Hx ln num nds col)
theorem Nt(ln num:UInt8->Nat)(nds:List Nd)(col:Aeg)(n:Nat):(Aq ln num nds col n).length<=col.length:=Ac7 _ _
theorem Fm(ln num:UInt8->Nat)(nds:List Nd)(col:Aeg)(N:Nat):Ax ln num nds col (N+1)=Ax ln num nds col N++Hx ln num nds col N:=by
 unfold Ax;rw[Acm,Abo,List.flatMap_singleton]
theorem Mb(ln num:UInt8->Nat)(nds:List Nd)(col:Aeg)(N:Nat):(Ax ln num nds col N).length<=N*col.length:=by
 induction N with
 |zero=>simp[Ax]
 |succ N ih=>
  have h:=Nt ln num nds col N;rw[Fm,zL,Ab4,Nat.one_mul];simp only[Hx,Aai];omega
structure Kv(ln num:UInt8->Nat)(nds:List Nd)(col:Aeg)(i p:Nat)(cs:List Aeg):Prop where
 len:cs.length=nds.length
 root:cs.getD 0 []=col
 at_: ∀n j u,n<nds.length->0<n->u<2->j<nds.length->(Ab nds j).br u={node:=n}->
  (j<i->cs.getD n []=Aq ln num nds col n)/\(j=i->cs.getD n []=((Aq ln num nds col i).take p).filter fun b=>As ln num (Ab nds i).depth b==u)/\(i<j->cs.getD n []=[])
theorem Pv(cs:List Aeg)(i j:Nat)(x:Aeg)(h:i<cs.length):(cs.set i x).getD j []=if i=j then x else cs.getD j []:=by
 rw[zG,List.getElem?_set]
 by_cases e:i=j
 ·rw[if_pos e,if_pos e,if_pos h];rfl
 ·rw[if_neg e,if_neg e,<-zG]
section
variable {M:Nat} {ln num:UInt8->Nat} {o:Aeg} {nds:List Nd} {col:Aeg} {i p:Nat} {cs:List Aeg}
theorem Bn.child(h:Bn M ln o nds){j u n:Nat}(f:j<nds.length)(g:u<2)(hn:0<n)(e:(Ab nds j).br u={node:=n}):j<n/\n<nds.length/\(Ab nds n).depth=(Ab nds j).depth+1/\(Ab nds n).num=2*(Ab nds j).num+u/\ ∀k,k<o.length->ln (o.getD k 0)=(Ab nds n).depth->krf M ln (o.take k)≠(Ab nds n).num*2^(M-(Ab nds n).depth):=by
 cases h.good j u f g with
 |leaf k hk h1=>rw[h1]at e;cases e
 |node n' h1 h2 a b c d=>
  rw[h1]at e;obtain rfl:n'=n:=by injection e
  exact⟨h2,a,b,c,d⟩
 |none h1=>rw[h1]at e;injection e with _ _ e;omega
theorem Bn.same(h:Bn M ln o nds){j j':Nat}(b:j<nds.length)(a:j'<nds.length)(hd:(Ab nds j).depth=(Ab nds j').depth)(hn:(Ab nds j).num=(Ab nds j').num):j=j':=by
 rcases Aa7 j j' with c|c|c
 ·have:=h.sorted j j' c a;unfold Ku at this;omega
 ·exact c
 ·have:=h.sorted j' j c b;unfold Ku at this;omega
theorem Bn.parent(h:Bn M ln o nds){j u j' c n:Nat}(d:j<nds.length)(g:u<2)(a:j'<nds.length)(b:c<2)(hn:0<n)(e:(Ab nds j).br u={node:=n})(f:(Ab nds j').br c={node:=n}):j=j'/\u=c:=by
 obtain⟨_,_,h1,h2,_⟩:=h.child d g hn e;obtain⟨_,_,i,k,_⟩:=h.child a b hn f;exact⟨h.same d a (by omega) (by omega),by omega⟩
theorem Bn.col_child(h:Bn M ln o nds)(hk:Hw M ln num o)(g: ∀b∈col,b∈o){j u n:Nat}(i:j<nds.length)(d:u<2)(hn:0<n)(e:(Ab nds j).br u={node:=n}):
  Aq ln num nds col n=(Aq ln num nds col j).filter fun b=>As ln num (Ab nds j).depth b==u:=by
 obtain⟨_,_,h1,h2,f⟩:=h.child i d hn e;unfold Aq;rw[List.filter_filter];refine List.filter_congr fun b hb=>?_;rw[Bool.eq_iff_iff,Bool.and_eq_true,beq_iff_eq];constructor
 ·intro k;obtain⟨a,c⟩:=Qe d h1 h2 k;exact⟨c,a⟩
 ·rintro⟨a,c⟩;exact Zm hk (g b hb) c h1 (by rw[h2,a]) f
theorem Kv.start(h:Bn M ln o nds):Kv ln num nds col 0 0 (col::List.replicate (nds.length-1) []):=by
 have d:=h.more;refine⟨by simp;omega,rfl,fun n j u hn b f c e=>?_⟩;have a:(col::List.replicate (nds.length-1) []).getD n []=[]:=by
  obtain⟨m,rfl⟩: ∃m,n=m+1:=⟨n-1,by omega⟩;rw[Aea,zG,Abp (by omega)];rfl
 exact⟨fun x=>by omega,fun x=>by rw[a];simp,fun _=>a⟩
theorem Kv.here(h:Kv ln num nds col i p cs)(hs:Bn M ln o nds)(d: ∀b∈col,b∈o)(c: ∀b∈o,0<ln b)(a: ∀b∈o,num b<2^ln b)(hi:i<nds.length):cs.getD i []=Aq ln num nds col i:=by
 by_cases e:i=0
 ·subst e;rw[h.root];unfold Aq;rw[List.filter_eq_self.2];intro b hb;refine zJ ⟨by rw[hs.root.1];exact c b (d b hb),?_⟩;rw[hs.root.1,hs.root.2,Adj];exact Nat.div_eq_of_lt (a b (d b hb))
 ·obtain⟨j,u,h1,h2,f⟩:=hs.par i (by omega) hi;exact(h.at_ i j u hi (by omega) h1 (by omega) f).1 h2
theorem Kv.leaf(h:Kv ln num nds col i p cs)(a:p<(Aq ln num nds col i).length){v:UInt8}(hb:(Ab nds i).br (As ln num (Ab nds i).depth ((Aq ln num nds col i).getD p 0))={whole:=true,val:=v}):Kv ln num nds col i (p+1) cs:=by
 refine⟨h.len,h.root,fun n j u hn c g f e=>?_⟩;obtain⟨h1,h2,d⟩:=h.at_ n j u hn c g f e;refine⟨h1,fun x=>?_,d⟩;subst x;rw[h2 rfl,zQ a,Abz];have b:(Aq ln num nds col j).getD p 0=(Aq ln num nds col j)[p]:=by rw[zG,zH a];rfl
 rw[b]at hb;have:(As ln num (Ab nds j).depth (Aq ln num nds col j)[p]==u)=false:=by
  rw[Aat];intro x;rw[x,e]at hb;cases hb
 rw[Abq,this];simp
theorem Kv.node(h:Kv ln num nds col i p cs)(hs:Bn M ln o nds)(hi:i<nds.length)(f:p<(Aq ln num nds col i).length){n:Nat}(k:0<n)(hb:(Ab nds i).br (As ln num (Ab nds i).depth ((Aq ln num nds col i).getD p 0))={node:=n}):Kv ln num nds col i (p+1) (cs.set n (cs.getD n []++[(Aq ln num nds col i).getD p 0])):=by
 have q:=Fq ln num (Ab nds i).depth ((Aq ln num nds col i).getD p 0);obtain⟨v,r,_⟩:=hs.child hi q k hb;have b:n<cs.length:=by rw[h.len];exact r
 refine⟨by rw[Abb];exact h.len,by rw[Pv _ _ _ _ b,iN];exact h.root,fun m j u t d a l e=>?_⟩;obtain⟨h1,h2,s⟩:=h.at_ m j u t d a l e;have g:(Aq ln num nds col i).getD p 0=(Aq ln num nds col i)[p]:=by rw[zG,zH f];rfl
 by_cases x:n=m
 ·subst x;obtain⟨rfl,rfl⟩:=hs.parent l a hi q k e hb;refine⟨fun c=>by omega,fun _=>?_,fun c=>by omega⟩;rw[Pv _ _ _ _ b,if_pos rfl,h2 rfl,zQ f,Abz,Abq,g,if_pos (by simp)];rfl
 ·rw[Pv _ _ _ _ b,if_neg x];refine⟨h1,fun c=>?_,s⟩;subst c;rw[h2 rfl,zQ f,Abz];have:(As ln num (Ab nds j).depth (Aq ln num nds col j)[p]==u)=false:=by
   rw[Aat];intro y;rw[g,y,e]at hb;injection hb with _ _ hb;exact x hb.symm
  rw[Abq,this];simp
theorem Kv.next(h:Kv ln num nds col i (Aq ln num nds col i).length cs)(hs:Bn M ln o nds)(hk:Hw M ln num o)(g: ∀b∈col,b∈o):Kv ln num nds col (i+1) 0 cs:=by
 refine⟨h.len,h.root,fun n j u hn a f d e=>?_⟩;obtain⟨h1,h2,c⟩:=h.at_ n j u hn a f d e;refine⟨fun x=>?_,fun x=>?_,fun x=>c (by omega)⟩
 ·by_cases y:j=i
  ·subst y;rw[h2 rfl,Aaw];exact(hs.col_child hk g d f a e).symm
  ·exact h1 (by omega)
 ·rw[c (by omega)];simp
theorem Bn.goes(h:Bn M ln o nds)(hk:Hw M ln num o)(f: ∀b∈col,b∈o)(hi:i<nds.length)(j:p<(Aq ln num nds col i).length):
  (∃v,(Ab nds i).br (As ln num (Ab nds i).depth ((Aq ln num nds col i).getD p 0))={whole:=true,val:=v})\/ ∃n,0<n/\n<nds.length/\i<n/\(Ab nds i).br (As ln num (Ab nds i).depth ((Aq ln num nds col i).getD p 0))={node:=n}:=by
 have d:(Aq ln num nds col i).getD p 0=(Aq ln num nds col i)[p]:=by rw[zG,zH j];rfl
 have g:(Aq ln num nds col i)[p]∈Aq ln num nds col i:=z6 _;rw[d];generalize(Aq ln num nds col i)[p]=b at*;obtain⟨h1,h2⟩:=List.mem_filter.1 g;cases h.good i (As ln num (Ab nds i).depth b) hi (Fq _ _ _ _)with
 |leaf k hk a=>exact .inl ⟨_,a⟩
 |node n a c e=>exact .inr ⟨n,by omega,e,c,a⟩
 |none a c=>exact(Jv hk (f b h1) h2 c).elim
end
end Hm
namespace Hm
def Dl(d c:Nat):List Bool:=((List.range d).map fun i=>decide (c/2^i%2=1)).reverse
theorem By(d c:Nat):(Dl d c).length=d:=by simp[Dl]
theorem fS(d c u:Nat)(a:u<2):Dl (d+1) (2*c+u)=Dl d c++[decide (u=1)]:=by
 unfold Dl;rw[List.range_succ_eq_map,Abg,List.map_map,List.reverse_cons];congr 1
 ·congr 1;refine Acy fun i _=>?_;show decide ((2*c+u)/2^(i+1)%2=1)=_;rw[Abl,Ade (2^i),<-Ady,show(2*c+u)/2=c from by omega]
 ·congr 1;rw[Nat.pow_zero,Nat.div_one,show(2*c+u)%2=u from by omega]
theorem Uw(d c:Nat):Dl (d+1) c=Dl d (c/2)++[decide (c%2=1)]:=by
 have:=fS d (c/2) (c%2) (Nat.mod_lt _ (by omega));rwa[show 2*(c/2)+c%2=c from by omega]at this
theorem Kd(c:Nat): ∀l d,d<=l->(Dl l c).take d=Dl d (c/2^(l-d))
 |0,d,h=>by
  obtain rfl:d=0:=by omega
  rfl
 |l+1,d,h=>by
  by_cases e:d=l+1
  ·subst e;rw[Abd,Nat.pow_zero,Nat.div_one,Aap (by rw[By];omega)]
  ·rw[Uw,List.take_append_of_le_length (by rw[By];omega)];have:(Dl l (c/2)).take d=Dl d (c/2/2^(l-d)):=by
    have b:=fun a=>Kd a l d (by omega);exact b (c/2)
   rw[this,show l+1-d=(l-d)+1 from by omega,Abl,Ade,Ady]
def E5(l:List Bool):Nat:=l.foldl (fun a b=>2*a+b.toNat) 0
theorem s7(l:List Bool)(b:Bool):E5 (l++[b])=2*E5 l+b.toNat:=by simp[E5,List.foldl_append]
theorem Ot: ∀d c,c<2^d->E5 (Dl d c)=c
 |0,c,h=>by
  have:c=0:=by simpa using h
  subst this;rfl
 |d+1,c,h=>by
  rw[Uw,s7,Ot d (c/2) (by rw[Abl]at h;omega)]
  by_cases e:c%2=1
  ·rw[zJ e];show 2*(c/2)+1=c;omega
  ·rw[zM e];show 2*(c/2)+0=c;omega
theorem Ux(h:c<2^d)(b:a<2^d)(e:Dl d c=Dl d a):c=a:=by
 rw[<-Ot d c h,<-Ot d a b,e]
def Pa(a b:List Bool):Prop:=a.length<b.length\/a.length=b.length/\E5 a<E5 b
structure Gf(cd:UInt8->List Bool)(hs:List (List Bool)):Prop where
 srt:hs.Pairwise Pa
 mem: ∀h,h∈hs↔ ∃b,h.length<(cd b).length/\(cd b).take h.length=h
theorem Sz(a b:List Bool)(h:Pa a b): ¬Pa b a:=by unfold Pa at*;omega
theorem T4{α:Type}{r:α->α->Prop}(f: ∀a b,r a b-> ¬r b a): ∀{l m:List α},l.Pairwise r->m.Pairwise r->(∀x,x∈l↔x∈m)->l=m
 |[],[],_,_,_=>rfl
 |[],y::m,_,_,h=>absurd ((h y).2 (Aab ..)) (by simp)
 |x::l,[],_,_,h=>absurd ((h x).1 (Aab ..)) (by simp)
 |x::l,y::m,n,o,h=>by
  obtain⟨h1,h2⟩:=Ad0.1 n;obtain⟨j,k⟩:=Ad0.1 o;have i: ∀a,¬r a a:=fun a c=>f a a c c;have e:x=y:=by
   rcases List.mem_cons.1 ((h x).1 (Aab ..))with c|c
   ·exact c
   ·rcases List.mem_cons.1 ((h y).2 (Aab ..))with d|d
    ·exact d.symm
    ·exact absurd (h1 y d) (f _ _ (j x c))
  subst e;rw[T4 f h2 k fun z=>?_];constructor
  ·intro g;rcases List.mem_cons.1 ((h z).1 (Aae _ g))with c|c
   ·subst c;exact absurd (h1 z g) (i z)
   ·exact c
  ·intro g;rcases List.mem_cons.1 ((h z).2 (Aae _ g))with c|c
   ·subst c;exact absurd (j z g) (i z)
   ·exact c
theorem Gf.unique{cd:UInt8->List Bool}{hs a:List (List Bool)}(h:Gf cd hs)(b:Gf cd a):hs=a:=
 T4 Sz h.srt b.srt fun x=>(h.mem x).trans (b.mem x).symm
section
variable {M:Nat} {ln num:UInt8->Nat} {o:Aeg} {nds:List Nd} {col:Aeg}
theorem Bn.num_lt(h:Bn M ln o nds): ∀m n,n<=m->n<nds.length->(Ab nds n).num<2^(Ab nds n).depth
 |m,0,_,_=>by rw[h.root.1,h.root.2];decide
 |0,n+1,h1,_=>by omega
 |m+1,n+1,h1,h2=>by
  obtain⟨j,u,c,d,e⟩:=h.par (n+1) (by omega) h2;obtain⟨_,_,a,b,_⟩:=h.child (by omega) c (by omega) e;have:=Bn.num_lt h m j (by omega) (by omega);rw[a,b,Abl];omega
theorem Bn.some(h:Bn M ln o nds)(hk:Hw M ln num o)(i: ∀j,j<nds.length->(Ab nds j).br 0≠{}): ∀m n,nds.length-n<=m->n<nds.length-> ∃b∈o,Ee ln num (Ab nds n) b=true
 |0,n,h1,h2=>by omega
 |m+1,n,h1,h2=>by
  cases h.good n 0 h2 (by omega)with
  |leaf k a d g e=>
   refine⟨o.getD k 0,Rc a,zJ ⟨by omega,?_⟩⟩;have c:=hk.num k a;rw[<-e]at c;have f:=Nat.eq_of_mul_eq_mul_right (Acl _) c;rw[g,f,show(Ab nds n).depth+1-(Ab nds n).depth=1 from by omega];omega
  |node n' d g e c f=>
   obtain⟨b,hb,l⟩:=Bn.some h hk i m n' (by omega) e;exact⟨b,hb,(Qe (by omega) c f l).1⟩
  |none d=>exact absurd d (i n h2)
theorem Bn.node_of(h:Bn M ln o nds)(hk:Hw M ln num o)(a: ∀b∈o,num b<2^ln b){b:UInt8}(hb:b∈o): ∀d,d<ln b-> ∃n,n<nds.length/\(Ab nds n).depth=d/\(Ab nds n).num=num b/2^(ln b-d)
 |0,hd=>⟨0,h.more,h.root.1,by rw[h.root.2,Adj,Nat.div_eq_of_lt (a b hb)]⟩
 |d+1,hd=>by
  obtain⟨n,h1,h2,l⟩:=Bn.node_of h hk a hb d (by omega);have i:Ee ln num (Ab nds n) b=true:=zJ ⟨by omega,by rw[h2,l]⟩;have c:=Re i;cases h.good n (As ln num (Ab nds n).depth b) h1 (Fq _ _ _ _)with
  |leaf k g j e f=>
   have:=Ju hk hb i g e f;rw[this]at hd;omega
  |node n' j e f p m=>exact⟨n',f,by omega,by rw[m,<-c,h2]⟩
  |none j e=>exact(Jv hk hb i e).elim
def Ih(ln num:UInt8->Nat)(b:UInt8):List Bool:=Dl (ln b) (num b)
def Sf(nds:List Nd):List (List Bool):=(List.range nds.length).map fun j=>Dl (Ab nds j).depth (Ab nds j).num
theorem Bn.heads(h:Bn M ln o nds)(hk:Hw M ln num o)(q: ∀j,j<nds.length->(Ab nds j).br 0≠{})(c: ∀b∈o,num b<2^ln b)(hno: ∀b,0<ln b->b∈o):Gf (Ih ln num) (Sf nds):=by
 refine⟨?_,fun x=>?_⟩
 ·unfold Sf;rw[List.pairwise_map];refine(List.pairwise_lt_range (n:=nds.length)).imp_of_mem fun{i j} hi m e=>?_;have d:i<nds.length:=by simpa using hi
  have a:j<nds.length:=by simpa using m
  have:=h.sorted i j e a;unfold Pa;rw[By,By,Ot _ _ (h.num_lt i i (zK _) d),Ot _ _ (h.num_lt j j (zK _) a)];exact this
 ·unfold Sf Ih;rw[List.mem_map];constructor
  ·rintro⟨n,hn,rfl⟩;have f:n<nds.length:=by simpa using hn
   obtain⟨b,hb,p⟩:=h.some hk q (nds.length-n) n (zK _) f;obtain⟨h1,h2⟩:=Aay p;refine⟨b,by rw[By,By];exact h1,?_⟩;rw[By,Kd _ _ _ (by omega),h2]
  ·rintro⟨b,h1,h2⟩;rw[By]at h1;obtain⟨n,g,k,l⟩:=h.node_of hk c (hno b (by omega)) x.length h1;refine⟨n,by simpa using g,?_⟩;rw[k,l,<-Kd _ _ _ (by omega)];exact h2
def Ev(c h:List Bool):Bool:=decide (h.length<=c.length/\c.take h.length=h)
theorem Bn.begins(h:Bn M ln o nds)(hk:Hw M ln num o)(d: ∀b∈o,num b<2^ln b){n:Nat}(hn:n<nds.length){b:UInt8}(hb:b∈o)(g:0<ln b):Ev (Ih ln num b) (Dl (Ab nds n).depth (Ab nds n).num)=Ee ln num (Ab nds n) b:=by
 unfold Ev Ee Ih;rw[By,By];have f:=h.num_lt n n (zK _) hn;rw[decide_eq_decide];constructor
 ·rintro⟨h1,h2⟩;rw[Kd _ _ _ h1]at h2;have e:num b/2^(ln b-(Ab nds n).depth)=(Ab nds n).num:=by
   refine Ux ?_ f h2;have:=d b hb;rw[Nat.div_lt_iff_lt_mul (Acl _),<-Nat.pow_add,show(Ab nds n).depth+(ln b-(Ab nds n).depth)=ln b from by omega];exact this
  refine⟨Nat.lt_of_le_of_ne h1 fun c=>?_,e⟩
  by_cases e0:n=0
  ·subst e0;have:=h.root.1;omega
  ·obtain⟨j,u,l,m,i⟩:=h.par n (by omega) hn;obtain⟨_,_,_,_,hno⟩:=h.child (by omega) l (by omega) i;obtain⟨k,a,rfl⟩:=Jr hb;refine hno k a c.symm ?_;rw[<-hk.num k a,<-e,c,Abd,Nat.pow_zero,Nat.div_one]
 ·rintro⟨h1,h2⟩;refine⟨by omega,?_⟩;rw[Kd _ _ _ (by omega),h2]
theorem s8(b:UInt8)(d:Nat)(hd:d<ln b):(Ih ln num b).getD d false=decide (As ln num d b=1):=by
 unfold Ih As Dl;rw[zG,List.getElem?_reverse (by simpa using hd)];simp only[Aai,Acb];rw[Aah,Abn (by omega)];rfl
end
end Hm
namespace Hm
def Ff(nds:List Nd)(n s:Nat):List Nd:=nds.set n {Ab nds n with siz:=s}
def E1(nds:List Nd)(n s:Nat):List Nd:=nds.set n {Ab nds n with frm:=s}
structure Bl where
 len:Nat
 nds:List Nd
 ws:Aeh
def Ef(b:Br)(size:Nat)(st:Bl):Option Bl:=
 if b.whole then some {st with ws:=st.ws.set b.val.toNat size}
 else if 0<b.node then some {st with nds:=Ff st.nds b.node size}
 else if size=0 then some st else none
def Ke(f:Nat->Bool)(st:Bl)(i:Nat):Nat:=rk f (st.len+(Ab st.nds i).siz)-rk f st.len
def Ik(f:Nat->Bool)(a i:Nat)(st:Bl):Option Bl:=
 if a<st.len+(Ab st.nds i).siz then none
 else(Ef (Ab st.nds i).b0 ((Ab st.nds i).siz-Ke f st i) ⟨st.len+(Ab st.nds i).siz,E1 st.nds i st.len,st.ws⟩).bind (Ef (Ab st.nds i).b1 (Ke f st i))
def Ji(f:Nat->Bool)(a:Nat)(nds:List Nd)(total:Nat)(ws:Aeh):Nat->Option Bl
 |0=>some ⟨0,Ff nds 0 total,ws⟩
 |i+1=>(Ji f a nds total ws i).bind (Ik f a i)
def Qf(f:Nat->Bool)(a:Nat)(nds:List Nd)(total:Nat)(ws:Aeh):Option Bl:=Ji f a nds total ws nds.length
theorem Pb(nds:List Nd)(n s:Nat):(Ff nds n s).length=nds.length:=by simp[Ff]
theorem Ha(nds:List Nd)(n s:Nat):(E1 nds n s).length=nds.length:=by simp[E1]
theorem M0(nds:List Nd)(n s j:Nat)(h:n<nds.length):Ab (Ff nds n s) j=if n=j then{Ab nds j with siz:=s}else Ab nds j:=by
 unfold Ff
 by_cases e:n=j
 ·subst e;rw[if_pos rfl,G9 _ _ _ h]
 ·rw[if_neg e,Ja _ _ _ _ e]
theorem Ou(nds:List Nd)(n s j:Nat)(h:n<nds.length):Ab (E1 nds n s) j=if n=j then{Ab nds j with frm:=s}else Ab nds j:=by
 unfold E1
 by_cases e:n=j
 ·subst e;rw[if_pos rfl,G9 _ _ _ h]
 ·rw[if_neg e,Ja _ _ _ _ e]
def Zn(a b:Nd):Prop:=a.depth=b.depth/\a.num=b.num/\a.b0=b.b0/\a.b1=b.b1
def Jw(a b:List Nd):Prop:=a.length=b.length/\ ∀j,Zn (Ab a j) (Ab b j)
theorem Jw.refl(a:List Nd):Jw a a:=⟨rfl,fun _=>⟨rfl,rfl,rfl,rfl⟩⟩
theorem Jw.trans{a b c:List Nd}(h:Jw a b)(k:Jw b c):Jw a c:=
 ⟨h.1.trans k.1,fun j=>⟨(h.2 j).1.trans (k.2 j).1,(h.2 j).2.1.trans (k.2 j).2.1,(h.2 j).2.2.1.trans (k.2 j).2.2.1,(h.2 j).2.2.2.trans (k.2 j).2.2.2⟩⟩
theorem Y0(nds:List Nd)(n s:Nat):Jw (Ff nds n s) nds:=by
 refine⟨Pb _ _ _,fun j=>?_⟩
 by_cases h:n<nds.length
 ·rw[M0 _ _ _ _ h];split<;>exact⟨rfl,rfl,rfl,rfl⟩
 ·unfold Ff;rw[Ado (by omega)];exact⟨rfl,rfl,rfl,rfl⟩
theorem Qg(nds:List Nd)(n s:Nat):Jw (E1 nds n s) nds:=by
 refine⟨Ha _ _ _,fun j=>?_⟩
 by_cases h:n<nds.length
 ·rw[Ou _ _ _ _ h];split<;>exact⟨rfl,rfl,rfl,rfl⟩
 ·unfold E1;rw[Ado (by omega)];exact⟨rfl,rfl,rfl,rfl⟩
theorem Jb{b:Br}{st st':Bl}(h:Ef b size st=some st'):Jw st'.nds st.nds/\st'.len=st.len/\st'.ws.length=st.ws.length:=by
 unfold Ef at h;split at h
 ·cases h;exact⟨Jw.refl _,rfl,by simp⟩
 ·split at h
  ·cases h;exact⟨Y0 _ _ _,rfl,rfl⟩
  ·split at h
   ·cases h;exact⟨Jw.refl _,rfl,rfl⟩
   ·cases h
theorem M9{st st':Bl}(h:Ik f c i st=some st'):Jw st'.nds st.nds/\st'.len=st.len+(Ab st.nds i).siz/\st'.len<=c/\st'.ws.length=st.ws.length:=by
 unfold Ik at h;split at h
 ·cases h
 ·rename_i hn;obtain⟨s1,h1,h2⟩:=Option.bind_eq_some_iff.1 h;have a:=Jb h1;have b:=Jb h2;have d:st'.len=st.len+(Ab st.nds i).siz:=b.2.1.trans a.2.1;exact⟨b.1.trans (a.1.trans (Qg _ _ _)),d,by omega,b.2.2.trans a.2.2⟩
theorem Lq{f:Nat->Bool}{c:Nat}{nds:List Nd}{total:Nat}{ws:Aeh}: ∀{i:Nat} {st:Bl},Ji f c nds total ws i=some st->Jw st.nds nds/\st.ws.length=ws.length
 |0,st,h=>by cases h;exact⟨Y0 _ _ _,rfl⟩
 |i+1,st,h=>by
  obtain⟨s1,h1,h2⟩:=Option.bind_eq_some_iff.1 h;have a:=Lq h1;have b:=M9 h2;exact⟨b.1.trans a.1,b.2.2.2.trans a.2⟩
theorem Zo{b:Br}{st st':Bl}(h:Ef b size st=some st')(hs:size<=T)(a: ∀j,(Ab st.nds j).siz<=T): ∀j,(Ab st'.nds j).siz<=T:=by
 unfold Ef at h;split at h
 ·cases h;exact a
 ·split at h
  ·cases h;intro j;show(Ab (Ff st.nds b.node size) j).siz<=T
   by_cases hn:b.node<st.nds.length
   ·rw[M0 _ _ _ _ hn];split
    ·exact hs
    ·exact a j
   ·unfold Ff;rw[Ado (by omega)];exact a j
  ·split at h
   ·cases h;exact a
   ·cases h
theorem Uy(f:Nat->Bool)(st:Bl)(i:Nat):Ke f st i<=(Ab st.nds i).siz:=by
 unfold Ke;have:=bT f (Adz st.len (Ab st.nds i).siz);omega
theorem mE{b:Nat}{st st':Bl}(h:Ik f b i st=some st')(a: ∀j,(Ab st.nds j).siz<=T): ∀j,(Ab st'.nds j).siz<=T:=by
 unfold Ik at h;split at h
 ·cases h
 ·obtain⟨s1,h1,h2⟩:=Option.bind_eq_some_iff.1 h;have d:=Uy f st i;have hi:=a i;have c: ∀j,(Ab (E1 st.nds i st.len) j).siz<=T:=fun j=>by
   by_cases hn:i<st.nds.length
   ·rw[Ou _ _ _ _ hn];split
    ·exact a j
    ·exact a j
   ·unfold E1;rw[Ado (by omega)];exact a j
  exact Zo h2 (by omega) (Zo h1 (by omega) c)
theorem dV{f:Nat->Bool}{b:Nat}{nds:List Nd}{total:Nat}{ws:Aeh}(a: ∀j,(Ab nds j).siz<=total): ∀{i:Nat} {st:Bl},Ji f b nds total ws i=some st-> ∀j,(Ab st.nds j).siz<=total
 |0,st,h=>by
  cases h;intro j;show(Ab (Ff nds 0 total) j).siz<=total
  by_cases hn:0<nds.length
  ·rw[M0 _ _ _ _ hn];split
   ·exact zK _
   ·exact a j
  ·unfold Ff;rw[Ado (by omega)];exact a j
 |i+1,st,h=>by
  obtain⟨s1,h1,h2⟩:=Option.bind_eq_some_iff.1 h;exact mE h2 (dV a h1)
theorem Lc{nds:List Nd}{ws:Aeh}: ∀{i:Nat} {st:Bl},Ji f a nds total ws i=some st->st.len<=a
 |0,st,h=>by cases h;exact zZ _
 |i+1,st,h=>by
  obtain⟨s1,_,h2⟩:=Option.bind_eq_some_iff.1 h;exact(M9 h2).2.2.1
end Hm
namespace Hm
def Dg(nds:List Nd):Nat->Nat
 |0=>0
 |j+1=>Dg nds j+(Ab nds j).siz
def Jx(f:Nat->Bool)(nds:List Nd)(j u:Nat):Nat:=
 if u=1 then rk f (Dg nds j+(Ab nds j).siz)-rk f (Dg nds j)else(Ab nds j).siz-(rk f (Dg nds j+(Ab nds j).siz)-rk f (Dg nds j))
theorem Kf{a b:List Nd}: ∀{j:Nat},(∀k,k<j->(Ab a k).siz=(Ab b k).siz)->Dg a j=Dg b j
 |0,_=>rfl
 |j+1,h=>by rw[Dg,Dg,Kf (fun k hk=>h k (by omega)),h j (by omega)]
theorem pQ{a b:List Nd}(h: ∀k,k<=j->(Ab a k).siz=(Ab b k).siz):Jx f a j u=Jx f b j u:=by
 unfold Jx;rw[Kf (a:=a) (b:=b) (fun k hk=>h k (by omega)),h j (zK _)]
structure vR(b:Br)(size:Nat)(st st':Bl):Prop where
 len:st'.len=st.len
 other: ∀j,(b.whole=true\/j≠b.node\/b.node=0)->Ab st'.nds j=Ab st.nds j
 hit:b.whole=false->0<b.node->b.node<st.nds.length->Ab st'.nds b.node={Ab st.nds b.node with siz:=size}
 ws: ∀v:UInt8,¬(b.whole=true/\v=b.val)->st'.ws.getD v.toNat 0=st.ws.getD v.toNat 0
 wsHit:b.whole=true->st.ws.length=256->st'.ws.getD b.val.toNat 0=size
 none:b.whole=false->b.node=0->size=0
theorem s9(l:Aeh)(i j x:Nat)(h:i<l.length):(l.set i x).getD j 0=if i=j then x else l.getD j 0:=by
 rw[zG,List.getElem?_set]
 by_cases e:i=j
 ·rw[if_pos e,if_pos e,if_pos h];rfl
 ·rw[if_neg e,if_neg e,<-zG]
theorem iM(l:Aeh)(i j x:Nat)(h:i≠j):(l.set i x).getD j 0=l.getD j 0:=by
 rw[zG,Adc h,<-zG]
theorem Lr{b:Br}{st st':Bl}(h:Ef b size st=some st'):vR b size st st':=by
 unfold Ef at h
 by_cases a:b.whole=true
 ·rw[if_pos a]at h;cases h;refine⟨rfl,fun _ _=>rfl,fun c=>absurd a (by rw[c];decide),fun v g=>?_,fun _ d=>?_,fun c=>absurd a (by rw[c];decide)⟩
  ·exact iM _ _ _ _ fun e=>g ⟨a,UInt8.toNat_inj.1 e.symm⟩
  ·show(st.ws.set b.val.toNat size).getD b.val.toNat 0=size;rw[s9 _ _ _ _ (by rw[d];exact b.val.toNat_lt),if_pos rfl]
 ·have i:b.whole=false:=by simpa using a
  rw[if_neg a]at h
  by_cases hn:0<b.node
  ·rw[if_pos hn]at h;cases h;refine⟨rfl,fun j f=>?_,fun _ _ d=>?_,fun _ _=>rfl,fun c=>absurd c a,fun _ c=>by omega⟩
   ·show Ab (Ff st.nds b.node size) j=_;unfold Ff;rw[Ja];rcases f with c|c|c
    ·exact absurd c a
    ·exact fun e=>c e.symm
    ·omega
   ·show Ab (Ff st.nds b.node size) b.node=_;rw[M0 _ _ _ _ d,if_pos rfl]
  ·rw[if_neg hn]at h
   by_cases hs:size=0
   ·rw[if_pos hs]at h;cases h;exact⟨rfl,fun _ _=>rfl,fun _ c=>by omega,fun _ _=>rfl,fun c=>absurd c a,fun _ _=>hs⟩
   ·rw[if_neg hs]at h;cases h
structure Mc(f:Nat->Bool)(total i:Nat)(st:Bl):Prop where
 wl:st.ws.length=256
 root:(Ab st.nds 0).siz=total
 frm: ∀j,j<i->(Ab st.nds j).frm=Dg st.nds j
 len:st.len=Dg st.nds i
 leaf: ∀j u v,j<i->u<2->(Ab st.nds j).br u={whole:=true,val:=v}->st.ws.getD v.toNat 0=Jx f st.nds j u
 node: ∀j u n,j<i->u<2->0<n->(Ab st.nds j).br u={node:=n}->(Ab st.nds n).siz=Jx f st.nds j u
 none: ∀j u,j<i->u<2->(Ab st.nds j).br u={}->Jx f st.nds j u=0
 rest: ∀v:UInt8,(∀j u,j<i->u<2->(Ab st.nds j).br u≠{whole:=true,val:=v})->st.ws.getD v.toNat 0=0
section
variable {M:Nat} {ln num:UInt8->Nat} {o:Aeg} {nds:List Nd}
theorem Zn.br{a b:Nd}(h:Zn a b)(u:Nat):a.br u=b.br u:=by unfold Nd.br;rw[h.2.2.1,h.2.2.2]
theorem Bn.like{b:List Nd}(h:Bn M ln o nds)(a:Jw b nds):Bn M ln o b:=by
 refine⟨by rw[a.1];exact h.more,by rw[a.1];exact h.few,by rw[(a.2 0).1,(a.2 0).2.1];exact h.root,fun j u c g=>?_,fun j j' h1 h2=>?_,fun n h1 h2=>?_⟩
 ·rw[a.1]at c;exact(h.good j u c g).mono (fun j _=>(a.2 j).1) (fun j _=>(a.2 j).2.1) ((a.2 j).br u) (Acx a.1.symm) c
 ·have:=h.sorted j j' h1 (by rw[<-a.1];exact h2);unfold Ku at*;rw[(a.2 j).1,(a.2 j).2.1,(a.2 j').1,(a.2 j').2.1];exact this
 ·obtain⟨j,u,d,e,f⟩:=h.par n h1 (by rw[<-a.1];exact h2);exact⟨j,u,d,e,((a.2 j).br u).trans f⟩
theorem tA(hn:o.Nodup){i j:Nat}(hi:i<o.length)(a:j<o.length)(e:o.getD i 0=o.getD j 0):i=j:=by
 rw[zG,zH hi,zG,zH a]at e;have b:=List.pairwise_iff_getElem.1 (List.nodup_iff_pairwise_ne.1 hn);rcases Aa7 i j with c|c|c
 ·exact absurd e (b i j hi a c)
 ·exact c
 ·exact absurd e.symm (b j i a hi c)
theorem Bn.leaf_one(h:Bn M ln o nds)(hn:o.Nodup){j u j' d:Nat}{v:UInt8}(l:j<nds.length)(s:u<2)(c:j'<nds.length)(g:d<2)(e:(Ab nds j).br u={whole:=true,val:=v})(a:(Ab nds j').br d={whole:=true,val:=v}):j=j'/\u=d:=by
 cases h.good j u l s with
 |node n h1=>rw[h1]at e;cases e
 |none h1=>rw[h1]at e;cases e
 |leaf k hk h1 h2 i=>
  cases h.good j' d c g with
  |node n b=>rw[b]at a;cases a
  |none b=>rw[b]at a;cases a
  |leaf k' f b t r=>
   rw[h1]at e;rw[b]at a;have m:o.getD k 0=v:=by injection e
   have p:o.getD k' 0=v:=by injection a
   have q:=tA hn hk f (m.trans p.symm);subst q;rw[<-r]at i;have w:=Nat.eq_of_mul_eq_mul_right (Acl _) i;exact⟨h.same l c (by omega) (by omega),by omega⟩
theorem F7{b:Br}{v:UInt8}(h:b={whole:=true,val:=v}):b.whole=true/\b.val=v/\b.node=0:=by subst h;exact⟨rfl,rfl,rfl⟩
theorem Nu{b:Br}{n:Nat}(h:b={node:=n}):b.whole=false/\b.node=n:=by subst h;exact⟨rfl,rfl⟩
theorem Mc.step{W:Nat}{st st':Bl}(h:Mc f total i st)(hs:Bn M ln o st.nds)(hn:o.Nodup)(hi:i<st.nds.length)(O:Ik f W i st=some st'):Mc f total (i+1) st':=by
 have P:=M9 O;unfold Ik at O;split at O
 ·cases O
 ·obtain⟨s1,h1,h2⟩:=Option.bind_eq_some_iff.1 O;have a:=Lr h1;have b:=Lr h2;have T:=Jb h1;have X:=Uy f st i;have n0: ∀u,u<2-> ∀n,(Ab st.nds i).br u={node:=n}->n=0\/i<n/\n<st.nds.length:=fun u w n e=>by
   rcases Adn n with c|c
   ·exact .inl c
   ·have:=hs.child hi w c e;exact .inr ⟨this.1,this.2.1⟩
  have r:=hs.good i 0 hi (by omega);have m:=hs.good i 1 hi (by omega);have p:(Ab st.nds i).br 0=(Ab st.nds i).b0:=rfl;have d:(Ab st.nds i).br 1=(Ab st.nds i).b1:=rfl;have Z:(Ab st.nds i).b0.whole=true\/(Ab st.nds i).b0.node=0\/(i<(Ab st.nds i).b0.node/\(Ab st.nds i).b0.node<st.nds.length):=by
   cases r with
   |leaf k hk e=>rw[p]at e;exact .inl (F7 e).1
   |node n e K L=>rw[p]at e;right;right;rw[(Nu e).2];exact⟨K,L⟩
   |none e=>rw[p]at e;right;left;rw[e]
  have o1:(Ab st.nds i).b1.whole=true\/(Ab st.nds i).b1.node=0\/(i<(Ab st.nds i).b1.node/\(Ab st.nds i).b1.node<st.nds.length):=by
   cases m with
   |leaf k hk e=>rw[d]at e;exact .inl (F7 e).1
   |node n e K L=>rw[d]at e;right;right;rw[(Nu e).2];exact⟨K,L⟩
   |none e=>rw[d]at e;right;left;rw[e]
  have D: ∀j,Ab (E1 st.nds i st.len) j=if i=j then{Ab st.nds j with frm:=st.len}else Ab st.nds j:=fun j=>Ou _ _ _ _ hi;have low: ∀j,j<=i->Ab st'.nds j=if i=j then{Ab st.nds j with frm:=st.len}else Ab st.nds j:=fun j z=>by
   rw[b.other j (by rcases o1 with c|c|c;exact .inl c;exact .inr (.inr c);exact .inr (.inl (by omega))),a.other j (by rcases Z with c|c|c;exact .inl c;exact .inr (.inr c);exact .inr (.inl (by omega)))];exact D j
  have q: ∀j,j<=i->(Ab st'.nds j).siz=(Ab st.nds j).siz:=fun j z=>by rw[low j z];split<;>rfl
  have l: ∀j,j<=i-> ∀u,(Ab st'.nds j).br u=(Ab st.nds j).br u:=fun j z u=>by rw[low j z];split<;>rfl
  have N: ∀j,j<=i+1->Dg st'.nds j=Dg st.nds j:=fun j z=>Kf fun k hk=>q k (by omega);have Q: ∀j u,j<=i->Jx f st'.nds j u=Jx f st.nds j u:=fun j u z=>pQ fun k hk=>q k (by omega);have C:=h.len;have E:Jx f st.nds i 1=Ke f st i:=by unfold Jx Ke;rw[if_pos rfl,<-C]
  have F:Jx f st.nds i 0=(Ab st.nds i).siz-Ke f st i:=by unfold Jx Ke;rw[iN,<-C]
  have S:=T.2.2.trans h.wl;have Y:s1.nds.length=st.nds.length:=by have:=T.1.1;rw[this];exact Ha _ _ _
  have B: ∀v:UInt8,(Ab st.nds i).b0≠{whole:=true,val:=v}->(Ab st.nds i).b1≠{whole:=true,val:=v}->st'.ws.getD v.toNat 0=st.ws.getD v.toNat 0:=by
   intro v U V;rw[b.ws v ?_,a.ws v ?_]
   ·rintro⟨x,rfl⟩;cases r with
    |leaf k hk e=>rw[p]at e;rw[e]at U;exact U rfl
    |node n e=>rw[p]at e;rw[e]at x;cases x
    |none e=>rw[p]at e;rw[e]at x;cases x
   ·rintro⟨x,rfl⟩;cases m with
    |leaf k hk e=>rw[d]at e;rw[e]at V;exact V rfl
    |node n e=>rw[d]at e;rw[e]at x;cases x
    |none e=>rw[d]at e;rw[e]at x;cases x
  refine⟨P.2.2.2.trans h.wl,(q 0 (by omega)).trans h.root,fun j z=>?_,?_,fun j u v z w e=>?_,fun j u n z w t e=>?_,fun j u z w e=>?_,fun v R=>?_⟩
  ·rw[N j (by omega),low j (by omega)]
   by_cases c:i=j
   ·subst c;rw[if_pos rfl];exact C
   ·rw[if_neg c];exact h.frm j (by omega)
  ·rw[N (i+1) (zK _),Dg,<-C];exact P.2.1
  ·rw[l j (by omega) u]at e;rw[Q j u (by omega)]
   by_cases c:j=i
   ·subst c;rcases(show u=0\/u=1 by omega)with rfl|rfl
    ·have s:(Ab st.nds j).b0={whole:=true,val:=v}:=e;obtain⟨G,H,_⟩:=F7 s;rw[b.ws v ?_,<-H,a.wsHit G h.wl,F];rintro⟨x,y⟩;have g:(Ab st.nds j).br 1={whole:=true,val:=v}:=by
      cases m with
      |leaf k hk e=>rw[e];rw[d]at e;rw[e]at y;rw[y]
      |node n e=>rw[d]at e;rw[e]at x;cases x
      |none e=>rw[d]at e;rw[e]at x;cases x
     have:=hs.leaf_one hn hi (by omega) hi (by omega) e g;omega
    ·have s:(Ab st.nds j).b1={whole:=true,val:=v}:=e;obtain⟨G,H,_⟩:=F7 s;rw[<-H,b.wsHit G S,E]
   ·have A:j<st.nds.length:=by omega
    rw[B v (fun x=>?_) (fun x=>?_)]
    ·exact h.leaf j u v (by omega) w e
    ·have:=hs.leaf_one hn A w hi (by omega:0<2) e x;omega
    ·have:=hs.leaf_one hn A w hi (by omega:1<2) e x;omega
  ·rw[l j (by omega) u]at e;rw[Q j u (by omega)]
   by_cases c:j=i
   ·subst c;rcases(show u=0\/u=1 by omega)with rfl|rfl
    ·have s:(Ab st.nds j).b0={node:=n}:=e;obtain⟨G,H⟩:=Nu s;obtain⟨_,q4,_⟩:=hs.child hi (by omega) t e;rw[b.other n ?_]
     ·have:=a.hit G (by omega) (by show _<(E1 st.nds j st.len).length;rw[Ha];omega);rw[H]at this;rw[this,F]
     ·cases m with
      |leaf k hk g=>rw[d]at g;exact .inl (F7 g).1
      |node n' g K L=>
       right;left;intro x;rw[d]at g;rw[(Nu g).2]at x;subst x;have:=hs.parent hi (by omega:0<2) hi (by omega:1<2) t e g;omega
      |none g=>rw[d]at g;right;right;rw[g]
    ·have s:(Ab st.nds j).b1={node:=n}:=e;obtain⟨G,H⟩:=Nu s;obtain⟨_,q4,_⟩:=hs.child hi (by omega) t e;have:=b.hit G (by omega) (by omega);rw[H]at this;rw[this,E]
   ·have A:j<st.nds.length:=by omega
    have key:Ab st'.nds n=Ab (E1 st.nds i st.len) n:=by
     rw[b.other n ?_,a.other n ?_]
     ·cases r with
      |leaf k hk g=>rw[p]at g;exact .inl (F7 g).1
      |node n' g K L=>
       right;left;intro x;rw[(Nu (p▸g)).2]at x;subst x;have:=hs.parent A w hi (by omega) t e g;omega
      |none g=>rw[p]at g;right;right;rw[g]
     ·cases m with
      |leaf k hk g=>rw[d]at g;exact .inl (F7 g).1
      |node n' g K L=>
       right;left;intro x;rw[(Nu (d▸g)).2]at x;subst x;have:=hs.parent A w hi (by omega) t e g;omega
      |none g=>rw[d]at g;right;right;rw[g]
    rw[key,D n];have:=h.node j u n (by omega) w t e;split
    ·exact this
    ·exact this
  ·rw[l j (by omega) u]at e;rw[Q j u (by omega)]
   by_cases c:j=i
   ·subst c;rcases(show u=0\/u=1 by omega)with rfl|rfl
    ·have s:(Ab st.nds j).b0={}:=e;rw[F];exact a.none (by rw[s]) (by rw[s])
    ·have s:(Ab st.nds j).b1={}:=e;rw[E];exact b.none (by rw[s]) (by rw[s])
   ·exact h.none j u (by omega) w e
  ·rw[B v ?_ ?_]
   ·exact h.rest v fun j u z w=>by rw[<-l j (by omega) u];exact R j u (by omega) w
   ·have:=R i 0 (by omega) (by omega);rw[l i (zK _) 0]at this;exact this
   ·have:=R i 1 (by omega) (by omega);rw[l i (zK _) 1]at this;exact this
theorem Ov{f:Nat->Bool}{d total:Nat}{ws:Aeh}(hs:Bn M ln o nds)(hn:o.Nodup)(b:ws=List.replicate 256 0): ∀{i:Nat} {st:Bl},i<=nds.length->Ji f d nds total ws i=some st->Mc f total i st
 |0,st,_,h=>by
  cases h;have e:(Ab (Ff nds 0 total) 0).siz=total:=by rw[M0 _ _ _ _ hs.more,if_pos rfl]
  refine⟨by rw[b];exact zV,e,fun j a=>by omega,rfl,fun j u v a=>by omega,fun j u n a=>by omega,fun j u a=>by omega,fun v _=>?_⟩;show ws.getD v.toNat 0=0;rw[b,zG,Abp v.toNat_lt];rfl
 |i+1,st,hi,h=>by
  obtain⟨s1,h1,h2⟩:=Option.bind_eq_some_iff.1 h;have g:=Ov hs hn b (by omega) h1;have c:=(Lq h1).1;exact g.step (hs.like c) hn (by rw[c.1];omega) h2
end
end Hm
namespace Hm
def Kz:List Bool->Aeg->Aeg->Aeg
 |[],_,_=>[]
 |false::r,a,b=>a.headD 0::Kz r a.tail b
 |true::r,a,b=>b.headD 0::Kz r a b.tail
def De(bs:List Bool):Nat:=bs.countP (!·)
def ones(bs:List Bool):Nat:=bs.countP id
theorem Uz: ∀(bs:List Bool) (a b:Aeg),a.length=De bs->b.length=ones bs-> ∀x∈Kz bs a b,x∈a\/x∈b
 |[],_,_,_,_,x,e=>by simp[Kz]at e
 |false::r,a,b,f,hb,x,e=>by
  cases a with
  |nil=>simp[De]at f
  |cons y t=>
   rw[Kz]at e;rcases List.mem_cons.1 e with c|c
   ·exact .inl (by rw[c];exact Aab ..)
   ·rcases Uz r t b (by simpa[De]using f) (by simpa[ones]using hb) x c with d|d
    ·exact .inl (Aae _ d)
    ·exact .inr d
 |true::r,a,b,f,hb,x,e=>by
  cases b with
  |nil=>simp[ones]at hb
  |cons y t=>
   rw[Kz]at e;rcases List.mem_cons.1 e with c|c
   ·exact .inr (by rw[c];exact Aab ..)
   ·rcases Uz r a t (by simpa[De]using f) (by simpa[ones]using hb) x c with d|d
    ·exact .inl d
    ·exact .inr (Aae _ d)
theorem U0(g:UInt8->Bool): ∀(bs:List Bool) (a b:Aeg),a.length=De bs->b.length=ones bs->(∀x∈a,g x=false)->(∀x∈b,g x=true)->(Kz bs a b).map g=bs
 |[],_,_,_,_,_,_=>rfl
 |false::r,a,b,d,hb,c,h1=>by
  cases a with
  |nil=>simp[De]at d
  |cons y t=>
   rw[Kz,Abg,List.tail_cons,U0 g r t b (by simpa[De]using d) (by simpa[ones]using hb) (fun x e=>c x (Aae _ e)) h1];rw[show(y::t).headD 0=y from rfl,c y (Aab ..)]
 |true::r,a,b,d,hb,c,h1=>by
  cases b with
  |nil=>simp[ones]at hb
  |cons y t=>
   rw[Kz,Abg,List.tail_cons,U0 g r a t (by simpa[De]using d) (by simpa[ones]using hb) c (fun x e=>h1 x (Aae _ e))];rw[show(y::t).headD 0=y from rfl,h1 y (Aab ..)]
theorem Qh(g:UInt8->Bool): ∀(bs:List Bool) (a b:Aeg),a.length=De bs->b.length=ones bs->(∀x∈a,g x=false)->(∀x∈b,g x=true)->(Kz bs a b).filter (fun x=>!g x)=a/\(Kz bs a b).filter g=b
 |[],a,b,c,hb,_,_=>by
  rw[Aaz (l:=a) (by simpa[De]using c),Aaz (l:=b) (by simpa[ones]using hb)];exact⟨rfl,rfl⟩
 |false::r,a,b,c,hb,e,h1=>by
  cases a with
  |nil=>simp[De]at c
  |cons y t=>
   obtain⟨h,i⟩:=Qh g r t b (by simpa[De]using c) (by simpa[ones]using hb) (fun x f=>e x (Aae _ f)) h1;have d:=e y (Aab ..);rw[Kz,List.tail_cons,show(y::t).headD 0=y from rfl];constructor
   ·rw[Abq,d,h];rfl
   ·rw[Abq,d,i];rfl
 |true::r,a,b,c,hb,e,h1=>by
  cases b with
  |nil=>simp[ones]at hb
  |cons y t=>
   obtain⟨h,i⟩:=Qh g r a t (by simpa[De]using c) (by simpa[ones]using hb) e (fun x f=>h1 x (Aae _ f));have d:=h1 y (Aab ..);rw[Kz,List.tail_cons,show(y::t).headD 0=y from rfl];constructor
   ·rw[Abq,d,h];rfl
   ·rw[Abq,d,i];rfl
def Eb(f:Nat->Bool)(s k:Nat):List Bool:=(List.range k).map fun p=>f (s+p)
theorem Is(f:Nat->Bool)(s k:Nat):(Eb f s k).length=k:=by simp[Eb]
theorem fT(f:Nat->Bool)(s k:Nat):Eb f s (k+1)=Eb f s k++[f (s+k)]:=by simp[Eb,List.range_succ]
theorem U1(f:Nat->Bool)(s:Nat): ∀k,ones (Eb f s k)=rk f (s+k)-rk f s/\De (Eb f s k)+ones (Eb f s k)=k
 |0=>by simp[Eb,ones,De]
 |k+1=>by
  obtain⟨h1,h2⟩:=U1 f s k;have b:=Kn f (Adz s k);rw[fT];unfold ones De at*;rw[Ab0,Ab0];have e:rk f (s+(k+1))=rk f (s+k)+(f (s+k)).toNat:=rfl;cases a:f (s+k)with
  |false=>rw[e,a];simp;omega
  |true=>rw[e,a];simp;omega
structure Rep(ln num:UInt8->Nat)(f:Nat->Bool)(nds:List Nd)(col:Aeg):Prop where
 siz: ∀n,n<nds.length->(Ab nds n).siz=(Aq ln num nds col n).length
 frm: ∀n,n<nds.length->(Ab nds n).frm=Dg nds n
 bit: ∀n p,n<nds.length->p<(Ab nds n).siz->f ((Ab nds n).frm+p)=decide (As ln num (Ab nds n).depth ((Aq ln num nds col n).getD p 0)=1)
structure yX(ln num:UInt8->Nat)(o:Aeg)(f:Nat->Bool)(nds:List Nd)(C:Nat->Aeg)(n:Nat):Prop where
 mem: ∀b∈C n,b∈o/\Ee ln num (Ab nds n) b=true
 bits:(C n).map (fun b=>decide (As ln num (Ab nds n).depth b=1))=Eb f (Dg nds n) (Ab nds n).siz
 sub: ∀u m,u<2->0<m->(Ab nds n).br u={node:=m}->(C n).filter (fun b=>As ln num (Ab nds n).depth b==u)=C m
 leaf: ∀u v,u<2->(Ab nds n).br u={whole:=true,val:=v}->(C n).filter (fun b=>As ln num (Ab nds n).depth b==u)=List.replicate (Jx f nds n u) v
section
variable {M:Nat} {ln num:UInt8->Nat} {o:Aeg} {nds:List Nd} {f:Nat->Bool} {total:Nat}
theorem Bn.leaf_code(h:Bn M ln o nds)(hk:Hw M ln num o){j u:Nat}{v:UInt8}(g:j<nds.length)(i:u<2)(e:(Ab nds j).br u={whole:=true,val:=v}):v∈o/\Ee ln num (Ab nds j) v=true/\As ln num (Ab nds j).depth v=u/\ln v=(Ab nds j).depth+1:=by
 cases h.good j u g i with
 |node n h1=>rw[h1]at e;cases e
 |none h1=>rw[h1]at e;cases e
 |leaf k a h1 h2 f=>
  rw[h1]at e;have c:o.getD k 0=v:=by injection e
  have d:=hk.num k a;rw[<-f]at d;have b:=Nat.eq_of_mul_eq_mul_right (Acl _) d;rw[c]at h2 b;refine⟨c▸Rc a,zJ ⟨by omega,?_⟩,?_,h2⟩
  ·rw[h2,b,show(Ab nds j).depth+1-(Ab nds j).depth=1 from by omega];omega
  ·unfold As;rw[h2,b,show(Ab nds j).depth+1-1-(Ab nds j).depth=0 from by omega];omega
theorem tC(f:Nat->Bool)(nds:List Nd)(j:Nat):Jx f nds j 1=ones (Eb f (Dg nds j) (Ab nds j).siz)/\Jx f nds j 0=De (Eb f (Dg nds j) (Ab nds j).siz):=by
 obtain⟨h1,h2⟩:=U1 f (Dg nds j) (Ab nds j).siz;unfold Jx;rw[if_pos rfl,iN];omega
theorem dW{st:Bl}(hi:Mc f total nds.length st)(j:st.nds=nds)(h:Bn M ln o nds)(hk:Hw M ln num o): ∀m k,nds.length-k<=m->k<=nds.length-> ∃C:Nat->Aeg,∀n,k<=n->n<nds.length->yX ln num o f nds C n
 |0,k,h1,h2=>⟨fun _=>[],fun n s p=>by omega⟩
 |m+1,k,h1,h2=>by
  by_cases W:k=nds.length
  ·exact⟨fun _=>[],fun n s p=>by omega⟩
  have i:k<nds.length:=by omega
  obtain⟨C,O⟩:=dW hi j h hk m (k+1) (by omega) (by omega);have Nv: ∀u,u<2-> ∃l:Aeg,l.length=Jx f nds k u/\(∀b∈l,b∈o/\Ee ln num (Ab nds k) b=true/\As ln num (Ab nds k).depth b=u)/\(∀n,0<n->(Ab nds k).br u={node:=n}->l=C n)/\(∀v,(Ab nds k).br u={whole:=true,val:=v}->l=List.replicate (Jx f nds k u) v):=by
   intro u d;cases hg:h.good k u i d with
   |leaf kk V e s p=>
    refine⟨List.replicate (Jx f nds k u) (o.getD kk 0),by simp,fun b hb=>?_,fun n g a=>?_,fun v a=>?_⟩
    ·rw[Ac8 hb];obtain⟨A,B,K,_⟩:=h.leaf_code hk i d e;exact⟨A,B,K⟩
    ·rw[e]at a;cases a
    ·rw[e]at a;injection a with _ a;rw[a]
   |node n e s p T U Y Z=>
    have q:=O n (by omega) p;have w:=hi.node k u n i d (by omega) (by rw[j];exact e);rw[j]at w;refine⟨C n,?_,fun b hb=>?_,fun n' _ a=>?_,fun v a=>?_⟩
    ·have:=congrArg List.length q.bits;rw[Aai,Is]at this;rw[this,w]
    ·obtain⟨A,B⟩:=q.mem b hb;obtain⟨K,X⟩:=Qe d T U B;exact⟨A,K,X⟩
    ·rw[e]at a;injection a with _ _ a;rw[a]
    ·rw[e]at a;cases a
   |none e s=>
    have g:=hi.none k u i d (by rw[j];exact e);rw[j]at g;refine⟨[],by rw[g];rfl,fun b hb=>by simp at hb,fun n g a=>?_,fun v a=>?_⟩
    ·rw[e]at a;injection a with _ _ a;omega
    ·rw[e]at a;cases a
  obtain⟨y,a1,a2,a3,R⟩:=Nv 0 (by omega);obtain⟨z,b1,b2,b3,S⟩:=Nv 1 (by omega);obtain⟨F,E⟩:=tC f nds k;obtain⟨bs,t⟩:=gx (Eb f (Dg nds k) (Ab nds k).siz);rw[<-t]at F E;have L: ∀x∈y,decide (As ln num (Ab nds k).depth x=1)=false:=fun x H=>by rw[(a2 x H).2.2];rfl
  have N: ∀x∈z,decide (As ln num (Ab nds k).depth x=1)=true:=fun x H=>by rw[(b2 x H).2.2];rfl
  have P:=U0 (fun x=>decide (As ln num (Ab nds k).depth x=1)) bs y z (by rw[a1,E]) (by rw[b1,F]) L N;have D:=Qh (fun x=>decide (As ln num (Ab nds k).depth x=1)) bs y z (by rw[a1,E]) (by rw[b1,F]) L N;have Q:=Uz bs y z (by rw[a1,E]) (by rw[b1,F]);have r: ∀(l:Aeg) u,u<2->l.filter (fun b=>As ln num (Ab nds k).depth b==u)=l.filter (fun b=>if u=1 then decide (As ln num (Ab nds k).depth b=1)else !decide (As ln num (Ab nds k).depth b=1)):=fun l u d=>by
   refine List.filter_congr fun b _=>?_;have:=Fq ln num (Ab nds k).depth b;rcases(show u=0\/u=1 by omega)with rfl|rfl
   ·rw[iN];rcases(show As ln num (Ab nds k).depth b=0\/As ln num (Ab nds k).depth b=1 by omega)with e|e<;>rw[e]<;>rfl
   ·rw[if_pos rfl];rcases(show As ln num (Ab nds k).depth b=0\/As ln num (Ab nds k).depth b=1 by omega)with e|e<;>rw[e]<;>rfl
  refine⟨fun n=>if n=k then Kz bs y z else C n,fun n s p=>?_⟩
  by_cases e:n=k
  ·subst e;refine⟨fun b hb=>?_,?_,fun u G d g a=>?_,fun u v d a=>?_⟩
   ·rw[if_pos rfl]at hb;rcases Q b hb with c|c
    ·exact⟨(a2 b c).1,(a2 b c).2.1⟩
    ·exact⟨(b2 b c).1,(b2 b c).2.1⟩
   ·rw[if_pos rfl,P,t]
   ·obtain⟨A,B,_⟩:=h.child i d g a;rw[if_pos rfl,iN,r _ u d];rcases(show u=0\/u=1 by omega)with rfl|rfl
    ·rw[<-a3 G g a];simpa using D.1
    ·rw[<-b3 G g a];simpa using D.2
   ·rw[if_pos rfl,r _ u d];rcases(show u=0\/u=1 by omega)with rfl|rfl
    ·rw[<-R v a];simpa using D.1
    ·rw[<-S v a];simpa using D.2
  ·have q:=O n (by omega) p;refine⟨fun b hb=>?_,?_,fun u G d g a=>?_,fun u v d a=>?_⟩
   ·rw[if_neg e]at hb;exact q.mem b hb
   ·rw[if_neg e];exact q.bits
   ·obtain⟨A,B,_⟩:=h.child p d g a;rw[if_neg e,iN];exact q.sub u G d g a
   ·rw[if_neg e];exact q.leaf u v d a
theorem Bn.leaf_of(h:Bn M ln o nds)(hk:Hw M ln num o)(a: ∀b∈o,num b<2^ln b)(c: ∀b∈o,0<ln b){v:UInt8}(d:v∈o): ∃j u,j<nds.length/\u<2/\(Ab nds j).br u={whole:=true,val:=v}:=by
 have t:=c v d;obtain⟨n,h1,h2,p⟩:=h.node_of hk a d (ln v-1) (by omega);have l:Ee ln num (Ab nds n) v=true:=zJ ⟨by omega,by rw[h2,p]⟩;refine⟨n,As ln num (Ab nds n).depth v,h1,Fq _ _ _ _,?_⟩;cases h.good n (As ln num (Ab nds n).depth v) h1 (Fq _ _ _ _)with
 |leaf k i g e m=>
  rw[g,<-Ju hk d l i e m]
 |node n' g e m q r s=>
  have f:=Zm hk d l q r s;have:=(Aay f).1;omega
 |none g e=>exact(Jv hk d l e).elim
theorem Y1{st:Bl}(hi:Mc f total nds.length st)(a:st.nds=nds)(h:Bn M ln o nds)(hk:Hw M ln num o)(l: ∀b∈o,num b<2^ln b)(r: ∀b∈o,0<ln b):
  ∃col:Aeg,col.length=total/\(∀b∈col,b∈o)/\Rep ln num f nds col/\ ∀v:UInt8,st.ws.getD v.toNat 0=col.count v:=by
 obtain⟨C,i⟩:=dW hi a h hk nds.length 0 (by omega) (by omega);have k:=i 0 (zK _) h.more;have c: ∀b∈C 0,b∈o:=fun b hb=>(k.mem b hb).1;have len: ∀n,n<nds.length->(C n).length=(Ab nds n).siz:=fun n hn=>by
  have:=congrArg List.length (i n (zZ _) hn).bits;rwa[Aai,Is]at this
 have key: ∀m n,n<=m->n<nds.length->Aq ln num nds (C 0) n=C n:=by
  intro m;induction m with
  |zero=>
   intro n hn t;obtain rfl:n=0:=by omega
   unfold Aq;exact List.filter_eq_self.2 fun b hb=>(k.mem b hb).2
  |succ m ih=>
   intro n hn t
   by_cases e:n=0
   ·exact ih n (by omega) t
   ·obtain⟨j,u,d,g,x⟩:=h.par n (by omega) t;rw[h.col_child hk c (by omega) d (by omega) x,ih j (by omega) (by omega)];exact(i j (zZ _) (by omega)).sub u n d (by omega) x
 refine⟨C 0,?_,c,⟨fun n hn=>?_,fun n hn=>?_,fun n p hn z=>?_⟩,fun v=>?_⟩
 ·rw[len 0 h.more,<-a];exact hi.root
 ·rw[key n n (zK _) hn,len n hn]
 ·have:=hi.frm n hn;rwa[a]at this
 ·have y:=hi.frm n hn;rw[a]at y;rw[key n n (zK _) hn,y];have hb:=(i n (zZ _) hn).bits;have s:((C n).map (fun b=>decide (As ln num (Ab nds n).depth b=1)))[p]?=(Eb f (Dg nds n) (Ab nds n).siz)[p]?:=by rw[hb]
  have q:p<(C n).length:=by rw[len n hn];exact z
  rw[Aah,zH q]at s;unfold Eb at s;rw[Aah,Abn z]at s;rw[zG,zH q];exact(Aak s).symm
 ·by_cases w:v∈o
  ·obtain⟨j,u,g,d,e⟩:=h.leaf_of hk l r w;obtain⟨_,E,F,_⟩:=h.leaf_code hk g d e;have h1:=hi.leaf j u v g d (by rw[a];exact e);rw[a]at h1;have h2:=(i j (zZ _) g).leaf u v d e;rw[h1];have A:(C 0).count v=((C j).filter (fun b=>As ln num (Ab nds j).depth b==u)).count v:=by
    rw[<-key j j (zK _) g,List.count_filter (by rw[F];exact Acr u)];unfold Aq;rw[List.count_filter E]
   rw[A,h2,List.count_replicate_self]
  ·have D:(C 0).count v=0:=List.count_eq_zero.2 fun B=>w (c v B);rw[D];refine hi.rest v fun j u g d e=>?_;rw[a]at e;exact w (h.leaf_code hk g d e).1
end
end Hm
end Go.Proofs.YtegnkfdbmmndaaaGreat
