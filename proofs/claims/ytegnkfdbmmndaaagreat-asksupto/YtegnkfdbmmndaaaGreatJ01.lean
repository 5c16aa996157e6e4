import Derived.Test.YtegnkfdbmmndaaaGreatJ00

set_option maxHeartbeats 8000000
namespace Go.Proofs.YtegnkfdbmmndaaaGreat
open Hm Go.Proofs.Tryz
namespace Hm
def J0(f:Nat→Bool):Nat:=(f 0).toNat+2*(f 1).toNat+4*(f 2).toNat+8*(f 3).toNat+16*(f 4).toNat+32*(f 5).toNat+64*(f 6).toNat+128*(f 7).toNat
theorem Abm(f:Nat→Bool):J0 f<256:=by
 have h: ∀b:Bool,b.toNat≤1:=fun b=>by cases b<;>decide
 have:=h (f 0);have:=h (f 1);have:=h (f 2);have:=h (f 3);have:=h (f 4);have:=h (f 5);have:=h (f 6);have:=h (f 7);unfold J0;omega
theorem Agw(f:Nat→Bool)(h: ∀j,j<8→f j=false):J0 f=0:=by
 unfold J0;rw[h 0 (by omega),h 1 (by omega),h 2 (by omega),h 3 (by omega),h 4 (by omega),h 5 (by omega),h 6 (by omega),h 7 (by omega)];rfl
theorem Pu(f g:Nat→Bool)(h: ∀j,j<8→f j=g j):J0 f=J0 g:=by
 unfold J0;rw[h 0 (by omega),h 1 (by omega),h 2 (by omega),h 3 (by omega),h 4 (by omega),h 5 (by omega),h 6 (by omega),h 7 (by omega)]
def Ey(a b c d e f g h:Bool):Nat:=a.toNat+2*b.toNat+4*c.toNat+8*d.toNat+16*e.toNat+32*f.toNat+64*g.toNat+128*h.toNat
theorem or0: ∀a b c d e f g h,Ey a b c d e f g h|||1=Ey true b c d e f g h:=by decide
theorem or1: ∀a b c d e f g h,Ey a b c d e f g h|||2=Ey a true c d e f g h:=by decide
theorem or2: ∀a b c d e f g h,Ey a b c d e f g h|||4=Ey a b true d e f g h:=by decide
theorem or3: ∀a b c d e f g h,Ey a b c d e f g h|||8=Ey a b c true e f g h:=by decide
theorem or4: ∀a b c d e f g h,Ey a b c d e f g h|||16=Ey a b c d true f g h:=by decide
theorem or5: ∀a b c d e f g h,Ey a b c d e f g h|||32=Ey a b c d e true g h:=by decide
theorem or6: ∀a b c d e f g h,Ey a b c d e f g h|||64=Ey a b c d e f true h:=by decide
theorem or7: ∀a b c d e f g h,Ey a b c d e f g h|||128=Ey a b c d e f g true:=by decide
theorem Abn(f:Nat→Bool)(j:Nat)(a:j<8):J0 f|||2^j=J0 (fun k=>if k=j then true else f k):=by
 show Ey (f 0) (f 1) (f 2) (f 3) (f 4) (f 5) (f 6) (f 7)|||2^j=_
 match j,a with
 |0,_=>exact or0 _ _ _ _ _ _ _ _
 |1,_=>exact or1 _ _ _ _ _ _ _ _
 |2,_=>exact or2 _ _ _ _ _ _ _ _
 |3,_=>exact or3 _ _ _ _ _ _ _ _
 |4,_=>exact or4 _ _ _ _ _ _ _ _
 |5,_=>exact or5 _ _ _ _ _ _ _ _
 |6,_=>exact or6 _ _ _ _ _ _ _ _
 |7,_=>exact or7 _ _ _ _ _ _ _ _
def F9(bits:List Bool)(i:Nat):Nat:=J0 fun j=>bits.getD (8*i+j) false
def Ag(bits:List Bool):Arc:=(List.range ((bits.length+7)/8)).map fun i=>UInt8.ofNat (F9 bits i)
theorem Bi(bits:List Bool):(Ag bits).length=(bits.length+7)/8:=by simp[Ag]
theorem Qs(bits:List Bool)(i:Nat):F9 bits i<256:=Abm _
theorem Hb(bits:List Bool)(i:Nat)(h:i<(Ag bits).length):(Ag bits)[i]=UInt8.ofNat (F9 bits i):=by simp[Ag]
theorem Zd(bits:List Bool)(c k:Nat):(bits++List.replicate c false).getD k false=bits.getD k false:=by
 simp only[Am4]
 by_cases h:k<bits.length
 ·rw[An6 h]
 ·rw[Ans (by omega),Anx (by omega:bits.length≤k)]
  by_cases h2:k-bits.length<c
  ·rw[Ao1 h2];rfl
  ·rw[Anx (by simp;omega)]
theorem Rt(bits:List Bool)(c:Nat):Ag (bits++List.replicate c false)=Ag bits++List.replicate ((bits.length+c+7)/8-(bits.length+7)/8) 0:=by
 apply Aon
 ·simp[Bi];omega
 ·intro i h1 h2;have b:i<(bits.length+c+7)/8:=by simpa[Bi]using h1
  rw[Hb]
  by_cases h:i<(bits.length+7)/8
  ·rw[List.getElem_append_left (by rw[Bi];exact h),Hb];congr 1;exact Pu _ _ fun j a=>Zd bits c _
  ·rw[List.getElem_append_right (by rw[Bi];omega),List.getElem_replicate];have:F9 (bits++List.replicate c false) i=0:=Agw _ fun j a=>by
    rw[Zd];simp only[Am4];rw[Anx (by omega)];rfl
   rw[this];rfl
theorem Abo(bits:List Bool)(at_ k:Nat)(h:at_<bits.length):(bits.set at_ true).getD k false=if k=at_ then true else bits.getD k false:=by
 simp only[Am4,List.getElem?_set]
 by_cases e:at_=k
 ·subst e;simp[h]
 ·rw[if_neg e,if_neg (fun x=>e x.symm)]
theorem Sj(bits:List Bool)(at_:Nat)(h:at_<bits.length):Ag (bits.set at_ true)=(Ag bits).set (at_/8) (UInt8.ofNat (F9 bits (at_/8)|||2^(at_%8))):=by
 apply Aon
 ·simp[Bi]
 ·intro i h1 h2;have b:i<(bits.length+7)/8:=by simpa[Bi]using h1
  rw[Hb,Aql]
  by_cases e:at_/8=i
  ·rw[if_pos e,e];congr 1;rw[F9,F9,Abn _ _ (by omega)];refine Pu _ _ fun j a=>?_;rw[Abo _ _ _ h]
   by_cases e2:j=at_%8
   ·rw[if_pos (by omega),if_pos e2]
   ·rw[if_neg (by omega),if_neg e2]
  ·rw[if_neg e,Hb];congr 1;refine Pu _ _ fun j a=>?_;rw[Abo _ _ _ h,if_neg (by omega)]
theorem Akl(bits:List Bool)(b:Bool):(bits++[false]).set bits.length b=bits++[b]:=by
 simp
end Hm
namespace Hm
def Am(bs:Arc)(k:Nat):Bool:=decide ((bs.getD (k/8) 0).toNat/2^(k%8)%2=1)
def rk(f:Nat→Bool):Nat→Nat
 |0=>0
 |k+1=>rk f k+(f k).toNat
theorem Sk(b:Bool):b.toNat≤1:=by cases b<;>decide
theorem Qt(f:Nat→Bool): ∀k,rk f k≤k
 |0=>Ane _
 |k+1=>by have:=Qt f k;have:=Sk (f k);rw[rk];omega
theorem Wc(f:Nat→Bool)(a:Nat): ∀b,rk f (a+b)=rk f a+rk (fun j=>f (a+j)) b
 |0=>rfl
 |b+1=>by
  show rk f (a+b)+(f (a+b)).toNat=rk f a+(rk (fun j=>f (a+j)) b+(f (a+b)).toNat);rw[Wc f a b];omega
theorem Ln(f:Nat→Bool){a b:Nat}(h:a≤b):rk f a≤rk f b:=by
 obtain⟨c,rfl⟩:=Nat.le.dest h;rw[Wc];omega
theorem Yb(f:Nat→Bool){a b:Nat}(h:a≤b):rk f b+a≤rk f a+b:=by
 obtain⟨c,rfl⟩:=Nat.le.dest h;rw[Wc];have:=Qt (fun j=>f (a+j)) c;omega
theorem Abp{f g:Nat→Bool}: ∀{k:Nat},(∀j,j<k→f j=g j)→rk f k=rk g k
 |0,_=>rfl
 |k+1,h=>by rw[rk,rk,Abp (fun j a=>h j (by omega)),h k (by omega)]
theorem Ama(bs:Arc)(k j:Nat)(a:j<8):Am bs (8*k+j)=decide ((bs.getD k 0).toNat/2^j%2=1):=by
 unfold Am;rw[show(8*k+j)/8=k from by omega,show(8*k+j)%8=j from by omega]
theorem bt0: ∀a b c d e f g h,decide (Ey a b c d e f g h/2^0%2=1)=a:=by decide
theorem bt1: ∀a b c d e f g h,decide (Ey a b c d e f g h/2^1%2=1)=b:=by decide
theorem bt2: ∀a b c d e f g h,decide (Ey a b c d e f g h/2^2%2=1)=c:=by decide
theorem bt3: ∀a b c d e f g h,decide (Ey a b c d e f g h/2^3%2=1)=d:=by decide
theorem bt4: ∀a b c d e f g h,decide (Ey a b c d e f g h/2^4%2=1)=e:=by decide
theorem bt5: ∀a b c d e f g h,decide (Ey a b c d e f g h/2^5%2=1)=f:=by decide
theorem bt6: ∀a b c d e f g h,decide (Ey a b c d e f g h/2^6%2=1)=g:=by decide
theorem bt7: ∀a b c d e f g h,decide (Ey a b c d e f g h/2^7%2=1)=h:=by decide
theorem Aiy(f:Nat→Bool)(j:Nat)(a:j<8):decide (J0 f/2^j%2=1)=f j:=by
 show decide (Ey (f 0) (f 1) (f 2) (f 3) (f 4) (f 5) (f 6) (f 7)/2^j%2=1)=_
 match j,a with
 |0,_=>exact bt0 _ _ _ _ _ _ _ _
 |1,_=>exact bt1 _ _ _ _ _ _ _ _
 |2,_=>exact bt2 _ _ _ _ _ _ _ _
 |3,_=>exact bt3 _ _ _ _ _ _ _ _
 |4,_=>exact bt4 _ _ _ _ _ _ _ _
 |5,_=>exact bt5 _ _ _ _ _ _ _ _
 |6,_=>exact bt6 _ _ _ _ _ _ _ _
 |7,_=>exact bt7 _ _ _ _ _ _ _ _
theorem Nb(bits:List Bool)(k:Nat):Am (Ag bits) k=bits.getD k false:=by
 unfold Am
 by_cases h:k/8<(Ag bits).length
 ·rw[Am4,Am5 h];show decide (((Ag bits)[k/8]).toNat/2^(k%8)%2=1)=_;rw[Hb,Aoa,Ao7 (Qs bits (k/8))];unfold F9;rw[Aiy _ _ (by omega),show 8*(k/8)+k%8=k from by omega]
 ·rw[Am4,Anx (by omega)];rw[Bi]at h;rw[Am4,Anx (by omega:bits.length≤k)];simp
end Hm
namespace Hm
structure Br where
 whole:Bool:=false
 val:UInt8:=0
 node:Nat:=0
structure Nd where
 depth:Nat:=0
 num:Nat:=0
 frm:Nat:=0
 siz:Nat:=0
 b0:Br:={}
 b1:Br:={}
def Nd.put(n:Nd)(s:Nat)(b:Br):Nd:=if s=0 then{n with b0:=b}else{n with b1:=b}
def Nd.br(n:Nd)(s:Nat):Br:=if s=0 then n.b0 else n.b1
def Ab(nds:List Nd)(i:Nat):Nd:=nds.getD i {}
def B7(nds:List Nd)(i s:Nat)(b:Br):List Nd:=nds.set i ((Ab nds i).put s b)
def Fs(ln:UInt8→Nat)(i s:Nat)(nds:List Nd):Arc→List Nd×Arc
 |[]=>(nds,[])
 |b::r=>if ln b=(Ab nds i).depth+1 then(B7 nds i s {whole:=true,val:=b},r)
  else(B7 nds i s {node:=nds.length}++[{depth:=(Ab nds i).depth+1,num:=2*(Ab nds i).num+s}],b::r)
def Ao(ln:UInt8→Nat)(o:Arc):Nat→List Nd×Arc
 |0=>([{}],o)
 |t+1=>Fs ln (t/2) (t%2) (Ao ln o t).1 (Ao ln o t).2
theorem Ig(nds:List Nd)(i j:Nat)(x:Nd)(h:i≠j):Ab (nds.set i x) j=Ab nds j:=by
 unfold Ab;rw[Am4,Ap9 h,←Am4]
theorem Gt(nds:List Nd)(i:Nat)(x:Nd)(h:i<nds.length):Ab (nds.set i x) i=x:=by
 unfold Ab;rw[Am4,Aqu h];rfl
theorem Ko(nds l:List Nd)(i:Nat)(h:i<nds.length):Ab (nds++l) i=Ab nds i:=by
 unfold Ab;rw[Am4,An6 h,←Am4]
theorem Lx(nds:List Nd)(x:Nd):Ab (nds++[x]) nds.length=x:=by
 unfold Ab;rw[Am4,Ans (Ane _)];simp
theorem Ce(nds:List Nd)(i s:Nat)(b:Br):(B7 nds i s b).length=nds.length:=by simp[B7]
theorem Aiz(n:Nd)(s:Nat)(b:Br):(n.put s b).depth=n.depth:=by unfold Nd.put;split<;>rfl
theorem Amb(n:Nd)(s:Nat)(b:Br):(n.put s b).num=n.num:=by unfold Nd.put;split<;>rfl
theorem Aej(n:Nd)(s:Nat)(b:Br):(n.put s b).br s=b:=by unfold Nd.put Nd.br;split<;>simp_all
theorem Ai0(n:Nd)(s u:Nat)(b:Br)(hs:s<2)(a:u<2)(h:s≠u):(n.put s b).br u=n.br u:=by
 unfold Nd.put Nd.br;rcases(show s=0∧u=1∨s=1∧u=0 by omega)with⟨rfl,rfl⟩|⟨rfl,rfl⟩<;>rfl
theorem Fr(nds:List Nd)(i s:Nat)(b:Br)(hi:i<nds.length)(j:Nat):(Ab (B7 nds i s b) j).depth=(Ab nds j).depth:=by
 unfold B7
 by_cases e:i=j
 ·subst e;rw[Gt _ _ _ hi,Aiz]
 ·rw[Ig _ _ _ _ e]
theorem J5(nds:List Nd)(i s:Nat)(b:Br)(hi:i<nds.length)(j:Nat):(Ab (B7 nds i s b) j).num=(Ab nds j).num:=by
 unfold B7
 by_cases e:i=j
 ·subst e;rw[Gt _ _ _ hi,Amb]
 ·rw[Ig _ _ _ _ e]
theorem Jh(nds:List Nd)(i s:Nat)(b:Br)(hi:i<nds.length):(Ab (B7 nds i s b) i).br s=b:=by
 unfold B7;rw[Gt _ _ _ hi,Aej]
theorem Js(nds:List Nd)(i s j u:Nat)(b:Br)(hi:i<nds.length)(hs:s<2)(a:u<2)(h: ¬(i=j∧s=u)):(Ab (B7 nds i s b) j).br u=(Ab nds j).br u:=by
 unfold B7
 by_cases e:i=j
 ·subst e;rw[Gt _ _ _ hi,Ai0 _ _ _ _ hs a (fun e=>h ⟨rfl,e⟩)]
 ·rw[Ig _ _ _ _ e]
def krf(M:Nat)(ln:UInt8→Nat)(o:Arc):Nat:=(o.map fun b=>2^(M-ln b)).sum
theorem Qu(M:Nat)(ln:UInt8→Nat)(a b:Arc):krf M ln (a++b)=krf M ln a+krf M ln b:=by simp[krf]
theorem Vq(M:Nat)(ln:UInt8→Nat)(o:Arc)(k:Nat)(h:k<o.length):krf M ln (o.take (k+1))=krf M ln (o.take k)+2^(M-ln (o.getD k 0)):=by
 rw[Anh h,Qu];congr 1;rw[Am4,Am5 h];simp[krf]
theorem Abq(M:Nat)(ln:UInt8→Nat)(o:Arc){k k':Nat}(h:k≤k'):krf M ln (o.take k)≤krf M ln (o.take k'):=by
 have e:o.take k=(o.take k').take k:=by rw[List.take_take,Ap7 h]
 rw[e]
 conv=>rhs;rw[←Ao5 k (o.take k'),Qu]
 omega
theorem Abr(M:Nat)(ln:UInt8→Nat)(o:Arc){k k':Nat}(h:k<k')(hk:k<o.length):krf M ln (o.take k)<krf M ln (o.take k'):=by
 have h1:=Vq M ln o k hk;have h2:=Abq M ln o (k:=k+1) (k':=k') h;have:=App (M-ln (o.getD k 0));omega
theorem Akm(M:Nat)(ln:UInt8→Nat)(o:Arc)(k:Nat):krf M ln (o.take k)+krf M ln (o.drop k)=krf M ln o:=by
 rw[←Qu,Ao5]
theorem Abs(M e:Nat)(ln:UInt8→Nat): ∀o:Arc,(∀b∈o,e≤ln b)→krf M ln o≤o.length*2^(M-e)
 |[],_=>by simp[krf]
 |b::r,h=>by
  have h1:=Abs M e ln r (fun x a=>h x (Anr _ a));have h2:=h b (Anl ..);have c:2^(M-ln b)≤2^(M-e):=Ao9 (by omega) (by omega);have e1:krf M ln (b::r)=2^(M-ln b)+krf M ln r:=by simp[krf]
  rw[e1,An8,Ape];omega
structure Ua(M:Nat)(ln:UInt8→Nat)(o:Arc):Prop where
 asc:o.Pairwise fun a b=>ln a≤ln b
 pos: ∀b∈o,0<ln b
 short: ∀b∈o,ln b≤M
 sum:krf M ln o=2^M
inductive Wd (M:Nat) (ln:UInt8→Nat) (o:Arc) (nds:List Nd) (j u:Nat):Prop
 |leaf (k:Nat) (hk:k<o.length) (h:(Ab nds j).br u={whole:=true,val:=o.getD k 0}) (hd:ln (o.getD k 0)=(Ab nds j).depth+1) (hn:(2*(Ab nds j).num+u)*2^(M-ln (o.getD k 0))=krf M ln (o.take k))
 |node (n:Nat) (h:(Ab nds j).br u={node:=n}) (h1:j<n) (h2:n<nds.length) (hd:(Ab nds n).depth=(Ab nds j).depth+1) (hn:(Ab nds n).num=2*(Ab nds j).num+u) (hno: ∀k,k<o.length→ln (o.getD k 0)=(Ab nds n).depth→krf M ln (o.take k)≠(Ab nds n).num*2^(M-(Ab nds n).depth)) (hM:(Ab nds n).depth<M)
 |none (h:(Ab nds j).br u={}) (hno: ∀k,k<o.length→(Ab nds j).depth+1≤ln (o.getD k 0)→(2*(Ab nds j).num+u)*2^(M-((Ab nds j).depth+1))≤krf M ln (o.take k)→(2*(Ab nds j).num+u+1)*2^(M-((Ab nds j).depth+1))≤krf M ln (o.take k))
def Jy(a b:Nd):Prop:=a.depth<b.depth∨a.depth=b.depth∧a.num<b.num
theorem Jy.trans{a b c:Nd}(h1:Jy a b)(h2:Jy b c):Jy a c:=by
 unfold Jy at*;omega
structure I0(M:Nat)(ln:UInt8→Nat)(o:Arc)(t:Nat)(nds:List Nd)(left:Arc)(i s d jp k F:Nat):Prop where
 ht:t=2*i+s
 hs:s<2
 hleft:left=o.drop k
 hk:k≤o.length
 ij:i≤jp
 ij0:i=jp→s=0
 jn:jp≤nds.length
 lo: ∀j,i≤j→j<jp→(Ab nds j).depth=d∧(Ab nds j).num+(jp-j)=2^d
 hi: ∀j,jp≤j→j<nds.length→(Ab nds j).depth=d+1∧(Ab nds j).num=F+(j-jp)
 hF:F*2^(M-(d+1))=krf M ln (o.take k)
 dM:d+1≤M
 bal:2*2^d+s=F+(nds.length-jp)+2*(jp-i)
 deep: ∀b∈left,d<ln b
 deep2:jp<nds.length→d+2≤M∧ ∀b∈left,d+1<ln b
 count:2*i+s+1=k+nds.length
 good: ∀j u,u<2→2*j+u<t→Wd M ln o nds j u
 sorted: ∀j j',j<j'→j'<nds.length→Jy (Ab nds j) (Ab nds j')
 root:(Ab nds 0).depth=0∧(Ab nds 0).num=0
 more:0<nds.length
 par: ∀n,0<n→n<nds.length→ ∃j u,u<2∧2*j+u<t∧j<n∧(Ab nds j).br u={node:=n}
 full: ∀j u,u<2→2*j+u<t→(Ab nds j).br u≠{}
theorem I0.start{M:Nat}{ln:UInt8→Nat}{o:Arc}(h:Ua M ln o)(hM:1≤M):I0 M ln o 0 [{}] o 0 0 0 1 0 0 where
 ht:=rfl
 hs:=by omega
 hleft:=by simp
 hk:=Ann _
 ij:=by omega
 ij0:=by omega
 jn:=by simp
 lo:=fun j h1 h2=>by
  obtain rfl:j=0:=by omega
  exact⟨rfl,rfl⟩
 hi:=fun j h1 h2=>by simp at h2;omega
 hF:=by simp[krf]
 dM:=by omega
 bal:=by simp
 deep:=h.pos
 deep2:=fun h=>by simp at h
 count:=by simp
 good:=fun j u _ h=>by omega
 sorted:=fun j j' h1 h2=>by simp at h2;omega
 root:=⟨rfl,rfl⟩
 more:=by simp
 par:=fun n h1 h2=>by simp at h2;omega
 full:=fun j u _ h=>by omega
theorem Sl{M d:Nat}(h:d+1≤M):(2:Nat)^M=2*2^d*2^(M-(d+1)):=by
 rw[←Nat.pow_succ',←Nat.pow_add];congr 1;omega
theorem I0.norm{M:Nat}{ln:UInt8→Nat}{o left:Arc}{t i s d jp k F:Nat}{nds:List Nd}(h:I0 M ln o t nds left i s d jp k F)(hi:i<nds.length): ∃d jp F,i<jp∧I0 M ln o t nds left i s d jp k F:=by
 by_cases e:i=jp
 ·have hs:=h.ij0 e;subst e hs;obtain⟨h1,h2⟩:=h.deep2 hi;have hb:=h.bal;refine⟨d+1,nds.length,2*F,hi,?_⟩;exact{h with
   ij:=Nat.le_of_lt hi
   ij0:=fun e=>by omega
   jn:=Ane _
   lo:=fun j a b=>by
    obtain⟨c,f⟩:=h.hi j a b;refine⟨c,?_⟩;rw[f,Aoz];omega
   hi:=fun j a b=>by omega
   hF:=by
    rw[←h.hF,show M-(d+1)=(M-(d+1+1))+1 from by omega,Aoz,Aqh 2 F,Aqn,Aqh 2]
   dM:=h1
   bal:=by rw[Aoz];omega
   deep:=h2
   deep2:=fun h=>by omega}
 ·exact⟨d,jp,F,by have:=h.ij;omega,h⟩
theorem I0.left_ne{M:Nat}{ln:UInt8→Nat}{o left:Arc}{t i s d jp k F:Nat}{nds:List Nd}(h:I0 M ln o t nds left i s d jp k F)(a:Ua M ln o)(hi:i<jp):k<o.length:=by
 refine Nat.lt_of_le_of_ne h.hk fun e=>?_;have h1:=h.hF;rw[e,Aof,a.sum,Sl h.dM]at h1;have h2:=Nat.eq_of_mul_eq_mul_right (App _) h1;have:=h.bal;have:=h.hs;omega
theorem I0.bound{M:Nat}{ln:UInt8→Nat}{o left:Arc}{t i s d jp k F:Nat}{nds:List Nd}(h:I0 M ln o t nds left i s d jp k F)(g:Ua M ln o):nds.length+1≤o.length:=by
 have h1:=Akm M ln o k;rw[g.sum,←h.hF,Sl h.dM]at h1;have a:(o.drop k).length=o.length-k:=Aoi ..;have hb:=h.bal;have hk:=h.hk;have hs:=h.hs;have m:=h.count;have j:=h.ij;have l:=h.jn
 by_cases e:jp<nds.length
 ·obtain⟨hM,h2⟩:=h.deep2 e;rw[h.hleft]at h2;have b:=Abs M (d+2) ln (o.drop k) h2;have e2:2^(M-(d+1))=2*2^(M-(d+2)):=by rw[←Nat.pow_succ'];congr 1;omega
  rw[e2]at h1;have c:(2*2^d*2)*2^(M-(d+2))≤(F*2+(o.length-k))*2^(M-(d+2)):=by
   rw[Ape,←a]
   calc _=2*2^d*(2*2^(M-(d+2))):=by rw[Aqn]
    _=F*(2*2^(M-(d+2)))+krf M ln (o.drop k):=h1.symm
    _≤_:=by rw[Aqn F 2];exact Nat.add_le_add_left b _
  have f:=Nat.le_of_mul_le_mul_right c (App _);have:i=jp→s=0:=h.ij0;omega
 ·have h2:=h.deep;rw[h.hleft]at h2;have b:=Abs M (d+1) ln (o.drop k) h2;have c:(2*2^d)*2^(M-(d+1))≤(F+(o.length-k))*2^(M-(d+1)):=by
   rw[Ape,←a,←h1];exact Nat.add_le_add_left b _
  have f:=Nat.le_of_mul_le_mul_right c (App _);omega
theorem Mg(o:Arc)(k:Nat)(h:k<o.length):o.drop k=o.getD k 0::o.drop (k+1):=by
 rw[An7 h,Am4,Am5 h];rfl
theorem Wd.mono{M:Nat}{ln:UInt8→Nat}{o:Arc}{nds nds':List Nd}{j u:Nat}(hd: ∀j,j<nds.length→(Ab nds' j).depth=(Ab nds j).depth)(hn: ∀j,j<nds.length→(Ab nds' j).num=(Ab nds j).num)(hb:(Ab nds' j).br u=(Ab nds j).br u)(g:nds.length≤nds'.length)(b:j<nds.length)(h:Wd M ln o nds j u):Wd M ln o nds' j u:=by
 cases h with
 |leaf k hk h1 h2 a=>exact .leaf k hk (hb.trans h1) (by rw[hd j b];exact h2) (by rw[hn j b];exact a)
 |node n h1 h2 a c d e f=>exact .node n (hb.trans h1) h2 (by omega) (by rw[hd j b,hd n a];exact c) (by rw[hn j b,hn n a];exact d) (by rw[hd n a,hn n a];exact e) (by rw[hd n a];exact f)
 |none h1 h2=>exact .none (hb.trans h1) (by rw[hd j b,hn j b];exact h2)
theorem Abt{o:Arc}{ln:UInt8→Nat}(h:o.Pairwise fun a b=>ln a≤ln b){i j:Nat}(e:i≤j)(d:j<o.length):ln (o.getD i 0)≤ln (o.getD j 0):=by
 rcases Aoq i j with c|c
 ·rw[Am4,Am5 (by omega:i<o.length),Am4,Am5 d];exact List.pairwise_iff_getElem.1 h i j (by omega) d c
 ·obtain rfl:i=j:=by omega
  exact Ane _
theorem Aek{o:Arc}{k:Nat}{b:UInt8}(h:b∈o.drop k): ∃k',k≤k'∧k'<o.length∧b=o.getD k' 0:=by
 obtain⟨n,hn,e⟩:=Aog h;rw[Aoi]at hn;refine⟨k+n,by omega,by omega,?_⟩;rw[Am4,Am5 (by omega)];rw[List.getElem_drop]at e;exact e.symm
theorem Pi{o:Arc}{k:Nat}(h:k<o.length):o.getD k 0∈o:=by
 rw[Am4,Am5 h];exact Anm _
theorem I0.step{M:Nat}{ln:UInt8→Nat}{o left:Arc}{t i s d jp k F:Nat}{nds:List Nd}(h:I0 M ln o t nds left i s d jp k F)(w:Ua M ln o)(hi:i<jp):
  ∃k' F',I0 M ln o (t+1) (Fs ln i s nds left).1 (Fs ln i s nds left).2 (i+(s+1)/2) ((s+1)%2) d jp k' F':=by
 have hk:=h.left_ne w hi;have hs:=h.hs;have a:i<nds.length:=by have:=h.jn;omega
 obtain⟨hd,K⟩:=h.lo i (Ane _) hi;have m:left=o.getD k 0::o.drop (k+1):=by rw[h.hleft];exact Mg o k hk
 have p:o.getD k 0∈left:=by rw[m];exact Anl ..
 have E:=h.deep _ p;have z:=w.short _ (Pi hk);have I:=h.bal;have v:=h.count;have L:=h.ij;have N:=h.jn;have e1:Fs ln i s nds left=if ln (o.getD k 0)=(Ab nds i).depth+1 then(B7 nds i s {whole:=true,val:=o.getD k 0},o.drop (k+1))
  else(B7 nds i s {node:=nds.length}++[{depth:=(Ab nds i).depth+1,num:=2*(Ab nds i).num+s}],o.getD k 0::o.drop (k+1)):=by rw[m];rfl
 rw[e1]
 by_cases c:ln (o.getD k 0)=d+1
 ·rw[if_pos (by rw[hd];exact c)];have O:jp=nds.length:=by
   rcases Aoq jp nds.length with x|x
   ·have:=(h.deep2 x).2 _ p;omega
   ·omega
  have hF:krf M ln (o.take (k+1))=(F+1)*2^(M-(d+1)):=by
   rw[Vq M ln o k hk,←h.hF,c,Ape,Nat.one_mul]
  have H:2*(Ab nds i).num+s=F:=by omega
  refine⟨k+1,F+1,?_⟩;exact{
   ht:=by have:=h.ht;omega
   hs:=by omega
   hleft:=rfl
   hk:=hk
   ij:=by omega
   ij0:=by omega
   jn:=by rw[Ce];omega
   lo:=fun j h1 h2=>by
    rw[Fr _ _ _ _ a,J5 _ _ _ _ a];exact h.lo j (by omega) h2
   hi:=fun j h1 h2=>by rw[Ce]at h2;omega
   hF:=hF.symm
   dM:=h.dM
   bal:=by rw[Ce];omega
   deep:=fun b hb=>h.deep b (by rw[m];exact Anr _ hb)
   deep2:=fun x=>by rw[Ce]at x;omega
   count:=by rw[Ce];omega
   good:=fun j u f l=>by
    by_cases e:j=i∧u=s
    ·obtain⟨rfl,rfl⟩:=e;refine .leaf k hk (Jh _ _ _ _ a) (by rw[Fr _ _ _ _ a,hd];exact c) ?_;rw[J5 _ _ _ _ a,H,c,h.hF]
    ·have ht:=h.ht;refine(h.good j u f (by omega)).mono (fun j _=>Fr _ _ _ _ a j) (fun j _=>J5 _ _ _ _ a j) (Js _ _ _ _ _ _ a hs f (fun x=>e ⟨x.1.symm,x.2.symm⟩)) (by rw[Ce];omega) (by omega)
   sorted:=fun j j' h1 h2=>by
    rw[Ce]at h2;unfold Jy;rw[Fr _ _ _ _ a,J5 _ _ _ _ a,Fr _ _ _ _ a,J5 _ _ _ _ a];exact h.sorted j j' h1 h2
   root:=by rw[Fr _ _ _ _ a,J5 _ _ _ _ a];exact h.root
   more:=by rw[Ce];exact h.more
   par:=fun n h1 h2=>by
    rw[Ce]at h2;obtain⟨j,u,g,B,C,D⟩:=h.par n h1 h2;have ht:=h.ht;exact⟨j,u,g,by omega,C,(Js _ _ _ _ _ _ a hs g (by omega)).trans D⟩
   full:=fun j u f l=>by
    have ht:=h.ht
    by_cases e:j=i∧u=s
    ·obtain⟨rfl,rfl⟩:=e;rw[Jh _ _ _ _ a];intro c;cases c
    ·rw[Js _ _ _ _ _ _ a hs f (fun x=>e ⟨x.1.symm,x.2.symm⟩)];exact h.full j u f (by omega)}
 ·rw[if_neg (by rw[hd];exact c)];obtain⟨x,A⟩: ∃x:Nd,x={depth:=(Ab nds i).depth+1,num:=2*(Ab nds i).num+s}:=⟨_,rfl⟩;have xd:x.depth=d+1:=by rw[A,←hd]
  have xn:x.num=F+(nds.length-jp):=by rw[A];show 2*(Ab nds i).num+s=_;omega
  have xn2:x.num=2*(Ab nds i).num+s:=by rw[A]
  rw[←A];have J:(B7 nds i s {node:=nds.length}++[x]).length=nds.length+1:=by rw[Anf,Ce];rfl
  have old: ∀j,j<nds.length→Ab (B7 nds i s {node:=nds.length}++[x]) j=Ab (B7 nds i s {node:=nds.length}) j:=fun j q=>Ko _ _ _ (by rw[Ce];exact q);have new:Ab (B7 nds i s {node:=nds.length}++[x]) nds.length=x:=by
   have:=Lx (B7 nds i s {node:=nds.length}) x;rwa[Ce]at this
  have od: ∀j,j<nds.length→(Ab (B7 nds i s {node:=nds.length}++[x]) j).depth=(Ab nds j).depth:=fun j q=>by rw[old j q,Fr _ _ _ _ a]
  have on: ∀j,j<nds.length→(Ab (B7 nds i s {node:=nds.length}++[x]) j).num=(Ab nds j).num:=fun j q=>by rw[old j q,J5 _ _ _ _ a]
  have hno: ∀k',k'<o.length→ln (o.getD k' 0)=x.depth→krf M ln (o.take k')≠x.num*2^(M-x.depth):=by
   intro k' r P e;rcases Aoq k' k with y|y
   ·have h1:=Abr M ln o y r;rw[e,←h.hF,xd,xn]at h1;have:=Apa (2^(M-(d+1))) (show F≤F+(nds.length-jp) by omega);omega
   ·have:=Abt w.asc y r;omega
  refine⟨k,F,?_⟩;generalize Q:B7 nds i s {node:=nds.length}++[x]=G at*;show I0 M ln o (t+1) G (o.getD k 0::o.drop (k+1)) (i+(s+1)/2) ((s+1)%2) d jp k F;exact{
   ht:=by have:=h.ht;omega
   hs:=by omega
   hleft:=by rw[←m,h.hleft]
   hk:=h.hk
   ij:=by omega
   ij0:=by omega
   jn:=by omega
   lo:=fun j h1 h2=>by
    rw[od j (by omega),on j (by omega)];exact h.lo j (by omega) h2
   hi:=fun j h1 h2=>by
    by_cases e:j=nds.length
    ·subst e;rw[new];exact⟨xd,xn⟩
    ·rw[od j (by omega),on j (by omega)];exact h.hi j h1 (by omega)
   hF:=h.hF
   dM:=h.dM
   bal:=by omega
   deep:=by rw[←m];exact h.deep
   deep2:=fun _=>by
    refine⟨by omega,fun b hb=>?_⟩;rw[←m,h.hleft]at hb;obtain⟨k',h1,h2,rfl⟩:=Aek hb;have:=Abt w.asc h1 h2;omega
   count:=by omega
   good:=fun j u f l=>by
    by_cases e:j=i∧u=s
    ·obtain⟨rfl,rfl⟩:=e;refine .node nds.length ?_ a (by omega) (by rw[new,od j a,xd,hd]) (by rw[new,on j a,xn2]) (by rw[new];exact hno) (by rw[new];omega);rw[old j a];exact Jh _ _ _ _ a
    ·have ht:=h.ht;refine(h.good j u f (by omega)).mono od on ?_ (by omega) (by omega);rw[old j (by omega)];exact Js _ _ _ _ _ _ a hs f (fun x=>e ⟨x.1.symm,x.2.symm⟩)
   sorted:=fun j j' h1 h2=>by
    by_cases e:j'=nds.length
    ·subst e;rw[new];have last:Jy (Ab nds (nds.length-1)) x:=by
      unfold Jy;rcases Aoq jp nds.length with y|y
      ·obtain⟨g,B⟩:=h.hi (nds.length-1) (by omega) (by omega);omega
      ·obtain⟨g,B⟩:=h.lo (nds.length-1) (by omega) (by omega);omega
     have l2:Jy (Ab G (nds.length-1)) x:=by
      unfold Jy at*;rw[od _ (by omega),on _ (by omega)];exact last
     by_cases e2:j=nds.length-1
     ·rw[e2];exact l2
     ·refine Jy.trans ?_ l2;unfold Jy;rw[od _ (by omega),on _ (by omega),od _ (by omega),on _ (by omega)];exact h.sorted j _ (by omega) (by omega)
    ·unfold Jy;rw[od _ (by omega),on _ (by omega),od _ (by omega),on _ (by omega)];exact h.sorted j j' h1 (by omega)
   root:=by rw[od 0 h.more,on 0 h.more];exact h.root
   more:=by omega
   par:=fun n h1 h2=>by
    have ht:=h.ht
    by_cases e:n=nds.length
    ·refine⟨i,s,hs,by omega,by omega,?_⟩;rw[old i a,Jh _ _ _ _ a,e]
    ·obtain⟨j,u,g,B,C,D⟩:=h.par n h1 (by omega);refine⟨j,u,g,by omega,C,?_⟩;rw[old j (by omega)];exact(Js _ _ _ _ _ _ a hs g (by omega)).trans D
   full:=fun j u f l=>by
    have ht:=h.ht
    by_cases e:j=i∧u=s
    ·obtain⟨rfl,rfl⟩:=e;rw[old j a,Jh _ _ _ _ a];intro c;injection c with _ _ c;omega
    ·rw[old j (by omega),Js _ _ _ _ _ _ a hs f (fun x=>e ⟨x.1.symm,x.2.symm⟩)];exact h.full j u f (by omega)}
structure Bo(M:Nat)(ln:UInt8→Nat)(o:Arc)(nds:List Nd):Prop where
 more:0<nds.length
 few:nds.length≤255
 root:(Ab nds 0).depth=0∧(Ab nds 0).num=0
 good: ∀j u,j<nds.length→u<2→Wd M ln o nds j u
 sorted: ∀j j',j<j'→j'<nds.length→Jy (Ab nds j) (Ab nds j')
 par: ∀n,0<n→n<nds.length→ ∃j u,u<2∧j<n∧(Ab nds j).br u={node:=n}
structure Ends(M:Nat)(ln:UInt8→Nat)(o:Arc)(N:Nat):Prop where
 len:(Ao ln o (2*N)).1.length=N
 more: ∀i,i<N→i<(Ao ln o (2*i)).1.length
 few: ∀t,t≤2*N→(Ao ln o t).1.length≤255
 left:(Ao ln o (2*N)).2=[]
 nodes:Bo M ln o (Ao ln o (2*N)).1
 side0:o≠[]→ ∀j,j<N→(Ab (Ao ln o (2*N)).1 j).br 0≠{}
theorem Sm{M:Nat}{ln:UInt8→Nat}{o:Arc}(a:Ua M ln o)(hM:1≤M)(N:Nat)(h: ∀i,i<N→i<(Ao ln o (2*i)).1.length): ∀t,t≤2*N→ ∃d jp k F,I0 M ln o t (Ao ln o t).1 (Ao ln o t).2 (t/2) (t%2) d jp k F
 |0,_=>⟨0,1,0,0,I0.start a hM⟩
 |t+1,ht=>by
  obtain⟨d,jp,k,F,ih⟩:=Sm a hM N h t (by omega);have hi:t/2<(Ao ln o t).1.length:=by
   rcases(show t%2=0∨t%2=1 by omega)with c|c
   ·have:=h (t/2) (by omega);rwa[show 2*(t/2)=t from by omega]at this
   ·have h1:=ih.ij0;have h2:=ih.ij;have b:=ih.jn;omega
  obtain⟨d',jp',F',h1,h2⟩:=ih.norm hi;obtain⟨k2,F2,b⟩:=h2.step a h1;refine⟨d',jp',k2,F2,?_⟩;rw[show(t+1)/2=t/2+(t%2+1)/2 from by omega,show(t+1)%2=(t%2+1)%2 from by omega];exact b
theorem Agx{M:Nat}{ln:UInt8→Nat}{o:Arc}(b:Ua M ln o)(hM:1≤M)(A:o.length≤256): ∃N,0<N∧Ends M ln o N:=by
 have key: ∃N,(Ao ln o (2*N)).1.length≤N∧ ∀i,i<N→i<(Ao ln o (2*i)).1.length:=by
  have: ∀m,(∃N,(Ao ln o (2*N)).1.length≤N∧ ∀i,i<N→i<(Ao ln o (2*i)).1.length)∨ ∀i,i<m→i<(Ao ln o (2*i)).1.length:=by
   intro m;induction m with
   |zero=>exact .inr fun i h=>by omega
   |succ m ih=>
    rcases ih with ih|ih
    ·exact .inl ih
    ·rcases Aoq m (Ao ln o (2*m)).1.length with c|c
     ·refine .inr fun i hi=>?_
      by_cases e:i=m
      ·rw[e];exact c
      ·exact ih i (by omega)
     ·exact .inl ⟨m,c,ih⟩
  rcases this 257 with h|h
  ·exact h
  ·exfalso;obtain⟨d,jp,k,F,h1⟩:=Sm b hM 257 h (2*256) (by omega);have h2:=h1.bound b;have a:=h 256 (by omega);omega
 obtain⟨N,h1,h2⟩:=key;have inv:=Sm b hM N h2;obtain⟨d,jp,k,F,a⟩:=inv (2*N) (Ane _);have w:(Ao ln o (2*N)).1.length=N:=by
  have:=a.ij;have:=a.jn;omega
 have g:0<N:=by have:=a.more;omega
 have ebal:=a.bal;have e1:2*N/2=N:=by omega
 have e2:2*N%2=0:=by omega
 have q:=a.ij;have y:=a.jn;rw[e1]at ebal q;rw[e2]at ebal;have hk:k=o.length:=by
  refine Aq0 fun c=>?_;have f:k<o.length:=by have:=a.hk;omega
  have l:=Abr M ln o (k:=k) (k':=o.length) f f;rw[←a.hF,Aof,b.sum,Sl a.dM]at l;have r:=Nat.lt_of_mul_lt_mul_right l;omega
 refine⟨N,g,w,h2,fun t ht=>?_,?_,⟨a.more,?_,a.root,fun j u x z=>a.good j u z (by omega),a.sorted,fun n l r=>?_⟩,fun _ j x=>a.full j 0 (by omega) (by omega)⟩
 ·obtain⟨d',jp',k',F',p⟩:=inv t ht;have:=p.bound b;omega
 ·rw[a.hleft,hk,Apy]
 ·have:=a.bound b;omega
 ·obtain⟨j,u,p,_,s,v⟩:=a.par n l r;exact⟨j,u,p,s,v⟩
theorem Agy(M:Nat)(ln:UInt8→Nat):Ends M ln [] 1:=by
 refine⟨rfl,fun i hi=>?_,fun t ht=>?_,rfl,?_,fun c=>absurd rfl c⟩
 ·obtain rfl:i=0:=by omega
  exact Nat.zero_lt_one
 ·have: ∀t,(Ao ln [] t)=([{}],[]):=fun t=>by
   induction t with
   |zero=>rfl
   |succ t ih=>rw[Ao,ih];rfl
  rw[this];exact(by decide:1≤255)
 ·refine⟨Nat.zero_lt_one,(by decide:1≤255),⟨rfl,rfl⟩,fun j u a d=>?_,fun j j' h1 h2=>?_,fun n h1 h2=>?_⟩
  ·have b:j<1:=a;obtain rfl:j=0:=by omega
   refine .none ?_ fun k hk=>by simp at hk
   rcases(show u=0∨u=1 by omega)with rfl|rfl<;>rfl
  ·have:j'<1:=h2;omega
  ·have:n<1:=h2;omega
theorem Ai1(M:Nat)(ln:UInt8→Nat)(b:UInt8)(hb:ln b=1):Ends M ln [b] 1:=by
 have e1:Ao ln [b] 1=([{b0:={whole:=true,val:=b}}],[]):=by
  show Fs ln 0 0 [{}] [b]=_;show(if ln b=(Ab [{}] 0).depth+1 then(B7 [{}] 0 0 {whole:=true,val:=b},([]:Arc))else _)=_;rw[if_pos (by exact hb)];rfl
 have e2:Ao ln [b] 2=([{b0:={whole:=true,val:=b}}],[]):=by
  show Fs ln 0 1 (Ao ln [b] 1).1 (Ao ln [b] 1).2=_;rw[e1];rfl
 refine⟨by rw[e2];rfl,fun i hi=>?_,fun t ht=>?_,by rw[e2],?_,fun _ j a=>?_⟩
 ·obtain rfl:i=0:=by omega
  exact Nat.zero_lt_one
 ·rcases(show t=0∨t=1∨t=2 by omega)with rfl|rfl|rfl
  ·exact(by decide:1≤255)
  ·rw[e1];exact(by decide:1≤255)
  ·rw[e2];exact(by decide:1≤255)
 ·rw[show 2*1=2 from rfl,e2];refine⟨Nat.zero_lt_one,(by decide:1≤255),⟨rfl,rfl⟩,fun j u a h=>?_,fun j j' h1 h2=>?_,fun n h1 h2=>?_⟩
  ·have d:j<1:=a;obtain rfl:j=0:=by omega
   rcases(show u=0∨u=1 by omega)with rfl|rfl
   ·refine .leaf 0 (by simp) rfl hb ?_;show(2*0+0)*_=_;simp[krf]
   ·refine .none rfl fun k hk h1 h2=>?_;have e:k<1:=hk;obtain rfl:k=0:=by omega
    exfalso;have f:(2*0+1)*2^(M-(0+1))≤krf M ln []:=h2;have g:krf M ln []=0:=rfl;have:=App (M-(0+1));omega
  ·have:j'<1:=h2;omega
  ·have:n<1:=h2;omega
 ·rw[show 2*1=2 from rfl,e2];obtain rfl:j=0:=by omega
  intro c;cases c
end Hm
namespace Hm
structure Hc(M:Nat)(ln num:UInt8→Nat)(o:Arc):Prop where
 num: ∀k,k<o.length→num (o.getD k 0)*2^(M-ln (o.getD k 0))=krf M ln (o.take k)
 short: ∀b∈o,ln b≤M
def D9(ln num:UInt8→Nat)(nd:Nd)(b:UInt8):Bool:=decide (nd.depth<ln b∧num b/2^(ln b-nd.depth)=nd.num)
def At(ln num:UInt8→Nat)(d:Nat)(b:UInt8):Nat:=num b/2^(ln b-1-d)%2
theorem Fg(ln num:UInt8→Nat)(d:Nat)(b:UInt8):At ln num d b<2:=Nat.mod_lt _ (by omega)
theorem Pj{ln num:UInt8→Nat}{nd:Nd}{b:UInt8}(h:D9 ln num nd b=true):num b/2^(ln b-(nd.depth+1))=2*nd.num+At ln num nd.depth b:=by
 obtain⟨h1,h2⟩:=Aoc h;unfold At;rw[show ln b-1-nd.depth=ln b-(nd.depth+1)from by omega];rw[show ln b-nd.depth=(ln b-(nd.depth+1))+1 from by omega,Aoz,←Aqt]at h2;omega
theorem Lo{o:Arc}{b:UInt8}(h:b∈o): ∃k,k<o.length∧o.getD k 0=b:=by
 obtain⟨k,hk,e⟩:=Aog h;exact⟨k,hk,by rw[Am4,Am5 hk];exact e⟩
theorem Hc.span{M:Nat}{ln num:UInt8→Nat}{o:Arc}(h:Hc M ln num o){k e y:Nat}(hk:k<o.length)(d:e≤ln (o.getD k 0))(a:num (o.getD k 0)/2^(ln (o.getD k 0)-e)=y):y*2^(M-e)≤krf M ln (o.take k)∧krf M ln (o.take k)<(y+1)*2^(M-e):=by
 have hs:=h.short _ (Pi hk);rw[←h.num k hk];generalize ln (o.getD k 0)=l at*;generalize num (o.getD k 0)=x at*;have ep:(2:Nat)^(M-e)=2^(l-e)*2^(M-l):=by rw[←Nat.pow_add];congr 1;omega
 have b:=App (l-e);have c:=App (M-l);rw[ep,←Aqn,←Aqn];constructor
 ·exact Apa _ (by rw[←a];exact Nat.div_mul_le_self _ _)
 ·refine Nat.mul_lt_mul_of_pos_right ?_ c;rw[←a];exact(Nat.div_lt_iff_lt_mul b).1 (Nat.lt_succ_self _)
theorem I1{M:Nat}{ln num:UInt8→Nat}{o:Arc}(h:Hc M ln num o){nd:Nd}{b:UInt8}(hb:b∈o)(d:D9 ln num nd b=true){k:Nat}(hk:k<o.length)(hd:ln (o.getD k 0)=nd.depth+1)(hn:(2*nd.num+At ln num nd.depth b)*2^(M-ln (o.getD k 0))=krf M ln (o.take k)):b=o.getD k 0:=by
 obtain⟨k2,a,rfl⟩:=Lo hb;have h1:=(Aoc d).1;have hs:=h.span a (e:=nd.depth+1) h1 (Pj d);rw[hd]at hn;rw[hn]at hs;have h2:=Vq M ln o k hk;rw[hd]at h2;have f:krf M ln (o.take k2)<krf M ln (o.take (k+1)):=by
  rw[h2,←hn];have:=hs.2;rw[Ape,Nat.one_mul,hn]at this;rw[hn];exact this
 have:k2=k:=by
  rcases Aop k2 k with c|c|c
  ·have:=Abr M ln o c a;omega
  ·exact c
  ·have:=Abq M ln o (k:=k+1) (k':=k2) c;omega
 rw[this]
theorem We{M:Nat}{ln num:UInt8→Nat}{o:Arc}(h:Hc M ln num o){nd nc:Nd}{b:UInt8}(hb:b∈o)(c:D9 ln num nd b=true)(hd:nc.depth=nd.depth+1)(hn:nc.num=2*nd.num+At ln num nd.depth b)
  (hno: ∀k,k<o.length→ln (o.getD k 0)=nc.depth→krf M ln (o.take k)≠nc.num*2^(M-nc.depth)):D9 ln num nc b=true:=by
 have h1:=(Aoc c).1;have h2:=Pj c;refine Ana ⟨?_,by rw[hd,hn];exact h2⟩;rw[hd];refine Nat.lt_of_le_of_ne h1 fun e=>?_;obtain⟨k2,a,rfl⟩:=Lo hb;refine hno k2 a (by omega) ?_;rw[←h.num k2 a,hn,←h2,hd,←e];simp
theorem I2{M:Nat}{ln num:UInt8→Nat}{o:Arc}(h:Hc M ln num o){nd:Nd}{b:UInt8}(hb:b∈o)(c:D9 ln num nd b=true)
  (hno: ∀k,k<o.length→nd.depth+1≤ln (o.getD k 0)→(2*nd.num+At ln num nd.depth b)*2^(M-(nd.depth+1))≤krf M ln (o.take k)→(2*nd.num+At ln num nd.depth b+1)*2^(M-(nd.depth+1))≤krf M ln (o.take k)):False:=by
 have h1:=(Aoc c).1;obtain⟨k2,a,rfl⟩:=Lo hb;have hs:=h.span a (e:=nd.depth+1) h1 (Pj c);have:=hno k2 a h1 hs.1;omega
theorem Oo{ln num:UInt8→Nat}{nd nc:Nd}{u:Nat}{b:UInt8}(a:u<2)(hd:nc.depth=nd.depth+1)(hn:nc.num=2*nd.num+u)(h:D9 ln num nc b=true):D9 ln num nd b=true∧At ln num nd.depth b=u:=by
 obtain⟨h1,h2⟩:=Aoc h;rw[hd]at h1 h2;rw[hn]at h2;have e:num b/2^(ln b-nd.depth)=nd.num:=by
  rw[show ln b-nd.depth=(ln b-(nd.depth+1))+1 from by omega,Aoz,←Aqt,h2];omega
 refine⟨Ana ⟨by omega,e⟩,?_⟩;unfold At;rw[show ln b-1-nd.depth=ln b-(nd.depth+1)from by omega,h2];omega
def Ap(ln num:UInt8→Nat)(nds:List Nd)(col:Arc)(n:Nat):Arc:=col.filter (D9 ln num (Ab nds n))
def Hd(ln num:UInt8→Nat)(nds:List Nd)(col:Arc)(n:Nat):Ard:=(Ap ln num nds col n).map (At ln num (Ab nds n).depth)
def Az(ln num:UInt8→Nat)(nds:List Nd)(col:Arc)(N:Nat):Ard:=(List.range N).flatMap (Hd ln num nds col)
theorem Mh(ln num:UInt8→Nat)(nds:List Nd)(col:Arc)(n:Nat):(Ap ln num nds col n).length≤col.length:=Ap4 _ _
theorem Fc(ln num:UInt8→Nat)(nds:List Nd)(col:Arc)(N:Nat):Az ln num nds col (N+1)=Az ln num nds col N++Hd ln num nds col N:=by
 unfold Az;rw[Apu,Ao4,List.flatMap_singleton]
theorem K3(ln num:UInt8→Nat)(nds:List Nd)(col:Arc)(N:Nat):(Az ln num nds col N).length≤N*col.length:=by
 induction N with
 |zero=>simp[Az]
 |succ N ih=>
  have h:=Mh ln num nds col N;rw[Fc,Anf,Ape,Nat.one_mul];simp only[Hd,Anz];omega
structure Ip(ln num:UInt8→Nat)(nds:List Nd)(col:Arc)(i p:Nat)(cs:List Arc):Prop where
 len:cs.length=nds.length
 root:cs.getD 0 []=col
 at_: ∀n j u,n<nds.length→0<n→u<2→j<nds.length→(Ab nds j).br u={node:=n}→
  (j<i→cs.getD n []=Ap ln num nds col n)∧(j=i→cs.getD n []=((Ap ln num nds col i).take p).filter fun b=>At ln num (Ab nds i).depth b==u)∧(i<j→cs.getD n []=[])
theorem N8(cs:List Arc)(i j:Nat)(x:Arc)(h:i<cs.length):(cs.set i x).getD j []=if i=j then x else cs.getD j []:=by
 rw[Am4,List.getElem?_set]
 by_cases e:i=j
 ·rw[if_pos e,if_pos e,if_pos h];rfl
 ·rw[if_neg e,if_neg e,←Am4]
section
variable {M:Nat} {ln num:UInt8→Nat} {o:Arc} {nds:List Nd} {col:Arc} {i p:Nat} {cs:List Arc}
theorem Bo.child(h:Bo M ln o nds){j u n:Nat}(f:j<nds.length)(g:u<2)(hn:0<n)(e:(Ab nds j).br u={node:=n}):j<n∧n<nds.length∧(Ab nds n).depth=(Ab nds j).depth+1∧(Ab nds n).num=2*(Ab nds j).num+u∧ ∀k,k<o.length→ln (o.getD k 0)=(Ab nds n).depth→krf M ln (o.take k)≠(Ab nds n).num*2^(M-(Ab nds n).depth):=by
 cases h.good j u f g with
 |leaf k hk h1=>rw[h1]at e;cases e
 |node n' h1 h2 a b c d=>
  rw[h1]at e;obtain rfl:n'=n:=by injection e
  exact⟨h2,a,b,c,d⟩
 |none h1=>rw[h1]at e;injection e with _ _ e;omega
theorem Bo.same(h:Bo M ln o nds){j j':Nat}(b:j<nds.length)(a:j'<nds.length)(hd:(Ab nds j).depth=(Ab nds j').depth)(hn:(Ab nds j).num=(Ab nds j').num):j=j':=by
 rcases Aop j j' with c|c|c
 ·have:=h.sorted j j' c a;unfold Jy at this;omega
 ·exact c
 ·have:=h.sorted j' j c b;unfold Jy at this;omega
theorem Bo.parent(h:Bo M ln o nds){j u j' u' n:Nat}(c:j<nds.length)(d:u<2)(a:j'<nds.length)(b:u'<2)(hn:0<n)(e:(Ab nds j).br u={node:=n})(e':(Ab nds j').br u'={node:=n}):j=j'∧u=u':=by
 obtain⟨_,_,h1,h2,_⟩:=h.child c d hn e;obtain⟨_,_,f,g,_⟩:=h.child a b hn e';exact⟨h.same c a (by omega) (by omega),by omega⟩
theorem Bo.col_child(h:Bo M ln o nds)(hk:Hc M ln num o)(g: ∀b∈col,b∈o){j u n:Nat}(i:j<nds.length)(d:u<2)(hn:0<n)(e:(Ab nds j).br u={node:=n}):
  Ap ln num nds col n=(Ap ln num nds col j).filter fun b=>At ln num (Ab nds j).depth b==u:=by
 obtain⟨_,_,h1,h2,f⟩:=h.child i d hn e;unfold Ap;rw[List.filter_filter];refine List.filter_congr fun b hb=>?_;rw[Bool.eq_iff_iff,Bool.and_eq_true,beq_iff_eq];constructor
 ·intro k;obtain⟨a,c⟩:=Oo d h1 h2 k;exact⟨c,a⟩
 ·rintro⟨a,c⟩;exact We hk (g b hb) c h1 (by rw[h2,a]) f
theorem Ip.start(h:Bo M ln o nds):Ip ln num nds col 0 0 (col::List.replicate (nds.length-1) []):=by
 have c:=h.more;refine⟨by simp;omega,rfl,fun n j u hn a d b e=>?_⟩;have e0:(col::List.replicate (nds.length-1) []).getD n []=[]:=by
  obtain⟨m,rfl⟩: ∃m,n=m+1:=⟨n-1,by omega⟩;rw[Aq8,Am4,Ao1 (by omega)];rfl
 exact⟨fun x=>by omega,fun x=>by rw[e0];simp,fun _=>e0⟩
theorem Ip.here(h:Ip ln num nds col i p cs)(hs:Bo M ln o nds)(d: ∀b∈col,b∈o)(c: ∀b∈o,0<ln b)(a: ∀b∈o,num b<2^ln b)(hi:i<nds.length):cs.getD i []=Ap ln num nds col i:=by
 by_cases e:i=0
 ·subst e;rw[h.root];unfold Ap;rw[List.filter_eq_self.2];intro b hb;refine Ana ⟨by rw[hs.root.1];exact c b (d b hb),?_⟩;rw[hs.root.1,hs.root.2,Aqp];exact Nat.div_eq_of_lt (a b (d b hb))
 ·obtain⟨j,u,h1,h2,f⟩:=hs.par i (by omega) hi;exact(h.at_ i j u hi (by omega) h1 (by omega) f).1 h2
theorem Ip.leaf(h:Ip ln num nds col i p cs)(a:p<(Ap ln num nds col i).length){v:UInt8}(hb:(Ab nds i).br (At ln num (Ab nds i).depth ((Ap ln num nds col i).getD p 0))={whole:=true,val:=v}):Ip ln num nds col i (p+1) cs:=by
 refine⟨h.len,h.root,fun n j u hn b f d e=>?_⟩;obtain⟨h1,h2,c⟩:=h.at_ n j u hn b f d e;refine⟨h1,fun x=>?_,c⟩;subst x;rw[h2 rfl,Anh a,Ao8];have ep:(Ap ln num nds col j).getD p 0=(Ap ln num nds col j)[p]:=by rw[Am4,Am5 a];rfl
 rw[ep]at hb;have:(At ln num (Ab nds j).depth (Ap ln num nds col j)[p]==u)=false:=by
  rw[Aod];intro x;rw[x,e]at hb;cases hb
 rw[Ao3,this];simp
theorem Ip.node(h:Ip ln num nds col i p cs)(hs:Bo M ln o nds)(hi:i<nds.length)(f:p<(Ap ln num nds col i).length){n:Nat}(g:0<n)(hb:(Ab nds i).br (At ln num (Ab nds i).depth ((Ap ln num nds col i).getD p 0))={node:=n}):Ip ln num nds col i (p+1) (cs.set n (cs.getD n []++[(Ap ln num nds col i).getD p 0])):=by
 have l:=Fg ln num (Ab nds i).depth ((Ap ln num nds col i).getD p 0);obtain⟨c1,c2,_⟩:=hs.child hi l g hb;have b:n<cs.length:=by rw[h.len];exact c2
 refine⟨by rw[Aou];exact h.len,by rw[N8 _ _ _ _ b,if_neg (by omega)];exact h.root,fun m j u r d a k e=>?_⟩;obtain⟨h1,h2,q⟩:=h.at_ m j u r d a k e;have ep:(Ap ln num nds col i).getD p 0=(Ap ln num nds col i)[p]:=by rw[Am4,Am5 f];rfl
 by_cases x:n=m
 ·subst x;obtain⟨rfl,rfl⟩:=hs.parent k a hi l g e hb;refine⟨fun c=>by omega,fun _=>?_,fun c=>by omega⟩;rw[N8 _ _ _ _ b,if_pos rfl,h2 rfl,Anh f,Ao8,Ao3,ep,if_pos (by simp)];rfl
 ·rw[N8 _ _ _ _ b,if_neg x];refine⟨h1,fun c=>?_,q⟩;subst c;rw[h2 rfl,Anh f,Ao8];have:(At ln num (Ab nds j).depth (Ap ln num nds col j)[p]==u)=false:=by
   rw[Aod];intro y;rw[ep,y,e]at hb;injection hb with _ _ hb;exact x hb.symm
  rw[Ao3,this];simp
theorem Ip.next(h:Ip ln num nds col i (Ap ln num nds col i).length cs)(hs:Bo M ln o nds)(hk:Hc M ln num o)(g: ∀b∈col,b∈o):Ip ln num nds col (i+1) 0 cs:=by
 refine⟨h.len,h.root,fun n j u hn a f d e=>?_⟩;obtain⟨h1,h2,c⟩:=h.at_ n j u hn a f d e;refine⟨fun x=>?_,fun x=>?_,fun x=>c (by omega)⟩
 ·by_cases y:j=i
  ·subst y;rw[h2 rfl,Aof];exact(hs.col_child hk g d f a e).symm
  ·exact h1 (by omega)
 ·rw[c (by omega)];simp
theorem Bo.goes(h:Bo M ln o nds)(hk:Hc M ln num o)(e: ∀b∈col,b∈o)(hi:i<nds.length)(g:p<(Ap ln num nds col i).length):
  (∃v,(Ab nds i).br (At ln num (Ab nds i).depth ((Ap ln num nds col i).getD p 0))={whole:=true,val:=v})∨ ∃n,0<n∧n<nds.length∧i<n∧(Ab nds i).br (At ln num (Ab nds i).depth ((Ap ln num nds col i).getD p 0))={node:=n}:=by
 have ep:(Ap ln num nds col i).getD p 0=(Ap ln num nds col i)[p]:=by rw[Am4,Am5 g];rfl
 have f:(Ap ln num nds col i)[p]∈Ap ln num nds col i:=Anm _;rw[ep];generalize(Ap ln num nds col i)[p]=b at*;obtain⟨h1,h2⟩:=List.mem_filter.1 f;cases h.good i (At ln num (Ab nds i).depth b) hi (Fg _ _ _ _)with
 |leaf k hk a=>exact .inl ⟨_,a⟩
 |node n a c d=>exact .inr ⟨n,by omega,d,c,a⟩
 |none a c=>exact(I2 hk (e b h1) h2 c).elim
end
end Hm
namespace Hm
def Db(d c:Nat):List Bool:=((List.range d).map fun i=>decide (c/2^i%2=1)).reverse
theorem Cj(d c:Nat):(Db d c).length=d:=by simp[Db]
theorem Aak(d c u:Nat)(a:u<2):Db (d+1) (2*c+u)=Db d c++[decide (u=1)]:=by
 unfold Db;rw[List.range_succ_eq_map,Aos,List.map_map,List.reverse_cons];congr 1
 ·congr 1;refine Aqe fun i _=>?_;show decide ((2*c+u)/2^(i+1)%2=1)=_;rw[Aoz,Aqh (2^i),←Aqt,show(2*c+u)/2=c from by omega]
 ·congr 1;rw[Nat.pow_zero,Nat.div_one,show(2*c+u)%2=u from by omega]
theorem Sn(d c:Nat):Db (d+1) c=Db d (c/2)++[decide (c%2=1)]:=by
 have:=Aak d (c/2) (c%2) (Nat.mod_lt _ (by omega));rwa[show 2*(c/2)+c%2=c from by omega]at this
theorem Ji(c:Nat): ∀l d,d≤l→(Db l c).take d=Db d (c/2^(l-d))
 |0,d,h=>by
  obtain rfl:d=0:=by omega
  rfl
 |l+1,d,h=>by
  by_cases e:d=l+1
  ·subst e;rw[Aoy,Nat.pow_zero,Nat.div_one,An5 (by rw[Cj];omega)]
  ·rw[Sn,List.take_append_of_le_length (by rw[Cj];omega)];have:(Db l (c/2)).take d=Db d (c/2/2^(l-d)):=by
    have ih:=fun c'=>Ji c' l d (by omega);exact ih (c/2)
   rw[this,show l+1-d=(l-d)+1 from by omega,Aoz,Aqh,Aqt]
def Ev(l:List Bool):Nat:=l.foldl (fun a b=>2*a+b.toNat) 0
theorem Ai2(l:List Bool)(b:Bool):Ev (l++[b])=2*Ev l+b.toNat:=by simp[Ev,List.foldl_append]
theorem Nc: ∀d c,c<2^d→Ev (Db d c)=c
 |0,c,h=>by
  have:c=0:=by simpa using h
  subst this;rfl
 |d+1,c,h=>by
  rw[Sn,Ai2,Nc d (c/2) (by rw[Aoz]at h;omega)]
  by_cases e:c%2=1
  ·rw[Ana e];show 2*(c/2)+1=c;omega
  ·rw[Anc e];show 2*(c/2)+0=c;omega
theorem Abu{d c c':Nat}(h:c<2^d)(a:c'<2^d)(e:Db d c=Db d c'):c=c':=by
 rw[←Nc d c h,←Nc d c' a,e]
def Pv(a b:List Bool):Prop:=a.length<b.length∨a.length=b.length∧Ev a<Ev b
structure Hk(cd:UInt8→List Bool)(hs:List (List Bool)):Prop where
 srt:hs.Pairwise Pv
 mem: ∀h,h∈hs↔ ∃b,h.length<(cd b).length∧(cd b).take h.length=h
theorem Agz(a b:List Bool)(h:Pv a b): ¬Pv b a:=by unfold Pv at*;omega
theorem Ru{α:Type}{r:α→α→Prop}(f: ∀a b,r a b→ ¬r b a): ∀{l m:List α},l.Pairwise r→m.Pairwise r→(∀x,x∈l↔x∈m)→l=m
 |[],[],_,_,_=>rfl
 |[],y::m,_,_,h=>absurd ((h y).2 (Anl ..)) (by simp)
 |x::l,[],_,_,h=>absurd ((h x).1 (Anl ..)) (by simp)
 |x::l,y::m,k,n,h=>by
  obtain⟨h1,h2⟩:=Aqx.1 k;obtain⟨i,j⟩:=Aqx.1 n;have irr: ∀a,¬r a a:=fun a c=>f a a c c;have e:x=y:=by
   rcases List.mem_cons.1 ((h x).1 (Anl ..))with c|c
   ·exact c
   ·rcases List.mem_cons.1 ((h y).2 (Anl ..))with d|d
    ·exact d.symm
    ·exact absurd (h1 y d) (f _ _ (i x c))
  subst e;rw[Ru f h2 j fun z=>?_];constructor
  ·intro g;rcases List.mem_cons.1 ((h z).1 (Anr _ g))with c|c
   ·subst c;exact absurd (h1 z g) (irr z)
   ·exact c
  ·intro g;rcases List.mem_cons.1 ((h z).2 (Anr _ g))with c|c
   ·subst c;exact absurd (i z g) (irr z)
   ·exact c
theorem Hk.unique{cd:UInt8→List Bool}{hs a:List (List Bool)}(h:Hk cd hs)(b:Hk cd a):hs=a:=
 Ru Agz h.srt b.srt fun x=>(h.mem x).trans (b.mem x).symm
section
variable {M:Nat} {ln num:UInt8→Nat} {o:Arc} {nds:List Nd} {col:Arc}
theorem Bo.num_lt(h:Bo M ln o nds): ∀m n,n≤m→n<nds.length→(Ab nds n).num<2^(Ab nds n).depth
 |m,0,_,_=>by rw[h.root.1,h.root.2];decide
 |0,n+1,h1,_=>by omega
 |m+1,n+1,h1,h2=>by
  obtain⟨j,u,c,d,e⟩:=h.par (n+1) (by omega) h2;obtain⟨_,_,a,b,_⟩:=h.child (by omega) c (by omega) e;have:=Bo.num_lt h m j (by omega) (by omega);rw[a,b,Aoz];omega
theorem Bo.some(h:Bo M ln o nds)(hk:Hc M ln num o)(i: ∀j,j<nds.length→(Ab nds j).br 0≠{}): ∀m n,nds.length-n≤m→n<nds.length→ ∃b∈o,D9 ln num (Ab nds n) b=true
 |0,n,h1,h2=>by omega
 |m+1,n,h1,h2=>by
  cases h.good n 0 h2 (by omega)with
  |leaf k a d g e=>
   refine⟨o.getD k 0,Pi a,Ana ⟨by omega,?_⟩⟩;have c:=hk.num k a;rw[←e]at c;have f:=Nat.eq_of_mul_eq_mul_right (App _) c;rw[g,f,show(Ab nds n).depth+1-(Ab nds n).depth=1 from by omega];omega
  |node n' d g e c f=>
   obtain⟨b,hb,l⟩:=Bo.some h hk i m n' (by omega) e;exact⟨b,hb,(Oo (by omega) c f l).1⟩
  |none d=>exact absurd d (i n h2)
theorem Bo.node_of(h:Bo M ln o nds)(hk:Hc M ln num o)(a: ∀b∈o,num b<2^ln b){b:UInt8}(hb:b∈o): ∀d,d<ln b→ ∃n,n<nds.length∧(Ab nds n).depth=d∧(Ab nds n).num=num b/2^(ln b-d)
 |0,hd=>⟨0,h.more,h.root.1,by rw[h.root.2,Aqp,Nat.div_eq_of_lt (a b hb)]⟩
 |d+1,hd=>by
  obtain⟨n,h1,h2,l⟩:=Bo.node_of h hk a hb d (by omega);have i:D9 ln num (Ab nds n) b=true:=Ana ⟨by omega,by rw[h2,l]⟩;have c:=Pj i;cases h.good n (At ln num (Ab nds n).depth b) h1 (Fg _ _ _ _)with
  |leaf k g j e f=>
   have:=I1 hk hb i g e f;rw[this]at hd;omega
  |node n' j e f p m=>exact⟨n',f,by omega,by rw[m,←c,h2]⟩
  |none j e=>exact(I2 hk hb i e).elim
def J6(ln num:UInt8→Nat)(b:UInt8):List Bool:=Db (ln b) (num b)
def P9(nds:List Nd):List (List Bool):=(List.range nds.length).map fun j=>Db (Ab nds j).depth (Ab nds j).num
theorem Bo.heads(h:Bo M ln o nds)(hk:Hc M ln num o)(q: ∀j,j<nds.length→(Ab nds j).br 0≠{})(c: ∀b∈o,num b<2^ln b)(hno: ∀b,0<ln b→b∈o):Hk (J6 ln num) (P9 nds):=by
 refine⟨?_,fun x=>?_⟩
 ·unfold P9;rw[List.pairwise_map];refine(List.pairwise_lt_range (n:=nds.length)).imp_of_mem fun{i j} hi m e=>?_;have d:i<nds.length:=by simpa using hi
  have a:j<nds.length:=by simpa using m
  have:=h.sorted i j e a;unfold Pv;rw[Cj,Cj,Nc _ _ (h.num_lt i i (Ane _) d),Nc _ _ (h.num_lt j j (Ane _) a)];exact this
 ·unfold P9 J6;rw[List.mem_map];constructor
  ·rintro⟨n,hn,rfl⟩;have f:n<nds.length:=by simpa using hn
   obtain⟨b,hb,p⟩:=h.some hk q (nds.length-n) n (Ane _) f;obtain⟨h1,h2⟩:=Aoc p;refine⟨b,by rw[Cj,Cj];exact h1,?_⟩;rw[Cj,Ji _ _ _ (by omega),h2]
  ·rintro⟨b,h1,h2⟩;rw[Cj]at h1;obtain⟨n,g,k,l⟩:=h.node_of hk c (hno b (by omega)) x.length h1;refine⟨n,by simpa using g,?_⟩;rw[k,l,←Ji _ _ _ (by omega)];exact h2
def Le(c h:List Bool):Bool:=decide (h.length≤c.length∧c.take h.length=h)
theorem Bo.begins(h:Bo M ln o nds)(hk:Hc M ln num o)(d: ∀b∈o,num b<2^ln b){n:Nat}(hn:n<nds.length){b:UInt8}(hb:b∈o)(g:0<ln b):Le (J6 ln num b) (Db (Ab nds n).depth (Ab nds n).num)=D9 ln num (Ab nds n) b:=by
 unfold Le D9 J6;rw[Cj,Cj];have f:=h.num_lt n n (Ane _) hn;rw[decide_eq_decide];constructor
 ·rintro⟨h1,h2⟩;rw[Ji _ _ _ h1]at h2;have e:num b/2^(ln b-(Ab nds n).depth)=(Ab nds n).num:=by
   refine Abu ?_ f h2;have:=d b hb;rw[Nat.div_lt_iff_lt_mul (App _),←Nat.pow_add,show(Ab nds n).depth+(ln b-(Ab nds n).depth)=ln b from by omega];exact this
  refine⟨Nat.lt_of_le_of_ne h1 fun c=>?_,e⟩
  by_cases e0:n=0
  ·subst e0;have:=h.root.1;omega
  ·obtain⟨j,u,i,l,ej⟩:=h.par n (by omega) hn;obtain⟨_,_,_,_,hno⟩:=h.child (by omega) i (by omega) ej;obtain⟨k,a,rfl⟩:=Lo hb;refine hno k a c.symm ?_;rw[←hk.num k a,←e,c,Aoy,Nat.pow_zero,Nat.div_one]
 ·rintro⟨h1,h2⟩;refine⟨by omega,?_⟩;rw[Ji _ _ _ (by omega),h2]
theorem Ai3(b:UInt8)(d:Nat)(hd:d<ln b):(J6 ln num b).getD d false=decide (At ln num d b=1):=by
 unfold J6 At Db;rw[Am4,List.getElem?_reverse (by simpa using hd)];simp only[Anz,Apq];rw[An2,Ao2 (by omega)];rfl
end
end Hm
end Go.Proofs.YtegnkfdbmmndaaaGreat
