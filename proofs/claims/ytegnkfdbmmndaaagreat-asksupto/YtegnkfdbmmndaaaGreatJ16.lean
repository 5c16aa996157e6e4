import Derived.Test.YtegnkfdbmmndaaaGreatJ15

set_option maxHeartbeats 8000000
namespace Go.Proofs.YtegnkfdbmmndaaaGreat
open Hm Go.Proofs.Tryz Go.RowKit
namespace Hm
theorem Jn(ln:UInt8→Nat)(i s:Nat)(nds:List Nd)(b:UInt8)(r:Arc):Fs ln i s nds (b::r)=if ln b=(Ab nds i).depth+1 then(B7 nds i s {whole:=true,val:=b},r)else(B7 nds i s {node:=nds.length}++[{depth:=(Ab nds i).depth+1,num:=2*(Ab nds i).num+s}],b::r):=rfl
theorem Ac0(ln:UInt8→Nat)(o:Arc)(k s:Nat)(hs:s<2):Ao ln o (2*k+s+1)=Fs ln k s (Ao ln o (2*k+s)).1 (Ao ln o (2*k+s)).2:=by
 show Fs ln ((2*k+s)/2) ((2*k+s)%2) _ _=_;rw[show(2*k+s)/2=k from by omega,show(2*k+s)%2=s from by omega]
theorem Ac1(ln:UInt8→Nat)(i s:Nat)(nds:List Nd)(l:Arc):nds.length≤(Fs ln i s nds l).1.length∧(Fs ln i s nds l).1.length≤nds.length+1:=by
 cases l with
 |nil=>exact⟨Ane _,Nat.le_succ _⟩
 |cons b r=>
  rw[Jn];split
  ·show _≤(B7 nds i s _).length∧(B7 nds i s _).length≤_;rw[Ce];omega
  ·show _≤(B7 nds i s _++_).length∧(B7 nds i s _++_).length≤_;rw[Anf,Ce];exact⟨Aqv _ _,Ane _⟩
theorem Yr(ln:UInt8→Nat)(i s:Nat)(nds:List Nd)(l:Arc)(hi:i<nds.length)(j:Nat)(a:j<nds.length):(Ab (Fs ln i s nds l).1 j).depth=(Ab nds j).depth:=by
 cases l with
 |nil=>rfl
 |cons b r=>
  rw[Jn];split
  ·exact Fr _ _ _ _ hi j
  ·show(Ab (B7 nds i s _++_) j).depth=_;rw[Ko _ _ _ (by rw[Ce];exact a),Fr _ _ _ _ hi]
theorem R7(ln:UInt8→Nat)(o:Arc): ∀t j,(Ab (Ao ln o t).1 j).depth≤t
 |0,j=>by
  show(Ab [{}] j).depth≤0;cases j<;>exact Ane _
 |t+1,j=>by
  have ih:=R7 ln o t;show(Ab (Fs ln (t/2) (t%2) (Ao ln o t).1 (Ao ln o t).2).1 j).depth≤t+1;generalize(Ao ln o t).1=nds at*;generalize(Ao ln o t).2=l at*;have pb: ∀b j,(Ab (B7 nds (t/2) (t%2) b) j).depth≤t:=fun b j=>by
   by_cases hi:t/2<nds.length
   ·rw[Fr _ _ _ _ hi];exact ih j
   ·unfold B7;rw[Aqj (by omega)];exact ih j
  cases l with
  |nil=>exact Nat.le_succ_of_le (ih j)
  |cons b r=>
   rw[Jn];split
   ·exact Nat.le_succ_of_le (pb _ j)
   ·show(Ab (B7 nds (t/2) (t%2) _++[_]) j).depth≤t+1;rcases Aop j (B7 nds (t/2) (t%2) {node:=nds.length}).length with c|c|c
    ·rw[Ko _ _ _ c];exact Nat.le_succ_of_le (pb _ j)
    ·rw[c,Lx];exact Nat.succ_le_succ (ih _)
    ·unfold Ab;rw[Am4,Anx (by rw[Anf];exact c)];exact Ann _
end Hm
def Uh(o:Arc)(g cp:Nat)(v:Value)(p:Nat):Prop:= ∃a c,v= .slice a (o.length-p) c∧(p<o.length→a=some ⟨g,p,none⟩∧c=cp-p)
theorem Zt(M:Nat)(L:Ard)(N:Nat)(w:World)(hL:L.length=256)(hx: ∀x∈L,x≤255)(hE:Hm.Ends M (Hm.lnB L) (Ae L) N)
  (aH: ∀W:World,Calls prog 181 #[.agg (Ad L).toArray] W fun e w'=> ∃v,e= .returned v∧w'.ownsRow W.heap.size 5 1 v (Ae L).length (Ah (Ae L))∧Ara W w'):
  Calls prog 150 #[.agg (Ad L).toArray] w fun e w'=> ∃v,e= .returned v∧w'.ownsRow w.heap.size 195 9 v N (Be (Ao (Hm.lnB L) (Ae L) (2*N)).1)∧Ara w w':=by
 obtain⟨i0,hi,aW,aX,aY⟩:=Aoo Ai8;have a1:(Ad L).toArray.size=256:=by rw[Bm,hL]
 have O:(w.alloc (.cells (Ad L).toArray 139)).heap[w.heap.size]?=some (.cells (Ad L).toArray 139 (0,0)):=Anj w _;have Q: ∀W:World,W.heap[w.heap.size]?=some (.cells (Ad L).toArray 139 (0,0))→ ∀b:UInt8,W.cell? ⟨w.heap.size,b.toNat,none⟩=some (.int .i64 (Hm.lnB L b:Nat)):=by
  intro W hW b;have hb:=b.toNat_lt;rw[Am7 _ _ b.toNat _ _ _ hW];simp[Ad,Hm.lnB,List.getD_eq_getElem?_getD,List.getElem?_eq_getElem (show b.toNat<L.length from by omega)]
 have aJ: ∀b:UInt8,Hm.lnB L b≤255:=fun b=>by
  have hb:=b.toNat_lt;rw[Hm.lnB,Am4,Am5 (show b.toNat<L.length from by omega)];exact hx _ (Anm _)
 have aj:=aH (w.alloc (.cells (Ad L).toArray 139));have HC:Aside _:=Q;have HE:Aside _:=hE;have aO:Aside _:=aJ;have hN:N≤255:=by have h1:=hE.len;have h2:=hE.few (2*N) (Ane _);omega
 clear Q hE aJ aH;generalize(Ad L).toArray=arr at*
 go_enter func150,ntmps150
 go_wp2_with(first
  |(refine Aoh rfl 139 _ rfl w.heap.size rfl 139 arr (0,0) _ O underlying139 rfl (by rw[a1];exact Cf) ?_))
 refine aj.mono ?_;rintro e w2 ⟨v,rfl,ho,ap⟩;have P:=ap.row O id;have ag:Ara w w2:=((Aa.refl (fun _=>False) w).alloc _).trans ap (fun _ _ h=>h);have bj:w.heap.size<w2.heap.size:=Anu P;clear aj O;generalize hO:Ae L=o at*;obtain⟨g,cp,hv⟩: ∃g cp,Uh o g cp v 0∧(0<o.length→v= .slice (some ⟨g,0,none⟩) o.length cp∧o.length≤cp):=by
  by_cases h0:0<o.length
  ·obtain⟨g,cap,hv,z,_⟩:=Ck ho h0;exact⟨g,cap,⟨some ⟨g,0,none⟩,cap,hv,fun _=>⟨rfl,rfl⟩⟩,fun _=>⟨hv,z⟩⟩
  ·obtain⟨ao,c,hv,_⟩:=Aq ho;exact⟨0,0,⟨ao,c,hv,fun h=>by omega⟩,fun h=>by omega⟩
 obtain⟨ao,c,aw,_⟩:=Aq ho;have HV:Aside (Uh o g cp v 0∧(0<o.length→v= .slice (some ⟨g,0,none⟩) o.length cp∧o.length≤cp)∧w2.ownsRow (w.alloc (.cells arr 139)).heap.size 5 1 v o.length (Ah o)):=⟨hv.1,hv.2,ho⟩;rw[aw];rw[aw]at HV;clear ho hv aw;have ay:Aside (w2.heap[w.heap.size]?=some (.cells arr 139 (0,0))∧Ara w w2):=⟨P,ag⟩;clear P ag ap;obtain⟨B,hB⟩: ∃B,B=w2.heap.size:=⟨_,rfl⟩;have a9:0<o.length→g<B:=fun h=>by have h1:=(HV.o.2.1 h).1;have h2:=HV.o.2.2;rw[h1]at h2;have:=h2.lt g rfl;omega
 have HB:Aside (B=w2.heap.size):=hB;have ak:(w2.alloc (.cells (Ch {}).toArray 195)).ownsRow B 195 9 (.slice (some ⟨w2.heap.size,0,none⟩) 1 1) 1 (Be (Ao (Hm.lnB L) o (2*0)).1):=by
  have:=World.ownsRow_lit (e:=195) (base:=B) (size:=9) w2 (Ch {}).toArray 1 (by omega) (by unfold maxLen;omega) rfl;exact this
 have af:Aa (fun j=>B≤j) w2 (w2.alloc (.cells (Ch {}).toArray 195)):=(Aa.refl _ _).alloc _;have H0:Aside _:=And.intro ak af;clear ak af hB;go_wp2_with fail
 go_loopw[5,4,3] (fun vi nv lv wr=> ∃(k p n:Nat),k≤N∧vi= .int .i64 k∧n=(Ao (Hm.lnB L) o (2*k)).1.length∧wr.ownsRow B 195 9 nv n (Be (Ao (Hm.lnB L) o (2*k)).1)∧p≤o.length∧(Ao (Hm.lnB L) o (2*k)).2=o.drop p∧Uh o g cp lv p∧Aa (fun j=>B≤j) w2 wr) (fun vi _ _ _=>N-(intOf vi).toNat)
 case atStart=>exact⟨0,0,1,Ann _,rfl,rfl,H0.o.1,Ann _,rfl,HV.o.1,H0.o.2⟩
 case round=>
  clear H0;obtain⟨k,p,n,hk,rfl,hn,r,hp,D,R,i⟩:=hrel
  by_cases aQ:k<N
  ·have F:=HE.o.more k aQ;obtain⟨ng,nc,G,z,ai⟩:=Ck r (by omega);subst G;obtain⟨la,lc,t,a⟩:=R;subst t;have hd:=Ag6 r hn F;have a6:=R7 (Hm.lnB L) o (2*k) k;obtain⟨d,l⟩: ∃d,d=(Ab (Ao (Hm.lnB L) o (2*k)).1 k).depth:=⟨_,rfl⟩;rw[←l]at hd a6;have aq:(k:Int)<(n:Int):=by omega
   have ae:decide ((k:Int)<(n:Int))=true:=Ana aq;have HS:Aside (n=(Ao (Hm.lnB L) o (2*k)).1.length∧wr.ownsRow B 195 9 (.slice (some ⟨ng,0,none⟩) n nc) n (Be (Ao (Hm.lnB L) o (2*k)).1)∧p≤o.length∧(Ao (Hm.lnB L) o (2*k)).2=o.drop p∧Uh o g cp (.slice la (o.length-p) lc) p∧Aa (fun j=>B≤j) w2 wr∧d=(Ab (Ao (Hm.lnB L) o (2*k)).1 k).depth∧k<(Ao (Hm.lnB L) o (2*k)).1.length):=⟨hn,r,hp,D,⟨la,lc,rfl,a⟩,i,l,F⟩;clear hn r hp D a i l F z;go_wp2_with fail
   go_loopw[24,4,3] (fun vs nv lv wr=> ∃(s p n:Nat),s≤2∧vs= .int .i64 s∧n=(Ao (Hm.lnB L) o (2*k+s)).1.length∧wr.ownsRow B 195 9 nv n (Be (Ao (Hm.lnB L) o (2*k+s)).1)∧p≤o.length∧(Ao (Hm.lnB L) o (2*k+s)).2=o.drop p∧Uh o g cp lv p∧Aa (fun j=>B≤j) w2 wr∧d=(Ab (Ao (Hm.lnB L) o (2*k+s)).1 k).depth∧k<(Ao (Hm.lnB L) o (2*k+s)).1.length) (fun vs _ _ _=>2-(intOf vs).toNat)
   case atStart=>
    obtain⟨q1,q2,q3,q4,q5,q6,q7,q8⟩:=HS.o;exact⟨0,p,n,by omega,rfl,q1,q2,q3,q4,q5,q6,q7,q8⟩
   case round=>
    clear HS hd aq ae;obtain⟨s,p,n,hs,rfl,hn,r,hp,D,R,i,l,f⟩:=hrel;obtain⟨W1,rfl⟩: ∃X,X=wr:=⟨_,rfl⟩
    by_cases av:s<2
    ·have E:=Ac0 (Hm.lnB L) o k s av;have a7:=HE.o.few (2*k+s) (by omega);have A:=Ac1 (Hm.lnB L) k s (Ao (Hm.lnB L) o (2*k+s)).1 (Ao (Hm.lnB L) o (2*k+s)).2;have q:=Yr (Hm.lnB L) k s (Ao (Hm.lnB L) o (2*k+s)).1 (Ao (Hm.lnB L) o (2*k+s)).2 f k f;rw[←l]at q;rw[D]at E A q;obtain⟨nds,ah⟩: ∃nds,nds=(Ao (Hm.lnB L) o (2*k+s)).1:=⟨_,rfl⟩;rw[←ah]at E a7 A q hn r l f;obtain⟨la,lc,t,a⟩:=R;subst t;obtain⟨ng,nc,G,z,ai⟩:=Ck r (by omega);subst G;have I:B≤ng:=(r.lt ng rfl).1;have aU:decide ((s:Int)<2)=true:=Ana (by omega);clear ah D
     by_cases ac:p<o.length
     ·obtain⟨aP,Z⟩:=a ac;subst aP;obtain⟨m,hm⟩: ∃m,m=o.length-p:=⟨_,rfl⟩;obtain⟨b,hb⟩: ∃b,b=o.getD p 0:=⟨_,rfl⟩;rw[Mg o p ac,←hb]at E A q;rw[Jn]at E A q;have aa:=HV.o.2.1 (by omega);have ad:=aa.2;have ab:=HV.o.2.2;rw[aa.1]at ab;have S:=i.owns ab (fun j hj=>by have e:g=j:=An0 hj;have:=a9 (by omega);omega);have a5:W1.cell? ⟨g,p,none⟩=some (.int .u8 (b.toNat:Nat)):=by
       rw[S.cellAt p (by omega),hb];simp[Ah,ac]
      have Y:=HC.o W1 (i.row ay.o.1 (by have:=HB.o;omega)) b;have aB:=aO.o b;have a2:=b.toNat_lt;have bc:g≠ng:=by have:=a9 (by omega);omega
      have bb:w.heap.size≠ng:=by have:=HB.o;omega
      have bk:(0:Int)<(m:Int):=by omega
      have bd:((m:Int)==0)=false:=by rw[Aod];omega
      have bl:(1:Int)≤(m:Int):=by omega
      have aq:(k:Int)<(n:Int):=by omega
      obtain⟨x0,t0⟩: ∃x,W1.cell? ⟨ng,k*9+3+s*3,none⟩=some x:=by
       have:=Hv r hn f (3+s*3) (by omega);rw[←Apj]at this;exact⟨_,this.trans (Am5 (by show _<9;omega))⟩
      obtain⟨x1,t1⟩: ∃x,W1.cell? ⟨ng,k*9+3+s*3+1,none⟩=some x:=by
       have:=Hv r hn f (3+s*3+1) (by omega);rw[←Apj,←Apj]at this;exact⟨_,this.trans (Am5 (by show _<9;omega))⟩
      obtain⟨x2,t2⟩: ∃x,W1.cell? ⟨ng,k*9+3+s*3+2,none⟩=some x:=by
       have:=Hv r hn f (3+s*3+2) (by omega);rw[←Apj,←Apj]at this;exact⟨_,this.trans (Am5 (by show _<9;omega))⟩
      have f0:W1.frozen? ⟨ng,k*9+3+s*3,none⟩=false:=r.frozenAt _;have f1:W1.frozen? ⟨ng,k*9+3+s*3+1,none⟩=false:=r.frozenAt _;have f2:W1.frozen? ⟨ng,k*9+3+s*3+2,none⟩=false:=r.frozenAt _;rw[←hm]
      by_cases y:Hm.lnB L b=d+1
      ·rw[if_pos (by rw[←l];exact y)]at E A q;have H:((Hm.lnB L b:Int)==(d:Int)+1)=true:=by rw[beq_iff_eq];omega
       have T:=((((r.stored (k*9+3+s*3) (.bool true)).1).stored (k*9+3+s*3+1) (.int .u8 (b.toNat:Nat))).1.stored (k*9+3+s*3+2) (.int .i64 0)).1;have J:=Zi nds k s f av {whole:=true,val:=b};have V:Aside ((((W1.setCell ⟨ng,k*9+3+s*3,none⟩ (.bool true)).setCell ⟨ng,k*9+3+s*3+1,none⟩ (.int .u8 (b.toNat:Nat))).setCell ⟨ng,k*9+3+s*3+2,none⟩ (.int .i64 0)).ownsRow B 195 9 (.slice (some ⟨ng,0,none⟩) n nc) n (Be (B7 nds k s {whole:=true,val:=b}))∧Aa (fun j=>B≤j) w2 (((W1.setCell ⟨ng,k*9+3+s*3,none⟩ (.bool true)).setCell ⟨ng,k*9+3+s*3+1,none⟩ (.int .u8 (b.toNat:Nat))).setCell ⟨ng,k*9+3+s*3+2,none⟩ (.int .i64 0))):=by
        refine⟨by rw[←J];exact T,?_⟩;exact((i.setCell (p:=⟨ng,_,none⟩) (.inr I) _).setCell (p:=⟨ng,_,none⟩) (.inr I) _).setCell (p:=⟨ng,_,none⟩) (.inr I) _
       have U:Aside (Ao (Hm.lnB L) o (2*k+s+1)=(B7 nds k s {whole:=true,val:=b},o.drop (p+1))∧(Ab (B7 nds k s {whole:=true,val:=b}) k).depth=d∧n=nds.length∧k<nds.length∧m=o.length-p∧lc=cp-p):=⟨E,q,hn,f,hm,Z⟩;have aC:(m:Int)≤(lc:Int):=by omega
       obtain⟨lb,C⟩: ∃lb,lb=Hm.lnB L b:=⟨_,rfl⟩;obtain⟨bn,K⟩: ∃bn,bn=b.toNat:=⟨_,rfl⟩;rw[←C]at H Y aB;rw[←K]at Y a5 a2 V;have a3:(bn:Int)<256:=by omega
       clear E A q hn r l f T J a ab S i hm hb y C K aa Z ad z;go_wp2_with fail
       go_region
       go_wp2;go_roundw
       case rel=>
        obtain⟨e,ed,en,ekl,em,elc⟩:=U.o;have e1:(Ao (Hm.lnB L) o (2*k+(s+1))).1=B7 nds k s {whole:=true,val:=b}:=by rw[←Apj,e]
        have e2:(Ao (Hm.lnB L) o (2*k+(s+1))).2=o.drop (p+1):=by rw[←Apj,e]
        refine⟨s+1,p+1,n,by omega,by go_num,by rw[e1,Ce];exact en,by rw[e1];exact V.o.1,by omega,e2,⟨_,_,by rw[show m-1=o.length-(p+1)from by omega],fun h=>⟨if_neg (by have:=aC;omega),by omega⟩⟩,V.o.2.drew,by rw[e1,ed],by rw[e1,Ce];exact ekl⟩
       case measure=>simp[intOf];omega
      ·rw[if_neg (by rw[←l];exact y)]at E A q;have H:((Hm.lnB L b:Int)==(d:Int)+1)=false:=by rw[Aod];omega
       have T:=((((r.stored (k*9+3+s*3) (.bool false)).1).stored (k*9+3+s*3+1) (.int .u8 0)).1.stored (k*9+3+s*3+2) (.int .i64 (n:Nat))).1;have J:=Zi nds k s f av {node:=nds.length};rw[←hn]at J E q;have az:Aa (fun j=>B≤j) w2 (((W1.setCell ⟨ng,k*9+3+s*3,none⟩ (.bool false)).setCell ⟨ng,k*9+3+s*3+1,none⟩ (.int .u8 0)).setCell ⟨ng,k*9+3+s*3+2,none⟩ (.int .i64 (n:Nat))):=
        ((i.setCell (p:=⟨ng,_,none⟩) (.inr I) _).setCell (p:=⟨ng,_,none⟩) (.inr I) _).setCell (p:=⟨ng,_,none⟩) (.inr I) _
       have a0:(((W1.setCell ⟨ng,k*9+3+s*3,none⟩ (.bool false)).setCell ⟨ng,k*9+3+s*3+1,none⟩ (.int .u8 0)).setCell ⟨ng,k*9+3+s*3+2,none⟩ (.int .i64 (n:Nat))).ownsRow B 195 9 (.slice (some ⟨ng,0,none⟩) n nc) n (Be (B7 nds k s {node:=n})):=by
        rw[←J];exact T
       rw[←l]at E q;have U:Aside (Ao (Hm.lnB L) o (2*k+s+1)=(B7 nds k s {node:=n}++[{depth:=d+1,num:=2*(Ab nds k).num+s}],b::o.drop (p+1))∧(Ab (B7 nds k s {node:=n}++[{depth:=d+1,num:=2*(Ab nds k).num+s}]) k).depth=d∧n=nds.length∧k<nds.length∧m=o.length-p∧b=o.getD p 0∧lc=cp-p):=⟨E,q,hn,f,hm,hb,Z⟩;have al:(((W1.setCell ⟨ng,k*9+3+s*3,none⟩ (.bool false)).setCell ⟨ng,k*9+3+s*3+1,none⟩ (.int .u8 0)).setCell ⟨ng,k*9+3+s*3+2,none⟩ (.int .i64 (n:Nat))).heap.size=W1.heap.size:=by simp
       have V:Aside _:=And.intro a0 (And.intro az al);have aS:n≤255:=by omega
       obtain⟨lb,C⟩: ∃lb,lb=Hm.lnB L b:=⟨_,rfl⟩;obtain⟨bn,K⟩: ∃bn,bn=b.toNat:=⟨_,rfl⟩;rw[←C]at H Y aB;rw[←K]at Y a5 a2;have a3:(bn:Int)<256:=by omega
       clear E A q hn r l f T J a ab S i hm hb y C K aa Z ad z a0 az al
       go_wp2_with(at_builtin;refine Bg _ rfl (.tmp 36) (.tmp 39) 93 rfl B 195 i0 _ 9 56 underlying93 hi aW aX aY rfl (by decide) _ n (Be (B7 nds k s {node:=n})) rfl (by exact V.o.1.alloc _) ⟨W1.heap.size,0,none⟩ 1 1 (Ch {depth:=d+1}) rfl rfl ?c1 ?c2 ?c3 ?c4 ?c5 ?_)
       case c1=>
        intro j u hj;have aE:=Anj (((W1.setCell ⟨ng,k*9+3+s*3,none⟩ (.bool false)).setCell ⟨ng,k*9+3+s*3+1,none⟩ (.int .u8 0)).setCell ⟨ng,k*9+3+s*3+2,none⟩ (.int .i64 (n:Nat))) (.cells (Ch {depth:=d+1}).toArray 195);rw[V.o.2.2]at aE;rw[Addr.add_lit,An3];exact(Am7 _ _ j _ _ _ aE).trans (by rw[Anw];exact hj)
       case c2=>exact fun u hu=>Ag3 [{depth:=d+1}] u (by simpa[Be]using hu)
       case c3=>unfold maxLen;omega
       case c4=>omega
       case c5=>have h1:=V.o.1.lt ng rfl;simp only[World.alloc,Array.size_push];omega
       intro v4 w4 aG a8 aR;have aA:Aa (fun j=>B≤j) w2 w4:=(V.o.2.1.alloc _).grown a8 (fun j hj=> .inr (by have e:ng=j:=An0 hj;omega));have ar:w4.ownsRow B 195 9 v4 (n+1) (Be (B7 nds k s {node:=n}++[{depth:=d+1,num:=2*(Ab nds k).num+s}])):=by
        rw[Nv];exact aG
       obtain⟨a4,c4,aV,_⟩:=Aq ar;subst aV;have H4:Aside _:=And.intro ar aA;clear aG a8 aR ar aA V;go_wp2;go_roundw
       case rel=>
        obtain⟨e,ed,en,ekl,em,eb,elc⟩:=U.o;have e1:(Ao (Hm.lnB L) o (2*k+(s+1))).1=B7 nds k s {node:=n}++[{depth:=d+1,num:=2*(Ab nds k).num+s}]:=by rw[←Apj,e]
        have e2:(Ao (Hm.lnB L) o (2*k+(s+1))).2=o.drop p:=by rw[←Apj,e,eb,←Mg o p ac]
        refine⟨s+1,p,n+1,by omega,by go_num,by rw[e1,Anf,Ce,en];rfl,by rw[e1];exact H4.o.1,by omega,e2,⟨_,_,by rw[em],fun h=>⟨rfl,elc⟩⟩,H4.o.2,by rw[e1,ed],by rw[e1,Anf,Ce];omega⟩
       case measure=>simp[intOf];omega
     ·have aI:o.length-p=0:=by omega
      rw[Aqd (by omega)]at E;have U:Aside (Ao (Hm.lnB L) o (2*k+s+1)=(nds,[])∧n=nds.length∧W1.ownsRow B 195 9 (.slice (some ⟨ng,0,none⟩) n nc) n (Be nds)∧Aa (fun j=>B≤j) w2 W1∧d=(Ab nds k).depth∧k<nds.length):=⟨E,hn,r,i,l,f⟩;rw[aI];clear E A q hn r l f a i z;go_wp2;go_roundw
      case rel=>
       obtain⟨e,q1,q2,q3,q4,q5⟩:=U.o;have e1:(Ao (Hm.lnB L) o (2*k+(s+1))).1=nds:=by rw[←Apj,e]
       have e2:(Ao (Hm.lnB L) o (2*k+(s+1))).2=o.drop p:=by rw[←Apj,e,Aqd (by omega)]
       exact⟨s+1,p,n,by omega,by go_num,by rw[e1];exact q1,by rw[e1];exact q2,hp,e2,⟨la,lc,by rw[aI],fun h=>by omega⟩,q3,by rw[e1];exact q4,by rw[e1];exact q5⟩
      case measure=>simp[intOf];omega
    ·obtain rfl:s=2:=by omega
     have aU:decide (((2:Nat):Int)<2)=false:=by decide
     obtain⟨la,lc,t,a⟩:=R;subst t;obtain⟨ng,nc,G,z,ai⟩:=Ck r (by omega);subst G;have U:Aside (n=(Ao (Hm.lnB L) o (2*(k+1))).1.length∧W1.ownsRow B 195 9 (.slice (some ⟨ng,0,none⟩) n nc) n (Be (Ao (Hm.lnB L) o (2*(k+1))).1)∧p≤o.length∧(Ao (Hm.lnB L) o (2*(k+1))).2=o.drop p∧Uh o g cp (.slice la (o.length-p) lc) p∧Aa (fun j=>B≤j) w2 W1):=⟨hn,r,hp,D,⟨la,lc,rfl,a⟩,i⟩;clear hn r hp D a i l f z;go_wp2;go_roundw
     case rel=>
      obtain⟨q1,q2,q3,q4,q5,q6⟩:=U.o;exact⟨k+1,p,n,by omega,by go_num,q1,q2,q3,q4,q5,q6⟩
     case measure=>simp[intOf];omega
  ·obtain rfl:k=N:=by omega
   have aT:n=k:=by rw[hn];exact HE.o.len
   subst aT;obtain⟨la,lc,t,a⟩:=R;subst t;obtain⟨na,nc,G,_⟩:=Aq r;subst G;have ae:decide ((n:Int)<(n:Int))=false:=Anc (by omega);have U:Aside (wr.ownsRow w.heap.size 195 9 (.slice na n nc) n (Be (Ao (Hm.lnB L) o (2*n)).1)∧Ara w wr):=
    ⟨Gj r (fun j hj=>by have:=r.lt j hj;have:=HB.o;omega),ay.o.2.trans i (fun j h1 h2=>by have:=HB.o;omega)⟩
   clear hn r hp D a i;go_wp2;go_ret;exact⟨.slice na n nc,rfl,by rw[hO];exact U.o.1,U.o.2⟩
theorem Ahm(vs:Are): ∀(k:Nat) (A B C:Are),B.length=vs.length→((vs.zipIdx k).foldl (fun(cs:Array Value) (x:Value×Nat)=>cs.setIfInBounds (A.length-k+x.2) x.1) (A++(B++C)).toArray)=(A++(vs++C)).toArray∨A.length<k:=by
 induction vs with
 |nil=>
  intro k A B C h;left;have:B=[]:=Aob h;subst this;rfl
 |cons v r ih=>
  intro k A B C h
  by_cases hk:A.length<k
  ·exact .inr hk
  cases B with
  |nil=>simp at h
  |cons b B=>
   left;rw[List.zipIdx_cons,Aq4];have e0:A.length-k+k=A.length:=by omega
   have e1:(A++(b::B++C)).toArray.setIfInBounds (A.length-k+k) v=((A++[v])++(B++C)).toArray:=by
    rw[e0];simp
   show List.foldl _ ((A++(b::B++C)).toArray.setIfInBounds (A.length-k+k) v) _=_;rw[e1];have h2:=ih (k+1) (A++[v]) B C (by simpa using h);rw[show(A++[v]).length-(k+1)=A.length-k from by simp]at h2;rcases h2 with h2|h2
   ·rw[h2];simp
   ·simp at h2;omega
theorem Ls(place:Nat→Option (Nat×Nat))(i off size:Nat)(v:Value)(rest:List (Nat×Value))(A B C vs:Are)(c:place i=some (off,size))(a:v.cells=vs.toArray)(b:vs.length=size)(hA:A.length=off)(d:B.length=size):
  Instr.fill place (A++(B++C)).toArray ((i,v)::rest)=Instr.fill place (A++(vs++C)).toArray rest:=by
 rw[Instr.fill,c];simp only;have hs:v.cells.size=size:=by rw[a];simpa using b
 rw[if_neg (by simp[hs,hA];omega)];congr 1;rw[a];have h:=Ahm vs 0 A B C (by omega);rcases h with h|h
 ·rw[Aqp,hA]at h;rw[←h,←Array.foldl_toList];simp
 ·omega
def Mr:Are:=[.string ⟨#[]⟩,.int .i64 0,.slice none 0 0]++(O3 256++(.slice none 0 0::(List.replicate 256 (.int .i64 0)++[.int .i64 0])))
theorem Ajh:((prog.info? 96).bind (·.zero))=some (.agg Mr.toArray):=by kernel_rfl
theorem Aez:(prog.underlying 96).bind (fun d=>match d with| .struct fields=>fields.toList.mapM (fun f=>(prog.info? f.type).map fun i=>(f.offset,i.size))|_=>none)=some [(0,3),(3,512),(515,1),(516,256),(772,1)]:=by kernel_rfl
theorem Xc(s:ByteArray)(len g total:Nat)(T:List (Nat×Nat))(a:Arf)(n c:Nat)(o:T.length=256):
  prog.built 96 [(0,.agg #[.string s,.int .i64 (len:Nat),.slice (some ⟨g,0,none⟩) (s.size+1) (s.size+1)]),(1,.agg (Cu T).toArray),(2,.slice a n c),(4,.int .i64 (total:Nat))]=some (Ay s len g T (.slice a n c) (List.replicate 256 0) total).toArray:=by
 unfold Program.built;have h:=Ajh;have e:=Aez;cases h1:prog.info? 96 with
 |none=>rw[h1]at h;cases h
 |some it=>
  cases h2:prog.underlying 96 with
  |none=>rw[h2]at e;cases e
  |some d=>
   rw[h1]at h;rw[h2]at e;have m:it.zero=some (.agg Mr.toArray):=h;cases d<;>try(cases e;done)
   rename_i fields;have j:fields.toList.mapM (fun f=>(prog.info? f.type).map fun i=>(f.offset,i.size))=some [(0,3),(3,512),(515,1),(516,256),(772,1)]:=e;simp only[m,j];have e0:(Value.agg Mr.toArray).cells=Mr.toArray:=rfl;rw[e0];have k:(O3 256).length=512:=by rw[←U6,C7,Ani]
   have l:(List.replicate 256 (Value.int .i64 0)).length=256:=Ani;have b:(Cu T).length=512:=by rw[C7,o]
   have eL:[Value.string ⟨#[]⟩,.int .i64 0,.slice none 0 0]++(O3 256++(.slice none 0 0::(List.replicate 256 (.int .i64 0)++[.int .i64 0])))=Mr:=rfl;have eR:Ad (List.replicate 256 0)=List.replicate 256 (Value.int .i64 0):=by unfold Ad;rw[List.map_replicate];rfl
   unfold Ay;rw[eR];generalize Mr=ZT at*;generalize List.replicate 256 (Value.int .i64 0)=R at*;generalize O3 256=PZ at*;generalize Cu T=TT at*;have s1:=Ls ([(0,3),(3,512),(515,1),(516,256),(772,1)].toArray[·]?) 0 0 3 (.agg #[.string s,.int .i64 (len:Nat),.slice (some ⟨g,0,none⟩) (s.size+1) (s.size+1)]) [(1,.agg TT.toArray),(2,.slice a n c),(4,.int .i64 (total:Nat))] [] [.string ⟨#[]⟩,.int .i64 0,.slice none 0 0] (PZ++(.slice none 0 0::(R++[.int .i64 0]))) [.string s,.int .i64 (len:Nat),.slice (some ⟨g,0,none⟩) (s.size+1) (s.size+1)] rfl rfl rfl rfl rfl;have s2:=Ls ([(0,3),(3,512),(515,1),(516,256),(772,1)].toArray[·]?) 1 3 512 (.agg TT.toArray) [(2,.slice a n c),(4,.int .i64 (total:Nat))] [.string s,.int .i64 (len:Nat),.slice (some ⟨g,0,none⟩) (s.size+1) (s.size+1)] (PZ) (.slice none 0 0::(R++[.int .i64 0])) TT rfl rfl b rfl k;have s3:=Ls ([(0,3),(3,512),(515,1),(516,256),(772,1)].toArray[·]?) 2 515 1 (.slice a n c) [(4,.int .i64 (total:Nat))] ([.string s,.int .i64 (len:Nat),.slice (some ⟨g,0,none⟩) (s.size+1) (s.size+1)]++TT) [.slice none 0 0] (R++[.int .i64 0]) [.slice a n c] rfl rfl rfl (by rw[Anf,b];rfl) rfl;have s4:=Ls ([(0,3),(3,512),(515,1),(516,256),(772,1)].toArray[·]?) 4 772 1 (.int .i64 (total:Nat)) [] ([.string s,.int .i64 (len:Nat),.slice (some ⟨g,0,none⟩) (s.size+1) (s.size+1)]++TT++[.slice a n c]++R) [.int .i64 0] [] [.int .i64 (total:Nat)] rfl rfl rfl (by simp only[Anf,b,l];rfl) rfl;rw[Aqs,Aqs,eL]at s1;rw[s1,s2];have e3:[Value.string s,.int .i64 (len:Nat),.slice (some ⟨g,0,none⟩) (s.size+1) (s.size+1)]++(TT++(.slice none 0 0::(R++[.int .i64 0])))=([Value.string s,.int .i64 (len:Nat),.slice (some ⟨g,0,none⟩) (s.size+1) (s.size+1)]++TT)++([.slice none 0 0]++(R++[.int .i64 0])):=by simp only[Aqw,Aqs]
   rw[e3,s3];have e4:([Value.string s,.int .i64 (len:Nat),.slice (some ⟨g,0,none⟩) (s.size+1) (s.size+1)]++TT)++([.slice a n c]++(R++[.int .i64 0]))=([Value.string s,.int .i64 (len:Nat),.slice (some ⟨g,0,none⟩) (s.size+1) (s.size+1)]++TT++[.slice a n c]++R)++([.int .i64 0]++[]):=by simp only[An4,Aow]
   rw[e4,s4];rw[Instr.fill];simp only[An4,Aow,Aqw,Aqs]
theorem E7{P:Program}{ρ:Operand→Value}{o:Oper}(w:World)(ty:TypeId)(x:Operand)(b:o.op= .load ty x)(g:Nat)(e:ρ x= .pointer (some ⟨g,0,none⟩))(t:TypeId)(cs:Array Value)(fr:Nat×Nat)(d:TypeDesc)(a:w.heap[g]?=some (.cells cs t fr))
  (c:P.underlying ty=some d) (hd:(match d with| .struct _| .array _ _=>true|_=>false)=true) (hi:(P.info? ty).map (·.size)=some cs.size):(execOp ρ o).run P w= .ok (.value (.agg cs)) w:=by
 unfold execOp;simp only[b,e,Instr.loadAt,Instr.sureAddr,Sem.run_bind,Sem.run_pure,Ap6,run_loadVar_row w g t ty cs fr d a c hd hi]
theorem O6{P:Program}{ρ:Operand→Value}{o:Oper}(w:World)(t:TypeId)(parts:Array (Nat×Operand))(a:o.op= .build t parts)(cells:Array Value)(h:P.built t (parts.map fun(i,x)=>(i,ρ x)).toList=some cells):(execOp ρ o).run P w= .ok (.value (.agg cells)) w:=by
 unfold execOp;simp only[a,Sem.run_bind,run_build w t _ cells h,Ap6,Sem.run_pure]
theorem Hx{P:Program}{ρ:Operand→Value}{o:Oper}(w:World)(t:TypeId)(i0 i1 i2 i3:Nat)(x0 x1 x2 x3:Operand)(c:o.op= .build t #[(i0,x0),(i1,x1),(i2,x2),(i3,x3)])(v0 v1 v2 v3:Value)(a:ρ x0=v0)(h1:ρ x1=v1)(h2:ρ x2=v2)(b:ρ x3=v3)(cells:Array Value)(h:P.built t [(i0,v0),(i1,v1),(i2,v2),(i3,v3)]=some cells):(execOp ρ o).run P w= .ok (.value (.agg cells)) w:=by
 refine O6 w t _ c cells ?_;simp only[List.map_toArray,Aos,Aqy,a,h1,h2,b];exact h
theorem B9{P:Program}(w:World){ops:Array Oper}{op:Oper}{a:Act}{K:Act→World→Prop}{Q:Exit→Act→World→Prop}{E:Prop}(b:op.guard=none)(ty:TypeId)(x y:Operand)(d:op.op= .store ty x y)
  (g:Nat) (t:TypeId) (old cells:Array Value) (f:a.eval x= .pointer (some ⟨g,0,none⟩)) (i:a.eval y= .agg cells) (c:w.heap[g]?=some (.cells old t (0,0)))
  (hi:(P.info? ty).map (·.size)=some cells.size) (hs:old.size=cells.size) (h1:cells.all (·.oneCell')=true)
  (h: ∀w',w'.heap[g]?=some (.cells cells t (0,0))→Aa (fun j=>j=g) w w'→K (a.put op.dst undef) w'):if Region.wanted op (yielded ops a.tmps)=true then Oper.wp P op a w K Q else E:=by
 have e:Region.wanted op (yielded ops a.tmps)=true:=by simp[Region.wanted,b]
 rw[if_pos e];unfold Oper.wp execOp;simp only[d,f,i,Instr.storeAt,Instr.sureAddr,Sem.run_bind,Sem.run_pure,Ap6,run_storeVar_row w g t ty old cells c hi hs h1];exact h _ (setRow_heap w g old cells t _ c) ((Aa.refl (fun j=>j=g) w).setRow (g:=g) (.inr rfl) _)
theorem Ca:(prog.info? 96).map (·.size)=some 773:=by kernel_rfl
theorem Ei(s:ByteArray)(len g total:Nat)(T:List (Nat×Nat))(v:Value)(ws:Ard)(b:v.oneCell'=true):(Ay s len g T v ws total).toArray.all (·.oneCell')=true:=by
 have h1:=Q6 T;have h2:=Fv ws;rw[Apw]at*;intro x c;have a:x∈Ay s len g T v ws total:=by simpa using c
 unfold Ay at a;simp only[Aq3,List.mem_cons,List.not_mem_nil,or_false]at a;rcases a with(rfl|rfl|rfl)|h|rfl|h|rfl
 ·rfl
 ·rfl
 ·rfl
 ·exact h1 x (by simpa using h)
 ·exact b
 ·exact h2 x (by simpa using h)
 ·rfl
theorem Xd:prog.built 96 []=some Tryz.zeroCells96:=by kernel_rfl
theorem Hp:Tryz.zeroCells96.size=773:=by kernel_rfl
theorem Tj:Tryz.zeroCells96.all (·.oneCell')=true:=by kernel_rfl
theorem Aji{w:World}{base g n:Nat}{e:TypeId}{xs:Are}(h:w.ownsRow base e 1 (.slice (some ⟨g,0,none⟩) n n) n xs):w.heap[g]?=some (.cells xs.toArray e (0,0)):=by
 rcases h.2 with⟨h1,_⟩|⟨g2,cap,cur,h1,_,a,_,_,hs,ht⟩
 ·cases h1
 ·cases h1;rw[a];congr 2;apply Api;have e:cur.toList.take (n*1)=cur.toList:=An5 (by simp;omega);rw[←e,ht]
theorem Hy(l:Are)(i j:Nat)(x:Value)(h:i<l.length):(l.set i x).getD j undef=if i=j then x else l.getD j undef:=by
 rw[Am4,List.getElem?_set]
 by_cases e:i=j
 ·rw[if_pos e,if_pos e,if_pos h];rfl
 ·rw[if_neg e,if_neg e,←Am4]
structure O7(w:World)(gc:Nat)(vals:Are)(cs:List Arc):Prop where
 blk:w.heap[gc]?=some (.cells vals.toArray 79 (0,0))
 len:vals.length=cs.length
 own: ∀n,n<cs.length→w.ownsRow 0 5 1 (vals.getD n undef) (cs.getD n []).length (Ah (cs.getD n []))
 sep: ∀n m k,0<n→n<cs.length→m<cs.length→(vals.getD n undef).ownBlock=some k→(vals.getD m undef).ownBlock=some k→n=m
 ne: ∀n k,n<cs.length→(vals.getD n undef).ownBlock=some k→k≠gc
theorem O7.kept{S:Nat→Prop}{w w':World}{gc:Nat}{vals:Are}{cs:List Arc}(h:O7 w gc vals cs)(hk:Aa S w w')(h1: ¬S gc)(h2: ∀n k,n<cs.length→(vals.getD n undef).ownBlock=some k→ ¬S k):O7 w' gc vals cs:=
 ⟨hk.row h.blk h1,h.len,fun n hn=>hk.owns (h.own n hn) (h2 n · hn),h.sep,h.ne⟩
theorem O7.app{w w1:World}{gc:Nat}{vals:Are}{cs:List Arc}(h:O7 w gc vals cs){n:Nat}(p:0<n)(hn:n<cs.length){v':Value}{l:Arc}(hk:Aa (fun j=>(vals.getD n undef).ownBlock=some j) w w1)(s:w1.ownsRow 0 5 1 v' l.length (Ah l))(f:Cb w (vals.getD n undef) v'):
  O7 (w1.setCell ⟨gc,n,none⟩ v') gc (vals.set n v') (cs.set n l):=by
 have r:gc<w.heap.size:=Anu h.blk;have g:n<vals.length:=by rw[h.len];exact hn
 have o:=hk.row h.blk (fun e=>h.ne n gc hn e rfl);have i: ∀k,v'.ownBlock=some k→k≠gc:=fun k e=>by
  rcases f k e with c|c
  ·exact h.ne n k hn c
  ·omega
 refine⟨?_,by rw[Aou,Aou];exact h.len,fun m d=>?_,fun a b k q h1 h2 e1 e2=>?_,fun m k d e=>?_⟩
 ·have:=Anb w1 gc n _ _ v' o;rw[this];simp
 ·rw[Aou]at d;rw[Hy _ _ _ _ g,N8 _ _ _ _ hn]
  by_cases c:n=m
  ·rw[if_pos c,if_pos c];exact ownsRow_setCell_other s (fun e=>i gc e rfl) _
  ·rw[if_neg c,if_neg c];refine ownsRow_setCell_other (hk.owns (h.own m d) (fun k e e2=>c (h.sep n m k p hn d e2 e))) (fun e=>h.ne m gc d e rfl) _
 ·rw[Aou]at h1 h2;rw[Hy _ _ _ _ g]at e1 e2
  by_cases c1:n=a
  ·by_cases c2:n=b
   ·omega
   ·rw[if_pos c1]at e1;rw[if_neg c2]at e2;rcases f k e1 with c|c
    ·have:=h.sep n b k p hn h2 c e2;omega
    ·have:=(h.own b h2).lt k e2;omega
  ·by_cases c2:n=b
   ·rw[if_neg c1]at e1;rw[if_pos c2]at e2;rcases f k e2 with c|c
    ·have:=h.sep a n k q h1 hn e1 c;omega
    ·have:=(h.own a h1).lt k e1;omega
   ·rw[if_neg c1]at e1;rw[if_neg c2]at e2;exact h.sep a b k q h1 h2 e1 e2
 ·rw[Aou]at d;rw[Hy _ _ _ _ g]at e
  by_cases c:n=m
  ·rw[if_pos c]at e;exact i k e
  ·rw[if_neg c]at e;exact h.ne m k d e
structure TSt(W0 wr:World)(gc b8:Nat)(vals:Are)(cs:List Arc)(v8:Value)(bits:List Bool):Prop where
 cols:O7 wr gc vals cs
 bat:D3 wr 221 b8 v8 bits
 kept:Aa (fun j=>j=b8∨j=gc) W0 wr
 new: ∀n k,0<n→n<cs.length→(vals.getD n undef).ownBlock=some k→W0.heap.size≤k
 sepv: ∀n k,n<cs.length→(vals.getD n undef).ownBlock=some k→v8.ownBlock≠some k
 row: ∀k,v8.ownBlock=some k→W0.heap.size≤k
 zero: ∀k,(vals.getD 0 undef).ownBlock=some k→k<W0.heap.size∧k≠b8
 gB:gc<W0.heap.size
 bB:b8<W0.heap.size
 gb:gc≠b8
def K8(hb gc b8:Nat)(vals:Are)(v8:Value):Prop:=(∀n k,n<vals.length→(vals.getD n undef).ownBlock=some k→k≠hb)∧v8.ownBlock≠some hb∧hb≠gc∧hb≠b8
section
variable {W0 wr w2:World} {gc b8:Nat} {vals:Are} {cs:List Arc} {v8 v':Value} {bits bits':List Bool} {hb:Nat}
theorem TSt.grew(h:TSt W0 wr gc b8 vals cs v8 bits)(hk:Ara wr w2):TSt W0 w2 gc b8 vals cs v8 bits:=
 ⟨h.cols.kept hk id (fun _ _ _ _=>id),h.bat.kept hk id (fun _ _=>id),h.kept.trans hk (fun _ _ h=>h.elim),h.new,h.sepv,h.row,h.zero,h.gB,h.bB,h.gb⟩
theorem TSt.add(h:TSt W0 wr gc b8 vals cs v8 bits)(hb:D3 w2 221 b8 v' bits')(hk:Aa (Bk b8 v8) wr w2)(a:Cb wr v8 v'):TSt W0 w2 gc b8 vals cs v' bits':=by
 have b:=h.kept.size;refine⟨h.cols.kept hk (fun e=>?_) (fun n k hn e e2=>?_),hb,h.kept.trans hk (fun j d e=>?_),h.new,fun n k hn e e2=>?_,fun k e=>?_,h.zero,h.gB,h.bB,h.gb⟩
 ·rcases e with e|e
  ·exact h.gb e
  ·have:=h.row gc e;have:=h.gB;omega
 ·rcases e2 with e2|e2
  ·subst e2
   by_cases c:n=0
   ·subst c;exact(h.zero k e).2 rfl
   ·have:=h.new n k (by omega) hn e;have:=h.bB;omega
  ·exact h.sepv n k hn e e2
 ·rcases e with e|e
  ·exact .inl e
  ·have:=h.row j e;omega
 ·rcases a k e2 with c|c
  ·exact h.sepv n k hn e c
  ·have:=(h.cols.own n hn).lt k e;omega
 ·rcases a k e with c|c
  ·exact h.row k c
  ·omega
theorem TSt.app(h:TSt W0 wr gc b8 vals cs v8 bits){n:Nat}(i:0<n)(hn:n<cs.length){l:Arc}(hk:Aa (fun j=>(vals.getD n undef).ownBlock=some j) wr w2)(r:w2.ownsRow 0 5 1 v' l.length (Ah l))(a:Cb wr (vals.getD n undef) v'):
  TSt W0 (w2.setCell ⟨gc,n,none⟩ v') gc b8 (vals.set n v') (cs.set n l) v8 bits:=by
 have s:=h.kept.size;have b:n<vals.length:=by rw[h.cols.len];exact hn
 have f:Aa (fun j=>(vals.getD n undef).ownBlock=some j∨j=gc) wr (w2.setCell ⟨gc,n,none⟩ v'):=(hk.wider (fun _ _ h=> .inl h)).setCell (p:=⟨gc,n,none⟩) (.inr (.inr rfl)) _;refine⟨h.cols.app i hn hk r a,h.bat.kept f (fun e=>?_) (fun j o e=>?_),h.kept.trans f (fun j o e=>?_),fun m k q g e=>?_,fun m k g e e2=>?_,h.row,fun k e=>?_,h.gB,h.bB,h.gb⟩
 ·rcases e with e|e
  ·have:=h.new n b8 i hn e;have:=h.bB;omega
  ·exact h.gb e.symm
 ·rcases e with e|e
  ·exact h.sepv n j hn e o
  ·subst e;have:=h.row j o;have:=h.gB;omega
 ·rcases e with e|e
  ·have:=h.new n j i hn e;omega
  ·exact .inr e
 ·rw[Aou]at g;rw[Hy _ _ _ _ b]at e
  by_cases c:n=m
  ·rw[if_pos c]at e;rcases a k e with d|d
   ·exact h.new n k i hn d
   ·omega
  ·rw[if_neg c]at e;exact h.new m k q g e
 ·rw[Aou]at g;rw[Hy _ _ _ _ b]at e
  by_cases c:n=m
  ·rw[if_pos c]at e;rcases a k e with d|d
   ·exact h.sepv n k hn d e2
   ·have:=(h.bat.own.lt k e2).2;omega
  ·rw[if_neg c]at e;exact h.sepv m k g e e2
 ·rw[Hy _ _ _ _ b,if_neg (by omega)]at e;exact h.zero k e
theorem K8.add(h:K8 hb gc b8 vals v8)(b:hb<wr.heap.size)(a:Cb wr v8 v'):K8 hb gc b8 vals v':=by
 refine⟨h.1,fun e=>?_,h.2.2⟩;rcases a hb e with c|c
 ·exact h.2.1 c
 ·omega
theorem K8.app(h:K8 hb gc b8 vals v8){n:Nat}(hn:n<vals.length)(f:hb<wr.heap.size)(b:Cb wr (vals.getD n undef) v'):K8 hb gc b8 (vals.set n v') v8:=by
 refine⟨fun m k a e=>?_,h.2⟩;rw[Aou]at a;rw[Hy _ _ _ _ hn]at e
 by_cases c:n=m
 ·rw[if_pos c]at e;rcases b k e with d|d
  ·exact h.1 n k hn d
  ·omega
 ·rw[if_neg c]at e;exact h.1 m k a e
theorem TSt.fresh(h:TSt W0 wr gc b8 vals cs v8 bits):K8 wr.heap.size gc b8 vals v8:=by
 have:=h.kept.size;have h1:=h.gB;have h2:=h.bB;refine⟨fun n k hn e=>?_,fun e=>?_,by omega,by omega⟩
 ·have:=(h.cols.own n (by rw[←h.cols.len];exact hn)).lt k e;omega
 ·have:=(h.bat.own.lt _ e).2;omega
end
theorem Ae0(y:Nat)(a:y<4294967296):Go.bits .and .u64 (y:Int) 1=((y%2:Nat):Int):=by
 show IntKind.u64.wrap ((BitVec.ofInt 64 (y:Int)&&&BitVec.ofInt 64 1).toNat:Int)=_;rw[BitVec.toNat_and,Aq2,BitVec.toNat_ofNat,Ao7 (by omega:y<2^64),show(BitVec.ofInt 64 1).toNat=1 from rfl,Nat.and_one_is_mod];have:=Nat.mod_lt y (y:=2) (by omega);rw[IntKind.wrap_u64];omega
theorem U7(c l d:Nat)(w:World)(i:c<4294967296)(m:l≤32)(hd:d<l):
  Calls prog 151 #[.agg #[.int .u64 c,.int .i64 l],.int .i64 d] w fun e w'=>e= .returned (.int .i64 ((c/2^(l-1-d)%2:Nat):Int))∧Ara w w':=by
 obtain⟨n,hn⟩: ∃n,n=l-1-d:=⟨_,rfl⟩;have zn:(l:Int)-1-(d:Int)=(n:Int):=by omega
 obtain⟨y,p,j,g⟩: ∃y:Nat,y<4294967296∧(c:Int)/2^n=(y:Int)∧Hid (y=c/2^n):=
  ⟨c/2^n,Aov (Apt _ _) i,by simp,rfl⟩
 have a:=Ae0 y (by omega);obtain⟨z,b⟩: ∃z,y%2=z:=⟨_,rfl⟩;rw[b]at a;have k:z≤1:=by omega
 have f:n≤32:=by omega
 have h:Aside (c/2^(l-1-d)%2=z):=by show _=_;rw[←hn,←g.o];exact b
 have hk:Ara w (w.alloc (.cells #[.int .u64 (c:Nat),.int .i64 (l:Nat)] 90)):=(Aa.refl _ _).alloc _;clear hn b
 go_enter func151,ntmps151
 go_wp2;go_ret;exact⟨by rw[h.o];rfl,hk⟩
namespace Hm
def Bx(ps:Ard)(wd:Nat):List Bool:=(ps.filter fun p=>decide (p%8=0)).flatMap fun p=>Aw (p/8) wd
def A7(ps:Ard):List Bool:=(ps.map fun p=>decide (p%8=0))++Bx ps (Lib.bitLen ((ps.length-1)/8))
theorem R8(ps:Ard)(wd k:Nat)(h:k<ps.length):Bx (ps.take (k+1)) wd=Bx (ps.take k) wd++if ps[k]%8=0 then Aw (ps[k]/8) wd else []:=by
 rw[Anh h];unfold Bx;rw[Ao8,Ao4];congr 1
 by_cases e:ps[k]%8=0<;>simp[e]
theorem Py(ps:Ard)(wd:Nat):(Bx ps wd).length≤ps.length*wd:=by
 unfold Bx;induction ps with
 |nil=>simp
 |cons p r ih=>
  rw[Ao3,An8,Ape];split
  ·rw[Aoe,Anf,Do];omega
  ·omega
end Hm
def El:Prop:= ∀(x:Int) (W:World),0≤x→x≤18446744073709551615→Calls prog 175 #[.int .u64 x] W fun e w'=>e= .returned (.int .i64 (Lib.bitLen x.toNat:Nat))∧W=w'
theorem U8(p:Nat)(w:World)(a:p≤1000000):Calls prog 154 #[.int .i64 p] w fun e w'=>e= .returned (.bool (decide (p%8=0)))∧w=w':=by
 by_cases h:p%8=0
 ·have hb:((p:Int)%8==0)=true:=by simp;omega
  go_enter func154,ntmps154
  go_wp2;go_ret;simp[h]
 ·have hb:((p:Int)%8==0)=false:=by simp;omega
  go_enter func154,ntmps154
  go_wp2;go_ret;simp[h]
theorem Ms(b:El)(n:Nat)(w:World)(hn:n≤1000000):Calls prog 155 #[.int .i64 n] w fun e w'=>e= .returned (.int .i64 (Lib.bitLen (n/8):Nat))∧w=w':=by
 have a:=b ((n/8:Nat):Int) w (by omega) (by omega);rw[Int.toNat_natCast]at a;have e:((n/8:Nat):Int)=(n:Int)/8:=by omega
 rw[e]at a;generalize Lib.bitLen (n/8)=r at*
 go_enter func155,ntmps155
 go_wp2_with(go_at_call 175;refine a.mono ?_;rintro e w2 ⟨rfl,rfl⟩)
 go_ret;exact⟨rfl,rfl⟩
theorem Lt(w:World)(b:Nat)(x y z u:Value):Aa (fun j=>j=b) w ((((w.setCell ⟨b,0,none⟩ x).setCell ⟨b,1,none⟩ y).setCell ⟨b,2,none⟩ z).setCell ⟨b,3,none⟩ u):=
 (L0 w b x y z).setCell (p:=⟨b,3,none⟩) (.inr rfl) u
theorem Xe(hones:Bd)(hLn:El)(ao:Arf)(c:Nat)(ps:Ard)(w:World)(hi:J8 w ao ps)(ax:1≤ps.length)(hm:ps.length≤6001)(N: ∀p∈ps,p≤6000):
  Calls prog 100 #[.slice ao ps.length c] w fun e w'=> ∃g,w.heap.size≤g∧e= .returned (.agg #[.string ⟨(Ag (A7 ps)).toArray⟩,.int .i64 ((A7 ps).length:Nat),.slice (some ⟨g,0,none⟩) ((Ag (A7 ps)).length+1) ((Ag (A7 ps)).length+1),.int .i64 ((ps.length-1:Nat):Int)])∧
   IntRow w' g (B6 (Ag (A7 ps)))∧Ara w w':=by
 have ac:Aside _:=hones;clear hones;have X:Hid (A7 ps=(ps.map fun p=>decide (p%8=0))++Bx ps (Lib.bitLen ((ps.length-1)/8))):=rfl;generalize A7 ps=R at X⊢;have F:Lib.bitLen ((ps.length-1)/8)≤10:=Lib.bitLen_le _ 10 (by omega) (by omega);obtain⟨T,hT⟩: ∃T,T=ps.length-1:=⟨_,rfl⟩;have zT:(ps.length:Int)-1=(T:Int):=by omega
 have aq:T≤6000:=by omega
 rw[←hT]at X F⊢;clear hT
 go_enter func100,ntmps100
 go_wp2
 go_loopw[12] (fun i wr=> ∃(k:Nat) (v':Value),k≤ps.length∧i= .int .i64 k∧D3 wr 221 (w.heap.size+1) v' ((ps.take k).map fun p=>decide (p%8=0))∧Aa (fun j=>w.heap.size+1≤j) ((w.alloc (.cells #[.string ⟨#[]⟩,.int .i64 0,.slice none 0 0,.int .i64 0] 100)).alloc (.cells #[.slice none 0 0,.int .i64 0] 221)) wr∧(∀j,v'.ownBlock=some j→w.heap.size+2≤j)) (fun i _=>ps.length-(intOf i).toNat)
 case atStart=>exact⟨0,.slice none 0 0,Ann _,rfl,by simpa using Ab2 w _ _,Aa.refl _ _,fun j h=>by cases h⟩
 case round=>
  obtain⟨k,v',hk,rfl,hb,d,n⟩:=hrel;have u:Ara w wr:=(((Aa.refl (fun _=>False) w).alloc _).alloc _).trans d (fun j h1 h2=>by omega)
  by_cases y:k<ps.length
  ·obtain⟨b,o,r,af,ag⟩:=(hi.kept u (fun a ha=>id)) k y;have ah:=N ps[k] (Anm _);have K:Hid (((ps.take (k+1)).map fun p=>decide (p%8=0))=((ps.take k).map fun p=>decide (p%8=0))++[decide (ps[k]%8=0)]):=by
    show _=_;rw[Anh y,Apk];rfl
   generalize ps[k]=x at*;have t:=U8 x wr (by omega)
   by_cases f:x%8=0
   ·have l:=Ub 221 (w.heap.size+1) v' _ 1 wr hb (by simp;omega) (by omega);rw[show decide (1=1)=decide (x%8=0)from by simp[f]]at l;rw[show decide (x%8=0)=true from by simp[f]]at t;rw[r];clear r hi hb N f
    go_wp2_with(first|(go_at_call 154;refine t.mono ?_;rintro e w2 ⟨rfl,rfl⟩)|(go_at_call 152;refine l.mono ?_;rintro e w2 ⟨v2,rfl,z,A,D⟩))
    go_roundw
    case rel=>
     refine⟨k+1,v2,by omega,by go_num,by rw[K.o];exact z,d.trans A (fun j h1 h2=>?_),fun j h=>?_⟩
     ·rcases h2 with h2|h2
      ·omega
      ·have:=n j h2;omega
     ·rcases D j h with h2|h2
      ·exact n j h2
      ·have:=d.size;simp at this;omega
    case measure=>simp[intOf];omega
   ·have l:=Ub 221 (w.heap.size+1) v' _ 0 wr hb (by simp;omega) (by omega);rw[show decide (0=1)=decide (x%8=0)from by simp[f]]at l;rw[show decide (x%8=0)=false from by simp[f]]at t;rw[r];clear r hi hb N f
    go_wp2_with(first|(go_at_call 154;refine t.mono ?_;rintro e w2 ⟨rfl,rfl⟩)|(go_at_call 152;refine l.mono ?_;rintro e w2 ⟨v2,rfl,z,A,D⟩))
    go_roundw
    case rel=>
     refine⟨k+1,v2,by omega,by go_num,by rw[K.o];exact z,d.trans A (fun j h1 h2=>?_),fun j h=>?_⟩
     ·rcases h2 with h2|h2
      ·omega
      ·have:=n j h2;omega
     ·rcases D j h with h2|h2
      ·exact n j h2
      ·have:=d.size;simp at this;omega
    case measure=>simp[intOf];omega
  ·obtain rfl:k=ps.length:=by omega
   rw[Aof]at hb;have aa:=Ms hLn T wr (by omega);generalize Lib.bitLen (T/8)=L at*;generalize hB:(ps.map fun p=>decide (p%8=0))=B at*;have Y:B.length=ps.length:=by rw[←hB];simp
   have am:Hid (B.length=ps.length):=Y;have ak:B.length≤6001:=by omega
   have U:Hid (D3 wr 221 (w.heap.size+1) v' B):=hb;have HI:Hid (J8 w ao ps):=hi;clear hi hb y hk hB Y
   go_wp2_with(go_at_call 155;refine aa.mono ?_;rintro e w2 ⟨rfl,rfl⟩)
   clear aa
   go_loopw[28] (fun i wr=> ∃(k:Nat) (v':Value),k≤ps.length∧i= .int .i64 k∧D3 wr 221 (w.heap.size+1) v' (B++Bx (ps.take k) L)∧Aa (fun j=>w.heap.size+1≤j) ((w.alloc (.cells #[.string ⟨#[]⟩,.int .i64 0,.slice none 0 0,.int .i64 0] 100)).alloc (.cells #[.slice none 0 0,.int .i64 0] 221)) wr∧(∀j,v'.ownBlock=some j→w.heap.size+2≤j)) (fun i _=>ps.length-(intOf i).toNat)
   case atStart=>exact⟨0,v',Ann _,rfl,by simpa[Bx]using U.o,d,n⟩
   case round=>
    clear d n u U;obtain⟨k,v3,hk,rfl,hb,d,n⟩:=hrel;have u:Ara w wr:=(((Aa.refl (fun _=>False) w).alloc _).alloc _).trans d (fun j h1 h2=>by omega)
    by_cases y:k<ps.length
    ·obtain⟨b,o,r,af,ag⟩:=(HI.o.kept u (fun a ha=>id)) k y;have ah:=N ps[k] (Anm _);have K:Hid (Bx (ps.take (k+1)) L=Bx (ps.take k) L++if ps[k]%8=0 then Aw (ps[k]/8) L else []):=R8 ps L k y;have ay:(B++Bx (ps.take k) L).length≤70000:=by
      have h1:=Py (ps.take k) L;have h2:(ps.take k).length*L≤6001*10:=Aoj (by simp;omega) F;simp only[Anf];omega
     generalize ps[k]=x at*;have t:=U8 x wr (by omega)
     by_cases f:x%8=0
     ·rw[show decide (x%8=0)=true from by simp[f]]at t;have l:=Wi 221 (w.heap.size+1) v3 _ (x/8) L wr hb (by omega) (by omega) (by omega);rw[show((x/8:Nat):Int)=(x:Int)/8 from by omega]at l;have M:Hid (Bx (ps.take (k+1)) L=Bx (ps.take k) L++Aw (x/8) L):=by
       show _=_;rw[K.o,if_pos f]
      rw[r];clear r hb N f K
      go_wp2_with(first|(go_at_call 154;refine t.mono ?_;rintro e w2 ⟨rfl,rfl⟩)|(go_at_call 142;refine l.mono ?_;rintro e w2 ⟨v2,rfl,z,A,D⟩))
      go_roundw
      case rel=>
       refine⟨k+1,v2,by omega,by go_num,by rw[M.o,←An4];exact z,d.trans A (fun j h1 h2=>?_),fun j h=>?_⟩
       ·rcases h2 with h2|h2
        ·omega
        ·have:=n j h2;omega
       ·rcases D j h with h2|h2
        ·exact n j h2
        ·have:=d.size;simp at this;omega
      case measure=>simp[intOf];omega
     ·rw[show decide (x%8=0)=false from by simp[f]]at t;have M:Hid (Bx (ps.take (k+1)) L=Bx (ps.take k) L):=by
       show _=_;rw[K.o,if_neg f,Aow]
      rw[r];clear r N f K
      go_wp2_with(first|(go_at_call 154;refine t.mono ?_;rintro e w2 ⟨rfl,rfl⟩))
      go_roundw
      case rel=>
       exact⟨k+1,v3,by omega,by go_num,by rw[M.o];exact hb,d,n⟩
      case measure=>simp[intOf];omega
    ·obtain rfl:k=ps.length:=by omega
     rw[Aof,←X.o]at hb;have E:=Yc 221 (w.heap.size+1) v3 R wr hb;have Q:(⟨(Ag R).toArray⟩:ByteArray).size=(Ag R).length:=by show(Ag R).toArray.size=_;simp
     have ae:R.length≤100000:=by
      rw[X.o];have h1:=Py ps L;have h2:ps.length*L≤6001*10:=Aoj hm F;simp only[Anf];omega
     have H:=Bi R;have q:=fun W=>J9 ac.o ⟨(Ag R).toArray⟩ R.length W (by rw[Q,H];omega);have e3:(⟨(Ag R).toArray⟩:ByteArray).data.toList=Ag R:=rfl;rw[e3,Q]at q;have S:wr.heap[w.heap.size]?=some (.cells #[.string ⟨#[]⟩,.int .i64 0,.slice none 0 0,.int .i64 0] 100 (0,0)):=d.row (Apb w _ _) (by omega);have HX:Aside (wr.heap[w.heap.size]?=some (.cells #[.string ⟨#[]⟩,.int .i64 0,.slice none 0 0,.int .i64 0] 100 (0,0))∧Ara w wr):=⟨S,u⟩;have az:w.heap.size<wr.heap.size:=Anu S;have HC:Aside _:=q;obtain⟨s,hS⟩: ∃s,s=(⟨(Ag R).toArray⟩:ByteArray):=⟨_,rfl⟩;obtain⟨P,hP⟩: ∃P,P=Ag R:=⟨_,rfl⟩;have J:Aside (s=(⟨(Ag R).toArray⟩:ByteArray)∧P=Ag R):=⟨hS,hP⟩;have I:=HC.o;rw[←hS,←hP]at I;rw[←hS]at E;have V:Aside _:=I;clear I HC hS hP Q;clear hb N X S u d H e3 q ae;go_wp2_with fail;refine E.mono ?_;rintro e w5 ⟨rfl,O⟩;have q:=V.o w5;clear E V;go_wp2_with fail;refine q.mono ?_;rintro e w6 ⟨g,hg,rfl,G,Z⟩;have C:Ara wr w6:=O.trans Z (fun _ _ h=>h);have m:=C.row HX.o.1 id;have p0:w6.cell? ⟨w.heap.size,0,none⟩=some (.string ⟨#[]⟩):=Am7 _ _ 0 _ _ _ m;have p1:w6.cell? ⟨w.heap.size,1,none⟩=some (.int .i64 0):=Am7 _ _ 1 _ _ _ m;have p2:w6.cell? ⟨w.heap.size,2,none⟩=some (.slice none 0 0):=Am7 _ _ 2 _ _ _ m;have f0:w6.frozen? ⟨w.heap.size,0,none⟩=false:=Ang _ _ 0 _ _ m;have f1:w6.frozen? ⟨w.heap.size,1,none⟩=false:=Ang _ _ 1 _ _ m;have f2:w6.frozen? ⟨w.heap.size,2,none⟩=false:=Ang _ _ 2 _ _ m;have p3:w6.cell? ⟨w.heap.size,3,none⟩=some (.int .i64 0):=Am7 _ _ 3 _ _ _ m;have f3:w6.frozen? ⟨w.heap.size,3,none⟩=false:=Ang _ _ 3 _ _ m;have HZ:Aside (w6.heap[w.heap.size]?=some (.cells #[.string ⟨#[]⟩,.int .i64 0,.slice none 0 0,.int .i64 0] 100 (0,0))∧Ara w w6∧IntRow w6 g (B6 P)∧w.heap.size<g):=⟨m,HX.o.2.trans C (fun _ _ h=>h),G,by have:=O.size;omega⟩;clear q O Z C m G hg HX;go_wp2;obtain⟨m,u,G,av⟩:=HZ.o;have h2:=Anb _ _ 3 _ _ (.int .i64 (T:Nat)) (Anb _ _ 2 _ _ (.slice (some ⟨g,0,none⟩) (P.length+1) (P.length+1)) (Anb _ _ 1 _ _ (.int .i64 (R.length:Nat)) (Anb _ _ 0 _ _ (.string s) m)));refine Aok (v:= .agg #[.string s,.int .i64 (R.length:Nat),.slice (some ⟨g,0,none⟩) (P.length+1) (P.length+1),.int .i64 (T:Nat)]) (Ao0 results100 _ _ w.heap.size 100 _ (0,0) _ rfl h2 underlying100 rfl (by kernel_rfl)) rfl ⟨g,by omega,by rw[J.o.1,J.o.2],?_,?_⟩
     ·rw[←J.o.2];exact G.kept (Lt w6 w.heap.size _ _ _ _) (fun e=>by omega)
     ·exact u.trans (Lt w6 w.heap.size _ _ _ _) (fun j h1 h2=>by omega)
theorem Gk:Bd:=fun b W=>by
 have h:=Tryz.bits_OnesCount8 (b.toNat:Nat) W (by omega) (by have:=b.toNat_lt;omega);rw[Int.toNat_natCast,←Wj]at h;exact h
theorem O8:El:=fun x W a h1=>(Tryz.bits_Len x W a h1).mono fun _ _ h=>⟨h.1,h.2.symm⟩
end Go.Proofs.YtegnkfdbmmndaaaGreat
