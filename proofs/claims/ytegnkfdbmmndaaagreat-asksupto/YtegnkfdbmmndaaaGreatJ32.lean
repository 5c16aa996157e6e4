import Derived.Test.YtegnkfdbmmndaaaGreatJ31

set_option maxHeartbeats 8000000
namespace Go.Proofs.YtegnkfdbmmndaaaGreat
open Hm Go.Proofs.Tryz Go.RowKit
namespace Hm
def Kj(n k j:Nat):Arc:=leBytes n j++List.replicate (k-j) 0
theorem Aj8(n k j:Nat)(h:j<k):Kj n k (j+1)=(Kj n k j).set j (UInt8.ofNat (n/256^j)):=by
 unfold Kj;rw[Aot _ _ (by rw[Dn];omega),Dn,Aoy,show k-j=(k-(j+1))+1 from by omega,Apf (n:=k-(j+1)),leBytes,An4];rfl
end Hm
theorem P7(m:Nat):(madeCells (Value.int .u8 0).cells (m*1)).toList=Ah (List.replicate m 0):=by
 rw[Aqk,show(Value.int .u8 0).cells= #[Value.int .u8 0]from rfl,toList_madeCells_one];simp[Ah]
theorem Gp(n k:Nat)(w:World)(hk:k≤8)(D:1≤k)(hn:n≤4294967296):Calls prog 41 #[.int .i64 n,.int .i64 k] w fun e w'=>e= .returned (.string ⟨(Hm.leBytes n k).toArray⟩)∧Ara w w':=by
 obtain⟨i0,hi,s,t,u⟩:=Aoo Fh
 go_enter func41,ntmps41
 go_wp2_with(at_make;refine Apr _ rfl (.tmp 7) (.tmp 7) 79 rfl w.heap.size 5 i0 (.int .u8 0) 1 underlying79 hi s t .i64 .i64 _ _ k rfl rfl (by omega) (by omega) (by rw[u];omega) (by unfold maxLen;omega) (Ane _) ?_;intro w2 h d)
 have m:w2.ownsRow w.heap.size 5 1 (.slice (some ⟨w.heap.size,0,none⟩) k k) k (Ah (Kj n k 0)):=by
  have e:Kj n k 0=List.replicate k 0:=by simp[Kj,Hm.leBytes]
  rw[e,←P7];exact h
 have a:Ara w w2:=(Aa.refl _ _).grown d (fun k hk=>by cases hk);clear h d
 go_loopw[0,6] (fun x i wr=> ∃j:Nat,j≤k∧i= .int .i64 j∧x= .int .i64 ((n/256^j:Nat):Int)∧wr.ownsRow w.heap.size 5 1 (.slice (some ⟨w.heap.size,0,none⟩) k k) k (Ah (Kj n k j))∧Ara w wr) (fun _ i _=>k-(intOf i).toNat)
 case atStart=>exact⟨0,Ann _,rfl,by simp,m,a⟩
 case round=>
  clear m a;obtain⟨j,G,rfl,rfl,b,f⟩:=hrel;have E:n/256^j≤4294967296:=Ant (Apt _ _) hn;have v:Hid (n/256^(j+1)=n/256^j/256):=by show _=_;rw[Aoz,Aqt]
  have g:(Kj n k j).length=k:=by simp[Kj,Dn];omega
  by_cases r:j<k
  ·have c:decide ((j:Int)<(k:Int))=true:=by simp;omega
   have C:wr.cell? ⟨w.heap.size,j,none⟩=some (.int .u8 ((Kj n k j)[j]'(by omega)).toNat):=by
    rw[b.cellAt j (by omega)];simp only[Ah,An2,Am5 (show j<(Kj n k j).length by omega)];rfl
   have F:wr.frozen? ⟨w.heap.size,j,none⟩=false:=b.frozenAt _;have HS:=(b.stored j (.int .u8 ((n/256^j%256:Nat):Nat))).1;have A:Hid ((wr.setCell ⟨w.heap.size,j,none⟩ (.int .u8 ((n/256^j%256:Nat):Nat))).ownsRow w.heap.size 5 1 (.slice (some ⟨w.heap.size,0,none⟩) k k) k (Ah (Kj n k (j+1)))):=by
    show World.ownsRow _ _ _ _ _ _ _;rw[Aj8 _ _ _ r];have e2:Ah ((Kj n k j).set j (UInt8.ofNat (n/256^j)))=(Ah (Kj n k j)).set j (.int .u8 ((n/256^j%256:Nat):Nat)):=by
     rw[Ah,Ap2,Aoa];rfl
    rw[e2];exact HS
   generalize((Kj n k j)[j]'(by omega)).toNat=old at C;clear HS b g;generalize n/256^j=y at*;go_wp2;go_roundw
   case rel=>exact⟨j+1,by omega,by go_num,by rw[v.o];go_num,by simpa using A.o,f.setCell (.inl (Ane _)) _⟩
   case measure=>simp[intOf];omega
  ·have c:decide ((j:Int)<(k:Int))=false:=by simp;omega
   have q:j=k:=by omega
   subst q;have p:=Ii b;have e:Kj n j j=Hm.leBytes n j:=by simp[Kj]
   rw[e]at p;clear b g v e;generalize n/256^j=y at*;generalize z:Hm.leBytes n j=l at*;have B:Hid (Hm.leBytes n j=l):=z;clear z;go_wp2;go_ret;exact⟨by rw[B.o];rfl,f⟩
theorem V9: ∀(a b:Arc),Op.bytesLess a b=!(Op.bytesLess b a||b==a)
 |[],[]=>rfl
 |[],b::y=>rfl
 |a::x,[]=>rfl
 |a::x,b::y=>by
  have ih:=V9 x y;simp only[Op.bytesLess,List.cons_beq_cons];rcases Aop a.toNat b.toNat with h|h|h
  ·have h1:a<b:=UInt8.lt_iff_toNat_lt.2 h;have h2: ¬b<a:=fun e=>by have:=UInt8.lt_iff_toNat_lt.1 e;omega
   have c:(b==a)=false:=by rw[Aod];rintro rfl;omega
   simp[h1,h2,c]
  ·have h1:a=b:=UInt8.toNat_inj.1 h;subst h1;have h2: ¬a<a:=fun e=>by have:=UInt8.lt_iff_toNat_lt.1 e;omega
   simp[h2,ih]
  ·have h1:b<a:=UInt8.lt_iff_toNat_lt.2 h;have h2: ¬a<b:=fun e=>by have:=UInt8.lt_iff_toNat_lt.1 e;omega
   have c:(a==b)=false:=by rw[Aod];rintro rfl;omega
   simp[h1,h2,c]
theorem Aj9(nm:ByteArray)(h:nm.size≠0):Hm.leB nm ⟨#[]⟩=false:=by
 have a:nm.data.toList.length=nm.size:=by simp
 unfold Hm.leB;rw[Aor,Aor];cases e:nm.data.toList with
 |nil=>rw[e]at a;simp at a;omega
 |cons x l=>rfl
theorem Ad6(ao:Arf)(c:Nat)(fs:Arb)(w:World)(H:Ba w ao fs)(hl:fs.length≤140737488355328)(J: ∀f∈fs,f.1.size≤140737488355328∧f.2.size≤140737488355328):
  Calls prog 38 #[.slice ao fs.length c] w fun e w'=>e= .returned (.int .i64 (Cq fs))∧Ara w w':=by
 by_cases C:40<fs.length
 ·clear H
  go_enter func38,ntmps38
  go_wp2;go_ret;exact⟨E3 (by rw[Cq,if_pos C]),Aa.refl _ _⟩
 have v:Hid (Cq fs=Gc ⟨#[]⟩ 0 (fs.drop 0)):=by rw[Cq,if_neg C];rfl
 generalize Cq fs=E at v⊢
 go_enter func38,ntmps38
 go_wp2
 go_loopw[3,4] (fun t i wr=> ∃(k:Nat) (tot:Nat) (ah:ByteArray),k≤fs.length∧i= .int .i64 k∧t= .int .i64 tot∧tot≤3000*k∧E=Gc ah tot (fs.drop k)∧(ah=if k=0 then⟨#[]⟩else(fs.getD (k-1) (⟨#[]⟩,⟨#[]⟩)).1)∧Ara w wr) (fun _ i _=>fs.length-(intOf i).toNat)
 case atStart=>exact⟨0,0,_,Ann _,rfl,rfl,by omega,v.o,rfl,Aa.refl _ _⟩
 case round=>
  clear v;obtain⟨k,tot,ah,hk,rfl,rfl,ht,P,r,g⟩:=hrel;have v:Hid (E=Gc ah tot (fs.drop k)):=P;clear P
  by_cases u:k<fs.length
  ·obtain⟨b,o,x,V,L,M⟩:=(H.kept g (fun a U=>id)) k u;obtain⟨Z,aa⟩:=J fs[k] (Anm _);have z:Hid (E=if Cp fs[k].1 fs[k].2 ah=0 then Gc fs[k].1 (tot+fs[k].2.size) (fs.drop (k+1))else Cp fs[k].1 fs[k].2 ah):=v.o.trans (Vc fs k u ah tot);have I:(fs.getD (k+1-1) (⟨#[]⟩,⟨#[]⟩)).1=fs[k].1:=by rw[Ap1,Am4,Am5 u];rfl
   have A:Hid (fs[k].1=if k+1=0 then⟨#[]⟩else(fs.getD (k+1-1) (⟨#[]⟩,⟨#[]⟩)).1):=by show _=_;rw[if_neg (by omega),I]
   have G:decide ((k:Int)<(fs.length:Int))=true:=by simp;omega
   have l: ∀k',k=k'+1→wr.cell? ⟨b,o+k'*2,none⟩=some (.string ah):=by
    intro k' W;obtain⟨b',o',D,_,s,_⟩:=(H.kept g (fun a U=>id)) k' (by omega);rw[D]at x;cases x;rw[s,r,if_neg (by omega),show k-1=k' from by omega,Am4,Am5 (by omega)];rfl
   have q:k=0→ah=⟨#[]⟩:=fun e=>by rw[r,if_pos e]
   generalize fs[k].1=nm at*;generalize fs[k].2=ct at*;subst x;clear H v J r I
   by_cases b1:nm.size=0∨32<nm.size
   ·have p:Hid (E=2):=by show _=_;rw[z.o,Yy b1];rfl
    clear l q;rcases b1 with b1|b1
    ·have s:decide (nm.size<1)=true:=Ana (by omega);have F:decide ((nm.size:Int)<1)=true:=Ana (by omega);go_wp2;go_ret;exact⟨E3 p.o.symm,g⟩
    ·have s:decide (nm.size<1)=false:=Anc (by omega);have F:decide ((nm.size:Int)<1)=false:=Anc (by omega);have N:decide (32<(nm.size:Int))=true:=Ana (by omega);go_wp2;go_ret;exact⟨E3 p.o.symm,g⟩
   ·have s:decide (nm.size<1)=false:=Anc (by omega);have F:decide ((nm.size:Int)<1)=false:=Anc (by omega);have N:decide (32<(nm.size:Int))=false:=Anc (by omega);cases k with
    |zero=>
     simp only[Nat.zero_mul,Ap3]at L M;have S:(0:Int)<(fs.length:Int):=by omega
     have T:decide (0<fs.length)=true:=Ana u;have d:Hm.leB nm ah=false:=by rw[q rfl];exact Aj9 nm (by omega)
     clear l q
     by_cases m:3000<ct.size
     ·have p:Hid (E=4):=by
       show _=_;have j:Cp nm ct ah=4:=by rw[Cp,if_neg b1,d,if_neg (show¬(false=true) by decide),if_pos m]
       rw[z.o,j];rfl
      have y:decide (3000<(ct.size:Int))=true:=Ana (by omega);go_wp2
      go_region
      go_wp2;go_ret;exact⟨E3 p.o.symm,g.drew⟩
     ·have p:Hid (E=Gc nm (tot+ct.size) (fs.drop (0+1))):=by
       show _=_;have j:Cp nm ct ah=0:=by rw[Cp,if_neg b1,d,if_neg (show¬(false=true) by decide),if_neg m]
       rw[z.o,if_pos j]
      have y:decide (3000<(ct.size:Int))=false:=Anc (by omega);go_wp2
      go_region
      go_wp2;go_roundw
      case rel=>exact⟨1,tot+ct.size,nm,by omega,by go_num,by go_num,by omega,p.o,A.o,g.drew⟩
      case measure=>simp[intOf];omega
    |succ k'=>
     have Y:=l k' rfl;clear l q;have Q:k'≤140737488355328:=by omega
     have X:(k':Int)+1<(fs.length:Int):=by omega
     have R:(k':Int)<(fs.length:Int):=by omega
     by_cases n:Hm.leB nm ah=true
     ·have p:Hid (E=3):=by
       show _=_;have j:Cp nm ct ah=3:=by rw[Cp,if_neg b1,n,if_pos rfl]
       rw[z.o,j];rfl
      have K:Op.bytesLess ah.toList nm.toList=false:=by
       rw[V9];unfold Hm.leB at n;rw[n];rfl
      clear n;go_wp2
      go_region
      go_wp2;go_ret;exact⟨E3 p.o.symm,g.drew⟩
     ·have d:Hm.leB nm ah=false:=by simpa using n
      have K:Op.bytesLess ah.toList nm.toList=true:=by
       rw[V9];unfold Hm.leB at d;rw[d];rfl
      clear n
      by_cases m:3000<ct.size
      ·have p:Hid (E=4):=by
        show _=_;have j:Cp nm ct ah=4:=by rw[Cp,if_neg b1,d,if_neg (show¬(false=true) by decide),if_pos m]
        rw[z.o,j];rfl
       have y:decide (3000<(ct.size:Int))=true:=Ana (by omega);clear d;go_wp2
       go_region
       go_wp2;go_ret;exact⟨E3 p.o.symm,g.drew⟩
      ·have p:Hid (E=Gc nm (tot+ct.size) (fs.drop (k'+1+1))):=by
        show _=_;have j:Cp nm ct ah=0:=by rw[Cp,if_neg b1,d,if_neg (show¬(false=true) by decide),if_neg m]
        rw[z.o,if_pos j]
       have y:decide (3000<(ct.size:Int))=false:=Anc (by omega);clear d;go_wp2
       go_region
       go_wp2;go_roundw
       case rel=>exact⟨k'+1+1,tot+ct.size,nm,by omega,by go_num,by go_num,by omega,p.o,A.o,g.drew⟩
       case measure=>simp[intOf];omega
  ·obtain rfl:k=fs.length:=by omega
   have B:Hid (E=if 6000<tot then 5 else 0):=by have h:=v.o;rw[Apy]at h;exact h
   have G:decide ((fs.length:Int)<(fs.length:Int))=false:=by simp
   clear v H r
   by_cases O:6000<tot
   ·go_wp2;go_ret;exact⟨E3 (by rw[B.o,if_pos O]),g⟩
   ·go_wp2;go_ret;exact⟨E3 (by rw[B.o,if_neg O]),g⟩
namespace Hm
def Fo(fs:Arb):Arc:=fs.flatMap fun f=>f.2.data.toList
theorem T6(fs:Arb)(k:Nat)(h:k<fs.length):Fo (fs.take (k+1))=Fo (fs.take k)++fs[k].2.data.toList:=by
 rw[Anh h];unfold Fo;rw[Ao4];congr 1;simp
theorem X0(fs:Arb)(M:Nat)(h: ∀f∈fs,f.2.size≤M): ∀k,k≤fs.length→(Fo (fs.take k)).length≤M*k
 |0,_=>by simp[Fo]
 |k+1,hk=>by
  have ih:=X0 fs M h k (by omega);have h2:=h fs[k] (Anm _);have a:fs[k].2.data.toList.length=fs[k].2.size:=by simp
  rw[T6 fs k (by omega),Anf,Nat.mul_succ];omega
end Hm
theorem Amq(l:Arc)(s:ByteArray):(⟨l.toArray⟩:ByteArray)++s=⟨(l++s.data.toList).toArray⟩:=by
 apply Aqg;simp[ByteArray.data_append]
theorem Af2(ao:Arf)(c:Nat)(fs:Arb)(w:World)(m:Ba w ao fs)(z:fs.length≤40)(a: ∀f∈fs,f.2.size≤3000):
  Calls prog 39 #[.slice ao fs.length c] w fun e w'=>e= .returned (.string ⟨(Fo fs).toArray⟩)∧w'=w:=by
 go_enter func39,ntmps39
 go_wp2
 go_loop [3,4] (fun t i=> ∃k:Nat,k≤fs.length∧i= .int .i64 k∧t= .string ⟨(Fo (fs.take k)).toArray⟩) (fun _ i=>fs.length-(intOf i).toNat)
 case atStart=>exact⟨0,Ann _,rfl,rfl⟩
 case round=>
  obtain⟨k,hk,rfl,rfl⟩:=hrel;have p:=X0 fs 3000 a k hk
  by_cases h:k<fs.length
  ·obtain⟨b,o,j,s,u,v⟩:=m k h;have x:=a fs[k] (Anm _);have r:Hid (Fo (fs.take (k+1))=Fo (fs.take k)++fs[k].2.data.toList):=T6 fs k h;have d:decide ((k:Int)<(fs.length:Int))=true:=Ana (by omega);generalize fs[k].2=ct at*;subst j;clear m a;have y: ¬9223372036854775807<(Fo (fs.take k)).length+ct.size:=by omega
   generalize Fo (fs.take k)=l at*;go_wp2
   go_round
   case rel=>exact⟨k+1,by omega,by go_num,by rw[r.o,Amq]⟩
   case measure=>simp[intOf];omega
  ·have n:k=fs.length:=by omega
   subst n;have d:decide ((fs.length:Int)<(fs.length:Int))=false:=by simp
   rw[Aof];generalize g:Fo fs=l at*;have q:Hid (Fo fs=l):=g;clear g m a p;go_wp2;go_ret;exact⟨by rw[q.o];rfl,rfl⟩
namespace Hm
theorem Aab(f:Nat→Bool)(j:Nat)(a:j<8)(h:f j=false):J0 f+2^j=J0 (fun k=>if k=j then true else f k):=by
 unfold J0
 match j,a with
 |0,_=>simp[h];omega
 |1,_=>simp[h];omega
 |2,_=>simp[h];omega
 |3,_=>simp[h];omega
 |4,_=>simp[h];omega
 |5,_=>simp[h];omega
 |6,_=>simp[h];omega
 |7,_=>simp[h]
theorem Ad7(bits:List Bool)(k:Nat)(h:k<bits.length)(a:bits.getD k false=false):Ag (bits.set k true)=(Ag bits).set (k/8) (UInt8.ofNat (F9 bits (k/8)+2^(k%8))):=by
 rw[Sj bits k h];congr 2;rw[F9,Abn _ _ (by omega),Aab _ _ (by omega) (by rw[show 8*(k/8)+k%8=k from by omega];exact a)]
theorem Ad8(bits:List Bool)(k:Nat)(a:bits.getD k false=false):F9 bits (k/8)+2^(k%8)<256:=by
 rw[F9,Aab _ _ (by omega) (by rw[show 8*(k/8)+k%8=k from by omega];exact a)];exact Abm _
def Dv(bits:List Bool)(k:Nat):List Bool:=bits.take k++List.replicate (bits.length-k) false
theorem Ad9(bits:List Bool)(k:Nat)(h:k≤bits.length):(Dv bits k).length=bits.length:=by simp[Dv];omega
theorem Aac(bits:List Bool)(k:Nat)(h:k≤bits.length):(Dv bits k).getD k false=false:=by
 unfold Dv;rw[Am4,Ans (by simp;omega),List.getElem?_replicate];split<;>rfl
theorem X1(bits:List Bool)(k:Nat)(h:k<bits.length):Dv bits (k+1)=(Dv bits k).set k bits[k]:=by
 unfold Dv;have a:(bits.take k).length=k:=by simp;omega
 rw[Aot _ _ (by omega),a,Aoy,show bits.length-k=(bits.length-(k+1))+1 from by omega,Apf,Anh h,An4];rfl
theorem Air(bits:List Bool)(k:Nat)(h:k<bits.length)(a:bits[k]=false):Dv bits (k+1)=Dv bits k:=by
 rw[X1 bits k h,a];apply Aon
 ·simp
 ·intro i h1 h2;rw[Aql];split
  ·rename_i e;have:=Aac bits k (by omega);subst e;rw[Am4,Am5 h2]at this;simpa using this.symm
  ·rfl
theorem Ais(bits:List Bool):Ag (Dv bits 0)=List.replicate ((bits.length+7)/8) 0:=by
 have e:Dv bits 0=[]++List.replicate bits.length false:=by simp[Dv]
 rw[e,Rt];simp[Ag]
theorem Aka(bits:List Bool):Dv bits bits.length=bits:=by simp[Dv]
end Hm
theorem N5(bits:List Bool)(w:World)(V:bits.length≤100000000):Calls prog 42 #[.string ⟨(Af bits).toArray⟩] w fun e w'=>e= .returned (.string ⟨(Ag bits).toArray⟩)∧Ara w w':=by
 obtain⟨i0,hi,I,J,A⟩:=Aoo Fh;obtain⟨s,hs⟩: ∃s,s=(⟨(Af bits).toArray⟩:ByteArray):=⟨_,rfl⟩;have x:s.size=bits.length:=by rw[hs];show(Af bits).toArray.size=_;simp[Af]
 have c: ∀k,(h:k<s.size)→(h2:k<bits.length)→s[k]=if bits[k]then 49 else 48:=fun k h h2=>by
  subst hs;show(Af bits).toArray[k]'_=_;simp[Af]
 rw[←hs];have HS:Aside (s.size=bits.length):=x;have B:Aside _:=c;have T:s.size≤100000000:=by omega
 clear c hs x
 go_enter func42,ntmps42
 go_wp2_with(at_make;refine Apr _ rfl (.tmp 8) (.tmp 8) 79 rfl w.heap.size 5 i0 (.int .u8 0) 1 underlying79 hi I J .i64 .i64 _ _ ((s.size+7)/8) rfl rfl (by omega) (by omega) (by rw[A];omega) (by unfold maxLen;omega) (Ane _) ?_;intro w2 r n)
 have u:w2.ownsRow w.heap.size 5 1 (.slice (some ⟨w.heap.size,0,none⟩) ((s.size+7)/8) ((s.size+7)/8)) ((s.size+7)/8) (Ah (Ag (Dv bits 0))):=by
  rw[Ais,←HS.o,←P7];exact r
 have p:Ara w w2:=(Aa.refl _ _).grown n (fun k hk=>by cases hk);clear r n
 go_loopw[4] (fun i wr=> ∃k:Nat,k≤s.size∧i= .int .i64 k∧wr.ownsRow w.heap.size 5 1 (.slice (some ⟨w.heap.size,0,none⟩) ((s.size+7)/8) ((s.size+7)/8)) ((s.size+7)/8) (Ah (Ag (Dv bits k)))∧Ara w wr) (fun i _=>s.size-(intOf i).toNat)
 case atStart=>exact⟨0,Ann _,rfl,u,p⟩
 case round=>
  clear u p;obtain⟨k,hk,rfl,b,g⟩:=hrel
  by_cases F:k<s.size
  ·have m:decide ((k:Int)<(s.size:Int))=true:=Ana (by omega);have f:k<bits.length:=by have:=HS.o;omega
   have v:=B.o k F f
   by_cases hb:bits[k]=true
   ·rw[if_pos hb]at v;have t:=Ad9 bits k (by omega);have D:=Aac bits k (by omega);have d:=Ad8 (Dv bits k) k D;have O:=Qs (Dv bits k) (k/8);have P:wr.cell? ⟨w.heap.size,k/8,none⟩=some (.int .u8 (F9 (Dv bits k) (k/8):Nat)):=by
     rw[b.cellAt (k/8) (by omega)];simp only[Ah,An2];rw[Am5 (by rw[Bi,t];omega),Hb];simp;omega
    have Q:wr.frozen? ⟨w.heap.size,k/8,none⟩=false:=b.frozenAt _;have j:=(b.stored (k/8) (.int .u8 ((F9 (Dv bits k) (k/8)+2^(k%8):Nat):Int))).1;have e2:Ag (Dv bits (k+1))=(Ag (Dv bits k)).set (k/8) (UInt8.ofNat (F9 (Dv bits k) (k/8)+2^(k%8))):=by
     rw[X1 _ _ f,hb];exact Ad7 _ _ (by omega) D
    have e3:Ah ((Ag (Dv bits k)).set (k/8) (UInt8.ofNat (F9 (Dv bits k) (k/8)+2^(k%8))))=(Ah (Ag (Dv bits k))).set (k/8) (.int .u8 ((F9 (Dv bits k) (k/8)+2^(k%8):Nat):Int)):=by
     rw[Ah,Ap2,Ss d];rfl
    have C:Hid ((wr.setCell ⟨w.heap.size,k/8,none⟩ (.int .u8 ((F9 (Dv bits k) (k/8)+2^(k%8):Nat):Int))).ownsRow w.heap.size 5 1 (.slice (some ⟨w.heap.size,0,none⟩) ((s.size+7)/8) ((s.size+7)/8)) ((s.size+7)/8) (Ah (Ag (Dv bits (k+1))))):=by
     show World.ownsRow _ _ _ _ _ _ _;rw[e2,e3];exact j
    have S:2^(k%8)<256:=Nat.pow_lt_pow_right (a:=2) (by omega) (by omega:k%8<8);generalize F9 (Dv bits k) (k/8)=y at*;have G:((2:Int)^(k%8))=((2^(k%8):Nat):Int):=by simp
    obtain⟨z,K⟩: ∃z,z=2^(k%8):=⟨_,rfl⟩;rw[←K]at C G d S;have A:IntKind.u8.wrap ((y:Int)+(z:Int))=(y:Int)+(z:Int):=by rw[IntKind.wrap_u8];omega
    have L:Hid ((wr.setCell ⟨w.heap.size,k/8,none⟩ (.int .u8 ((y:Int)+(z:Int)))).ownsRow w.heap.size 5 1 (.slice (some ⟨w.heap.size,0,none⟩) ((s.size+7)/8) ((s.size+7)/8)) ((s.size+7)/8) (Ah (Ag (Dv bits (k+1))))):=by
     have:=C.o;rw[show((y+z:Nat):Int)=(y:Int)+(z:Int)from by omega]at this;exact this
    have R:(k:Int)/8<((s.size:Int)+7)/8:=by omega
    have U:(z:Int)%256=(z:Int):=by omega
    clear j b t D e2 e3 hb C B K;go_wp2_with fail
    go_region
    go_wp2;go_roundw
    case rel=>exact⟨k+1,by omega,by go_num,L.o,(g.setCell (.inl (Ane _)) _).drew⟩
    case measure=>simp[intOf];omega
   ·have l:bits[k]=false:=by simpa using hb
    rw[if_neg hb]at v;rw[←Air bits k f l]at b;have N:Hid (wr.ownsRow w.heap.size 5 1 (.slice (some ⟨w.heap.size,0,none⟩) ((s.size+7)/8) ((s.size+7)/8)) ((s.size+7)/8) (Ah (Ag (Dv bits (k+1))))):=b;clear b hb l B;go_wp2;go_roundw
    case rel=>exact⟨k+1,by omega,by go_num,N.o,g⟩
    case measure=>simp[intOf];omega
  ·obtain rfl:k=s.size:=by omega
   have m:decide ((s.size:Int)<(s.size:Int))=false:=Anc (by omega);rw[HS.o,Aka,←HS.o]at b;have E:=Ii b;obtain⟨q,H⟩: ∃q,q=(⟨(Ag bits).toArray⟩:ByteArray):=⟨_,rfl⟩;rw[←H]at E;have M:Aside (q=(⟨(Ag bits).toArray⟩:ByteArray)):=H;clear b B H;go_wp2;go_ret;exact⟨by rw[M.o];rfl,g⟩
namespace Hm
theorem Hr(a b:List Bool):Af (a++b)=Af a++Af b:=by simp[Af]
theorem Ff(a:List Bool):(Af a).length=a.length:=by simp[Af]
end Hm
theorem Qp(a b:Arc):(⟨a.toArray⟩:ByteArray)++⟨b.toArray⟩=⟨(a++b).toArray⟩:=by
 apply Aqg;simp[ByteArray.data_append]
theorem Y6(ao:Arf)(c:Nat)(ps:Ard)(w:World)(hi:J8 w ao ps)(Q:1≤ps.length)(S:ps.length≤6001)(E: ∀p∈ps,p≤6000):
  Calls prog 47 #[.slice ao ps.length c] w fun e w'=>e= .returned (.string ⟨(Af (A7 ps)).toArray⟩)∧ ∃q,w'=w.drewN q:=by
 have j:Lib.bitLen ((ps.length-1)/8)≤10:=Lib.bitLen_le _ 10 (by omega) (by omega);have J:Hid (A7 ps=(ps.map fun p=>decide (p%8=0))++Bx ps (Lib.bitLen ((ps.length-1)/8))):=rfl;rw[J.o,Hr,←Qp];have t:=fun W=>Af1 (ps.length-1) W (by omega);rw[show((ps.length-1:Nat):Int)=(ps.length:Int)-1 from by omega]at t;generalize Lib.bitLen ((ps.length-1)/8)=L at*;clear J
 go_enter func47,ntmps47
 go_wp2_with fail
 go_loopw[4,5,6] (fun ms rs i wr=> ∃k:Nat,k≤ps.length∧i= .int .i64 k∧ms= .string ⟨(Af ((ps.take k).map fun p=>decide (p%8=0))).toArray⟩∧rs= .string ⟨(Af (Bx (ps.take k) L)).toArray⟩∧ ∃q,wr=w.drewN q) (fun _ _ i _=>ps.length-(intOf i).toNat)
 case atStart=>exact⟨0,Ann _,rfl,rfl,rfl,0,rfl⟩
 case round=>
  obtain⟨k,hk,rfl,rfl,rfl,G⟩:=hrel;have z:Aside (∃q,wr=w.drewN q):=G;have l: ∀p,wr.cell? p=w.cell? p:=fun p=>by obtain⟨q,e⟩:=G;rw[e];rfl
  clear G;have d:(Af ((ps.take k).map fun p=>decide (p%8=0))).length≤6001:=by rw[Ff];simp;omega
  have f:(Af (Bx (ps.take k) L)).length≤60010:=by
   rw[Ff];have h1:=Py (ps.take k) L;have h2:(ps.take k).length*L≤6001*10:=Aoj (by simp;omega) j;omega
  by_cases m:k<ps.length
  ·obtain⟨b,o,D,O,r⟩:=hi k m;have P:=E ps[k] (Anm _);have v:Hid (Af ((ps.take (k+1)).map fun p=>decide (p%8=0))=Af ((ps.take k).map fun p=>decide (p%8=0))++[if ps[k]%8=0 then 49 else 48]):=by
    show _=_;rw[Anh m,Apk,Hr]
    by_cases e:ps[k]%8=0<;>simp[Af,e]
   have a:Hid (Bx (ps.take (k+1)) L=Bx (ps.take k) L++if ps[k]%8=0 then Aw (ps[k]/8) L else []):=R8 ps L k m;have s:decide ((k:Int)<(ps.length:Int))=true:=Ana (by omega);generalize ps[k]=x at*;subst D;have R:wr.cell? ⟨b,o+k,none⟩=some (.int .i64 (x:Nat)):=by rw[l];exact r
   clear r l;have K: ¬9223372036854775807<(Af ((ps.take k).map fun p=>decide (p%8=0))).length+1:=by omega
   clear hi E
   by_cases u:x%8=0
   ·have h:=fun W=>Sc (x/8) L W (by omega) (by omega);rw[show((x/8:Nat):Int)=(x:Int)/8 from by omega]at h;have I:((x:Int)%8==0)=true:=by simp;omega
    rw[if_pos u]at v a;have y:Hid (Af (Bx (ps.take (k+1)) L)=Af (Bx (ps.take k) L)++Af (Aw (x/8) L)):=by
     show _=_;rw[a.o,Hr]
    have F:(Af (Aw (x/8) L)).length≤10:=by rw[Ff,Do];exact j
    have M: ¬9223372036854775807<(Af (Bx (ps.take k) L)).length+(Af (Aw (x/8) L)).length:=by omega
    clear a d f F;generalize Af ((ps.take k).map fun p=>decide (p%8=0))=A at*;generalize Af (Bx (ps.take k) L)=B at*;generalize Af (Aw (x/8) L)=C at*;go_wp2_with fail;go_quiet(first|(refine Aol (t _))|(refine Aol (h _)));go_wp2;go_roundw
    case rel=>
     obtain⟨q,e⟩:=z.o;exact⟨k+1,by omega,by go_num,by rw[v.o,Rn],by rw[y.o,Qp],q+nq,by rw[e,World.drewN_drewN]⟩
    case measure=>simp[intOf];omega
   ·have I:((x:Int)%8==0)=false:=by simp;omega
    rw[if_neg u]at v a;rw[Aow]at a;clear d f;generalize Af ((ps.take k).map fun p=>decide (p%8=0))=A at*;obtain⟨B,g⟩: ∃B,B=Af (Bx (ps.take k) L):=⟨_,rfl⟩;rw[←g];have N:Aside (B=Af (Bx (ps.take k) L)):=g;clear g;go_wp2;go_roundw
    case rel=>exact⟨k+1,by omega,by go_num,by rw[v.o,Rn],by rw[a.o,N.o],z.o⟩
    case measure=>simp[intOf];omega
  ·obtain rfl:k=ps.length:=by omega
   have s:decide ((ps.length:Int)<(ps.length:Int))=false:=Anc (by omega);rw[Aof]at d f⊢;have H: ¬9223372036854775807<(Af (ps.map fun p=>decide (p%8=0))).length+(Af (Bx ps L)).length:=by omega
   obtain⟨A,hA⟩: ∃A,A=Af (ps.map fun p=>decide (p%8=0)):=⟨_,rfl⟩;obtain⟨B,g⟩: ∃B,B=Af (Bx ps L):=⟨_,rfl⟩;rw[←hA,←g]at H;rw[←hA,←g];have n:Aside (A=Af (ps.map fun p=>decide (p%8=0))∧B=Af (Bx ps L)):=⟨hA,g⟩;clear hA g d f hi E l;go_wp2;go_ret;exact⟨by rw[←n.o.1,←n.o.2];rfl,z.o⟩
namespace Hm
def Fp(es:Ard)(l:Nat)(R:List Bool):Nat→List Bool
 |0=>R
 |k+1=>(Fp es l R k).set (es.getD k 0/2^l+k) true
theorem Sd(es:Ard)(l:Nat)(R:List Bool)(k:Nat):(Fp es l R k).length=R.length:=by
 induction k with
 |zero=>rfl
 |succ k ih=>simp[Fp,ih]
theorem Abg(es:Ard)(l:Nat)(B R:List Bool)(k:Nat):F5 es l B.length (B++R) k=B++Fp es l R k:=by
 induction k with
 |zero=>rfl
 |succ k ih=>
  rw[F5,ih,Fp,Apj,Aot _ _ (Aqv _ _),Ap8]
theorem Y7(es:Ard)(n:Nat):B4 es n=Co es (Dw es.length n)++Fp es (Dw es.length n) (List.replicate (es.length+n/2^Dw es.length n+1) false) es.length:=Abg _ _ _ _ _
theorem Af3(x k:Nat):Aw (x%2^k) k=Aw x k:=by
 unfold Aw;refine Aqe fun i hi=>?_;have h:i<k:=by simpa using hi
 rw[←Nat.testBit_eq_decide_div_mod_eq,←Nat.testBit_eq_decide_div_mod_eq,Nat.testBit_mod_two_pow];simp[h]
theorem X2(l:List Bool)(i:Nat):Af (l.set i true)=(Af l).set i 49:=by
 unfold Af;rw[Ap2];rfl
theorem X3(fs:Arb)(k:Nat)(h:k<fs.length):(Bf fs).getD k 0=(Ac (fs.take (k+1))).length:=by
 unfold Bf;rw[Am4,An2,Ao2 h];rfl
theorem Af4(fs:Arb)(k:Nat)(h:k<fs.length):(Ac (fs.take (k+1))).length=(Ac (fs.take k)).length+fs[k].2.size:=by
 rw[Anh h];unfold Ac;rw[Ao4,Anf];simp
theorem Af5(fs:Arb)(k:Nat):(Ac (fs.take k)).length≤(Ac fs).length:=by
 conv=>rhs;rw[←Ao5 k fs]
 unfold Ac;rw[Ao4,Anf];omega
end Hm
theorem Af6(ao:Arf)(c:Nat)(fs:Arb)(n:Nat)(w:World)(T:Ba w ao fs)(hm:fs.length≤40)(hn:n=(Ac fs).length)(Q:n≤6000):
  Calls prog 43 #[.slice ao fs.length c,.int .i64 n] w fun e w'=>e= .returned (.string ⟨(Af (B4 (Bf fs) n)).toArray⟩)∧Ara w w':=by
 obtain⟨i0,hi,ai,aj,ak⟩:=Aoo Fh;have z:=fun W=>Aip fs.length n W (by omega) Q;have hL:=Qa fs.length n Q;have H:=fun W=>Ad5 (Dw fs.length n) W (by omega);have HR:Aside (Af (B4 (Bf fs) n)=Af (Co (Bf fs) (Dw fs.length n))++Af (Fp (Bf fs) (Dw fs.length n) (List.replicate (fs.length+n/2^Dw fs.length n+1) false) fs.length)):=by
  show _=_;rw[Y7,Hr,Ej]
 generalize Dw fs.length n=L at*;obtain⟨p,U⟩: ∃p,p=2^L:=⟨_,rfl⟩;rw[←U]at H HR;have G:1≤p:=by rw[U];exact App _
 have HP:Aside (p=2^L):=U;have HN:Aside (n=(Ac fs).length):=hn;have HF:Aside _:=T;clear hn T U;obtain⟨q,V⟩: ∃q,q=n/p:=⟨_,rfl⟩;have a7:q≤n:=by rw[V];exact Apt _ _
 have zq:(n:Int)/(p:Int)=(q:Int):=by rw[V];simp
 have HQ:Aside (q=n/p):=V;clear V;obtain⟨NN,C⟩: ∃N,N=fs.length+q+1:=⟨_,rfl⟩;have aw:Aside (NN=fs.length+q+1):=C;have zN:(fs.length:Int)+(q:Int)+1=(NN:Int):=by omega
 have ax:fs.length+q<NN:=by omega
 have ay:NN≤6100:=by omega
 rw[←HQ.o,←C]at HR;clear C;have a8:IntKind.i64.wrap (q:Int)=(q:Int):=by rw[An9];omega
 have aa:Aside (1≤p):=G;have av: ¬p=0:=by omega
 go_enter func43,ntmps43
 go_wp2_with fail;refine(z _).mono ?_;rintro e w1 ⟨rfl,ah⟩;subst w1;go_wp2_with fail;refine(H _).mono ?_;rintro e w1 ⟨rfl,ah⟩;subst w1;clear z H G
 go_wp2_with(at_make;refine Apr _ rfl (.tmp 25) (.tmp 25) 79 rfl w.heap.size 5 i0 (.int .u8 0) 1 underlying79 hi ai aj .i64 .i64 _ _ NN rfl rfl (by omega) (by omega) (by rw[ak];omega) (by unfold maxLen;omega) (Ane _) ?_;intro w2 R O)
 have S:w2.ownsRow w.heap.size 5 1 (.slice (some ⟨w.heap.size,0,none⟩) NN NN) NN (Ah (List.replicate 0 48++List.replicate (NN-0) 0)):=by
  rw[List.replicate_zero,Aqs,Aqp,←P7];exact R
 have P:Ara w w2:=(Aa.refl _ _).grown O (fun k hk=>by cases hk);clear R O
 go_loopw[10] (fun i wr=> ∃k:Nat,k≤NN∧i= .int .i64 k∧wr.ownsRow w.heap.size 5 1 (.slice (some ⟨w.heap.size,0,none⟩) NN NN) NN (Ah (List.replicate k 48++List.replicate (NN-k) 0))∧Ara w wr) (fun i _=>NN-(intOf i).toNat)
 case atStart=>exact⟨0,Ann _,rfl,S,P⟩
 case round=>
  clear S P;obtain⟨k,hk,rfl,g,f⟩:=hrel
  by_cases l:k<NN
  ·have j:decide ((k:Int)<(NN:Int))=true:=Ana (by omega);obtain⟨x,hc⟩: ∃x,wr.cell? ⟨w.heap.size,k,none⟩=some x:=⟨_,(g.cellAt k (by omega)).trans (Am5 (by simp[Ah];omega))⟩;have T:wr.frozen? ⟨w.heap.size,k,none⟩=false:=g.frozenAt _;have d:=(g.stored k (.int .u8 48)).1;have e2:(Ah (List.replicate k 48++List.replicate (NN-k) 0)).set k (.int .u8 48)=Ah (List.replicate (k+1) 48++List.replicate (NN-(k+1)) 0):=by
    have e3:(List.replicate k (48:UInt8)++List.replicate (NN-k) 0).set k 48=List.replicate (k+1) 48++List.replicate (NN-(k+1)) 0:=by
     have hl:(List.replicate k (48:UInt8)).length=k:=by simp
     rw[Aot _ _ (by omega),hl,Aoy,show NN-k=(NN-(k+1))+1 from by omega,Apf (n:=NN-(k+1)),Aq1 (n:=k),An4];rfl
    rw[←e3,Ah,Ah,Ap2];rfl
   rw[e2]at d;have X:Hid (World.ownsRow _ w.heap.size 5 1 (.slice (some ⟨w.heap.size,0,none⟩) NN NN) NN (Ah (List.replicate (k+1) 48++List.replicate (NN-(k+1)) 0))):=d;clear d g e2;go_wp2;go_roundw
   case rel=>exact⟨k+1,by omega,by go_num,X.o,f.setCell (.inl (Ane _)) _⟩
   case measure=>simp[intOf];omega
  ·obtain rfl:NN=k:=by omega
   have j:decide ((NN:Int)<(NN:Int))=false:=Anc (by omega);rw[Aoy,List.replicate_zero,Aow]at g;have e0:List.replicate NN (48:UInt8)=Af (Fp (Bf fs) L (List.replicate NN false) 0):=by simp[Fp,Af]
   rw[e0]at g;have az:(Ac fs).length≤6000:=by have:=HN.o;omega
   go_wp2
   go_loopw[8,11,12] (fun s e i wr=> ∃k:Nat,k≤fs.length∧i= .int .i64 k∧e= .int .i64 ((Ac (fs.take k)).length:Nat)∧s= .string ⟨(Af (Co ((Bf fs).take k) L)).toArray⟩∧wr.ownsRow w.heap.size 5 1 (.slice (some ⟨w.heap.size,0,none⟩) NN NN) NN (Ah (Af (Fp (Bf fs) L (List.replicate NN false) k)))∧Ara w wr) (fun _ _ i _=>fs.length-(intOf i).toNat)
   case atStart=>exact⟨0,Ann _,rfl,rfl,rfl,g,f⟩
   case round=>
    clear g f e0 j hk l;obtain⟨k,hk,rfl,rfl,rfl,g,f⟩:=hrel;have t:=Ej fs;have v:(Af (Co ((Bf fs).take k) L)).length≤480:=by
     rw[Ff,Hn];have:((Bf fs).take k).length*L≤40*12:=Aoj (by simp;omega) hL;omega
    by_cases l:k<fs.length
    ·obtain⟨b,o,K,a1,_,a3⟩:=(Ba.kept HF.o f (fun _ _ h=>h)) k l;have I:=Af4 fs k l;have y:=Af5 fs (k+1);have M:(Bf fs)[k]'(by omega)=(Ac (fs.take (k+1))).length:=by
      have:=X3 fs k l;rw[Am4,Am5 (by omega)]at this;simpa using this
     have HT:Aside (Af (Co ((Bf fs).take (k+1)) L)=Af (Co ((Bf fs).take k) L)++Af (Aw (Ac (fs.take (k+1))).length L)):=by
      show _=_;rw[Us _ _ _ (by omega),M,Hr]
     have Z:Aside (Af (Fp (Bf fs) L (List.replicate NN false) (k+1))=(Af (Fp (Bf fs) L (List.replicate NN false) k)).set ((Ac (fs.take (k+1))).length/p+k) 49):=by
      show _=_;rw[Fp,X2,X3 fs k l,HP.o]
     rw[←HN.o]at y;generalize fs[k].2=ct at*;obtain⟨e1,E⟩: ∃e,e=(Ac (fs.take (k+1))).length:=⟨_,rfl⟩;have Y:Aside (e1=(Ac (fs.take (k+1))).length):=E;rw[←E]at I y HT Z;obtain⟨e0,D⟩: ∃e,e=(Ac (fs.take k)).length:=⟨_,rfl⟩;rw[←D]at I;rw[←D];clear D E M;have zs:(e0:Int)+(ct.size:Int)=(e1:Int):=by omega
     have a:=fun W=>Sc (e1%p) L W (by omega) (by have:=Nat.mod_le e1 p;omega);have ae:Aside (Aw (e1%p) L=Aw e1 L):=by show _=_;rw[HP.o];exact Af3 e1 L
     rw[ae.o]at a;rw[show((e1%p:Nat):Int)=(e1:Int)%(p:Int)from by simp]at a;obtain⟨r,u⟩: ∃r,r=e1/p:=⟨_,rfl⟩;have a9:r≤q:=by rw[u,HQ.o];exact Nat.div_le_div_right y
     have zr:(e1:Int)/(p:Int)=(r:Int):=by rw[u];simp
     rw[←u]at Z;clear u;obtain⟨md,F⟩: ∃md,md=e1%p:=⟨_,rfl⟩;have zm:(e1:Int)%(p:Int)=(md:Int):=by rw[F];simp
     have au:md≤6000:=by rw[F];have:=Nat.mod_le e1 p;omega
     rw[zm]at a;clear F;have a6:IntKind.i64.wrap (md:Int)=(md:Int):=by rw[An9];omega
     have aA:IntKind.i64.wrap (r:Int)=(r:Int):=by rw[An9];omega
     have af:(Af (Aw e1 L)).length≤12:=by rw[Ff,Do];exact hL
     have ag: ¬9223372036854775807<(Af (Co ((Bf fs).take k) L)).length+(Af (Aw e1 L)).length:=by omega
     have m:(Af (Fp (Bf fs) L (List.replicate NN false) k)).length=NN:=by rw[Ff,Sd];simp
     obtain⟨x,hc⟩: ∃x,wr.cell? ⟨w.heap.size,r+k,none⟩=some x:=⟨_,(g.cellAt (r+k) (by omega)).trans (Am5 (by simp only[Ah,Anz,m];omega))⟩;have T:wr.frozen? ⟨w.heap.size,r+k,none⟩=false:=g.frozenAt _;have d:=(g.stored (r+k) (.int .u8 49)).1;have e2:(Ah (Af (Fp (Bf fs) L (List.replicate NN false) k))).set (r+k) (.int .u8 49)=Ah (Af (Fp (Bf fs) L (List.replicate NN false) (k+1))):=by
      rw[Z.o,Ah,Ah,Ap2];rfl
     rw[e2]at d;have X:Hid (World.ownsRow _ w.heap.size 5 1 (.slice (some ⟨w.heap.size,0,none⟩) NN NN) NN (Ah (Af (Fp (Bf fs) L (List.replicate NN false) (k+1))))):=d;have a0:(r:Int)+(k:Int)<(NN:Int):=by omega
     have j:decide ((k:Int)<(fs.length:Int))=true:=Ana (by omega);have a4:e1≤6000:=by omega
     have G:=aa.o;rw[K];clear d g e2 m K v t I af HF y;generalize Af (Co ((Bf fs).take k) L)=A at*;generalize Af (Aw e1 L)=B at*;go_wp2_with fail;refine(a _).mono ?_;rintro e w3 ⟨rfl,aB⟩;subst w3;clear a;go_wp2;go_roundw
     case rel=>exact⟨k+1,by omega,by go_num,by rw[Y.o],by rw[HT.o,Qp],X.o,f.setCell (.inl (Ane _)) _⟩
     case measure=>simp[intOf];omega
    ·obtain rfl:fs.length=k:=by omega
     have j:decide ((fs.length:Int)<(fs.length:Int))=false:=Anc (by omega);rw[←t,Aof]at v;have eT:(Bf fs).take fs.length=Bf fs:=by rw[←t,Aof]
     rw[eT];have ad:=Ii g;have m:(Af (Fp (Bf fs) L (List.replicate NN false) fs.length)).length=NN:=by rw[Ff,Sd];simp
     obtain⟨A,hA⟩: ∃A,A=Af (Co (Bf fs) L):=⟨_,rfl⟩;obtain⟨B,hB⟩: ∃B,B=Af (Fp (Bf fs) L (List.replicate NN false) fs.length):=⟨_,rfl⟩;have J:Aside (A=Af (Co (Bf fs) L)∧B=Af (Fp (Bf fs) L (List.replicate NN false) fs.length)):=⟨hA,hB⟩;rw[←hA]at v;rw[←hA];rw[←hB]at ad m;have ag: ¬9223372036854775807<A.length+B.length:=by omega
     clear hA hB g m eT t v;generalize(Ac (fs.take fs.length)).length=te at*;go_wp2;go_ret;exact⟨by rw[HR.o,←J.o.1,←J.o.2,←Qp];rfl,f⟩
namespace Hm
theorem Se: ∀(a b:Arc),Op.bytesLess a b=true↔Dg a b
 |[],[]=>by simp[Op.bytesLess,Dg]
 |[],_::_=>by simp[Op.bytesLess,Dg]
 |_::_,[]=>by simp[Op.bytesLess,Dg]
 |a::l,b::m=>by
  have ih:=Se l m;simp only[Op.bytesLess,Dg]
  by_cases h:a<b
  ·have c:a.toNat<b.toNat:=UInt8.lt_iff_toNat_lt.1 h;simp[h,c]
  ·have c: ¬a.toNat<b.toNat:=fun k=>h (UInt8.lt_iff_toNat_lt.2 k)
   by_cases e:a=b
   ·subst e;simp[ih]
   ·simp[h,c,e]
abbrev lt(s:Arc)(i j:Nat):Prop:=Dg (s.drop i) (s.drop j)
theorem Al1(s:Arc){i j:Nat}(hi:i≤s.length)(a:j≤s.length)(h:i≠j):lt s i j∨lt s j i:=by
 rcases M0 (s.drop i) (s.drop j)with c|c|c
 ·exact .inl c
 ·have e:=congrArg List.length c;simp at e;omega
 ·exact .inr c
structure G2(s:Arc)(a b:Ard)(i k:Nat)(out:Ard):Prop where
 perm:out.Perm (a.take i++b.take k)
 srt:out.Pairwise (lt s)
 la: ∀x∈out,∀y∈a.drop i,lt s x y
 lb: ∀x∈out,∀y∈b.drop k,lt s x y
theorem G2.none(s:Arc)(a b:Ard):G2 s a b 0 0 []:=⟨by simp,List.Pairwise.nil,fun x h=>by simp at h,fun x h=>by simp at h⟩
theorem G2.left{s:Arc}{a b out:Ard}{i k:Nat}(h:G2 s a b i k out)(f:a.Pairwise (lt s))(hi:i<a.length)(hb: ∀y∈b.drop k,lt s a[i] y):G2 s a b (i+1) k (out++[a[i]]):=by
 have hd:a.drop i=a[i]::a.drop (i+1):=An7 hi;have e:=(f.sublist (List.drop_sublist i a));rw[hd,Aqx]at e;refine⟨?_,?_,fun x c y d=>?_,fun x c y d=>?_⟩
 ·rw[Anh hi];refine(h.perm.append_right [a[i]]).trans ?_;rw[An4,An4];exact List.Perm.append_left _ (List.perm_append_comm)
 ·rw[List.pairwise_append];exact⟨h.srt,List.pairwise_singleton _ _,fun x c y d=>by rw[List.mem_singleton.1 d];exact h.la x c _ (by rw[hd];exact Anl)⟩
 ·rcases Aq3.1 c with c|c
  ·exact h.la x c y (by rw[hd];exact Anr _ d)
  ·rw[List.mem_singleton.1 c];exact e.1 y d
 ·rcases Aq3.1 c with c|c
  ·exact h.lb x c y d
  ·rw[List.mem_singleton.1 c];exact hb y d
theorem G2.right{s:Arc}{a b out:Ard}{i k:Nat}(h:G2 s a b i k out)(hb:b.Pairwise (lt s))(hk:k<b.length)(f: ∀y∈a.drop i,lt s b[k] y):G2 s a b i (k+1) (out++[b[k]]):=by
 have hd:b.drop k=b[k]::b.drop (k+1):=An7 hk;have e:=(hb.sublist (List.drop_sublist k b));rw[hd,Aqx]at e;refine⟨?_,?_,fun x c y d=>?_,fun x c y d=>?_⟩
 ·rw[Anh hk,←An4];exact h.perm.append_right _
 ·rw[List.pairwise_append];exact⟨h.srt,List.pairwise_singleton _ _,fun x c y d=>by rw[List.mem_singleton.1 d];exact h.lb x c _ (by rw[hd];exact Anl)⟩
 ·rcases Aq3.1 c with c|c
  ·exact h.la x c y d
  ·rw[List.mem_singleton.1 c];exact f y d
 ·rcases Aq3.1 c with c|c
  ·exact h.lb x c y (by rw[hd];exact Anr _ d)
  ·rw[List.mem_singleton.1 c];exact e.1 y d
theorem Agt{s:Arc}{b:Ard}{k x:Nat}(hb:b.Pairwise (lt s))(hk:k<b.length)(h:lt s x b[k]): ∀y∈b.drop k,lt s x y:=fun y a=>by
 have hd:b.drop k=b[k]::b.drop (k+1):=An7 hk;have c:=(hb.sublist (List.drop_sublist k b));rw[hd,Aqx]at c;rw[hd]at a;rcases List.mem_cons.1 a with rfl|a
 ·exact h
 ·exact Mz h (c.1 y a)
structure Jf(s:Arc)(f t:Nat)(ps:Ard):Prop where
 perm:ps.Perm (List.range' f (t-f))
 srt:ps.Pairwise (lt s)
theorem Jf.mem{s:Arc}{f t:Nat}{ps:Ard}(h:Jf s f t ps)(x:Nat)(a:x∈ps):f≤x∧x<t:=by
 have:=h.perm.mem_iff.1 a;rw[List.mem_range'_1]at this;omega
theorem Jf.len{s:Arc}{f t:Nat}{ps:Ard}(h:Jf s f t ps):ps.length=t-f:=by have:=h.perm.length_eq;simpa using this
theorem Jf.one(s:Arc)(f:Nat):Jf s f (f+1) [f]:=⟨by rw[Ap8];exact List.Perm.refl _,List.pairwise_singleton _ _⟩
theorem G2.done{s:Arc}{a b out:Ard}{f m t:Nat}(h:G2 s a b a.length b.length out)(c:Jf s f m a)(hb:Jf s m t b)(h1:f≤m)(h2:m≤t):Jf s f t out:=by
 refine⟨?_,h.srt⟩;have:=h.perm;rw[Aof,Aof]at this;refine this.trans ((c.perm.append hb.perm).trans ?_);have e:List.range' f (t-f)=List.range' f (m-f)++List.range' m (t-m):=by
  rw[show t-f=(m-f)+(t-m)from by omega,←List.range'_append_1,show f+(m-f)=m from by omega]
 rw[e]
theorem Jf.sorted{s:Arc}{ps:Ard}(h:Jf s 0 (s.length+1) ps):C5 s ps:=⟨by have:=h.perm;rw[Aqp,←List.range_eq_range']at this;exact this,h.srt⟩
end Hm
theorem Aea(s:ByteArray)(x y:Nat):Op.bytesLess (s.extract x s.size).toList (s.extract y s.size).toList=true↔Hm.lt s.data.toList x y:=by
 have e: ∀a,(s.extract a s.size).data.toList=s.data.toList.drop a:=fun a=>by
  rw[ByteArray.data_extract,Array.toList_extract,Aqf];exact An5 (by simp)
 rw[Aor,Aor,e,e,Se]
theorem Abh(s:ByteArray)(f:Nat)(w:World)(_hf:f≤6000):
  Calls prog 40 #[.string s,.int .i64 f,.int .i64 ((f+1:Nat):Int)] w fun e w'=> ∃v,e= .returned v∧w'.ownsRow w.heap.size 3 1 v 1 (Ad [f])∧Ara w w':=by
 obtain⟨t,ht⟩: ∃t,t=f+1:=⟨_,rfl⟩;have a:(t:Int)-(f:Int)=1:=by omega
 rw[←ht];clear ht
 go_enter func40,ntmps40
 go_wp2;go_ret;refine⟨_,rfl,?_,(Aa.refl _ _).alloc _⟩;exact⟨by simp[Ad],.inr ⟨w.heap.size,1,#[.int .i64 (f:Nat)],rfl,Ane _,Anj w _,Ane _,by unfold maxLen;omega,rfl,by simp[Ad]⟩⟩
theorem Abi(s:ByteArray)(f m t:Nat)(w:World)(hs:s.size≤6000)(al:f<m)(ap:m<t)(ht:t≤s.size+1)(hm:m=(f+t)/2)
  (IH: ∀f' t' W,f'<t'→t'≤s.size+1→t'-f'<t-f→Calls prog 40 #[.string s,.int .i64 (f':Nat),.int .i64 (t':Nat)] W fun e w'=> ∃v ps,e= .returned v∧Jf s.data.toList f' t' ps∧w'.ownsRow W.heap.size 3 1 v ps.length (Ad ps)∧Ara W w'):
  Calls prog 40 #[.string s,.int .i64 f,.int .i64 t] w fun e w'=> ∃v ps,e= .returned v∧Jf s.data.toList f t ps∧w'.ownsRow w.heap.size 3 1 v ps.length (Ad ps)∧Ara w w':=by
 obtain⟨i0,hi,J,K,L⟩:=Aoo Lf;have hz:(((t:Int)-(f:Int))==1)=false:=by simp;omega
 have zm:((f:Int)+(t:Int))/2=(m:Int):=by omega
 have h1:=fun W=>IH f m W al (by omega) (by omega);have h2:=fun W=>IH m t W ap ht (by omega);obtain⟨d,hd⟩: ∃d,d=t-f:=⟨_,rfl⟩;have zd:(t:Int)-(f:Int)=(d:Int):=by omega
 have a6:d≤6001:=by omega
 have aB:((d:Int)==1)=false:=by simp;omega
 have HA:Aside (m=(f+t)/2∧d=t-f):=⟨hm,hd⟩;clear IH hm hd hz
 go_enter func40,ntmps40
 go_wp2_with fail;refine(h1 _).mono ?_;rintro e w1 ⟨va,a,rfl,Q,r,H⟩;obtain⟨ga,ca,aq,_,am⟩:=Ck r (by rw[Q.len];omega);subst aq;have Z:=(r.lt ga rfl).1;go_wp2_with fail;refine(h2 _).mono ?_;rintro e w2 ⟨vb,b,rfl,hpb,g,O⟩;obtain⟨gb,cb,ar,_,a7⟩:=Ck g (by rw[hpb.len];omega);subst ar;have aa:=(g.lt gb rfl).1;have S:=O.owns r (fun _ _ h=>h);have R:=H.trans O (fun _ _ h=>h);have ae:=Q.len;have af:=hpb.len;have E:Aside (Jf s.data.toList f m a∧Jf s.data.toList m t b∧w2.ownsRow w.heap.size 3 1 (.slice (some ⟨ga,0,none⟩) a.length ca) a.length (Ad a)∧w2.ownsRow w1.heap.size 3 1 (.slice (some ⟨gb,0,none⟩) b.length cb) b.length (Ad b)∧Ara w w2∧a.length+b.length=d):=⟨Q,hpb,S,g,R,by have:=HA.o;omega⟩;have az:ga<w2.heap.size:=by have:=O.size;omega
 clear h1 h2 Q hpb r g H O S R am Z aa;have a3:a.length≤6001:=by omega
 have a4:b.length≤6001:=by omega
 have HL:Aside (a.length=m-f∧b.length=t-m):=⟨ae,af⟩;clear ae af
 go_wp2_with(at_make;refine wpList_make_own _ rfl _ _ 64 rfl w2.heap.size 3 i0 (.int .i64 0) 1 underlying64 hi J K .i64 .i64 _ d rfl rfl rfl (by rw[L];omega) (by unfold maxLen;omega) (Ane _) ?_;intro w3 ai Y)
 have ad:Ara w2 w3:=(Aa.refl _ _).grown Y (fun k hk=>by cases hk);clear Y
 go_loopw[10,11,12] (fun vo vi vk wr=> ∃(i k:Nat) (out:Ard),vi= .int .i64 i∧vk= .int .i64 k∧i≤a.length∧k≤b.length∧Hid (G2 s.data.toList a b i k out)∧Aside (wr.ownsRow w2.heap.size 3 1 vo out.length (Ad out))∧Ara w2 wr) (fun _ i k _=>a.length-(intOf i).toNat+(b.length-(intOf k).toNat))
 case atStart=>exact⟨0,0,[],rfl,rfl,Ann _,Ann _,G2.none _ _ _,ai,ad⟩
 case round=>
  clear ai ad;obtain⟨i,k,out,rfl,rfl,ac,H,G,z,p⟩:=hrel;have r:=p.owns E.o.2.2.1 (fun _ _ h=>h);have g:=p.owns E.o.2.2.2.1 (fun _ _ h=>h);have a9:out.length≤13000:=by have:=G.o.perm.length_eq;simp at this;omega
  by_cases M:i<a.length
  ·have a5:wr.cell? ⟨ga,i,none⟩=some (.int .i64 (a[i]:Nat)):=by
    rw[r.cellAt i (by omega)];simp[Ad,M]
   have dA:decide ((i:Int)<(a.length:Int))=true:=Ana (by omega);have V:=(E.o.1.mem a[i] (Anm _));have a8:(i:Int)<(a.length:Int):=by omega
   by_cases F:k<b.length
   ·have ak:wr.cell? ⟨gb,k,none⟩=some (.int .i64 (b[k]:Nat)):=by
     rw[g.cellAt k (by omega)];simp[Ad,F]
    have ag:=(E.o.2.1.mem b[k] (Anm _));have dB:decide ((k:Int)<(b.length:Int))=true:=Ana (by omega);have dE:((k:Int)==(b.length:Int))=false:=by simp;omega
    have au:a[i]≤s.size:=by omega
    have ax:b[k]≤s.size:=by omega
    have an:(k:Int)<(b.length:Int):=by omega
    by_cases c:Hm.lt s.data.toList a[i] b[k]
    ·have T:Hid (G2 s.data.toList a b (i+1) k (out++[a[i]])):=G.o.left E.o.1.srt M (Agt E.o.2.1.srt F c);have aj:Op.bytesLess (s.extract a[i] s.size).toList (s.extract b[k] s.size).toList=true:=(Aea s _ _).2 c;clear c G r g V ag;generalize a[i]=x at*;generalize b[k]=y at*;have av:(x:Int)≤(s.size:Int):=by omega
     have ay:(y:Int)≤(s.size:Int):=by omega
     have l:Aside (wr.drew.ownsRow w2.heap.size 3 1 u10 out.length (Ad out)):=z.o;obtain⟨ao,co,D,_⟩:=Aq z.o;subst D;go_wp2_with fail
     go_region
     go_wp2_with(at_builtin;refine Bg _ rfl (.tmp 70) (.tmp 75) 64 rfl w2.heap.size 3 i0 (.int .i64 0) 1 8 underlying64 hi J K L rfl (by decide) _ _ _ rfl (l.o.alloc _) ⟨wr.heap.size,0,none⟩ 1 1 [.int .i64 (x:Nat)] rfl rfl ?c1 ?c2 ?c3 ?c4 ?c5 ?_)
     case c1=>exact cell_one_new _ _ _
     case c2=>intro u I;simp at I;subst I;rfl
     case c3=>unfold maxLen;omega
     case c4=>omega
     case c5=>have:=p.size;simp;omega
     intro v5 w5 q n C;have B:Ara w2 w5:=(p.drew.alloc _).grown n (fun j N=> .inl (z.o.lt j N).1);have A:Aside (w5.ownsRow w2.heap.size 3 1 v5 (out.length+1) (Ad out++[.int .i64 (x:Nat)])):=q;clear q n C z l;go_wp2;go_roundw
     case rel=>
      refine⟨i+1,k,out++[x],by go_num,rfl,by omega,H,T,?_,B⟩;have e1:Ad (out++[x])=Ad out++[.int .i64 (x:Nat)]:=by simp[Ad]
      show World.ownsRow _ _ _ _ _ _ _;rw[e1,Anf];exact A.o
     case measure=>simp[intOf];omega
    ·have ah:b[k]≠a[i]:=by omega
     have X:s.data.toList.length=s.size:=by simp
     have ab:Hm.lt s.data.toList b[k] a[i]:=by
      rcases Al1 s.data.toList (by rw[X];exact ax) (by rw[X];exact au) ah with h|h
      ·exact h
      ·exact absurd h c
     have T:Hid (G2 s.data.toList a b i (k+1) (out++[b[k]])):=G.o.right E.o.2.1.srt F (Agt E.o.1.srt M ab);have aj:Op.bytesLess (s.extract a[i] s.size).toList (s.extract b[k] s.size).toList=false:=by
      have:=mt (Aea s a[i] b[k]).1 c;simpa using this
     clear c G r g V ag ab ah X;generalize a[i]=x at*;generalize b[k]=y at*;have av:(x:Int)≤(s.size:Int):=by omega
     have ay:(y:Int)≤(s.size:Int):=by omega
     have l:Aside (wr.drew.ownsRow w2.heap.size 3 1 u10 out.length (Ad out)):=z.o;obtain⟨ao,co,D,_⟩:=Aq z.o;subst D;go_wp2_with fail
     go_region
     go_wp2_with(at_builtin;refine Bg _ rfl (.tmp 79) (.tmp 84) 64 rfl w2.heap.size 3 i0 (.int .i64 0) 1 8 underlying64 hi J K L rfl (by decide) _ _ _ rfl (l.o.alloc _) ⟨wr.heap.size,0,none⟩ 1 1 [.int .i64 (y:Nat)] rfl rfl ?c1 ?c2 ?c3 ?c4 ?c5 ?_)
     case c1=>exact cell_one_new _ _ _
     case c2=>intro u I;simp at I;subst I;rfl
     case c3=>unfold maxLen;omega
     case c4=>omega
     case c5=>have:=p.size;simp;omega
     intro v5 w5 q n C;have B:Ara w2 w5:=(p.drew.alloc _).grown n (fun j N=> .inl (z.o.lt j N).1);have A:Aside (w5.ownsRow w2.heap.size 3 1 v5 (out.length+1) (Ad out++[.int .i64 (y:Nat)])):=q;clear q n C z l;go_wp2;go_roundw
     case rel=>
      refine⟨i,k+1,out++[y],rfl,by go_num,ac,by omega,T,?_,B⟩;have e1:Ad (out++[y])=Ad out++[.int .i64 (y:Nat)]:=by simp[Ad]
      show World.ownsRow _ _ _ _ _ _ _;rw[e1,Anf];exact A.o
     case measure=>simp[intOf];omega
   ·have P:b.length=k:=by omega
    have T:Hid (G2 s.data.toList a b (i+1) k (out++[a[i]])):=G.o.left E.o.1.srt M (by rw[←P,Apy];intro y hy;simp at hy);have dE:((b.length:Int)==(b.length:Int))=true:=by simp
    clear G r g V;generalize a[i]=x at*;subst P;have l:Aside (wr.drew.ownsRow w2.heap.size 3 1 u10 out.length (Ad out)):=z.o;obtain⟨ao,co,D,_⟩:=Aq z.o;subst D;go_wp2_with fail
    go_region
    go_wp2_with(at_builtin;refine Bg _ rfl (.tmp 70) (.tmp 75) 64 rfl w2.heap.size 3 i0 (.int .i64 0) 1 8 underlying64 hi J K L rfl (by decide) _ _ _ rfl (l.o.alloc _) ⟨wr.heap.size,0,none⟩ 1 1 [.int .i64 (x:Nat)] rfl rfl ?c1 ?c2 ?c3 ?c4 ?c5 ?_)
    case c1=>exact cell_one_new _ _ _
    case c2=>intro u I;simp at I;subst I;rfl
    case c3=>unfold maxLen;omega
    case c4=>omega
    case c5=>have:=p.size;simp;omega
    intro v5 w5 q n C;have B:Ara w2 w5:=(p.drew.alloc _).grown n (fun j N=> .inl (z.o.lt j N).1);have A:Aside (w5.ownsRow w2.heap.size 3 1 v5 (out.length+1) (Ad out++[.int .i64 (x:Nat)])):=q;clear q n C z l;go_wp2;go_roundw
    case rel=>
     refine⟨i+1,b.length,out++[x],by go_num,rfl,by omega,H,T,?_,B⟩;have e1:Ad (out++[x])=Ad out++[.int .i64 (x:Nat)]:=by simp[Ad]
     show World.ownsRow _ _ _ _ _ _ _;rw[e1,Anf];exact A.o
    case measure=>simp[intOf];omega
  ·have U:a.length=i:=by omega
   by_cases F:k<b.length
   ·have ak:wr.cell? ⟨gb,k,none⟩=some (.int .i64 (b[k]:Nat)):=by
     rw[g.cellAt k (by omega)];simp[Ad,F]
    have T:Hid (G2 s.data.toList a b i (k+1) (out++[b[k]])):=G.o.right E.o.2.1.srt F (by rw[←U,Apy];intro y hy;simp at hy);have dA:decide ((a.length:Int)<(a.length:Int))=false:=Anc (by omega);have dB:decide ((k:Int)<(b.length:Int))=true:=Ana (by omega);have dE:((k:Int)==(b.length:Int))=false:=by simp;omega
    have an:(k:Int)<(b.length:Int):=by omega
    clear G r g;generalize b[k]=y at*;subst U;have l:Aside (wr.drew.ownsRow w2.heap.size 3 1 u10 out.length (Ad out)):=z.o;obtain⟨ao,co,D,_⟩:=Aq z.o;subst D;go_wp2_with fail
    go_region
    go_wp2_with(at_builtin;refine Bg _ rfl (.tmp 79) (.tmp 84) 64 rfl w2.heap.size 3 i0 (.int .i64 0) 1 8 underlying64 hi J K L rfl (by decide) _ _ _ rfl (l.o.alloc _) ⟨wr.heap.size,0,none⟩ 1 1 [.int .i64 (y:Nat)] rfl rfl ?c1 ?c2 ?c3 ?c4 ?c5 ?_)
    case c1=>exact cell_one_new _ _ _
    case c2=>intro u I;simp at I;subst I;rfl
    case c3=>unfold maxLen;omega
    case c4=>omega
    case c5=>have:=p.size;simp;omega
    intro v5 w5 q n C;have B:Ara w2 w5:=(p.drew.alloc _).grown n (fun j N=> .inl (z.o.lt j N).1);have A:Aside (w5.ownsRow w2.heap.size 3 1 v5 (out.length+1) (Ad out++[.int .i64 (y:Nat)])):=q;clear q n C z l;go_wp2;go_roundw
    case rel=>
     refine⟨a.length,k+1,out++[y],rfl,by go_num,ac,by omega,T,?_,B⟩;have e1:Ad (out++[y])=Ad out++[.int .i64 (y:Nat)]:=by simp[Ad]
     show World.ownsRow _ _ _ _ _ _ _;rw[e1,Anf];exact A.o
    case measure=>simp[intOf];omega
   ·have P:b.length=k:=by omega
    subst U;subst P;have dA:decide ((a.length:Int)<(a.length:Int))=false:=Anc (by omega);have dB:decide ((b.length:Int)<(b.length:Int))=false:=Anc (by omega);have HP:Aside (Jf s.data.toList f t out):=G.o.done E.o.1 E.o.2.1 (by omega) (by omega);clear r g G;go_wp2;go_ret;refine⟨_,out,rfl,HP.o,Gj z.o (fun j N=>?_),E.o.2.2.2.2.1.trans p (fun _ _ h=>h)⟩;have h1:=(z.o.lt j N).1;have h2:=E.o.2.2.2.2.1.size;omega
theorem Sf(s:ByteArray)(hs:s.size≤6000): ∀(N f t:Nat) (w:World),t-f≤N→f<t→t≤s.size+1→
  Calls prog 40 #[.string s,.int .i64 (f:Nat),.int .i64 (t:Nat)] w fun e w'=> ∃v ps,e= .returned v∧Jf s.data.toList f t ps∧w'.ownsRow w.heap.size 3 1 v ps.length (Ad ps)∧Ara w w'
 |0,f,t,w,h,a,ht=>by omega
 |N+1,f,t,w,h,a,ht=>by
  have ih:=Sf s hs N
  by_cases e:t=f+1
  ·subst e;refine(Abh s f w (by omega)).mono ?_;rintro e w' ⟨v,b,c,hk⟩;exact⟨v,[f],b,Jf.one _ f,c,hk⟩
  ·exact Abi s f ((f+t)/2) t w hs (by omega) (by omega) ht rfl (fun f' t' W h1 h2 d=>ih f' t' W (by omega) h1 h2)
end Go.Proofs.YtegnkfdbmmndaaaGreat
