import Derived.Test.YtegnkfdbmmndaaaGreatK16

set_option maxHeartbeats 8000000
set_option maxRecDepth 100000
namespace Go.Proofs.YtegnkfdbmmndaaaGreat
open Hm Go.Proofs.Tryz
variable{w w':World}{g hi len lo n:Nat}{S:Nat->Prop}{l l6 l8 s t:Aeg}{L ps ws:Aeh}{fs:Aef}
section
open Go.RowKit
theorem Rr:(prog.info? 38).map (fun i=>(i.zero,i.size,i.bytes))=some (some (.agg #[.string ⟨#[]⟩,.string ⟨#[]⟩]),2,32):=by kernel_rfl
theorem uI:(prog.info? 38).map (·.size)=some 2:=by kernel_rfl
section
variable {P:Program}
theorem kG(w:World)(p u x d:TypeId)(g o c f:Nat)(a:Addr)(e l:Nat)(b:Array Value)(t:TypeId)(cs:Aei)
  (s:P.underlying p=some (.slice d)) (hs:(P.info? d).map (·.size)=some 2)
  (q:w.heap[g]?=some (.cells b t (0,0))) (hn:cs.length=Nat.min e c*2)
  (k: ∀j v,cs[j]?=some v->w.cell? (a.add j)=some v) (h:o+cs.length<=b.size) (h1: ∀v∈cs,v.oneCell'=true):
  (Builtin.copy_ #[p,u] x #[.slice (some ⟨g,o,none⟩) c f,.slice (some a) e l]).run P w=
   .ok (goInt (Nat.min e c)) (w.setRow g (b.toList.take o++cs++b.toList.drop (o+cs.length)).toArray):=by
 have r:=run_loadCells_list (P:=P) w a cs k;have n:=run_storeCells_at P g o t cs 0 b w q (by simpa using h) h1;cases m:P.info? d with
 |none=>simp[m]at hs
 |some i=>
  have hi:i.size=2:=by simpa[m]using hs
  simp[Builtin.copy_,run_underlying s,Builtin.lenOf,Builtin.firstCells,sizeOf,typeInfo,m,hi,<-hn,r,n]
theorem kH(w:World)(n p q d:TypeId)(g b f:Nat)(a:Addr)(c h:Nat)(e:Aei)(t:TypeId)(cs:Aei)
  (r:P.underlying n=some (.slice d)) (hs:(P.info? d).map (·.size)=some 2)
  (o:w.heap[g]?=some (.cells e.toArray t (0,0))) (hn:cs.length=Nat.min c b*2)
  (m: ∀j v,cs[j]?=some v->w.cell? (a.add j)=some v) (i:cs.length<=e.length) (h1: ∀v∈cs,v.oneCell'=true):
  ∃w',(Builtin.copy_ #[n,p] q #[.slice (some ⟨g,0,none⟩) b f,.slice (some a) c h]).run P w= .ok (goInt (Nat.min c b)) w'/\
   w'.heap[g]?=some (.cells (cs++e.drop cs.length).toArray t (0,0))/\Aa (fun j=>j=g) w w':=by
 have l:=kG (P:=P) w n p q d g 0 b f a c h e.toArray t cs r hs o hn m (by simpa using i) h1;refine⟨_,l,?_,⟨rfl,rfl,rfl,by simp[World.setRow],fun k hk hn=>setRow_other w g k _ (by omega)⟩⟩;rw[setRow_heap w g _ _ t _ o];simp
end
theorem Rs(w:World)(a:Aej)(n c:Nat):(binOp .eql 22 (.slice a n c) (.slice none 0 0)).run prog w= .ok (.bool a.isNone) w:=Lib.run_eql_slice_nil w _ _ a n c 0 0 underlying22
namespace Hm
abbrev Fl:=ByteArray×ByteArray
def Cb:List Fl->Aei
 |[]=>[]
 |p::r=> .string p.1:: .string p.2::Cb r
theorem Gk(l:List Fl):(Cb l).length=l.length*2:=by
 induction l with
 |nil=>rfl
 |cons p r ih=>simp[Cb,ih];omega
theorem Pj(l r:List Fl):Cb (l++r)=Cb l++Cb r:=by
 induction l with
 |nil=>rfl
 |cons p t ih=>simp[Cb,ih]
theorem P5(l:List Fl): ∀i,(h:i<l.length)->(Cb l)[i*2]?=some (.string l[i].1):=by
 induction l with
 |nil=>intro i h;simp at h
 |cons p r ih=>
  intro i h;cases i with
  |zero=>rfl
  |succ i=>
   have:=ih i (by simpa using h);rw[show(i+1)*2=i*2+1+1 from by omega];simpa[Cb]using this
theorem Nj(l:List Fl): ∀i,(h:i<l.length)->(Cb l)[i*2+1]?=some (.string l[i].2):=by
 induction l with
 |nil=>intro i h;simp at h
 |cons p r ih=>
  intro i h;cases i with
  |zero=>rfl
  |succ i=>
   have:=ih i (by simpa using h);rw[show(i+1)*2+1=i*2+1+1+1 from by omega];simpa[Cb]using this
theorem nH(l:List Fl)(x:ByteArray): ∀i,(h:i<l.length)->(Cb l).set (i*2) (.string x)=Cb (l.set i (x,l[i].2)):=by
 induction l with
 |nil=>intro i h;simp at h
 |cons p r ih=>
  intro i h;cases i with
  |zero=>rfl
  |succ i=>
   have:=ih i (by simpa using h);rw[show(i+1)*2=i*2+1+1 from by omega];simp[Cb,this]
theorem rH(l:List Fl): ∀v∈Cb l,v.oneCell'=true:=by
 induction l with
 |nil=>intro v h;cases h
 |cons p r ih=>
  intro v h;rcases List.mem_cons.1 h with rfl|h
  ·rfl
  rcases List.mem_cons.1 h with rfl|h
  ·rfl
  exact ih v h
end Hm
def Cv(w:World)(g:Nat)(l:List Fl):Prop:=w.heap[g]?=some (.cells (Cb l).toArray 38 (0,0))
theorem Cv.fst{l:List Fl}(h:Cv w g l){i:Nat}(hi:i<l.length):w.cell? ⟨g,i*2,none⟩=some (.string l[i].1):=by
 rw[zP _ _ _ _ _ _ h];simpa using P5 l i hi
theorem Cv.snd{l:List Fl}(h:Cv w g l){i:Nat}(hi:i<l.length):w.cell? ⟨g,i*2+1,none⟩=some (.string l[i].2):=by
 rw[zP _ _ _ _ _ _ h];simpa using Nj l i hi
theorem Cv.free{l:List Fl}(h:Cv w g l)(i:Nat):w.frozen? ⟨g,i,none⟩=false:=zR _ _ i _ _ h
theorem Cv.set1{l:List Fl}(h:Cv w g l)(i:Nat)(x:ByteArray)(hi:i<l.length):Cv (w.setCell ⟨g,i*2,none⟩ (.string x)) g (l.set i (x,l[i].2)):=by
 have h2:=zI w g (i*2) _ _ (.string x) h;unfold Cv;rw[h2,<-nH l x i hi];congr 2;apply Abr;simp
theorem Cv.lt{l:List Fl}(h:Cv w g l):g<w.heap.size:=Aac h
theorem Cv.kept{l:List Fl}(h:Cv w g l)(hk:Aa S w w')(hn: ¬S g):Cv w' g l:=hk.row h hn
theorem Cv.at{w:World}{g:Nat}{l r:List Fl}(h:Cv w g (l++r)):Az w (some ⟨g,0,none⟩) l:=fun i hi=>by
 have h1:=h.fst (i:=i) (by simp;omega);have h2:=h.snd (i:=i) (by simp;omega);rw[List.getElem_append_left hi]at h1 h2;exact⟨g,0,rfl,h.lt,by rw[Aao];exact h1,by rw[Aao];exact h2⟩
theorem rI(n:Nat):(madeCells (Value.agg #[.string ⟨#[]⟩,.string ⟨#[]⟩]).cells (n*2)).toList=Cb (List.replicate n (⟨#[]⟩,⟨#[]⟩)):=by
 have d:(Cb (List.replicate n (⟨#[]⟩,⟨#[]⟩))).length=n*2:=by rw[Gk];simp
 apply Aa1
 ·rw[d];simp[madeCells]
 ·intro i h1 h2;have e:(Value.agg #[.string ⟨#[]⟩,.string ⟨#[]⟩]).cells= #[.string ⟨#[]⟩,.string ⟨#[]⟩]:=rfl;have b:(madeCells (Value.agg #[.string ⟨#[]⟩,.string ⟨#[]⟩]).cells (n*2)).toList[i]= .string ⟨#[]⟩:=by
   simp[madeCells,e];rcases Ac0 i with h|h<;>simp[h]
  rw[b];have c:i<n*2:=by omega
  rcases Ac0 i with h|h
  ·have a:=P5 (List.replicate n (⟨#[]⟩,⟨#[]⟩)) (i/2) (by simp;omega);rw[show i/2*2=i from by omega,zH h2]at a;simp at a;exact a.symm
  ·have a:=Nj (List.replicate n (⟨#[]⟩,⟨#[]⟩)) (i/2) (by simp;omega);rw[show i/2*2+1=i from by omega,zH h2]at a;simp at a;exact a.symm
theorem Cv.made{base:Nat}(h:w'.ownsRow base 38 2 (.slice (some ⟨g,0,none⟩) n n) n (madeCells (Value.agg #[.string ⟨#[]⟩,.string ⟨#[]⟩]).cells (n*2)).toList):Cv w' g (List.replicate n (⟨#[]⟩,⟨#[]⟩)):=by
 rcases h.2 with⟨h1,_⟩|⟨g2,cap,cur,h1,_,a,_,_,hs,ht⟩
 ·cases h1
 ·cases h1;unfold Cv;rw[a];congr 2;apply Abr;have e:cur.toList.take (n*2)=cur.toList:=Aap (by simp;omega);rw[<-e,ht,rI]
theorem Az.src{a:Addr}{fs:List Fl}(h:Az w (some a) fs): ∀j v,(Cb fs)[j]?=some v->w.cell? (a.add j)=some v:=by
 intro j v d;have i:j<fs.length*2:=by
  rw[<-Gk];exact(List.getElem?_eq_some_iff.1 d).1
 obtain⟨b,o,e,_,h1,h2⟩:=h (j/2) (by omega);cases e;have f:((J b o):Addr).add j=(J b (o+j)):=by unfold Addr.add;split<;>simp_all
 rw[f];rcases Ac0 j with g|g
 ·have c:=P5 fs (j/2) (by omega);rw[show j/2*2=j from by omega]at h1 c;rw[h1,<-c,d]
 ·have c:=Nj fs (j/2) (by omega);rw[show j/2*2+1=j from by omega]at c;rw[show o+j/2*2+1=o+j from by omega]at h2;rw[h2,<-c,d]
namespace Hm
def Q5:ByteArray:=⟨#[98,101,121,111,110,100]⟩
def Ei(fs:List Fl)(k:Nat):List Fl:=fs++(List.replicate k (Q5,⟨#[]⟩)++List.replicate (8-k) (⟨#[]⟩,⟨#[]⟩))
theorem Ui(fs:List Fl)(k:Nat)(hk:k<=8):(Ei fs k).length=fs.length+8:=by simp[Ei];omega
theorem rJ(fs:List Fl)(k:Nat)(hk:k<8)(h:fs.length+k<(Ei fs k).length):(Ei fs k)[fs.length+k]=(⟨#[]⟩,⟨#[]⟩):=by
 have h2:(Ei fs k)[fs.length+k]?=some (⟨#[]⟩,⟨#[]⟩):=by
  unfold Ei;rw[z7 (by omega),z7 (by simp)];have a:0<8-k:=by omega
  simp[a]
 rw[zH h]at h2;exact Aak h2
theorem nI(fs:List Fl)(k:Nat)(hk:k<8):(Ei fs k).set (fs.length+k) (Q5,⟨#[]⟩)=Ei fs (k+1):=by
 unfold Ei;rw[Aba _ _ (by omega),Aba _ _ (by simp)];congr 1;rw[show fs.length+k-fs.length-(List.replicate k (Q5,(⟨#[]⟩:ByteArray))).length=0 from by simp,show 8-k=(8-(k+1))+1 from by omega,Abx (n:=8-(k+1)),zW,Adr (n:=k)];simp
end Hm
theorem uJ(w:World):Calls prog 29 #[.slice none 0 0] w fun e w'=>e= .returned (.slice none 0 0)/\w'=w:=by
 have a:=fun W=>Rs W none 0 0
 go_enter func29,ntmps29
 go_wp2;go_ret;exact⟨rfl,rfl⟩
theorem uK(a:Addr)(c:Nat)(fs:List Fl)(w:World)(D:Az w (some a) fs)(L:fs.length<=4398046511103):
  Calls prog 29 #[.slice (some a) fs.length c] w fun e w'=>e= .returned (.slice (some ⟨w.heap.size,0,none⟩) fs.length (fs.length+8))/\Cv w' w.heap.size (Ei fs 8)/\Aee w w':=by
 have E:=fun W=>Rs W (some a) fs.length c;obtain⟨K,hi,z,A,B⟩:=Aa6 Rr;have G:=hZ D;have n:Nat.min fs.length (fs.length+8)=fs.length:=Ab8 (by omega);clear D
 go_enter func29,ntmps29
 go_wp2_with(at_make;refine Abv _ rfl (.tmp 11) (.tmp 11) 22 rfl w.heap.size 38 K (.agg #[.string ⟨#[]⟩,.string ⟨#[]⟩]) 2 underlying22 hi z A .i64 .i64 _ _ (fs.length+8) rfl rfl (by simp) (by simp) (by rw[B];omega) (by unfold maxLen;omega) (zK _) ?_;intro C p h)
 have r:=Cv.made p;have d:Aee w C:=(Aa.refl _ _).grown h (fun k hk=>by cases hk);have u:Hid (Az C (some a) fs):=G.o.kept d (fun _ _=>id);clear p h;obtain⟨w2,g,t,l⟩:=kH C 22 22 3 38 w.heap.size (fs.length+8) (fs.length+8) a fs.length c _ _ (Cb fs) underlying22 uI r (by rw[n,Gk]) u.o.src (by rw[Gk,Gk];simp;omega) (rH fs);have s:Cv w2 w.heap.size (Ei fs 0):=by
  unfold Cv Ei;rw[t,Pj];congr 2;rw[Gk,<-List.replicate_append_replicate,Pj,List.drop_left' (by rw[Gk];simp)];simp
 have b:Aee w w2:=d.trans l (fun j h1 h2=>by omega);rw[n]at g;clear t l r d;go_wp2_with fail;rw[g];go_wp2_with fail
 go_loopw[5] (fun vi wr=> ∃k:Nat,k<=8/\vi=I ((fs.length+k:Nat):Int)/\Cv wr w.heap.size (Ei fs k)/\Aee w wr) (fun vi _=>fs.length+8-(intOf vi).toNat)
 case atStart=>exact⟨0,by omega,rfl,s,b⟩
 case round=>
  clear s b;obtain⟨k,hk,rfl,q,f⟩:=hrel
  by_cases m:k<8
  ·have y:=Ui fs k hk;have x:=q.fst (i:=fs.length+k) (by omega);have H:=q.free ((fs.length+k)*2);have HS:=q.set1 (fs.length+k) Q5 (by omega);rw[rJ fs k m]at x HS;rw[nI fs k m]at HS;have F:=hZ HS;have v:=hZ f;clear HS q f y;go_wp2;go_roundw
   case rel=>exact⟨k+1,by omega,by go_num,F.o,v.o.setCell (.inl (zK _)) _⟩
   case measure=>simp[intOf];omega
  ·obtain rfl:k=8:=by omega
   go_wp2;go_ret;exact⟨rfl,q,f⟩
namespace Hm
noncomputable def Om(l8:Aeg)(n:Nat)(st:Bl):Aeg:=Classical.epsilon fun col=>col.length=n/\K0 (l8.take (szB st.len)) st.nds col/\Er st.ws col
theorem J4{st:Bl}(h:Fj l8 n L st):(Om l8 n st).length=n/\K0 (l8.take (szB st.len)) st.nds (Om l8 n st)/\Er st.ws (Om l8 n st):=
 Classical.epsilon_spec (p:=fun col=>col.length=n/\K0 (l8.take (szB st.len)) st.nds col/\Er st.ws col) (Li h)
def part(t:Aeg)(a b:Nat):Aeg:=(t.drop a).take (b-a)
noncomputable def G1(s l8:Aeg)(st:Bl):Aeg:=(Bh (Bw (Om l8 (rdN s).1 st) st.ws (rdR s).1) 0 (rdN s).1).1
theorem Pk(s l8:Aeg)(st:Bl):(G1 s l8 st).length=(rdN s).1:=Uf _ _ _
noncomputable def Ib(s l6:Aeg)(i:Nat):Nat:=Fg (Al (l6.take (szB (Ak (rdF s).1 (rdN s).1)))) (rdF s).1 (Cz (rdF s).1 (rdN s).1) i
noncomputable def Gy(s l6:Aeg)(i:Nat):Nat:=Fo (Al (l6.take (szB (Ak (rdF s).1 (rdN s).1)))) (rdF s).1 (Cz (rdF s).1 (rdN s).1) i
noncomputable def uL(s l6 l8:Aeg)(st:Bl)(i:Nat):ByteArray×ByteArray:=((rdM s).1.getD i ⟨#[]⟩,⟨(part (G1 s l8 st) (Ib s l6 i) (Gy s l6 i)).toArray⟩)
noncomputable def Bs(s l6 l8:Aeg)(st:Bl):Aef:=(List.range (rdF s).1).map (uL s l6 l8 st)
theorem Gw(s l6 l8:Aeg)(st:Bl):(Bs s l6 l8 st).length=(rdF s).1:=by unfold Bs;rw[Aai,Acb]
theorem Yl(l:List Fl)(x:ByteArray): ∀i,(h:i<l.length)->(Cb l).set (i*2+1) (.string x)=Cb (l.set i (l[i].1,x)):=by
 induction l with
 |nil=>intro i h;simp at h
 |cons p r ih=>
  intro i h;cases i with
  |zero=>simp[Cb]
  |succ i=>
   have:=ih i (by simpa using h);rw[show(i+1)*2+1=(i*2+1)+1+1 from by omega];simp[Cb,this]
end Hm
theorem Cv.set2{l:List Fl}(h:Cv w g l)(i:Nat)(x:ByteArray)(hi:i<l.length):Cv (w.setCell ⟨g,i*2+1,none⟩ (.string x)) g (l.set i (l[i].1,x)):=by
 have h2:=zI w g (i*2+1) _ _ (.string x) h;unfold Cv;rw[h2,<-Yl l x i hi];congr 2;apply Abr;simp
theorem Cv.put{l:List Fl}(h:Cv w g l)(i:Nat)(x y:ByteArray)(hi:i<l.length):Cv ((w.setCell ⟨g,i*2,none⟩ (.string x)).setCell ⟨g,i*2+1,none⟩ (.string y)) g (l.set i (x,y)):=by
 have h2:=(h.set1 i x hi).set2 i y (by simpa using hi);simpa using h2
theorem Nk(h:w.heap[g]?=some (.cells (Ag t).toArray 5 (0,0)))(o k c:Nat)(hk:o+k<=t.length):
  (convert 79 9 (.slice (some ⟨g,o,none⟩) k c)).run prog w= .ok (.string ⟨((t.drop o).take k).toArray⟩) w:=by
 have d:((t.drop o).take k).length=k:=by rw[zS,Aas];omega
 have f:=run_convert_bytes_arg w _ _ underlying79 underlying5 g o k c (((t.drop o).take k).map fun b=>(b.toNat:Int)) (by rw[Aai];exact d) (fun i hi=>by
  have a:i<((t.drop o).take k).length:=by omega
  rw[zP _ _ (o+i) _ _ _ h,Aag,Ag,Aah,zG,Aah,zH a,zH (show o+i<t.length by omega),List.getElem_take,List.getElem_drop];rfl) _ underlying9
 have e:strOfNums (((t.drop o).take k).map fun b=>(b.toNat:Int))=⟨((t.drop o).take k).toArray⟩:=by
  unfold strOfNums;rw[List.map_map];have j:((fun n:Int=>UInt8.ofNat n.toNat)∘fun b:UInt8=>(b.toNat:Int))=id:=by funext b;simp
  rw[j,List.map_id]
 rw[e]at f;exact f
theorem nJ{P:Program}{ρ:Operand->Value}{o:Oper}(w:World)(a b:TypeId)(x:Operand)(c:o.op= .convert a b x)(v r:Value)(d:ρ x=v)(h:(convert a b v).run P w= .ok r w):(execOp ρ o).run P w= .ok (.value r) w:=by
 unfold execOp;simp only[c,d,Sem.run_bind,h,Ac9,Sem.run_pure]
theorem eU(pb o n:Nat)(w:World)(h:w.cell? ⟨pb,o+772,none⟩=some (.int .i64 n)):
  Calls prog 35 #[.pointer (some ⟨pb,o,none⟩)] w fun e w'=>e= .returned (.int .i64 n)/\w'=w:=by
 go_enter func35,ntmps35
 go_wp2;go_ret;exact⟨rfl,rfl⟩
end
namespace Hm
theorem Hr(fs:Aef)(i:Nat)(hi:i<fs.length):(Aw fs).getD i 0=(Ac (fs.take (i+1))).length:=by
 unfold Aw;rw[zG,Aah,Abn hi];rfl
theorem Oc(fs:Aef){i j:Nat}(h:i<=j):(Ac (fs.take i)).length<=(Ac (fs.take j)).length:=by
 have:=O4 (fs.take j) i;rwa[List.take_take,Ab8 h]at this
theorem Rt(fs:Aef):Vz (Aw fs) (Ac fs).length:=by
 have b:=Dp fs;refine⟨fun i j a d=>?_,fun i hi=>?_,?_⟩
 ·rw[Hr fs i (by omega),Hr fs j (by omega)];exact Oc fs (by omega)
 ·rw[Hr fs i (by omega)];exact O4 fs _
 ·rw[b]
  by_cases c:fs.length=0
  ·rw[if_pos c,Aaz c];rfl
  ·rw[if_neg c,Hr fs _ (by omega),show fs.length-1+1=fs.length from by omega,Aaw]
theorem V7(fs:Aef)(i:Nat)(hi:i<fs.length):part (Ac fs) (Ac (fs.take i)).length (Ac (fs.take (i+1))).length=fs[i].2.data.toList:=by
 have e:Ac fs=Ac (fs.take i)++(fs[i].2.data.toList++Ac (fs.drop (i+1))):=by
  conv=>lhs;rw[<-Abh i fs,Aan hi]
  unfold Ac;rw[Abo,Aa3]
 have a:(Ac (fs.take (i+1))).length=(Ac (fs.take i)).length+fs[i].2.data.toList.length:=by rw[Ye fs i hi,zL]
 unfold part;rw[a,Acq,e,Ad4,Adi]
theorem Tl(h:Bz L): ∀x∈L,x<=255:=fun x a=>by
 have h1:=Wx L x a;have h2:=aH h;omega
theorem V8(Q:Bu fs=0)(hA:Cy fs s): ∃l6 L l8 st,C5 s l6 L l8 st/\Bs s l6 l8 st=fs:=by
 obtain⟨hm,M,hn⟩:=Ia Q;obtain⟨ps,N,e,_,hE,es⟩:=hA.is;have O:=Hj (Ac fs) hn;have E: ∀b∈Am (Ac fs) ps,b∈Af (lens (Ac fs)):=fun b hb=>(N4 _ hn b).2 (M5 e.perm b hb);have p:=(I2 e.perm).2;have B:=D8 e.perm;obtain⟨t,ht⟩:=gx (Ac fs);obtain⟨tr,g⟩:=gx (D2 (lens (Ac fs)) N (Am (Ac fs) ps));obtain⟨w,h⟩: ∃x,x=leBytes (crc (Cr fs ps tr)) 4:=⟨_,rfl⟩;have P:w.length=4:=by rw[h,Cp]
 obtain⟨K,A⟩: ∃x,x=Ah (Bb ps)++w:=⟨_,rfl⟩;obtain⟨v,k⟩: ∃x,x=Ah tr++K:=⟨_,rfl⟩;obtain⟨S,z⟩: ∃x,x=leBytes (Aj (lens (Ac fs))).length 2++(B4 (lens (Ac fs)) (Aj (lens (Ac fs)))++v):=⟨_,rfl⟩;obtain⟨u,y⟩: ∃x,x=Ah (Bo (Aw fs) (Ac fs).length)++S:=⟨_,rfl⟩;have hs:s=[72,79,65,82,68,49,UInt8.ofNat fs.length]++(leBytes (Ac fs).length 2++(leBytes (Av ps) 2++(nameBytes fs++u))):=by
  rw[es,<-g,y,z,k,A,h];unfold Kl Cr;simp only[Aaj]
 have d:s=Cr fs ps tr++w:=by rw[es,<-g,h];rfl
 have a:=kD fs (Ac fs).length (Av ps) u (by omega) (by omega) p (fun f hf=>(M f hf).1);simp only at a;rw[<-hs]at a;obtain⟨G,n,eR,T⟩:=a;have R:=Dp fs;obtain⟨U,V,W⟩:=aQ (Aw fs) (Ac fs).length hn (Rt fs) S;rw[<-y,R]at U V W;obtain⟨st,H,X,Y⟩:=aP O hE E K;rw[<-g,<-k,B]at H;rw[<-g]at X;rw[<-g,<-k]at Y;obtain⟨s1,s2⟩:=aO e.perm w;rw[<-A]at s1 s2;have C:v.drop (szB st.len)=K:=by rw[X,k,Ad4]
 have hP:C5 s u (lens (Ac fs)) v st:=by
  refine⟨by rw[T],by rw[G,n];exact U,?_,by rw[n];exact H,by rw[n,C];exact s1,?_⟩
  ·rw[G,n,V,z];exact pC _ _ O.len (Tl O)
  ·rw[n,C,s2];have D:s.length-4=(Cr fs ps tr).length:=by rw[d,zL,P];omega
   have q:s.take (s.length-4)=Cr fs ps tr:=by rw[D,d,Adi]
   unfold Ph;rw[q,show B7 (some w) 4=(crc (Cr fs ps tr),some [])from by
    have:=Mu (crc (Cr fs ps tr)) 4 [] (by have:=Vt (Cr fs ps tr);omega);rwa[Abe,<-h]at this]
   exact if_pos ⟨rfl,rfl⟩
 refine⟨u,lens (Ac fs),v,st,hP,?_⟩;have l:Om v (Ac fs).length st=Am (Ac fs) ps:=by
  obtain⟨Z,c2,_⟩:=J4 H;exact c2.unique Y (by rw[Z,B])
 have F:=(J4 H).2.2;rw[l]at F;have r:G1 s v st=Ac fs:=by
  unfold G1;rw[n,eR,l];exact rE e F
 unfold Bs;rw[G];apply Aa1 (by simp);intro i h1 h2;rw[Abu,Adp];unfold uL;have hi:i<fs.length:=h2;have m: ∀j,j<fs.length->Gy s u j=(Ac (fs.take (j+1))).length:=fun j hj=>by
  unfold Gy;rw[G,n,W j (by omega),Hr fs j hj]
 have o:Ib s u i=(Ac (fs.take i)).length:=by
  show(if i=0 then 0 else _)=_
  by_cases c:i=0
  ·rw[if_pos c,c];rfl
  ·rw[if_neg c];have:=m (i-1) (by omega);rw[show i-1+1=i from by omega]at this;exact this
 rw[r,m i hi,o,V7 fs i hi,T];show(((fs.map (·.1)).getD i ⟨#[]⟩),_)=_;rw[zG,Aah,zH hi];rfl
end Hm
section
open Go.RowKit
namespace Hm
def Ip(fs:List Fl)(m k:Nat):List Fl:=fs.take k++List.replicate (m-k) (⟨#[]⟩,⟨#[]⟩)
theorem kI{f:Nat->Bool}{m low:Nat}(h:Pw f len m low n)(i:Nat)(hi:i<m):Fo f m low i<=n:=by
 have key: ∀d j,j+d=m->Fg f m low j<=n:=by
  intro d;induction d with
  |zero=>intro j e;rw[show j=m by omega,h.all];exact zK _
  |succ d ih=>
   intro j e;have h1:=ih (j+1) (by omega);have h2:=h.asc j (by omega);have a:Fg f m low (j+1)=Fo f m low j:=rfl;omega
 have h1:=key (m-(i+1)) (i+1) (by omega);exact h1
theorem Nl(st:Rd): ∀m k,((At m st).1.getD k ⟨#[]⟩).size<=255
 |0,k=>by show(([]:List ByteArray).getD k ⟨#[]⟩).size<=255;rw[List.getD_nil];exact zZ _
 |m+1,k=>by
  have a:=Nl st m k;show(((At m st).1++[_]).getD k ⟨#[]⟩).size<=255;rw[zG]at a|-
  by_cases h:k<(At m st).1.length
  ·rw[Aav h];exact a
  ·rw[z7 (by omega)]
   by_cases h2:k-(At m st).1.length=0
   ·rw[h2];have c:(B7 (At m st).2 1).1<256:=by have:=Im (At m st).2 1;simpa using this
    have b:=Nf (B7 (At m st).2 1).2 (B7 (At m st).2 1).1;show(Be _ _).1.toArray.size<=255;rw[Aaa];omega
   ·rw[Aam (by simp;omega)];exact zZ _
theorem cY(fs:List Fl)(m k:Nat)(a:fs.length=m)(hk:k<=m):(Ip fs m k).length=m:=by
 unfold Ip;rw[zL,zS,zV];omega
theorem kJ(fs:List Fl)(m k:Nat)(b:fs.length=m)(hk:k<m)(x:Fl)(a:fs[k]?=some x):(Ip fs m k).set k x=Ip fs m (k+1):=by
 have e:List.replicate (m-k) ((⟨#[]⟩,⟨#[]⟩):Fl)=(⟨#[]⟩,⟨#[]⟩)::List.replicate (m-(k+1)) (⟨#[]⟩,⟨#[]⟩):=by rw[show m-k=(m-(k+1))+1 from by omega,Abx]
 unfold Ip;rw[e,Aba _ _ (by rw[zS];omega),zS,Ab8 (by omega),Abd,zW,List.take_add_one,a,Aaj];rfl
theorem nK(fs:List Fl)(m:Nat)(a:fs.length=m):Ip fs m m=fs:=by
 unfold Ip;rw[Abd,Aap (by omega)];simp
end Hm
theorem Tm(hones:Bc)(pa ge k:Nat)(s l6:Aeg)(W:World)(h:Ep W pa 1 ⟨(l6.take (szB (Ak (rdF s).1 (rdN s).1))).toArray⟩ (Ak (rdF s).1 (rdN s).1) ge (rdF s).1 (Cz (rdF s).1 (rdN s).1))(f:Gp l6 (rdF s).1 (rdN s).1)(hk:k<(rdF s).1):
  Calls prog 36 #[.pointer (some ⟨pa,1,none⟩),.int .i64 k] W fun e w'=>e= .returned (.tuple #[.int .i64 (Ib s l6 k:Nat),.int .i64 (Gy s l6 k:Nat)])/\Aee W w':=by
 have hF:=Qz s;have d:=Kk s;have m:=f.fits;have a:=f.cover.ones;have b:(⟨(l6.take (szB (Ak (rdF s).1 (rdN s).1))).toArray⟩:ByteArray).size=szB (Ak (rdF s).1 (rdN s).1):=by
  show(l6.take _).toArray.size=_;rw[Aaa,zS];omega
 have n:=Tg _ _ hF d;have o:=Wv (rdF s).1 (rdN s).1 d;have c:(rdF s).1*Cz (rdF s).1 (rdN s).1<=Ak (rdF s).1 (rdN s).1:=Adz _ _;have g:Ib s l6 k=Fg (Al (l6.take (szB (Ak (rdF s).1 (rdN s).1)))) (rdF s).1 (Cz (rdF s).1 (rdN s).1) k:=rfl;have i:Gy s l6 k=Fo (Al (l6.take (szB (Ak (rdF s).1 (rdN s).1)))) (rdF s).1 (Cz (rdF s).1 (rdN s).1) k:=rfl;have j:l6.take (szB (Ak (rdF s).1 (rdN s).1))=(⟨(l6.take (szB (Ak (rdF s).1 (rdN s).1))).toArray⟩:ByteArray).data.toList:=rfl;rw[g,i];generalize Cz (rdF s).1 (rdN s).1=lo at*;generalize Ak (rdF s).1 (rdN s).1=el at*;rw[j]at a|-;generalize(⟨(l6.take (szB el)).toArray⟩:ByteArray)=E at*;have l:el<=8*E.size:=by rw[b];unfold szB;omega
 exact i9 hones pa 1 el ge (rdF s).1 lo k E W h (by omega) (by omega) hk c l a (by rw[b];omega)
theorem Tn(hones:Bc)(B pa:Nat)(s l6:Aeg)(L:Aeh)(l8:Aeg)(st:Bl)(w:World)(Y:C5 s l6 L l8 st)(h:Dw B w pa s l6 L l8 st):
  Calls prog 14 #[.pointer (some ⟨pa,0,none⟩)] w fun e w'=> ∃a,e= .returned (.slice (some ⟨a,0,none⟩) (rdF s).1 (rdF s).1)/\w.heap.size<=a/\Cv w' a (Bs s l6 l8 st)/\Aee w w':=by
 obtain⟨gn,ge,g,ng,nc,gs,P⟩:=h.parts Y;obtain⟨A,ao,ap⟩:=J4 Y.tree;have hN:=Kk s;have hF:=Qz s;have aa:=(Qc Y.names).2;have ab:=I1 Y.tree hN;have az:(⟨(l8.take (szB st.len)).toArray⟩:ByteArray).size<=1000000:=by show(l8.take _).toArray.size<=_;rw[Aaa,zS];omega
 have O:Hid (∀W,Ec W pa 6 ⟨(l8.take (szB st.len)).toArray⟩ st.len g ng nc st.nds (rdR s).1 st.ws->Calls prog 33 #[.func (.func 34) #[.pointer (some (J pa 6))] #[],I 0,I ((rdN s).1:Nat)] W fun e w'=>e= .returned (S0 W.heap.size (rdN s).1 (rdN s).1)/\
   w'.heap[W.heap.size]?=some (.cells (Ag (G1 s l8 st)).toArray 5 (0,0))/\Aee W w'):=fun W hW=>
  j5 hones pa 6 st.len g ng nc (rdR s).1 0 (rdN s).1 _ st.nds st.ws (Om l8 (rdN s).1 st) W hW ao ap (by omega) (zZ _) az (by omega) (by omega)
 have HP:=hZ P;have aw:pa<w.heap.size:=z9 _ _ P.total;have aB:gn<w.heap.size:=Aac P.nblock;obtain⟨n,hn⟩:=gx ((rdN s).1);rw[<-hn]at O hN;have H:=fun W (hW:W.cell? (J pa 778)=some (I n))=>eU pa 6 n W hW;have HT:Hid _:=H;have f:Hid (w.cell? (J pa 778)=some (I n)/\Ec w pa 6 ⟨(l8.take (szB st.len)).toArray⟩ st.len g ng nc st.nds (rdR s).1 st.ws):=⟨by rw[hn];exact P.total,P.rows⟩;have HN:=hZ hn;have ai:Hid (∀k W,k<(rdF s).1->Aee w W->Calls prog 36 #[.pointer (some (J pa 1)),I k] W fun e w'=>e= .returned (.tuple #[I (Ib s l6 k:Nat),I (Gy s l6 k:Nat)])/\Aee W w'):=fun k W hk hW=>Tm hones pa ge k s l6 W (P.ends.kept hW id id) Y.ends hk;have aj:Hid (∀k,k<(rdF s).1->Ib s l6 k<=Gy s l6 k/\Gy s l6 k<=n):=fun k hk=>⟨Y.ends.cover.asc k hk,by rw[hn];exact kI Y.ends.cover k hk⟩;have ak:Hid (∀k q,q=(rdM s).1.getD k ⟨#[]⟩->k<(rdF s).1->q.size<=281474976710656):=fun k q h1 h2=>by
  rw[h1];have:=Nl (rdB s) (rdF s).1 k;exact Aaf this (by omega)
 clear P h A ao ap ab az H hn aa
 go_enter func14,ntmps14
 go_wp2_with fail
 go_cut[3]from 11 (fun v3 wz=> ∃b:Nat,v3=S0 b n n/\w.heap.size<=b/\Hid (wz.heap[b]?=some (.cells (Ag (G1 s l8 st)).toArray 5 (0,0))/\Aee w wz))
 case first=>
  go_region_held(fun X=>Hid (Aee w X)) (first|exact k2|exact k1|exact(Aa.refl (fun _=>False) w).drew)
   (first
    |(go_at_call 35;(refine(HT.o _ ?_).mono ?_;(exact((Aa.refl (fun _=>False) w).drew.cell aw id).trans f.o.1);rintro e w1 ⟨rfl,ax⟩;have k1:Hid (Aee w w1):=(by rw[ax];exact(Aa.refl (fun _=>False) w).drew);clear ax))
    |(go_at_call 33;(refine(O.o _ (f.o.2.kept k1.o id id id)).mono ?_;rintro e w2 ⟨rfl,aA,ay⟩;have k2:Hid (Aee w w2):=k1.o.tr ay;clear ay)))
  all_goals(go_wp2_with fail;go_meet;case rel=>exact⟨_,rfl,k1.o.size,aA,k2.o⟩)
 case rest=>
  obtain⟨b,rfl,aX,Q⟩:=hcut;have c0:wc.cell? (J pa 0)=some (S0 gn (rdF s).1 (rdF s).1):=(Q.o.2.cell (p:=(J pa 0)) aw id).trans HP.o.names;obtain⟨i0,hi,aG,aH,aJ⟩:=Aa6 Rr;obtain⟨m,hm⟩:=gx ((rdF s).1);rw[<-hm]at c0 hF;have HM:=hZ hm;rw[<-hm]at ai aj ak;clear hm O HT f;have aE:pa<wc.heap.size:=by have:=Q.o.2.size;omega
  have ar:b<wc.heap.size:=Aac Q.o.1
  go_wp2_with(at_make;refine Abv _ rfl (.tmp 25) (.tmp 25) 22 rfl wc.heap.size 38 i0 (.agg #[.string ⟨#[]⟩,.string ⟨#[]⟩]) 2 underlying22 hi aG aH .i64 .i64 _ _ m rfl rfl rfl rfl (by rw[aJ];omega) (by unfold maxLen;omega) (zK _) ?_;intro w3 av aq;have D:Aee wc w3:=(Aa.refl _ _).grown aq (fun k hk=>by cases hk);have aQ:w3.cell? (J pa 0)=some (S0 gn m m):=(D.cell (p:=(J pa 0)) aE id).trans c0)
  have Z:=Cv.made av;obtain⟨a,U⟩: ∃x,x=wc.heap.size:=⟨_,rfl⟩;rw[<-U]at Z|-;have H3:Hid (Cv w3 a (List.replicate m (⟨#[]⟩,⟨#[]⟩))/\Aee w w3/\w3.heap[b]?=some (.cells (Ag (G1 s l8 st)).toArray 5 (0,0))):=⟨Z,Q.o.2.tr D,D.row Q.o.1 id⟩;have aF:w.heap.size<=a:=by rw[U];exact Q.o.2.size
  have aW:b<a:=by omega
  clear av aq D Z Q c0 ar U
  go_loopw[32] (fun vi wr=> ∃k:Nat,k<=m/\vi=I k/\Cv wr a (Ip (Bs s l6 l8 st) m k)/\Aee w wr/\wr.heap[b]?=some (.cells (Ag (G1 s l8 st)).toArray 5 (0,0))) (fun vi _=>m-(intOf vi).toNat)
  case atStart=>exact⟨0,zZ _,rfl,by simpa[Ip]using H3.o.1,H3.o.2.1,H3.o.2.2⟩
  case round=>
   obtain⟨k,hk,rfl,d,t,ac⟩:=hrel
   by_cases u:k<m
   ·obtain⟨q,F⟩: ∃x,x=(rdM s).1.getD k ⟨#[]⟩:=⟨_,rfl⟩;have aD:(rdM s).1.length=m:=by rw[HM.o];exact Fw _ _
    have aR:wr.cell? (J gn k)=some (.string q):=by
     rw[t.cell (p:=(J gn k)) aB id,zP _ _ k _ _ _ HP.o.nblock,Aag,F];unfold F8;rw[Aah,zG,zH (show k<(rdM s).1.length by omega)];rfl
    have C:=ai.o k wr u t;have T:=aj.o k u;have A:=fun W=>Rf q W (ak.o k q F u);have y:Hid ((Bs s l6 l8 st)[k]?=some (q,⟨(Hm.part (G1 s l8 st) (Ib s l6 k) (Gy s l6 k)).toArray⟩)):=by
     show _=_;unfold Bs;rw[Aah,Abn (by rw[<-HM.o];exact u),F];rfl
    generalize Ib s l6 k=fr at C T y;generalize Gy s l6 k=M at C T y;have N:=hZ (aI d (aI t ac));have aY:(k:Int)<(m:Int):=by omega
    clear d t ac F aD;go_wp2_with fail;refine C.mono ?_;rintro e w4 ⟨rfl,E⟩;have H5:Hid (Cv w4 a (Ip (Bs s l6 l8 st) m k)/\Aee w w4/\w4.heap[b]?=some (.cells (Ag (G1 s l8 st)).toArray 5 (0,0))):=⟨N.o.1.kept E id,N.o.2.1.tr E,E.row N.o.2.2 id⟩;clear C E N;go_wp2_with fail;refine Aca (S:=fun X=>X.heap[b]?=some (.cells (Ag (G1 s l8 st)).toArray 5 (0,0))) (by kernel_rfl) H5.o.2.2 (fun hHeld=>?_)
    refine tW 0 ⟨some 45,.move (.tmp 4),22,"hoard.go:66",#[],none⟩ _ ?_
    refine tW 1 ⟨some 46,.move (.tmp 5),3,"hoard.go:66",#[],none⟩ _ ?_
    refine tW 2 ⟨some 47,.move (.tmp 6),9,"hoard.go:66",#[],none⟩ _ ?_
    refine tW 4 ⟨some 49,.move (.tmp 3),79,"hoard.go:66",#[],none⟩ _ ?_
    refine tW 5 ⟨some 50,.move (.tmp 7),3,"hoard.go:66",#[],none⟩ _ ?_
    refine tW 6 ⟨some 51,.move (.tmp 8),3,"hoard.go:66",#[],none⟩ _ ?_
    obtain⟨aT,aU⟩:=T;have aV:(fr:Int)<=(M:Int):=by omega
    have aZ:(M:Int)<=(n:Int):=by omega
    refine tK 7 ⟨some 52,.slice 79 (.tmp 49) (some (.tmp 50)) (some (.tmp 51)) none,79,"hoard.go:66",#[⟨4,.data⟩,⟨5,.data⟩,⟨6,.data⟩],none⟩ (.slice (if n = fr then some (J b 0) else some (J b fr)) (M - fr) (n - fr)) ?_ ?_
    ·intro X a9;try dsimp only at a9
     go_simp
    simp only[Act.put,zO,zW,z5];obtain⟨G,am⟩: ∃x,x=(⟨(Hm.part (G1 s l8 st) fr M).toArray⟩:ByteArray):=⟨_,rfl⟩;have f:=hZ am;clear am;have ab:(G1 s l8 st).length=n:=by rw[HN.o];exact Pk s l8 st
    have ah:Hid (∀X:World,X.heap[b]?=some (.cells (Ag (G1 s l8 st)).toArray 5 (0,0))->(convert 79 9 (.slice (if n=fr then some (J b 0)else some (J b fr)) (M-fr) (n-fr))).run prog X= .ok (.string G) X):=fun X hX=>by
     rw[f.o]
     by_cases c:n=fr
     ·rw[if_pos c,show M-fr=0 by omega];have:=Nk hX 0 0 (n-fr) (by omega);rw[this];unfold Hm.part;rw[show M-fr=0 by omega,Aed,Aed]
     ·rw[if_neg c];exact Nk hX fr (M-fr) (n-fr) (by omega)
    refine tK 8 ⟨some 53,.convert 79 9 (.tmp 52),9,"hoard.go:66",#[⟨7,.data⟩],none⟩ (.string G) (fun X hX => nJ X 79 9 (.tmp 52) rfl _ _ rfl (ah.o X hX)) ?_
    simp only[Act.put,zO,zW,z5];clear ah;refine Aaq (rs:=[3]) (by kernel_rfl) (by simp) ?_;refine Aad rfl (fun K hK=>?_) Aal;go_simp;refine(A _).mono ?_;rintro e v ⟨rfl,au⟩;have l:Aee w4 v:=(Aa.refl (fun _=>False) w4).drew.tr au;have hR:=cY (Bs s l6 l8 st) m k (by rw[HM.o];exact Gw s l6 l8 st) hk;have z:=kJ (Bs s l6 l8 st) m k (by rw[HM.o];exact Gw s l6 l8 st) u _ y.o;rw[<-f.o]at z;generalize Ip (Bs s l6 l8 st) m k=R at H5 hR z;have al:=hZ z;have r:=H5.o.1.kept l id;have q1:=r.fst (i:=k) (by omega);have q2:=r.snd (i:=k) (by omega);have a7:=r.free (k*2);have a8:=r.free (k*2+1);have H6:Hid (Cv v a R/\Aee w v/\v.heap[b]?=some (.cells (Ag (G1 s l8 st)).toArray 5 (0,0))):=⟨r,H5.o.2.1.tr l,l.row H5.o.2.2 id⟩;refine hK.o _ _ H6.o.2.2 (fun hHeld=>?_);clear hK K au l r H5 z A ab f y
    refine tW 9 ⟨some 54,.build 38 #[(0, .tmp 48), (1, .tmp 53)],38,"hoard.go:66",#[⟨3,.data⟩,⟨8,.data⟩],none⟩ _ ?_
    refine tW 10 ⟨some 55,.indexAddr 22 (.tmp 45) (.tmp 46),0,"hoard.go:66",#[⟨0,.data⟩,⟨1,.data⟩,⟨0,.phase⟩,⟨1,.phase⟩,⟨2,.phase⟩,⟨3,.phase⟩,⟨4,.phase⟩,⟨5,.phase⟩,⟨6,.phase⟩,⟨7,.phase⟩,⟨8,.phase⟩,⟨9,.phase⟩],none⟩ _ ?_
    refine Aaq (rs:=[11]) (by kernel_rfl) (by simp) ?_;refine Aad rfl (fun K hK=>?_) Aal;go_simp;have aC:b≠a:=by omega
    have V:Aa (fun j=>j=a) v ((v.setCell (J a (k*2)) (.string q)).setCell (J a (k*2+1)) (.string G)):=((Aa.refl (fun j=>j=a) v).setCell (p:=(J a (k*2))) (.inr rfl) _).setCell (p:=(J a (k*2+1))) (.inr rfl) _;have H7:Hid (Cv ((v.setCell (J a (k*2)) (.string q)).setCell (J a (k*2+1)) (.string G)) a (Ip (Bs s l6 l8 st) m (k+1))/\Aee w ((v.setCell (J a (k*2)) (.string q)).setCell (J a (k*2+1)) (.string G))/\((v.setCell (J a (k*2)) (.string q)).setCell (J a (k*2+1)) (.string G)).heap[b]?=some (.cells (Ag (G1 s l8 st)).toArray 5 (0,0))):=
     ⟨by rw[<-al.o];exact H6.o.1.put k q G (by omega),H6.o.2.1.trans V (fun j h1 h2=>by omega),V.row H6.o.2.2 aC⟩
    generalize(v.setCell (J a (k*2)) (.string q)).setCell (J a (k*2+1)) (.string G)=wz at H7|-;refine hK.o _ _ H7.o.2.2 (fun hHeld=>?_);clear hK K V H6 q1 q2 a7 a8;refine Ach (by kernel_rfl) ?_ _;go_wp2_with fail;go_roundw
    case rel=>exact⟨k+1,by omega,by go_num,H7.o.1,H7.o.2.1,H7.o.2.2⟩
    case measure=>simp[intOf];omega
   ·obtain rfl:k=m:=by omega
    have N:Hid (Cv wr a (Bs s l6 l8 st)/\Aee w wr):=⟨by rw[nK _ _ (by rw[HM.o];exact Gw s l6 l8 st)]at d;exact d,t⟩;clear d t ac;go_wp2_with fail;go_ret;exact⟨a,by rw[<-HM.o];rfl,aF,N.o.1,N.o.2⟩
def To(B:Nat)(w':World)(s:Aeg)(e:Ending):Prop:=
 (∃pa l6 L l8 st,B<=pa/\C5 s l6 L l8 st/\Dw B w' pa s l6 L l8 st/\Bu (Bs s l6 l8 st)=0/\Cy (Bs s l6 l8 st) s/\e= .returned (.tuple #[.pointer (some (J pa 0)),I 0]))\/
 ((∀l6 L l8 st,C5 s l6 L l8 st->Bu (Bs s l6 l8 st)=0-> ¬Cy (Bs s l6 l8 st) s)/\e= .returned (.tuple #[.pointer none,I 6]))
namespace Hm
theorem C5.unique{a:Aeg}{d:Aeh}{b:Aeg}{st st':Bl}(h:C5 s l6 L l8 st)(c:C5 s a d b st'):l6=a/\L=d/\l8=b/\st=st':=by
 have e:=Aak (h.names.symm.trans c.names);subst e;have f:=h.lens.symm.trans c.lens;injection f with e3 e4;injection e4 with e4;subst e3 e4;exact⟨rfl,rfl,rfl,Aak (h.tree.2.symm.trans c.tree.2)⟩
theorem gO(s l6 l8:Aeg)(st:Bl): ∀f∈Bs s l6 l8 st,f.1.size<=140737488355328/\f.2.size<=140737488355328:=by
 intro f a;obtain⟨i,hi,rfl⟩:=List.mem_map.1 a;constructor
 ·exact Aaf (Nl (rdB s) (rdF s).1 i) (by omega)
 ·show(part _ _ _).toArray.size<=_;rw[Aaa];unfold part;have h1:=Pk s l8 st;have h2:=Kk s;rw[zS,Aas];omega
end Hm
theorem kK(hones:Bc)(hLn:Ez)(s:Aeg)(w:World)(hs:s.length<=281474976710656):
  Calls prog 12 #[.string ⟨s.toArray⟩] w fun e w'=>Aee w w'/\To w.heap.size w' s e:=by
 have p:=wV hones hLn s w hs;obtain⟨S,T⟩:=gx (⟨s.toArray⟩:ByteArray);rw[<-T]at p|-;have HS:=hZ T;clear T
 go_enter func12,ntmps12
 go_wp2_with fail;refine p.mono ?_;rintro e w1 ⟨m,pa,ok,V,rfl,i⟩;rcases i.arch with⟨rfl,l6,L,l8,st,hP,hA⟩|⟨rfl,hno⟩;rotate_left
 ·clear p;have H:=hZ m;have HN:=hZ hno;clear m i hno;go_wp2_with fail;go_ret2;exact⟨H.o,.inr ⟨fun l6 L l8 st h=>absurd h (HN.o l6 L l8 st),rfl⟩⟩
 ·have q:=Tn hones w.heap.size pa s l6 L l8 st w1 hP hA;have M:=hZ (aI m (aI hP hA));have E:=Gw s l6 l8 st;have hF:=Qz s;have K:=gO s l6 l8 st;rw[<-E]at q;have u:Hid ((Bs s l6 l8 st).length<=255/\ ∀f∈Bs s l6 l8 st,f.1.size<=140737488355328/\f.2.size<=140737488355328):=⟨by omega,K⟩;have Q:Hid (∀k P l st',C5 s k P l st'->Bs s k l st'=Bs s l6 l8 st):=fun k P l st' h=>by
   obtain⟨e1,_,e3,e4⟩:=C5.unique h hP;rw[e1,e3,e4]
  generalize F:Bs s l6 l8 st=fs at q u Q;have C:=hZ F;clear m hP hA i p E hF K F;go_wp2_with fail;refine q.mono ?_;rintro e w2 ⟨Y,rfl,ag,j,z⟩;have D:Az w2 (some (J Y 0)) fs:=Cv.at (r:=[]) (by rw[Abe];exact j);have G:=Zd (some (J Y 0)) fs.length fs w2 D (fun a U=>by injection U with U;rw[<-U];exact j.lt) (by have:=u.o.1;omega) u.o.2;have N:Hid (Aee w w2/\C5 s l6 L l8 st/\Dw w.heap.size w2 pa s l6 L l8 st):=⟨M.o.1.tr z,M.o.2.1,M.o.2.2.kept z (fun _ _ _=>id) id⟩;clear D j z M q;go_wp2_with fail;refine G.mono ?_;rintro e Z ⟨W,A⟩;have B:Hid (Aee w Z/\C5 s l6 L l8 st/\Dw w.heap.size Z pa s l6 L l8 st):=⟨N.o.1.tr A,N.o.2.1,N.o.2.2.kept A (fun _ _ _=>id) id⟩;clear G N A;rcases W with⟨b,rfl⟩|⟨b,s',v,rfl⟩
  ·have HC:=hZ b;have n:=b;clear b;generalize Bu fs=c at n|-;have hd:(c==0)=false:=by simpa using n
   have af:(c !=0)=true:=by simpa using n
   clear n;go_wp2_with fail;go_ret2;exact⟨B.o.1,.inr ⟨fun k P l st' h R=>by rw[Q.o _ _ _ _ h]at R;exact absurd R HC.o,rfl⟩⟩
  ·obtain⟨X,d⟩: ∃x,x=(⟨s'.toArray⟩:ByteArray):=⟨_,rfl⟩;rw[<-d];have O:=hZ (aI b (aI v d))
   by_cases g:s'=s
   ·have y:X=S:=by rw[d,HS.o,g]
    rw[y];have t:=hZ g;clear b v d g y;go_wp2_with fail;go_ret2;refine⟨B.o.1,.inl ⟨pa,l6,L,l8,st,V,B.o.2.1,B.o.2.2,by rw[C.o];exact O.o.1,?_,rfl⟩⟩;have:=O.o.2.1;rw[t.o]at this;rw[C.o];exact this
   ·have y:(X.toList==S.toList)=false:=by
     rw[d,HS.o,Aa2,Aa2,Aat];exact g
    have t:=hZ g;clear b v d g;go_wp2_with fail;go_ret2;refine⟨B.o.1,.inr ⟨fun k P l st' h R h1=>?_,rfl⟩⟩;rw[Q.o _ _ _ _ h]at h1;exact t.o (Cy.unique (Ia O.o.1).2.2 O.o.2.1 h1)
end
namespace Hm
structure I5(fs:Aef)(s l6 l8:Aeg)(st:Bl)(ps:Aeh):Prop where
 sorted:D4 (Ac fs) ps
 few:fs.length<=40
 small:(Ac fs).length<=6000
 nF:(rdF s).1=fs.length
 nN:(rdN s).1=(Ac fs).length
 nR:(rdR s).1=Av ps
 col:Om l8 (Ac fs).length st=Am (Ac fs) ps
 samp: ∃X,l8.drop (szB st.len)=Ah (Bb ps)++X
 ends: ∀j,j<fs.length->Gy s l6 j=(Ac (fs.take (j+1))).length
 froms: ∀i,i<fs.length->Ib s l6 i=(Ac (fs.take i)).length
theorem nL(M:Bu fs=0)(hA:Cy fs s): ∃l6 L l8 st ps,C5 s l6 L l8 st/\I5 fs s l6 l8 st ps:=by
 obtain⟨hm,G,hn⟩:=Ia M;obtain⟨ps,N,e,_,hE,es⟩:=hA.is;have H:=Hj (Ac fs) hn;have D: ∀b∈Am (Ac fs) ps,b∈Af (lens (Ac fs)):=fun b hb=>(N4 _ hn b).2 (M5 e.perm b hb);have q:=(I2 e.perm).2;have A:=D8 e.perm;obtain⟨t,ht⟩:=gx (Ac fs);obtain⟨tr,g⟩:=gx (D2 (lens (Ac fs)) N (Am (Ac fs) ps));obtain⟨u,h⟩: ∃x,x=leBytes (crc (Cr fs ps tr)) 4:=⟨_,rfl⟩;have K:u.length=4:=by rw[h,Cp]
 obtain⟨F,n⟩: ∃x,x=Ah (Bb ps)++u:=⟨_,rfl⟩;obtain⟨w,k⟩: ∃x,x=Ah tr++F:=⟨_,rfl⟩;obtain⟨Q,z⟩: ∃x,x=leBytes (Aj (lens (Ac fs))).length 2++(B4 (lens (Ac fs)) (Aj (lens (Ac fs)))++w):=⟨_,rfl⟩;obtain⟨v,y⟩: ∃x,x=Ah (Bo (Aw fs) (Ac fs).length)++Q:=⟨_,rfl⟩;have hs:s=[72,79,65,82,68,49,UInt8.ofNat fs.length]++(leBytes (Ac fs).length 2++(leBytes (Av ps) 2++(nameBytes fs++v))):=by
  rw[es,<-g,y,z,k,n,h];unfold Kl Cr;simp only[Aaj]
 have d:s=Cr fs ps tr++u:=by rw[es,<-g,h];rfl
 have a:=kD fs (Ac fs).length (Av ps) v (by omega) (by omega) q (fun f hf=>(G f hf).1);simp only at a;rw[<-hs]at a;obtain⟨E,m,Z,Y⟩:=a;have O:=Dp fs;obtain⟨R,S,T⟩:=aQ (Aw fs) (Ac fs).length hn (Rt fs) Q;rw[<-y,O]at R S T;obtain⟨st,P,U,V⟩:=aP H hE D F;rw[<-g,<-k,A]at P;rw[<-g]at U;rw[<-g,<-k]at V;obtain⟨s1,s2⟩:=aO e.perm u;rw[<-n]at s1 s2;have o:w.drop (szB st.len)=F:=by rw[U,k,Ad4]
 have hP:C5 s v (lens (Ac fs)) w st:=by
  refine⟨by rw[Y],by rw[E,m];exact R,?_,by rw[m];exact P,by rw[m,o];exact s1,?_⟩
  ·rw[E,m,S,z];exact pC _ _ H.len (Tl H)
  ·rw[m,o,s2];have C:s.length-4=(Cr fs ps tr).length:=by rw[d,zL,K];omega
   have r:s.take (s.length-4)=Cr fs ps tr:=by rw[C,d,Adi]
   unfold Ph;rw[r,show B7 (some u) 4=(crc (Cr fs ps tr),some [])from by
    have:=Mu (crc (Cr fs ps tr)) 4 [] (by have:=Vt (Cr fs ps tr);omega);rwa[Abe,<-h]at this]
   exact if_pos ⟨rfl,rfl⟩
 refine⟨v,lens (Ac fs),w,st,ps,hP,?_⟩;have B:Om w (Ac fs).length st=Am (Ac fs) ps:=by
  obtain⟨W,X,_⟩:=J4 P;exact X.unique V (by rw[W,A])
 have l: ∀j,j<fs.length->Gy s v j=(Ac (fs.take (j+1))).length:=fun j hj=>by
  unfold Gy;rw[E,m,T j (by omega),Hr fs j hj]
 have p: ∀i,i<fs.length->Ib s v i=(Ac (fs.take i)).length:=fun i hi=>by
  show(if i=0 then 0 else _)=_
  by_cases c:i=0
  ·rw[if_pos c,c];rfl
  ·rw[if_neg c];have:=l (i-1) (by omega);rw[show i-1+1=i from by omega]at this;exact this
 exact⟨e,hm,hn,E,m,Z,B,⟨u,by rw[o,n]⟩,l,p⟩
theorem rK{st:Bl}(e:Bu fs=0)(hA:Cy fs s)(hP:C5 s l6 L l8 st): ∃ps,I5 fs s l6 l8 st ps:=by
 obtain⟨a,b,c,d,ps,h,f⟩:=nL e hA;obtain⟨rfl,_,rfl,rfl⟩:=C5.unique h hP;exact⟨ps,f⟩
theorem On{t:Aeg}{ps ws:Aeh}(h:D4 t ps)(g:Er ws (Am t ps))(row q:Nat)(f:row<ps.length)(e:ps[row]=q)(m:q<=t.length): ∀k,k<=q->(Bh (Bw (Am t ps) ws (Av ps)) row k).1=part t (q-k) q/\ ∃d:(Bh (Bw (Am t ps) ws (Av ps)) row k).2<ps.length,ps[(Bh (Bw (Am t ps) ws (Av ps)) row k).2]=q-k
 |0,_=>by
  refine⟨?_,f,e⟩;unfold part;rw[Adj,Abd];rfl
 |k+1,hk=>by
  obtain⟨h1,d,h2⟩:=On h g row q f e m k (by omega);obtain⟨j,a,c⟩:=O6 h (q-(k+1)) (by omega);have l:=Rq h g _ j (q-(k+1)) d a (by rw[h2];omega) c;have i:Bh (Bw (Am t ps) ws (Av ps)) row (k+1)=(t.getD (q-(k+1)) 0::(Bh (Bw (Am t ps) ws (Av ps)) row k).1,j):=by
   rw[Bh,l]
  rw[i];refine⟨?_,a,c⟩;show _::_=_;rw[h1];unfold part;have b:q-(k+1)<t.length:=by omega
  rw[Aan b,zG,zH b,show q-(k+1)+1=q-k from by omega,show q-(q-(k+1))=k+1 from by omega,show q-(q-k)=k from by omega,Adw];rfl
end Hm
namespace Hm
theorem cZ{st:Bl}(h:Fj l n L st):
  ∃col:Aeg,col.length=n/\Qa 32 (lnB L) (Bq L) (Af L) (l.take (szB st.len)) st.nds col/\Er st.ws col:=by
 obtain⟨b,k⟩:=h;obtain⟨x,s⟩:=Qv b;have g:=s.nodes;have d:=Lq k;have a:=Ov g b.nodup rfl (zK _) k;have u:=Lc k;have f:=g.like d.1;have e:=d.1.1.symm
 replace a:Mc (Al (l.take (szB (Fv l n L)))) n (Ek L).length st:=a
 rw[e]at a;obtain⟨col,o,q,i,r⟩:=Y1 a rfl f b.numk b.num_lt b.pos;have y:Fv l n L<=8*l.length:=Nat.min_le_left _ _;have w:st.len<=8*szB st.len:=by unfold szB;omega
 have m:(l.take (szB st.len)).length=szB st.len:=by rw[zS];unfold szB;omega
 have fits: ∀j,j<st.nds.length->(Ab st.nds j).frm+(Ab st.nds j).siz<=st.len:=fun j c=>by
  rw[i.frm j c,a.len];exact Qy st.nds (show j+1<=st.nds.length by omega)
 refine⟨col,o,⟨⟨i.siz,i.frm,fun j p c v=>?_⟩,f,b.numk,q,b.pos,b.num_lt,fun j c=>?_⟩,a.wl,r⟩
 ·have t:=fits j c;rw[<-i.bit j p c v,J0 l _ _ (by omega),J0 l _ _ (by unfold szB;omega)]
 ·rw[m];have t:=fits j c;omega
theorem wW{st:Bl}(h:Fj l n L st):Qa 32 (lnB L) (Bq L) (Af L) (l.take (szB st.len)) st.nds (Om l n st):=by
 obtain⟨col,b,a,_⟩:=cZ h;obtain⟨c,d,_⟩:=J4 h;have e:Om l n st=col:=d.unique ⟨_,_,_,_,a⟩ (by rw[c,b]);rw[e];exact a
section
variable {M:Nat} {ln num:UInt8->Nat} {o:Aeg} {nds:List Nd} {f:Nat->Bool} {col:Aeg}
structure Od(ln num:UInt8->Nat)(nds:List Nd)(col:Aeg)(b:UInt8)(a d n q:Nat):Prop where
 lt:n<nds.length
 dep:(Ab nds n).depth=d
 und:Ee ln num (Ab nds n) b=true
 cnt:q=(Aq ln num nds (col.take a) n).length
theorem Od.start(h:Bn M ln o nds)(g: ∀b∈col,b∈o)(d: ∀b∈o,0<ln b)(c: ∀b∈o,num b<2^ln b){b:UInt8}(hb:b∈o){a:Nat}(i:a<=col.length):Od ln num nds col b a 0 0 a:=by
 have f: ∀x∈o,Ee ln num (Ab nds 0) x=true:=fun x e=>zJ ⟨by rw[h.root.1];exact d x e,by rw[h.root.1,h.root.2,Adj];exact Nat.div_eq_of_lt (c x e)⟩;refine⟨h.more,h.root.1,f b hb,?_⟩;unfold Aq;rw[List.filter_eq_self.2 fun x e=>f x (g x (Ads e)),zS];omega
theorem uM(p:UInt8->Bool)(col:Aeg)(a:Nat):(col.filter p).take ((col.take a).filter p).length=(col.take a).filter p:=by
 rw[<-Acf];exact Ps p col a
theorem Od.le{b:UInt8}{a d q:Nat}(g:Od ln num nds col b a d n q)(c:Rep ln num f nds col):q<=(Ab nds n).siz:=by
 rw[c.siz n g.lt,g.cnt];exact((List.take_sublist a col).filter _).length_le
theorem Od.step(B:Rep ln num f nds col)(h:Bn M ln o nds)(hk:Hw M ln num o)(F: ∀b∈col,b∈o){b:UInt8}(hb:b∈o){a d n q:Nat}(g:Od ln num nds col b a d n q):
  (((Ab nds n).br (As ln num d b)={whole:=true,val:=b}/\d+1=ln b/\Gh f nds n (As ln num d b) q=(col.take a).count b)\/
    ∃m,(Ab nds n).br (As ln num d b)={node:=m}/\d+1<ln b/\Od ln num nds col b a (d+1) m (Gh f nds n (As ln num d b) q)):=by
 have l: ∀x∈col.take a,x∈o:=fun x w=>F x (Ads w);have r:=Fq ln num d b;have j:=B.ahead g.lt (g.le B) r;rw[g.dep]at j;have k:(Aq ln num nds col n).take q=Aq ln num nds (col.take a) n:=by
  rw[g.cnt];exact uM _ col a
 rw[k]at j;obtain⟨u,e⟩:=gx (As ln num d b);rw[<-e]at r j|-;have c:u=As ln num (Ab nds n).depth b:=by rw[g.dep];exact e
 cases h.good n u g.lt r with
 |leaf kk p e1 e2 e3=>
  have v:b=o.getD kk 0:=Ju hk hb g.und p e2 (by rw[<-c];exact e3);refine .inl ⟨by rw[v];exact e1,by rw[v,e2,g.dep],?_⟩;have C:(col.take a).count b=(Aq ln num nds (col.take a) n).count b:=by
   unfold Aq;rw[List.count_filter g.und]
  rw[j,C,List.count];refine List.countP_congr fun x w=>?_;obtain⟨t,z⟩:=List.mem_filter.1 w;constructor
  ·intro y;have i:As ln num (Ab nds n).depth x=u:=by rw[g.dep];simpa using y
   have:=Ju hk (l _ t) z p e2 (by rw[i];exact e3);rw[this,v];exact Acr _
  ·intro y;have i:x=b:=by simpa using y
   rw[i,e];exact Acr _
 |node m e1 t z q3 q4=>
  have E:=h.col_child hk l g.lt r (by omega) e1;have A:=h.col_child (col:=[b]) hk (by simpa using hb) g.lt r (by omega) e1;have s:Ee ln num (Ab nds m) b=true:=by
   have D:Aq ln num nds [b] n=[b]:=Aeb g.und;rw[D,Aeb (by rw[<-c];exact Acr _)]at A;have G:b∈Aq ln num nds [b] m:=by rw[A];exact Aab ..
   exact(List.mem_filter.1 G).2
  refine .inr ⟨m,e1,?_,z,by rw[q3,g.dep],s,?_⟩
  ·have:=(Aay s).1;rw[q3,g.dep]at this;exact this
  ·rw[E,j,Acf,g.dep]
 |none e1 t=>
  exact(Jv hk hb g.und (by rw[<-c];exact t)).elim
end
end Hm
section
open Go.RowKit
theorem uN(hones:Bc)(pb o len g ng nc a V cl:Nat)(b:UInt8)(s:ByteArray)(nds:List Nd)(col:Aeg)(L:Aeh)(w:World)(h:Hc w pb o s len g ng nc nds)(hC:Bz L)(ht:Qa 32 (lnB L) (Bq L) (Af L) s.data.toList nds col)(ha:a<=col.length)(hs:s.size<=1000000)(aJ:col.length<=1000000)
  (t0:w.cell? ⟨pb,o+3+b.toNat*2,none⟩=some (.int .u64 V)) (t1:w.cell? ⟨pb,o+3+b.toNat*2+1,none⟩=some (.int .i64 cl)) (C:V=Bq L b) (f:cl=(Kh L b).2):
  Calls prog 184 #[.pointer (some ⟨pb,o,none⟩),.int .u8 b.toNat,.int .i64 a] w fun e w'=>e= .returned (.int .i64 (((col.take a).count b:Nat):Nat))/\Aee w w':=by
 have ay:=b.toNat_lt;obtain⟨bn,N⟩:=gx b.toNat;rw[<-N]at t0 t1 ay|-;have aH:(bn:Int)<256:=by omega
 have aC:=hZ N;clear N
 by_cases v:b∈Af L
 rotate_left
 ·rw[eI L b v]at f;have B:cl=0:=f;have hz:(col.take a).count b=0:=List.count_eq_zero.2 fun hm=>v (ht.mem b (Ads hm));rw[hz];subst B;clear h ht C f
  go_enter func184,ntmps184
  go_wp2_with fail;go_ret;exact⟨rfl,(Aa.refl _ _).alloc _⟩
 ·have G:cl=lnB L b:=by rw[f];exact Tc L (fun x=>hC.le255 x) b
  have ag:=ht.pos b v;have X:=hC.short b;have af:=ht.num b v;have a4:s.data.toList.length=s.size:=by simp
  have ac:=Od.start ht.shp ht.mem ht.pos ht.num v ha;have S:=fun d n q (x:Od (lnB L) (Bq L) nds col b a d n q)=>x.step ht.rep ht.shp ht.numk ht.mem v;have ae:=fun d n q (x:Od (lnB L) (Bq L) nds col b a d n q)=>x.le ht.rep;have Z:=fun d (hd:d<cl) W=>X4 V cl d W (by rw[C];exact Aa9 af (Abk (by omega) X)) (by omega) hd;have an:Hid (∀d,d<cl-> ∀W,Calls prog 151 #[.agg #[.int .u64 V,I cl],I d] W fun e w'=>e= .returned (I ((As (lnB L) (Bq L) d b:Nat):Int))/\Aee W w'):=fun d hd W=>by
   have:=Z d hd W;rw[C,G]at this;rw[C,G];exact this
  have a0:cl<=32:=by omega
  have B:0<cl:=by omega
  obtain⟨R,hR⟩:=gx ((col.take a).count b);rw[<-G,<-hR]at S;rw[<-hR];have au:Hid _:=S;have aq:Hid _:=ae;have HT:=hZ ht;have HH:=hZ h;have ap:=hZ ac;have a9:(cl:Int)<=32:=by omega
  have aA:((cl:Int)==0)=false:=by rw[Aat];omega
  clear h ht S ae ac Z G C f hR ag X af
  go_enter func184,ntmps184
  go_wp2_with fail
  go_loopw[2,9,21] (fun v2 _ a7 wr=> ∃(br:Br) (d q:Nat),v2=I q/\a7=I d/\wr.heap[w.heap.size]?=some (.cells #[.int .u64 V,I cl] 90 (0,0))/\wr.heap[w.heap.size+1]?=some (.cells (Fu br).toArray 192 (0,0))/\Aee w wr/\((d<cl/\br.whole=false/\Od (lnB L) (Bq L) nds col b a d br.node q)\/(d=cl/\q=R))) (fun _ _ vi _=>cl-(intOf vi).toNat)
  case atStart=>exact⟨{},0,a,rfl,rfl,Ab2 w _ _,Ab3 w _ _,((Aa.refl _ _).alloc _).alloc _,.inl ⟨B,rfl,ap.o⟩⟩
  case round=>
   obtain⟨br,d,q,rfl,rfl,A,t,E,O⟩:=hrel;rcases O with⟨aa,az,k⟩|⟨rfl,rfl⟩
   ·have a1:(d:Int)<(cl:Int):=by omega
    have aK:=zJ aa;obtain⟨bw,U,c⟩:=br;obtain rfl:bw=false:=az
    replace k:Od (lnB L) (Bq L) nds col b a d c q:=k
    have Q:=au.o d c q k;have hq:=aq.o d c q k;have D:=HT.o.fits c k.lt;have aN:q<=1000000:=by
     have h3:=HT.o.rep.siz c k.lt;have h4:=Nt (lnB L) (Bq L) nds col c;omega
    rw[a4]at D;obtain⟨u,hu⟩:=gx (As (lnB L) (Bq L) d b);have a6:u<2:=by rw[hu];exact Fq _ _ _ _
    have z:=an.o d aa;rw[<-hu]at Q z;have i:=Zv hones pb o len g ng nc s nds ⟨false,U,c⟩ u q
    replace i: ∀W,Hc W pb o s len g ng nc nds->_:=fun W Y=>i W Y k.lt a6 (by show(Ab nds c).frm+q<=_;omega) hs HT.o.shp.few
    have M:=hZ E;have HR:=hZ (aI A t);have e0:=cO 0 A;have e1:=cO 1 A;have c0:=cO 0 t;have c1:=cO 1 t;have c2:=cO 2 t;have aw:Hid (Hc wr pb o s len g ng nc nds):=HH.o.kept E id id id;obtain⟨r,y,l,q',H,K⟩: ∃(r:Bool) (y:UInt8) (l q':Nat),(∀W,Hc W pb o s len g ng nc nds->Calls prog 124 #[.pointer (some (J pb o)),.agg #[.bool false,.int .u8 U.toNat,I c],I u,I q] W fun e w'=>e= .returned (.tuple #[.agg #[.bool r,.int .u8 y.toNat,I l],I q'])/\Aee W w')/\
      ((d+1<cl/\r=false/\Od (lnB L) (Bq L) nds col b a (d+1) l q')\/(d+1=cl/\q'=R)):=by
     rcases Q with⟨x1,x2,x3⟩|⟨m,x1,x2,x3⟩
     ·refine⟨true,b,0,R,fun W Y=>?_,.inr ⟨x2,rfl⟩⟩;have hf:=i W Y;rw[x1,show Gh (Al s.data.toList) nds (Br.mk false U c).node u q=R from x3]at hf;exact hf
     ·refine⟨false,0,m,_,fun W Y=>?_,.inl ⟨x2,rfl,x3⟩⟩;have hf:=i W Y;rw[x1]at hf;exact hf
    have ao:Hid _:=H;have am:Hid _:=z;have ar:Hid _:=K;clear A t E k Q hq D hu z i H K;go_wp2_with fail
    go_region_with (first
     |(go_at_call 151;(refine(am.o _).mono ?_;rintro e w6 ⟨rfl,P⟩;have k6:Hid (Aee wr w6):=(Aa.refl (fun _=>False) wr).drew.tr P;have r6:=P.row HR.o.2 id;have c3:w6.cell? (J (w.heap.size+1) 0)=some (.bool false):=zP _ _ 0 _ _ _ r6;have c4:w6.cell? (J (w.heap.size+1) 1)=some (.int .u8 U.toNat):=zP _ _ 1 _ _ _ r6;have c5:w6.cell? (J (w.heap.size+1) 2)=some (I c):=zP _ _ 2 _ _ _ r6;clear r6 P))
     |(go_at_call 124;(refine(ao.o _ (aw.o.kept k6.o id id id)).mono ?_;rintro e F ⟨rfl,ad⟩;have k7:Hid (Aee wr F):=k6.o.tr ad;have T:=k7.o.row HR.o.2 id;have f0:F.frozen? (J (w.heap.size+1) 0)=false:=zR _ _ 0 _ _ T;have f1:F.frozen? (J (w.heap.size+1) 1)=false:=zR _ _ 1 _ _ T;have f2:F.frozen? (J (w.heap.size+1) 2)=false:=zR _ _ 2 _ _ T;have d0:F.cell? (J (w.heap.size+1) 0)=some (.bool false):=zP _ _ 0 _ _ _ T;have d1:F.cell? (J (w.heap.size+1) 1)=some (.int .u8 U.toNat):=zP _ _ 1 _ _ _ T;have d2:F.cell? (J (w.heap.size+1) 2)=some (I c):=zP _ _ 2 _ _ _ T;clear T ad)))
    all_goals(
     go_wp2_with fail;go_roundw
     case rel=>
      have a3:Aa (fun j=>j=w.heap.size+1) F (((F.setCell (J (w.heap.size+1) 0) (.bool r)).setCell (J (w.heap.size+1) 1) (.int .u8 y.toNat)).setCell (J (w.heap.size+1) 2) (I l)):=(((Aa.refl (fun j=>j=w.heap.size+1) F).setCell (p:=(J (w.heap.size+1) 0)) (.inr rfl) _).setCell (p:=(J (w.heap.size+1) 1)) (.inr rfl) _).setCell (p:=(J (w.heap.size+1) 2)) (.inr rfl) _;have a2:=M.o.tr k7.o;exact⟨⟨r,y,l⟩,d+1,q',rfl,by go_num,a3.row (k7.o.row HR.o.1 id) (by omega),zI _ _ 2 _ _ (I l) (zI _ _ 1 _ _ (.int .u8 y.toNat) (zI _ _ 0 _ _ (.bool r) (k7.o.row HR.o.2 id))),((a2.setCell (p:=(J (w.heap.size+1) 0)) (.inl (Nat.le_succ _)) _).setCell (p:=(J (w.heap.size+1) 1)) (.inl (Nat.le_succ _)) _).setCell (p:=(J (w.heap.size+1) 2)) (.inl (Nat.le_succ _)) _,ar.o⟩
     case measure=>simp[intOf];omega)
   ·have a1: ¬(d:Int)<(d:Int):=by omega
    have M:=hZ E;clear A t E;go_wp2_with fail;go_ret;exact⟨rfl,M.o⟩
namespace Hm
def bnd(col:Aeg)(ws:Aeh)(root:Nat)(b:UInt8)(r:Nat):Nat:=Cu ws b.toNat+(col.take (B5 root r)).count b
end Hm
theorem rL(pb o len g ng nc root d f:Nat)(b:UInt8)(s:ByteArray)(nds:List Nd)(ws:Aeh)(col:Aeg)(w:World)(h:Ec w pb o s len g ng nc nds root ws)(V:root<=col.length)(h1:d<=col.length+1)(h2:f<=col.length+1)(R:col.length<=100000)(v: ∀b,b<256->Cu ws b<=1000000000)
  (ahead: ∀W a,Aee w W->a<=col.length->Calls prog 184 #[.pointer (some ⟨pb,o,none⟩),.int .u8 b.toNat,.int .i64 a] W fun e w'=>e= .returned (.int .i64 (((col.take a).count b:Nat):Nat))/\Aee W w'):
  Calls prog 160 #[.pointer (some ⟨pb,o,none⟩),.int .u8 b.toNat,.int .i64 d,.int .i64 f] w fun e w'=>e= .returned (.tuple #[.int .i64 (bnd col ws root b d:Nat),.int .i64 (bnd col ws root b f:Nat)])/\Aee w w':=by
 have q:=b.toNat_lt;have S:=v b.toNat q;have T:=h.firsts b.toNat q;have C:pb<w.heap.size:=z9 _ _ h.root;have F: ∀r,r<=col.length+1->B5 root r<=col.length:=fun r U=>by unfold B5;split<;>omega
 have c: ∀r,(col.take (B5 root r)).count b<=100000:=fun r=>Aaf List.count_le_length (by rw[zS];omega);have B:Hid (∀W r,Aee w W->r<=col.length+1->Calls prog 80 #[.pointer (some ⟨pb,o,none⟩),.int .i64 r] W fun e w'=>e= .returned (.int .i64 (B5 root r:Nat))/\w'=W):=fun W r hk U=>Sm pb o root r W ((hk.cell (p:=⟨pb,o+773,none⟩) C id).trans h.root) (by omega);have t:=fun W hk=>B.o W d hk h1;have u:=fun W hk=>B.o W f hk h2;have m:=fun W hk=>ahead W (B5 root d) hk (F d h1);have n:=fun W hk=>ahead W (B5 root f) hk (F f h2);have n1:=c d;have n2:=c f;unfold bnd;generalize(col.take (B5 root d)).count b=H at*;generalize(col.take (B5 root f)).count b=K at*;generalize B5 root d=x1 at*;generalize B5 root f=x2 at*;generalize Cu ws b.toNat=A at*;generalize b.toNat=P at*;have Q:(P:Int)<256:=by omega
 have D:IntKind.i64.wrap ((A:Int)+(H:Int))=((A+H:Nat):Int):=by rw[Aar];omega
 have E:IntKind.i64.wrap ((A:Int)+(K:Int))=((A+K:Nat):Int):=by rw[Aar];omega
 have N:Hid _:=t;have O:Hid _:=u;have L:Hid _:=m;have M:Hid _:=n;clear t u m n B F c ahead h v h1 h2
 go_enter func160,ntmps160
 go_wp2_with fail
 go_region_held(fun X=>Hid (Aee w X)) (first|exact G|exact z|exact l|exact k|exact(Aa.refl (fun _=>False) w).drew)
  (first
   |(go_at_call_of 80 (Value.int .i64 (d:Int));(refine(N.o _ (by first|exact l.o|exact k.o|exact(Aa.refl (fun _=>False) w).drew)).mono ?_;rintro e Y ⟨rfl,x⟩;have k:Hid (Aee w Y):=(by rw[x];first|exact l.o|exact k.o|exact(Aa.refl (fun _=>False) w).drew);clear x))
   |(go_at_call_of 80 (Value.int .i64 (f:Int));(refine(O.o _ (by first|exact l.o|exact k.o|exact(Aa.refl (fun _=>False) w).drew)).mono ?_;rintro e Z ⟨rfl,y⟩;have z:Hid (Aee w Z):=(by rw[y];first|exact l.o|exact k.o|exact(Aa.refl (fun _=>False) w).drew);clear y))
   |(go_at_call_of 184 (Value.int .i64 (x1:Int));(refine(L.o _ (by first|exact z.o|exact k.o)).mono ?_;rintro e w2 ⟨rfl,i⟩;have l:Hid (Aee w w2):=(by first|exact z.o.tr i|exact k.o.tr i);clear i))
   |(go_at_call_of 184 (Value.int .i64 (x2:Int));(refine(M.o _ (by first|exact z.o|exact l.o)).mono ?_;rintro e w4 ⟨rfl,j⟩;have G:Hid (Aee w w4):=(by first|exact z.o.tr j|exact l.o.tr j);clear j)))
 all_goals(
  go_wp2_with fail;go_ret2;exact⟨by first|rfl|(rw[D,E];rfl)|go_num,G.o⟩)
end
namespace Hm
def Pm(t:Aeg)(b:UInt8)(p:Nat):Bool:=decide (0<p)&&(t.getD (p-1) 0==b)
theorem R9(t:Aeg)(b:UInt8)(a:Aeh):(Am t a).count b=a.countP (Pm t b):=by
 unfold Am;rw[List.count,List.countP_map,List.countP_filter];refine List.countP_congr fun p _=>?_;unfold Pm;simp only[Function.comp,Bool.and_eq_true,decide_eq_true_eq];exact And.comm
theorem Sp(h:ps.Perm (List.range (t.length+1)))(r:Nat)(b:r<=ps.length):(Am t ps).take (B5 (Av ps) r)=Am t (ps.take r):=by
 rcases Nat.lt_or_eq_of_le b with h1|h1
 ·exact Pi h r h1
 ·have e:ps.length=t.length+1:=by have:=h.length_eq;simpa using this
  have a:=(I2 h).2;have d:=D8 h;have c:B5 (Av ps) r=t.length:=by unfold B5;rw[iP];omega
  rw[c,Aap (by omega),h1,Aaw]
theorem uO(h:ps.Perm (List.range (t.length+1)))(b:UInt8)(r:Nat)(a:r<=ps.length):bnd (Am t ps) ws (Av ps) b r=Cu ws b.toNat+(ps.take r).countP (Pm t b):=by
 unfold bnd;rw[Sp h r a,R9]
theorem J5(g:Nat->Bool)(l:Aeh){i j:Nat}(h:i<=j):(l.take i).countP g<=(l.take j).countP g:=by
 have:l.take i=(l.take j).take i:=by rw[List.take_take,Ab8 h]
 rw[this];exact(List.take_sublist i (l.take j)).countP_le
theorem V9(g:Nat->Bool)(l:Aeh)(c:Nat): ∀n,n<=l.length->c<(l.take n).countP g-> ∃j,∃b:j<l.length,j<n/\g l[j]=true/\(l.take j).countP g=c
 |0,_,h=>by simp at h
 |n+1,hn,h=>by
  by_cases d:c<(l.take n).countP g
  ·obtain⟨j,b,h1,h2⟩:=V9 g l c n (by omega) d;exact⟨j,b,by omega,h2⟩
  ·rw[zQ (by omega),Ab0,Abi,Adm]at h;cases a:g l[n]with
   |false=>rw[a]at h;simp at h;omega
   |true=>
    rw[a,if_pos rfl]at h;exact⟨n,by omega,by omega,a,by omega⟩
structure G2(t:Aeg)(ps:Aeh)(u:Aeg)(lo hi:Nat):Prop where
 le:lo<=hi
 in':hi<=ps.length
 iff: ∀i,(h:i<ps.length)->((lo<=i/\i<hi)↔u<+:t.drop ps[i])
theorem G2.start:G2 t ps [] 0 ps.length:=
 ⟨zZ _,zK _,fun _ h=>⟨fun _=>List.nil_prefix,fun _=>⟨zZ _,h⟩⟩⟩
theorem eV(h:D4 t ps)(f:Er ws (Am t ps))(i j q:Nat)(hi:i<ps.length)(e:j<ps.length)(c:ps[i]=q+1)(d:ps[j]=q):j=Cu ws (t.getD q 0).toNat+(ps.take i).countP (Pm t (t.getD q 0)):=by
 have a:=Rq h f i j q hi e c d;have b:i≠Av ps:=fun x=>by have:=(Ob h.perm i hi).2 x;omega
 unfold Bw at a;rw[if_neg b]at a;obtain⟨a1,a2⟩:=Prod.mk.inj a;rw[a1,Sp h.perm i (by omega),R9]at a2;exact a2.symm
theorem G2.step{p:Aeg}(h:D4 t ps)(B:Er ws (Am t ps))(b:UInt8)(g:G2 t ps p lo hi):G2 t ps (b::p) (bnd (Am t ps) ws (Av ps) b lo) (bnd (Am t ps) ws (Av ps) b hi):=by
 have O:ps.length=t.length+1:=by have:=h.perm.length_eq;simpa using this
 have K:=D8 h.perm;rw[uO h.perm b lo (Aaf g.le g.in'),uO h.perm b hi g.in'];refine⟨Nat.add_le_add_left (J5 _ _ g.le) _,?_,fun i s=>?_⟩
 ·have h1:(ps.take hi).countP (Pm t b)<=(Am t ps).count b:=by
   rw[R9];exact(List.take_sublist hi ps).countP_le
  have h2:=B.first b.toNat (by have:=b.toNat_lt;omega);have M:(Am t ps).countP (fun x=>decide (x.toNat<b.toNat))+(Am t ps).count b<=(Am t ps).length:=by
   generalize Am t ps=l;induction l with
   |nil=>simp
   |cons x r ih=>
    rw[Abi,List.count_cons,Aau]
    by_cases e:x=b
    ·subst e;simp;omega
    ·have:(x==b)=false:=by simpa using e
     rw[this];split<;>simp<;>omega
  omega
 ·constructor
  ·rintro⟨h1,h2⟩;obtain⟨j,d,w,n,N⟩:=V9 (Pm t b) ps (i-Cu ws b.toNat) hi g.in' (by omega);have y:lo<=j:=by
    rcases Abf j lo with c|c
    ·have:=J5 (Pm t b) ps (show j+1<=lo from c);rw[zQ d,Ab0,Abi,Adm,n,if_pos rfl]at this;omega
    ·exact c
   have k:=(g.iff j d).1 ⟨y,w⟩;unfold Pm at n;obtain⟨D,m⟩:=Bool.and_eq_true_iff.1 n;have D:0<ps[j]:=Aay D;have m:t.getD (ps[j]-1) 0=b:=by simpa using m
   have E:ps[j]<=t.length:=by have:=h.perm.subset (z6 d);have:=List.mem_range.1 this;omega
   obtain⟨F,u,C⟩:=O6 h (ps[j]-1) (by omega);have f:=eV h B j F (ps[j]-1) d u (by omega) C;rw[m]at f;have v:F=i:=by omega
   subst v;have a:ps[j]-1<t.length:=by omega
   rw[C,Aan a];rw[zG,zH a]at m;have H:t[ps[j]-1]=b:=m;rw[H,show ps[j]-1+1=ps[j]from by omega];exact List.cons_prefix_cons.2 ⟨rfl,k⟩
  ·intro k;have a:ps[i]<t.length:=by
    rcases Abf ps[i] t.length with c|c
    ·exact c
    ·rw[Adh c]at k;have:=k.length_le;simp at this
   rw[Aan a]at k;obtain⟨G,A⟩:=List.cons_prefix_cons.1 k;obtain⟨j,d,q⟩:=O6 h (ps[i]+1) (by omega);have o:=(g.iff j d).2 (by rw[q];exact A);have f:=eV h B j i ps[i] d s q rfl;have hb:t.getD ps[i] 0=b:=by rw[zG,zH a];exact G.symm
   rw[hb]at f;have L:=J5 (Pm t b) ps o.1;have z:=J5 (Pm t b) ps (show j+1<=hi from o.2);have n:Pm t b ps[j]=true:=by
    unfold Pm;rw[q,Acn,hb];simp
   rw[zQ d,Ab0,Abi,Adm,n,if_pos rfl]at z;omega
theorem G2.none{v u:Aeg}(h:D4 t ps)(f:G2 t ps u lo hi)(n:hi<=lo):G2 t ps (v++u) lo hi:=by
 refine⟨f.le,f.in',fun i e=>⟨fun⟨a,b⟩=>by omega,fun m=>?_⟩⟩;exfalso;obtain⟨z,g⟩:=m;have d:ps[i]+v.length<=t.length:=by
  have:=congrArg List.length g;rw[zL,zL,Aas]at this;rcases Abf t.length ps[i]with c|c
  ·have:=h.perm.subset (z6 e);have:=List.mem_range.1 this;omega
  ·omega
 obtain⟨j,l,k⟩:=O6 h (ps[i]+v.length) d;have:=(f.iff j l).2 (by
  rw[k,<-List.drop_drop,<-g,Aaj,Ad4];exact List.prefix_append _ _)
 omega
end Hm
section
open Go.RowKit
theorem wX(pb o:Nat)(P:Aeg)(t:Aeg)(ps ws:Aeh)(w:World)(l:D4 t ps)(L:Er ws (Am t ps))(hn:t.length<=6000)(hP:P.length<=281474976710656)
  (a: ∀W b H K,Aee w W->H<=ps.length->K<=ps.length->Calls prog 160 #[.pointer (some ⟨pb,o,none⟩),.int .u8 b.toNat,.int .i64 H,.int .i64 K] W fun e w'=>e= .returned (.tuple #[.int .i64 (bnd (Am t ps) ws (Av ps) b H:Nat),.int .i64 (bnd (Am t ps) ws (Av ps) b K:Nat)])/\Aee W w'):
  Calls prog 159 #[.func (.func 160) #[.pointer (some ⟨pb,o,none⟩)] #[],.int .i64 ps.length,.string ⟨P.toArray⟩] w fun e w'=>(∃lo hi:Nat,e= .returned (.tuple #[.int .i64 lo,.int .i64 hi])/\G2 t ps P lo hi)/\Aee w w':=by
 obtain⟨S,y⟩:=gx (⟨P.toArray⟩:ByteArray);have Q:S.size=P.length:=by rw[y];show P.toArray.size=_;simp
 have m:S.data.toList=P:=by rw[y]
 rw[<-y];have F:ps.length=t.length+1:=by have:=l.perm.length_eq;simpa using this
 have M:Hid _:=a;have h:=hZ (aI l L);obtain⟨N,B⟩:=gx ps.length;rw[<-B];have O:N<=6001:=by omega
 have x:=hZ B;have A:=hZ m;clear a l L y m F B
 go_enter func159,ntmps159
 go_wp2_with fail
 go_loopw[6,7,8] (fun V X vi wr=> ∃k lo hi:Nat,k<=P.length/\vi=I ((k:Int)-1)/\V=I lo/\X=I hi/\hi<=N/\lo<=hi/\Hid (G2 t ps (P.drop k) lo hi)/\Aee w wr) (fun _ _ vi _=>(intOf vi+1).toNat)
 case atStart=>exact⟨P.length,0,N,zK _,rfl,rfl,rfl,zK _,zZ _,by rw[Ab7,x.o];exact G2.start,Aa.refl _ _⟩
 case round=>
  obtain⟨k,lo,hi,hk,rfl,rfl,rfl,R,U,g,d⟩:=hrel;have f:=hZ d;cases k with
  |zero=>
   have G:((0:Nat):Int)-1= -1:=rfl;rw[G];clear d;go_wp2_with fail;go_ret2;exact⟨⟨lo,hi,rfl,by have:=g.o;rwa[Ad3]at this⟩,f.o⟩
  |succ j=>
   have G:((j+1:Nat):Int)-1=(j:Int):=by omega
   rw[G]
   by_cases s:lo<hi
   ·have u:(lo:Int)<(hi:Int):=by omega
    have hd:=zJ s;have E:j<S.size:=by omega
    have T:(j:Int)<(S.size:Int):=by omega
    have q:j<P.length:=by omega
    have i:=M.o wr P[j] lo hi d (by have:=x.o;omega) (by have:=x.o;omega);have c:Hid (G2 t ps (P.drop j) (bnd (Am t ps) ws (Av ps) P[j] lo) (bnd (Am t ps) ws (Av ps) P[j] hi)):=by
     have:=g.o.step h.o.1 h.o.2 P[j];rwa[<-Aan q]at this
    have n:S[j]=P[j]:=by
     have e:S.data.toList[j]?=P[j]?:=by rw[A.o]
     rw[zH q,Array.getElem?_toList,Ab6 (show j<S.data.size from E)]at e;exact Aak e
    rw[<-n]at i c;have p:=c.o.in';have C:=c.o.le;rw[<-x.o]at p;generalize bnd (Am t ps) ws (Av ps) S[j] lo=lo2 at*;generalize bnd (Am t ps) ws (Av ps) S[j] hi=D at*;clear d n;go_wp2_with fail;refine i.mono ?_;rintro e w2 ⟨rfl,r⟩;have z:=hZ (f.o.tr r);clear i r;go_wp2_with fail;go_roundw
    case rel=>exact⟨j,lo2,D,by omega,rfl,rfl,rfl,p,C,c,z.o⟩
    case measure=>simp[intOf]
   ·have u: ¬(lo:Int)<(hi:Int):=by omega
    have hd:=zM s;have c:Hid (G2 t ps P lo hi):=by
     have:=g.o.none (v:=P.take (j+1)) h.o.1 (by omega);rwa[Abh]at this
    clear d;go_wp2_with fail;go_ret2;exact⟨⟨lo,hi,rfl,c.o⟩,f.o⟩
end
namespace Hm
theorem eW(g:Nat->Bool): ∀(ps:Aeh) (p:Nat) (h:p<ps.length),g ps[p]=true->(ps.filter g).getD ((ps.take p).countP g) 0=ps[p]/\(ps.take p).countP g<(ps.filter g).length
 |[],p,h,_=>by simp at h
 |x::r,0,_,b=>by
  have a:g x=true:=b;rw[Aeb a];exact⟨rfl,by simp⟩
 |x::r,p+1,h,b=>by
  have c:p<r.length:=by simpa using h
  obtain⟨h1,h2⟩:=eW g r p c b;rw[Adw,Abi]
  by_cases a:g x=true
  ·rw[Aeb a,if_pos a,Aea];exact⟨h1,by rw[Aau];omega⟩
  ·rw[List.filter_cons_of_neg a,if_neg a,Ac2];exact⟨h1,h2⟩
theorem rM(x:Nat):x<18446744073709551616->x<2^Lib.bitLen x:=by
 induction x using Nat.strongRecOn with
 |ind x ih=>
  intro b
  by_cases a:x=0
  ·subst a;exact Nat.pow_pos (by omega)
  ·rw[Lib.bitLen_half x a (by omega),Nat.add_comm,Abl];have:=ih (x/2) (by omega) (by omega);omega
theorem eX(hn:n<=6000)(h:ps.Perm (List.range (n+1)))(f:Nat->Bool)(t: ∀p,p<(Bb ps).length->f p=(Bb ps).getD p false)(j p:Nat)(F:p<n+1)(x:Iu f j p):
  ∃a:p<ps.length,F0 f (n+1+j*Lib.bitLen (n/8)) (Lib.bitLen (n/8))*8=ps[p]:=by
 have B:ps.length=n+1:=by have:=h.length_eq;simpa using this
 have hs:(Bb ps).length=Ap n:=E0 h;have a:p<ps.length:=by omega
 refine⟨a,?_⟩;have l: ∀q,q<ps.length->(Bb ps).getD q false=decide (ps.getD q 0%8=0):=fun q r=>by
  unfold Bb;rw[zG,Aav (by rw[Aai];exact r),Aah,zG,zH r];rfl
 have e:=x.is;have D:ps.length<=(Bb ps).length:=by rw[hs];unfold Ap;omega
 rw[t p (by omega),l p a,zG,zH a]at e;have z:ps[p]%8=0:=Aay e;have c:=x.nr;rw[cW f ((Bb ps).take ps.length) (fun q r=>by
  rw[zS]at r;rw[t q (by omega),zG,zG,Ad1,iP]) p (by rw[zS];omega)]at c
 have y:(Bb ps).take ps.length=ps.map fun p=>decide (p%8=0):=by
  unfold Bb;rw[List.take_left' (by rw[Aai])]
 rw[y,<-List.map_take,List.countP_map]at c;have c:(ps.take p).countP (fun p=>decide (p%8=0))=j:=c;obtain⟨s,o⟩:=eW (fun p=>decide (p%8=0)) ps p a (zJ z);rw[c]at s o;obtain⟨b,d⟩:=gx (Lib.bitLen (n/8));rw[<-d];have C:ps[p]<n+1:=by have:=h.subset (z6 a);simpa using this
 have E:ps[p]/8<2^b:=by
  rw[d];refine Abm ?_ (rM (n/8) (by omega));exact Nat.div_le_div_right (by omega)
 have k:Cm ps b=C7 ((ps.filter fun p=>decide (p%8=0)).map (· /8)) b:=by
  unfold Cm C7;rw[List.flatMap_map]
 have m:F0 f (n+1+j*b) b=ps[p]/8:=by
  rw[Vx f (n+1+j*b) (ps[p]/8) b ?_,Aby E];intro i hi;have w:=Ti b ((ps.filter fun p=>decide (p%8=0)).map (· /8)) j i (by rw[Aai];exact o) hi;have u:((ps.filter fun p=>decide (p%8=0)).map (· /8)).getD j 0=ps[p]/8:=by
   rw[zG,Aah];rw[zG,zH o]at s;rw[zH o];show _/8=_;rw[show(ps.filter fun p=>decide (p%8=0))[j]=ps[p]from s]
  rw[u,<-k]at w;have g:((ps.map fun p=>decide (p%8=0)):List Bool).length=n+1:=by rw[Aai,B]
  have A:(ps.filter fun p=>decide (p%8=0)).length=n/8+1:=by rw[<-Acf,h.countP_eq,Vw]
  have v:n+1+j*b+i<(Bb ps).length:=by
   rw[hs];unfold Ap;rw[<-d];have:(j+1)*b<=(n/8+1)*b:=Abs _ (by omega);rw[Ab4,Nat.one_mul]at this;omega
  rw[t _ v,<-w];unfold Bb;rw[zG,z7 (by rw[g];omega),g,show ps.length-1=n from by omega,<-d,show n+1+j*b+i-(n+1)=j*b+i from by omega,<-zG]
 rw[m];omega
end Hm
section
open Go.RowKit
structure Nm(w:World)(pb o:Nat)(T:ByteArray)(len g n:Nat):Prop where
 bits:Dh w pb o T len g
 total:w.cell? ⟨pb,o+3,none⟩=some (.int .i64 n)
theorem Nm.kept{pb o:Nat}{T:ByteArray}(h:Nm w pb o T len g n)(hk:Aa S w w')(h1: ¬S pb)(h2: ¬S g):Nm w' pb o T len g n:=
 have a:pb<w.heap.size:=z9 _ _ h.total
 ⟨h.bits.kept hk h1 h2,(hk.cell (p:=(J pb (o+3))) a h1).trans h.total⟩
theorem kL(hLn:Ez)(pb o len g n j:Nat)(T:ByteArray)(w:World)(h:Nm w pb o T len g n)(hn:n<=6000)(B:T.size<=100000)(x:j<=6000)(b:n+1+j*Lib.bitLen (n/8)+Lib.bitLen (n/8)<=8*T.size):
  Calls prog 158 #[.pointer (some ⟨pb,o,none⟩),.int .i64 j] w fun e w'=>e= .returned (.int .i64 (F0 (Al T.data.toList) (n+1+j*Lib.bitLen (n/8)) (Lib.bitLen (n/8))*8:Nat))/\Aee w w':=by
 have s:=N6 hLn n w (by omega);have c:Lib.bitLen (n/8)<=10:=Lib.bitLen_le _ 10 (by omega) (by omega);have a:=fun W h=>U5 pb o (n+1+j*Lib.bitLen (n/8)) (Lib.bitLen (n/8)) T W h b (by omega) (by omega);have m:=Ta (Al T.data.toList) (n+1+j*Lib.bitLen (n/8)) (Lib.bitLen (n/8));have r:2^Lib.bitLen (n/8)<=2^10:=Abk (by omega) c;have d:=Aa4 x c;have q:F0 (Al T.data.toList) (n+1+j*Lib.bitLen (n/8)) (Lib.bitLen (n/8))<=1024:=by omega
 generalize Lib.bitLen (n/8)=f at*;obtain⟨v,t⟩:=gx (F0 (Al T.data.toList) (n+1+j*f) f);rw[<-t]at a q|-;clear t m r;obtain⟨z,i⟩:=gx (j*f);rw[<-i]at a d b;have y:IntKind.i64.wrap ((j:Int)*(f:Int))=(z:Int):=by rw[Aar,<-Adb,<-i];clear i;omega
 have k:Hid (∀W,W.cell? (J pb o)=some (.string T)->Calls prog 128 #[.pointer (some (J pb o)),I ((n:Int)+1+(z:Int)),I f] W fun e w'=>e= .returned (I v)/\w'=W):=fun W h=>by
  have:=a W h;rwa[show((n+1+z:Nat):Int)=(n:Int)+1+(z:Int)from by omega]at this
 have A:=h.total;have l:=h.bits.str;have hpb:pb<w.heap.size:=z9 _ _ l;have u:=hZ l;clear a i h b l
 go_enter func158,ntmps158
 go_wp2_with fail;refine s.mono ?_;rintro e C ⟨rfl,rfl⟩;go_wp2_with fail;go_quiet(first|(go_at_call 128;refine Abc (k.o _ ?_);exact(((Aa.refl (fun _=>False) w).drewN _).cell (p:=(J pb o)) hpb id).trans u.o));go_wp2_with fail;go_ret;exact⟨by first|rfl|go_num,(Aa.refl _ _).drewN _⟩
theorem wY(hones:Bc)(hLn:Ez)(pb o len g n pl:Nat)(T:ByteArray)(ps:Aeh)(w:World)(h:Nm w pb o T len g n)(hn:n<=6000)(Z:T.size<=100000)(m:ps.Perm (List.range (n+1)))(L:ps[0]?=some n)
  (N: ∀p,p<(Bb ps).length->Al T.data.toList p=(Bb ps).getD p false) (i:Ap n<=8*T.size) (y:rk (Al T.data.toList) (n+1)=n/8+1) (G:pl<=n):
  Calls prog 114 #[.pointer (some ⟨pb,o,none⟩),.int .i64 pl] w fun e w'=>(∃row q:Nat,e= .returned (.tuple #[.int .i64 row,.int .i64 q])/\ps[row]?=some q/\pl<=q)/\Aee w w':=by
 have aa:Lib.bitLen (n/8)<=10:=Lib.bitLen_le _ 10 (by omega) (by omega);have ac:n+1<=Ap n:=by unfold Ap;omega
 have l:=fun W t=>Jc hones pb o g len (n+1) T W t (by omega) (by omega);rw[y]at l;obtain⟨R,M⟩:=gx (n/8+1);have A:Hid (∀W,Dh W pb o T len g->Calls prog 126 #[.pointer (some (J pb o)),I ((n:Int)+1)] W fun e w'=>e= .returned (I R)/\w'=W):=fun W t=>by
  have:=l W t;rwa[<-M,show((n+1:Nat):Int)=(n:Int)+1 from by omega]at this
 have B:Hid (∀k W,k<R->Nm W pb o T len g n-> ∃p v:Nat,p<=n/\ps[p]?=some v/\Calls prog 158 #[.pointer (some (J pb o)),I k] W (fun e w'=>e= .returned (I v)/\Aee W w')/\
   ∀s,Nm s pb o T len g n->Calls prog 125 #[.pointer (some (J pb o)),I k] s fun e w'=>e= .returned (I p)/\Aee s w'):=fun k W hk t=>by
  obtain⟨p,E,a⟩:=U6 (Al T.data.toList) k (n+1) (by omega);obtain⟨F,hv⟩:=eX hn m _ N k p E a;have d:=kL hLn pb o len g n k T W t hn Z (by omega) (by
   have h1:(k+1)*Lib.bitLen (n/8)<=(n/8+1)*Lib.bitLen (n/8):=Abs _ (by omega);unfold Ap at i;rw[Ab4,Nat.one_mul]at h1;omega)
  rw[hv]at d;exact⟨p,ps[p],by omega,zH F,d,fun s C=>o4 hones pb o g len k p T s C.bits (by omega) a (by omega)⟩
 have S:Hid (∀p v:Nat,ps[p]?=some v->v<=n):=fun p v E=>by
  have:=m.subset (List.mem_of_getElem? E);have:=List.mem_range.1 this;omega
 have V:=h.total;have hpb:pb<w.heap.size:=z9 _ _ V;have HS:=hZ h;have P:=hZ L;have Y:R<=6000:=by omega
 clear l N i y m h L M
 go_enter func114,ntmps114
 go_wp2_with fail;go_quiet(first|(go_at_call 126;refine Abc (A.o _ ?_);exact(HS.o.kept ((Aa.refl (fun _=>False) w).drewN _) id id).bits));go_wp2_with fail
 go_loopw[6,7,17] (fun _ _ vi wr=> ∃k:Nat,k<=R/\vi=I k/\Aee w wr) (fun _ _ vi _=>R-(intOf vi).toNat)
 case atStart=>exact⟨0,zZ _,rfl,(Aa.refl _ _).drewN _⟩
 case round=>
  obtain⟨k,hk,rfl,c⟩:=hrel;have f:=HS.o.kept c id id
  by_cases D:k<R
  ·obtain⟨p,v,ab,r,d,a⟩:=B.o k wr D f;have ae:=S.o p v r;have K:=hZ (aI r c);have H:=hZ a;have O:(k:Int)<(R:Int):=by omega
   clear r c a f;go_wp2_with fail;refine d.mono ?_;rintro e w1 ⟨rfl,u⟩;have j:=hZ (K.o.2.tr u);have a:=H.o w1 (HS.o.kept j.o id id);clear d u H
   by_cases b:pl<=v/\v<pl+8
   ·have af:decide ((pl:Int)<=(v:Int))=true:=zJ (by omega);have ag:decide ((v:Int)<(pl:Int)+8)=true:=zJ (by omega);have ah:(pl:Int)<=(v:Int):=by omega
    have ai:(v:Int)<(pl:Int)+8:=by omega
    have U:=hZ b.1;clear b;go_wp2_with fail;refine a.mono ?_;rintro e w2 ⟨rfl,x⟩;have z:=hZ (j.o.tr x);clear x a;go_wp2_with fail;go_ret2;exact⟨⟨p,v,rfl,K.o.1,U.o⟩,z.o⟩
   ·have HN:=hZ b;clear a;have hd: ¬((pl:Int)<=(v:Int)/\(v:Int)<(pl:Int)+8):=by omega
    clear b;go_wp2_with fail
    all_goals(
     go_roundw
     case rel=>exact⟨k+1,by omega,by go_num,j.o⟩
     case measure=>simp[intOf];omega)
  ·obtain rfl:k=R:=by omega
   have X:=f.total;have Q:=hZ c;clear c f;go_wp2_with fail;go_quiet(fail);go_wp2_with fail;go_ret2;exact⟨⟨0,n,rfl,P.o,G⟩,Q.o.drewN _⟩
theorem Dw.samp{B:Nat}{pa:Nat}{st:Bl}(h:Dw B w pa s l6 L l8 st)(f:C5 s l6 L l8 st): ∃gs,Nm w pa 1036 ⟨((l8.drop (szB st.len)).take (szB (Ap (rdN s).1))).toArray⟩ (Ap (rdN s).1) gs (rdN s).1:=by
 obtain⟨gn,ge,g,ng,nc,gs,b1,b2,b3,o,p,a2,a3,l,m,n,i⟩:=h;refine⟨gs,?_⟩;obtain⟨col,q,r,k⟩:=Li f.tree;have e:(A6 ⟨(l8.take (szB st.len)).toArray⟩ st.len g (Bf L) (S0 ng st.nds.length nc) st.ws (rdN s).1).toArray.size=773:=by
  rw[Aaa];exact Cq _ _ _ _ _ _ _ (A5 _ _ _ _) k.1
 have a:(Gj l6 (rdF s).1 (rdN s).1 ge).length=5:=rfl;have c:=Gz (A6 ⟨(l8.take (szB st.len)).toArray⟩ st.len g (Bf L) (S0 ng st.nds.length nc) st.ws (rdN s).1).toArray (rdR s).1 (firsts st.ws) e (by unfold firsts;rw[Aai,Acb]);have b: ∀j,w.cell? (J pa (1036+j))=(Hp (l8.drop (szB st.len)) (rdN s).1 gs)[j]?:=fun j=>by
  rw[zP _ _ (1036+j) _ _ _ a2,Aag,rF _ _ _ _ a c j]
 have d:(⟨((l8.drop (szB st.len)).take (szB (Ap (rdN s).1))).toArray⟩:ByteArray).size=szB (Ap (rdN s).1):=by
  show(List.take _ _).toArray.size=_;have:=f.samp.fits;rw[Aaa,zS];omega
 refine⟨⟨b 0,b 1,?_,i⟩,b 3⟩;rw[d];exact b 2
theorem kM(hones:Bc)(pb o G len g ng nc root pl:Nat)(s:ByteArray)(nds:List Nd)(ws:Aeh)(col:Aeg)(ps:Aeh)(w:World)(h:Ec w pb o s len g ng nc nds root ws)(ht:K0 s.data.toList nds col)(l:Er ws col)(y:root<=col.length)(hs:s.size<=1000000)(N:col.length<=6000)
  (f: ∀W,Aee w W->Calls prog 114 #[.pointer (some ⟨pb,G,none⟩),.int .i64 pl] W fun e w'=>(∃row q:Nat,e= .returned (.tuple #[.int .i64 row,.int .i64 q])/\ps[row]?=some q/\pl<=q)/\Aee W w')
  (c: ∀row q k,ps[row]?=some q->k<=q->row<=col.length/\q<=6000/\ps[(Bh (Bw col ws root) row k).2]?=some (q-k)):
  Calls prog 113 #[.func (.func 34) #[.pointer (some ⟨pb,o,none⟩)] #[],.func (.func 114) #[.pointer (some ⟨pb,G,none⟩)] #[],.int .i64 pl] w fun e w'=>(∃row:Nat,e= .returned (.int .i64 row)/\ps[row]?=some pl)/\Aee w w':=by
 have x:=f w (Aa.refl _ _);have B:Hid (∀row,row<=col.length-> ∀k W,Ec W pb o s len g ng nc nds root ws->Calls prog 34 #[.pointer (some (J pb o)),I ((Bh (Bw col ws root) row k).2:Nat)] W fun e w'=>e= .returned (.tuple #[.int .u8 ((Bw col ws root (Bh (Bw col ws root) row k).2).1.toNat:Nat),I ((Bw col ws root (Bh (Bw col ws root) row k).2).2:Nat)])/\Aee W w'):=
  fun row j k W M=>Tf hones pb o len g ng nc root _ s nds ws col W M ht y (O2 l y j k) hs (by omega) (fun b hb=>by have:=l.first_le b (by omega);omega)
 have L:=hZ h;have m:=hZ c;clear h ht l f c;generalize Bw col ws root=stp at*
 go_enter func113,ntmps113
 go_wp2_with fail;refine x.mono ?_;rintro e T ⟨⟨row,q,rfl,i,P⟩,t⟩;obtain⟨j,Q,_⟩:=m.o row q 0 i (zZ _);have n:=hZ (aI t i);clear x t i;go_wp2_with fail
 go_loopw[7,8] (fun S E wr=> ∃k:Nat,pl+k<=q/\E=I ((q-k:Nat):Int)/\S=I ((Bh stp row k).2:Nat)/\Aee w wr) (fun _ E _=>(intOf E).toNat)
 case atStart=>exact⟨0,by omega,rfl,rfl,n.o.1⟩
 case round=>
  obtain⟨k,hk,rfl,rfl,d⟩:=hrel;obtain⟨a,p⟩:=gx (q-k);rw[<-p]
  by_cases O:pl<a
  ·have v:=B.o row j k wr (L.o.kept d id id id);have K:Hid ((Bh stp row (k+1)).2=(stp (Bh stp row k).2).2):=rfl;have H:=hZ p;have hd:=(dT pl a).2;have D:(pl:Int)<(a:Int):=by omega
   have A:=hZ d;have R:IntKind.i64.wrap ((a:Int)-1)=(a:Int)-1:=by rw[Aar];omega
   clear d p;generalize stp (Bh stp row k).2=nx at*;generalize(Bh stp row k).2=r at*;go_wp2_with fail;refine v.mono ?_;rintro e w2 ⟨rfl,u⟩;have z:=hZ (A.o.tr u);clear v u;go_wp2_with fail;go_roundw
   case rel=>
    have:=H.o;exact⟨k+1,by omega,by congr 1;omega,by rw[K.o],z.o⟩
   case measure=>simp[intOf];omega
  ·have C:a=pl:=by omega
   have F:Hid (ps[(Bh stp row k).2]?=some pl/\Aee w wr):=by
    refine⟨?_,d⟩;rw[(m.o row q k n.o.2 (by omega)).2.2,<-p,C]
   have D: ¬(pl:Int)<(a:Int):=by omega
   clear d p;generalize(Bh stp row k).2=r at*;go_wp2_with fail;go_ret;exact⟨⟨r,rfl,F.o.1⟩,F.o.2⟩
end
end Go.Proofs.YtegnkfdbmmndaaaGreat
