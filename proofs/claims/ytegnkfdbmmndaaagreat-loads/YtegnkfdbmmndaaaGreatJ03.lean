import Derived.Test.YtegnkfdbmmndaaaGreatJ00
import Derived.Test.YtegnkfdbmmndaaaGreatJ02
import Derived.Test.YtegnkfdbmmndaaaGreatRows

namespace Go.Proofs.YtegnkfdbmmndaaaGreat
open Hm
open Go.RowKit
namespace Hm
theorem Ag4: ∃f:UInt8→Nat,∀b,f b=Lib.onesCount b.toNat:=⟨fun b=>Lib.onesCount b.toNat,fun _=>rfl⟩
noncomputable def on8:UInt8→Nat:=Classical.choose Ag4
theorem Vg(b:UInt8):on8 b=Lib.onesCount b.toNat:=Classical.choose_spec Ag4 b
theorem Aar(b:UInt8):on8 b≤8:=by rw[Vg];exact Lib.onesCount_le8 ⟨b.toNat,b.toNat_lt⟩
noncomputable def D1(s:List UInt8):Nat→Nat
 |0=>0
 |k+1=>D1 s k+on8 (s.getD k 0)
noncomputable def Bt(s:List UInt8):List Nat:=(List.range (s.length+1)).map (D1 s)
noncomputable def D5(s:List UInt8)(k:Nat):List Nat:=(List.range (s.length+1)).map fun i=>if i≤k then D1 s i else 0
theorem Qj(s:List UInt8):(Bt s).length=s.length+1:=by simp[Bt]
theorem Vh(s:List UInt8)(k:Nat):(D5 s k).length=s.length+1:=by simp[D5]
theorem Aas(s:List UInt8):D5 s s.length=Bt s:=by
 unfold D5 Bt;refine Aoa fun i hi=>?_;have:i<s.length+1:=by simpa using hi
 rw[if_pos (by omega)]
theorem Zm(s:List UInt8):D5 s 0=List.replicate (s.length+1) 0:=by
 unfold D5;apply Amf
 ·simp
 ·intro i h1 h2;simp only[Am5,Aor,List.getElem_replicate]
  by_cases h:i≤0
  ·obtain rfl:i=0:=by omega
   rfl
  ·rw[if_neg h]
theorem Zn(s:List UInt8)(k:Nat)(_h:k<s.length):(D5 s k).set (k+1) (D1 s (k+1))=D5 s (k+1):=by
 apply Amf
 ·simp[D5]
 ·intro i h1 h2;rw[An8];simp only[D5,Am5,Aor]
  by_cases e:k+1=i
  ·subst e;simp
  ·rw[if_neg e]
   by_cases h3:i≤k
   ·rw[if_pos h3,if_pos (by omega)]
   ·rw[if_neg h3,if_neg (by omega)]
theorem Aat(s:List UInt8)(k i:Nat)(h:i<(D5 s k).length)(hi:i≤k):(D5 s k)[i]=D1 s i:=by
 simp only[D5,Am5,Aor];rw[if_pos hi]
theorem Yj(s:List UInt8)(k:Nat):D1 s k≤8*k:=by
 induction k with
 |zero=>exact Ale _
 |succ k ih=>
  rw[D1];have:=Aar (s.getD k 0);omega
end Hm
def Cd:Prop:= ∀(b:UInt8) (W:World),Calls Tryz.prog 172 #[.int .u8 (b.toNat:Nat)] W fun e w'=>e= .returned (.int .i64 (Hm.on8 b:Nat))∧w'=W
theorem Lf(w:World)(b:Nat)(x y z:Value):Aa (fun j=>j=b) w (((w.setCell ⟨b,0,none⟩ x).setCell ⟨b,1,none⟩ y).setCell ⟨b,2,none⟩ z):=
 ((((Aa.refl (fun j=>j=b) w).setCell (p:=⟨b,0,none⟩) (.inr rfl) x).setCell (p:=⟨b,1,none⟩) (.inr rfl) y).setCell (p:=⟨b,2,none⟩) (.inr rfl) z)
set_option maxHeartbeats 1000000 in
theorem Jp(hones:Cd)(s:ByteArray)(L:Nat)(w:World)(hs:s.size≤1000000):
  Calls Tryz.prog 147 #[.agg #[.string s,.int .i64 L]] w fun e w'=> ∃g,w.heap.size≤g∧e= .returned (.agg #[.string s,.int .i64 L,.slice (some ⟨g,0,none⟩) (s.size+1) (s.size+1)])∧IntRow w' g (Bt s.data.toList)∧Apd w w':=by
 obtain⟨i0,hi,hz0,hz1,hz2⟩:=Amz Jo;have HSL:Aside (s.data.toList.length=s.size):=by show _=_;simp
 have HO:Aside _:=hones;clear hones
 go_enter Tryz.func147,Tryz.ntmps147
 go_upto_region 1 with fail
 have hbox:((w.alloc (.cells #[.string s,.int .i64 (L:Nat)] 83)).alloc (.cells #[.string ⟨#[]⟩,.int .i64 0,.slice none 0 0] 85)).heap[w.heap.size]?=some (.cells #[.string s,.int .i64 (L:Nat)] 83 (0,0)):=Anw w _ _;have hres:((w.alloc (.cells #[.string s,.int .i64 (L:Nat)] 83)).alloc (.cells #[.string ⟨#[]⟩,.int .i64 0,.slice none 0 0] 85)).heap[w.heap.size+1]?=some (.cells #[.string ⟨#[]⟩,.int .i64 0,.slice none 0 0] 85 (0,0)):=Anx w _ _;have hk0:Apd w ((w.alloc (.cells #[.string s,.int .i64 (L:Nat)] 83)).alloc (.cells #[.string ⟨#[]⟩,.int .i64 0,.slice none 0 0] 85)):=((Aa.refl _ _).alloc _).alloc _;have hsz:((w.alloc (.cells #[.string s,.int .i64 (L:Nat)] 83)).alloc (.cells #[.string ⟨#[]⟩,.int .i64 0,.slice none 0 0] 85)).heap.size=w.heap.size+2:=by simp
 generalize((w.alloc (.cells #[.string s,.int .i64 (L:Nat)] 83)).alloc (.cells #[.string ⟨#[]⟩,.int .i64 0,.slice none 0 0] 85))=W at*;have p0:W.cell? ⟨w.heap.size,0,none⟩=some (.string s):=Alc _ _ 0 _ _ _ hbox;have HX:Aside (W.heap[w.heap.size]?=some (.cells #[.string s,.int .i64 (L:Nat)] 83 (0,0))∧W.heap[w.heap.size+1]?=some (.cells #[.string ⟨#[]⟩,.int .i64 0,.slice none 0 0] 85 (0,0))∧Apd w W∧W.heap.size=w.heap.size+2):=⟨hbox,hres,hk0,hsz⟩;clear hbox hres hk0 hsz;go_upto_region 2 with(at_make;refine Ane _ rfl (.tmp 8) (.tmp 8) 64 rfl W.heap.size 3 i0 (.int .i64 0) 1 Tryz.underlying64 hi hz0 hz1 .i64 .i64 _ _ (s.size+1) rfl rfl (by omega) (by omega) (by rw[hz2];omega) (by unfold maxLen;omega) (Ale _) ?_;intro w1 ho1 hg1)
 have hr1:IntRow w1 W.heap.size (List.replicate (s.size+1) 0):=IntRow.made ho1;have hk1:Apd W w1:=(Aa.refl _ _).grown hg1 (fun k hk=>by cases hk);have q0:w1.cell? ⟨w.heap.size,0,none⟩=some (.string s):=(hk1.cell (p:=⟨w.heap.size,0,none⟩) (by have:=HX.out.2.2.2;show w.heap.size<_;omega) id).trans p0;have HY:Aside (IntRow w1 W.heap.size (List.replicate (s.size+1) 0)∧Apd W w1):=⟨hr1,hk1⟩;clear ho1 hg1 hr1 hk1 p0;go_wp2
 go_loopw[13] (fun i wr=> ∃k:Nat,k≤s.size∧i= .int .i64 k∧IntRow wr W.heap.size (D5 s.data.toList k)∧Apd W wr) (fun i _=>s.size-(intOf i).toNat)
 case atStart=>exact⟨0,Alr _,rfl,by rw[Zm,HSL.out];exact HY.out.1,HY.out.2⟩
 case round=>
  clear q0 HY;obtain⟨k,hk,rfl,hr,hkr⟩:=hrel;have hws:w.heap.size<W.heap.size:=by have:=HX.out.2.2.2;omega
  have q0:wr.cell? ⟨w.heap.size,0,none⟩=some (.string s):=(hkr.cell (p:=⟨w.heap.size,0,none⟩) hws id).trans (Alc _ _ 0 _ _ _ HX.out.1)
  by_cases hlt:k<s.size
  ·have hl:=Vh s.data.toList k;rw[HSL.out]at hl;have c1:=hr.cell (i:=k) (by omega);obtain⟨old,c2⟩: ∃old,wr.cell? ⟨W.heap.size,k+1,none⟩=some old:=⟨_,hr.cell (i:=k+1) (by omega)⟩;rw[Aat _ _ _ _ (Ale _)]at c1;have f2:=hr.free (k+1);have hle:=Yj s.data.toList k;have HS:=hr.set (k+1) (D1 s.data.toList (k+1));rw[Zn _ _ (by rw[HSL.out];exact hlt)]at HS;have hg:s.data.toList.getD k 0=s[k]:=by
    rw[Ak6,Ak7 (by rw[HSL.out];exact hlt)];rfl
   obtain⟨z,hz⟩: ∃z,z=Hm.on8 s[k]:=⟨_,rfl⟩;have e1:D1 s.data.toList (k+1)=D1 s.data.toList k+z:=by
    rw[D1,hg,hz]
   have hone:=fun W=>HO.out s[k] W;have h8:z≤8:=by rw[hz];exact Aar _
   rw[←hz]at hone;rw[e1]at HS;clear hz hg;obtain⟨o,ho⟩: ∃o,o=D1 s.data.toList k:=⟨_,rfl⟩;rw[←ho]at HS c1 hle;clear ho;have H2:Hid (IntRow _ W.heap.size (D5 s.data.toList (k+1))):=HS;have hne:w.heap.size≠W.heap.size:=by omega
   have hdec:decide ((k:Int)<(s.size:Int))=true:=Alb (by omega);have hb1:(k:Int)<(s.size:Int)+1:=by omega
   have hb2:(k:Int)+1<(s.size:Int)+1:=by omega
   have hw1:IntKind.i64.wrap ((k:Int)+1)=(k:Int)+1:=by rw[Al9];omega
   have hw2:IntKind.i64.wrap ((o:Int)+(z:Int))=(o:Int)+(z:Int):=by rw[Al9];omega
   have hw3:((k:Int)+1).toNat=k+1:=by omega
   have hw4:(0:Int)≤(k:Int)+1:=by omega
   clear HS hr hl e1 HX hle h8 hs;have H3:Hid (IntRow (wr.setCell ⟨W.heap.size,k+1,none⟩ (.int .i64 ((o:Int)+(z:Int)))).drew W.heap.size (D5 s.data.toList (k+1))):=by
    have:=H2.out;rw[show((o+z:Nat):Int)=(o:Int)+(z:Int)from by omega]at this;exact this
   clear H2;go_wp2_with fail
   go_region_with (first|(go_at_call 172;refine(hone _).mono ?_;rintro e w' ⟨rfl,rfl⟩))
   all_goals
    go_wp2;go_roundw
    case rel=>exact⟨k+1,by omega,by go_num,H3.out,(hkr.setCell (.inl (Ale _)) _).drew⟩
    case measure=>simp[intOf];omega
  ·obtain rfl:k=s.size:=by omega
   have hdec:decide ((s.size:Int)<(s.size:Int))=false:=Ald (by omega);have e0:D5 s.data.toList s.size=Bt s.data.toList:=by rw[←Aas,HSL.out]
   rw[e0]at hr;obtain⟨hbox,hres,hk0,hsz⟩:=HX.out;have hb2:=hkr.row hbox id;have hr2:=hkr.row hres id;have hne:w.heap.size+1≠W.heap.size:=by omega
   have hl0:wr.cell? ⟨w.heap.size,1,none⟩=some (.int .i64 (L:Nat)):=Alc _ _ 1 _ _ _ hb2;have p0:wr.cell? ⟨w.heap.size+1,0,none⟩=some (.string ⟨#[]⟩):=Alc _ _ 0 _ _ _ hr2;have p1:wr.cell? ⟨w.heap.size+1,1,none⟩=some (.int .i64 0):=Alc _ _ 1 _ _ _ hr2;have p2:wr.cell? ⟨w.heap.size+1,2,none⟩=some (.slice none 0 0):=Alc _ _ 2 _ _ _ hr2;have f0:wr.frozen? ⟨w.heap.size+1,0,none⟩=false:=Alk _ _ 0 _ _ hr2;have f1:wr.frozen? ⟨w.heap.size+1,1,none⟩=false:=Alk _ _ 1 _ _ hr2;have f2:wr.frozen? ⟨w.heap.size+1,2,none⟩=false:=Alk _ _ 2 _ _ hr2;have HZ:Aside (wr.heap[w.heap.size+1]?=some (.cells #[.string ⟨#[]⟩,.int .i64 0,.slice none 0 0] 85 (0,0))∧Apd w wr∧IntRow wr W.heap.size (Bt s.data.toList)∧w.heap.size≤W.heap.size):=⟨hr2,hk0.trans hkr (fun _ _ h=>h),hr,by omega⟩;clear hbox hres hk0 hsz hb2 hr2 HX hr hkr e0 hk hlt hs;go_wp2;obtain⟨hr2,hkw,hr,hle⟩:=HZ.out;have h2:=Alf _ _ 2 _ _ (.slice (some ⟨W.heap.size,0,none⟩) (s.size+1) (s.size+1)) (Alf _ _ 1 _ _ (.int .i64 (L:Nat)) (Alf _ _ 0 _ _ (.string s) hr2));refine Amo (v:= .agg #[.string s,.int .i64 (L:Nat),.slice (some ⟨W.heap.size,0,none⟩) (s.size+1) (s.size+1)]) (Am3 Tryz.results147 _ _ (w.heap.size+1) 85 _ (0,0) _ rfl h2 Tryz.underlying85 rfl (by kernel_rfl)) rfl ⟨W.heap.size,hle,rfl,?_,?_⟩
   ·exact hr.kept (Lf wr (w.heap.size+1) _ _ _) (fun e=>hne e.symm)
   ·exact hkw.trans (Lf wr (w.heap.size+1) _ _ _) (fun j h1 h2=>by omega)
end Go.Proofs.YtegnkfdbmmndaaaGreat
namespace Go.Proofs.YtegnkfdbmmndaaaGreat
open Hm
namespace Hm
def Ak(bs:List UInt8)(k:Nat):Bool:=decide ((bs.getD (k/8) 0).toNat/2^(k%8)%2=1)
def rk(f:Nat→Bool):Nat→Nat
 |0=>0
 |k+1=>rk f k+(f k).toNat
theorem Jq(b:Bool):b.toNat≤1:=by cases b<;>decide
theorem Px(f:Nat→Bool): ∀k,rk f k≤k
 |0=>Ale _
 |k+1=>by have:=Px f k;have:=Jq (f k);rw[rk];omega
theorem Vi(f:Nat→Bool)(a:Nat): ∀b,rk f (a+b)=rk f a+rk (fun j=>f (a+j)) b
 |0=>rfl
 |b+1=>by
  show rk f (a+b)+(f (a+b)).toNat=rk f a+(rk (fun j=>f (a+j)) b+(f (a+b)).toNat);rw[Vi f a b];omega
theorem J7(f:Nat→Bool){a b:Nat}(h:a≤b):rk f a≤rk f b:=by
 obtain⟨c,rfl⟩:=Nat.le.dest h;rw[Vi];omega
theorem Xf(f:Nat→Bool){a b:Nat}(h:a≤b):rk f b+a≤rk f a+b:=by
 obtain⟨c,rfl⟩:=Nat.le.dest h;rw[Vi];have:=Px (fun j=>f (a+j)) c;omega
theorem Aau{f g:Nat→Bool}: ∀{k:Nat},(∀j,j<k→f j=g j)→rk f k=rk g k
 |0,_=>rfl
 |k+1,h=>by rw[rk,rk,Aau (fun j hj=>h j (by omega)),h k (by omega)]
theorem Akd(bs:List UInt8)(k j:Nat)(hj:j<8):Ak bs (8*k+j)=decide ((bs.getD k 0).toNat/2^j%2=1):=by
 unfold Ak;rw[show(8*k+j)/8=k from by omega,show(8*k+j)%8=j from by omega]
theorem bt0: ∀a b c d e f g h,decide (Ek a b c d e f g h/2^0%2=1)=a:=by decide
theorem bt1: ∀a b c d e f g h,decide (Ek a b c d e f g h/2^1%2=1)=b:=by decide
theorem bt2: ∀a b c d e f g h,decide (Ek a b c d e f g h/2^2%2=1)=c:=by decide
theorem bt3: ∀a b c d e f g h,decide (Ek a b c d e f g h/2^3%2=1)=d:=by decide
theorem bt4: ∀a b c d e f g h,decide (Ek a b c d e f g h/2^4%2=1)=e:=by decide
theorem bt5: ∀a b c d e f g h,decide (Ek a b c d e f g h/2^5%2=1)=f:=by decide
theorem bt6: ∀a b c d e f g h,decide (Ek a b c d e f g h/2^6%2=1)=g:=by decide
theorem bt7: ∀a b c d e f g h,decide (Ek a b c d e f g h/2^7%2=1)=h:=by decide
theorem Ag5(f:Nat→Bool)(j:Nat)(hj:j<8):decide (Jj f/2^j%2=1)=f j:=by
 show decide (Ek (f 0) (f 1) (f 2) (f 3) (f 4) (f 5) (f 6) (f 7)/2^j%2=1)=_
 match j,hj with
 |0,_=>exact bt0 _ _ _ _ _ _ _ _
 |1,_=>exact bt1 _ _ _ _ _ _ _ _
 |2,_=>exact bt2 _ _ _ _ _ _ _ _
 |3,_=>exact bt3 _ _ _ _ _ _ _ _
 |4,_=>exact bt4 _ _ _ _ _ _ _ _
 |5,_=>exact bt5 _ _ _ _ _ _ _ _
 |6,_=>exact bt6 _ _ _ _ _ _ _ _
 |7,_=>exact bt7 _ _ _ _ _ _ _ _
theorem Of(bits:List Bool)(k:Nat):Ak (Ah bits) k=bits.getD k false:=by
 unfold Ak
 by_cases h:k/8<(Ah bits).length
 ·rw[Ak6,Ak7 h];show decide (((Ah bits)[k/8]).toNat/2^(k%8)%2=1)=_;rw[Gx,Ame,Anb (Pv bits (k/8))];unfold Fv;rw[Ag5 _ _ (by omega),show 8*(k/8)+k%8=k from by omega]
 ·rw[Ak6,Al3 (by omega)];rw[A1]at h;rw[Ak6,Al3 (by omega:bits.length≤k)];simp
end Hm
namespace Hm
theorem Aiv: ∀(b:Fin 256) (r:Fin 9),Lib.onesCount (b.val*2^(8-r.val)%256)=rk (fun j=>decide (b.val/2^j%2=1)) r.val:=by decide+kernel
theorem Aeo(bs:List UInt8)(k r:Nat)(hr:r≤8):rk (Ak bs) (8*k+r)=rk (Ak bs) (8*k)+Lib.onesCount ((bs.getD k 0).toNat*2^(8-r)%256):=by
 rw[Vi,Aiv ⟨_,(bs.getD k 0).toNat_lt⟩ ⟨r,by omega⟩];congr 1;exact Aau fun j hj=>Akd bs k j (by omega)
theorem Mi(bs:List UInt8): ∀k,D1 bs k=rk (Ak bs) (8*k)
 |0=>rfl
 |k+1=>by
  rw[D1,Mi bs k,show 8*(k+1)=8*k+8 from by omega,Aeo bs k 8 (Ale _),Vg];have:=(bs.getD k 0).toNat_lt;rw[show 8-8=0 from rfl,Nat.pow_zero,An3,Anb this]
theorem Ake(bs:List UInt8)(p:Nat):D1 bs (p/8)+Lib.onesCount ((bs.getD (p/8) 0).toNat*2^(8-p%8)%256)=rk (Ak bs) p:=by
 have h:=Aeo bs (p/8) (p%8) (by omega);rw[show 8*(p/8)+p%8=p from by omega]at h;rw[h,Mi]
end Hm
end Go.Proofs.YtegnkfdbmmndaaaGreat
namespace Go.Proofs.YtegnkfdbmmndaaaGreat
open Hm
open Go.RowKit
structure C2(w:World)(pb o:Nat)(s:ByteArray)(len g:Nat):Prop where
 str:w.cell? ⟨pb,o,none⟩=some (.string s)
 len:w.cell? ⟨pb,o+1,none⟩=some (.int .i64 (len:Nat))
 cnt:w.cell? ⟨pb,o+2,none⟩=some (.slice (some ⟨g,0,none⟩) (s.size+1) (s.size+1))
 row:IntRow w g (Bt s.data.toList)
theorem C2.kept{S:Nat→Prop}{w w':World}{pb o len g:Nat}{s:ByteArray}(h:C2 w pb o s len g)(hk:Aa S w w')(h1: ¬S pb)(h2: ¬S g):C2 w' pb o s len g:=
 have hp:pb<w.heap.size:=Aly _ _ h.str
 ⟨(hk.cell (p:=⟨pb,o,none⟩) hp h1).trans h.str,(hk.cell (p:=⟨pb,o+1,none⟩) hp h1).trans h.len,(hk.cell (p:=⟨pb,o+2,none⟩) hp h1).trans h.cnt,h.row.kept hk h2⟩
set_option maxHeartbeats 400000 in
theorem Jr(hones:Cd)(pb o g len p:Nat)(s:ByteArray)(w:World)(h:C2 w pb o s len g)(hp:p≤8*s.size)(hs:s.size≤100000000):
  Calls Tryz.prog 126 #[.pointer (some ⟨pb,o,none⟩),.int .i64 p] w fun e w'=>e= .returned (.int .i64 (Hm.rk (Ak s.data.toList) p:Nat))∧w'=w:=by
 obtain⟨q,hq⟩: ∃q,q=p/8:=⟨_,rfl⟩;obtain⟨r,hr⟩: ∃r,r=p%8:=⟨_,rfl⟩;have zq:(p:Int)/8=(q:Int):=by omega
 have zr:(p:Int)%8=(r:Int):=by omega
 have hsl:s.data.toList.length=s.size:=by simp
 have hcl:=Qj s.data.toList;have hall:=Ake s.data.toList p;have hle:=Yj s.data.toList q;rw[←hq,←hr]at hall;have h0:=h.str;have h2:=h.cnt;have hc:w.cell? ⟨g,q,none⟩=some (.int .i64 (D1 s.data.toList q:Nat)):=by
  rw[h.row.cell (i:=q) (by omega)];simp[Bt]
 have hqI:(q:Int)<(s.size:Int)+1:=by omega
 have HA:Aside _:=hall;have HSL:Aside _:=hsl;obtain⟨u,hu⟩: ∃u,u=D1 s.data.toList q:=⟨_,rfl⟩;rw[←hu]at hc hle HA;clear hcl hall hu h hsl
 by_cases hr0:r=0
 ·have HR:Aside (Hm.rk (Ak s.data.toList) p=u):=by
   show _=_;rw[←HA.out,hr0];have: ∀x:UInt8,Lib.onesCount (x.toNat*2^(8-0)%256)=0:=fun x=>by
    rw[show x.toNat*2^(8-0)%256=0 from by omega];rfl
   rw[this];rfl
  have hrI:decide (0<r)=false:=Ald (by omega);clear HA hr hr0 hq
  go_enter Tryz.func126,Tryz.ntmps126
  go_wp2;go_ret;exact⟨by rw[HR.out];rfl,rfl⟩
 ·have hql:q<s.size:=by omega
  have hrI:decide (0<r)=true:=Alb (by omega);obtain⟨t,ht⟩: ∃t,t=8-r:=⟨_,rfl⟩;have zt:(8:Int)-(r:Int)=(t:Int):=by omega
  have htl:t≤8:=by omega
  have hg:s.data.toList.getD q 0=s[q]:=by
   rw[Ak6,Ak7 (by rw[HSL.out];exact hql)];rfl
  rw[hg,←ht]at HA;obtain⟨z,hz⟩: ∃z,z=s[q].toNat*2^t%256:=⟨_,rfl⟩;have zz:(s[q].toNat:Int)*2^t%256=(z:Int):=by rw[hz];simp
  have hz256:z<256:=by omega
  have hon:=fun W=>hones (UInt8.ofNat z) W;have e8:Hm.on8 (UInt8.ofNat z)=Lib.onesCount z:=by rw[Vg,Ame,Anb hz256]
  have e9:(UInt8.ofNat z).toNat=z:=by rw[Ame,Anb hz256]
  have h8:=Aar (UInt8.ofNat z);rw[e9]at hon;obtain⟨c,hcc⟩: ∃c,c=Hm.on8 (UInt8.ofNat z):=⟨_,rfl⟩;rw[←hcc]at hon h8;rw[←hz,←e8,←hcc]at HA;have hqI2:(q:Int)<(s.size:Int):=by omega
  have HON:Aside _:=hon;clear hz hcc e8 e9 hg ht hr hr0 hq
  go_enter Tryz.func126,Tryz.ntmps126
  go_wp2_with fail;refine(HON.out _).mono ?_;rintro e w' ⟨rfl,rfl⟩;go_wp2;go_ret;exact⟨by rw[←HA.out];go_num,rfl⟩
def Cx(w:World)(ao:Option Addr)(fs:List (ByteArray×ByteArray)):Prop:=
 ∀i,(h:i<fs.length)→ ∃b o,ao=some ⟨b,o,none⟩∧b<w.heap.size∧w.cell? ⟨b,o+i*2,none⟩=some (.string fs[i].1)∧w.cell? ⟨b,o+i*2+1,none⟩=some (.string fs[i].2)
theorem Cx.kept{S:Nat→Prop}{w w':World}{ao:Option Addr}{fs:List (ByteArray×ByteArray)}(h:Cx w ao fs)(hk:Aa S w w')(hn: ∀a,ao=some a→ ¬S a.block):Cx w' ao fs:=by
 intro i hi;obtain⟨b,o,e,hb,h1,h2⟩:=h i hi;have hs:=hn _ e;exact⟨b,o,e,by have:=hk.size;omega,(hk.cell (p:=⟨b,o+i*2,none⟩) hb hs).trans h1,(hk.cell (p:=⟨b,o+i*2+1,none⟩) hb hs).trans h2⟩
namespace Hm
def nameBytes(fs:List (ByteArray×ByteArray)):List UInt8:=fs.flatMap fun f=>UInt8.ofNat f.1.size::f.1.data.toList
theorem Pb(fs:List (ByteArray×ByteArray))(k:Nat)(h:k<fs.length):nameBytes (fs.take (k+1))=nameBytes (fs.take k)++(UInt8.ofNat fs[k].1.size::fs[k].1.data.toList):=by
 rw[Ali h];unfold nameBytes;rw[Ana];congr 1;simp
theorem Js(fs:List (ByteArray×ByteArray))(h: ∀f∈fs,f.1.size≤32):(nameBytes fs).length≤33*fs.length:=by
 induction fs with
 |nil=>simp[nameBytes]
 |cons f r ih=>
  have h1:=h f (by simp);have h2:=ih (fun x hx=>h x (by simp[hx]));have h3:f.1.data.toList.length=f.1.size:=by simp
  simp only[nameBytes,Amg,Alg,Amc]at h2⊢;omega
end Hm
set_option maxHeartbeats 400000 in
theorem Aav(base:Nat)(v:Value)(n c:Nat)(ao:Option Addr)(fs:List (ByteArray×ByteArray))(l:List UInt8)(w:World)(ho:w.ownsRow base 5 1 v n (Ag l))(hb:base≤w.heap.size)
  (hf:Cx w ao fs) (hne: ∀a,ao=some a→v.ownBlock≠some a.block) (hm:fs.length≤40) (h32: ∀f∈fs,f.1.size≤32) (hn:n≤1000000):
  Calls Tryz.prog 103 #[v,.slice ao fs.length c] w fun e w'=> ∃v',e= .returned v'∧w'.ownsRow base 5 1 v' (n+(Hm.nameBytes fs).length) (Ag (l++Hm.nameBytes fs))∧Aa (fun j=>v.ownBlock=some j) w w'∧Cc w v v':=by
 obtain⟨i0,hi,hz0,hz1,hz2⟩:=Amz Ft
 go_enter Tryz.func103,Tryz.ntmps103
 go_wp2
 go_loopw[0,9] (fun u i wr=> ∃k:Nat,k≤fs.length∧i= .int .i64 k∧wr.ownsRow base 5 1 u (n+(Hm.nameBytes (fs.take k)).length) (Ag (l++Hm.nameBytes (fs.take k)))∧Aa (fun j=>v.ownBlock=some j) w wr∧Cc w v u) (fun _ i _=>fs.length-(intOf i).toNat)
 case atStart=>exact⟨0,Alr _,rfl,by simpa[Hm.nameBytes]using ho,Aa.refl _ _,Cc.refl _ _⟩
 case round=>
  obtain⟨k,hk,rfl,hor,hkr,hmr⟩:=hrel;have hle:=Js (fs.take k) (fun f hf=>h32 f (List.mem_of_mem_take hf));have hlt2:(fs.take k).length≤40:=by simp;omega
  generalize hnk:(Hm.nameBytes (fs.take k)).length=nk at hle hor
  by_cases hlt:k<fs.length
  ·obtain⟨b,o,hao,hbw,hc1,hc2⟩:=(hf.kept hkr (fun a ha=>hne a ha)) k hlt;have h32k:=h32 fs[k] (Alo _);have HT:Hid (Hm.nameBytes (fs.take (k+1))=Hm.nameBytes (fs.take k)++(UInt8.ofNat fs[k].1.size::fs[k].1.data.toList)):=Pb fs k hlt;generalize fs[k].1=nm at*;generalize fs[k].2=ct at*;rw[hao];have HA:Hid (ao=some ⟨b,o,none⟩):=hao;have HNK:Hid ((Hm.nameBytes (fs.take k)).length=nk):=hnk;clear hao hnk hf
   go_wp2_with(at_builtin;refine A7 _ rfl (.tmp 13) (.tmp 18) 79 rfl base 5 i0 (.int .u8 0) 1 1 Tryz.underlying79 hi hz0 hz1 hz2 rfl (by decide) _ _ _ rfl ((hor.alloc _).alloc _) ⟨wr.heap.size+1,0,none⟩ 1 1 [.int .u8 (nm.size:Int)] rfl rfl ?c1 ?c2 ?c3 ?c4 ?c5 ?_)
   case c1=>have h:=An9 (wr.alloc (.cells #[.string nm,.string ct] 38)) (.int .u8 (nm.size:Int)) 5;simpa using h
   case c2=>intro u hu;simp at hu;subst hu;rfl
   case c3=>unfold maxLen;omega
   case c4=>omega
   case c5=>have:=hkr.size;simp;omega
   intro v' w1 ho1 hg1 hm1;have hu0: ∀j,u0.ownBlock=some j→j<wr.heap.size:=fun j hj=>(hor.lt j hj).2;have hbx:w1.cell? ⟨wr.heap.size,0,none⟩=some (.string nm):=
    hg1.cell (Alc _ _ 0 _ _ _ (Anw wr _ _)) (fun e=>by have:=hu0 _ e.symm;simp at this)
   have hz:wr.heap.size+2≤w1.heap.size:=by have:=hg1.size;simp at this;omega
   have hk1:Aa (fun j=>v.ownBlock=some j) w w1:=((hkr.alloc _).alloc _).grown hg1 (fun k hk=>(hmr k hk).elim (fun h=> .inr h) .inl);have hmv1:Cc w v v':=hmr.trans hm1 (by have:=hkr.size;simp;omega);clear hg1 hm1 hor hkr hmr hu0
   go_wp2_with(at_builtin;refine Eg _ rfl (.tmp 20) (.tmp 22) 79 9 rfl base 5 i0 Tryz.underlying79 Tryz.underlying9 hi hz0 hz1 hz2 _ _ _ rfl ho1 nm rfl ?c6 ?c7 ?c8 ?_)
   case c6=>unfold maxLen;omega
   case c7=>omega
   case c8=>have:=hk1.size;omega
   intro v2 w2 ho2 hg2 hm2 _;go_wp2;go_roundw
   case rel=>
    have e:Ag (l++Hm.nameBytes (fs.take (k+1)))=Ag (l++Hm.nameBytes (fs.take k))++[.int .u8 (nm.size:Int)]++Lib.strCells nm:=by
     rw[HT.out];simp[Ag,Lib.strCells];omega
    have e2:n+(Hm.nameBytes (fs.take (k+1))).length=n+nk+1+nm.size:=by
     have e3:nm.data.toList.length=nm.size:=by simp
     rw[HT.out,Alg,HNK.out,Amc,e3];omega
    refine⟨k+1,by omega,by go_num,?_,?_,?_⟩
    ·rw[e,e2];simpa using ho2
    ·exact hk1.grown hg2 (fun k hk=>(hmv1 k hk).elim (fun h=> .inr h) .inl)
    ·exact hmv1.trans hm2 (by have:=hk1.size;omega)
   case measure=>simp[intOf];omega
  ·clear hf;go_wp2;go_ret;obtain rfl:k=fs.length:=by omega
   have e:fs.take fs.length=fs:=Ama;rw[e]at hor hnk;rw[hnk];exact⟨_,rfl,hor,hkr,hmr⟩
namespace Hm
abbrev Rd:=Option (List UInt8)
def A5:Rd→Nat→List UInt8×Rd
 |none,_=>([],none)
 |some l,k=>if k≤l.length then(l.take k,some (l.drop k))else([],none)
theorem F4{l:List UInt8}{k:Nat}(h:k≤l.length):A5 (some l) k=(l.take k,some (l.drop k)):=if_pos h
theorem Ko{l:List UInt8}{k:Nat}(h: ¬k≤l.length):A5 (some l) k=([],none):=if_neg h
def C6(st:Rd)(h:Bool):Rd:=if h=true then st else none
def C0:List UInt8→Nat
 |[]=>0
 |b::r=>b.toNat+256*C0 r
def Bu(st:Rd)(k:Nat):Nat×Rd:=(C0 (A5 st k).1,(A5 st k).2)
theorem Lw(l:List UInt8):C0 l<256^l.length:=by
 induction l with
 |nil=>simp[C0]
 |cons b r ih=>
  have h:=b.toNat_lt;rw[C0,Amc,Amv];omega
theorem Q9(l r:List UInt8):C0 (l++r)=C0 l+256^l.length*C0 r:=by
 induction l with
 |nil=>simp[C0]
 |cons b t ih=>
  rw[Aok,C0,ih,C0,Amc,Amv,Nat.mul_add,←Aot,Aoj 256 (256^t.length)];omega
theorem Lg(st:Rd)(k:Nat):(A5 st k).1.length≤k:=by
 cases st with
 |none=>simp[A5]
 |some l=>
  by_cases h:k≤l.length
  ·rw[F4 h];simp;omega
  ·rw[Ko h];simp
theorem Hd(st:Rd)(k:Nat):(Bu st k).1<256^k:=
 Amp (Lw _) (Am2 (by omega) (Lg st k))
def Bb(st:Rd):Nat:=(st.getD []).length
theorem D6(st:Rd)(k:Nat):Bb (A5 st k).2≤Bb st:=by
 cases st with
 |none=>simp[A5,Bb]
 |some l=>
  by_cases h:k≤l.length
  ·rw[F4 h];simp[Bb]
  ·rw[Ko h];simp[Bb]
theorem Ij(st:Rd)(h:Bool):Bb (C6 st h)≤Bb st:=by
 unfold C6;split
 ·exact Ale _
 ·simp[Bb]
end Hm
def Au(w:World)(p:Nat)(st:Hm.Rd):Prop:=w.heap[p]?=some (.cells #[.string ⟨(st.getD []).toArray⟩,.bool st.isNone] 132 (0,0))
theorem Au.rest{w:World}{p:Nat}{st:Hm.Rd}(h:Au w p st):w.cell? ⟨p,0,none⟩=some (.string ⟨(st.getD []).toArray⟩):=Alc _ _ 0 _ _ _ h
theorem Au.bad{w:World}{p:Nat}{st:Hm.Rd}(h:Au w p st):w.cell? ⟨p,1,none⟩=some (.bool st.isNone):=Alc _ _ 1 _ _ _ h
theorem Au.free{w:World}{p:Nat}{st:Hm.Rd}(h:Au w p st)(i:Nat):w.frozen? ⟨p,i,none⟩=false:=Alk _ _ i _ _ h
theorem Au.lt{w:World}{p:Nat}{st:Hm.Rd}(h:Au w p st):p<w.heap.size:=Alw h
theorem Au.kept{S:Nat→Prop}{w w':World}{p:Nat}{st:Hm.Rd}(h:Au w p st)(hk:Aa S w w')(hn: ¬S p):Au w' p st:=hk.row h hn
set_option maxHeartbeats 400000 in
theorem Hy(p:Nat)(st:Hm.Rd)(h:Bool)(w:World)(hr:Au w p st):
  Calls Tryz.prog 63 #[.pointer (some ⟨p,0,none⟩),.bool h] w fun e w'=>e= .returned (.tuple #[])∧Au w' p (C6 st h)∧Aa (fun j=>j=p) w w':=by
 have c0:=hr.rest;have c1:=hr.bad;have f0:=hr.free 0;have f1:=hr.free 1;cases h
 ·have HN:Hid (Au ((w.setCell ⟨p,0,none⟩ (.string ⟨#[]⟩)).setCell ⟨p,1,none⟩ (.bool true)) p none):=by
   have h2:=Alf _ p 1 _ _ (.bool true) (Alf w p 0 _ _ (.string ⟨#[]⟩) hr);show Au _ _ _;unfold Au;rw[h2];rfl
  clear hr
  go_enter Tryz.func63,Tryz.ntmps63
  go_wp2
  go_end0
  exact⟨rfl,HN.out,((Aa.refl (fun j=>j=p) w).setCell (p:=⟨p,0,none⟩) (.inr rfl) _).setCell (p:=⟨p,1,none⟩) (.inr rfl) _⟩
 ·go_enter Tryz.func63,Tryz.ntmps63
  go_wp2
  go_end0
  exact⟨rfl,hr,Aa.refl _ _⟩
theorem extract_toArray(l:List UInt8)(a b:Nat):(⟨l.toArray⟩:ByteArray).extract a b=⟨((l.drop a).take (b-a)).toArray⟩:=by
 apply An1;apply Am6;rw[Aom,Aos,Anz]
set_option maxHeartbeats 400000 in
theorem K0(p:Nat)(st:Hm.Rd)(k:Nat)(w:World)(hr:Au w p st)(hl:Bb st≤4611686018427387904)(_hk:k≤4611686018427387904):
  Calls Tryz.prog 64 #[.pointer (some ⟨p,0,none⟩),.int .i64 k] w fun e w'=>e= .returned (.string ⟨(A5 st k).1.toArray⟩)∧Au w' p (A5 st k).2∧Aa (fun j=>j=p) w w':=by
 cases st with
 |none=>
  have c0:=hr.rest;have hz:(⟨((none:Hm.Rd).getD []).toArray⟩:ByteArray).size=0:=rfl;obtain⟨S,hS⟩: ∃S,S=(⟨((none:Hm.Rd).getD []).toArray⟩:ByteArray):=⟨_,rfl⟩;rw[←hS]at c0 hz;have hn:=fun(h:Bool)=>Hy p none h w hr;have e0: ∀h,C6 none h=none:=fun h=>by unfold C6;split<;>rfl
  simp only[e0]at hn;have HN:Hid _:=hn;clear hr hS e0 hn
  go_enter Tryz.func64,Tryz.ntmps64
  go_wp2_with fail;refine(HN.out _).mono ?_;rintro e w1 ⟨rfl,hr1,hk1⟩;have c1:=hr1.bad;have b1:(none:Hm.Rd).isNone=true:=rfl;rw[b1]at c1;have H1:Hid (Au w1 p none∧Aa (fun j=>j=p) w w1):=⟨hr1,hk1⟩;clear hr1 hk1 HN c0;go_wp2_with fail;go_ret;exact⟨rfl,H1.out.1,H1.out.2⟩
 |some l=>
  have c0:=hr.rest;have hll:l.length≤4611686018427387904:=hl;obtain⟨S,hS⟩: ∃S,S=(⟨((some l:Hm.Rd).getD []).toArray⟩:ByteArray):=⟨_,rfl⟩;have hz:S.size=l.length:=by rw[hS];show l.toArray.size=_;simp
  rw[←hS]at c0;have hS':S=(⟨l.toArray⟩:ByteArray):=hS
  by_cases hle:k≤l.length
  ·have hdec:decide ((k:Int)≤(l.length:Int))=true:=Alb (by omega);have hn:=Hy p (some l) true w hr;have e0:C6 (some l) true=some l:=rfl;rw[e0]at hn;have HT:Hid (A5 (some l) k=(l.take k,some (l.drop k))):=F4 hle;rw[HT.out];have HX:Hid (S.extract 0 k=⟨(l.take k).toArray⟩∧S.extract k S.size=⟨(l.drop k).toArray⟩):=by
    refine⟨by rw[hS',extract_toArray];simp,?_⟩;rw[hz,hS',extract_toArray,Al8 (by simp)]
   have HS:Hid (S=(⟨l.toArray⟩:ByteArray)):=hS';have hkS:(k:Int)≤(l.length:Int):=by omega
   clear hr hS hS' e0 hl
   go_enter Tryz.func64,Tryz.ntmps64
   go_wp2_with fail;refine hn.mono ?_;rintro e w1 ⟨rfl,hr1,hk1⟩;have c1:=hr1.bad;have c2:=hr1.rest;have f2:=hr1.free 0;have b1:(some l:Hm.Rd).isNone=false:=rfl;have b2:(⟨((some l:Hm.Rd).getD []).toArray⟩:ByteArray)=S:=HS.out.symm;rw[b1]at c1;rw[b2]at c2;have HN:Hid (Au (w1.setCell ⟨p,0,none⟩ (.string ⟨(l.drop k).toArray⟩)) p (some (l.drop k))∧Aa (fun j=>j=p) w (w1.setCell ⟨p,0,none⟩ (.string ⟨(l.drop k).toArray⟩))):=by
    have h2:=Alf w1 p 0 _ _ (.string ⟨(l.drop k).toArray⟩) hr1;refine⟨?_,hk1.setCell (.inr rfl) _⟩;unfold Au;rw[h2];rfl
   clear hr1 hk1 hn c0 b1 b2;go_wp2_with fail;go_ret;rw[hz]at HX;rw[HX.out.1,HX.out.2];exact⟨rfl,HN.out.1,HN.out.2⟩
  ·have hdec:decide ((k:Int)≤(l.length:Int))=false:=Ald (by omega);have hn:=Hy p (some l) false w hr;have e0:C6 (some l) false=none:=rfl;rw[e0]at hn;have HT:Hid (A5 (some l) k=([],none)):=Ko hle;rw[HT.out];clear hr hS hS' e0 hl
   go_enter Tryz.func64,Tryz.ntmps64
   go_wp2_with fail;refine hn.mono ?_;rintro e w1 ⟨rfl,hr1,hk1⟩;have c1:=hr1.bad;have b1:(none:Hm.Rd).isNone=true:=rfl;rw[b1]at c1;have H1:Hid (Au w1 p none∧Aa (fun j=>j=p) w w1):=⟨hr1,hk1⟩;clear hr1 hk1 hn c0;go_wp2_with fail;go_ret;exact⟨rfl,H1.out.1,H1.out.2⟩
theorem Py(a b:Nat)(ha:a<9223372036854775808)(hb:b<9223372036854775808):bits .or .i64 (a:Int) (b:Int)=((a|||b:Nat):Int):=by
 have hx:a|||b<2^63:=Nat.or_lt_two_pow (by omega) (by omega);have h1:(BitVec.ofInt 64 (a:Int)).toNat=a:=by rw[Ao6,BitVec.toNat_ofNat];exact Anb (by omega)
 have h2:(BitVec.ofInt 64 (b:Int)).toNat=b:=by rw[Ao6,BitVec.toNat_ofNat];exact Anb (by omega)
 show IntKind.i64.wrap ((BitVec.ofInt 64 (a:Int)|||BitVec.ofInt 64 (b:Int)).toNat:Int)=_;rw[BitVec.toNat_or,h1,h2,Al9];omega
theorem Pz(b k:Nat)(h:b*2^k<9223372036854775808):wrap64 ((b:Int)*2^k)=((b*2^k:Nat):Int):=by
 have e:((b*2^k:Nat):Int)=(b:Int)*2^k:=by simp
 rw[←e];generalize b*2^k=y at*;unfold wrap64;omega
namespace Hm
theorem Uu(a b k:Nat)(h:a<2^k):a|||b*2^k=a+b*2^k:=by
 rw[Aoj b,Nat.or_comm,←Nat.two_pow_add_eq_or_of_lt h,Nat.add_comm]
theorem Ae7(l:List UInt8)(k:Nat)(h:k<l.length):C0 (l.take (k+1))=C0 (l.take k)+l[k].toNat*2^(8*k):=by
 rw[List.take_add_one,Q9,Ak7 h];have e:(l.take k).length=k:=by simp;omega
 have e2:(256:Nat)^k=2^(8*k):=by rw[Nat.pow_mul]
 simp only[Option.toList,C0,e,e2,Nat.mul_zero,Aon];rw[Aoj]
end Hm
set_option maxHeartbeats 1000000 in
theorem J8(p:Nat)(st:Hm.Rd)(k:Nat)(w:World)(hr:Au w p st)(hl:Bb st≤4611686018427387904)(hk:k≤4):
  Calls Tryz.prog 65 #[.pointer (some ⟨p,0,none⟩),.int .i64 k] w fun e w'=>e= .returned (.int .i64 ((Bu st k).1:Nat))∧Au w' p (Bu st k).2∧Aa (fun j=>j=p) w w':=by
 have ht:=K0 p st k w hr hl (by omega);have hTl:=Lg st k;unfold Bu;obtain⟨T,hT⟩: ∃T,T=(A5 st k).1:=⟨_,rfl⟩;rw[←hT]at ht hTl⊢;have hp:=hr.lt;obtain⟨S,hS⟩: ∃S,S=(⟨T.toArray⟩:ByteArray):=⟨_,rfl⟩;have hSz:S.size=T.length:=by rw[hS];show T.toArray.size=_;simp
 have hSl:S.data.toList=T:=by rw[hS]
 rw[←hS]at ht;have hcv:=fun W=>Lib.run_convert_string_bytes (P:=Tryz.prog) W 9 79 5 S Tryz.underlying9 Tryz.underlying79 Tryz.underlying5;rw[hSz]at hcv;clear hT hS hr
 go_enter Tryz.func65,Tryz.ntmps65
 go_wp2_with fail;refine ht.mono ?_;rintro e w1 ⟨rfl,hr1,hk1⟩;have hcw:=hcv w1;obtain⟨cp,hcp⟩: ∃c,c=grownCap w1 T.length 0 5:=⟨_,rfl⟩;rw[←hcp]at hcw;have HC:Hid (∀j,(h:j<T.length)→(Lib.bytesWorld w1 5 S).cell? ⟨w1.heap.size,j,none⟩=some (.int .u8 (T[j].toNat:Nat))):=fun j h=>by
  rw[Lib.bytesWorld_cell w1 5 S j (by omega),hSl,Ak6,Ak7 h];rfl
 have hk2:Apd w1 (Lib.bytesWorld w1 5 S):=
  ⟨rfl,rfl,rfl,by rw[Lib.bytesWorld_size];omega,fun k hk _=>Lib.bytesWorld_at_old w1 _ S k hk⟩
 have H1:Hid (Au (Lib.bytesWorld w1 5 S) p (A5 st k).2∧Aa (fun j=>j=p) w (Lib.bytesWorld w1 5 S)):=
  ⟨hr1.kept hk2 id,hk1.trans hk2 (fun _ _ h=>h.elim)⟩
 obtain⟨W,hW⟩: ∃W,W=Lib.bytesWorld w1 5 S:=⟨_,rfl⟩;rw[←hW]at hcw HC H1;clear hcv hcp hW hr1 hk1 hk2 ht;go_wp2_with fail;try rw[hcw]
 go_wp2_with fail
 go_loopw[5,13] (fun vn vi wr=> ∃j:Nat,j≤T.length∧vi= .int .i64 j∧vn= .int .i64 (C0 (T.take j):Nat)∧wr=W) (fun _ vi _=>T.length-(intOf vi).toNat)
 case atStart=>exact⟨0,by omega,rfl,rfl,rfl⟩
 case round=>
  obtain⟨j,hj,rfl,rfl,rfl⟩:=hrel
  by_cases hlt:j<T.length
  ·have hc:=HC.out j hlt;have hb:=T[j].toNat_lt;have hlb:=Lw (T.take j);have hjl:(T.take j).length=j:=by simp;omega
   rw[hjl,show(256:Nat)^j=2^(8*j)from by rw[Nat.pow_mul]]at hlb;have HT:Hid (C0 (T.take (j+1))=C0 (T.take j)+T[j].toNat*2^(8*j)):=Ae7 T j hlt;obtain⟨b,hbe⟩: ∃b,b=T[j].toNat:=⟨_,rfl⟩;obtain⟨a,hae⟩: ∃a,a=C0 (T.take j):=⟨_,rfl⟩;rw[←hbe]at hc hb HT;rw[←hae]at hlb HT⊢;have hpw:(2:Nat)^(8*j)≤16777216:=Am2 (n:=2) (i:=8*j) (j:=24) (by omega) (by omega);have hbm:b*2^(8*j)≤255*16777216:=Amk (by omega) hpw;have HSH:Hid (wrap64 ((b:Int)*2^(8*j))=((b*2^(8*j):Nat):Int)):=Pz b (8*j) (Amx hbm (by decide));have HOR:Hid (bits .or .i64 (a:Int) ((b*2^(8*j):Nat):Int)=((a+b*2^(8*j):Nat):Int)):=by
    show _=_;rw[Py _ _ (Amp hlb (Al2 hpw (by decide))) (Amx hbm (by decide)),Uu _ _ _ hlb]
   clear hpw hbm hlb;clear hae hbe hjl;go_wp2_with fail;exact⟨⟨j+1,by omega,by go_num,by rw[HSH.out,HOR.out,HT.out],trivial⟩,by simp[intOf];omega⟩
  ·obtain rfl:j=T.length:=by omega
   go_wp2_with fail;go_ret;rw[Ama];exact⟨rfl,H1.out.1,H1.out.2⟩
namespace Hm
def Gm(f:Nat→Bool)(a:Nat):Nat→Nat
 |0=>0
 |k+1=>Gm f a k+(f (a+k)).toNat*2^k
theorem Uv(f:Nat→Bool)(a:Nat): ∀k,Gm f a k<2^k
 |0=>by simp[Gm]
 |k+1=>by
  have h1:=Uv f a k;have h2:(f (a+k)).toNat*2^k≤1*2^k:=Amk (Jq _) (Ale _);rw[Gm,Amv];omega
end Hm
theorem Ae8(y:Nat)(hy:y<256):Go.bits .and .u8 (y:Int) 1=((y%2:Nat):Int):=by
 have h1:(BitVec.ofInt 8 (y:Int)).toNat=y:=by rw[Ao6,BitVec.toNat_ofNat];exact Anb (by omega)
 show IntKind.u8.wrap ((BitVec.ofInt 8 (y:Int)&&&BitVec.ofInt 8 1).toNat:Int)=_;rw[BitVec.toNat_and,h1];have h2:(BitVec.ofInt 8 1).toNat=1:=by decide
 rw[h2,Nat.and_one_is_mod];have:y%2<2:=Nat.mod_lt _ (by omega);simp[IntKind.wrap,IntKind.signed,IntKind.bits];omega
set_option maxHeartbeats 400000 in
theorem Xg(pb o p:Nat)(s:ByteArray)(w:World)(h:w.cell? ⟨pb,o,none⟩=some (.string s))(hp:p<8*s.size)(hs:s.size≤100000000):
  Calls Tryz.prog 123 #[.pointer (some ⟨pb,o,none⟩),.int .i64 p] w fun e w'=>e= .returned (.int .i64 ((Ak s.data.toList p).toNat:Nat))∧w'=w:=by
 obtain⟨q,hq⟩: ∃q,q=p/8:=⟨_,rfl⟩;obtain⟨r,hr⟩: ∃r,r=p%8:=⟨_,rfl⟩;have zq:(p:Int)/8=(q:Int):=by omega
 have zr:(p:Int)%8=(r:Int):=by omega
 have hqs:q<s.size:=by omega
 have hr8:r<8:=by omega
 have hg:s.data.toList.getD q 0=s[q]:=by
  rw[Ak6,Ak7 (by simpa using hqs)];rfl
 have HB:Hid ((Ak s.data.toList p).toNat=s[q].toNat/2^r%2):=by
  show _=_;unfold Ak;rw[←hq,←hr,hg];rcases Aoy (s[q].toNat/2^r)with h|h<;>rw[h]<;>rfl
 have hbl:=s[q].toNat_lt;obtain⟨b,hb⟩: ∃b,b=s[q].toNat:=⟨_,rfl⟩;rw[←hb]at HB hbl;have hdl:b/2^r<256:=Amx (Anu _ _) hbl;have hand:=Ae8 (b/2^r) hdl;have HAND:Hid _:=hand;clear hq hr hg hand
 go_enter Tryz.func123,Tryz.ntmps123
 go_wp2;go_ret;refine⟨?_,rfl⟩;show Ending.returned (.int .i64 (wrap64 (Go.bits .and .u8 ((s[q].toNat:Int)/2^r) 1)))=_;have e1:(s[q].toNat:Int)/2^r=((b/2^r:Nat):Int):=by rw[hb];simp
 have e2:wrap64 ((b/2^r%2:Nat):Int)=((b/2^r%2:Nat):Int):=by unfold wrap64;omega
 rw[e1,HAND.out,HB.out,e2]
set_option maxHeartbeats 1000000 in
theorem Aaw(pb o a k:Nat)(s:ByteArray)(w:World)(h:w.cell? ⟨pb,o,none⟩=some (.string s))(hp:a+k≤8*s.size)(hs:s.size≤100000000)(hk:k≤40):
  Calls Tryz.prog 128 #[.pointer (some ⟨pb,o,none⟩),.int .i64 a,.int .i64 k] w fun e w'=>e= .returned (.int .i64 (Gm (Ak s.data.toList) a k:Nat))∧w'=w:=by
 have HB:Hid (∀p,p<8*s.size→Calls Tryz.prog 123 #[.pointer (some ⟨pb,o,none⟩),.int .i64 (p:Nat)] w fun e w'=>e= .returned (.int .i64 ((Ak s.data.toList p).toNat:Nat))∧w'=w):=fun p hp=>Xg pb o p s w h hp hs;clear h
 go_enter Tryz.func128,Tryz.ntmps128
 go_wp2
 go_loopw[7,10] (fun vn vi wr=> ∃j:Nat,j≤k∧vi= .int .i64 j∧vn= .int .i64 (Gm (Ak s.data.toList) a j:Nat)∧wr=w) (fun _ vi _=>k-(intOf vi).toNat)
 case atStart=>exact⟨0,by omega,rfl,rfl,rfl⟩
 case round=>
  obtain⟨j,hj,rfl,rfl,rfl⟩:=hrel
  by_cases hlt:j<k
  ·have hbit:=HB.out (a+j) (by omega);have hlb:=Uv (Ak s.data.toList) a j;have hpw:(2:Nat)^j≤1099511627776:=Am2 (n:=2) (i:=j) (j:=40) (by omega) (by omega);have hb1:=Jq (Ak s.data.toList (a+j));have HT:Hid (Gm (Ak s.data.toList) a (j+1)=Gm (Ak s.data.toList) a j+(Ak s.data.toList (a+j)).toNat*2^j):=rfl;obtain⟨b,hbe⟩: ∃b,b=(Ak s.data.toList (a+j)).toNat:=⟨_,rfl⟩;obtain⟨x,hxe⟩: ∃x,x=Gm (Ak s.data.toList) a j:=⟨_,rfl⟩;rw[←hbe]at hbit hb1 HT;rw[←hxe]at hlb HT⊢;have hbm:b*2^j≤1*1099511627776:=Amk hb1 hpw;have HSH:Hid (wrap64 ((b:Int)*2^j)=((b*2^j:Nat):Int)):=Pz b j (Amx hbm (by decide));have HOR:Hid (Go.bits .or .i64 (x:Int) ((b*2^j:Nat):Int)=((x+b*2^j:Nat):Int)):=by
    show _=_;rw[Py _ _ (Amp hlb (Al2 hpw (by decide))) (Amx hbm (by decide)),Uu _ _ _ hlb]
   clear hbe hxe hbm hpw hlb hb1;go_wp2_with fail;refine hbit.mono ?_;rintro e w1 ⟨rfl,rfl⟩;go_wp2_with fail;exact⟨⟨j+1,by omega,by go_num,by rw[HSH.out,HOR.out,HT.out],trivial⟩,by simp[intOf];omega⟩
  ·obtain rfl:j=k:=by omega
   go_wp2_with fail;go_ret;exact⟨rfl,rfl⟩
namespace Hm
abbrev RS:=Nat×Bool
def Cb(s:List UInt8)(st:RS)(k:Nat):Nat×RS:=if s.length<st.1+k then(0,(st.1,true))else(C0 ((s.drop st.1).take k),(st.1+k,st.2))
def D4(s:List UInt8)(st:RS)(n:Nat):List UInt8×RS:=if st.2=true∨s.length<st.1+n then([],(st.1,true))else((s.drop st.1).take n,(st.1+n,false))
theorem Lx(s:List UInt8)(st:RS)(k:Nat)(h:st.1≤s.length):(Cb s st k).2.1≤s.length:=by
 unfold Cb;split
 ·exact h
 ·show st.1+k≤_;omega
theorem Uw(s:List UInt8)(st:RS)(n:Nat)(h:st.1≤s.length):(D4 s st n).2.1≤s.length:=by
 unfold D4;split
 ·exact h
 ·show st.1+n≤_;omega
theorem Ae9(l:List UInt8)(i:Nat)(h:i<l.length):C0 (l.drop i)=l[i].toNat+256*C0 (l.drop (i+1)):=by
 rw[Al4 h];rfl
end Hm
def Cg(w:World)(p:Nat)(s:List UInt8)(st:Hm.RS):Prop:=w.heap[p]?=some (.cells #[.string ⟨s.toArray⟩,.int .i64 (st.1:Nat),.bool st.2] 145 (0,0))
set_option maxHeartbeats 1000000 in
theorem Hz(p k:Nat)(s:List UInt8)(st:Hm.RS)(w:World)(h:Cg w p s st)(hk:k≤2)(hst:st.1≤s.length)(hs:s.length≤30000):
  Calls Tryz.prog 73 #[.pointer (some ⟨p,0,none⟩),.int .i64 k] w fun e w'=>e= .returned (.int .i64 ((Cb s st k).1:Nat))∧Cg w' p s (Cb s st k).2∧Aa (fun j=>j=p) w w':=by
 obtain⟨at',bad⟩:=st;obtain⟨S,hS⟩: ∃S,S=(⟨s.toArray⟩:ByteArray):=⟨_,rfl⟩;have hSs:S.size=s.length:=by rw[hS];show s.toArray.size=_;simp
 have hSd:S.data.toList=s:=by rw[hS]
 have h':=h;unfold Cg at h';rw[←hS]at h';have c0:w.cell? ⟨p,0,none⟩=some (.string S):=Alc _ _ 0 _ _ _ h';have c1:w.cell? ⟨p,1,none⟩=some (.int .i64 (at':Nat)):=Alc _ _ 1 _ _ _ h';have c2:w.cell? ⟨p,2,none⟩=some (.bool bad):=Alc _ _ 2 _ _ _ h';have f1:w.frozen? ⟨p,1,none⟩=false:=Alk _ _ 1 _ _ h';have f2:w.frozen? ⟨p,2,none⟩=false:=Alk _ _ 2 _ _ h';have hat:at'≤s.length:=hst;have HB:Hid (w.heap[p]?=some (.cells #[.string S,.int .i64 (at':Nat),.bool bad] 145 (0,0))):=h';have HS:Hid (S=(⟨s.toArray⟩:ByteArray)∧S.data.toList=s):=⟨hS,hSd⟩;have hw1:IntKind.i64.wrap ((at':Int)+(k:Int))=((at'+k:Nat):Int):=by rw[Al9];omega
 by_cases hlt:s.length<at'+k
 ·have hr:Cb s (at',bad) k=(0,(at',true)):=if_pos hlt;rw[hr];have hd:decide ((s.length:Int)<((at'+k:Nat):Int))=true:=Alb (by omega);have hd2:decide (s.length<at'+k)=true:=Alb (by omega);clear h h' hS hSd hst hr;obtain⟨y,hy⟩: ∃y,y=at'+k:=⟨_,rfl⟩;rw[←hy]at hd hd2 hw1;clear hy
  go_enter Tryz.func73,Tryz.ntmps73
  go_wp2_with fail;go_quiet(fail);go_wp2_with fail;go_ret;have hb:=Alf (w.drewN nq) p 2 _ _ (.bool true) HB.out;refine⟨rfl,?_,((Aa.refl (fun j=>j=p) w).drewN nq).setCell (p:=⟨p,2,none⟩) (.inr rfl) _⟩;unfold Cg;rw[←HS.out.1];exact hb
 ·have hr:Cb s (at',bad) k=(C0 ((s.drop at').take k),(at'+k,bad)):=if_neg hlt;rw[hr];obtain⟨l,hl⟩: ∃l,l=(s.drop at').take k:=⟨_,rfl⟩;have hll:l.length=k:=by rw[hl,Aln,Amb];omega
  rw[←hl];have HL:Hid (∀i,(h:i<k)→ ∃q,q=at'+i∧ ∃hq:q<S.size,S[q]=l[i]):=fun i hi=>by
   have h1:at'+i<S.size:=by omega
   refine⟨at'+i,rfl,h1,?_⟩;have e:S.data.toList[at'+i]?=l[i]?:=by rw[hSd,hl,List.getElem?_take,if_pos hi,List.getElem?_drop]
   rw[Ak7 (l:=l) (by omega),Array.getElem?_toList,Array.getElem?_eq_getElem (show at'+i<S.data.size from h1)]at e;exact Al1 e
  have hd:decide ((s.length:Int)<((at'+k:Nat):Int))=false:=Ald (by omega);have hd2:decide (s.length<at'+k)=false:=Ald (by omega);have HLL:Hid (l.length=k):=hll;clear h h' hS hSd hst hr hl;obtain⟨y,hy⟩: ∃y,y=at'+k:=⟨_,rfl⟩;rw[←hy]at hd hd2 hw1⊢;have zy:(at':Int)+(k:Int)=(y:Int):=by omega
  clear hy
  go_enter Tryz.func73,Tryz.ntmps73
  go_wp2_with fail;go_quiet(fail);go_wp2_with fail
  go_loopw[5,6] (fun v5 v6 wr=> ∃j:Nat,j≤k∧v6= .int .i64 ((j:Int)-1)∧v5= .int .i64 (C0 (l.drop j):Nat)∧Apd w wr) (fun _ v6 _=>(intOf v6+1).toNat)
  case atStart=>exact⟨k,Ale _,by first|rfl|go_num,by rw[List.drop_of_length_le (by rw[HLL.out];exact Ale _)];rfl,(Aa.refl _ _).drewN _⟩
  case round=>
   obtain⟨j,hj,rfl,rfl,hkr⟩:=hrel;have hbr:=hkr.row HB.out id;have d0:wr.cell? ⟨p,0,none⟩=some (.string S):=Alc _ _ 0 _ _ _ hbr;have d1:wr.cell? ⟨p,1,none⟩=some (.int .i64 (at':Nat)):=Alc _ _ 1 _ _ _ hbr;have e1:wr.frozen? ⟨p,1,none⟩=false:=Alk _ _ 1 _ _ hbr;have HR:Hid (wr.heap[p]?=some (.cells #[.string S,.int .i64 (at':Nat),.bool bad] 145 (0,0))∧Apd w wr):=⟨hbr,hkr⟩;clear hbr hkr c0 c1 c2 f1 f2;cases j with
   |zero=>
    have hv:((0:Nat):Int)-1= -1:=rfl;rw[hv,List.drop_zero];go_wp2_with fail;go_ret;have hb:=Alf wr p 1 _ _ (.int .i64 (y:Nat)) HR.out.1;refine⟨rfl,?_,(HR.out.2.wider (T:=fun j=>j=p) (fun _ _ h=>h.elim)).setCell (p:=⟨p,1,none⟩) (.inr rfl) _⟩;unfold Cg;rw[←HS.out.1];exact hb
   |succ i=>
    have hv:((i+1:Nat):Int)-1=(i:Int):=by omega
    rw[hv];obtain⟨q,hq,hi1,hi2⟩:=HL.out i (by omega);have HNX:Hid (C0 (l.drop i)=l[i].toNat+256*C0 (l.drop (i+1))):=Ae9 l i (by have:=HLL.out;omega);have hvb:C0 (l.drop (i+1))<65536:=by
     have h1:=Lw (l.drop (i+1));rw[Amb]at h1;have h2:256^(l.length-(i+1))≤256^2:=Am2 (by omega) (by have:=HLL.out;omega);omega
    rw[←hi2]at HNX;have hwq:IntKind.i64.wrap ((at':Int)+(i:Int))=(q:Int):=by rw[Al9];omega
    have hqI:(q:Int)<(S.size:Int):=by omega
    have hqN:(q:Int)<(s.length:Int):=by omega
    have hbn:=S[q].toNat_lt;generalize C0 (l.drop (i+1))=v at*;have hwm:IntKind.i64.wrap (256*(v:Int))=((256*v:Nat):Int):=by rw[Al9];omega
    have hwa:IntKind.i64.wrap (((256*v:Nat):Int)+((S[q].toNat:Nat):Int))=((S[q].toNat+256*v:Nat):Int):=by rw[Al9];omega
    have hd0:decide ((0:Int)≤(i:Int))=true:=Alb (by omega);clear hq hi2;go_wp2_with fail;go_quiet(fail);go_wp2_with fail;go_roundw
    case rel=>exact⟨i,by omega,rfl,by rw[HNX.out];congr 1;omega,HR.out.2.drewN _⟩
    case measure=>simp[intOf]
set_option maxHeartbeats 1000000 in
theorem Yk(p n:Nat)(s:List UInt8)(st:Hm.RS)(w:World)(h:Cg w p s st)(hn:n≤1000000000)(hst:st.1≤s.length)(hs:s.length≤30000):
  Calls Tryz.prog 74 #[.pointer (some ⟨p,0,none⟩),.int .i64 n] w fun e w'=>e= .returned (.string ⟨(D4 s st n).1.toArray⟩)∧Cg w' p s (D4 s st n).2∧Aa (fun j=>j=p) w w':=by
 obtain⟨at',bad⟩:=st;obtain⟨S,hS⟩: ∃S,S=(⟨s.toArray⟩:ByteArray):=⟨_,rfl⟩;have hSs:S.size=s.length:=by rw[hS];show s.toArray.size=_;simp
 have h':=h;unfold Cg at h';rw[←hS]at h';have c0:w.cell? ⟨p,0,none⟩=some (.string S):=Alc _ _ 0 _ _ _ h';have c1:w.cell? ⟨p,1,none⟩=some (.int .i64 (at':Nat)):=Alc _ _ 1 _ _ _ h';have c2:w.cell? ⟨p,2,none⟩=some (.bool bad):=Alc _ _ 2 _ _ _ h';have f1:w.frozen? ⟨p,1,none⟩=false:=Alk _ _ 1 _ _ h';have f2:w.frozen? ⟨p,2,none⟩=false:=Alk _ _ 2 _ _ h';have hat:at'≤s.length:=hst;have HB:Hid (w.heap[p]?=some (.cells #[.string S,.int .i64 (at':Nat),.bool bad] 145 (0,0))):=h';have HS:Hid (S=(⟨s.toArray⟩:ByteArray)):=hS;have hw1:IntKind.i64.wrap ((at':Int)+(n:Int))=((at'+n:Nat):Int):=by rw[Al9];omega
 by_cases hbad:bad=true∨s.length<at'+n
 ·have hr:D4 s (at',bad) n=([],(at',true)):=if_pos hbad;rw[hr];have hE:(⟨([]:List UInt8).toArray⟩:ByteArray)=⟨#[]⟩:=rfl;rw[hE];clear h h' hS hst hr;obtain⟨y,hy⟩: ∃y,y=at'+n:=⟨_,rfl⟩;rw[←hy]at hw1 hbad;clear hy;cases bad with
  |true=>
   clear hbad hw1
   go_enter Tryz.func74,Tryz.ntmps74
   go_wp2_with fail;go_quiet(fail);go_wp2_with fail;go_ret;have hb:=Alf (w.drewN nq) p 2 _ _ (.bool true) HB.out;refine⟨rfl,?_,((Aa.refl (fun j=>j=p) w).drewN nq).setCell (p:=⟨p,2,none⟩) (.inr rfl) _⟩;unfold Cg;rw[←HS.out];exact hb
  |false=>
   have hlt:s.length<y:=hbad.resolve_left (by simp);have hd:decide ((s.length:Int)<(y:Int))=true:=Alb (by omega);have hd2:decide (s.length<y)=true:=Alb hlt;clear hbad
   go_enter Tryz.func74,Tryz.ntmps74
   go_wp2_with fail;go_quiet(fail);go_wp2_with fail;go_ret;have hb:=Alf (w.drewN nq) p 2 _ _ (.bool true) HB.out;refine⟨rfl,?_,((Aa.refl (fun j=>j=p) w).drewN nq).setCell (p:=⟨p,2,none⟩) (.inr rfl) _⟩;unfold Cg;rw[←HS.out];exact hb
 ·have hr:D4 s (at',bad) n=((s.drop at').take n,(at'+n,false)):=if_neg hbad;rw[hr];have hbf:bad=false:=by cases bad with|false=>rfl|true=>exact absurd (.inl rfl) hbad
  subst hbf;have hle: ¬s.length<at'+n:=fun h=>hbad (.inr h);have HE:Hid (S.extract at' (at'+n)=⟨((s.drop at').take n).toArray⟩):=by
   show _=_;apply An1;apply Am6;rw[hS];simp only[Aom,Aos,Anz,Aof]
  clear h h' hS hst hr hbad;obtain⟨y,hy⟩: ∃y,y=at'+n:=⟨_,rfl⟩;rw[←hy]at hw1 HE hle⊢;have zy:(at':Int)+(n:Int)=(y:Int):=by omega
  have zn:IntKind.i64.wrap ((y:Int)-(n:Int))=(at':Int):=by rw[Al9];omega
  have hd:decide ((s.length:Int)<(y:Int))=false:=Ald (by omega);have hd2:decide (s.length<y)=false:=Ald hle;have hyl:y≤s.length:=by omega
  have hay:at'≤y:=by omega
  have hylI:(y:Int)≤(s.length:Int):=by omega
  have hayI:(at':Int)≤(y:Int):=by omega
  clear hy
  go_enter Tryz.func74,Tryz.ntmps74
  go_wp2_with fail;go_quiet(fail);go_wp2_with fail;have hb:=Alf (w.drewN nq) p 1 _ _ (.int .i64 (y:Nat)) HB.out;have hkx:Aa (fun j=>j=p) w ((w.drewN nq).setCell ⟨p,1,none⟩ (.int .i64 (y:Nat))):=((Aa.refl (fun j=>j=p) w).drewN nq).setCell (p:=⟨p,1,none⟩) (.inr rfl) _;generalize(w.drewN nq).setCell ⟨p,1,none⟩ (.int .i64 (y:Nat))=W2 at*;have d0:W2.cell? ⟨p,0,none⟩=some (.string S):=Alc _ _ 0 _ _ _ hb;have d1:W2.cell? ⟨p,1,none⟩=some (.int .i64 (y:Nat)):=Alc _ _ 1 _ _ _ hb;have HW:Hid (Cg W2 p s (y,false)∧Aa (fun j=>j=p) w W2):=⟨by unfold Cg;rw[←HS.out];exact hb,hkx⟩;clear hb hkx c0 c1 c2 f1 f2;go_quiet(fail);go_wp2_with fail;go_ret;exact⟨by rw[←HE.out];rfl,HW.out.1,HW.out.2.drewN _⟩
end Go.Proofs.YtegnkfdbmmndaaaGreat
namespace Go.Proofs.YtegnkfdbmmndaaaGreat
open Hm
namespace Hm
def Iu(s:Nat):Nat:=if s%2=1 then(s/2)^^^3988292384 else s/2
def Dy:Nat→Nat→Nat
 |0,s=>s
 |k+1,s=>Iu (Dy k s)
def Sz(s b:Nat):Nat:=Dy 8 (s^^^b)
def Fh(l:List UInt8):Nat:=l.foldl (fun s b=>Sz s b.toNat) 4294967295
def crc(l:List UInt8):Nat:=Fh l^^^4294967295
theorem Ly{a b:Nat}(ha:a<4294967296)(hb:b<4294967296):a^^^b<4294967296:=by
 have:=Nat.xor_lt_two_pow (n:=32) (x:=a) (y:=b) (by omega) (by omega);omega
theorem Ac0{s:Nat}(h:s<4294967296):Iu s<4294967296:=by
 unfold Iu;split
 ·exact Ly (by omega) (by omega)
 ·omega
theorem Oz(k:Nat){s:Nat}(h:s<4294967296):Dy k s<4294967296:=by
 induction k with
 |zero=>exact h
 |succ k ih=>exact Ac0 ih
theorem Afa{s b:Nat}(h:s<4294967296)(hb:b<4294967296):Sz s b<4294967296:=Oz 8 (Ly h hb)
theorem Afb(l:List UInt8): ∀s,s<4294967296→l.foldl (fun s b=>Sz s b.toNat) s<4294967296:=by
 induction l with
 |nil=>intro s h;exact h
 |cons b l ih=>
  intro s h;exact ih _ (Afa h (by have:=b.toNat_lt;omega))
theorem Ra(l:List UInt8):Fh l<4294967296:=Afb l _ (by omega)
theorem Vj(l:List UInt8):crc l<4294967296:=Ly (Ra l) (by omega)
theorem Ac1(l:List UInt8)(b:UInt8):Fh (l++[b])=Sz (Fh l) b.toNat:=by
 simp[Fh,List.foldl_append]
theorem To(l:List UInt8)(k:Nat)(h:k<l.length):Fh (l.take (k+1))=Dy 8 (Fh (l.take k)^^^l[k].toNat):=by
 rw[Ali h,Ac1];rfl
end Hm
end Go.Proofs.YtegnkfdbmmndaaaGreat
namespace Go.Proofs.YtegnkfdbmmndaaaGreat
open Hm
open Go.RowKit
theorem Aiw(s:Nat)(h:s<4294967296):bits .and .u32 (s:Int) 1=((s%2:Nat):Int):=by
 have:=u32_and_nat s 1 h (by omega);rw[Nat.and_one_is_mod]at this;exact this
set_option maxHeartbeats 400000 in
theorem Aep(b off n c:Nat)(bs:List UInt8)(w:World)(hn:n=bs.length)(hb:n≤1000000)(hc: ∀j,j<n→w.cell? ⟨b,off+j,none⟩=some (.int .u8 (bs.getD j 0).toNat)):
  Calls Tryz.prog 106 #[.slice (some ⟨b,off,none⟩) n c] w fun e w'=>e= .returned (.int .u32 (Hm.crc bs:Nat))∧w'=w:=by
 have HN:Hid (n=bs.length):=hn;have hn':n≤bs.length:=by omega
 clear hn
 go_enter Tryz.func106,Tryz.ntmps106
 go_wp2
 go_loop [3,9] (fun s i=> ∃k:Nat,k≤n∧i= .int .i64 k∧s= .int .u32 (Fh (bs.take k):Nat)) (fun _ i=>n-(intOf i).toNat)
 case atStart=>exact⟨0,Alr _,rfl,rfl⟩
 case round=>
  obtain⟨k,hk,rfl,rfl⟩:=hrel;have hlr:=Ra (bs.take k)
  by_cases hlt:k<n
  ·obtain⟨y,hcell,hby,HT⟩: ∃y:Nat,w.cell? ⟨b,off+k,none⟩=some (.int .u8 (y:Int))∧y<256∧Hid (Fh (bs.take (k+1))=Dy 8 (Fh (bs.take k)^^^y)):=by
    have hkl:k<bs.length:=by omega
    refine⟨bs[k].toNat,?_,bs[k].toNat_lt,To bs k hkl⟩;rw[hc k hlt];simp[hkl]
   clear hc;generalize Fh (bs.take k)=r0 at hlr HT⊢;have hxor:bits .xor .u32 (r0:Int) (y:Int)=((r0^^^y:Nat):Int):=u32_xor_nat _ _ hlr (by omega);go_wp2
   go_loop [3,17] (fun s i=> ∃j:Nat,j≤8∧i= .int .i64 j∧s= .int .u32 (Dy j (r0^^^y):Nat)) (fun _ i=>8-(intOf i).toNat)
   case atStart=>exact⟨0,Alr _,rfl,rfl⟩
   case round=>
    obtain⟨j,hj,rfl,rfl⟩:=hrel;have hst:Dy j (r0^^^y)<4294967296:=Oz j (Ly hlr (by omega));have HS:Hid (Dy (j+1) (r0^^^y)=Iu (Dy j (r0^^^y))):=rfl
    by_cases hlt8:j<8
    ·generalize Dy j (r0^^^y)=s0 at hst HS⊢;have ha:=Aiw s0 hst;have hx2:bits .xor .u32 ((s0:Int)/2) 3988292384=((s0/2^^^3988292384:Nat):Int):=u32_xor_nat (s0/2) 3988292384 (by omega) (by omega);go_wp2
     ·go_round
      case rel=>
       have hb1:((s0:Int)%2==1)=true:=by assumption
       have hb2:s0%2=1:=by simp at hb1;omega
       refine⟨j+1,by omega,by go_num,?_⟩;rw[HS.out,Iu,if_pos hb2]
      case measure=>simp[intOf];omega
     ·go_round
      case rel=>
       have hb1:((s0:Int)%2==1)=false:=by assumption
       have hb2: ¬s0%2=1:=by simp at hb1;omega
       refine⟨j+1,by omega,by go_num,?_⟩;rw[HS.out,Iu,if_neg hb2];go_num
      case measure=>simp[intOf];omega
    ·go_wp2
     go_round
     case rel=>
      obtain rfl:j=8:=by omega
      exact⟨k+1,by omega,by go_num,by rw[HT.out]⟩
     case measure=>simp[intOf];omega
  ·have hx3:bits .xor .u32 (Fh (bs.take k):Int) 4294967295=((Fh (bs.take k)^^^4294967295:Nat):Int):=u32_xor_nat _ 4294967295 hlr (by omega);clear hc;go_wp2;go_ret;refine⟨?_,rfl⟩;have hkn:bs.take k=bs:=Al8 (by have:=HN.out;omega);rw[hkn];rfl
end Go.Proofs.YtegnkfdbmmndaaaGreat
