import Derived.Test.YtegnkfdbmmndaaaGreatK28
import Derived.Carry
import Derived.Deep.CondSized

set_option maxHeartbeats 8000000
set_option maxRecDepth 100000
/- All is proved for all files, texts and scripts of bulk at most 1048576: the call returns true, never panics, and leaves what it was given as it was. The names in these texts were shortened by a program (the size of a claim is bounded); the texts that a reader would want are the verifier's, in wip/hoard. -/
namespace Go.Proofs.YtegnkfdbmmndaaaGreat.all
open Hm Go.Proofs.Tryz
open Go.ChangeShapes Go.WideShapes Go.ChangeAt Go.RowKit
theorem own:ownKnob prog.godebug=none:=by kernel_rfl
theorem laidOut:laidOutB prog=true:=by kernel_rfl
theorem lifted(os:Os)(m:os.Started)(H:Type)(enc:TypeId×Value->H)(F:Stop.Interp):
  ReturnsInHanded {} Tryz.checked os 10 .any ((Rows.OpenSpec.upto Rows.allSpec).pre6 enc prog Tryz.f10 Rows.allUptoRow.domain false) (((Rows.OpenSpec.upto Rows.allSpec).at F).post enc prog Tryz.f10 false true false false):=by
 refine returnsInHanded_of_cond_sized (C:=Tryz.checked) (s:=Rows.OpenSpec.upto Rows.allSpec) (k:=Rows.uptoSmall) rfl own m (by kernel_rfl) func10
  (OpenSpec.witness (enc:=enc) (C:=Tryz.checked) (s:=Rows.OpenSpec.upto Rows.allSpec) (k:=Rows.uptoSmall) rfl false ⟨#[],#[.slice none 0 0,.slice none 0 0,.slice none 0 0],[]⟩ 8 (by kernel_rfl) (by kernel_rfl) (by kernel_rfl)
   (x:=([.nil,.nil,.nil],[],[])) (by kernel_rfl) rfl (by kernel_rfl)) ?_
 intro W base d ds gs P l hW ag hk w _;have g: ∀(j:Nat) t v,Tryz.f10.params[j]?=some t->d[j]?=some v->Value.okWide prog W .any base t v:=l;have y:=hW;obtain⟨p,q,K,X,rfl,ap,ar⟩:=hW;have hA:DataW.TrodAll enc prog W 0 (fun _=>true) true Tryz.f10.params.toList d.toList ds p:=K;have B:(DataW.weightsEach prog (Tryz.f10.params.toList++Rows.allSpec.plain.varTypes prog) (ds++gs)).all (· <=reachBytes)=true:=w;rw[params10]at hA g B;obtain⟨R,aw,d0,al,p0,q0,Y,rfl,rfl,h0,r0⟩:=trodAll_cons hA;obtain⟨S,ax,d1,am,p1,q1,rfl,rfl,rfl,h1,r1⟩:=trodAll_cons r0;obtain⟨T,ay,U,an,p2,q2,rfl,rfl,rfl,h2,r2⟩:=trodAll_cons r1;obtain⟨rfl,rfl,rfl⟩:=trodAll_nil r2;obtain rfl:d= #[R,S,T]:=by cases d;simp_all
 obtain⟨rfl,rfl⟩:=trodVars_none X;have A: ∀x∈(p0++(p1++p2)),x.block<W.heap.size:=fun x D=>by simpa using y.lt x (by simpa using D)
 have r: ∀n∈d0.weights prog 22,n<=reachBytes:=fun n hn=>by
  have:=List.all_eq_true.1 B n (DataW.weights_mem_each (j:=0) rfl rfl n hn);simpa using this
 have u: ∀n∈d1.weights prog 26,n<=reachBytes:=fun n hn=>by
  have:=List.all_eq_true.1 B n (DataW.weights_mem_each (j:=1) rfl rfl n hn);simpa using this
 have Z:Rows.uptoBulk U<=1048576:=by
  have h:Rows.uptoBulkAll ([d0,d1,U]++[])<=1048576:=Aay hk;simp only[Abe,Rows.uptoBulkAll]at h;omega
 have O:Calls prog 10 #[R,S,T] W fun e w'=>e= .returned (.bool true)/\Aee W w':=by
  obtain⟨E,c1,N,rfl,hr,o⟩:=yB (g 1 26 S rfl rfl) h1;obtain⟨G,c2,qs,rfl,hq,L,M⟩:=oB (g 2 51 T rfl rfl) h2 Z;rcases rX (g 0 22 R rfl rfl) h0 with rfl|⟨a,c,fs,rfl,Q,hs⟩
  ·exact pM none E G 0 c1 c2 [] N qs W (fun V _=>sU V) (fun i hi=>by simp at hi) (zZ _) (fun f Q=>by cases Q) hr (o u).1 (o u).2 hq L M
  ·exact pM (some a) E G c c1 c2 fs N qs W (fun V X=>sV a c fs V (Q.kept X (fun _ _=>id)) (hs r).1 (hs r).2) Q (by have:=(hs r).1;omega) (hs r).2 hr (o u).1 (o u).2 hq L M
 clear K l w;simp only[Abe]at y;refine O.mono fun e W' ⟨he,hg⟩=>?_;subst he;have hb:=hg.below (zK _) (fun _ _=>id);have z:DataW.TrodAll enc prog W' 0 (fun b=>decide (b<W.heap.size)) true [22,26,51] [R,S,T] [d0,d1,U] (p0++(p1++p2)):=by
  have h:=(trodAll_cons_mk (Below.trod laidOut (by kernel_rfl) (Aay (by kernel_rfl)) h0 hb (fun x D=>A x (Acs _ D))) (trodAll_cons_mk (Below.trod laidOut (by kernel_rfl) (Aay (by kernel_rfl)) h1 hb (fun x D=>A x (List.mem_append_right _ (Acs _ D)))) (trodAll_cons_mk (Below.trod laidOut (by kernel_rfl) (Aay (by kernel_rfl)) h2 hb (fun x D=>A x (List.mem_append_right _ (List.mem_append_right _ D)))) trodAll_mk0)));simpa only[Abe]using h
 exact⟨_,rfl,_,_,_,[],(p0++(p1++p2)),[],y,trodAll_cons_mk (shut_bool underlying4 _) trodAll_mk0,z,rfl,hb.frame _,fun h=>by cases h⟩
theorem over:Rows.allUptoRow.holds Tryz.pinned (Rows.OpenSpec.upto Rows.allSpec):=
 OpenClaim.holds_of_cond 10 Tryz.f10 rfl rfl rfl rfl rfl rfl rfl ⟨rfl,rfl,rfl,rfl,rfl⟩ rfl rfl rfl rfl rfl (by kernel_rfl) func10 (by kernel_rfl)
  (Aay (by kernel_rfl)) (by unfold Func.isWrapper;first|(rw[if_pos (by decide+kernel)];kernel_rfl)|(rw[if_neg (by decide+kernel)];exact⟨rfl,rfl⟩))
  (fun os a H b _ F=>lifted os a H b F)
theorem proved:Rows.AllUptoSaid:=
 over
#print axioms proved
end Go.Proofs.YtegnkfdbmmndaaaGreat.all
