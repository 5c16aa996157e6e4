import Derived.Test.YtegnkfdbmmndaaaGreatJ37
import Derived.Carry
import Derived.Deep.CondSized

set_option maxHeartbeats 8000000
/- Asks is proved for all files and scripts of bulk at most 1048576: the call returns true, never panics, and leaves what it was given as it was. The names in these texts were shortened by a program (the size of a claim is bounded); the texts that a reader would want are the verifier's, in wip/hoard. -/
namespace Go.Proofs.YtegnkfdbmmndaaaGreat.asks
open Hm Go.Proofs.Tryz
open Go.ChangeShapes Go.WideShapes Go.ChangeAt Go.RowKit
theorem own:ownKnob prog.godebug=none:=by kernel_rfl
theorem laidOut:laidOutB prog=true:=by kernel_rfl
set_option maxRecDepth 100000 in
theorem Aaj{H:Type}{enc:TypeId×Value→H}{W:World}{base:Nat}{v:Value}{d:DataW H}{ps:List MemPlace}(g:Value.okWide prog W .any base 22 v)
  (h:DataW.Trod enc prog W 0 (fun _=>true) true 22 v d ps) (e: ∀n∈d.weights prog 22,n≤reachBytes):
  ∃(ao:Arf) (c:Nat) (fs:List Hm.Fl),v= .slice ao fs.length c∧Ba W ao fs∧fs.length≤140737488355328∧ ∀f∈fs,f.1.size≤140737488355328∧f.2.size≤140737488355328:=by
 rcases Ain g h with rfl|⟨a,c,fs,rfl,b,hs⟩
 ·exact⟨none,0,[],rfl,fun i hi=>by simp at hi,Ann _,fun f b=>by cases b⟩
 ·exact⟨some a,c,fs,rfl,b,by have:=(hs e).1;omega,(hs e).2⟩
set_option maxRecDepth 100000 in
theorem lifted(os:Os)(started:os.Started)(H:Type)(enc:TypeId×Value→H)(F:Stop.Interp):
  ReturnsInHanded {} Tryz.checked os 7 .any ((Rows.OpenSpec.upto Rows.asksSpec).pre6 enc prog Tryz.f7 Rows.asksUptoRow.domain false) (((Rows.OpenSpec.upto Rows.asksSpec).at F).post enc prog Tryz.f7 false true false false):=by
 refine returnsInHanded_of_cond_sized (C:=Tryz.checked) (s:=Rows.OpenSpec.upto Rows.asksSpec) (k:=Rows.uptoSmall) rfl own started (by kernel_rfl) func7
  (OpenSpec.witness (enc:=enc) (C:=Tryz.checked) (s:=Rows.OpenSpec.upto Rows.asksSpec) (k:=Rows.uptoSmall) rfl false ⟨#[],#[.slice none 0 0,.slice none 0 0,.slice none 0 0],[]⟩ 8 (by kernel_rfl) (by kernel_rfl) (by kernel_rfl)
   (x:=([.nil,.nil,.nil],[],[])) (by kernel_rfl) rfl (by kernel_rfl)) ?_
 intro W base args ds gs before c L M hk d _;have a: ∀(j:Nat) t v,Tryz.f7.params[j]?=some t→args[j]?=some v→Value.okWide prog W .any base t v:=c;have f:=L;obtain⟨p,q,o,N,rfl,P,R⟩:=L;have hA:DataW.TrodAll enc prog W 0 (fun _=>true) true Tryz.f7.params.toList args.toList ds p:=o;have l:(DataW.weightsEach prog (Tryz.f7.params.toList++Rows.asksSpec.plain.varTypes prog) (ds++gs)).all (· ≤reachBytes)=true:=d;rw[params7]at hA a l;obtain⟨v0,vs0,d0,ds0,p0,q0,r,rfl,rfl,K,r0⟩:=trodAll_cons hA;obtain⟨v1,vs1,d1,ds1,p1,q1,rfl,rfl,rfl,h1,r1⟩:=trodAll_cons r0;obtain⟨v2,vs2,d2,ds2,p2,q2,rfl,rfl,rfl,h2,r2⟩:=trodAll_cons r1;obtain⟨rfl,rfl,rfl⟩:=trodAll_nil r2;obtain rfl:args= #[v0,v1,v2]:=by cases args;simp_all
 obtain⟨rfl,rfl⟩:=trodVars_none N;have i: ∀x∈(p0++(p1++p2)),x.block<W.heap.size:=fun x m=>by simpa using f.lt x (by simpa using m)
 have I: ∀n∈d0.weights prog 22,n≤reachBytes:=fun n hn=>by
  have:=List.all_eq_true.1 l n (DataW.weights_mem_each (j:=0) rfl rfl n hn);simpa using this
 have J: ∀n∈d1.weights prog 22,n≤reachBytes:=fun n hn=>by
  have:=List.all_eq_true.1 l n (DataW.weights_mem_each (j:=1) rfl rfl n hn);simpa using this
 have u:Rows.uptoBulk d2≤1048576:=by
  have h:Rows.uptoBulkAll ([d0,d1,d2]++[])≤1048576:=Aoc hk;simp only[Aow,Rows.uptoBulkAll]at h;omega
 have walk:Calls prog 7 #[v0,v1,v2] W fun e w'=>e= .returned (.bool true)∧Ara W w':=by
  obtain⟨ao0,c0,fs0,rfl,w,z,E⟩:=Aaj (a 0 22 v0 rfl rfl) K I;obtain⟨ao1,c1,fs1,rfl,y,A,G⟩:=Aaj (a 1 22 v1 rfl rfl) h1 J;obtain⟨ao2,c2,qs,rfl,S,B,D⟩:=Afz (a 2 51 v2 rfl rfl) h2 u;exact Al9 ao0 ao1 ao2 c0 c1 c2 fs0 fs1 qs W w y S z A E G B D
 clear o c d;simp only[Aow]at f;refine walk.mono fun e W' ⟨O,Q⟩=>?_;subst O;have hb:=Q.below (Ane _) (fun _ _=>id);have g:DataW.TrodAll enc prog W' 0 (fun b=>decide (b<W.heap.size)) true [22,22,51] [v0,v1,v2] [d0,d1,d2] (p0++(p1++p2)):=by
  have h:=(trodAll_cons_mk (Below.trod laidOut (by kernel_rfl) (Aoc (by kernel_rfl)) K hb (fun x m=>i x (Ap0 _ m))) (trodAll_cons_mk (Below.trod laidOut (by kernel_rfl) (Aoc (by kernel_rfl)) h1 hb (fun x m=>i x (List.mem_append_right _ (Ap0 _ m)))) (trodAll_cons_mk (Below.trod laidOut (by kernel_rfl) (Aoc (by kernel_rfl)) h2 hb (fun x m=>i x (List.mem_append_right _ (List.mem_append_right _ m)))) trodAll_mk0)));simpa only[Aow]using h
 exact⟨_,rfl,_,_,_,[],(p0++(p1++p2)),[],f,trodAll_cons_mk (shut_bool underlying4 _) trodAll_mk0,g,rfl,hb.frame _,fun h=>by cases h⟩
theorem over:Rows.asksUptoRow.holds Tryz.pinned (Rows.OpenSpec.upto Rows.asksSpec):=
 OpenClaim.holds_of_cond 7 Tryz.f7 rfl rfl rfl rfl rfl rfl rfl ⟨rfl,rfl,rfl,rfl,rfl⟩ rfl rfl rfl rfl rfl (by kernel_rfl) func7 (by kernel_rfl)
  (Aoc (by kernel_rfl)) (by unfold Func.isWrapper;first|(rw[if_pos (by decide+kernel)];kernel_rfl)|(rw[if_neg (by decide+kernel)];exact⟨rfl,rfl⟩))
  (fun os started H enc _ F=>lifted os started H enc F)
theorem proved:Rows.AsksUptoSaid:=
 over
#print axioms proved
end Go.Proofs.YtegnkfdbmmndaaaGreat.asks
