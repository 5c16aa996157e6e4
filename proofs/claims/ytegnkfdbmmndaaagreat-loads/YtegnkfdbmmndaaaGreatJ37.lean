import Derived.Test.YtegnkfdbmmndaaaGreatJ00
import Derived.Test.YtegnkfdbmmndaaaGreatJ36
import Derived.Test.YtegnkfdbmmndaaaGreatRows
import Derived.Carry

/- Loads is proved whole: for every list of texts the call returns true, never panics, and leaves what it was given as it was; no condition. The names in these texts were shortened by a program (the size of a claim is bounded); the texts that a reader would want are the verifier's, in wip/hoard. -/
namespace Go.Proofs.YtegnkfdbmmndaaaGreat.loads
open Hm
open Go.ChangeShapes Go.WideShapes Go.ChangeAt Go.RowKit
theorem own:ownKnob Tryz.prog.godebug=none:=by kernel_rfl
theorem laidOut:laidOutB Tryz.prog=true:=by kernel_rfl
set_option maxRecDepth 100000 in
theorem lifted(os:Os)(started:os.Started)(H:Type)(enc:TypeId×Value→H):
  ReturnsInHanded {} Tryz.checked os 4 .any (Rows.loadsSpec.pre6 enc Tryz.prog Tryz.f4 Rows.loadsRow.domain false) (Rows.loadsSpec.post enc Tryz.prog Tryz.f4 false true false false):=by
 refine returnsInHanded_of_change_sized (C:=Tryz.checked) own started (by kernel_rfl) Tryz.func4
  (ChangeSpec.witness6 (enc:=enc) (C:=Tryz.checked) false ⟨#[],#[.slice none 0 0],[]⟩ 8 (by kernel_rfl) (by kernel_rfl) (by kernel_rfl) (by kernel_rfl)) ?_
 intro W base args ds gs before hval0 hW hcnd hsz0 _;have hval: ∀(j:Nat) t v,Tryz.f4.params[j]?=some t→args[j]?=some v→Value.okWide Tryz.prog W .any base t v:=hval0;have hW':=hW;obtain⟨p,q,hA0,hV,rfl,hfz,hnd⟩:=hW;have hA:DataW.TrodAll enc Tryz.prog W 0 (fun _=>true) true Tryz.f4.params.toList args.toList ds p:=hA0;have hsz:(DataW.weightsEach Tryz.prog (Tryz.f4.params.toList++Rows.loadsSpec.plain.varTypes Tryz.prog) (ds++gs)).all (· ≤reachBytes)=true:=hsz0;rw[Tryz.params4]at hA hval hsz;obtain⟨v0,vs0,d0,ds0,p0,q0,hargs,rfl,rfl,h0,r0⟩:=trodAll_cons hA;obtain⟨rfl,rfl,rfl⟩:=trodAll_nil r0;obtain rfl:args= #[v0]:=by cases args;simp_all
 obtain⟨rfl,rfl⟩:=trodVars_none hV;have hlt: ∀x∈p0,x.block<W.heap.size:=fun x hx=>by simpa using hW'.lt x (by simpa using hx)
 have hw0: ∀n∈d0.weights Tryz.prog 26,n≤reachBytes:=fun n hn=>by
  have:=List.all_eq_true.1 hsz n (DataW.weights_mem_each (j:=0) rfl rfl n hn);simpa using this
 have walk:Calls Tryz.prog 4 #[v0] W fun e w'=>e= .returned (.bool true)∧Apd W w':=by
  obtain⟨ao0,c0,raw0,rfl,hr0,hrs0⟩:=Aka (hval 0 26 v0 rfl rfl) h0;exact Ait ao0 c0 raw0 W hr0 (hrs0 hw0).1 (hrs0 hw0).2
 clear hA0 hval0 hsz0;simp only[Am4]at hW';refine walk.mono fun e W' ⟨he,hg⟩=>?_;subst he;have hb:=hg.below (Ale _) (fun _ _=>id);have hback:DataW.TrodAll enc Tryz.prog W' 0 (fun b=>decide (b<W.heap.size)) true [26] [v0] [d0] p0:=by
  have h:=(trodAll_cons_mk (Below.trod laidOut (by kernel_rfl) (Amm (by kernel_rfl)) h0 hb (fun x hx=>hlt x hx)) trodAll_mk0);simpa only[Am4]using h
 exact⟨_,rfl,_,_,_,[],p0,[],hW',trodAll_cons_mk (shut_bool Tryz.underlying4 _) trodAll_mk0,hback,rfl,hb.frame _,fun h=>by cases h⟩
theorem over:Rows.loadsRow.holds Tryz.pinned (OpenSpec.ofChange Rows.loadsSpec):=
 OpenClaim.holds_of_wide 4 Tryz.f4 rfl rfl rfl rfl rfl rfl rfl ⟨rfl,rfl,rfl,rfl,rfl⟩ rfl rfl rfl rfl rfl (by kernel_rfl) Tryz.func4 (by kernel_rfl)
  (Amm (by kernel_rfl)) (by unfold Func.isWrapper;first|(rw[if_pos (by decide+kernel)];kernel_rfl)|(rw[if_neg (by decide+kernel)];exact⟨rfl,rfl⟩))
  (fun os started H enc _=>lifted os started H enc)
theorem proved:Rows.LoadsSaid:=
 over
#print axioms proved
end Go.Proofs.YtegnkfdbmmndaaaGreat.loads
