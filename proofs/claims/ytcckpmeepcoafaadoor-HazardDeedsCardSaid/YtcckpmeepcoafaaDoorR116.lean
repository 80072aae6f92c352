import Derived.Test.YtcckpmeepcoafaaDoorRows
import Derived.Test.YtcckpmeepcoafaaDoorHyL
import Derived.Test.YtcckpmeepcoafaaDoorCards
import Derived.Test.YtcckpmeepcoafaaDoorTie
import Derived.SevenTiedAt
import Derived.Test.YtcckpmeepcoafaaDoorHy12
import Derived.Test.YtcckpmeepcoafaaDoorHhc15
import Derived.OpenShut
import Derived.Carry
namespace Go.Proofs.YtcckpmeepcoafaaDoor
open Go.ChangeShapes Go.WideShapes Go.ChangeAt Go.RowKit
set_option linter.constructorNameAsVariable false
theorem hazardDeeds_own:ownKnob Tryd.prog.godebug=none:=by kernel_rfl
theorem hazardDeeds_laid:laidOutB Tryd.prog=true:=by kernel_rfl
set_option maxHeartbeats 1000000 in
set_option maxRecDepth 100000 in
theorem hazardDeeds_lifted (os:Os) (started:os.Started) (H:Type) (enc:TypeId×Value→H) :
    ReturnsInHanded {} Tryd.checked os 3 .any (fun w args=>(Rows.hazardDeedsSpec.pre enc Tryd.prog Tryd.f3 [] false w args∧laidMetH Tryd.prog laidF w)∧sizedMet enc Tryd.prog Tryd.f3 (OpenSpec.ofChange Rows.hazardDeedsSpec) false w args) (Rows.hazardDeedsSpec.post enc Tryd.prog Tryd.f3 false true false false):=by
  refine returnsInHanded_of_change_and (C:=Tryd.checked) (X:=fun w _=>laidMetH Tryd.prog laidF w) (fun _ _ _ hh h=>h.of_heap hh) hazardDeeds_own started (by kernel_rfl) Tryd.func3
    (ChangeSpec.witness_shaped (enc:=enc) (C:=Tryd.checked) (os:=os) (X:=fun w _=>laidMetH Tryd.prog laidF w) false (World.doorLaid Tryd.prog 14 os) #[.int .i64 0,.int .i64 0,.slice none 0 0] 8 rfl (World.shaped_of_RefB (by kernel_rfl) (by kernel_rfl)) (by kernel_rfl) (by kernel_rfl) (by kernel_rfl) (door_met os _)) ?_
  intro W base args ds gs before hval0 hW _ hsz0 hL _
  have hsz:(DataW.weightsEach Tryd.prog (Tryd.f3.params.toList++Rows.hazardDeedsSpec.plain.varTypes Tryd.prog) (ds++gs)).all (·≤reachBytes)=true:=hsz0
  clear hsz0
  have hval:∀ (j:Nat) t v,Tryd.f3.params[j]?=some t→args[j]?=some v→Value.okWide Tryd.prog W .any base t v:=hval0
  have hW':=hW
  obtain ⟨p,q,hA0,hV,rfl,_,_⟩:=hW
  have hA:DataW.TrodAll enc Tryd.prog W 0 (fun _=>true) true Tryd.f3.params.toList args.toList ds p:=hA0
  rw [Tryd.params3] at hA hval hsz
  obtain ⟨rfl,rfl⟩:=trodVars_none hV
  have hvt:DataSpec.varTypes Tryd.prog Rows.hazardDeedsSpec.plain=[]:=by kernel_rfl
  rw [hvt,List.append_nil,List.append_nil] at hsz
  have hl:=hA
  obtain ⟨v0,vs0,d0,ds0,p0,q0,e0,g0,w0,h0,hl⟩:=trodAll_cons hl
  obtain ⟨v1,vs1,d1,ds1,p1,q1,e1,g1,w1,h1,hl⟩:=trodAll_cons hl
  obtain ⟨v2,vs2,d2,ds2,p2,q2,e2,g2,w2,h2,hl⟩:=trodAll_cons hl
  obtain ⟨rfl,rfl,rfl⟩:=trodAll_nil hl
  subst g2; subst w2; subst e2
  subst g1; subst w1; subst e1
  subst g0; subst w0
  obtain rfl:args=#[v0,v1,v2]:=Array.toList_inj.1 e0
  have hwt:∀ n∈DataW.weightsEach Tryd.prog [3,3,22] [d0,d1,d2],n≤reachBytes:=fun n hn=>by
    simpa using List.all_eq_true.1 hsz n hn
  obtain ⟨x0,r0,k0⟩:=read_arg (η:=fun _=>.bool false) (τ:=.int .i64) tab_ok (f:=9) (show tyTab 3=some _ from rfl) rfl (hval 0 3 v0 rfl rfl) h0 (fun n hn=>hwt n (weightsEach_at (j:=0) rfl rfl n hn))
  obtain ⟨x1,r1,k1⟩:=read_arg (η:=fun _=>.bool false) (τ:=.int .i64) tab_ok (f:=9) (show tyTab 3=some _ from rfl) rfl (hval 1 3 v1 rfl rfl) h1 (fun n hn=>hwt n (weightsEach_at (j:=1) rfl rfl n hn))
  obtain ⟨x2,r2,k2⟩:=read_arg (η:=fun _=>.bool false) (τ:=.sl (.pair (.int .i64) (.pair (.int .i64) (.pair (.int .i64) (.int .i64))))) tab_ok (f:=9) (show tyTab 22=some _ from rfl) rfl (hval 2 22 v2 rfl rfl) h2 (fun n hn=>hwt n (weightsEach_at (j:=2) rfl rfl n hn))
  have hlt:∀ z∈p0++p1++p2,z.block<W.heap.size:=fun z hz=>hW'.lt z (by simpa using hz)
  refine (HC.row (hc_lineallaw06_HazardDeeds x0 x1 x2 (HazardDeeds_eq x0 x1 x2)) (η:=fun _=>.bool false) (glob_of_laid hL) (RepVs.cons r0 (RepVs.cons r1 (RepVs.cons r2 RepVs.nil)))).mono fun e W' ⟨he,hb⟩=>?_
  subst he
  have t0:=Below.trod hazardDeeds_laid (by kernel_rfl) (of_decide_eq_true (by kernel_rfl)) h0 hb (fun z hz=>hlt z (by simp [hz]))
  have t1:=Below.trod hazardDeeds_laid (by kernel_rfl) (of_decide_eq_true (by kernel_rfl)) h1 hb (fun z hz=>hlt z (by simp [hz]))
  have t2:=Below.trod hazardDeeds_laid (by kernel_rfl) (of_decide_eq_true (by kernel_rfl)) h2 hb (fun z hz=>hlt z (by simp [hz]))
  refine ⟨_,rfl,_,_,_,[],(p0++(p1++(p2++[]))),[],hW',?_,?_,rfl,hb.frame _,fun h=>by cases h⟩
  · exact trodAll_mk1 (shut_bool Tryd.underlying4 true)
  · exact (trodAll_cons_mk t0 (trodAll_cons_mk t1 (trodAll_cons_mk t2 rfl)))
theorem hazardDeeds_holds:Rows.HazardDeedsSaid :=
  OpenClaim.holds_of_wide 3 Tryd.f3 rfl rfl rfl rfl rfl rfl rfl ⟨rfl,rfl,rfl,rfl,rfl⟩ rfl rfl rfl rfl rfl (by kernel_rfl) Tryd.func3 (by kernel_rfl)
    (of_decide_eq_true (by kernel_rfl)) (by unfold Func.isWrapper; first|(rw [if_pos (by decide +kernel)]; kernel_rfl)|(rw [if_neg (by decide +kernel)]; exact ⟨rfl,rfl⟩))
    (fun os started H enc _=>hazardDeeds_lifted os started H enc)
theorem hazardDeeds_card:Rows.HazardDeedsCardSaid :=
  Claim7.holds_tied_plain_at .later [] [.data] true Rows.hazardDeedsCard.stood.harness false
    hazardDeeds_holds (fun _ h=>by cases h) (by kernel_rfl) (fun _ h=>by cases h) hazardDeeds_row_tie rfl ⟨rfl,rfl⟩ (by kernel_rfl) rfl
    (fun f fn hf hfn=>by
      obtain rfl:f=3:=Option.some.inj ((show Tryd.prog.funcNamed "lineal/lineallaw06.HazardDeeds"=some 3 by kernel_rfl).symm.trans hf) |>.symm
      obtain rfl:fn=Tryd.f3:=(Option.some.inj (Tryd.func3.symm.trans hfn)).symm
      exact ⟨by kernel_rfl,fun j t ht=>by
        rw [Tryd.params3] at ht
        have hm:t∈[3,3,22]:=by simpa using Array.mem_of_getElem? ht
        have hall:([3,3,22].all fun u=>!Tryd.prog.wantsStandIn u)=true:=by kernel_rfl
        exact (show Tryd.prog.wantsStandIn t=false by simpa using List.all_eq_true.1 hall t hm)⟩)
    (by kernel_rfl)
end Go.Proofs.YtcckpmeepcoafaaDoor
