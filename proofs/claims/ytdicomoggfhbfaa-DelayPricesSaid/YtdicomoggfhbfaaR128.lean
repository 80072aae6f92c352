import Derived.Test.YtdicomoggfhbfaaRows
import Derived.Test.YtdicomoggfhbfaaRw
import Derived.Test.YtdicomoggfhbfaaD24
import Derived.Test.YtdicomoggfhbfaaDjc16
import Derived.OpenShut
import Derived.Carry
namespace Go.Proofs.Ytdicomoggfhbfaa
open Go.ChangeShapes Go.WideShapes Go.ChangeAt Go.RowKit
set_option linter.constructorNameAsVariable false
theorem delayPrices_own:ownKnob Try.prog.godebug=none:=by kernel_rfl
theorem delayPrices_laid:laidOutB Try.prog=true:=by kernel_rfl
set_option maxHeartbeats 1000000 in
set_option maxRecDepth 100000 in
theorem delayPrices_lifted (os:Os) (started:os.Started) (H:Type) (enc:TypeId×Value→H) :
    ReturnsInHanded {} Try.checked os 6 .any (Rows.delayPricesSpec.pre6 enc Try.prog Try.f6 Rows.delayPricesRow.domain false) (Rows.delayPricesSpec.post enc Try.prog Try.f6 false true false false):=by
  refine returnsInHanded_of_change_sized (C:=Try.checked) delayPrices_own started (by kernel_rfl) Try.func6
    (ChangeSpec.witness6 (enc:=enc) (C:=Try.checked) false ⟨#[],#[.slice none 0 0,.slice none 0 0,.slice none 0 0,.int .i64 0],[]⟩ 8 (by kernel_rfl) (by kernel_rfl) (by kernel_rfl) (by kernel_rfl)) ?_
  intro W base args ds gs before hval0 hW _ hsz0 _
  have hsz:(DataW.weightsEach Try.prog (Try.f6.params.toList++Rows.delayPricesSpec.plain.varTypes Try.prog) (ds++gs)).all (·≤reachBytes)=true:=hsz0
  clear hsz0
  have hval:∀ (j:Nat) t v,Try.f6.params[j]?=some t→args[j]?=some v→Value.okWide Try.prog W .any base t v:=hval0
  have hW':=hW
  obtain ⟨p,q,hA0,hV,rfl,_,_⟩:=hW
  have hA:DataW.TrodAll enc Try.prog W 0 (fun _=>true) true Try.f6.params.toList args.toList ds p:=hA0
  rw [Try.params6] at hA hval hsz
  obtain ⟨rfl,rfl⟩:=trodVars_none hV
  have hvt:DataSpec.varTypes Try.prog Rows.delayPricesSpec.plain=[]:=by kernel_rfl
  rw [hvt,List.append_nil,List.append_nil] at hsz
  have hl:=hA
  obtain ⟨v0,vs0,d0,ds0,p0,q0,e0,g0,w0,h0,hl⟩:=trodAll_cons hl
  obtain ⟨v1,vs1,d1,ds1,p1,q1,e1,g1,w1,h1,hl⟩:=trodAll_cons hl
  obtain ⟨v2,vs2,d2,ds2,p2,q2,e2,g2,w2,h2,hl⟩:=trodAll_cons hl
  obtain ⟨v3,vs3,d3,ds3,p3,q3,e3,g3,w3,h3,hl⟩:=trodAll_cons hl
  obtain ⟨rfl,rfl,rfl⟩:=trodAll_nil hl
  subst g3; subst w3; subst e3
  subst g2; subst w2; subst e2
  subst g1; subst w1; subst e1
  subst g0; subst w0
  obtain rfl:args=#[v0,v1,v2,v3]:=Array.toList_inj.1 e0
  have hwt:∀ n∈DataW.weightsEach Try.prog [22,41,48,3] [d0,d1,d2,d3],n≤reachBytes:=fun n hn=>by
    simpa using List.all_eq_true.1 hsz n hn
  obtain ⟨x0,r0,k0⟩:=read_arg (η:=fun _=>.bool false) (τ:=.sl (.sl (.pair (.int .i64) .bool))) tab_ok (f:=9) tab_22 rfl (hval 0 22 v0 rfl rfl) h0 (fun n hn=>hwt n (weightsEach_at (j:=0) rfl rfl n hn))
  obtain ⟨x1,r1,k1⟩:=read_arg (η:=fun _=>.bool false) (τ:=.sl (.sl (.int .i64))) tab_ok (f:=9) tab_41 rfl (hval 1 41 v1 rfl rfl) h1 (fun n hn=>hwt n (weightsEach_at (j:=1) rfl rfl n hn))
  obtain ⟨x2,r2,k2⟩:=read_arg (η:=fun _=>.bool false) (τ:=.sl (.int .i64)) tab_ok (f:=9) tab_48 rfl (hval 2 48 v2 rfl rfl) h2 (fun n hn=>hwt n (weightsEach_at (j:=2) rfl rfl n hn))
  obtain ⟨x3,r3,k3⟩:=read_arg (η:=fun _=>.bool false) (τ:=.int .i64) tab_ok (f:=9) tab_3 rfl (hval 3 3 v3 rfl rfl) h3 (fun n hn=>hwt n (weightsEach_at (j:=3) rfl rfl n hn))
  have hlt:∀ z∈p0++p1++p2++p3,z.block<W.heap.size:=fun z hz=>hW'.lt z (by simpa using hz)
  refine (HC.row (hc_lineallaw09_DelayPrices x0 x1 x2 x3 (DelayPrices_eq x0 k0 x1 k1 x2 x3)) (η:=fun _=>.bool false) (RepVs.cons r0 (RepVs.cons r1 (RepVs.cons r2 (RepVs.cons r3 RepVs.nil))))).mono fun e W' ⟨he,hb⟩=>?_
  subst he
  have t0:=Below.trod delayPrices_laid (by kernel_rfl) (of_decide_eq_true (by kernel_rfl)) h0 hb (fun z hz=>hlt z (by simp [hz]))
  have t1:=Below.trod delayPrices_laid (by kernel_rfl) (of_decide_eq_true (by kernel_rfl)) h1 hb (fun z hz=>hlt z (by simp [hz]))
  have t2:=Below.trod delayPrices_laid (by kernel_rfl) (of_decide_eq_true (by kernel_rfl)) h2 hb (fun z hz=>hlt z (by simp [hz]))
  have t3:=Below.trod delayPrices_laid (by kernel_rfl) (of_decide_eq_true (by kernel_rfl)) h3 hb (fun z hz=>hlt z (by simp [hz]))
  refine ⟨_,rfl,_,_,_,[],(p0++(p1++(p2++(p3++[])))),[],hW',?_,?_,rfl,hb.frame _,fun h=>by cases h⟩
  · exact trodAll_mk1 (shut_bool Try.underlying4 true)
  · exact (trodAll_cons_mk t0 (trodAll_cons_mk t1 (trodAll_cons_mk t2 (trodAll_cons_mk t3 rfl))))
theorem delayPrices_holds:Rows.DelayPricesSaid :=
  OpenClaim.holds_of_wide 6 Try.f6 rfl rfl rfl rfl rfl rfl rfl ⟨rfl,rfl,rfl,rfl,rfl⟩ rfl rfl rfl rfl rfl (by kernel_rfl) Try.func6 (by kernel_rfl)
    (of_decide_eq_true (by kernel_rfl)) (by unfold Func.isWrapper; first|(rw [if_pos (by decide +kernel)]; kernel_rfl)|(rw [if_neg (by decide +kernel)]; exact ⟨rfl,rfl⟩))
    (fun os started H enc _=>delayPrices_lifted os started H enc)
end Go.Proofs.Ytdicomoggfhbfaa
