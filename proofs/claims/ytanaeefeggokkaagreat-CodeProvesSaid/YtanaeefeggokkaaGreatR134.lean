import Derived.Test.YtanaeefeggokkaaGreatRows
import Derived.Test.YtanaeefeggokkaaGreatRw
import Derived.Test.YtanaeefeggokkaaGreatK21
import Derived.Test.YtanaeefeggokkaaGreatCqc18
import Derived.OpenShut
import Derived.Carry
namespace Go.Proofs.YtanaeefeggokkaaGreat
open Go.ChangeShapes Go.WideShapes Go.ChangeAt Go.RowKit
set_option linter.constructorNameAsVariable false
theorem a8u:ownKnob Tryz.prog.godebug=none:=by kernel_rfl
theorem a1q:laidOutB Tryz.prog=true:=by kernel_rfl
set_option maxHeartbeats 1000000 in
set_option maxRecDepth 100000 in
theorem a59 (os:Os) (started:os.Started) (H:Type) (enc:TypeId×Value→H) :
    ReturnsInHanded {} Tryz.checked os 5 .any (Rows.codeProvesSpec.pre6 enc Tryz.prog Tryz.f5 Rows.codeProvesRow.domain false) (Rows.codeProvesSpec.post enc Tryz.prog Tryz.f5 false true false false):=by
  refine returnsInHanded_of_change_sized (C:=Tryz.checked) a8u started (by kernel_rfl) Tryz.func5
    (ChangeSpec.witness6 (enc:=enc) (C:=Tryz.checked) false ⟨#[],#[.agg #[.int .i64 0,.int .i64 0,.slice none 0 0,.slice none 0 0,.slice none 0 0,.slice none 0 0],.slice none 0 0,.slice none 0 0],[]⟩ 8 (by kernel_rfl) (by kernel_rfl) (by kernel_rfl) (by kernel_rfl)) ?_
  intro W base args ds gs before hval0 hW _ hsz0 _;have hsz:(DataW.weightsEach Tryz.prog (Tryz.f5.params.toList++Rows.codeProvesSpec.plain.varTypes Tryz.prog) (ds++gs)).all (·≤reachBytes)=true:=hsz0
  clear hsz0
  have hval:∀ (j:Nat) t v,Tryz.f5.params[j]?=some t→args[j]?=some v→Value.okWide Tryz.prog W .any base t v:=hval0;have hW':=hW;obtain ⟨p,q,hA0,hV,rfl,_,_⟩:=hW;have hA:DataW.TrodAll enc Tryz.prog W 0 (fun _=>true) true Tryz.f5.params.toList args.toList ds p:=hA0;rw [Tryz.params5] at hA hval hsz;obtain ⟨rfl,rfl⟩:=trodVars_none hV;have hvt:DataSpec.varTypes Tryz.prog Rows.codeProvesSpec.plain=[]:=by kernel_rfl
  rw [hvt,List.append_nil,List.append_nil] at hsz;have hl:=hA;obtain ⟨v0,vs0,d0,ds0,p0,q0,e0,g0,w0,h0,hl⟩:=trodAll_cons hl;obtain ⟨v1,vs1,d1,ds1,p1,q1,e1,g1,w1,h1,hl⟩:=trodAll_cons hl;obtain ⟨v2,vs2,d2,ds2,p2,q2,e2,g2,w2,h2,hl⟩:=trodAll_cons hl;obtain ⟨rfl,rfl,rfl⟩:=trodAll_nil hl;subst g2; subst w2; subst e2;subst g1; subst w1; subst e1;subst g0; subst w0;obtain rfl:args=#[v0,v1,v2]:=Array.toList_inj.1 e0;have hwt:∀ n∈DataW.weightsEach Tryz.prog [27,41,41] [d0,d1,d2],n≤reachBytes:=fun n hn=>by
    simpa using List.all_eq_true.1 hsz n hn
  obtain ⟨x0,r0,k0⟩:=a79 (η:=fun _=>.bool false) (τ:=.pair (.pair (.int .i64) (.pair (.int .i64) (.pair (.sl (.sl (.int .i64))) (.sl (.sl (.int .i64)))))) (.pair (.sl (.sl (.pair (.int .i64) (.pair (.int .i64) (.pair (.int .i64) (.int .i64)))))) (.sl (.sl (.int .i64))))) m7 (f:=9) b5m rfl (hval 0 27 v0 rfl rfl) h0 (fun n hn=>hwt n (a0r (j:=0) rfl rfl n hn));obtain ⟨x1,r1,k1⟩:=a79 (η:=fun _=>.bool false) (τ:=.sl (.int .u8)) m7 (f:=9) b1Y rfl (hval 1 41 v1 rfl rfl) h1 (fun n hn=>hwt n (a0r (j:=1) rfl rfl n hn));obtain ⟨x2,r2,k2⟩:=a79 (η:=fun _=>.bool false) (τ:=.sl (.int .u8)) m7 (f:=9) b1Y rfl (hval 2 41 v2 rfl rfl) h2 (fun n hn=>hwt n (a0r (j:=2) rfl rfl n hn));have hlt:∀ z∈p0++p1++p2,z.block<W.heap.size:=fun z hz=>hW'.lt z (by simpa using hz);refine (HC.row (a2c x0 x1 x2 (a8X x0 k0 x1 k1 x2 k2)) (η:=fun _=>.bool false) (d6.cons r0 (d6.cons r1 (d6.cons r2 d6.nil)))).mono fun e W' ⟨he,hb⟩=>?_;subst he;have t0:=Below.trod a1q (by kernel_rfl) (of_decide_eq_true (by kernel_rfl)) h0 hb (fun z hz=>hlt z (by simp [hz]));have t1:=Below.trod a1q (by kernel_rfl) (of_decide_eq_true (by kernel_rfl)) h1 hb (fun z hz=>hlt z (by simp [hz]));have t2:=Below.trod a1q (by kernel_rfl) (of_decide_eq_true (by kernel_rfl)) h2 hb (fun z hz=>hlt z (by simp [hz]));refine ⟨_,rfl,_,_,_,[],(p0++(p1++(p2++[]))),[],hW',?_,?_,rfl,hb.frame _,fun h=>by cases h⟩
  · exact trodAll_mk1 (shut_bool Tryz.underlying4 true)
  · exact (trodAll_cons_mk t0 (trodAll_cons_mk t1 (trodAll_cons_mk t2 rfl)))
theorem codeProves_holds:Rows.CodeProvesSaid :=
  OpenClaim.holds_of_wide 5 Tryz.f5 rfl rfl rfl rfl rfl rfl rfl ⟨rfl,rfl,rfl,rfl,rfl⟩ rfl rfl rfl rfl rfl (by kernel_rfl) Tryz.func5 (by kernel_rfl)
    (of_decide_eq_true (by kernel_rfl)) (by unfold Func.isWrapper; first|(rw [if_pos (by decide +kernel)]; kernel_rfl)|(rw [if_neg (by decide +kernel)]; exact ⟨rfl,rfl⟩))
    (fun os started H enc _=>a59 os started H enc)
end Go.Proofs.YtanaeefeggokkaaGreat
