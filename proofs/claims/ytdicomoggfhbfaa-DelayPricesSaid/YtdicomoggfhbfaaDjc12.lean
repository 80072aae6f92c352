import Derived.Test.YtdicomoggfhbfaaDlp
import Derived.Test.YtdicomoggfhbfaaShd
import Derived.Test.YtdicomoggfhbfaaDjc10
import Derived.Test.YtdicomoggfhbfaaDjc11
import Derived.Test.YtdicomoggfhbfaaDjc3
import Derived.Test.YtdicomoggfhbfaaDjc5
namespace Go.Proofs.Ytdicomoggfhbfaa
open Go.RowKit
set_option linter.unusedSimpArgs false
set_option linter.unusedVariables false
set_option linter.constructorNameAsVariable false
set_option maxRecDepth 100000
set_option maxHeartbeats 40000000
theorem hc_slices_DeleteFunc_4 (s:List (List (Int×Int))) (c0:(List (List (Int×Bool)))×(List (Int×Int×Int))×(List (List Int))) {r:(List (List (Int×Int)))} (h:slices_DeleteFunc_4 s c0=some r):HC Try.prog 125 [(1000,.arr 42 (.sl (.pair (.int .i64) (.int .i64))) s),(1001,.box 103 [.sl (.sl (.pair (.int .i64) .bool)) c0.1,.sl Y0 c0.2.1,.sl (.sl (.int .i64)) c0.2.2])] [.own 1000,.fn (.func 128) [] [.bp 1001 0]] [(1001,.box 103 [.sl (.sl (.pair (.int .i64) .bool)) c0.1,.sl Y0 c0.2.1,.sl (.sl (.int .i64)) c0.2.2]),(2000,.arr 42 (.sl (.pair (.int .i64) (.int .i64))) r)] (.own 2000):=by
 unfold slices_DeleteFunc_4 at h
 refine zH Try.func125 [.tmp 4] 42 ?_
 refine zo ?_
 refine zB [(0,.own 1000),(1,.fn (.func 128) [] [.bp 1001 0])] [(1000,.arr 42 (.sl (.pair (.int .i64) (.int .i64))) s),(1001,.box 103 [.sl (.sl (.pair (.int .i64) .bool)) c0.1,.sl Y0 c0.2.1,.sl (.sl (.int .i64)) c0.2.2])] ?_
 refine zo ?_
 refine zS 2 [(0,.own 1000),(1,.fn (.func 128) [] [.bp 1001 0]),(8,.own 1000),(9,.fn (.func 128) [] [.bp 1001 0])] [(1000,.arr 42 (.sl (.pair (.int .i64) (.int .i64))) s),(1001,.box 103 [.sl (.sl (.pair (.int .i64) .bool)) c0.1,.sl Y0 c0.2.1,.sl (.sl (.int .i64)) c0.2.2])] ?_
 obtain ⟨v0,hv1,h⟩:=Option.bind_eq_some_iff.1 h
 refine zC [] [(1000,1000),(1001,1001)] (hc_slices_IndexFunc_11 s c0 hv1) [(0,.own 1000),(1,.fn (.func 128) [] [.bp 1001 0]),(10,.int .i64 v0)] [(1000,.arr 42 (.sl (.pair (.int .i64) (.int .i64))) s),(1001,.box 103 [.sl (.sl (.pair (.int .i64) .bool)) c0.1,.sl Y0 c0.2.1,.sl (.sl (.int .i64)) c0.2.2])] ?_
 refine zB [(0,.own 1000),(1,.fn (.func 128) [] [.bp 1001 0]),(5,.int .i64 v0)] [(1000,.arr 42 (.sl (.pair (.int .i64) (.int .i64))) s),(1001,.box 103 [.sl (.sl (.pair (.int .i64) .bool)) c0.1,.sl Y0 c0.2.1,.sl (.sl (.int .i64)) c0.2.2])] ?_
 refine AW.seq ?_
 refine zo ?_
 refine zB [(0,.own 1000),(1,.fn (.func 128) [] [.bp 1001 0]),(5,.int .i64 v0),(12,.bool (decide (v0=(-1))))] [(1000,.arr 42 (.sl (.pair (.int .i64) (.int .i64))) s),(1001,.box 103 [.sl (.sl (.pair (.int .i64) .bool)) c0.1,.sl Y0 c0.2.1,.sl (.sl (.int .i64)) c0.2.2])] ?_
 refine zQ h (fun hb2 h=>?_) (fun hb2 h=>?_)
 ·refine zo ?_
  refine zB [(4,.own 1000)] [(1000,.arr 42 (.sl (.pair (.int .i64) (.int .i64))) s),(1001,.box 103 [.sl (.sl (.pair (.int .i64) .bool)) c0.1,.sl Y0 c0.2.1,.sl (.sl (.int .i64)) c0.2.2])] ?_
  refine zr ?_
  obtain rfl:=Option.some.inj h
  exact zR [] [] [(2000,1000)]
 ·refine zk ?_
  refine AW.have1 (fun b1:(List (List (Int×Int)))×Int=>slices_DeleteFunc_4_k1 b1=some r) (fun b1=>⟨fr [(0,.own 1000),(5,.int .i64 b1.2)],hpGet [(1000,.arr 42 (.sl (.pair (.int .i64) (.int .i64))) b1.1),(1001,.box 103 [.sl (.sl (.pair (.int .i64) .bool)) c0.1,.sl Y0 c0.2.1,.sl (.sl (.int .i64)) c0.2.2])],gt⟩) (fun b1 h=>?_) (fun hk_slices_DeleteFunc_4_k1=>?_)
  ·as_aux_lemma =>
    unfold slices_DeleteFunc_4_k1 at h
    refine zo ?_
    refine zS 2 [(0,.own 1000),(5,.int .i64 b1.2),(36,.own 1000),(37,.int .i64 b1.2)] [(1000,.arr 42 (.sl (.pair (.int .i64) (.int .i64))) b1.1),(1001,.box 103 [.sl (.sl (.pair (.int .i64) .bool)) c0.1,.sl Y0 c0.2.1,.sl (.sl (.int .i64)) c0.2.2])] ?_
    obtain ⟨c3,h⟩:=ck_some.1 h
    obtain ⟨c4,h⟩:=ck_some.1 h
    refine AO.sliceView tab_ok (by decide) rfl rfl tab_133 rfl tab_42 rfl rfl rfl (b1.2) ((b1.1.length:Int)) (by first|assumption|omega|(simp only [go_sem,hb2])<;>(with_reducible and_intros)<;>first|assumption|rfl|omega|(unfold maxLen; omega)) (by first|assumption|omega|(simp only [go_sem,hb2])<;>(with_reducible and_intros)<;>first|assumption|rfl|omega|(unfold maxLen; omega)) (by first|assumption|omega|(simp only [go_sem,hb2])<;>(with_reducible and_intros)<;>first|assumption|rfl|omega|(unfold maxLen; omega)) (.inr ⟨_,_,rfl,rfl⟩) (.inl ⟨rfl,rfl⟩) ?_
    refine zT [(0,.own 1000),(5,.int .i64 b1.2),(38,.vw 1000 1 b1.2.toNat ((b1.1.length:Int) - b1.2).toNat)] [(1000,.arr 42 (.sl (.pair (.int .i64) (.int .i64))) b1.1),(1001,.box 103 [.sl (.sl (.pair (.int .i64) .bool)) c0.1,.sl Y0 c0.2.1,.sl (.sl (.int .i64)) c0.2.2])] gt ?_
    obtain ⟨c5,h⟩:=ck_some.1 h
    obtain ⟨c6,h⟩:=ck_some.1 h
    refine AO.clearView tab_ok (by decide) rfl rfl rfl rfl rfl tab_133 rfl tab_42 rfl rfl rfl (by first|assumption|omega|(simp only [go_sem,hb2])<;>(with_reducible and_intros)<;>first|assumption|rfl|omega|(unfold maxLen; omega)) (by first|assumption|omega|(simp only [go_sem,hb2])<;>(with_reducible and_intros)<;>first|assumption|rfl|omega|(unfold maxLen; omega)) ?_
    refine zT [(0,.own 1000),(5,.int .i64 b1.2)] [(1000,.arr 42 (.sl (.pair (.int .i64) (.int .i64))) (((b1.1.take b1.2.toNat)++(List.replicate ((b1.1.length:Int) - b1.2).toNat ([]:List (Int×Int))))++(b1.1.drop (b1.2.toNat+((b1.1.length:Int) - b1.2).toNat)))),(1001,.box 103 [.sl (.sl (.pair (.int .i64) .bool)) c0.1,.sl Y0 c0.2.1,.sl (.sl (.int .i64)) c0.2.2])] gt ?_
    refine zB [(0,.own 1000),(5,.int .i64 b1.2)] [(1000,.arr 42 (.sl (.pair (.int .i64) (.int .i64))) (((b1.1.take b1.2.toNat)++(List.replicate ((b1.1.length:Int) - b1.2).toNat ([]:List (Int×Int))))++(b1.1.drop (b1.2.toNat+((b1.1.length:Int) - b1.2).toNat)))),(1001,.box 103 [.sl (.sl (.pair (.int .i64) .bool)) c0.1,.sl Y0 c0.2.1,.sl (.sl (.int .i64)) c0.2.2])] ?_
    refine zo ?_
    refine zS 2 [(39,.own 1000),(40,.int .i64 b1.2)] [(1000,.arr 42 (.sl (.pair (.int .i64) (.int .i64))) (((b1.1.take b1.2.toNat)++(List.replicate ((b1.1.length:Int) - b1.2).toNat ([]:List (Int×Int))))++(b1.1.drop (b1.2.toNat+((b1.1.length:Int) - b1.2).toNat)))),(1001,.box 103 [.sl (.sl (.pair (.int .i64) .bool)) c0.1,.sl Y0 c0.2.1,.sl (.sl (.int .i64)) c0.2.2])] ?_
    obtain ⟨c7,h⟩:=ck_some.1 h
    obtain ⟨c8,h⟩:=ck_some.1 h
    refine AO.sliceOwn tab_ok (by decide) (by decide) rfl rfl tab_133 rfl tab_42 rfl rfl rfl rfl (by first|assumption|omega|(simp only [go_sem,hb2])<;>(with_reducible and_intros)<;>first|assumption|rfl|omega|(unfold maxLen; omega)) (by first|assumption|omega|(simp only [go_sem,hb2])<;>(with_reducible and_intros)<;>first|assumption|rfl|omega|(unfold maxLen; omega)) ?_
    refine zT [(41,.own 41)] [(41,.arr 42 (.sl (.pair (.int .i64) (.int .i64))) ((((b1.1.take b1.2.toNat)++(List.replicate ((b1.1.length:Int) - b1.2).toNat ([]:List (Int×Int))))++(b1.1.drop (b1.2.toNat+((b1.1.length:Int) - b1.2).toNat))).take b1.2.toNat)),(1001,.box 103 [.sl (.sl (.pair (.int .i64) .bool)) c0.1,.sl Y0 c0.2.1,.sl (.sl (.int .i64)) c0.2.2])] gt ?_
    refine zB [(4,.own 41)] [(41,.arr 42 (.sl (.pair (.int .i64) (.int .i64))) ((((b1.1.take b1.2.toNat)++(List.replicate ((b1.1.length:Int) - b1.2).toNat ([]:List (Int×Int))))++(b1.1.drop (b1.2.toNat+((b1.1.length:Int) - b1.2).toNat))).take b1.2.toNat)),(1001,.box 103 [.sl (.sl (.pair (.int .i64) .bool)) c0.1,.sl Y0 c0.2.1,.sl (.sl (.int .i64)) c0.2.2])] ?_
    refine AW.ret ?_
    obtain rfl:=Option.some.inj h
    exact zR [] [] [(2000,41)]
  ·refine AW.seq ?_
   refine zo ?_
   obtain ⟨c9,h⟩:=ck_some.1 h
   refine zB [(0,.own 1000),(1,.fn (.func 128) [] [.bp 1001 0]),(5,.int .i64 v0),(6,.int .i64 (v0+1))] [(1000,.arr 42 (.sl (.pair (.int .i64) (.int .i64))) s),(1001,.box 103 [.sl (.sl (.pair (.int .i64) .bool)) c0.1,.sl Y0 c0.2.1,.sl (.sl (.int .i64)) c0.2.2])] ?_
   refine AW.block ?_
   obtain ⟨rv14,hw10,ho11⟩:=Option.bind_eq_some_iff.1 h
   refine AW.loopO (slices_DeleteFunc_4_b1 c0) (fun st1=>⟨fr [(0,.own 1000),(1,.fn (.func 128) [] [.bp 1001 0]),(5,.int .i64 st1.2.1),(6,.int .i64 st1.2.2)],hpGet [(1000,.arr 42 (.sl (.pair (.int .i64) (.int .i64))) st1.1),(1001,.box 103 [.sl (.sl (.pair (.int .i64) .bool)) c0.1,.sl Y0 c0.2.1,.sl (.sl (.int .i64)) c0.2.2])],gt⟩) (s,v0,(v0+1)) hw10 (zL [] [] []) ?_
   as_aux_lemma =>
    intro st1 x13 h hd12
    unfold slices_DeleteFunc_4_b1 at h
    refine AW.seq ?_
    refine zo ?_
    refine zB [(0,.own 1000),(1,.fn (.func 128) [] [.bp 1001 0]),(5,.int .i64 st1.2.1),(6,.int .i64 st1.2.2),(19,.bool (decide (st1.2.2<(st1.1.length:Int))))] [(1000,.arr 42 (.sl (.pair (.int .i64) (.int .i64))) st1.1),(1001,.box 103 [.sl (.sl (.pair (.int .i64) .bool)) c0.1,.sl Y0 c0.2.1,.sl (.sl (.int .i64)) c0.2.2])] ?_
    refine zQ h (fun hb15 h=>?_) (fun hb15 h=>?_)
    ·refine zk ?_
     refine AW.seq ?_
     refine AW.block ?_
     refine zo ?_
     obtain ⟨c16,h⟩:=ck_some.1 h
     obtain ⟨c17,h⟩:=ck_some.1 h
     refine zB [(0,.own 1000),(1,.fn (.func 128) [] [.bp 1001 0]),(5,.int .i64 st1.2.1),(6,.int .i64 st1.2.2),(7,.sl (.pair (.int .i64) (.int .i64)) (st1.1.getD st1.2.2.toNat []))] [(1000,.arr 42 (.sl (.pair (.int .i64) (.int .i64))) st1.1),(1001,.box 103 [.sl (.sl (.pair (.int .i64) .bool)) c0.1,.sl Y0 c0.2.1,.sl (.sl (.int .i64)) c0.2.2])] ?_
     refine zo ?_
     refine zS 2 [(0,.own 1000),(1,.fn (.func 128) [] [.bp 1001 0]),(5,.int .i64 st1.2.1),(6,.int .i64 st1.2.2),(7,.sl (.pair (.int .i64) (.int .i64)) (st1.1.getD st1.2.2.toNat [])),(26,.fn (.func 128) [] [.bp 1001 0]),(27,.sl (.pair (.int .i64) (.int .i64)) (st1.1.getD st1.2.2.toNat []))] [(1000,.arr 42 (.sl (.pair (.int .i64) (.int .i64))) st1.1),(1001,.box 103 [.sl (.sl (.pair (.int .i64) .bool)) c0.1,.sl Y0 c0.2.1,.sl (.sl (.int .i64)) c0.2.2])] ?_
     obtain ⟨v0_2,hv18,h⟩:=Option.bind_eq_some_iff.1 h
     refine zC [] [(1000,1001)] (hc_delay_offer_cheapest_1 (st1.1.getD st1.2.2.toNat []) c0 hv18) [(0,.own 1000),(1,.fn (.func 128) [] [.bp 1001 0]),(5,.int .i64 st1.2.1),(6,.int .i64 st1.2.2),(7,.sl (.pair (.int .i64) (.int .i64)) (st1.1.getD st1.2.2.toNat [])),(28,.bool v0_2)] [(1000,.arr 42 (.sl (.pair (.int .i64) (.int .i64))) st1.1),(1001,.box 103 [.sl (.sl (.pair (.int .i64) .bool)) c0.1,.sl Y0 c0.2.1,.sl (.sl (.int .i64)) c0.2.2])] ?_
     refine zB [(0,.own 1000),(1,.fn (.func 128) [] [.bp 1001 0]),(5,.int .i64 st1.2.1),(6,.int .i64 st1.2.2),(7,.sl (.pair (.int .i64) (.int .i64)) (st1.1.getD st1.2.2.toNat [])),(29,.bool (!v0_2))] [(1000,.arr 42 (.sl (.pair (.int .i64) (.int .i64))) st1.1),(1001,.box 103 [.sl (.sl (.pair (.int .i64) .bool)) c0.1,.sl Y0 c0.2.1,.sl (.sl (.int .i64)) c0.2.2])] ?_
     refine zQ h (fun hb19 h=>?_) (fun hb19 h=>?_)
     ·refine zo ?_
      obtain ⟨c20,h⟩:=ck_some.1 h
      obtain ⟨c21,h⟩:=ck_some.1 h
      refine zB [(0,.own 1000),(1,.fn (.func 128) [] [.bp 1001 0]),(5,.int .i64 st1.2.1),(6,.int .i64 st1.2.2)] [(1000,.arr 42 (.sl (.pair (.int .i64) (.int .i64))) (st1.1.set st1.2.1.toNat (st1.1.getD st1.2.2.toNat []))),(1001,.box 103 [.sl (.sl (.pair (.int .i64) .bool)) c0.1,.sl Y0 c0.2.1,.sl (.sl (.int .i64)) c0.2.2])] ?_
      refine AW.ops ?_
      obtain ⟨c22,h⟩:=ck_some.1 h
      refine zA [(0,.own 1000),(1,.fn (.func 128) [] [.bp 1001 0]),(5,.int .i64 (st1.2.1+1)),(6,.int .i64 st1.2.2)] [(1000,.arr 42 (.sl (.pair (.int .i64) (.int .i64))) (st1.1.set st1.2.1.toNat (st1.1.getD st1.2.2.toNat []))),(1001,.box 103 [.sl (.sl (.pair (.int .i64) .bool)) c0.1,.sl Y0 c0.2.1,.sl (.sl (.int .i64)) c0.2.2])] ?_
      refine ablock_n ?_
      refine athen_n ?_
      refine AW.ops ?_
      obtain ⟨c23,h⟩:=ck_some.1 h
      refine zA [(0,.own 1000),(1,.fn (.func 128) [] [.bp 1001 0]),(5,.int .i64 (st1.2.1+1)),(6,.int .i64 (st1.2.2+1))] [(1000,.arr 42 (.sl (.pair (.int .i64) (.int .i64))) (st1.1.set st1.2.1.toNat (st1.1.getD st1.2.2.toNat []))),(1001,.box 103 [.sl (.sl (.pair (.int .i64) .bool)) c0.1,.sl Y0 c0.2.1,.sl (.sl (.int .i64)) c0.2.2])] ?_
      obtain rfl:=Option.some.inj h
      exact ⟨_,rfl,zL [] [] []⟩
     ·refine zm ?_
      refine athen_n ?_
      refine AW.ops ?_
      obtain ⟨c24,h⟩:=ck_some.1 h
      refine zA [(0,.own 1000),(1,.fn (.func 128) [] [.bp 1001 0]),(5,.int .i64 st1.2.1),(6,.int .i64 (st1.2.2+1))] [(1000,.arr 42 (.sl (.pair (.int .i64) (.int .i64))) st1.1),(1001,.box 103 [.sl (.sl (.pair (.int .i64) .bool)) c0.1,.sl Y0 c0.2.1,.sl (.sl (.int .i64)) c0.2.2])] ?_
      obtain rfl:=Option.some.inj h
      exact ⟨_,rfl,zL [] [] []⟩
    ·refine AW.exit ?_
     refine athen_e ?_
     obtain rfl:=Option.some.inj h
     rw [← hd12 _ rfl] at ho11
     have h:=ho11
     refine athen_e ?_
     refine ablock_s ?_
     refine athen_n ?_
     exact AW.weaken (zL [] [] []) (hk_slices_DeleteFunc_4_k1 _ h)
theorem hc_delay_offer_cost (o:(List (List (Int×Bool)))×(List (Int×Int×Int))×(List (List Int))) (fences:List (Int×Int)) {r:Int} (h:delay_offer_cost o fences=some r):HC Try.prog 94 [] [.agg [.sl (.sl (.pair (.int .i64) .bool)) o.1,.sl Y0 o.2.1,.sl (.sl (.int .i64)) o.2.2],.sl (.pair (.int .i64) (.int .i64)) fences] [] (.int .i64 r):=by
 unfold delay_offer_cost at h
 refine zH Try.func94 [.tmp 4] 9 ?_
 refine zo ?_
 refine zB [(1,.sl (.pair (.int .i64) (.int .i64)) fences),(2,.bp 2 0)] [(2,.box 103 [.sl (.sl (.pair (.int .i64) .bool)) o.1,.sl Y0 o.2.1,.sl (.sl (.int .i64)) o.2.2])] ?_
 refine zo ?_
 refine zS 3 [(5,.sl (.pair (.int .i64) (.int .i64)) fences),(7,.sl (.sl (.int .i64)) o.2.2)] [] ?_
 obtain ⟨v0,hv1,h⟩:=Option.bind_eq_some_iff.1 h
 refine zC [] [] (hc_delay_costOf fences o.2.2 hv1) [(8,.int .i64 v0)] [] ?_
 refine zB [(4,.int .i64 v0)] [] ?_
 refine AW.ret ?_
 obtain rfl:=Option.some.inj h
 exact zR [] [] []
theorem hc_cmp_isNaN (x0:Int) {r:Unit} (h:cmp_isNaN x0=some r):HC Try.prog 149 [] [.int .i64 x0] [] (.bool false):=by
 unfold cmp_isNaN at h
 refine zH Try.func149 [.tmp 2] 6 ?_
 refine zo ?_
 refine zB [(0,.int .i64 x0)] [] ?_
 refine zo ?_
 refine zB [(2,.bool false)] [] ?_
 refine AW.ret ?_
 obtain rfl:=Option.some.inj h
 exact zR [] [] []
theorem hc_cmp_Compare (x0:Int) (y:Int) {r:Int} (h:cmp_Compare x0 y=some r):HC Try.prog 131 [] [.int .i64 x0,.int .i64 y] [] (.int .i64 r):=by
 unfold cmp_Compare at h
 refine zH Try.func131 [.tmp 4] 20 ?_
 refine zo ?_
 refine zB [(0,.int .i64 x0),(1,.int .i64 y)] [] ?_
 refine zo ?_
 refine zS 1 [(0,.int .i64 x0),(1,.int .i64 y),(7,.int .i64 x0)] [] ?_
 obtain ⟨v0,hv1,h⟩:=Option.bind_eq_some_iff.1 h
 refine zC [] [] (hc_cmp_isNaN x0 hv1) [(0,.int .i64 x0),(1,.int .i64 y),(8,.bool false)] [] ?_
 refine zB [(0,.int .i64 x0),(1,.int .i64 y),(5,.bool false)] [] ?_
 refine zo ?_
 refine zS 1 [(0,.int .i64 x0),(1,.int .i64 y),(5,.bool false),(9,.int .i64 y)] [] ?_
 obtain ⟨v0_2,hv2,h⟩:=Option.bind_eq_some_iff.1 h
 refine zC [] [] (hc_cmp_isNaN y hv2) [(0,.int .i64 x0),(1,.int .i64 y),(5,.bool false),(10,.bool false)] [] ?_
 refine zB [(0,.int .i64 x0),(1,.int .i64 y),(5,.bool false),(6,.bool false)] [] ?_
 refine AW.seq ?_
 refine zo ?_
 refine zB [(0,.int .i64 x0),(1,.int .i64 y),(6,.bool false),(11,.bool false)] [] ?_
 refine AW.cond (b:=false) rfl (fun hb3=>by cases hb3) (fun _=>?_)
 refine zk ?_
 refine AW.seq ?_
 refine zo ?_
 refine zB [(0,.int .i64 x0),(1,.int .i64 y),(13,.bool false)] [] ?_
 refine AW.cond (b:=false) rfl (fun hb4=>by cases hb4) (fun _=>?_)
 refine zk ?_
 refine AW.seq ?_
 refine zo ?_
 refine zB [(0,.int .i64 x0),(1,.int .i64 y),(16,.bool (decide (x0<y)))] [] ?_
 refine zQ h (fun hb5 h=>?_) (fun hb5 h=>?_)
 ·refine zo ?_
  refine zB [(4,.int .i64 (-1))] [] ?_
  refine zr ?_
  obtain rfl:=Option.some.inj h
  exact zR [] [] []
 ·refine zk ?_
  refine AW.seq ?_
  refine zo ?_
  refine zB [(19,.bool (decide (y<x0)))] [] ?_
  refine zQ h (fun hb6 h=>?_) (fun hb6 h=>?_)
  ·refine zo ?_
   refine zB [(4,.int .i64 1)] [] ?_
   refine zr ?_
   obtain rfl:=Option.some.inj h
   exact zR [] [] []
  ·refine zk ?_
   refine zo ?_
   refine zB [(4,.int .i64 0)] [] ?_
   refine AW.ret ?_
   obtain rfl:=Option.some.inj h
   exact zR [] [] []
theorem hc_delay_offer_cheapest_2 (a:List (Int×Int)) (b:List (Int×Int)) (a2:(List (List (Int×Bool)))×(List (Int×Int×Int))×(List (List Int))) {r:Int} (h:delay_offer_cheapest_2 a b a2=some r):HC Try.prog 130 [(1000,.box 103 [.sl (.sl (.pair (.int .i64) .bool)) a2.1,.sl Y0 a2.2.1,.sl (.sl (.int .i64)) a2.2.2])] [.sl (.pair (.int .i64) (.int .i64)) a,.sl (.pair (.int .i64) (.int .i64)) b,.bp 1000 0] [(1000,.box 103 [.sl (.sl (.pair (.int .i64) .bool)) a2.1,.sl Y0 a2.2.1,.sl (.sl (.int .i64)) a2.2.2])] (.int .i64 r):=by
 unfold delay_offer_cheapest_2 at h
 refine zH Try.func130 [.tmp 5] 13 ?_
 refine zo ?_
 refine zB [(0,.sl (.pair (.int .i64) (.int .i64)) a),(1,.sl (.pair (.int .i64) (.int .i64)) b),(2,.bp 1000 0)] [(1000,.box 103 [.sl (.sl (.pair (.int .i64) .bool)) a2.1,.sl Y0 a2.2.1,.sl (.sl (.int .i64)) a2.2.2])] ?_
 refine AW.seq ?_
 refine AW.draw tab_ok mixed_ok [] [] (by decide) (by kernel_rfl) ?_
 as_aux_lemma =>
  refine adops_cut 2 (fun K' hK1=>?_)
  try dsimp only [List.drop_succ_cons,List.drop_zero,List.take_succ_cons,List.take_zero]
  simp only [go_sem]
  repeat with_reducible refine zN ?_
  refine hK1 _ ?_
  as_aux_lemma =>
   obtain ⟨v0,hv2,h⟩:=Option.bind_eq_some_iff.1 h
   refine adops.call (by first|trivial|rfl) rfl rfl rfl (fun _ h=>h) [] [] (hc_delay_offer_cost a2 a hv2) rfl (by (simp only [go_sem])<;>(with_reducible and_intros)<;>first|assumption|rfl|omega|(unfold maxLen; omega)) (by (simp only [go_sem])<;>(with_reducible and_intros)<;>first|assumption|rfl|omega|(unfold maxLen; omega)) rfl ?_
   refine adops_cut 2 (fun K' hK3=>?_)
   try dsimp only [List.drop_succ_cons,List.drop_zero,List.take_succ_cons,List.take_zero]
   simp only [go_sem]
   repeat with_reducible refine zN ?_
   refine hK3 _ ?_
   as_aux_lemma =>
    obtain ⟨v0_2,hv4,h⟩:=Option.bind_eq_some_iff.1 h
    refine adops.call (by first|trivial|rfl) rfl rfl rfl (fun _ h=>h) [] [] (hc_delay_offer_cost a2 b hv4) rfl (by (simp only [go_sem])<;>(with_reducible and_intros)<;>first|assumption|rfl|omega|(unfold maxLen; omega)) (by (simp only [go_sem])<;>(with_reducible and_intros)<;>first|assumption|rfl|omega|(unfold maxLen; omega)) rfl ?_
    obtain ⟨v0_3,hv5,h⟩:=Option.bind_eq_some_iff.1 h
    refine adops.call (by first|trivial|rfl) rfl rfl rfl (fun _ h=>h) [] [] (hc_cmp_Compare v0 v0_2 hv5) rfl (by (simp only [go_sem])<;>(with_reducible and_intros)<;>first|assumption|rfl|omega|(unfold maxLen; omega)) (by (simp only [go_sem])<;>(with_reducible and_intros)<;>first|assumption|rfl|omega|(unfold maxLen; omega)) rfl ?_
    refine adops_cut 1 (fun K' hK6=>?_)
    try dsimp only [List.drop_succ_cons,List.drop_zero,List.take_succ_cons,List.take_zero]
    simp only [go_sem]
    repeat with_reducible refine zN ?_
    refine hK6 _ ?_
    refine adops_nil ?_
    refine athen_n ?_
    refine zV [(5,.int .i64 v0_3)] [(1000,.box 103 [.sl (.sl (.pair (.int .i64) .bool)) a2.1,.sl Y0 a2.2.1,.sl (.sl (.int .i64)) a2.2.2])] gt ?_
    as_aux_lemma =>
     refine AW.ret ?_
     obtain rfl:=Option.some.inj h
     exact zR [] [] []
theorem hc_slices_MinFunc (x0:List (List (Int×Int))) (c0:(List (List (Int×Bool)))×(List (Int×Int×Int))×(List (List Int))) {r:(List (Int×Int))} (h:slices_MinFunc x0 c0=some r):HC Try.prog 129 [(1000,.box 103 [.sl (.sl (.pair (.int .i64) .bool)) c0.1,.sl Y0 c0.2.1,.sl (.sl (.int .i64)) c0.2.2])] [.sl (.sl (.pair (.int .i64) (.int .i64))) x0,.fn (.func 130) [] [.bp 1000 0]] [(1000,.box 103 [.sl (.sl (.pair (.int .i64) .bool)) c0.1,.sl Y0 c0.2.1,.sl (.sl (.int .i64)) c0.2.2])] (.sl (.pair (.int .i64) (.int .i64)) r):=by
 unfold slices_MinFunc at h
 refine zH Try.func129 [.tmp 4] 33 ?_
 refine zo ?_
 refine zB [(0,.sl (.sl (.pair (.int .i64) (.int .i64))) x0),(1,.fn (.func 130) [] [.bp 1000 0])] [(1000,.box 103 [.sl (.sl (.pair (.int .i64) .bool)) c0.1,.sl Y0 c0.2.1,.sl (.sl (.int .i64)) c0.2.2])] ?_
 refine AW.seq ?_
 refine zo ?_
 refine zB [(0,.sl (.sl (.pair (.int .i64) (.int .i64))) x0),(1,.fn (.func 130) [] [.bp 1000 0]),(9,.bool (decide ((x0.length:Int)<1)))] [(1000,.box 103 [.sl (.sl (.pair (.int .i64) .bool)) c0.1,.sl Y0 c0.2.1,.sl (.sl (.int .i64)) c0.2.2])] ?_
 refine zQ h (fun hb1 h=>?_) (fun hb1 h=>?_)
 ·refine AW.ops ?_
  cases h
 ·refine zk ?_
  refine zo ?_
  obtain ⟨c2,h⟩:=ck_some.1 h
  refine zB [(0,.sl (.sl (.pair (.int .i64) (.int .i64))) x0),(1,.fn (.func 130) [] [.bp 1000 0]),(5,.sl (.pair (.int .i64) (.int .i64)) (x0.getD 0 []))] [(1000,.box 103 [.sl (.sl (.pair (.int .i64) .bool)) c0.1,.sl Y0 c0.2.1,.sl (.sl (.int .i64)) c0.2.2])] ?_
  refine AW.have1 (fun b1:(List (Int×Int))=>slices_MinFunc_k1 b1=some r) (fun b1=>⟨fr [(5,.sl (.pair (.int .i64) (.int .i64)) b1)],hpGet [(1000,.box 103 [.sl (.sl (.pair (.int .i64) .bool)) c0.1,.sl Y0 c0.2.1,.sl (.sl (.int .i64)) c0.2.2])],gt⟩) (fun b1 h=>?_) (fun hk_slices_MinFunc_k1=>?_)
  ·as_aux_lemma =>
    unfold slices_MinFunc_k1 at h
    refine zo ?_
    refine zB [(4,.sl (.pair (.int .i64) (.int .i64)) b1)] [(1000,.box 103 [.sl (.sl (.pair (.int .i64) .bool)) c0.1,.sl Y0 c0.2.1,.sl (.sl (.int .i64)) c0.2.2])] ?_
    refine AW.ret ?_
    obtain rfl:=Option.some.inj h
    exact zR [] [] []
  ·refine AW.seq ?_
   refine zo ?_
   refine zB [(0,.sl (.sl (.pair (.int .i64) (.int .i64))) x0),(1,.fn (.func 130) [] [.bp 1000 0]),(5,.sl (.pair (.int .i64) (.int .i64)) (x0.getD 0 [])),(6,.int .i64 1)] [(1000,.box 103 [.sl (.sl (.pair (.int .i64) .bool)) c0.1,.sl Y0 c0.2.1,.sl (.sl (.int .i64)) c0.2.2])] ?_
   refine AW.block ?_
   obtain ⟨rv7,hw3,ho4⟩:=Option.bind_eq_some_iff.1 h
   refine AW.loopO (slices_MinFunc_b1 x0 c0) (fun st1=>⟨fr [(0,.sl (.sl (.pair (.int .i64) (.int .i64))) x0),(1,.fn (.func 130) [] [.bp 1000 0]),(5,.sl (.pair (.int .i64) (.int .i64)) st1.1),(6,.int .i64 st1.2)],hpGet [(1000,.box 103 [.sl (.sl (.pair (.int .i64) .bool)) c0.1,.sl Y0 c0.2.1,.sl (.sl (.int .i64)) c0.2.2])],gt⟩) ((x0.getD 0 []),1) hw3 (zL [] [] []) ?_
   as_aux_lemma =>
    intro st1 x6 h hd5
    unfold slices_MinFunc_b1 at h
    refine AW.seq ?_
    refine zo ?_
    refine zB [(0,.sl (.sl (.pair (.int .i64) (.int .i64))) x0),(1,.fn (.func 130) [] [.bp 1000 0]),(5,.sl (.pair (.int .i64) (.int .i64)) st1.1),(6,.int .i64 st1.2),(17,.bool (decide (st1.2<(x0.length:Int))))] [(1000,.box 103 [.sl (.sl (.pair (.int .i64) .bool)) c0.1,.sl Y0 c0.2.1,.sl (.sl (.int .i64)) c0.2.2])] ?_
    refine zQ h (fun hb8 h=>?_) (fun hb8 h=>?_)
    ·refine zk ?_
     refine AW.seq ?_
     refine AW.block ?_
     refine zo ?_
     obtain ⟨c9,h⟩:=ck_some.1 h
     obtain ⟨c10,h⟩:=ck_some.1 h
     refine zS 5 [(0,.sl (.sl (.pair (.int .i64) (.int .i64))) x0),(1,.fn (.func 130) [] [.bp 1000 0]),(5,.sl (.pair (.int .i64) (.int .i64)) st1.1),(6,.int .i64 st1.2),(20,.fn (.func 130) [] [.bp 1000 0]),(24,.sl (.pair (.int .i64) (.int .i64)) (x0.getD st1.2.toNat []))] [(1000,.box 103 [.sl (.sl (.pair (.int .i64) .bool)) c0.1,.sl Y0 c0.2.1,.sl (.sl (.int .i64)) c0.2.2])] ?_
     refine zS 1 [(0,.sl (.sl (.pair (.int .i64) (.int .i64))) x0),(1,.fn (.func 130) [] [.bp 1000 0]),(5,.sl (.pair (.int .i64) (.int .i64)) st1.1),(6,.int .i64 st1.2),(20,.fn (.func 130) [] [.bp 1000 0]),(24,.sl (.pair (.int .i64) (.int .i64)) (x0.getD st1.2.toNat [])),(25,.sl (.pair (.int .i64) (.int .i64)) st1.1)] [(1000,.box 103 [.sl (.sl (.pair (.int .i64) .bool)) c0.1,.sl Y0 c0.2.1,.sl (.sl (.int .i64)) c0.2.2])] ?_
     obtain ⟨v0,hv11,h⟩:=Option.bind_eq_some_iff.1 h
     refine zC [] [(1000,1000)] (hc_delay_offer_cheapest_2 (x0.getD st1.2.toNat []) st1.1 c0 hv11) [(0,.sl (.sl (.pair (.int .i64) (.int .i64))) x0),(1,.fn (.func 130) [] [.bp 1000 0]),(5,.sl (.pair (.int .i64) (.int .i64)) st1.1),(6,.int .i64 st1.2),(26,.int .i64 v0)] [(1000,.box 103 [.sl (.sl (.pair (.int .i64) .bool)) c0.1,.sl Y0 c0.2.1,.sl (.sl (.int .i64)) c0.2.2])] ?_
     refine zB [(0,.sl (.sl (.pair (.int .i64) (.int .i64))) x0),(1,.fn (.func 130) [] [.bp 1000 0]),(5,.sl (.pair (.int .i64) (.int .i64)) st1.1),(6,.int .i64 st1.2),(27,.bool (decide (v0<0)))] [(1000,.box 103 [.sl (.sl (.pair (.int .i64) .bool)) c0.1,.sl Y0 c0.2.1,.sl (.sl (.int .i64)) c0.2.2])] ?_
     refine zQ h (fun hb12 h=>?_) (fun hb12 h=>?_)
     ·refine AW.ops ?_
      obtain ⟨c13,h⟩:=ck_some.1 h
      obtain ⟨c14,h⟩:=ck_some.1 h
      refine zA [(0,.sl (.sl (.pair (.int .i64) (.int .i64))) x0),(1,.fn (.func 130) [] [.bp 1000 0]),(5,.sl (.pair (.int .i64) (.int .i64)) (x0.getD st1.2.toNat [])),(6,.int .i64 st1.2)] [(1000,.box 103 [.sl (.sl (.pair (.int .i64) .bool)) c0.1,.sl Y0 c0.2.1,.sl (.sl (.int .i64)) c0.2.2])] ?_
      refine ablock_n ?_
      refine athen_n ?_
      refine AW.ops ?_
      obtain ⟨c15,h⟩:=ck_some.1 h
      refine zA [(0,.sl (.sl (.pair (.int .i64) (.int .i64))) x0),(1,.fn (.func 130) [] [.bp 1000 0]),(5,.sl (.pair (.int .i64) (.int .i64)) (x0.getD st1.2.toNat [])),(6,.int .i64 (st1.2+1))] [(1000,.box 103 [.sl (.sl (.pair (.int .i64) .bool)) c0.1,.sl Y0 c0.2.1,.sl (.sl (.int .i64)) c0.2.2])] ?_
      obtain rfl:=Option.some.inj h
      exact ⟨_,rfl,zL [] [] []⟩
     ·refine zm ?_
      refine athen_n ?_
      refine AW.ops ?_
      obtain ⟨c16,h⟩:=ck_some.1 h
      refine zA [(0,.sl (.sl (.pair (.int .i64) (.int .i64))) x0),(1,.fn (.func 130) [] [.bp 1000 0]),(5,.sl (.pair (.int .i64) (.int .i64)) st1.1),(6,.int .i64 (st1.2+1))] [(1000,.box 103 [.sl (.sl (.pair (.int .i64) .bool)) c0.1,.sl Y0 c0.2.1,.sl (.sl (.int .i64)) c0.2.2])] ?_
      obtain rfl:=Option.some.inj h
      exact ⟨_,rfl,zL [] [] []⟩
    ·refine AW.exit ?_
     refine athen_e ?_
     obtain rfl:=Option.some.inj h
     rw [← hd5 _ rfl] at ho4
     have h:=ho4
     refine athen_e ?_
     refine ablock_s ?_
     refine athen_n ?_
     exact AW.weaken (zL [] [] []) (hk_slices_MinFunc_k1 _ h)
theorem hc_delay_offer_cheapest (o:(List (List (Int×Bool)))×(List (Int×Int×Int))×(List (List Int))) {r:(List (Int×Int))} (h:delay_offer_cheapest o=some r):HC Try.prog 91 [] [.agg [.sl (.sl (.pair (.int .i64) .bool)) o.1,.sl Y0 o.2.1,.sl (.sl (.int .i64)) o.2.2]] [] (.sl (.pair (.int .i64) (.int .i64)) r):=by
 unfold delay_offer_cheapest at h
 refine zH Try.func91 [.tmp 2] 13 ?_
 refine zo ?_
 refine zB [(1,.bp 1 0)] [(1,.box 103 [.sl (.sl (.pair (.int .i64) .bool)) o.1,.sl Y0 o.2.1,.sl (.sl (.int .i64)) o.2.2])] ?_
 refine zo ?_
 refine zS 2 [(1,.bp 1 0),(5,.sl (.sl (.pair (.int .i64) .bool)) o.1)] [(1,.box 103 [.sl (.sl (.pair (.int .i64) .bool)) o.1,.sl Y0 o.2.1,.sl (.sl (.int .i64)) o.2.2])] ?_
 obtain ⟨v0,hv1,h⟩:=Option.bind_eq_some_iff.1 h
 refine zC [] [] (hc_delay_accesses_fences o.1 hv1) [(1,.bp 1 0),(6,.own 16000)] [(1,.box 103 [.sl (.sl (.pair (.int .i64) .bool)) o.1,.sl Y0 o.2.1,.sl (.sl (.int .i64)) o.2.2]),(16000,.arr 110 (.pair (.int .i64) (.int .i64)) v0)] ?_
 obtain ⟨v0_2,hv2,h⟩:=Option.bind_eq_some_iff.1 h
 refine zC [16000] [] (hc_delay_choices fuel v0 hv2) [(1,.bp 1 0),(7,.own 17000)] [(1,.box 103 [.sl (.sl (.pair (.int .i64) .bool)) o.1,.sl Y0 o.2.1,.sl (.sl (.int .i64)) o.2.2]),(17000,.arr 42 (.sl (.pair (.int .i64) (.int .i64))) v0_2)] ?_
 refine zS 1 [(1,.bp 1 0),(7,.own 17000),(8,.fn (.func 128) [] [.bp 1 0])] [(1,.box 103 [.sl (.sl (.pair (.int .i64) .bool)) o.1,.sl Y0 o.2.1,.sl (.sl (.int .i64)) o.2.2]),(17000,.arr 42 (.sl (.pair (.int .i64) (.int .i64))) v0_2)] ?_
 obtain ⟨v0_3,hv3,h⟩:=Option.bind_eq_some_iff.1 h
 refine zC [] [(1000,17000),(1001,1)] (hc_slices_DeleteFunc_4 v0_2 o hv3) [(1,.bp 1 0),(9,.own 19000)] [(1,.box 103 [.sl (.sl (.pair (.int .i64) .bool)) o.1,.sl Y0 o.2.1,.sl (.sl (.int .i64)) o.2.2]),(19000,.arr 42 (.sl (.pair (.int .i64) (.int .i64))) v0_3)] ?_
 refine zB [(1,.bp 1 0),(3,.own 19000)] [(1,.box 103 [.sl (.sl (.pair (.int .i64) .bool)) o.1,.sl Y0 o.2.1,.sl (.sl (.int .i64)) o.2.2]),(19000,.arr 42 (.sl (.pair (.int .i64) (.int .i64))) v0_3)] ?_
 refine zo ?_
 refine zS 2 [(10,.own 19000),(11,.fn (.func 130) [] [.bp 1 0])] [(1,.box 103 [.sl (.sl (.pair (.int .i64) .bool)) o.1,.sl Y0 o.2.1,.sl (.sl (.int .i64)) o.2.2]),(19000,.arr 42 (.sl (.pair (.int .i64) (.int .i64))) v0_3)] ?_
 obtain ⟨v0_4,hv4,h⟩:=Option.bind_eq_some_iff.1 h
 refine zC [19000] [(1000,1)] (hc_slices_MinFunc v0_3 o hv4) [(12,.sl (.pair (.int .i64) (.int .i64)) v0_4)] [] ?_
 refine zB [(2,.sl (.pair (.int .i64) (.int .i64)) v0_4)] [] ?_
 refine AW.ret ?_
 obtain rfl:=Option.some.inj h
 exact zR [] [] []
theorem hc_delay_Cheapest (x0:List (List (Int×Bool))) (costs:List (List Int)) {r:(List (Int×Int))×Int} (h:delay_Cheapest x0 costs=some r):HC Try.prog 40 [] [.sl (.sl (.pair (.int .i64) .bool)) x0,.sl (.sl (.int .i64)) costs] [] (.tup [.sl (.pair (.int .i64) (.int .i64)) r.1,.int .i64 r.2]):=by
 unfold delay_Cheapest at h
 refine zH Try.func40 [.tmp 4,.tmp 5] 19 ?_
 refine zo ?_
 refine zB [(0,.sl (.sl (.pair (.int .i64) .bool)) x0),(1,.sl (.sl (.int .i64)) costs)] [] ?_
 refine zo ?_
 refine zS 2 [(9,.sl (.sl (.pair (.int .i64) .bool)) x0),(10,.sl (.sl (.int .i64)) costs)] [] ?_
 obtain ⟨v0,hv1,h⟩:=Option.bind_eq_some_iff.1 h
 refine zC [] [] (hc_delay_offerOf x0 costs hv1) [(11,.tup [.agg [.sl (.sl (.pair (.int .i64) .bool)) v0.1,.own 21000,.sl (.sl (.int .i64)) v0.2.2.1],.int .i64 v0.2.2.2])] [(21000,.arr 35 Y0 v0.2.1)] ?_
 refine AO.weaken (s':=⟨fr [(11,.tup [.agg [.sl (.sl (.pair (.int .i64) .bool)) v0.1,.sl Y0 v0.2.1,.sl (.sl (.int .i64)) v0.2.2.1],.int .i64 v0.2.2.2])],hpGet [],gt⟩) (zL [21000] [] []) ?_
 refine zS 5 [(6,.bp 6 0),(13,.int .i64 v0.2.2.2)] [(6,.box 103 [.sl (.sl (.pair (.int .i64) .bool)) v0.1,.sl Y0 v0.2.1,.sl (.sl (.int .i64)) v0.2.2.1])] ?_
 refine zB [(6,.bp 6 0),(7,.int .i64 v0.2.2.2)] [(6,.box 103 [.sl (.sl (.pair (.int .i64) .bool)) v0.1,.sl Y0 v0.2.1,.sl (.sl (.int .i64)) v0.2.2.1])] ?_
 refine AW.seq ?_
 refine zo ?_
 refine zB [(6,.bp 6 0),(7,.int .i64 v0.2.2.2),(15,.bool (!(decide (v0.2.2.2=0))))] [(6,.box 103 [.sl (.sl (.pair (.int .i64) .bool)) v0.1,.sl Y0 v0.2.1,.sl (.sl (.int .i64)) v0.2.2.1])] ?_
 refine zQ h (fun hb2 h=>?_) (fun hb2 h=>?_)
 ·refine zo ?_
  refine zB [(4,.cv (.slice none 0 0)),(5,.int .i64 v0.2.2.2)] [] ?_
  refine zr ?_
  obtain rfl:=Option.some.inj h
  exact zR [] [] []
 ·refine zk ?_
  refine zo ?_
  refine zS 1 [(17,.agg [.sl (.sl (.pair (.int .i64) .bool)) v0.1,.sl Y0 v0.2.1,.sl (.sl (.int .i64)) v0.2.2.1])] [] ?_
  obtain ⟨v0_2,hv3,h⟩:=Option.bind_eq_some_iff.1 h
  refine zC [] [] (hc_delay_offer_cheapest (v0.1,v0.2.1,v0.2.2.1) hv3) [(18,.sl (.pair (.int .i64) (.int .i64)) v0_2)] [] ?_
  refine zB [(4,.sl (.pair (.int .i64) (.int .i64)) v0_2),(5,.int .i64 0)] [] ?_
  refine AW.ret ?_
  obtain rfl:=Option.some.inj h
  exact zR [] [] []
theorem hc_linealref09_priced (x0:List (List (Int×Bool))) (costs:List (List Int)) {r:Int} (h:linealref09_priced x0 costs=some r):HC Try.prog 92 [] [.sl (.sl (.pair (.int .i64) .bool)) x0,.sl (.sl (.int .i64)) costs] [] (.int .i64 r):=by
 unfold linealref09_priced at h
 refine zH Try.func92 [.tmp 4] 12 ?_
 refine zo ?_
 refine zB [(0,.sl (.sl (.pair (.int .i64) .bool)) x0),(1,.sl (.sl (.int .i64)) costs)] [] ?_
 refine AW.seq ?_
 refine zo ?_
 refine zS 1 [(0,.sl (.sl (.pair (.int .i64) .bool)) x0),(1,.sl (.sl (.int .i64)) costs),(5,.sl (.sl (.pair (.int .i64) .bool)) x0)] [] ?_
 obtain ⟨v0,hv1,h⟩:=Option.bind_eq_some_iff.1 h
 refine zC [] [] (hc_linealref09_Valid x0 hv1) [(0,.sl (.sl (.pair (.int .i64) .bool)) x0),(1,.sl (.sl (.int .i64)) costs),(6,.bool v0)] [] ?_
 refine zB [(0,.sl (.sl (.pair (.int .i64) .bool)) x0),(1,.sl (.sl (.int .i64)) costs),(7,.bool (!v0))] [] ?_
 refine zQ h (fun hb2 h=>?_) (fun hb2 h=>?_)
 ·refine zo ?_
  refine zB [(4,.int .i64 90)] [] ?_
  refine zr ?_
  obtain rfl:=Option.some.inj h
  exact zR [] [] []
 ·refine zk ?_
  refine AW.seq ?_
  refine zo ?_
  refine zS 2 [(8,.sl (.sl (.pair (.int .i64) .bool)) x0),(9,.sl (.sl (.int .i64)) costs)] [] ?_
  obtain ⟨v0_2,hv3,h⟩:=Option.bind_eq_some_iff.1 h
  refine zC [] [] (hc_linealref09_AreCosts x0 costs hv3) [(10,.bool v0_2)] [] ?_
  refine zB [(11,.bool (!v0_2))] [] ?_
  refine zQ h (fun hb4 h=>?_) (fun hb4 h=>?_)
  ·refine zo ?_
   refine zB [(4,.int .i64 2)] [] ?_
   refine zr ?_
   obtain rfl:=Option.some.inj h
   exact zR [] [] []
  ·refine zk ?_
   refine zo ?_
   refine zB [(4,.int .i64 0)] [] ?_
   refine AW.ret ?_
   obtain rfl:=Option.some.inj h
   exact zR [] [] []
theorem hc_linealref09_AllFences (x0:List (List (Int×Bool))) {r:(List (Int×Int))} (h:linealref09_AllFences x0=some r):HC Try.prog 59 [] [.sl (.sl (.pair (.int .i64) .bool)) x0] [(2000,.arr 110 (.pair (.int .i64) (.int .i64)) r)] (.own 2000):=by
 unfold linealref09_AllFences at h
 refine zH Try.func59 [.tmp 2] 30 ?_
 refine zo ?_
 refine zB [(0,.sl (.sl (.pair (.int .i64) .bool)) x0)] [] ?_
 refine zo ?_
 refine zB [(0,.sl (.sl (.pair (.int .i64) .bool)) x0),(3,.cv (.slice none 0 0))] [] ?_
 refine AW.have1 (fun b2_2:(List (Int×Int))=>linealref09_AllFences_k1 b2_2=some r) (fun b2_2=>⟨fr [(3,.own 26)],hpGet [(26,.arr 110 (.pair (.int .i64) (.int .i64)) b2_2)],gt⟩) (fun b2_2 h=>?_) (fun hk_linealref09_AllFences_k1=>?_)
 ·as_aux_lemma =>
   unfold linealref09_AllFences_k1 at h
   refine zo ?_
   refine zB [(2,.own 26)] [(26,.arr 110 (.pair (.int .i64) (.int .i64)) b2_2)] ?_
   refine AW.ret ?_
   obtain rfl:=Option.some.inj h
   exact zR [] [] [(2000,26)]
 ·refine AW.seq ?_
  refine zo ?_
  refine zB [(3,.cv (.slice none 0 0)),(7,.sl (.sl (.pair (.int .i64) .bool)) x0),(8,.int .i64 (x0.length:Int)),(9,.int .i64 0)] [] ?_
  refine AW.block ?_
  obtain ⟨rv5,hw1,ho2⟩:=Option.bind_eq_some_iff.1 h
  refine AW.loopO (linealref09_AllFences_b1 x0) (fun st1=>⟨fr [(3,.own 26),(7,.sl (.sl (.pair (.int .i64) .bool)) x0),(8,.int .i64 (x0.length:Int)),(9,.int .i64 st1.2)],hpGet [(26,.arr 110 (.pair (.int .i64) (.int .i64)) st1.1)],gt⟩) ([],0) hw1 (zL [] [26] []) ?_
  as_aux_lemma =>
   intro st1 x4 h hd3
   unfold linealref09_AllFences_b1 at h
   refine zo ?_
   refine zB [(3,.own 26),(7,.sl (.sl (.pair (.int .i64) .bool)) x0),(8,.int .i64 (x0.length:Int)),(9,.int .i64 st1.2),(10,.bool (decide (st1.2<(x0.length:Int))))] [(26,.arr 110 (.pair (.int .i64) (.int .i64)) st1.1)] ?_
   refine AW.seq ?_
   refine zQ h (fun hb6 h=>?_) (fun hb6 h=>?_)
   ·refine zk ?_
    refine AW.have1 (fun b2:(List (Int×Int))=>linealref09_AllFences_k2 st1 b2=some x4) (fun b2=>⟨fr [(3,.own 26),(7,.sl (.sl (.pair (.int .i64) .bool)) x0),(8,.int .i64 (x0.length:Int)),(9,.int .i64 st1.2)],hpGet [(26,.arr 110 (.pair (.int .i64) (.int .i64)) b2)],gt⟩) (fun b2 h=>?_) (fun hk_linealref09_AllFences_k2=>?_)
    ·as_aux_lemma =>
      unfold linealref09_AllFences_k2 at h
      refine AW.ops ?_
      obtain ⟨c7,h⟩:=ck_some.1 h
      refine zA [(3,.own 26),(7,.sl (.sl (.pair (.int .i64) .bool)) x0),(8,.int .i64 (x0.length:Int)),(9,.int .i64 (st1.2+1))] [(26,.arr 110 (.pair (.int .i64) (.int .i64)) b2)] ?_
      obtain rfl:=Option.some.inj h
      exact ⟨_,rfl,zL [] [] []⟩
    ·refine AW.seq ?_
     refine AW.block ?_
     refine zo ?_
     obtain ⟨c8,h⟩:=ck_some.1 h
     obtain ⟨c9,h⟩:=ck_some.1 h
     refine zB [(3,.own 26),(4,.int .i64 st1.2),(5,.sl (.pair (.int .i64) .bool) (x0.getD st1.2.toNat [])),(7,.sl (.sl (.pair (.int .i64) .bool)) x0),(8,.int .i64 (x0.length:Int)),(9,.int .i64 st1.2)] [(26,.arr 110 (.pair (.int .i64) (.int .i64)) st1.1)] ?_
     refine zo ?_
     obtain ⟨c10,h⟩:=ck_some.1 h
     refine zB [(3,.own 26),(4,.int .i64 st1.2),(7,.sl (.sl (.pair (.int .i64) .bool)) x0),(8,.int .i64 (x0.length:Int)),(9,.int .i64 st1.2),(17,.int .i64 (max (((x0.getD st1.2.toNat []).length:Int) - 1) 0)),(18,.int .i64 0)] [(26,.arr 110 (.pair (.int .i64) (.int .i64)) st1.1)] ?_
     refine AW.block ?_
     obtain ⟨rv15,hw11,ho12⟩:=Option.bind_eq_some_iff.1 h
     refine AW.loopO (linealref09_AllFences_b2 x0 st1) (fun st2=>⟨fr [(3,.own 26),(4,.int .i64 st1.2),(7,.sl (.sl (.pair (.int .i64) .bool)) x0),(8,.int .i64 (x0.length:Int)),(9,.int .i64 st1.2),(17,.int .i64 (max (((x0.getD st1.2.toNat []).length:Int) - 1) 0)),(18,.int .i64 st2.2)],hpGet [(26,.arr 110 (.pair (.int .i64) (.int .i64)) st2.1)],gt⟩) (st1.1,0) hw11 (zL [] [] []) ?_
     as_aux_lemma =>
      intro st2 x14 h hd13
      unfold linealref09_AllFences_b2 at h
      refine zo ?_
      refine zB [(3,.own 26),(4,.int .i64 st1.2),(7,.sl (.sl (.pair (.int .i64) .bool)) x0),(8,.int .i64 (x0.length:Int)),(9,.int .i64 st1.2),(17,.int .i64 (max (((x0.getD st1.2.toNat []).length:Int) - 1) 0)),(18,.int .i64 st2.2),(19,.bool (decide (st2.2<(max (((x0.getD st1.2.toNat []).length:Int) - 1) 0))))] [(26,.arr 110 (.pair (.int .i64) (.int .i64)) st2.1)] ?_
      refine AW.seq ?_
      refine zQ h (fun hb16 h=>?_) (fun hb16 h=>?_)
      ·refine zk ?_
       refine AW.seq ?_
       refine AW.block ?_
       refine zo ?_
       refine zB [(3,.own 26),(4,.int .i64 st1.2),(6,.int .i64 st2.2),(7,.sl (.sl (.pair (.int .i64) .bool)) x0),(8,.int .i64 (x0.length:Int)),(9,.int .i64 st1.2),(17,.int .i64 (max (((x0.getD st1.2.toNat []).length:Int) - 1) 0)),(18,.int .i64 st2.2)] [(26,.arr 110 (.pair (.int .i64) (.int .i64)) st2.1)] ?_
       refine AW.ops ?_
       refine zS 5 [(4,.int .i64 st1.2),(7,.sl (.sl (.pair (.int .i64) .bool)) x0),(8,.int .i64 (x0.length:Int)),(9,.int .i64 st1.2),(17,.int .i64 (max (((x0.getD st1.2.toNat []).length:Int) - 1) 0)),(18,.int .i64 st2.2),(21,.own 26),(25,.own 25)] [(25,.arr 110 (.pair (.int .i64) (.int .i64)) [(st1.2,st2.2)]),(26,.arr 110 (.pair (.int .i64) (.int .i64)) st2.1)] ?_
       obtain ⟨c17,h⟩:=ck_some.1 h
       refine zA [(3,.own 26),(4,.int .i64 st1.2),(7,.sl (.sl (.pair (.int .i64) .bool)) x0),(8,.int .i64 (x0.length:Int)),(9,.int .i64 st1.2),(17,.int .i64 (max (((x0.getD st1.2.toNat []).length:Int) - 1) 0)),(18,.int .i64 st2.2)] [(26,.arr 110 (.pair (.int .i64) (.int .i64)) (st2.1++[(st1.2,st2.2)]))] ?_
       refine ablock_n ?_
       refine athen_n ?_
       refine AW.ops ?_
       obtain ⟨c18,h⟩:=ck_some.1 h
       refine zA [(3,.own 26),(4,.int .i64 st1.2),(7,.sl (.sl (.pair (.int .i64) .bool)) x0),(8,.int .i64 (x0.length:Int)),(9,.int .i64 st1.2),(17,.int .i64 (max (((x0.getD st1.2.toNat []).length:Int) - 1) 0)),(18,.int .i64 (st2.2+1))] [(26,.arr 110 (.pair (.int .i64) (.int .i64)) (st2.1++[(st1.2,st2.2)]))] ?_
       obtain rfl:=Option.some.inj h
       exact ⟨_,rfl,zL [] [] []⟩
      ·refine AW.exit ?_
       refine athen_e ?_
       obtain rfl:=Option.some.inj h
       rw [← hd13 _ rfl] at ho12
       have h:=ho12
       refine athen_e ?_
       refine ablock_s ?_
       refine ablock_n ?_
       refine athen_n ?_
       exact AW.weaken (zL [] [] []) (hk_linealref09_AllFences_k2 _ h)
   ·refine AW.exit ?_
    refine athen_e ?_
    obtain rfl:=Option.some.inj h
    rw [← hd3 _ rfl] at ho2
    have h:=ho2
    refine athen_e ?_
    refine ablock_s ?_
    refine athen_n ?_
    exact AW.weaken (zL [] [] []) (hk_linealref09_AllFences_k1 _ h)
end Go.Proofs.Ytdicomoggfhbfaa
